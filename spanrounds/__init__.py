"""Spanrounds: rows of numbers that are replaced by their spans."""
