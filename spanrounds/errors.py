"""The errors of the package. Each one takes a message."""


class SpanError(ValueError):
    """Any error that the package raises on purpose."""


class InvalidRow(SpanError):
    """A value is not a row."""


class InvalidPlace(SpanError):
    """A value is not a place of the row."""


class InvalidRounds(SpanError):
    """A value is not a number of rounds."""


class InvalidSize(SpanError):
    """A value is not a number of entries."""


class NotAlike(SpanError):
    """Two rows have different lengths."""


class NotSpans(SpanError):
    """A value is not a span row."""


class InvalidBrackets(SpanError):
    """A value is not the brackets of a span row."""


class InvalidNumber(SpanError):
    """Nothing has this number."""


class NotStill(SpanError):
    """A row is not still."""


class InvalidOrder(SpanError):
    """A value is not an order."""


class InvalidBelow(SpanError):
    """A value is not a bound for the entries."""


class InvalidSign(SpanError):
    """A value is not a sign of comparison."""


class InvalidWeights(SpanError):
    """A value is not weights for the row."""


class InvalidBlocks(SpanError):
    """A value is not blocks."""


class InvalidEntry(SpanError):
    """A value is not an entry."""


class Full(SpanError):
    """A live row has no room for another entry."""


class Nothing(SpanError):
    """There is nothing to undo."""


class InvalidOperation(SpanError):
    """A value is not an operation on a live row."""


class InvalidText(SpanError):
    """A value is not the text of a row."""


class InvalidCommand(SpanError):
    """A value is not a command that can be executed now."""
