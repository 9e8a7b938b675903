import PyProof.Rows.All
import Wide.All
import OpenK.AllK
import Wide.FinOn
import HandS.ForMost
import HandS.Codes
import HandS.Wide
import HandS.TupAny
import HandS.TupMul
import HandS.Style
import HandS.Conv
import HandS.IsInst
import HandS.SortInts
import HandS.Evl
import PyProof.ReprBulk
import PyProof.ReprRoads
import HandS.Defaults
import HandS.Set
import HandS.Strs
import HandS.SetFor
import HandS.GenList
import HandS.Zip
import PySem.Challenge.RW_spanrounds_k66_whole_weights_as_long_row
set_option Elab.async false
set_option linter.all false
set_option maxRecDepth 100000
namespace Sx
open PySem PySem.Spec
open PyProof.Rows L2

/-! A def's promise where nothing is being shown (no repr is under way around it). -/
section
variable (P : Program) (w : World) (K : PySem.W.Frag) (mg : Str → Option Value) (base : Heap)
structure GOk (k : Nat) (f : Addr) (fd : FuncData) (ps : List Str) (sp : Sp) : Prop where
  arity : ∀ vs H Q E, sp vs H Q E → vs.length = ps.length
  go : ∀ (A : Around) (outer : List Env) (s : Shared) (H : Hp) (args : Args) (us : List Value) (vs : List V) (Q : VK) (E : XK),
    A.guards = some [] → Room k A → Env0 P w K mg base A outer s H → BindsTo s fd args (ps.zip us) → Vals vs us → sp vs H Q E →
    codeAny (model P w) A (.call (.ref f) args) (CR CX0 outer P w H s Q E) s
/-- a def that is called by its name -/
structure GCal (k : Nat) (x : Str) (sp : Sp) : Prop where
  ex : ∃ (f : Addr) (fd : FuncData) (ps : List Str), GOk P w K mg base k f fd ps sp ∧ mg x = some (.ref f) ∧
    PySem.W.keepIn K (.ref f) = true ∧ Binds K fd ps []
end
section
variable {P : Program} {w : World} {K : PySem.W.Frag} {mg : Str → Option Value} {base : Heap}
theorem GOk.of_fn {k : Nat} {f : Addr} {fd : FuncData} {ps : List Str} {sp : Sp} (F : FnOk P w K mg base CX0 k f fd ps sp) :
    GOk P w K mg base k f fd ps sp :=
  ⟨F.len, fun A o s H args us vs Q E _ => F.run A o s H args us vs Q E⟩

/-- the rule for such a def -/
theorem g_ok {x : Str} {st : Stmt} {f : Addr} {fd : FuncData} {N ps : List Str} {k : Nat} {sp : Sp}
    (F : Fun K x x st f fd) (S : FnScope N ps (defScope st)) (ar : ∀ vs H Q E, sp vs H Q E → vs.length = ps.length)
    (hb : ∀ (cdv : Value) (A : Around) (outer : List Env) (s : Shared) (H : Hp) (vs : List V) (Q : VK) (E : XK),
      A.guards = some [] → Room k (A.deeper (envOfC x (defScope st) s.heap.objs.size f cdv)) → sp vs H Q E →
      ∃ t, PSs (cxOf CX0 P w K mg base N x (defScope st) f cdv A outer s H E).nox (defBody st) t ∧
        t { nx := fun _ H' => Q .non H', rt := Q } (start N vs) H) :
    GOk P w K mg base (k + 1) f fd ps sp := by
  obtain ⟨oc, od, kV, doc, pm, an, cdv, ct, osl, rfl, lk, hcd⟩ := F.ex
  refine ⟨ar, fun A outer s H args us vs Q E hg hr e0 hbi r hsp => ?_⟩
  have old : ∀ b o, base.get? b = some o → s.heap.get? b = some o := fun b o e => (e0.bs b o e).1
  have KX := e0.mod.kin.keeps old
  refine codeAny_call_function hr.depth (KX _ _ lk) rfl S.co S.gen rfl (PySem.W.codeRec_of KX hcd) (hbi _ _ _ _ ?_)
  refine wpAny_newFunctionEnv_cells S.kind (fun y hy => ?_) fun env he s1 z => ?_
  · obtain ⟨n, v⟩ := y
    rcases S.par n (List.of_mem_zip hy).1 with q | q
    · exact .inl q
    · exact .inr ⟨q, PySem.W.cellsFrom_some _ _ _ (.inl q)⟩
  · subst he
    refine ⟨(e0.mod.nolimit.keeps old).keeps z.toInCall.keep, codeAny_func ?_⟩
    obtain ⟨t, ht, hq⟩ := hb cdv A outer s H vs Q E hg (hr.deeper _) hsp
    have I := inv_start (CX := CX0) (E := E) S hr.hd e0 (ar _ _ _ _ hsp) r z
    refine wpAny_mono (ht.nox.run [] s1 _ H _ I hq) (fun fl s' hs => ?_) fun e s' hs => hs
    cases fl with
    | ret u =>
      obtain ⟨v, σ', H', J, rv, q⟩ := hs
      exact ⟨v, H', J.os, J.bare, J.base, J.hok, rv, q⟩
    | next =>
      obtain ⟨σ', H', J, q⟩ := hs
      exact ⟨.non, H', J.os, J.bare, J.base, J.hok, rfl, q⟩
    | brk => obtain ⟨_, _, _, q⟩ := hs; exact q.elim
    | cont => obtain ⟨_, _, _, q⟩ := hs; exact q.elim
end

section
variable {X : Cx}
theorem run_g {pins : List (Addr × Obj)} {σ : L2.St} {H : Hp} {s : Shared} {Q : VK} {us : List Value} {vs : List V} {k : Nat} {f : Addr} {fd : FuncData} {ps : List Str} {sp : Sp}
    (F : GOk X.prog X.w X.K X.mg X.base k f fd ps sp) (hg : X.A.guards = some []) (hr : Room k X.A) (hb : Binds X.K fd ps [])
    (I : Inv X pins σ H s) (r : Vals vs us) (h : sp vs H Q E0) : wpAny (model X.prog X.w) X.A (call (.ref f) us) (EP X pins σ Q) X.xe s := by
  have hl : (us ++ ([] : List Value)).length = ps.length := by rw [List.append_nil, ← r.length]; exact F.arity _ _ _ _ h
  have hb' := hb s us I.kIn hl
  rw [List.append_nil] at hb'
  refine wpAny_call (codeAny_mono (F.go X.A X.stack s H ⟨us, []⟩ us vs Q E0 hg hr I.env0 hb' r h) fun res s' hq => ?_)
  match res, hq with
  | .error e, hq => exact hq.elim
  | .ok (.ret u), hq => exact I.after hq
/-- f(e, ..) -/
theorem pe_g {k j : Nat} {x : Str} {sp : Sp} {p pos : Pos} {e : Expr} {es : List Expr} {t : TA}
    (c : GCal X.prog X.w X.K X.mg X.base k x sp) (hG : X.A.guards = some []) (hr : Room j X.A) (hk : k ≤ j) (hg : Gl X x) (ha : PA X (e :: es) t)
    (hdb : (x == ("__debug__" : Str)) = false := by decide)
    (he : starEach (e :: es) X.env = (false, eval e X.env) :: starEach es X.env := by rfl)
    (hpl : (backTo pos (starEach es X.env)).any (·.1) = false := by rfl) :
    PE X (.Call (.Name x p) (e :: es) [] pos) (tCall sp [] E0 t) := by
  obtain ⟨f, fd, ps, F, hm, kp, b⟩ := c.ex
  refine ⟨fun pins s σ H Q I h => wpAny_Call_Name_kw (ld_glob I hg hm ?_ hdb)⟩
  refine PySem.W.callWith_K (h₀ := X.base) I.ok.mod.kin kp (thn (ha.run pos pins s σ H _ I h) fun us s1 ⟨vs, H1, I1, r, q⟩ => ⟨I1.kIn, ?_⟩) he hpl
  have q' : sp (vs ++ []) H1 Q E0 := q
  rw [List.append_nil] at q'
  exact run_g F hG (hr.mono hk) b I1 r q'
end

/-! ### the law's own call -/
section
variable {P : Program} {w : World} {K : PySem.W.Frag}
/-- what the abstract heap may hold ahead of the law: the script alone -/
def Lone (H : Hp) (a : Addr) : Prop := ∀ b, H b = none ∨ (b = a ∧ ∃ o xs, H b = some (.frz o (.lst xs)))
theorem law_g {mg mb : Str → Option Value} {k : Nat} {fa a : Addr} {fd : FuncData} {x : Str} {sp : Sp} {s1 : Shared} {vs : List Value} {ns : List Int}
    (KX : K.In s1.heap) (hn : s1.heap.Ns mainGlobals mg) (hb : s1.heap.Ns builtinsNs mb) (hbb : ∀ x : Str, x ≠ "__name__" → mb x = bootBuiltins x)
    (hlim : s1.heap.NoLimit) (hgen : s1.gens = #[]) (ha : s1.heap.get? a = some { cls := .type "list", data := .seq vs.toArray }) (hi : IntsAre vs ns)
    (hl : ns.length ≤ sizeLine) (hr : Room k callerA)
    (F : ∀ base : Heap, K.In base → base.Ns mainGlobals mg → GOk P w K mg base k fa fd [x] sp)
    (hbind : ∀ (s : Shared) (u : Value), BindsTo s fd ⟨[u], []⟩ [(x, u)])
    (hsp : ∀ H : Hp, Lone H a → SqL K H a (ns.map V.int) → sp [.ref a] H (fun v _ => v = .bl true) E0) :
    codeAny (model P w) callerA (.call (.ref fa) ⟨[.ref a], []⟩)
      (fun r s' => r = .ok (.ret (.bool true)) ∧ OldK s1.heap s'.heap ∧ s'.os = s1.os ∧ AllBare s'.gens) s1 := by
  have rv := vals_ints hi
  -- one abstract heap or the other
  suffices core : ∀ H : Hp, Lone H a → SqL K H a (ns.map V.int) → HOk P w H s1.heap → (H a ≠ none → K.lookup a = none) → _ by
    cases hk : K.lookup a with
    | some o =>
      have e := KX a o hk
      rw [ha] at e
      cases e
      refine core (fun _ => none) (fun _ => .inl rfl) (.inr ⟨_, vs.toArray, _, hk, rfl, rfl, rfl, ?_, by simpa using rv⟩) (fun b u z => nomatch z) fun z => (z rfl).elim
      rw [List.size_toArray, hi.length]
      exact hl
    | none =>
      refine core (fun b => if b = a then some (.frz { cls := .type "list", data := .seq vs.toArray } (.lst (ns.map V.int))) else none)
        (fun b => ?_) (.inl (.inr ⟨_, if_pos rfl⟩)) (fun b u z => ?_) fun _ => hk
      · by_cases h : b = a
        · exact .inr ⟨h, _, _, if_pos h⟩
        · exact .inl (if_neg h)
      · by_cases h : b = a
        · subst h
          cases (if_pos rfl).symm.trans z
          exact ⟨ha, by rw [List.length_map]; exact hl, vs, _, rv, ha⟩
        · exact nomatch (if_neg h).symm.trans z
  intro H hO hS hok hK
  have free : ∀ {b : Addr} {o : Obj}, s1.heap.get? b = some o → b ≠ a → H b = none := fun {b o} _ hne => by
    rcases hO b with z | ⟨z, _⟩
    · exact z
    · exact (hne z).elim
  have nsK : ∀ {b : Addr} {m : Str → Option Value}, s1.heap.Ns b m → (hidT s1.heap H).Ns b m := fun {b m} ⟨o, es, ep, e, d, r⟩ => by
    refine ⟨o, es, ep, hidT_get e (free e fun z => ?_), d, r⟩
    subst z
    rw [ha] at e
    cases e
    exact nomatch d
  have hKb : K.In (hidT s1.heap H) := fun b o e => hidT_get (KX b o e) (by
    cases q : H b with
    | none => rfl
    | some u =>
      rcases hO b with z | ⟨z, _⟩
      · rw [q] at z; cases z
      · subst z
        rw [hK (by rw [q]; simp)] at e
        cases e)
  have hM : Mod K mg (hidT s1.heap H) := ⟨hKb, nsK hn, ⟨mb, nsK hb, hbb⟩, let ⟨mc, h1, h2⟩ := hlim; ⟨mc, nsK h1, h2⟩⟩
  have e0 : Env0 P w K mg (hidT s1.heap H) callerA [] s1 H :=
    ⟨rfl, hM, fun b o e => of_hidT e, Nat.le_of_eq (hidT_size _ _), trivial, fun b h => (List.not_mem_nil h).elim, hok, .of_eq hgen⟩
  refine codeAny_mono ((F _ hKb (nsK hn)).go callerA [] s1 H _ [.ref a] [.ref a] _ _ rfl hr e0 (hbind s1 _) (.cons rfl .nil) (hsp H hO hS)) fun r s' h => ?_
  match r, h with
  | .error e, h => exact h.elim
  | .ok (.ret u), ⟨v, H', os, bare, un, hok', r', q⟩ =>
    have q' : v = .bl true := q
    subst q'
    obtain rfl : u = Value.bool true := r'
    refine ⟨rfl, OldK.of_keep fun b o e => ?_, os, bare⟩
    rcases hO b with z | ⟨z, ob, xs, z2⟩
    · exact un.keep b o e z (fun y => (List.not_mem_nil y).elim) (by simp)
    · obtain ⟨e1, _⟩ := hok b _ z2
      obtain ⟨e2, _⟩ := hok' b _ (un.frzs b ob _ z2)
      rw [e] at e1
      cases e1
      exact e2
/-- the goal that the head leaves -/
theorem walk_g {l : PySem.W.OpenLaw} {n k : Nat} {q : Program} {loose : List Str} {XP : (Str → Option Value) → Heap → Prop} {YP : World → Heap → Prop} {d : DefRec}
    {K : Params → PySem.W.Frag} {sp : PySem.W.Frag → Sp} {x : Str} (hn : l.most = some n) (hn2 : n ≤ sizeLine) (hdf : d.params.defaults = []) (hr : Room k callerA)
    (hY : ∀ (w : World) (h : Heap), YP w h → (K w.params).In h)
    (F : ∀ (w : World) (mg : Str → Option Value) (fa : Addr) (h : Heap), (K w.params).In h → h.Ns mainGlobals mg → mg d.name = some (.ref fa) →
      ∃ fd : FuncData, (∀ (s : Shared) (u : Value), BindsTo s fd ⟨[u], []⟩ [(x, u)]) ∧
        ∀ base : Heap, (K w.params).In base → base.Ns mainGlobals mg → GOk l.prog w (K w.params) mg base k fa fd [x] (sp (K w.params)))
    (hsp : ∀ (K : PySem.W.Frag) (H : Hp) (a : Addr) (ns : List Int), ns.length ≤ n → Lone H a → SqL K H a (ns.map V.int) → sp K [.ref a] H (fun v _ => v = .bl true) E0) :
    PySem.W.WalkO q loose XP YP l.row.toRowW d [] (fun f vs => PySem.call f vs) := by
  refine Att.attach_call hn hdf fun w s0 s1 mg mb fa o pm cd doc a vs ns G Y ho hd hcd hmg hobj hints hlen hg => ?_
  have KX := hY w _ Y
  obtain ⟨fd, hb, hF⟩ := F w mg fa _ KX G.T.g hmg
  exact law_g KX G.T.g G.T.b G.T.builtins G.T.nolimit hg hobj hints (Nat.le_trans hlen hn2) hr hF hb fun H hO hS => hsp _ H a ns hlen hO hS
end
end Sx

set_option Elab.async false
set_option linter.all false
set_option maxRecDepth 100000
namespace Sx
open PySem PySem.Spec
open PyProof.Rows L2

/-! ### further rules -/
def CPowW (i j : Int) : Prop := 0 ≤ j ∧ j ≤ 64 ∧ i.natAbs < 2 ^ 4000
section
variable {X : Cx}
theorem op_powW : OpR X (binaryOp .Pow) (rI CPowW fun i j => .int (i ^ j.toNat)) := opI fun i j _ _ _ _ _ hc q => by
  refine pow_int hc.1 ?_ q
  have hb : Builtin.Int.intBits i ≤ 4000 := by
    unfold Builtin.Int.intBits
    split
    · exact Nat.zero_le _
    · rename_i h
      have h0 : i.natAbs ≠ 0 := fun e => h (by rw [Int.natAbs_eq_zero.mp e]; rfl)
      exact (Nat.log2_lt h0).mpr hc.2.2
  have h1 : (Builtin.Int.intBits i : Int) * j ≤ 4000 * 64 :=
    Int.mul_le_mul (by omega) hc.2.1 hc.1 (by omega)
  exact Int.le_trans h1 (by decide)

/-- sum of a list or of a tuple of ints -/
def rSumA (K : PySem.W.Frag) : List V → Hp → VK → Prop := fun vs H Q =>
  ∃ (a : Addr) (ns : List Int), vs = [V.ref a] ∧ (SqL K H a (ns.map V.int) ∨ SqT K H a (ns.map V.int)) ∧ Q (.int ns.sum) H
theorem cr_sumA (hc : X.calm = true) : CallR X (.builtin "sum") (rSumA X.K) := by
  intro pins s σ H vs us Q I r h
  obtain ⟨a, ns, rfl, hs | hs, q⟩ := h
  · exact cr_sum hc pins s σ H _ us Q I r ⟨a, ns, rfl, hs, q⟩
  · obtain ⟨its, rv, hl, _⟩ := I.tuple hs
    rw [Vals.ref1 r]
    obtain ⟨xs, e⟩ := rv.ints.allInts.items
    have hn : numsOf (intItems xs).toList = ns := by rw [← e]; exact rv.ints.numsOf
    rw [nums_intItems] at hn
    rw [e] at hl
    have hlt : a < s.heap.objs.size := hl.lt
    refine call_sum_walkG (wpAny_pyIter_tuple hl ?_)
    have hne : a ≠ s.heap.objs.size := Nat.ne_of_lt hlt
    refine ⟨_, _, _, _, _, _, numAt xs, rfl, Walks.tuple (A := X.A.in1) (I.ok.hd hc) _ a hne (intItems xs),
      ⟨⟨_, Heap.get?_push_size _ rfl, rfl, rfl⟩, hl.keeps fun b o e => Heap.get?_push_of_some _ e⟩, fun b hb => ?_, (fun _ _ => intItems_at), fun h' tk t' hk => ?_⟩
    · show b < (s.heap.push _).objs.size
      rw [Heap.size_push]
      simp only [List.mem_cons, List.not_mem_nil, or_false] at hb
      rcases hb with e | e
      · rw [e]; exact Nat.lt_succ_self _
      · rw [e]; exact Nat.lt_succ_of_lt hlt
    · have e3 : preSum (numAt xs) (intItems xs).size = ns.sum := by
        have e2 : (intItems xs).size = xs.size := by simp [intItems]
        rw [e2, preSum_eq, List.take_of_length_le (by simp), hn]
      rw [e3]
      refine ⟨.int _, H, I.kept (fun b o eo => hk b o (fun hm => ?_) (Heap.get?_push_of_some _ eo)), ⟨t', rfl⟩, q⟩
      have z := Heap.lt_size eo
      rw [List.mem_singleton] at hm
      rw [hm] at z
      exact Nat.lt_irrefl _ z

mutual
theorem Dp.noDict {K : PySem.W.Frag} {H : Hp} : ∀ {v : V} {d : PyData}, Dp K H v d → d.hasDict = false
  | _, _, .non => by simp only [PyData.hasDict]
  | _, _, .bl _ => by simp only [PyData.hasDict]
  | _, _, .int _ => by simp only [PyData.hasDict]
  | _, _, .str _ => by simp only [PyData.hasDict]
  | _, _, .lst _ h => by simp only [PyData.hasDict]; exact DpAll.noDict h
  | _, _, .tup _ h => by simp only [PyData.hasDict]; exact DpAll.noDict h
theorem DpAll.noDict {K : PySem.W.Frag} {H : Hp} : ∀ {vs : List V} {ds : List PyData}, DpAll K H vs ds → PyData.hasDictAll ds = false
  | _, _, .nil => by simp only [PyData.hasDictAll]
  | _, _, .cons h t => by simp only [PyData.hasDictAll, Dp.noDict h, DpAll.noDict t, Bool.or_self]
end
/-- what may be shown -/
structure Shw (d : PyData) : Prop where
  ok : d.showable = true
  deep : d.depth ≤ 100
  size : d.shown.length ≤ sizeLine
/-- repr of data -/
def rReprD (K : PySem.W.Frag) : List V → Hp → VK → Prop := fun vs H Q =>
  ∃ v d, vs = [v] ∧ Dp K H v d ∧ Shw d ∧ Q (.str d.shown) H
theorem call_reprD {k : Nat} (hG : X.A.guards = some []) (hr : Room k X.A) : CallR X (.builtin "repr") (rReprD X.K) := by
  intro pins s σ H vs us Q I r h
  obtain ⟨v, d, rfl, hd, ⟨hs, hdp, hz⟩, q⟩ := h
  have hun := hr.un
  cases r with
  | cons ru rr =>
    cases rr
    rename_i u
    have big : ∀ (a : Addr), v = .ref a → d.hasDict = false → (∃ as, Reads s.heap (.ref a) d as) →
        wpAny (model X.prog X.w) X.A (call (.builtin "repr") [.ref a]) (EP X pins σ Q) X.xe s := by
      intro a _ hdi ⟨as, rd⟩
      exact repr_of_reads' rd hs (PyData.noDict_hsm hdi) hG (by omega) (fun _ _ e => e)
        (fun h' u tk hk => ⟨.str _, H, I.kept hk, ⟨_, rfl⟩, q⟩) hz
    cases hd with
    | non => cases (show u = Value.none from ru); exact PySem.P.repr_of_none ⟨.str _, H, I.tok _, ⟨_, rfl⟩, q⟩
    | bl b => cases (show u = Value.bool b from ru); exact PySem.P.repr_of_bool ⟨.str _, H, I.tok _, ⟨_, rfl⟩, q⟩
    | int i =>
      obtain ⟨t, e⟩ := (show ∃ t, u = Value.int i t from ru)
      cases e
      exact PySem.P.repr_of_int (by simpa [PyData.showable] using hs) ⟨.str _, H, I.tok _, ⟨_, rfl⟩, q⟩
    | str x =>
      obtain ⟨t, e⟩ := (show ∃ t, u = Value.str x t from ru)
      cases e
      exact PySem.P.repr_of_str ⟨.str _, H, I.tok _, ⟨_, rfl⟩, q⟩ hz
    | @lst a xs ds hl ha =>
      cases (show u = Value.ref a from ru)
      exact big a rfl (Sx.Dp.noDict (.lst hl ha)) (L2.Dp.reads I _ _ _ (.lst hl ha) rfl)
    | @tup a xs ds hl ha =>
      cases (show u = Value.ref a from ru)
      exact big a rfl (Sx.Dp.noDict (.tup hl ha)) (L2.Dp.reads I _ _ _ (.tup hl ha) rfl)
end
end Sx

set_option Elab.async false
set_option linter.all false
namespace Sx
/-! ### rows of spans: the plain facts -/
def g (xs : List Int) (i : Nat) : Int := xs.getD i 0
/-- the first place that a place covers -/
def fc (xs : List Int) (i : Nat) : Int := (i : Int) - g xs i + 1
structure Lam (xs : List Int) : Prop where
  lo : ∀ p, p < xs.length → 1 ≤ g xs p
  hi : ∀ p, p < xs.length → g xs p ≤ (p : Int) + 1
  nest : ∀ p j : Nat, p < xs.length → fc xs p ≤ (j : Int) → j < p → fc xs p ≤ fc xs j
theorem g_get {xs : List Int} {i : Nat} (h : i < xs.length) : xs[i]? = some (g xs i) := by
  unfold g
  rw [List.getD_eq_getElem?_getD, List.getElem?_eq_getElem h]
  rfl
/-- the first place behind that covers p -/
def parGo (xs : List Int) (p : Nat) : Nat → Nat → Option Nat
  | 0, _ => none
  | k + 1, b => if fc xs b ≤ (p : Int) then some b else parGo xs p k (b + 1)
def par (xs : List Int) (p : Nat) : Option Nat := parGo xs p (xs.length - (p + 1)) (p + 1)
theorem parGo_some {xs : List Int} {p : Nat} : ∀ {k b c : Nat}, parGo xs p k b = some c → b ≤ c ∧ c < b + k ∧ fc xs c ≤ (p : Int) ∧ ∀ j, b ≤ j → j < c → (p : Int) < fc xs j
  | 0, _, _, h => nomatch h
  | k + 1, b, c, h => by
    unfold parGo at h
    by_cases q : fc xs b ≤ (p : Int)
    · rw [if_pos q] at h
      cases h
      exact ⟨Nat.le_refl _, by omega, q, fun j h1 h2 => by omega⟩
    · rw [if_neg q] at h
      obtain ⟨h1, h2, h3, h4⟩ := parGo_some h
      refine ⟨by omega, by omega, h3, fun j h5 h6 => ?_⟩
      by_cases e : j = b
      · subst e; omega
      · exact h4 j (by omega) h6
theorem parGo_none {xs : List Int} {p : Nat} : ∀ {k b : Nat}, parGo xs p k b = none → ∀ j, b ≤ j → j < b + k → (p : Int) < fc xs j
  | 0, _, _, j, h1, h2 => by omega
  | k + 1, b, h, j, h1, h2 => by
    unfold parGo at h
    by_cases q : fc xs b ≤ (p : Int)
    · rw [if_pos q] at h
      cases h
    · rw [if_neg q] at h
      by_cases e : j = b
      · subst e; omega
      · exact parGo_none h j (by omega) (by omega)
theorem par_some {xs : List Int} {p c : Nat} : par xs p = some c ↔ p < c ∧ c < xs.length ∧ fc xs c ≤ (p : Int) ∧ ∀ j, p < j → j < c → (p : Int) < fc xs j := by
  constructor
  · intro h
    obtain ⟨h1, h2, h3, h4⟩ := parGo_some h
    exact ⟨by omega, by omega, h3, fun j h5 h6 => h4 j (by omega) h6⟩
  · rintro ⟨h1, h2, h3, h4⟩
    cases e : par xs p with
    | none =>
      have := parGo_none e c (by omega) (by omega)
      omega
    | some d =>
      obtain ⟨g1, g2, g3, g4⟩ := parGo_some e
      rcases Nat.lt_trichotomy c d with h | h | h
      · have := g4 c (by omega) h; omega
      · rw [h]
      · have := h4 d (by omega) h; omega
theorem par_none {xs : List Int} {p : Nat} : par xs p = none ↔ ∀ j, p < j → j < xs.length → (p : Int) < fc xs j := by
  constructor
  · intro h j h1 h2
    exact parGo_none h j (by omega) (by omega)
  · intro h
    cases e : par xs p with
    | none => rfl
    | some c =>
      obtain ⟨h1, h2, h3, _⟩ := par_some.mp e
      have := h c h1 h2
      omega

/-- from the back: p, the place in front of those that p covers, and so on down to first -/
def unc (xs : List Int) (first : Int) : Nat → Int → List Int
  | 0, _ => []
  | k + 1, p => if first ≤ p then unc xs first k (fc xs p.toNat - 1) ++ [p] else []
theorem unc_mem {xs : List Int} (L : Lam xs) {first : Int} (h0 : 0 ≤ first) : ∀ (k : Nat) (p : Int), p < (k : Int) → -1 ≤ p → p < xs.length →
    ∀ c : Int, c ∈ unc xs first k p ↔ first ≤ c ∧ c ≤ p ∧ ∀ j : Nat, c < (j : Int) → (j : Int) ≤ p → c < fc xs j
  | 0, p, h1, h2, h3, c => by
    constructor
    · intro h; exact nomatch h
    · rintro ⟨a, b, _⟩; omega
  | k + 1, p, h1, h2, h3, c => by
    unfold unc
    by_cases q : first ≤ p
    · rw [if_pos q]
      have hp : (p.toNat : Int) = p := by omega
      have hl : p.toNat < xs.length := by omega
      have a1 := L.lo _ hl
      have a2 := L.hi _ hl
      have e : fc xs p.toNat = p - g xs p.toNat + 1 := by unfold fc; omega
      have ih := unc_mem L h0 k (fc xs p.toNat - 1) (by omega) (by omega) (by omega) c
      rw [List.mem_append, List.mem_singleton, ih]
      constructor
      · rintro (⟨b1, b2, b3⟩ | b)
        · refine ⟨b1, by omega, fun j j1 j2 => ?_⟩
          by_cases hj : (j : Int) ≤ fc xs p.toNat - 1
          · exact b3 j j1 hj
          · by_cases he : j = p.toNat
            · subst he; omega
            · have := L.nest p.toNat j hl (by omega) (by omega)
              omega
        · subst b
          exact ⟨q, Int.le_refl _, fun j j1 j2 => by omega⟩
      · rintro ⟨b1, b2, b3⟩
        by_cases he : c = p
        · exact .inr he
        · refine .inl ⟨b1, ?_, fun j j1 j2 => b3 j j1 (by omega)⟩
          have := b3 p.toNat (by omega) (by omega)
          omega
    · rw [if_neg q]
      constructor
      · intro h; exact nomatch h
      · rintro ⟨a, b, _⟩; omega
theorem unc_lt {xs : List Int} (L : Lam xs) {first : Int} (h0 : 0 ≤ first) : ∀ (k : Nat) (p : Int), p < (k : Int) → -1 ≤ p → p < xs.length → (unc xs first k p).Pairwise (· < ·)
  | 0, p, h1, h2, h3 => .nil
  | k + 1, p, h1, h2, h3 => by
    unfold unc
    by_cases q : first ≤ p
    · rw [if_pos q]
      have hl : p.toNat < xs.length := by omega
      have a1 := L.lo _ hl
      have a2 := L.hi _ hl
      have e : fc xs p.toNat = p - g xs p.toNat + 1 := by unfold fc; omega
      refine List.pairwise_append.mpr ⟨unc_lt L h0 k _ (by omega) (by omega) (by omega), List.pairwise_singleton _ _, fun a ha b hb => ?_⟩
      rw [List.mem_singleton] at hb
      have := (unc_mem L h0 k _ (by omega) (by omega) (by omega) a).mp ha
      omega
    · rw [if_neg q]
      exact .nil
theorem sorted_ext : ∀ {l m : List Int}, l.Pairwise (· < ·) → m.Pairwise (· < ·) → (∀ c, c ∈ l ↔ c ∈ m) → l = m
  | [], [], _, _, _ => rfl
  | [], b :: m, _, _, h => nomatch (h b).mpr (List.mem_cons_self ..)
  | a :: l, [], _, _, h => nomatch (h a).mp (List.mem_cons_self ..)
  | a :: l, b :: m, h1, h2, h => by
    rw [List.pairwise_cons] at h1 h2
    have e : a = b := by
      rcases List.mem_cons.mp ((h a).mp (List.mem_cons_self ..)) with e | e
      · exact e
      · rcases List.mem_cons.mp ((h b).mpr (List.mem_cons_self ..)) with e' | e'
        · exact e'.symm
        · have := h1.1 b e'; have := h2.1 a e; omega
    subst e
    have : l = m := sorted_ext h1.2 h2.2 fun c => by
      have hc := h c
      rw [List.mem_cons, List.mem_cons] at hc
      constructor
      · intro hm
        rcases hc.mp (.inr hm) with e | e
        · subst e; have := h1.1 c hm; omega
        · exact e
      · intro hm
        rcases hc.mpr (.inr hm) with e | e
        · subst e; have := h2.1 c hm; omega
        · exact e
    rw [this]
/-- the places of 0 .. n - 1 with a property, as ints -/
def sel (n : Nat) (f : Nat → Bool) : List Int := ((List.range n).filter f).map Int.ofNat
theorem sel_lt (n : Nat) (f : Nat → Bool) : (sel n f).Pairwise (· < ·) := by
  unfold sel
  rw [List.pairwise_map]
  refine (List.pairwise_lt_range.filter _).imp fun h => ?_
  exact Int.ofNat_lt.mpr h
theorem sel_mem {n : Nat} {f : Nat → Bool} {c : Int} : c ∈ sel n f ↔ ∃ i : Nat, c = (i : Int) ∧ i < n ∧ f i = true := by
  unfold sel
  rw [List.mem_map]
  constructor
  · rintro ⟨i, h, rfl⟩
    rw [List.mem_filter, List.mem_range] at h
    exact ⟨i, rfl, h⟩
  · rintro ⟨i, rfl, h⟩
    exact ⟨i, by rw [List.mem_filter, List.mem_range]; exact h, rfl⟩
theorem kids {xs : List Int} (L : Lam xs) {p : Nat} (hp : p < xs.length) : unc xs (fc xs p) p ((p : Int) - 1) = sel xs.length (fun c => decide (par xs c = some p)) := by
  have a1 := L.lo _ hp
  have a2 := L.hi _ hp
  have e : fc xs p = p - g xs p + 1 := rfl
  refine sorted_ext (unc_lt L (by omega) _ _ (by omega) (by omega) (by omega)) (sel_lt _ _) fun c => ?_
  rw [unc_mem L (by omega) _ _ (by omega) (by omega) (by omega), sel_mem]
  constructor
  · rintro ⟨h1, h2, h3⟩
    refine ⟨c.toNat, by omega, by omega, decide_eq_true (par_some.mpr ⟨by omega, hp, by omega, fun j j1 j2 => ?_⟩)⟩
    have := h3 j (by omega) (by omega)
    omega
  · rintro ⟨i, rfl, h1, h2⟩
    obtain ⟨b1, b2, b3, b4⟩ := par_some.mp (of_decide_eq_true h2)
    exact ⟨b3, by omega, fun j j1 j2 => b4 j (by omega) (by omega)⟩
theorem tops {xs : List Int} (L : Lam xs) : unc xs 0 xs.length ((xs.length : Int) - 1) = sel xs.length (fun c => decide (par xs c = none)) := by
  refine sorted_ext (unc_lt L (by omega) _ _ (by omega) (by omega) (by omega)) (sel_lt _ _) fun c => ?_
  rw [unc_mem L (by omega) _ _ (by omega) (by omega) (by omega), sel_mem]
  constructor
  · rintro ⟨h1, h2, h3⟩
    refine ⟨c.toNat, by omega, by omega, decide_eq_true (par_none.mpr fun j j1 j2 => ?_)⟩
    have := h3 j (by omega) (by omega)
    omega
  · rintro ⟨i, rfl, h1, h2⟩
    have b := par_none.mp (of_decide_eq_true h2)
    exact ⟨by omega, by omega, fun j j1 j2 => b j (by omega) (by omega)⟩

/-! ### a forest that grows: ts the numbers of places of the roots, from the front -/
structure Gro (xs ts : List Int) : Prop where
  lam : Lam xs
  pos : ∀ t ∈ ts, 1 ≤ t
  sum : ts.sum = xs.length
  cut : ∀ k, k ≤ ts.length → ∀ j : Nat, j < xs.length → (ts.take k).sum ≤ (j : Int) → (ts.take k).sum ≤ fc xs j
theorem Gro.nil : Gro [] [] := ⟨⟨fun p h => (Nat.not_lt_zero p h).elim, fun p h => (Nat.not_lt_zero p h).elim, fun p _ h => (Nat.not_lt_zero p h).elim⟩, fun t h => (List.not_mem_nil h).elim, rfl, fun _ _ j h => (Nat.not_lt_zero j h).elim⟩
theorem sum_nonneg : ∀ {l : List Int}, (∀ t ∈ l, 1 ≤ t) → 0 ≤ l.sum
  | [], _ => Int.le_refl _
  | a :: l, h => by
    rw [List.sum_cons]
    have h1 := h a (List.mem_cons_self ..)
    have h2 := sum_nonneg (l := l) fun t ht => h t (List.mem_cons_of_mem _ ht)
    omega
theorem len_le_sum : ∀ {l : List Int}, (∀ t ∈ l, 1 ≤ t) → (l.length : Int) ≤ l.sum
  | [], _ => Int.le_refl _
  | a :: l, h => by
    rw [List.sum_cons, List.length_cons]
    have h1 := h a (List.mem_cons_self ..)
    have h2 := len_le_sum (l := l) fun t ht => h t (List.mem_cons_of_mem _ ht)
    omega
theorem g_app {xs : List Int} {e : Int} {i : Nat} (h : i < xs.length) : g (xs ++ [e]) i = g xs i := by
  unfold g
  rw [List.getD_eq_getElem?_getD, List.getElem?_append_left h, List.getD_eq_getElem?_getD]
theorem g_last {xs : List Int} {e : Int} : g (xs ++ [e]) xs.length = e := by
  unfold g
  rw [List.getD_eq_getElem?_getD, List.getElem?_append_right (Nat.le_refl _), Nat.sub_self]
  rfl
theorem Gro.grow {xs ts : List Int} (G : Gro xs ts) {k : Nat} (hk : k ≤ ts.length) {e : Int} (he : e = 1 + (ts.drop k).sum) : Gro (xs ++ [e]) (ts.take k ++ [e]) := by
  have hd : ∀ t ∈ ts.drop k, 1 ≤ t := fun t h => G.pos t (List.mem_of_mem_drop h)
  have ht : ∀ t ∈ ts.take k, 1 ≤ t := fun t h => G.pos t (List.mem_of_mem_take h)
  have n1 := sum_nonneg hd
  have n2 := sum_nonneg ht
  have hs : (ts.take k).sum + (ts.drop k).sum = xs.length := by
    rw [← List.sum_append, List.take_append_drop]; exact G.sum
  have hfe : fc (xs ++ [e]) xs.length = (ts.take k).sum := by
    unfold fc
    rw [g_last]
    omega
  have hfc : ∀ j : Nat, j < xs.length → fc (xs ++ [e]) j = fc xs j := fun j h => by unfold fc; rw [g_app h]
  have hlen : (xs ++ [e]).length = xs.length + 1 := by rw [List.length_append]; rfl
  refine ⟨⟨fun p hp => ?_, fun p hp => ?_, fun p j hp h1 h2 => ?_⟩, fun t h => ?_, ?_, fun m hm j hj h => ?_⟩
  · by_cases h : p < xs.length
    · rw [g_app h]; exact G.lam.lo p h
    · have e1 : p = xs.length := by omega
      subst e1
      rw [g_last]; omega
  · by_cases h : p < xs.length
    · rw [g_app h]; exact G.lam.hi p h
    · have e1 : p = xs.length := by omega
      subst e1
      rw [g_last]; omega
  · by_cases h : p < xs.length
    · rw [hfc p h] at h1 ⊢
      rw [hfc j (by omega)]
      exact G.lam.nest p j h h1 h2
    · have e1 : p = xs.length := by omega
      subst e1
      rw [hfe] at h1 ⊢
      rw [hfc j h2]
      exact G.cut k hk j h2 h1
  · rcases List.mem_append.mp h with h | h
    · exact ht t h
    · rw [List.mem_singleton] at h; omega
  · rw [List.sum_append, hlen]
    show (ts.take k).sum + (e + 0) = _
    omega
  · have hl : (ts.take k).length = k := by rw [List.length_take]; omega
    rw [List.length_append, hl] at hm
    by_cases hm' : m ≤ k
    · have e1 : (ts.take k ++ [e]).take m = ts.take m := by
        rw [List.take_append_of_le_length (by omega), List.take_take, Nat.min_eq_left hm']
      rw [e1] at h ⊢
      by_cases hj' : j < xs.length
      · rw [hfc j hj']
        exact G.cut m (by omega) j hj' h
      · have e2 : j = xs.length := by omega
        subst e2
        rw [hfe]
        have e3 : ts.take k = ts.take m ++ (ts.take k).drop m := by
          have := List.take_append_drop m (ts.take k)
          rw [List.take_take, Nat.min_eq_left hm'] at this
          exact this.symm
        have n3 := sum_nonneg (l := (ts.take k).drop m) fun t h => ht t (List.mem_of_mem_drop h)
        rw [e3, List.sum_append]
        omega
    · have e1 : (ts.take k ++ [e]).take m = ts.take k ++ [e] := List.take_of_length_le (by rw [List.length_append, hl]; simp only [List.length_cons, List.length_nil]; omega)
      rw [e1, List.sum_append] at h
      have : ([e] : List Int).sum = e := by show e + 0 = e; omega
      omega
theorem Gro.len {xs ts : List Int} (G : Gro xs ts) : ts.length ≤ xs.length := by
  have := len_le_sum G.pos
  have := G.sum
  omega
end Sx

set_option Elab.async false
set_option linter.all false
set_option maxRecDepth 100000
namespace Sx
open PySem PySem.Spec
open PyProof.Rows L2
/-- a def of the module under its name, with all its parameters given -/
structure DefAt (K : PySem.W.Frag) (mg : Str → Option Value) (x : Str) (st : Stmt) (ps : List Str) (f : Addr) (fd : FuncData) : Prop where
  fn : L2.Fun K x x st f fd
  at_ : mg x = some (.ref f)
  bi : Binds K fd ps []
section
variable {P : Program} {w : World} {K : PySem.W.Frag} {mg : Str → Option Value} {base : Heap} {x : Str} {st : Stmt} {N ps : List Str} {f : Addr} {fd : FuncData} {k : Nat} {sp : Sp}
theorem DefAt.cal (D : DefAt K mg x st ps f fd) (S : FnScope N ps (defScope st)) (ar : ∀ vs H Q E, sp vs H Q E → vs.length = ps.length)
    (hb : ∀ (cdv : Value) (A : Around) (outer : List Env) (s : Shared) (H : Hp) (vs : List V) (Q : VK) (E : XK),
      Room k (A.deeper (envOfC x (defScope st) s.heap.objs.size f cdv)) → sp vs H Q E →
      ∃ t, PSs (cxOf CX0 P w K mg base N x (defScope st) f cdv A outer s H E).nox (defBody st) t ∧
        t { nx := fun _ H' => Q .non H', rt := Q } (start N vs) H) : C8.Cal P w K mg base (k + 1) x sp [] :=
  ⟨f, fd, ps, [], D.fn.ok S ar hb, D.at_, D.fn.kp, D.bi, .nil⟩
theorem DefAt.gcal (D : DefAt K mg x st ps f fd) (S : FnScope N ps (defScope st)) (ar : ∀ vs H Q E, sp vs H Q E → vs.length = ps.length)
    (hb : ∀ (cdv : Value) (A : Around) (outer : List Env) (s : Shared) (H : Hp) (vs : List V) (Q : VK) (E : XK),
      A.guards = some [] → Room k (A.deeper (envOfC x (defScope st) s.heap.objs.size f cdv)) → sp vs H Q E →
      ∃ t, PSs (cxOf CX0 P w K mg base N x (defScope st) f cdv A outer s H E).nox (defBody st) t ∧
        t { nx := fun _ H' => Q .non H', rt := Q } (start N vs) H) : GCal P w K mg base (k + 1) x sp :=
  ⟨f, fd, ps, g_ok D.fn S ar hb, D.at_, D.fn.kp, D.bi⟩
end

abbrev Ex := Evl.Ex
/-- all but one list stays -/
def ExB (t : Addr) (H H' : Hp) : Prop := ∀ b o, b ≠ t → H b = some o → H' b = some o
theorem ExB.refl (t : Addr) (H : Hp) : ExB t H H := fun _ _ _ h => h
theorem ExB.of {t : Addr} {H H' : Hp} (e : Ex H H') : ExB t H H' := fun b o _ h => e b o h
theorem ExB.trans {t : Addr} {H H1 H2 : Hp} (a : ExB t H H1) (b : ExB t H1 H2) : ExB t H H2 := fun x o n h => b x o n (a x o n h)
theorem ExB.upd {t : Addr} {H : Hp} {o : HO} : ExB t H (upd H t o) := fun b u n h => by rw [upd_ne n]; exact h
theorem ExB.tup {K : PySem.W.Frag} {t a : Addr} {H H' : Hp} {xs ys : List V} (e : ExB t H H') (ht : H t = some (.lst ys)) (h : SqT K H a xs) : SqT K H' a xs := by
  rcases h with (h | ⟨o, h⟩) | h
  · exact .inl (.inl (e _ _ (ne_of h ht (by intro z; cases z)) h))
  · exact .inl (.inr ⟨o, e _ _ (ne_of h ht (by intro z; cases z)) h⟩)
  · exact .inr h
theorem atN {xs : List Int} {i : Nat} (h : i < xs.length) : atI (xs.map V.int) ((i : Nat) : Int) = some (.int (g xs i)) :=
  atI_nat (by rw [List.getElem?_map, g_get h]; rfl)
theorem atN' {xs : List Int} {i : Int} (h0 : 0 ≤ i) (h : i < xs.length) : atI (xs.map V.int) i = some (.int (g xs i.toNat)) := by
  have e : ((i.toNat : Nat) : Int) = i := by omega
  have := atN (xs := xs) (i := i.toNat) (by omega)
  rw [e] at this
  exact this
end Sx

set_option Elab.async false
set_option linter.all false
set_option maxRecDepth 100000
namespace Sx
open PySem PySem.Spec
open PyProof.Rows L2
/-! ### flat data and what is shown of it -/
def Fl (d : PyData) : Prop := d = .none ∨ ∃ i : Int, d = .int i ∧ i.natAbs.log2 < 1900
theorem Fl.all : ∀ {ds : List PyData}, (∀ d ∈ ds, Fl d) → PyData.showableAll ds = true ∧ PyData.depthAll ds = 0 ∧ PyData.leavesShortAll 1921 ds = true ∧ PyData.bulkAll ds = ds.length
  | [], _ => by simp [PyData.showableAll, PyData.depthAll, PyData.leavesShortAll, PyData.bulkAll]
  | d :: ds, h => by
    obtain ⟨h1, h2, h3, h4⟩ := Fl.all (ds := ds) fun e he => h e (List.mem_cons_of_mem _ he)
    rcases h d (List.mem_cons_self ..) with e | ⟨i, e, hi⟩
    · subst e
      simp [PyData.showableAll, PyData.depthAll, PyData.leavesShortAll, PyData.bulkAll, PyData.showable, PyData.depth, PyData.leavesShort, PyData.bulk, h1, h2, h3, h4]
      omega
    · subst e
      have hl : (PyData.shown (.int i)).length ≤ 1921 := int_text_len_1921 (by omega)
      have hl' : (Str.ofString (toString i)).length ≤ 1921 := hl
      simp [PyData.showableAll, PyData.depthAll, PyData.leavesShortAll, PyData.bulkAll, PyData.showable, PyData.depth, PyData.leavesShort, PyData.bulk, h1, h2, h3, h4, hl']
      omega
section
variable {K : PySem.W.Frag} {H : Hp} {p : Addr} {xs : List V} {ds : List PyData} {Q : VK}
theorem shw_l (hf : ∀ d ∈ ds, Fl d) (hn : ds.length ≤ 8000) : Shw (.list ds) := by
  obtain ⟨h1, h2, h3, h4⟩ := Fl.all hf
  refine ⟨by simp [PyData.showable, h1], by simp [PyData.depth, h2], ?_⟩
  have := PyData.shown_le_bulk 1921 (by decide) (.list ds) (by simp [PyData.leavesShort, h3])
  have e : (PyData.list ds).bulk = ds.length := by simp [PyData.bulk, h4]
  rw [e] at this
  exact Nat.le_trans this (Nat.le_trans (show _ ≤ 16000000 by omega) (by decide))
theorem shw_t (hf : ∀ d ∈ ds, Fl d) (hn : ds.length ≤ 8000) : Shw (.tuple ds) := by
  obtain ⟨h1, h2, h3, h4⟩ := Fl.all hf
  refine ⟨by simp [PyData.showable, h1], by simp [PyData.depth, h2], ?_⟩
  have := PyData.shown_le_bulk 1921 (by decide) (.tuple ds) (by simp [PyData.leavesShort, h3])
  have e : (PyData.tuple ds).bulk = ds.length := by simp [PyData.bulk, h4]
  rw [e] at this
  exact Nat.le_trans this (Nat.le_trans (show _ ≤ 16000000 by omega) (by decide))
theorem dp_ints : ∀ ns : List Int, DpAll K H (ns.map V.int) (ns.map PyData.int)
  | [] => .nil
  | n :: ns => .cons (.int n) (dp_ints ns)
theorem fl_ints {ns : List Int} (h : ∀ n ∈ ns, n.natAbs.log2 < 1900) : ∀ d ∈ ns.map PyData.int, Fl d := fun d hd => by
  obtain ⟨n, hn, rfl⟩ := List.mem_map.mp hd
  exact .inr ⟨n, rfl, h n hn⟩
theorem small_log {n : Int} (h0 : -1000000 ≤ n) (h : n ≤ 1000000) : n.natAbs.log2 < 1900 := by
  have := PySem.Flt.log2_lt_of (n := n.natAbs) (k := 64) (by decide) (by omega)
  omega
end
/-- a comprehension over enumerate of a list that stands still -/
theorem lc_enum {K : PySem.W.Frag} {a : Addr} {xs : List V} {g : TG} {tt : TT} {te : TE} {vs : List Nat} {σ : L2.St} {H1 : Hp} {D : Addr} {Qd : Hp → Prop}
    (Pv : Nat → Hp → Prop) (h0 : Pv 0 (upd H1 D (.lst [])))
    (hl : ∀ i H, Pv i H → SqL K H a xs)
    (hs : ∀ i x T H, xs[i]? = some x → Pv i H → H T = none →
      g (.ref T) (wipe σ vs) (upd H T (.tup [.int (i : Nat), x])) fun σ2 H2 =>
        wipe σ2 vs = wipe σ vs ∧ tt σ2 H2 fun b H3 =>
          if b = true then te σ2 H3 fun y H4 =>
            ∃ acc, H4 D = some (.lst acc) ∧ acc.length < sizeLine ∧ Pv (i + 1) (upd H4 D (.lst (acc ++ [y])))
          else Pv (i + 1) H3)
    (hd : ∀ H, Pv xs.length H → Qd H) :
    ∃ W : Nat → Nat → Hp → Prop, (∃ m, W 0 m (upd H1 D (.lst []))) ∧ ∀ i m H, W i m H →
      ((Ite K a).stop i H ∧ Qd H) ∨
      ((Ite K a).go i H ∧ ∃ Nx : Hp → Prop, (∀ H', Nx H' → ∃ m', m' < m ∧ W (i + 1) m' H') ∧ ∀ x H', (Ite K a).yld i H x H' →
        g x (wipe σ vs) H' fun σ2 H2 =>
          wipe σ2 vs = wipe σ vs ∧ tt σ2 H2 fun b H3 =>
            if b = true then te σ2 H3 fun y H4 =>
              ∃ acc, H4 D = some (.lst acc) ∧ acc.length < sizeLine ∧ Nx (upd H4 D (.lst (acc ++ [y])))
            else Nx H3) := by
  refine ⟨fun i m H => i + m = xs.length ∧ Pv i H, ⟨xs.length, by omega, h0⟩, fun i m H ⟨e, p⟩ => ?_⟩
  have q := hl i H p
  by_cases hi : i < xs.length
  · refine .inr ⟨⟨xs, xs[i], q, List.getElem?_eq_getElem hi⟩, Pv (i + 1), fun H' p' => ⟨m - 1, by omega, by omega, p'⟩, ?_⟩
    rintro x H' ⟨T, y, rfl, hT, rfl, hy⟩
    exact hs i y T H (hy xs q) p hT
  · have : i = xs.length := by omega
    subst this
    exact .inl ⟨⟨xs, q, Nat.le_refl _⟩, hd H p⟩
theorem sel_zero (f : Nat → Bool) : sel 0 f = [] := rfl
theorem sel_succ (n : Nat) (f : Nat → Bool) : sel (n + 1) f = sel n f ++ (if f n = true then [(n : Int)] else []) := by
  unfold sel
  rw [List.range_succ, List.filter_append, List.map_append]
  congr 1
  by_cases h : f n = true
  · rw [if_pos h, List.filter_cons_of_pos h]; rfl
  · rw [if_neg h, List.filter_cons_of_neg h]; rfl
theorem sel_len (n : Nat) (f : Nat → Bool) : (sel n f).length ≤ n := by
  unfold sel
  rw [List.length_map]
  exact Nat.le_trans (List.length_filter_le _ _) (Nat.le_of_eq List.length_range)
theorem sel_bound {n : Nat} {f : Nat → Bool} {c : Int} (h : c ∈ sel n f) : 0 ≤ c ∧ c < n := by
  obtain ⟨i, rfl, h1, _⟩ := sel_mem.mp h
  omega
end Sx
namespace Sx
open PySem PySem.Spec
open PyProof.Rows L2
section
variable {P : Program} {w : World} {K : PySem.W.Frag} {mg : Str → Option Value} {base : Heap}
theorem tyT {K : PySem.W.Frag} {H : Hp} {a : Addr} {xs : List V} (h : SqT K H a xs) : TyX K H (.ref a) (.type "tuple") := by
  rcases h with (h | ⟨o, h⟩) | h
  · exact .base (.tup h)
  · exact .fTuple h
  · obtain ⟨o, its, n, h1, h2, _⟩ := h
    exact .kTuple h1 h2
def ov : Option Nat → V
  | none => .non
  | some i => .int i
theorem p4000 {n : Nat} (h : n < 2 ^ 200) : n < 2 ^ 4000 := Nat.lt_of_lt_of_le h (Nat.pow_le_pow_right (show 0 < 2 by decide) (show 200 ≤ 4000 by decide))
/-- the state of the draws, m: the most draws so far -/
def Tub (H : Hp) (t : Addr) (m : Int) : Prop := ∃ x0 x1 x2 : Int, H t = some (.lst [.int x0, .int x1, .int x2]) ∧ 0 ≤ x1 ∧ x1 < 10 ^ 40 ∧ 0 ≤ x2 ∧ x2 ≤ m
theorem Tub.ex {H H' : Hp} {t : Addr} {m : Int} (T : Tub H t m) (e : Ex H H') : Tub H' t m := by
  obtain ⟨x0, x1, x2, h, r⟩ := T
  exact ⟨x0, x1, x2, e _ _ h, r⟩
theorem Tub.le {H : Hp} {t : Addr} {m n : Int} (T : Tub H t m) (h : m ≤ n) : Tub H t n := by
  obtain ⟨x0, x1, x2, h1, h2, h3, h4, h5⟩ := T
  exact ⟨x0, x1, x2, h1, h2, h3, h4, by omega⟩
theorem Tub.exB {H H' : Hp} {t b : Addr} {m : Int} (T : Tub H t m) (e : ExB b H H') (n : t ≠ b) : Tub H' t m := by
  obtain ⟨x0, x1, x2, h, r⟩ := T
  exact ⟨x0, x1, x2, e _ _ n h, r⟩
theorem Tub.get {H : Hp} {t : Addr} {m : Int} (T : Tub H t m) : ∃ xs, H t = some (.lst xs) := by
  obtain ⟨x0, x1, x2, h, r⟩ := T
  exact ⟨_, h⟩
theorem cut_drop (xs : List V) (k : Nat) : cutV xs (some (k : Int)) none = xs.drop k := by
  unfold cutV
  rw [HT.sIx_nat, HT.sIx_none]
  by_cases h : k ≤ xs.length
  · rw [Nat.min_eq_left h]
    exact List.take_of_length_le (by rw [List.length_drop]; exact Nat.le_refl _)
  · rw [Nat.min_eq_right (by omega), Nat.sub_self, List.take_zero, List.drop_of_length_le (by omega)]
theorem cut_take (xs : List V) (k : Nat) : cutV xs none (some (k : Int)) = xs.take k := by
  unfold cutV
  rw [HT.sIx_nat, HT.sIx_none, List.drop_zero, Nat.sub_zero]
  by_cases h : k ≤ xs.length
  · rw [Nat.min_eq_left h]
  · rw [Nat.min_eq_right (by omega), List.take_length, List.take_of_length_le (by omega)]
theorem at3 {x y z lo hi r : Int} (r0 : 0 ≤ r) (r1 : r < 3) (hx : lo ≤ x ∧ x ≤ hi) (hy : lo ≤ y ∧ y ≤ hi) (hz : lo ≤ z ∧ z ≤ hi) :
    ∃ v : Int, atI [V.int x, V.int y, V.int z] r = some (.int v) ∧ lo ≤ v ∧ v ≤ hi := by
  rcases (show r = 0 ∨ r = 1 ∨ r = 2 by omega) with e | e | e <;> subst e
  · exact ⟨x, rfl, hx⟩
  · exact ⟨y, rfl, hy⟩
  · exact ⟨z, rfl, hz⟩
theorem at7 {x1 x2 x3 x4 x5 x6 x7 hi r : Int} (r0 : 0 ≤ r) (r1 : r < 7) (h1 : 0 ≤ x1 ∧ x1 ≤ hi) (h2 : 0 ≤ x2 ∧ x2 ≤ hi) (h3 : 0 ≤ x3 ∧ x3 ≤ hi) (h4 : 0 ≤ x4 ∧ x4 ≤ hi) (h5 : 0 ≤ x5 ∧ x5 ≤ hi) (h6 : 0 ≤ x6 ∧ x6 ≤ hi) (h7 : 0 ≤ x7 ∧ x7 ≤ hi) :
    ∃ v : Int, atI [V.int x1, V.int x2, V.int x3, V.int x4, V.int x5, V.int x6, V.int x7] r = some (.int v) ∧ 0 ≤ v ∧ v ≤ hi := by
  rcases (show r = 0 ∨ r = 1 ∨ r = 2 ∨ r = 3 ∨ r = 4 ∨ r = 5 ∨ r = 6 by omega) with e | e | e | e | e | e | e <;> subst e
  · exact ⟨x1, rfl, h1⟩
  · exact ⟨x2, rfl, h2⟩
  · exact ⟨x3, rfl, h3⟩
  · exact ⟨x4, rfl, h4⟩
  · exact ⟨x5, rfl, h5⟩
  · exact ⟨x6, rfl, h6⟩
  · exact ⟨x7, rfl, h7⟩
theorem min_in {a b lo hi : Int} (h1 : lo ≤ a) (h2 : lo ≤ b) (h : a ≤ hi) : lo ≤ (if b < a then b else a) ∧ (if b < a then b else a) ≤ hi := by
  split <;> omega
theorem p1000 {n : Int} (h : n ≤ 1000000) : n < 2 ^ 1000 := by
  refine Int.lt_of_lt_of_le (show n < 2 ^ 64 by omega) ?_
  have e1 : (2 : Int) ^ 64 = ((2 ^ 64 : Nat) : Int) := by decide
  have e2 : (2 : Int) ^ 1000 = ((2 ^ 1000 : Nat) : Int) := by norm_cast
  rw [e1, e2]
  exact Int.ofNat_le.mpr (Nat.pow_le_pow_right (by decide) (by decide))
theorem slA_drop {H : Hp} {c : Addr} {xs : List V} {k : Nat} {Q : VK} (hS : SqT K H c xs) (q : ∀ a' H', Ex H H' → SqT K H' a' (xs.drop k) → Q (.ref a') H') : rSlA K (.ref c) (some (k : Int)) none H Q := by
  refine ⟨c, xs, rfl, hS, fun hw => ?_, fun _ p hp => q p _ (Evl.Ex.new hp) (SqT.of (by rw [upd_same, cut_drop]))⟩
  have e : xs.drop k = xs := by
    have h := hw.1
    rw [HT.sIx_nat] at h
    rcases Nat.min_eq_zero_iff.mp h with e | e
    · rw [e]; rfl
    · rw [List.length_eq_zero_iff.mp e]; exact List.drop_nil
  exact q c H (Evl.Ex.refl H) (by rw [e]; exact hS)
theorem slA_take {H : Hp} {c : Addr} {xs : List V} {k : Nat} {Q : VK} (hS : SqT K H c xs) (q : ∀ a' H', Ex H H' → SqT K H' a' (xs.take k) → Q (.ref a') H') : rSlA K (.ref c) none (some (k : Int)) H Q := by
  refine ⟨c, xs, rfl, hS, fun hw => ?_, fun _ p hp => q p _ (Evl.Ex.new hp) (SqT.of (by rw [upd_same, cut_take]))⟩
  have e : xs.take k = xs := by
    have h := hw.2
    rw [HT.sIx_nat] at h
    exact List.take_of_length_le (by omega)
  exact q c H (Evl.Ex.refl H) (by rw [e]; exact hS)
theorem catA {H : Hp} {a b : Addr} {xs ys : List V} {Q : VK} (h1 : SqT K H a xs) (h2 : SqT K H b ys) (hz : xs.length + ys.length ≤ 1000) (q : ∀ p H', Ex H H' → SqT K H' p (xs ++ ys) → Q (.ref p) H') : rCatA K (.ref a) (.ref b) H Q := by
  refine ⟨a, b, xs, ys, rfl, rfl, h1, h2, Nat.le_of_lt (small1000 hz), fun e => ?_, fun _ e => ?_, fun _ _ p hp => q p _ (Evl.Ex.new hp) (SqT.of upd_same)⟩
  · subst e
    exact q b H (Evl.Ex.refl H) h2
  · subst e
    exact q a H (Evl.Ex.refl H) (by rw [List.append_nil]; exact h1)

/-- a row of n entries with its roots -/
def Node (K : PySem.W.Frag) (H : Hp) (n : Nat) (v : V) : Prop := ∃ a b c, ∃ xs ts : List Int, v = .ref a ∧ SqT K H a [.ref b, .ref c] ∧ SqT K H b (xs.map V.int) ∧ SqT K H c (ts.map V.int) ∧ Gro xs ts ∧ xs.length = n
theorem Node.ex {H H' : Hp} {n : Nat} {v : V} (e : Ex H H') (h : Node K H n v) : Node K H' n v := by
  obtain ⟨a, b, c, xs, ts, h1, h2, h3, h4, h5⟩ := h
  exact ⟨a, b, c, xs, ts, h1, Evl.ex_t e h2, Evl.ex_t e h3, Evl.ex_t e h4, h5⟩
theorem Node.exB {H H' : Hp} {n : Nat} {v : V} {t : Addr} {ys : List V} (e : ExB t H H') (ht : H t = some (.lst ys)) (h : Node K H n v) : Node K H' n v := by
  obtain ⟨a, b, c, xs, ts, h1, h2, h3, h4, h5⟩ := h
  exact ⟨a, b, c, xs, ts, h1, e.tup ht h2, e.tup ht h3, e.tup ht h4, h5⟩
/-- a row of n entries -/
def Row1 (K : PySem.W.Frag) (H : Hp) (n : Nat) (v : V) : Prop := ∃ a, ∃ xs : List Int, v = .ref a ∧ SqT K H a (xs.map V.int) ∧ Lam xs ∧ xs.length = n
theorem Row1.ex {H H' : Hp} {n : Nat} {v : V} (e : Ex H H') (h : Row1 K H n v) : Row1 K H' n v := by
  obtain ⟨a, xs, h1, h2, h3⟩ := h
  exact ⟨a, xs, h1, Evl.ex_t e h2, h3⟩
def pd : Option Nat → PyData
  | none => .none
  | some i => .int i
theorem dp_ov {H : Hp} (f : Nat → Option Nat) : ∀ l : List Nat, DpAll K H (l.map fun i => ov (f i)) (l.map fun i => pd (f i))
  | [] => .nil
  | i :: l => by
    refine .cons ?_ (dp_ov f l)
    show Dp K H (ov (f i)) (pd (f i))
    cases f i with
    | none => exact .non
    | some j => exact .int _
theorem fl_ov {xs : List Int} (hz : xs.length ≤ 100) (l : List Nat) : ∀ d ∈ l.map (fun i => pd (par xs i)), Fl d := fun d hd => by
  obtain ⟨i, _, rfl⟩ := List.mem_map.mp hd
  cases e : par xs i with
  | none => exact .inl rfl
  | some j =>
    have := (par_some.mp e).2.1
    exact .inr ⟨j, rfl, small_log (by omega) (by omega)⟩
theorem fl_sel {n : Nat} (hz : n ≤ 100) (f : Nat → Bool) : ∀ d ∈ (sel n f).map PyData.int, Fl d := fl_ints fun c hc => by
  have := sel_bound hc
  exact small_log (by omega) (by omega)
theorem ones (n : Nat) : Lam (List.replicate n 1) := by
  have hg : ∀ i, i < (List.replicate n (1 : Int)).length → g (List.replicate n 1) i = 1 := fun i h => by
    rw [List.length_replicate] at h
    unfold g
    rw [List.getD_eq_getElem?_getD, List.getElem?_replicate, if_pos h]; rfl
  refine ⟨fun p h => by rw [hg p h]; decide, fun p h => by rw [hg p h]; omega, fun p j h h1 h2 => ?_⟩
  unfold fc at h1 ⊢
  rw [hg p h] at h1 ⊢
  rw [hg j (by omega)]
  omega
def stairs (n : Nat) : List Int := (List.range n).map fun i => (1 : Int) + (i : Nat)
theorem stairs_g {n i : Nat} (h : i < n) : g (stairs n) i = 1 + i := by
  unfold g stairs
  rw [List.getD_eq_getElem?_getD, List.getElem?_map, List.getElem?_range h]; rfl
theorem stairs_len (n : Nat) : (stairs n).length = n := by unfold stairs; rw [List.length_map, List.length_range]
theorem stairs_lam (n : Nat) : Lam (stairs n) := by
  refine ⟨fun p h => ?_, fun p h => ?_, fun p j h h1 h2 => ?_⟩
  all_goals rw [stairs_len] at h
  · rw [stairs_g h]; omega
  · rw [stairs_g h]; omega
  · unfold fc
    rw [stairs_g h, stairs_g (by omega)]; omega
theorem sel_ones : (sel 100 fun c => decide (par (List.replicate 100 1) c = none)) = (List.range 100).map fun i => (0 : Int) + (i : Nat) := by decide +kernel
theorem sel_stairs : (sel 100 fun c => decide (par (stairs 100) c = none)) = [99] := by decide +kernel
end
end Sx

set_option Elab.async false
set_option linter.all false
set_option maxRecDepth 100000
namespace PySem
open Builtin
open AutoSeq1 (wpAny_loadPart')
/-! enumerate of a tuple -/
section
variable {prog : Program} {w : World} {A : Around} {E : Value → Shared → Prop} {s : Shared}
theorem sx_next_item {j u : Addr} {i : Nat} {us : Array Value} {y : Value} {Q : Value → Shared → Prop} (hj : s.heap.IsTupleIter j u i) (hu : s.heap.IsTuple u us) (hy : us[i]? = some y)
    (k : ∀ h', h'.IsTupleIter j u (i + 1) → Heap.SameBut j s.heap h' → Q y { s with heap := h' }) : wpAny (model prog w) A (Builtin.SmallTypes.nextOf (.ref j)) Q E s := by
  obtain ⟨o, ho, hc, hd⟩ := id hj
  obtain ⟨ou, hou, _, nu, hdu⟩ := hu
  unfold Builtin.SmallTypes.nextOf
  refine wpAny_bind (wpAny_callSpecial?_slot (name := Str.ofString "__next__") hj.typeIs F.slot_tuple_iterator_next (wpAny_call_entry F.slot_tuple_iterator_next hj.typeIs F.entry_tuple_iterator_next ?_ (F.args_tuple_iterator_next_1 _)))
  show wpAny _ _ (field (.ref j) 0 >>= _) _ _ s
  refine wpAny_bind (wpAny_field ho hd (x := .ref u) rfl ?_)
  show wpAny _ _ (if (Value.ref u == Value.none) = true then _ else _) _ _ s
  rw [if_neg (show ¬ ((Value.ref u == Value.none) = true) from Bool.false_ne_true)]
  show wpAny _ _ (field (.ref j) 1 >>= _) _ _ s
  refine wpAny_bind (wpAny_field ho hd (x := .int i 0) rfl (show wpAny _ _ (seqItems? (.ref u) >>= _) _ _ s from wpAny_bind (wpAny_seqItems hou hdu ?_)))
  simp only [Int.toNat_natCast, hy]
  refine wpAny_bind (wpAny_setField ho hd (by simp) (wpAny_pure ⟨y, rfl, wpAny_pure (k _ ⟨_, Heap.get?_update_self _ ho (Obj.isFreed_of_fields (Obj.data_mapFields hd _)), (Obj.cls_mapFields ..).trans hc, ?_⟩ (Heap.SameBut.update ..))⟩))
  rw [Obj.data_mapFields hd]
  simp [rawInt]
theorem sx_next_end {j u : Addr} {i : Nat} {us : Array Value} {Q : Value → Shared → Prop} (hh : A.handled = none) (hj : s.heap.IsTupleIter j u i) (hu : s.heap.IsTuple u us) (hy : us[i]? = none)
    (k : ∀ h' e, Heap.ExtBut j s.heap h' → (∃ o, h'.get? e = some o ∧ o.cls = .type "StopIteration") → E (.ref e) { s with heap := h' }) : wpAny (model prog w) A (Builtin.SmallTypes.nextOf (.ref j)) Q E s := by
  obtain ⟨o, ho, hc, hd⟩ := id hj
  obtain ⟨ou, hou, _, nu, hdu⟩ := hu
  unfold Builtin.SmallTypes.nextOf
  refine wpAny_bind (wpAny_callSpecial?_slot (name := Str.ofString "__next__") hj.typeIs F.slot_tuple_iterator_next (wpAny_call_entry F.slot_tuple_iterator_next hj.typeIs F.entry_tuple_iterator_next ?_ (F.args_tuple_iterator_next_1 _)))
  show wpAny _ _ (field (.ref j) 0 >>= _) _ _ s
  refine wpAny_bind (wpAny_field ho hd (x := .ref u) rfl ?_)
  show wpAny _ _ (if (Value.ref u == Value.none) = true then _ else _) _ _ s
  rw [if_neg (show ¬ ((Value.ref u == Value.none) = true) from Bool.false_ne_true)]
  show wpAny _ _ (field (.ref j) 1 >>= _) _ _ s
  refine wpAny_bind (wpAny_field ho hd (x := .int i 0) rfl (show wpAny _ _ (seqItems? (.ref u) >>= _) _ _ s from wpAny_bind (wpAny_seqItems hou hdu ?_)))
  simp only [Int.toNat_natCast, hy]
  refine wpAny_bind (wpAny_rule (wpAny_bind (wpAny_setField ho hd (by simp) (show wpAny _ _ (newExc (.type "StopIteration") [] >>= _) _ _ _ from wpAny_bind ?_))))
  simp only [newExc, newTuple]
  refine wpAny_bind (wpAny_newObj_type (wpAny_bind (m := firstArgMember _ _) (wpAny_of_eq (a := Value.none) (by first | rfl | (simp only [firstArgMember]; rfl)) (wpAny_newObj_type ?_ (by size_fits)))) (by size_fits))
  simp only [raiseNew]
  refine wpAny_bind (wpAny_handled ?_)
  first | rw [show A.in1.handled = none from hh] | rw [hh]
  exact wpAny_bind (wpAny_pure (wpAny_throw (k _ _ (((Heap.SameBut.update ..).extBut.push _).push _) ⟨_, Heap.get?_push_size _ rfl, rfl⟩)))
theorem sx_draws (hh : A.handled = none) (j u : Addr) (hne : u ≠ j) (us : Array Value) :
    Draws prog w A j [j, u] us.size (fun i v => us[i]? = some v) (fun i h => h.IsTupleIter j u i ∧ h.IsTuple u us) where
  live := fun _ _ st => by
    obtain ⟨o, ho, _⟩ := st.1
    exact ⟨o, ho⟩
  frame := fun _ _ _ st hk => ⟨st.1.at fun o e => hk j (List.mem_cons_self ..) o e, st.2.at fun o e => hk u (List.mem_cons_of_mem _ (List.mem_cons_self ..)) o e⟩
  item := fun i s Q E hi st hQ => sx_next_item st.1 st.2 (y := us[i]) (Array.getElem?_eq_getElem hi) fun h' hit' hs' => hQ _ h' s.toks (Array.getElem?_eq_getElem hi) ⟨hit', st.2.extBut hs'.extBut hne⟩ hs'
  done := fun s Q E st hE => sx_next_end hh st.1 st.2 (by simp) hE
theorem sx_enum_new (u : Addr) (us : Array Value) (n : Nat) (dct : Option Addr) (sl : Array (Option Value)) :
    Meets (Builtin.«enumerate.__new__» ⟨[.type "enumerate", .ref u], []⟩) (fun _ R s => s.heap.get? u = some { cls := .type "tuple", dict := dct, data := .seq us n, slots := sl } ∧
      R (.ok (.ret (.ref (s.heap.push { cls := .type "tuple_iterator", data := .fields #[.ref u, .int 0 0] }).objs.size)))
        { s with heap := (s.heap.push { cls := .type "tuple_iterator", data := .fields #[.ref u, .int 0 0] }).push { cls := .type "enumerate", data := .fields #[.none, .bool false, .ref s.heap.objs.size, rawInt 0, .none, .none] } }) :=
  .of_wp fun prog w A R s h => by
    obtain ⟨hp, gg, d, tk, os⟩ := s
    obtain ⟨hl, h⟩ := h
    have hsub := sub_enumerate
    have hL : Heap.IsTuple (Shared.heap ⟨hp, gg, d, tk, os⟩) u us := ⟨_, hl, rfl, n, rfl⟩
    wp_walk using wpAny_loadPart' hl
    refine wpAny_stack_any fun st => wpAny_pure ?_
    split
    · rename_i c _ _ _ _ _
      cases (c == Value.type "enumerate") <;> (wp_walk using wpAny_loadPart' hl, wpAny_pyIter_tuple hL; exact ⟨_, rfl, h⟩)
    · wp_walk using wpAny_loadPart' hl, wpAny_pyIter_tuple hL
      exact ⟨_, rfl, h⟩
theorem sx_call_enum {u : Addr} {us : Array Value} {Q : Value → Shared → Prop} (hL : s.heap.IsTuple u us)
    (h : ∀ h', IsEnum h' (s.heap.objs.size + 1) s.heap.objs.size 0 .none → h'.IsTupleIter s.heap.objs.size u 0 → (∀ b o, s.heap.get? b = some o → h'.get? b = some o) → Q (.ref (s.heap.objs.size + 1)) { s with heap := h' }) :
    wpAny (model prog w) A (call (.type "enumerate") [.ref u]) Q E s := by
  obtain ⟨⟨c, dct, dt, sl⟩, hl, hc, n, hd⟩ := hL
  replace hc : c = .type "tuple" := hc
  replace hd : dt = .seq us n := hd
  subst hc hd
  refine callType_new F.called_enumerate (by decide) (F.typeCall_enumerate_1 _) (F.newCall_enumerate_1 _) (fun obj => F.args_object_init_2 obj _) F.entry_enumerate_new (sx_enum_new u us n dct sl) ⟨hl, ?_⟩
  have hz : (s.heap.push { cls := .type "tuple_iterator", data := .fields #[.ref u, .int 0 0] }).objs.size = s.heap.objs.size + 1 := Heap.size_push ..
  show _ ∧ _
  rw [hz]
  have he : IsEnum ((s.heap.push { cls := .type "tuple_iterator", data := .fields #[.ref u, .int 0 0] }).push { cls := .type "enumerate", data := .fields #[.none, .bool false, .ref s.heap.objs.size, rawInt 0, .none, .none] }) (s.heap.objs.size + 1) s.heap.objs.size 0 .none := by
    have z := Heap.get?_push_size (s.heap.push { cls := .type "tuple_iterator", data := .fields #[.ref u, .int 0 0] }) (o := { cls := .type "enumerate", data := .fields #[.none, .bool false, .ref s.heap.objs.size, rawInt 0, .none, .none] }) rfl
    rw [hz] at z
    exact z
  exact ⟨⟨_, he, rfl⟩, h _ he ⟨_, Heap.get?_push_of_some _ (Heap.get?_push_size _ rfl), rfl, rfl⟩ fun b o x => Heap.get?_push_of_some _ (Heap.get?_push_of_some _ x)⟩
end
end PySem
namespace Sx
open PySem PySem.Spec
open PyProof.Rows L2
/-- what enumerate of the tuple at a yields -/
def ItE (K : PySem.W.Frag) (a : Addr) : It :=
  ⟨fun i H => ∃ (xs : List V) (x : V), SqT K H a xs ∧ xs[i]? = some x,
   fun i H v H' => ∃ T x, v = .ref T ∧ H T = none ∧ H' = upd H T (.tup [.int (i : Nat), x]) ∧ ∀ xs, SqT K H a xs → xs[i]? = some x,
   fun i H => ∃ xs : List V, SqT K H a xs ∧ xs.length ≤ i⟩
theorem turn_enumT {P : Program} {w : World} {K : PySem.W.Frag} {elts : List Expr} {kk : Nat} {tpos : Pos} (a e it : Addr) :
    Turn P w K (.Tuple elts kk tpos) (ItE K a) [e, it] e (fun i h => (∃ old, IsEnum h e it ((i : Nat) : Int) old) ∧ h.IsTupleIter it a i ∧ e ≠ it) where
  mem := List.mem_cons_self ..
  obj := fun i h st b hb => by
    obtain ⟨⟨old, he⟩, ⟨o, ho, hc, hd⟩, _⟩ := st
    rcases List.mem_cons.mp hb with z | z
    · rw [z]; exact ⟨_, he, fun v q => nomatch q⟩
    · rw [List.mem_singleton.mp z]; exact ⟨o, ho, fun v q => by rw [hd] at q; cases q⟩
  keep := fun i h h' st k => by
    obtain ⟨⟨old, he⟩, hi, hne⟩ := st
    exact ⟨⟨old, k e (List.mem_cons_self ..) _ he⟩, hi.at fun o q => k it (List.mem_cons_of_mem _ (List.mem_cons_self ..)) o q, hne⟩
  item := by
    intro X hP hw hK hc i pins s σ H E I hf st hg
    subst hP hw hK
    obtain ⟨⟨old, he⟩, hit, hne⟩ := st
    obtain ⟨xs, x, hq, hx⟩ := hg
    obtain ⟨its, rv, p, hz⟩ := I.tuple hq
    obtain ⟨u, hu, ru⟩ := rv.get hx
    have hel : e < s.heap.objs.size := Heap.lt_size he
    have hil : it < s.heap.objs.size := by obtain ⟨_, q, _⟩ := hit; exact Heap.lt_size q
    have hal : a < s.heap.objs.size := p.lt
    have hi : i < its.toArray.size := by
      have := (List.getElem?_eq_some_iff.mp hu).1
      rwa [List.size_toArray]
    have hai : a ≠ it := by
      obtain ⟨o, q, c, _⟩ := hit
      obtain ⟨o', q', c', _⟩ := p
      intro z
      subst z
      rw [q] at q'
      cases q'
      rw [c] at c'
      exact absurd (Value.type.inj c') (by decide)
    have hea : e ≠ a := by
      obtain ⟨o', q', c', _⟩ := p
      intro z
      subst z
      rw [he] at q'
      cases q'
      exact absurd (Value.type.inj c') (by decide)
    have hef : e ∉ [it, a] := fun z => by
      rcases List.mem_cons.mp z with z | z
      · exact hne z
      · exact hea (List.mem_singleton.mp z)
    refine wpAny_pyNext_enum_itemD (sx_draws (A := X.A.in1) (I.ok.hd hc) it a hai its.toArray) he ⟨hit, p⟩ hi hne hef fun y h' tk hP ho hst hT hsz hk => ?_
    have ey : y = u := by
      have h1 : its.toArray[i]? = some y := hP
      rw [List.getElem?_toArray, hu] at h1
      exact (Option.some.inj h1).symm
    subst ey
    refine ⟨_, rfl, wpAny_letOwnedTupleGo_enum (s := { s with heap := h', toks := tk + 1 }) ho fun h'' he' sb => ?_⟩
    have hT2 := (sb.2 _ (Nat.ne_of_gt hel)).trans hT
    have new : ObjOk X.prog X.w (upd H s.heap.objs.size (.tup [.int (i : Nat), x])) h'' s.heap.objs.size (.tup [.int (i : Nat), x]) :=
      ⟨by show 2 ≤ sizeLine; decide, [.int i tk, y], .cons ⟨_, rfl⟩ (.cons ru .nil), ⟨_, hT2, rfl, _, rfl⟩⟩
    have I1 : Inv X pins σ (upd H s.heap.objs.size (.tup [.int (i : Nat), x])) { s with heap := h'', toks := tk + 1 } :=
      I.turnedNew (ch := [e, it]) (fun b ob hb q => (sb.2 b fun z => hb (by simp [z])).trans (hk b ob (fun z => hb (by simp [z])) (fun z => hb (by simp [z])) q)) hf (Nat.le_refl _) new
    refine ⟨.ref s.heap.objs.size, _, I1, rfl, ⟨_, x, rfl, I.hok.fresh (Nat.le_refl _), rfl, fun ys hy => ?_⟩, ⟨⟨y, ?_⟩, hst.1.at fun o q => (sb.2 it (Ne.symm hne)).trans q, hne⟩, fun b hb => ?_⟩
    · rw [I.tuple_inj hy hq]; exact hx
    · rw [show ((i + 1 : Nat) : Int) = (i : Int) + 1 by omega]
      exact he'
    · have hb' : b < s.heap.objs.size := by
        rcases List.mem_cons.mp hb with z | z
        · rw [z]; exact hel
        · rw [List.mem_singleton.mp z]; exact hil
      rw [upd_ne (Nat.ne_of_lt hb')]
      exact (hf b hb).1
  done := by
    intro X hP hw hK hc i pins s σ H E I hf st hg
    subst hP hw hK
    obtain ⟨⟨old, he⟩, hit, hne⟩ := st
    obtain ⟨xs, hq, hx⟩ := hg
    obtain ⟨its, rv, p, hz⟩ := I.tuple hq
    obtain ⟨f0, f1, f2, f3, f4, f5⟩ := hf it (List.mem_cons_of_mem _ (List.mem_cons_self ..))
    have hl := rv.length
    have hai : a ≠ it := by
      obtain ⟨o, q, c, _⟩ := hit
      obtain ⟨o', q', c', _⟩ := p
      intro z
      subst z
      rw [q] at q'
      cases q'
      rw [c] at c'
      exact absurd (Value.type.inj c') (by decide)
    have Dn : Draws X.prog X.w X.A.in1 it [it, a] i (fun _ _ => True) (fun k h => k = i ∧ h.IsTupleIter it a k ∧ h.IsTuple a its.toArray) :=
      ⟨fun _ _ st => by obtain ⟨_, ⟨o, ho, _⟩, _⟩ := st; exact ⟨o, ho⟩,
       fun _ _ _ st hk => ⟨st.1, st.2.1.at fun o e => hk it (List.mem_cons_self ..) o e, st.2.2.at fun o e => hk a (List.mem_cons_of_mem _ (List.mem_cons_self ..)) o e⟩,
       fun k s Q E hi st hQ => absurd hi (by rw [st.1]; exact Nat.lt_irrefl _),
       fun s Q E st hE => sx_next_end (I.ok.hd hc) st.2.1 st.2.2 (by simp; omega) hE⟩
    exact wpAny_pyNext_enum_endD Dn he ⟨rfl, hit, p⟩ fun h' eb => ⟨rfl, I.turned (t' := s.toks) (fun b o hb q => eb b o hb q) f0 f1 f3 f4 f5⟩
  self := fun A i s Q E st h => by
    obtain ⟨⟨_, he⟩, _⟩ := st
    exact wpAny_pyIter_enum he h
def iEnumT (K : PySem.W.Frag) (ta : TA) : TI := fun σ H R => ta σ H fun vs H1 => ∃ a xs, vs = [.ref a] ∧ SqT K H1 a xs ∧ R (ItE K a) H1
theorem pi_enumT {X : Cx} {e : Expr} {ta : TA} {p pos tpos : Pos} {elts : List Expr} {kk : Nat} (hg : Gl X "enumerate") (hm : X.mg "enumerate" = none) (ha : PA X [e] ta) (hs : starEach [e] X.env = [(false, eval e X.env)] := by rfl) :
    PI X (.Tuple elts kk tpos) (.Call (.Name "enumerate" p) [e] [] pos) (iEnumT X.K ta) := by
  refine ⟨fun pins s σ H R I h => Call_ (ld_blt I hg hm boot_enumerate (PyProof.Rows.callWith_type1 (thn (ha.run pos pins s σ H _ I h) fun us s1 ⟨vs, H1, I1, r1, q1⟩ => ?_) hs rfl))⟩
  obtain ⟨a, xs, rfl, hq, q⟩ := q1
  rw [Vals.ref1 r1]
  obtain ⟨its, rv, p', hz⟩ := I1.tuple hq
  refine sx_call_enum p' fun h' he hit hk => wpAny_pyIter_enum he ?_
  refine ⟨s1.heap.objs.size + 1, [s1.heap.objs.size + 1, s1.heap.objs.size], _, _, H1, rfl, I1.kept (t' := s1.toks) hk, turn_enumT a (s1.heap.objs.size + 1) s1.heap.objs.size, ⟨⟨.none, he⟩, hit, Nat.succ_ne_self _⟩, fun b hb => ?_, q⟩
  have hle : s1.heap.objs.size ≤ b := by
    rcases List.mem_cons.mp hb with z | z
    · rw [z]; exact Nat.le_succ _
    · rw [List.mem_singleton.mp z]; exact Nat.le_refl _
  exact I1.fpOk hle (I1.hok.fresh hle)
/-- the loop over it -/
theorem for_enumT {K : PySem.W.Frag} {a : Addr} {xs : List V} {g : TG} {tb : TS} {D : Ends} {σ : L2.St} {H : Hp} (Pv : Nat → L2.St → Hp → Prop) (h0 : Pv 0 σ H) (hl : ∀ i σ H, Pv i σ H → SqT K H a xs)
    (hs : ∀ i x T σ H, xs[i]? = some x → Pv i σ H → H T = none →
      g (.ref T) σ (upd H T (.tup [.int (i : Nat), x])) fun σ2 H2 => tb { D with nx := Pv (i + 1), ct := Pv (i + 1), bk := D.nx } σ2 H2)
    (hd : ∀ σ H, Pv xs.length σ H → D.nx σ H) :
    ∃ W : Nat → Nat → L2.St → Hp → Prop, (∃ m, W 0 m σ H) ∧ ∀ i m σ H, W i m σ H →
      ((ItE K a).stop i H ∧ D.nx σ H) ∨
      ((ItE K a).go i H ∧ ∃ N : L2.St → Hp → Prop, (∀ σ' H', N σ' H' → ∃ m', m' < m ∧ W (i + 1) m' σ' H') ∧
        ∀ x H', (ItE K a).yld i H x H' → g x σ H' fun σ2 H2 => tb { D with nx := N, ct := N, bk := D.nx } σ2 H2) := by
  refine ⟨fun i m σ H => i + m = xs.length ∧ Pv i σ H, ⟨xs.length, by omega, h0⟩, fun i m σ H ⟨e, p⟩ => ?_⟩
  have q := hl i σ H p
  by_cases hi : i < xs.length
  · refine .inr ⟨⟨xs, xs[i], q, List.getElem?_eq_getElem hi⟩, Pv (i + 1), fun σ' H' p' => ⟨m - 1, by omega, by omega, p'⟩, ?_⟩
    rintro x H' ⟨T, y, rfl, hT, rfl, hy⟩
    exact hs i y T σ H (hy xs q) p hT
  · have : i = xs.length := by omega
    subst this
    exact .inl ⟨⟨xs, q, Nat.le_refl _⟩, hd σ H p⟩
end Sx
namespace Sx
open PySem PySem.Spec
open PyProof.Rows L2
section
variable {X : Cx}
/-- max, min of a tuple of ints -/
def rBestT (up : Bool) (K : PySem.W.Frag) : List V → Hp → VK → Prop := fun vs H Q =>
  ∃ (a : Addr) (ns : List Int), vs = [V.ref a] ∧ SqT K H a (ns.map V.int) ∧ ns ≠ [] ∧ ∀ m, m ∈ ns → (∀ y, y ∈ ns → if up = true then y ≤ m else m ≤ y) → Q (.int m) H
theorem cr_maxT (hc : X.calm = true) : CallR X (.builtin "max") (rBestT true X.K) := by
  intro pins s σ H vs us Q I r h
  obtain ⟨a, ns, rfl, hs, hne, q⟩ := h
  obtain ⟨its, rv, hl, _⟩ := I.tuple hs
  rw [Vals.ref1 r]
  obtain ⟨xs, e⟩ := rv.ints.allInts.items
  have hn : numsOf (intItems xs).toList = ns := by rw [← e]; exact rv.ints.numsOf
  rw [nums_intItems] at hn
  rw [e] at hl
  subst hn
  have hsz : 0 < xs.size := by
    rcases Nat.eq_zero_or_pos xs.size with z | z
    · exact absurd (by rw [Array.eq_empty_of_size_eq_zero z]; rfl) hne
    · exact z
  have hne2 : a ≠ s.heap.objs.size := Nat.ne_of_lt hl.lt
  refine call_max_walk (wpAny_pyIter_tuple hl ?_)
  refine ⟨_, _, _, _, _, _, _, rfl, Walks.tuple (A := X.A.in1) (I.ok.hd hc) _ a hne2 (intItems xs), ⟨⟨_, Heap.get?_push_size _ rfl, rfl, rfl⟩, hl.keeps fun b o e => Heap.get?_push_of_some _ e⟩, fun b hb => ?_,
    by simpa [intItems] using hsz, CmpOf.ints_gt (numAt xs) (fun _ _ => intItems_at), fun v h' tk hP hk => ?_⟩
  · show b < (s.heap.push _).objs.size
    rw [Heap.size_push]
    rcases List.mem_cons.mp hb with z | z
    · rw [z]; exact Nat.lt_succ_self _
    · rw [List.mem_singleton.mp z]; exact Nat.lt_succ_of_lt hl.lt
  · have hv : (intItems xs)[argBest (fun i j => decide (numAt xs i > numAt xs j)) (xs.size - 1)]? = some v := by simpa [intItems] using hP
    obtain ⟨t, rfl⟩ := intItems_at hv
    obtain ⟨h1, h2⟩ := argBest_gt (numAt xs) (xs.size - 1)
    refine ⟨.int _, H, I.kept (fun b o eo => hk b o (fun hm => ?_) (Heap.get?_push_of_some _ eo)), ⟨_, rfl⟩, q _ ?_ fun y hy => ?_⟩
    · have z := Heap.lt_size eo
      rw [List.mem_singleton] at hm
      rw [hm] at z
      exact Nat.lt_irrefl _ z
    · rw [numAt_eq]
      exact PySem.getD_mem (by rw [List.length_map, Array.length_toList]; omega)
    · rw [if_pos rfl]
      obtain ⟨j, hj, rfl⟩ := mem_getD hy
      rw [List.length_map, Array.length_toList] at hj
      rw [← numAt_eq]
      exact h2 j (by omega)
end
end Sx

set_option Elab.async false
set_option linter.all false
namespace Sx
/-! ### spans of a row, by looking back -/
/-- from f back to behind the last entry that is at least e -/
def bk (xs : List Int) (e : Int) : Nat → Nat
  | 0 => 0
  | f + 1 => if g xs f < e then bk xs e f else f + 1
theorem bk_le (xs : List Int) (e : Int) : ∀ f, bk xs e f ≤ f
  | 0 => Nat.le_refl _
  | f + 1 => by
    unfold bk
    split
    · exact Nat.le_succ_of_le (bk_le xs e f)
    · exact Nat.le_refl _
theorem bk_lt {xs : List Int} {e : Int} : ∀ {f j : Nat}, bk xs e f ≤ j → j < f → g xs j < e
  | 0, _, _, h => absurd h (Nat.not_lt_zero _)
  | f + 1, j, h1, h2 => by
    unfold bk at h1
    split at h1
    · by_cases h : j = f
      · subst h; assumption
      · exact bk_lt h1 (by omega)
    · omega
theorem bk_ge {xs : List Int} {e : Int} : ∀ {f : Nat}, 0 < bk xs e f → e ≤ g xs (bk xs e f - 1)
  | 0, h => absurd h (Nat.lt_irrefl _)
  | f + 1, h => by
    unfold bk at h ⊢
    split at h
    · rename_i hc
      rw [if_pos hc]
      exact bk_ge h
    · rename_i hc
      rw [if_neg hc]
      show e ≤ g xs f
      omega
theorem bk_eq {xs : List Int} {e : Int} {f b : Nat} (h0 : b ≤ f) (h1 : ∀ j, b ≤ j → j < f → g xs j < e) (h2 : 0 < b → e ≤ g xs (b - 1)) : bk xs e f = b := by
  rcases Nat.lt_trichotomy (bk xs e f) b with h | h | h
  · have a := h2 (by omega)
    have := bk_lt (xs := xs) (e := e) (f := f) (j := b - 1) (by omega) (by omega)
    omega
  · exact h
  · have a := bk_ge (xs := xs) (e := e) (f := f) (by omega)
    have := h1 (bk xs e f - 1) (by omega) (by have := bk_le xs e f; omega)
    omega
def spn (xs : List Int) (i : Nat) : Int := (i : Int) - bk xs (g xs i) i + 1
def spans (xs : List Int) : List Int := (List.range xs.length).map (spn xs)
theorem spans_len (xs : List Int) : (spans xs).length = xs.length := by unfold spans; rw [List.length_map, List.length_range]
theorem spans_g {xs : List Int} {i : Nat} (h : i < xs.length) : g (spans xs) i = spn xs i := by
  unfold spans
  show ((List.range xs.length).map (spn xs)).getD i 0 = _
  rw [List.getD_eq_getElem?_getD, List.getElem?_map, List.getElem?_range h]; rfl
theorem spans_fc {xs : List Int} {i : Nat} (h : i < xs.length) : fc (spans xs) i = bk xs (g xs i) i := by
  unfold fc
  rw [spans_g h]
  unfold spn
  omega
theorem spans_lam (xs : List Int) : Lam (spans xs) := by
  refine ⟨fun p h => ?_, fun p h => ?_, fun p j h h1 h2 => ?_⟩
  all_goals rw [spans_len] at h
  · rw [spans_g h]; unfold spn; have := bk_le xs (g xs p) p; omega
  · rw [spans_g h]; unfold spn; omega
  · rw [spans_fc h] at h1 ⊢
    rw [spans_fc (by omega)]
    have hj := bk_lt (xs := xs) (e := g xs p) (f := p) (j := j) (by omega) h2
    by_cases hz : bk xs (g xs p) p = 0
    · omega
    · have a := bk_ge (xs := xs) (e := g xs p) (f := p) (by omega)
      by_cases hb : bk xs (g xs j) j < bk xs (g xs p) p
      · have := bk_lt (xs := xs) (e := g xs j) (f := j) (j := bk xs (g xs p) p - 1) (by omega) (by omega)
        omega
      · omega
/-- the last place of the stretch -/
def lst (xs : List Int) (i : Nat) : Int := match par xs i with
  | none => (xs.length : Int) - 1
  | some b => (b : Int) - 1
theorem lst_in {xs : List Int} {i : Nat} (h : i < xs.length) : (i : Int) ≤ lst xs i ∧ lst xs i < xs.length := by
  unfold lst
  cases e : par xs i with
  | none => constructor <;> simp only <;> omega
  | some b =>
    obtain ⟨h1, h2, _⟩ := par_some.mp e
    constructor <;> simp only <;> omega
theorem lst_free {xs : List Int} {i j : Nat} (h : i < xs.length) (h1 : i < j) (h2 : (j : Int) ≤ lst xs i) : (i : Int) < fc xs j := by
  unfold lst at h2
  cases e : par xs i with
  | none => rw [e] at h2; simp only at h2; exact par_none.mp e j h1 (by omega)
  | some b =>
    rw [e] at h2
    simp only at h2
    exact (par_some.mp e).2.2.2 j h1 (by omega)
/-- in its stretch an entry is the greatest -/
theorem great {xs : List Int} {i : Nat} (h : i < xs.length) : ∀ j : Nat, fc (spans xs) i ≤ (j : Int) → (j : Int) ≤ lst (spans xs) i → g xs j ≤ g xs i := by
  have hs : i < (spans xs).length := by rw [spans_len]; exact h
  have hl := lst_in hs
  rw [spans_len] at hl
  intro j h1 h2
  rw [spans_fc h] at h1
  by_cases hj : j < i
  · exact Int.le_of_lt (bk_lt (f := i) (by omega) hj)
  · by_cases he : j = i
    · rw [he]; exact Int.le_refl _
    · -- the least place behind with a greater entry would cover i
      have key : ∀ n j : Nat, j - i ≤ n → i ≤ j → (j : Int) ≤ lst (spans xs) i → g xs j ≤ g xs i := by
        intro n
        induction n with
        | zero => intro j a b c; have : j = i := by omega
                  rw [this]; exact Int.le_refl _
        | succ n ih =>
          intro j a b c
          by_cases e : j = i
          · rw [e]; exact Int.le_refl _
          · by_cases q : g xs j ≤ g xs i
            · exact q
            · exfalso
              have hf := lst_free hs (show i < j by omega) c
              rw [spans_fc (by omega)] at hf
              have hb := bk_ge (xs := xs) (e := g xs j) (f := j) (by omega)
              have hle := bk_le xs (g xs j) j
              have := ih (bk xs (g xs j) j - 1) (by omega) (by omega) (by omega)
              omega
      exact key (j - i) j (Nat.le_refl _) (by omega) h2
theorem great_behind {xs : List Int} {i : Nat} (h : i < xs.length) (h1 : lst (spans xs) i + 1 < xs.length) : g xs i < g xs (lst (spans xs) i + 1).toNat := by
  unfold lst at h1 ⊢
  cases e : par (spans xs) i with
  | none => rw [e] at h1; simp only at h1; rw [spans_len] at h1; omega
  | some b =>
    simp only
    obtain ⟨g1, g2, g3, _⟩ := par_some.mp e
    rw [spans_len] at g2
    rw [spans_fc g2] at g3
    have : ((b : Int) - 1 + 1).toNat = b := by omega
    rw [this]
    exact bk_lt (f := b) (by omega) g1
theorem great_front {xs : List Int} {i : Nat} (h : i < xs.length) (h1 : 0 < fc (spans xs) i) : g xs i ≤ g xs (fc (spans xs) i - 1).toNat := by
  rw [spans_fc h] at h1 ⊢
  have := bk_ge (xs := xs) (e := g xs i) (f := i) (by omega)
  have e : ((bk xs (g xs i) i : Int) - 1).toNat = bk xs (g xs i) i - 1 := by omega
  rw [e]
  exact this
end Sx

set_option Elab.async false
set_option linter.all false
set_option maxRecDepth 100000
namespace Sx
open PySem PySem.Spec
open PyProof.Rows L2
/-! ### small data: k deep, b items and signs -/
structure Sm (d : PyData) (k b : Nat) : Prop where
  ok : d.showable = true
  deep : d.depth ≤ k
  short : d.leavesShort 1921 = true
  bulk : d.bulk ≤ b
theorem Sm.shw {d : PyData} {k b : Nat} (s : Sm d k b) (hk : k ≤ 100) (hb : b ≤ 8000) : Shw d := by
  refine ⟨s.ok, Nat.le_trans s.deep hk, ?_⟩
  have h1 := PyData.shown_le_bulk 1921 (by decide) d s.short
  have h2 := s.bulk
  have h3 : (1921 + 2) * d.bulk ≤ 1923 * 8000 := Nat.mul_le_mul (Nat.le_refl _) (by omega)
  exact Nat.le_trans h1 (Nat.le_trans (show _ ≤ 16000000 by omega) (by decide))
theorem Sm.mono {d : PyData} {k b k' b' : Nat} (s : Sm d k b) (h1 : k ≤ k') (h2 : b ≤ b') : Sm d k' b' := ⟨s.ok, Nat.le_trans s.deep h1, s.short, Nat.le_trans s.bulk h2⟩
theorem Sm.all {k b : Nat} : ∀ {ds : List PyData}, (∀ d ∈ ds, Sm d k b) → PyData.showableAll ds = true ∧ PyData.depthAll ds ≤ k ∧ PyData.leavesShortAll 1921 ds = true ∧ PyData.bulkAll ds ≤ ds.length * (b + 1)
  | [], _ => by simp [PyData.showableAll, PyData.depthAll, PyData.leavesShortAll, PyData.bulkAll]
  | d :: ds, h => by
    obtain ⟨h1, h2, h3, h4⟩ := Sm.all (ds := ds) fun e he => h e (List.mem_cons_of_mem _ he)
    have hd := h d (List.mem_cons_self ..)
    refine ⟨by simp [PyData.showableAll, hd.ok, h1], ?_, by simp [PyData.leavesShortAll, hd.short, h3], ?_⟩
    · simp only [PyData.depthAll]
      have := hd.deep
      omega
    · simp only [PyData.bulkAll, List.length_cons]
      have := hd.bulk
      have e : (ds.length + 1) * (b + 1) = ds.length * (b + 1) + (b + 1) := by rw [Nat.add_mul, Nat.one_mul]
      omega
theorem Sm.list {ds : List PyData} {k b n : Nat} (h : ∀ d ∈ ds, Sm d k b) (hn : ds.length ≤ n) : Sm (.list ds) (k + 1) (n * (b + 1)) := by
  obtain ⟨h1, h2, h3, h4⟩ := Sm.all h
  refine ⟨by simp [PyData.showable, h1], by simp only [PyData.depth]; omega, by simp [PyData.leavesShort, h3], ?_⟩
  simp only [PyData.bulk]
  exact Nat.le_trans h4 (Nat.mul_le_mul hn (Nat.le_refl _))
theorem Sm.tuple {ds : List PyData} {k b n : Nat} (h : ∀ d ∈ ds, Sm d k b) (hn : ds.length ≤ n) : Sm (.tuple ds) (k + 1) (n * (b + 1)) := by
  obtain ⟨h1, h2, h3, h4⟩ := Sm.all h
  refine ⟨by simp [PyData.showable, h1], by simp only [PyData.depth]; omega, by simp [PyData.leavesShort, h3], ?_⟩
  simp only [PyData.bulk]
  exact Nat.le_trans h4 (Nat.mul_le_mul hn (Nat.le_refl _))
theorem Sm.int {i : Int} (h : i.natAbs.log2 < 1900) : Sm (.int i) 0 0 := by
  have hl : (Str.ofString (toString i)).length ≤ 1921 := int_text_len_1921 (by omega)
  refine ⟨by simp [PyData.showable]; omega, by simp [PyData.depth], ?_, by simp [PyData.bulk]⟩
  simp only [PyData.leavesShort, decide_eq_true_eq]
  exact hl
theorem Sm.none : Sm .none 0 0 := ⟨by simp [PyData.showable], by simp [PyData.depth], by simp [PyData.leavesShort], by simp [PyData.bulk]⟩
theorem Sm.bool (b : Bool) : Sm (.bool b) 0 0 := ⟨by simp [PyData.showable], by simp [PyData.depth], by simp [PyData.leavesShort], by simp [PyData.bulk]⟩

theorem p1000w {n : Int} (h : n < 2 ^ 200) : n < 2 ^ 1000 := by
  refine Int.lt_of_lt_of_le h ?_
  have e1 : (2 : Int) ^ 200 = ((2 ^ 200 : Nat) : Int) := by decide
  have e2 : (2 : Int) ^ 1000 = ((2 ^ 1000 : Nat) : Int) := by norm_cast
  rw [e1, e2]
  exact Int.ofNat_le.mpr (Nat.pow_le_pow_right (by decide) (by decide))
theorem at5 {x1 x2 x3 x4 x5 lo hi r : Int} (r0 : 0 ≤ r) (r1 : r < 5) (h1 : lo ≤ x1 ∧ x1 ≤ hi) (h2 : lo ≤ x2 ∧ x2 ≤ hi) (h3 : lo ≤ x3 ∧ x3 ≤ hi) (h4 : lo ≤ x4 ∧ x4 ≤ hi) (h5 : lo ≤ x5 ∧ x5 ≤ hi) :
    ∃ v : Int, atI [V.int x1, V.int x2, V.int x3, V.int x4, V.int x5] r = some (.int v) ∧ lo ≤ v ∧ v ≤ hi := by
  rcases (show r = 0 ∨ r = 1 ∨ r = 2 ∨ r = 3 ∨ r = 4 by omega) with e | e | e | e | e <;> subst e
  · exact ⟨x1, rfl, h1⟩
  · exact ⟨x2, rfl, h2⟩
  · exact ⟨x3, rfl, h3⟩
  · exact ⟨x4, rfl, h4⟩
  · exact ⟨x5, rfl, h5⟩
section
variable {K : PySem.W.Frag}
theorem slA_cut {H : Hp} {c : Addr} {xs : List V} {i j : Nat} {Q : VK} (hS : SqT K H c xs) (h1 : i ≤ j) (h2 : j ≤ xs.length)
    (q : ∀ a' H', Ex H H' → SqT K H' a' ((xs.drop i).take (j - i)) → Q (.ref a') H') : rSlA K (.ref c) (some (i : Int)) (some (j : Int)) H Q := by
  have hc : cutV xs (some (i : Int)) (some (j : Int)) = (xs.drop i).take (j - i) := by
    unfold cutV
    rw [HT.sIx_nat, HT.sIx_nat, Nat.min_eq_left h2, Nat.min_eq_left (Nat.le_trans h1 h2)]
  refine ⟨c, xs, rfl, hS, fun hw => ?_, fun _ p hp => q p _ (Evl.Ex.new hp) (SqT.of (by rw [upd_same, hc]))⟩
  have a := hw.1
  have b := hw.2
  rw [HT.sIx_nat] at a b
  rw [Nat.min_eq_left (Nat.le_trans h1 h2)] at a
  rw [Nat.min_eq_left h2] at b
  refine q c H (Evl.Ex.refl H) ?_
  rw [a, b, List.drop_zero, Nat.sub_zero, List.take_length]
  exact hS
end
end Sx

set_option Elab.async false
set_option linter.all false
namespace Sx
/-! ### rounds -/
theorem g_ext {xs ys : List Int} (hl : xs.length = ys.length) (h : ∀ i, i < xs.length → g xs i = g ys i) : xs = ys := by
  refine List.ext_getElem hl fun i h1 h2 => ?_
  have := h i h1
  unfold g at this
  rw [List.getD_eq_getElem?_getD, List.getD_eq_getElem?_getD, List.getElem?_eq_getElem h1, List.getElem?_eq_getElem h2] at this
  exact this
theorem bk_congr {xs ys : List Int} {e e' : Int} : ∀ {f : Nat}, (∀ j, j < f → (g xs j < e ↔ g ys j < e')) → bk xs e f = bk ys e' f
  | 0, _ => rfl
  | f + 1, h => by
    unfold bk
    have h1 := h f (Nat.lt_succ_self f)
    have h2 := bk_congr (f := f) fun j hj => h j (Nat.lt_succ_of_lt hj)
    by_cases c : g xs f < e
    · rw [if_pos c, if_pos (h1.mp c), h2]
    · rw [if_neg c, if_neg fun k => c (h1.mpr k)]
/-- other entries in the same order -/
theorem spans_order {xs ys : List Int} (hl : xs.length = ys.length) (h : ∀ i j, i < xs.length → j < xs.length → (g xs i < g xs j ↔ g ys i < g ys j)) : spans xs = spans ys := by
  refine g_ext (by rw [spans_len, spans_len, hl]) fun i hi => ?_
  rw [spans_len] at hi
  rw [spans_g hi, spans_g (by omega)]
  unfold spn
  rw [bk_congr (ys := ys) (e' := g ys i) fun j hj => h j i (by omega) hi]
theorem g_take {xs : List Int} {m i : Nat} (h : i < m) : g (xs.take m) i = g xs i := by
  unfold g
  rw [List.getD_eq_getElem?_getD, List.getD_eq_getElem?_getD, List.getElem?_take, if_pos h]
/-- the front part -/
theorem spans_take (xs : List Int) (m : Nat) : spans (xs.take m) = (spans xs).take m := by
  refine g_ext (by rw [spans_len, List.length_take, List.length_take, spans_len]) fun i hi => ?_
  rw [spans_len, List.length_take] at hi
  rw [spans_g (by rw [List.length_take]; exact hi), g_take (by omega), spans_g (by omega)]
  unfold spn
  rw [g_take (by omega), bk_congr (ys := xs) (e' := g xs i) fun j hj => by rw [g_take (by omega)]]
def ro : Nat → List Int → List Int
  | 0, xs => xs
  | n + 1, xs => spans (ro n xs)
theorem ro_len (xs : List Int) : ∀ n, (ro n xs).length = xs.length
  | 0 => rfl
  | n + 1 => by show (spans (ro n xs)).length = _; rw [spans_len, ro_len xs n]
theorem ro_shift (xs : List Int) : ∀ n, ro n (spans xs) = ro (n + 1) xs
  | 0 => rfl
  | n + 1 => by show spans (ro n (spans xs)) = _; rw [ro_shift xs n]; rfl
theorem ro_take (xs : List Int) (m : Nat) : ∀ n, ro n (xs.take m) = (ro n xs).take m
  | 0 => rfl
  | n + 1 => by show spans (ro n (xs.take m)) = _; rw [ro_take xs m n, spans_take]; rfl
theorem ro_still {xs : List Int} {n : Nat} (h : spans (ro n xs) = ro n xs) : ∀ k, ro (n + k) xs = ro n xs
  | 0 => rfl
  | k + 1 => by show spans (ro (n + k) xs) = _; rw [ro_still h k, h]
theorem ro_far {xs : List Int} {n : Nat} (h : spans (ro n xs) = ro n xs) (m : Nat) : ro m xs = ro (min m n) xs := by
  by_cases c : m ≤ n
  · rw [Nat.min_eq_left c]
  · rw [Nat.min_eq_right (by omega)]
    obtain ⟨k, rfl⟩ : ∃ k, m = n + k := ⟨m - n, by omega⟩
    exact ro_still h k
/-- from the first round on no entry gets less -/
theorem spans_ge {xs : List Int} (L : Lam xs) {i : Nat} (h : i < xs.length) : g xs i ≤ g (spans xs) i := by
  rw [spans_g h]
  unfold spn
  have l := L.lo i h
  have u := L.hi i h
  by_cases c : (bk xs (g xs i) i : Int) ≤ fc xs i
  · unfold fc at c; omega
  · exfalso
    have hf : fc xs i = i - g xs i + 1 := rfl
    have hb := bk_le xs (g xs i) i
    have k1 := bk_ge (xs := xs) (e := g xs i) (f := i) (by omega)
    have k2 := L.nest i (bk xs (g xs i) i - 1) h (by omega) (by omega)
    have hf2 : fc xs (bk xs (g xs i) i - 1) = ((bk xs (g xs i) i - 1 : Nat) : Int) - g xs (bk xs (g xs i) i - 1) + 1 := rfl
    omega
def sm (xs : List Int) : Nat → Int
  | 0 => 0
  | n + 1 => sm xs n + g xs n
theorem sm_le {xs ys : List Int} : ∀ {n : Nat}, (∀ i, i < n → g xs i ≤ g ys i) → sm xs n ≤ sm ys n
  | 0, _ => Int.le_refl _
  | n + 1, h => by
    have := sm_le (n := n) fun i hi => h i (Nat.lt_succ_of_lt hi)
    have := h n (Nat.lt_succ_self n)
    show sm xs n + g xs n ≤ sm ys n + g ys n
    omega
theorem sm_eq {xs ys : List Int} : ∀ {n : Nat}, (∀ i, i < n → g xs i ≤ g ys i) → sm ys n ≤ sm xs n → ∀ i, i < n → g xs i = g ys i
  | 0, _, _, i, hi => absurd hi (Nat.not_lt_zero _)
  | n + 1, h, hs, i, hi => by
    have h1 := sm_le (n := n) fun i hi => h i (Nat.lt_succ_of_lt hi)
    have h2 := h n (Nat.lt_succ_self n)
    have h3 : sm ys n + g ys n ≤ sm xs n + g xs n := hs
    by_cases e : i = n
    · subst e; omega
    · exact sm_eq (n := n) (fun i hi => h i (Nat.lt_succ_of_lt hi)) (by omega) i (by omega)
theorem sm_top {xs : List Int} (L : Lam xs) (hz : xs.length ≤ 100) : ∀ {n : Nat}, n ≤ xs.length → sm xs n ≤ 100 * n
  | 0, _ => by show (0:Int) ≤ 100 * 0; decide
  | n + 1, h => by
    have := sm_top L hz (n := n) (by omega)
    have := L.hi n (by omega)
    show sm xs n + g xs n ≤ 100 * ((n + 1 : Nat) : Int)
    omega
theorem sm_pos {xs : List Int} (L : Lam xs) : ∀ {n : Nat}, n ≤ xs.length → 0 ≤ sm xs n
  | 0, _ => Int.le_refl 0
  | n + 1, h => by
    have := sm_pos L (n := n) (by omega)
    have := L.lo n (by omega)
    show 0 ≤ sm xs n + g xs n
    omega
/-- so many rounds are needed -/
structure Nd (xs : List Int) (n : Nat) : Prop where
  still : spans (ro n xs) = ro n xs
  least : ∀ k, k < n → spans (ro k xs) ≠ ro k xs
theorem Nd.uniq {xs : List Int} {n m : Nat} (h1 : Nd xs n) (h2 : Nd xs m) : n = m := by
  rcases Nat.lt_trichotomy n m with h | h | h
  · exact absurd h1.still (h2.least n h)
  · exact h
  · exact absurd h2.still (h1.least m h)
theorem Nd.step {xs : List Int} {n : Nat} (h0 : spans xs ≠ xs) (h : Nd (spans xs) n) : Nd xs (n + 1) := by
  refine ⟨?_, fun k hk => ?_⟩
  · rw [← ro_shift]; exact h.still
  · cases k with
    | zero => exact h0
    | succ k => rw [← ro_shift]; exact h.least k (by omega)
theorem nd_lam : ∀ (m : Nat) (xs : List Int), Lam xs → xs.length ≤ 100 → 10000 - sm xs xs.length ≤ m → ∃ n, n ≤ m ∧ Nd xs n := by
  intro m
  induction m with
  | zero =>
    intro xs L hz hm
    refine ⟨0, Nat.le_refl 0, ?_, fun k hk => absurd hk (Nat.not_lt_zero _)⟩
    have t := sm_top (spans_lam xs) (by rw [spans_len]; exact hz) (n := xs.length) (by rw [spans_len]; exact Nat.le_refl _)
    exact (g_ext (spans_len xs).symm (sm_eq (fun i hi => spans_ge L hi) (by omega))).symm
  | succ m ih =>
    intro xs L hz hm
    by_cases e : spans xs = xs
    · exact ⟨0, Nat.zero_le _, e, fun k hk => absurd hk (Nat.not_lt_zero _)⟩
    · have hs : sm xs xs.length < sm (spans xs) xs.length := by
        refine Classical.byContradiction fun c => e (g_ext (spans_len xs).symm (sm_eq (fun i hi => spans_ge L hi) (by omega))).symm
      obtain ⟨n, hn, h⟩ := ih (spans xs) (spans_lam xs) (by rw [spans_len]; exact hz) (by rw [spans_len]; omega)
      exact ⟨n + 1, by omega, h.step e⟩
theorem nd_any (xs : List Int) (hz : xs.length ≤ 100) : ∃ n, n ≤ 10001 ∧ Nd xs n := by
  by_cases e : spans xs = xs
  · exact ⟨0, Nat.zero_le _, e, fun k hk => absurd hk (Nat.not_lt_zero _)⟩
  · have p := sm_pos (spans_lam xs) (n := xs.length) (by rw [spans_len]; exact Nat.le_refl _)
    obtain ⟨n, hn, h⟩ := nd_lam 10000 (spans xs) (spans_lam xs) (by rw [spans_len]; exact hz) (by rw [spans_len]; omega)
    exact ⟨n + 1, by omega, h.step e⟩
/-! ### skipping what a lesser entry covers -/
theorem bk_skip {xs : List Int} {e : Int} {f : Nat} (h : g xs f < e) : bk xs e (f + 1) = bk xs e (bk xs (g xs f) f) := by
  have key : ∀ d k : Nat, k + d = f → bk xs (g xs f) f ≤ k → bk xs e f = bk xs e k := by
    intro d
    induction d with
    | zero => intro k h1 _; have : k = f := by omega
              rw [this]
    | succ d ih =>
      intro k h1 h2
      rw [ih (k + 1) (by omega) (by omega)]
      show (if g xs k < e then bk xs e k else k + 1) = bk xs e k
      have := bk_lt (xs := xs) (e := g xs f) (f := f) (j := k) h2 (by omega)
      rw [if_pos (by omega)]
  show (if g xs f < e then bk xs e f else f + 1) = _
  rw [if_pos h]
  have hb := bk_le xs (g xs f) f
  exact key (f - bk xs (g xs f) f) _ (by omega) (Nat.le_refl _)
end Sx

set_option Elab.async false
set_option linter.all false
namespace Sx
open PySem PySem.Spec
open PyProof.Rows L2 Sx
theorem eqv_ints : ∀ ys zs : List Int, PyData.eqvAll (ys.map PyData.int) (zs.map PyData.int) = decide (ys = zs)
  | [], [] => rfl
  | [], z :: zs => by simp [PyData.eqvAll]
  | y :: ys, [] => by simp [PyData.eqvAll]
  | y :: ys, z :: zs => by
    simp only [List.map_cons, PyData.eqvAll, PyData.eqv, eqv_ints ys zs]
    by_cases h1 : y = z
    · subst h1; simp
    · simp [h1]
theorem eqv_tup (ys zs : List Int) : PyData.eqv (.tuple (ys.map PyData.int)) (.tuple (zs.map PyData.int)) = decide (ys = zs) := by
  simp only [PyData.eqv]; exact eqv_ints ys zs
theorem eqv_lst (ys zs : List Int) : PyData.eqv (.list (ys.map PyData.int)) (.list (zs.map PyData.int)) = decide (ys = zs) := by
  simp only [PyData.eqv]; exact eqv_ints ys zs
theorem lay_ints : ∀ ys : List Int, PyData.canLayAll0 (ys.map PyData.int) = true
  | [] => rfl
  | y :: ys => by simp only [List.map_cons, PyData.canLayAll0, PyData.canLay0, lay_ints ys]; rfl
theorem depth_ints : ∀ ys : List Int, PyData.depthAll (ys.map PyData.int) = 0
  | [] => rfl
  | y :: ys => by simp only [List.map_cons, PyData.depthAll, PyData.depth, depth_ints ys]; rfl
theorem shaped_tup (ys : List Int) : SeqAt.shaped (.tuple (ys.map PyData.int)) = true := by
  simp only [SeqAt.shaped, PyData.canLay0, PyData.depth, lay_ints, depth_ints]; rfl
theorem shaped_lst (ys : List Int) : SeqAt.shaped (.list (ys.map PyData.int)) = true := by
  simp only [SeqAt.shaped, PyData.canLay0, PyData.depth, lay_ints, depth_ints]; rfl
end Sx

set_option Elab.async false
set_option linter.all false
namespace Sx
open PySem PySem.Spec
open PyProof.Rows L2 Sx
/-- a row -/
structure Rw (xs : List Int) : Prop where
  lo : 1 ≤ xs.length
  hi : xs.length ≤ 100
  ok : ∀ x ∈ xs, -10 ^ 30 ≤ x ∧ x ≤ 10 ^ 30
/-- p holds the rows after 0 to n rounds -/
def Rws (K : PySem.W.Frag) (H : Hp) (p : Addr) (xs : List Int) (n : Nat) : Prop :=
  ∃ vs : List V, H p = some (.lst vs) ∧ vs.length = n + 1 ∧ ∀ j, j ≤ n → ∃ b, vs[j]? = some (.ref b) ∧ SqT K H b ((ro j xs).map V.int)
theorem Rws.ex {K : PySem.W.Frag} {H H' : Hp} {p : Addr} {xs : List Int} {n : Nat} (h : Rws K H p xs n) (X : Ex H H') : Rws K H' p xs n := by
  obtain ⟨vs, h1, h2, h3⟩ := h
  refine ⟨vs, X _ _ h1, h2, fun j hj => ?_⟩
  obtain ⟨b, hb, hS⟩ := h3 j hj
  exact ⟨b, hb, Evl.ex_t X hS⟩
def hind (xs : List Int) (i : Nat) : V := if (bk xs (g xs i) i : Int) - 1 < 0 then .non else .int ((bk xs (g xs i) i : Int) - 1)
theorem atI_last {vs : List V} {n : Nat} (h : vs.length = n + 1) : atI vs (-1) = vs[n]? := by
  unfold atI ixN
  rw [h, if_neg (by decide), if_pos (by omega)]
  show vs[((-1 : Int) + ((n + 1 : Nat) : Int)).toNat]? = vs[n]?
  rw [show ((-1 : Int) + ((n + 1 : Nat) : Int)).toNat = n by omega]
theorem atI_at {vs : List V} {i : Nat} (h : i < vs.length) : atI vs (i : Int) = vs[i]? := by
  unfold atI ixN
  have h2 : (i : Int) < (vs.length : Int) := by omega
  simp [h2]
/-- a tuple stays when a list that was not there changes -/
theorem sqT_mut {K : PySem.W.Frag} {H : Hp} {b p : Addr} {xs ys zs : List V} (h : SqT K H b xs) (hp : H p = some (.lst ys)) : SqT K (upd H p (.lst zs)) b xs := by
  rcases h with (h | ⟨o, h⟩) | h
  · refine Or.inl (Or.inl ?_)
    rw [upd_ne (by rintro rfl; rw [hp] at h; cases h)]
    exact h
  · refine Or.inl (Or.inr ⟨o, ?_⟩)
    rw [upd_ne (by rintro rfl; rw [hp] at h; cases h)]
    exact h
  · exact Or.inr h
end Sx
namespace Sx
/-- from r on the entry stays, and from no earlier number -/
structure RA (xs : List Int) (i r : Nat) : Prop where
  stay : ∀ k, r ≤ k → g (ro k xs) i = g (ro r xs) i
  least : ∀ r', r' < r → ∃ k, r' ≤ k ∧ g (ro k xs) i ≠ g (ro r' xs) i
theorem RA.uniq {xs : List Int} {i r s : Nat} (h1 : RA xs i r) (h2 : RA xs i s) : r = s := by
  rcases Nat.lt_trichotomy r s with h | h | h
  · obtain ⟨k, k1, k2⟩ := h2.least r h
    exact absurd (h1.stay k k1) k2
  · exact h
  · obtain ⟨k, k1, k2⟩ := h1.least s h
    exact absurd (h2.stay k k1) k2
theorem RA.take {xs : List Int} {i m r : Nat} (hi : i < m) (h : RA xs i r) : RA (xs.take m) i r := by
  have e : ∀ k, g (ro k (xs.take m)) i = g (ro k xs) i := fun k => by rw [ro_take, g_take hi]
  refine ⟨fun k hk => by rw [e, e]; exact h.stay k hk, fun r' hr => ?_⟩
  obtain ⟨k, k1, k2⟩ := h.least r' hr
  exact ⟨k, k1, by rw [e, e]; exact k2⟩
/-- after how many rounds two rows are equal -/
inductive Mt (xs ys : List Int) : L2.V → Prop
  | at (r : Nat) (h : ro r xs = ro r ys) (l : ∀ k, k < r → ro k xs ≠ ro k ys) : Mt xs ys (.int (r : Int))
  | no (l : ∀ k, ro k xs ≠ ro k ys) : Mt xs ys .non
end Sx

set_option Elab.async false
set_option linter.all false
namespace Sx
open PySem PySem.Spec
open PyProof.Rows L2 Sx
/-- the state of the draws: its last number counts them -/
def Bag (H : Hp) (t : Addr) (m : Int) : Prop := ∃ x0 x1 x2 : Int, H t = some (.lst [.int x0, .int x1, .int x2]) ∧ 0 ≤ x2 ∧ x2 ≤ m
theorem Bag.ex {H H' : Hp} {t : Addr} {m : Int} (T : Bag H t m) (e : Ex H H') : Bag H' t m := by
  obtain ⟨x0, x1, x2, h, r⟩ := T
  exact ⟨x0, x1, x2, e _ _ h, r⟩
theorem Bag.le {H : Hp} {t : Addr} {m n : Int} (T : Bag H t m) (h : m ≤ n) : Bag H t n := by
  obtain ⟨x0, x1, x2, h1, h4, h5⟩ := T
  exact ⟨x0, x1, x2, h1, h4, by omega⟩
theorem Bag.exB {H H' : Hp} {t b : Addr} {m : Int} (T : Bag H t m) (e : ExB b H H') (n : t ≠ b) : Bag H' t m := by
  obtain ⟨x0, x1, x2, h, r⟩ := T
  exact ⟨x0, x1, x2, e _ _ n h, r⟩
theorem Bag.get {H : Hp} {t : Addr} {m : Int} (T : Bag H t m) : ∃ xs, H t = some (.lst xs) := by
  obtain ⟨x0, x1, x2, h, r⟩ := T
  exact ⟨_, h⟩
theorem for_enumL {K : PySem.W.Frag} {a : Addr} {xs : List V} {g : TG} {tb : TS} {D : Ends} {σ : L2.St} {H : Hp} (Pv : Nat → L2.St → Hp → Prop) (h0 : Pv 0 σ H) (hl : ∀ i σ H, Pv i σ H → SqL K H a xs)
    (hs : ∀ i x T σ H, xs[i]? = some x → Pv i σ H → H T = none →
      g (.ref T) σ (upd H T (.tup [.int (i : Nat), x])) fun σ2 H2 => tb { D with nx := Pv (i + 1), ct := Pv (i + 1), bk := D.nx } σ2 H2)
    (hd : ∀ σ H, Pv xs.length σ H → D.nx σ H) :
    ∃ W : Nat → Nat → L2.St → Hp → Prop, (∃ m, W 0 m σ H) ∧ ∀ i m σ H, W i m σ H →
      ((Ite K a).stop i H ∧ D.nx σ H) ∨
      ((Ite K a).go i H ∧ ∃ N : L2.St → Hp → Prop, (∀ σ' H', N σ' H' → ∃ m', m' < m ∧ W (i + 1) m' σ' H') ∧
        ∀ x H', (Ite K a).yld i H x H' → g x σ H' fun σ2 H2 => tb { D with nx := N, ct := N, bk := D.nx } σ2 H2) := by
  refine ⟨fun i m σ H => i + m = xs.length ∧ Pv i σ H, ⟨xs.length, by omega, h0⟩, fun i m σ H ⟨e, p⟩ => ?_⟩
  have q := hl i σ H p
  by_cases hi : i < xs.length
  · refine .inr ⟨⟨xs, xs[i], q, List.getElem?_eq_getElem hi⟩, Pv (i + 1), fun σ' H' p' => ⟨m - 1, by omega, by omega, p'⟩, ?_⟩
    rintro x H' ⟨T, y, rfl, hT, rfl, hy⟩
    exact hs i y T σ H (hy xs q) p hT
  · have : i = xs.length := by omega
    subst this
    exact .inl ⟨⟨xs, q, Nat.le_refl _⟩, hd σ H p⟩
/-- what is new stays new -/
theorem none_back {H H' : Hp} {t b : Addr} (E : ExB t H H') (n : b ≠ t) (h : H' b = none) : H b = none := by
  cases q0 : H b with
  | none => rfl
  | some o =>
    have := E _ _ n q0
    rw [h] at this; cases this
theorem Bag.ne {H : Hp} {t b : Addr} {m : Int} (T : Bag H t m) (h : H b = none) : b ≠ t := by
  obtain ⟨_, hT⟩ := T.get
  exact (ne_of_none hT h).symm
/-- both branches of an if without else lead on -/
theorem iteJ {c : Prop} [Decidable c] {TB : Prop} {NX : L2.St → Hp → Prop} {σ : L2.St} {H : Hp} (Inv : L2.St → Hp → Prop) (k : ∀ σ' H', Inv σ' H' → NX σ' H')
    (h1 : (∀ σ' H', Inv σ' H' → NX σ' H') → c → TB) (h2 : ¬ c → Inv σ H) : if c then TB else NX σ H := by
  split
  · exact h1 k (by assumption)
  · exact k _ _ (h2 (by assumption))
theorem at8 {x1 x2 x3 x4 x5 x6 x7 x8 y1 y2 y3 y4 y5 y6 y7 y8 r : Int} (P : Int → Int → Prop) (r0 : 0 ≤ r) (r1 : r < 8) (h1 : P x1 y1) (h2 : P x2 y2) (h3 : P x3 y3) (h4 : P x4 y4) (h5 : P x5 y5) (h6 : P x6 y6) (h7 : P x7 y7) (h8 : P x8 y8) :
    ∃ v w : Int, atI [V.int x1, V.int x2, V.int x3, V.int x4, V.int x5, V.int x6, V.int x7, V.int x8] r = some (.int v) ∧ atI [V.int y1, V.int y2, V.int y3, V.int y4, V.int y5, V.int y6, V.int y7, V.int y8] r = some (.int w) ∧ P v w := by
  rcases (show r = 0 ∨ r = 1 ∨ r = 2 ∨ r = 3 ∨ r = 4 ∨ r = 5 ∨ r = 6 ∨ r = 7 by omega) with e | e | e | e | e | e | e | e <;> subst e
  · exact ⟨x1, y1, rfl, rfl, h1⟩
  · exact ⟨x2, y2, rfl, rfl, h2⟩
  · exact ⟨x3, y3, rfl, rfl, h3⟩
  · exact ⟨x4, y4, rfl, rfl, h4⟩
  · exact ⟨x5, y5, rfl, rfl, h5⟩
  · exact ⟨x6, y6, rfl, rfl, h6⟩
  · exact ⟨x7, y7, rfl, rfl, h7⟩
  · exact ⟨x8, y8, rfl, rfl, h8⟩
theorem iteJ2 {c : Prop} [Decidable c] {X TB : Prop} {NX : L2.St → Hp → Prop} {σ : L2.St} {H : Hp} (Inv : L2.St → Hp → Prop) (k : ∀ σ' H', Inv σ' H' → NX σ' H')
    (h1 : (∀ σ' H', Inv σ' H' → NX σ' H') → c → X) (h2 : ¬ c → Inv σ H) : if c then X else (if false = true then TB else NX σ H) := by
  split
  · exact h1 k (by assumption)
  · rw [if_neg (by decide)]; exact k _ _ (h2 (by assumption))
end Sx

set_option Elab.async false
set_option linter.all false
set_option maxRecDepth 100000
namespace Sx
open PySem PySem.Spec
open PyProof.Rows L2
/-- a def of the module under its name, with n positional values and the keywords ks behind them -/
structure DefAtN (K : PySem.W.Frag) (mg : Str → Option Value) (x : Str) (st : Stmt) (ps : List Str) (n : Nat) (ks : List Str) (f : Addr) (fd : FuncData) : Prop where
  fn : L2.Fun K x x st f fd
  at_ : mg x = some (.ref f)
  bi : KBn K fd ps n ks (fun us ws => us ++ ws) (fun vs zs => vs ++ zs)
structure CalN (P : Program) (w : World) (K : PySem.W.Frag) (mg : Str → Option Value) (base : Heap) (k : Nat) (x : Str) (sp : Sp) (n : Nat) (ks : List Str) : Prop where
  ex : ∃ (f : Addr) (fd : FuncData) (ps : List Str), FnOk P w K mg base CX0 k f fd ps sp ∧ mg x = some (.ref f) ∧ PySem.W.keepIn K (.ref f) = true ∧ KBn K fd ps n ks (fun us ws => us ++ ws) (fun vs zs => vs ++ zs)
section
variable {P : Program} {w : World} {K : PySem.W.Frag} {mg : Str → Option Value} {base : Heap} {x : Str} {st : Stmt} {N ps ks : List Str} {f : Addr} {fd : FuncData} {k n : Nat} {sp : Sp}
theorem DefAtN.cal (D : DefAtN K mg x st ps n ks f fd) (S : FnScope N ps (defScope st)) (ar : ∀ vs H Q E, sp vs H Q E → vs.length = ps.length)
    (hb : ∀ (cdv : Value) (A : Around) (outer : List Env) (s : Shared) (H : Hp) (vs : List V) (Q : VK) (E : XK),
      Room k (A.deeper (envOfC x (defScope st) s.heap.objs.size f cdv)) → sp vs H Q E →
      ∃ t, PSs (cxOf CX0 P w K mg base N x (defScope st) f cdv A outer s H E).nox (defBody st) t ∧
        t { nx := fun _ H' => Q .non H', rt := Q } (start N vs) H) : CalN P w K mg base (k + 1) x sp n ks :=
  ⟨f, fd, ps, D.fn.ok S ar hb, D.at_, D.fn.kp, D.bi⟩
end
theorem pe_kn {X : Cx} {k j n : Nat} {x : Str} {sp : Sp} {ks : List Str} {p pos : Pos} {e : Expr} {es : List Expr} {kws : List Keyword} {t tk : TA}
    (c : CalN X.prog X.w X.K X.mg X.base k x sp n ks) (hr : Room j X.A) (hk : k ≤ j) (hg : Gl X x) (ha : PA X (e :: es) t) (hkw : PK X kws tk)
    (hall : (backToKw pos (keywordEach kws X.env)).all (·.1.isSome) = true := by rfl) (hks : (backToKw pos (keywordEach kws X.env)).filterMap (·.1) = ks := by rfl)
    (hdb : (x == ("__debug__" : Str)) = false := by decide) (he : starEach (e :: es) X.env = (false, eval e X.env) :: starEach es X.env := by rfl)
    (hpl : ((backTo pos (starEach (e :: es) X.env)).any (·.1) || (backToKw pos (keywordEach kws X.env)).any (·.1.isNone)) = false := by rfl) :
    PE X (.Call (.Name x p) (e :: es) kws pos) (tCallN n ks.length sp (fun vs zs => vs ++ zs) C8.E0 t tk) := by
  obtain ⟨f, fd, ps, F, hm, kp, b⟩ := c.ex
  exact pe_callN F (hr.mono hk) hg hm kp b C8.pass0 ha hkw hall hks hdb he hpl
end Sx
namespace Sx
open PySem PySem.Spec
open PyProof.Rows L2
theorem Bag.tup {K : PySem.W.Frag} {H H' : Hp} {t a : Addr} {m : Int} {xs : List V} (T : Bag H t m) (E : ExB t H H') (h : SqT K H a xs) : SqT K H' a xs := by
  obtain ⟨_, hT⟩ := T.get
  exact E.tup hT h
theorem at2 {x1 x2 hi r : Int} (r0 : 0 ≤ r) (r1 : r < 2) (h1 : 0 ≤ x1 ∧ x1 ≤ hi) (h2 : 0 ≤ x2 ∧ x2 ≤ hi) : ∃ v : Int, atI [V.int x1, V.int x2] r = some (.int v) ∧ 0 ≤ v ∧ v ≤ hi := by
  rcases (show r = 0 ∨ r = 1 by omega) with e | e <;> subst e
  · exact ⟨x1, rfl, h1⟩
  · exact ⟨x2, rfl, h2⟩
theorem Rw.take {xs : List Int} (R : Rw xs) {k : Nat} (h : 1 ≤ k) : Rw (xs.take k) := by
  refine ⟨?_, ?_, fun x hx => R.ok x (List.mem_of_mem_take hx)⟩
  · rw [List.length_take]; have := R.lo; omega
  · rw [List.length_take]; have := R.hi; omega
/-- the final row of a front part -/
theorem final_take {xs : List Int} {k n m : Nat} (h : Nd xs n) (h2 : Nd (xs.take k) m) : (ro n xs).take k = ro m (xs.take k) := by
  have e1 := ro_far h.still (max n m)
  have e2 := ro_far h2.still (max n m)
  rw [Nat.min_eq_right (Nat.le_max_left _ _)] at e1
  rw [Nat.min_eq_right (Nat.le_max_right _ _)] at e2
  rw [← e1, ← e2, ro_take]
end Sx
namespace Sx
open PySem PySem.Spec
open PyProof.Rows L2
section
variable {X : Cx}
theorem cr_minT (hc : X.calm = true) : CallR X (.builtin "min") (rBestT false X.K) := by
  intro pins s σ H vs us Q I r h
  obtain ⟨a, ns, rfl, hs, hne, q⟩ := h
  obtain ⟨its, rv, hl, _⟩ := I.tuple hs
  rw [Vals.ref1 r]
  obtain ⟨xs, e⟩ := rv.ints.allInts.items
  have hn : numsOf (intItems xs).toList = ns := by rw [← e]; exact rv.ints.numsOf
  rw [nums_intItems] at hn
  rw [e] at hl
  subst hn
  have hsz : 0 < xs.size := by
    rcases Nat.eq_zero_or_pos xs.size with z | z
    · exact absurd (by rw [Array.eq_empty_of_size_eq_zero z]; rfl) hne
    · exact z
  have hne2 : a ≠ s.heap.objs.size := Nat.ne_of_lt hl.lt
  refine call_min_walk (wpAny_pyIter_tuple hl ?_)
  refine ⟨_, _, _, _, _, _, _, rfl, Walks.tuple (A := X.A.in1) (I.ok.hd hc) _ a hne2 (intItems xs), ⟨⟨_, Heap.get?_push_size _ rfl, rfl, rfl⟩, hl.keeps fun b o e => Heap.get?_push_of_some _ e⟩, fun b hb => ?_,
    by simpa [intItems] using hsz, CmpOf.ints_lt (numAt xs) (fun _ _ => intItems_at), fun v h' tk hP hk => ?_⟩
  · show b < (s.heap.push _).objs.size
    rw [Heap.size_push]
    rcases List.mem_cons.mp hb with z | z
    · rw [z]; exact Nat.lt_succ_self _
    · rw [List.mem_singleton.mp z]; exact Nat.lt_succ_of_lt hl.lt
  · have hv : (intItems xs)[argBest (fun i j => decide (numAt xs i < numAt xs j)) (xs.size - 1)]? = some v := by simpa [intItems] using hP
    obtain ⟨t, rfl⟩ := intItems_at hv
    obtain ⟨h1, h2⟩ := argBest_lt (numAt xs) (xs.size - 1)
    refine ⟨.int _, H, I.kept (fun b o eo => hk b o (fun hm => ?_) (Heap.get?_push_of_some _ eo)), ⟨_, rfl⟩, q _ ?_ fun y hy => ?_⟩
    · have z := Heap.lt_size eo
      rw [List.mem_singleton] at hm
      rw [hm] at z
      exact Nat.lt_irrefl _ z
    · rw [numAt_eq]
      exact PySem.getD_mem (by rw [List.length_map, Array.length_toList]; omega)
    · rw [if_neg (by decide)]
      obtain ⟨j, hj, rfl⟩ := mem_getD hy
      rw [List.length_map, Array.length_toList] at hj
      rw [← numAt_eq]
      exact h2 j (by omega)
end
end Sx
namespace Sx
open PySem PySem.Spec
open PyProof.Rows L2
theorem cut_init (ys : List V) (z : V) : cutV (ys ++ [z]) none (some (-1)) = ys := by
  unfold cutV
  have e1 : HT.sIx (ys ++ [z]).length (ys ++ [z]).length (some (-1)) = ys.length := by
    unfold HT.sIx
    show (if (-1 : Int) < 0 then ((-1 : Int) + ((ys ++ [z]).length : Nat)).toNat else _) = _
    rw [if_pos (by decide), List.length_append]
    show ((-1 : Int) + ((ys.length + 1 : Nat) : Int)).toNat = ys.length
    omega
  rw [e1, HT.sIx_none, List.drop_zero, Nat.sub_zero, List.take_left']
  rfl
theorem slA_init {K : PySem.W.Frag} {H : Hp} {c : Addr} {ys : List V} {z : V} {Q : VK} (hS : SqT K H c (ys ++ [z])) (q : ∀ a' H', Ex H H' → SqT K H' a' ys → Q (.ref a') H') : rSlA K (.ref c) none (some (-1)) H Q := by
  refine ⟨c, _, rfl, hS, fun hw => ?_, fun _ p hp => q p _ (Evl.Ex.new hp) (SqT.of (by rw [upd_same, cut_init]))⟩
  exfalso
  have h := hw.2
  unfold HT.sIx at h
  have h : (if (-1 : Int) < 0 then ((-1 : Int) + ((ys ++ [z]).length : Nat)).toNat else min ((-1 : Int).toNat) (ys ++ [z]).length) = (ys ++ [z]).length := h
  rw [if_pos (by decide), List.length_append] at h
  have h : ((-1 : Int) + ((ys.length + 1 : Nat) : Int)).toNat = ys.length + 1 := h
  omega
theorem g_left {xs ys : List Int} {i : Nat} (h : i < xs.length) : g (xs ++ ys) i = g xs i := by
  unfold g
  rw [List.getD_eq_getElem?_getD, List.getD_eq_getElem?_getD, List.getElem?_append_left h]
theorem g_snoc {xs : List Int} {y : Int} : g (xs ++ [y]) xs.length = y := by
  unfold g
  rw [List.getD_eq_getElem?_getD, List.getElem?_append_right (Nat.le_refl _), Nat.sub_self]; rfl
/-- one more entry that the last one hinders -/
theorem spans_snoc {xs : List Int} {y : Int} (h : 1 ≤ xs.length) (hy : y ≤ g xs (xs.length - 1)) : spans (xs ++ [y]) = spans xs ++ [1] := by
  have hlen : (xs ++ [y]).length = xs.length + 1 := by rw [List.length_append]; rfl
  refine g_ext (by rw [spans_len, hlen, List.length_append, spans_len]; rfl) fun i hi => ?_
  rw [spans_len, hlen] at hi
  by_cases c : i < xs.length
  · have e : (spans xs) = (spans (xs ++ [y])).take xs.length := by
      rw [← spans_take, List.take_left']
      rfl
    rw [g_left (by rw [spans_len]; exact c), e, g_take c]
  · have ei : i = xs.length := by omega
    subst ei
    rw [spans_g (by omega)]
    have e2 : g (spans xs ++ [1]) xs.length = 1 := by
      have := g_snoc (xs := spans xs) (y := 1)
      rw [spans_len] at this
      exact this
    rw [e2]
    unfold spn
    rw [g_snoc]
    have eb : bk (xs ++ [y]) y xs.length = xs.length := by
      obtain ⟨n, hn⟩ : ∃ n, xs.length = n + 1 := ⟨xs.length - 1, by omega⟩
      rw [hn]
      show (if g (xs ++ [y]) n < y then bk (xs ++ [y]) y n else n + 1) = n + 1
      rw [g_left (by omega), if_neg]
      have : xs.length - 1 = n := by omega
      rw [this] at hy
      omega
    rw [eb]; omega
theorem ro_snoc {xs : List Int} {y : Int} (h : 1 ≤ xs.length) (hy : y ≤ g xs (xs.length - 1)) : ∀ k, ro (k + 1) (xs ++ [y]) = ro (k + 1) xs ++ [1]
  | 0 => spans_snoc h hy
  | k + 1 => by
    show spans (ro (k + 1) (xs ++ [y])) = spans (ro (k + 1) xs) ++ [1]
    rw [ro_snoc h hy k, spans_snoc (by rw [ro_len]; exact h)]
    have L := spans_lam (ro k xs)
    have := L.lo ((ro (k + 1) xs).length - 1) (by rw [ro_len, spans_len, ro_len]; omega)
    exact this
theorem spn_snoc {xs : List Int} {y : Int} (h : 1 ≤ xs.length) (hy : y ≤ g xs (xs.length - 1)) : spn (xs ++ [y]) xs.length = 1 := by
  have e : g (spans (xs ++ [y])) xs.length = 1 := by
    rw [spans_snoc h hy]
    have := g_snoc (xs := spans xs) (y := 1)
    rw [spans_len] at this
    exact this
  rw [spans_g (by rw [List.length_append]; exact Nat.lt_succ_self _)] at e
  exact e
end Sx

set_option Elab.async false
set_option linter.all false
set_option maxRecDepth 100000
set_option maxHeartbeats 4000000
namespace Sx
open PySem PySem.Spec
open PyProof.Rows L2
section
variable {P : Program} {w : World} {A : Around} {E : Value → Shared → Prop} {s : Shared} {a : Addr}
/-- sorted of a set of ints, many of them -/
theorem sorted_setB {S : Int → Bool} {n : Nat} {Q : Value → Shared → Prop} (R : SetR w s.heap a S n) (hh : A.handled = none) (h64 : n ≤ 1000)
    (hQ : ∀ s' p (out : Array Value) (c : Nat) (ns : List Int), (∀ b o, s.heap.get? b = some o → s'.heap.get? b = some o) → s'.gens = s.gens → s'.os = s.os → s.heap.objs.size ≤ p →
      s'.heap.get? p = some (seqObj "list" out c) → IntsAre out.toList ns → ns.Pairwise (· < ·) → (∀ k, k ∈ ns ↔ S k = true) → ns.length = n → Q (.ref p) s') :
    wpAny (model P w) A (call (.builtin "sorted") [.ref a]) Q E s := by
  obtain ⟨o, es, ep, t, ho, hex, hd, g, nd, hm, hb, hf, hn, hr, hl⟩ := R
  refine Calls.call_function_entry kind_sorted plain_sorted entry_sorted (args_sorted1 _) ?_
  unfold Builtin.«sorted»
  refine wpAny_bind (m := checkCount "sorted" 1 1 _) (wpAny_pure ?_)
  refine wpAny_bind (collect_set (A := A.in1) hh ⟨o, ho, hex.1, hd⟩ hf hb hr hl fun s1 vs k1 hz g1 o1 pm => ?_)
  have hvl : vs.length = n := by rw [pm.length_eq, List.length_map, Array.length_toList]; exact hn
  have hI : IntsAre vs (vs.map Builtin.Re.reRawOf) := ints_of vs fun v hv => by
    obtain ⟨e, he, q⟩ := List.mem_map.mp (pm.mem_iff.mp hv)
    obtain ⟨k, tk, h1, _⟩ := g e he
    exact ⟨k, tk, by rw [← q]; exact h1⟩
  have pk : (vs.map Builtin.Re.reRawOf).Perm (es.toList.map keyOf) := by
    have q := pm.map Builtin.Re.reRawOf
    rw [List.map_map] at q
    exact q
  have hz2 : vs.length ≤ sizeLine := by rw [hvl, sizeLine_eq]; omega
  refine wpAny_bind (wpAny_newList ?_ hz2)
  have hoL : (s1.heap.push (seqObj "list" vs.toArray 0)).get? s1.heap.objs.size = some (seqObj "list" vs.toArray 0) := Heap.get?_push_size _ rfl
  refine wpAny_bind (wpAny_holding (wpAny_call_entry slot_list_sort ⟨_, hoL, rfl⟩ entry_list_sort
    (SrtO.list_sort_ord SrtO.swo_int hoL hz2 (fun h2 => SrtO.ints_sortable hI h2) fun out h1 h2 => ⟨_, rfl, ?_⟩) (args_list_sort _)))
  obtain ⟨a1, a2, a3⟩ := SrtO.ints_out hI h1 h2
  obtain ⟨c, hc⟩ := sortedHeap_at (vs := vs) (out := out.toArray) hoL
  have pn : (out.map SrtO.iv).Perm (es.toList.map keyOf) := a2.trans pk
  refine wpAny_pure ⟨_, rfl, hQ _ s1.heap.objs.size out.toArray c (out.map SrtO.iv) (fun b u e => ?_) g1 o1 hz hc a1 (lt_of_le_nodup _ a3 (pn.nodup_iff.mpr nd)) (fun k => by rw [pn.mem_iff, ← hm k]) ?_⟩
  · have q := k1 b u e
    have hlt := Heap.lt_size q
    show (sortedHeap (s1.heap.push (seqObj "list" vs.toArray 0)) s1.heap.objs.size vs out.toArray).get? b = some u
    rw [sortedHeap_old (Nat.ne_of_lt hlt) (by rw [size_push']; exact Nat.lt_succ_of_lt hlt)]
    exact Heap.get?_push_of_some _ q
  · rw [pn.length_eq, List.length_map, Array.length_toList]; exact hn
end
section
variable {X : Cx}
/-- set(t) of a tuple of ints -/
def rSetTI (K : PySem.W.Frag) (w : World) : List V → Hp → VK → Prop := fun xs H Q => ∃ (l : Addr) (ns : List Int), xs = [V.ref l] ∧ SqT K H l (ns.map V.int) ∧ ns.length ≤ 1000 ∧
  ∀ (p : Addr) (c : Nat), H p = none → c ≤ ns.length → Q (.ref p) (upd H p (SetO w p (fun j => decide (j ∈ ns)) c))
theorem cr_setTI (hc : X.calm = true) : CallR X (.type "set") (rSetTI X.K X.w) := by
  intro pins s σ H xs us Q I r h
  obtain ⟨l, ns, rfl, hl, hz, q⟩ := h
  rw [Vals.ref1 r]
  obtain ⟨its, rv, pt, _⟩ := I.tuple hl
  have hi : IntsAre its.toArray.toList ns := ints_of_vals rv
  refine call_set_tupI ns (I.ok.hd hc) (show s.heap.IsTuple l its.toArray from pt) hi (by unfold scanBound; omega) fun h' tk c R hcn k => ?_
  exact ⟨.ref s.heap.objs.size, upd H s.heap.objs.size (SetO X.w s.heap.objs.size (fun j => decide (j ∈ ns)) c), I.laid (t' := tk) k (Nat.le_refl _) (setO_new R), rfl, q _ c (I.hok.fresh (Nat.le_refl _)) hcn⟩
/-- sorted(set) -/
def rSortedSetB (w : World) : List V → Hp → VK → Prop := fun vs H Q => ∃ (a : Addr) (S : Int → Bool) (n : Nat), vs = [V.ref a] ∧ H a = some (SetO w a S n) ∧ n ≤ 1000 ∧
  ∀ (ns : List Int) (p : Addr), ns.Pairwise (· < ·) → (∀ k : Int, k ∈ ns ↔ S k = true) → ns.length = n → H p = none → Q (.ref p) (upd H p (.lst (ns.map V.int)))
theorem cr_sortedSetB (hc : X.calm = true) : CallR X (.builtin "sorted") (rSortedSetB X.w) := by
  intro pins s σ H vs us Q I r h
  obtain ⟨a, S, n, rfl, ha, h64, q⟩ := h
  have R := setO_get I ha
  rw [Vals.ref1 r]
  refine sorted_setB R (I.ok.hd hc) h64 fun s' p out c ns k g o hp hg hi hs hm hl => ?_
  have hlen : (ns.map V.int).length ≤ sizeLine := by rw [List.length_map, hl, sizeLine_eq]; omega
  have hn : H p = none := I.hok.fresh hp
  have J : Inv X pins σ (upd H p (.lst (ns.map V.int))) { s with heap := s'.heap, gens := s'.gens, drawn := s'.drawn, toks := s'.toks } :=
    I.call (ch := []) (Un.laid k hp hn) (I.hok.laid k hp ⟨hlen, out.toList, c, vals_of_ints hi, hg⟩) (by rw [g]; exact I.bare) (fun _ z => nomatch z)
  have e : s' = { s with heap := s'.heap, gens := s'.gens, drawn := s'.drawn, toks := s'.toks } := by
    cases s'
    cases s
    cases o
    rfl
  rw [e]
  exact ⟨.ref p, _, J, rfl, q ns p hs hm hl hn⟩
end
end Sx

set_option Elab.async false
set_option linter.all false
namespace Sx
open PySem PySem.Spec
open PyProof.Rows L2
/-- the first place of x -/
def ix (x : Int) : List Int → Nat
  | [] => 0
  | y :: ys => if y = x then 0 else ix x ys + 1
theorem ix_lt {x : Int} : ∀ {ys : List Int}, x ∈ ys → ix x ys < ys.length
  | [], h => absurd h List.not_mem_nil
  | y :: ys, h => by
    unfold ix
    split
    · exact Nat.succ_pos _
    · rcases List.mem_cons.mp h with e | h
      · exact absurd e.symm (by assumption)
      · exact Nat.succ_lt_succ (ix_lt h)
theorem ix_at {x : Int} : ∀ {ys : List Int}, x ∈ ys → ys[ix x ys]? = some x
  | [], h => absurd h List.not_mem_nil
  | y :: ys, h => by
    unfold ix
    split
    · rename_i e; rw [e]; rfl
    · rcases List.mem_cons.mp h with e | h
      · exact absurd e.symm (by assumption)
      · exact ix_at h
theorem ix_first {x : Int} : ∀ {ys : List Int} {m : Nat} {z : Int}, m < ix x ys → ys[m]? = some z → z ≠ x
  | [], m, z, h, _ => absurd h (Nat.not_lt_zero _)
  | y :: ys, m, z, h, hz => by
    unfold ix at h
    split at h
    · exact absurd h (Nat.not_lt_zero _)
    · cases m with
      | zero => cases hz; assumption
      | succ m => exact ix_first (Nat.lt_of_succ_lt_succ h) hz
theorem sorted_g {ys : List Int} (h : ys.Pairwise (· < ·)) {i j : Nat} (hi : i < ys.length) (hj : j < ys.length) : g ys i < g ys j ↔ i < j := by
  have key : ∀ {i j : Nat}, i < j → j < ys.length → g ys i < g ys j := fun {i j} hij hj => by
    have := List.pairwise_iff_getElem.mp h i j (by omega) hj hij
    have hi' : i < ys.length := by omega
    have e1 : g ys i = ys[i] := Option.some.inj ((g_get hi').symm.trans (List.getElem?_eq_getElem hi'))
    have e2 : g ys j = ys[j] := Option.some.inj ((g_get hj).symm.trans (List.getElem?_eq_getElem hj))
    rw [e1, e2]
    exact this
  constructor
  · intro hlt
    rcases Nat.lt_trichotomy i j with c | c | c
    · exact c
    · subst c; omega
    · have := key c hi; omega
  · intro c; exact key c hj
/-- other entries in the same order -/
def other (old new xs : List Int) : List Int := xs.map fun x => g new (ix x old)
theorem other_len (old new xs : List Int) : (other old new xs).length = xs.length := List.length_map ..
theorem other_g {old new xs : List Int} {i : Nat} (h : i < xs.length) : g (other old new xs) i = g new (ix (g xs i) old) := by
  unfold other
  show (xs.map _).getD i 0 = _
  rw [List.getD_eq_getElem?_getD, List.getElem?_map, g_get h]; rfl
theorem other_spans {old new xs : List Int} (ho : old.Pairwise (· < ·)) (hn : new.Pairwise (· < ·)) (hl : new.length = old.length) (hm : ∀ x, x ∈ xs → x ∈ old) : spans (other old new xs) = spans xs := by
  refine spans_order (other_len ..) fun i j hi hj => ?_
  rw [other_len] at hi hj
  rw [other_g hi, other_g hj]
  have mi := hm _ (List.mem_of_getElem? (g_get hi))
  have mj := hm _ (List.mem_of_getElem? (g_get hj))
  have li := ix_lt mi
  have lj := ix_lt mj
  rw [sorted_g hn (by omega) (by omega)]
  have gi : g old (ix (g xs i) old) = g xs i := by
    have := ix_at mi
    rw [g_get li] at this
    exact Option.some.inj this
  have gj : g old (ix (g xs j) old) = g xs j := by
    have := ix_at mj
    rw [g_get lj] at this
    exact Option.some.inj this
  have := sorted_g ho li lj
  rw [gi, gj] at this
  exact this.symm
theorem ro_same {xs ys : List Int} (h : spans ys = spans xs) : ∀ k, ro (k + 1) ys = ro (k + 1) xs
  | 0 => h
  | k + 1 => by show spans (ro (k + 1) ys) = spans (ro (k + 1) xs); rw [ro_same h k]
theorem mt_same {xs ys : List Int} {v : V} (h : spans ys = spans xs) (m : Mt ys xs v) : v = .int 0 ∨ v = .int 1 := by
  cases m with
  | «at» r e l =>
    rcases (show r = 0 ∨ r = 1 ∨ 2 ≤ r by omega) with c | c | c
    · left; rw [c]; rfl
    · right; rw [c]; rfl
    · exact absurd (ro_same h 0) (l 1 (by omega))
  | no l => exact absurd (ro_same h 0) (l 1)
theorem nd_near {xs : List Int} {n e : Nat} (hz : xs.length ≤ 100) (h : Nd xs n) (he : Nd (spans xs) e) : n = e ∨ n = e + 1 := by
  by_cases c : spans xs = xs
  · left
    rw [c] at he
    exact h.uniq he
  · right
    exact h.uniq (he.step c)
theorem nd_same {xs ys : List Int} {n m : Nat} (hz : xs.length ≤ 100) (hl : ys.length = xs.length) (h : spans ys = spans xs) (h1 : Nd ys n) (h2 : Nd xs m) : (n : Int) - m < 2 ∧ (m : Int) - n < 2 := by
  obtain ⟨e, _, he⟩ := nd_any (spans xs) (by rw [spans_len]; exact hz)
  have a := nd_near hz h2 he
  rw [← h] at he
  have b := nd_near (by omega) h1 he
  omega
/-- hinderers are those of the spans -/
theorem spn_same {xs ys : List Int} (h : spans ys = spans xs) {i : Nat} (hi : i < xs.length) : spn ys i = spn xs i := by
  have hl : ys.length = xs.length := by have := congrArg List.length h; rw [spans_len, spans_len] at this; exact this
  rw [← spans_g hi, ← spans_g (xs := ys) (by omega), h]
theorem hind_same {xs ys : List Int} (h : spans ys = spans xs) {i : Nat} (hi : i < xs.length) : hind ys i = hind xs i := by
  have e := spn_same h hi
  unfold spn at e
  unfold hind
  rw [show (bk ys (g ys i) i : Int) = bk xs (g xs i) i by omega]
end Sx
namespace Sx
open PySem PySem.Spec
open PyProof.Rows L2
theorem hind_d (xs : List Int) (i : Nat) : ∃ d, (∀ (K : PySem.W.Frag) (H : Hp), Dp K H (hind xs i) d) ∧ SeqAt.shaped d = true ∧ PyData.eqv d d = true := by
  unfold hind
  split
  · exact ⟨.none, fun K H => .non, by decide, rfl⟩
  · refine ⟨.int ((bk xs (g xs i) i : Int) - 1), fun K H => .int _, by simp [SeqAt.shaped, PyData.canLay0, PyData.depth], ?_⟩
    simp [PyData.eqv]
end Sx

set_option Elab.async false
set_option linter.all false
namespace Sx
/-! ### growth as Fibonacci's numbers -/
theorem ro_lam (xs : List Int) (t : Nat) : Lam (ro (t + 1) xs) := spans_lam (ro t xs)
theorem ro_ge {xs : List Int} {t i : Nat} (h : i < xs.length) : g (ro (t + 1) xs) i ≤ g (ro (t + 2) xs) i := spans_ge (ro_lam xs t) (by rw [ro_len]; exact h)
theorem ro_spn {xs : List Int} {t i : Nat} (h : i < xs.length) : g (ro (t + 1) xs) i = (i : Int) - bk (ro t xs) (g (ro t xs) i) i + 1 := by
  show g (spans (ro t xs)) i = _
  rw [spans_g (by rw [ro_len]; exact h)]; rfl
/-- what a skipped place covers is skipped too -/
theorem bk_under {xs : List Int} {i j : Nat} (hij : j < i) (hb : bk xs (g xs i) i ≤ j) : bk xs (g xs i) i ≤ bk xs (g xs j) j := by
  refine Nat.le_of_not_lt fun c => ?_
  have hlt := bk_lt (xs := xs) (e := g xs i) (f := i) (j := j) hb hij
  have hp : 0 < bk xs (g xs i) i := by omega
  have h1 := bk_ge (xs := xs) (e := g xs i) (f := i) hp
  have h2 := bk_lt (xs := xs) (e := g xs j) (f := j) (j := bk xs (g xs i) i - 1) (by omega) (by omega)
  omega
/-- an entry that grows from round t + 2 to t + 3: some place j in front was its hinderer before, and is skipped now -/
theorem grow_at {xs : List Int} {t i : Nat} (h : i < xs.length) (hg : g (ro (t + 2) xs) i < g (ro (t + 3) xs) i) :
    ∃ j, j < i ∧ g (ro (t + 1) xs) i ≤ g (ro (t + 1) xs) j ∧ g (ro (t + 2) xs) j < g (ro (t + 2) xs) i ∧ g (ro (t + 2) xs) i + g (ro (t + 3) xs) j ≤ g (ro (t + 3) xs) i := by
  have e2 : g (ro (t + 2) xs) i = (i : Int) - bk (ro (t + 1) xs) (g (ro (t + 1) xs) i) i + 1 := ro_spn h
  have e3 : g (ro (t + 3) xs) i = (i : Int) - bk (ro (t + 2) xs) (g (ro (t + 2) xs) i) i + 1 := ro_spn h
  have hb : bk (ro (t + 2) xs) (g (ro (t + 2) xs) i) i < bk (ro (t + 1) xs) (g (ro (t + 1) xs) i) i := by omega
  have hle := bk_le (ro (t + 1) xs) (g (ro (t + 1) xs) i) i
  refine ⟨bk (ro (t + 1) xs) (g (ro (t + 1) xs) i) i - 1, by omega, bk_ge (by omega), ?_, ?_⟩
  · exact bk_lt (f := i) (by omega) (by omega)
  · have hj : bk (ro (t + 1) xs) (g (ro (t + 1) xs) i) i - 1 < xs.length := by omega
    have e4 : g (ro (t + 3) xs) _ = _ := ro_spn (t := t + 2) hj
    have hu := bk_under (xs := ro (t + 2) xs) (i := i) (j := bk (ro (t + 1) xs) (g (ro (t + 1) xs) i) i - 1) (by omega) (by omega)
    omega
theorem grow {xs : List Int} {t i : Nat} (h : i < xs.length) (hg : g (ro (t + 2) xs) i < g (ro (t + 3) xs) i) :
    g (ro (t + 1) xs) i < g (ro (t + 2) xs) i ∧ g (ro (t + 2) xs) i + g (ro (t + 1) xs) i ≤ g (ro (t + 3) xs) i := by
  obtain ⟨j, hj, h1, h2, h3⟩ := grow_at h hg
  have a := ro_ge (xs := xs) (t := t) (i := j) (by omega)
  have b : g (ro (t + 2) xs) j ≤ g (ro (t + 3) xs) j := ro_ge (t := t + 1) (by omega)
  omega
/-- growth in the second round -/
theorem grow2 {xs : List Int} {i : Nat} (h : i < xs.length) (hg : g (ro 1 xs) i < g (ro 2 xs) i) : 2 ≤ g (ro 1 xs) i ∧ g (ro 1 xs) i + 1 ≤ g (ro 2 xs) i := by
  refine ⟨?_, by omega⟩
  have e1 : g (ro 1 xs) i = (i : Int) - bk (ro 0 xs) (g (ro 0 xs) i) i + 1 := ro_spn (t := 0) h
  have e2 : g (ro 2 xs) i = (i : Int) - bk (ro 1 xs) (g (ro 1 xs) i) i + 1 := ro_spn (t := 1) h
  have hb : bk (ro 1 xs) (g (ro 1 xs) i) i < bk (ro 0 xs) (g (ro 0 xs) i) i := by omega
  have hle := bk_le (ro 0 xs) (g (ro 0 xs) i) i
  have hlt := bk_lt (xs := ro 1 xs) (e := g (ro 1 xs) i) (f := i) (j := bk (ro 0 xs) (g (ro 0 xs) i) i - 1) (by omega) (by omega)
  have := (ro_lam xs 0).lo (bk (ro 0 xs) (g (ro 0 xs) i) i - 1) (by rw [ro_len]; omega)
  show 2 ≤ g (ro 1 xs) i
  have : (1 : Int) ≤ g (ro 1 xs) (bk (ro 0 xs) (g (ro 0 xs) i) i - 1) := this
  omega
def fib : Nat → Int
  | 0 => 0
  | 1 => 1
  | n + 2 => fib n + fib (n + 1)
/-- an entry that grows in round t + 2 has F(t + 4) -/
theorem grow_fib {xs : List Int} {i : Nat} (h : i < xs.length) : ∀ t, g (ro (t + 1) xs) i < g (ro (t + 2) xs) i → fib (t + 3) ≤ g (ro (t + 1) xs) i ∧ fib (t + 4) ≤ g (ro (t + 2) xs) i
  | 0, hg => by
    obtain ⟨a, b⟩ := grow2 h hg
    exact ⟨a, by show (3 : Int) ≤ g (ro 2 xs) i; omega⟩
  | t + 1, hg => by
    obtain ⟨a, b⟩ := grow h hg
    obtain ⟨c, d⟩ := grow_fib h t a
    refine ⟨d, ?_⟩
    show fib (t + 3) + fib (t + 4) ≤ g (ro (t + 3) xs) i
    omega
/-- the rounds that are needed, from two on, are at most as many as Fibonacci's numbers allow -/
theorem nd_fib {xs : List Int} {n : Nat} (h : Nd xs (n + 2)) : fib (n + 4) ≤ xs.length := by
  have hne : spans (ro (n + 1) xs) ≠ ro (n + 1) xs := h.least (n + 1) (by omega)
  have : ∃ i, i < xs.length ∧ g (ro (n + 1) xs) i < g (ro (n + 2) xs) i := by
    refine Classical.byContradiction fun c => hne ?_
    refine (g_ext (by rw [spans_len]) fun i hi => ?_).symm
    rw [ro_len] at hi
    have h1 := ro_ge (xs := xs) (t := n) hi
    have h2 : ¬ g (ro (n + 1) xs) i < g (ro (n + 2) xs) i := fun k => c ⟨i, hi, k⟩
    show g (ro (n + 1) xs) i = g (ro (n + 2) xs) i
    omega
  obtain ⟨i, hi, hg⟩ := this
  have h1 := (grow_fib hi n hg).2
  have h2 := (ro_lam xs (n + 1)).hi i (by rw [ro_len]; exact hi)
  have h2 : g (ro (n + 2) xs) i ≤ (i : Int) + 1 := h2
  omega
end Sx
namespace Sx
theorem fib_pos : ∀ t : Nat, 1 ≤ fib (t + 1)
  | 0 => by decide
  | 1 => by decide
  | t + 2 => by
    have h1 := fib_pos t
    have h2 : 1 ≤ fib (t + 2) := fib_pos (t + 1)
    show 1 ≤ fib (t + 1) + fib (t + 2)
    omega
theorem fib_mono {s t : Nat} (h : s ≤ t) : fib (s + 1) ≤ fib (t + 1) := by
  induction t with
  | zero => have : s = 0 := by omega
            rw [this]; exact Int.le_refl _
  | succ t ih =>
    by_cases e : s = t + 1
    · rw [e]; exact Int.le_refl _
    · have := ih (by omega)
      have h2 : fib (t + 1 + 1) = fib t + fib (t + 1) := rfl
      have h3 : 0 ≤ fib t := by
        cases t with
        | zero => decide
        | succ t => have := fib_pos t; omega
      omega
/-- no row needs more rounds than Fibonacci's numbers allow -/
theorem nd_most {xs : List Int} {n t : Nat} (h : Nd xs n) (ht : (xs.length : Int) < fib (t + 3)) : n ≤ max t 1 := by
  by_cases c : n ≤ 1
  · omega
  · obtain ⟨k, rfl⟩ : ∃ k, n = k + 2 := ⟨n - 2, by omega⟩
    have h1 := nd_fib h
    refine Classical.byContradiction fun d => ?_
    have h2 : fib (t + 3) ≤ fib (k + 4) := fib_mono (s := t + 2) (t := k + 3) (by omega)
    omega
theorem ra_le {xs : List Int} {i r n : Nat} (h : RA xs i r) (hn : Nd xs n) : r ≤ n := by
  refine Classical.byContradiction fun c => ?_
  obtain ⟨k, k1, k2⟩ := h.least n (by omega)
  rw [ro_far hn.still k, Nat.min_eq_right k1] at k2
  exact k2 rfl
end Sx

set_option Elab.async false
set_option linter.all false
set_option maxRecDepth 100000
set_option maxHeartbeats 1000000
namespace Sx
open PySem PySem.Spec
open PyProof.Rows L2
/-! ### yield from a list that the generator alone holds -/
section
variable {prog : Program} {w : World} {A : Around} {E : Value → Shared → Prop} {s : Shared}
theorem sp_lst_item {it t : Addr} {i : Nat} {us : Array Value} {x : Value} {Q : Option Value → Shared → Prop} (hit : s.heap.IsListIter it t i) (ht : s.heap.IsList t us) (hx : us[i]? = some x)
    (hQ : ∀ h', h'.IsListIter it t (i + 1) → Heap.SameBut it s.heap h' → Q (some x) { s with heap := h' }) : wpAny (model prog w) A (callSpecial? (.ref it) "__next__") Q E s := by
  obtain ⟨o, ho, hc, hd⟩ := id hit
  obtain ⟨ol, hol, _, nl, hdl⟩ := ht
  refine wpAny_callSpecial?_slot (name := Str.ofString "__next__") hit.typeIs slot_listiter_next (wpAny_call_entry slot_listiter_next hit.typeIs entry_listiter_next ?_ (args_listiter_next _))
  show wpAny _ _ (field (.ref it) 0 >>= _) _ _ s
  refine wpAny_bind (wpAny_field ho hd (x := .ref t) rfl (show wpAny _ _ (if (Value.ref t == Value.none) = true then _ else _) _ _ s from ?_))
  rw [if_neg (show ¬ ((Value.ref t == Value.none) = true) from Bool.false_ne_true)]
  show wpAny _ _ (field (.ref it) 1 >>= _) _ _ s
  refine wpAny_bind (wpAny_field ho hd (x := .int i 0) rfl (show wpAny _ _ (seqItems? (.ref t) >>= _) _ _ s from wpAny_bind (wpAny_seqItems hol hdl ?_)))
  simp only [Int.toNat_natCast, hx]
  refine wpAny_bind (wpAny_setField ho hd (by simp) (wpAny_pure ⟨x, rfl, hQ _ ⟨_, Heap.get?_update_self _ ho (Obj.isFreed_of_fields (Obj.data_mapFields hd _)), (Obj.cls_mapFields ..).trans hc, ?_⟩ (Heap.SameBut.update ..)⟩))
  rw [Obj.data_mapFields hd]; simp [rawInt]
theorem sp_lst_end {it t : Addr} {i : Nat} {us : Array Value} {Q : Option Value → Shared → Prop} (hh : A.handled = none) (hit : s.heap.IsListIter it t i) (ht : s.heap.IsList t us) (hx : us[i]? = none)
    (hE : ∀ e h', StopX e h' → Heap.ExtBut it s.heap h' → E e { s with heap := h' }) : wpAny (model prog w) A (callSpecial? (.ref it) "__next__") Q E s := by
  obtain ⟨o, ho, hc, hd⟩ := id hit
  obtain ⟨ol, hol, _, nl, hdl⟩ := ht
  refine wpAny_callSpecial?_slot (name := Str.ofString "__next__") hit.typeIs slot_listiter_next (wpAny_call_entry slot_listiter_next hit.typeIs entry_listiter_next ?_ (args_listiter_next _))
  show wpAny _ _ (field (.ref it) 0 >>= _) _ _ s
  refine wpAny_bind (wpAny_field ho hd (x := .ref t) rfl (show wpAny _ _ (if (Value.ref t == Value.none) = true then _ else _) _ _ s from ?_))
  rw [if_neg (show ¬ ((Value.ref t == Value.none) = true) from Bool.false_ne_true)]
  show wpAny _ _ (field (.ref it) 1 >>= _) _ _ s
  refine wpAny_bind (wpAny_field ho hd (x := .int i 0) rfl (show wpAny _ _ (seqItems? (.ref t) >>= _) _ _ s from wpAny_bind (wpAny_seqItems hol hdl ?_)))
  simp only [Int.toNat_natCast, hx]
  refine wpAny_bind (wpAny_rule (wpAny_bind (wpAny_setField ho hd (by simp) (show wpAny _ _ (newExc (.type "StopIteration") [] >>= _) _ _ _ from wpAny_bind ?_))))
  simp only [newExc, newTuple]
  refine wpAny_bind (wpAny_newObj_type (wpAny_bind (m := firstArgMember _ _) (wpAny_of_eq (a := Value.none) (by first | rfl | (simp only [firstArgMember]; rfl)) (wpAny_newObj_type ?_ (by size_fits)))) (by size_fits))
  simp only [raiseNew]
  refine wpAny_bind (wpAny_handled ?_)
  first | rw [show A.in1.handled = none from hh] | rw [hh]
  refine wpAny_bind (wpAny_pure (wpAny_throw (hE _ _ ⟨_, _, _, rfl, Heap.get?_push_size _ rfl, rfl, rfl, ?_⟩ (((Heap.SameBut.update ..).extBut.push _).push _))))
  first
    | rfl
    | (rw [Array.getElem?_append_left (by decide)]; rfl)
    | kernel_rfl
end
section
variable {X : Cx} {e : Expr} {te : TE}
def tYfLst (te : TE) : TYf := fun σ H Q => te σ H fun x H1 => ∃ a xs, x = .ref a ∧ H1 a = some (.lst xs) ∧ Q xs H1
theorem close_lst : typeLookup (.type "list_iterator") "close" = pure none := by rw [typeLookup_type, builtinLookup_eq_fast]; kernel_rfl
theorem yf_lst (he : PE X e te) : YfE X e (tYfLst te) := by
  refine ⟨fun pins s σ H Q I h => ?_⟩
  refine thn (he.run pins s σ H _ I h) fun v s1 ⟨x, H1, I1, r1, a, xs, ex, ha, hq⟩ => ?_
  subst ex
  obtain rfl : v = Value.ref a := r1
  obtain ⟨hlen, its, c0, rits, hob⟩ := I1.hok a _ ha
  have ht : s1.heap.IsList a its.toArray := ⟨_, hob, rfl, c0, rfl⟩
  refine ⟨"list", ht.typeIs, by decide, wpAny_pyIter_list ht ?_⟩
  have ksz : ∀ b o, s1.heap.get? b = some o → b ≠ s1.heap.objs.size := fun b o e => Nat.ne_of_lt (Heap.lt_size e)
  have kp : ∀ b o, s1.heap.get? b = some o → (s1.heap.push { cls := .type "list_iterator", data := .fields #[.ref a, .int 0 0] }).get? b = some o := fun b o e => Heap.get?_push_of_some _ e
  refine ⟨s1.heap.objs.size, H1, xs, fun j h => h.IsListIter s1.heap.objs.size a j ∧ h.IsList a its.toArray, rfl, I1.kept (t' := s1.toks) kp, .inr I1.sz, Nat.ne_of_gt I1.lt, fun y c hy => ?_, I1.hok.fresh (Nat.le_refl _), fun p hp => ?_,
    ⟨⟨_, Heap.get?_push_size _ rfl, rfl, rfl⟩, ht.push _⟩, ⟨⟨"list_iterator", fun j h q => ?_, close_lst, by decide⟩, fun j h h' q hk => ?_, fun A' j x s2 Q' E' hA hx q hQ => ?_, fun A' s2 Q' E' hA q hE => ?_⟩, hq⟩
  · obtain ⟨v, o, ho, _⟩ := I1.cell y c hy
    exact ksz c o ho
  · exact ksz p.1 _ (I1.pin p hp).1
  · obtain ⟨⟨o, ho, hc, _⟩, _⟩ := q
    exact ⟨o, ho, hc⟩
  · obtain ⟨⟨o, ho, r⟩, o2, ho2, r2⟩ := q
    exact ⟨⟨o, hk _ o (.inl rfl) ho, r⟩, o2, hk _ o2 (.inr (by rw [ha]; exact fun z => by cases z)) ho2, r2⟩
  · obtain ⟨q1, q2⟩ := q
    obtain ⟨u, hu, ru⟩ := rits.get hx
    have hne : a ≠ s1.heap.objs.size := Nat.ne_of_lt (Heap.lt_size hob)
    exact sp_lst_item q1 q2 (x := u) (by simpa using hu) fun h' q1' hs => hQ u h' s2.toks ru ⟨q1', q2.extBut hs.extBut hne⟩ fun b o hb eb => hs.extBut b o hb eb
  · obtain ⟨q1, q2⟩ := q
    have hnone : its.toArray[xs.length]? = none := by
      have e := rits.length
      have e2 : its[xs.length]? = none := List.getElem?_eq_none_iff.mpr (by omega)
      simpa using e2
    exact sp_lst_end hA q1 q2 hnone fun e h' hS hk => hE e h' s2.toks hS fun b o hb eb => hk b o hb eb
end
/-- no exception comes out -/
theorem passCX {X : Cx} : Passes (CX X.prog X.w) X E0 := fun _ _ _ _ _ _ _ h => by
  obtain ⟨_, _, _, _, _, _, _, _, _, _, _, _, z⟩ := h
  exact z.elim
theorem noStop0 {K : PySem.W.Frag} : NoStop K E0 := fun _ _ _ h => h.elim
/-- a generator def of the module under its name -/
structure GenAt (P : Program) (w : World) (K : PySem.W.Frag) (mg : Str → Option Value) (base : Heap) (k : Nat) (x : Str) (sp : SpG) : Prop where
  ex : ∃ (f : Addr) (fd : FuncData) (ps : List Str), GFn P w K mg base k f fd ps sp ∧ mg x = some (.ref f) ∧ PySem.W.keepIn K (.ref f) = true ∧ Binds K fd ps []
section
variable {P : Program} {w : World} {K : PySem.W.Frag} {mg : Str → Option Value} {base : Heap} {x : Str} {st : Stmt} {N ps : List Str} {f : Addr} {fd : FuncData} {k : Nat} {sp : SpG}
theorem DefAt.gen (D : DefAt K mg x st ps f fd) (S : GScope N ps (defScope st)) (len : ∀ vs H Q E, sp vs H Q E → vs.length = ps.length)
    (hbody : ∀ (cdv : Value) (A : Around) (outer : List Env) (s : Shared) (H : Hp) (vs : List V) (Q : List V → Hp → Prop) (E : XK) (pn : List (Addr × Obj)), Room k (A.deeper (envOfC x (defScope st) s.heap.objs.size f cdv)) → sp vs H Q E →
      ∃ t, GSs (gcxOf P w K mg base N x (defScope st) f cdv A outer s H E pn) (defBody st) t ∧ t { nx := fun ys _ H' => Q ys H', rt := fun ys v H' => v = .non ∧ Q ys H' } [] (start N vs) H) : GenAt P w K mg base (k + 1) x sp := by
  obtain ⟨oc, od, kV, doc, pm, an, cdv, ct, osl, rfl, lk, hcd⟩ := D.fn.ex
  exact ⟨f, _, ps, gfn_of lk hcd S len (hbody cdv), D.at_, D.fn.kp, D.bi⟩
end
/-- list(g(e, ..)) of a generator def that raises nothing -/
theorem pe_listOf {X : Cx} {k j : Nat} {x : Str} {sp : SpG} {p p2 pos pos' : Pos} {e : Expr} {es : List Expr} {t : TA} (c : GenAt X.prog X.w X.K X.mg X.base k x sp) (hr : Room j X.A) (hk : k + 3 ≤ j) (hg : Gl X x) (hgl : Gl X "list") (hml : X.mg "list" = none) (ha : PA X (e :: es) t)
    (hdb : (x == ("__debug__" : Str)) = false := by decide) (he : starEach (e :: es) X.env = (false, eval e X.env) :: starEach es X.env := by rfl) (hpl : (backTo pos' (starEach es X.env)).any (·.1) = false := by rfl)
    (he2 : starEach [.Call (.Name x p) (e :: es) [] pos'] X.env = (false, eval (.Call (.Name x p) (e :: es) [] pos') X.env) :: starEach [] X.env := by rfl) :
    PE X (.Call (.Name "list" p2) [.Call (.Name x p) (e :: es) [] pos'] [] pos) (tListG (tCallG sp [] E0 t)) := by
  obtain ⟨f, fd, ps, F, hm, kp, b⟩ := c.ex
  exact pe_listG (pgen_call F (hr.mono (by omega)) hg hm kp b .nil ha hdb he hpl) passCX noStop0 (hr.mono hk) hgl hml (by decide +kernel) (by decide) (by decide) he2
end Sx

set_option Elab.async false
set_option linter.all false
set_option maxRecDepth 100000
namespace Sx
open PySem PySem.Spec
open PyProof.Rows L2
/-! ### data that can be compared: k deep -/
structure Sh (d : PyData) (k : Nat) : Prop where
  lay : d.canLay0 = true
  deep : d.depth ≤ k
theorem Sh.ok {d : PyData} {k : Nat} (s : Sh d k) (h : k ≤ 64) : SeqAt.shaped d = true := by
  unfold SeqAt.shaped
  rw [s.lay, Bool.true_and, decide_eq_true_eq]
  exact Nat.le_trans s.deep h
theorem Sh.all {k : Nat} : ∀ {ds : List PyData}, (∀ d ∈ ds, Sh d k) → PyData.canLayAll0 ds = true ∧ PyData.depthAll ds ≤ k
  | [], _ => by simp [PyData.canLayAll0, PyData.depthAll]
  | d :: ds, h => by
    obtain ⟨h1, h2⟩ := Sh.all (ds := ds) fun e he => h e (List.mem_cons_of_mem _ he)
    have hd := h d (List.mem_cons_self ..)
    have := hd.deep
    refine ⟨by simp [PyData.canLayAll0, hd.lay, h1], ?_⟩
    simp only [PyData.depthAll]
    omega
theorem Sh.lst {ds : List PyData} {k : Nat} (h : ∀ d ∈ ds, Sh d k) : Sh (.list ds) (k + 1) := by
  obtain ⟨h1, h2⟩ := Sh.all h
  exact ⟨by simp [PyData.canLay0, h1], by simp only [PyData.depth]; omega⟩
theorem Sh.tup {ds : List PyData} {k : Nat} (h : ∀ d ∈ ds, Sh d k) : Sh (.tuple ds) (k + 1) := by
  obtain ⟨h1, h2⟩ := Sh.all h
  exact ⟨by simp [PyData.canLay0, h1], by simp only [PyData.depth]; omega⟩
theorem Sh.int (i : Int) : Sh (.int i) 0 := ⟨by simp [PyData.canLay0], by simp [PyData.depth]⟩
theorem Sh.bool (i : Bool) : Sh (.bool i) 0 := ⟨by simp [PyData.canLay0], by simp [PyData.depth]⟩
theorem Sh.none : Sh .none 0 := ⟨by simp [PyData.canLay0], by simp [PyData.depth]⟩
theorem Sh.row (xs : List Int) : Sh (.tuple (xs.map PyData.int)) 1 := Sh.tup fun d hd => by
  obtain ⟨x, _, rfl⟩ := List.mem_map.mp hd
  exact .int x
theorem Sh.ints (xs : List Int) : Sh (.list (xs.map PyData.int)) 1 := Sh.lst fun d hd => by
  obtain ⟨x, _, rfl⟩ := List.mem_map.mp hd
  exact .int x
theorem dpAll_of {K : PySem.W.Frag} {H : Hp} : ∀ {vs : List V} {ds : List PyData}, vs.length = ds.length → (∀ (j : Nat) (v : V) (d : PyData), vs[j]? = some v → ds[j]? = some d → Dp K H v d) → DpAll K H vs ds
  | [], [], _, _ => .nil
  | [], _ :: _, h, _ => nomatch h
  | _ :: _, [], h, _ => nomatch h
  | v :: vs, d :: ds, h, p => .cons (p 0 v d rfl rfl) (dpAll_of (Nat.succ.inj h) fun j v d h1 h2 => p (j + 1) v d (by simpa using h1) (by simpa using h2))
/-- the rows after 0 to n rounds, as data -/
def rowsD (xs : List Int) (n : Nat) : List PyData := (List.range (n + 1)).map fun j => PyData.tuple ((ro j xs).map PyData.int)
theorem rowsD_len (xs : List Int) (n : Nat) : (rowsD xs n).length = n + 1 := by unfold rowsD; rw [List.length_map, List.length_range]
theorem rowsD_at {xs : List Int} {n j : Nat} (h : j ≤ n) : (rowsD xs n)[j]? = some (.tuple ((ro j xs).map PyData.int)) := by
  unfold rowsD
  rw [List.getElem?_map, List.getElem?_range (by omega)]; rfl
theorem rowsD_sh (xs : List Int) (n : Nat) : Sh (.list (rowsD xs n)) 2 := Sh.lst fun d hd => by
  obtain ⟨j, _, rfl⟩ := List.mem_map.mp hd
  exact Sh.row _
theorem shaped_rows (xs : List Int) (n : Nat) : SeqAt.shaped (.list (rowsD xs n)) = true := (rowsD_sh xs n).ok (by decide)
theorem dp_rows {K : PySem.W.Frag} {H : Hp} {xs : List Int} {n : Nat} {ys : List V} (hl : ys.length = n + 1) (h : ∀ j, j ≤ n → ∃ b, ys[j]? = some (.ref b) ∧ SqT K H b ((ro j xs).map V.int)) : DpAll K H ys (rowsD xs n) := by
  refine dpAll_of (by rw [hl, rowsD_len]) fun j v d h1 h2 => ?_
  have hj : j ≤ n := by
    have := (List.getElem?_eq_some_iff.mp h1).1
    omega
  obtain ⟨b, hb, hS⟩ := h j hj
  rw [h1] at hb
  rw [rowsD_at hj] at h2
  cases hb
  cases h2
  exact .tup hS (dp_ints _)
theorem eqv_same {d : PyData} {k : Nat} (s : Sh d k) : PyData.eqv d d = true := SeqAt.eqv_refl d s.lay
theorem Rw.ro {xs : List Int} (R : Rw xs) : ∀ n, Rw (ro n xs)
  | 0 => R
  | n + 1 => by
    have hl := ro_len xs (n + 1)
    have L := ro_lam xs n
    have h0 := R.lo
    have h1 := R.hi
    refine ⟨by omega, by omega, fun x hx => ?_⟩
    obtain ⟨i, hi, rfl⟩ := List.mem_iff_getElem.mp hx
    have e : g (Sx.ro (n + 1) xs) i = (Sx.ro (n + 1) xs)[i] := Option.some.inj ((g_get hi).symm.trans (List.getElem?_eq_getElem hi))
    rw [← e]
    have := L.lo i hi
    have := L.hi i hi
    omega
theorem nd_100 {xs : List Int} {n t : Nat} (h : Nd xs n) (hz : xs.length ≤ 100) (ht : fib (t + 2) ≤ xs.length) (ht2 : (xs.length : Int) < fib (t + 3)) : n ≤ 100 := by
  have := nd_most h ht2
  refine Classical.byContradiction fun c => ?_
  have h1 : fib 13 ≤ fib (t + 2) := fib_mono (s := 12) (t := t + 1) (by omega)
  have h2 : fib 13 = 233 := by decide
  omega
end Sx
namespace Sx
theorem nd_small {xs : List Int} {n : Nat} (h : Nd xs n) (hz : xs.length ≤ 100) : n ≤ 10 := by
  refine Classical.byContradiction fun c => ?_
  obtain ⟨k, rfl⟩ : ∃ k, n = k + 2 := ⟨n - 2, by omega⟩
  have h1 := nd_fib h
  have h2 : fib 13 ≤ fib (k + 4) := fib_mono (s := 12) (t := k + 3) (by omega)
  have h3 : fib 13 = 233 := by decide
  omega
end Sx

set_option Elab.async false
set_option linter.all false
namespace Sx
/-! ### rounds with weights -/
def tot (ws : List Int) (k : Nat) : Int := (ws.take k).sum
theorem tot_zero (ws : List Int) : tot ws 0 = 0 := by unfold tot; rw [List.take_zero]; rfl
theorem tot_succ {ws : List Int} {k : Nat} (h : k < ws.length) : tot ws (k + 1) = tot ws k + g ws k := by
  unfold tot
  rw [List.take_add_one, g_get h, List.sum_append]
  show _ + (g ws k + 0) = _
  omega
/-- weights for n places -/
structure Wt (ws : List Int) (n : Nat) : Prop where
  len : ws.length = n
  lo : ∀ x ∈ ws, 1 ≤ x
  hi : ∀ x ∈ ws, x ≤ 10 ^ 28
theorem Wt.at {ws : List Int} {n i : Nat} (h : Wt ws n) (hi : i < n) : 1 ≤ g ws i ∧ g ws i ≤ 10 ^ 28 := by
  have hm := List.mem_of_getElem? (g_get (xs := ws) (i := i) (by rw [h.len]; exact hi))
  exact ⟨h.lo _ hm, h.hi _ hm⟩
theorem tot_lt {ws : List Int} {n : Nat} (h : Wt ws n) {i j : Nat} (hij : i < j) (hj : j ≤ n) : tot ws i < tot ws j := by
  induction j with
  | zero => omega
  | succ j ih =>
    have e := tot_succ (ws := ws) (k := j) (by rw [h.len]; omega)
    have p := h.at (i := j) (by omega)
    by_cases c : i = j
    · subst c; omega
    · have := ih (by omega) (by omega); omega
theorem tot_le {ws : List Int} {n : Nat} (h : Wt ws n) {i j : Nat} (hij : i ≤ j) (hj : j ≤ n) : tot ws i ≤ tot ws j := by
  by_cases c : i = j
  · rw [c]; exact Int.le_refl _
  · exact Int.le_of_lt (tot_lt h (by omega) hj)
/-- the weights from behind the hinderer up to the place -/
def wv (ws xs : List Int) (i : Nat) : Int := tot ws (i + 1) - tot ws (bk xs (g xs i) i)
def wsp (ws xs : List Int) : List Int := (List.range xs.length).map (wv ws xs)
theorem wsp_len (ws xs : List Int) : (wsp ws xs).length = xs.length := by unfold wsp; rw [List.length_map, List.length_range]
theorem wsp_g {ws xs : List Int} {i : Nat} (h : i < xs.length) : g (wsp ws xs) i = wv ws xs i := by
  unfold wsp
  show ((List.range xs.length).map (wv ws xs)).getD i 0 = _
  rw [List.getD_eq_getElem?_getD, List.getElem?_map, List.getElem?_range h]; rfl
def wro (ws : List Int) : Nat → List Int → List Int
  | 0, xs => xs
  | n + 1, xs => wsp ws (wro ws n xs)
theorem wro_len (ws xs : List Int) : ∀ n, (wro ws n xs).length = xs.length
  | 0 => rfl
  | n + 1 => by show (wsp ws (wro ws n xs)).length = _; rw [wsp_len, wro_len ws xs n]
theorem wro_still {ws xs : List Int} {n : Nat} (h : wsp ws (wro ws n xs) = wro ws n xs) : ∀ k, wro ws (n + k) xs = wro ws n xs
  | 0 => rfl
  | k + 1 => by show wsp ws (wro ws (n + k) xs) = _; rw [wro_still h k, h]
theorem wro_far {ws xs : List Int} {n : Nat} (h : wsp ws (wro ws n xs) = wro ws n xs) (m : Nat) : wro ws m xs = wro ws (min m n) xs := by
  by_cases c : m ≤ n
  · rw [Nat.min_eq_left c]
  · rw [Nat.min_eq_right (by omega)]
    obtain ⟨k, rfl⟩ : ∃ k, m = n + k := ⟨m - n, by omega⟩
    exact wro_still h k
structure WNd (ws xs : List Int) (n : Nat) : Prop where
  still : wsp ws (wro ws n xs) = wro ws n xs
  least : ∀ k, k < n → wsp ws (wro ws k xs) ≠ wro ws k xs
theorem WNd.uniq {ws xs : List Int} {n m : Nat} (h1 : WNd ws xs n) (h2 : WNd ws xs m) : n = m := by
  rcases Nat.lt_trichotomy n m with h | h | h
  · exact absurd h1.still (h2.least n h)
  · exact h
  · exact absurd h2.still (h1.least m h)
/-- how far the place looks back in round t + 1 -/
def wb (ws xs : List Int) (t i : Nat) : Nat := bk (wro ws t xs) (g (wro ws t xs) i) i
theorem wb_le (ws xs : List Int) (t i : Nat) : wb ws xs t i ≤ i := bk_le _ _ _
theorem wro_g {ws xs : List Int} {t i : Nat} (h : i < xs.length) : g (wro ws (t + 1) xs) i = tot ws (i + 1) - tot ws (wb ws xs t i) := by
  show g (wsp ws (wro ws t xs)) i = _
  rw [wsp_g (by rw [wro_len]; exact h)]; rfl
/-- from the first round on no place looks back less -/
theorem wb_mono {ws xs : List Int} {t i : Nat} (W : Wt ws xs.length) (h : i < xs.length) : wb ws xs (t + 1) i ≤ wb ws xs t i := by
  refine Nat.le_of_not_lt fun c => ?_
  have hle := wb_le ws xs (t + 1) i
  have hp : 0 < bk (wro ws (t + 1) xs) (g (wro ws (t + 1) xs) i) i := by show 0 < wb ws xs (t + 1) i; omega
  have h1 := bk_ge hp
  have hj : wb ws xs (t + 1) i - 1 < i := by omega
  have hu : wb ws xs t i ≤ wb ws xs t (wb ws xs (t + 1) i - 1) := bk_under (xs := wro ws t xs) hj (by show wb ws xs t i ≤ _; omega)
  have e1 := wro_g (ws := ws) (xs := xs) (t := t) h
  have e2 := wro_g (ws := ws) (xs := xs) (t := t) (i := wb ws xs (t + 1) i - 1) (by omega)
  have h1 : g (wro ws (t + 1) xs) i ≤ g (wro ws (t + 1) xs) (wb ws xs (t + 1) i - 1) := h1
  have l1 := tot_lt W (i := wb ws xs (t + 1) i - 1 + 1) (j := i + 1) (by omega) (by omega)
  have l2 := tot_le W hu (by have := wb_le ws xs t (wb ws xs (t + 1) i - 1); omega)
  omega
theorem wro_ge {ws xs : List Int} {t i : Nat} (W : Wt ws xs.length) (h : i < xs.length) : g (wro ws (t + 1) xs) i ≤ g (wro ws (t + 2) xs) i := by
  rw [wro_g h, wro_g h]
  have := tot_le W (wb_mono (t := t) W h) (by have := wb_le ws xs t i; omega)
  omega
theorem wb_lt {ws xs : List Int} {t i : Nat} (W : Wt ws xs.length) (h : i < xs.length) (hg : g (wro ws (t + 1) xs) i < g (wro ws (t + 2) xs) i) : wb ws xs (t + 1) i < wb ws xs t i := by
  have := wb_mono (t := t) W h
  rcases Nat.lt_or_eq_of_le this with c | c
  · exact c
  · rw [wro_g h, wro_g h, c] at hg; omega
/-- a place that grows in round t + 2 has grown in each round from the second one on -/
theorem wgrow {ws xs : List Int} {i : Nat} (W : Wt ws xs.length) (h : i < xs.length) : ∀ t, g (wro ws (t + 1) xs) i < g (wro ws (t + 2) xs) i → wb ws xs (t + 1) i + (t + 1) ≤ i
  | 0, hg => by
    have := wb_lt W h hg
    have := wb_le ws xs 0 i
    omega
  | t + 1, hg => by
    have hlt : wb ws xs (t + 2) i < wb ws xs (t + 1) i := wb_lt (t := t + 1) W h hg
    have hb := wb_le ws xs (t + 1) i
    have h1 : g (wro ws (t + 1) xs) i ≤ g (wro ws (t + 1) xs) (wb ws xs (t + 1) i - 1) := bk_ge (xs := wro ws (t + 1) xs) (by show 0 < wb ws xs (t + 1) i; omega)
    have h2 : g (wro ws (t + 2) xs) (wb ws xs (t + 1) i - 1) < g (wro ws (t + 2) xs) i := bk_lt (xs := wro ws (t + 2) xs) (f := i) (by show wb ws xs (t + 2) i ≤ _; omega) (by omega)
    have h3 := wro_ge (t := t) (i := wb ws xs (t + 1) i - 1) W (by omega)
    have := wgrow W h t (by omega)
    show wb ws xs (t + 2) i + (t + 2) ≤ i
    omega
theorem wstill {ws xs : List Int} (W : Wt ws xs.length) (h0 : 1 ≤ xs.length) : wsp ws (wro ws xs.length xs) = wro ws xs.length xs := by
  obtain ⟨m, hm⟩ : ∃ m, xs.length = m + 1 := ⟨xs.length - 1, by omega⟩
  refine g_ext (by rw [wsp_len]) fun i hi => ?_
  rw [wsp_len, wro_len] at hi
  rw [hm]
  show g (wro ws (m + 2) xs) i = g (wro ws (m + 1) xs) i
  have h1 := wro_ge (t := m) W hi
  refine Classical.byContradiction fun c => ?_
  have := wgrow W hi m (by omega)
  omega
theorem wnd_any {ws xs : List Int} (W : Wt ws xs.length) (h0 : 1 ≤ xs.length) : ∃ n, n ≤ xs.length ∧ WNd ws xs n := by
  have key : ∀ m, wsp ws (wro ws m xs) = wro ws m xs → ∃ n, n ≤ m ∧ WNd ws xs n := by
    intro m
    induction m with
    | zero => intro h; exact ⟨0, Nat.le_refl 0, h, fun k hk => absurd hk (Nat.not_lt_zero _)⟩
    | succ m ih =>
      intro h
      by_cases c : ∃ k, k ≤ m ∧ wsp ws (wro ws k xs) = wro ws k xs
      · obtain ⟨k, hk, e⟩ := c
        have e2 : wsp ws (wro ws m xs) = wro ws m xs := by
          obtain ⟨d, rfl⟩ : ∃ d, m = k + d := ⟨m - k, by omega⟩
          rw [wro_still e d, e]
        obtain ⟨n, hn, H⟩ := ih e2
        exact ⟨n, by omega, H⟩
      · exact ⟨m + 1, Nat.le_refl _, h, fun k hk e => c ⟨k, by omega, e⟩⟩
  exact key _ (wstill W h0)
/-! #### equal weights -/
theorem bk_scale {xs ys : List Int} {c e : Int} (hc : 1 ≤ c) : ∀ {f : Nat}, (∀ j, j < f → g ys j = c * g xs j) → bk ys (c * e) f = bk xs e f := fun {f} h =>
  bk_congr fun j hj => by
    rw [h j hj]
    exact ⟨fun k => Int.lt_of_mul_lt_mul_left k (by omega), fun k => Int.mul_lt_mul_of_pos_left k (by omega)⟩
theorem same_tot {c : Int} {n : Nat} : ∀ k, k ≤ n → tot (List.replicate n c) k = c * k
  | 0, _ => by rw [tot_zero]; simp
  | k + 1, h => by
    have e := tot_succ (ws := List.replicate n c) (k := k) (by rw [List.length_replicate]; omega)
    have eg : g (List.replicate n c) k = c := by
      unfold g
      rw [List.getD_eq_getElem?_getD, List.getElem?_replicate, if_pos (by omega)]; rfl
    rw [e, same_tot k (by omega), eg]
    rw [show ((k + 1 : Nat) : Int) = (k : Int) + 1 by omega, Int.mul_add]
    omega
theorem g_scale {xs : List Int} {c : Int} {i : Nat} (h : i < xs.length) : g (xs.map (c * ·)) i = c * g xs i := by
  show (xs.map (c * ·)).getD i 0 = _
  rw [List.getD_eq_getElem?_getD, List.getElem?_map, g_get h]; rfl
theorem wsp_same {xs : List Int} {c : Int} : wsp (List.replicate xs.length c) xs = (spans xs).map (c * ·) := by
  refine g_ext (by rw [wsp_len, List.length_map, spans_len]) fun i hi => ?_
  rw [wsp_len] at hi
  rw [wsp_g hi, g_scale (by rw [spans_len]; exact hi), spans_g hi]
  unfold wv spn
  have hb := bk_le xs (g xs i) i
  rw [same_tot _ (by omega), same_tot _ (by omega), ← Int.mul_sub]
  congr 1
  omega
theorem spans_scale {xs : List Int} {c : Int} (hc : 1 ≤ c) : spans (xs.map (c * ·)) = spans xs := by
  refine spans_order (List.length_map ..) fun i j hi hj => ?_
  rw [List.length_map] at hi hj
  rw [g_scale hi, g_scale hj]
  exact ⟨fun k => Int.lt_of_mul_lt_mul_left k (by omega), fun k => Int.mul_lt_mul_of_pos_left k (by omega)⟩
theorem wro_same {xs : List Int} {c : Int} (hc : 1 ≤ c) : ∀ t, wro (List.replicate xs.length c) (t + 1) xs = (ro (t + 1) xs).map (c * ·)
  | 0 => wsp_same
  | t + 1 => by
    show wsp (List.replicate xs.length c) (wro (List.replicate xs.length c) (t + 1) xs) = _
    rw [wro_same hc t]
    have e := wsp_same (xs := (ro (t + 1) xs).map (c * ·)) (c := c)
    rw [List.length_map, ro_len] at e
    rw [e, spans_scale hc]; rfl
theorem map_one (xs : List Int) : xs.map ((1 : Int) * ·) = xs := by
  conv => rhs; rw [← List.map_id xs]
  exact List.map_congr_left fun x _ => Int.one_mul x
theorem wro_ones {xs : List Int} : ∀ t, wro (List.replicate xs.length 1) t xs = ro t xs
  | 0 => rfl
  | t + 1 => by rw [wro_same (by decide) t, map_one]
theorem wnd_ones {xs : List Int} {n m : Nat} (h1 : WNd (List.replicate xs.length 1) xs n) (h2 : Nd xs m) : n = m := by
  refine h1.uniq ⟨?_, fun k hk => ?_⟩
  · show wro (List.replicate xs.length 1) (m + 1) xs = _
    rw [wro_ones, wro_ones]; exact h2.still
  · show wro (List.replicate xs.length 1) (k + 1) xs ≠ _
    rw [wro_ones, wro_ones]; exact h2.least k hk
theorem wnd_calm {xs : List Int} {c : Int} {n m : Nat} (hc : 1 ≤ c) (h : Nd xs m) (h1 : WNd (List.replicate xs.length c) ((ro m xs).map (c * ·)) n) : n = 0 := by
  refine h1.uniq ⟨?_, fun k hk => absurd hk (Nat.not_lt_zero _)⟩
  show wsp (List.replicate xs.length c) ((ro m xs).map (c * ·)) = _
  have e := wsp_same (xs := (ro m xs).map (c * ·)) (c := c)
  rw [List.length_map, ro_len] at e
  rw [e, spans_scale hc, h.still]; rfl
/-! #### the front part -/
theorem tot_take {ws : List Int} {m k : Nat} (h : k ≤ m) : tot (ws.take m) k = tot ws k := by
  unfold tot
  rw [List.take_take, Nat.min_eq_left h]
theorem wsp_take (ws xs : List Int) (m : Nat) : wsp (ws.take m) (xs.take m) = (wsp ws xs).take m := by
  refine g_ext (by rw [wsp_len, List.length_take, List.length_take, wsp_len]) fun i hi => ?_
  rw [wsp_len, List.length_take] at hi
  rw [wsp_g (by rw [List.length_take]; exact hi), g_take (by omega), wsp_g (by omega)]
  unfold wv
  have hb := bk_le (xs.take m) (g (xs.take m) i) i
  rw [tot_take (by omega), tot_take (by omega), g_take (by omega), bk_congr (ys := xs) (e' := g xs i) fun j hj => by rw [g_take (by omega)]]
theorem wro_take (ws xs : List Int) (m : Nat) : ∀ t, wro (ws.take m) t (xs.take m) = (wro ws t xs).take m
  | 0 => rfl
  | t + 1 => by show wsp (ws.take m) (wro (ws.take m) t (xs.take m)) = _; rw [wro_take ws xs m t, wsp_take]; rfl
theorem Wt.take {ws : List Int} {n k : Nat} (h : Wt ws n) (hk : k ≤ n) : Wt (ws.take k) k :=
  ⟨by rw [List.length_take, h.len, Nat.min_eq_left hk], fun x hx => h.lo x (List.mem_of_mem_take hx), fun x hx => h.hi x (List.mem_of_mem_take hx)⟩
theorem Wt.same {c : Int} {n : Nat} (h1 : 1 ≤ c) (h2 : c ≤ 10 ^ 28) : Wt (List.replicate n c) n :=
  ⟨List.length_replicate, fun x hx => by rw [(List.mem_replicate.mp hx).2]; exact h1, fun x hx => by rw [(List.mem_replicate.mp hx).2]; exact h2⟩
theorem sum_cut {ws : List Int} {b e : Nat} (h : b ≤ e) : ((ws.drop b).take (e - b)).sum = tot ws e - tot ws b := by
  have : (ws.take e).sum = (ws.take b).sum + ((ws.drop b).take (e - b)).sum := by
    rw [← List.sum_append]
    congr 1
    have : ws.take e = ws.take (b + (e - b)) := by rw [show b + (e - b) = e by omega]
    rw [this, List.take_add]
  unfold tot
  omega
end Sx
namespace Sx
open PySem PySem.Spec
open PyProof.Rows L2
/-- a comprehension over enumerate of a tuple -/
theorem lc_enumT {K : PySem.W.Frag} {a : Addr} {xs : List V} {g : TG} {tt : TT} {te : TE} {vs : List Nat} {σ : L2.St} {H1 : Hp} {D : Addr} {Qd : Hp → Prop}
    (Pv : Nat → Hp → Prop) (h0 : Pv 0 (upd H1 D (.lst [])))
    (hl : ∀ i H, Pv i H → SqT K H a xs)
    (hs : ∀ i x T H, xs[i]? = some x → Pv i H → H T = none →
      g (.ref T) (wipe σ vs) (upd H T (.tup [.int (i : Nat), x])) fun σ2 H2 =>
        wipe σ2 vs = wipe σ vs ∧ tt σ2 H2 fun b H3 =>
          if b = true then te σ2 H3 fun y H4 =>
            ∃ acc, H4 D = some (.lst acc) ∧ acc.length < sizeLine ∧ Pv (i + 1) (upd H4 D (.lst (acc ++ [y])))
          else Pv (i + 1) H3)
    (hd : ∀ H, Pv xs.length H → Qd H) :
    ∃ W : Nat → Nat → Hp → Prop, (∃ m, W 0 m (upd H1 D (.lst []))) ∧ ∀ i m H, W i m H →
      ((ItE K a).stop i H ∧ Qd H) ∨
      ((ItE K a).go i H ∧ ∃ Nx : Hp → Prop, (∀ H', Nx H' → ∃ m', m' < m ∧ W (i + 1) m' H') ∧ ∀ x H', (ItE K a).yld i H x H' →
        g x (wipe σ vs) H' fun σ2 H2 =>
          wipe σ2 vs = wipe σ vs ∧ tt σ2 H2 fun b H3 =>
            if b = true then te σ2 H3 fun y H4 =>
              ∃ acc, H4 D = some (.lst acc) ∧ acc.length < sizeLine ∧ Nx (upd H4 D (.lst (acc ++ [y])))
            else Nx H3) := by
  refine ⟨fun i m H => i + m = xs.length ∧ Pv i H, ⟨xs.length, by omega, h0⟩, fun i m H ⟨e, p⟩ => ?_⟩
  have q := hl i H p
  by_cases hi : i < xs.length
  · refine .inr ⟨⟨xs, xs[i], q, List.getElem?_eq_getElem hi⟩, Pv (i + 1), fun H' p' => ⟨m - 1, by omega, by omega, p'⟩, ?_⟩
    rintro x H' ⟨T, y, rfl, hT, rfl, hy⟩
    exact hs i y T H (hy xs q) p hT
  · have : i = xs.length := by omega
    subst this
    exact .inl ⟨⟨xs, q, Nat.le_refl _⟩, hd H p⟩
/-- p holds the rows f 0 to f n -/
def Seqs (K : PySem.W.Frag) (H : Hp) (p : Addr) (f : Nat → List Int) (n : Nat) : Prop :=
  ∃ vs : List V, H p = some (.lst vs) ∧ vs.length = n + 1 ∧ ∀ j, j ≤ n → ∃ b, vs[j]? = some (.ref b) ∧ SqT K H b ((f j).map V.int)
theorem Seqs.ex {K : PySem.W.Frag} {H H' : Hp} {p : Addr} {f : Nat → List Int} {n : Nat} (h : Seqs K H p f n) (X : Ex H H') : Seqs K H' p f n := by
  obtain ⟨vs, h1, h2, h3⟩ := h
  refine ⟨vs, X _ _ h1, h2, fun j hj => ?_⟩
  obtain ⟨b, hb, hS⟩ := h3 j hj
  exact ⟨b, hb, Evl.ex_t X hS⟩
/-- the totals of the weights -/
def tots (ws : List Int) (n : Nat) : List Int := (List.range (n + 1)).map (tot ws)
theorem tots_len (ws : List Int) (n : Nat) : (tots ws n).length = n + 1 := by unfold tots; rw [List.length_map, List.length_range]
theorem tots_at {ws : List Int} {n k : Nat} (h : k ≤ n) : atI ((tots ws n).map V.int) ((k : Nat) : Int) = some (.int (tot ws k)) := by
  rw [atN (by rw [tots_len]; omega)]
  unfold tots
  show some (V.int (((List.range (n + 1)).map (tot ws)).getD k 0)) = _
  rw [List.getD_eq_getElem?_getD, List.getElem?_map, List.getElem?_range (by omega)]; rfl
theorem tots_succ (ws : List Int) (n : Nat) : tots ws (n + 1) = tots ws n ++ [tot ws (n + 1)] := by
  unfold tots
  rw [List.range_succ, List.map_append]; rfl
end Sx

set_option Elab.async false
set_option linter.all false
namespace Sx
/-! ### long rows: runs -/
abbrev Rn := List (Int × Nat)
def xpn (rs : Rn) : List Int := rs.flatMap fun p => List.replicate p.2 p.1
theorem xpn_app (a b : Rn) : xpn (a ++ b) = xpn a ++ xpn b := List.flatMap_append
theorem xpn_one (p : Int × Nat) : xpn [p] = List.replicate p.2 p.1 := by simp [xpn]
theorem xpn_cons (p : Int × Nat) (l : Rn) : xpn (p :: l) = List.replicate p.2 p.1 ++ xpn l := by simp [xpn]
/-- one more block behind -/
def putR (acc : Rn) (p : Int × Nat) : Rn :=
  match acc.getLast? with
  | some q => if q.1 = p.1 then acc.dropLast ++ [(p.1, q.2 + p.2)] else acc ++ [p]
  | none => acc ++ [p]
def mrg (l : Rn) : Rn := l.foldl putR []
theorem last_split {acc : Rn} {q : Int × Nat} (h : acc.getLast? = some q) : acc = acc.dropLast ++ [q] := by
  have hne : acc ≠ [] := fun e => by rw [e] at h; cases h
  rw [List.getLast?_eq_some_getLast hne] at h
  cases h
  exact (List.dropLast_concat_getLast hne).symm
theorem xpn_put (acc : Rn) (p : Int × Nat) : xpn (putR acc p) = xpn acc ++ List.replicate p.2 p.1 := by
  unfold putR
  cases h : acc.getLast? with
  | none => simp only; rw [xpn_app, xpn_one]
  | some q =>
    simp only
    by_cases c : q.1 = p.1
    · rw [if_pos c]
      conv => rhs; rw [last_split h]
      rw [xpn_app, xpn_app, xpn_one, xpn_one, List.append_assoc, c]
      simp only [List.replicate_append_replicate]
    · rw [if_neg c, xpn_app, xpn_one]
theorem xpn_fold : ∀ (l acc : Rn), xpn (l.foldl putR acc) = xpn acc ++ xpn l
  | [], acc => by simp [xpn]
  | p :: l, acc => by rw [List.foldl_cons, xpn_fold l, xpn_put, xpn_cons, List.append_assoc]
theorem xpn_mrg (l : Rn) : xpn (mrg l) = xpn l := by unfold mrg; rw [xpn_fold]; simp [xpn]
/-- counts from 1 on, neighbours with other entries -/
def Cn : Rn → Prop
  | [] => True
  | [p] => 1 ≤ p.2
  | p :: q :: l => 1 ≤ p.2 ∧ p.1 ≠ q.1 ∧ Cn (q :: l)
theorem Cn.tail {p : Int × Nat} {l : Rn} (h : Cn (p :: l)) : Cn l := by
  cases l with
  | nil => trivial
  | cons q l => exact h.2.2
theorem Cn.pos {p : Int × Nat} {l : Rn} (h : Cn (p :: l)) : 1 ≤ p.2 := by
  cases l with
  | nil => exact h
  | cons q l => exact h.1
theorem Cn.all : ∀ {l : Rn}, Cn l → ∀ p ∈ l, 1 ≤ p.2
  | [], _, p, h => nomatch h
  | q :: l, c, p, h => by
    rcases List.mem_cons.mp h with e | e
    · rw [e]; exact c.pos
    · exact Cn.all c.tail p e
theorem xpn_head {p : Int × Nat} {l : Rn} (h : 1 ≤ p.2) : (xpn (p :: l))[0]? = some p.1 := by
  rw [xpn_cons, List.getElem?_append_left (by rw [List.length_replicate]; omega), List.getElem?_replicate, if_pos (by omega)]
theorem Cn.uniq : ∀ {l m : Rn}, Cn l → Cn m → xpn l = xpn m → l = m
  | [], [], _, _, _ => rfl
  | [], p :: m, _, hm, h => by
    have := xpn_head (l := m) hm.pos
    rw [← h] at this; cases this
  | p :: l, [], hl, _, h => by
    have := xpn_head (l := l) hl.pos
    rw [h] at this; cases this
  | p :: l, q :: m, hl, hm, h => by
    have e1 : p.1 = q.1 := by
      have a := xpn_head (l := l) hl.pos
      rw [h, xpn_head hm.pos] at a
      exact (Option.some.inj a).symm
    have no : ∀ {p q : Int × Nat} {l m : Rn}, Cn (p :: l) → p.1 = q.1 → xpn (p :: l) = xpn (q :: m) → ¬ p.2 < q.2 := by
      intro p q l m hl e1 h hlt
      rw [xpn_cons, xpn_cons, e1, show q.2 = p.2 + (q.2 - p.2) by omega, ← List.replicate_append_replicate, List.append_assoc] at h
      have h2 := List.append_cancel_left h
      cases l with
      | nil =>
        have := congrArg List.length h2
        rw [List.length_append, List.length_replicate] at this
        simp [xpn] at this
        omega
      | cons r l =>
        have a := xpn_head (l := l) hl.2.2.pos
        rw [h2, List.getElem?_append_left (by rw [List.length_replicate]; omega), List.getElem?_replicate, if_pos (by omega)] at a
        have := Option.some.inj a
        exact hl.2.1 (e1.trans this)
    have e2 : p.2 = q.2 := by
      have a := no hl e1 h
      have b := no hm e1.symm h.symm
      omega
    have e : p = q := Prod.ext e1 e2
    subst e
    rw [xpn_cons, xpn_cons] at h
    rw [Cn.uniq hl.tail hm.tail (List.append_cancel_left h)]
theorem Cn.snoc : ∀ {l : Rn} {p : Int × Nat}, Cn l → 1 ≤ p.2 → (∀ q, l.getLast? = some q → q.1 ≠ p.1) → Cn (l ++ [p])
  | [], p, _, h, _ => h
  | [a], p, h1, h, h2 => ⟨h1, h2 a rfl, h⟩
  | a :: b :: l, p, h1, h, h2 => ⟨h1.1, h1.2.1, Cn.snoc (l := b :: l) h1.2.2 h fun q hq => h2 q (by rw [List.getLast?_cons_cons]; exact hq)⟩
theorem Cn.init : ∀ {l : Rn} {p : Int × Nat}, Cn (l ++ [p]) → Cn l ∧ 1 ≤ p.2 ∧ ∀ q, l.getLast? = some q → q.1 ≠ p.1
  | [], p, h => ⟨trivial, h, fun q hq => nomatch hq⟩
  | [a], p, h => ⟨h.1, h.2.2, fun q hq => by cases hq; exact h.2.1⟩
  | a :: b :: l, p, h => by
    obtain ⟨h1, h2, h3⟩ := Cn.init (l := b :: l) h.2.2
    exact ⟨⟨h.1, h.2.1, h1⟩, h2, fun q hq => h3 q (by rw [List.getLast?_cons_cons] at hq; exact hq)⟩
theorem Cn.put {acc : Rn} {p : Int × Nat} (h : Cn acc) (hp : 1 ≤ p.2) : Cn (putR acc p) := by
  unfold putR
  cases e : acc.getLast? with
  | none =>
    simp only
    rw [List.getLast?_eq_none_iff] at e
    subst e
    exact hp
  | some q =>
    simp only
    by_cases c : q.1 = p.1
    · rw [if_pos c]
      rw [last_split e] at h
      obtain ⟨h1, h2, h3⟩ := Cn.init h
      exact Cn.snoc h1 (by show 1 ≤ q.2 + p.2; omega) fun r hr => by rw [← c]; exact h3 r hr
    · rw [if_neg c]
      exact Cn.snoc h hp fun r hr => by rw [e] at hr; cases hr; exact c
theorem Cn.fold : ∀ {l acc : Rn}, Cn acc → (∀ p ∈ l, 1 ≤ p.2) → Cn (l.foldl putR acc)
  | [], _, h, _ => h
  | p :: l, acc, h, hl => Cn.fold (l := l) (Cn.put h (hl p (List.mem_cons_self ..))) fun q hq => hl q (List.mem_cons_of_mem _ hq)
theorem Cn.mrg {l : Rn} (h : ∀ p ∈ l, 1 ≤ p.2) : Cn (mrg l) := Cn.fold (acc := []) trivial h
theorem put_len (acc : Rn) (p : Int × Nat) : (putR acc p).length ≤ acc.length + 1 := by
  unfold putR
  cases e : acc.getLast? with
  | none => simp
  | some q =>
    simp only
    by_cases c : q.1 = p.1
    · rw [if_pos c, List.length_append, List.length_dropLast]; simp only [List.length_cons, List.length_nil]; omega
    · rw [if_neg c]; simp
theorem fold_len : ∀ (l acc : Rn), (l.foldl putR acc).length ≤ acc.length + l.length
  | [], acc => Nat.le_refl _
  | p :: l, acc => by
    have h1 := fold_len l (putR acc p)
    have h2 := put_len acc p
    rw [List.foldl_cons, List.length_cons]
    omega
theorem mrg_len (l : Rn) : (mrg l).length ≤ l.length := by have := fold_len l []; simpa [mrg] using this
theorem mrg_uniq {l m : Rn} (hl : ∀ p ∈ l, 1 ≤ p.2) (hm : Cn m) (h : xpn l = xpn m) : mrg l = m :=
  Cn.uniq (Cn.mrg hl) hm (by rw [xpn_mrg, h])
theorem mrg_cn {l : Rn} (h : Cn l) : mrg l = l := mrg_uniq h.all h rfl

/-! ### a round of a long row -/
def es (rs : Rn) : List Int := rs.map (·.1)
def ct (rs : Rn) (i : Nat) : Nat := (rs.getD i (0, 0)).2
def tt (rs : Rn) (k : Nat) : Nat := (xpn (rs.take k)).length
theorem es_len (rs : Rn) : (es rs).length = rs.length := List.length_map _
theorem rs_at {rs : Rn} {i : Nat} (h : i < rs.length) : rs[i]? = some (g (es rs) i, ct rs i) := by
  unfold g es ct
  rw [List.getD_eq_getElem?_getD, List.getD_eq_getElem?_getD, List.getElem?_map, List.getElem?_eq_getElem h]
  rfl
theorem tt_zero (rs : Rn) : tt rs 0 = 0 := rfl
theorem take_at {rs : Rn} {i : Nat} (h : i < rs.length) : rs.take (i + 1) = rs.take i ++ [(g (es rs) i, ct rs i)] := by
  rw [List.take_add_one, rs_at h]; rfl
theorem tt_succ {rs : Rn} {k : Nat} (h : k < rs.length) : tt rs (k + 1) = tt rs k + ct rs k := by
  unfold tt
  rw [take_at h, xpn_app, xpn_one, List.length_append, List.length_replicate]
theorem tt_all (rs : Rn) : tt rs rs.length = (xpn rs).length := by unfold tt; rw [List.take_length]
theorem tt_mono {rs : Rn} {k m : Nat} (h : k ≤ m) (hm : m ≤ rs.length) : tt rs k ≤ tt rs m := by
  induction m with
  | zero => rw [show k = 0 by omega]; exact Nat.le_refl _
  | succ m ih =>
    by_cases c : k = m + 1
    · rw [c]; exact Nat.le_refl _
    · have := ih (by omega) (by omega)
      rw [tt_succ (by omega)]
      omega
def vR (rs : Rn) (i : Nat) : Int := (tt rs i : Int) - tt rs (bk (es rs) (g (es rs) i) i) + 1
/-- a value, and ones behind it -/
def pat (v : Nat → Int) (c : Nat → Nat) (n : Nat) : Rn := (List.range n).flatMap fun i => (v i, 1) :: (if 1 < c i then [(1, c i - 1)] else [])
def turn (rs : Rn) : Rn := pat (vR rs) (ct rs) rs.length
theorem pat_succ (v : Nat → Int) (c : Nat → Nat) (n : Nat) : pat v c (n + 1) = pat v c n ++ ((v n, 1) :: (if 1 < c n then [(1, c n - 1)] else [])) := by
  unfold pat; rw [List.range_succ, List.flatMap_append]; simp
theorem pat_len (v : Nat → Int) (c : Nat → Nat) : ∀ n, (pat v c n).length ≤ 2 * n
  | 0 => Nat.le_refl _
  | n + 1 => by
    have := pat_len v c n
    rw [pat_succ, List.length_append, List.length_cons]
    split <;> simp <;> omega
theorem pat_pos (v : Nat → Int) (c : Nat → Nat) : ∀ n, ∀ p ∈ pat v c n, 1 ≤ p.2
  | 0, p, h => nomatch h
  | n + 1, p, h => by
    rw [pat_succ] at h
    rcases List.mem_append.mp h with h | h
    · exact pat_pos v c n p h
    · rcases List.mem_cons.mp h with h | h
      · rw [h]; exact Nat.le_refl _
      · split at h
        · rw [List.mem_singleton] at h; rw [h]; show 1 ≤ c n - 1; omega
        · exact nomatch h
theorem xpn_pat_succ (v : Nat → Int) (c : Nat → Nat) (n : Nat) : xpn (pat v c (n + 1)) = xpn (pat v c n) ++ [v n] ++ List.replicate (c n - 1) 1 := by
  rw [pat_succ, xpn_app, xpn_cons, List.append_assoc]
  congr 1
  split
  · rw [xpn_one]; rfl
  · rw [show c n - 1 = 0 by omega]; rfl
theorem g_leftL {xs ys : List Int} {i : Nat} (h : i < xs.length) : g (xs ++ ys) i = g xs i := by
  unfold g
  rw [List.getD_eq_getElem?_getD, List.getElem?_append_left h, List.getD_eq_getElem?_getD]
theorem bk_leftL {xs ys : List Int} {e : Int} {f : Nat} (h : f ≤ xs.length) : bk (xs ++ ys) e f = bk xs e f := bk_congr fun j hj => by rw [g_leftL (by omega)]
theorem spans_snocR (xs : List Int) (e : Int) : spans (xs ++ [e]) = spans xs ++ [(xs.length : Int) - bk xs e xs.length + 1] := by
  have h : (spans (xs ++ [e])).take xs.length = spans xs := by rw [← spans_take, List.take_left']; rfl
  have hl : (spans (xs ++ [e])).length = xs.length + 1 := by rw [spans_len, List.length_append]; rfl
  have h2 : spans (xs ++ [e]) = (spans (xs ++ [e])).take xs.length ++ [g (spans (xs ++ [e])) xs.length] := by
    conv => lhs; rw [← List.take_length (l := spans (xs ++ [e])), hl]
    rw [List.take_add_one, g_get (by omega)]; rfl
  rw [h2, h, spans_g (by rw [List.length_append]; simp)]
  unfold spn
  rw [g_last, bk_leftL (Nat.le_refl _)]
theorem spans_rep (xs : List Int) (e : Int) : ∀ c, spans (xs ++ List.replicate (c + 1) e) = spans (xs ++ [e]) ++ List.replicate c 1
  | 0 => by simp
  | c + 1 => by
    rw [show List.replicate (c + 1 + 1) e = List.replicate (c + 1) e ++ [e] from List.replicate_succ', ← List.append_assoc, spans_snocR, spans_rep xs e c, List.append_assoc]
    congr 1
    rw [show List.replicate (c + 1) (1 : Int) = List.replicate c 1 ++ [1] from List.replicate_succ']
    congr 1
    have hl : (xs ++ List.replicate (c + 1) e).length = xs.length + c + 1 := by rw [List.length_append, List.length_replicate]; omega
    rw [hl]
    have : bk (xs ++ List.replicate (c + 1) e) e (xs.length + c + 1) = xs.length + c + 1 := by
      unfold bk
      rw [if_neg]
      have : g (xs ++ List.replicate (c + 1) e) (xs.length + c) = e := by
        unfold g
        rw [List.getD_eq_getElem?_getD, List.getElem?_append_right (by omega), List.getElem?_replicate, if_pos (by omega)]; rfl
      omega
    rw [this]
    simp
/-- ones behind what is at least 1 -/
theorem spans_ones {xs : List Int} (h : ∀ i, i < xs.length → 1 ≤ g xs i) (h0 : 1 ≤ xs.length) : ∀ c, spans (xs ++ List.replicate c 1) = spans xs ++ List.replicate c 1
  | 0 => by simp
  | c + 1 => by
    rw [List.replicate_succ', ← List.append_assoc, spans_snocR, spans_ones h h0 c, List.append_assoc]
    congr 1
    congr 1
    have hl : (xs ++ List.replicate c 1).length = xs.length + c := by rw [List.length_append, List.length_replicate]
    rw [hl]
    have : bk (xs ++ List.replicate c 1) 1 (xs.length + c) = xs.length + c := by
      obtain ⟨k, hk⟩ : ∃ k, xs.length + c = k + 1 := ⟨xs.length + c - 1, by omega⟩
      rw [hk]
      unfold bk
      rw [if_neg]
      by_cases c2 : k < xs.length
      · rw [g_leftL c2]; have := h k c2; omega
      · have : g (xs ++ List.replicate c 1) k = 1 := by
          unfold g
          rw [List.getD_eq_getElem?_getD, List.getElem?_append_right (by omega), List.getElem?_replicate, if_pos (by omega)]; rfl
        omega
    rw [this]
    simp
theorem bk_rep {xs : List Int} {a e : Int} : ∀ {c : Nat}, 1 ≤ c → bk (xs ++ List.replicate c a) e (xs.length + c) = if a < e then bk xs e xs.length else xs.length + c := by
  intro c hc
  have hg : ∀ j, j < c → g (xs ++ List.replicate c a) (xs.length + j) = a := fun j hj => by
    unfold g
    rw [List.getD_eq_getElem?_getD, List.getElem?_append_right (by omega), List.getElem?_replicate, if_pos (by omega)]; rfl
  by_cases h : a < e
  · rw [if_pos h]
    have key : ∀ j, j ≤ c → bk (xs ++ List.replicate c a) e (xs.length + j) = bk xs e xs.length := by
      intro j
      induction j with
      | zero => intro _; exact bk_leftL (Nat.le_refl _)
      | succ j ih =>
        intro hj
        show (if g (xs ++ List.replicate c a) (xs.length + j) < e then bk (xs ++ List.replicate c a) e (xs.length + j) else _) = _
        rw [hg j (by omega), if_pos h]
        exact ih (by omega)
    exact key c (Nat.le_refl _)
  · rw [if_neg h]
    obtain ⟨k, rfl⟩ : ∃ k, c = k + 1 := ⟨c - 1, by omega⟩
    show (if g (xs ++ List.replicate (k + 1) a) (xs.length + k) < e then _ else xs.length + k + 1) = _
    rw [hg k (by omega), if_neg h]
    rfl
/-- the hinderer's place among the blocks -/
theorem bk_xpn {rs : Rn} (hp : ∀ p ∈ rs, 1 ≤ p.2) (e : Int) : ∀ k, k ≤ rs.length → bk (xpn (rs.take k)) e (xpn (rs.take k)).length = tt rs (bk (es rs) e k)
  | 0, _ => by simp [xpn, bk, tt]
  | k + 1, h => by
    have hk : k < rs.length := by omega
    have hc : 1 ≤ ct rs k := hp (g (es rs) k, ct rs k) (List.mem_of_getElem? (rs_at hk))
    have ih := bk_xpn hp e k (by omega)
    rw [take_at hk, xpn_app, xpn_one, List.length_append, List.length_replicate, bk_rep hc]
    show _ = tt rs (if g (es rs) k < e then bk (es rs) e k else k + 1)
    by_cases c : g (es rs) k < e
    · rw [if_pos c, if_pos c, ih]
    · rw [if_neg c, if_neg c, tt_succ hk]; rfl
theorem turn_ok {rs : Rn} (hp : ∀ p ∈ rs, 1 ≤ p.2) : ∀ k, k ≤ rs.length → xpn (pat (vR rs) (ct rs) k) = spans (xpn (rs.take k))
  | 0, _ => rfl
  | k + 1, h => by
    have hk : k < rs.length := by omega
    have hc : 1 ≤ ct rs k := hp (g (es rs) k, ct rs k) (List.mem_of_getElem? (rs_at hk))
    rw [xpn_pat_succ, turn_ok hp k (by omega), take_at hk, xpn_app, xpn_one]
    obtain ⟨c, hcc⟩ : ∃ c, ct rs k = c + 1 := ⟨ct rs k - 1, by omega⟩
    show _ = spans (xpn (rs.take k) ++ List.replicate (ct rs k) (g (es rs) k))
    rw [hcc, spans_rep, spans_snocR, bk_xpn hp _ k (by omega)]
    rfl
theorem xpn_turn {rs : Rn} (hp : ∀ p ∈ rs, 1 ≤ p.2) : xpn (turn rs) = spans (xpn rs) := by
  have := turn_ok hp rs.length (Nat.le_refl _)
  rw [List.take_length] at this
  exact this
theorem ge_pat {v : Nat → Int} {c : Nat → Nat} (hv : ∀ i, 1 ≤ v i) : ∀ n x, x ∈ xpn (pat v c n) → 1 ≤ x
  | 0, x, h => nomatch h
  | n + 1, x, h => by
    rw [xpn_pat_succ] at h
    rcases List.mem_append.mp h with h | h
    · rcases List.mem_append.mp h with h | h
      · exact ge_pat hv n x h
      · rw [List.mem_singleton] at h; rw [h]; exact hv n
    · rw [(List.mem_replicate.mp h).2]; decide
theorem g_mem {xs : List Int} {i : Nat} (h : i < xs.length) : g xs i ∈ xs := List.mem_of_getElem? (g_get h)
/-- the pattern stays -/
theorem pat_step {v : Nat → Int} {c : Nat → Nat} (hv : ∀ i, 1 ≤ v i) : ∃ w : Nat → Int, (∀ i, 1 ≤ w i) ∧ ∀ n, spans (xpn (pat v c n)) = xpn (pat w c n) := by
  refine ⟨fun i => ((xpn (pat v c i)).length : Int) - bk (xpn (pat v c i)) (v i) (xpn (pat v c i)).length + 1, fun i => ?_, fun n => ?_⟩
  · have := bk_le (xpn (pat v c i)) (v i) (xpn (pat v c i)).length
    show (1 : Int) ≤ _ - _ + 1
    omega
  · induction n with
    | zero => rfl
    | succ n ih =>
      rw [xpn_pat_succ, xpn_pat_succ, spans_ones ?_ ?_, spans_snocR, ih]
      · intro i hi
        have hm := g_mem hi
        rcases List.mem_append.mp hm with h | h
        · exact ge_pat hv n _ h
        · rw [List.mem_singleton] at h; rw [h]; exact hv n
      · rw [List.length_append]; simp
theorem ro_pat {rs : Rn} (hp : ∀ p ∈ rs, 1 ≤ p.2) : ∀ t, ∃ v : Nat → Int, (∀ i, 1 ≤ v i) ∧ ro (t + 1) (xpn rs) = xpn (pat v (ct rs) rs.length)
  | 0 => by
    refine ⟨fun i => if i < rs.length then vR rs i else 1, fun i => ?_, ?_⟩
    · show (1 : Int) ≤ (if i < rs.length then vR rs i else 1)
      split
      · unfold vR
        have := bk_le (es rs) (g (es rs) i) i
        have := tt_mono (rs := rs) this (by omega)
        omega
      · decide
    · show spans (xpn rs) = _
      rw [← xpn_turn hp]
      unfold turn
      have : ∀ k, k ≤ rs.length → pat (vR rs) (ct rs) k = pat (fun i => if i < rs.length then vR rs i else 1) (ct rs) k := by
        intro k
        induction k with
        | zero => intro _; rfl
        | succ k ih => intro h; rw [pat_succ, pat_succ, ih (by omega), if_pos (show k < rs.length by omega)]
      rw [this _ (Nat.le_refl _)]
  | t + 1 => by
    obtain ⟨v, hv, h⟩ := ro_pat hp t
    obtain ⟨w, hw, h2⟩ := pat_step (c := ct rs) hv
    exact ⟨w, hw, by show spans (ro (t + 1) (xpn rs)) = _; rw [h, h2]⟩
/-- the runs after so many rounds are few -/
theorem runs_few {rs R : Rn} (hp : ∀ p ∈ rs, 1 ≤ p.2) (hR : Cn R) {t : Nat} (h : xpn R = ro t (xpn rs)) : R.length ≤ 2 * rs.length := by
  cases t with
  | zero =>
    rw [← mrg_uniq hp hR h.symm]
    have := mrg_len rs
    omega
  | succ t =>
    obtain ⟨v, hv, h2⟩ := ro_pat hp t
    have := mrg_uniq (pat_pos v (ct rs) rs.length) hR (h2.symm.trans h.symm)
    rw [← this]
    exact Nat.le_trans (mrg_len _) (pat_len _ _ _)
theorem sm_topN {xs : List Int} (L : Lam xs) : ∀ {n : Nat}, n ≤ xs.length → sm xs n ≤ (xs.length : Int) * n
  | 0, _ => by show (0 : Int) ≤ _ * ((0 : Nat) : Int); simp
  | n + 1, h => by
    have := sm_topN L (n := n) (by omega)
    have h2 := L.hi n (by omega)
    show sm xs n + g xs n ≤ (xs.length : Int) * ((n + 1 : Nat) : Int)
    have e : (xs.length : Int) * ((n + 1 : Nat) : Int) = (xs.length : Int) * (n : Int) + xs.length := by
      push_cast
      rw [Int.mul_add, Int.mul_one]
    rw [e]
    have : (n : Int) + 1 ≤ xs.length := by omega
    omega
/-- any row stands still after some rounds -/
theorem nd_lamN : ∀ (m : Nat) {xs : List Int}, Lam xs → ((xs.length : Int) * xs.length - sm xs xs.length).toNat ≤ m → ∃ n, Nd xs n := by
  intro m
  induction m with
  | zero =>
    intro xs L hm
    refine ⟨0, ?_, fun k hk => absurd hk (Nat.not_lt_zero _)⟩
    show spans xs = xs
    have t1 := sm_topN (spans_lam xs) (n := xs.length) (by rw [spans_len]; exact Nat.le_refl _)
    rw [spans_len] at t1
    have e := sm_eq (xs := xs) (ys := spans xs) (n := xs.length) (fun i hi => spans_ge L hi) (by omega)
    exact (g_ext (spans_len xs).symm fun i hi => e i hi).symm
  | succ m ih =>
    intro xs L hm
    by_cases c : spans xs = xs
    · exact ⟨0, c, fun k hk => absurd hk (Nat.not_lt_zero _)⟩
    · have t1 := sm_topN (spans_lam xs) (n := xs.length) (by rw [spans_len]; exact Nat.le_refl _)
      rw [spans_len] at t1
      have lt : sm xs xs.length < sm (spans xs) xs.length := by
        have le := sm_le (xs := xs) (ys := spans xs) (n := xs.length) fun i hi => spans_ge L hi
        by_cases q : sm (spans xs) xs.length ≤ sm xs xs.length
        · have e := sm_eq (xs := xs) (ys := spans xs) (n := xs.length) (fun i hi => spans_ge L hi) q
          exact absurd (g_ext (spans_len xs).symm fun i hi => e i hi).symm c
        · omega
      obtain ⟨n, hn⟩ := ih (xs := spans xs) (spans_lam xs) (by rw [spans_len]; omega)
      exact ⟨n + 1, Nd.step c hn⟩
theorem nd_ex (xs : List Int) : ∃ n, Nd xs n := by
  by_cases c : spans xs = xs
  · exact ⟨0, c, fun k hk => absurd hk (Nat.not_lt_zero _)⟩
  · obtain ⟨n, hn⟩ := nd_lamN _ (spans_lam xs) (Nat.le_refl _)
    exact ⟨n + 1, Nd.step c hn⟩
end Sx

set_option Elab.async false
set_option linter.all false
set_option maxRecDepth 100000
namespace Sx
open PySem PySem.Spec
open PyProof.Rows L2
/-- a def of the module under its name, the last of its parameters with defaults -/
structure DefAtP (K : PySem.W.Frag) (mg : Str → Option Value) (x : Str) (st : Stmt) (ps : List Str) (dvs : List V) (f : Addr) (fd : FuncData) : Prop where
  fn : FunD K x x (defArgs st) (defBody st) (defScope st) dvs [] f fd
  at_ : mg x = some (.ref f)
  bi : Binds K fd ps []
  bd : ∃ ds, Vals dvs ds ∧ Binds K fd ps ds
section
variable {P : Program} {w : World} {K : PySem.W.Frag} {mg : Str → Option Value} {base : Heap} {x : Str} {st : Stmt} {N ps : List Str} {dvs : List V} {f : Addr} {fd : FuncData} {k : Nat} {sp : Sp}
theorem DefAtP.fok (D : DefAtP K mg x st ps dvs f fd) (S : FnScope N ps (defScope st)) (ar : ∀ vs H Q E, sp vs H Q E → vs.length = ps.length)
    (hb : ∀ (cdv : Value) (A : Around) (outer : List Env) (s : Shared) (H : Hp) (vs : List V) (Q : VK) (E : XK),
      Room k (A.deeper (envOfC x (defScope st) s.heap.objs.size f cdv)) → sp vs H Q E →
      ∃ t, PSs (cxOf CX0 P w K mg base N x (defScope st) f cdv A outer s H E).nox (defBody st) t ∧
        t { nx := fun _ H' => Q .non H', rt := Q } (start N vs) H) : FnOk P w K mg base CX0 (k + 1) f fd ps sp :=
  D.fn.ok S ar fun cdv A outer s H vs Q E hr h => by
    obtain ⟨t, h1, q⟩ := hb cdv A outer s H vs Q E hr h
    exact ⟨t, h1.nox, q⟩
theorem DefAtP.cal (D : DefAtP K mg x st ps dvs f fd) (F : FnOk P w K mg base CX0 k f fd ps sp) : C8.Cal P w K mg base k x sp [] :=
  ⟨f, fd, ps, [], F, D.at_, D.fn.kp, D.bi, .nil⟩
theorem DefAtP.cald (D : DefAtP K mg x st ps dvs f fd) (F : FnOk P w K mg base CX0 k f fd ps sp) : C8.Cal P w K mg base k x sp dvs := by
  obtain ⟨ds, h1, h2⟩ := D.bd
  exact ⟨f, fd, ps, ds, F, D.at_, D.fn.kp, h2, h1⟩
theorem funD_b0 {qual : Str} {params : Arguments} {body : List Stmt} {scope : Scope} (F : FunD K x qual params body scope dvs [] f fd) (hd : dvs ≠ [])
    (h : ∀ (T : Addr) (kV doc pm : Value) (an : Option Addr) (cdv ct : Value) (us its : List Value), us.length = ps.length → its.length = dvs.length →
      ∃ k, bindArgs (PySem.W.fnOf x qual params body scope (.ref T) kV doc pm an cdv ct) ⟨us, []⟩ = seqItems? (.ref T) >>= k ∧ k (some its.toArray) = pure (ps.zip (us ++ its.drop dvs.length))) : Binds K fd ps [] := by
  obtain ⟨ds, hv, hb⟩ := F.binds1 ps.length dvs.length hd (by rw [Nat.sub_self, Nat.add_zero]) h
  rw [List.drop_length] at hv
  cases hv
  exact hb
end
end Sx

set_option Elab.async false
set_option linter.all false
set_option maxRecDepth 100000
set_option maxHeartbeats 4000000
namespace Sx
open PySem PySem.Spec PyProof.Rows L2
/-! ### a tuple once -/
theorem tup_once (l : Addr) (us : Array Value) (n : Nat) (dd : Option Addr) (sl : Array (Option Value)) (u : Tok) :
    Meets (Builtin.«tuple.__mul__» ⟨[.ref l, .int 1 u], []⟩) (fun _ R s => s.heap.get? l = some { cls := .type "tuple", dict := dd, data := .seq us n, slots := sl } ∧
      R (.ok (.ret (Value.ref l))) s) :=
  .of_wp fun prog w A R s h => by
    obtain ⟨hp, gg, d, tk, os⟩ := s
    obtain ⟨hl, h⟩ := h
    have f1 := AutoSeq1.idx_int
    have c0 : (decide ((1 : Int) < -(2 ^ 63)) || decide ((1 : Int) ≥ 2 ^ 63)) = false := by decide
    have c1 : (us.isEmpty || (1 : Int) == 1) = true := by rw [show ((1 : Int) == 1) = true from rfl, Bool.or_true]
    wp_walk using AutoSeq1.wpAny_loadPart' hl
    repeat (first
      | (refine wpAny_ite_false (decide_eq_false (by rw [c0]; exact Bool.false_ne_true)) ?_; wp_walk using AutoSeq1.wpAny_loadPart' hl)
      | (refine wpAny_ite_true (decide_eq_true c1) ?_; wp_walk using AutoSeq1.wpAny_loadPart' hl))
    exact ⟨_, rfl, h⟩
section
variable {X : Cx}
theorem rep_one {α : Type} (xs : List α) : (List.replicate 1 xs).flatten = xs := by simp
def rRepA (K : PySem.W.Frag) : R2 := fun x y H Q => ∃ l k xs, x = V.ref l ∧ y = V.int k ∧ SqT K H l xs ∧ xs ≠ [] ∧ 1 ≤ k ∧ k ≤ 1000 ∧ xs.length ≤ 1000 ∧
  ∀ c H', Ex H H' → SqT K H' c (List.replicate k.toNat xs).flatten → Q (.ref c) H'
theorem op_repA : OpR X (binaryOp .Mult) (rRepA X.K) := by
  intro pins s σ H x y v u Q I rx ry h
  obtain ⟨l, k, xs, hx, hy, hT, hne, h1, h2, hz, q⟩ := h
  by_cases hk : 2 ≤ k
  · exact op_repT pins s σ H x y v u Q I rx ry ⟨l, k, xs, hx, hy, hT, hne, hk, h2, hz, fun p hp => q p _ (Evl.Ex.new hp) (SqT.of upd_same)⟩
  obtain rfl : k = 1 := by omega
  subst hx hy
  cases rx
  obtain ⟨t, rfl⟩ := ry
  obtain ⟨its, r, ⟨⟨cls, dd, data, sl⟩, ho, hc, n, hd⟩, hs⟩ := I.tuple hT
  simp only at hc hd
  subst hc hd
  refine wpAny_binaryOp_repeat_ref (T := "tuple") (U := "int") (by decide) ⟨_, ho, rfl⟩ (fun s' => typeIs_int s' 1 t) noFill_tuple_mul F.fills_int_mul F.slot_int_rmul repeat_tuple F.slot_int_index.lookup
    (call_meets F.slot_int_rmul (typeIs_int s 1 t) F.entry_int_rmul (F.args_int_rmul_2 _ _) (int_rmul_tuple 1 t l its.toArray n dd sl)
      ⟨ho, rfl, ⟨_, ho, rfl⟩, call_meets F.slot_tuple_mul ⟨_, ho, rfl⟩ F.entry_tuple_mul (F.args_tuple_mul_2 _ _) (tup_once l its.toArray n dd sl t) ⟨ho, ?_⟩⟩)
  refine ⟨.ref l, H, I, rfl, q l H (Evl.Ex.refl H) ?_⟩
  rw [show (1 : Int).toNat = 1 from rfl, rep_one]
  exact hT
end
theorem rep_flat {n : Nat} {c : Int} : (List.replicate n [V.int c]).flatten = (List.replicate n c).map V.int := by
  induction n with
  | zero => rfl
  | succ n ih => rw [List.replicate_succ, List.replicate_succ, List.flatten_cons, ih]; rfl
end Sx

set_option Elab.async false
set_option linter.all false
namespace Sx
open PySem PySem.Spec
open PyProof.Rows L2 Sx
/-! ### pairs in the heap -/
def pV (p : Int × Nat) : List L2.V := [.int p.1, .int (p.2 : Int)]
def Prs (K : PySem.W.Frag) (H : Hp) (vs : List L2.V) (rs : Rn) : Prop := vs.length = rs.length ∧ ∀ (i : Nat) (p : Int × Nat), rs[i]? = some p → ∃ r, vs[i]? = some (.ref r) ∧ SqT K H r (pV p)
def PrT (K : PySem.W.Frag) (H : Hp) (a : Addr) (rs : Rn) : Prop := ∃ vs : List L2.V, SqT K H a vs ∧ Prs K H vs rs
section
variable {K : PySem.W.Frag} {H H' : Hp} {a p r : Addr} {vs : List L2.V} {rs : Rn}
theorem Prs.ex (h : Prs K H vs rs) (X : Ex H H') : Prs K H' vs rs := ⟨h.1, fun i p hp => by
  obtain ⟨r, hr, hS⟩ := h.2 i p hp
  exact ⟨r, hr, Evl.ex_t X hS⟩⟩
theorem Prs.exB {t : Addr} {ys : List L2.V} (h : Prs K H vs rs) (E : ExB t H H') (ht : H t = some (.lst ys)) : Prs K H' vs rs := ⟨h.1, fun i p hp => by
  obtain ⟨r, hr, hS⟩ := h.2 i p hp
  exact ⟨r, hr, E.tup ht hS⟩⟩
theorem Prs.mut {ys zs : List L2.V} (h : Prs K H vs rs) (ht : H p = some (.lst ys)) : Prs K (upd H p (.lst zs)) vs rs := ⟨h.1, fun i q hq => by
  obtain ⟨r, hr, hS⟩ := h.2 i q hq
  exact ⟨r, hr, sqT_mut hS ht⟩⟩
theorem Prs.nil : Prs K H [] [] := ⟨rfl, fun i p hp => nomatch hp⟩
theorem Prs.snoc {q : Int × Nat} (h : Prs K H vs rs) (hr : SqT K H r (pV q)) : Prs K H (vs ++ [.ref r]) (rs ++ [q]) := by
  refine ⟨by rw [List.length_append, List.length_append, h.1]; rfl, fun i p hp => ?_⟩
  by_cases c : i < rs.length
  · rw [List.getElem?_append_left c] at hp
    obtain ⟨b, hb, hS⟩ := h.2 i p hp
    exact ⟨b, by rw [List.getElem?_append_left (by rw [h.1]; exact c)]; exact hb, hS⟩
  · rw [List.getElem?_append_right (by omega)] at hp
    rw [List.getElem?_append_right (by rw [h.1]; omega), h.1]
    cases e : i - rs.length with
    | zero => rw [e] at hp; cases hp; exact ⟨r, rfl, hr⟩
    | succ k => rw [e] at hp; cases hp
theorem Prs.init {q : Int × Nat} (h : Prs K H vs (rs ++ [q])) : Prs K H vs.dropLast rs ∧ ∃ r, vs[vs.length - 1]? = some (.ref r) ∧ SqT K H r (pV q) := by
  have hl := h.1
  rw [List.length_append] at hl
  simp only [List.length_cons, List.length_nil] at hl
  refine ⟨⟨by rw [List.length_dropLast]; omega, fun i p hp => ?_⟩, ?_⟩
  · have hi : i < rs.length := (List.getElem?_eq_some_iff.mp hp).1
    obtain ⟨b, hb, hS⟩ := h.2 i p (by rw [List.getElem?_append_left hi]; exact hp)
    refine ⟨b, ?_, hS⟩
    rw [List.getElem?_dropLast, if_pos (by omega)]
    exact hb
  · obtain ⟨b, hb, hS⟩ := h.2 rs.length q (by rw [List.getElem?_append_right (Nat.le_refl _), Nat.sub_self]; rfl)
    exact ⟨b, by rw [show vs.length - 1 = rs.length by omega]; exact hb, hS⟩
theorem Prs.last {q : Int × Nat} (h : Prs K H vs (rs ++ [q])) : ∃ r, atI vs (-1) = some (.ref r) ∧ SqT K H r (pV q) := by
  have hl := h.1
  rw [List.length_append] at hl
  simp only [List.length_cons, List.length_nil] at hl
  obtain ⟨r, hr, hS⟩ := h.init.2
  exact ⟨r, by rw [atI_last (n := rs.length) (by omega)]; rw [show vs.length - 1 = rs.length by omega] at hr; exact hr, hS⟩
theorem Prs.setlast {q q' : Int × Nat} (h : Prs K H vs (rs ++ [q])) (hr : SqT K H r (pV q')) : Prs K H (vs.set rs.length (.ref r)) (rs ++ [q']) := by
  have hl := h.1
  rw [List.length_append] at hl
  simp only [List.length_cons, List.length_nil] at hl
  refine ⟨by rw [List.length_set, List.length_append, hl]; rfl, fun i p hp => ?_⟩
  by_cases c : i < rs.length
  · obtain ⟨b, hb, hS⟩ := h.2 i p (by rw [List.getElem?_append_left c] at hp ⊢; exact hp)
    exact ⟨b, by rw [List.getElem?_set_ne (by omega)]; exact hb, hS⟩
  · have hi : i = rs.length := by
      have := (List.getElem?_eq_some_iff.mp hp).1
      rw [List.length_append] at this
      simp only [List.length_cons, List.length_nil] at this
      omega
    subst hi
    rw [List.getElem?_append_right (Nat.le_refl _), Nat.sub_self] at hp
    cases hp
    exact ⟨r, by rw [List.getElem?_set_self (by omega)], hr⟩
theorem Prs.at {i : Nat} {q : Int × Nat} (h : Prs K H vs rs) (hi : rs[i]? = some q) : ∃ r, atI vs (i : Int) = some (.ref r) ∧ SqT K H r (pV q) := by
  obtain ⟨r, hr, hS⟩ := h.2 i q hi
  exact ⟨r, atI_nat hr, hS⟩
theorem Prs.item {i : Nat} {x : L2.V} (h : Prs K H vs rs) (hx : vs[i]? = some x) : i < rs.length ∧ ∃ r, x = .ref r ∧ SqT K H r (pV (g (es rs) i, ct rs i)) := by
  have hi : i < rs.length := by rw [← h.1]; exact (List.getElem?_eq_some_iff.mp hx).1
  obtain ⟨r, hr, hS⟩ := h.2 i _ (rs_at hi)
  rw [hx] at hr
  exact ⟨hi, r, Option.some.inj hr, hS⟩
theorem PrT.ex (h : PrT K H a rs) (X : Ex H H') : PrT K H' a rs := by
  obtain ⟨vs, h1, h2⟩ := h
  exact ⟨vs, Evl.ex_t X h1, h2.ex X⟩
/-- data of pairs -/
def pD (p : Int × Nat) : PyData := .tuple [.int p.1, .int (p.2 : Int)]
theorem Prs.dp : ∀ {rs : Rn} {vs : List L2.V}, Prs K H vs rs → DpAll K H vs (rs.map pD)
  | [], [], _ => .nil
  | [], v :: vs, h => absurd h.1 (by simp)
  | q :: rs, [], h => absurd h.1 (by simp)
  | q :: rs, v :: vs, h => by
    obtain ⟨r, hr, hS⟩ := h.2 0 q rfl
    have : v = .ref r := Option.some.inj hr
    subst this
    refine .cons (.tup hS (.cons (.int _) (.cons (.int _) .nil))) (Prs.dp (rs := rs) (vs := vs) ⟨?_, fun i p hp => h.2 (i + 1) p hp⟩)
    have := h.1
    simp only [List.length_cons] at this
    omega
theorem eqv_pD (p q : Int × Nat) : PyData.eqv (pD p) (pD q) = decide (p = q) := by
  unfold pD
  simp only [PyData.eqv, PyData.eqvAll, Bool.and_true]
  rw [Bool.eq_iff_iff]
  simp [Prod.ext_iff, Int.natCast_inj]
theorem eqv_pDs : ∀ rs qs : Rn, PyData.eqvAll (rs.map pD) (qs.map pD) = decide (rs = qs)
  | [], [] => rfl
  | [], z :: zs => by simp [PyData.eqvAll]
  | y :: ys, [] => by simp [PyData.eqvAll]
  | y :: ys, z :: zs => by
    simp only [List.map_cons, PyData.eqvAll, eqv_pD, eqv_pDs ys zs]
    by_cases h1 : y = z
    · subst h1; simp
    · simp [h1]
theorem eqv_prs (rs qs : Rn) : PyData.eqv (.tuple (rs.map pD)) (.tuple (qs.map pD)) = decide (rs = qs) := by
  simp only [PyData.eqv]; exact eqv_pDs rs qs
theorem lay_pDs : ∀ rs : Rn, PyData.canLayAll0 (rs.map pD) = true
  | [] => rfl
  | y :: ys => by simp only [List.map_cons, PyData.canLayAll0, lay_pDs ys]; rfl
theorem depth_pDs : ∀ rs : Rn, PyData.depthAll (rs.map pD) ≤ 1
  | [] => Nat.zero_le _
  | y :: ys => by
    have := depth_pDs ys
    have e : PyData.depth (pD y) = 1 := rfl
    simp only [List.map_cons, PyData.depthAll, e]; omega
theorem shaped_prs (rs : Rn) : SeqAt.shaped (.tuple (rs.map pD)) = true := by
  have := depth_pDs rs
  simp only [SeqAt.shaped, PyData.canLay0, PyData.depth, lay_pDs, Bool.true_and]
  exact decide_eq_true (by omega)
end
/-! ### blocks -/
structure Bk (rs : Rn) : Prop where
  lo : 1 ≤ rs.length
  hi : rs.length ≤ 200
  ok : ∀ p ∈ rs, -10 ^ 30 ≤ p.1 ∧ p.1 ≤ 10 ^ 30 ∧ 1 ≤ p.2 ∧ p.2 ≤ 10 ^ 28
theorem Bk.pos {rs : Rn} (B : Bk rs) : ∀ p ∈ rs, 1 ≤ p.2 := fun p h => (B.ok p h).2.2.1
/-! ### walking over what is a list or a tuple -/
def iOr (a b : TI) : TI := fun σ H R => a σ H R ∨ b σ H R
theorem pi_or {X : Cx} {tg e : Expr} {a b : TI} (ha : PI X tg e a) (hb : PI X tg e b) : PI X tg e (iOr a b) :=
  ⟨fun pins s σ H R I h => h.elim (fun h => ha.run pins s σ H R I h) fun h => hb.run pins s σ H R I h⟩
/-- a list or a tuple of pairs -/
def PrA (K : PySem.W.Frag) (H : Hp) (a : Addr) (rs : Rn) : Prop := ∃ vs : List L2.V, (H a = some (.lst vs) ∨ SqT K H a vs) ∧ Prs K H vs rs
theorem nd_bound {xs : List Int} {n : Nat} (h : Nd xs n) : (n : Int) ≤ max 2 (xs.length : Int) + 1 := by
  match n, h with
  | 0, _ => omega
  | 1, _ => omega
  | n + 2, h =>
    have h1 := nd_fib h
    have key : ∀ k : Nat, (k : Int) + 1 ≤ fib (k + 3) := by
      intro k
      induction k with
      | zero => decide
      | succ k ih =>
        have : 1 ≤ fib (k + 2) := fib_pos (k + 1)
        have e : fib (k + 1 + 3) = fib (k + 2) + fib (k + 3) := rfl
        rw [e]
        omega
    have := key (n + 1)
    rw [show n + 1 + 3 = n + 4 by omega] at this
    omega
theorem ExB.mut {t fl : Addr} {H H1 : Hp} {o : HO} (E : ExB t H H1) (h : H fl = none) : ExB t H (L2.upd H1 fl o) := fun b u n hb => by
  rw [upd_ne (ne_of_none hb h)]; exact E b u n hb
section
variable {K : PySem.W.Frag}
theorem prs_push {H1 : Hp} {fl t : Addr} {ws : List L2.V} {rs : Rn} {q : Int × Nat} (hw : H1 fl = some (.lst ws)) (hW : Prs K H1 ws rs) (ht : H1 t = none) :
    ∃ ws', (upd (upd H1 t (.tup (pV q))) fl (.lst (ws ++ [.ref t]))) fl = some (.lst ws') ∧ Prs K (upd (upd H1 t (.tup (pV q))) fl (.lst (ws ++ [.ref t]))) ws' (rs ++ [q]) := by
  have Xt := Evl.Ex.new (o := .tup (pV q)) ht
  have hw2 := Xt _ _ hw
  exact ⟨_, upd_same, ((hW.ex Xt).mut hw2).snoc (sqT_mut (SqT.of upd_same) hw2)⟩
theorem prs_set {H1 : Hp} {fl t : Addr} {ws : List L2.V} {ini : Rn} {l q : Int × Nat} (hw : H1 fl = some (.lst ws)) (hW : Prs K H1 ws (ini ++ [l])) (ht : H1 t = none) :
    ∃ ws', (upd (upd H1 t (.tup (pV q))) fl (.lst (ws.set ini.length (.ref t)))) fl = some (.lst ws') ∧ Prs K (upd (upd H1 t (.tup (pV q))) fl (.lst (ws.set ini.length (.ref t)))) ws' (ini ++ [q]) := by
  have Xt := Evl.Ex.new (o := .tup (pV q)) ht
  have hw2 := Xt _ _ hw
  exact ⟨_, upd_same, ((hW.ex Xt).mut hw2).setlast (sqT_mut (SqT.of upd_same) hw2)⟩
theorem prs_ix {H1 : Hp} {ws : List L2.V} {ini : Rn} {l : Int × Nat} (hW : Prs K H1 ws (ini ++ [l])) : ixN ws.length (-1) = some ini.length := by
  have h := hW.1
  rw [List.length_append] at h
  simp only [List.length_cons, List.length_nil] at h
  unfold ixN
  rw [if_neg (by decide), if_pos (by omega), h]
  congr 1
  omega
theorem shaped_prl (rs : Rn) : SeqAt.shaped (.list (rs.map pD)) = true := by
  have := depth_pDs rs
  simp only [SeqAt.shaped, PyData.canLay0, PyData.depth, lay_pDs, Bool.true_and]
  exact decide_eq_true (by omega)
theorem eqv_prl (rs qs : Rn) : PyData.eqv (.list (rs.map pD)) (.list (qs.map pD)) = decide (rs = qs) := by
  simp only [PyData.eqv]; exact eqv_pDs rs qs
end
/-- a row as blocks of one entry -/
def ones1 (xs : List Int) : Rn := xs.map fun x => (x, 1)
theorem xpn_ones1 : ∀ xs : List Int, xpn (ones1 xs) = xs
  | [] => rfl
  | x :: xs => by show xpn ((x, 1) :: ones1 xs) = _; rw [xpn_cons, xpn_ones1 xs]; rfl
theorem ones1_pos {xs : List Int} : ∀ p ∈ ones1 xs, 1 ≤ p.2 := fun p h => by
  obtain ⟨x, _, rfl⟩ := List.mem_map.mp h
  exact Nat.le_refl _
theorem mrg_ones1 {xs : List Int} {i : Nat} (h : i < xs.length) : mrg (ones1 (xs.take (i + 1))) = putR (mrg (ones1 (xs.take i))) (g xs i, 1) := by
  unfold mrg ones1
  rw [List.take_add_one, g_get h, List.map_append, List.foldl_append]; rfl
theorem cn_ones1 (xs : List Int) : Cn (mrg (ones1 xs)) := Cn.mrg ones1_pos
theorem xpn_mem : ∀ {l : Rn} {p : Int × Nat}, p ∈ l → 1 ≤ p.2 → p.1 ∈ xpn l ∧ p.2 ≤ (xpn l).length
  | q :: l, p, h, hp => by
    rw [xpn_cons, List.mem_append, List.length_append, List.length_replicate]
    rcases List.mem_cons.mp h with e | e
    · subst e
      exact ⟨.inl (List.mem_replicate.mpr ⟨by omega, rfl⟩), by omega⟩
    · obtain ⟨a, b⟩ := xpn_mem e hp
      exact ⟨.inr a, by omega⟩
theorem bk_of {rs : Rn} {xs : List Int} (hp : ∀ p ∈ rs, 1 ≤ p.2) (hx : xpn rs = xs) (R : Rw xs) (hl : rs.length ≤ 200) : Bk rs := by
  refine ⟨?_, hl, fun p hm => ?_⟩
  · rcases Nat.eq_zero_or_pos rs.length with h | h
    · have e : rs = [] := List.length_eq_zero_iff.mp h
      subst e
      have := R.lo
      rw [← hx] at this
      exact absurd this (by decide)
    · exact h
  · obtain ⟨a, b⟩ := xpn_mem hm (hp p hm)
    rw [hx] at a b
    have := R.ok _ a
    have h2 := R.hi
    exact ⟨this.1, this.2, hp p hm, Nat.le_trans b (Nat.le_trans h2 (by decide))⟩
theorem len_xpn_le : ∀ {l : Rn}, (∀ p ∈ l, 1 ≤ p.2) → l.length ≤ (xpn l).length
  | [], _ => Nat.zero_le _
  | p :: l, h => by
    have h1 := h p (List.mem_cons_self ..)
    have h2 := len_xpn_le (l := l) fun q hq => h q (List.mem_cons_of_mem _ hq)
    rw [xpn_cons, List.length_append, List.length_replicate, List.length_cons]
    omega
end Sx

set_option Elab.async false
set_option linter.all false
set_option maxRecDepth 100000
namespace Sx
open PySem PySem.Spec PyProof.Rows L2
/-! ### tuples that are known to be plain, and what is counted in them -/
/-- a plain tuple, made by the program -/
def PT (H : Hp) (a : Addr) (xs : List L2.V) : Prop := ∃ ob : Obj, H a = some (.frz ob (.tup xs)) ∧ ob.cls = .type "tuple" ∧ ob.dict = none
section
variable {K : PySem.W.Frag} {H H' : Hp} {a p t : Addr} {xs ys zs : List L2.V}
theorem PT.sq (h : PT H a xs) : SqT K H a xs := by
  obtain ⟨ob, h1, _⟩ := h
  exact .inl (.inr ⟨ob, h1⟩)
theorem PT.ex (h : PT H a xs) (X : Ex H H') : PT H' a xs := by
  obtain ⟨ob, h1, h2⟩ := h
  exact ⟨ob, X _ _ h1, h2⟩
theorem PT.ne (h : PT H a xs) (hp : H p = some (.lst ys)) : a ≠ p := by
  obtain ⟨ob, h1, _⟩ := h
  rintro rfl
  rw [h1] at hp; cases hp
theorem PT.mut (h : PT H a xs) (hp : H p = some (.lst ys)) : PT (L2.upd H p (.lst zs)) a xs := by
  have n := h.ne hp
  obtain ⟨ob, h1, h2⟩ := h
  exact ⟨ob, by rw [upd_ne n]; exact h1, h2⟩
theorem PT.exB (h : PT H a xs) (E : ExB t H H') (ht : H t = some (.lst ys)) : PT H' a xs := by
  have n := h.ne ht
  obtain ⟨ob, h1, h2⟩ := h
  exact ⟨ob, E _ _ n h1, h2⟩
end
def rTupP (K : PySem.W.Frag) : List V → Hp → VK → Prop := fun as H Q => ∃ b zs, as = [.ref b] ∧ SqL K H b zs ∧ ∀ c ob, H c = none → ob.cls = .type "tuple" → ob.dict = none → Q (.ref c) (upd H c (.frz ob (.tup zs)))
/-- tuple(a list), the object told -/
theorem cr_tupleP {X : Cx} : CallR X (.type "tuple") (rTupP X.K) := by
  intro pp st sg HH as us QQ JJ rr hh
  obtain ⟨b, zs, rfl, hq, qq⟩ := hh
  obtain ⟨u0, rfl, r0⟩ := vals1 rr
  cases r0
  obtain ⟨items, r1, hpl, hzz⟩ := JJ.list hq
  have hll := r1.length
  refine call_tuple_list hpl.isList (fun hp2 kp2 => ?_) (by simp only [List.size_toArray]; omega)
  have J1 : Inv X pp sg HH { st with heap := hp2 } := JJ.kept (t' := st.toks) kp2
  refine ⟨.ref hp2.objs.size, upd HH hp2.objs.size (.frz { cls := .type "tuple", data := .seq items.toArray } (.tup zs)), ?_, rfl, qq _ _ (J1.hok.fresh (Nat.le_refl _)) rfl rfl⟩
  exact J1.laid (t' := st.toks) (fun b2 o2 e2 => Heap.get?_push_of_some _ e2) (Nat.le_refl _) ⟨Heap.get?_push_size _ rfl, hzz, items, r1, IsTup.new _ _⟩
/-- how often an int stands in a tuple -/
def rCntT (K : PySem.W.Frag) : V → List V → Hp → VK → Prop := fun x xs H Q => ∃ (c : Addr) (zs : List Int) (z : Int), x = .ref c ∧ xs = [.int z] ∧ SqT K H c (zs.map V.int) ∧ Q (.int ((zs.count z : Nat) : Int)) H
theorem mt_tcount {X : Cx} : MtR X "tuple.count" (rCntT X.K) := by
  intro pp st sg HH x0 x1 v0 v1 QQ JJ r0 r1 hh
  obtain ⟨c, zs, z, rfl, rfl, hq, qq⟩ := hh
  cases r0
  obtain ⟨u0, rfl, t0, rfl⟩ := vals1 r1
  obtain ⟨items, rv, hpl, hzz⟩ := JJ.tuple hq
  obtain ⟨⟨cl, d1, d2, s2⟩, hob, hcl, n0, hdt⟩ := hpl
  simp only at hcl hdt
  subst hcl
  subst hdt
  have hints := ints_of_vals rv
  have hev : items.toArray.toList.countP (eqk z) = zs.count z := eqk_count hints
  refine call_meets PySem.F.slot_tuple_count ⟨_, hob, rfl⟩ PySem.F.entry_tuple_count (PySem.F.args_tuple_count_2 _ _)
    (SeqAt.tuple_countAt c items.toArray n0 d1 s2 (.int z t0) (eqk z)) ⟨hob, fun w hw => (eqk_gives hints w (by simpa using hw)).at _ _, ?_⟩
  refine ⟨.int ((zs.count z : Nat) : Int), HH, JJ.tok _, ⟨st.toks, ?_⟩, qq⟩
  rw [hev]
/-- t.count(x) -/
def tTCount (K : PySem.W.Frag) (to te : TE) : TE := fun σ H Q => to σ H fun x H1 => ∃ c, ∃ zs : List Int, x = .ref c ∧ PT H1 c (zs.map V.int) ∧ te σ H1 fun y H2 => ∃ z : Int, y = .int z ∧ PT H2 c (zs.map V.int) ∧ Q (.int ((zs.count z : Nat) : Int)) H2
theorem pe_tcount {X : Cx} {o e : Expr} {apos cpos : Pos} {to te : TE} (ho : PE X o to) (he : PE X e te)
    (hb : attributeBase o "count" X.env (eval o X.env) = eval o X.env := by rfl) (hl : (apos.endLine == cpos.line) = true := by rfl)
    (ht : backTo cpos (starEach [e] X.env) = [(false, eval e X.env)] := by rfl) :
    PE X (.Call (.Attribute o "count" apos) [e] [] cpos) (tTCount X.K to te) := by
  refine ⟨fun pp st sg HH QQ JJ hh => ?_⟩
  refine wpAny_Call_method1_late hb hl ht (thn (ho.run pp st sg HH _ JJ hh) fun v0 s1 ⟨x, H1, J1, r1, c, zs, hx, hPT, q1⟩ => ?_)
  subst hx
  cases r1
  obtain ⟨ob, hob, hcl, hdi⟩ := hPT
  have hget : s1.heap.get? c = some ob := (J1.hok c _ hob).1
  refine ⟨"tuple", "tuple.count", PySem.F.plainAttrs_tuple, PySem.F.slot_tuple_count, PySem.F.type_tuple_count, ⟨ob, hget, hcl⟩, fun b2 e2 => ?_, ?_⟩
  · cases e2
    exact ⟨ob, hget, hdi⟩
  refine Calls.callWith_builtin rfl (Calls.evalArgs_plain (Calls.spliced_cons (thn (he.run pp s1 sg H1 _ J1 q1) fun u s2 ⟨y, H2, J2, r2, z, hy, hPT2, q2⟩ => Calls.spliced_nil ?_)))
  subst hy
  exact mt_tcount pp s2 sg H2 (.ref c) [.int z] (.ref c) [u] QQ J2 rfl (.cons r2 .nil) ⟨c, zs, z, rfl, rfl, hPT2.sq, q2⟩
end Sx
namespace Sx
open PySem PySem.Spec PyProof.Rows L2
/-- p holds the rows after 0 to n rounds, plain tuples -/
def RwsP (H : Hp) (p : Addr) (xs : List Int) (n : Nat) : Prop :=
  ∃ vs : List L2.V, H p = some (.lst vs) ∧ vs.length = n + 1 ∧ ∀ j, j ≤ n → ∃ b, vs[j]? = some (.ref b) ∧ PT H b ((ro j xs).map L2.V.int)
def rCatP (K : PySem.W.Frag) : R2 := fun x y H Q => ∃ a b xs ys, x = .ref a ∧ y = .ref b ∧ SqT K H a xs ∧ SqT K H b ys ∧ xs.length + ys.length ≤ sizeLine ∧ xs ≠ [] ∧ ys ≠ [] ∧
  ∀ c ob, H c = none → ob.cls = .type "tuple" → ob.dict = none → Q (.ref c) (upd H c (.frz ob (.tup (xs ++ ys))))
/-- t + u of two tuples that are not empty, the object told -/
theorem op_catP {X : Cx} : OpR X (binaryOp .Add) (rCatP X.K) := by
  intro pp st sg HH x0 y0 v0 u0 QQ JJ rx ry hh
  obtain ⟨a, b, xs, ys, rfl, rfl, ha, hb, hz, hx, hy, qq⟩ := hh
  cases rx
  cases ry
  obtain ⟨i1, r1, p1, _⟩ := JJ.tuple ha
  obtain ⟨i2, r2, p2, _⟩ := JJ.tuple hb
  refine HT.cat_tup p1 p2 (fun z => hx (r1.nil_iff.mp z)) (fun z => absurd (r2.nil_iff.mp z) hy) (fun z => ?_) (by rw [← r1.length, ← r2.length]; exact hz)
  refine ⟨.ref st.heap.objs.size, upd HH st.heap.objs.size (.frz { cls := .type "tuple", data := .seq (i1 ++ i2).toArray } (.tup (xs ++ ys))), ?_, rfl, qq _ _ (JJ.hok.fresh (Nat.le_refl _)) rfl rfl⟩
  refine JJ.laid (t' := st.toks) (fun b2 o2 e2 => Heap.get?_push_of_some _ e2) (Nat.le_refl _) ⟨?_, by rw [List.length_append]; exact hz, i1 ++ i2, r1.append r2, IsTup.new _ _⟩
  exact Heap.get?_push_size _ rfl
theorem Tub.ne {H : Hp} {t b : Addr} {m : Int} (T : Tub H t m) (h : H b = none) : b ≠ t := by
  obtain ⟨_, hT⟩ := T.get
  exact (ne_of_none hT h).symm
theorem Tub.tup {K : PySem.W.Frag} {H H' : Hp} {t a : Addr} {m : Int} {xs : List L2.V} (T : Tub H t m) (E : ExB t H H') (h : SqT K H a xs) : SqT K H' a xs := by
  obtain ⟨_, hT⟩ := T.get
  exact E.tup hT h
theorem Tub.pt {H H' : Hp} {t a : Addr} {m : Int} {xs : List L2.V} (T : Tub H t m) (E : ExB t H H') (h : PT H a xs) : PT H' a xs := by
  obtain ⟨_, hT⟩ := T.get
  exact h.exB E hT
theorem Tub.prt {K : PySem.W.Frag} {H H' : Hp} {t a : Addr} {m : Int} {rs : Rn} (T : Tub H t m) (E : ExB t H H') (h : PrT K H a rs) : PrT K H' a rs := by
  obtain ⟨_, hT⟩ := T.get
  obtain ⟨ws, h1, h2⟩ := h
  exact ⟨ws, T.tup E h1, h2.exB E hT⟩
/-! ### what forests and long rows have in common -/
/-- no children: the entry is 1 -/
theorem leaf {zs : List Int} (L : Lam zs) {p : Nat} (hp : p < zs.length) : (sel zs.length (fun c => decide (par zs c = some p)) = []) ↔ g zs p = 1 := by
  rw [← kids L hp]
  have a1 := L.lo p hp
  have a2 := L.hi p hp
  have e : fc zs p = p - g zs p + 1 := rfl
  cases p with
  | zero => exact ⟨fun _ => by omega, fun _ => rfl⟩
  | succ k =>
    unfold unc
    by_cases c : fc zs (k + 1) ≤ ((k + 1 : Nat) : Int) - 1
    · rw [if_pos c]
      exact ⟨fun h => absurd h (by simp), fun h => by omega⟩
    · rw [if_neg c]
      exact ⟨fun _ => by omega, fun _ => rfl⟩
theorem leaves_count {zs : List Int} : ∀ k, k ≤ zs.length → (((List.range k).filter fun p => decide (g zs p = 1)).length) = (zs.take k).count 1
  | 0, _ => rfl
  | k + 1, h => by
    rw [List.range_succ, List.filter_append, List.length_append, leaves_count k (by omega), List.take_add_one, g_get (by omega), List.count_append]
    congr 1
    by_cases c : g zs k = 1
    · simp [c]
    · simp [c]
theorem unc_sum {zs : List Int} (L : Lam zs) : ∀ (k : Nat) (p : Int), p < (k : Int) → -1 ≤ p → p < zs.length → ((unc zs 0 k p).map fun r => g zs r.toNat).sum = p + 1
  | 0, p, h1, h2, _ => by show (0 : Int) = p + 1; omega
  | k + 1, p, h1, h2, h3 => by
    unfold unc
    by_cases c : 0 ≤ p
    · have hl : p.toNat < zs.length := by omega
      have a1 := L.lo _ hl
      have a2 := L.hi _ hl
      have e : fc zs p.toNat = p - g zs p.toNat + 1 := by unfold fc; omega
      rw [if_pos c, List.map_append, List.sum_append, unc_sum L k _ (by omega) (by omega) (by omega)]
      show _ + (g zs p.toNat + 0) = _
      omega
    · rw [if_neg c]
      show (0 : Int) = p + 1
      omega
theorem roots_sum {zs : List Int} (L : Lam zs) : ((sel zs.length (fun c => decide (par zs c = none))).map fun r => g zs r.toNat).sum = zs.length := by
  rw [← tops L, unc_sum L _ _ (by omega) (by omega) (by omega)]
  omega
/-- equal entries behind a row -/
theorem ro_behind (xs : List Int) (e : Int) (c : Nat) : ∀ t, ro (t + 1) (xs ++ List.replicate (c + 1) e) = ro (t + 1) (xs ++ [e]) ++ List.replicate c 1
  | 0 => spans_rep xs e c
  | t + 1 => by
    show spans (ro (t + 1) (xs ++ List.replicate (c + 1) e)) = spans (ro (t + 1) (xs ++ [e])) ++ _
    rw [ro_behind xs e c t]
    refine spans_ones (fun i hi => ?_) ?_ c
    · exact (spans_lam (ro t (xs ++ [e]))).lo i hi
    · rw [ro_len, List.length_append]; simp
/-- lower entries in front of a row -/
theorem bk_right {ys xs : List Int} {e : Int} : ∀ f, bk (ys ++ xs) e (ys.length + f) = if bk xs e f = 0 then bk ys e ys.length else ys.length + bk xs e f
  | 0 => by
    rw [if_pos (show bk xs e 0 = 0 from rfl)]
    exact bk_leftL (Nat.le_refl _)
  | f + 1 => by
    have eg : g (ys ++ xs) (ys.length + f) = g xs f := by
      unfold g
      rw [List.getD_eq_getElem?_getD, List.getElem?_append_right (by omega), List.getD_eq_getElem?_getD, show ys.length + f - ys.length = f by omega]
    have e1 : bk (ys ++ xs) e (ys.length + (f + 1)) = if g (ys ++ xs) (ys.length + f) < e then bk (ys ++ xs) e (ys.length + f) else ys.length + f + 1 := rfl
    have e2 : bk xs e (f + 1) = if g xs f < e then bk xs e f else f + 1 := rfl
    rw [e1, e2, eg]
    by_cases c : g xs f < e
    · rw [if_pos c, if_pos c, bk_right f]
    · rw [if_neg c, if_neg c, if_neg (by omega)]
      omega
theorem bk_low {low e : Int} (h : low < e) : ∀ n f, f ≤ n → bk (List.replicate n low) e f = 0
  | _, 0, _ => rfl
  | n, f + 1, hf => by
    have eg : g (List.replicate n low) f = low := by
      unfold g
      rw [List.getD_eq_getElem?_getD, List.getElem?_replicate, if_pos (by omega)]; rfl
    show (if g (List.replicate n low) f < e then bk (List.replicate n low) e f else f + 1) = 0
    rw [eg, if_pos h]
    exact bk_low h n f (by omega)
theorem spans_front {low : Int} {n : Nat} {xs : List Int} (h : ∀ x ∈ xs, low < x) {i : Nat} (hi : i < xs.length) :
    g (spans (List.replicate n low ++ xs)) (n + i) = g (spans xs) i + (n : Int) * (if g (spans xs) i = (i : Int) + 1 then 1 else 0) := by
  have hl : n + i < (List.replicate n low ++ xs).length := by rw [List.length_append, List.length_replicate]; omega
  rw [spans_g hl, spans_g hi]
  unfold spn
  have eg : g (List.replicate n low ++ xs) (n + i) = g xs i := by
    unfold g
    rw [List.getD_eq_getElem?_getD, List.getElem?_append_right (by rw [List.length_replicate]; omega), List.getD_eq_getElem?_getD, List.length_replicate, show n + i - n = i by omega]
  have eb := bk_right (ys := List.replicate n low) (xs := xs) (e := g xs i) i
  rw [List.length_replicate] at eb
  rw [eg, eb]
  by_cases c : bk xs (g xs i) i = 0
  · rw [if_pos c, bk_low (h _ (g_mem hi)) n n (Nat.le_refl _), c, if_pos (by omega)]
    omega
  · rw [if_neg c, if_neg (by omega)]
    omega
theorem spans_head {low : Int} {n : Nat} {xs : List Int} {j : Nat} (hj : j < n) : g (spans (List.replicate n low ++ xs)) j = 1 := by
  have e : (spans (List.replicate n low ++ xs)).take n = spans (List.replicate n low) := by
    rw [← spans_take, List.take_left']
    rw [List.length_replicate]
  have h1 : g (spans (List.replicate n low ++ xs)) j = g (spans (List.replicate n low)) j := by rw [← e, g_take hj]
  rw [h1]
  obtain ⟨c, rfl⟩ : ∃ c, n = c + 1 := ⟨n - 1, by omega⟩
  have := spans_rep [] low c
  rw [List.nil_append, List.nil_append] at this
  rw [this]
  have e1 : spans [low] = [1] := rfl
  rw [e1]
  unfold g
  rw [List.getD_eq_getElem?_getD, show ([1] : List Int) ++ List.replicate c 1 = List.replicate (c + 1) 1 by rw [List.replicate_succ]; rfl, List.getElem?_replicate, if_pos hj]
  rfl
end Sx

set_option Elab.async false
set_option linter.all false
namespace Sx
open PySem PySem.Spec
open PyProof.Rows L2 Sx
/-- the state of the draws of the third kind -/
def Mug (H : Hp) (t : Addr) (m : Int) : Prop := ∃ x0 x1 x2 : Int, H t = some (.lst [.int x0, .int x1, .int x2]) ∧ 0 ≤ x1 ∧ x1 < 10 ^ 46 ∧ 0 ≤ x2 ∧ x2 ≤ m
theorem Mug.ex {H H' : Hp} {t : Addr} {m : Int} (T : Mug H t m) (e : Ex H H') : Mug H' t m := by
  obtain ⟨x0, x1, x2, h, r⟩ := T
  exact ⟨x0, x1, x2, e _ _ h, r⟩
theorem Mug.le {H : Hp} {t : Addr} {m n : Int} (T : Mug H t m) (h : m ≤ n) : Mug H t n := by
  obtain ⟨x0, x1, x2, h1, h2, h3, h4, h5⟩ := T
  exact ⟨x0, x1, x2, h1, h2, h3, h4, by omega⟩
theorem Mug.exB {H H' : Hp} {t b : Addr} {m : Int} (T : Mug H t m) (e : ExB b H H') (n : t ≠ b) : Mug H' t m := by
  obtain ⟨x0, x1, x2, h, r⟩ := T
  exact ⟨x0, x1, x2, e _ _ n h, r⟩
theorem Mug.get {H : Hp} {t : Addr} {m : Int} (T : Mug H t m) : ∃ xs, H t = some (.lst xs) := by
  obtain ⟨x0, x1, x2, h, r⟩ := T
  exact ⟨_, h⟩
theorem Mug.ne {H : Hp} {t b : Addr} {m : Int} (T : Mug H t m) (h : H b = none) : b ≠ t := by
  obtain ⟨_, hT⟩ := T.get
  exact (ne_of_none hT h).symm
theorem Mug.tup {K : PySem.W.Frag} {H H' : Hp} {t a : Addr} {m : Int} {xs : List V} (T : Mug H t m) (E : ExB t H H') (h : SqT K H a xs) : SqT K H' a xs := by
  obtain ⟨_, hT⟩ := T.get
  exact E.tup hT h
end Sx

set_option Elab.async false
set_option linter.all false
set_option maxRecDepth 100000
set_option maxHeartbeats 4000000
namespace Sx
open PySem PySem.Spec
open PyProof.Rows L2
/-! ### the set of a list of ints -/
/-- the set as it is made, with nothing in it -/
abbrev emptyS (w : World) : Obj := { cls := .type "set", dict := none, data := .set #[] 0 (.fresh 0 0 (!w.params.followText "set-order")) }
/-- what is so behind the filling -/
abbrev Filled (w : World) (s : Shared) (ns : List Int) (r : Value) (s2 : Shared) : Prop :=
  r = .none ∧ ∃ hp tk c, s2 = { s with heap := hp, toks := tk } ∧ SetR w hp s.heap.objs.size (fun j => decide (j ∈ ns)) c ∧ c ≤ ns.length ∧ ∀ b o, s.heap.get? b = some o → hp.get? b = some o
section
variable {P : Program} {w : World} {A : Around} {E : Value → Shared → Prop} {s : Shared}
theorem set_of_list {l : Addr} {its : Array Value} {ns : List Int} {Q : Value → Shared → Prop} (calm : A.handled = none) (hL : s.heap.IsList l its) (hI : IntsAre its.toList ns) (few : ns.length + 1 < scanBound)
    (done : ∀ (hp : Heap) (tk c : Nat), SetR w hp s.heap.objs.size (fun j => decide (j ∈ ns)) c → c ≤ ns.length → (∀ b o, s.heap.get? b = some o → hp.get? b = some o) → Q (.ref s.heap.objs.size) { s with heap := hp, toks := tk }) :
    wpAny (model P w) A (call (.type "set") [.ref l]) Q E s := by
  have size : its.size = ns.length := (Array.length_toList (xs := its)).symm.trans hI.length
  obtain ⟨mroA, mroB, mro⟩ := F.called_set.mro
  have m1 := F.called_set.made
  have m2 := F.called_set.sub
  refine wpAny_call (codeAny_of_tree (show wpAny _ _ (callAny (.type "set") _) _ _ _ from ?_))
  refine wpAny_pure ⟨Code.quiet_builtin _ (by decide +kernel), codeAny_builtin F.entry_type_call ?_⟩
  rw [Around.under_plain (weight_type_call_type "set" [.ref l] []) rfl]
  have m3 := F.called_set.notType
  have m4 := F.called_set.canCreate
  have m5 := F.typeCall_set_1 (.ref l)
  repeat (any_goals (first | assumption | wp_step))
  refine codeAny_mono (code_set_led1 (.ref l) (E := E) (Q₁ := fun v t => v = .ref s.heap.objs.size ∧ t = { s with heap := s.heap.push (emptyS w) }) ⟨rfl, rfl⟩) fun r t made => ?_
  match r, made with
  | .error e, made => exact made
  | .ok (.ret v), made =>
    obtain ⟨rfl, rfl⟩ := made
    have hS : (s.heap.push (emptyS w)).get? s.heap.objs.size = some (emptyS w) := Heap.get?_push_size _ rfl
    have hT : Shared.TypeIs { s with heap := s.heap.push (emptyS w) } (.ref s.heap.objs.size) "set" := ⟨_, hS, rfl⟩
    have m6 := F.called_set.init.lookup
    have m7 := F.called_set.init.bind (.ref s.heap.objs.size)
    repeat (any_goals (first | assumption | wp_step))
    refine codeAny_mono (codeAny_call_builtin (R := wants (Filled w s ns) E) F.called_set.init.plain F.entry_set_init (check_set_init_1 hT ?fill)) fun r2 t2 end2 => ?back
    case fill =>
      obtain ⟨⟨cl, di, da, sl⟩, hob, hcl, nl, hda⟩ := hL
      simp only at hcl hda
      subst hcl hda
      have hob2 : (s.heap.push (emptyS w)).get? l = some { cls := .type "list", dict := di, data := .seq its nl, slots := sl } := Heap.get?_push_of_some _ hob
      have m8 := F.sub_list_set
      have m9 := F.sub_list_frozenset
      have m0 : (Value.type "list" == Value.type "dict") = false := by decide
      have hL1 : (s.heap.push (emptyS w)).IsList l its := ⟨_, hob2, rfl, nl, rfl⟩
      have lS : l < s.heap.objs.size := Heap.lt_size hob
      unfold Builtin.«set.__init__» noKeywords Builtin.Frozenset.updateFrom
      generalize hIt : pyIter = It
      wp_walk
      subst hIt
      refine wpAny_pyIter_list hL1 (wpAny_bind (wpAny_runValue ?_))
      have big : (s.heap.push (emptyS w)).objs.size = s.heap.objs.size + 1 := Heap.size_push ..
      have l1 : l ≠ (s.heap.push (emptyS w)).objs.size := fun h => Nat.ne_of_lt (Nat.lt_succ_of_lt lS) (h.trans big)
      have out2 : s.heap.objs.size ∉ [(s.heap.push (emptyS w)).objs.size, l] := by
        rw [big]
        intro h
        rcases List.mem_cons.mp h with h | h
        · exact Nat.ne_of_lt (Nat.lt_succ_self _) h
        · exact Nat.ne_of_gt lS (List.mem_singleton.mp h)
      have each : ∀ (i : Nat) (v : Value), its[i]? = some v → ∃ k t, ns[i]? = some k ∧ v = .int k t := by
        intro i v hv
        have hi : i < ns.length := size ▸ (Array.getElem?_eq_some_iff.mp hv).1
        obtain ⟨t, e⟩ := IntsAre.int_at hI i v ((Array.getElem?_toList ..).trans hv)
        exact ⟨ns[i], t, List.getElem?_eq_getElem hi, by rw [e, List.getD_eq_getElem?_getD, List.getElem?_eq_getElem hi]; rfl⟩
      refine set_update_ints (Walks.list (by simp [calm]) _ l l1 its).toS s.heap.objs.size out2 ns size few each (its.size - 0) 0 _ (by omega) (Nat.zero_le _) ⟨⟨_, Heap.get?_push_size _ rfl, rfl, rfl⟩, hL1.push _⟩ ?_ ?_
      · exact ⟨0, Nat.le_refl 0, setR_new_at (Heap.get?_push_of_some _ hS)⟩
      · rintro ⟨hp, gs, dr, tk, os⟩ c hm hc hR
        have e1 : gs = s.gens := hm.gens
        have e2 : dr = s.drawn := hm.drawn
        have e3 : os = s.os := hm.os
        subst e1 e2 e3
        refine wpAny_pure (wpAny_pure ⟨rfl, hp, tk, c, rfl, hR, size ▸ hc, fun b o e => ?_⟩)
        have hb := Heap.lt_size e
        refine hm.heap b o (fun h => ?_) (Heap.get?_push_of_some _ (Heap.get?_push_of_some _ e))
        rcases List.mem_cons.mp h with h | h
        · exact Nat.ne_of_lt hb h
        · exact Nat.ne_of_lt (Nat.lt_succ_of_lt hb) ((List.mem_singleton.mp h).trans big)
    case back =>
      match r2, end2 with
      | .error e, end2 => exact end2
      | .ok (.ret v), end2 =>
        obtain ⟨rfl, hp, tk, c, rfl, hR, hc, hk⟩ := end2
        repeat (any_goals (first | assumption | wp_step))
        exact done _ _ _ hR hc hk
end
section
variable {X : Cx}
/-- set(xs) of a list of ints -/
def rSetLI (K : PySem.W.Frag) (w : World) : List V → Hp → VK → Prop := fun xs H Q => ∃ (l : Addr) (ns : List Int), xs = [V.ref l] ∧ SqL K H l (ns.map V.int) ∧ ns.length ≤ 1000 ∧
  ∀ (p : Addr) (c : Nat), H p = none → c ≤ ns.length → Q (.ref p) (upd H p (SetO w p (fun j => decide (j ∈ ns)) c))
theorem cr_setLI (calm : X.calm = true) : CallR X (.type "set") (rSetLI X.K X.w) := by
  intro pp st sg HH vs us QQ JJ rr hh
  obtain ⟨l, ns, rfl, hl, hz, qq⟩ := hh
  rw [Vals.ref1 rr]
  obtain ⟨its, rv, pl, _⟩ := JJ.list hl
  refine set_of_list (ns := ns) (JJ.ok.hd calm) (show st.heap.IsList l its.toArray from pl.isList) (ints_of_vals rv) (by unfold scanBound; omega) fun hp tk c R hc hk => ?_
  exact ⟨.ref st.heap.objs.size, upd HH st.heap.objs.size (SetO X.w st.heap.objs.size (fun j => decide (j ∈ ns)) c), JJ.laid (t' := tk) hk (Nat.le_refl _) (setO_new R), rfl, qq _ c (JJ.hok.fresh (Nat.le_refl _)) hc⟩
end
end Sx

set_option Elab.async false
set_option linter.all false
set_option maxRecDepth 100000
namespace Sx
open PySem PySem.Spec PyProof.Rows L2
/-! ### cuts, and pairs in them -/
section
variable {K : PySem.W.Frag} {H H' : Hp} {a c p t : Addr} {xs ys vs : List L2.V} {rs : Rn} {lo hi : Option Int}
theorem cut_whole (h : HT.sIx xs.length 0 lo = 0 ∧ HT.sIx xs.length xs.length hi = xs.length) : cutV xs lo hi = xs := by
  unfold cutV
  rw [h.1, h.2, List.drop_zero, Nat.sub_zero, List.take_length]
theorem slA_any {Q : VK} (hS : SqT K H c xs) (q : ∀ a' H', Ex H H' → SqT K H' a' (cutV xs lo hi) → Q (.ref a') H') : rSlA K (.ref c) lo hi H Q :=
  ⟨c, xs, rfl, hS, fun hw => q c H (Evl.Ex.refl H) (by rw [cut_whole hw]; exact hS), fun _ p hp => q p _ (Evl.Ex.new hp) (SqT.of upd_same)⟩
theorem cut_mem {v : L2.V} (h : v ∈ cutV xs lo hi) : v ∈ xs := List.mem_of_mem_drop (List.mem_of_mem_take h)
theorem cut_ints (ns : List Int) (lo hi : Option Int) : ∃ ms : List Int, cutV (ns.map L2.V.int) lo hi = ms.map L2.V.int ∧ ms.length ≤ ns.length := by
  refine ⟨(ns.drop (HT.sIx ns.length 0 lo)).take (HT.sIx ns.length ns.length hi - HT.sIx ns.length 0 lo), ?_, ?_⟩
  · unfold cutV
    rw [List.length_map, ← List.map_drop, ← List.map_take]
  · rw [List.length_take, List.length_drop]; omega
theorem Prs.pair (h : Prs K H vs rs) (hp : ∀ p ∈ rs, 1 ≤ p.2) {v : L2.V} (hv : v ∈ vs) : ∃ r, ∃ (e : Int) (c : Nat), v = .ref r ∧ SqT K H r [.int e, .int (c : Int)] ∧ 1 ≤ c := by
  obtain ⟨i, hi⟩ := List.getElem?_of_mem hv
  obtain ⟨h1, r, h2, h3⟩ := h.item hi
  exact ⟨r, _, _, h2, h3, hp _ (List.mem_of_getElem? (rs_at h1))⟩
theorem Mug.prs {m : Int} (T : Mug H t m) (E : ExB t H H') (h : Prs K H vs rs) : Prs K H' vs rs := by
  obtain ⟨_, _, _, hT, _⟩ := T
  exact h.exB E hT
theorem Mug.prt {m : Int} (T : Mug H t m) (E : ExB t H H') (h : PrT K H a rs) : PrT K H' a rs := by
  obtain ⟨ws, h1, h2⟩ := h
  exact ⟨ws, T.tup E h1, T.prs E h2⟩
theorem cnt_le2 : ∀ {rs : Rn}, (∀ p ∈ rs, p.2 ≤ 10 ^ 28) → (xpn rs).length ≤ 10 ^ 28 * rs.length
  | [], _ => Nat.zero_le _
  | p :: rs, h => by
    have h1 := h p (List.mem_cons_self ..)
    have h2 := cnt_le2 (rs := rs) fun q hq => h q (List.mem_cons_of_mem _ hq)
    rw [xpn_cons, List.length_append, List.length_replicate, List.length_cons, Nat.mul_add]
    omega
theorem Prs.cons {r : Addr} {q : Int × Nat} (h : Prs K H vs rs) (hr : SqT K H r (pV q)) : Prs K H (.ref r :: vs) (q :: rs) := by
  refine ⟨by rw [List.length_cons, List.length_cons, h.1], fun i p hp => ?_⟩
  match i, hp with
  | 0, hp => cases hp; exact ⟨r, rfl, hr⟩
  | i + 1, hp => exact h.2 i p hp
theorem tt_take2 {rs : Rn} {k : Nat} (hk : k ≤ rs.length) : (((rs.take k).map fun p => ((p.2 : Nat) : Int))).sum = (tt rs k : Int) := by
  induction k with
  | zero => rfl
  | succ k ih =>
    rw [take_at (by omega), List.map_append, List.sum_append, ih (by omega), tt_succ (by omega)]
    show (tt rs k : Int) + ((ct rs k : Int) + 0) = _
    omega
theorem small16 {n : Nat} (h : n ≤ 100000) : n ≤ sizeLine := Nat.le_trans h (by decide)
theorem cnt_xpn2 (e : Int) : ∀ R : Rn, (((R.filter fun p => decide (p.1 = e)).map fun p => ((p.2 : Nat) : Int))).sum = ((xpn R).count e : Int)
  | [] => rfl
  | p :: R => by
    rw [xpn_cons, List.count_append, List.filter_cons]
    have ih := cnt_xpn2 e R
    by_cases c : p.1 = e
    · rw [if_pos (decide_eq_true c), List.map_cons, List.sum_cons, ih, c, List.count_replicate_self]
      push_cast
      rfl
    · rw [if_neg (by rw [decide_eq_false c]; decide), ih, List.count_eq_zero.mpr (fun h => c (List.mem_replicate.mp h).2.symm)]
      simp
/-- sorted(set(xs)) of a list of ints -/
theorem sorted_set_list {w : World} {D : Addr} {ns : List Int} {Q : VK} (hD : SqL K H D (ns.map L2.V.int)) (hz : ns.length ≤ 1000)
    (q : ∀ (kn : List Int) kp H', Ex H H' → H' kp = some (.lst (kn.map L2.V.int)) → kn.length ≤ ns.length → kn.Pairwise (· < ·) → (∀ k, k ∈ kn ↔ k ∈ ns) → Q (.ref kp) H') :
    rSetLI K w [.ref D] H fun y H1 => rSortedSetB w [y] H1 Q := by
  refine ⟨D, ns, rfl, hD, hz, fun sp c hsp hc => ?_⟩
  have Y1 := Evl.Ex.new (o := SetO w sp (fun j => decide (j ∈ ns)) c) hsp
  refine ⟨sp, _, c, rfl, upd_same, by omega, fun kn kp hpw hm hkl hkp => ?_⟩
  exact q kn kp _ (Y1.trans (Evl.Ex.new hkp)) upd_same (by omega) hpw fun k => (hm k).trans ⟨of_decide_eq_true, fun h => decide_eq_true h⟩
end
end Sx

set_option Elab.async false
set_option linter.all false
namespace Sx
open PySem PySem.Spec
/-! ### weights as a long row -/
/-- the long row R shows xs with the weights ws, and low between -/
structure Bl (low : Int) (xs ws R : List Int) : Prop where
  len : (R.length : Int) = tot ws xs.length
  fin : ∀ i, i < xs.length → ∀ p : Nat, (p : Int) + 1 = tot ws (i + 1) → g R p = g xs i
  mid : ∀ i, i < xs.length → ∀ p : Nat, tot ws i ≤ (p : Int) → (p : Int) + 1 < tot ws (i + 1) → g R p = low
structure Lw (low : Int) (xs ws : List Int) : Prop where
  lo : ∀ i, i < xs.length → low ≤ g xs i
  lt : ∀ i, i < xs.length → 1 < g ws i → low < g xs i
theorem wgroup {ws : List Int} : ∀ k (p : Nat), (p : Int) < tot ws k → ∃ i, i < k ∧ tot ws i ≤ (p : Int) ∧ (p : Int) < tot ws (i + 1)
  | 0, p, h => by rw [tot_zero] at h; omega
  | k + 1, p, h => by
    by_cases c : (p : Int) < tot ws k
    · obtain ⟨i, h1, h2, h3⟩ := wgroup k p c
      exact ⟨i, by omega, h2, h3⟩
    · exact ⟨k, by omega, by omega, h⟩
theorem g_out {xs : List Int} {i : Nat} (h : xs.length ≤ i) : g xs i = 0 := by
  unfold g
  rw [List.getD_eq_getElem?_getD, List.getElem?_eq_none h]; rfl
theorem ext_gs {xs ys : List Int} (hl : xs.length = ys.length) (h : ∀ i, i < xs.length → g xs i = g ys i) : xs = ys := by
  apply List.ext_getElem?
  intro i
  by_cases c : i < xs.length
  · rw [g_get c, g_get (by omega), h i c]
  · rw [List.getElem?_eq_none (by omega), List.getElem?_eq_none (by omega)]
theorem Bl.ge {low : Int} {xs ws R : List Int} (L : Lw low xs ws) (B : Bl low xs ws R) {p : Nat} (h : p < R.length) : low ≤ g R p := by
  have hl := B.len
  obtain ⟨i, h1, h2, h3⟩ := wgroup (ws := ws) xs.length p (by omega)
  by_cases c : (p : Int) + 1 = tot ws (i + 1)
  · rw [B.fin i h1 p c]; exact L.lo i h1
  · rw [B.mid i h1 p h2 (by omega)]; exact Int.le_refl _
theorem Bl.inj {low : Int} {xs ws R R' : List Int} (B : Bl low xs ws R) (B' : Bl low xs ws R') : R = R' := by
  have h1 := B.len
  have h2 := B'.len
  refine ext_gs (by omega) fun p hp => ?_
  obtain ⟨i, g1, g2, g3⟩ := wgroup (ws := ws) xs.length p (by omega)
  by_cases c : (p : Int) + 1 = tot ws (i + 1)
  · rw [B.fin i g1 p c, B'.fin i g1 p c]
  · rw [B.mid i g1 p g2 (by omega), B'.mid i g1 p g2 (by omega)]
theorem Bl.back {low low' : Int} {xs ys ws R : List Int} (W : Wt ws xs.length) (hl : xs.length = ys.length) (B : Bl low xs ws R) (B' : Bl low' ys ws R) : xs = ys := by
  refine ext_gs hl fun i hi => ?_
  have h1 := tot_lt W (show i < i + 1 by omega) (by omega)
  have h0 := tot_le W (Nat.zero_le i) (by omega)
  rw [tot_zero] at h0
  have hp : (((tot ws (i + 1) - 1).toNat : Nat) : Int) + 1 = tot ws (i + 1) := by omega
  rw [← B.fin i hi _ hp, B'.fin i (by omega) _ hp]
theorem Bl.step {low : Int} {xs ws R : List Int} (W : Wt ws xs.length) (L : Lw low xs ws) (B : Bl low xs ws R) : Bl 1 (wsp ws xs) ws (spans R) ∧ Lw 1 (wsp ws xs) ws := by
  have hlen := B.len
  have pos : ∀ i, i ≤ xs.length → 0 ≤ tot ws i := fun i hi => by
    have h0 := tot_le W (Nat.zero_le i) hi
    rwa [tot_zero] at h0
  have wvge : ∀ i, i < xs.length → g ws i ≤ wv ws xs i := fun i hi => by
    unfold wv
    have h1 := tot_le W (bk_le xs (g xs i) i) (by omega)
    have h2 := tot_succ (ws := ws) (k := i) (by rw [W.len]; exact hi)
    omega
  refine ⟨⟨?_, ?_, ?_⟩, ⟨?_, ?_⟩⟩
  · rw [spans_len, wsp_len]; exact hlen
  · intro i hi p hp
    rw [wsp_len] at hi
    have hpl : p < R.length := by
      have := tot_le W (show i + 1 ≤ xs.length by omega) (Nat.le_refl _)
      omega
    rw [spans_g hpl, wsp_g hi]
    unfold spn wv
    rw [B.fin i hi p hp]
    obtain ⟨b, hb⟩ : ∃ b, bk xs (g xs i) i = b := ⟨_, rfl⟩
    have hbi : b ≤ i := by rw [← hb]; exact bk_le _ _ _
    have tb0 := pos b (by omega)
    have tbi := tot_le W hbi (by omega)
    have tii := tot_lt W (show i < i + 1 by omega) (by omega)
    have e : bk R (g xs i) p = (tot ws b).toNat := by
      refine bk_eq (by omega) (fun j h1 h2 => ?_) fun h0 => ?_
      · obtain ⟨k, k1, k2, k3⟩ := wgroup (ws := ws) (i + 1) j (by omega)
        have kb : b ≤ k := by
          rcases Nat.lt_or_ge k b with c | c
          · have := tot_le W (show k + 1 ≤ b by omega) (by omega)
            omega
          · exact c
        by_cases c : (j : Int) + 1 = tot ws (k + 1)
        · rw [B.fin k (by omega) j c]
          have : k < i := by
            rcases Nat.lt_or_ge k i with d | d
            · exact d
            · have : k = i := by omega
              subst this; omega
          exact bk_lt (by rw [hb]; exact kb) this
        · rw [B.mid k (by omega) j k2 (by omega)]
          have hs := tot_succ (ws := ws) (k := k) (by rw [W.len]; omega)
          have hlt := L.lt k (by omega) (by omega)
          rcases Nat.lt_or_ge k i with d | d
          · have := bk_lt (xs := xs) (e := g xs i) (f := i) (by rw [hb]; exact kb) d
            omega
          · have : k = i := by omega
            subst this; exact hlt
      · have hb0 : 0 < b := by
          rcases Nat.eq_zero_or_pos b with c | c
          · subst c; rw [tot_zero] at h0; exact absurd h0 (by decide)
          · exact c
        have hp2 : (((tot ws b).toNat - 1 : Nat) : Int) + 1 = tot ws (b - 1 + 1) := by
          rw [show b - 1 + 1 = b by omega]; omega
        rw [B.fin (b - 1) (by omega) _ hp2]
        have := bk_ge (xs := xs) (e := g xs i) (f := i) (by rw [hb]; exact hb0)
        rwa [hb] at this
    rw [e, hb]
    omega
  · intro i hi p h1 h2
    rw [wsp_len] at hi
    have hpl : p < R.length := by
      have := tot_le W (show i + 1 ≤ xs.length by omega) (Nat.le_refl _)
      omega
    rw [spans_g hpl]
    unfold spn
    rw [B.mid i hi p h1 h2, bk_eq (Nat.le_refl p) (fun j h1 h2 => absurd h2 (by omega)) fun h0 => B.ge L (by omega)]
    omega
  · intro i hi
    rw [wsp_len] at hi
    rw [wsp_g hi]
    have := wvge i hi
    have := (W.at hi).1
    omega
  · intro i hi hw
    rw [wsp_len] at hi
    rw [wsp_g hi]
    have := wvge i hi
    omega
theorem Bl.rounds {low : Int} {xs ws R : List Int} (W : Wt ws xs.length) (L : Lw low xs ws) (B : Bl low xs ws R) : ∀ t, Bl 1 (wro ws (t + 1) xs) ws (ro (t + 1) R) ∧ Lw 1 (wro ws (t + 1) xs) ws
  | 0 => B.step W L
  | t + 1 => by
    obtain ⟨h1, h2⟩ := B.rounds W L t
    exact h1.step (by rw [wro_len]; exact W) h2
theorem Bl.low {low low' : Int} {xs ws R : List Int} (W : Wt ws xs.length) (B : Bl low xs ws R) (h : low = low' ∨ ∀ i, i < xs.length → ¬ 1 < g ws i) : Bl low' xs ws R := by
  refine ⟨B.len, B.fin, fun i hi p h1 h2 => ?_⟩
  rcases h with h | h
  · rw [← h]; exact B.mid i hi p h1 h2
  · have := tot_succ (ws := ws) (k := i) (by rw [W.len]; exact hi)
    have := h i hi
    omega
theorem Bl.needed {low : Int} {xs ws R : List Int} (W : Wt ws xs.length) (L : Lw low xs ws) (B : Bl low xs ws R) {m : Nat} (hm : WNd ws xs m) {d : Bool}
    (hd : d = true ↔ (low ≠ 1 ∧ ∃ i, i < xs.length ∧ 1 < g ws i)) : Nd R (max m (if d then 1 else 0)) := by
  have st : ∀ t, spans (ro (t + 1) R) = ro (t + 1) R ↔ wsp ws (wro ws (t + 1) xs) = wro ws (t + 1) xs := fun t => by
    obtain ⟨h1, h2⟩ := B.rounds W L t
    obtain ⟨h3, h4⟩ := B.rounds W L (t + 1)
    have hl : (wro ws (t + 1) xs).length = (wro ws (t + 1 + 1) xs).length := by rw [wro_len, wro_len]
    constructor
    · intro h
      have h3 : Bl 1 (wro ws (t + 1 + 1) xs) ws (ro (t + 1) R) := by
        have e : ro (t + 1 + 1) R = ro (t + 1) R := h
        rw [e] at h3; exact h3
      exact (Bl.back (by rw [wro_len]; exact W) hl h1 h3).symm
    · intro h
      have e : wro ws (t + 1 + 1) xs = wro ws (t + 1) xs := h
      rw [e] at h3
      exact h3.inj h1
  cases d with
  | false =>
    have hn : low = 1 ∨ ∀ i, i < xs.length → ¬ 1 < g ws i := by
      by_cases c : low = 1
      · exact .inl c
      · refine .inr fun i hi hw => ?_
        exact absurd (hd.mpr ⟨c, i, hi, hw⟩) (by decide)
    have B1 := B.low W hn
    have s0 : spans R = R ↔ wsp ws xs = xs := by
      obtain ⟨h1, h2⟩ := B.step W L
      constructor
      · intro h
        rw [h] at h1
        exact (Bl.back W (by rw [wsp_len]) B1 h1).symm
      · intro h
        rw [h] at h1
        exact h1.inj B1
    rw [show max m (if false = true then 1 else 0) = m by simp]
    have all : ∀ t, spans (ro t R) = ro t R ↔ wsp ws (wro ws t xs) = wro ws t xs := fun t => by
      cases t with
      | zero => exact s0
      | succ t => exact st t
    exact ⟨(all m).mpr hm.still, fun k hk h => hm.least k hk ((all k).mp h)⟩
  | true =>
    obtain ⟨hl, i, hi, hw⟩ := hd.mp rfl
    have s0 : spans R ≠ R := fun h => by
      obtain ⟨h1, h2⟩ := B.step W L
      rw [h] at h1
      have hs := tot_succ (ws := ws) (k := i) (by rw [W.len]; exact hi)
      have h0 := tot_le W (Nat.zero_le i) (by omega)
      rw [tot_zero] at h0
      have e1 := B.mid i hi (tot ws i).toNat (by omega) (by omega)
      have e2 := h1.mid i (by rw [wsp_len]; exact hi) (tot ws i).toNat (by omega) (by omega)
      exact hl (e1.symm.trans e2)
    have hk : ∀ k, k < max m 1 → spans (ro k R) ≠ ro k R := fun k hk => by
      cases k with
      | zero => exact s0
      | succ k => exact fun h => hm.least (k + 1) (by omega) ((st k).mp h)
    rw [show max m (if true = true then 1 else 0) = max m 1 by simp]
    refine ⟨?_, hk⟩
    cases m with
    | zero =>
      refine (st 0).mpr ?_
      have h : wsp ws xs = xs := hm.still
      show wsp ws (wsp ws xs) = wsp ws xs
      rw [h, h]
    | succ m =>
      rw [show max (m + 1) 1 = m + 1 by omega]
      exact (st m).mpr hm.still
/-! ### the blocks -/
def pcs (low : Int) (zs : List (Int × Int)) : Rn := zs.flatMap fun p => (if 1 < p.2 then [(low, (p.2 - 1).toNat)] else []) ++ [(p.1, 1)]
theorem pcs_app (low : Int) (a b : List (Int × Int)) : pcs low (a ++ b) = pcs low a ++ pcs low b := List.flatMap_append
theorem pcs_one (low x w : Int) (hw : 1 ≤ w) : xpn (pcs low [(x, w)]) = List.replicate (w - 1).toNat low ++ [x] := by
  show xpn (((if 1 < w then [(low, (w - 1).toNat)] else []) ++ [(x, 1)]) ++ []) = _
  rw [List.append_nil, xpn_app]
  have e : xpn [(x, 1)] = [x] := by rw [xpn_one]; rfl
  rw [e]
  by_cases c : 1 < w
  · rw [if_pos c, xpn_one]
  · rw [if_neg c, show (w - 1).toNat = 0 by omega]; rfl
theorem pcs_len (low : Int) : ∀ zs : List (Int × Int), zs.length ≤ (pcs low zs).length ∧ (pcs low zs).length ≤ 2 * zs.length ∧ (zs.length < (pcs low zs).length ↔ ∃ p ∈ zs, 1 < p.2)
  | [] => ⟨Nat.le_refl _, Nat.le_refl _, ⟨fun h => absurd h (Nat.lt_irrefl _), fun ⟨p, h, _⟩ => (List.not_mem_nil h).elim⟩⟩
  | z :: zs => by
    obtain ⟨h1, h2, h3⟩ := pcs_len low zs
    have e : pcs low (z :: zs) = ((if 1 < z.2 then [(low, (z.2 - 1).toNat)] else []) ++ [(z.1, 1)]) ++ pcs low zs := List.flatMap_cons
    rw [e, List.length_append, List.length_append]
    by_cases c : 1 < z.2
    · rw [if_pos c]
      refine ⟨by simp only [List.length_cons, List.length_nil]; omega, by simp only [List.length_cons, List.length_nil]; omega, ⟨fun _ => ⟨z, List.mem_cons_self .., c⟩, fun _ => by simp only [List.length_cons, List.length_nil]; omega⟩⟩
    · rw [if_neg c]
      refine ⟨by simp only [List.length_cons, List.length_nil]; omega, by simp only [List.length_cons, List.length_nil]; omega, ⟨fun h => ?_, fun ⟨p, hp, h⟩ => ?_⟩⟩
      · simp only [List.length_cons, List.length_nil] at h
        obtain ⟨p, hp, h⟩ := h3.mp (by omega)
        exact ⟨p, List.mem_cons_of_mem _ hp, h⟩
      · simp only [List.length_cons, List.length_nil]
        rcases List.mem_cons.mp hp with rfl | hp
        · exact absurd h c
        · have := h3.mpr ⟨p, hp, h⟩
          omega
theorem pcs_count {low e : Int} (he : e ≠ low) : ∀ zs : List (Int × Int), (∀ p ∈ zs, 1 ≤ p.2) → (xpn (pcs low zs)).count e = (zs.map (·.1)).count e
  | [], _ => rfl
  | z :: zs, h => by
    have e1 : pcs low (z :: zs) = pcs low [z] ++ pcs low zs := pcs_app low [z] zs
    rw [e1, xpn_app, List.count_append, pcs_one _ _ _ (h z (List.mem_cons_self ..)), List.count_append, List.count_replicate, if_neg (by rw [beq_iff_eq]; exact fun z => he z.symm), pcs_count he zs fun p hp => h p (List.mem_cons_of_mem _ hp), List.map_cons]
    show 0 + List.count e [z.1] + _ = List.count e ([z.1] ++ zs.map fun x => x.1)
    rw [List.count_append]; omega
theorem pcs_bl {low : Int} {xs ws : List Int} (W : Wt ws xs.length) : ∀ k, k ≤ xs.length → Bl low (xs.take k) ws (xpn (pcs low ((xs.zip ws).take k)))
  | 0, _ => ⟨by rw [List.take_zero, List.take_zero, List.length_nil, tot_zero]; rfl, fun i hi => by rw [List.take_zero] at hi; exact absurd hi (Nat.not_lt_zero _), fun i hi => by rw [List.take_zero] at hi; exact absurd hi (Nat.not_lt_zero _)⟩
  | k + 1, hk => by
    have B := pcs_bl (low := low) W k (by omega)
    have hkl : k < ws.length := by rw [W.len]; omega
    have hz : (xs.zip ws)[k]? = some (g xs k, g ws k) := by
      rw [List.getElem?_zip_eq_some]; exact ⟨g_get (by omega), g_get hkl⟩
    have ex : xs.take (k + 1) = xs.take k ++ [g xs k] := by rw [List.take_add_one, g_get (by omega)]; rfl
    have ez : (xs.zip ws).take (k + 1) = (xs.zip ws).take k ++ [(g xs k, g ws k)] := by rw [List.take_add_one, hz]; rfl
    have hw := (W.at (i := k) (by omega)).1
    have hs := tot_succ (ws := ws) (k := k) hkl
    have hxl : (xs.take k).length = k := by rw [List.length_take]; omega
    have hlen := B.len
    rw [hxl] at hlen
    rw [ex, ez, pcs_app, xpn_app, pcs_one _ _ _ hw]
    obtain ⟨A, hA⟩ : ∃ A, xpn (pcs low ((xs.zip ws).take k)) = A := ⟨_, rfl⟩
    rw [hA] at B hlen ⊢
    have hA0 : ∀ i, i ≤ k → tot ws i ≤ (A.length : Int) := fun i hi => by rw [hlen]; exact tot_le W hi (by omega)
    refine ⟨?_, ?_, ?_⟩
    · rw [List.length_append, List.length_append, List.length_append, List.length_replicate, hxl]
      show (((A.length + ((g ws k - 1).toNat + 1) : Nat)) : Int) = tot ws (k + 1)
      omega
    · intro i hi p hp
      rw [List.length_append, hxl] at hi
      have hi : i < k + 1 := hi
      rcases Nat.lt_or_ge i k with c | c
      · have := hA0 (i + 1) (by omega)
        rw [g_leftL (by omega), g_leftL (by omega)]
        exact B.fin i (by omega) p hp
      · have : i = k := by omega
        subst this
        have h1 : g (xs.take i ++ [g xs i]) i = g xs i := by
          have := g_last (xs := xs.take i) (e := g xs i)
          rwa [hxl] at this
        rw [h1]
        have hp2 : p = A.length + (List.replicate (g ws i - 1).toNat low).length := by rw [List.length_replicate]; omega
        rw [hp2, ← List.append_assoc, ← List.length_append]
        exact g_last
    · intro i hi p h1 h2
      rw [List.length_append, hxl] at hi
      have hi : i < k + 1 := hi
      rcases Nat.lt_or_ge i k with c | c
      · have := hA0 (i + 1) (by omega)
        rw [g_leftL (by omega)]
        exact B.mid i (by omega) p h1 h2
      · have : i = k := by omega
        subst this
        have hr : p < (A ++ List.replicate (g ws i - 1).toNat low).length := by rw [List.length_append, List.length_replicate]; omega
        rw [← List.append_assoc, g_leftL hr]
        show (A ++ List.replicate (g ws i - 1).toNat low).getD p 0 = low
        rw [List.getD_eq_getElem?_getD, List.getElem?_append_right (by omega), List.getElem?_replicate, if_pos (by omega)]; rfl
theorem cts_sum : ∀ R : Rn, ((R.map fun p => ((p.2 : Nat) : Int))).sum = ((xpn R).length : Int)
  | [] => rfl
  | p :: R => by
    rw [List.map_cons, List.sum_cons, cts_sum R, xpn_cons, List.length_append, List.length_replicate]; omega
/-- all that is greater than 1 stands at the ends -/
theorem Bl.count {ys ws R : List Int} (W : Wt ws ys.length) (B : Bl 1 ys ws R) {e : Int} (he : e ≠ 1) : R.count e = ys.count e := by
  have B' := pcs_bl (low := 1) W ys.length (Nat.le_refl _)
  have hz : (ys.zip ws).length = ys.length := by rw [List.length_zip, W.len]; omega
  rw [List.take_length, show (ys.zip ws).take ys.length = ys.zip ws by rw [← hz, List.take_length]] at B'
  rw [B.inj B', pcs_count he _ fun p hp => W.lo _ (List.of_mem_zip hp).2, List.map_fst_zip (by rw [W.len]; exact Nat.le_refl _)]
end Sx

set_option Elab.async false
set_option linter.all false
set_option maxRecDepth 100000
set_option maxHeartbeats 4000000
namespace Sx
open PySem PySem.Spec PyProof.Rows L2
/-! ### plain tuples: literals, one entry many times, one behind the other -/
section
variable {X : Cx}
def tTupP (t : TA) : TE := fun σ H Q => t σ H fun xs H1 => xs.length ≤ sizeLine ∧ ∀ c ob, H1 c = none → ob.cls = .type "tuple" → ob.dict = none → Q (.ref c) (upd H1 c (.frz ob (.tup xs)))
theorem pe_tupP {es : List Expr} {x1 pos} {t : TA} (h : PA X es t) : PE X (.Tuple es x1 pos) (tTupP t) :=
  ⟨fun pp st sg HH QQ JJ hq => wpAny_Tuple_spliced (thn (h.run pos pp st sg HH _ JJ hq) fun us s1 ⟨xs, H1, J1, r, z, q⟩ => ⟨by rw [← r.length]; exact z,
    .ref s1.heap.objs.size, upd H1 s1.heap.objs.size (.frz { cls := .type "tuple", data := .seq us.toArray } (.tup xs)),
    J1.laid (t' := s1.toks) (fun b u e => Heap.get?_push_of_some _ e) (Nat.le_refl _) ⟨Heap.get?_push_size _ rfl, z, us, r, IsTup.new _ _⟩, rfl, q _ _ (J1.hok.fresh (Nat.le_refl _)) rfl rfl⟩)⟩
/-- one entry many times -/
def rRepP (K : PySem.W.Frag) : R2 := fun x y H Q => ∃ l e k, x = V.ref l ∧ y = V.int k ∧ PT H l [e] ∧ 1 ≤ k ∧ k ≤ 1000 ∧ ∀ c H', Ex H H' → PT H' c (List.replicate k.toNat e) → Q (.ref c) H'
theorem flat_one {α : Type} (e : α) : ∀ n, (List.replicate n [e]).flatten = List.replicate n e
  | 0 => rfl
  | n + 1 => by rw [List.replicate_succ, List.flatten_cons, flat_one e n]; rfl
theorem op_repP : OpR X (binaryOp .Mult) (rRepP X.K) := by
  intro pp st sg HH x y v u QQ JJ rx ry h
  obtain ⟨l, e, k, rfl, rfl, hP, k1, k2, qq⟩ := h
  cases rx
  obtain ⟨t, rfl⟩ := ry
  obtain ⟨its, r, ⟨⟨cls, dd, data, sl⟩, ho, hc, n, hd⟩, hs⟩ := JJ.tuple hP.sq
  simp only at hc hd
  subst hc hd
  obtain ⟨u0, rfl, r0⟩ := vals1 r
  refine wpAny_binaryOp_repeat_ref (T := "tuple") (U := "int") (by decide) ⟨_, ho, rfl⟩ (fun s' => typeIs_int s' k t) noFill_tuple_mul F.fills_int_mul F.slot_int_rmul repeat_tuple F.slot_int_index.lookup (call_meets F.slot_int_rmul (typeIs_int st k t) F.entry_int_rmul (F.args_int_rmul_2 _ _) (int_rmul_tuple k t l [u0].toArray n dd sl) ⟨ho, rfl, ⟨_, ho, rfl⟩, ?_⟩)
  by_cases h1 : k = 1
  · subst h1
    exact call_meets F.slot_tuple_mul ⟨_, ho, rfl⟩ F.entry_tuple_mul (F.args_tuple_mul_2 _ _) (tup_once l [u0].toArray n dd sl t) ⟨ho, .ref l, HH, JJ, rfl, qq l HH (Evl.Ex.refl HH) hP⟩
  · have d0 : (decide (k < -(2 ^ 63)) || decide (k ≥ 2 ^ 63)) = false := by rw [Bool.or_eq_false_iff]; exact ⟨decide_eq_false (by omega), decide_eq_false (by omega)⟩
    have d1 : ([u0].toArray.isEmpty || k == 1) = false := beq_eq_false_iff_ne.mpr h1
    have d2 : (decide (k ≤ 0) || [u0].toArray.isEmpty) = false := by rw [Bool.or_eq_false_iff]; exact ⟨decide_eq_false (by omega), rfl⟩
    have d3 : ¬ (([u0].toArray.size : Nat) : Int) * k > (2 ^ 63 - 1) / 8 := by show ¬ (1 : Int) * k > _; omega
    have d4 : Builtin.Tuple.tupleTooMany ((([u0].toArray.size : Nat) : Int) * k) = false := by
      unfold Builtin.Tuple.tupleTooMany
      exact decide_eq_false (by rw [sizeLine_eq]; show ¬ _ < (1 : Int) * k; omega)
    have d5 : (List.replicate k.toNat [u0]).flatten.length ≤ sizeLine := by rw [flat_one, List.length_replicate]; exact small16 (by omega)
    refine call_meets F.slot_tuple_mul ⟨_, ho, rfl⟩ F.entry_tuple_mul (F.args_tuple_mul_2 _ _) (tuple_mulW l [u0].toArray n dd sl k t d0 d1 d2 d3 d4 (by rw [size_rep, List.size_toArray]; exact d5)) ⟨ho, ?_⟩
    rw [size_rep, flat_one]
    refine ⟨.ref st.heap.objs.size, upd HH st.heap.objs.size (.frz { cls := .type "tuple", data := .seq (List.replicate k.toNat u0).toArray } (.tup (List.replicate k.toNat e))), ?_, rfl, qq _ _ (Evl.Ex.new (JJ.hok.fresh (Nat.le_refl _))) ⟨_, upd_same, rfl, rfl⟩⟩
    refine JJ.laid (t' := st.toks) (fun b o2 e2 => Heap.get?_push_of_some _ e2) (Nat.le_refl _) ⟨Heap.get?_push_size _ rfl, by rw [List.length_replicate]; exact small16 (by omega), List.replicate k.toNat u0, ?_, IsTup.new _ _⟩
    have := r.rep k.toNat
    rw [flat_one, flat_one] at this
    exact this
/-- one behind the other, the second one not empty -/
def rCatQ (K : PySem.W.Frag) : R2 := fun x y H Q => ∃ a b xs ys, x = .ref a ∧ y = .ref b ∧ PT H a xs ∧ PT H b ys ∧ xs.length + ys.length ≤ 100000 ∧ ys ≠ [] ∧ ∀ c H', Ex H H' → PT H' c (xs ++ ys) → Q (.ref c) H'
theorem op_catQ : OpR X (binaryOp .Add) (rCatQ X.K) := by
  intro pp st sg HH x y v u QQ JJ rx ry h
  obtain ⟨a, b, xs, ys, rfl, rfl, ha, hb, hz, hy, qq⟩ := h
  by_cases hx : xs = []
  · subst hx
    exact op_catA pp st sg HH _ _ v u QQ JJ rx ry ⟨a, b, [], ys, rfl, rfl, ha.sq, hb.sq, small16 hz, fun _ => qq b HH (Evl.Ex.refl HH) hb, fun h => absurd rfl h, fun h => absurd rfl h⟩
  · exact op_catP pp st sg HH _ _ v u QQ JJ rx ry ⟨a, b, xs, ys, rfl, rfl, ha.sq, hb.sq, small16 hz, hx, hy, fun c ob hc e1 e2 => qq c _ (Evl.Ex.new hc) ⟨ob, upd_same, e1, e2⟩⟩
end
section
variable {K : PySem.W.Frag} {H : Hp}
/-- sorted(set(t)) of a tuple of ints -/
theorem sorted_set_tup {w : World} {D : Addr} {ns : List Int} {Q : VK} (hD : SqT K H D (ns.map L2.V.int)) (hz : ns.length ≤ 1000)
    (q : ∀ (kn : List Int) kp H', Ex H H' → H' kp = some (.lst (kn.map L2.V.int)) → kn.length ≤ ns.length → Q (.ref kp) H') :
    rSetTI K w [.ref D] H fun y H1 => rSortedSetB w [y] H1 Q := by
  refine ⟨D, ns, rfl, hD, hz, fun sp c hsp hc => ?_⟩
  have Y1 := Evl.Ex.new (o := SetO w sp (fun j => decide (j ∈ ns)) c) hsp
  refine ⟨sp, _, c, rfl, upd_same, by omega, fun kn kp hpw hm hkl hkp => ?_⟩
  exact q kn kp _ (Y1.trans (Evl.Ex.new hkp)) upd_same (by omega)
end
end Sx

set_option Elab.async false
set_option linter.all false
set_option maxRecDepth 100000
namespace Sx
open PySem PySem.Spec PyProof.Rows L2
section
variable {X : Cx}
/-- the ints a, a + c, .. -/
def rgC (a c : Int) (n : Nat) : List Int := (List.range n).map fun i => a + (i : Nat) * c
theorem vals_rgC {a c : Int} {n : Nat} {acc : Array Value} (h : ItemsOf (fun i v => ∃ t, v = .int (a + i * c) t) acc n) : Vals ((rgC a c n).map V.int) acc.toList := by
  have e : acc.toList.length = n := by rw [Array.length_toList]; exact h.1
  unfold rgC
  rw [← e, List.map_map]
  refine vals_of_get acc.toList _ fun j u hj => ?_
  obtain ⟨t, rfl⟩ := h.2 j u (by rw [← hj, Array.getElem?_toList])
  exact ⟨t, rfl⟩
def tTupC (ta : TA) : TE := fun σ H Q => ta σ H fun vs H1 => ∃ (i j c : Int) (n : Nat), vs = [.int i, .int j, .int c] ∧ RgC i j c n ∧ n ≤ 1000 ∧ ∀ q, H1 q = none → Q (.ref q) (upd H1 q (.tup ((rgC i c n).map V.int)))
/-- tuple(range(a, b, c)) -/
theorem pe_tupC {a b c : Expr} {ta : TA} {p p2 pos pos2 : Pos} (hc : X.calm = true) (ht : Gl X "tuple") (hmt : X.mg "tuple" = none) (hg : Gl X "range") (hm : X.mg "range" = none) (ha : PA X [a, b, c] ta)
    (hs : starEach [a, b, c] X.env = (false, eval a X.env) :: starEach [b, c] X.env := by rfl) (hpl : (backTo pos2 (starEach [b, c] X.env)).any (·.1) = false := by rfl)
    (na : starEach [.Call (.Name "range" p2) [a, b, c] [] pos2] X.env = (false, eval (.Call (.Name "range" p2) [a, b, c] [] pos2) X.env) :: starEach [] X.env := by rfl) :
    PE X (.Call (.Name "tuple" p) [.Call (.Name "range" p2) [a, b, c] [] pos2] [] pos) (tTupC ta) := by
  refine ⟨fun pins s σ H Q I h => ?_⟩
  refine Call_ (ld_blt I ht hmt boot_tuple (PyProof.Rows.callWith_type1 (args_cons ?_ na) na))
  refine Call_ (ld_blt I hg hm boot_range (PyProof.Rows.callWith_type1 (thn (ha.run pos2 pins s σ H _ I h) fun us s1 ⟨vs, H1, I1, r1, q1⟩ => ?_) hs hpl))
  obtain ⟨i, j, k, n, e, ⟨c0, c1, c2, c3⟩, hn, q⟩ := q1
  subst e
  cases r1 with
  | cons r rr =>
    cases rr with
    | cons r' rr =>
      cases rr with
      | cons r'' rr =>
        cases rr
        obtain ⟨t, rfl⟩ := r
        obtain ⟨t', rfl⟩ := r'
        obtain ⟨t'', rfl⟩ := r''
        refine call_range_3 c0 ?_ (.inl (PyProof.noPylong_small c1))
        refine args_nil ?_
        have I2 : Inv X pins σ H1 { s1 with heap := s1.heap.push { cls := .type "range", data := .fields #[.int i t, .int j t', .int k t''] } } := I1.kept (t' := s1.toks) fun b o e => Heap.get?_push_of_some _ e
        refine call_tuple_range (n := n) (I2.ok.hd hc) (IsRange.new ..) c2 c3 (by omega) fun h' tk acc hk hi => ?_
        have I3 : Inv X pins σ H1 { s1 with heap := h', toks := tk } := I2.kept hk
        refine ⟨.ref h'.objs.size, upd H1 h'.objs.size (.tup ((rgC i k n).map V.int)), I3.laid (t' := tk) (fun c o e => Heap.get?_push_of_some _ e) (Nat.le_refl _) (show ObjOk X.prog X.w _ _ _ (.tup ((rgC i k n).map V.int)) from ⟨?_, acc.toList, vals_rgC hi, ?_⟩), rfl, q _ (I3.hok.fresh (Nat.le_refl _))⟩
        · rw [List.length_map]; unfold rgC; rw [List.length_map, List.length_range, sizeLine_eq]; omega
        · rw [Array.toArray_toList]; exact IsTup.new _ _
end
end Sx

set_option Elab.async false
set_option linter.all false
set_option maxRecDepth 100000
namespace Sx
theorem wsp_order {ws xs ys : List Int} (hl : xs.length = ys.length) (h : ∀ i j, i < xs.length → j < xs.length → (g xs i < g xs j ↔ g ys i < g ys j)) : wsp ws xs = wsp ws ys := by
  refine g_ext (by rw [wsp_len, wsp_len, hl]) fun i hi => ?_
  rw [wsp_len] at hi
  rw [wsp_g hi, wsp_g (by omega)]
  unfold wv
  rw [bk_congr (ys := ys) (e' := g ys i) fun j hj => h j i (by omega) hi]
theorem wro_ext {ws xs ys : List Int} (h : wsp ws xs = wsp ws ys) : ∀ t, wro ws (t + 1) xs = wro ws (t + 1) ys
  | 0 => h
  | t + 1 => by show wsp ws (wro ws (t + 1) xs) = wsp ws (wro ws (t + 1) ys); rw [wro_ext h t]
theorem tot_scale {ws : List Int} {c : Int} : ∀ k, tot (ws.map (c * ·)) k = c * tot ws k
  | 0 => by rw [tot_zero, tot_zero, Int.mul_zero]
  | k + 1 => by
    by_cases h : k < ws.length
    · rw [tot_succ (by rw [List.length_map]; exact h), tot_succ h, tot_scale k, g_scale h, Int.mul_add]
    · have e1 : tot (ws.map (c * ·)) (k + 1) = tot (ws.map (c * ·)) k := by
        unfold tot
        rw [List.take_of_length_le (by rw [List.length_map]; omega), List.take_of_length_le (by rw [List.length_map]; omega)]
      have e2 : tot ws (k + 1) = tot ws k := by
        unfold tot
        rw [List.take_of_length_le (by omega), List.take_of_length_le (by omega)]
      rw [e1, e2, tot_scale k]
theorem wsp_scale {ws xs : List Int} {c : Int} : wsp (ws.map (c * ·)) xs = (wsp ws xs).map (c * ·) := by
  refine g_ext (by rw [wsp_len, List.length_map, wsp_len]) fun i hi => ?_
  rw [wsp_len] at hi
  rw [wsp_g hi, g_scale (by rw [wsp_len]; exact hi), wsp_g hi]
  unfold wv
  rw [tot_scale, tot_scale, ← Int.mul_sub]
theorem wsp_scaled {ws xs : List Int} {c : Int} (hc : 1 ≤ c) : wsp ws (xs.map (c * ·)) = wsp ws xs := by
  refine wsp_order (List.length_map ..) fun i j hi hj => ?_
  rw [List.length_map] at hi hj
  rw [g_scale hi, g_scale hj]
  exact ⟨fun k => Int.lt_of_mul_lt_mul_left k (by omega), fun k => Int.mul_lt_mul_of_pos_left k (by omega)⟩
theorem wro_scale {ws xs : List Int} {c : Int} (hc : 1 ≤ c) : ∀ t, wro (ws.map (c * ·)) (t + 1) xs = (wro ws (t + 1) xs).map (c * ·)
  | 0 => wsp_scale
  | t + 1 => by
    show wsp (ws.map (c * ·)) (wro (ws.map (c * ·)) (t + 1) xs) = _
    rw [wro_scale hc t, wsp_scaled hc, wsp_scale]; rfl
/-! #### growth -/
theorem wgrow1 {ws xs : List Int} {i t : Nat} (W : Wt ws xs.length) (h : i < xs.length) (hg : g (wro ws (t + 2) xs) i < g (wro ws (t + 3) xs) i) :
    g (wro ws (t + 1) xs) i < g (wro ws (t + 2) xs) i ∧ g (wro ws (t + 2) xs) i + g (wro ws (t + 1) xs) i ≤ g (wro ws (t + 3) xs) i := by
  have hlt : wb ws xs (t + 2) i < wb ws xs (t + 1) i := wb_lt (t := t + 1) W h hg
  have hb := wb_le ws xs (t + 1) i
  have h1 : g (wro ws (t + 1) xs) i ≤ g (wro ws (t + 1) xs) (wb ws xs (t + 1) i - 1) := bk_ge (xs := wro ws (t + 1) xs) (by show 0 < wb ws xs (t + 1) i; omega)
  have h2 : g (wro ws (t + 2) xs) (wb ws xs (t + 1) i - 1) < g (wro ws (t + 2) xs) i := bk_lt (xs := wro ws (t + 2) xs) (f := i) (by show wb ws xs (t + 2) i ≤ _; omega) (by omega)
  have hj : wb ws xs (t + 1) i - 1 < xs.length := by omega
  have h3 := wro_ge (t := t) W hj
  have h4 : g (wro ws (t + 2) xs) (wb ws xs (t + 1) i - 1) ≤ g (wro ws (t + 3) xs) (wb ws xs (t + 1) i - 1) := wro_ge (t := t + 1) W hj
  have hu : wb ws xs (t + 2) i ≤ wb ws xs (t + 2) (wb ws xs (t + 1) i - 1) := bk_under (xs := wro ws (t + 2) xs) (by omega) (by show wb ws xs (t + 2) i ≤ _; omega)
  have e3 : g (wro ws (t + 3) xs) i = _ := wro_g (t := t + 2) h
  have e2 : g (wro ws (t + 2) xs) i = _ := wro_g (t := t + 1) h
  have e4 : g (wro ws (t + 3) xs) (wb ws xs (t + 1) i - 1) = _ := wro_g (t := t + 2) hj
  have l := tot_le W hu (by have := wb_le ws xs (t + 2) (wb ws xs (t + 1) i - 1); omega)
  rw [show wb ws xs (t + 1) i - 1 + 1 = wb ws xs (t + 1) i by omega] at e4
  constructor
  · omega
  · omega
theorem wro_pos {ws xs : List Int} {i t : Nat} (W : Wt ws xs.length) (h : i < xs.length) : 1 ≤ g (wro ws (t + 1) xs) i := by
  rw [wro_g h]
  have hb := wb_le ws xs t i
  have := tot_le W (i := wb ws xs t i) (j := i) hb (by omega)
  have e := tot_succ (ws := ws) (k := i) (by rw [W.len]; exact h)
  have := (W.at h).1
  omega
theorem wgrow2 {ws xs : List Int} {i : Nat} (W : Wt ws xs.length) (h : i < xs.length) (hg : g (wro ws 1 xs) i < g (wro ws 2 xs) i) : 2 ≤ g (wro ws 1 xs) i ∧ 3 ≤ g (wro ws 2 xs) i := by
  have hlt : wb ws xs 1 i < wb ws xs 0 i := wb_lt (t := 0) W h hg
  have hb := wb_le ws xs 0 i
  have h2 : g (wro ws 1 xs) (wb ws xs 0 i - 1) < g (wro ws 1 xs) i := bk_lt (xs := wro ws 1 xs) (f := i) (by show wb ws xs 1 i ≤ _; omega) (by omega)
  have h3 := wro_pos (t := 0) W (i := wb ws xs 0 i - 1) (by omega)
  have h3 : 1 ≤ g (wro ws 1 xs) (wb ws xs 0 i - 1) := h3
  omega
theorem wgrow_fib {ws xs : List Int} {i : Nat} (W : Wt ws xs.length) (h : i < xs.length) : ∀ t, g (wro ws (t + 1) xs) i < g (wro ws (t + 2) xs) i → fib (t + 3) ≤ g (wro ws (t + 1) xs) i ∧ fib (t + 4) ≤ g (wro ws (t + 2) xs) i
  | 0, hg => wgrow2 W h hg
  | t + 1, hg => by
    obtain ⟨a, b⟩ := wgrow1 W h hg
    obtain ⟨c, d⟩ := wgrow_fib W h t a
    refine ⟨d, ?_⟩
    show fib (t + 3) + fib (t + 4) ≤ g (wro ws (t + 3) xs) i
    omega
theorem wnd_fib {ws xs : List Int} {n : Nat} (W : Wt ws xs.length) (h : WNd ws xs (n + 2)) : fib (n + 4) ≤ tot ws xs.length := by
  have hne : wsp ws (wro ws (n + 1) xs) ≠ wro ws (n + 1) xs := h.least (n + 1) (by omega)
  have : ∃ i, i < xs.length ∧ g (wro ws (n + 1) xs) i < g (wro ws (n + 2) xs) i := by
    refine Classical.byContradiction fun c => hne ?_
    refine (g_ext (by rw [wsp_len]) fun i hi => ?_).symm
    rw [wro_len] at hi
    have h1 := wro_ge (t := n) W hi
    have h2 : ¬ g (wro ws (n + 1) xs) i < g (wro ws (n + 2) xs) i := fun k => c ⟨i, hi, k⟩
    show g (wro ws (n + 1) xs) i = g (wro ws (n + 2) xs) i
    omega
  obtain ⟨i, hi, hg⟩ := this
  have h1 := (wgrow_fib W hi n hg).2
  have h2 : g (wro ws (n + 2) xs) i = _ := wro_g (t := n + 1) hi
  have h3 := tot_le W (i := 0) (j := wb ws xs (n + 1) i) (by omega) (by have := wb_le ws xs (n + 1) i; omega)
  have h4 := tot_le W (i := i + 1) (j := xs.length) (by omega) (by omega)
  rw [tot_zero] at h3
  omega
theorem tot_top {ws : List Int} {n : Nat} (W : Wt ws n) : ∀ k, k ≤ n → tot ws k ≤ 10 ^ 28 * k
  | 0, _ => by rw [tot_zero]; decide
  | k + 1, h => by
    have := tot_top W k (by omega)
    have e := tot_succ (ws := ws) (k := k) (by rw [W.len]; omega)
    have := (W.at (i := k) (by omega)).2
    omega
theorem rw_wro {ws xs : List Int} (W : Wt ws xs.length) (R : Rw xs) : ∀ n, Rw (wro ws n xs)
  | 0 => R
  | n + 1 => by
    have hl := wro_len ws xs (n + 1)
    have h0 := R.lo
    have h1 := R.hi
    refine ⟨by omega, by omega, fun x hx => ?_⟩
    obtain ⟨i, hi, rfl⟩ := List.mem_iff_getElem.mp hx
    have e : g (wro ws (n + 1) xs) i = (wro ws (n + 1) xs)[i] := Option.some.inj ((g_get hi).symm.trans (List.getElem?_eq_getElem hi))
    rw [← e]
    have hi : i < xs.length := by omega
    have p := wro_pos (t := n) W hi
    have e2 := wro_g (ws := ws) (t := n) hi
    have h3 := tot_le W (i := 0) (j := wb ws xs n i) (by omega) (by have := wb_le ws xs n i; omega)
    rw [tot_zero] at h3
    have h4 := tot_top W (i + 1) (by omega)
    omega
theorem wro_later {ws xs : List Int} (n : Nat) : ∀ t, wro ws t (wro ws n xs) = wro ws (n + t) xs
  | 0 => rfl
  | t + 1 => by show wsp ws (wro ws t (wro ws n xs)) = _; rw [wro_later n t]; rfl
theorem wnd_final {ws xs : List Int} {n m : Nat} (h : WNd ws xs n) (h2 : WNd ws (wro ws n xs) m) : m = 0 :=
  h2.uniq ⟨h.still, fun k hk => absurd hk (Nat.not_lt_zero _)⟩
/-! #### the slow rows -/
def pr : Nat → Int × Int
  | 0 => (1, 2)
  | k + 1 => ((pr k).2, if 10000000000000000000000000000 < (pr k).1 + (pr k).2 then 10000000000000000000000000000 else (pr k).1 + (pr k).2)
theorem pr_ok : ∀ k, 1 ≤ (pr k).1 ∧ (pr k).1 ≤ 10 ^ 28 ∧ 1 ≤ (pr k).2 ∧ (pr k).2 ≤ 10 ^ 28
  | 0 => by decide
  | k + 1 => by
    obtain ⟨a, b, c, d⟩ := pr_ok k
    show 1 ≤ (pr k).2 ∧ (pr k).2 ≤ 10 ^ 28 ∧ 1 ≤ (if 10000000000000000000000000000 < (pr k).1 + (pr k).2 then 10000000000000000000000000000 else (pr k).1 + (pr k).2) ∧ (if 10000000000000000000000000000 < (pr k).1 + (pr k).2 then 10000000000000000000000000000 else (pr k).1 + (pr k).2) ≤ 10 ^ 28
    refine ⟨c, d, ?_, ?_⟩ <;> split <;> omega
def fsl (m : Nat) : List Int := [2, 1] ++ (List.range m).map fun k => (pr k).2
theorem fsl_len (m : Nat) : (fsl m).length = m + 2 := by unfold fsl; rw [List.length_append, List.length_map, List.length_range]; show 2 + m = _; omega
theorem fsl_succ (m : Nat) : fsl (m + 1) = fsl m ++ [(pr m).2] := by unfold fsl; rw [List.range_succ, List.map_append, List.append_assoc]; rfl
theorem fsl_ok {m : Nat} {x : Int} (h : x ∈ fsl m) : 1 ≤ x ∧ x ≤ 10 ^ 28 := by
  unfold fsl at h
  rcases List.mem_append.mp h with h | h
  · simp only [List.mem_cons, List.not_mem_nil, or_false] at h
    rcases h with e | e <;> rw [e] <;> decide
  · obtain ⟨k, _, rfl⟩ := List.mem_map.mp h
    have := pr_ok k
    exact ⟨this.2.2.1, this.2.2.2⟩
def slowX (n : Nat) : List Int := rgC n (-1) n
def slowW (n : Nat) : List Int := (fsl (n - 2)).reverse
theorem slowW_wt {n : Nat} (h : 2 ≤ n) : Wt (slowW n) n :=
  ⟨by unfold slowW; rw [List.length_reverse, fsl_len]; omega, fun x hx => (fsl_ok (List.mem_reverse.mp hx)).1, fun x hx => (fsl_ok (List.mem_reverse.mp hx)).2⟩
theorem slowX_len (n : Nat) : (slowX n).length = n := by unfold slowX rgC; rw [List.length_map, List.length_range]
theorem slowX_rw {n : Nat} (h : 2 ≤ n) (h2 : n ≤ 100) : Rw (slowX n) := ⟨by rw [slowX_len]; omega, by rw [slowX_len]; exact h2, fun x hx => by
  unfold slowX rgC at hx
  obtain ⟨k, hk, rfl⟩ := List.mem_map.mp hx
  rw [List.mem_range] at hk
  omega⟩
/-- each round changes something -/
def wchk (ws : List Int) : Nat → List Int → Bool
  | 0, _ => true
  | k + 1, ys => (wsp ws ys != ys) && wchk ws k (wsp ws ys)
theorem wchk_ne {ws : List Int} : ∀ {n : Nat} {ys : List Int}, wchk ws n ys = true → ∀ k, k < n → wsp ws (wro ws k ys) ≠ wro ws k ys
  | 0, _, _, k, h => absurd h (Nat.not_lt_zero _)
  | n + 1, ys, h, k, hk => by
    unfold wchk at h
    rw [Bool.and_eq_true] at h
    cases k with
    | zero => exact bne_iff_ne.mp h.1
    | succ k =>
      have := wchk_ne h.2 k (by omega)
      have e : ∀ k, wro ws k (wsp ws ys) = wro ws (k + 1) ys := fun k => by
        induction k with
        | zero => rfl
        | succ k ih => show wsp ws (wro ws k (wsp ws ys)) = wsp ws (wro ws (k + 1) ys); rw [ih]
      rw [e] at this
      exact this
theorem slow_all : (List.range 42).all (fun n => decide (n < 2) || wchk (slowW n) n (slowX n)) = true := by decide +kernel
theorem slow_nd {n m : Nat} (h : 2 ≤ n) (h2 : n ≤ 41) (hm : WNd (slowW n) (slowX n) m) : m = n := by
  have h3 := List.all_eq_true.mp slow_all n (List.mem_range.mpr (by omega))
  rw [decide_eq_false (by omega), Bool.false_or] at h3
  have W := slowW_wt h
  have e := slowX_len n
  have hs := wstill (ws := slowW n) (xs := slowX n) (by rw [e]; exact W) (by omega)
  rw [e] at hs
  exact hm.uniq ⟨hs, wchk_ne h3⟩
end Sx
namespace Sx
theorem big_log {n : Int} (h0 : -10 ^ 30 ≤ n) (h : n ≤ 10 ^ 30) : n.natAbs.log2 < 1900 := by
  have := PySem.Flt.log2_lt_of (n := n.natAbs) (k := 120) (by decide) (by omega)
  omega
end Sx

set_option Elab.async false
set_option linter.all false
set_option maxRecDepth 100000
namespace Sx
open PySem PySem.Spec
open PyProof.Rows L2
/-- a loop over zip of two lists, as long as the shorter one -/
theorem for_zipM {K : PySem.W.Frag} {a b : Addr} {xs ys : List V} {g : TG} {tb : TS} {D : Ends} {σ : L2.St} {H : Hp} (Pv : Nat → L2.St → Hp → Prop) (h0 : Pv 0 σ H) (hq : ∀ i σ H, Pv i σ H → SqL K H a xs ∧ SqL K H b ys)
    (hs : ∀ (i : Nat) (x y : V) (T : Addr) (σ : L2.St) (H : Hp), xs[i]? = some x → ys[i]? = some y → Pv i σ H → H T = none → g (.ref T) σ (upd H T (.tup [x, y])) fun σ2 H2 => tb { D with nx := Pv (i + 1), ct := Pv (i + 1), bk := D.nx } σ2 H2) (hd : ∀ σ H, Pv (min xs.length ys.length) σ H → D.nx σ H) :
    ∃ W : Nat → Nat → L2.St → Hp → Prop, (∃ m, W 0 m σ H) ∧ ∀ i m σ H, W i m σ H →
      ((Itz K a b).stop i H ∧ D.nx σ H) ∨ ((Itz K a b).go i H ∧ ∃ N : L2.St → Hp → Prop, (∀ σ' H', N σ' H' → ∃ m', m' < m ∧ W (i + 1) m' σ' H') ∧ ∀ v H', (Itz K a b).yld i H v H' → g v σ H' fun σ2 H2 => tb { D with nx := N, ct := N, bk := D.nx } σ2 H2) := by
  refine ⟨fun i m σ H => i + m = min xs.length ys.length ∧ Pv i σ H, ⟨_, Nat.zero_add _, h0⟩, ?_⟩
  rintro i m σ H ⟨e, p⟩
  obtain ⟨qx, qy⟩ := hq i σ H p
  by_cases hlt : i < min xs.length ys.length
  · have hx : xs[i]? = some (xs[i]'(by omega)) := List.getElem?_eq_getElem (by omega)
    have hy : ys[i]? = some (ys[i]'(by omega)) := List.getElem?_eq_getElem (by omega)
    refine .inr ⟨⟨xs, ys, _, _, qx, qy, hx, hy⟩, Pv (i + 1), fun σ' H' p' => ⟨m - 1, by omega, by omega, p'⟩, fun v H' y => ?_⟩
    obtain ⟨T, x', y', rfl, hT, rfl, f1, f2⟩ := y
    exact hs i x' y' T σ H (f1 xs qx) (f2 ys qy) p hT
  · have e : i = min xs.length ys.length := by omega
    subst e
    exact .inl ⟨⟨xs, ys, qx, qy, by omega⟩, hd σ H p⟩
/-- a comprehension over zip of two tuples -/
theorem lc_zipT {K : PySem.W.Frag} {a b : Addr} {xs ys : List V} {g : TG} {tt : TT} {te : TE} {vs : List Nat} {σ : L2.St} {H1 : Hp} {D : Addr} {Qd : Hp → Prop}
    (Pv : Nat → Hp → Prop) (h0 : Pv 0 (upd H1 D (.lst [])))
    (hl : ∀ i H, Pv i H → SqT K H a xs ∧ SqT K H b ys)
    (hs : ∀ i x y T H, xs[i]? = some x → ys[i]? = some y → Pv i H → H T = none →
      g (.ref T) (wipe σ vs) (upd H T (.tup [x, y])) fun σ2 H2 =>
        wipe σ2 vs = wipe σ vs ∧ tt σ2 H2 fun b H3 =>
          if b = true then te σ2 H3 fun y H4 =>
            ∃ acc, H4 D = some (.lst acc) ∧ acc.length < sizeLine ∧ Pv (i + 1) (upd H4 D (.lst (acc ++ [y])))
          else Pv (i + 1) H3)
    (hd : ∀ H, Pv (min xs.length ys.length) H → Qd H) :
    ∃ W : Nat → Nat → Hp → Prop, (∃ m, W 0 m (upd H1 D (.lst []))) ∧ ∀ i m H, W i m H →
      ((RZ.ItzT K a b).stop i H ∧ Qd H) ∨
      ((RZ.ItzT K a b).go i H ∧ ∃ Nx : Hp → Prop, (∀ H', Nx H' → ∃ m', m' < m ∧ W (i + 1) m' H') ∧ ∀ x H', (RZ.ItzT K a b).yld i H x H' →
        g x (wipe σ vs) H' fun σ2 H2 =>
          wipe σ2 vs = wipe σ vs ∧ tt σ2 H2 fun b H3 =>
            if b = true then te σ2 H3 fun y H4 =>
              ∃ acc, H4 D = some (.lst acc) ∧ acc.length < sizeLine ∧ Nx (upd H4 D (.lst (acc ++ [y])))
            else Nx H3) := by
  refine ⟨fun i m H => i + m = min xs.length ys.length ∧ Pv i H, ⟨_, Nat.zero_add _, h0⟩, fun i m H ⟨e, p⟩ => ?_⟩
  obtain ⟨qx, qy⟩ := hl i H p
  by_cases hlt : i < min xs.length ys.length
  · have hx : xs[i]? = some (xs[i]'(by omega)) := List.getElem?_eq_getElem (by omega)
    have hy : ys[i]? = some (ys[i]'(by omega)) := List.getElem?_eq_getElem (by omega)
    refine .inr ⟨⟨xs, ys, _, _, qx, qy, hx, hy⟩, Pv (i + 1), fun H' p' => ⟨m - 1, by omega, by omega, p'⟩, ?_⟩
    rintro v H' ⟨T, x', y', rfl, hT, rfl, f1, f2⟩
    exact hs i x' y' T H (f1 xs qx) (f2 ys qy) p hT
  · have e : i = min xs.length ys.length := by omega
    subst e
    exact .inl ⟨⟨xs, ys, qx, qy, by omega⟩, hd H p⟩
end Sx
namespace Sx
open PySem PySem.Spec
open PyProof.Rows L2
theorem noPart_i {σ : L2.St} {H : Hp} {R : Option Int → Hp → Prop} (h : R none H) : tNoPart σ H R := h
end Sx

set_option Elab.async false
set_option linter.all false
set_option maxRecDepth 100000
set_option maxHeartbeats 1000000
namespace K66
open PySem PySem.Spec
open PyProof.Rows L2 Sx
def topS (i : Nat) : Stmt := PySem.Challenge.pw_spanrounds_k66_whole_weights_as_long_row.main.body.getD i (.Pass ⟨0, 0, 0, 0⟩)
abbrev s_is_int : Stmt := topS 12
theorem sc_is_int : FnScope ["value"] ["value"] (defScope s_is_int) := ⟨rfl, rfl, rfl, by decide +kernel, rfl, by decide +kernel, by decide +kernel⟩
abbrev s_is_whole : Stmt := topS 13
theorem sc_is_whole : FnScope ["value", "low", "high"] ["value", "low", "high"] (defScope s_is_whole) := ⟨rfl, rfl, rfl, by decide +kernel, rfl, by decide +kernel, by decide +kernel⟩
abbrev s_is_entry : Stmt := topS 14
theorem sc_is_entry : FnScope ["value"] ["value"] (defScope s_is_entry) := ⟨rfl, rfl, rfl, by decide +kernel, rfl, by decide +kernel, by decide +kernel⟩
abbrev s_check_place : Stmt := topS 15
theorem sc_check_place : FnScope ["place", "size"] ["place", "size"] (defScope s_check_place) := ⟨rfl, rfl, rfl, by decide +kernel, rfl, by decide +kernel, by decide +kernel⟩
abbrev s_check_rounds : Stmt := topS 16
theorem sc_check_rounds : FnScope ["rounds", "least"] ["rounds", "least"] (defScope s_check_rounds) := ⟨rfl, rfl, rfl, by decide +kernel, rfl, by decide +kernel, by decide +kernel⟩
abbrev s_is_blocks : Stmt := topS 20
theorem sc_is_blocks : FnScope ["value", "block"] ["value"] (defScope s_is_blocks) := ⟨rfl, rfl, rfl, by decide +kernel, rfl, by decide +kernel, by decide +kernel⟩
abbrev s_is_block : Stmt := topS 21
theorem sc_is_block : FnScope ["value", "entry", "count"] ["value"] (defScope s_is_block) := ⟨rfl, rfl, rfl, by decide +kernel, rfl, by decide +kernel, by decide +kernel⟩
abbrev s_check_blocks : Stmt := topS 22
theorem sc_check_blocks : FnScope ["blocks"] ["blocks"] (defScope s_check_blocks) := ⟨rfl, rfl, rfl, by decide +kernel, rfl, by decide +kernel, by decide +kernel⟩
abbrev s_long_after : Stmt := topS 23
theorem sc_long_after : FnScope ["blocks", "rounds"] ["blocks", "rounds"] (defScope s_long_after) := ⟨rfl, rfl, rfl, by decide +kernel, rfl, by decide +kernel, by decide +kernel⟩
abbrev s_long_entry : Stmt := topS 24
theorem sc_long_entry : FnScope ["blocks", "place", "rounds", "runs", "at", "_", "count"] ["blocks", "place", "rounds"] (defScope s_long_entry) := ⟨rfl, rfl, rfl, by decide +kernel, rfl, by decide +kernel, by decide +kernel⟩
abbrev s_long_count : Stmt := topS 25
theorem sc_long_count : FnScope ["blocks", "entry", "rounds", "present", "count"] ["blocks", "entry", "rounds"] (defScope s_long_count) := ⟨rfl, rfl, rfl, by decide +kernel, rfl, by decide +kernel, by decide +kernel⟩
abbrev s_long_needed : Stmt := topS 26
theorem sc_long_needed : FnScope ["blocks"] ["blocks"] (defScope s_long_needed) := ⟨rfl, rfl, rfl, by decide +kernel, rfl, by decide +kernel, by decide +kernel⟩
abbrev s_played : Stmt := topS 27
theorem sc_played : FnScope ["blocks", "rounds", "runs", "changing", "following"] ["blocks", "rounds"] (defScope s_played) := ⟨rfl, rfl, rfl, by decide +kernel, rfl, by decide +kernel, by decide +kernel⟩
abbrev s_runs_of : Stmt := topS 28
theorem sc_runs_of : FnScope ["blocks", "runs", "entry", "count"] ["blocks"] (defScope s_runs_of) := ⟨rfl, rfl, rfl, by decide +kernel, rfl, by decide +kernel, by decide +kernel⟩
abbrev s_runs_after_round : Stmt := topS 29
theorem sc_runs_after_round : FnScope ["runs", "spans", "hinderers", "places", "entry", "count", "front"] ["runs"] (defScope s_runs_after_round) := ⟨rfl, rfl, rfl, by decide +kernel, rfl, by decide +kernel, by decide +kernel⟩
abbrev s_is_row : Stmt := topS 31
theorem sc_is_row : FnScope ["value", "entry"] ["value"] (defScope s_is_row) := ⟨rfl, rfl, rfl, by decide +kernel, rfl, by decide +kernel, by decide +kernel⟩
abbrev s_check_row : Stmt := topS 32
theorem sc_check_row : FnScope ["row"] ["row"] (defScope s_check_row) := ⟨rfl, rfl, rfl, by decide +kernel, rfl, by decide +kernel, by decide +kernel⟩
abbrev s_all_spans : Stmt := topS 33
theorem sc_all_spans : FnScope ["row", "spans", "place", "entry", "front"] ["row"] (defScope s_all_spans) := ⟨rfl, rfl, rfl, by decide +kernel, rfl, by decide +kernel, by decide +kernel⟩
abbrev s_rows_until_still : Stmt := topS 34
theorem sc_rows_until_still : FnScope ["row", "rows", "following"] ["row"] (defScope s_rows_until_still) := ⟨rfl, rfl, rfl, by decide +kernel, rfl, by decide +kernel, by decide +kernel⟩
abbrev s_row_after : Stmt := topS 35
theorem sc_row_after : FnScope ["row", "rounds", "rows"] ["row", "rounds"] (defScope s_row_after) := ⟨rfl, rfl, rfl, by decide +kernel, rfl, by decide +kernel, by decide +kernel⟩
abbrev s_rounds_needed : Stmt := topS 37
theorem sc_rounds_needed : FnScope ["row"] ["row"] (defScope s_rounds_needed) := ⟨rfl, rfl, rfl, by decide +kernel, rfl, by decide +kernel, by decide +kernel⟩
abbrev s_is_weights : Stmt := topS 40
theorem sc_is_weights : FnScope ["row", "value", "weight"] ["row", "value"] (defScope s_is_weights) := ⟨rfl, rfl, rfl, by decide +kernel, rfl, by decide +kernel, by decide +kernel⟩
abbrev s_check_weights : Stmt := topS 41
theorem sc_check_weights : FnScope ["row", "weights"] ["row", "weights"] (defScope s_check_weights) := ⟨rfl, rfl, rfl, by decide +kernel, rfl, by decide +kernel, by decide +kernel⟩
abbrev s_weighted_after : Stmt := topS 42
theorem sc_weighted_after : FnScope ["row", "weights", "rounds", "rows"] ["row", "weights", "rounds"] (defScope s_weighted_after) := ⟨rfl, rfl, rfl, by decide +kernel, rfl, by decide +kernel, by decide +kernel⟩
abbrev s_weighted_needed : Stmt := topS 43
theorem sc_weighted_needed : FnScope ["row", "weights"] ["row", "weights"] (defScope s_weighted_needed) := ⟨rfl, rfl, rfl, by decide +kernel, rfl, by decide +kernel, by decide +kernel⟩
abbrev s_weighted_rows : Stmt := topS 44
theorem sc_weighted_rows : FnScope ["row", "weights", "totals", "weight", "rows", "following"] ["row", "weights"] (defScope s_weighted_rows) := ⟨rfl, rfl, rfl, by decide +kernel, rfl, by decide +kernel, by decide +kernel⟩
abbrev s_weighted_spans : Stmt := topS 45
theorem sc_weighted_spans : FnScope ["row", "totals", "spans", "place", "span"] ["row", "totals"] (defScope s_weighted_spans) := ⟨rfl, rfl, rfl, by decide +kernel, rfl, by decide +kernel, by decide +kernel⟩
abbrev s__law_fount : Stmt := topS 47
theorem sc__law_fount : FnScope ["script", "k", "cell"] ["script", "k"] (defScope s__law_fount) := ⟨rfl, rfl, rfl, by decide +kernel, rfl, by decide +kernel, by decide +kernel⟩
abbrev s__law_sip : Stmt := topS 48
theorem sc__law_sip : FnScope ["fount", "many", "found", "mixed"] ["fount", "many"] (defScope s__law_sip) := ⟨rfl, rfl, rfl, by decide +kernel, rfl, by decide +kernel, by decide +kernel⟩
abbrev s__law_mixed : Stmt := topS 49
theorem sc__law_mixed : FnScope ["fount", "items", "left", "turn"] ["fount", "items"] (defScope s__law_mixed) := ⟨rfl, rfl, rfl, by decide +kernel, rfl, by decide +kernel, by decide +kernel⟩
abbrev s__law_value : Stmt := topS 50
theorem sc__law_value : FnScope ["fount", "style", "count"] ["fount", "style", "count"] (defScope s__law_value) := ⟨rfl, rfl, rfl, by decide +kernel, rfl, by decide +kernel, by decide +kernel⟩
abbrev s__law_slow : Stmt := topS 51
theorem sc__law_slow : FnScope ["fount", "count", "lengths", "one", "two", "found", "base", "length"] ["fount", "count"] (defScope s__law_slow) := ⟨rfl, rfl, rfl, by decide +kernel, rfl, by decide +kernel, by decide +kernel⟩
abbrev s__law_row : Stmt := topS 52
theorem sc__law_row : FnScope ["fount", "most", "count", "style", "way", "few", "found", "turn"] ["fount", "most"] (defScope s__law_row) := ⟨rfl, rfl, rfl, by decide +kernel, rfl, by decide +kernel, by decide +kernel⟩
abbrev s__law_spans : Stmt := topS 53
theorem sc__law_spans : FnScope ["row", "found", "place", "entry", "back"] ["row"] (defScope s__law_spans) := ⟨rfl, rfl, rfl, by decide +kernel, rfl, by decide +kernel, by decide +kernel⟩
abbrev s__law_far : Stmt := topS 54
theorem sc__law_far : FnScope ["row", "many", "played_v", "later"] ["row", "many"] (defScope s__law_far) := ⟨rfl, rfl, rfl, by decide +kernel, rfl, by decide +kernel, by decide +kernel⟩
abbrev s__law_loads : Stmt := topS 55
theorem sc__law_loads : FnScope ["fount", "many", "style", "wide", "turn", "few", "found", "some", "fresh"] ["fount", "many"] (defScope s__law_loads) := ⟨rfl, rfl, rfl, by decide +kernel, rfl, by decide +kernel, by decide +kernel⟩
abbrev s__law_long_right : Stmt := topS 56
theorem sc__law_long_right : FnScope ["fount", "row", "loads", "low", "pieces", "ends", "whole", "entry", "load", "needed", "least", "many", "due", "turn", "place", "greatest", "count"] ["fount", "row", "loads"] (defScope s__law_long_right) := ⟨rfl, rfl, rfl, by decide +kernel, rfl, by decide +kernel, by decide +kernel⟩
abbrev s__law_equal_right : Stmt := topS 57
theorem sc__law_equal_right : FnScope ["fount", "row", "ones", "load", "same", "many", "due", "times_here", "entry"] ["fount", "row"] (defScope s__law_equal_right) := ⟨rfl, rfl, rfl, by decide +kernel, rfl, by decide +kernel, by decide +kernel⟩
abbrev s__law_front_right : Stmt := topS 58
theorem sc__law_front_right : FnScope ["fount", "row", "loads", "many", "front", "due"] ["fount", "row", "loads"] (defScope s__law_front_right) := ⟨rfl, rfl, rfl, by decide +kernel, rfl, by decide +kernel, by decide +kernel⟩
abbrev s_law : Stmt := topS 59
theorem sc_law : FnScope ["script", "k", "fount", "most", "row", "loads"] ["script"] (defScope s_law) := ⟨rfl, rfl, rfl, by decide +kernel, rfl, by decide +kernel, by decide +kernel⟩
structure Top (mg : Str → Option Value) : Prop where
  isinstance : mg "isinstance" = none
  int : mg "int" = none
  bool : mg "bool" = none
  all : mg "all" = none
  tuple : mg "tuple" = none
  len : mg "len" = none
  sum : mg "sum" = none
  enumerate : mg "enumerate" = none
  min : mg "min" = none
  max : mg "max" = none
  list : mg "list" = none
  range : mg "range" = none
  sorted : mg "sorted" = none
  zip : mg "zip" = none
  c_MOST_ENTRIES : ∃ u, mg "MOST_ENTRIES" = some u ∧ RelV (.int 100) u
  c_GREATEST_ENTRY : ∃ u, mg "GREATEST_ENTRY" = some u ∧ RelV (.int 1000000000000000000000000000000) u
  c_MOST_ROUNDS : ∃ u, mg "MOST_ROUNDS" = some u ∧ RelV (.int 1000000000000000000000000000000) u
  c_MOST_BLOCKS : ∃ u, mg "MOST_BLOCKS" = some u ∧ RelV (.int 200) u
  c_GREATEST_COUNT : ∃ u, mg "GREATEST_COUNT" = some u ∧ RelV (.int 10000000000000000000000000000) u
  c_GREATEST_WEIGHT : ∃ u, mg "GREATEST_WEIGHT" = some u ∧ RelV (.int 10000000000000000000000000000) u
section
variable {P : Program} {w : World} {K : PySem.W.Frag} {mg : Str → Option Value} {base : Heap}
def sp_is_int (K : PySem.W.Frag) : Sp := fun vs H Q _ => ∃ v, vs = [.int v] ∧ Q (.bl true) H
theorem ok_is_int {f : Addr} {fd : FuncData} (D : DefAt K mg "is_int" s_is_int ["value"] f fd) (T : Top mg)  :
    C8.Cal P w K mg base 1 "is_int" (sp_is_int K) [] := by
  refine D.cal sc_is_int (fun vs H Q E h => ?len) fun cdv A outer s H vs Q E hr h => ?body
  case len => obtain ⟨v, rfl, _⟩ := h; rfl
  obtain ⟨v, rfl, q⟩ := h
  refine ⟨_, (pss_one (ps_ret (pe_and (pe_callB call_isi (by rfl) T.isinstance (by decide +kernel) (pa_cons (pv 0) (pa_cons (pe_bltn (by rfl) T.int (by decide +kernel) (v := .ty "int") rfl) pa_nil))) (pe_one (pe_not (pe_callB call_isi (by rfl) T.isinstance (by decide +kernel) (pa_cons (pv 0) (pa_cons (pe_bltn (by rfl) T.bool (by decide +kernel) (v := .ty "bool") rfl) pa_nil)))))))), ?_⟩
  refine ⟨_, rfl, _, _, _, _, true, rfl, .ty "int", .base (.int v), kit_ty (by decide +kernel), true, rfl, ?_⟩
  refine iteT ⟨_, rfl, _, _, _, _, false, rfl, .ty "bool", .base (.int v), kit_ty (by decide +kernel), false, rfl, ?_⟩
  exact q
def sp_is_whole (K : PySem.W.Frag) : Sp := fun vs H Q _ => ∃ v lo hi, vs = [.int v, .int lo, .int hi] ∧ Q (.bl (decide (lo ≤ v ∧ v ≤ hi))) H
theorem ok_is_whole {f : Addr} {fd : FuncData} (D : DefAt K mg "is_whole" s_is_whole ["value", "low", "high"] f fd) (T : Top mg) (c_is_int : C8.Cal P w K mg base 1 "is_int" (sp_is_int K) []) :
    C8.Cal P w K mg base 2 "is_whole" (sp_is_whole K) [] := by
  refine D.cal sc_is_whole (fun vs H Q E h => ?len) fun cdv A outer s H vs Q E hr h => ?body
  case len => obtain ⟨v, lo, hi, rfl, _⟩ := h; rfl
  obtain ⟨v, lo, hi, rfl, q⟩ := h
  refine ⟨_, (pss_one (ps_ret (pe_and (C8.pe_c c_is_int hr (by decide) (by rfl) (pa_cons (pv 0) pa_nil)) (pe_one (pe_chain op_le op_le (pv 1) (pv 0) (pv 2)))))), ?_⟩
  refine ⟨_, rfl, _, rfl, true, rfl, ?_⟩
  refine iteT ⟨_, rfl, _, rfl, _, _, rfl, rfl, _, rfl, ite2 (fun h1 => ?_) fun h1 => ?_⟩
  · refine ⟨_, rfl, _, _, rfl, rfl, ?_⟩
    have e : decide (v ≤ hi) = decide (lo ≤ v ∧ v ≤ hi) := decide_eq_decide.mpr ⟨fun h => ⟨of_decide_eq_true h1, h⟩, fun h => h.2⟩
    show Q (.bl (decide (v ≤ hi))) H
    rw [e]; exact q
  · have e : false = decide (lo ≤ v ∧ v ≤ hi) := (decide_eq_false fun h => h1 (decide_eq_true h.1)).symm
    show Q (.bl false) H
    rw [e]; exact q
theorem ten30 : (10 : Int) ^ 30 = 1000000000000000000000000000000 := by decide
def sp_is_entry (K : PySem.W.Frag) : Sp := fun vs H Q _ => ∃ v, vs = [.int v] ∧ Q (.bl (decide (-10 ^ 30 ≤ v ∧ v ≤ 10 ^ 30))) H
theorem ok_is_entry {f : Addr} {fd : FuncData} (D : DefAt K mg "is_entry" s_is_entry ["value"] f fd) (T : Top mg) (c_is_whole : C8.Cal P w K mg base 2 "is_whole" (sp_is_whole K) []) :
    C8.Cal P w K mg base 3 "is_entry" (sp_is_entry K) [] := by
  refine D.cal sc_is_entry (fun vs H Q E h => ?len) fun cdv A outer s H vs Q E hr h => ?body
  case len => obtain ⟨v, rfl, _⟩ := h; rfl
  obtain ⟨v, rfl, q⟩ := h
  refine ⟨_, (pss_one (ps_ret (C8.pe_c c_is_whole hr (by decide) (by rfl) (pa_cons (pv 0) (pa_cons (pe_un un_neg (C8.pe_gc (by rfl) T.c_GREATEST_ENTRY)) (pa_cons (C8.pe_gc (by rfl) T.c_GREATEST_ENTRY) pa_nil)))))), ?_⟩
  refine ⟨_, rfl, _, rfl, _, _, _, rfl, ?_⟩
  rw [ten30] at q
  exact q
def sp_check_place (K : PySem.W.Frag) : Sp := fun vs H Q _ => ∃ v n, vs = [.int v, .int n] ∧ 0 ≤ v ∧ v < n ∧ Q .non H
theorem ok_check_place {f : Addr} {fd : FuncData} (D : DefAt K mg "check_place" s_check_place ["place", "size"] f fd) (T : Top mg) (c_is_whole : C8.Cal P w K mg base 2 "is_whole" (sp_is_whole K) []) :
    C8.Cal P w K mg base 3 "check_place" (sp_check_place K) [] := by
  refine D.cal sc_check_place (fun vs H Q E h => ?len) fun cdv A outer s H vs Q E hr h => ?body
  case len => obtain ⟨v, lo, rfl, _⟩ := h; rfl
  obtain ⟨v, n, rfl, h0, h1, q⟩ := h
  refine ⟨_, (pss_one (ps_if (pt_not (pt_val (C8.pe_c c_is_whole hr (by decide) (by rfl) (pa_cons (pv 0) (pa_cons pe_int (pa_cons (pe_op op_sub (pv 1) pe_int) pa_nil))))))
        (pss_one ps_never)
        pss_nil)), ?_⟩
  refine ⟨_, rfl, _, rfl, _, _, rfl, rfl, _, _, _, rfl, _, rfl, ?_⟩
  rw [decide_eq_true (show (0 : Int) ≤ v ∧ v ≤ n - 1 from ⟨h0, by omega⟩)]
  exact q
def sp_is_row (K : PySem.W.Frag) : Sp := fun vs H Q _ => ∃ a, ∃ xs : List Int, vs = [.ref a] ∧ SqT K H a (xs.map V.int) ∧ 1 ≤ xs.length ∧ xs.length ≤ 100 ∧ (∀ x ∈ xs, -10 ^ 30 ≤ x ∧ x ≤ 10 ^ 30) ∧ ∀ H', Ex H H' → Q (.bl true) H'
theorem ok_is_row {f : Addr} {fd : FuncData} (D : DefAt K mg "is_row" s_is_row ["value"] f fd) (T : Top mg) (c_is_entry : C8.Cal P w K mg base 3 "is_entry" (sp_is_entry K) []) :
    C8.Cal P w K mg base 4 "is_row" (sp_is_row K) [] := by
  refine D.cal sc_is_row (fun vs H Q E h => ?len) fun cdv A outer s H vs Q E hr h => ?body
  case len => obtain ⟨a, xs, rfl, _⟩ := h; rfl
  obtain ⟨a, xs, rfl, hS, h0, h1, hB, q⟩ := h
  refine ⟨_, (pss_cons (ps_if (PW.pt (pw_or (pt_not (pt_val (pe_callB call_isi (by rfl) T.isinstance (by decide +kernel) (pa_cons (pv 0) (pa_cons (pe_bltn (by rfl) T.tuple (by decide +kernel) (v := .ty "tuple") rfl) pa_nil))))) (pw_or1 (pt_not (pt_chain op_le op_le pe_int (pe_callB call_len_seq (by rfl) T.len (by decide +kernel) (pa_cons (pv 0) pa_nil)) (C8.pe_gc (by rfl) T.c_MOST_ENTRIES))))))
        (pss_one (ps_ret pe_bl))
        pss_nil)
      (pss_one (ps_ret (pe_callB (cr_all rfl) (by rfl) T.all (by decide +kernel) (pa_cons (pe_lc (own := [("entry", 1)]) (g := gName 1) (by rfl) sc_is_row.nd (pi_tup (pv 0)) (blkOk_by (own := [("entry", 1)]) (N := ["value", "entry"]) (sc := defScope s_is_row) (by decide +kernel)) (fun _ _ _ _ _ => (pg_name (i := 1) sc_is_row.nd rfl (.inl rfl))) (fun _ _ _ _ _ => pts_nil) (fun _ _ _ _ _ => (C8.pe_c c_is_entry hr (by decide) (by rfl) (pa_cons (pv 1) pa_nil)))) pa_nil))))), ?_⟩
  refine ⟨_, rfl, _, _, _, _, true, rfl, .ty "tuple", tyT hS, kit_ty (by decide +kernel), true, rfl, ?_⟩
  refine ⟨_, rfl, a, _, rfl, .inr hS, _, _, rfl, rfl, true, ?_, ?_⟩
  · rw [List.length_map]; exact congrArg V.bl (decide_eq_true (by omega))
  refine iteT ⟨_, _, rfl, rfl, true, ?_, ?_⟩
  · rw [List.length_map]; exact congrArg V.bl (decide_eq_true (by omega))
  refine ⟨_, rfl, a, rfl, ⟨_, hS⟩, fun D hD => ?_⟩
  refine lc_tup (K := K) (a := a) (xs := xs.map V.int) (fun i H' => Ex H H' ∧ H' D = some (.lst ((List.replicate i true).map V.bl))) ⟨Evl.Ex.new hD, upd_same⟩ (fun i H' _ h => Evl.ex_t h.1 hS) ?_ ?_
  · rintro i x H' hx ⟨hE, hH⟩
    have hi : i < xs.length := by
      have := (List.getElem?_eq_some_iff.mp hx).1
      rwa [List.length_map] at this
    obtain ⟨z, hz, rfl⟩ : ∃ z, z ∈ xs ∧ x = .int z := by
      rw [List.getElem?_map] at hx
      cases e : xs[i]? with
      | none => rw [e] at hx; cases hx
      | some z => rw [e] at hx; cases hx; exact ⟨z, List.mem_of_getElem? e, rfl⟩
    refine ⟨rfl, ?_⟩
    dsimp only [tYes]
    rw [if_pos rfl]
    have hz' : H' D = some (.lst ((List.replicate i true).map V.bl)) := hH
    refine ⟨_, rfl, _, rfl, ?_⟩
    rw [decide_eq_true (show -10 ^ 30 ≤ z ∧ z ≤ 10 ^ 30 from hB z hz)]
    refine ⟨_, hz', ?_, Evl.Ex.mut hE hD, ?_⟩
    · rw [List.length_map, List.length_replicate]; exact small1000 (by omega)
    · rw [upd_same, List.replicate_succ', List.map_append]; rfl
  · rintro H' ⟨hE, hH⟩
    refine ⟨D, _, rfl, SqL.of hH, ?_⟩
    have e : (List.replicate (xs.map V.int).length true).all id = true := by
      rw [List.all_eq_true]
      intro b hb
      rw [(List.mem_replicate.mp hb).2]; rfl
    rw [e]
    exact q H' hE
def sp_check_row (K : PySem.W.Frag) : Sp := fun vs H Q _ => ∃ a, ∃ xs : List Int, vs = [.ref a] ∧ SqT K H a (xs.map V.int) ∧ 1 ≤ xs.length ∧ xs.length ≤ 100 ∧ (∀ x ∈ xs, -10 ^ 30 ≤ x ∧ x ≤ 10 ^ 30) ∧ ∀ H', Ex H H' → Q .non H'
theorem ok_check_row {f : Addr} {fd : FuncData} (D : DefAt K mg "check_row" s_check_row ["row"] f fd) (T : Top mg) (c_is_row : C8.Cal P w K mg base 4 "is_row" (sp_is_row K) []) :
    C8.Cal P w K mg base 5 "check_row" (sp_check_row K) [] := by
  refine D.cal sc_check_row (fun vs H Q E h => ?len) fun cdv A outer s H vs Q E hr h => ?body
  case len => obtain ⟨a, xs, rfl, _⟩ := h; rfl
  obtain ⟨a, xs, rfl, hS, h0, h1, hB, q⟩ := h
  refine ⟨_, (pss_one (ps_if (pt_not (pt_val (C8.pe_c c_is_row hr (by decide) (by rfl) (pa_cons (pv 0) pa_nil))))
        (pss_one ps_never)
        pss_nil)), ?_⟩
  refine ⟨_, rfl, a, xs, rfl, hS, h0, h1, hB, fun H' hE => ⟨_, rfl, ?_⟩⟩
  show if (!true) = true then _ else _
  rw [if_neg (by decide)]
  exact q H' hE
def sp_check_rounds (K : PySem.W.Frag) : Sp := fun vs H Q _ => ∃ v, vs = [.int v, .int 0] ∧ 0 ≤ v ∧ v ≤ 10 ^ 30 ∧ Q .non H
theorem fo_check_rounds {f : Addr} {fd : FuncData} (D : DefAtP K mg "check_rounds" s_check_rounds ["rounds", "least"] [.int 0] f fd) (T : Top mg) (c_is_whole : C8.Cal P w K mg base 2 "is_whole" (sp_is_whole K) []) :
    FnOk P w K mg base CX0 3 f fd ["rounds", "least"] (sp_check_rounds K) := by
  refine D.fok sc_check_rounds (fun vs H Q E h => ?len) fun cdv A outer s H vs Q E hr h => ?body
  case len => obtain ⟨v, rfl, _⟩ := h; rfl
  obtain ⟨v, rfl, h0, h1, q⟩ := h
  refine ⟨_, (pss_one (ps_if (pt_not (pt_val (C8.pe_c c_is_whole hr (by decide) (by rfl) (pa_cons (pv 0) (pa_cons (pv 1) (pa_cons (C8.pe_gc (by rfl) T.c_MOST_ROUNDS) pa_nil))))))
        (pss_one ps_never)
        pss_nil)), ?_⟩
  refine ⟨_, rfl, _, rfl, _, _, _, rfl, _, rfl, ?_⟩
  rw [decide_eq_true (show (0 : Int) ≤ v ∧ v ≤ 1000000000000000000000000000000 from ⟨h0, h1⟩)]
  exact q
def sp_all_spans (K : PySem.W.Frag) : Sp := fun vs H Q _ => ∃ a, ∃ xs : List Int, vs = [.ref a] ∧ SqT K H a (xs.map V.int) ∧ xs.length ≤ 200 ∧
  ∀ p H', H p = none → Ex H H' → PT H' p ((spans xs).map V.int) → Q (.ref p) H'
theorem ok_all_spans {f : Addr} {fd : FuncData} (D : DefAt K mg "all_spans" s_all_spans ["row"] f fd) (T : Top mg)  :
    C8.Cal P w K mg base 1 "all_spans" (sp_all_spans K) [] := by
  refine D.cal sc_all_spans (fun vs H Q E h => ?len) fun cdv A outer s H vs Q E hr h => ?body
  case len => obtain ⟨a, xs, rfl, _⟩ := h; rfl
  obtain ⟨a, xs, rfl, hS, hz, q⟩ := h
  refine ⟨_, (pss_cons (ps_set (i := 1) sc_all_spans.nd rfl (.inl rfl) (pe_lst pa_nil))
      (pss_cons (ps_for PassesOwn.never rfl (pi_enumT (by rfl) T.enumerate (pa_cons (pv 0) pa_nil)) (pg_tup rfl (pgs_cons (pg_name (i := 2) sc_all_spans.nd rfl (.inl rfl)) (pgs_cons (pg_name (i := 3) sc_all_spans.nd rfl (.inl rfl)) pgs_nil)))
        (pss_cons (ps_set (i := 4) sc_all_spans.nd rfl (.inl rfl) (pe_op op_sub (pv 2) pe_int))
          (pss_cons (ps_while PassesOwn.never (PW.pt (pw_and (pt_cmpR op_ge (pv 4) pe_int (nomark _)) (pw_and1 (pt_cmpR op_lt (pe_ix ix_tup (pv 0) (pv 4) (fun _ _ => rfl)) (pv 3) (nomark _)))))
            (pss_one (ps_set (i := 4) sc_all_spans.nd rfl (.inl rfl) (pe_op op_sub (pv 4) (pe_ix ix_list (pv 1) (pv 4) (fun _ _ => rfl))))))
          (pss_one (ps_expr (pe_bm PySem.F.plainAttrs_list PySem.F.slot_list_append PySem.F.type_list_append mt_append (pv 1) (pa_cons (pe_op op_sub (pv 2) (pv 4)) pa_nil)))))))
      (pss_one (ps_ret (pe_callTy cr_tupleP (by rfl) T.tuple (by decide +kernel) (pa_cons (pv 1) pa_nil)))))), ?_⟩
  refine ⟨Nat.zero_le _, fun fl hfl => ?_⟩
  have X0 := Evl.Ex.new (o := .lst []) hfl
  refine ⟨_, rfl, a, _, rfl, Evl.ex_t X0 hS, ?_⟩
  refine for_enumT (K := K) (a := a) (xs := xs.map V.int) (fun i σ H' => Ex H H' ∧ H' fl = some (.lst (((spans xs).take i).map V.int)) ∧ ∃ y2 y3 y4 : Option V, σ = [some (.ref a), some (.ref fl), y2, y3, y4])
    ⟨X0, upd_same, _, _, _, rfl⟩ (fun i σ H' h => Evl.ex_t h.1 hS) ?_ ?_
  · rintro i x T' σ H1 hx ⟨X1, hfl1, y2, y3, y4, rfl⟩ hT
    have hi : i < xs.length := by
      have := (List.getElem?_eq_some_iff.mp hx).1
      rwa [List.length_map] at this
    have ex : x = .int (g xs i) := by
      rw [List.getElem?_map, g_get hi] at hx
      exact (Option.some.inj hx).symm
    subst ex
    have X2 := Evl.Ex.new (o := .tup [.int (i : Nat), .int (g xs i)]) hT
    have hS2 := Evl.ex_t (X1.trans X2) hS
    have hfl2 := X2 _ _ hfl1
    refine ⟨T', _, rfl, SqT.of upd_same, rfl, _, _, rfl, _, _, rfl, rfl, ?_⟩
    refine ⟨_, rfl, _, _, rfl, rfl, ?_⟩
    generalize upd H1 T' (.tup [.int (i : Nat), .int (g xs i)]) = H2 at X2 hS2 hfl2 ⊢
    refine ⟨fun m σ H' => H' = H2 ∧ ∃ f : Nat, σ = [some (.ref a), some (.ref fl), some (.int i), some (.int (g xs i)), some (.int ((f : Int) - 1))] ∧ f ≤ i ∧ bk xs (g xs i) f = bk xs (g xs i) i ∧ m = f, ⟨i, rfl, i, rfl, Nat.le_refl _, rfl, rfl⟩, ?_⟩
    rintro m σ H' ⟨rfl, f, rfl, hf, hb, rfl⟩
    refine ⟨_, rfl, _, _, rfl, rfl, _, rfl, ?_⟩
    refine ite2 (fun t => ?inA) fun t => ?inB
    case' inA =>
      have t : (0 : Int) ≤ (m : Int) - 1 := of_decide_eq_true t
      have em : (m : Int) - 1 = ((m - 1 : Nat) : Int) := by omega
      have hat : atI (xs.map V.int) ((m : Int) - 1) = some (.int (g xs (m - 1))) := by rw [em]; exact atN (by omega)
      refine ⟨_, rfl, _, rfl, a, _, _, _, rfl, rfl, hS2, hat, _, rfl, _, _, rfl, rfl, _, rfl, ?_⟩
      refine ite2 (fun t2 => ?inC) fun t2 => ?inD
      case' inC =>
        have t2 : g xs (m - 1) < g xs i := of_decide_eq_true t2
        refine ⟨_, fun _ _ h => h, ?_⟩
        have hat2 : atI (((spans xs).take i).map V.int) ((m : Int) - 1) = some (.int (spn xs (m - 1))) := by
          rw [em, atN (by rw [List.length_take, spans_len]; omega), g_take (by omega), spans_g (by omega)]
        refine ⟨_, rfl, _, rfl, _, rfl, fl, _, _, _, rfl, rfl, SqL.of hfl2, hat2, _, _, rfl, rfl, bk xs (g xs (m - 1)) (m - 1), ?_, rfl, bk xs (g xs (m - 1)) (m - 1), ?_, ?_, ?_, rfl⟩
        · have := bk_le xs (g xs (m - 1)) (m - 1); omega
        · have e5 : (m : Int) - 1 - spn xs (m - 1) = (bk xs (g xs (m - 1)) (m - 1) : Int) - 1 := by unfold spn; omega
          exact congrArg (fun z => [some (V.ref a), some (V.ref fl), some (V.int i), some (V.int (g xs i)), some (V.int z)]) e5
        · have := bk_le xs (g xs (m - 1)) (m - 1); omega
        · rw [← bk_skip t2, show m - 1 + 1 = m by omega]; exact hb
      case' inD =>
        have hm : bk xs (g xs i) m = m := by
          have t2 : ¬ g xs (m - 1) < g xs i := fun h => t2 (decide_eq_true h)
          obtain ⟨k, rfl⟩ : ∃ k, m = k + 1 := ⟨m - 1, by omega⟩
          show (if g xs k < g xs i then bk xs (g xs i) k else k + 1) = k + 1
          rw [if_neg (show ¬ g xs k < g xs i from t2)]
    case' inB =>
      have t : ¬ (0 : Int) ≤ (m : Int) - 1 := fun h => t (decide_eq_true h)
      have hm : bk xs (g xs i) m = m := by
        have e0 : m = 0 := by omega
        rw [e0]; rfl
      refine iteF ?_
    all_goals
      refine ⟨_, rfl, .inl ⟨rfl, _, SqL.of hfl2⟩, _, rfl, _, rfl, _, _, rfl, rfl, fl, _, _, rfl, rfl, hfl2, ?_, ?_⟩
      · rw [List.length_map, List.length_take]; exact small1000 (by omega)
      · refine ⟨Evl.Ex.mut (X1.trans X2) hfl, ?_, _, _, _, rfl⟩
        rw [upd_same, List.take_add_one]
        have hg : (spans xs)[i]? = some ((i : Int) - ((m : Int) - 1)) := by
          rw [g_get (by rw [spans_len]; exact hi), spans_g hi]
          unfold spn
          rw [← hb, hm]
          exact congrArg some (by omega)
        rw [hg, List.map_append]
        rfl
  · rintro σ H1 ⟨X1, hfl1, y2, y3, y4, rfl⟩
    rw [List.length_map, List.take_of_length_le (by rw [spans_len]; exact Nat.le_refl _)] at hfl1
    refine ⟨_, rfl, fl, _, rfl, SqL.of hfl1, fun r ob hr' hc hd => ?_⟩
    exact q r _ (Evl.fresh_back X1 hr') (X1.trans (Evl.Ex.new hr')) ⟨ob, upd_same, hc, hd⟩
def sp_rows_until_still (K : PySem.W.Frag) : Sp := fun vs H Q _ => ∃ a, ∃ xs : List Int, vs = [.ref a] ∧ PT H a (xs.map V.int) ∧ xs.length ≤ 100 ∧
  ∀ p H' n, H p = none → Ex H H' → Nd xs n → n ≤ 10001 → RwsP H' p xs n → Q (.ref p) H'
theorem ok_rows_until_still {f : Addr} {fd : FuncData} (D : DefAt K mg "rows_until_still" s_rows_until_still ["row"] f fd) (T : Top mg) (c_all_spans : C8.Cal P w K mg base 1 "all_spans" (sp_all_spans K) []) :
    C8.Cal P w K mg base 2 "rows_until_still" (sp_rows_until_still K) [] := by
  refine D.cal sc_rows_until_still (fun vs H Q E h => ?len) fun cdv A outer s H vs Q E hr h => ?body
  case len => obtain ⟨a, xs, rfl, _⟩ := h; rfl
  obtain ⟨a, xs, rfl, hS, hz, q⟩ := h
  refine ⟨_, (pss_cons (ps_set (i := 1) sc_rows_until_still.nd rfl (.inl rfl) (pe_lst (pa_cons (pv 0) pa_nil)))
      (pss_cons (ps_set (i := 2) sc_rows_until_still.nd rfl (.inl rfl) (C8.pe_c c_all_spans hr (by decide) (by rfl) (pa_cons (pv 0) pa_nil)))
      (pss_cons (ps_while PassesOwn.never (pt_cmpR (op_neD hr.units) (pv 2) (pe_ix ix_list (pv 1) (pe_un un_neg pe_int) (fun _ _ => rfl)) (nomark _))
        (pss_cons (ps_expr (pe_bm PySem.F.plainAttrs_list PySem.F.slot_list_append PySem.F.type_list_append mt_append (pv 1) (pa_cons (pv 2) pa_nil)))
          (pss_one (ps_set (i := 2) sc_rows_until_still.nd rfl (.inl rfl) (C8.pe_c c_all_spans hr (by decide) (by rfl) (pa_cons (pv 2) pa_nil))))))
      (pss_one (ps_ret (pv 1)))))), ?_⟩
  obtain ⟨n, hn, hnd⟩ := nd_any xs hz
  refine ⟨_, rfl, by show 1 ≤ sizeLine; decide, fun p hp => ?_⟩
  have X0 := Evl.Ex.new (o := .lst [.ref a]) hp
  refine ⟨_, rfl, a, xs, rfl, (hS.ex X0).sq, by omega, fun fl H1 hfl X1 hfl1 => ?_⟩
  refine ⟨fun m σ H' => ∃ k f, k + m = n ∧ Ex H H' ∧ σ = [some (.ref a), some (.ref p), some (.ref f)] ∧ PT H' f ((ro (k + 1) xs).map V.int) ∧ RwsP H' p xs k, ⟨n, 0, fl, by omega, X0.trans X1, rfl, hfl1, ?_⟩, ?_⟩
  · refine ⟨_, X1 _ _ upd_same, rfl, fun j hj => ?_⟩
    have e0 : j = 0 := by omega
    subst e0
    exact ⟨a, rfl, hS.ex (X0.trans X1)⟩
  rintro m σ H2 ⟨k, f, hkm, X2, rfl, hf, vs, hv, hvl, hR⟩
  obtain ⟨b, hb, hbS⟩ := hR k (Nat.le_refl k)
  have hat : atI vs (-1) = some (.ref b) := by
    rw [atI_last hvl]; exact hb
  refine ⟨_, rfl, _, rfl, _, rfl, p, _, _, _, rfl, rfl, SqL.of hv, hat, .tuple ((ro (k + 1) xs).map PyData.int), .tuple ((ro k xs).map PyData.int), .tup hf.sq (dp_ints _), .tup hbS.sq (dp_ints _), shaped_tup _, shaped_tup _, _, rfl, ?_⟩
  rw [eqv_tup]
  by_cases hc : ro (k + 1) xs = ro k xs
  · rw [decide_eq_true hc]
    have hk : k = n := by
      rcases Nat.lt_trichotomy k n with h | h | h
      · exact absurd hc (hnd.least k h)
      · exact h
      · omega
    subst hk
    refine iteF ?_
    refine ⟨_, rfl, ?_⟩
    exact q p H2 k hp X2 hnd hn ⟨vs, hv, hvl, hR⟩
  · rw [decide_eq_false hc]
    have hk : k ≠ n := fun e => hc (by subst e; exact hnd.still)
    refine iteT ?_
    refine ⟨_, fun _ _ h => h, ?_⟩
    refine ⟨_, rfl, .inl ⟨rfl, _, SqL.of hv⟩, _, rfl, p, _, _, rfl, rfl, hv, ?_, ?_⟩
    · rw [hvl]; exact Nat.lt_of_le_of_lt (by omega) (show 10002 < sizeLine by decide)
    have X3 : Ex H (upd H2 p (.lst (vs ++ [.ref f]))) := Evl.Ex.mut X2 hp
    have hf3 : PT (upd H2 p (.lst (vs ++ [.ref f]))) f ((ro (k + 1) xs).map V.int) := hf.mut hv
    refine ⟨_, rfl, f, ro (k + 1) xs, rfl, hf3.sq, by rw [ro_len]; omega, fun f2 H4 hf2 X4 hf4 => ?_⟩
    refine ⟨m - 1, by omega, k + 1, f2, by omega, X3.trans X4, rfl, hf4, ?_⟩
    refine ⟨vs ++ [.ref f], X4 _ _ upd_same, by rw [List.length_append, hvl]; rfl, fun j hj => ?_⟩
    by_cases e : j = k + 1
    · subst e
      refine ⟨f, ?_, hf3.ex X4⟩
      rw [List.getElem?_append_right (by omega), hvl]; simp
    · obtain ⟨b, hb, hbS⟩ := hR j (by omega)
      refine ⟨b, by rw [List.getElem?_append_left (by omega)]; exact hb, ?_⟩
      exact (hbS.mut hv).ex X4
def sp_row_after (K : PySem.W.Frag) : Sp := fun vs H Q _ => ∃ a, ∃ xs : List Int, ∃ m : Int, vs = [.ref a, .int m] ∧ PT H a (xs.map V.int) ∧ Rw xs ∧ 0 ≤ m ∧ m ≤ 10 ^ 30 ∧ ∀ b H', Ex H H' → PT H' b ((ro m.toNat xs).map V.int) → Q (.ref b) H'
theorem ok_row_after {f : Addr} {fd : FuncData} (D : DefAtN K mg "row_after" s_row_after ["row", "rounds"] 1 ["rounds"] f fd) (T : Top mg) (c_check_row : C8.Cal P w K mg base 5 "check_row" (sp_check_row K) []) (cd_check_rounds : C8.Cal P w K mg base 3 "check_rounds" (sp_check_rounds K) [.int 0]) (c_rows_until_still : C8.Cal P w K mg base 2 "rows_until_still" (sp_rows_until_still K) []) :
    CalN P w K mg base 6 "row_after" (sp_row_after K) 1 ["rounds"] := by
  refine D.cal sc_row_after (fun vs H Q E h => ?len) fun cdv A outer s H vs Q E hr h => ?body
  case len => obtain ⟨a, xs, m, rfl, _⟩ := h; rfl
  obtain ⟨a, xs, m, rfl, hS, R, m0, m1, q⟩ := h
  refine ⟨_, (pss_cons (ps_expr (C8.pe_c c_check_row hr (by decide) (by rfl) (pa_cons (pv 0) pa_nil)))
      (pss_cons (ps_expr (C8.pe_c cd_check_rounds hr (by decide) (by rfl) (pa_cons (pv 1) pa_nil)))
      (pss_cons (ps_set (i := 2) sc_row_after.nd rfl (.inl rfl) (C8.pe_c c_rows_until_still hr (by decide) (by rfl) (pa_cons (pv 0) pa_nil)))
      (pss_one (ps_ret (pe_ix ix_list (pv 2) (pe_callB (call_min2 rfl) (by rfl) T.min (by decide +kernel) (pa_cons (pv 1) (pa_cons (pe_op op_sub (pe_callB call_len_seq (by rfl) T.len (by decide +kernel) (pa_cons (pv 2) pa_nil)) pe_int) pa_nil))) (fun _ _ => rfl))))))), ?_⟩
  refine ⟨_, rfl, a, xs, rfl, hS.sq, R.lo, R.hi, R.ok, fun H1 X1 => ?_⟩
  refine ⟨_, rfl, _, rfl, m0, m1, ?_⟩
  refine ⟨_, rfl, a, xs, rfl, hS.ex X1, R.hi, fun p H2 n hp X2 hnd hn hR => ?_⟩
  obtain ⟨vs, hv, hvl, hR⟩ := hR
  have em : (if (vs.length : Int) - 1 < m then (vs.length : Int) - 1 else m) = ((min m.toNat n : Nat) : Int) := by
    rw [hvl]; split <;> omega
  obtain ⟨b, hb, hbS⟩ := hR (min m.toNat n) (Nat.min_le_right _ _)
  have hat : atI vs (if (vs.length : Int) - 1 < m then (vs.length : Int) - 1 else m) = some (.ref b) := by
    rw [em, atI_at (by omega)]; assumption
  refine ⟨_, rfl, _, rfl, _, rfl, p, _, rfl, .inl (SqL.of hv), _, _, rfl, rfl, _, _, rfl, p, _, _, _, rfl, rfl, SqL.of hv, hat, ?_⟩
  refine q b H2 (X1.trans X2) ?_
  rw [ro_far hnd.still]; exact hbS
def sp_rounds_needed (K : PySem.W.Frag) : Sp := fun vs H Q _ => ∃ a, ∃ xs : List Int, vs = [.ref a] ∧ PT H a (xs.map V.int) ∧ Rw xs ∧ ∀ H' n, Ex H H' → Nd xs n → n ≤ 10001 → Q (.int (n : Int)) H'
theorem ok_rounds_needed {f : Addr} {fd : FuncData} (D : DefAt K mg "rounds_needed" s_rounds_needed ["row"] f fd) (T : Top mg) (c_check_row : C8.Cal P w K mg base 5 "check_row" (sp_check_row K) []) (c_rows_until_still : C8.Cal P w K mg base 2 "rows_until_still" (sp_rows_until_still K) []) :
    C8.Cal P w K mg base 6 "rounds_needed" (sp_rounds_needed K) [] := by
  refine D.cal sc_rounds_needed (fun vs H Q E h => ?len) fun cdv A outer s H vs Q E hr h => ?body
  case len => obtain ⟨a, xs, rfl, _⟩ := h; rfl
  obtain ⟨a, xs, rfl, hS, R, q⟩ := h
  refine ⟨_, (pss_cons (ps_expr (C8.pe_c c_check_row hr (by decide) (by rfl) (pa_cons (pv 0) pa_nil)))
      (pss_one (ps_ret (pe_op op_sub (pe_callB call_len_seq (by rfl) T.len (by decide +kernel) (pa_cons (C8.pe_c c_rows_until_still hr (by decide) (by rfl) (pa_cons (pv 0) pa_nil)) pa_nil)) pe_int)))), ?_⟩
  refine ⟨_, rfl, a, xs, rfl, hS.sq, R.lo, R.hi, R.ok, fun H1 X1 => ?_⟩
  refine ⟨_, rfl, a, xs, rfl, hS.ex X1, R.hi, fun p H2 n hp X2 hnd hn hR => ?_⟩
  obtain ⟨vs, hv, hvl, hR⟩ := hR
  refine ⟨p, _, rfl, .inl (SqL.of hv), _, _, rfl, rfl, ?_⟩
  have e : (vs.length : Int) - 1 = (n : Int) := by omega
  show Q (.int ((vs.length : Int) - 1)) H2
  rw [e]
  exact q H2 n (X1.trans X2) hnd hn
def sp_is_block (K : PySem.W.Frag) : Sp := fun vs H Q _ => ∃ r, ∃ e c : Int, vs = [.ref r] ∧ SqT K H r [.int e, .int c] ∧ -10 ^ 30 ≤ e ∧ e ≤ 10 ^ 30 ∧ 1 ≤ c ∧ c ≤ 10 ^ 28 ∧ Q (.bl true) H
theorem ok_is_block {f : Addr} {fd : FuncData} (D : DefAt K mg "is_block" s_is_block ["value"] f fd) (T : Top mg) (c_is_entry : C8.Cal P w K mg base 3 "is_entry" (sp_is_entry K) []) (c_is_whole : C8.Cal P w K mg base 2 "is_whole" (sp_is_whole K) []) :
    C8.Cal P w K mg base 4 "is_block" (sp_is_block K) [] := by
  refine D.cal sc_is_block (fun vs H Q E h => ?len) fun cdv A outer s H vs Q E hr h => ?body
  case len => obtain ⟨r, e, c, rfl, _⟩ := h; rfl
  obtain ⟨r, e, c, rfl, hS, e1, e2, c1, c2, q⟩ := h
  refine ⟨_, (pss_cons (ps_if (PW.pt (pw_or (pt_not (pt_val (pe_callB call_isi (by rfl) T.isinstance (by decide +kernel) (pa_cons (pv 0) (pa_cons (pe_bltn (by rfl) T.tuple (by decide +kernel) (v := .ty "tuple") rfl) pa_nil))))) (pw_or1 (pt_cmpR op_ne (pe_callB call_len_seq (by rfl) T.len (by decide +kernel) (pa_cons (pv 0) pa_nil)) pe_int (nomark _)))))
        (pss_one (ps_ret pe_bl))
        pss_nil)
      (pss_cons (ps_asg (pv 0) (pg_tup rfl (pgs_cons (pg_name (i := 1) sc_is_block.nd rfl (.inl rfl)) (pgs_cons (pg_name (i := 2) sc_is_block.nd rfl (.inl rfl)) pgs_nil))))
      (pss_one (ps_ret (pe_and (C8.pe_c c_is_entry hr (by decide) (by rfl) (pa_cons (pv 1) pa_nil)) (pe_one (C8.pe_c c_is_whole hr (by decide) (by rfl) (pa_cons (pv 2) (pa_cons pe_int (pa_cons (C8.pe_gc (by rfl) T.c_GREATEST_COUNT) pa_nil)))))))))), ?_⟩
  refine ⟨_, rfl, _, _, _, _, true, rfl, .ty "tuple", tyT hS, kit_ty (by decide +kernel), true, rfl, ?_⟩
  refine iteF ⟨_, rfl, r, _, rfl, .inr hS, rfl, _, rfl, iteF ?_⟩
  refine ⟨_, rfl, r, _, rfl, hS, rfl, _, _, rfl, _, _, rfl, rfl, ?_⟩
  refine ⟨_, rfl, e, rfl, ?_⟩
  rw [decide_eq_true (show -10 ^ 30 ≤ e ∧ e ≤ 10 ^ 30 from ⟨e1, e2⟩)]
  refine ⟨true, rfl, iteT ⟨_, rfl, c, 1, 10 ^ 28, rfl, ?_⟩⟩
  rw [decide_eq_true (show 1 ≤ c ∧ c ≤ 10 ^ 28 from ⟨c1, c2⟩)]
  exact q
def sp_is_blocks (K : PySem.W.Frag) : Sp := fun vs H Q _ => ∃ a, ∃ rs : Rn, vs = [.ref a] ∧ PrT K H a rs ∧ Bk rs ∧ ∀ H', Ex H H' → Q (.bl true) H'
theorem ok_is_blocks {f : Addr} {fd : FuncData} (D : DefAt K mg "is_blocks" s_is_blocks ["value"] f fd) (T : Top mg) (c_is_block : C8.Cal P w K mg base 4 "is_block" (sp_is_block K) []) :
    C8.Cal P w K mg base 5 "is_blocks" (sp_is_blocks K) [] := by
  refine D.cal sc_is_blocks (fun vs H Q E h => ?len) fun cdv A outer s H vs Q E hr h => ?body
  case len => obtain ⟨a, rs, rfl, _⟩ := h; rfl
  obtain ⟨a, rs, rfl, ⟨xs, hS, hP⟩, B, q⟩ := h
  refine ⟨_, (pss_cons (ps_if (PW.pt (pw_or (pt_not (pt_val (pe_callB call_isi (by rfl) T.isinstance (by decide +kernel) (pa_cons (pv 0) (pa_cons (pe_bltn (by rfl) T.tuple (by decide +kernel) (v := .ty "tuple") rfl) pa_nil))))) (pw_or1 (pt_not (pt_chain op_le op_le pe_int (pe_callB call_len_seq (by rfl) T.len (by decide +kernel) (pa_cons (pv 0) pa_nil)) (C8.pe_gc (by rfl) T.c_MOST_BLOCKS))))))
        (pss_one (ps_ret pe_bl))
        pss_nil)
      (pss_one (ps_ret (pe_callB (cr_all rfl) (by rfl) T.all (by decide +kernel) (pa_cons (pe_lc (own := [("block", 1)]) (g := gName 1) (by rfl) sc_is_blocks.nd (pi_tup (pv 0)) (blkOk_by (own := [("block", 1)]) (N := ["value", "block"]) (sc := defScope s_is_blocks) (by decide +kernel)) (fun _ _ _ _ _ => (pg_name (i := 1) sc_is_blocks.nd rfl (.inl rfl))) (fun _ _ _ _ _ => pts_nil) (fun _ _ _ _ _ => (C8.pe_c c_is_block hr (by decide) (by rfl) (pa_cons (pv 1) pa_nil)))) pa_nil))))), ?_⟩
  have hl := hP.1
  have b1 := B.lo
  have b2 := B.hi
  refine ⟨_, rfl, _, _, _, _, true, rfl, .ty "tuple", tyT hS, kit_ty (by decide +kernel), true, rfl, ?_⟩
  refine ⟨_, rfl, a, _, rfl, .inr hS, _, _, rfl, rfl, true, congrArg V.bl (decide_eq_true (by omega)), ?_⟩
  refine iteT ⟨_, _, rfl, rfl, true, congrArg V.bl (decide_eq_true (by omega)), ?_⟩
  refine ⟨_, rfl, a, rfl, ⟨_, hS⟩, fun D hD => ?_⟩
  refine lc_tup (K := K) (a := a) (xs := xs) (fun i H' => Ex H H' ∧ H' D = some (.lst ((List.replicate i true).map V.bl))) ⟨Evl.Ex.new hD, upd_same⟩ (fun i H' _ h => Evl.ex_t h.1 hS) ?_ ?_
  · rintro i x H' hx ⟨hE, hH⟩
    obtain ⟨hi, r, rfl, hr⟩ := hP.item hx
    have b := B.ok (g (es rs) i, ct rs i) (List.mem_of_getElem? (rs_at hi))
    refine ⟨rfl, ?_⟩
    dsimp only [tYes]
    rw [if_pos rfl]
    refine ⟨_, rfl, r, _, _, rfl, Evl.ex_t hE hr, b.1, b.2.1, by have := b.2.2.1; omega, by have := b.2.2.2; omega, ?_⟩
    refine ⟨_, hH, ?_, Evl.Ex.mut hE hD, ?_⟩
    · rw [List.length_map, List.length_replicate]; exact small1000 (by omega)
    · rw [upd_same, List.replicate_succ', List.map_append]; rfl
  · rintro H' ⟨hE, hH⟩
    refine ⟨D, _, rfl, SqL.of hH, ?_⟩
    have e : (List.replicate xs.length true).all id = true := by
      rw [List.all_eq_true]
      intro b hb
      rw [(List.mem_replicate.mp hb).2]; rfl
    rw [e]
    exact q H' hE
def sp_check_blocks (K : PySem.W.Frag) : Sp := fun vs H Q _ => ∃ a, ∃ rs : Rn, vs = [.ref a] ∧ PrT K H a rs ∧ Bk rs ∧ ∀ H', Ex H H' → Q .non H'
theorem ok_check_blocks {f : Addr} {fd : FuncData} (D : DefAt K mg "check_blocks" s_check_blocks ["blocks"] f fd) (T : Top mg) (c_is_blocks : C8.Cal P w K mg base 5 "is_blocks" (sp_is_blocks K) []) :
    C8.Cal P w K mg base 6 "check_blocks" (sp_check_blocks K) [] := by
  refine D.cal sc_check_blocks (fun vs H Q E h => ?len) fun cdv A outer s H vs Q E hr h => ?body
  case len => obtain ⟨a, rs, rfl, _⟩ := h; rfl
  obtain ⟨a, rs, rfl, hP, B, q⟩ := h
  refine ⟨_, (pss_one (ps_if (pt_not (pt_val (C8.pe_c c_is_blocks hr (by decide) (by rfl) (pa_cons (pv 0) pa_nil))))
        (pss_one ps_never)
        pss_nil)), ?_⟩
  refine ⟨_, rfl, a, rs, rfl, hP, B, fun H1 X1 => ⟨true, rfl, iteF ?_⟩⟩
  exact q H1 X1
theorem putR_snoc (ini : Rn) (l p : Int × Nat) : putR (ini ++ [l]) p = if l.1 = p.1 then ini ++ [(p.1, l.2 + p.2)] else ini ++ [l] ++ [p] := by
  unfold putR
  rw [List.getLast?_concat]
  simp only [List.dropLast_concat]
theorem mrg_succ {rs : Rn} {i : Nat} (h : i < rs.length) : mrg (rs.take (i + 1)) = putR (mrg (rs.take i)) (g (es rs) i, ct rs i) := by
  rw [take_at h]
  unfold mrg
  rw [List.foldl_append]; rfl
def sp_runs_of (K : PySem.W.Frag) : Sp := fun vs H Q _ => ∃ a, ∃ rs : Rn, vs = [.ref a] ∧ PrA K H a rs ∧ rs.length ≤ 900 ∧ ∀ p H', H p = none → Ex H H' → PrT K H' p (mrg rs) → Q (.ref p) H'
theorem ok_runs_of {f : Addr} {fd : FuncData} (D : DefAt K mg "runs_of" s_runs_of ["blocks"] f fd) (T : Top mg)  :
    C8.Cal P w K mg base 1 "runs_of" (sp_runs_of K) [] := by
  refine D.cal sc_runs_of (fun vs H Q E h => ?len) fun cdv A outer s H vs Q E hr h => ?body
  case len => obtain ⟨a, rs, rfl, _⟩ := h; rfl
  obtain ⟨a, rs, rfl, ⟨xs, hS, hP⟩, hz, q⟩ := h
  refine ⟨_, (pss_cons (ps_set (i := 1) sc_runs_of.nd rfl (.inl rfl) (pe_lst pa_nil))
      (pss_cons (ps_for PassesOwn.never rfl (pi_or (pi_list (pv 0)) (pi_tup (pv 0))) (pg_tup rfl (pgs_cons (pg_name (i := 2) sc_runs_of.nd rfl (.inl rfl)) (pgs_cons (pg_name (i := 3) sc_runs_of.nd rfl (.inl rfl)) pgs_nil)))
        (pss_one (ps_if (PW.pt (pw_and (pt_truth (pv 1) (by intro _; rfl)) (pw_and1 (pt_cmpR op_eq (pe_ix ix_tup (pe_ix ix_list (pv 1) (pe_un un_neg pe_int) (fun _ _ => rfl)) pe_int (fun _ _ => rfl)) (pv 2) (nomark _)))))
            (pss_one (ps_asg (pe_tup (pa_cons (pv 2) (pa_cons (pe_op op_add (pe_ix ix_tup (pe_ix ix_list (pv 1) (pe_un un_neg pe_int) (fun _ _ => rfl)) pe_int (fun _ _ => rfl)) (pv 3)) pa_nil))) (pg_sub (pv 1) (pe_un un_neg pe_int) set_list)))
            (pss_one (ps_expr (pe_bm PySem.F.plainAttrs_list PySem.F.slot_list_append PySem.F.type_list_append mt_append (pv 1) (pa_cons (pe_tup (pa_cons (pv 2) (pa_cons (pv 3) pa_nil))) pa_nil)))))))
      (pss_one (ps_ret (pe_callTy call_tuple_of (by rfl) T.tuple (by decide +kernel) (pa_cons (pv 1) pa_nil)))))), ?_⟩
  refine ⟨Nat.zero_le _, fun fl hfl => ?_⟩
  have X0 := Evl.Ex.new (o := .lst []) hfl
  have hl := hP.1
  have start : Ex H (upd H fl (.lst [])) ∧ ∃ ws, upd H fl (.lst []) fl = some (.lst ws) ∧ Prs K (upd H fl (.lst [])) ws (mrg (rs.take 0)) := ⟨X0, [], upd_same, Prs.nil⟩
  refine hS.elim (fun hL => .inl ⟨_, rfl, a, rfl, ⟨xs, SqL.of (X0 _ _ hL)⟩, for_list (K := K) (a := a) (xs := xs) (fun i σ H' => (Ex H H' ∧ ∃ ws, H' fl = some (.lst ws) ∧ Prs K H' ws (mrg (rs.take i))) ∧ ∃ y2 y3 : Option V, σ = [some (.ref a), some (.ref fl), y2, y3])
      ⟨start, _, _, rfl⟩ (fun i σ H' _ h => SqL.of (h.1.1 _ _ hL)) ?sL ?dL⟩)
    (fun hT => .inr ⟨_, rfl, a, rfl, ⟨xs, Evl.ex_t X0 hT⟩, for_tup (K := K) (a := a) (xs := xs) (fun i σ H' => (Ex H H' ∧ ∃ ws, H' fl = some (.lst ws) ∧ Prs K H' ws (mrg (rs.take i))) ∧ ∃ y2 y3 : Option V, σ = [some (.ref a), some (.ref fl), y2, y3])
      ⟨start, _, _, rfl⟩ (fun i σ H' _ h => Evl.ex_t h.1.1 hT) ?sT ?dT⟩)
  case dL | dT =>
    rintro σ H1 ⟨⟨X1, ws, hw, hW⟩, y2, y3, rfl⟩
    rw [hl, List.take_length] at hW
    refine ⟨_, rfl, fl, _, rfl, .inl ⟨SqL.of hw, fun r hr' => ?_⟩⟩
    exact q r _ (Evl.fresh_back X1 hr') (X1.trans (Evl.Ex.new hr')) ⟨ws, SqT.of upd_same, hW.ex (Evl.Ex.new hr')⟩
  case sL | sT =>
    rintro i x σ H1 hx ⟨⟨X1, ws, hw, hW⟩, y2, y3, rfl⟩
    obtain ⟨hi, r, rfl, hr⟩ := hP.item hx
    have hr1 := Evl.ex_t X1 hr
    refine ⟨r, _, rfl, hr1, rfl, _, _, rfl, _, _, rfl, rfl, ?_⟩
    have hwl : ws.length ≤ 900 := by
      have := hW.1
      have := mrg_len (rs.take i)
      rw [List.length_take] at this
      omega
    -- what an append does
    have app : putR (mrg (rs.take i)) (g (es rs) i, ct rs i) = mrg (rs.take i) ++ [(g (es rs) i, ct rs i)] → ∀ t, H1 t = none →
        Ex H (upd (upd H1 t (.tup [.int (g (es rs) i), .int (ct rs i : Int)])) fl (.lst (ws ++ [.ref t]))) ∧ ∃ ws', (upd (upd H1 t (.tup [.int (g (es rs) i), .int (ct rs i : Int)])) fl (.lst (ws ++ [.ref t]))) fl = some (.lst ws') ∧
          Prs K (upd (upd H1 t (.tup [.int (g (es rs) i), .int (ct rs i : Int)])) fl (.lst (ws ++ [.ref t]))) ws' (mrg (rs.take (i + 1))) := by
      intro e t ht
      have Xt := Evl.Ex.new (o := .tup [.int (g (es rs) i), .int (ct rs i : Int)]) ht
      have hw2 := Xt _ _ hw
      refine ⟨Evl.Ex.mut (X1.trans Xt) hfl, _, upd_same, ?_⟩
      rw [mrg_succ hi, e]
      exact ((hW.ex Xt).mut hw2).snoc (sqT_mut (SqT.of upd_same) hw2)
    rcases List.eq_nil_or_concat (mrg (rs.take i)) with hm | ⟨ini, l, hm⟩
    · have hw0 : ws = [] := List.length_eq_zero_iff.mp (by rw [hW.1, hm]; rfl)
      refine ⟨_, rfl, (!ws.isEmpty), .inl ⟨ws, SqL.of hw, rfl⟩, ?_⟩
      rw [hw0]
      refine iteF ⟨_, rfl, .inl ⟨rfl, _, SqL.of hw⟩, _, rfl, _, rfl, by show 2 ≤ sizeLine; decide, fun t ht => ?_⟩
      have Xt := Evl.Ex.new (o := .tup [.int (g (es rs) i), .int (ct rs i : Int)]) ht
      refine ⟨fl, _, _, rfl, rfl, Xt _ _ hw, ?_, ?_⟩
      · exact small1000 (by omega)
      · exact ⟨app (by rw [hm]; rfl) t ht, _, _, rfl⟩
    · rw [List.concat_eq_append] at hm
      have hW2 := hW
      rw [hm] at hW2
      have hne : ws.isEmpty = false := by
        have := hW2.1
        rw [List.length_append] at this
        cases ws with
        | nil => simp at this
        | cons _ _ => rfl
      obtain ⟨r', hr', hS'⟩ := hW2.last
      refine ⟨_, rfl, (!ws.isEmpty), .inl ⟨ws, SqL.of hw, rfl⟩, ?_⟩
      rw [hne]
      refine iteT ⟨_, rfl, _, rfl, fl, _, _, _, rfl, rfl, SqL.of hw, hr', r', _, _, _, rfl, rfl, hS', rfl, _, rfl, rfl, _, rfl, ?_⟩
      refine ite2 (fun t => ?_) fun t => ?_
      · have t : l.1 = g (es rs) i := V.int.inj (of_decide_eq_true t)
        refine ⟨_, rfl, _, rfl, _, rfl, fl, _, _, _, rfl, rfl, SqL.of hw, hr', r', _, _, _, rfl, rfl, hS', rfl, _, rfl, _, _, rfl, rfl, by show 2 ≤ sizeLine; decide, fun tt' ht => ?_⟩
        have Xt := Evl.Ex.new (o := .tup [.int (g (es rs) i), .int ((l.2 : Int) + (ct rs i : Int))]) ht
        have hw2 := Xt _ _ hw
        have hwl2 : ws.length = ini.length + 1 := by rw [hW2.1, List.length_append]; rfl
        refine ⟨_, rfl, _, rfl, fl, _, _, ini.length, rfl, rfl, hw2, ?_, ?_⟩
        · unfold ixN
          rw [if_neg (by decide), if_pos (by omega), hwl2]
          congr 1
          omega
        · refine ⟨⟨Evl.Ex.mut (X1.trans Xt) hfl, _, upd_same, ?_⟩, _, _, rfl⟩
          rw [mrg_succ hi, hm, putR_snoc, if_pos t]
          exact ((hW2.ex Xt).mut hw2).setlast (sqT_mut (SqT.of (by rw [upd_same]; rfl)) hw2)
      · have t : ¬ l.1 = g (es rs) i := fun e => t (decide_eq_true (congrArg V.int e))
        refine ⟨_, rfl, .inl ⟨rfl, _, SqL.of hw⟩, _, rfl, _, rfl, by show 2 ≤ sizeLine; decide, fun t' ht => ?_⟩
        have Xt := Evl.Ex.new (o := .tup [.int (g (es rs) i), .int (ct rs i : Int)]) ht
        refine ⟨fl, _, _, rfl, rfl, Xt _ _ hw, ?_, ?_⟩
        · exact small1000 (by omega)
        · exact ⟨app (by rw [hm, putR_snoc, if_neg t]) t' ht, _, _, rfl⟩
/-- the stack behind so many runs: those that can still hinder, each with where it ends -/
inductive Stk (rs : Rn) : Nat → Rn → Prop where
  | nil : Stk rs 0 []
  | push {k : Nat} {l : Rn} (h : k < rs.length) (s : Stk rs (bk (es rs) (g (es rs) k) k) l) : Stk rs (k + 1) (l ++ [(g (es rs) k, tt rs (k + 1))])
theorem Stk.len {rs : Rn} : ∀ {k : Nat} {l : Rn}, Stk rs k l → l.length ≤ k
  | _, _, .nil => Nat.le_refl _
  | _, _, .push (k := k) h s => by
    have := s.len
    have := bk_le (es rs) (g (es rs) k) k
    rw [List.length_append]
    show _ + 1 ≤ _
    omega
def sp_runs_after_round (K : PySem.W.Frag) : Sp := fun vs H Q _ => ∃ a, ∃ rs : Rn, vs = [.ref a] ∧ PrT K H a rs ∧ rs.length ≤ 400 ∧ ∀ p H', H p = none → Ex H H' → PrT K H' p (mrg (turn rs)) → Q (.ref p) H'
theorem ok_runs_after_round {f : Addr} {fd : FuncData} (D : DefAt K mg "runs_after_round" s_runs_after_round ["runs"] f fd) (T : Top mg) (c_runs_of : C8.Cal P w K mg base 1 "runs_of" (sp_runs_of K) []) :
    C8.Cal P w K mg base 2 "runs_after_round" (sp_runs_after_round K) [] := by
  refine D.cal sc_runs_after_round (fun vs H Q E h => ?len) fun cdv A outer s H vs Q E hr h => ?body
  case len => obtain ⟨a, rs, rfl, _⟩ := h; rfl
  obtain ⟨a, rs, rfl, ⟨xs, hS, hP⟩, hz, q⟩ := h
  refine ⟨_, (pss_cons (ps_set (i := 1) sc_runs_after_round.nd rfl (.inl rfl) (pe_lst pa_nil))
      (pss_cons (ps_set (i := 2) sc_runs_after_round.nd rfl (.inl rfl) (pe_lst pa_nil))
      (pss_cons (ps_set (i := 3) sc_runs_after_round.nd rfl (.inl rfl) pe_int)
      (pss_cons (ps_for PassesOwn.never rfl (pi_tup (pv 0)) (pg_tup rfl (pgs_cons (pg_name (i := 4) sc_runs_after_round.nd rfl (.inl rfl)) (pgs_cons (pg_name (i := 5) sc_runs_after_round.nd rfl (.inl rfl)) pgs_nil)))
        (pss_cons (ps_while PassesOwn.never (PW.pt (pw_and (pt_truth (pv 2) (by intro _; rfl)) (pw_and1 (pt_cmpR op_lt (pe_ix ix_tup (pe_ix ix_list (pv 2) (pe_un un_neg pe_int) (fun _ _ => rfl)) pe_int (fun _ _ => rfl)) (pv 4) (nomark _)))))
            (pss_one (ps_expr (pe_bm0 PySem.F.plainAttrs_list PySem.F.slot_list_pop PySem.F.type_list_pop mt_pop (pv 2)))))
          (pss_cons (ps_set (i := 6) sc_runs_after_round.nd rfl (.inl rfl) (pe_ifExp (pt_truth (pv 2) (by intro _; rfl)) (pe_ix ix_tup (pe_ix ix_list (pv 2) (pe_un un_neg pe_int) (fun _ _ => rfl)) pe_int (fun _ _ => rfl)) pe_int))
          (pss_cons (ps_expr (pe_bm PySem.F.plainAttrs_list PySem.F.slot_list_append PySem.F.type_list_append mt_append (pv 1) (pa_cons (pe_tup (pa_cons (pe_op op_add (pe_op op_sub (pv 3) (pv 6)) pe_int) (pa_cons pe_int pa_nil))) pa_nil)))
          (pss_cons (ps_if (pt_cmpR op_gt (pv 5) pe_int (nomark _))
            (pss_one (ps_expr (pe_bm PySem.F.plainAttrs_list PySem.F.slot_list_append PySem.F.type_list_append mt_append (pv 1) (pa_cons (pe_tup (pa_cons pe_int (pa_cons (pe_op op_sub (pv 5) pe_int) pa_nil))) pa_nil))))
            pss_nil)
          (pss_cons (ps_set (i := 3) sc_runs_after_round.nd rfl (.inl rfl) (pe_op op_add (pv 3) (pv 5)))
          (pss_one (ps_expr (pe_bm PySem.F.plainAttrs_list PySem.F.slot_list_append PySem.F.type_list_append mt_append (pv 2) (pa_cons (pe_tup (pa_cons (pv 4) (pa_cons (pv 3) pa_nil))) pa_nil))))))))))
      (pss_one (ps_ret (C8.pe_c c_runs_of hr (by decide) (by rfl) (pa_cons (pv 1) pa_nil)))))))), ?_⟩
  refine ⟨Nat.zero_le _, fun fl hfl => ⟨Nat.zero_le _, fun st hst => ?_⟩⟩
  have X0 := Evl.Ex.new (o := .lst []) hfl
  have X1 := Evl.Ex.new (o := .lst []) hst
  have hst0 : H st = none := Evl.fresh_back X0 hst
  have nfs : fl ≠ st := ne_of_none upd_same hst
  have hl := hP.1
  refine ⟨_, rfl, a, rfl, ⟨xs, Evl.ex_t (X0.trans X1) hS⟩, ?_⟩
  refine for_tup (K := K) (a := a) (xs := xs) (fun i σ H' => (Ex H H' ∧ (∃ ws, H' fl = some (.lst ws) ∧ Prs K H' ws (pat (vR rs) (ct rs) i)) ∧ ∃ ss l, H' st = some (.lst ss) ∧ Prs K H' ss l ∧ Stk rs i l) ∧ ∃ y4 y5 y6 : Option V, σ = [some (.ref a), some (.ref fl), some (.ref st), some (.int (tt rs i : Int)), y4, y5, y6])
    ⟨⟨X0.trans X1, ⟨[], by rw [upd_ne nfs, upd_same], Prs.nil⟩, [], [], upd_same, Prs.nil, .nil⟩, _, _, _, rfl⟩ (fun i σ H' _ h => Evl.ex_t h.1.1 hS) ?_ ?_
  · rintro i x σ H1 hx ⟨⟨X1, ⟨ws, hw, hW⟩, ss, l, hs, hSt, hK⟩, y4, y5, y6, rfl⟩
    obtain ⟨hi, r, rfl, hr⟩ := hP.item hx
    refine ⟨r, _, rfl, Evl.ex_t X1 hr, rfl, _, _, rfl, _, _, rfl, rfl, ?_⟩
    have hwl : ws.length ≤ 800 := by
      have := hW.1
      have := pat_len (vR rs) (ct rs) i
      omega
    refine ⟨fun m σ H' => Ex H H' ∧ H' fl = some (.lst ws) ∧ Prs K H' ws (pat (vR rs) (ct rs) i) ∧ (∃ ss l, H' st = some (.lst ss) ∧ Prs K H' ss l ∧ Stk rs m l) ∧ m ≤ i ∧ bk (es rs) (g (es rs) i) m = bk (es rs) (g (es rs) i) i ∧ σ = [some (.ref a), some (.ref fl), some (.ref st), some (.int (tt rs i : Int)), some (.int (g (es rs) i)), some (.int (ct rs i : Int)), y6],
      ⟨i, X1, hw, hW, ⟨ss, l, hs, hSt, hK⟩, Nat.le_refl _, rfl, rfl⟩, ?_⟩
    clear hW hSt hs hK X1 hw
    rintro m σ H2 ⟨X2, hw, hW, ⟨ss, l, hs, hSt, hK⟩, hm, hb, rfl⟩
    -- what is done behind the loop
    have behind : ∀ v, v = vR rs i → ∀ t1, H2 t1 = none → ∀ H3, H3 = upd (upd H2 t1 (.tup [.int v, .int 1])) fl (.lst (ws ++ [.ref t1])) →
        Ex H H3 ∧ (∃ ws', ws'.length ≤ 801 ∧ H3 fl = some (.lst ws') ∧ Prs K H3 ws' (pat (vR rs) (ct rs) i ++ [(vR rs i, 1)])) ∧ H3 st = some (.lst ss) ∧ Prs K H3 ss l := by
      rintro v rfl t1 ht1 H3 rfl
      have Xt := Evl.Ex.new (o := .tup [.int (vR rs i), .int 1]) ht1
      have hw2 := Xt _ _ hw
      refine ⟨Evl.Ex.mut (X2.trans Xt) hfl, ⟨_, ?_, upd_same, ((hW.ex Xt).mut hw2).snoc (sqT_mut (SqT.of upd_same) hw2)⟩, ?_, (hSt.ex Xt).mut hw2⟩
      · rw [List.length_append]; show _ + 1 ≤ _; omega
      · rw [upd_ne nfs.symm]; exact Xt _ _ hs
    have push : ∀ H3, Ex H H3 → H3 st = some (.lst ss) → Prs K H3 ss l → (∀ ws', H3 fl = some (.lst ws') → Prs K H3 ws' (pat (vR rs) (ct rs) (i + 1)) →
        bk (es rs) (g (es rs) i) i = m → ∀ t3, H3 t3 = none → ∀ H4, H4 = upd (upd H3 t3 (.tup [.int (g (es rs) i), .int ((tt rs i : Int) + (ct rs i : Int))])) st (.lst (ss ++ [.ref t3])) →
        (Ex H H4 ∧ (∃ ws, H4 fl = some (.lst ws) ∧ Prs K H4 ws (pat (vR rs) (ct rs) (i + 1))) ∧ ∃ ss l, H4 st = some (.lst ss) ∧ Prs K H4 ss l ∧ Stk rs (i + 1) l)) := by
      rintro H3 X3 hs3 hSt3 ws' hw3 hW3 hbm t3 ht3 H4 rfl
      have Xt := Evl.Ex.new (o := .tup [.int (g (es rs) i), .int ((tt rs i : Int) + (ct rs i : Int))]) ht3
      have hs4 := Xt _ _ hs3
      refine ⟨Evl.Ex.mut (X3.trans Xt) hst0, ⟨ws', by rw [upd_ne nfs]; exact Xt _ _ hw3, (hW3.ex Xt).mut hs4⟩, _, l ++ [(g (es rs) i, tt rs (i + 1))], upd_same, ?_, .push hi (by rw [hbm]; exact hK)⟩
      refine ((hSt3.ex Xt).mut hs4).snoc (sqT_mut (SqT.of ?_) hs4)
      rw [upd_same, tt_succ hi]; rfl
    have key : (l = [] ∧ m = 0) ∨ ∃ k l0, m = k + 1 ∧ l = l0 ++ [(g (es rs) k, tt rs (k + 1))] ∧ k < rs.length ∧ Stk rs (bk (es rs) (g (es rs) k) k) l0 := by
      cases hK with
      | nil => exact .inl ⟨rfl, rfl⟩
      | push h s => exact .inr ⟨_, _, rfl, rfl, h, s⟩
    have hsl : ss.length ≤ 400 := by
      have := hSt.1
      have := hK.len
      omega
    refine ⟨_, rfl, (!ss.isEmpty), .inl ⟨ss, SqL.of hs, rfl⟩, ?_⟩
    rcases key with ⟨hl0, hm0⟩ | ⟨k, l0, hmk, hlk, hk, hK0⟩
    case' inl =>
      have hss : ss.isEmpty = true := by
        have : ss = [] := List.length_eq_zero_iff.mp (by rw [hSt.1, hl0]; rfl)
        rw [this]; rfl
      have hbm : bk (es rs) (g (es rs) i) i = m := by rw [← hb, hm0]; rfl
      rw [hss]
      refine iteF ?_
      refine ⟨_, rfl, (!ss.isEmpty), .inl ⟨ss, SqL.of hs, rfl⟩, ?_⟩
      rw [hss]
      refine iteF ?_
      rw [show V.int 0 = V.int ((tt rs m : Nat) : Int) by rw [hm0]; rfl]
    case' inr =>
      have hSt2 := hSt
      rw [hlk] at hSt2
      have hss : ss.isEmpty = false := by
        have := hSt2.1
        rw [List.length_append] at this
        cases ss with
        | nil => simp at this
        | cons _ _ => rfl
      obtain ⟨r', hr', hS'⟩ := hSt2.last
      rw [hss]
      refine iteT ⟨_, rfl, _, rfl, st, _, _, _, rfl, rfl, SqL.of hs, hr', r', _, _, _, rfl, rfl, hS', rfl, _, rfl, _, _, rfl, rfl, _, rfl, ?_⟩
      refine ite2 (fun t => ?inC) fun t => ?inD
    case inC =>
      have t : g (es rs) k < g (es rs) i := of_decide_eq_true t
      refine ⟨_, fun _ _ h => h, ?_⟩
      obtain ⟨hi0, r0, hr0, _⟩ := hSt2.init
      refine ⟨_, rfl, .inl ⟨rfl, _, SqL.of hs⟩, st, _, _, rfl, rfl, hs, hr0, ?_⟩
      have hbk := bk_le (es rs) (g (es rs) k) k
      refine ⟨bk (es rs) (g (es rs) k) k, by omega, Evl.Ex.mut X2 hst0, by rw [upd_ne nfs]; exact hw, hW.mut hs, ⟨_, l0, upd_same, hi0.mut hs, hK0⟩, by omega, ?_, rfl⟩
      rw [← hb, hmk, bk_skip t]
    case' inD =>
      have hbm : bk (es rs) (g (es rs) i) i = m := by
        have t : ¬ g (es rs) k < g (es rs) i := fun e => t (decide_eq_true e)
        rw [← hb, hmk]
        show (if g (es rs) k < g (es rs) i then bk (es rs) (g (es rs) i) k else k + 1) = k + 1
        rw [if_neg t]
      refine ⟨_, rfl, (!ss.isEmpty), .inl ⟨ss, SqL.of hs, rfl⟩, ?_⟩
      rw [hss]
      refine iteT ⟨_, rfl, _, rfl, st, _, _, _, rfl, rfl, SqL.of hs, hr', r', _, _, _, rfl, rfl, hS', rfl, ?_⟩
      rw [show V.int (((g (es rs) k, tt rs (k + 1)) : Int × Nat).2 : Int) = V.int ((tt rs m : Nat) : Int) by rw [hmk]]
    all_goals
      refine ⟨_, rfl, .inl ⟨rfl, _, SqL.of hw⟩, _, rfl, _, rfl, _, _, rfl, rfl, _, _, rfl, rfl, by show 2 ≤ sizeLine; decide, fun t1 ht1 => ?_⟩
      have Xt := Evl.Ex.new (o := .tup [.int ((tt rs i : Int) - (tt rs m : Int) + 1), .int 1]) ht1
      refine ⟨fl, _, _, rfl, rfl, Xt _ _ hw, small1000 (by omega), ?_⟩
      obtain ⟨X3, ⟨ws', hl', hw3, hW3⟩, hs3, hSt3⟩ := behind ((tt rs i : Int) - (tt rs m : Int) + 1) (by unfold vR; rw [hbm]) t1 ht1 _ rfl
      generalize upd (upd H2 t1 (.tup [.int ((tt rs i : Int) - (tt rs m : Int) + 1), .int 1])) fl (.lst (ws ++ [.ref t1])) = H3 at X3 hw3 hW3 hs3 hSt3 ⊢
      refine ⟨_, rfl, _, _, rfl, rfl, _, rfl, ?_⟩
      refine iteJ (c := decide ((ct rs i : Int) > 1) = true) (fun σ H' => Ex H H' ∧ (∃ ws', H' fl = some (.lst ws') ∧ Prs K H' ws' (pat (vR rs) (ct rs) (i + 1))) ∧ H' st = some (.lst ss) ∧ Prs K H' ss l ∧ σ = [some (.ref a), some (.ref fl), some (.ref st), some (.int (tt rs i : Int)), some (.int (g (es rs) i)), some (.int (ct rs i : Int)), some (.int (tt rs m : Int))]) ?_ ?_ (fun hc => ?_)
      rotate_left
      · intro k' hc
        have hc : (1 : Int) < (ct rs i : Int) := of_decide_eq_true hc
        refine ⟨_, rfl, .inl ⟨rfl, _, SqL.of hw3⟩, _, rfl, _, _, rfl, rfl, by show 2 ≤ sizeLine; decide, fun t2 ht2 => ?_⟩
        have Xt2 := Evl.Ex.new (o := .tup [.int 1, .int ((ct rs i : Int) - 1)]) ht2
        have hw4 := Xt2 _ _ hw3
        refine ⟨fl, _, _, rfl, rfl, hw4, small1000 (by omega), k' _ _ ⟨Evl.Ex.mut (X3.trans Xt2) hfl, ⟨_, upd_same, ?_⟩, by rw [upd_ne nfs.symm]; exact Xt2 _ _ hs3, (hSt3.ex Xt2).mut hw4, rfl⟩⟩
        rw [pat_succ, if_pos (by omega), show pat (vR rs) (ct rs) i ++ [(vR rs i, 1), (1, ct rs i - 1)] = (pat (vR rs) (ct rs) i ++ [(vR rs i, 1)]) ++ [(1, ct rs i - 1)] by rw [List.append_assoc]; rfl]
        refine ((hW3.ex Xt2).mut hw4).snoc (sqT_mut (SqT.of ?_) hw4)
        rw [upd_same]
        unfold pV
        rw [show (((1, ct rs i - 1) : Int × Nat).2 : Int) = (ct rs i : Int) - 1 by show ((ct rs i - 1 : Nat) : Int) = _; omega]
      · refine ⟨X3, ⟨ws', hw3, ?_⟩, hs3, hSt3, rfl⟩
        have hc : ¬ (1 : Int) < (ct rs i : Int) := fun e => hc (decide_eq_true e)
        rw [pat_succ, if_neg (by omega)]
        exact hW3
      · rintro σ H4 ⟨X4, ⟨ws4, hw4, hW4⟩, hs4, hSt4, rfl⟩
        refine ⟨_, rfl, _, rfl, _, _, rfl, rfl, ?_⟩
        refine ⟨_, rfl, .inl ⟨rfl, _, SqL.of hs4⟩, _, rfl, _, rfl, by show 2 ≤ sizeLine; decide, fun t3 ht3 => ?_⟩
        have Xt3 := Evl.Ex.new (o := .tup [.int (g (es rs) i), .int ((tt rs i : Int) + (ct rs i : Int))]) ht3
        refine ⟨st, _, _, rfl, rfl, Xt3 _ _ hs4, small1000 (by omega), push H4 X4 hs4 hSt4 ws4 hw4 hW4 hbm t3 ht3 _ rfl, some (.int (g (es rs) i)), some (.int (ct rs i : Int)), some (.int (tt rs m : Int)), ?_⟩
        rw [tt_succ hi]; rfl
  · rintro σ H1 ⟨⟨X1, ⟨ws, hw, hW⟩, _⟩, y4, y5, y6, rfl⟩
    rw [hl] at hW
    refine ⟨_, rfl, fl, turn rs, rfl, ⟨ws, .inl hw, hW⟩, ?_, fun p H2 hp X2 hp2 => ?_⟩
    · have := pat_len (vR rs) (ct rs) rs.length
      unfold turn
      omega
    · exact q p H2 (Evl.fresh_back X1 hp) (X1.trans X2) hp2
theorem Cn.next {rs R : Rn} (hp : ∀ p ∈ rs, 1 ≤ p.2) {k : Nat} (hc : Cn R) (hx : xpn R = ro k (xpn rs)) : Cn (mrg (turn R)) ∧ xpn (mrg (turn R)) = ro (k + 1) (xpn rs) :=
  ⟨Cn.mrg (pat_pos _ _ _), by rw [xpn_mrg, xpn_turn hc.all, hx]; rfl⟩
def sp_played (K : PySem.W.Frag) : Sp := fun vs H Q _ => ∃ a, ∃ rs : Rn, ∃ v : Int, vs = [.ref a, .int v] ∧ PrT K H a rs ∧ Bk rs ∧ 0 ≤ v ∧
  ∀ n p r R H', Nd (xpn rs) n → H p = none → Ex H H' → H' p = some (.tup [.ref r, .int ((min v.toNat n : Nat) : Int)]) → PrT K H' r R → Cn R → xpn R = ro (min v.toNat n) (xpn rs) → Q (.ref p) H'
theorem ok_played {f : Addr} {fd : FuncData} (D : DefAt K mg "played" s_played ["blocks", "rounds"] f fd) (T : Top mg) (c_runs_of : C8.Cal P w K mg base 1 "runs_of" (sp_runs_of K) []) (c_runs_after_round : C8.Cal P w K mg base 2 "runs_after_round" (sp_runs_after_round K) []) :
    C8.Cal P w K mg base 3 "played" (sp_played K) [] := by
  refine D.cal sc_played (fun vs H Q E h => ?len) fun cdv A outer s H vs Q E hr h => ?body
  case len => obtain ⟨a, rs, v, rfl, _⟩ := h; rfl
  obtain ⟨a, rs, v, rfl, hP, B, hv, q⟩ := h
  refine ⟨_, (pss_cons (ps_set (i := 2) sc_played.nd rfl (.inl rfl) (C8.pe_c c_runs_of hr (by decide) (by rfl) (pa_cons (pv 0) pa_nil)))
      (pss_cons (ps_set (i := 3) sc_played.nd rfl (.inl rfl) pe_int)
      (pss_cons (ps_while PassesOwn.never (pt_cmpR op_lt (pv 3) (pv 1) (nomark _))
        (pss_cons (ps_set (i := 4) sc_played.nd rfl (.inl rfl) (C8.pe_c c_runs_after_round hr (by decide) (by rfl) (pa_cons (pv 2) pa_nil)))
          (pss_cons (ps_if (pt_cmpR (op_eqD hr.units) (pv 4) (pv 2) (nomark _))
            (pss_one ps_break)
            pss_nil)
          (pss_cons (ps_set (i := 2) sc_played.nd rfl (.inl rfl) (pv 4))
          (pss_one (ps_set (i := 3) sc_played.nd rfl (.inl rfl) (pe_op op_add (pv 3) pe_int)))))))
      (pss_one (ps_ret (pe_tup (pa_cons (pv 2) (pa_cons (pv 3) pa_nil)))))))), ?_⟩
  obtain ⟨n, hn⟩ := nd_ex (xpn rs)
  have b2 := B.hi
  obtain ⟨xs, hS, hX⟩ := hP
  refine ⟨_, rfl, a, rs, rfl, ⟨xs, .inr hS, hX⟩, by omega, fun p0 H1 hp0 X1 hP1 => ?_⟩
  refine ⟨fun m σ H' => ∃ k r R, k + m = n ∧ Ex H H' ∧ (k : Int) ≤ v ∧ PrT K H' r R ∧ Cn R ∧ xpn R = ro k (xpn rs) ∧ ∃ y4 : Option V, σ = [some (.ref a), some (.int v), some (.ref r), some (.int (k : Int)), y4],
    ⟨n, 0, p0, _, by omega, X1, by omega, hP1, Cn.mrg B.pos, by rw [xpn_mrg]; rfl, _, rfl⟩, ?_⟩
  rintro m σ H2 ⟨k, r, R, hkm, X2, hkv, hR, hc, hx, y4, rfl⟩
  have fin : ∀ (H3 : Hp) (k : Nat) (r : Addr) (R : Rn), Ex H H3 → k = min v.toNat n → PrT K H3 r R → Cn R → xpn R = ro k (xpn rs) → ∀ t, H3 t = none → Q (.ref t) (upd H3 t (.tup [.ref r, .int (k : Int)])) := by
    rintro H3 k r R X3 rfl hR hc hx t ht
    have Xt := Evl.Ex.new (o := .tup [.ref r, .int ((min v.toNat n : Nat) : Int)]) ht
    exact q n t r R _ hn (Evl.fresh_back X3 ht) (X3.trans Xt) upd_same (hR.ex Xt) hc hx
  refine ⟨_, rfl, _, rfl, _, _, rfl, rfl, _, rfl, ite2 (fun t => ?_) fun t => ?_⟩
  · have t : (k : Int) < v := of_decide_eq_true t
    have few := runs_few B.pos hc hx
    refine ⟨_, fun _ _ h => h, ?_⟩
    refine ⟨_, rfl, r, R, rfl, hR, by omega, fun p3 H3 hp3 X3 hP3 => ?_⟩
    obtain ⟨hcn, hxn⟩ := Cn.next B.pos hc hx
    obtain ⟨ys, hys, hyP⟩ := hP3
    obtain ⟨zs, hzs, hzP⟩ := hR.ex X3
    refine ⟨_, rfl, _, rfl, .tuple ((mrg (turn R)).map pD), .tuple (R.map pD), .tup hys hyP.dp, .tup hzs hzP.dp, shaped_prs _, shaped_prs _, _, rfl, ?_⟩
    rw [eqv_prs]
    by_cases e : mrg (turn R) = R
    · rw [decide_eq_true e]
      refine iteT ?_
      have hst : spans (ro k (xpn rs)) = ro k (xpn rs) := by
        have := hxn
        rw [e, hx] at this
        exact this.symm
      have hk : k = n := by
        rcases Nat.lt_trichotomy k n with h | h | h
        · exact absurd hst (hn.least k h)
        · exact h
        · omega
      refine ⟨_, rfl, _, rfl, by show 2 ≤ sizeLine; decide, fun t ht => ?_⟩
      exact fin H3 k r R (X2.trans X3) (by omega) ⟨zs, hzs, hzP⟩ hc hx t ht
    · rw [decide_eq_false e]
      refine iteF ?_
      have hk : k < n := by
        rcases Nat.lt_or_ge k n with h | h
        · exact h
        · have hkn : k = n := by omega
          exfalso
          apply e
          refine Cn.uniq hcn hc ?_
          rw [hxn, hx, hkn]
          exact hn.still
      refine ⟨_, rfl, _, rfl, _, _, rfl, rfl, m - 1, by omega, k + 1, p3, _, by omega, X2.trans X3, by omega, ⟨ys, hys, hyP⟩, hcn, hxn, some (.ref p3), rfl⟩
  · have t : ¬ (k : Int) < v := fun e => t (decide_eq_true e)
    refine ⟨_, rfl, _, rfl, by show 2 ≤ sizeLine; decide, fun t' ht => ?_⟩
    exact fin H2 k r R X2 (by omega) hR hc hx t' ht
def sp_long_after (K : PySem.W.Frag) : Sp := fun vs H Q _ => ∃ a, ∃ rs : Rn, ∃ v : Int, vs = [.ref a, .int v] ∧ PrT K H a rs ∧ Bk rs ∧ 0 ≤ v ∧ v ≤ 10 ^ 30 ∧
  ∀ r R H', Ex H H' → PrT K H' r R → Cn R → xpn R = ro v.toNat (xpn rs) → Q (.ref r) H'
theorem ok_long_after {f : Addr} {fd : FuncData} (D : DefAtN K mg "long_after" s_long_after ["blocks", "rounds"] 1 ["rounds"] f fd) (T : Top mg) (c_check_blocks : C8.Cal P w K mg base 6 "check_blocks" (sp_check_blocks K) []) (cd_check_rounds : C8.Cal P w K mg base 3 "check_rounds" (sp_check_rounds K) [.int 0]) (c_played : C8.Cal P w K mg base 3 "played" (sp_played K) []) :
    CalN P w K mg base 7 "long_after" (sp_long_after K) 1 ["rounds"] := by
  refine D.cal sc_long_after (fun vs H Q E h => ?len) fun cdv A outer s H vs Q E hr h => ?body
  case len => obtain ⟨a, rs, v, rfl, _⟩ := h; rfl
  obtain ⟨a, rs, v, rfl, hP, B, v0, v1, q⟩ := h
  refine ⟨_, (pss_cons (ps_expr (C8.pe_c c_check_blocks hr (by decide) (by rfl) (pa_cons (pv 0) pa_nil)))
      (pss_cons (ps_expr (C8.pe_c cd_check_rounds hr (by decide) (by rfl) (pa_cons (pv 1) pa_nil)))
      (pss_one (ps_ret (pe_ix ix_tup (C8.pe_c c_played hr (by decide) (by rfl) (pa_cons (pv 0) (pa_cons (pv 1) pa_nil))) pe_int (fun _ _ => rfl)))))), ?_⟩
  refine ⟨_, rfl, a, rs, rfl, hP, B, fun H1 X1 => ?_⟩
  refine ⟨_, rfl, v, rfl, v0, v1, ?_⟩
  refine ⟨_, rfl, _, rfl, a, rs, v, rfl, hP.ex X1, B, v0, fun n p r R H2 hn _ X2 hp hR hc hx => ?_⟩
  refine ⟨p, _, _, _, rfl, rfl, SqT.of hp, rfl, ?_⟩
  exact q r R H2 (X1.trans X2) hR hc (by rw [hx, ← ro_far hn.still])
theorem cnt_le : ∀ {rs : Rn}, (∀ p ∈ rs, p.2 ≤ 10 ^ 28) → (xpn rs).length ≤ 10 ^ 28 * rs.length
  | [], _ => Nat.zero_le _
  | p :: rs, h => by
    have h1 := h p (List.mem_cons_self ..)
    have h2 := cnt_le (rs := rs) fun q hq => h q (List.mem_cons_of_mem _ hq)
    rw [xpn_cons, List.length_append, List.length_replicate, List.length_cons, Nat.mul_add]
    omega
theorem fib_two : ∀ k : Nat, (2 : Int) ^ k ≤ fib (2 * k + 1)
  | 0 => by decide
  | k + 1 => by
    have ih := fib_two k
    have h := fib_mono (s := 2 * k) (t := 2 * k + 1) (by omega)
    have e : fib (2 * (k + 1) + 1) = fib (2 * k + 1) + fib (2 * k + 1 + 1) := rfl
    rw [e, Int.pow_succ]
    omega
theorem nd_202 {rs : Rn} {n : Nat} (B : Bk rs) (h : Nd (xpn rs) n) : n ≤ 202 := by
  have h2 := cnt_le fun p hp => (B.ok p hp).2.2.2
  have h3 := B.hi
  have h4 : 10 ^ 28 * rs.length ≤ 10 ^ 28 * 200 := Nat.mul_le_mul_left _ h3
  have h5 : (10 : Nat) ^ 28 * 200 = 2000000000000000000000000000000 := by decide
  have h6 : (2 : Int) ^ 102 = 5070602400912917605986812821504 := by decide
  have h7 : (2 : Int) ^ 102 ≤ fib (202 + 3) := fib_two 102
  have := nd_most (t := 202) h (by omega)
  omega
theorem nd_far {rs : Rn} {n : Nat} (B : Bk rs) (h : Nd (xpn rs) n) : min (10 ^ 30 : Int).toNat n = n := by
  have := nd_202 B h
  have e : (10 ^ 30 : Int).toNat = 1000000000000000000000000000000 := by decide
  rw [e]
  omega
def sp_long_needed (K : PySem.W.Frag) : Sp := fun vs H Q _ => ∃ a, ∃ rs : Rn, vs = [.ref a] ∧ PrT K H a rs ∧ Bk rs ∧ ∀ n H', Nd (xpn rs) n → Ex H H' → Q (.int (n : Int)) H'
theorem ok_long_needed {f : Addr} {fd : FuncData} (D : DefAt K mg "long_needed" s_long_needed ["blocks"] f fd) (T : Top mg) (c_check_blocks : C8.Cal P w K mg base 6 "check_blocks" (sp_check_blocks K) []) (c_played : C8.Cal P w K mg base 3 "played" (sp_played K) []) :
    C8.Cal P w K mg base 7 "long_needed" (sp_long_needed K) [] := by
  refine D.cal sc_long_needed (fun vs H Q E h => ?len) fun cdv A outer s H vs Q E hr h => ?body
  case len => obtain ⟨a, rs, rfl, _⟩ := h; rfl
  obtain ⟨a, rs, rfl, hP, B, q⟩ := h
  refine ⟨_, (pss_cons (ps_expr (C8.pe_c c_check_blocks hr (by decide) (by rfl) (pa_cons (pv 0) pa_nil)))
      (pss_one (ps_ret (pe_ix ix_tup (C8.pe_c c_played hr (by decide) (by rfl) (pa_cons (pv 0) (pa_cons (C8.pe_gc (by rfl) T.c_MOST_ROUNDS) pa_nil))) pe_int (fun _ _ => rfl))))), ?_⟩
  refine ⟨_, rfl, a, rs, rfl, hP, B, fun H1 X1 => ?_⟩
  refine ⟨_, rfl, a, rs, _, rfl, hP.ex X1, B, by decide, fun n p r R H2 hn _ X2 hp hR hc hx => ?_⟩
  refine ⟨p, _, _, _, rfl, rfl, SqT.of hp, rfl, ?_⟩
  have := q n H2 hn (X1.trans X2)
  rw [← nd_far B hn] at this
  exact this
def sp_long_entry (K : PySem.W.Frag) : Sp := fun vs H Q _ => ∃ a, ∃ rs : Rn, ∃ i : Nat, ∃ v : Int, vs = [.ref a, .int (i : Int), .int v] ∧ PrT K H a rs ∧ Bk rs ∧ i < (xpn rs).length ∧ 0 ≤ v ∧ v ≤ 10 ^ 30 ∧
  ∀ H', Ex H H' → Q (.int (g (ro v.toNat (xpn rs)) i)) H'
/-- the counts in front of a place among the blocks -/
theorem tt_take {rs : Rn} {k : Nat} (hk : k ≤ rs.length) : (((rs.take k).map fun p => ((p.2 : Nat) : Int))).sum = (tt rs k : Int) := by
  induction k with
  | zero => rfl
  | succ k ih =>
    rw [take_at (by omega), List.map_append, List.sum_append, ih (by omega), tt_succ (by omega)]
    show (tt rs k : Int) + ((ct rs k : Int) + 0) = _
    omega
theorem g_xpn {R : Rn} {k j : Nat} (hk : k < R.length) (hj : j < ct R k) : g (xpn R) (tt R k + j) = g (es R) k := by
  have e : xpn R = xpn (R.take k) ++ (List.replicate (ct R k) (g (es R) k) ++ xpn (R.drop (k + 1))) := by
    conv => lhs; rw [← List.take_append_drop (k + 1) R]
    rw [xpn_app, take_at hk, xpn_app, xpn_one, List.append_assoc]
  unfold g
  rw [e, List.getD_eq_getElem?_getD, List.getElem?_append_right (by unfold tt; omega), List.getElem?_append_left (by rw [List.length_replicate]; unfold tt; omega), List.getElem?_replicate, if_pos (by unfold tt; omega)]
  rfl
theorem ok_long_entry {f : Addr} {fd : FuncData} (D : DefAtN K mg "long_entry" s_long_entry ["blocks", "place", "rounds"] 2 ["rounds"] f fd) (T : Top mg) (c_check_blocks : C8.Cal P w K mg base 6 "check_blocks" (sp_check_blocks K) []) (c_check_place : C8.Cal P w K mg base 3 "check_place" (sp_check_place K) []) (cd_check_rounds : C8.Cal P w K mg base 3 "check_rounds" (sp_check_rounds K) [.int 0]) (c_played : C8.Cal P w K mg base 3 "played" (sp_played K) []) :
    CalN P w K mg base 7 "long_entry" (sp_long_entry K) 2 ["rounds"] := by
  refine D.cal sc_long_entry (fun vs H Q E h => ?len) fun cdv A outer s H vs Q E hr h => ?body
  case len => obtain ⟨a, rs, i, v, rfl, _⟩ := h; rfl
  obtain ⟨a, rs, i, v, rfl, hP, B, hi, v0, v1, q⟩ := h
  refine ⟨_, (pss_cons (ps_expr (C8.pe_c c_check_blocks hr (by decide) (by rfl) (pa_cons (pv 0) pa_nil)))
      (pss_cons (ps_expr (C8.pe_c c_check_place hr (by decide) (by rfl) (pa_cons (pv 1) (pa_cons (pe_callB (cr_sumA rfl) (by rfl) T.sum (by decide +kernel) (pa_cons (pe_lc (own := [("_", 5), ("count", 6)]) (g := (gTup K 2 (gCons (gName 5) (gCons (gName 6) gNil)))) (by rfl) sc_long_entry.nd (pi_tup (pv 0)) (blkOk_by (own := [("_", 5), ("count", 6)]) (N := ["blocks", "place", "rounds", "runs", "at", "_", "count"]) (sc := defScope s_long_entry) (by decide +kernel)) (fun _ _ _ _ _ => (pg_tup rfl (pgs_cons (pg_name (i := 5) sc_long_entry.nd rfl (.inl rfl)) (pgs_cons (pg_name (i := 6) sc_long_entry.nd rfl (.inl rfl)) pgs_nil)))) (fun _ _ _ _ _ => pts_nil) (fun _ _ _ _ _ => (pv 6))) pa_nil)) pa_nil))))
      (pss_cons (ps_expr (C8.pe_c cd_check_rounds hr (by decide) (by rfl) (pa_cons (pv 2) pa_nil)))
      (pss_cons (ps_set (i := 3) sc_long_entry.nd rfl (.inl rfl) (pe_ix ix_tup (C8.pe_c c_played hr (by decide) (by rfl) (pa_cons (pv 0) (pa_cons (pv 2) pa_nil))) pe_int (fun _ _ => rfl)))
      (pss_cons (ps_set (i := 4) sc_long_entry.nd rfl (.inl rfl) pe_int)
      (pss_cons (ps_while PassesOwn.never (pt_cmpR op_ge (pv 1) (pe_ix ix_tup (pe_ix ix_tup (pv 3) (pv 4) (fun _ _ => rfl)) pe_int (fun _ _ => rfl)) (nomark _))
        (pss_cons (ps_set (i := 1) sc_long_entry.nd rfl (.inl rfl) (pe_op op_sub (pv 1) (pe_ix ix_tup (pe_ix ix_tup (pv 3) (pv 4) (fun _ _ => rfl)) pe_int (fun _ _ => rfl))))
          (pss_one (ps_set (i := 4) sc_long_entry.nd rfl (.inl rfl) (pe_op op_add (pv 4) pe_int)))))
      (pss_one (ps_ret (pe_ix ix_tup (pe_ix ix_tup (pv 3) (pv 4) (fun _ _ => rfl)) pe_int (fun _ _ => rfl)))))))))), ?_⟩
  have b2 := B.hi
  refine ⟨_, rfl, a, rs, rfl, hP, B, fun H1 X1 => ?_⟩
  obtain ⟨xs, hS, hX⟩ := hP.ex X1
  refine ⟨_, rfl, _, rfl, a, rfl, ⟨_, hS⟩, fun D hD => ?_⟩
  refine lc_tup (K := K) (a := a) (xs := xs) (fun k H' => Ex H1 H' ∧ H' D = some (.lst (((rs.take k).map fun p => ((p.2 : Nat) : Int)).map V.int))) ⟨Evl.Ex.new hD, upd_same⟩ (fun k H' _ h => Evl.ex_t h.1 hS) ?_ ?_
  · rintro k x H' hx ⟨hE, hH⟩
    obtain ⟨hk, r, rfl, hr⟩ := hX.item hx
    refine ⟨r, _, rfl, Evl.ex_t hE hr, rfl, _, _, rfl, _, _, rfl, rfl, rfl, ?_⟩
    dsimp only [tYes]
    rw [if_pos rfl]
    refine ⟨_, rfl, _, hH, ?_, Evl.Ex.mut hE hD, ?_⟩
    · rw [List.length_map, List.length_map, List.length_take]; exact small1000 (by omega)
    · rw [upd_same, take_at hk, List.map_append, List.map_append]; rfl
  rintro H2 ⟨X2, hH2⟩
  rw [hX.1, List.take_length] at hH2
  have hsum := tt_take (rs := rs) (Nat.le_refl _)
  rw [List.take_length, tt_all] at hsum
  refine ⟨D, _, rfl, .inl (SqL.of hH2), ?_⟩
  rw [hsum]
  refine ⟨_, _, rfl, by omega, by omega, ?_⟩
  refine ⟨_, rfl, v, rfl, v0, v1, ?_⟩
  have X12 := X1.trans X2
  refine ⟨_, rfl, _, rfl, a, rs, v, rfl, hP.ex X12, B, v0, fun n p r R H3 hn _ X3 hp hR hc hx => ?_⟩
  refine ⟨p, _, _, _, rfl, rfl, SqT.of hp, rfl, ?_⟩
  obtain ⟨ys, hys, hY⟩ := hR
  have hlen : (xpn R).length = (xpn rs).length := by rw [hx, ro_len]
  have hro : ro (min v.toNat n) (xpn rs) = ro v.toNat (xpn rs) := (ro_far hn.still _).symm
  refine ⟨fun m σ H' => H' = H3 ∧ ∃ k j : Nat, m = R.length - k ∧ k < R.length ∧ tt R k + j = i ∧ σ = [some (.ref a), some (.int (j : Int)), some (.int v), some (.ref r), some (.int (k : Int)), none, none], ⟨_, rfl, 0, i, rfl, ?_, by rw [tt_zero]; omega, rfl⟩, ?_⟩
  · rcases Nat.eq_zero_or_pos R.length with h | h
    · have : R = [] := List.length_eq_zero_iff.mp h
      rw [this] at hlen
      have : (xpn ([] : Rn)).length = 0 := rfl
      omega
    · exact h
  rintro m σ H4 ⟨rfl, k, j, rfl, hk, hkj, rfl⟩
  obtain ⟨r', hr', hS'⟩ := hY.at (rs_at hk)
  refine ⟨_, rfl, _, rfl, _, rfl, r, _, _, _, rfl, rfl, hys, hr', r', _, _, _, rfl, rfl, hS', rfl, _, _, rfl, rfl, _, rfl, ite2 (fun t => ?_) fun t => ?_⟩
  · have t : (ct R k : Int) ≤ (j : Int) := of_decide_eq_true t
    refine ⟨_, fun _ _ h => h, ?_⟩
    have hk2 : k + 1 < R.length := by
      rcases Nat.lt_or_ge (k + 1) R.length with h | h
      · exact h
      · exfalso
        have h1 := tt_succ hk
        rw [show k + 1 = R.length by omega, tt_all] at h1
        omega
    refine ⟨_, rfl, _, rfl, _, rfl, r, _, _, _, rfl, rfl, hys, hr', r', _, _, _, rfl, rfl, hS', rfl, _, _, rfl, rfl, _, rfl, _, _, rfl, rfl, R.length - (k + 1), by omega, rfl, k + 1, j - ct R k, rfl, hk2, ?_, ?_⟩
    · rw [tt_succ hk]; omega
    · show [some (V.ref a), some (V.int ((j : Int) - (ct R k : Int))), some (V.int v), some (V.ref r), some (V.int ((k : Int) + 1)), none, none] = _
      rw [show (j : Int) - (ct R k : Int) = ((j - ct R k : Nat) : Int) by omega, show (k : Int) + 1 = ((k + 1 : Nat) : Int) by omega]
  · have t : ¬ (ct R k : Int) ≤ (j : Int) := fun e => t (decide_eq_true e)
    refine ⟨_, rfl, _, rfl, r, _, _, _, rfl, rfl, hys, hr', r', _, _, _, rfl, rfl, hS', rfl, ?_⟩
    have e := g_xpn hk (show j < ct R k by omega)
    rw [hkj, hx, hro] at e
    have := q H4 (X12.trans X3)
    rw [e] at this
    exact this
theorem cnt_xpn (e : Int) : ∀ R : Rn, (((R.filter fun p => decide (p.1 = e)).map fun p => ((p.2 : Nat) : Int))).sum = ((xpn R).count e : Int)
  | [] => rfl
  | p :: R => by
    rw [xpn_cons, List.count_append, List.filter_cons]
    have ih := cnt_xpn e R
    by_cases c : p.1 = e
    · rw [if_pos (decide_eq_true c), List.map_cons, List.sum_cons, ih, c, List.count_replicate_self]
      push_cast
      rfl
    · rw [if_neg (by rw [decide_eq_false c]; decide), ih, List.count_eq_zero.mpr (fun h => c (List.mem_replicate.mp h).2.symm)]
      simp
def sp_long_count (K : PySem.W.Frag) : Sp := fun vs H Q _ => ∃ a, ∃ rs : Rn, ∃ e v : Int, vs = [.ref a, .int e, .int v] ∧ PrT K H a rs ∧ Bk rs ∧ 0 ≤ v ∧ v ≤ 10 ^ 30 ∧
  ∀ H', Ex H H' → Q (.int ((ro v.toNat (xpn rs)).count e : Int)) H'
theorem ok_long_count {f : Addr} {fd : FuncData} (D : DefAtN K mg "long_count" s_long_count ["blocks", "entry", "rounds"] 2 ["rounds"] f fd) (T : Top mg) (c_check_blocks : C8.Cal P w K mg base 6 "check_blocks" (sp_check_blocks K) []) (cd_check_rounds : C8.Cal P w K mg base 3 "check_rounds" (sp_check_rounds K) [.int 0]) (c_is_int : C8.Cal P w K mg base 1 "is_int" (sp_is_int K) []) (c_played : C8.Cal P w K mg base 3 "played" (sp_played K) []) :
    CalN P w K mg base 7 "long_count" (sp_long_count K) 2 ["rounds"] := by
  refine D.cal sc_long_count (fun vs H Q E h => ?len) fun cdv A outer s H vs Q E hr h => ?body
  case len => obtain ⟨a, rs, e, v, rfl, _⟩ := h; rfl
  obtain ⟨a, rs, e, v, rfl, hP, B, v0, v1, q⟩ := h
  refine ⟨_, (pss_cons (ps_expr (C8.pe_c c_check_blocks hr (by decide) (by rfl) (pa_cons (pv 0) pa_nil)))
      (pss_cons (ps_if (pt_not (pt_val (C8.pe_c c_is_int hr (by decide) (by rfl) (pa_cons (pv 1) pa_nil))))
        (pss_one ps_never)
        pss_nil)
      (pss_cons (ps_expr (C8.pe_c cd_check_rounds hr (by decide) (by rfl) (pa_cons (pv 2) pa_nil)))
      (pss_one (ps_ret (pe_callB (cr_sumA rfl) (by rfl) T.sum (by decide +kernel) (pa_cons (pe_lc (own := [("present", 3), ("count", 4)]) (g := (gTup K 2 (gCons (gName 3) (gCons (gName 4) gNil)))) (by rfl) sc_long_count.nd (pi_tup (pe_ix ix_tup (C8.pe_c c_played hr (by decide) (by rfl) (pa_cons (pv 0) (pa_cons (pv 2) pa_nil))) pe_int (fun _ _ => rfl))) (blkOk_by (own := [("present", 3), ("count", 4)]) (N := ["blocks", "entry", "rounds", "present", "count"]) (sc := defScope s_long_count) (by decide +kernel)) (fun _ _ _ _ _ => (pg_tup rfl (pgs_cons (pg_name (i := 3) sc_long_count.nd rfl (.inl rfl)) (pgs_cons (pg_name (i := 4) sc_long_count.nd rfl (.inl rfl)) pgs_nil)))) (fun _ _ _ _ _ => (pts_one (pt_cmpR op_eq (pv 3) (pv 1) (nomark _)))) (fun _ _ _ _ _ => (pv 4))) pa_nil))))))), ?_⟩
  have b2 := B.hi
  refine ⟨_, rfl, a, rs, rfl, hP, B, fun H1 X1 => ?_⟩
  refine ⟨_, rfl, e, rfl, true, rfl, iteF ?_⟩
  refine ⟨_, rfl, v, rfl, v0, v1, ?_⟩
  refine ⟨_, rfl, _, rfl, a, rs, v, rfl, hP.ex X1, B, v0, fun n p r R H3 hn _ X3 hp hR hc hx => ?_⟩
  have few := runs_few B.pos hc hx
  obtain ⟨ys, hys, hY⟩ := hR
  have hro : ro (min v.toNat n) (xpn rs) = ro v.toNat (xpn rs) := (ro_far hn.still _).symm
  refine ⟨p, _, _, _, rfl, rfl, SqT.of hp, rfl, r, rfl, ⟨_, hys⟩, fun D hD => ?_⟩
  refine lc_tup (K := K) (a := r) (xs := ys) (fun k H' => Ex H3 H' ∧ H' D = some (.lst ((((R.take k).filter fun p => decide (p.1 = e)).map fun p => ((p.2 : Nat) : Int)).map V.int))) ⟨Evl.Ex.new hD, upd_same⟩ (fun k H' _ h => Evl.ex_t h.1 hys) ?_ ?_
  · rintro k x H' hxk ⟨hE, hH⟩
    obtain ⟨hk, r', rfl, hr⟩ := hY.item hxk
    refine ⟨r', _, rfl, Evl.ex_t hE hr, rfl, _, _, rfl, _, _, rfl, rfl, rfl, ?_⟩
    refine ⟨_, rfl, _, rfl, rfl, _, rfl, ?_⟩
    rw [take_at hk, List.filter_append]
    by_cases c : g (es R) k = e
    · rw [decide_eq_true (congrArg V.int c)]
      refine iteT ⟨_, rfl, _, hH, ?_, Evl.Ex.mut hE hD, ?_⟩
      · rw [List.length_map, List.length_map]
        have := List.length_filter_le (fun p : Int × Nat => decide (p.1 = e)) (R.take k)
        rw [List.length_take] at this
        exact small1000 (by omega)
      · rw [upd_same, show List.filter (fun p : Int × Nat => decide (p.1 = e)) [(g (es R) k, ct R k)] = [(g (es R) k, ct R k)] by simp [c], List.map_append, List.map_append]; rfl
    · rw [decide_eq_false (fun h => c (V.int.inj h))]
      refine iteF ⟨hE, ?_⟩
      rw [show List.filter (fun p : Int × Nat => decide (p.1 = e)) [(g (es R) k, ct R k)] = [] by simp [c], hH, List.append_nil]
  rintro H4 ⟨X4, hH4⟩
  rw [hY.1, List.take_length] at hH4
  refine ⟨D, _, rfl, .inl (SqL.of hH4), ?_⟩
  rw [cnt_xpn, hx, hro]
  exact q H4 ((X1.trans X3).trans X4)
end
end K66

set_option Elab.async false
set_option linter.all false
set_option maxRecDepth 100000
set_option maxHeartbeats 1000000
namespace K66
open PySem PySem.Spec
open PyProof.Rows L2 Sx
section
variable {P : Program} {w : World} {K : PySem.W.Frag} {mg : Str → Option Value} {base : Heap}
def sp_is_weights (K : PySem.W.Frag) : Sp := fun vs H Q _ => ∃ a b, ∃ xs ws : List Int, vs = [.ref a, .ref b] ∧ SqT K H a (xs.map V.int) ∧ Rw xs ∧ SqT K H b (ws.map V.int) ∧ Wt ws xs.length ∧ ∀ H', Ex H H' → Q (.bl true) H'
theorem ok_is_weights {f : Addr} {fd : FuncData} (D : DefAt K mg "is_weights" s_is_weights ["row", "value"] f fd) (T : Top mg) (c_check_row : C8.Cal P w K mg base 5 "check_row" (sp_check_row K) []) (c_is_whole : C8.Cal P w K mg base 2 "is_whole" (sp_is_whole K) []) :
    C8.Cal P w K mg base 6 "is_weights" (sp_is_weights K) [] := by
  refine D.cal sc_is_weights (fun vs H Q E h => ?len) fun cdv A outer s H vs Q E hr h => ?body
  case len => obtain ⟨a, b, xs, ws, rfl, _⟩ := h; rfl
  obtain ⟨a, b, xs, ws, rfl, hS, R, hT, W, q⟩ := h
  refine ⟨_, (pss_cons (ps_expr (C8.pe_c c_check_row hr (by decide) (by rfl) (pa_cons (pv 0) pa_nil)))
      (pss_cons (ps_if (PW.pt (pw_or (pt_not (pt_val (pe_callB call_isi (by rfl) T.isinstance (by decide +kernel) (pa_cons (pv 1) (pa_cons (pe_bltn (by rfl) T.tuple (by decide +kernel) (v := .ty "tuple") rfl) pa_nil))))) (pw_or1 (pt_cmpR op_ne (pe_callB call_len_seq (by rfl) T.len (by decide +kernel) (pa_cons (pv 1) pa_nil)) (pe_callB call_len_seq (by rfl) T.len (by decide +kernel) (pa_cons (pv 0) pa_nil)) (nomark _)))))
        (pss_one (ps_ret pe_bl))
        pss_nil)
      (pss_one (ps_ret (pe_callB (cr_all rfl) (by rfl) T.all (by decide +kernel) (pa_cons (pe_lc (own := [("weight", 2)]) (g := gName 2) (by rfl) sc_is_weights.nd (pi_tup (pv 1)) (blkOk_by (own := [("weight", 2)]) (N := ["row", "value", "weight"]) (sc := defScope s_is_weights) (by decide +kernel)) (fun _ _ _ _ _ => (pg_name (i := 2) sc_is_weights.nd rfl (.inl rfl))) (fun _ _ _ _ _ => pts_nil) (fun _ _ _ _ _ => (C8.pe_c c_is_whole hr (by decide) (by rfl) (pa_cons (pv 2) (pa_cons pe_int (pa_cons (C8.pe_gc (by rfl) T.c_GREATEST_WEIGHT) pa_nil)))))) pa_nil)))))), ?_⟩
  refine ⟨_, rfl, a, xs, rfl, hS, R.lo, R.hi, R.ok, fun H1 X1 => ?_⟩
  have hS1 := Evl.ex_t X1 hS
  have hT1 := Evl.ex_t X1 hT
  have hw := W.len
  have hhi := R.hi
  refine ⟨_, rfl, _, _, _, _, true, rfl, .ty "tuple", tyT hT1, kit_ty (by decide +kernel), true, rfl, ?_⟩
  refine iteF ?_
  refine ⟨_, rfl, b, _, rfl, .inr hT1, _, rfl, a, _, rfl, .inr hS1, rfl, _, rfl, ?_⟩
  have el : (!decide (V.int ((ws.map V.int).length : Int) = .int ((xs.map V.int).length : Int))) = false := by
    rw [List.length_map, List.length_map, hw, decide_eq_true rfl]; rfl
  rw [el]
  refine iteF ?_
  refine ⟨_, rfl, b, rfl, ⟨_, hT1⟩, fun D hD => ?_⟩
  refine lc_tup (K := K) (a := b) (xs := ws.map V.int) (fun i H' => Ex H1 H' ∧ H' D = some (.lst ((List.replicate i true).map V.bl))) ⟨Evl.Ex.new hD, upd_same⟩ (fun i H' _ h => Evl.ex_t h.1 hT1) ?_ ?_
  · rintro i x H' hx ⟨hE, hH⟩
    have hi : i < ws.length := by
      have := (List.getElem?_eq_some_iff.mp hx).1
      rwa [List.length_map] at this
    obtain ⟨z, hz, rfl⟩ : ∃ z, z ∈ ws ∧ x = .int z := by
      rw [List.getElem?_map] at hx
      cases e : ws[i]? with
      | none => rw [e] at hx; cases hx
      | some z => rw [e] at hx; cases hx; exact ⟨z, List.mem_of_getElem? e, rfl⟩
    refine ⟨rfl, ?_⟩
    dsimp only [tYes]
    rw [if_pos rfl]
    refine ⟨_, rfl, _, _, _, rfl, ?_⟩
    rw [decide_eq_true (show 1 ≤ z ∧ z ≤ 10000000000000000000000000000 from ⟨W.lo z hz, W.hi z hz⟩)]
    refine ⟨_, hH, ?_, Evl.Ex.mut hE hD, ?_⟩
    · rw [List.length_map, List.length_replicate]; exact small1000 (by omega)
    · rw [upd_same, List.replicate_succ', List.map_append]; rfl
  · rintro H' ⟨hE, hH⟩
    refine ⟨D, _, rfl, SqL.of hH, ?_⟩
    have e : (List.replicate (ws.map V.int).length true).all id = true := by
      rw [List.all_eq_true]
      intro b hb
      rw [(List.mem_replicate.mp hb).2]; rfl
    rw [e]
    exact q H' (X1.trans hE)
def sp_check_weights (K : PySem.W.Frag) : Sp := fun vs H Q _ => ∃ a b, ∃ xs ws : List Int, vs = [.ref a, .ref b] ∧ SqT K H a (xs.map V.int) ∧ Rw xs ∧ SqT K H b (ws.map V.int) ∧ Wt ws xs.length ∧ ∀ H', Ex H H' → Q .non H'
theorem ok_check_weights {f : Addr} {fd : FuncData} (D : DefAt K mg "check_weights" s_check_weights ["row", "weights"] f fd) (T : Top mg) (c_is_weights : C8.Cal P w K mg base 6 "is_weights" (sp_is_weights K) []) :
    C8.Cal P w K mg base 7 "check_weights" (sp_check_weights K) [] := by
  refine D.cal sc_check_weights (fun vs H Q E h => ?len) fun cdv A outer s H vs Q E hr h => ?body
  case len => obtain ⟨a, b, xs, ws, rfl, _⟩ := h; rfl
  obtain ⟨a, b, xs, ws, rfl, hS, R, hT, W, q⟩ := h
  refine ⟨_, (pss_one (ps_if (pt_not (pt_val (C8.pe_c c_is_weights hr (by decide) (by rfl) (pa_cons (pv 0) (pa_cons (pv 1) pa_nil)))))
        (pss_one ps_never)
        pss_nil)), ?_⟩
  refine ⟨_, rfl, _, rfl, a, b, xs, ws, rfl, hS, R, hT, W, fun H' hE => ⟨_, rfl, ?_⟩⟩
  show if (!true) = true then _ else _
  rw [if_neg (by decide)]
  exact q H' hE
def sp_weighted_spans (K : PySem.W.Frag) : Sp := fun vs H Q _ => ∃ a t, ∃ xs ws : List Int, vs = [.ref a, .ref t] ∧ SqT K H a (xs.map V.int) ∧ xs.length ≤ 100 ∧ SqL K H t ((tots ws xs.length).map V.int) ∧
  ∀ p H', H p = none → Ex H H' → PT H' p ((wsp ws xs).map V.int) → Q (.ref p) H'
theorem ok_weighted_spans {f : Addr} {fd : FuncData} (D : DefAt K mg "weighted_spans" s_weighted_spans ["row", "totals"] f fd) (T : Top mg) (c_all_spans : C8.Cal P w K mg base 1 "all_spans" (sp_all_spans K) []) :
    C8.Cal P w K mg base 2 "weighted_spans" (sp_weighted_spans K) [] := by
  refine D.cal sc_weighted_spans (fun vs H Q E h => ?len) fun cdv A outer s H vs Q E hr h => ?body
  case len => obtain ⟨a, b, xs, ws, rfl, _⟩ := h; rfl
  obtain ⟨a, t, xs, ws, rfl, hS, hz, hT, q⟩ := h
  refine ⟨_, (pss_cons (ps_set (i := 2) sc_weighted_spans.nd rfl (.inl rfl) (C8.pe_c c_all_spans hr (by decide) (by rfl) (pa_cons (pv 0) pa_nil)))
      (pss_one (ps_ret (pe_callTy cr_tupleP (by rfl) T.tuple (by decide +kernel) (pa_cons (pe_lc (own := [("place", 3), ("span", 4)]) (g := (gTup K 2 (gCons (gName 3) (gCons (gName 4) gNil)))) (by rfl) sc_weighted_spans.nd (pi_enumT (by rfl) T.enumerate (pa_cons (pv 2) pa_nil)) (blkOk_by (own := [("place", 3), ("span", 4)]) (N := ["row", "totals", "spans", "place", "span"]) (sc := defScope s_weighted_spans) (by decide +kernel)) (fun _ _ _ _ _ => (pg_tup rfl (pgs_cons (pg_name (i := 3) sc_weighted_spans.nd rfl (.inl rfl)) (pgs_cons (pg_name (i := 4) sc_weighted_spans.nd rfl (.inl rfl)) pgs_nil)))) (fun _ _ _ _ _ => pts_nil) (fun _ _ _ _ _ => (pe_op op_sub (pe_ix (show IxR _ (rIxL K) from ix_list) (pv 1) (pe_op op_add (pv 3) pe_int) (fun _ _ => rfl)) (pe_ix (show IxR _ (rIxL K) from ix_list) (pv 1) (pe_op op_sub (pe_op op_add (pv 3) pe_int) (pv 4)) (fun _ _ => rfl))))) pa_nil))))), ?_⟩
  refine ⟨_, rfl, a, xs, rfl, hS, by omega, fun s H1 hs X1 hs1 => ?_⟩
  have hT1 := Evl.ex_l X1 hT
  refine ⟨_, rfl, s, _, rfl, hs1.sq, fun D hD => ?_⟩
  refine lc_enumT (K := K) (a := s) (xs := (spans xs).map V.int) (fun i H' => Ex H1 H' ∧ H' D = some (.lst (((wsp ws xs).take i).map V.int))) ⟨Evl.Ex.new hD, upd_same⟩ (fun i H' h => (hs1.ex h.1).sq) ?_ ?_
  · rintro i x T' H2 hx ⟨X2, hD2⟩ hT'
    have hi : i < xs.length := by
      have := (List.getElem?_eq_some_iff.mp hx).1
      rwa [List.length_map, spans_len] at this
    have ex : x = .int (spn xs i) := by
      rw [List.getElem?_map, g_get (by rw [spans_len]; exact hi), spans_g hi] at hx
      exact (Option.some.inj hx).symm
    subst ex
    have X3 := Evl.Ex.new (o := .tup [.int (i : Nat), .int (spn xs i)]) hT'
    have hT3 := Evl.ex_l (X2.trans X3) hT1
    have hD3 := X3 _ _ hD2
    refine ⟨T', _, rfl, SqT.of upd_same, rfl, _, _, rfl, _, _, rfl, rfl, ?_⟩
    generalize upd H2 T' (.tup [.int (i : Nat), .int (spn xs i)]) = H3 at X3 hT3 hD3 ⊢
    refine ⟨rfl, ?_⟩
    dsimp only [tYes]
    rw [if_pos rfl]
    have hb := bk_le xs (g xs i) i
    have a1 : atI ((tots ws xs.length).map V.int) ((i : Int) + 1) = some (.int (tot ws (i + 1))) := by
      rw [show (i : Int) + 1 = ((i + 1 : Nat) : Int) by omega]; exact tots_at (by omega)
    have a2 : atI ((tots ws xs.length).map V.int) ((i : Int) + 1 - spn xs i) = some (.int (tot ws (bk xs (g xs i) i))) := by
      rw [show (i : Int) + 1 - spn xs i = ((bk xs (g xs i) i : Nat) : Int) by unfold spn; omega]; exact tots_at (by omega)
    refine ⟨_, rfl, _, rfl, _, _, rfl, rfl, t, _, _, _, rfl, rfl, hT3, a1, _, rfl, _, rfl, _, _, rfl, rfl, _, rfl, _, _, rfl, rfl, t, _, _, _, rfl, rfl, hT3, a2, _, _, rfl, rfl, _, hD3, ?_, Evl.Ex.mut (X2.trans X3) hD, ?_⟩
    · rw [List.length_map, List.length_take]; exact small1000 (by omega)
    · rw [upd_same, List.take_add_one, g_get (by rw [wsp_len]; exact hi), wsp_g hi, List.map_append]; rfl
  · rintro H2 ⟨X2, hD2⟩
    rw [List.length_map, spans_len, List.take_of_length_le (by rw [wsp_len]; exact Nat.le_refl _)] at hD2
    refine ⟨D, _, rfl, SqL.of hD2, fun r ob hr' o1 o2 => ?_⟩
    exact q r _ (Evl.fresh_back (X1.trans X2) hr') ((X1.trans X2).trans (Evl.Ex.new hr')) ⟨ob, upd_same, o1, o2⟩
def SeqsC (K : PySem.W.Frag) (H : Hp) (p : Addr) (f : Nat → List Int) (n : Nat) (P : Prop) : Prop :=
  ∃ vs : List V, H p = some (.lst vs) ∧ vs.length = n + 1 ∧ ∀ j, j ≤ n → ∃ b, vs[j]? = some (.ref b) ∧ SqT K H b ((f j).map V.int) ∧ (P → PT H b ((f j).map V.int))
theorem pt_mutl {H : Hp} {p b : Addr} {vs zs : List V} {o : HO} (h : PT H b zs) (hv : H p = some (.lst vs)) : PT (upd H p o) b zs := by
  obtain ⟨ob, h1, h2, h3⟩ := h
  refine ⟨ob, ?_, h2, h3⟩
  rw [upd_ne]
  · exact h1
  · rintro rfl
    rw [h1] at hv; cases hv
def sp_weighted_rows (K : PySem.W.Frag) : Sp := fun vs H Q _ => ∃ a b, ∃ xs ws : List Int, vs = [.ref a, .ref b] ∧ SqT K H a (xs.map V.int) ∧ Rw xs ∧ SqT K H b (ws.map V.int) ∧ Wt ws xs.length ∧
  ∀ p H' n, H p = none → Ex H H' → WNd ws xs n → n ≤ xs.length → SeqsC K H' p (fun j => wro ws j xs) n (PT H a (xs.map V.int)) → Q (.ref p) H'
theorem ok_weighted_rows {f : Addr} {fd : FuncData} (D : DefAt K mg "weighted_rows" s_weighted_rows ["row", "weights"] f fd) (T : Top mg) (c_weighted_spans : C8.Cal P w K mg base 2 "weighted_spans" (sp_weighted_spans K) []) :
    C8.Cal P w K mg base 3 "weighted_rows" (sp_weighted_rows K) [] := by
  refine D.cal sc_weighted_rows (fun vs H Q E h => ?len) fun cdv A outer s H vs Q E hr h => ?body
  case len => obtain ⟨a, b, xs, ws, rfl, _⟩ := h; rfl
  obtain ⟨a, b, xs, ws, rfl, hS, R, hT, W, q⟩ := h
  refine ⟨_, (pss_cons (ps_set (i := 2) sc_weighted_rows.nd rfl (.inl rfl) (pe_lst (pa_cons pe_int pa_nil)))
      (pss_cons (ps_for PassesOwn.never rfl (pi_tup (pv 1)) (pg_name (i := 3) sc_weighted_rows.nd rfl (.inl rfl))
        (pss_one (ps_expr (pe_bm PySem.F.plainAttrs_list PySem.F.slot_list_append PySem.F.type_list_append mt_append (pv 2) (pa_cons (pe_op op_add (pe_ix ix_list (pv 2) (pe_un un_neg pe_int) (fun _ _ => rfl)) (pv 3)) pa_nil)))))
      (pss_cons (ps_set (i := 4) sc_weighted_rows.nd rfl (.inl rfl) (pe_lst (pa_cons (pv 0) pa_nil)))
      (pss_cons (ps_set (i := 5) sc_weighted_rows.nd rfl (.inl rfl) (C8.pe_c c_weighted_spans hr (by decide) (by rfl) (pa_cons (pv 0) (pa_cons (pv 2) pa_nil))))
      (pss_cons (ps_while PassesOwn.never (pt_cmpR (op_neD hr.units) (pv 5) (pe_ix ix_list (pv 4) (pe_un un_neg pe_int) (fun _ _ => rfl)) (nomark _))
        (pss_cons (ps_expr (pe_bm PySem.F.plainAttrs_list PySem.F.slot_list_append PySem.F.type_list_append mt_append (pv 4) (pa_cons (pv 5) pa_nil)))
          (pss_one (ps_set (i := 5) sc_weighted_rows.nd rfl (.inl rfl) (C8.pe_c c_weighted_spans hr (by decide) (by rfl) (pa_cons (pv 5) (pa_cons (pv 2) pa_nil)))))))
      (pss_one (ps_ret (pv 4)))))))), ?_⟩
  have hw := W.len
  have hlo := R.lo
  have hhi := R.hi
  obtain ⟨n, hn, hnd⟩ := wnd_any W hlo
  refine ⟨by show 1 ≤ sizeLine; decide, fun t ht => ?_⟩
  have Xt := Evl.Ex.new (o := .lst [.int 0]) ht
  refine ⟨_, rfl, b, rfl, ⟨_, Evl.ex_t Xt hT⟩, ?_⟩
  refine for_tup (K := K) (a := b) (xs := ws.map V.int) (fun i σ H' => Ex H H' ∧ H' t = some (.lst ((tots ws i).map V.int)) ∧ ∃ y3 : Option V, σ = [some (.ref a), some (.ref b), some (.ref t), y3, none, none])
    ⟨Xt, ?_, _, rfl⟩ (fun i σ H' _ h => Evl.ex_t h.1 hT) ?_ ?_
  · rw [upd_same]
    show some (HO.lst [V.int 0]) = some (HO.lst [V.int (tot ws 0)])
    rw [tot_zero]
  · rintro i v σ H1 hx ⟨X1, ht1, y3, rfl⟩
    have hi : i < ws.length := by
      have := (List.getElem?_eq_some_iff.mp hx).1
      rwa [List.length_map] at this
    have ex : v = .int (g ws i) := by
      rw [List.getElem?_map, g_get hi] at hx
      exact (Option.some.inj hx).symm
    subst ex
    have al : atI ((tots ws i).map V.int) (-1) = some (.int (tot ws i)) := by
      rw [atI_last (n := i) (by rw [List.length_map, tots_len])]
      have := tots_at (ws := ws) (n := i) (k := i) (Nat.le_refl i)
      rw [atI_at (by rw [List.length_map, tots_len]; omega)] at this
      exact this
    refine ⟨_, rfl, .inl ⟨rfl, _, SqL.of ht1⟩, _, rfl, _, rfl, t, _, _, _, rfl, rfl, SqL.of ht1, al, _, rfl, _, _, rfl, rfl, t, _, _, rfl, rfl, ht1, ?_, ?_⟩
    · rw [List.length_map, tots_len]; exact small1000 (by omega)
    · refine ⟨Evl.Ex.mut X1 ht, ?_, _, rfl⟩
      rw [upd_same, tots_succ, List.map_append, tot_succ hi]; rfl
  rintro σ H1 ⟨X1, ht1, y3, rfl⟩
  rw [List.length_map, hw] at ht1
  have hS1 := Evl.ex_t X1 hS
  refine ⟨_, rfl, by show 1 ≤ sizeLine; decide, fun p hp => ?_⟩
  have X2 := Evl.Ex.new (o := .lst [.ref a]) hp
  have zp : H p = none := Evl.fresh_back X1 hp
  have ntp : t ≠ p := ne_of_none ht1 hp
  refine ⟨_, rfl, _, rfl, a, t, xs, ws, rfl, Evl.ex_t X2 hS1, hhi, SqL.of (X2 _ _ ht1), fun fl H3 hfl X3 hfl3 => ?_⟩
  refine ⟨fun m σ H' => ∃ k f, k + m = n ∧ Ex H H' ∧ σ = [some (.ref a), some (.ref b), some (.ref t), y3, some (.ref p), some (.ref f)] ∧ H' t = some (.lst ((tots ws xs.length).map V.int)) ∧ PT H' f ((wro ws (k + 1) xs).map V.int) ∧ SeqsC K H' p (fun j => wro ws j xs) k (PT H a (xs.map V.int)), ⟨n, 0, fl, by omega, (X1.trans X2).trans X3, rfl, X3 _ _ (X2 _ _ ht1), hfl3, ?_⟩, ?_⟩
  · refine ⟨_, X3 _ _ upd_same, rfl, fun j hj => ?_⟩
    have e0 : j = 0 := by omega
    subst e0
    exact ⟨a, rfl, Evl.ex_t (X2.trans X3) hS1, fun hP => (hP.ex X1).ex (X2.trans X3)⟩
  rintro m σ H4 ⟨k, f, hkm, X4, rfl, ht4, hf, vs, hv, hvl, hR⟩
  obtain ⟨c, hc, hcS, _⟩ := hR k (Nat.le_refl k)
  have hat : atI vs (-1) = some (.ref c) := by rw [atI_last hvl]; exact hc
  refine ⟨_, rfl, _, rfl, _, rfl, p, _, _, _, rfl, rfl, SqL.of hv, hat, .tuple ((wro ws (k + 1) xs).map PyData.int), .tuple ((wro ws k xs).map PyData.int), .tup hf.sq (dp_ints _), .tup hcS (dp_ints _), shaped_tup _, shaped_tup _, _, rfl, ?_⟩
  rw [eqv_tup]
  by_cases hcc : wro ws (k + 1) xs = wro ws k xs
  · rw [decide_eq_true hcc]
    have hk : k = n := by
      rcases Nat.lt_trichotomy k n with h | h | h
      · exact absurd hcc (hnd.least k h)
      · exact h
      · omega
    subst hk
    refine iteF ?_
    refine ⟨_, rfl, ?_⟩
    exact q p H4 k zp X4 hnd hn ⟨vs, hv, hvl, hR⟩
  · rw [decide_eq_false hcc]
    have hk : k ≠ n := fun e => hcc (by subst e; exact hnd.still)
    refine iteT ?_
    refine ⟨_, fun _ _ h => h, ?_⟩
    refine ⟨_, rfl, .inl ⟨rfl, _, SqL.of hv⟩, _, rfl, p, _, _, rfl, rfl, hv, ?_, ?_⟩
    · rw [hvl]; exact small1000 (by omega)
    have X5 : Ex H (upd H4 p (.lst (vs ++ [.ref f]))) := Evl.Ex.mut X4 zp
    have hf5 := pt_mutl (o := .lst (vs ++ [.ref f])) hf hv
    have ht5 : (upd H4 p (.lst (vs ++ [.ref f]))) t = some (.lst ((tots ws xs.length).map V.int)) := by rw [upd_ne ntp]; exact ht4
    have ewl : (wro ws (k + 1) xs).length = xs.length := wro_len ws xs (k + 1)
    refine ⟨_, rfl, _, rfl, f, t, wro ws (k + 1) xs, ws, rfl, hf5.sq, by omega, by rw [ewl]; exact SqL.of ht5, fun f2 H6 hf2 X6 hf6 => ?_⟩
    refine ⟨m - 1, by omega, k + 1, f2, by omega, X5.trans X6, rfl, X6 _ _ ht5, hf6, ?_⟩
    refine ⟨vs ++ [.ref f], X6 _ _ upd_same, by rw [List.length_append, hvl]; rfl, fun j hj => ?_⟩
    by_cases e : j = k + 1
    · subst e
      refine ⟨f, ?_, (hf5.ex X6).sq, fun _ => hf5.ex X6⟩
      rw [List.getElem?_append_right (by omega), hvl]; simp
    · obtain ⟨c', hc', hcS', hcP⟩ := hR j (by omega)
      refine ⟨c', by rw [List.getElem?_append_left (by omega)]; exact hc', ?_, fun hP => (pt_mutl (hcP hP) hv).ex X6⟩
      exact Evl.ex_t X6 (sqT_mut hcS' hv)
def sp_weighted_after (K : PySem.W.Frag) : Sp := fun vs H Q _ => ∃ a b, ∃ xs ws : List Int, ∃ m : Int, vs = [.ref a, .ref b, .int m] ∧ SqT K H a (xs.map V.int) ∧ Rw xs ∧ SqT K H b (ws.map V.int) ∧ Wt ws xs.length ∧ 0 ≤ m ∧ m ≤ 10 ^ 30 ∧
  ∀ c H', Ex H H' → SqT K H' c ((wro ws m.toNat xs).map V.int) → (PT H a (xs.map V.int) → PT H' c ((wro ws m.toNat xs).map V.int)) → Q (.ref c) H'
theorem ok_weighted_after {f : Addr} {fd : FuncData} (D : DefAtN K mg "weighted_after" s_weighted_after ["row", "weights", "rounds"] 2 ["rounds"] f fd) (T : Top mg) (c_check_weights : C8.Cal P w K mg base 7 "check_weights" (sp_check_weights K) []) (cd_check_rounds : C8.Cal P w K mg base 3 "check_rounds" (sp_check_rounds K) [.int 0]) (c_weighted_rows : C8.Cal P w K mg base 3 "weighted_rows" (sp_weighted_rows K) []) :
    CalN P w K mg base 8 "weighted_after" (sp_weighted_after K) 2 ["rounds"] := by
  refine D.cal sc_weighted_after (fun vs H Q E h => ?len) fun cdv A outer s H vs Q E hr h => ?body
  case len => obtain ⟨a, b, xs, ws, m, rfl, _⟩ := h; rfl
  obtain ⟨a, b, xs, ws, m, rfl, hS, R, hT, W, m0, m1, q⟩ := h
  refine ⟨_, (pss_cons (ps_expr (C8.pe_c c_check_weights hr (by decide) (by rfl) (pa_cons (pv 0) (pa_cons (pv 1) pa_nil))))
      (pss_cons (ps_expr (C8.pe_c cd_check_rounds hr (by decide) (by rfl) (pa_cons (pv 2) pa_nil)))
      (pss_cons (ps_set (i := 3) sc_weighted_after.nd rfl (.inl rfl) (C8.pe_c c_weighted_rows hr (by decide) (by rfl) (pa_cons (pv 0) (pa_cons (pv 1) pa_nil))))
      (pss_one (ps_ret (pe_ix ix_list (pv 3) (pe_callB (call_min2 rfl) (by rfl) T.min (by decide +kernel) (pa_cons (pv 2) (pa_cons (pe_op op_sub (pe_callB call_len_seq (by rfl) T.len (by decide +kernel) (pa_cons (pv 3) pa_nil)) pe_int) pa_nil))) (fun _ _ => rfl))))))), ?_⟩
  refine ⟨_, rfl, _, rfl, a, b, xs, ws, rfl, hS, R, hT, W, fun H1 X1 => ?_⟩
  refine ⟨_, rfl, _, rfl, m0, m1, ?_⟩
  refine ⟨_, rfl, _, rfl, a, b, xs, ws, rfl, Evl.ex_t X1 hS, R, Evl.ex_t X1 hT, W, fun p H2 n hp X2 hnd hn hR => ?_⟩
  obtain ⟨vs, hv, hvl, hR⟩ := hR
  have em : (if (vs.length : Int) - 1 < m then (vs.length : Int) - 1 else m) = ((min m.toNat n : Nat) : Int) := by
    rw [hvl]; split <;> omega
  obtain ⟨c, hb, hbS, hbP⟩ := hR (min m.toNat n) (Nat.min_le_right _ _)
  have hat : atI vs (if (vs.length : Int) - 1 < m then (vs.length : Int) - 1 else m) = some (.ref c) := by
    rw [em, atI_at (by omega)]; assumption
  refine ⟨_, rfl, _, rfl, _, rfl, p, _, rfl, .inl (SqL.of hv), _, _, rfl, rfl, _, _, rfl, p, _, _, _, rfl, rfl, SqL.of hv, hat, ?_⟩
  refine q c H2 (X1.trans X2) ?_ fun hP => ?_
  · rw [wro_far hnd.still]; exact hbS
  · rw [wro_far hnd.still]; exact hbP (hP.ex X1)
def sp_weighted_needed (K : PySem.W.Frag) : Sp := fun vs H Q _ => ∃ a b, ∃ xs ws : List Int, vs = [.ref a, .ref b] ∧ SqT K H a (xs.map V.int) ∧ Rw xs ∧ SqT K H b (ws.map V.int) ∧ Wt ws xs.length ∧
  ∀ H' n, Ex H H' → WNd ws xs n → n ≤ xs.length → Q (.int (n : Int)) H'
theorem ok_weighted_needed {f : Addr} {fd : FuncData} (D : DefAt K mg "weighted_needed" s_weighted_needed ["row", "weights"] f fd) (T : Top mg) (c_check_weights : C8.Cal P w K mg base 7 "check_weights" (sp_check_weights K) []) (c_weighted_rows : C8.Cal P w K mg base 3 "weighted_rows" (sp_weighted_rows K) []) :
    C8.Cal P w K mg base 8 "weighted_needed" (sp_weighted_needed K) [] := by
  refine D.cal sc_weighted_needed (fun vs H Q E h => ?len) fun cdv A outer s H vs Q E hr h => ?body
  case len => obtain ⟨a, b, xs, ws, rfl, _⟩ := h; rfl
  obtain ⟨a, b, xs, ws, rfl, hS, R, hT, W, q⟩ := h
  refine ⟨_, (pss_cons (ps_expr (C8.pe_c c_check_weights hr (by decide) (by rfl) (pa_cons (pv 0) (pa_cons (pv 1) pa_nil))))
      (pss_one (ps_ret (pe_op op_sub (pe_callB call_len_seq (by rfl) T.len (by decide +kernel) (pa_cons (C8.pe_c c_weighted_rows hr (by decide) (by rfl) (pa_cons (pv 0) (pa_cons (pv 1) pa_nil))) pa_nil)) pe_int)))), ?_⟩
  refine ⟨_, rfl, _, rfl, a, b, xs, ws, rfl, hS, R, hT, W, fun H1 X1 => ?_⟩
  refine ⟨_, rfl, _, rfl, a, b, xs, ws, rfl, Evl.ex_t X1 hS, R, Evl.ex_t X1 hT, W, fun p H2 n hp X2 hnd hn hR => ?_⟩
  obtain ⟨vs, hv, hvl, hR⟩ := hR
  refine ⟨p, _, rfl, .inl (SqL.of hv), _, _, rfl, rfl, ?_⟩
  have e : (vs.length : Int) - 1 = (n : Int) := by omega
  show Q (.int ((vs.length : Int) - 1)) H2
  rw [e]
  exact q H2 n (X1.trans X2) hnd hn
end
end K66

set_option Elab.async false
set_option linter.all false
set_option maxRecDepth 100000
set_option maxHeartbeats 1000000
namespace K66
open PySem PySem.Spec
open PyProof.Rows L2 Sx
section
variable {P : Program} {w : World} {K : PySem.W.Frag} {mg : Str → Option Value} {base : Heap}
def sp__law_fount (K : PySem.W.Frag) : Sp := fun vs H Q _ => ∃ a, ∃ ns : List Int, ∃ k : Nat, vs = [.ref a, .int k] ∧ SqL K H a (ns.map V.int) ∧ k ≤ 1000 ∧
  ∀ p H', H p = none → Ex H H' → Mug H' p 0 → Q (.ref p) H'
theorem ok__law_fount {f : Addr} {fd : FuncData} (D : DefAt K mg "_law_fount" s__law_fount ["script", "k"] f fd) (T : Top mg)  :
    C8.Cal P w K mg base 1 "_law_fount" (sp__law_fount K) [] := by
  refine D.cal sc__law_fount (fun vs H Q E h => ?len) fun cdv A outer s H vs Q E hr h => ?body
  case len => obtain ⟨a, ns, k, rfl, _⟩ := h; rfl
  obtain ⟨a, ns, k, rfl, hS, hk, q⟩ := h
  refine ⟨_, (pss_cons (ps_set (i := 2) sc__law_fount.nd rfl (.inl rfl) pe_int)
      (pss_cons (ps_if (pt_cmpR op_lt (pv 1) (pe_callB call_len_seq (by rfl) T.len (by decide +kernel) (pa_cons (pv 0) pa_nil)) (nomark _))
        (pss_one (ps_set (i := 2) sc__law_fount.nd rfl (.inl rfl) (pe_ix ix_list (pv 0) (pv 1) (fun _ _ => rfl))))
        pss_nil)
      (pss_one (ps_ret (pe_lst (pa_cons (pe_callB (call_max2 rfl) (by rfl) T.max (by decide +kernel) (pa_cons pe_int (pa_cons (pe_op op_sub (pv 2) (pe_op op_powW pe_int pe_int)) pa_nil))) (pa_cons (pe_op op_add (pe_op op_mulW (pe_op op_mod (pv 2) (pe_op op_add (pe_op op_powW pe_int pe_int) pe_int)) pe_int) (pv 1)) (pa_cons pe_int pa_nil)))))))), ?_⟩
  refine ⟨_, rfl, _, rfl, a, _, rfl, .inl hS, _, _, rfl, rfl, _, rfl, ?_⟩
  refine iteJ (c := decide ((k : Int) < ((ns.map V.int).length : Int)) = true) (fun σ H' => H' = H ∧ ∃ c : Int, σ = [some (.ref a), some (.int k), some (.int c)]) ?_ ?_ (fun _ => ⟨rfl, 0, rfl⟩)
  rotate_left
  · intro k' t
    have t := of_decide_eq_true t
    rw [List.length_map] at t
    exact ⟨_, rfl, _, rfl, a, _, k, .int (g ns k), rfl, rfl, hS, atN (by omega), k' _ _ ⟨rfl, g ns k, rfl⟩⟩
  rintro σ H' ⟨rfl, c, rfl⟩
  refine ⟨_, rfl, _, _, rfl, rfl, ⟨by decide, by decide, by decide⟩, _, _, rfl, rfl, _, _, rfl, ?_⟩
  have e38 : (10 : Int) ^ (38 : Int).toNat = 100000000000000000000000000000000000000 := by decide
  have z0 : 0 ≤ c % (10 ^ (38 : Int).toNat + 133) := Int.emod_nonneg _ (by decide)
  have z1 : c % (10 ^ (38 : Int).toNat + 133) < 10 ^ (38 : Int).toNat + 133 := Int.emod_lt_of_pos _ (by decide)
  rw [e38] at z0 z1
  refine ⟨_, rfl, _, _, rfl, rfl, ⟨by decide, by decide, by decide⟩, _, _, rfl, rfl, _, _, rfl, rfl, (by show (0 : Int) < _; decide), _, _, rfl, rfl, ?_, _, rfl, _, _, rfl, rfl, ?_⟩
  · refine wide_mul (a := 200) (b := 10) ?_ (by decide) (by decide) (by decide) (by decide)
    show (c % (10 ^ (38 : Int).toNat + 133)).natAbs < 2 ^ 200
    rw [e38]
    omega
  refine ⟨by show 3 ≤ sizeLine; decide, fun p hp => ?_⟩
  refine q p _ hp (Evl.Ex.new hp) ⟨_, _, _, upd_same, ?_, ?_, by decide, by decide⟩
  · show 0 ≤ c % (10 ^ (38 : Int).toNat + 133) * 256 + (k : Int)
    rw [e38]; omega
  · show c % (10 ^ (38 : Int).toNat + 133) * 256 + (k : Int) < 10 ^ 46
    rw [e38, show (10 : Int) ^ 46 = 10000000000000000000000000000000000000000000000 by decide]; omega
def sp__law_sip (K : PySem.W.Frag) : Sp := fun vs H Q _ => ∃ t, ∃ n m : Int, vs = [.ref t, .int n] ∧ Mug H t m ∧ 1 ≤ n ∧ n < 2 ^ 1000 ∧ m ≤ 1000000 ∧
  ∀ r H', 0 ≤ r → r < n → ExB t H H' → Mug H' t (m + 1) → Q (.int r) H'
theorem ok__law_sip {f : Addr} {fd : FuncData} (D : DefAt K mg "_law_sip" s__law_sip ["fount", "many"] f fd) (T : Top mg)  :
    C8.Cal P w K mg base 1 "_law_sip" (sp__law_sip K) [] := by
  refine D.cal sc__law_sip (fun vs H Q E h => ?len) fun cdv A outer s H vs Q E hr h => ?body
  case len => obtain ⟨a, n, m, rfl, _⟩ := h; rfl
  obtain ⟨t, n, m, rfl, ⟨x0, x1, x2, hT, p1, p2, p3, p4⟩, n1, n2, hm, q⟩ := h
  refine ⟨_, (pss_cons (ps_if (pt_cmpR op_gt (pe_ix ix_list (pv 0) pe_int (fun _ _ => rfl)) pe_int (nomark _))
        (pss_cons (ps_set (i := 2) sc__law_sip.nd rfl (.inl rfl) (pe_op op_mod (pe_ix ix_list (pv 0) pe_int (fun _ _ => rfl)) (pv 1)))
          (pss_cons (ps_asg (pe_op op_fdivW (pe_ix ix_list (pv 0) pe_int (fun _ _ => rfl)) (pv 1)) (pg_sub (pv 0) pe_int set_list))
          (pss_one (ps_ret (pv 2)))))
        pss_nil)
      (pss_cons (ps_asg (pe_op op_add (pe_ix ix_list (pv 0) pe_int (fun _ _ => rfl)) pe_int) (pg_sub (pv 0) pe_int set_list))
      (pss_cons (ps_set (i := 3) sc__law_sip.nd rfl (.inl rfl) (pe_op op_mod (pe_op op_powW (pe_op op_add (pe_ix ix_list (pv 0) pe_int (fun _ _ => rfl)) (pe_op op_mulW pe_int (pe_ix ix_list (pv 0) pe_int (fun _ _ => rfl)))) pe_int) (pe_op op_add (pe_op op_powW pe_int pe_int) pe_int)))
      (pss_cons (ps_set (i := 3) sc__law_sip.nd rfl (.inl rfl) (pe_op op_mod (pe_op op_powW (pe_op op_add (pv 3) (pe_op op_mulW pe_int (pe_ix ix_list (pv 0) pe_int (fun _ _ => rfl)))) pe_int) (pe_op op_add (pe_op op_powW pe_int pe_int) pe_int)))
      (pss_one (ps_ret (pe_op op_mod (pe_op op_fdivW (pv 3) pe_int) (pv 1)))))))), ?_⟩
  refine ⟨_, rfl, t, _, _, _, rfl, rfl, SqL.of hT, rfl, _, _, rfl, rfl, _, rfl, ite2 (fun _ => ?_) fun _ => ?_⟩
  · refine ⟨_, rfl, t, _, _, _, rfl, rfl, SqL.of hT, rfl, _, rfl, _, _, rfl, rfl, by omega, ?_⟩
    refine ⟨_, rfl, t, _, _, _, rfl, rfl, SqL.of hT, rfl, _, rfl, _, _, rfl, rfl, wide_div (b := 1000) (by omega) (by omega) (by decide) (by decide), ?_⟩
    refine ⟨_, rfl, t, _, _, _, rfl, rfl, hT, rfl, ?_⟩
    refine ⟨_, rfl, q _ _ (Int.emod_nonneg _ (by omega)) (Int.emod_lt_of_pos _ (by omega)) ExB.upd ⟨_, _, _, upd_same, p1, p2, p3, by omega⟩⟩
  · refine ⟨_, rfl, t, _, _, _, rfl, rfl, SqL.of hT, rfl, _, _, rfl, rfl, ?_⟩
    refine ⟨_, rfl, t, _, _, _, rfl, rfl, hT, rfl, ?_⟩
    have hT2 : (upd H t (.lst (List.set [.int x0, .int x1, .int x2] 2 (.int (x2 + 1))))) t = some (.lst [.int x0, .int x1, .int (x2 + 1)]) := upd_same
    refine ⟨_, rfl, t, _, _, _, rfl, rfl, SqL.of hT2, rfl, _, rfl, t, _, _, _, rfl, rfl, SqL.of hT2, rfl, _, _, rfl, rfl, ?_, _, _, rfl, rfl, _, _, rfl, rfl, ⟨by decide, by decide, ?_⟩, ?_⟩
    · exact wide_mul (a := 64) (b := 64) (by decide) (by omega) (by decide) (by decide) (by decide)
    · have e : (10 : Int) ^ 46 = 10000000000000000000000000000000000000000000000 := by decide
      rw [e] at p2
      have : (x1 + 122949823 * (x2 + 1)).natAbs < 2 ^ 200 := by omega
      exact p4000 this
    refine ⟨_, _, rfl, rfl, ⟨by decide, by decide, by decide⟩, _, _, rfl, rfl, _, _, rfl, rfl, (by show (0 : Int) < _; decide), ?_⟩
    have z0 : 0 ≤ ((x1 + 122949823 * (x2 + 1)) ^ (3 : Int).toNat % (10 ^ (43 : Int).toNat + 57)) := Int.emod_nonneg _ (by decide)
    have z1 : ((x1 + 122949823 * (x2 + 1)) ^ (3 : Int).toNat % (10 ^ (43 : Int).toNat + 57)) < 10 ^ (43 : Int).toNat + 57 := Int.emod_lt_of_pos _ (by decide)
    have zz : ∀ z : Int, 0 ≤ z → z < 10 ^ (43 : Int).toNat + 57 → (z + 67867979 * (x2 + 1)).natAbs < 2 ^ 200 := fun z z0 z1 => by
      have e : (10 : Int) ^ (43 : Int).toNat = 10000000000000000000000000000000000000000000 := by decide
      rw [e] at z1
      omega
    refine ⟨_, rfl, _, rfl, t, _, _, _, rfl, rfl, SqL.of hT2, rfl, _, _, rfl, rfl, ?_, _, _, rfl, rfl, _, _, rfl, rfl, ⟨by decide, by decide, ?_⟩, ?_⟩
    · exact wide_mul (a := 64) (b := 64) (by decide) (by omega) (by decide) (by decide) (by decide)
    · exact p4000 (zz _ z0 z1)
    refine ⟨_, _, rfl, rfl, ⟨by decide, by decide, by decide⟩, _, _, rfl, rfl, _, _, rfl, rfl, (by show (0 : Int) < _; decide), ?_⟩
    refine ⟨_, rfl, _, _, rfl, rfl, wide_div (b := 1000) (by decide) (by decide) (by decide) (by decide), _, rfl, _, _, rfl, rfl, by omega, ?_⟩
    exact q _ _ (Int.emod_nonneg _ (by omega)) (Int.emod_lt_of_pos _ (by omega)) ExB.upd ⟨_, _, _, upd_same, p1, p2, by omega, by omega⟩
def sp__law_value (K : PySem.W.Frag) : Sp := fun vs H Q _ => ∃ t, ∃ s n m : Int, vs = [.ref t, .int s, .int n] ∧ Mug H t m ∧ 0 ≤ s ∧ s < 6 ∧ 1 ≤ n ∧ n ≤ 1000 ∧ 0 ≤ m ∧ m ≤ 990000 ∧
  ∀ r H', -10 ^ 30 ≤ r → r ≤ 10 ^ 30 → ExB t H H' → Mug H' t (m + 2) → Q (.int r) H'
theorem ok__law_value {f : Addr} {fd : FuncData} (D : DefAt K mg "_law_value" s__law_value ["fount", "style", "count"] f fd) (T : Top mg) (c__law_sip : C8.Cal P w K mg base 1 "_law_sip" (sp__law_sip K) []) :
    C8.Cal P w K mg base 2 "_law_value" (sp__law_value K) [] := by
  refine D.cal sc__law_value (fun vs H Q E h => ?len) fun cdv A outer s H vs Q E hr h => ?body
  case len => obtain ⟨t, s, n, m, rfl, _⟩ := h; rfl
  obtain ⟨t, s, n, m, rfl, hT, s0, s1, n0, n1, m0, m1, q⟩ := h
  refine ⟨_, (pss_cons (ps_if (pt_cmpR op_eq (pv 1) pe_int (nomark _))
        (pss_one (ps_ret (C8.pe_c c__law_sip hr (by decide) (by rfl) (pa_cons (pv 0) (pa_cons pe_int pa_nil)))))
        pss_nil)
      (pss_cons (ps_if (pt_cmpR op_eq (pv 1) pe_int (nomark _))
        (pss_one (ps_ret (C8.pe_c c__law_sip hr (by decide) (by rfl) (pa_cons (pv 0) (pa_cons (pe_op op_add (pv 2) pe_int) pa_nil)))))
        pss_nil)
      (pss_cons (ps_if (pt_cmpR op_eq (pv 1) pe_int (nomark _))
        (pss_one (ps_ret (pe_op op_sub (C8.pe_c c__law_sip hr (by decide) (by rfl) (pa_cons (pv 0) (pa_cons pe_int pa_nil))) pe_int)))
        pss_nil)
      (pss_cons (ps_if (pt_cmpR op_eq (pv 1) pe_int (nomark _))
        (pss_one (ps_ret (pe_op op_sub (C8.pe_c c__law_sip hr (by decide) (by rfl) (pa_cons (pv 0) (pa_cons (pe_op op_add (pe_op op_mulW pe_int (pe_op op_powW pe_int pe_int)) pe_int) pa_nil))) (pe_op op_powW pe_int pe_int))))
        pss_nil)
      (pss_cons (ps_if (pt_cmpR op_eq (pv 1) pe_int (nomark _))
        (pss_one (ps_ret (pe_ix ix_list (pe_lst (pa_cons (pe_op op_powW pe_int pe_int) (pa_cons (pe_op op_sub (pe_op op_powW pe_int pe_int) pe_int) (pa_cons (pe_op op_sub pe_int (pe_op op_powW pe_int pe_int)) (pa_cons (pe_op op_sub pe_int (pe_op op_powW pe_int pe_int)) pa_nil))))) (C8.pe_c c__law_sip hr (by decide) (by rfl) (pa_cons (pv 0) (pa_cons pe_int pa_nil))) (fun _ _ => rfl))))
        pss_nil)
      (pss_one (ps_ret (C8.pe_c c__law_sip hr (by decide) (by rfl) (pa_cons (pv 0) (pa_cons (pe_ix ix_list (pe_lst (pa_cons (pe_op op_powW pe_int pe_int) (pa_cons (pe_op op_powW pe_int pe_int) (pa_cons (pe_op op_powW pe_int pe_int) (pa_cons (pe_op op_powW pe_int pe_int) pa_nil))))) (C8.pe_c c__law_sip hr (by decide) (by rfl) (pa_cons (pv 0) (pa_cons pe_int pa_nil))) (fun _ _ => rfl)) pa_nil)))))))))), ?_⟩
  have ten : (10 : Int) ^ (30 : Int).toNat = 1000000000000000000000000000000 := by decide
  have tenp : (10 : Int) ^ 30 = 1000000000000000000000000000000 := by decide
  refine ⟨_, rfl, rfl, _, rfl, ite2 (fun _ => ?_) fun c0 => ?_⟩
  · exact ⟨_, rfl, t, 3, m, rfl, hT, by decide, p1000 (by decide), by omega, fun r H1 r0 r1 e1 T1 => q r H1 (by omega) (by omega) e1 (T1.le (by omega))⟩
  refine ⟨_, rfl, rfl, _, rfl, ite2 (fun _ => ?_) fun c1 => ?_⟩
  · exact ⟨_, rfl, _, rfl, _, _, rfl, rfl, t, _, m, rfl, hT, by omega, p1000 (by omega), by omega, fun r H1 r0 r1 e1 T1 => q r H1 (by omega) (by omega) e1 (T1.le (by omega))⟩
  refine ⟨_, rfl, rfl, _, rfl, ite2 (fun _ => ?_) fun c2 => ?_⟩
  · exact ⟨_, rfl, t, 9, m, rfl, hT, by decide, p1000 (by decide), by omega, fun r H1 r0 r1 e1 T1 => ⟨_, _, rfl, rfl, q _ H1 (by omega) (by omega) e1 (T1.le (by omega))⟩⟩
  refine ⟨_, rfl, rfl, _, rfl, ite2 (fun _ => ?_) fun c3 => ?_⟩
  · refine ⟨_, rfl, _, _, rfl, rfl, ⟨by decide, by decide, by decide⟩, _, _, rfl, rfl, wide_mul (a := 64) (b := 200) (by decide) (by decide) (by decide) (by decide) (by decide), _, _, rfl, rfl, t, _, m, rfl, hT, by decide, by decide, by omega, fun r H1 r0 r1 e1 T1 => ?_⟩
    have r1 : r < 2 * 1000000000000000000000000000000 + 1 := by rw [← ten]; exact r1
    refine ⟨_, _, rfl, rfl, ⟨by decide, by decide, by decide⟩, _, _, rfl, rfl, q _ H1 ?_ ?_ e1 (T1.le (by omega))⟩
    · rw [ten, tenp]; omega
    · rw [ten, tenp]; omega
  refine ⟨_, rfl, rfl, _, rfl, ite2 (fun _ => ?_) fun c4 => ?_⟩
  · refine ⟨_, _, rfl, rfl, ⟨by decide, by decide, by decide⟩, _, _, rfl, rfl, ⟨by decide, by decide, by decide⟩, _, _, rfl, rfl, _, _, rfl, rfl, ⟨by decide, by decide, by decide⟩, _, _, rfl, rfl, _, _, rfl, rfl, ⟨by decide, by decide, by decide⟩, _, _, rfl, rfl, by show 4 ≤ sizeLine; decide, fun p hp => ?_⟩
    have X := Evl.Ex.new (o := .lst [.int (10 ^ (30 : Int).toNat), .int (10 ^ (30 : Int).toNat - 1), .int (0 - 10 ^ (30 : Int).toNat), .int (1 - 10 ^ (30 : Int).toNat)]) hp
    have np : p ≠ t := hT.ne hp
    refine ⟨_, rfl, t, 4, m, rfl, hT.ex X, by decide, p1000 (by decide), by omega, fun r H1 r0 r1 e1 T1 => ?_⟩
    obtain ⟨v, hv, v0, v1⟩ : ∃ v : Int, atI [V.int (10 ^ (30 : Int).toNat), V.int (10 ^ (30 : Int).toNat - 1), V.int (0 - 10 ^ (30 : Int).toNat), V.int (1 - 10 ^ (30 : Int).toNat)] r = some (.int v) ∧ -10 ^ 30 ≤ v ∧ v ≤ 10 ^ 30 := by
      rcases (show r = 0 ∨ r = 1 ∨ r = 2 ∨ r = 3 by omega) with e | e | e | e <;> subst e
      · exact ⟨_, rfl, by decide, by decide⟩
      · exact ⟨_, rfl, by decide, by decide⟩
      · exact ⟨_, rfl, by decide, by decide⟩
      · exact ⟨_, rfl, by decide, by decide⟩
    exact ⟨p, _, _, _, rfl, rfl, SqL.of (e1 _ _ np upd_same), hv, q v H1 v0 v1 ((ExB.of X).trans e1) (T1.le (by omega))⟩
  refine ⟨_, rfl, _, _, rfl, rfl, ⟨by decide, by decide, by decide⟩, _, _, rfl, rfl, ⟨by decide, by decide, by decide⟩, _, _, rfl, rfl, ⟨by decide, by decide, by decide⟩, _, _, rfl, rfl, ⟨by decide, by decide, by decide⟩, by show 4 ≤ sizeLine; decide, fun p hp => ?_⟩
  have X := Evl.Ex.new (o := .lst [.int (10 ^ (3 : Int).toNat), .int (10 ^ (9 : Int).toNat), .int (10 ^ (18 : Int).toNat), .int (10 ^ (27 : Int).toNat)]) hp
  have np : p ≠ t := hT.ne hp
  refine ⟨_, rfl, t, 4, m, rfl, hT.ex X, by decide, p1000 (by decide), by omega, fun r H1 r0 r1 e1 T1 => ?_⟩
  obtain ⟨v, hv, v0, v1⟩ : ∃ v : Int, atI [V.int (10 ^ (3 : Int).toNat), V.int (10 ^ (9 : Int).toNat), V.int (10 ^ (18 : Int).toNat), V.int (10 ^ (27 : Int).toNat)] r = some (.int v) ∧ 1 ≤ v ∧ v ≤ 10 ^ 27 := by
    rcases (show r = 0 ∨ r = 1 ∨ r = 2 ∨ r = 3 by omega) with e | e | e | e <;> subst e
    · exact ⟨_, rfl, by decide, by decide⟩
    · exact ⟨_, rfl, by decide, by decide⟩
    · exact ⟨_, rfl, by decide, by decide⟩
    · exact ⟨_, rfl, by decide, by decide⟩
  have ten27 : (10 : Int) ^ 27 = 1000000000000000000000000000 := by decide
  refine ⟨p, _, _, _, rfl, rfl, SqL.of (e1 _ _ np upd_same), hv, t, v, _, rfl, T1, v0, p1000w (Int.lt_of_le_of_lt v1 (by decide)), by omega, fun r2 H2 r20 r21 e2 T2 => ?_⟩
  exact q r2 H2 (by omega) (by omega) (((ExB.of X).trans e1).trans e2) (T2.le (by omega))
theorem rgV_ints (a b : Int) : ∃ zs : List Int, rgV a b = zs.map V.int ∧ zs.length = (b - a).toNat ∧ ∀ z ∈ zs, a ≤ z ∧ z < b := by
  refine ⟨(List.range (b - a).toNat).map fun (i : Nat) => a + (i : Int), ?_, by rw [List.length_map, List.length_range], fun z hz => ?_⟩
  · unfold rgV
    rw [List.map_map]
    rfl
  · obtain ⟨i, hi, rfl⟩ := List.mem_map.mp hz
    have := List.mem_range.mp hi
    omega
theorem sum_ge_len : ∀ {l : List Int}, (∀ x ∈ l, 1 ≤ x) → (l.length : Int) ≤ l.sum := len_le_sum
def sp__law_slow (K : PySem.W.Frag) : Sp := fun vs H Q _ => ∃ t, ∃ n m : Int, vs = [.ref t, .int n] ∧ Mug H t m ∧ 1 ≤ n ∧ n ≤ 200 ∧ 0 ≤ m ∧ m ≤ 980000 ∧
  ∀ p H', ∀ xs : List Int, H p = none → ExB t H H' → Mug H' t (m + 1000) → H' p = some (.lst (xs.map V.int)) → 1 ≤ xs.length → (xs.length : Int) ≤ n → (∀ x ∈ xs, -1000000 ≤ x ∧ x ≤ 1000000) → Q (.ref p) H'
theorem ok__law_slow {f : Addr} {fd : FuncData} (D : DefAt K mg "_law_slow" s__law_slow ["fount", "count"] f fd) (T : Top mg) (c__law_sip : C8.Cal P w K mg base 1 "_law_sip" (sp__law_sip K) []) :
    C8.Cal P w K mg base 2 "_law_slow" (sp__law_slow K) [] := by
  refine D.cal sc__law_slow (fun vs H Q E h => ?len) fun cdv A outer s H vs Q E hr h => ?body
  case len => obtain ⟨t, n, m, rfl, _⟩ := h; rfl
  obtain ⟨t, n, m, rfl, hT, n0, n1, m0, m1, q⟩ := h
  refine ⟨_, (pss_cons (ps_par3 (i := 2) (j := 3) (l := 4) (by rfl) sc__law_slow.nd rfl rfl rfl (by decide) (by decide) (by decide) rfl rfl rfl (pa_cons (pe_lst (pa_cons pe_int pa_nil)) (pa_cons pe_int (pa_cons pe_int pa_nil))) (by rfl))
      (pss_cons (ps_while PassesOwn.never (pt_cmpR op_le (pe_op op_add (pe_callB (cr_sumA rfl) (by rfl) T.sum (by decide +kernel) (pa_cons (pv 2) pa_nil)) (pv 3)) (pv 1) (nomark _))
        (pss_cons (ps_set (i := 2) sc__law_slow.nd rfl (.inl rfl) (pe_op op_cat (pe_lst (pa_cons (pe_callB (call_max2 rfl) (by rfl) T.max (by decide +kernel) (pa_cons pe_int (pa_cons (pe_op op_add (pv 3) (pe_op op_mulW (C8.pe_c c__law_sip hr (by decide) (by rfl) (pa_cons (pv 0) (pa_cons pe_int pa_nil))) (pe_op op_sub (C8.pe_c c__law_sip hr (by decide) (by rfl) (pa_cons (pv 0) (pa_cons pe_int pa_nil))) pe_int))) pa_nil))) pa_nil)) (pv 2)))
          (pss_one (ps_par (i := 3) (j := 4) (by rfl) sc__law_slow.nd rfl rfl (by decide) rfl rfl (pa_cons (pv 4) (pa_cons (pe_op op_add (pv 3) (pv 4)) pa_nil)) (by rfl)))))
      (pss_cons (ps_par (i := 5) (j := 6) (by rfl) sc__law_slow.nd rfl rfl (by decide) rfl rfl (pa_cons (pe_lst pa_nil) (pa_cons (pe_op op_mulW pe_int (pe_callB call_len_seq (by rfl) T.len (by decide +kernel) (pa_cons (pv 2) pa_nil))) pa_nil)) (by rfl))
      (pss_cons (ps_for PassesOwn.never rfl (pi_list (pv 2)) (pg_name (i := 7) sc__law_slow.nd rfl (.inl rfl))
        (pss_cons (ps_set (i := 5) sc__law_slow.nd rfl (.inl rfl) (pe_op op_cat (pv 5) (pe_listRg rfl (by rfl) T.list (prg_2 (by rfl) T.range (pv 6) (pe_op op_add (pv 6) (pv 7))))))
          (pss_one (ps_set (i := 6) sc__law_slow.nd rfl (.inl rfl) (pe_op op_sub (pv 6) pe_int)))))
      (pss_one (ps_ret (pe_slice sl_list (pv 5) (po_some (pe_callB (call_max2 rfl) (by rfl) T.max (by decide +kernel) (pa_cons pe_int (pa_cons (pe_op op_sub (pe_callB call_len_seq (by rfl) T.len (by decide +kernel) (pa_cons (pv 5) pa_nil)) (pv 1)) pa_nil)))) po_none))))))), ?_⟩
  refine ⟨by show 1 ≤ sizeLine; decide, fun p1 hp1 => ?_⟩
  have X1 := Evl.Ex.new (o := .lst [.int 2]) hp1
  refine ⟨_, _, _, rfl, ?_⟩
  refine ⟨fun mm σ H' => ∃ (ls : List Int) (p : Addr) (o w k : Int), σ = [some (.ref t), some (.int n), some (.ref p), some (.int o), some (.int w), none, none, none] ∧ mm = (410 - ls.sum).toNat ∧ ExB t H H' ∧ Mug H' t (m + 2 * k) ∧ p ≠ t ∧ H' p = some (.lst (ls.map V.int)) ∧
      (∀ x ∈ ls, 1 ≤ x) ∧ 2 ≤ ls.sum ∧ ls.sum ≤ 402 ∧ 1 ≤ o ∧ o ≤ w ∧ w ≤ 2 * o ∧ o ≤ 400 ∧ 0 ≤ k ∧ k + 1 ≤ ls.sum,
    ⟨_, [2], p1, 1, 2, 0, rfl, rfl, ExB.of X1, (hT.ex X1).le (by omega), hT.ne hp1, upd_same, fun x hx => by rw [List.mem_singleton] at hx; omega, by decide, by decide, by decide, by decide, by decide, by decide, by decide, by decide⟩, ?_⟩
  rintro mm σ H2 ⟨ls, p, o, w, k, rfl, rfl, E2, T2, np, hp, hls, s0, s1, o1, ow, w2, o4, k0, k1⟩
  refine ⟨_, rfl, p, _, rfl, .inl (SqL.of hp), _, rfl, _, _, rfl, rfl, _, rfl, _, _, rfl, rfl, _, rfl, ite2 (fun t0 => ?_) fun t0 => ?_⟩
  · have t0 : ls.sum + o ≤ n := of_decide_eq_true t0
    refine ⟨_, fun _ _ h => h, ?_⟩
    -- the next length
    refine ⟨_, rfl, _, rfl, t, 2, _, rfl, T2, by decide, p1000 (by decide), by omega, fun r1 H3 r10 r11 e3 T3 => ?_⟩
    refine ⟨_, rfl, t, 3, _, rfl, T3, by decide, p1000 (by decide), by omega, fun r2 H4 r20 r21 e4 T4 => ?_⟩
    have hmul : CMulW r1 (r2 - 1) := wide_mul (a := 10) (b := 10) (by rw [show (2 : Nat) ^ 10 = 1024 by decide]; omega) (by rw [show (2 : Nat) ^ 10 = 1024 by decide]; omega) (by decide) (by decide) (by decide)
    refine ⟨_, _, rfl, rfl, _, _, rfl, rfl, hmul, _, _, rfl, rfl, _, _, rfl, by show 1 ≤ sizeLine; decide, fun pz hpz => ?_⟩
    obtain ⟨z, hz⟩ : ∃ z : Int, z = (if o + r1 * (r2 - 1) > 1 then o + r1 * (r2 - 1) else 1) := ⟨_, rfl⟩
    have hzz : 1 ≤ z ∧ z ≤ o + 1 := by
      rw [hz]
      rcases (show r1 = 0 ∨ r1 = 1 by omega) with e | e <;> subst e
      · rw [Int.zero_mul]; split <;> omega
      · rw [Int.one_mul]; split <;> omega
    have Xz := Evl.Ex.new (o := .lst [.int (if o + r1 * (r2 - 1) > 1 then o + r1 * (r2 - 1) else 1)]) hpz
    have hp4 := e4 _ _ np (e3 _ _ np hp)
    have hll := sum_ge_len hls
    have nzp : pz ≠ p := by rintro rfl; rw [hp4] at hpz; cases hpz
    refine ⟨_, rfl, pz, p, [V.int (if o + r1 * (r2 - 1) > 1 then o + r1 * (r2 - 1) else 1)], _, rfl, rfl, upd_same, Xz _ _ hp4, ?_, fun pn hpn => ?_⟩
    · rw [List.length_map]; exact Nat.le_of_lt (small1000 (by show 1 + ls.length ≤ 1000; omega))
    have Xn := Evl.Ex.new (o := .lst ([V.int (if o + r1 * (r2 - 1) > 1 then o + r1 * (r2 - 1) else 1)] ++ ls.map V.int)) hpn
    have T6 := (T4.ex Xz).ex Xn
    refine ⟨_, rfl, _, rfl, _, rfl, _, _, rfl, rfl, _, _, rfl, ?_⟩
    refine ⟨(410 - (z :: ls).sum).toNat, ?_, z :: ls, pn, w, o + w, k + 1, rfl, rfl, ((E2.trans e3).trans e4).trans ((ExB.of Xz).trans (ExB.of Xn)), T6.le (by omega), (T4.ex Xz).ne hpn, ?_, fun x hx => ?_, ?_, ?_, by omega, by omega, by omega, by omega, by omega, ?_⟩
    · rw [List.sum_cons]; omega
    · rw [upd_same, hz]; rfl
    · rcases List.mem_cons.mp hx with e | e
      · rw [e]; exact hzz.1
      · exact hls x e
    · rw [List.sum_cons]; omega
    · rw [List.sum_cons]; omega
    · rw [List.sum_cons]; omega
  · -- the runs
    have hll := sum_ge_len hls
    refine ⟨Nat.zero_le _, fun fl hfl => ?_⟩
    have X3 := Evl.Ex.new (o := .lst []) hfl
    have hmul : CMulW 200 ((ls.map V.int).length : Int) := wide_mul (a := 10) (b := 20) (by decide) (by rw [List.length_map, show (2 : Nat) ^ 20 = 1048576 by decide]; omega) (by decide) (by decide) (by decide)
    refine ⟨_, rfl, p, _, rfl, .inl (SqL.of (X3 _ _ hp)), _, _, rfl, rfl, hmul, _, _, rfl, ?_⟩
    rw [List.length_map]
    have T3 := T2.ex X3
    have hp3 := X3 _ _ hp
    have nfl : fl ≠ t := T2.ne hfl
    have zfl : H fl = none := none_back E2 nfl hfl
    refine ⟨_, rfl, p, rfl, ⟨_, SqL.of hp3⟩, ?_⟩
    refine for_list (K := K) (a := p) (xs := ls.map V.int) (fun i σ H' => ExB t H H' ∧ Mug H' t (m + 900) ∧ H' p = some (.lst (ls.map V.int)) ∧ ∃ (f : Addr) (zs : List Int) (y7 : Option V), f ≠ t ∧ H f = none ∧ H' f = some (.lst (zs.map V.int)) ∧ (zs.length : Int) = (ls.take i).sum ∧ (∀ x ∈ zs, -1000000 ≤ x ∧ x ≤ 1000000) ∧
        σ = [some (.ref t), some (.int n), some (.ref p), some (.int o), some (.int w), some (.ref f), some (.int (200 * (ls.length : Int) - 200 * i)), y7])
      ⟨E2.trans (ExB.of X3), T3.le (by omega), hp3, fl, [], none, nfl, zfl, upd_same, rfl, fun x hx => (List.not_mem_nil hx).elim, ?_⟩ (fun i σ H' _ h => SqL.of h.2.2.1) ?_ ?_
    · rw [show 200 * (ls.length : Int) - 200 * ((0 : Nat) : Int) = 200 * (ls.length : Int) by omega]
      rfl
    · rintro i x σ H5 hx ⟨E5, T5, hp5, f, zs, y7, nf, zf, hf, hzl, hzb, rfl⟩
      have hi : i < ls.length := by
        have := (List.getElem?_eq_some_iff.mp hx).1
        rwa [List.length_map] at this
      have ex : x = .int (g ls i) := by
        rw [List.getElem?_map, g_get hi] at hx
        exact (Option.some.inj hx).symm
      subst ex
      have hgi := hls _ (g_mem hi)
      have hsplit : ls.sum = (ls.take i).sum + (g ls i + (ls.drop (i + 1)).sum) := by
        conv => lhs; rw [← List.take_append_drop i ls, List.sum_append]
        rw [List.drop_eq_getElem_cons hi, List.sum_cons]
        have : ls[i] = g ls i := by
          have := g_get hi
          rw [List.getElem?_eq_getElem hi] at this
          exact Option.some.inj this
        rw [this]
      have hdr := sum_nonneg (l := ls.drop (i + 1)) fun x hx => hls x (List.mem_of_mem_drop hx)
      have htk : (ls.take (i + 1)).sum = (ls.take i).sum + g ls i := by
        rw [List.take_add_one, g_get hi, List.sum_append]
        show _ + (g ls i + 0) = _
        omega
      have htn := sum_nonneg (l := ls.take i) fun x hx => hls x (List.mem_of_mem_take hx)
      refine ⟨_, rfl, _, rfl, _, rfl, _, rfl, _, _, rfl, rfl, _, _, rfl, rfl, ⟨by omega, by omega, by omega, by omega, by omega⟩, fun qr hqr => ?_⟩
      obtain ⟨us, hus, hul, hub⟩ := rgV_ints (200 * (ls.length : Int) - 200 * i) (200 * (ls.length : Int) - 200 * i + g ls i)
      rw [hus]
      have Xq := Evl.Ex.new (o := .lst (us.map V.int)) hqr
      have nqf : f ≠ qr := ne_of_none hf hqr
      refine ⟨f, qr, _, _, rfl, rfl, Xq _ _ hf, upd_same, ?_, fun pn hpn => ?_⟩
      · rw [List.length_map, List.length_map]; exact Nat.le_of_lt (small1000 (by omega))
      have Xn := Evl.Ex.new (o := .lst (zs.map V.int ++ us.map V.int)) hpn
      have T7 := (T5.ex Xq).ex Xn
      have npn : pn ≠ t := (T5.ex Xq).ne hpn
      have E7 := (E5.trans (ExB.of Xq)).trans (ExB.of Xn)
      refine ⟨_, rfl, _, _, rfl, rfl, E7, T7, Xn _ _ (Xq _ _ hp5), pn, zs ++ us, some (.int (g ls i)), npn, none_back (E5.trans (ExB.of Xq)) npn hpn, ?_, ?_, fun x hx => ?_, ?_⟩
      · rw [upd_same, List.map_append]
      · rw [List.length_append, htk, hul]; omega
      · rcases List.mem_append.mp hx with h | h
        · exact hzb x h
        · have := hub x h; omega
      · show [some (V.ref t), some (V.int n), some (V.ref p), some (V.int o), some (V.int w), some (V.ref pn), some (V.int (200 * (ls.length : Int) - 200 * (i : Int) - 200)), some (V.int (g ls i))] = _
        rw [show 200 * (ls.length : Int) - 200 * (i : Int) - 200 = 200 * (ls.length : Int) - 200 * ((i + 1 : Nat) : Int) by omega]
    · rintro σ H5 ⟨E5, T5, hp5, f, zs, y7, nf, zf, hf, hzl, hzb, rfl⟩
      rw [List.length_map, List.take_length] at hzl
      dsimp only [tNoPart]
      refine ⟨_, rfl, _, rfl, f, _, rfl, .inl (SqL.of hf), _, rfl, _, _, rfl, rfl, _, _, rfl, ?_⟩
      rw [show (zs.map V.int).length = zs.length from List.length_map _]
      obtain ⟨b, hb⟩ : ∃ b : Nat, (if (zs.length : Int) - n > 0 then (zs.length : Int) - n else 0) = (b : Int) := ⟨(if (zs.length : Int) - n > 0 then (zs.length : Int) - n else 0).toNat, by split <;> omega⟩
      have hb2 : b < zs.length ∧ ((zs.length - b : Nat) : Int) ≤ n := by
        split at hb <;> omega
      rw [hb]
      refine ⟨_, rfl, f, _, rfl, SqL.of hf, fun r hr' => ?_⟩
      have ec : cutV (zs.map V.int) (some (b : Int)) none = (zs.drop b).map V.int := by rw [cut_drop, List.map_drop]
      rw [ec]
      have Xr := Evl.Ex.new (o := .lst ((zs.drop b).map V.int)) hr'
      have nr : r ≠ t := T5.ne hr'
      refine q r _ (zs.drop b) (none_back E5 nr hr') (E5.trans (ExB.of Xr)) ((T5.ex Xr).le (by omega)) upd_same ?_ ?_ fun x hx => hzb x (List.mem_of_mem_drop hx)
      · rw [List.length_drop]; omega
      · rw [List.length_drop]; omega
def sp__law_spans (K : PySem.W.Frag) : Sp := fun vs H Q _ => ∃ a, ∃ xs : List Int, vs = [.ref a] ∧ SqT K H a (xs.map V.int) ∧ xs.length ≤ 200 ∧
  ∀ p H', H p = none → Ex H H' → PT H' p ((spans xs).map V.int) → Q (.ref p) H'
theorem ok__law_spans {f : Addr} {fd : FuncData} (D : DefAt K mg "_law_spans" s__law_spans ["row"] f fd) (T : Top mg)  :
    C8.Cal P w K mg base 1 "_law_spans" (sp__law_spans K) [] := by
  refine D.cal sc__law_spans (fun vs H Q E h => ?len) fun cdv A outer s H vs Q E hr h => ?body
  case len => obtain ⟨a, xs, rfl, _⟩ := h; rfl
  obtain ⟨a, xs, rfl, hS, hz, q⟩ := h
  refine ⟨_, (pss_cons (ps_set (i := 1) sc__law_spans.nd rfl (.inl rfl) (pe_lst pa_nil))
      (pss_cons (ps_for PassesOwn.never rfl (pi_enumT (by rfl) T.enumerate (pa_cons (pv 0) pa_nil)) (pg_tup rfl (pgs_cons (pg_name (i := 2) sc__law_spans.nd rfl (.inl rfl)) (pgs_cons (pg_name (i := 3) sc__law_spans.nd rfl (.inl rfl)) pgs_nil)))
        (pss_cons (ps_set (i := 4) sc__law_spans.nd rfl (.inl rfl) (pv 2))
          (pss_cons (ps_while PassesOwn.never (PW.pt (pw_and (pt_cmpR op_gt (pv 4) pe_int (nomark _)) (pw_and1 (pt_cmpR op_lt (pe_ix ix_tup (pv 0) (pe_op op_sub (pv 4) pe_int) (fun _ _ => rfl)) (pv 3) (nomark _)))))
            (pss_one (ps_set (i := 4) sc__law_spans.nd rfl (.inl rfl) (pe_op op_sub (pv 4) pe_int))))
          (pss_one (ps_expr (pe_bm PySem.F.plainAttrs_list PySem.F.slot_list_append PySem.F.type_list_append mt_append (pv 1) (pa_cons (pe_op op_add (pe_op op_sub (pv 2) (pv 4)) pe_int) pa_nil)))))))
      (pss_one (ps_ret (pe_callTy cr_tupleP (by rfl) T.tuple (by decide +kernel) (pa_cons (pv 1) pa_nil)))))), ?_⟩
  refine ⟨Nat.zero_le _, fun fl hfl => ?_⟩
  have X0 := Evl.Ex.new (o := .lst []) hfl
  refine ⟨_, rfl, a, _, rfl, Evl.ex_t X0 hS, ?_⟩
  refine for_enumT (K := K) (a := a) (xs := xs.map V.int) (fun i σ H' => Ex H H' ∧ H' fl = some (.lst (((spans xs).take i).map V.int)) ∧ ∃ y2 y3 y4 : Option V, σ = [some (.ref a), some (.ref fl), y2, y3, y4])
    ⟨X0, upd_same, _, _, _, rfl⟩ (fun i σ H' h => Evl.ex_t h.1 hS) ?_ ?_
  · rintro i x T' σ H1 hx ⟨X1, hfl1, y2, y3, y4, rfl⟩ hT
    have hi : i < xs.length := by
      have := (List.getElem?_eq_some_iff.mp hx).1
      rwa [List.length_map] at this
    have ex : x = .int (g xs i) := by
      rw [List.getElem?_map, g_get hi] at hx
      exact (Option.some.inj hx).symm
    subst ex
    have X2 := Evl.Ex.new (o := .tup [.int (i : Nat), .int (g xs i)]) hT
    have hS2 := Evl.ex_t (X1.trans X2) hS
    have hfl2 := X2 _ _ hfl1
    refine ⟨T', _, rfl, SqT.of upd_same, rfl, _, _, rfl, _, _, rfl, rfl, ?_⟩
    refine ⟨_, rfl, ?_⟩
    generalize upd H1 T' (.tup [.int (i : Nat), .int (g xs i)]) = H2 at X2 hS2 hfl2 ⊢
    refine ⟨fun m σ H' => H' = H2 ∧ ∃ f : Nat, σ = [some (.ref a), some (.ref fl), some (.int i), some (.int (g xs i)), some (.int f)] ∧ f ≤ i ∧ bk xs (g xs i) f = bk xs (g xs i) i ∧ m = f, ⟨i, rfl, i, rfl, Nat.le_refl _, rfl, rfl⟩, ?_⟩
    rintro m σ H' ⟨rfl, f, rfl, hf, hb, rfl⟩
    have done : bk xs (g xs i) m = m → tDrop (tBM K "list" rAppend (tVar 1) (tCons (tOp (rI0 fun i j => .int (i + j)) (tOp (rI0 fun i j => .int (i - j)) (tVar 2) (tVar 4)) (tC (.int 1))) tNil))
        { nx := fun σ H' => Ex H H' ∧ H' fl = some (.lst (((spans xs).take (i + 1)).map V.int)) ∧ ∃ y2 y3 y4 : Option V, σ = [some (.ref a), some (.ref fl), y2, y3, y4], rt := fun v H => True } [some (.ref a), some (.ref fl), some (.int i), some (.int (g xs i)), some (.int m)] H' := fun hm => by
      refine ⟨_, rfl, .inl ⟨rfl, _, SqL.of hfl2⟩, _, rfl, _, rfl, _, _, rfl, rfl, _, _, rfl, rfl, fl, _, _, rfl, rfl, hfl2, ?_, ?_⟩
      · rw [List.length_map, List.length_take]; exact small1000 (by omega)
      · refine ⟨Evl.Ex.mut (X1.trans X2) hfl, ?_, _, _, _, rfl⟩
        rw [upd_same, List.take_add_one]
        have hg : (spans xs)[i]? = some ((i : Int) - m + 1) := by
          rw [g_get (by rw [spans_len]; exact hi), spans_g hi]
          unfold spn
          rw [← hb, hm]
        rw [hg, List.map_append]
        rfl
    refine ⟨_, rfl, _, _, rfl, rfl, _, rfl, ?_⟩
    refine ite2 (fun t => ?_) fun t => ?_
    · have t := of_decide_eq_true t
      have em : (m : Int) - 1 = ((m - 1 : Nat) : Int) := by omega
      have hat : atI (xs.map V.int) ((m : Int) - 1) = some (.int (g xs (m - 1))) := by rw [em]; exact atN (by omega)
      refine ⟨_, rfl, _, rfl, _, _, rfl, rfl, a, _, _, _, rfl, rfl, hS2, hat, _, rfl, _, _, rfl, rfl, _, rfl, ?_⟩
      refine ite2 (fun t2 => ?_) fun t2 => ?_
      · have t2 := of_decide_eq_true t2
        refine ⟨_, fun _ _ h => h, ?_⟩
        refine ⟨_, rfl, _, _, rfl, rfl, m - 1, by omega, rfl, m - 1, ?_, by omega, ?_, rfl⟩
        · rw [← em]; rfl
        · rw [← hb]
          obtain ⟨k, rfl⟩ : ∃ k, m = k + 1 := ⟨m - 1, by omega⟩
          show bk xs (g xs i) k = if g xs k < g xs i then bk xs (g xs i) k else k + 1
          rw [if_pos (show g xs k < g xs i from t2)]
      · have t2 : ¬ g xs (m - 1) < g xs i := fun h => t2 (decide_eq_true h)
        refine done ?_
        obtain ⟨k, rfl⟩ : ∃ k, m = k + 1 := ⟨m - 1, by omega⟩
        show (if g xs k < g xs i then bk xs (g xs i) k else k + 1) = k + 1
        rw [if_neg (show ¬ g xs k < g xs i from t2)]
    · have t : ¬ (0 : Int) < m := fun h => t (decide_eq_true h)
      have e0 : m = 0 := by omega
      refine iteF (done ?_)
      rw [e0]; rfl
  · rintro σ H1 ⟨X1, hfl1, y2, y3, y4, rfl⟩
    rw [List.length_map, List.take_of_length_le (by rw [spans_len]; exact Nat.le_refl _)] at hfl1
    refine ⟨_, rfl, fl, _, rfl, SqL.of hfl1, fun r ob hr' o1 o2 => ?_⟩
    exact q r _ (Evl.fresh_back X1 hr') (X1.trans (Evl.Ex.new hr')) ⟨ob, upd_same, o1, o2⟩
def sp__law_far (K : PySem.W.Frag) : Sp := fun vs H Q _ => ∃ a, ∃ xs : List Int, ∃ v : Int, vs = [.ref a, .int v] ∧ PT H a (xs.map V.int) ∧ xs.length ≤ 200 ∧ 0 ≤ v ∧
  ∀ p H', Ex H H' → PT H' p ((ro v.toNat xs).map V.int) → Q (.ref p) H'
theorem ok__law_far {f : Addr} {fd : FuncData} (D : DefAt K mg "_law_far" s__law_far ["row", "many"] f fd) (T : Top mg) (c__law_spans : C8.Cal P w K mg base 1 "_law_spans" (sp__law_spans K) []) :
    C8.Cal P w K mg base 2 "_law_far" (sp__law_far K) [] := by
  refine D.cal sc__law_far (fun vs H Q E h => ?len) fun cdv A outer s H vs Q E hr h => ?body
  case len => obtain ⟨a, xs, v, rfl, _⟩ := h; rfl
  obtain ⟨a, xs, v, rfl, hP, hz, v0, q⟩ := h
  refine ⟨_, (pss_cons (ps_set (i := 2) sc__law_far.nd rfl (.inl rfl) pe_int)
      (pss_cons (ps_while PassesOwn.never (pt_cmpR op_lt (pv 2) (pv 1) (nomark _))
        (pss_cons (ps_set (i := 3) sc__law_far.nd rfl (.inl rfl) (C8.pe_c c__law_spans hr (by decide) (by rfl) (pa_cons (pv 0) pa_nil)))
          (pss_cons (ps_if (pt_cmpR (op_eqD hr.units) (pv 3) (pv 0) (nomark _))
            (pss_one (ps_ret (pv 0)))
            pss_nil)
          (pss_one (ps_par (i := 0) (j := 2) (by rfl) sc__law_far.nd rfl rfl (by decide) rfl rfl (pa_cons (pv 3) (pa_cons (pe_op op_add (pv 2) pe_int) pa_nil)) (by rfl))))))
      (pss_one (ps_ret (pv 0))))), ?_⟩
  obtain ⟨n, hn⟩ := nd_ex xs
  refine ⟨fun m σ H' => ∃ (k : Nat) (r : Addr), k + m = n ∧ (k : Int) ≤ v ∧ Ex H H' ∧ PT H' r ((ro k xs).map V.int) ∧ ∃ y3 : Option V, σ = [some (.ref r), some (.int v), some (.int (k : Int)), y3],
    ⟨n, 0, a, by omega, by omega, Evl.Ex.refl _, hP, _, rfl⟩, ?_⟩
  rintro m σ H1 ⟨k, r, hkm, hkv, X1, hR, y3, rfl⟩
  refine ⟨_, rfl, _, rfl, _, _, rfl, rfl, _, rfl, ite2 (fun t => ?_) fun t => ?_⟩
  · have t : (k : Int) < v := of_decide_eq_true t
    refine ⟨_, fun _ _ h => h, ?_⟩
    refine ⟨_, rfl, r, _, rfl, hR.sq, by rw [ro_len]; exact hz, fun p H2 hp X2 hp2 => ?_⟩
    have hR2 := hR.ex X2
    refine ⟨_, rfl, _, rfl, .tuple ((ro (k + 1) xs).map PyData.int), .tuple ((ro k xs).map PyData.int), .tup hp2.sq (dp_ints _), .tup hR2.sq (dp_ints _), shaped_tup _, shaped_tup _, _, rfl, ?_⟩
    rw [eqv_tup]
    by_cases e : ro (k + 1) xs = ro k xs
    · rw [decide_eq_true e]
      refine iteT ⟨_, rfl, ?_⟩
      have := q r H2 (X1.trans X2)
      have e2 : ro v.toNat xs = ro k xs := by
        rw [ro_far (n := k) e, show min v.toNat k = k by omega]
      rw [e2] at this
      exact this hR2
    · rw [decide_eq_false e]
      refine iteF ?_
      have hk : k < n := by
        rcases Nat.lt_or_ge k n with h | h
        · exact h
        · have hkn : k = n := by omega
          exact absurd (by rw [hkn]; exact hn.still) e
      refine ⟨_, rfl, _, rfl, _, _, rfl, rfl, _, _, rfl, m - 1, by omega, k + 1, p, by omega, by omega, X1.trans X2, hp2, _, rfl⟩
  · have t : ¬ (k : Int) < v := fun e => t (decide_eq_true e)
    refine ⟨_, rfl, ?_⟩
    have hkv : v.toNat = k := by omega
    rw [hkv] at q
    exact q r H1 X1 hR
def sp__law_row (K : PySem.W.Frag) : Sp := fun vs H Q _ => ∃ t, ∃ n m : Int, vs = [.ref t, .int n] ∧ Mug H t m ∧ 1 ≤ n ∧ n ≤ 100 ∧ 0 ≤ m ∧ m ≤ 900000 ∧
  ∀ p H' xs, H p = none → ExB t H H' → Mug H' t (m + 5000) → PT H' p (xs.map V.int) → Rw xs → (xs.length : Int) ≤ n → Q (.ref p) H'
theorem ok__law_row {f : Addr} {fd : FuncData} (D : DefAt K mg "_law_row" s__law_row ["fount", "most"] f fd) (T : Top mg) (c__law_sip : C8.Cal P w K mg base 1 "_law_sip" (sp__law_sip K) []) (c__law_value : C8.Cal P w K mg base 2 "_law_value" (sp__law_value K) []) (c__law_slow : C8.Cal P w K mg base 2 "_law_slow" (sp__law_slow K) []) (c__law_spans : C8.Cal P w K mg base 1 "_law_spans" (sp__law_spans K) []) :
    C8.Cal P w K mg base 3 "_law_row" (sp__law_row K) [] := by
  refine D.cal sc__law_row (fun vs H Q E h => ?len) fun cdv A outer s H vs Q E hr h => ?body
  case len => obtain ⟨t, n, m, rfl, _⟩ := h; rfl
  obtain ⟨t, n, m, rfl, hT, n0, n1, m0, m1, q⟩ := h
  refine ⟨_, (pss_cons (ps_set (i := 2) sc__law_row.nd rfl (.inr rfl) (pe_ix ix_list (pe_lst (pa_cons (pe_op op_add pe_int (C8.pe_c c__law_sip hr (by decide) (by rfl) (pa_cons (pv 0) (pa_cons (pv 1) pa_nil)))) (pa_cons (pv 1) (pa_cons (pe_op op_add pe_int (C8.pe_c c__law_sip hr (by decide) (by rfl) (pa_cons (pv 0) (pa_cons (pe_callB (call_min2 rfl) (by rfl) T.min (by decide +kernel) (pa_cons (pv 1) (pa_cons pe_int pa_nil))) pa_nil)))) pa_nil)))) (C8.pe_c c__law_sip hr (by decide) (by rfl) (pa_cons (pv 0) (pa_cons pe_int pa_nil))) (fun _ _ => rfl)))
      (pss_cons (ps_asg (pe_tup (pa_cons (C8.pe_c c__law_sip hr (by decide) (by rfl) (pa_cons (pv 0) (pa_cons pe_int pa_nil))) (pa_cons (C8.pe_c c__law_sip hr (by decide) (by rfl) (pa_cons (pv 0) (pa_cons pe_int pa_nil))) pa_nil))) (pg_tup rfl (pgs_cons (pg_name (i := 3) sc__law_row.nd rfl (.inr rfl)) (pgs_cons (pg_name (i := 4) sc__law_row.nd rfl (.inl rfl)) pgs_nil))))
      (pss_cons (ps_set (i := 5) sc__law_row.nd rfl (.inr rfl) (pe_lc (own := [("turn", 7)]) (g := gName 7) (by rfl) sc__law_row.nd (pi_range1 (by rfl) T.range (pa_cons (pe_op op_add pe_int (C8.pe_c c__law_sip hr (by decide) (by rfl) (pa_cons (pv 0) (pa_cons pe_int pa_nil)))) pa_nil)) (blkOk_by (own := [("turn", 7)]) (N := ["fount", "most", "count", "style", "way", "few", "found", "turn"]) (sc := defScope s__law_row) (by decide +kernel)) (fun _ _ _ _ _ => (pg_name (i := 7) sc__law_row.nd rfl (.inl rfl))) (fun _ _ _ _ _ => pts_nil) (fun _ _ _ _ _ => (C8.pe_c c__law_value hr (by decide) (by rfl) (pa_cons (pv 0) (pa_cons (pv 3) (pa_cons (pv 2) pa_nil)))))))
      (pss_cons (ps_setLc (i := 6) (own := [("turn", 7)]) (g := gName 7) (by rfl) sc__law_row.nd rfl rfl (sw_true rfl rfl rfl (by decide +kernel)) (pi_range1 (by rfl) T.range (pa_cons (pv 2) pa_nil)) (blkOk_by (own := [("turn", 7)]) (N := ["fount", "most", "count", "style", "way", "few", "found", "turn"]) (sc := defScope s__law_row) (by decide +kernel)) (fun _ _ _ _ _ => (pg_name (i := 7) sc__law_row.nd rfl (.inl rfl))) (fun _ _ _ _ _ => pts_nil) (fun _ _ _ _ _ => (C8.pe_c c__law_value hr (by decide) (by rfl) (pa_cons (pv 0) (pa_cons (pv 3) (pa_cons (pv 2) pa_nil))))))
      (pss_cons (ps_if (pt_cmpR op_in_seq (pv 4) (pe_tup (pa_cons pe_int (pa_cons pe_int pa_nil))) (by with_unfolding_all rfl))
        (pss_one (ps_setLc (i := 6) (own := [("turn", 7)]) (g := gName 7) (by rfl) sc__law_row.nd rfl rfl (sw_true rfl rfl rfl (by decide +kernel)) (pi_range1 (by rfl) T.range (pa_cons (pv 2) pa_nil)) (blkOk_by (own := [("turn", 7)]) (N := ["fount", "most", "count", "style", "way", "few", "found", "turn"]) (sc := defScope s__law_row) (by decide +kernel)) (fun _ _ _ _ _ => (pg_name (i := 7) sc__law_row.nd rfl (.inl rfl))) (fun _ _ _ _ _ => pts_nil) (fun _ _ _ _ _ => (pe_ix (show IxR _ (rIxL K) from ix_list) (pv 5) (C8.pe_c c__law_sip hr (by decide) (by rfl) (pa_cons (pv 0) (pa_cons (pe_callB (show CallR _ (.builtin "len") (fun xs H Q => ∃ p ys, xs = [V.ref p] ∧ (SqL K H p ys ∨ SqT K H p ys) ∧ Q (.int (ys.length : Int)) H) from call_len_seq) (by rfl) T.len (by decide +kernel) (pa_cons (pv 5) pa_nil)) pa_nil))) (fun _ _ => rfl)))))
        pss_nil)
      (pss_cons (ps_if (pt_cmpR op_eq (pv 4) pe_int (nomark _))
        (pss_one (ps_set (i := 6) sc__law_row.nd rfl (.inl rfl) (pe_revL (pe_callB cr_sortedI (by rfl) T.sorted (by decide +kernel) (pa_cons (pv 6) pa_nil)))))
        pss_nil)
      (pss_cons (ps_if (pt_cmpR op_in_seq (pv 4) (pe_tup (pa_cons pe_int (pa_cons pe_int pa_nil))) (by with_unfolding_all rfl))
        (pss_one (ps_set (i := 6) sc__law_row.nd rfl (.inl rfl) (C8.pe_c c__law_slow hr (by decide) (by rfl) (pa_cons (pv 0) (pa_cons (pv 2) pa_nil)))))
        pss_nil)
      (pss_one (ps_ret (pe_ifExp (pt_cmpR op_gt (pv 4) pe_int (nomark _)) (C8.pe_c c__law_spans hr (by decide) (by rfl) (pa_cons (pe_callTy cr_tupleP (by rfl) T.tuple (by decide +kernel) (pa_cons (pv 6) pa_nil)) pa_nil)) (pe_callTy cr_tupleP (by rfl) T.tuple (by decide +kernel) (pa_cons (pv 6) pa_nil)))))))))))), ?_⟩
  have ten30 : (10 : Int) ^ 30 = 1000000000000000000000000000000 := by decide
  -- count
  refine ⟨_, rfl, _, rfl, t, n, m, rfl, hT, n0, p1000 (by omega), by omega, fun r1 H1 r10 r11 e1 T1 => ?_⟩
  refine ⟨_, _, rfl, rfl, _, rfl, _, rfl, _, rfl, _, _, rfl, ?_⟩
  have hm6 : 1 ≤ (if 6 < n then 6 else n) ∧ (if 6 < n then 6 else n) ≤ n := by split <;> omega
  obtain ⟨mn, hmn⟩ : ∃ z : Int, (if 6 < n then 6 else n) = z := ⟨_, rfl⟩
  rw [hmn] at hm6 ⊢
  refine ⟨t, mn, _, rfl, T1, hm6.1, p1000 (by omega), by omega, fun r2 H2 r20 r21 e2 T2 => ?_⟩
  refine ⟨_, _, rfl, rfl, by show 3 ≤ sizeLine; decide, fun p1 hp1 => ?_⟩
  have Y1 := Evl.Ex.new (o := .lst [.int (1 + r1), .int n, .int (1 + r2)]) hp1
  have np1 : p1 ≠ t := T2.ne hp1
  refine ⟨_, rfl, t, 3, _, rfl, T2.ex Y1, by decide, p1000 (by decide), by omega, fun r3 H3 r30 r31 e3 T3 => ?_⟩
  obtain ⟨cnt, hc, c0, c1⟩ := at3 (lo := 1) (hi := n) r30 r31 (x := 1 + r1) (y := n) (z := 1 + r2) ⟨by omega, by omega⟩ ⟨n0, Int.le_refl n⟩ ⟨by omega, by omega⟩
  refine ⟨p1, _, _, _, rfl, rfl, SqL.of (e3 _ _ np1 upd_same), hc, ?_⟩
  have E3 : ExB t H H3 := e1.trans (e2.trans ((ExB.of Y1).trans e3))
  clear e1 e2 e3 Y1 hp1 hc T1 T2 hmn hm6
  -- style, way
  refine ⟨_, rfl, t, 6, _, rfl, T3, by decide, p1000 (by decide), by omega, fun sty H4 sty0 sty1 e4 T4 => ?_⟩
  refine ⟨_, rfl, t, 7, _, rfl, T4, by decide, p1000 (by decide), by omega, fun way H5 way0 way1 e5 T5 => ?_⟩
  refine ⟨by show 2 ≤ sizeLine; decide, fun p2 hp2 => ?_⟩
  have Y2 := Evl.Ex.new (o := .tup [.int sty, .int way]) hp2
  refine ⟨p2, _, rfl, SqT.of upd_same, rfl, _, _, rfl, _, _, rfl, rfl, ?_⟩
  replace E3 := E3.trans (e4.trans (e5.trans (ExB.of Y2)))
  replace T5 := T5.ex Y2
  clear e4 e5 Y2 hp2 T3 T4
  generalize upd H5 p2 (.tup [.int sty, .int way]) = H6 at *
  -- few
  refine ⟨_, rfl, t, 8, _, rfl, T5, by decide, p1000 (by decide), by omega, fun r6 H7 r60 r61 e6 T6 => ?_⟩
  refine ⟨_, _, rfl, rfl, _, rfl, by omega, by omega, fun D hD => ?_⟩
  have nD : D ≠ t := T6.ne hD
  have E7 := E3.trans e6
  refine lc_range (lo := 0) (n := ((1 : Int) + r6).toNat) (fun j H' => ∃ zs : List Int, ExB t H7 H' ∧ H' D = some (.lst (zs.map V.int)) ∧ zs.length = j ∧ (∀ x ∈ zs, -10 ^ 30 ≤ x ∧ x ≤ 10 ^ 30) ∧ Mug H' t (m + 10 + 2 * j))
    ⟨[], ExB.of (Evl.Ex.new hD), upd_same, rfl, fun x hx => (List.not_mem_nil hx).elim, (T6.ex (Evl.Ex.new hD)).le (by omega)⟩ ?_ ?_
  · rintro j H8 hj ⟨zs, E8, hz, hzl, hzb, T8⟩
    refine ⟨rfl, ?_⟩
    dsimp only [tYes]
    rw [if_pos rfl]
    refine ⟨_, rfl, _, rfl, _, rfl, t, sty, cnt, _, rfl, T8, sty0, sty1, c0, by omega, by omega, by omega, fun r H9 r0 r1 e9 T9 => ?_⟩
    refine ⟨_, e9 _ _ nD hz, ?_, zs ++ [r], fun b' o' n' h' => ?_, ?_, ?_, fun x hx => ?_, ?_⟩
    · rw [List.length_map]; exact small1000 (by omega)
    · have h9 := e9 _ _ n' (E8 _ _ n' h')
      rw [upd_ne (ne_of_none h' hD)]; exact h9
    · rw [upd_same, List.map_append]; rfl
    · rw [List.length_append, hzl]; rfl
    · rcases List.mem_append.mp hx with hx | hx
      · exact hzb x hx
      · rw [List.mem_singleton] at hx; omega
    · exact (T9.exB (b := D) (ExB.upd) nD.symm).le (by omega)
  rintro H8 ⟨few, E8, hf8, hfl, hfb, T8⟩
  have E08 := E7.trans E8
  have hx : (1 : Int) + r6 ≤ 8 := by omega
  clear hD E7 E3 e6 T6 T5
  refine ⟨_, rfl, _, rfl, by omega, by omega, fun D2 hD2 => ?_⟩
  have nD2 : D2 ≠ t := T8.ne hD2
  have nDD : D ≠ D2 := ne_of_none hf8 hD2
  refine lc_range (lo := 0) (n := cnt.toNat) (fun j H' => ∃ zs : List Int, ExB t H8 H' ∧ H' D2 = some (.lst (zs.map V.int)) ∧ zs.length = j ∧ (∀ x ∈ zs, -10 ^ 30 ≤ x ∧ x ≤ 10 ^ 30) ∧ Mug H' t (m + 30 + 2 * j))
    ⟨[], ExB.of (Evl.Ex.new hD2), upd_same, rfl, fun x hx => (List.not_mem_nil hx).elim, (T8.ex (Evl.Ex.new hD2)).le (by omega)⟩ ?_ ?_
  · rintro j H9 hj ⟨zs, E9, hz, hzl, hzb, T9⟩
    refine ⟨rfl, ?_⟩
    dsimp only [tYes]
    rw [if_pos rfl]
    refine ⟨_, rfl, _, rfl, _, rfl, t, sty, cnt, _, rfl, T9, sty0, sty1, c0, by omega, by omega, by omega, fun r H10 r0 r1 e10 T10 => ?_⟩
    refine ⟨_, e10 _ _ nD2 hz, ?_, zs ++ [r], fun b' o' n' h' => ?_, ?_, ?_, fun x hx => ?_, ?_⟩
    · rw [List.length_map]; exact small1000 (by omega)
    · have h9 := e10 _ _ n' (E9 _ _ n' h')
      rw [upd_ne (ne_of_none h' hD2)]; exact h9
    · rw [upd_same, List.map_append]; rfl
    · rw [List.length_append, hzl]; rfl
    · rcases List.mem_append.mp hx with hx | hx
      · exact hzb x hx
      · rw [List.mem_singleton] at hx; omega
    · exact (T10.exB (b := D2) (ExB.upd) nD2.symm).le (by omega)
  rintro H9 ⟨found, E9, hf9, hnl, hnb, T9⟩
  have hf89 := E9 _ _ nD hf8
  have E09 := E08.trans E9
  clear E9 E08 T8 hf8 hD2 nDD
  have hnl1 : 1 ≤ found.length := by omega
  have hnl2 : (found.length : Int) ≤ n := by omega
  have hnl3 : found.length ≤ 100 := by omega
  -- few of them
  refine ⟨_, rfl, by show 2 ≤ sizeLine; decide, fun p5 hp5 => ?_⟩
  have Y5 := Evl.Ex.new (o := .tup [.int 1, .int 5]) hp5
  refine ⟨p5, _, rfl, .inr (SqT.of upd_same), rfl, rfl, _, rfl, ?_⟩
  have hf9 := Y5 _ _ hf9
  have hfD := Y5 _ _ hf89
  replace E09 := E09.trans (ExB.of Y5)
  replace T9 := T9.ex Y5
  clear Y5 hp5 hf89
  generalize upd H9 p5 (.tup [.int 1, .int 5]) = G0 at *
  refine iteJ (fun σ H' => ExB t G0 H' ∧ Mug H' t (m + 1000) ∧ ∃ (fl : Addr) (xs : List Int) (y7 : Option V), H' fl = some (.lst (xs.map V.int)) ∧ 1 ≤ xs.length ∧ (xs.length : Int) ≤ n ∧ (∀ x ∈ xs, -10 ^ 30 ≤ x ∧ x ≤ 10 ^ 30) ∧
      σ = [some (.ref t), some (.int n), some (.int cnt), some (.int sty), some (.int way), some (.ref D), some (.ref fl), y7]) ?_ ?_ (fun _ => ⟨ExB.refl t G0, T9.le (by omega), D2, found, _, hf9, hnl1, hnl2, hnb, rfl⟩)
  rotate_left
  · intro k' _
    refine ⟨_, rfl, _, rfl, by omega, by omega, fun D3 hD3 => ?_⟩
    have nD3 : D3 ≠ t := T9.ne hD3
    refine lc_range (lo := 0) (n := cnt.toNat) (fun j H' => ∃ zs : List Int, ExB t G0 H' ∧ H' D3 = some (.lst (zs.map V.int)) ∧ zs.length = j ∧ (∀ x ∈ zs, -10 ^ 30 ≤ x ∧ x ≤ 10 ^ 30) ∧ Mug H' t (m + 400 + j))
      ⟨[], ExB.of (Evl.Ex.new hD3), upd_same, rfl, fun x hx => (List.not_mem_nil hx).elim, (T9.ex (Evl.Ex.new hD3)).le (by omega)⟩ ?_ ?_
    · rintro j H10 hj ⟨zs, E10, hz, hzl, hzb, T10⟩
      refine ⟨rfl, ?_⟩
      dsimp only [tYes]
      rw [if_pos rfl]
      have hfD10 := E10 _ _ nD hfD
      refine ⟨_, rfl, _, rfl, _, rfl, D, _, rfl, .inl (SqL.of hfD10), t, _, _, rfl, T10, by rw [List.length_map]; omega, p1000 (by rw [List.length_map]; omega), by omega, fun r H11 r0 r1' e11 T11 => ?_⟩
      rw [List.length_map] at r1'
      obtain ⟨k, rfl⟩ : ∃ k : Nat, r = (k : Int) := ⟨r.toNat, by omega⟩
      have hk : k < few.length := by omega
      refine ⟨D, _, _, _, rfl, rfl, SqL.of (e11 _ _ nD hfD10), atN hk, ?_⟩
      refine ⟨_, e11 _ _ nD3 hz, ?_, zs ++ [g few k], fun b' o' n' h' => ?_, ?_, ?_, fun x hx => ?_, ?_⟩
      · rw [List.length_map]; exact small1000 (by omega)
      · have h9 := e11 _ _ n' (E10 _ _ n' h')
        rw [upd_ne (ne_of_none h' hD3)]; exact h9
      · rw [upd_same, List.map_append]; rfl
      · rw [List.length_append, hzl]; rfl
      · rcases List.mem_append.mp hx with hx | hx
        · exact hzb x hx
        · rw [List.mem_singleton] at hx; rw [hx]; exact hfb _ (g_mem hk)
      · exact (T11.exB (b := D3) (ExB.upd) nD3.symm).le (by omega)
    rintro H10 ⟨zs, E10, hz, hzl, hzb, T10⟩
    exact k' _ _ ⟨E10, T10.le (by omega), D3, zs, _, hz, by omega, by omega, hzb, rfl⟩
  rintro σ H10 ⟨E10, T10, fl, xs, y7, hfl10, hx1, hx2, hxb, rfl⟩
  -- falling
  refine ⟨_, rfl, rfl, _, rfl, ?_⟩
  refine iteJ (fun σ H' => ExB t G0 H' ∧ Mug H' t (m + 1000) ∧ ∃ (fl : Addr) (xs : List Int) (y7 : Option V), H' fl = some (.lst (xs.map V.int)) ∧ 1 ≤ xs.length ∧ (xs.length : Int) ≤ n ∧ (∀ x ∈ xs, -10 ^ 30 ≤ x ∧ x ≤ 10 ^ 30) ∧
      σ = [some (.ref t), some (.int n), some (.int cnt), some (.int sty), some (.int way), some (.ref D), some (.ref fl), y7]) ?_ ?_ (fun _ => ⟨E10, T10, fl, xs, _, hfl10, hx1, hx2, hxb, rfl⟩)
  rotate_left
  · intro k' _
    refine ⟨_, rfl, fl, xs, rfl, SqL.of hfl10, fun ys p6 hperm _ hp6 => ?_⟩
    have Y6 := Evl.Ex.new (o := .lst (ys.map V.int)) hp6
    refine ⟨p6, _, rfl, SqL.of upd_same, fun p7 hp7 => ?_⟩
    have Y7 := Evl.Ex.new (o := .lst ((ys.map V.int).reverse)) hp7
    have hyl : ys.reverse.length = xs.length := by rw [List.length_reverse, hperm.length_eq]
    refine k' _ _ ⟨E10.trans (ExB.of (Y6.trans Y7)), (T10.ex Y6).ex Y7, p7, ys.reverse, _, by rw [upd_same, List.map_reverse], by omega, by omega, fun x hx => hxb x (hperm.mem_iff.mp (List.mem_reverse.mp hx)), rfl⟩
  clear hfl10 hx1 hx2 hxb E10 T10
  rintro σ H11 ⟨E11, T11, fl, xs, y7, hfl11, hx1, hx2, hxb, rfl⟩
  -- slow
  refine ⟨_, rfl, by show 2 ≤ sizeLine; decide, fun p8 hp8 => ?_⟩
  have Y8 := Evl.Ex.new (o := .tup [.int 3, .int 6]) hp8
  refine ⟨p8, _, rfl, .inr (SqT.of upd_same), rfl, rfl, _, rfl, ?_⟩
  have hfl12 := Y8 _ _ hfl11
  have E12 := E11.trans (ExB.of Y8)
  have T12 := T11.ex Y8
  clear E11 T11 hfl11
  refine iteJ (fun σ H' => ExB t G0 H' ∧ Mug H' t (m + 3000) ∧ ∃ (fl : Addr) (xs : List Int) (y7 : Option V), H' fl = some (.lst (xs.map V.int)) ∧ 1 ≤ xs.length ∧ (xs.length : Int) ≤ n ∧ (∀ x ∈ xs, -10 ^ 30 ≤ x ∧ x ≤ 10 ^ 30) ∧
      σ = [some (.ref t), some (.int n), some (.int cnt), some (.int sty), some (.int way), some (.ref D), some (.ref fl), y7]) ?_ ?_ (fun _ => ⟨E12, T12.le (by omega), fl, xs, _, hfl12, hx1, hx2, hxb, rfl⟩)
  rotate_left
  · intro k' _
    refine ⟨_, rfl, _, rfl, t, cnt, _, rfl, T12, c0, by omega, by omega, by omega, fun p9 H13 zs hp9 e13 T13 hp13 l1 l2 hzb => ?_⟩
    exact k' _ _ ⟨E12.trans e13, T13.le (by omega), p9, zs, _, hp13, l1, by omega, fun x hx => by have := hzb x hx; omega, rfl⟩
  clear hfl12 hx1 hx2 hxb E12 T12
  rintro σ H13 ⟨E13, T13, fl, xs, y7, hfl13, hx1, hx2, hxb, rfl⟩
  have E := E09.trans E13
  have R : Rw xs := ⟨hx1, by omega, hxb⟩
  refine ⟨_, rfl, _, _, rfl, rfl, _, rfl, ite2 (fun _ => ?_) fun _ => ?_⟩
  · refine ⟨_, rfl, fl, _, rfl, SqL.of hfl13, fun c ob hc o1 o2 => ?_⟩
    have Yc := Evl.Ex.new (o := .frz ob (.tup (xs.map V.int))) hc
    refine ⟨c, xs, rfl, PT.sq ⟨ob, upd_same, o1, o2⟩, by omega, fun p H14 hp X14 hP => ?_⟩
    have Tc := (T13.ex Yc).ex X14
    have hp0 : H13 p = none := Evl.fresh_back Yc hp
    refine q p _ (spans xs) (none_back E (T13.ne hp0) hp0) (E.trans (ExB.of (Yc.trans X14))) (Tc.le (by omega)) hP (R.ro 1) (by rw [spans_len]; exact hx2)
  · refine ⟨_, rfl, fl, _, rfl, SqL.of hfl13, fun c ob hc o1 o2 => ?_⟩
    have Yc := Evl.Ex.new (o := .frz ob (.tup (xs.map V.int))) hc
    exact q c _ xs (none_back E (T13.ne hc) hc) (E.trans (ExB.of Yc)) ((T13.ex Yc).le (by omega)) ⟨ob, upd_same, o1, o2⟩ R hx2
end
end K66

set_option Elab.async false
set_option linter.all false
set_option maxRecDepth 100000
set_option maxHeartbeats 1000000
namespace K66
open PySem PySem.Spec
open PyProof.Rows L2 Sx
section
variable {P : Program} {w : World} {K : PySem.W.Frag} {mg : Str → Option Value} {base : Heap}
theorem mug_pt {H H' : Hp} {t a : Addr} {m : Int} {xs : List V} (T : Mug H t m) (E : ExB t H H') (h : PT H a xs) : PT H' a xs := by
  obtain ⟨_, hT⟩ := T.get
  exact h.exB E hT
def sp__law_loads (K : PySem.W.Frag) : Sp := fun vs H Q _ => ∃ t, ∃ n : Nat, ∃ m : Int, vs = [.ref t, .int (n : Int)] ∧ Mug H t m ∧ 1 ≤ n ∧ n ≤ 100 ∧ 0 ≤ m ∧ m ≤ 900000 ∧
  ∀ p H' ws, H p = none → ExB t H H' → Mug H' t (m + 5000) → SqT K H' p (ws.map V.int) → Wt ws n → Q (.ref p) H'
theorem ok__law_loads {f : Addr} {fd : FuncData} (D : DefAt K mg "_law_loads" s__law_loads ["fount", "many"] f fd) (T : Top mg) (c__law_sip : C8.Cal P w K mg base 1 "_law_sip" (sp__law_sip K) []) :
    C8.Cal P w K mg base 2 "_law_loads" (sp__law_loads K) [] := by
  refine D.cal sc__law_loads (fun vs H Q E h => ?len) fun cdv A outer s H vs Q E hr h => ?body
  case len => obtain ⟨t, n, m, rfl, _⟩ := h; rfl
  obtain ⟨t, n, m, rfl, hT, n0, n1, m0, m1, q⟩ := h
  refine ⟨_, (pss_cons (ps_asg (pe_tup (pa_cons (C8.pe_c c__law_sip hr (by decide) (by rfl) (pa_cons (pv 0) (pa_cons pe_int pa_nil))) (pa_cons (pe_ix ix_list (pe_lst (pa_cons pe_int (pa_cons (pe_op op_powW pe_int pe_int) (pa_cons (pe_op op_powW pe_int pe_int) pa_nil)))) (C8.pe_c c__law_sip hr (by decide) (by rfl) (pa_cons (pv 0) (pa_cons pe_int pa_nil))) (fun _ _ => rfl)) pa_nil))) (pg_tup rfl (pgs_cons (pg_name (i := 2) sc__law_loads.nd rfl (.inl rfl)) (pgs_cons (pg_name (i := 3) sc__law_loads.nd rfl (.inr rfl)) pgs_nil))))
      (pss_cons (ps_par (i := 5) (j := 6) (by rfl) sc__law_loads.nd rfl rfl (by decide) rfl rfl (pa_cons (pe_lc (own := [("turn", 4)]) (g := gName 4) (by rfl) sc__law_loads.nd (pi_range1 (by rfl) T.range (pa_cons pe_int pa_nil)) (blkOk_by (own := [("turn", 4)]) (N := ["fount", "many", "style", "wide", "turn", "few", "found", "some", "fresh"]) (sc := defScope s__law_loads) (by decide +kernel)) (fun _ _ _ _ _ => (pg_name (i := 4) sc__law_loads.nd rfl (.inl rfl))) (fun _ _ _ _ _ => pts_nil) (fun _ _ _ _ _ => (pe_op op_add pe_int (C8.pe_c c__law_sip hr (by decide) (by rfl) (pa_cons (pv 0) (pa_cons (pv 3) pa_nil)))))) (pa_cons (pe_lst pa_nil) pa_nil)) (by rfl))
      (pss_cons (ps_for PassesOwn.never rfl (pi_range1 (by rfl) T.range (pa_cons (pv 1) pa_nil)) (pg_name (i := 4) sc__law_loads.nd rfl (.inl rfl))
        (pss_cons (ps_set (i := 7) sc__law_loads.nd rfl (.inl rfl) (pe_lst (pa_cons (pe_op op_add pe_int (C8.pe_c c__law_sip hr (by decide) (by rfl) (pa_cons (pv 0) (pa_cons (pv 3) pa_nil)))) (pa_cons (pe_ix ix_list (pv 5) (C8.pe_c c__law_sip hr (by decide) (by rfl) (pa_cons (pv 0) (pa_cons pe_int pa_nil))) (fun _ _ => rfl)) (pa_cons (pe_op op_mulW (pe_op op_add (pe_op op_mod (pv 4) pe_int) pe_int) (pe_op op_powW pe_int pe_int)) (pa_cons (pe_op op_add pe_int (C8.pe_c c__law_sip hr (by decide) (by rfl) (pa_cons (pv 0) (pa_cons pe_int pa_nil)))) pa_nil))))))
          (pss_cons (ps_set (i := 8) sc__law_loads.nd rfl (.inl rfl) (pe_ix ix_list (pv 7) (pv 2) (fun _ _ => rfl)))
          (pss_one (ps_expr (pe_bm PySem.F.plainAttrs_list PySem.F.slot_list_append PySem.F.type_list_append mt_append (pv 6) (pa_cons (pv 8) pa_nil)))))))
      (pss_one (ps_ret (pe_callTy call_tuple_of (by rfl) T.tuple (by decide +kernel) (pa_cons (pv 6) pa_nil))))))), ?_⟩
  refine ⟨_, rfl, t, 4, _, rfl, hT, by decide, p1000 (by decide), by omega, fun sty H1 sty0 sty1 e1 T1 => ?_⟩
  refine ⟨_, _, rfl, rfl, ⟨by decide, by decide, by decide⟩, _, _, rfl, rfl, ⟨by decide, by decide, by decide⟩, by show 3 ≤ sizeLine; decide, fun p3 hp3 => ?_⟩
  have Y3 := Evl.Ex.new (o := .lst [.int 3, .int (10 ^ (9 : Int).toNat), .int (10 ^ (28 : Int).toNat)]) hp3
  have np3 : p3 ≠ t := T1.ne hp3
  refine ⟨_, rfl, t, 3, _, rfl, T1.ex Y3, by decide, p1000 (by decide), by omega, fun r3 H2 r30 r31 e2 T2 => ?_⟩
  obtain ⟨wd, hw, w0, w1⟩ : ∃ u : Int, atI [V.int 3, V.int (10 ^ (9 : Int).toNat), V.int (10 ^ (28 : Int).toNat)] r3 = some (.int u) ∧ 1 ≤ u ∧ u ≤ 10 ^ 28 := by
    rcases (show r3 = 0 ∨ r3 = 1 ∨ r3 = 2 by omega) with e | e | e <;> subst e
    · exact ⟨_, rfl, by decide, by decide⟩
    · exact ⟨_, rfl, by decide, by decide⟩
    · exact ⟨_, rfl, by decide, by decide⟩
  refine ⟨p3, _, _, _, rfl, rfl, SqL.of (e2 _ _ np3 upd_same), hw, ?_⟩
  refine ⟨by show 2 ≤ sizeLine; decide, fun p2 hp2 => ?_⟩
  have Y2 := Evl.Ex.new (o := .tup [.int sty, .int wd]) hp2
  refine ⟨p2, _, rfl, SqT.of upd_same, rfl, _, _, rfl, _, _, rfl, rfl, ?_⟩
  have E2 : ExB t H _ := e1.trans ((ExB.of Y3).trans (e2.trans (ExB.of Y2)))
  replace T2 := T2.ex Y2
  clear e1 e2 Y2 Y3 hp2 hp3 T1
  generalize upd H2 p2 (.tup [.int sty, .int wd]) = H3 at *
  have hwb : wd < 2 ^ 1000 := p1000w (Int.lt_of_le_of_lt w1 (by decide))
  -- few
  refine ⟨3, rfl, by decide, by decide, fun D hD => ?_⟩
  have nD : D ≠ t := T2.ne hD
  refine lc_range (lo := 0) (n := (3 : Int).toNat) (fun j H' => ∃ zs : List Int, ExB t H3 H' ∧ H' D = some (.lst (zs.map V.int)) ∧ zs.length = j ∧ (∀ x ∈ zs, 1 ≤ x ∧ x ≤ 10 ^ 28) ∧ Mug H' t (m + 10 + 2 * j))
    ⟨[], ExB.of (Evl.Ex.new hD), upd_same, rfl, fun x hx => (List.not_mem_nil hx).elim, (T2.ex (Evl.Ex.new hD)).le (by omega)⟩ ?_ ?_
  · rintro j H8 hj ⟨zs, E8, hz, hzl, hzb, T8⟩
    have hj3 : j < 3 := hj
    refine ⟨rfl, ?_⟩
    dsimp only [tYes]
    rw [if_pos rfl]
    refine ⟨_, rfl, _, rfl, t, wd, _, rfl, T8, w0, hwb, by omega, fun r H9 r0 r1 e9 T9 => ?_⟩
    refine ⟨_, _, rfl, rfl, _, e9 _ _ nD hz, ?_, zs ++ [1 + r], fun b' o' n' h' => ?_, ?_, ?_, fun x hx => ?_, ?_⟩
    · rw [List.length_map]; exact small1000 (by omega)
    · have h9 := e9 _ _ n' (E8 _ _ n' h')
      rw [upd_ne (ne_of_none h' hD)]; exact h9
    · rw [upd_same, List.map_append]; rfl
    · rw [List.length_append, hzl]; rfl
    · rcases List.mem_append.mp hx with hx | hx
      · exact hzb x hx
      · rw [List.mem_singleton] at hx; omega
    · exact (T9.exB (b := D) (ExB.upd) nD.symm).le (by omega)
  rintro H4 ⟨few, E4, hf4, hfl, hfb, T4⟩
  have hfl : few.length = 3 := hfl
  refine ⟨Nat.zero_le _, fun fl hfl2 => ?_⟩
  refine ⟨_, _, rfl, ?_⟩
  have nfl : fl ≠ t := T4.ne hfl2
  have nfD : D ≠ fl := ne_of_none hf4 hfl2
  have Y5 := Evl.Ex.new (o := .lst []) hfl2
  have E04 := E2.trans E4
  refine ⟨_, rfl, _, rfl, by omega, by omega, ?_⟩
  refine for_range (lo := 0) (n := ((n : Nat) : Int).toNat) (fun i σ H' => ∃ zs : List Int, ExB t H4 H' ∧ H' fl = some (.lst (zs.map V.int)) ∧ zs.length = i ∧ (∀ x ∈ zs, 1 ≤ x ∧ x ≤ 10 ^ 28) ∧ Mug H' t (m + 100 + 3 * i) ∧
      ∃ y4 y7 y8 : Option V, σ = [some (.ref t), some (.int (n : Int)), some (.int sty), some (.int wd), y4, some (.ref D), some (.ref fl), y7, y8])
    ⟨[], ExB.of Y5, upd_same, rfl, fun x hx => (List.not_mem_nil hx).elim, (T4.ex Y5).le (by omega), _, _, _, rfl⟩ ?_ ?_
  · rintro i σ H6 hi ⟨zs, E6, hz, hzl, hzb, T6, y4, y7, y8, rfl⟩
    have hi : i < n := by omega
    refine ⟨_, rfl, _, rfl, t, wd, _, rfl, T6, w0, hwb, by omega, fun r1 H7 r10 r11 e7 T7 => ?_⟩
    refine ⟨_, _, rfl, rfl, _, rfl, _, rfl, t, 3, _, rfl, T7, by decide, p1000 (by decide), by omega, fun r2 H8 r20 r21 e8 T8 => ?_⟩
    have hat : atI (few.map V.int) r2 = some (.int (g few r2.toNat)) := atN' r20 (by omega)
    have hfm : 1 ≤ g few r2.toNat ∧ g few r2.toNat ≤ 10 ^ 28 := hfb _ (List.mem_of_getElem? (g_get (by omega)))
    have E8 := E6.trans (e7.trans e8)
    refine ⟨D, _, _, _, rfl, rfl, SqL.of (E8 _ _ nD hf4), hat, ?_⟩
    have hz0 : 0 ≤ (0 + (i : Int)) % 9 := Int.emod_nonneg _ (by decide)
    have hz9 : (0 + (i : Int)) % 9 < 9 := Int.emod_lt_of_pos _ (by decide)
    refine ⟨_, rfl, _, _, rfl, rfl, by show (0 : Int) < 9; decide, _, _, rfl, rfl, _, _, rfl, rfl, ⟨by decide, by decide, by decide⟩, _, _, rfl, rfl, ?_, ?_⟩
    · exact wide_mul (a := 10) (b := 40) (by show ((0 + (i : Int)) % 9 + 1).natAbs < 1024; omega) (by decide) (by decide) (by decide) (by decide)
    obtain ⟨z3, hz3, z30, z31⟩ : ∃ z : Int, ((0 + (i : Int)) % 9 + 1) * 10 ^ (9 : Int).toNat = z ∧ 1 ≤ z ∧ z ≤ 10 ^ 28 := by
      refine ⟨_, rfl, ?_, ?_⟩
      · rw [show (10 : Int) ^ (9 : Int).toNat = 1000000000 by decide]; omega
      · rw [show (10 : Int) ^ (9 : Int).toNat = 1000000000 by decide, show (10 : Int) ^ 28 = 10000000000000000000000000000 by decide]; omega
    have hz3' : (fun i j : Int => V.int (i * j)) ((fun i j : Int => (i + j)) ((0 + (i : Int)) % 9) 1) (10 ^ (9 : Int).toNat) = V.int z3 := congrArg V.int hz3
    refine ⟨_, rfl, t, 2, _, rfl, T8, by decide, p1000 (by decide), by omega, fun r4 H9 r40 r41 e9 T9 => ?_⟩
    refine ⟨_, _, rfl, rfl, by show 4 ≤ sizeLine; decide, fun sl hsl => ?_⟩
    have Y6 := Evl.Ex.new (o := .lst [.int (1 + r1), .int (g few r2.toNat), .int (((0 + (i : Int)) % 9 + 1) * 10 ^ (9 : Int).toNat), .int (1 + r4)]) hsl
    obtain ⟨fv, hfv, f0, f1⟩ : ∃ u : Int, atI [V.int (1 + r1), V.int (g few r2.toNat), V.int (((0 + (i : Int)) % 9 + 1) * 10 ^ (9 : Int).toNat), V.int (1 + r4)] sty = some (.int u) ∧ 1 ≤ u ∧ u ≤ 10 ^ 28 := by
      rcases (show sty = 0 ∨ sty = 1 ∨ sty = 2 ∨ sty = 3 by omega) with e | e | e | e <;> subst e
      · exact ⟨_, rfl, by omega, by omega⟩
      · exact ⟨_, rfl, hfm.1, hfm.2⟩
      · exact ⟨_, rfl, by rw [hz3]; exact z30, by rw [hz3]; exact z31⟩
      · exact ⟨_, rfl, by omega, by
          have : (3 : Int) ≤ 10 ^ 28 := by decide
          omega⟩
    refine ⟨_, rfl, _, rfl, sl, _, _, _, rfl, rfl, SqL.of upd_same, hfv, ?_⟩
    have hz9' := Y6 _ _ (e9 _ _ nfl (e8 _ _ nfl (e7 _ _ nfl hz)))
    have E9 := E8.trans (e9.trans (ExB.of Y6))
    have T10 := T9.ex Y6
    refine ⟨_, rfl, .inl ⟨rfl, _, SqL.of hz9'⟩, _, rfl, fl, _, _, rfl, rfl, hz9', ?_, ?_⟩
    · rw [List.length_map]; exact small1000 (by omega)
    refine ⟨zs ++ [fv], ExB.mut E9 hfl2, ?_, ?_, fun x hx => ?_, ?_, _, _, _, rfl⟩
    · rw [upd_same, List.map_append]; rfl
    · rw [List.length_append, hzl]; rfl
    · rcases List.mem_append.mp hx with hx | hx
      · exact hzb x hx
      · rw [List.mem_singleton] at hx; subst hx; exact ⟨f0, f1⟩
    · exact (T10.exB (b := fl) (ExB.upd) nfl.symm).le (by omega)
  · rintro σ H6 ⟨zs, E6, hz, hzl, hzb, T6, y4, y7, y8, rfl⟩
    have hzn : zs.length = n := by omega
    refine ⟨_, rfl, fl, _, rfl, .inl ⟨SqL.of hz, fun c hc => ?_⟩⟩
    have Yc := Evl.Ex.new (o := .tup (zs.map V.int)) hc
    exact q c _ zs (none_back (E04.trans E6) (T6.ne hc) hc) ((E04.trans E6).trans (ExB.of Yc)) ((T6.ex Yc).le (by omega)) (SqT.of upd_same) ⟨hzn, fun x hx => (hzb x hx).1, fun x hx => (hzb x hx).2⟩
def sp__law_front_right (K : PySem.W.Frag) : Sp := fun vs H Q _ => ∃ t a b, ∃ xs ws : List Int, ∃ m : Int, vs = [.ref t, .ref a, .ref b] ∧ Mug H t m ∧ SqT K H a (xs.map V.int) ∧ Rw xs ∧ SqT K H b (ws.map V.int) ∧ Wt ws xs.length ∧ 0 ≤ m ∧ m ≤ 900000 ∧
  ∀ H', ExB t H H' → Mug H' t (m + 10) → Q (.bl true) H'
theorem ok__law_front_right {f : Addr} {fd : FuncData} (D : DefAt K mg "_law_front_right" s__law_front_right ["fount", "row", "loads"] f fd) (T : Top mg) (c_weighted_after : CalN P w K mg base 8 "weighted_after" (sp_weighted_after K) 2 ["rounds"]) (c__law_sip : C8.Cal P w K mg base 1 "_law_sip" (sp__law_sip K) []) (c_weighted_needed : C8.Cal P w K mg base 8 "weighted_needed" (sp_weighted_needed K) []) :
    C8.Cal P w K mg base 9 "_law_front_right" (sp__law_front_right K) [] := by
  refine D.cal sc__law_front_right (fun vs H Q E h => ?len) fun cdv A outer s H vs Q E hr h => ?body
  case len => obtain ⟨t, a, b, xs, ws, m, rfl, _⟩ := h; rfl
  obtain ⟨t, a, b, xs, ws, m, rfl, hT, hA, R, hB, W, m0, m1, q⟩ := h
  refine ⟨_, (pss_cons (ps_par (i := 3) (j := 4) (by rfl) sc__law_front_right.nd rfl rfl (by decide) rfl rfl (pa_cons (pe_op op_add pe_int (C8.pe_c c__law_sip hr (by decide) (by rfl) (pa_cons (pv 0) (pa_cons (pe_callB call_len_seq (by rfl) T.len (by decide +kernel) (pa_cons (pv 1) pa_nil)) pa_nil)))) (pa_cons (pe_op op_add pe_int (C8.pe_c c__law_sip hr (by decide) (by rfl) (pa_cons (pv 0) (pa_cons pe_int pa_nil)))) pa_nil)) (by rfl))
      (pss_cons (ps_set (i := 5) sc__law_front_right.nd rfl (.inl rfl) (pe_kn c_weighted_after hr (by decide) (by rfl) (pa_cons (pv 1) (pa_cons (pv 2) pa_nil)) (pk_cons (pv 4) pk_nil)))
      (pss_cons (ps_if (pt_cmpR (op_neD hr.units) (pe_kn c_weighted_after hr (by decide) (by rfl) (pa_cons (pe_slice sl_tupA (pv 1) po_none (po_some (pv 3))) (pa_cons (pe_slice sl_tupA (pv 2) po_none (po_some (pv 3))) pa_nil)) (pk_cons (pv 4) pk_nil)) (pe_slice sl_tupA (pv 5) po_none (po_some (pv 3))) (nomark _))
        (pss_one (ps_ret pe_bl))
        pss_nil)
      (pss_one (ps_ret (pe_and (pe_cmpR op_eq (pe_ix ix_tup (pv 5) pe_int (fun _ _ => rfl)) (pe_ix ix_tup (pv 2) pe_int (fun _ _ => rfl)) (nomark _)) (pe_one (pe_cmpR op_le (C8.pe_c c_weighted_needed hr (by decide) (by rfl) (pa_cons (pv 1) (pa_cons (pv 2) pa_nil))) (pe_callB call_len_seq (by rfl) T.len (by decide +kernel) (pa_cons (pv 1) pa_nil)) (nomark _))))))))), ?_⟩
  have x0 := R.lo
  have x1 := R.hi
  refine ⟨_, rfl, _, rfl, a, _, rfl, .inr hA, t, _, m, rfl, hT, by rw [List.length_map]; omega, p1000 (by rw [List.length_map]; omega), by omega, fun r1 H1 r10 r11 e1 T1 => ?_⟩
  rw [List.length_map] at r11
  refine ⟨_, _, rfl, rfl, ?_⟩
  obtain ⟨k, hk⟩ : ∃ k : Nat, ((k + 1 : Nat) : Int) = 1 + r1 := ⟨r1.toNat, by omega⟩
  rw [show (fun i j : Int => V.int (i + j)) 1 r1 = .int ((k + 1 : Nat) : Int) from congrArg V.int hk.symm]
  refine ⟨_, rfl, t, 99, _, rfl, T1, by decide, p1000 (by decide), by omega, fun r2 H2 r20 r21 e2 T2 => ?_⟩
  refine ⟨_, _, rfl, rfl, ?_⟩
  obtain ⟨f, hf⟩ : ∃ k : Nat, ((k + 1 : Nat) : Int) = 1 + r2 := ⟨r2.toNat, by omega⟩
  rw [show (fun i j : Int => V.int (i + j)) 1 r2 = .int ((f + 1 : Nat) : Int) from congrArg V.int hf.symm]
  refine ⟨_, _, rfl, ?_⟩
  have hA2 := T1.tup e2 (hT.tup e1 hA)
  have hB2 := T1.tup e2 (hT.tup e1 hB)
  have E2 := e1.trans e2
  have ten3 : (10 : Int) ^ (30 : Int).toNat = 1000000000000000000000000000000 := by decide
  refine ⟨_, rfl, _, rfl, _, rfl, rfl, rfl, a, b, xs, ws, _, rfl, hA2, R, hB2, W, by omega, by omega, fun c H3 X3 hC _ => ?_⟩
  rw [Int.toNat_natCast] at hC
  have hA3 := Evl.ex_t X3 hA2
  have hB3 := Evl.ex_t X3 hB2
  refine ⟨_, rfl, ?_⟩
  dsimp only [tNoPart]
  refine ⟨_, rfl, _, rfl, slA_any hA3 fun a4 H4 X4 h4 => ?_⟩
  refine ⟨_, rfl, ?_⟩
  dsimp only [tNoPart]
  refine ⟨_, rfl, _, rfl, slA_any (Evl.ex_t X4 hB3) fun b5 H5 X5 h5 => ?_⟩
  rw [cut_take, ← List.map_take] at h4 h5
  have hkx : k + 1 ≤ xs.length := by omega
  have hxl : (xs.take (k + 1)).length = k + 1 := by rw [List.length_take]; omega
  have R' : Rw (xs.take (k + 1)) := R.take (by omega)
  have W' : Wt (ws.take (k + 1)) (xs.take (k + 1)).length := by rw [hxl]; exact W.take hkx
  refine ⟨_, rfl, rfl, rfl, a4, b5, _, _, _, rfl, Evl.ex_t X5 h4, R', h5, W', by omega, by omega, fun d H6 X6 hD _ => ?_⟩
  rw [Int.toNat_natCast, wro_take] at hD
  have hC6 := Evl.ex_t (X4.trans (X5.trans X6)) hC
  refine ⟨_, rfl, ?_⟩
  dsimp only [tNoPart]
  refine ⟨_, rfl, _, rfl, slA_any hC6 fun c7 H7 X7 h7 => ?_⟩
  rw [cut_take, ← List.map_take] at h7
  refine ⟨.tuple (((wro ws (f + 1) xs).take (k + 1)).map PyData.int), .tuple (((wro ws (f + 1) xs).take (k + 1)).map PyData.int), .tup (Evl.ex_t X7 hD) (dp_ints _), .tup h7 (dp_ints _), shaped_tup _, shaped_tup _, _, rfl, ?_⟩
  rw [eqv_tup, decide_eq_true rfl]
  refine iteF ?_
  have X37 := X4.trans (X5.trans (X6.trans X7))
  have hC7 := Evl.ex_t X37 hC
  have hA7 := Evl.ex_t X37 hA3
  have hB7 := Evl.ex_t X37 hB3
  have hwl := W.len
  have hg0 : g (wro ws (f + 1) xs) 0 = g ws 0 := by
    show g (wsp ws (wro ws f xs)) 0 = _
    rw [wsp_g (by rw [wro_len]; omega)]
    unfold wv
    show tot ws (0 + 1) - tot ws 0 = _
    rw [tot_succ (by omega)]; omega
  refine ⟨_, rfl, c, _, _, _, rfl, rfl, hC7, atI_nat (j := 0) (by rw [List.getElem?_map, g_get (by rw [wro_len]; omega)]; rfl), ?_⟩
  refine ⟨_, rfl, b, _, _, _, rfl, rfl, hB7, atI_nat (j := 0) (by rw [List.getElem?_map, g_get (by omega)]; rfl), ?_⟩
  rw [hg0]
  refine ⟨rfl, _, rfl, ?_⟩
  rw [decide_eq_true rfl]
  refine iteT ?_
  refine ⟨_, rfl, _, rfl, a, b, xs, ws, rfl, hA7, R, hB7, W, fun H8 n X8 hn hnl => ?_⟩
  refine ⟨_, rfl, a, _, rfl, .inr (Evl.ex_t X8 hA7), ?_⟩
  rw [List.length_map]
  refine ⟨_, _, rfl, rfl, ?_⟩
  show Q (V.bl (decide ((n : Int) ≤ (xs.length : Int)))) H8
  rw [decide_eq_true (by omega)]
  have XX := X3.trans (X37.trans X8)
  exact q _ (E2.trans (ExB.of XX)) ((T2.ex XX).le (by omega))
def sp__law_equal_right (K : PySem.W.Frag) : Sp := fun vs H Q _ => ∃ t a, ∃ xs : List Int, ∃ m : Int, vs = [.ref t, .ref a] ∧ Mug H t m ∧ PT H a (xs.map V.int) ∧ Rw xs ∧ 0 ≤ m ∧ m ≤ 900000 ∧ ∀ H', ExB t H H' → Mug H' t (m + 10) → Q (.bl true) H'
theorem ok__law_equal_right {f : Addr} {fd : FuncData} (D : DefAt K mg "_law_equal_right" s__law_equal_right ["fount", "row"] f fd) (T : Top mg) (c__law_sip : C8.Cal P w K mg base 1 "_law_sip" (sp__law_sip K) []) (c_row_after : CalN P w K mg base 6 "row_after" (sp_row_after K) 1 ["rounds"]) (c_is_weights : C8.Cal P w K mg base 6 "is_weights" (sp_is_weights K) []) (c_weighted_needed : C8.Cal P w K mg base 8 "weighted_needed" (sp_weighted_needed K) []) (c_rounds_needed : C8.Cal P w K mg base 6 "rounds_needed" (sp_rounds_needed K) []) (c_weighted_after : CalN P w K mg base 8 "weighted_after" (sp_weighted_after K) 2 ["rounds"]) :
    C8.Cal P w K mg base 9 "_law_equal_right" (sp__law_equal_right K) [] := by
  refine D.cal sc__law_equal_right (fun vs H Q E h => ?len) fun cdv A outer s H vs Q E hr h => ?body
  case len => obtain ⟨t, a, xs, m, rfl, _⟩ := h; rfl
  obtain ⟨t, a, xs, m, rfl, hT, hP, R, m0, m1, q⟩ := h
  refine ⟨_, (pss_cons (ps_asg (pe_tup (pa_cons (pe_op op_repA (pe_tup (pa_cons pe_int pa_nil)) (pe_callB call_len_seq (by rfl) T.len (by decide +kernel) (pa_cons (pv 1) pa_nil))) (pa_cons (pe_op op_add pe_int (C8.pe_c c__law_sip hr (by decide) (by rfl) (pa_cons (pv 0) (pa_cons (pe_op op_powW pe_int pe_int) pa_nil)))) pa_nil))) (pg_tup rfl (pgs_cons (pg_name (i := 2) sc__law_equal_right.nd rfl (.inl rfl)) (pgs_cons (pg_name (i := 3) sc__law_equal_right.nd rfl (.inr rfl)) pgs_nil))))
      (pss_cons (ps_set (i := 4) sc__law_equal_right.nd rfl (.inl rfl) (pe_op op_repA (pe_tup (pa_cons (pv 3) pa_nil)) (pe_callB call_len_seq (by rfl) T.len (by decide +kernel) (pa_cons (pv 1) pa_nil))))
      (pss_cons (ps_if (PW.pt (pw_or (pt_not (pt_val (C8.pe_c c_is_weights hr (by decide) (by rfl) (pa_cons (pv 1) (pa_cons (pv 2) pa_nil))))) (pw_or (pt_not (pt_val (C8.pe_c c_is_weights hr (by decide) (by rfl) (pa_cons (pv 1) (pa_cons (pv 4) pa_nil))))) (pw_or1 (pt_cmpR op_ne (C8.pe_c c_weighted_needed hr (by decide) (by rfl) (pa_cons (pv 1) (pa_cons (pv 2) pa_nil))) (C8.pe_c c_rounds_needed hr (by decide) (by rfl) (pa_cons (pv 1) pa_nil)) (nomark _))))))
        (pss_one (ps_ret pe_bl))
        pss_nil)
      (pss_cons (ps_for PassesOwn.never rfl (pi_list (pe_lst (pa_cons pe_int (pa_cons pe_int (pa_cons pe_int (pa_cons (C8.pe_c c__law_sip hr (by decide) (by rfl) (pa_cons (pv 0) (pa_cons pe_int pa_nil))) (pa_cons (pe_op op_powW pe_int pe_int) pa_nil))))))) (pg_name (i := 5) sc__law_equal_right.nd rfl (.inl rfl))
        (pss_cons (ps_set (i := 6) sc__law_equal_right.nd rfl (.inl rfl) (pe_kn c_row_after hr (by decide) (by rfl) (pa_cons (pv 1) pa_nil) (pk_cons (pv 5) pk_nil)))
          (pss_cons (ps_if (pt_cmpR (op_neD hr.units) (pe_kn c_weighted_after hr (by decide) (by rfl) (pa_cons (pv 1) (pa_cons (pv 2) pa_nil)) (pk_cons (pv 5) pk_nil)) (pv 6) (nomark _))
            (pss_one (ps_ret pe_bl))
            pss_nil)
          (pss_cons (ps_set (i := 7) sc__law_equal_right.nd rfl (.inl rfl) (pe_callTy call_tuple_of (by rfl) T.tuple (by decide +kernel) (pa_cons (pe_lc (own := [("entry", 8)]) (g := gName 8) (by rfl) sc__law_equal_right.nd (pi_tup (pv 6)) (blkOk_by (own := [("entry", 8)]) (N := ["fount", "row", "ones", "load", "same", "many", "due", "times_here", "entry"]) (sc := defScope s__law_equal_right) (by decide +kernel)) (fun _ _ _ _ _ => (pg_name (i := 8) sc__law_equal_right.nd rfl (.inl rfl))) (fun _ _ _ _ _ => pts_nil) (fun _ _ _ _ _ => (pe_op op_mulW (pv 3) (pv 8)))) pa_nil)))
          (pss_one (ps_if (PW.pt (pw_and (pt_cmpR op_gt (pv 5) pe_int (nomark _)) (pw_and1 (pt_cmpR (op_neD hr.units) (pe_kn c_weighted_after hr (by decide) (by rfl) (pa_cons (pv 1) (pa_cons (pv 4) pa_nil)) (pk_cons (pv 5) pk_nil)) (pv 7) (nomark _)))))
            (pss_one (ps_ret pe_bl))
            pss_nil))))))
      (pss_one (ps_ret pe_bl)))))), ?_⟩
  have hS : SqT K H a (xs.map V.int) := hP.sq
  have hlo := R.lo
  have hhi := R.hi
  have ten : (10 : Int) ^ (28 : Int).toNat = 10000000000000000000000000000 := by decide
  have ten3 : (10 : Int) ^ (30 : Int).toNat = 1000000000000000000000000000000 := by decide
  refine ⟨by show 1 ≤ sizeLine; decide, fun p1 hp1 => ?_⟩
  have X1 := Evl.Ex.new (o := .tup [.int 1]) hp1
  have hS1 := Evl.ex_t X1 hS
  refine ⟨_, rfl, a, _, rfl, .inr hS1, p1, _, [.int 1], rfl, rfl, SqT.of upd_same, List.cons_ne_nil _ _, by rw [List.length_map]; omega, by rw [List.length_map]; omega, by show 1 ≤ 1000; decide, fun s2 H2 X2 hs2 => ?_⟩
  rw [List.length_map, Int.toNat_natCast, rep_flat] at hs2
  have X02 := X1.trans X2
  refine ⟨_, rfl, _, _, rfl, rfl, ⟨by decide, by decide, by decide⟩, t, _, m, rfl, hT.ex X02, by decide, p1000w (by rw [ten]; decide), by omega, fun r3 H3 r30 r31 e3 T3 => ?_⟩
  refine ⟨_, _, rfl, rfl, ?_⟩
  obtain ⟨c, hc⟩ : ∃ c : Int, c = 1 + r3 := ⟨_, rfl⟩
  rw [show (fun i j : Int => V.int (i + j)) 1 r3 = .int c from congrArg V.int hc.symm]
  have c1 : 1 ≤ c := by omega
  have c2 : c ≤ 10 ^ 28 := by omega
  refine ⟨by show 2 ≤ sizeLine; decide, fun pt hpt => ⟨pt, _, rfl, SqT.of upd_same, rfl, _, _, rfl, _, _, rfl, rfl, ?_⟩⟩
  have Y4 := Evl.Ex.new (o := .tup [.ref s2, .int c]) hpt
  have T4 := T3.ex Y4
  have E4 := ((ExB.of X02).trans e3).trans (ExB.of Y4)
  have hS4 := hT.tup E4 hS
  have hP4 := mug_pt hT E4 hP
  have hs4 := Evl.ex_t Y4 ((hT.ex X02).tup e3 hs2)
  generalize upd H3 pt (.tup [.ref s2, .int c]) = H4 at T4 E4 hS4 hP4 hs4 ⊢
  -- same
  refine ⟨_, rfl, by show 1 ≤ sizeLine; decide, fun p5 hp5 => ?_⟩
  have X5 := Evl.Ex.new (o := .tup [.int c]) hp5
  have hS5 := Evl.ex_t X5 hS4
  refine ⟨_, rfl, a, _, rfl, .inr hS5, p5, _, [.int c], rfl, rfl, SqT.of upd_same, List.cons_ne_nil _ _, by rw [List.length_map]; omega, by rw [List.length_map]; omega, by show 1 ≤ 1000; decide, fun s6 H6 X6 hs6 => ?_⟩
  rw [List.length_map, Int.toNat_natCast, rep_flat] at hs6
  have W1 : Wt (List.replicate xs.length 1) xs.length := .same (by decide) (by decide)
  have W2 : Wt (List.replicate xs.length c) xs.length := .same c1 c2
  have hS6 := Evl.ex_t X6 hS5
  have ho6 := Evl.ex_t (X5.trans X6) hs4
  refine ⟨_, rfl, _, rfl, a, s2, xs, _, rfl, hS6, R, ho6, W1, fun H7 X7 => ⟨true, rfl, ?_⟩⟩
  refine iteF ?_
  refine ⟨_, rfl, _, rfl, a, s6, xs, _, rfl, Evl.ex_t X7 hS6, R, Evl.ex_t X7 hs6, W2, fun H8 X8 => ⟨true, rfl, ?_⟩⟩
  refine iteF ?_
  have X78 := X7.trans X8
  refine ⟨_, rfl, _, rfl, a, s2, xs, _, rfl, Evl.ex_t X78 hS6, R, Evl.ex_t X78 ho6, W1, fun H9 n9 X9 hn9 _ => ?_⟩
  have hP6 := hP4.ex (X5.trans X6)
  refine ⟨_, rfl, a, xs, rfl, hP6.ex (X78.trans X9), R, fun H10 n10 X10 hn10 _ => ?_⟩
  rw [wnd_ones hn9 hn10]
  refine ⟨rfl, _, rfl, ?_⟩
  rw [decide_eq_true rfl]
  refine iteF ?_
  have X610 := X78.trans (X9.trans X10)
  have X410 := (X5.trans X6).trans X610
  have hP10 := hP6.ex X610
  have hS10 := Evl.ex_t X610 hS6
  have ho10 := Evl.ex_t X610 ho6
  have hs10 := Evl.ex_t X610 hs6
  have E10 := E4.trans (ExB.of X410)
  have T10 := T4.ex X410
  clear X7 X8 X9 X10 X78 X610 X410 X5 X6 hn9 hn10 hs6 hS6 ho6 hS5 hS4 hs4 T4 E4 Y4 hpt e3 T3 X1 X2 X02 hs2 hS1 hp1 hp5
  -- the rounds
  refine ⟨_, rfl, t, 12, _, rfl, T10, by decide, p1000 (by decide), by omega, fun r5 H11 r50 r51 e5 T11 => ?_⟩
  refine ⟨_, _, rfl, rfl, ⟨by decide, by decide, by decide⟩, by show 5 ≤ sizeLine; decide, fun pl hpl => ⟨pl, rfl, ⟨_, SqL.of upd_same⟩, ?_⟩⟩
  have Yl := Evl.Ex.new (o := .lst [.int 0, .int 1, .int 2, .int r5, .int (10 ^ (30 : Int).toNat)]) hpl
  have npl : pl ≠ t := T11.ne hpl
  have E11 := E10.trans (e5.trans (ExB.of Yl))
  have hS11 := Evl.ex_t Yl (T10.tup e5 hS10)
  have ho11 := Evl.ex_t Yl (T10.tup e5 ho10)
  have hs11 := Evl.ex_t Yl (T10.tup e5 hs10)
  have hP11 := (mug_pt T10 e5 hP10).ex Yl
  have T12 := T11.ex Yl
  have gpl := upd_same (H := H11) (a := pl) (o := .lst [.int 0, .int 1, .int 2, .int r5, .int (10 ^ (30 : Int).toNat)])
  generalize upd H11 pl (.lst [.int 0, .int 1, .int 2, .int r5, .int (10 ^ (30 : Int).toNat)]) = H12 at *
  refine for_list (K := K) (D := { nx := tRet (tC (.bl true)) { nx := fun _ H' => Q .non H', rt := Q }, rt := Q }) (a := pl) (xs := [.int 0, .int 1, .int 2, .int r5, .int (10 ^ (30 : Int).toNat)]) (fun j σ H' => Ex H12 H' ∧ ∃ y5 y6 y7 y8 : Option V, σ = [some (.ref t), some (.ref a), some (.ref s2), some (.int c), some (.ref s6), y5, y6, y7, y8])
    ⟨Evl.Ex.refl _, _, _, _, _, rfl⟩ (fun j σ H' _ h => SqL.of (h.1 _ _ gpl)) ?_ ?_
  · rintro j v σ G1 hv ⟨X1, y5, y6, y7, y8, rfl⟩
    obtain ⟨v, rfl, v0, v1⟩ : ∃ b : Int, v = .int b ∧ 0 ≤ b ∧ b ≤ 10 ^ 30 := by
      match j, hv with
      | 0, hv => cases hv; exact ⟨0, rfl, by decide, by decide⟩
      | 1, hv => cases hv; exact ⟨1, rfl, by decide, by decide⟩
      | 2, hv => cases hv; exact ⟨2, rfl, by decide, by decide⟩
      | 3, hv => cases hv; exact ⟨r5, rfl, r50, by have : (12 : Int) ≤ 10 ^ 30 := by decide
                                                   omega⟩
      | 4, hv => cases hv; exact ⟨_, rfl, by decide, by decide⟩
      | j + 5, hv => cases hv
    obtain ⟨n, rfl⟩ : ∃ n : Nat, v = (n : Int) := ⟨v.toNat, by omega⟩
    refine ⟨_, rfl, _, rfl, rfl, rfl, a, xs, _, rfl, hP11.ex X1, R, v0, v1, fun b2 G2 X2 hb2 => ?_⟩
    rw [Int.toNat_natCast] at hb2
    have X12 := X1.trans X2
    refine ⟨_, rfl, _, rfl, _, rfl, rfl, rfl, a, s2, xs, _, _, rfl, Evl.ex_t X12 hS11, R, Evl.ex_t X12 ho11, W1, v0, v1, fun b3 G3 X3 hb3 _ => ?_⟩
    rw [Int.toNat_natCast, wro_ones] at hb3
    refine ⟨_, rfl, .tuple ((ro n xs).map PyData.int), .tuple ((ro n xs).map PyData.int), .tup hb3 (dp_ints _), .tup (Evl.ex_t X3 hb2.sq) (dp_ints _), shaped_tup _, shaped_tup _, _, rfl, ?_⟩
    rw [eqv_tup, decide_eq_true rfl]
    refine iteF ?_
    have hb3' := hb2.ex X3
    refine ⟨_, rfl, b2, rfl, ⟨_, hb3'.sq⟩, fun D hD => ?_⟩
    have Rn := R.ro n
    refine lc_tup (K := K) (a := b2) (xs := (ro n xs).map V.int) (fun j H' => Ex G3 H' ∧ H' D = some (.lst ((((ro n xs).map (c * ·)).take j).map V.int))) ⟨Evl.Ex.new hD, upd_same⟩ (fun j H' _ h => (hb3'.ex h.1).sq) ?_ ?_
    · rintro j x G4 hx ⟨X4, hDn⟩
      have hj : j < (ro n xs).length := by
        have := (List.getElem?_eq_some_iff.mp hx).1
        rwa [List.length_map] at this
      have ex : x = .int (g (ro n xs) j) := by
        rw [List.getElem?_map, g_get hj] at hx
        exact (Option.some.inj hx).symm
      subst ex
      have lb := Rn.ok _ (List.mem_of_getElem? (g_get hj))
      have l3 := ro_len xs n
      have ten30 : (10 : Int) ^ 30 = 1000000000000000000000000000000 := by decide
      have ten28 : (10 : Int) ^ 28 = 10000000000000000000000000000 := by decide
      rw [ten30] at lb
      rw [ten28] at c2
      refine ⟨rfl, ?_⟩
      dsimp only [tYes]
      rw [if_pos rfl]
      refine ⟨_, rfl, _, rfl, _, _, rfl, rfl, wide_mul (a := 200) (b := 200) (by omega) (by omega) (by decide) (by decide) (by decide), _, hDn, ?_, Evl.Ex.mut X4 hD, ?_⟩
      · rw [List.length_map, List.length_take, List.length_map]; exact small1000 (by omega)
      · rw [upd_same, List.take_add_one, g_get (by rw [List.length_map]; exact hj), g_scale hj, List.map_append]; rfl
    rintro G4 ⟨X4, hDn⟩
    rw [List.length_map, List.take_of_length_le (by rw [List.length_map]; exact Nat.le_refl _)] at hDn
    refine ⟨D, _, rfl, .inl ⟨SqL.of hDn, fun b9 hb9 => ?_⟩⟩
    have X9 := Evl.Ex.new (o := .tup (((ro n xs).map (c * ·)).map V.int)) hb9
    have gb9 : SqT K (upd G4 b9 (.tup (((ro n xs).map (c * ·)).map V.int))) b9 (((ro n xs).map (c * ·)).map V.int) := SqT.of upd_same
    have X39 := X4.trans X9
    generalize upd G4 b9 (.tup (((ro n xs).map (c * ·)).map V.int)) = G5 at X39 gb9 ⊢
    have X15 := X12.trans (X3.trans X39)
    refine ⟨_, rfl, _, _, rfl, rfl, _, rfl, ?_⟩
    by_cases hn : n = 0
    · rw [decide_eq_false (show ¬ (0 : Int) < (n : Int) by omega)]
      refine iteF ?_
      refine iteF ?_
      exact ⟨X15, _, _, _, _, rfl⟩
    obtain ⟨k, rfl⟩ : ∃ k, n = k + 1 := ⟨n - 1, by omega⟩
    rw [decide_eq_true (show (0 : Int) < ((k + 1 : Nat) : Int) by omega)]
    refine iteT ?_
    refine ⟨_, rfl, _, rfl, _, rfl, rfl, rfl, a, s6, xs, _, _, rfl, Evl.ex_t X15 hS11, R, Evl.ex_t X15 hs11, W2, v0, v1, fun b10 G6 X6 hb10 _ => ?_⟩
    rw [Int.toNat_natCast, wro_same c1] at hb10
    refine ⟨_, rfl, .tuple (((ro (k + 1) xs).map (c * ·)).map PyData.int), .tuple (((ro (k + 1) xs).map (c * ·)).map PyData.int), .tup hb10 (dp_ints _), .tup (Evl.ex_t X6 gb9) (dp_ints _), shaped_tup _, shaped_tup _, _, rfl, ?_⟩
    rw [eqv_tup, decide_eq_true rfl]
    refine iteF ?_
    exact ⟨X15.trans X6, _, _, _, _, rfl⟩
  · rintro σ G1 ⟨X1, y5, y6, y7, y8, rfl⟩
    exact q _ (E11.trans (ExB.of X1)) ((T12.ex X1).le (by omega))
end
end K66

set_option Elab.async false
set_option linter.all false
set_option maxRecDepth 100000
set_option maxHeartbeats 1000000
namespace K66
open PySem PySem.Spec
open PyProof.Rows L2 Sx
section
variable {P : Program} {w : World} {K : PySem.W.Frag} {mg : Str → Option Value} {base : Heap}
theorem bl_runs {ys ws R : List Int} (W : Wt ws ys.length) (B : Bl 1 ys ws R) {S : Rn} (hc : Cn S) (hx : xpn S = R) : S.length ≤ 2 * ys.length := by
  have B' := pcs_bl (low := 1) W ys.length (Nat.le_refl _)
  have hz : (ys.zip ws).length = ys.length := by rw [List.length_zip, W.len]; omega
  rw [List.take_length, show (ys.zip ws).take ys.length = ys.zip ws by rw [← hz, List.take_length]] at B'
  have hp : ∀ p ∈ pcs 1 (ys.zip ws), 1 ≤ p.2 := fun p hp => by
    obtain ⟨z, hz, hp⟩ := List.mem_flatMap.mp hp
    rcases List.mem_append.mp hp with hp | hp
    · by_cases hw : 1 < z.2
      · rw [if_pos hw, List.mem_singleton] at hp
        subst hp
        show 1 ≤ (z.2 - 1).toNat
        omega
      · rw [if_neg hw] at hp; exact (List.not_mem_nil hp).elim
    · rw [List.mem_singleton] at hp
      subst hp
      exact Nat.le_refl _
  have e := Cn.uniq hc (Cn.mrg hp) (by rw [hx, xpn_mrg, B.inj B'])
  have h1 := mrg_len (pcs 1 (ys.zip ws))
  have h2 := (pcs_len 1 (ys.zip ws)).2.1
  rw [e]; omega
theorem mug_prt {K : PySem.W.Frag} {H H' : Hp} {t a : Addr} {m : Int} {rs : Rn} (T : Mug H t m) (E : ExB t H H') (h : PrT K H a rs) : PrT K H' a rs := by
  have T0 := T
  obtain ⟨_, hT⟩ := T.get
  obtain ⟨ws, h1, h2⟩ := h
  exact ⟨ws, T0.tup E h1, h2.exB E hT⟩
def sp__law_long_right (K : PySem.W.Frag) : Sp := fun vs H Q _ => ∃ t a b, ∃ xs ws : List Int, ∃ m : Int, vs = [.ref t, .ref a, .ref b] ∧ Mug H t m ∧ PT H a (xs.map V.int) ∧ Rw xs ∧ SqT K H b (ws.map V.int) ∧ Wt ws xs.length ∧ 0 ≤ m ∧ m ≤ 900000 ∧
  ∀ H', ExB t H H' → Mug H' t (m + 100) → Q (.bl true) H'
theorem ok__law_long_right {f : Addr} {fd : FuncData} (D : DefAt K mg "_law_long_right" s__law_long_right ["fount", "row", "loads"] f fd) (T : Top mg) (c_weighted_needed : C8.Cal P w K mg base 8 "weighted_needed" (sp_weighted_needed K) []) (c_long_needed : C8.Cal P w K mg base 7 "long_needed" (sp_long_needed K) []) (c_weighted_after : CalN P w K mg base 8 "weighted_after" (sp_weighted_after K) 2 ["rounds"]) (c__law_sip : C8.Cal P w K mg base 1 "_law_sip" (sp__law_sip K) []) (c_long_entry : CalN P w K mg base 7 "long_entry" (sp_long_entry K) 2 ["rounds"]) (c_long_count : CalN P w K mg base 7 "long_count" (sp_long_count K) 2 ["rounds"]) (c_long_after : CalN P w K mg base 7 "long_after" (sp_long_after K) 1 ["rounds"]) :
    C8.Cal P w K mg base 9 "_law_long_right" (sp__law_long_right K) [] := by
  refine D.cal sc__law_long_right (fun vs H Q E h => ?len) fun cdv A outer s H vs Q E hr h => ?body
  case len => obtain ⟨t, a, b, xs, ws, m, rfl, _⟩ := h; rfl
  obtain ⟨t, a, b, xs, ws, m, rfl, hT, hP, R, hB, W, m0, m1, q⟩ := h
  refine ⟨_, (pss_cons (ps_asg (pe_tup (pa_cons (pe_op op_sub (pe_callB (cr_minT rfl) (by rfl) T.min (by decide +kernel) (pa_cons (pv 1) pa_nil)) pe_int) (pa_cons (pe_lst pa_nil) (pa_cons (pe_lst pa_nil) (pa_cons pe_int pa_nil))))) (pg_tup rfl (pgs_cons (pg_name (i := 3) sc__law_long_right.nd rfl (.inl rfl)) (pgs_cons (pg_name (i := 4) sc__law_long_right.nd rfl (.inl rfl)) (pgs_cons (pg_name (i := 5) sc__law_long_right.nd rfl (.inl rfl)) (pgs_cons (pg_name (i := 6) sc__law_long_right.nd rfl (.inl rfl)) pgs_nil))))))
      (pss_cons (ps_if (pt_cmpR op_lt (pv 3) (pe_op op_sub pe_int (pe_op op_powW pe_int pe_int)) (nomark _))
        (pss_one (ps_ret pe_bl))
        pss_nil)
      (pss_cons (ps_for PassesOwn.never rfl (RZ.pi_zipA (by rfl) T.zip (pa_cons (pv 1) (pa_cons (pv 2) pa_nil))) (pg_tup rfl (pgs_cons (pg_name (i := 7) sc__law_long_right.nd rfl (.inl rfl)) (pgs_cons (pg_name (i := 8) sc__law_long_right.nd rfl (.inl rfl)) pgs_nil)))
        (pss_cons (ps_set (i := 4) sc__law_long_right.nd rfl (.inl rfl) (pe_op op_cat (pe_op op_cat (pv 4) (pe_op op_rep (pe_lst (pa_cons (pe_tup (pa_cons (pv 3) (pa_cons (pe_op op_sub (pv 8) pe_int) pa_nil))) pa_nil)) (pe_callTy call_int1 (by rfl) T.int (by decide +kernel) (pa_cons (pe_cmpR op_gt (pv 8) pe_int (nomark _)) pa_nil)))) (pe_lst (pa_cons (pe_tup (pa_cons (pv 7) (pa_cons pe_int pa_nil))) pa_nil))))
          (pss_cons (ps_set (i := 6) sc__law_long_right.nd rfl (.inl rfl) (pe_op op_add (pv 6) (pv 8)))
          (pss_one (ps_expr (pe_bm PySem.F.plainAttrs_list PySem.F.slot_list_append PySem.F.type_list_append mt_append (pv 5) (pa_cons (pe_op op_sub (pv 6) pe_int) pa_nil)))))))
      (pss_cons (ps_par (i := 4) (j := 9) (by rfl) sc__law_long_right.nd rfl rfl (by decide) rfl rfl (pa_cons (pe_callTy call_tuple_of (by rfl) T.tuple (by decide +kernel) (pa_cons (pv 4) pa_nil)) (pa_cons (C8.pe_c c_weighted_needed hr (by decide) (by rfl) (pa_cons (pv 1) (pa_cons (pv 2) pa_nil))) pa_nil)) (by rfl))
      (pss_cons (ps_set (i := 10) sc__law_long_right.nd rfl (.inl rfl) (pe_callTy call_int1 (by rfl) T.int (by decide +kernel) (pa_cons (pe_and (pe_cmpR op_ne (pv 3) pe_int (nomark _)) (pe_one (pe_cmpR op_gt (pe_callB call_len_seq (by rfl) T.len (by decide +kernel) (pa_cons (pv 4) pa_nil)) (pe_callB call_len_seq (by rfl) T.len (by decide +kernel) (pa_cons (pv 1) pa_nil)) (nomark _)))) pa_nil)))
      (pss_cons (ps_if (pt_cmpR op_ne (C8.pe_c c_long_needed hr (by decide) (by rfl) (pa_cons (pv 4) pa_nil)) (pe_callB (call_max2 rfl) (by rfl) T.max (by decide +kernel) (pa_cons (pv 9) (pa_cons (pv 10) pa_nil))) (nomark _))
        (pss_one (ps_ret pe_bl))
        pss_nil)
      (pss_cons (ps_for PassesOwn.never rfl (pi_list (pe_lst (pa_cons pe_int (pa_cons pe_int (pa_cons (pe_callB (call_max2 rfl) (by rfl) T.max (by decide +kernel) (pa_cons pe_int (pa_cons (pv 9) pa_nil))) (pa_cons (pe_op op_add pe_int (C8.pe_c c__law_sip hr (by decide) (by rfl) (pa_cons (pv 0) (pa_cons pe_int pa_nil)))) (pa_cons (pe_op op_add pe_int (C8.pe_c c__law_sip hr (by decide) (by rfl) (pa_cons (pv 0) (pa_cons (pe_op op_powW pe_int pe_int) pa_nil)))) pa_nil))))))) (pg_name (i := 11) sc__law_long_right.nd rfl (.inl rfl))
        (pss_cons (ps_set (i := 12) sc__law_long_right.nd rfl (.inl rfl) (pe_kn c_weighted_after hr (by decide) (by rfl) (pa_cons (pv 1) (pa_cons (pv 2) pa_nil)) (pk_cons (pv 11) pk_nil)))
          (pss_cons (ps_for PassesOwn.never rfl (pi_range1 (by rfl) T.range (pa_cons pe_int pa_nil)) (pg_name (i := 13) sc__law_long_right.nd rfl (.inl rfl))
            (pss_cons (ps_set (i := 14) sc__law_long_right.nd rfl (.inl rfl) (C8.pe_c c__law_sip hr (by decide) (by rfl) (pa_cons (pv 0) (pa_cons (pe_callB call_len_seq (by rfl) T.len (by decide +kernel) (pa_cons (pv 1) pa_nil)) pa_nil))))
              (pss_one (ps_if (pt_cmpR op_ne (pe_kn c_long_entry hr (by decide) (by rfl) (pa_cons (pv 4) (pa_cons (pe_ix ix_list (pv 5) (pv 14) (fun _ _ => rfl)) pa_nil)) (pk_cons (pv 11) pk_nil)) (pe_ix ix_tup (pv 12) (pv 14) (fun _ _ => rfl)) (nomark _))
                (pss_one (ps_ret pe_bl))
                pss_nil))))
          (pss_cons (ps_if (pt_cmpR op_ne (pe_callB (cr_sumA rfl) (by rfl) T.sum (by decide +kernel) (pa_cons (pe_lc (own := [("entry", 7), ("count", 16)]) (g := (gTup K 2 (gCons (gName 7) (gCons (gName 16) gNil)))) (by rfl) sc__law_long_right.nd (pi_tup (pe_kn c_long_after hr (by decide) (by rfl) (pa_cons (pv 4) pa_nil) (pk_cons (pv 11) pk_nil))) (blkOk_by (own := [("entry", 7), ("count", 16)]) (N := ["fount", "row", "loads", "low", "pieces", "ends", "whole", "entry", "load", "needed", "least", "many", "due", "turn", "place", "greatest", "count"]) (sc := defScope s__law_long_right) (by decide +kernel)) (fun _ _ _ _ _ => (pg_tup rfl (pgs_cons (pg_name (i := 7) sc__law_long_right.nd rfl (.inl rfl)) (pgs_cons (pg_name (i := 16) sc__law_long_right.nd rfl (.inl rfl)) pgs_nil)))) (fun _ _ _ _ _ => pts_nil) (fun _ _ _ _ _ => (pv 16))) pa_nil)) (pe_callB (cr_sumA rfl) (by rfl) T.sum (by decide +kernel) (pa_cons (pv 2) pa_nil)) (nomark _))
            (pss_one (ps_ret pe_bl))
            pss_nil)
          (pss_cons (ps_set (i := 15) sc__law_long_right.nd rfl (.inl rfl) (pe_callB (cr_maxT rfl) (by rfl) T.max (by decide +kernel) (pa_cons (pv 12) pa_nil)))
          (pss_one (ps_if (PW.pt (pw_and (pt_cmpR op_gt (pv 15) pe_int (nomark _)) (pw_and1 (pt_cmpR op_ne (pe_kn c_long_count hr (by decide) (by rfl) (pa_cons (pv 4) (pa_cons (pv 15) pa_nil)) (pk_cons (pv 11) pk_nil)) (pe_tcount (pv 12) (pv 15)) (nomark _)))))
            (pss_one (ps_ret pe_bl))
            pss_nil)))))))
      (pss_one (ps_ret pe_bl))))))))), ?_⟩
  have hlo := R.lo
  have hhi := R.hi
  have hwl := W.len
  have ten30 : (0 : Int) - (10 : Int) ^ (30 : Int).toNat = -10 ^ 30 := by decide
  have hT0 := hT
  refine ⟨_, rfl, a, xs, rfl, hP.sq, fun e => absurd hlo (by rw [e]; decide), fun mn hm hle => ?_⟩
  have hle : ∀ x ∈ xs, mn ≤ x := fun x hx => hle x hx
  refine ⟨_, _, rfl, rfl, Nat.zero_le _, fun p1 hp1 => ⟨Nat.zero_le _, fun p2 hp2 => ⟨by show 4 ≤ sizeLine; decide, fun p3 hp3 => ⟨p3, _, rfl, SqT.of upd_same, rfl, _, _, rfl, _, _, rfl, _, _, rfl, _, _, rfl, rfl, ?_⟩⟩⟩⟩
  obtain ⟨low, hlow⟩ : ∃ low, mn - 1 = low := ⟨_, rfl⟩
  rw [show (fun i j : Int => V.int (i - j)) mn 1 = .int low from congrArg V.int hlow]
  have Y1 := Evl.Ex.new (o := .lst []) hp1
  have Y2 := Evl.Ex.new (o := .lst []) hp2
  have Y3 := Evl.Ex.new (o := .tup [.int low, .ref p1, .ref p2, .int 0]) hp3
  have X3 := Y1.trans (Y2.trans Y3)
  have n12 : p1 ≠ p2 := ne_of_none upd_same hp2
  have g1 := Y3 _ _ (Y2 _ _ (upd_same (H := H) (a := p1) (o := .lst [])))
  have g2 := Y3 _ _ (upd_same (H := upd H p1 (.lst [])) (a := p2) (o := .lst []))
  have z2 : H p2 = none := Evl.fresh_back Y1 hp2
  generalize upd (upd (upd H p1 (.lst [])) p2 (.lst [])) p3 (.tup [.int low, .ref p1, .ref p2, .int 0]) = H3 at *
  clear Y1 Y2 Y3 hp3
  have B3 := Evl.ex_t X3 hB
  have P3 := hP.ex X3
  refine ⟨_, rfl, _, _, rfl, rfl, ⟨by decide, by decide, by decide⟩, _, _, rfl, rfl, ?_⟩
  rw [show (fun i j : Int => V.int (i - j)) 0 ((fun i j : Int => i ^ j.toNat) 10 30) = .int (-10 ^ 30) from congrArg V.int ten30]
  refine ⟨_, _, rfl, rfl, _, rfl, ?_⟩
  by_cases hc : low < -10 ^ 30
  · rw [decide_eq_true hc]
    exact iteT (q _ (ExB.of X3) ((hT.ex X3).le (by omega)))
  rw [decide_eq_false hc]
  refine iteF ?_
  refine ⟨_, rfl, _, rfl, a, b, _, _, rfl, .inr ⟨P3.sq, B3, ?_⟩⟩
  refine RZ.for_zipT (K := K) (a := a) (b := b) (xs := xs.map V.int) (ys := ws.map V.int) (by rw [List.length_map, List.length_map, hwl])
    (fun i σ H' => Ex H H' ∧ ∃ pl vs, H' pl = some (.lst vs) ∧ pl ≠ p2 ∧ Prs K H' vs (pcs low ((xs.zip ws).take i)) ∧ H' p2 = some (.lst (((List.range i).map fun j => tot ws (j + 1) - 1).map V.int)) ∧
      ∃ y7 y8 : Option V, σ = [some (.ref t), some (.ref a), some (.ref b), some (.int low), some (.ref pl), some (.ref p2), some (.int (tot ws i)), y7, y8, none, none, none, none, none, none, none, none])
    ⟨X3, p1, [], g1, n12, by rw [List.take_zero]; exact Prs.nil, g2, none, none, by rw [tot_zero]; rfl⟩ (fun i σ H' h => ⟨(hP.ex h.1).sq, Evl.ex_t h.1 hB⟩) ?_ ?_
  · rintro i x y T' σ H4 hx hy ⟨X4, pl, vs, hpl, npl, hPr, hE, y7, y8, rfl⟩ hT'
    have hi : i < xs.length := by
      have := (List.getElem?_eq_some_iff.mp hx).1
      rwa [List.length_map] at this
    have ex : x = .int (g xs i) := by
      rw [List.getElem?_map, g_get hi] at hx
      exact (Option.some.inj hx).symm
    have ey : y = .int (g ws i) := by
      rw [List.getElem?_map, g_get (by omega)] at hy
      exact (Option.some.inj hy).symm
    subst ex ey
    have hw1 := (W.at (i := i) hi).1
    have hplen : (pcs low ((xs.zip ws).take i)).length ≤ 200 := by
      have := (pcs_len low ((xs.zip ws).take i)).2.1
      have h2 : ((xs.zip ws).take i).length ≤ i := List.length_take_le ..
      omega
    have hvl : vs.length ≤ 200 := by rw [hPr.1]; exact hplen
    have Z1 := Evl.Ex.new (o := .tup [.int (g xs i), .int (g ws i)]) hT'
    refine ⟨T', _, rfl, SqT.of upd_same, rfl, _, _, rfl, _, _, rfl, rfl, ?_⟩
    replace X4 := X4.trans Z1
    replace hpl := Z1 _ _ hpl
    replace hPr := hPr.ex Z1
    replace hE := Z1 _ _ hE
    generalize upd H4 T' (.tup [.int (g xs i), .int (g ws i)]) = H5 at *
    clear Z1 hT' hx hy
    refine ⟨_, rfl, _, rfl, _, rfl, _, _, rfl, rfl, ?_⟩
    rw [show (fun i j : Int => V.int (i - j)) (g ws i) 1 = .int (g ws i - 1) from rfl]
    refine ⟨by show 2 ≤ sizeLine; decide, fun q1 hq1 => ⟨by show 1 ≤ sizeLine; decide, fun q2 hq2 => ?_⟩⟩
    have Z1 := Evl.Ex.new (o := .tup [.int low, .int (g ws i - 1)]) hq1
    have Z2 := Evl.Ex.new (o := .lst [.ref q1]) hq2
    have k1 : SqT K (upd (upd H5 q1 (.tup [.int low, .int (g ws i - 1)])) q2 (.lst [.ref q1])) q1 (pV (low, (g ws i - 1).toNat)) := by
      refine Evl.ex_t Z2 (SqT.of ?_)
      rw [upd_same]
      show some (HO.tup [.int low, .int (g ws i - 1)]) = some (HO.tup [.int low, .int (((g ws i - 1).toNat : Nat) : Int)])
      rw [Int.toNat_of_nonneg (by omega)]
    have k2 := upd_same (H := upd H5 q1 (.tup [.int low, .int (g ws i - 1)])) (a := q2) (o := .lst [.ref q1])
    replace X4 := X4.trans (Z1.trans Z2)
    replace hpl := (Z1.trans Z2) _ _ hpl
    replace hPr := hPr.ex (Z1.trans Z2)
    replace hE := (Z1.trans Z2) _ _ hE
    refine ⟨_, rfl, _, _, rfl, rfl, .inr ⟨_, rfl, ?_⟩⟩
    obtain ⟨kk, hkk, kk0, kk1, hrep⟩ : ∃ kk : Int, (if decide (1 < g ws i) = true then (1 : Int) else 0) = kk ∧ 0 ≤ kk ∧ kk ≤ 1 ∧ (List.replicate kk.toNat [V.ref q1]).flatten = if 1 < g ws i then [V.ref q1] else [] := by
      by_cases hw : 1 < g ws i
      · exact ⟨1, by rw [if_pos (decide_eq_true hw)], by decide, by decide, by rw [if_pos hw]; rfl⟩
      · exact ⟨0, by rw [if_neg (by rw [decide_eq_false hw]; decide)], by decide, by decide, by rw [if_neg hw]; rfl⟩
    rw [hkk]
    refine ⟨q2, kk, _, rfl, rfl, k2, by omega, by omega, small16 (by show 1 * kk.toNat ≤ _; omega), fun q3 hq3 => ?_⟩
    obtain ⟨rp, hrp⟩ : ∃ rp, (if 1 < g ws i then [V.ref q1] else []) = rp := ⟨_, rfl⟩
    rw [hrep, hrp]
    have Z3 := Evl.Ex.new (o := .lst rp) hq3
    have k3 := upd_same (H := upd (upd H5 q1 (.tup [.int low, .int (g ws i - 1)])) q2 (.lst [.ref q1])) (a := q3) (o := .lst rp)
    have hP6 : Prs K (upd (upd (upd H5 q1 (.tup [.int low, .int (g ws i - 1)])) q2 (.lst [.ref q1])) q3 (.lst rp)) (vs ++ rp) (pcs low ((xs.zip ws).take i) ++ if 1 < g ws i then [(low, (g ws i - 1).toNat)] else []) := by
      by_cases hw : 1 < g ws i
      · rw [if_pos hw] at hrp
        rw [if_pos hw]
        subst hrp
        exact (hPr.ex Z3).snoc (Evl.ex_t Z3 k1)
      · rw [if_neg hw] at hrp
        rw [if_neg hw]
        subst hrp
        rw [List.append_nil, List.append_nil]
        exact hPr.ex Z3
    have hrl : rp.length ≤ 1 := by rw [← hrp]; split <;> simp
    replace X4 := X4.trans Z3
    replace hpl := Z3 _ _ hpl
    replace hE := Z3 _ _ hE
    generalize upd (upd (upd H5 q1 (.tup [.int low, .int (g ws i - 1)])) q2 (.lst [.ref q1])) q3 (.lst rp) = H6 at *
    clear Z1 Z2 k1 k2 hrep hPr
    refine ⟨pl, q3, _, _, rfl, rfl, hpl, k3, small16 (by omega), fun q4 hq4 => ?_⟩
    have Z4 := Evl.Ex.new (o := .lst (vs ++ rp)) hq4
    have k4 := upd_same (H := H6) (a := q4) (o := .lst (vs ++ rp))
    replace X4 := X4.trans Z4
    replace hP6 := hP6.ex Z4
    replace hE := Z4 _ _ hE
    generalize upd H6 q4 (.lst (vs ++ rp)) = H7 at *
    refine ⟨_, rfl, by show 2 ≤ sizeLine; decide, fun q5 hq5 => ⟨by show 1 ≤ sizeLine; decide, fun q6 hq6 => ?_⟩⟩
    have Z5 := Evl.Ex.new (o := .tup [.int (g xs i), .int 1]) hq5
    have Z6 := Evl.Ex.new (o := .lst [.ref q5]) hq6
    have k5 : SqT K (upd (upd H7 q5 (.tup [.int (g xs i), .int 1])) q6 (.lst [.ref q5])) q5 (pV (g xs i, 1)) := Evl.ex_t Z6 (SqT.of upd_same)
    have k6 := upd_same (H := upd H7 q5 (.tup [.int (g xs i), .int 1])) (a := q6) (o := .lst [.ref q5])
    have Z56 := Z5.trans Z6
    replace X4 := X4.trans Z56
    replace hP6 := (hP6.ex Z56).snoc k5
    replace hE := Z56 _ _ hE
    replace k4 := Z56 _ _ k4
    generalize upd (upd H7 q5 (.tup [.int (g xs i), .int 1])) q6 (.lst [.ref q5]) = H8 at *
    refine ⟨q4, q6, _, _, rfl, rfl, k4, k6, small16 (by rw [List.length_append]; show _ + 1 ≤ _; omega), fun q7 hq7 => ?_⟩
    have Z7 := Evl.Ex.new (o := .lst (vs ++ rp ++ [.ref q5])) hq7
    have k7 := upd_same (H := H8) (a := q7) (o := .lst (vs ++ rp ++ [.ref q5]))
    replace X4 := X4.trans Z7
    replace hP6 := hP6.ex Z7
    have n72 : q7 ≠ p2 := (ne_of_none hE hq7).symm
    replace hE := Z7 _ _ hE
    generalize upd H8 q7 (.lst (vs ++ rp ++ [.ref q5])) = H9 at *
    refine ⟨_, rfl, _, rfl, _, _, rfl, rfl, ?_⟩
    have hts : tot ws i + g ws i = tot ws (i + 1) := (tot_succ (by omega)).symm
    rw [show (fun i j : Int => V.int (i + j)) (tot ws i) (g ws i) = .int (tot ws (i + 1)) from congrArg V.int hts]
    refine ⟨_, rfl, .inl ⟨rfl, _, SqL.of hE⟩, _, rfl, _, _, rfl, rfl, p2, _, _, rfl, rfl, hE, ?_, ?_⟩
    · rw [List.length_map, List.length_map, List.length_range]; exact small1000 (by omega)
    refine ⟨Evl.Ex.mut X4 z2, q7, vs ++ rp ++ [V.ref q5], ?_, n72, ?_, ?_, _, _, rfl⟩
    · rw [upd_ne n72]; exact k7
    · refine Prs.mut ?_ hE
      have ez : (xs.zip ws).take (i + 1) = (xs.zip ws).take i ++ [(g xs i, g ws i)] := by
        rw [List.take_add_one, show (xs.zip ws)[i]? = some (g xs i, g ws i) by rw [List.getElem?_zip_eq_some]; exact ⟨g_get hi, g_get (by omega)⟩]; rfl
      rw [ez, pcs_app]
      have e1 : pcs low [(g xs i, g ws i)] = (if 1 < g ws i then [(low, (g ws i - 1).toNat)] else []) ++ [(g xs i, 1)] := List.append_nil _
      rw [e1, ← List.append_assoc]
      exact hP6
    · rw [upd_same, List.range_succ, List.map_append, List.map_append]; rfl
  rintro σ H4 ⟨X4, pl, vs, hpl, npl, hPr, hE, y7, y8, rfl⟩
  rw [List.length_map] at hPr hE ⊢
  have hzl : (xs.zip ws).length = xs.length := by rw [List.length_zip, hwl, Nat.min_self]
  have hzt : (xs.zip ws).take xs.length = xs.zip ws := by rw [← hzl, List.take_length]
  rw [hzt] at hPr
  have hfst : ∀ p ∈ xs.zip ws, p.1 ∈ xs ∧ 1 ≤ p.2 ∧ p.2 ≤ 10 ^ 28 := fun p hp => by
    have h := List.of_mem_zip hp
    exact ⟨h.1, W.lo _ h.2, W.hi _ h.2⟩
  obtain ⟨rs, hrs⟩ : ∃ rs, pcs low (xs.zip ws) = rs := ⟨_, rfl⟩
  obtain ⟨hl1, hl2, hl3⟩ := pcs_len low (xs.zip ws)
  have BL := pcs_bl (low := low) W xs.length (Nat.le_refl _)
  rw [List.take_length, hzt, hrs] at BL
  rw [hzl, hrs] at hl1 hl2 hl3
  rw [hrs] at hPr
  have hmn := R.ok mn hm
  have LW : Lw low xs ws := ⟨fun i hi => by have := hle _ (List.mem_of_getElem? (g_get hi)); omega, fun i hi _ => by have := hle _ (List.mem_of_getElem? (g_get hi)); omega⟩
  have hBk : Bk rs := by
    refine ⟨by omega, by omega, fun p hp => ?_⟩
    rw [← hrs] at hp
    obtain ⟨z, hz, hp⟩ := List.mem_flatMap.mp hp
    have hz := hfst z hz
    rcases List.mem_append.mp hp with hp | hp
    · by_cases hw : 1 < z.2
      · rw [if_pos hw, List.mem_singleton] at hp
        subst hp
        refine ⟨by omega, by omega, by omega, ?_⟩
        have : ((10 ^ 28 : Nat) : Int) = (10 : Int) ^ 28 := by norm_cast
        omega
      · rw [if_neg hw] at hp; exact (List.not_mem_nil hp).elim
    · rw [List.mem_singleton] at hp
      subst hp
      have := R.ok _ hz.1
      exact ⟨this.1, this.2, Nat.le_refl _, by show 1 ≤ 10 ^ 28; decide⟩
  have hd3 : xs.length < rs.length ↔ ∃ i, i < xs.length ∧ 1 < g ws i := by
    rw [hl3]
    constructor
    · rintro ⟨p, hp, hw⟩
      obtain ⟨i, hi⟩ := List.getElem?_of_mem hp
      have hz := List.getElem?_zip_eq_some.mp hi
      have hil : i < xs.length := (List.getElem?_eq_some_iff.mp hz.1).1
      refine ⟨i, hil, ?_⟩
      have := hz.2
      rw [g_get (by omega)] at this
      rw [Option.some.inj this]; exact hw
    · rintro ⟨i, hi, hw⟩
      exact ⟨(g xs i, g ws i), List.mem_of_getElem? (List.getElem?_zip_eq_some.mpr ⟨g_get hi, g_get (by omega)⟩), hw⟩
  have hvl : vs.length = rs.length := hPr.1
  refine ⟨_, rfl, pl, _, rfl, .inl ⟨SqL.of hpl, fun pt hpt => ?_⟩⟩
  have Z1 := Evl.Ex.new (o := .tup vs) hpt
  have hPT : PrT K (upd H4 pt (.tup vs)) pt rs := ⟨vs, SqT.of upd_same, hPr.ex Z1⟩
  replace hE := Z1 _ _ hE
  replace X4 := X4.trans Z1
  generalize upd H4 pt (.tup vs) = H5 at *
  refine ⟨_, rfl, _, rfl, a, b, xs, ws, rfl, (hP.ex X4).sq, R, Evl.ex_t X4 hB, W, fun H6 n X6 hn hnl => ?_⟩
  refine ⟨_, _, rfl, ?_⟩
  replace X4 := X4.trans X6
  replace hPT := hPT.ex X6
  replace hE := X6 _ _ hE
  refine ⟨_, rfl, ?_⟩
  refine ⟨rfl, _, rfl, ?_⟩
  obtain ⟨dd, hdd⟩ : ∃ dd : Bool, (dd = true ↔ (low ≠ 1 ∧ ∃ i, i < xs.length ∧ 1 < g ws i)) := ⟨decide (low ≠ 1 ∧ xs.length < rs.length), by rw [decide_eq_true_iff, hd3]⟩
  have hN := BL.needed W LW hn hdd
  obtain ⟨LN, hLN⟩ : ∃ LN : Nat, (if dd then 1 else 0) = LN := ⟨_, rfl⟩
  have hL1 : LN ≤ 1 := by rw [← hLN]; split <;> decide
  rw [hLN] at hN
  obtain ⟨vt, hvt, hpp⟩ := hPT
  have hvtl : vt.length = rs.length := hpp.1
  rcases Classical.em (low = 1) with hl | hl
  case' inl =>
    rw [show (!decide (V.int low = V.int 1)) = false by rw [hl]; rfl]
    have hdf : dd = false := by
      cases dd with
      | false => rfl
      | true => exact absurd hl (hdd.mp rfl).1
    refine iteF ?_
    refine .inr ⟨_, rfl, ?_⟩
    rw [show (if false = true then (1 : Int) else 0) = ((LN : Nat) : Int) by rw [← hLN, hdf]; rfl]
  case' inr =>
    have hl' : (!decide (V.int low = V.int 1)) = true := by
      rw [decide_eq_false fun e => hl (V.int.inj e)]; rfl
    rw [hl']
    refine iteT ?_
    refine ⟨_, rfl, pt, _, rfl, .inr hvt, _, rfl, a, _, rfl, .inr (hP.ex X4).sq, ?_⟩
    rw [List.length_map, hvtl]
    refine ⟨_, _, rfl, rfl, .inr ⟨_, rfl, ?_⟩⟩
    have hdt : (if decide ((xs.length : Int) < (rs.length : Int)) = true then (1 : Int) else 0) = ((LN : Nat) : Int) := by
      by_cases hw : xs.length < rs.length
      · have : dd = true := hdd.mpr ⟨hl, hd3.mp hw⟩
        rw [← hLN, this, decide_eq_true (by omega)]; rfl
      · have : dd = false := by
          cases dd with
          | false => rfl
          | true => exact absurd (hd3.mpr (hdd.mp rfl).2) hw
        rw [← hLN, this, decide_eq_false (by omega)]; rfl
    rw [hdt]
  all_goals
    refine ⟨_, rfl, pt, rs, rfl, ⟨vt, hvt, hpp⟩, hBk, fun N H7 hN7 X7 => ?_⟩
    obtain rfl := hN7.uniq hN
    refine ⟨_, rfl, _, rfl, _, _, rfl, ?_⟩
    rw [show (if ((LN : Nat) : Int) > ((n : Nat) : Int) then ((LN : Nat) : Int) else ((n : Nat) : Int)) = ((max n LN : Nat) : Int) by split <;> omega]
    refine ⟨rfl, _, rfl, ?_⟩
    rw [decide_eq_true rfl]
    refine iteF ?_
    replace X4 := X4.trans X7
    have hPT7 : PrT K H7 pt rs := (show PrT K H6 pt rs from ⟨vt, hvt, hpp⟩).ex X7
    have hE7 := X7 _ _ hE
    have T7 := hT.ex X4
    refine ⟨_, rfl, _, _, rfl, _, rfl, t, 120, _, rfl, T7, by decide, p1000 (by decide), by omega, fun r8 H8 r80 r81 e8 T8 => ?_⟩
    refine ⟨_, _, rfl, rfl, ?_⟩
    rw [show (fun i j : Int => V.int (i + j)) 1 r8 = .int (1 + r8) from rfl]
    refine ⟨_, rfl, _, _, rfl, rfl, ⟨by decide, by decide, by decide⟩, t, _, _, rfl, T8, by decide, p1000w (by decide), by omega, fun r9 H9 r90 r91 e9 T9 => ?_⟩
    have r91 : r9 < 1000000000000000000000000000000 := by
      have e : (10 : Int) ^ (30 : Int).toNat = 1000000000000000000000000000000 := by decide
      rw [← e]; exact r91
    have ten3 : (10 : Int) ^ 30 = 1000000000000000000000000000000 := by decide
    refine ⟨_, _, rfl, rfl, ?_⟩
    rw [show (fun i j : Int => V.int (i + j)) 1 r9 = .int (1 + r9) from rfl]
    obtain ⟨mx, hmx, mx0, mx1⟩ : ∃ z : Int, (if ((n : Nat) : Int) > 1 then ((n : Nat) : Int) else 1) = z ∧ 1 ≤ z ∧ z ≤ 100 := ⟨_, rfl, by split <;> omega, by split <;> omega⟩
    rw [hmx]
    refine ⟨by show 5 ≤ sizeLine; decide, fun pq hpq => ⟨pq, rfl, ⟨_, SqL.of upd_same⟩, ?_⟩⟩
    have Yq := Evl.Ex.new (o := .lst [.int 1, .int 2, .int mx, .int (1 + r8), .int (1 + r9)]) hpq
    have npq : pq ≠ t := T9.ne hpq
    have gpq := upd_same (H := H9) (a := pq) (o := .lst [.int 1, .int 2, .int mx, .int (1 + r8), .int (1 + r9)])
    have nE : p2 ≠ t := by
      obtain ⟨_, hg⟩ := T7.get
      rintro rfl
      obtain ⟨_, hg0⟩ := hT.get
      rw [hg0] at z2; exact absurd z2 (by simp)
    have E79 := e8.trans (e9.trans (ExB.of Yq))
    have hE9 := E79 _ _ nE hE7
    have hP9 := mug_pt T7 E79 (hP.ex X4)
    have hB9 := T7.tup E79 (Evl.ex_t X4 hB)
    have hPT9 := mug_prt T7 E79 hPT7
    have E9 := (ExB.of X4).trans E79
    have T10 := T9.ex Yq
    generalize upd H9 pq (.lst [.int 1, .int 2, .int mx, .int (1 + r8), .int (1 + r9)]) = H10 at *
    refine for_list (K := K) (D := { nx := tRet (tC (.bl true)) { nx := fun _ H' => Q .non H', rt := Q }, rt := Q }) (a := pq) (xs := [.int 1, .int 2, .int mx, .int (1 + r8), .int (1 + r9)]) (fun j σ H' => ExB t H10 H' ∧ Mug H' t (m + 2 + 4 * j) ∧ ∃ y7 y11 y12 y13 y14 y15 y16 : Option V, σ = [some (.ref t), some (.ref a), some (.ref b), some (.int low), some (.ref pt), some (.ref p2), some (.int (tot ws xs.length)), y7, y8, some (.int (n : Int)), some (.int (LN : Int)), y11, y12, y13, y14, y15, y16])
      ⟨ExB.refl _ _, T10.le (by omega), _, _, _, _, _, _, _, rfl⟩ (fun j σ H' _ h => SqL.of (h.1 _ _ npq gpq)) ?_ ?_
    rotate_left
    · rintro σ G1 ⟨E1, T1, y7, y11, y12, y13, y14, y15, y16, rfl⟩
      exact q _ (E9.trans E1) (T1.le (by show m + 2 + 4 * ((5 : Nat) : Int) ≤ _; omega))
    rintro j v σ G1 hv ⟨E1, T1, y7, y11, y12, y13, y14, y15, y16, rfl⟩
    obtain ⟨v, rfl, v0, v1, hj⟩ : ∃ b : Int, v = .int b ∧ 1 ≤ b ∧ b ≤ 10 ^ 30 ∧ j < 5 := by
      match j, hv with
      | 0, hv => cases hv; exact ⟨1, rfl, by decide, by decide, by decide⟩
      | 1, hv => cases hv; exact ⟨2, rfl, by decide, by decide, by decide⟩
      | 2, hv => cases hv; exact ⟨mx, rfl, mx0, by omega, by decide⟩
      | 3, hv => cases hv; exact ⟨1 + r8, rfl, by omega, by omega, by decide⟩
      | 4, hv => cases hv; exact ⟨1 + r9, rfl, by omega, by omega, by decide⟩
      | j + 5, hv => cases hv
    obtain ⟨k, rfl⟩ : ∃ k : Nat, v = ((k + 1 : Nat) : Int) := ⟨(v - 1).toNat, by omega⟩
    obtain ⟨Bk1, Lk1⟩ := BL.rounds W LW k
    have hPG := mug_pt T10 E1 hP9
    have hBG := T10.tup E1 hB9
    refine ⟨_, rfl, _, rfl, _, rfl, rfl, rfl, a, b, xs, ws, _, rfl, hPG.sq, R, hBG, W, by omega, v1, fun c G2 X2 hc hcP => ?_⟩
    have hcP := hcP hPG
    rw [Int.toNat_natCast] at hc hcP
    obtain ⟨due, hdue⟩ : ∃ due, wro ws (k + 1) xs = due := ⟨_, rfl⟩
    have hdl : due.length = xs.length := by rw [← hdue, wro_len]
    rw [hdue] at hc hcP Bk1
    obtain ⟨RR, hRR⟩ : ∃ RR, ro (k + 1) (xpn rs) = RR := ⟨_, rfl⟩
    rw [hRR] at Bk1
    have hPTG := (mug_prt T10 E1 hPT9).ex X2
    have hEG := X2 _ _ (E1 _ _ nE hE9)
    have T2 := T1.ex X2
    replace hPG := hPG.ex X2
    replace hBG := Evl.ex_t X2 hBG
    refine ⟨4, rfl, by decide, by decide, ?_⟩
    refine for_range (lo := 0) (n := (4 : Int).toNat) (fun i σ H' => ExB t G2 H' ∧ Mug H' t (m + 2 + 4 * j + i) ∧ ∃ y13 y14 : Option V, σ = [some (.ref t), some (.ref a), some (.ref b), some (.int low), some (.ref pt), some (.ref p2), some (.int (tot ws xs.length)), y7, y8, some (.int (n : Int)), some (.int (LN : Int)), some (.int ((k + 1 : Nat) : Int)), some (.ref c), y13, y14, y15, y16])
      ⟨ExB.refl _ _, T2.le (by omega), _, _, rfl⟩ ?_ ?_
    · rintro i σ G3 hi ⟨E3, T3, y13, y14, rfl⟩
      have hi4 : i < 4 := hi
      have hP3 := mug_pt T2 E3 hPG
      refine ⟨_, rfl, _, rfl, a, _, rfl, .inr hP3.sq, t, _, _, rfl, T3, by rw [List.length_map]; omega, p1000 (by rw [List.length_map]; omega), by omega, fun r G4 r0 r1 e4 T4 => ?_⟩
      rw [List.length_map] at r1
      obtain ⟨u, rfl⟩ : ∃ u : Nat, r = (u : Int) := ⟨r.toNat, by omega⟩
      have hu : u < xs.length := by omega
      have hE4 := e4 _ _ nE (E3 _ _ nE hEG)
      have hPT4 := T3.prt e4 (T2.prt E3 hPTG)
      have hc4 := T3.tup e4 (T2.tup E3 hc)
      have htp := tot_le W (Nat.zero_le u) (by omega)
      have htl := tot_lt W (show u < u + 1 by omega) (by omega)
      have htx := tot_le W (show u + 1 ≤ xs.length by omega) (Nat.le_refl _)
      rw [tot_zero] at htp
      have hBLl := BL.len
      obtain ⟨pp, hpp2⟩ : ∃ pp : Nat, tot ws (u + 1) - 1 = (pp : Int) := ⟨(tot ws (u + 1) - 1).toNat, by omega⟩
      have hat : atI (((List.range xs.length).map fun j => tot ws (j + 1) - 1).map V.int) ((u : Nat) : Int) = some (.int (pp : Int)) := by
        refine atI_nat ?_
        rw [List.getElem?_map, List.getElem?_map, List.getElem?_range hu, ← hpp2]; rfl
      refine ⟨_, rfl, _, rfl, _, rfl, p2, _, _, _, rfl, rfl, SqL.of hE4, hat, _, rfl, rfl, rfl, pt, rs, pp, _, rfl, hPT4, hBk, by omega, by omega, v1, fun G5 X5 => ?_⟩
      rw [Int.toNat_natCast, hRR]
      refine ⟨_, rfl, _, rfl, c, _, _, _, rfl, rfl, Evl.ex_t X5 hc4, atN (by omega), ?_⟩
      rw [Bk1.fin u (by omega) pp (by omega)]
      refine ⟨rfl, _, rfl, ?_⟩
      rw [decide_eq_true rfl]
      refine iteF ?_
      exact ⟨E3.trans (e4.trans (ExB.of X5)), (T4.ex X5).le (by omega), _, _, rfl⟩
    rintro σ G3 ⟨E3, T3, y13, y14, rfl⟩
    replace hPG := mug_pt T2 E3 hPG
    replace hBG := T2.tup E3 hBG
    replace hPTG := T2.prt E3 hPTG
    replace hcP := mug_pt T2 E3 hcP
    replace E1 := E1.trans ((ExB.of X2).trans E3)
    replace T3 : Mug G3 t (m + 2 + 4 * j + 4) := T3
    clear hEG hc T2 X2 E3 T1
    -- the whole
    refine ⟨_, rfl, _, rfl, rfl, rfl, pt, rs, _, rfl, hPTG, hBk, by omega, v1, fun rl R2 G4 X4' hR2 hCn hxp => ?_⟩
    rw [Int.toNat_natCast, hRR] at hxp
    obtain ⟨ys, hys, hY⟩ := hR2
    have hRl4 : R2.length ≤ 400 := by
      have := bl_runs (by rw [hdl]; exact W) Bk1 hCn hxp
      omega
    refine ⟨rl, rfl, ⟨_, hys⟩, fun D hD => ?_⟩
    refine lc_tup (K := K) (a := rl) (xs := ys) (fun k H' => Ex G4 H' ∧ H' D = some (.lst (((R2.take k).map fun p => ((p.2 : Nat) : Int)).map V.int))) ⟨Evl.Ex.new hD, upd_same⟩ (fun k H' _ h => Evl.ex_t h.1 hys) ?_ ?_
    · rintro k' x H' hx ⟨hE', hH⟩
      obtain ⟨hk, r, rfl, hr⟩ := hY.item hx
      refine ⟨r, _, rfl, Evl.ex_t hE' hr, rfl, _, _, rfl, _, _, rfl, rfl, rfl, ?_⟩
      dsimp only [tYes]
      rw [if_pos rfl]
      refine ⟨_, rfl, _, hH, ?_, Evl.Ex.mut hE' hD, ?_⟩
      · rw [List.length_map, List.length_map, List.length_take]; exact small1000 (by omega)
      · rw [upd_same, take_at hk, List.map_append, List.map_append]; rfl
    rintro G5 ⟨X5, hH5⟩
    rw [hY.1, List.take_length] at hH5
    have hsum : (R2.map fun p => ((p.2 : Nat) : Int)).sum = tot ws xs.length := by
      rw [cts_sum, hxp, Bk1.len, hdl]
    refine ⟨D, _, rfl, .inl (SqL.of hH5), ?_⟩
    rw [hsum]
    have X45 := X4'.trans X5
    refine ⟨_, rfl, b, _, rfl, .inr (Evl.ex_t X45 hBG), ?_⟩
    have hws : ws.sum = tot ws xs.length := by unfold tot; rw [← hwl, List.take_length]
    rw [hws]
    refine ⟨rfl, _, rfl, ?_⟩
    rw [decide_eq_true rfl]
    refine iteF ?_
    have hc5 := hcP.ex X45
    refine ⟨_, rfl, c, due, rfl, hc5.sq, fun e => absurd hdl (by rw [e]; show 0 ≠ _; omega), fun gr hgm hgle => ?_⟩
    refine ⟨_, rfl, _, _, rfl, rfl, _, rfl, ?_⟩
    have EE := E1.trans (ExB.of X45)
    by_cases hg1 : 1 < gr
    · rw [decide_eq_true hg1]
      refine iteT ?_
      refine ⟨_, rfl, _, rfl, _, rfl, rfl, rfl, pt, rs, gr, _, rfl, hPTG.ex X45, hBk, by omega, v1, fun G6 X6 => ?_⟩
      rw [Int.toNat_natCast, hRR]
      have hc6 := hc5.ex X6
      refine ⟨_, rfl, c, due, rfl, hc6, _, rfl, _, rfl, hc6, ?_⟩
      rw [Bk1.count (by rw [hdl]; exact W) (by omega)]
      refine ⟨rfl, _, rfl, ?_⟩
      rw [decide_eq_true rfl]
      refine iteF ?_
      exact ⟨EE.trans (ExB.of X6), (T3.ex (X45.trans X6)).le (by omega), _, _, _, _, _, _, _, rfl⟩
    · rw [decide_eq_false hg1]
      refine iteF ?_
      refine iteF ?_
      exact ⟨EE, (T3.ex X45).le (by omega), _, _, _, _, _, _, _, rfl⟩
end
end K66

set_option Elab.async false
set_option linter.all false
set_option maxRecDepth 100000
set_option maxHeartbeats 1000000
namespace K66
open PySem PySem.Spec
open PyProof.Rows L2 Sx
section
variable {P : Program} {w : World} {K : PySem.W.Frag} {mg : Str → Option Value} {base : Heap}
def sp_law (K : PySem.W.Frag) : Sp := fun vs H Q _ => ∃ a, ∃ ns : List Int, vs = [.ref a] ∧ SqL K H a (ns.map V.int) ∧ ns.length ≤ 63 ∧ ∀ H', Q (.bl true) H'
theorem ok_law {f : Addr} {fd : FuncData} (D : DefAt K mg "law" s_law ["script"] f fd) (T : Top mg) (c__law_fount : C8.Cal P w K mg base 1 "_law_fount" (sp__law_fount K) []) (c__law_row : C8.Cal P w K mg base 3 "_law_row" (sp__law_row K) []) (c__law_loads : C8.Cal P w K mg base 2 "_law_loads" (sp__law_loads K) []) (c__law_front_right : C8.Cal P w K mg base 9 "_law_front_right" (sp__law_front_right K) []) (c__law_long_right : C8.Cal P w K mg base 9 "_law_long_right" (sp__law_long_right K) []) (c__law_equal_right : C8.Cal P w K mg base 9 "_law_equal_right" (sp__law_equal_right K) []) :
    GOk P w K mg base 10 f fd ["script"] (sp_law K) := by
  refine g_ok D.fn sc_law (fun vs H Q E h => ?len) fun cdv A outer s H vs Q E hG hr h => ?body
  case len => obtain ⟨a, ns, rfl, _⟩ := h; rfl
  obtain ⟨a, ns, rfl, hS, hz, q⟩ := h
  refine ⟨_, (pss_cons (ps_for PassesOwn.never rfl (pi_range1 (by rfl) T.range (pa_cons (pe_callB (call_max2 rfl) (by rfl) T.max (by decide +kernel) (pa_cons pe_int (pa_cons (pe_callB (call_min2 rfl) (by rfl) T.min (by decide +kernel) (pa_cons pe_int (pa_cons (pe_callB call_len_seq (by rfl) T.len (by decide +kernel) (pa_cons (pv 0) pa_nil)) pa_nil))) pa_nil))) pa_nil)) (pg_name (i := 1) sc_law.nd rfl (.inl rfl))
        (pss_cons (ps_set (i := 2) sc_law.nd rfl (.inl rfl) (C8.pe_c c__law_fount hr (by decide) (by rfl) (pa_cons (pv 0) (pa_cons (pv 1) pa_nil))))
          (pss_one (ps_for PassesOwn.never rfl (pi_tup (pe_tup (pa_cons pe_int (pa_cons (pe_ix ix_list (pe_lst (pa_cons pe_int (pa_cons pe_int pa_nil))) (pe_callTy call_int1 (by rfl) T.int (by decide +kernel) (pa_cons (pe_cmpR op_eq (pv 1) pe_int (nomark _)) pa_nil)) (fun _ _ => rfl)) pa_nil)))) (pg_name (i := 3) sc_law.nd rfl (.inl rfl))
            (pss_cons (ps_set (i := 4) sc_law.nd rfl (.inl rfl) (C8.pe_c c__law_row hr (by decide) (by rfl) (pa_cons (pv 2) (pa_cons (pv 3) pa_nil))))
              (pss_cons (ps_set (i := 5) sc_law.nd rfl (.inl rfl) (C8.pe_c c__law_loads hr (by decide) (by rfl) (pa_cons (pv 2) (pa_cons (pe_callB call_len_seq (by rfl) T.len (by decide +kernel) (pa_cons (pv 4) pa_nil)) pa_nil))))
              (pss_cons (ps_if (PW.pt (pw_or (pt_not (pt_val (C8.pe_c c__law_long_right hr (by decide) (by rfl) (pa_cons (pv 2) (pa_cons (pv 4) (pa_cons (pv 5) pa_nil)))))) (pw_or1 (pt_not (pt_val (C8.pe_c c__law_equal_right hr (by decide) (by rfl) (pa_cons (pv 2) (pa_cons (pv 4) pa_nil))))))))
                (pss_one (ps_ret pe_bl))
                pss_nil)
              (pss_one (ps_if (pt_not (pt_val (C8.pe_c c__law_front_right hr (by decide) (by rfl) (pa_cons (pv 2) (pa_cons (pv 4) (pa_cons (pv 5) pa_nil))))))
                (pss_one (ps_ret pe_bl))
                pss_nil)))))))))
      (pss_one (ps_ret pe_bl))), ?_⟩
  refine ⟨_, rfl, a, _, rfl, .inl hS, _, _, rfl, _, _, rfl, _, rfl, ?_⟩
  rw [List.length_map]
  have hb : ∀ c : Int, 0 ≤ c → c ≤ 63 → (if (if c < 4 then c else 4) > 1 then (if c < 4 then c else 4) else (1 : Int)) ≤ 4 ∧ 1 ≤ (if (if c < 4 then c else 4) > 1 then (if c < 4 then c else 4) else (1 : Int)) := fun c c0 c1 => by
    constructor <;> split <;> split <;> omega
  obtain ⟨hb1, hb2⟩ := hb (ns.length : Int) (by omega) (by omega)
  generalize (if (if (ns.length : Int) < 4 then (ns.length : Int) else 4) > 1 then (if (ns.length : Int) < 4 then (ns.length : Int) else 4) else (1 : Int)) = cnt at hb1 hb2 ⊢
  refine ⟨by omega, by omega, ?_⟩
  refine for_range (lo := 0) (n := cnt.toNat) (fun i σ H' => Ex H H' ∧ ∃ y1 y2 y3 y4 y5 : Option V, σ = [some (.ref a), y1, y2, y3, y4, y5]) ⟨Evl.Ex.refl _, _, _, _, _, _, rfl⟩ ?_ ?_
  · rintro i σ H2 hi ⟨X2, y1, y2, y3, y4, y5, rfl⟩
    refine ⟨_, rfl, _, rfl, a, ns, i, ?_, Evl.ex_l X2 hS, by omega, fun t H3 ht X3 T3 => ?_⟩
    · rw [Int.zero_add]; rfl
    have X23 : Ex H H3 := X2.trans X3
    have t1 : H t = none := Evl.fresh_back X2 ht
    obtain ⟨most, hat, hm1, hm2⟩ : ∃ most : Int, atI [V.int 30, V.int 100] (if decide (V.int (0 + (i : Int)) = V.int 0) = true then 1 else 0) = some (.int most) ∧ 1 ≤ most ∧ most ≤ 100 := by
      by_cases h : decide (V.int (0 + (i : Int)) = V.int 0) = true
      · rw [if_pos h]; exact ⟨100, rfl, by decide, by decide⟩
      · rw [if_neg h]; exact ⟨30, rfl, by decide, by decide⟩
    refine ⟨by show 2 ≤ sizeLine; decide, fun p1 hp1 => ⟨_, rfl, rfl, .inr ⟨_, rfl, p1, _, _, _, rfl, rfl, SqL.of upd_same, hat, ?_⟩⟩⟩
    refine ⟨by show 2 ≤ sizeLine; decide, fun p2 hp2 => ⟨p2, rfl, ⟨_, SqT.of upd_same⟩, ?_⟩⟩
    have Y1 := Evl.Ex.new (o := .lst [.int 30, .int 100]) hp1
    have Y2 := Evl.Ex.new (o := .tup [.int 6, .int most]) hp2
    have T5 := (T3.ex Y1).ex Y2
    have hp25 : SqT K _ p2 [.int 6, .int most] := SqT.of (upd_same (H := upd H3 p1 (.lst [.int 30, .int 100])) (a := p2) (o := .tup [.int 6, .int most]))
    have X5 := (X23.trans Y1).trans Y2
    generalize upd (upd H3 p1 (.lst [.int 30, .int 100])) p2 (.tup [.int 6, .int most]) = H5 at T5 hp25 X5 ⊢
    refine for_tup (K := K) (a := p2) (xs := [.int 6, .int most]) (fun j σ H' => ExB t H5 H' ∧ Mug H' t (20000 * j) ∧ ∃ y3 y4 y5 : Option V, σ = [some (.ref a), some (.int (0 + (i : Int))), some (.ref t), y3, y4, y5])
      ⟨ExB.refl _ _, T5.le (by decide), _, _, _, rfl⟩ (fun j σ H' _ h => T5.tup h.1 hp25) ?_ ?_
    · rintro j v σ H6 hv ⟨E6, T6, y3, y4, y5, rfl⟩
      obtain ⟨b, rfl, b1, b2, hj⟩ : ∃ b : Int, v = .int b ∧ 1 ≤ b ∧ b ≤ 100 ∧ j < 2 := by
        match j, hv with
        | 0, hv => cases hv; exact ⟨6, rfl, by decide, by decide, by decide⟩
        | 1, hv => cases hv; exact ⟨most, rfl, hm1, hm2, by decide⟩
        | j + 2, hv => cases hv
      refine ⟨_, rfl, _, rfl, t, b, _, rfl, T6, b1, b2, by omega, by omega, fun pa H7 xs hpa E7 T7 hPA R hxb => ?_⟩
      have hlo := R.lo
      have hhi := R.hi
      refine ⟨_, rfl, _, rfl, pa, _, rfl, .inr hPA.sq, t, xs.length, _, by rw [List.length_map]; rfl, T7, hlo, hhi, by omega, by omega, fun pb H8 ws hpb E8 T8 hB W => ?_⟩
      have hPA8 := mug_pt T7 E8 hPA
      refine ⟨_, rfl, _, rfl, _, rfl, t, pa, pb, xs, ws, _, rfl, T8, hPA8, R, hB, W, by omega, by omega, fun H9 E9 T9 => ⟨true, rfl, iteF ?_⟩⟩
      have hPA9 := mug_pt T8 E9 hPA8
      have hB9 := T8.tup E9 hB
      refine ⟨_, rfl, _, rfl, t, pa, xs, _, rfl, T9, hPA9, R, by omega, by omega, fun H10 E10 T10 => ⟨true, rfl, iteF ?_⟩⟩
      have hPA10 := mug_pt T9 E10 hPA9
      have hB10 := T9.tup E10 hB9
      refine ⟨_, rfl, _, rfl, _, rfl, t, pa, pb, xs, ws, _, rfl, T10, hPA10.sq, R, hB10, W, by omega, by omega, fun H11 E11 T11 => ⟨true, rfl, iteF ?_⟩⟩
      exact ⟨E6.trans (E7.trans (E8.trans (E9.trans (E10.trans E11)))), T11.le (by omega), _, _, _, rfl⟩
    · rintro σ H6 ⟨E6, T6, y3, y4, y5, rfl⟩
      exact ⟨fun b' o' h' => E6 b' o' (ne_of_none h' t1) (X5 _ _ h'), _, _, _, _, _, rfl⟩
  · rintro σ H2 ⟨X2, y1, y2, y3, y4, y5, rfl⟩
    exact q _
end
section
theorem all_mk {l : PySem.W.OpenLaw} {w : World} {K : PySem.W.Frag} {h : Heap} {mg : Str → Option Value} {fa f0 f1 f2 f3 f4 f5 f6 f7 f8 f9 f10 f11 f12 f13 f14 f15 f16 f17 f18 f19 f20 f21 f22 f23 f24 f25 f26 f27 f28 f29 f30 f31 f32 f33 f34 f35 f36 f37 : Addr}
    (X : K.In h) (G : h.Ns mainGlobals mg) (hfa : mg "law" = some (.ref fa))
    {od0 an0 od1 an1 od2 an2 od3 an3 od4 an4 od5 an5 od6 an6 od7 an7 od8 an8 od9 an9 od10 an10 od11 an11 od12 an12 od13 an13 od14 an14 od15 an15 od16 an16 od17 an17 od18 an18 od19 an19 od20 an20 od21 an21 od22 an22 od23 an23 od24 an24 od25 an25 od26 an26 od27 an27 od28 an28 od29 an29 od30 an30 od31 an31 od32 an32 od33 an33 od34 an34 od35 an35 od36 an36 od37 an37 : Option Addr}
    {sl0 sl1 sl2 sl3 sl4 sl5 sl6 sl7 sl8 sl9 sl10 sl11 sl12 sl13 sl14 sl15 sl16 sl17 sl18 sl19 sl20 sl21 sl22 sl23 sl24 sl25 sl26 sl27 sl28 sl29 sl30 sl31 sl32 sl33 sl34 sl35 sl36 sl37 : Array (Option Value)}
    {oc0 kV0 dc0 pm0 cd0 ct0 oc1 kV1 dc1 pm1 cd1 ct1 oc2 kV2 dc2 pm2 cd2 ct2 oc3 kV3 dc3 pm3 cd3 ct3 oc4 kV4 dc4 pm4 cd4 ct4 oc5 kV5 dc5 pm5 cd5 ct5 oc6 kV6 dc6 pm6 cd6 ct6 oc7 kV7 dc7 pm7 cd7 ct7 oc8 kV8 dc8 pm8 cd8 ct8 oc9 kV9 dc9 pm9 cd9 ct9 oc10 kV10 dc10 pm10 cd10 ct10 oc11 kV11 dc11 pm11 cd11 ct11 oc12 kV12 dc12 pm12 cd12 ct12 oc13 kV13 dc13 pm13 cd13 ct13 oc14 kV14 dc14 pm14 cd14 ct14 oc15 kV15 dc15 pm15 cd15 ct15 oc16 kV16 dc16 pm16 cd16 ct16 oc17 kV17 dc17 pm17 cd17 ct17 oc18 kV18 dc18 pm18 cd18 ct18 oc19 kV19 dc19 pm19 cd19 ct19 oc20 kV20 dc20 pm20 cd20 ct20 oc21 kV21 dc21 pm21 cd21 ct21 oc22 kV22 dc22 pm22 cd22 ct22 oc23 kV23 dc23 pm23 cd23 ct23 oc24 kV24 dc24 pm24 cd24 ct24 oc25 kV25 dc25 pm25 cd25 ct25 oc26 kV26 dc26 pm26 cd26 ct26 oc27 kV27 dc27 pm27 cd27 ct27 oc28 kV28 dc28 pm28 cd28 ct28 oc29 kV29 dc29 pm29 cd29 ct29 oc30 kV30 dc30 pm30 cd30 ct30 oc31 kV31 dc31 pm31 cd31 ct31 oc32 kV32 dc32 pm32 cd32 ct32 oc33 kV33 dc33 pm33 cd33 ct33 oc34 kV34 dc34 pm34 cd34 ct34 oc35 kV35 dc35 pm35 cd35 ct35 oc36 kV36 dc36 pm36 cd36 ct36 oc37 kV37 dc37 pm37 cd37 ct37 : Value}
    {t0 t1 t2 t3 t4 t5 : Tok}
    {kd4 : Addr} {kt4 : Tok} {ko4 : Value} {kq4 : Option Addr} {kn4 : Nat} {ks4 : Array (Option Value)}
    (a0 : PySem.W.nsIn K mainGlobals "is_int" = some (some (.ref f0)))
    (l0 : K.lookup f0 = some ⟨oc0, od0, .func (PySem.W.fnOf "is_int" "is_int" (defArgs s_is_int) (defBody s_is_int) (defScope s_is_int) .none kV0 dc0 pm0 an0 cd0 ct0), sl0⟩)
    (c0 : PySem.W.codeIn K cd0 "is_int" = true) (k0 : PySem.W.keepIn K (.ref f0) = true)
    (a1 : PySem.W.nsIn K mainGlobals "is_whole" = some (some (.ref f1)))
    (l1 : K.lookup f1 = some ⟨oc1, od1, .func (PySem.W.fnOf "is_whole" "is_whole" (defArgs s_is_whole) (defBody s_is_whole) (defScope s_is_whole) .none kV1 dc1 pm1 an1 cd1 ct1), sl1⟩)
    (c1 : PySem.W.codeIn K cd1 "is_whole" = true) (k1 : PySem.W.keepIn K (.ref f1) = true)
    (a2 : PySem.W.nsIn K mainGlobals "is_entry" = some (some (.ref f2)))
    (l2 : K.lookup f2 = some ⟨oc2, od2, .func (PySem.W.fnOf "is_entry" "is_entry" (defArgs s_is_entry) (defBody s_is_entry) (defScope s_is_entry) .none kV2 dc2 pm2 an2 cd2 ct2), sl2⟩)
    (c2 : PySem.W.codeIn K cd2 "is_entry" = true) (k2 : PySem.W.keepIn K (.ref f2) = true)
    (a3 : PySem.W.nsIn K mainGlobals "check_place" = some (some (.ref f3)))
    (l3 : K.lookup f3 = some ⟨oc3, od3, .func (PySem.W.fnOf "check_place" "check_place" (defArgs s_check_place) (defBody s_check_place) (defScope s_check_place) .none kV3 dc3 pm3 an3 cd3 ct3), sl3⟩)
    (c3 : PySem.W.codeIn K cd3 "check_place" = true) (k3 : PySem.W.keepIn K (.ref f3) = true)
    (a4 : PySem.W.nsIn K mainGlobals "check_rounds" = some (some (.ref f4)))
    (l4 : K.lookup f4 = some ⟨oc4, od4, .func (PySem.W.fnOf "check_rounds" "check_rounds" (defArgs s_check_rounds) (defBody s_check_rounds) (defScope s_check_rounds) (.ref kd4) kV4 dc4 pm4 an4 cd4 ct4), sl4⟩)
    (c4 : PySem.W.codeIn K cd4 "check_rounds" = true) (k4 : PySem.W.keepIn K (.ref f4) = true)
    (w4 : K.lookup kd4 = some ⟨ko4, kq4, .seq #[.int 0 kt4] kn4, ks4⟩)
    (a5 : PySem.W.nsIn K mainGlobals "is_blocks" = some (some (.ref f5)))
    (l5 : K.lookup f5 = some ⟨oc5, od5, .func (PySem.W.fnOf "is_blocks" "is_blocks" (defArgs s_is_blocks) (defBody s_is_blocks) (defScope s_is_blocks) .none kV5 dc5 pm5 an5 cd5 ct5), sl5⟩)
    (c5 : PySem.W.codeIn K cd5 "is_blocks" = true) (k5 : PySem.W.keepIn K (.ref f5) = true)
    (a6 : PySem.W.nsIn K mainGlobals "is_block" = some (some (.ref f6)))
    (l6 : K.lookup f6 = some ⟨oc6, od6, .func (PySem.W.fnOf "is_block" "is_block" (defArgs s_is_block) (defBody s_is_block) (defScope s_is_block) .none kV6 dc6 pm6 an6 cd6 ct6), sl6⟩)
    (c6 : PySem.W.codeIn K cd6 "is_block" = true) (k6 : PySem.W.keepIn K (.ref f6) = true)
    (a7 : PySem.W.nsIn K mainGlobals "check_blocks" = some (some (.ref f7)))
    (l7 : K.lookup f7 = some ⟨oc7, od7, .func (PySem.W.fnOf "check_blocks" "check_blocks" (defArgs s_check_blocks) (defBody s_check_blocks) (defScope s_check_blocks) .none kV7 dc7 pm7 an7 cd7 ct7), sl7⟩)
    (c7 : PySem.W.codeIn K cd7 "check_blocks" = true) (k7 : PySem.W.keepIn K (.ref f7) = true)
    (a8 : PySem.W.nsIn K mainGlobals "long_after" = some (some (.ref f8)))
    (l8 : K.lookup f8 = some ⟨oc8, od8, .func (PySem.W.fnOf "long_after" "long_after" (defArgs s_long_after) (defBody s_long_after) (defScope s_long_after) .none kV8 dc8 pm8 an8 cd8 ct8), sl8⟩)
    (c8 : PySem.W.codeIn K cd8 "long_after" = true) (k8 : PySem.W.keepIn K (.ref f8) = true)
    (a9 : PySem.W.nsIn K mainGlobals "long_entry" = some (some (.ref f9)))
    (l9 : K.lookup f9 = some ⟨oc9, od9, .func (PySem.W.fnOf "long_entry" "long_entry" (defArgs s_long_entry) (defBody s_long_entry) (defScope s_long_entry) .none kV9 dc9 pm9 an9 cd9 ct9), sl9⟩)
    (c9 : PySem.W.codeIn K cd9 "long_entry" = true) (k9 : PySem.W.keepIn K (.ref f9) = true)
    (a10 : PySem.W.nsIn K mainGlobals "long_count" = some (some (.ref f10)))
    (l10 : K.lookup f10 = some ⟨oc10, od10, .func (PySem.W.fnOf "long_count" "long_count" (defArgs s_long_count) (defBody s_long_count) (defScope s_long_count) .none kV10 dc10 pm10 an10 cd10 ct10), sl10⟩)
    (c10 : PySem.W.codeIn K cd10 "long_count" = true) (k10 : PySem.W.keepIn K (.ref f10) = true)
    (a11 : PySem.W.nsIn K mainGlobals "long_needed" = some (some (.ref f11)))
    (l11 : K.lookup f11 = some ⟨oc11, od11, .func (PySem.W.fnOf "long_needed" "long_needed" (defArgs s_long_needed) (defBody s_long_needed) (defScope s_long_needed) .none kV11 dc11 pm11 an11 cd11 ct11), sl11⟩)
    (c11 : PySem.W.codeIn K cd11 "long_needed" = true) (k11 : PySem.W.keepIn K (.ref f11) = true)
    (a12 : PySem.W.nsIn K mainGlobals "played" = some (some (.ref f12)))
    (l12 : K.lookup f12 = some ⟨oc12, od12, .func (PySem.W.fnOf "played" "played" (defArgs s_played) (defBody s_played) (defScope s_played) .none kV12 dc12 pm12 an12 cd12 ct12), sl12⟩)
    (c12 : PySem.W.codeIn K cd12 "played" = true) (k12 : PySem.W.keepIn K (.ref f12) = true)
    (a13 : PySem.W.nsIn K mainGlobals "runs_of" = some (some (.ref f13)))
    (l13 : K.lookup f13 = some ⟨oc13, od13, .func (PySem.W.fnOf "runs_of" "runs_of" (defArgs s_runs_of) (defBody s_runs_of) (defScope s_runs_of) .none kV13 dc13 pm13 an13 cd13 ct13), sl13⟩)
    (c13 : PySem.W.codeIn K cd13 "runs_of" = true) (k13 : PySem.W.keepIn K (.ref f13) = true)
    (a14 : PySem.W.nsIn K mainGlobals "runs_after_round" = some (some (.ref f14)))
    (l14 : K.lookup f14 = some ⟨oc14, od14, .func (PySem.W.fnOf "runs_after_round" "runs_after_round" (defArgs s_runs_after_round) (defBody s_runs_after_round) (defScope s_runs_after_round) .none kV14 dc14 pm14 an14 cd14 ct14), sl14⟩)
    (c14 : PySem.W.codeIn K cd14 "runs_after_round" = true) (k14 : PySem.W.keepIn K (.ref f14) = true)
    (a15 : PySem.W.nsIn K mainGlobals "is_row" = some (some (.ref f15)))
    (l15 : K.lookup f15 = some ⟨oc15, od15, .func (PySem.W.fnOf "is_row" "is_row" (defArgs s_is_row) (defBody s_is_row) (defScope s_is_row) .none kV15 dc15 pm15 an15 cd15 ct15), sl15⟩)
    (c15 : PySem.W.codeIn K cd15 "is_row" = true) (k15 : PySem.W.keepIn K (.ref f15) = true)
    (a16 : PySem.W.nsIn K mainGlobals "check_row" = some (some (.ref f16)))
    (l16 : K.lookup f16 = some ⟨oc16, od16, .func (PySem.W.fnOf "check_row" "check_row" (defArgs s_check_row) (defBody s_check_row) (defScope s_check_row) .none kV16 dc16 pm16 an16 cd16 ct16), sl16⟩)
    (c16 : PySem.W.codeIn K cd16 "check_row" = true) (k16 : PySem.W.keepIn K (.ref f16) = true)
    (a17 : PySem.W.nsIn K mainGlobals "all_spans" = some (some (.ref f17)))
    (l17 : K.lookup f17 = some ⟨oc17, od17, .func (PySem.W.fnOf "all_spans" "all_spans" (defArgs s_all_spans) (defBody s_all_spans) (defScope s_all_spans) .none kV17 dc17 pm17 an17 cd17 ct17), sl17⟩)
    (c17 : PySem.W.codeIn K cd17 "all_spans" = true) (k17 : PySem.W.keepIn K (.ref f17) = true)
    (a18 : PySem.W.nsIn K mainGlobals "rows_until_still" = some (some (.ref f18)))
    (l18 : K.lookup f18 = some ⟨oc18, od18, .func (PySem.W.fnOf "rows_until_still" "rows_until_still" (defArgs s_rows_until_still) (defBody s_rows_until_still) (defScope s_rows_until_still) .none kV18 dc18 pm18 an18 cd18 ct18), sl18⟩)
    (c18 : PySem.W.codeIn K cd18 "rows_until_still" = true) (k18 : PySem.W.keepIn K (.ref f18) = true)
    (a19 : PySem.W.nsIn K mainGlobals "row_after" = some (some (.ref f19)))
    (l19 : K.lookup f19 = some ⟨oc19, od19, .func (PySem.W.fnOf "row_after" "row_after" (defArgs s_row_after) (defBody s_row_after) (defScope s_row_after) .none kV19 dc19 pm19 an19 cd19 ct19), sl19⟩)
    (c19 : PySem.W.codeIn K cd19 "row_after" = true) (k19 : PySem.W.keepIn K (.ref f19) = true)
    (a20 : PySem.W.nsIn K mainGlobals "rounds_needed" = some (some (.ref f20)))
    (l20 : K.lookup f20 = some ⟨oc20, od20, .func (PySem.W.fnOf "rounds_needed" "rounds_needed" (defArgs s_rounds_needed) (defBody s_rounds_needed) (defScope s_rounds_needed) .none kV20 dc20 pm20 an20 cd20 ct20), sl20⟩)
    (c20 : PySem.W.codeIn K cd20 "rounds_needed" = true) (k20 : PySem.W.keepIn K (.ref f20) = true)
    (a21 : PySem.W.nsIn K mainGlobals "is_weights" = some (some (.ref f21)))
    (l21 : K.lookup f21 = some ⟨oc21, od21, .func (PySem.W.fnOf "is_weights" "is_weights" (defArgs s_is_weights) (defBody s_is_weights) (defScope s_is_weights) .none kV21 dc21 pm21 an21 cd21 ct21), sl21⟩)
    (c21 : PySem.W.codeIn K cd21 "is_weights" = true) (k21 : PySem.W.keepIn K (.ref f21) = true)
    (a22 : PySem.W.nsIn K mainGlobals "check_weights" = some (some (.ref f22)))
    (l22 : K.lookup f22 = some ⟨oc22, od22, .func (PySem.W.fnOf "check_weights" "check_weights" (defArgs s_check_weights) (defBody s_check_weights) (defScope s_check_weights) .none kV22 dc22 pm22 an22 cd22 ct22), sl22⟩)
    (c22 : PySem.W.codeIn K cd22 "check_weights" = true) (k22 : PySem.W.keepIn K (.ref f22) = true)
    (a23 : PySem.W.nsIn K mainGlobals "weighted_after" = some (some (.ref f23)))
    (l23 : K.lookup f23 = some ⟨oc23, od23, .func (PySem.W.fnOf "weighted_after" "weighted_after" (defArgs s_weighted_after) (defBody s_weighted_after) (defScope s_weighted_after) .none kV23 dc23 pm23 an23 cd23 ct23), sl23⟩)
    (c23 : PySem.W.codeIn K cd23 "weighted_after" = true) (k23 : PySem.W.keepIn K (.ref f23) = true)
    (a24 : PySem.W.nsIn K mainGlobals "weighted_needed" = some (some (.ref f24)))
    (l24 : K.lookup f24 = some ⟨oc24, od24, .func (PySem.W.fnOf "weighted_needed" "weighted_needed" (defArgs s_weighted_needed) (defBody s_weighted_needed) (defScope s_weighted_needed) .none kV24 dc24 pm24 an24 cd24 ct24), sl24⟩)
    (c24 : PySem.W.codeIn K cd24 "weighted_needed" = true) (k24 : PySem.W.keepIn K (.ref f24) = true)
    (a25 : PySem.W.nsIn K mainGlobals "weighted_rows" = some (some (.ref f25)))
    (l25 : K.lookup f25 = some ⟨oc25, od25, .func (PySem.W.fnOf "weighted_rows" "weighted_rows" (defArgs s_weighted_rows) (defBody s_weighted_rows) (defScope s_weighted_rows) .none kV25 dc25 pm25 an25 cd25 ct25), sl25⟩)
    (c25 : PySem.W.codeIn K cd25 "weighted_rows" = true) (k25 : PySem.W.keepIn K (.ref f25) = true)
    (a26 : PySem.W.nsIn K mainGlobals "weighted_spans" = some (some (.ref f26)))
    (l26 : K.lookup f26 = some ⟨oc26, od26, .func (PySem.W.fnOf "weighted_spans" "weighted_spans" (defArgs s_weighted_spans) (defBody s_weighted_spans) (defScope s_weighted_spans) .none kV26 dc26 pm26 an26 cd26 ct26), sl26⟩)
    (c26 : PySem.W.codeIn K cd26 "weighted_spans" = true) (k26 : PySem.W.keepIn K (.ref f26) = true)
    (a27 : PySem.W.nsIn K mainGlobals "_law_fount" = some (some (.ref f27)))
    (l27 : K.lookup f27 = some ⟨oc27, od27, .func (PySem.W.fnOf "_law_fount" "_law_fount" (defArgs s__law_fount) (defBody s__law_fount) (defScope s__law_fount) .none kV27 dc27 pm27 an27 cd27 ct27), sl27⟩)
    (c27 : PySem.W.codeIn K cd27 "_law_fount" = true) (k27 : PySem.W.keepIn K (.ref f27) = true)
    (a28 : PySem.W.nsIn K mainGlobals "_law_sip" = some (some (.ref f28)))
    (l28 : K.lookup f28 = some ⟨oc28, od28, .func (PySem.W.fnOf "_law_sip" "_law_sip" (defArgs s__law_sip) (defBody s__law_sip) (defScope s__law_sip) .none kV28 dc28 pm28 an28 cd28 ct28), sl28⟩)
    (c28 : PySem.W.codeIn K cd28 "_law_sip" = true) (k28 : PySem.W.keepIn K (.ref f28) = true)
    (a29 : PySem.W.nsIn K mainGlobals "_law_value" = some (some (.ref f29)))
    (l29 : K.lookup f29 = some ⟨oc29, od29, .func (PySem.W.fnOf "_law_value" "_law_value" (defArgs s__law_value) (defBody s__law_value) (defScope s__law_value) .none kV29 dc29 pm29 an29 cd29 ct29), sl29⟩)
    (c29 : PySem.W.codeIn K cd29 "_law_value" = true) (k29 : PySem.W.keepIn K (.ref f29) = true)
    (a30 : PySem.W.nsIn K mainGlobals "_law_slow" = some (some (.ref f30)))
    (l30 : K.lookup f30 = some ⟨oc30, od30, .func (PySem.W.fnOf "_law_slow" "_law_slow" (defArgs s__law_slow) (defBody s__law_slow) (defScope s__law_slow) .none kV30 dc30 pm30 an30 cd30 ct30), sl30⟩)
    (c30 : PySem.W.codeIn K cd30 "_law_slow" = true) (k30 : PySem.W.keepIn K (.ref f30) = true)
    (a31 : PySem.W.nsIn K mainGlobals "_law_row" = some (some (.ref f31)))
    (l31 : K.lookup f31 = some ⟨oc31, od31, .func (PySem.W.fnOf "_law_row" "_law_row" (defArgs s__law_row) (defBody s__law_row) (defScope s__law_row) .none kV31 dc31 pm31 an31 cd31 ct31), sl31⟩)
    (c31 : PySem.W.codeIn K cd31 "_law_row" = true) (k31 : PySem.W.keepIn K (.ref f31) = true)
    (a32 : PySem.W.nsIn K mainGlobals "_law_spans" = some (some (.ref f32)))
    (l32 : K.lookup f32 = some ⟨oc32, od32, .func (PySem.W.fnOf "_law_spans" "_law_spans" (defArgs s__law_spans) (defBody s__law_spans) (defScope s__law_spans) .none kV32 dc32 pm32 an32 cd32 ct32), sl32⟩)
    (c32 : PySem.W.codeIn K cd32 "_law_spans" = true) (k32 : PySem.W.keepIn K (.ref f32) = true)
    (a33 : PySem.W.nsIn K mainGlobals "_law_loads" = some (some (.ref f33)))
    (l33 : K.lookup f33 = some ⟨oc33, od33, .func (PySem.W.fnOf "_law_loads" "_law_loads" (defArgs s__law_loads) (defBody s__law_loads) (defScope s__law_loads) .none kV33 dc33 pm33 an33 cd33 ct33), sl33⟩)
    (c33 : PySem.W.codeIn K cd33 "_law_loads" = true) (k33 : PySem.W.keepIn K (.ref f33) = true)
    (a34 : PySem.W.nsIn K mainGlobals "_law_long_right" = some (some (.ref f34)))
    (l34 : K.lookup f34 = some ⟨oc34, od34, .func (PySem.W.fnOf "_law_long_right" "_law_long_right" (defArgs s__law_long_right) (defBody s__law_long_right) (defScope s__law_long_right) .none kV34 dc34 pm34 an34 cd34 ct34), sl34⟩)
    (c34 : PySem.W.codeIn K cd34 "_law_long_right" = true) (k34 : PySem.W.keepIn K (.ref f34) = true)
    (a35 : PySem.W.nsIn K mainGlobals "_law_equal_right" = some (some (.ref f35)))
    (l35 : K.lookup f35 = some ⟨oc35, od35, .func (PySem.W.fnOf "_law_equal_right" "_law_equal_right" (defArgs s__law_equal_right) (defBody s__law_equal_right) (defScope s__law_equal_right) .none kV35 dc35 pm35 an35 cd35 ct35), sl35⟩)
    (c35 : PySem.W.codeIn K cd35 "_law_equal_right" = true) (k35 : PySem.W.keepIn K (.ref f35) = true)
    (a36 : PySem.W.nsIn K mainGlobals "_law_front_right" = some (some (.ref f36)))
    (l36 : K.lookup f36 = some ⟨oc36, od36, .func (PySem.W.fnOf "_law_front_right" "_law_front_right" (defArgs s__law_front_right) (defBody s__law_front_right) (defScope s__law_front_right) .none kV36 dc36 pm36 an36 cd36 ct36), sl36⟩)
    (c36 : PySem.W.codeIn K cd36 "_law_front_right" = true) (k36 : PySem.W.keepIn K (.ref f36) = true)
    (a37 : PySem.W.nsIn K mainGlobals "law" = some (some (.ref f37)))
    (l37 : K.lookup f37 = some ⟨oc37, od37, .func (PySem.W.fnOf "law" "law" (defArgs s_law) (defBody s_law) (defScope s_law) .none kV37 dc37 pm37 an37 cd37 ct37), sl37⟩)
    (c37 : PySem.W.codeIn K cd37 "law" = true) (k37 : PySem.W.keepIn K (.ref f37) = true)
    (kc0 : PySem.W.nsIn K mainGlobals "MOST_ENTRIES" = some (some (.int 100 t0)))
    (kc1 : PySem.W.nsIn K mainGlobals "GREATEST_ENTRY" = some (some (.int 1000000000000000000000000000000 t1)))
    (kc2 : PySem.W.nsIn K mainGlobals "MOST_ROUNDS" = some (some (.int 1000000000000000000000000000000 t2)))
    (kc3 : PySem.W.nsIn K mainGlobals "MOST_BLOCKS" = some (some (.int 200 t3)))
    (kc4 : PySem.W.nsIn K mainGlobals "GREATEST_COUNT" = some (some (.int 10000000000000000000000000000 t4)))
    (kc5 : PySem.W.nsIn K mainGlobals "GREATEST_WEIGHT" = some (some (.int 10000000000000000000000000000 t5)))
    (z0 : PySem.W.nsIn K mainGlobals "isinstance" = some none)
    (z1 : PySem.W.nsIn K mainGlobals "int" = some none)
    (z2 : PySem.W.nsIn K mainGlobals "bool" = some none)
    (z3 : PySem.W.nsIn K mainGlobals "all" = some none)
    (z4 : PySem.W.nsIn K mainGlobals "tuple" = some none)
    (z5 : PySem.W.nsIn K mainGlobals "len" = some none)
    (z6 : PySem.W.nsIn K mainGlobals "sum" = some none)
    (z7 : PySem.W.nsIn K mainGlobals "enumerate" = some none)
    (z8 : PySem.W.nsIn K mainGlobals "min" = some none)
    (z9 : PySem.W.nsIn K mainGlobals "max" = some none)
    (z10 : PySem.W.nsIn K mainGlobals "list" = some none)
    (z11 : PySem.W.nsIn K mainGlobals "range" = some none)
    (z12 : PySem.W.nsIn K mainGlobals "sorted" = some none)
    (z13 : PySem.W.nsIn K mainGlobals "zip" = some none)
    : ∃ fd : FuncData, (∀ (s : Shared) (v : Value), BindsTo s fd ⟨[v], []⟩ [("script", v)]) ∧ ∀ base : Heap, K.In base → base.Ns mainGlobals mg →
      GOk l.prog w K mg base 10 fa fd ["script"] (sp_law K) := by
  have e := hfa.symm.trans (PySem.W.mg_of X G a37)
  cases e
  have T : Top mg := ⟨PySem.W.mg_none_of X G z0, PySem.W.mg_none_of X G z1, PySem.W.mg_none_of X G z2, PySem.W.mg_none_of X G z3, PySem.W.mg_none_of X G z4, PySem.W.mg_none_of X G z5, PySem.W.mg_none_of X G z6, PySem.W.mg_none_of X G z7, PySem.W.mg_none_of X G z8, PySem.W.mg_none_of X G z9, PySem.W.mg_none_of X G z10, PySem.W.mg_none_of X G z11, PySem.W.mg_none_of X G z12, PySem.W.mg_none_of X G z13, ⟨_, PySem.W.mg_of X G kc0, _, rfl⟩, ⟨_, PySem.W.mg_of X G kc1, _, rfl⟩, ⟨_, PySem.W.mg_of X G kc2, _, rfl⟩, ⟨_, PySem.W.mg_of X G kc3, _, rfl⟩, ⟨_, PySem.W.mg_of X G kc4, _, rfl⟩, ⟨_, PySem.W.mg_of X G kc5, _, rfl⟩⟩
  have D0 : DefAt K mg "is_int" s_is_int ["value"] _ _ := ⟨fun_mk (st := s_is_int) l0 c0 k0, PySem.W.mg_of X G a0,
    (fun_mk (st := s_is_int) l0 c0 k0).binds fun _ _ _ _ _ _ us hl => match us, hl with | [_], _ => rfl⟩
  have D1 : DefAt K mg "is_whole" s_is_whole ["value", "low", "high"] _ _ := ⟨fun_mk (st := s_is_whole) l1 c1 k1, PySem.W.mg_of X G a1,
    (fun_mk (st := s_is_whole) l1 c1 k1).binds fun _ _ _ _ _ _ us hl => match us, hl with | [_, _, _], _ => rfl⟩
  have D2 : DefAt K mg "is_entry" s_is_entry ["value"] _ _ := ⟨fun_mk (st := s_is_entry) l2 c2 k2, PySem.W.mg_of X G a2,
    (fun_mk (st := s_is_entry) l2 c2 k2).binds fun _ _ _ _ _ _ us hl => match us, hl with | [_], _ => rfl⟩
  have D3 : DefAt K mg "check_place" s_check_place ["place", "size"] _ _ := ⟨fun_mk (st := s_check_place) l3 c3 k3, PySem.W.mg_of X G a3,
    (fun_mk (st := s_check_place) l3 c3 k3).binds fun _ _ _ _ _ _ us hl => match us, hl with | [_, _], _ => rfl⟩
  have F4 : FunD K "check_rounds" "check_rounds" (defArgs s_check_rounds) (defBody s_check_rounds) (defScope s_check_rounds) [.int 0] [] _ _ := ⟨⟨_, _, _, _, _, _, _, _, _, _, rfl, l4, c4, .inr ⟨(fun h => nomatch h), kd4, _, [.int 0 kt4], _, rfl, w4, rfl, .cons ⟨_, rfl⟩ .nil⟩, .inl rfl⟩, k4⟩
  have D4 : DefAtP K mg "check_rounds" s_check_rounds ["rounds", "least"] [.int 0] _ _ := ⟨F4, PySem.W.mg_of X G a4, funD_b0 F4 (fun h => nomatch h) fun T kV doc pm an cdv ct us its h1 h2 => match us, its, h1, h2 with | [_, _], [_], _, _ => ⟨_, rfl, rfl⟩,
    F4.binds1 1 0 (fun h => nomatch h) rfl fun T kV doc pm an cdv ct us its h1 h2 => match us, its, h1, h2 with | [_], [_], _, _ => ⟨_, rfl, rfl⟩⟩
  have D5 : DefAt K mg "is_blocks" s_is_blocks ["value"] _ _ := ⟨fun_mk (st := s_is_blocks) l5 c5 k5, PySem.W.mg_of X G a5,
    (fun_mk (st := s_is_blocks) l5 c5 k5).binds fun _ _ _ _ _ _ us hl => match us, hl with | [_], _ => rfl⟩
  have D6 : DefAt K mg "is_block" s_is_block ["value"] _ _ := ⟨fun_mk (st := s_is_block) l6 c6 k6, PySem.W.mg_of X G a6,
    (fun_mk (st := s_is_block) l6 c6 k6).binds fun _ _ _ _ _ _ us hl => match us, hl with | [_], _ => rfl⟩
  have D7 : DefAt K mg "check_blocks" s_check_blocks ["blocks"] _ _ := ⟨fun_mk (st := s_check_blocks) l7 c7 k7, PySem.W.mg_of X G a7,
    (fun_mk (st := s_check_blocks) l7 c7 k7).binds fun _ _ _ _ _ _ us hl => match us, hl with | [_], _ => rfl⟩
  have D8 : DefAtN K mg "long_after" s_long_after ["blocks", "rounds"] 1 ["rounds"] _ _ := ⟨fun_mk (st := s_long_after) l8 c8 k8, PySem.W.mg_of X G a8,
    ⟨fun s us ws _ h1 h2 => match us, ws, h1, h2 with | [_], [_], _, _ => .of_eq rfl, fun r1 r2 => r1.append r2⟩⟩
  have D9 : DefAtN K mg "long_entry" s_long_entry ["blocks", "place", "rounds"] 2 ["rounds"] _ _ := ⟨fun_mk (st := s_long_entry) l9 c9 k9, PySem.W.mg_of X G a9,
    ⟨fun s us ws _ h1 h2 => match us, ws, h1, h2 with | [_, _], [_], _, _ => .of_eq rfl, fun r1 r2 => r1.append r2⟩⟩
  have D10 : DefAtN K mg "long_count" s_long_count ["blocks", "entry", "rounds"] 2 ["rounds"] _ _ := ⟨fun_mk (st := s_long_count) l10 c10 k10, PySem.W.mg_of X G a10,
    ⟨fun s us ws _ h1 h2 => match us, ws, h1, h2 with | [_, _], [_], _, _ => .of_eq rfl, fun r1 r2 => r1.append r2⟩⟩
  have D11 : DefAt K mg "long_needed" s_long_needed ["blocks"] _ _ := ⟨fun_mk (st := s_long_needed) l11 c11 k11, PySem.W.mg_of X G a11,
    (fun_mk (st := s_long_needed) l11 c11 k11).binds fun _ _ _ _ _ _ us hl => match us, hl with | [_], _ => rfl⟩
  have D12 : DefAt K mg "played" s_played ["blocks", "rounds"] _ _ := ⟨fun_mk (st := s_played) l12 c12 k12, PySem.W.mg_of X G a12,
    (fun_mk (st := s_played) l12 c12 k12).binds fun _ _ _ _ _ _ us hl => match us, hl with | [_, _], _ => rfl⟩
  have D13 : DefAt K mg "runs_of" s_runs_of ["blocks"] _ _ := ⟨fun_mk (st := s_runs_of) l13 c13 k13, PySem.W.mg_of X G a13,
    (fun_mk (st := s_runs_of) l13 c13 k13).binds fun _ _ _ _ _ _ us hl => match us, hl with | [_], _ => rfl⟩
  have D14 : DefAt K mg "runs_after_round" s_runs_after_round ["runs"] _ _ := ⟨fun_mk (st := s_runs_after_round) l14 c14 k14, PySem.W.mg_of X G a14,
    (fun_mk (st := s_runs_after_round) l14 c14 k14).binds fun _ _ _ _ _ _ us hl => match us, hl with | [_], _ => rfl⟩
  have D15 : DefAt K mg "is_row" s_is_row ["value"] _ _ := ⟨fun_mk (st := s_is_row) l15 c15 k15, PySem.W.mg_of X G a15,
    (fun_mk (st := s_is_row) l15 c15 k15).binds fun _ _ _ _ _ _ us hl => match us, hl with | [_], _ => rfl⟩
  have D16 : DefAt K mg "check_row" s_check_row ["row"] _ _ := ⟨fun_mk (st := s_check_row) l16 c16 k16, PySem.W.mg_of X G a16,
    (fun_mk (st := s_check_row) l16 c16 k16).binds fun _ _ _ _ _ _ us hl => match us, hl with | [_], _ => rfl⟩
  have D17 : DefAt K mg "all_spans" s_all_spans ["row"] _ _ := ⟨fun_mk (st := s_all_spans) l17 c17 k17, PySem.W.mg_of X G a17,
    (fun_mk (st := s_all_spans) l17 c17 k17).binds fun _ _ _ _ _ _ us hl => match us, hl with | [_], _ => rfl⟩
  have D18 : DefAt K mg "rows_until_still" s_rows_until_still ["row"] _ _ := ⟨fun_mk (st := s_rows_until_still) l18 c18 k18, PySem.W.mg_of X G a18,
    (fun_mk (st := s_rows_until_still) l18 c18 k18).binds fun _ _ _ _ _ _ us hl => match us, hl with | [_], _ => rfl⟩
  have D19 : DefAtN K mg "row_after" s_row_after ["row", "rounds"] 1 ["rounds"] _ _ := ⟨fun_mk (st := s_row_after) l19 c19 k19, PySem.W.mg_of X G a19,
    ⟨fun s us ws _ h1 h2 => match us, ws, h1, h2 with | [_], [_], _, _ => .of_eq rfl, fun r1 r2 => r1.append r2⟩⟩
  have D20 : DefAt K mg "rounds_needed" s_rounds_needed ["row"] _ _ := ⟨fun_mk (st := s_rounds_needed) l20 c20 k20, PySem.W.mg_of X G a20,
    (fun_mk (st := s_rounds_needed) l20 c20 k20).binds fun _ _ _ _ _ _ us hl => match us, hl with | [_], _ => rfl⟩
  have D21 : DefAt K mg "is_weights" s_is_weights ["row", "value"] _ _ := ⟨fun_mk (st := s_is_weights) l21 c21 k21, PySem.W.mg_of X G a21,
    (fun_mk (st := s_is_weights) l21 c21 k21).binds fun _ _ _ _ _ _ us hl => match us, hl with | [_, _], _ => rfl⟩
  have D22 : DefAt K mg "check_weights" s_check_weights ["row", "weights"] _ _ := ⟨fun_mk (st := s_check_weights) l22 c22 k22, PySem.W.mg_of X G a22,
    (fun_mk (st := s_check_weights) l22 c22 k22).binds fun _ _ _ _ _ _ us hl => match us, hl with | [_, _], _ => rfl⟩
  have D23 : DefAtN K mg "weighted_after" s_weighted_after ["row", "weights", "rounds"] 2 ["rounds"] _ _ := ⟨fun_mk (st := s_weighted_after) l23 c23 k23, PySem.W.mg_of X G a23,
    ⟨fun s us ws _ h1 h2 => match us, ws, h1, h2 with | [_, _], [_], _, _ => .of_eq rfl, fun r1 r2 => r1.append r2⟩⟩
  have D24 : DefAt K mg "weighted_needed" s_weighted_needed ["row", "weights"] _ _ := ⟨fun_mk (st := s_weighted_needed) l24 c24 k24, PySem.W.mg_of X G a24,
    (fun_mk (st := s_weighted_needed) l24 c24 k24).binds fun _ _ _ _ _ _ us hl => match us, hl with | [_, _], _ => rfl⟩
  have D25 : DefAt K mg "weighted_rows" s_weighted_rows ["row", "weights"] _ _ := ⟨fun_mk (st := s_weighted_rows) l25 c25 k25, PySem.W.mg_of X G a25,
    (fun_mk (st := s_weighted_rows) l25 c25 k25).binds fun _ _ _ _ _ _ us hl => match us, hl with | [_, _], _ => rfl⟩
  have D26 : DefAt K mg "weighted_spans" s_weighted_spans ["row", "totals"] _ _ := ⟨fun_mk (st := s_weighted_spans) l26 c26 k26, PySem.W.mg_of X G a26,
    (fun_mk (st := s_weighted_spans) l26 c26 k26).binds fun _ _ _ _ _ _ us hl => match us, hl with | [_, _], _ => rfl⟩
  have D27 : DefAt K mg "_law_fount" s__law_fount ["script", "k"] _ _ := ⟨fun_mk (st := s__law_fount) l27 c27 k27, PySem.W.mg_of X G a27,
    (fun_mk (st := s__law_fount) l27 c27 k27).binds fun _ _ _ _ _ _ us hl => match us, hl with | [_, _], _ => rfl⟩
  have D28 : DefAt K mg "_law_sip" s__law_sip ["fount", "many"] _ _ := ⟨fun_mk (st := s__law_sip) l28 c28 k28, PySem.W.mg_of X G a28,
    (fun_mk (st := s__law_sip) l28 c28 k28).binds fun _ _ _ _ _ _ us hl => match us, hl with | [_, _], _ => rfl⟩
  have D29 : DefAt K mg "_law_value" s__law_value ["fount", "style", "count"] _ _ := ⟨fun_mk (st := s__law_value) l29 c29 k29, PySem.W.mg_of X G a29,
    (fun_mk (st := s__law_value) l29 c29 k29).binds fun _ _ _ _ _ _ us hl => match us, hl with | [_, _, _], _ => rfl⟩
  have D30 : DefAt K mg "_law_slow" s__law_slow ["fount", "count"] _ _ := ⟨fun_mk (st := s__law_slow) l30 c30 k30, PySem.W.mg_of X G a30,
    (fun_mk (st := s__law_slow) l30 c30 k30).binds fun _ _ _ _ _ _ us hl => match us, hl with | [_, _], _ => rfl⟩
  have D31 : DefAt K mg "_law_row" s__law_row ["fount", "most"] _ _ := ⟨fun_mk (st := s__law_row) l31 c31 k31, PySem.W.mg_of X G a31,
    (fun_mk (st := s__law_row) l31 c31 k31).binds fun _ _ _ _ _ _ us hl => match us, hl with | [_, _], _ => rfl⟩
  have D32 : DefAt K mg "_law_spans" s__law_spans ["row"] _ _ := ⟨fun_mk (st := s__law_spans) l32 c32 k32, PySem.W.mg_of X G a32,
    (fun_mk (st := s__law_spans) l32 c32 k32).binds fun _ _ _ _ _ _ us hl => match us, hl with | [_], _ => rfl⟩
  have D33 : DefAt K mg "_law_loads" s__law_loads ["fount", "many"] _ _ := ⟨fun_mk (st := s__law_loads) l33 c33 k33, PySem.W.mg_of X G a33,
    (fun_mk (st := s__law_loads) l33 c33 k33).binds fun _ _ _ _ _ _ us hl => match us, hl with | [_, _], _ => rfl⟩
  have D34 : DefAt K mg "_law_long_right" s__law_long_right ["fount", "row", "loads"] _ _ := ⟨fun_mk (st := s__law_long_right) l34 c34 k34, PySem.W.mg_of X G a34,
    (fun_mk (st := s__law_long_right) l34 c34 k34).binds fun _ _ _ _ _ _ us hl => match us, hl with | [_, _, _], _ => rfl⟩
  have D35 : DefAt K mg "_law_equal_right" s__law_equal_right ["fount", "row"] _ _ := ⟨fun_mk (st := s__law_equal_right) l35 c35 k35, PySem.W.mg_of X G a35,
    (fun_mk (st := s__law_equal_right) l35 c35 k35).binds fun _ _ _ _ _ _ us hl => match us, hl with | [_, _], _ => rfl⟩
  have D36 : DefAt K mg "_law_front_right" s__law_front_right ["fount", "row", "loads"] _ _ := ⟨fun_mk (st := s__law_front_right) l36 c36 k36, PySem.W.mg_of X G a36,
    (fun_mk (st := s__law_front_right) l36 c36 k36).binds fun _ _ _ _ _ _ us hl => match us, hl with | [_, _, _], _ => rfl⟩
  have D37 : DefAt K mg "law" s_law ["script"] _ _ := ⟨fun_mk (st := s_law) l37 c37 k37, PySem.W.mg_of X G a37,
    (fun_mk (st := s_law) l37 c37 k37).binds fun _ _ _ _ _ _ us hl => match us, hl with | [_], _ => rfl⟩
  refine ⟨(PySem.W.fnOf "law" "law" (defArgs s_law) (defBody s_law) (defScope s_law) .none kV37 dc37 pm37 an37 cd37 ct37), fun s v => .of_eq rfl, fun base _ _ => ?_⟩
  have c_is_int := ok_is_int (P := l.prog) (w := w) (base := base) D0 T
  have c_runs_of := ok_runs_of (P := l.prog) (w := w) (base := base) D13 T
  have c_all_spans := ok_all_spans (P := l.prog) (w := w) (base := base) D17 T
  have c__law_fount := ok__law_fount (P := l.prog) (w := w) (base := base) D27 T
  have c__law_sip := ok__law_sip (P := l.prog) (w := w) (base := base) D28 T
  have c__law_spans := ok__law_spans (P := l.prog) (w := w) (base := base) D32 T
  have c_is_whole := ok_is_whole (P := l.prog) (w := w) (base := base) D1 T c_is_int
  have c_runs_after_round := ok_runs_after_round (P := l.prog) (w := w) (base := base) D14 T c_runs_of
  have c_rows_until_still := ok_rows_until_still (P := l.prog) (w := w) (base := base) D18 T c_all_spans
  have c_weighted_spans := ok_weighted_spans (P := l.prog) (w := w) (base := base) D26 T c_all_spans
  have c__law_value := ok__law_value (P := l.prog) (w := w) (base := base) D29 T c__law_sip
  have c__law_slow := ok__law_slow (P := l.prog) (w := w) (base := base) D30 T c__law_sip
  have c__law_loads := ok__law_loads (P := l.prog) (w := w) (base := base) D33 T c__law_sip
  have c_is_entry := ok_is_entry (P := l.prog) (w := w) (base := base) D2 T c_is_whole
  have c_check_place := ok_check_place (P := l.prog) (w := w) (base := base) D3 T c_is_whole
  have c_check_rounds := D4.cal (fo_check_rounds (P := l.prog) (w := w) (base := base) D4 T c_is_whole)
  have cd_check_rounds := D4.cald (fo_check_rounds (P := l.prog) (w := w) (base := base) D4 T c_is_whole)
  have c_played := ok_played (P := l.prog) (w := w) (base := base) D12 T c_runs_of c_runs_after_round
  have c_weighted_rows := ok_weighted_rows (P := l.prog) (w := w) (base := base) D25 T c_weighted_spans
  have c__law_row := ok__law_row (P := l.prog) (w := w) (base := base) D31 T c__law_sip c__law_value c__law_slow c__law_spans
  have c_is_block := ok_is_block (P := l.prog) (w := w) (base := base) D6 T c_is_entry c_is_whole
  have c_is_row := ok_is_row (P := l.prog) (w := w) (base := base) D15 T c_is_entry
  have c_is_blocks := ok_is_blocks (P := l.prog) (w := w) (base := base) D5 T c_is_block
  have c_check_row := ok_check_row (P := l.prog) (w := w) (base := base) D16 T c_is_row
  have c_check_blocks := ok_check_blocks (P := l.prog) (w := w) (base := base) D7 T c_is_blocks
  have c_row_after := ok_row_after (P := l.prog) (w := w) (base := base) D19 T c_check_row cd_check_rounds c_rows_until_still
  have c_rounds_needed := ok_rounds_needed (P := l.prog) (w := w) (base := base) D20 T c_check_row c_rows_until_still
  have c_is_weights := ok_is_weights (P := l.prog) (w := w) (base := base) D21 T c_check_row c_is_whole
  have c_long_after := ok_long_after (P := l.prog) (w := w) (base := base) D8 T c_check_blocks cd_check_rounds c_played
  have c_long_entry := ok_long_entry (P := l.prog) (w := w) (base := base) D9 T c_check_blocks c_check_place cd_check_rounds c_played
  have c_long_count := ok_long_count (P := l.prog) (w := w) (base := base) D10 T c_check_blocks cd_check_rounds c_is_int c_played
  have c_long_needed := ok_long_needed (P := l.prog) (w := w) (base := base) D11 T c_check_blocks c_played
  have c_check_weights := ok_check_weights (P := l.prog) (w := w) (base := base) D22 T c_is_weights
  have c_weighted_after := ok_weighted_after (P := l.prog) (w := w) (base := base) D23 T c_check_weights cd_check_rounds c_weighted_rows
  have c_weighted_needed := ok_weighted_needed (P := l.prog) (w := w) (base := base) D24 T c_check_weights c_weighted_rows
  have c__law_long_right := ok__law_long_right (P := l.prog) (w := w) (base := base) D34 T c_weighted_needed c_long_needed c_weighted_after c__law_sip c_long_entry c_long_count c_long_after
  have c__law_equal_right := ok__law_equal_right (P := l.prog) (w := w) (base := base) D35 T c__law_sip c_row_after c_is_weights c_weighted_needed c_rounds_needed c_weighted_after
  have c__law_front_right := ok__law_front_right (P := l.prog) (w := w) (base := base) D36 T c_weighted_after c__law_sip c_weighted_needed
  exact ok_law D37 T c__law_fount c__law_row c__law_loads c__law_front_right c__law_long_right c__law_equal_right
end
end K66
open PySem PySem.W PyProof.Rows
set_option maxHeartbeats 0 in
theorem PySem.Challenge.cw_spanrounds_k66_whole_weights_as_long_row_holds : PySem.Challenge.rw_spanrounds_k66_whole_weights_as_long_row.Holds := by
  w_on; o_law; k_head; (case hw => w_witness2)
  k_fill
  refine Sx.walk_g (l := PySem.Challenge.rw_spanrounds_k66_whole_weights_as_long_row) (n := 63) (k := 10) (x := "script") (sp := K66.sp_law) rfl (by decide) rfl ⟨rfl, by decide, by decide⟩
    (fun w h Y => PySem.W.kIn_of Y) ?F (fun K H a ns hl _ hS => ⟨a, ns, rfl, hS, hl, fun _ => rfl⟩)
  case F =>
    intro w mg fa h KX G hmg
    refine' K66.all_mk KX G hmg ?a0 ?l0 ?c0 ?k0 ?a1 ?l1 ?c1 ?k1 ?a2 ?l2 ?c2 ?k2 ?a3 ?l3 ?c3 ?k3 ?a4 ?l4 ?c4 ?k4 ?w4 ?a5 ?l5 ?c5 ?k5 ?a6 ?l6 ?c6 ?k6 ?a7 ?l7 ?c7 ?k7 ?a8 ?l8 ?c8 ?k8 ?a9 ?l9 ?c9 ?k9 ?a10 ?l10 ?c10 ?k10 ?a11 ?l11 ?c11 ?k11 ?a12 ?l12 ?c12 ?k12 ?a13 ?l13 ?c13 ?k13 ?a14 ?l14 ?c14 ?k14 ?a15 ?l15 ?c15 ?k15 ?a16 ?l16 ?c16 ?k16 ?a17 ?l17 ?c17 ?k17 ?a18 ?l18 ?c18 ?k18 ?a19 ?l19 ?c19 ?k19 ?a20 ?l20 ?c20 ?k20 ?a21 ?l21 ?c21 ?k21 ?a22 ?l22 ?c22 ?k22 ?a23 ?l23 ?c23 ?k23 ?a24 ?l24 ?c24 ?k24 ?a25 ?l25 ?c25 ?k25 ?a26 ?l26 ?c26 ?k26 ?a27 ?l27 ?c27 ?k27 ?a28 ?l28 ?c28 ?k28 ?a29 ?l29 ?c29 ?k29 ?a30 ?l30 ?c30 ?k30 ?a31 ?l31 ?c31 ?k31 ?a32 ?l32 ?c32 ?k32 ?a33 ?l33 ?c33 ?k33 ?a34 ?l34 ?c34 ?k34 ?a35 ?l35 ?c35 ?k35 ?a36 ?l36 ?c36 ?k36 ?a37 ?l37 ?c37 ?k37 ?kc0 ?kc1 ?kc2 ?kc3 ?kc4 ?kc5 ?z0 ?z1 ?z2 ?z3 ?z4 ?z5 ?z6 ?z7 ?z8 ?z9 ?z10 ?z11 ?z12 ?z13
    (case a0 => k_is); (case l0 => k_is); (case c0 => k_is); (case k0 => k_is)
    (case a1 => k_is); (case l1 => k_is); (case c1 => k_is); (case k1 => k_is)
    (case a2 => k_is); (case l2 => k_is); (case c2 => k_is); (case k2 => k_is)
    (case a3 => k_is); (case l3 => k_is); (case c3 => k_is); (case k3 => k_is)
    (case a4 => k_is); (case l4 => k_is); (case c4 => k_is); (case k4 => k_is)
    (case w4 => k_is); (case a5 => k_is); (case l5 => k_is); (case c5 => k_is)
    (case k5 => k_is); (case a6 => k_is); (case l6 => k_is); (case c6 => k_is)
    (case k6 => k_is); (case a7 => k_is); (case l7 => k_is); (case c7 => k_is)
    (case k7 => k_is); (case a8 => k_is); (case l8 => k_is); (case c8 => k_is)
    (case k8 => k_is); (case a9 => k_is); (case l9 => k_is); (case c9 => k_is)
    (case k9 => k_is); (case a10 => k_is); (case l10 => k_is); (case c10 => k_is)
    (case k10 => k_is); (case a11 => k_is); (case l11 => k_is); (case c11 => k_is)
    (case k11 => k_is); (case a12 => k_is); (case l12 => k_is); (case c12 => k_is)
    (case k12 => k_is); (case a13 => k_is); (case l13 => k_is); (case c13 => k_is)
    (case k13 => k_is); (case a14 => k_is); (case l14 => k_is); (case c14 => k_is)
    (case k14 => k_is); (case a15 => k_is); (case l15 => k_is); (case c15 => k_is)
    (case k15 => k_is); (case a16 => k_is); (case l16 => k_is); (case c16 => k_is)
    (case k16 => k_is); (case a17 => k_is); (case l17 => k_is); (case c17 => k_is)
    (case k17 => k_is); (case a18 => k_is); (case l18 => k_is); (case c18 => k_is)
    (case k18 => k_is); (case a19 => k_is); (case l19 => k_is); (case c19 => k_is)
    (case k19 => k_is); (case a20 => k_is); (case l20 => k_is); (case c20 => k_is)
    (case k20 => k_is); (case a21 => k_is); (case l21 => k_is); (case c21 => k_is)
    (case k21 => k_is); (case a22 => k_is); (case l22 => k_is); (case c22 => k_is)
    (case k22 => k_is); (case a23 => k_is); (case l23 => k_is); (case c23 => k_is)
    (case k23 => k_is); (case a24 => k_is); (case l24 => k_is); (case c24 => k_is)
    (case k24 => k_is); (case a25 => k_is); (case l25 => k_is); (case c25 => k_is)
    (case k25 => k_is); (case a26 => k_is); (case l26 => k_is); (case c26 => k_is)
    (case k26 => k_is); (case a27 => k_is); (case l27 => k_is); (case c27 => k_is)
    (case k27 => k_is); (case a28 => k_is); (case l28 => k_is); (case c28 => k_is)
    (case k28 => k_is); (case a29 => k_is); (case l29 => k_is); (case c29 => k_is)
    (case k29 => k_is); (case a30 => k_is); (case l30 => k_is); (case c30 => k_is)
    (case k30 => k_is); (case a31 => k_is); (case l31 => k_is); (case c31 => k_is)
    (case k31 => k_is); (case a32 => k_is); (case l32 => k_is); (case c32 => k_is)
    (case k32 => k_is); (case a33 => k_is); (case l33 => k_is); (case c33 => k_is)
    (case k33 => k_is); (case a34 => k_is); (case l34 => k_is); (case c34 => k_is)
    (case k34 => k_is); (case a35 => k_is); (case l35 => k_is); (case c35 => k_is)
    (case k35 => k_is); (case a36 => k_is); (case l36 => k_is); (case c36 => k_is)
    (case k36 => k_is); (case a37 => k_is); (case l37 => k_is); (case c37 => k_is)
    (case k37 => k_is); (case kc0 => k_is); (case kc1 => k_is); (case kc2 => k_is)
    (case kc3 => k_is); (case kc4 => k_is); (case kc5 => k_is); (case z0 => k_is)
    (case z1 => k_is); (case z2 => k_is); (case z3 => k_is); (case z4 => k_is)
    (case z5 => k_is); (case z6 => k_is); (case z7 => k_is); (case z8 => k_is)
    (case z9 => k_is); (case z10 => k_is); (case z11 => k_is); (case z12 => k_is)
    (case z13 => k_is)
#print axioms PySem.Challenge.cw_spanrounds_k66_whole_weights_as_long_row_holds
