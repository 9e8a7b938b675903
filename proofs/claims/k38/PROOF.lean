import PyProof.Rows.All
import Wide.All
import OpenK.AllK
import Wide.FinOn
import HandS.ForMost
import HandS.Codes
import HandS.Wide
import HandS.TupAny
import HandS.TupMul
import HandS.Style
import HandS.Conv
import HandS.IsInst
import HandS.SortInts
import HandS.Evl
import PyProof.ReprBulk
import PyProof.ReprRoads
import HandS.Defaults
import HandS.Set
import HandS.Strs
import HandS.SetFor
import HandS.GenList
import HandS.Zip
import PySem.Challenge.RW_spanrounds_k38_whole_weights_and_rounds
set_option Elab.async false
set_option linter.all false
set_option maxRecDepth 100000
namespace Sx
open PySem PySem.Spec
open PyProof.Rows L2

/-! A def's promise where nothing is being shown (no repr is under way around it). -/
section
variable (P : Program) (w : World) (K : PySem.W.Frag) (mg : Str → Option Value) (base : Heap)
structure GOk (k : Nat) (f : Addr) (fd : FuncData) (ps : List Str) (sp : Sp) : Prop where
  arity : ∀ vs H Q E, sp vs H Q E → vs.length = ps.length
  go : ∀ (A : Around) (outer : List Env) (s : Shared) (H : Hp) (args : Args) (us : List Value) (vs : List V) (Q : VK) (E : XK),
    A.guards = some [] → Room k A → Env0 P w K mg base A outer s H → BindsTo s fd args (ps.zip us) → Vals vs us → sp vs H Q E →
    codeAny (model P w) A (.call (.ref f) args) (CR CX0 outer P w H s Q E) s
/-- a def that is called by its name -/
structure GCal (k : Nat) (x : Str) (sp : Sp) : Prop where
  ex : ∃ (f : Addr) (fd : FuncData) (ps : List Str), GOk P w K mg base k f fd ps sp ∧ mg x = some (.ref f) ∧
    PySem.W.keepIn K (.ref f) = true ∧ Binds K fd ps []
end
section
variable {P : Program} {w : World} {K : PySem.W.Frag} {mg : Str → Option Value} {base : Heap}
theorem GOk.of_fn {k : Nat} {f : Addr} {fd : FuncData} {ps : List Str} {sp : Sp} (F : FnOk P w K mg base CX0 k f fd ps sp) :
    GOk P w K mg base k f fd ps sp :=
  ⟨F.len, fun A o s H args us vs Q E _ => F.run A o s H args us vs Q E⟩

/-- the rule for such a def -/
theorem g_ok {x : Str} {st : Stmt} {f : Addr} {fd : FuncData} {N ps : List Str} {k : Nat} {sp : Sp}
    (F : Fun K x x st f fd) (S : FnScope N ps (defScope st)) (ar : ∀ vs H Q E, sp vs H Q E → vs.length = ps.length)
    (hb : ∀ (cdv : Value) (A : Around) (outer : List Env) (s : Shared) (H : Hp) (vs : List V) (Q : VK) (E : XK),
      A.guards = some [] → Room k (A.deeper (envOfC x (defScope st) s.heap.objs.size f cdv)) → sp vs H Q E →
      ∃ t, PSs (cxOf CX0 P w K mg base N x (defScope st) f cdv A outer s H E).nox (defBody st) t ∧
        t { nx := fun _ H' => Q .non H', rt := Q } (start N vs) H) :
    GOk P w K mg base (k + 1) f fd ps sp := by
  obtain ⟨oc, od, kV, doc, pm, an, cdv, ct, osl, rfl, lk, hcd⟩ := F.ex
  refine ⟨ar, fun A outer s H args us vs Q E hg hr e0 hbi r hsp => ?_⟩
  have old : ∀ b o, base.get? b = some o → s.heap.get? b = some o := fun b o e => (e0.bs b o e).1
  have KX := e0.mod.kin.keeps old
  refine codeAny_call_function hr.depth (KX _ _ lk) rfl S.co S.gen rfl (PySem.W.codeRec_of KX hcd) (hbi _ _ _ _ ?_)
  refine wpAny_newFunctionEnv_cells S.kind (fun y hy => ?_) fun env he s1 z => ?_
  · obtain ⟨n, v⟩ := y
    rcases S.par n (List.of_mem_zip hy).1 with q | q
    · exact .inl q
    · exact .inr ⟨q, PySem.W.cellsFrom_some _ _ _ (.inl q)⟩
  · subst he
    refine ⟨(e0.mod.nolimit.keeps old).keeps z.toInCall.keep, codeAny_func ?_⟩
    obtain ⟨t, ht, hq⟩ := hb cdv A outer s H vs Q E hg (hr.deeper _) hsp
    have I := inv_start (CX := CX0) (E := E) S hr.hd e0 (ar _ _ _ _ hsp) r z
    refine wpAny_mono (ht.nox.run [] s1 _ H _ I hq) (fun fl s' hs => ?_) fun e s' hs => hs
    cases fl with
    | ret u =>
      obtain ⟨v, σ', H', J, rv, q⟩ := hs
      exact ⟨v, H', J.os, J.bare, J.base, J.hok, rv, q⟩
    | next =>
      obtain ⟨σ', H', J, q⟩ := hs
      exact ⟨.non, H', J.os, J.bare, J.base, J.hok, rfl, q⟩
    | brk => obtain ⟨_, _, _, q⟩ := hs; exact q.elim
    | cont => obtain ⟨_, _, _, q⟩ := hs; exact q.elim
end

section
variable {X : Cx}
theorem run_g {pins : List (Addr × Obj)} {σ : L2.St} {H : Hp} {s : Shared} {Q : VK} {us : List Value} {vs : List V} {k : Nat} {f : Addr} {fd : FuncData} {ps : List Str} {sp : Sp}
    (F : GOk X.prog X.w X.K X.mg X.base k f fd ps sp) (hg : X.A.guards = some []) (hr : Room k X.A) (hb : Binds X.K fd ps [])
    (I : Inv X pins σ H s) (r : Vals vs us) (h : sp vs H Q E0) : wpAny (model X.prog X.w) X.A (call (.ref f) us) (EP X pins σ Q) X.xe s := by
  have hl : (us ++ ([] : List Value)).length = ps.length := by rw [List.append_nil, ← r.length]; exact F.arity _ _ _ _ h
  have hb' := hb s us I.kIn hl
  rw [List.append_nil] at hb'
  refine wpAny_call (codeAny_mono (F.go X.A X.stack s H ⟨us, []⟩ us vs Q E0 hg hr I.env0 hb' r h) fun res s' hq => ?_)
  match res, hq with
  | .error e, hq => exact hq.elim
  | .ok (.ret u), hq => exact I.after hq
/-- f(e, ..) -/
theorem pe_g {k j : Nat} {x : Str} {sp : Sp} {p pos : Pos} {e : Expr} {es : List Expr} {t : TA}
    (c : GCal X.prog X.w X.K X.mg X.base k x sp) (hG : X.A.guards = some []) (hr : Room j X.A) (hk : k ≤ j) (hg : Gl X x) (ha : PA X (e :: es) t)
    (hdb : (x == ("__debug__" : Str)) = false := by decide)
    (he : starEach (e :: es) X.env = (false, eval e X.env) :: starEach es X.env := by rfl)
    (hpl : (backTo pos (starEach es X.env)).any (·.1) = false := by rfl) :
    PE X (.Call (.Name x p) (e :: es) [] pos) (tCall sp [] E0 t) := by
  obtain ⟨f, fd, ps, F, hm, kp, b⟩ := c.ex
  refine ⟨fun pins s σ H Q I h => wpAny_Call_Name_kw (ld_glob I hg hm ?_ hdb)⟩
  refine PySem.W.callWith_K (h₀ := X.base) I.ok.mod.kin kp (thn (ha.run pos pins s σ H _ I h) fun us s1 ⟨vs, H1, I1, r, q⟩ => ⟨I1.kIn, ?_⟩) he hpl
  have q' : sp (vs ++ []) H1 Q E0 := q
  rw [List.append_nil] at q'
  exact run_g F hG (hr.mono hk) b I1 r q'
end

/-! ### the law's own call -/
section
variable {P : Program} {w : World} {K : PySem.W.Frag}
/-- what the abstract heap may hold ahead of the law: the script alone -/
def Lone (H : Hp) (a : Addr) : Prop := ∀ b, H b = none ∨ (b = a ∧ ∃ o xs, H b = some (.frz o (.lst xs)))
theorem law_g {mg mb : Str → Option Value} {k : Nat} {fa a : Addr} {fd : FuncData} {x : Str} {sp : Sp} {s1 : Shared} {vs : List Value} {ns : List Int}
    (KX : K.In s1.heap) (hn : s1.heap.Ns mainGlobals mg) (hb : s1.heap.Ns builtinsNs mb) (hbb : ∀ x : Str, x ≠ "__name__" → mb x = bootBuiltins x)
    (hlim : s1.heap.NoLimit) (hgen : s1.gens = #[]) (ha : s1.heap.get? a = some { cls := .type "list", data := .seq vs.toArray }) (hi : IntsAre vs ns)
    (hl : ns.length ≤ sizeLine) (hr : Room k callerA)
    (F : ∀ base : Heap, K.In base → base.Ns mainGlobals mg → GOk P w K mg base k fa fd [x] sp)
    (hbind : ∀ (s : Shared) (u : Value), BindsTo s fd ⟨[u], []⟩ [(x, u)])
    (hsp : ∀ H : Hp, Lone H a → SqL K H a (ns.map V.int) → sp [.ref a] H (fun v _ => v = .bl true) E0) :
    codeAny (model P w) callerA (.call (.ref fa) ⟨[.ref a], []⟩)
      (fun r s' => r = .ok (.ret (.bool true)) ∧ OldK s1.heap s'.heap ∧ s'.os = s1.os ∧ AllBare s'.gens) s1 := by
  have rv := vals_ints hi
  -- one abstract heap or the other
  suffices core : ∀ H : Hp, Lone H a → SqL K H a (ns.map V.int) → HOk P w H s1.heap → (H a ≠ none → K.lookup a = none) → _ by
    cases hk : K.lookup a with
    | some o =>
      have e := KX a o hk
      rw [ha] at e
      cases e
      refine core (fun _ => none) (fun _ => .inl rfl) (.inr ⟨_, vs.toArray, _, hk, rfl, rfl, rfl, ?_, by simpa using rv⟩) (fun b u z => nomatch z) fun z => (z rfl).elim
      rw [List.size_toArray, hi.length]
      exact hl
    | none =>
      refine core (fun b => if b = a then some (.frz { cls := .type "list", data := .seq vs.toArray } (.lst (ns.map V.int))) else none)
        (fun b => ?_) (.inl (.inr ⟨_, if_pos rfl⟩)) (fun b u z => ?_) fun _ => hk
      · by_cases h : b = a
        · exact .inr ⟨h, _, _, if_pos h⟩
        · exact .inl (if_neg h)
      · by_cases h : b = a
        · subst h
          cases (if_pos rfl).symm.trans z
          exact ⟨ha, by rw [List.length_map]; exact hl, vs, _, rv, ha⟩
        · exact nomatch (if_neg h).symm.trans z
  intro H hO hS hok hK
  have free : ∀ {b : Addr} {o : Obj}, s1.heap.get? b = some o → b ≠ a → H b = none := fun {b o} _ hne => by
    rcases hO b with z | ⟨z, _⟩
    · exact z
    · exact (hne z).elim
  have nsK : ∀ {b : Addr} {m : Str → Option Value}, s1.heap.Ns b m → (hidT s1.heap H).Ns b m := fun {b m} ⟨o, es, ep, e, d, r⟩ => by
    refine ⟨o, es, ep, hidT_get e (free e fun z => ?_), d, r⟩
    subst z
    rw [ha] at e
    cases e
    exact nomatch d
  have hKb : K.In (hidT s1.heap H) := fun b o e => hidT_get (KX b o e) (by
    cases q : H b with
    | none => rfl
    | some u =>
      rcases hO b with z | ⟨z, _⟩
      · rw [q] at z; cases z
      · subst z
        rw [hK (by rw [q]; simp)] at e
        cases e)
  have hM : Mod K mg (hidT s1.heap H) := ⟨hKb, nsK hn, ⟨mb, nsK hb, hbb⟩, let ⟨mc, h1, h2⟩ := hlim; ⟨mc, nsK h1, h2⟩⟩
  have e0 : Env0 P w K mg (hidT s1.heap H) callerA [] s1 H :=
    ⟨rfl, hM, fun b o e => of_hidT e, Nat.le_of_eq (hidT_size _ _), trivial, fun b h => (List.not_mem_nil h).elim, hok, .of_eq hgen⟩
  refine codeAny_mono ((F _ hKb (nsK hn)).go callerA [] s1 H _ [.ref a] [.ref a] _ _ rfl hr e0 (hbind s1 _) (.cons rfl .nil) (hsp H hO hS)) fun r s' h => ?_
  match r, h with
  | .error e, h => exact h.elim
  | .ok (.ret u), ⟨v, H', os, bare, un, hok', r', q⟩ =>
    have q' : v = .bl true := q
    subst q'
    obtain rfl : u = Value.bool true := r'
    refine ⟨rfl, OldK.of_keep fun b o e => ?_, os, bare⟩
    rcases hO b with z | ⟨z, ob, xs, z2⟩
    · exact un.keep b o e z (fun y => (List.not_mem_nil y).elim) (by simp)
    · obtain ⟨e1, _⟩ := hok b _ z2
      obtain ⟨e2, _⟩ := hok' b _ (un.frzs b ob _ z2)
      rw [e] at e1
      cases e1
      exact e2
/-- the goal that the head leaves -/
theorem walk_g {l : PySem.W.OpenLaw} {n k : Nat} {q : Program} {loose : List Str} {XP : (Str → Option Value) → Heap → Prop} {YP : World → Heap → Prop} {d : DefRec}
    {K : Params → PySem.W.Frag} {sp : PySem.W.Frag → Sp} {x : Str} (hn : l.most = some n) (hn2 : n ≤ sizeLine) (hdf : d.params.defaults = []) (hr : Room k callerA)
    (hY : ∀ (w : World) (h : Heap), YP w h → (K w.params).In h)
    (F : ∀ (w : World) (mg : Str → Option Value) (fa : Addr) (h : Heap), (K w.params).In h → h.Ns mainGlobals mg → mg d.name = some (.ref fa) →
      ∃ fd : FuncData, (∀ (s : Shared) (u : Value), BindsTo s fd ⟨[u], []⟩ [(x, u)]) ∧
        ∀ base : Heap, (K w.params).In base → base.Ns mainGlobals mg → GOk l.prog w (K w.params) mg base k fa fd [x] (sp (K w.params)))
    (hsp : ∀ (K : PySem.W.Frag) (H : Hp) (a : Addr) (ns : List Int), ns.length ≤ n → Lone H a → SqL K H a (ns.map V.int) → sp K [.ref a] H (fun v _ => v = .bl true) E0) :
    PySem.W.WalkO q loose XP YP l.row.toRowW d [] (fun f vs => PySem.call f vs) := by
  refine Att.attach_call hn hdf fun w s0 s1 mg mb fa o pm cd doc a vs ns G Y ho hd hcd hmg hobj hints hlen hg => ?_
  have KX := hY w _ Y
  obtain ⟨fd, hb, hF⟩ := F w mg fa _ KX G.T.g hmg
  exact law_g KX G.T.g G.T.b G.T.builtins G.T.nolimit hg hobj hints (Nat.le_trans hlen hn2) hr hF hb fun H hO hS => hsp _ H a ns hlen hO hS
end
end Sx

set_option Elab.async false
set_option linter.all false
set_option maxRecDepth 100000
namespace Sx
open PySem PySem.Spec
open PyProof.Rows L2

/-! ### further rules -/
def CPowW (i j : Int) : Prop := 0 ≤ j ∧ j ≤ 64 ∧ i.natAbs < 2 ^ 4000
section
variable {X : Cx}
theorem op_powW : OpR X (binaryOp .Pow) (rI CPowW fun i j => .int (i ^ j.toNat)) := opI fun i j _ _ _ _ _ hc q => by
  refine pow_int hc.1 ?_ q
  have hb : Builtin.Int.intBits i ≤ 4000 := by
    unfold Builtin.Int.intBits
    split
    · exact Nat.zero_le _
    · rename_i h
      have h0 : i.natAbs ≠ 0 := fun e => h (by rw [Int.natAbs_eq_zero.mp e]; rfl)
      exact (Nat.log2_lt h0).mpr hc.2.2
  have h1 : (Builtin.Int.intBits i : Int) * j ≤ 4000 * 64 :=
    Int.mul_le_mul (by omega) hc.2.1 hc.1 (by omega)
  exact Int.le_trans h1 (by decide)

/-- sum of a list or of a tuple of ints -/
def rSumA (K : PySem.W.Frag) : List V → Hp → VK → Prop := fun vs H Q =>
  ∃ (a : Addr) (ns : List Int), vs = [V.ref a] ∧ (SqL K H a (ns.map V.int) ∨ SqT K H a (ns.map V.int)) ∧ Q (.int ns.sum) H
theorem cr_sumA (hc : X.calm = true) : CallR X (.builtin "sum") (rSumA X.K) := by
  intro pins s σ H vs us Q I r h
  obtain ⟨a, ns, rfl, hs | hs, q⟩ := h
  · exact cr_sum hc pins s σ H _ us Q I r ⟨a, ns, rfl, hs, q⟩
  · obtain ⟨its, rv, hl, _⟩ := I.tuple hs
    rw [Vals.ref1 r]
    obtain ⟨xs, e⟩ := rv.ints.allInts.items
    have hn : numsOf (intItems xs).toList = ns := by rw [← e]; exact rv.ints.numsOf
    rw [nums_intItems] at hn
    rw [e] at hl
    have hlt : a < s.heap.objs.size := hl.lt
    refine call_sum_walkG (wpAny_pyIter_tuple hl ?_)
    have hne : a ≠ s.heap.objs.size := Nat.ne_of_lt hlt
    refine ⟨_, _, _, _, _, _, numAt xs, rfl, Walks.tuple (A := X.A.in1) (I.ok.hd hc) _ a hne (intItems xs),
      ⟨⟨_, Heap.get?_push_size _ rfl, rfl, rfl⟩, hl.keeps fun b o e => Heap.get?_push_of_some _ e⟩, fun b hb => ?_, (fun _ _ => intItems_at), fun h' tk t' hk => ?_⟩
    · show b < (s.heap.push _).objs.size
      rw [Heap.size_push]
      simp only [List.mem_cons, List.not_mem_nil, or_false] at hb
      rcases hb with e | e
      · rw [e]; exact Nat.lt_succ_self _
      · rw [e]; exact Nat.lt_succ_of_lt hlt
    · have e3 : preSum (numAt xs) (intItems xs).size = ns.sum := by
        have e2 : (intItems xs).size = xs.size := by simp [intItems]
        rw [e2, preSum_eq, List.take_of_length_le (by simp), hn]
      rw [e3]
      refine ⟨.int _, H, I.kept (fun b o eo => hk b o (fun hm => ?_) (Heap.get?_push_of_some _ eo)), ⟨t', rfl⟩, q⟩
      have z := Heap.lt_size eo
      rw [List.mem_singleton] at hm
      rw [hm] at z
      exact Nat.lt_irrefl _ z

mutual
theorem Dp.noDict {K : PySem.W.Frag} {H : Hp} : ∀ {v : V} {d : PyData}, Dp K H v d → d.hasDict = false
  | _, _, .non => by simp only [PyData.hasDict]
  | _, _, .bl _ => by simp only [PyData.hasDict]
  | _, _, .int _ => by simp only [PyData.hasDict]
  | _, _, .str _ => by simp only [PyData.hasDict]
  | _, _, .lst _ h => by simp only [PyData.hasDict]; exact DpAll.noDict h
  | _, _, .tup _ h => by simp only [PyData.hasDict]; exact DpAll.noDict h
theorem DpAll.noDict {K : PySem.W.Frag} {H : Hp} : ∀ {vs : List V} {ds : List PyData}, DpAll K H vs ds → PyData.hasDictAll ds = false
  | _, _, .nil => by simp only [PyData.hasDictAll]
  | _, _, .cons h t => by simp only [PyData.hasDictAll, Dp.noDict h, DpAll.noDict t, Bool.or_self]
end
/-- what may be shown -/
structure Shw (d : PyData) : Prop where
  ok : d.showable = true
  deep : d.depth ≤ 100
  size : d.shown.length ≤ sizeLine
/-- repr of data -/
def rReprD (K : PySem.W.Frag) : List V → Hp → VK → Prop := fun vs H Q =>
  ∃ v d, vs = [v] ∧ Dp K H v d ∧ Shw d ∧ Q (.str d.shown) H
theorem call_reprD {k : Nat} (hG : X.A.guards = some []) (hr : Room k X.A) : CallR X (.builtin "repr") (rReprD X.K) := by
  intro pins s σ H vs us Q I r h
  obtain ⟨v, d, rfl, hd, ⟨hs, hdp, hz⟩, q⟩ := h
  have hun := hr.un
  cases r with
  | cons ru rr =>
    cases rr
    rename_i u
    have big : ∀ (a : Addr), v = .ref a → d.hasDict = false → (∃ as, Reads s.heap (.ref a) d as) →
        wpAny (model X.prog X.w) X.A (call (.builtin "repr") [.ref a]) (EP X pins σ Q) X.xe s := by
      intro a _ hdi ⟨as, rd⟩
      exact repr_of_reads' rd hs (PyData.noDict_hsm hdi) hG (by omega) (fun _ _ e => e)
        (fun h' u tk hk => ⟨.str _, H, I.kept hk, ⟨_, rfl⟩, q⟩) hz
    cases hd with
    | non => cases (show u = Value.none from ru); exact PySem.P.repr_of_none ⟨.str _, H, I.tok _, ⟨_, rfl⟩, q⟩
    | bl b => cases (show u = Value.bool b from ru); exact PySem.P.repr_of_bool ⟨.str _, H, I.tok _, ⟨_, rfl⟩, q⟩
    | int i =>
      obtain ⟨t, e⟩ := (show ∃ t, u = Value.int i t from ru)
      cases e
      exact PySem.P.repr_of_int (by simpa [PyData.showable] using hs) ⟨.str _, H, I.tok _, ⟨_, rfl⟩, q⟩
    | str x =>
      obtain ⟨t, e⟩ := (show ∃ t, u = Value.str x t from ru)
      cases e
      exact PySem.P.repr_of_str ⟨.str _, H, I.tok _, ⟨_, rfl⟩, q⟩ hz
    | @lst a xs ds hl ha =>
      cases (show u = Value.ref a from ru)
      exact big a rfl (Sx.Dp.noDict (.lst hl ha)) (L2.Dp.reads I _ _ _ (.lst hl ha) rfl)
    | @tup a xs ds hl ha =>
      cases (show u = Value.ref a from ru)
      exact big a rfl (Sx.Dp.noDict (.tup hl ha)) (L2.Dp.reads I _ _ _ (.tup hl ha) rfl)
end
end Sx

set_option Elab.async false
set_option linter.all false
namespace Sx
/-! ### rows of spans: the plain facts -/
def g (xs : List Int) (i : Nat) : Int := xs.getD i 0
/-- the first place that a place covers -/
def fc (xs : List Int) (i : Nat) : Int := (i : Int) - g xs i + 1
structure Lam (xs : List Int) : Prop where
  lo : ∀ p, p < xs.length → 1 ≤ g xs p
  hi : ∀ p, p < xs.length → g xs p ≤ (p : Int) + 1
  nest : ∀ p j : Nat, p < xs.length → fc xs p ≤ (j : Int) → j < p → fc xs p ≤ fc xs j
theorem g_get {xs : List Int} {i : Nat} (h : i < xs.length) : xs[i]? = some (g xs i) := by
  unfold g
  rw [List.getD_eq_getElem?_getD, List.getElem?_eq_getElem h]
  rfl
/-- the first place behind that covers p -/
def parGo (xs : List Int) (p : Nat) : Nat → Nat → Option Nat
  | 0, _ => none
  | k + 1, b => if fc xs b ≤ (p : Int) then some b else parGo xs p k (b + 1)
def par (xs : List Int) (p : Nat) : Option Nat := parGo xs p (xs.length - (p + 1)) (p + 1)
theorem parGo_some {xs : List Int} {p : Nat} : ∀ {k b c : Nat}, parGo xs p k b = some c → b ≤ c ∧ c < b + k ∧ fc xs c ≤ (p : Int) ∧ ∀ j, b ≤ j → j < c → (p : Int) < fc xs j
  | 0, _, _, h => nomatch h
  | k + 1, b, c, h => by
    unfold parGo at h
    by_cases q : fc xs b ≤ (p : Int)
    · rw [if_pos q] at h
      cases h
      exact ⟨Nat.le_refl _, by omega, q, fun j h1 h2 => by omega⟩
    · rw [if_neg q] at h
      obtain ⟨h1, h2, h3, h4⟩ := parGo_some h
      refine ⟨by omega, by omega, h3, fun j h5 h6 => ?_⟩
      by_cases e : j = b
      · subst e; omega
      · exact h4 j (by omega) h6
theorem parGo_none {xs : List Int} {p : Nat} : ∀ {k b : Nat}, parGo xs p k b = none → ∀ j, b ≤ j → j < b + k → (p : Int) < fc xs j
  | 0, _, _, j, h1, h2 => by omega
  | k + 1, b, h, j, h1, h2 => by
    unfold parGo at h
    by_cases q : fc xs b ≤ (p : Int)
    · rw [if_pos q] at h
      cases h
    · rw [if_neg q] at h
      by_cases e : j = b
      · subst e; omega
      · exact parGo_none h j (by omega) (by omega)
theorem par_some {xs : List Int} {p c : Nat} : par xs p = some c ↔ p < c ∧ c < xs.length ∧ fc xs c ≤ (p : Int) ∧ ∀ j, p < j → j < c → (p : Int) < fc xs j := by
  constructor
  · intro h
    obtain ⟨h1, h2, h3, h4⟩ := parGo_some h
    exact ⟨by omega, by omega, h3, fun j h5 h6 => h4 j (by omega) h6⟩
  · rintro ⟨h1, h2, h3, h4⟩
    cases e : par xs p with
    | none =>
      have := parGo_none e c (by omega) (by omega)
      omega
    | some d =>
      obtain ⟨g1, g2, g3, g4⟩ := parGo_some e
      rcases Nat.lt_trichotomy c d with h | h | h
      · have := g4 c (by omega) h; omega
      · rw [h]
      · have := h4 d (by omega) h; omega
theorem par_none {xs : List Int} {p : Nat} : par xs p = none ↔ ∀ j, p < j → j < xs.length → (p : Int) < fc xs j := by
  constructor
  · intro h j h1 h2
    exact parGo_none h j (by omega) (by omega)
  · intro h
    cases e : par xs p with
    | none => rfl
    | some c =>
      obtain ⟨h1, h2, h3, _⟩ := par_some.mp e
      have := h c h1 h2
      omega

/-- from the back: p, the place in front of those that p covers, and so on down to first -/
def unc (xs : List Int) (first : Int) : Nat → Int → List Int
  | 0, _ => []
  | k + 1, p => if first ≤ p then unc xs first k (fc xs p.toNat - 1) ++ [p] else []
theorem unc_mem {xs : List Int} (L : Lam xs) {first : Int} (h0 : 0 ≤ first) : ∀ (k : Nat) (p : Int), p < (k : Int) → -1 ≤ p → p < xs.length →
    ∀ c : Int, c ∈ unc xs first k p ↔ first ≤ c ∧ c ≤ p ∧ ∀ j : Nat, c < (j : Int) → (j : Int) ≤ p → c < fc xs j
  | 0, p, h1, h2, h3, c => by
    constructor
    · intro h; exact nomatch h
    · rintro ⟨a, b, _⟩; omega
  | k + 1, p, h1, h2, h3, c => by
    unfold unc
    by_cases q : first ≤ p
    · rw [if_pos q]
      have hp : (p.toNat : Int) = p := by omega
      have hl : p.toNat < xs.length := by omega
      have a1 := L.lo _ hl
      have a2 := L.hi _ hl
      have e : fc xs p.toNat = p - g xs p.toNat + 1 := by unfold fc; omega
      have ih := unc_mem L h0 k (fc xs p.toNat - 1) (by omega) (by omega) (by omega) c
      rw [List.mem_append, List.mem_singleton, ih]
      constructor
      · rintro (⟨b1, b2, b3⟩ | b)
        · refine ⟨b1, by omega, fun j j1 j2 => ?_⟩
          by_cases hj : (j : Int) ≤ fc xs p.toNat - 1
          · exact b3 j j1 hj
          · by_cases he : j = p.toNat
            · subst he; omega
            · have := L.nest p.toNat j hl (by omega) (by omega)
              omega
        · subst b
          exact ⟨q, Int.le_refl _, fun j j1 j2 => by omega⟩
      · rintro ⟨b1, b2, b3⟩
        by_cases he : c = p
        · exact .inr he
        · refine .inl ⟨b1, ?_, fun j j1 j2 => b3 j j1 (by omega)⟩
          have := b3 p.toNat (by omega) (by omega)
          omega
    · rw [if_neg q]
      constructor
      · intro h; exact nomatch h
      · rintro ⟨a, b, _⟩; omega
theorem unc_lt {xs : List Int} (L : Lam xs) {first : Int} (h0 : 0 ≤ first) : ∀ (k : Nat) (p : Int), p < (k : Int) → -1 ≤ p → p < xs.length → (unc xs first k p).Pairwise (· < ·)
  | 0, p, h1, h2, h3 => .nil
  | k + 1, p, h1, h2, h3 => by
    unfold unc
    by_cases q : first ≤ p
    · rw [if_pos q]
      have hl : p.toNat < xs.length := by omega
      have a1 := L.lo _ hl
      have a2 := L.hi _ hl
      have e : fc xs p.toNat = p - g xs p.toNat + 1 := by unfold fc; omega
      refine List.pairwise_append.mpr ⟨unc_lt L h0 k _ (by omega) (by omega) (by omega), List.pairwise_singleton _ _, fun a ha b hb => ?_⟩
      rw [List.mem_singleton] at hb
      have := (unc_mem L h0 k _ (by omega) (by omega) (by omega) a).mp ha
      omega
    · rw [if_neg q]
      exact .nil
theorem sorted_ext : ∀ {l m : List Int}, l.Pairwise (· < ·) → m.Pairwise (· < ·) → (∀ c, c ∈ l ↔ c ∈ m) → l = m
  | [], [], _, _, _ => rfl
  | [], b :: m, _, _, h => nomatch (h b).mpr (List.mem_cons_self ..)
  | a :: l, [], _, _, h => nomatch (h a).mp (List.mem_cons_self ..)
  | a :: l, b :: m, h1, h2, h => by
    rw [List.pairwise_cons] at h1 h2
    have e : a = b := by
      rcases List.mem_cons.mp ((h a).mp (List.mem_cons_self ..)) with e | e
      · exact e
      · rcases List.mem_cons.mp ((h b).mpr (List.mem_cons_self ..)) with e' | e'
        · exact e'.symm
        · have := h1.1 b e'; have := h2.1 a e; omega
    subst e
    have : l = m := sorted_ext h1.2 h2.2 fun c => by
      have hc := h c
      rw [List.mem_cons, List.mem_cons] at hc
      constructor
      · intro hm
        rcases hc.mp (.inr hm) with e | e
        · subst e; have := h1.1 c hm; omega
        · exact e
      · intro hm
        rcases hc.mpr (.inr hm) with e | e
        · subst e; have := h2.1 c hm; omega
        · exact e
    rw [this]
/-- the places of 0 .. n - 1 with a property, as ints -/
def sel (n : Nat) (f : Nat → Bool) : List Int := ((List.range n).filter f).map Int.ofNat
theorem sel_lt (n : Nat) (f : Nat → Bool) : (sel n f).Pairwise (· < ·) := by
  unfold sel
  rw [List.pairwise_map]
  refine (List.pairwise_lt_range.filter _).imp fun h => ?_
  exact Int.ofNat_lt.mpr h
theorem sel_mem {n : Nat} {f : Nat → Bool} {c : Int} : c ∈ sel n f ↔ ∃ i : Nat, c = (i : Int) ∧ i < n ∧ f i = true := by
  unfold sel
  rw [List.mem_map]
  constructor
  · rintro ⟨i, h, rfl⟩
    rw [List.mem_filter, List.mem_range] at h
    exact ⟨i, rfl, h⟩
  · rintro ⟨i, rfl, h⟩
    exact ⟨i, by rw [List.mem_filter, List.mem_range]; exact h, rfl⟩
theorem kids {xs : List Int} (L : Lam xs) {p : Nat} (hp : p < xs.length) : unc xs (fc xs p) p ((p : Int) - 1) = sel xs.length (fun c => decide (par xs c = some p)) := by
  have a1 := L.lo _ hp
  have a2 := L.hi _ hp
  have e : fc xs p = p - g xs p + 1 := rfl
  refine sorted_ext (unc_lt L (by omega) _ _ (by omega) (by omega) (by omega)) (sel_lt _ _) fun c => ?_
  rw [unc_mem L (by omega) _ _ (by omega) (by omega) (by omega), sel_mem]
  constructor
  · rintro ⟨h1, h2, h3⟩
    refine ⟨c.toNat, by omega, by omega, decide_eq_true (par_some.mpr ⟨by omega, hp, by omega, fun j j1 j2 => ?_⟩)⟩
    have := h3 j (by omega) (by omega)
    omega
  · rintro ⟨i, rfl, h1, h2⟩
    obtain ⟨b1, b2, b3, b4⟩ := par_some.mp (of_decide_eq_true h2)
    exact ⟨b3, by omega, fun j j1 j2 => b4 j (by omega) (by omega)⟩
theorem tops {xs : List Int} (L : Lam xs) : unc xs 0 xs.length ((xs.length : Int) - 1) = sel xs.length (fun c => decide (par xs c = none)) := by
  refine sorted_ext (unc_lt L (by omega) _ _ (by omega) (by omega) (by omega)) (sel_lt _ _) fun c => ?_
  rw [unc_mem L (by omega) _ _ (by omega) (by omega) (by omega), sel_mem]
  constructor
  · rintro ⟨h1, h2, h3⟩
    refine ⟨c.toNat, by omega, by omega, decide_eq_true (par_none.mpr fun j j1 j2 => ?_)⟩
    have := h3 j (by omega) (by omega)
    omega
  · rintro ⟨i, rfl, h1, h2⟩
    have b := par_none.mp (of_decide_eq_true h2)
    exact ⟨by omega, by omega, fun j j1 j2 => b j (by omega) (by omega)⟩

/-! ### a forest that grows: ts the numbers of places of the roots, from the front -/
structure Gro (xs ts : List Int) : Prop where
  lam : Lam xs
  pos : ∀ t ∈ ts, 1 ≤ t
  sum : ts.sum = xs.length
  cut : ∀ k, k ≤ ts.length → ∀ j : Nat, j < xs.length → (ts.take k).sum ≤ (j : Int) → (ts.take k).sum ≤ fc xs j
theorem Gro.nil : Gro [] [] := ⟨⟨fun p h => (Nat.not_lt_zero p h).elim, fun p h => (Nat.not_lt_zero p h).elim, fun p _ h => (Nat.not_lt_zero p h).elim⟩, fun t h => (List.not_mem_nil h).elim, rfl, fun _ _ j h => (Nat.not_lt_zero j h).elim⟩
theorem sum_nonneg : ∀ {l : List Int}, (∀ t ∈ l, 1 ≤ t) → 0 ≤ l.sum
  | [], _ => Int.le_refl _
  | a :: l, h => by
    rw [List.sum_cons]
    have h1 := h a (List.mem_cons_self ..)
    have h2 := sum_nonneg (l := l) fun t ht => h t (List.mem_cons_of_mem _ ht)
    omega
theorem len_le_sum : ∀ {l : List Int}, (∀ t ∈ l, 1 ≤ t) → (l.length : Int) ≤ l.sum
  | [], _ => Int.le_refl _
  | a :: l, h => by
    rw [List.sum_cons, List.length_cons]
    have h1 := h a (List.mem_cons_self ..)
    have h2 := len_le_sum (l := l) fun t ht => h t (List.mem_cons_of_mem _ ht)
    omega
theorem g_app {xs : List Int} {e : Int} {i : Nat} (h : i < xs.length) : g (xs ++ [e]) i = g xs i := by
  unfold g
  rw [List.getD_eq_getElem?_getD, List.getElem?_append_left h, List.getD_eq_getElem?_getD]
theorem g_last {xs : List Int} {e : Int} : g (xs ++ [e]) xs.length = e := by
  unfold g
  rw [List.getD_eq_getElem?_getD, List.getElem?_append_right (Nat.le_refl _), Nat.sub_self]
  rfl
theorem Gro.grow {xs ts : List Int} (G : Gro xs ts) {k : Nat} (hk : k ≤ ts.length) {e : Int} (he : e = 1 + (ts.drop k).sum) : Gro (xs ++ [e]) (ts.take k ++ [e]) := by
  have hd : ∀ t ∈ ts.drop k, 1 ≤ t := fun t h => G.pos t (List.mem_of_mem_drop h)
  have ht : ∀ t ∈ ts.take k, 1 ≤ t := fun t h => G.pos t (List.mem_of_mem_take h)
  have n1 := sum_nonneg hd
  have n2 := sum_nonneg ht
  have hs : (ts.take k).sum + (ts.drop k).sum = xs.length := by
    rw [← List.sum_append, List.take_append_drop]; exact G.sum
  have hfe : fc (xs ++ [e]) xs.length = (ts.take k).sum := by
    unfold fc
    rw [g_last]
    omega
  have hfc : ∀ j : Nat, j < xs.length → fc (xs ++ [e]) j = fc xs j := fun j h => by unfold fc; rw [g_app h]
  have hlen : (xs ++ [e]).length = xs.length + 1 := by rw [List.length_append]; rfl
  refine ⟨⟨fun p hp => ?_, fun p hp => ?_, fun p j hp h1 h2 => ?_⟩, fun t h => ?_, ?_, fun m hm j hj h => ?_⟩
  · by_cases h : p < xs.length
    · rw [g_app h]; exact G.lam.lo p h
    · have e1 : p = xs.length := by omega
      subst e1
      rw [g_last]; omega
  · by_cases h : p < xs.length
    · rw [g_app h]; exact G.lam.hi p h
    · have e1 : p = xs.length := by omega
      subst e1
      rw [g_last]; omega
  · by_cases h : p < xs.length
    · rw [hfc p h] at h1 ⊢
      rw [hfc j (by omega)]
      exact G.lam.nest p j h h1 h2
    · have e1 : p = xs.length := by omega
      subst e1
      rw [hfe] at h1 ⊢
      rw [hfc j h2]
      exact G.cut k hk j h2 h1
  · rcases List.mem_append.mp h with h | h
    · exact ht t h
    · rw [List.mem_singleton] at h; omega
  · rw [List.sum_append, hlen]
    show (ts.take k).sum + (e + 0) = _
    omega
  · have hl : (ts.take k).length = k := by rw [List.length_take]; omega
    rw [List.length_append, hl] at hm
    by_cases hm' : m ≤ k
    · have e1 : (ts.take k ++ [e]).take m = ts.take m := by
        rw [List.take_append_of_le_length (by omega), List.take_take, Nat.min_eq_left hm']
      rw [e1] at h ⊢
      by_cases hj' : j < xs.length
      · rw [hfc j hj']
        exact G.cut m (by omega) j hj' h
      · have e2 : j = xs.length := by omega
        subst e2
        rw [hfe]
        have e3 : ts.take k = ts.take m ++ (ts.take k).drop m := by
          have := List.take_append_drop m (ts.take k)
          rw [List.take_take, Nat.min_eq_left hm'] at this
          exact this.symm
        have n3 := sum_nonneg (l := (ts.take k).drop m) fun t h => ht t (List.mem_of_mem_drop h)
        rw [e3, List.sum_append]
        omega
    · have e1 : (ts.take k ++ [e]).take m = ts.take k ++ [e] := List.take_of_length_le (by rw [List.length_append, hl]; simp only [List.length_cons, List.length_nil]; omega)
      rw [e1, List.sum_append] at h
      have : ([e] : List Int).sum = e := by show e + 0 = e; omega
      omega
theorem Gro.len {xs ts : List Int} (G : Gro xs ts) : ts.length ≤ xs.length := by
  have := len_le_sum G.pos
  have := G.sum
  omega
end Sx

set_option Elab.async false
set_option linter.all false
set_option maxRecDepth 100000
namespace Sx
open PySem PySem.Spec
open PyProof.Rows L2
/-- a def of the module under its name, with all its parameters given -/
structure DefAt (K : PySem.W.Frag) (mg : Str → Option Value) (x : Str) (st : Stmt) (ps : List Str) (f : Addr) (fd : FuncData) : Prop where
  fn : L2.Fun K x x st f fd
  at_ : mg x = some (.ref f)
  bi : Binds K fd ps []
section
variable {P : Program} {w : World} {K : PySem.W.Frag} {mg : Str → Option Value} {base : Heap} {x : Str} {st : Stmt} {N ps : List Str} {f : Addr} {fd : FuncData} {k : Nat} {sp : Sp}
theorem DefAt.cal (D : DefAt K mg x st ps f fd) (S : FnScope N ps (defScope st)) (ar : ∀ vs H Q E, sp vs H Q E → vs.length = ps.length)
    (hb : ∀ (cdv : Value) (A : Around) (outer : List Env) (s : Shared) (H : Hp) (vs : List V) (Q : VK) (E : XK),
      Room k (A.deeper (envOfC x (defScope st) s.heap.objs.size f cdv)) → sp vs H Q E →
      ∃ t, PSs (cxOf CX0 P w K mg base N x (defScope st) f cdv A outer s H E).nox (defBody st) t ∧
        t { nx := fun _ H' => Q .non H', rt := Q } (start N vs) H) : C8.Cal P w K mg base (k + 1) x sp [] :=
  ⟨f, fd, ps, [], D.fn.ok S ar hb, D.at_, D.fn.kp, D.bi, .nil⟩
theorem DefAt.gcal (D : DefAt K mg x st ps f fd) (S : FnScope N ps (defScope st)) (ar : ∀ vs H Q E, sp vs H Q E → vs.length = ps.length)
    (hb : ∀ (cdv : Value) (A : Around) (outer : List Env) (s : Shared) (H : Hp) (vs : List V) (Q : VK) (E : XK),
      A.guards = some [] → Room k (A.deeper (envOfC x (defScope st) s.heap.objs.size f cdv)) → sp vs H Q E →
      ∃ t, PSs (cxOf CX0 P w K mg base N x (defScope st) f cdv A outer s H E).nox (defBody st) t ∧
        t { nx := fun _ H' => Q .non H', rt := Q } (start N vs) H) : GCal P w K mg base (k + 1) x sp :=
  ⟨f, fd, ps, g_ok D.fn S ar hb, D.at_, D.fn.kp, D.bi⟩
end

abbrev Ex := Evl.Ex
/-- all but one list stays -/
def ExB (t : Addr) (H H' : Hp) : Prop := ∀ b o, b ≠ t → H b = some o → H' b = some o
theorem ExB.refl (t : Addr) (H : Hp) : ExB t H H := fun _ _ _ h => h
theorem ExB.of {t : Addr} {H H' : Hp} (e : Ex H H') : ExB t H H' := fun b o _ h => e b o h
theorem ExB.trans {t : Addr} {H H1 H2 : Hp} (a : ExB t H H1) (b : ExB t H1 H2) : ExB t H H2 := fun x o n h => b x o n (a x o n h)
theorem ExB.upd {t : Addr} {H : Hp} {o : HO} : ExB t H (upd H t o) := fun b u n h => by rw [upd_ne n]; exact h
theorem ExB.tup {K : PySem.W.Frag} {t a : Addr} {H H' : Hp} {xs ys : List V} (e : ExB t H H') (ht : H t = some (.lst ys)) (h : SqT K H a xs) : SqT K H' a xs := by
  rcases h with (h | ⟨o, h⟩) | h
  · exact .inl (.inl (e _ _ (ne_of h ht (by intro z; cases z)) h))
  · exact .inl (.inr ⟨o, e _ _ (ne_of h ht (by intro z; cases z)) h⟩)
  · exact .inr h
theorem atN {xs : List Int} {i : Nat} (h : i < xs.length) : atI (xs.map V.int) ((i : Nat) : Int) = some (.int (g xs i)) :=
  atI_nat (by rw [List.getElem?_map, g_get h]; rfl)
theorem atN' {xs : List Int} {i : Int} (h0 : 0 ≤ i) (h : i < xs.length) : atI (xs.map V.int) i = some (.int (g xs i.toNat)) := by
  have e : ((i.toNat : Nat) : Int) = i := by omega
  have := atN (xs := xs) (i := i.toNat) (by omega)
  rw [e] at this
  exact this
end Sx

set_option Elab.async false
set_option linter.all false
set_option maxRecDepth 100000
namespace Sx
open PySem PySem.Spec
open PyProof.Rows L2
/-! ### flat data and what is shown of it -/
def Fl (d : PyData) : Prop := d = .none ∨ ∃ i : Int, d = .int i ∧ i.natAbs.log2 < 1900
theorem Fl.all : ∀ {ds : List PyData}, (∀ d ∈ ds, Fl d) → PyData.showableAll ds = true ∧ PyData.depthAll ds = 0 ∧ PyData.leavesShortAll 1921 ds = true ∧ PyData.bulkAll ds = ds.length
  | [], _ => by simp [PyData.showableAll, PyData.depthAll, PyData.leavesShortAll, PyData.bulkAll]
  | d :: ds, h => by
    obtain ⟨h1, h2, h3, h4⟩ := Fl.all (ds := ds) fun e he => h e (List.mem_cons_of_mem _ he)
    rcases h d (List.mem_cons_self ..) with e | ⟨i, e, hi⟩
    · subst e
      simp [PyData.showableAll, PyData.depthAll, PyData.leavesShortAll, PyData.bulkAll, PyData.showable, PyData.depth, PyData.leavesShort, PyData.bulk, h1, h2, h3, h4]
      omega
    · subst e
      have hl : (PyData.shown (.int i)).length ≤ 1921 := int_text_len_1921 (by omega)
      have hl' : (Str.ofString (toString i)).length ≤ 1921 := hl
      simp [PyData.showableAll, PyData.depthAll, PyData.leavesShortAll, PyData.bulkAll, PyData.showable, PyData.depth, PyData.leavesShort, PyData.bulk, h1, h2, h3, h4, hl']
      omega
section
variable {K : PySem.W.Frag} {H : Hp} {p : Addr} {xs : List V} {ds : List PyData} {Q : VK}
theorem shw_l (hf : ∀ d ∈ ds, Fl d) (hn : ds.length ≤ 8000) : Shw (.list ds) := by
  obtain ⟨h1, h2, h3, h4⟩ := Fl.all hf
  refine ⟨by simp [PyData.showable, h1], by simp [PyData.depth, h2], ?_⟩
  have := PyData.shown_le_bulk 1921 (by decide) (.list ds) (by simp [PyData.leavesShort, h3])
  have e : (PyData.list ds).bulk = ds.length := by simp [PyData.bulk, h4]
  rw [e] at this
  exact Nat.le_trans this (Nat.le_trans (show _ ≤ 16000000 by omega) (by decide))
theorem shw_t (hf : ∀ d ∈ ds, Fl d) (hn : ds.length ≤ 8000) : Shw (.tuple ds) := by
  obtain ⟨h1, h2, h3, h4⟩ := Fl.all hf
  refine ⟨by simp [PyData.showable, h1], by simp [PyData.depth, h2], ?_⟩
  have := PyData.shown_le_bulk 1921 (by decide) (.tuple ds) (by simp [PyData.leavesShort, h3])
  have e : (PyData.tuple ds).bulk = ds.length := by simp [PyData.bulk, h4]
  rw [e] at this
  exact Nat.le_trans this (Nat.le_trans (show _ ≤ 16000000 by omega) (by decide))
theorem dp_ints : ∀ ns : List Int, DpAll K H (ns.map V.int) (ns.map PyData.int)
  | [] => .nil
  | n :: ns => .cons (.int n) (dp_ints ns)
theorem fl_ints {ns : List Int} (h : ∀ n ∈ ns, n.natAbs.log2 < 1900) : ∀ d ∈ ns.map PyData.int, Fl d := fun d hd => by
  obtain ⟨n, hn, rfl⟩ := List.mem_map.mp hd
  exact .inr ⟨n, rfl, h n hn⟩
theorem small_log {n : Int} (h0 : -1000000 ≤ n) (h : n ≤ 1000000) : n.natAbs.log2 < 1900 := by
  have := PySem.Flt.log2_lt_of (n := n.natAbs) (k := 64) (by decide) (by omega)
  omega
end
/-- a comprehension over enumerate of a list that stands still -/
theorem lc_enum {K : PySem.W.Frag} {a : Addr} {xs : List V} {g : TG} {tt : TT} {te : TE} {vs : List Nat} {σ : L2.St} {H1 : Hp} {D : Addr} {Qd : Hp → Prop}
    (Pv : Nat → Hp → Prop) (h0 : Pv 0 (upd H1 D (.lst [])))
    (hl : ∀ i H, Pv i H → SqL K H a xs)
    (hs : ∀ i x T H, xs[i]? = some x → Pv i H → H T = none →
      g (.ref T) (wipe σ vs) (upd H T (.tup [.int (i : Nat), x])) fun σ2 H2 =>
        wipe σ2 vs = wipe σ vs ∧ tt σ2 H2 fun b H3 =>
          if b = true then te σ2 H3 fun y H4 =>
            ∃ acc, H4 D = some (.lst acc) ∧ acc.length < sizeLine ∧ Pv (i + 1) (upd H4 D (.lst (acc ++ [y])))
          else Pv (i + 1) H3)
    (hd : ∀ H, Pv xs.length H → Qd H) :
    ∃ W : Nat → Nat → Hp → Prop, (∃ m, W 0 m (upd H1 D (.lst []))) ∧ ∀ i m H, W i m H →
      ((Ite K a).stop i H ∧ Qd H) ∨
      ((Ite K a).go i H ∧ ∃ Nx : Hp → Prop, (∀ H', Nx H' → ∃ m', m' < m ∧ W (i + 1) m' H') ∧ ∀ x H', (Ite K a).yld i H x H' →
        g x (wipe σ vs) H' fun σ2 H2 =>
          wipe σ2 vs = wipe σ vs ∧ tt σ2 H2 fun b H3 =>
            if b = true then te σ2 H3 fun y H4 =>
              ∃ acc, H4 D = some (.lst acc) ∧ acc.length < sizeLine ∧ Nx (upd H4 D (.lst (acc ++ [y])))
            else Nx H3) := by
  refine ⟨fun i m H => i + m = xs.length ∧ Pv i H, ⟨xs.length, by omega, h0⟩, fun i m H ⟨e, p⟩ => ?_⟩
  have q := hl i H p
  by_cases hi : i < xs.length
  · refine .inr ⟨⟨xs, xs[i], q, List.getElem?_eq_getElem hi⟩, Pv (i + 1), fun H' p' => ⟨m - 1, by omega, by omega, p'⟩, ?_⟩
    rintro x H' ⟨T, y, rfl, hT, rfl, hy⟩
    exact hs i y T H (hy xs q) p hT
  · have : i = xs.length := by omega
    subst this
    exact .inl ⟨⟨xs, q, Nat.le_refl _⟩, hd H p⟩
theorem sel_zero (f : Nat → Bool) : sel 0 f = [] := rfl
theorem sel_succ (n : Nat) (f : Nat → Bool) : sel (n + 1) f = sel n f ++ (if f n = true then [(n : Int)] else []) := by
  unfold sel
  rw [List.range_succ, List.filter_append, List.map_append]
  congr 1
  by_cases h : f n = true
  · rw [if_pos h, List.filter_cons_of_pos h]; rfl
  · rw [if_neg h, List.filter_cons_of_neg h]; rfl
theorem sel_len (n : Nat) (f : Nat → Bool) : (sel n f).length ≤ n := by
  unfold sel
  rw [List.length_map]
  exact Nat.le_trans (List.length_filter_le _ _) (Nat.le_of_eq List.length_range)
theorem sel_bound {n : Nat} {f : Nat → Bool} {c : Int} (h : c ∈ sel n f) : 0 ≤ c ∧ c < n := by
  obtain ⟨i, rfl, h1, _⟩ := sel_mem.mp h
  omega
end Sx
namespace Sx
open PySem PySem.Spec
open PyProof.Rows L2
section
variable {P : Program} {w : World} {K : PySem.W.Frag} {mg : Str → Option Value} {base : Heap}
theorem tyT {K : PySem.W.Frag} {H : Hp} {a : Addr} {xs : List V} (h : SqT K H a xs) : TyX K H (.ref a) (.type "tuple") := by
  rcases h with (h | ⟨o, h⟩) | h
  · exact .base (.tup h)
  · exact .fTuple h
  · obtain ⟨o, its, n, h1, h2, _⟩ := h
    exact .kTuple h1 h2
def ov : Option Nat → V
  | none => .non
  | some i => .int i
theorem p4000 {n : Nat} (h : n < 2 ^ 200) : n < 2 ^ 4000 := Nat.lt_of_lt_of_le h (Nat.pow_le_pow_right (show 0 < 2 by decide) (show 200 ≤ 4000 by decide))
/-- the state of the draws, m: the most draws so far -/
def Tub (H : Hp) (t : Addr) (m : Int) : Prop := ∃ x0 x1 x2 : Int, H t = some (.lst [.int x0, .int x1, .int x2]) ∧ 0 ≤ x1 ∧ x1 < 10 ^ 40 ∧ 0 ≤ x2 ∧ x2 ≤ m
theorem Tub.ex {H H' : Hp} {t : Addr} {m : Int} (T : Tub H t m) (e : Ex H H') : Tub H' t m := by
  obtain ⟨x0, x1, x2, h, r⟩ := T
  exact ⟨x0, x1, x2, e _ _ h, r⟩
theorem Tub.le {H : Hp} {t : Addr} {m n : Int} (T : Tub H t m) (h : m ≤ n) : Tub H t n := by
  obtain ⟨x0, x1, x2, h1, h2, h3, h4, h5⟩ := T
  exact ⟨x0, x1, x2, h1, h2, h3, h4, by omega⟩
theorem Tub.exB {H H' : Hp} {t b : Addr} {m : Int} (T : Tub H t m) (e : ExB b H H') (n : t ≠ b) : Tub H' t m := by
  obtain ⟨x0, x1, x2, h, r⟩ := T
  exact ⟨x0, x1, x2, e _ _ n h, r⟩
theorem Tub.get {H : Hp} {t : Addr} {m : Int} (T : Tub H t m) : ∃ xs, H t = some (.lst xs) := by
  obtain ⟨x0, x1, x2, h, r⟩ := T
  exact ⟨_, h⟩
theorem cut_drop (xs : List V) (k : Nat) : cutV xs (some (k : Int)) none = xs.drop k := by
  unfold cutV
  rw [HT.sIx_nat, HT.sIx_none]
  by_cases h : k ≤ xs.length
  · rw [Nat.min_eq_left h]
    exact List.take_of_length_le (by rw [List.length_drop]; exact Nat.le_refl _)
  · rw [Nat.min_eq_right (by omega), Nat.sub_self, List.take_zero, List.drop_of_length_le (by omega)]
theorem cut_take (xs : List V) (k : Nat) : cutV xs none (some (k : Int)) = xs.take k := by
  unfold cutV
  rw [HT.sIx_nat, HT.sIx_none, List.drop_zero, Nat.sub_zero]
  by_cases h : k ≤ xs.length
  · rw [Nat.min_eq_left h]
  · rw [Nat.min_eq_right (by omega), List.take_length, List.take_of_length_le (by omega)]
theorem at3 {x y z lo hi r : Int} (r0 : 0 ≤ r) (r1 : r < 3) (hx : lo ≤ x ∧ x ≤ hi) (hy : lo ≤ y ∧ y ≤ hi) (hz : lo ≤ z ∧ z ≤ hi) :
    ∃ v : Int, atI [V.int x, V.int y, V.int z] r = some (.int v) ∧ lo ≤ v ∧ v ≤ hi := by
  rcases (show r = 0 ∨ r = 1 ∨ r = 2 by omega) with e | e | e <;> subst e
  · exact ⟨x, rfl, hx⟩
  · exact ⟨y, rfl, hy⟩
  · exact ⟨z, rfl, hz⟩
theorem at7 {x1 x2 x3 x4 x5 x6 x7 hi r : Int} (r0 : 0 ≤ r) (r1 : r < 7) (h1 : 0 ≤ x1 ∧ x1 ≤ hi) (h2 : 0 ≤ x2 ∧ x2 ≤ hi) (h3 : 0 ≤ x3 ∧ x3 ≤ hi) (h4 : 0 ≤ x4 ∧ x4 ≤ hi) (h5 : 0 ≤ x5 ∧ x5 ≤ hi) (h6 : 0 ≤ x6 ∧ x6 ≤ hi) (h7 : 0 ≤ x7 ∧ x7 ≤ hi) :
    ∃ v : Int, atI [V.int x1, V.int x2, V.int x3, V.int x4, V.int x5, V.int x6, V.int x7] r = some (.int v) ∧ 0 ≤ v ∧ v ≤ hi := by
  rcases (show r = 0 ∨ r = 1 ∨ r = 2 ∨ r = 3 ∨ r = 4 ∨ r = 5 ∨ r = 6 by omega) with e | e | e | e | e | e | e <;> subst e
  · exact ⟨x1, rfl, h1⟩
  · exact ⟨x2, rfl, h2⟩
  · exact ⟨x3, rfl, h3⟩
  · exact ⟨x4, rfl, h4⟩
  · exact ⟨x5, rfl, h5⟩
  · exact ⟨x6, rfl, h6⟩
  · exact ⟨x7, rfl, h7⟩
theorem min_in {a b lo hi : Int} (h1 : lo ≤ a) (h2 : lo ≤ b) (h : a ≤ hi) : lo ≤ (if b < a then b else a) ∧ (if b < a then b else a) ≤ hi := by
  split <;> omega
theorem p1000 {n : Int} (h : n ≤ 1000000) : n < 2 ^ 1000 := by
  refine Int.lt_of_lt_of_le (show n < 2 ^ 64 by omega) ?_
  have e1 : (2 : Int) ^ 64 = ((2 ^ 64 : Nat) : Int) := by decide
  have e2 : (2 : Int) ^ 1000 = ((2 ^ 1000 : Nat) : Int) := by norm_cast
  rw [e1, e2]
  exact Int.ofNat_le.mpr (Nat.pow_le_pow_right (by decide) (by decide))
theorem slA_drop {H : Hp} {c : Addr} {xs : List V} {k : Nat} {Q : VK} (hS : SqT K H c xs) (q : ∀ a' H', Ex H H' → SqT K H' a' (xs.drop k) → Q (.ref a') H') : rSlA K (.ref c) (some (k : Int)) none H Q := by
  refine ⟨c, xs, rfl, hS, fun hw => ?_, fun _ p hp => q p _ (Evl.Ex.new hp) (SqT.of (by rw [upd_same, cut_drop]))⟩
  have e : xs.drop k = xs := by
    have h := hw.1
    rw [HT.sIx_nat] at h
    rcases Nat.min_eq_zero_iff.mp h with e | e
    · rw [e]; rfl
    · rw [List.length_eq_zero_iff.mp e]; exact List.drop_nil
  exact q c H (Evl.Ex.refl H) (by rw [e]; exact hS)
theorem slA_take {H : Hp} {c : Addr} {xs : List V} {k : Nat} {Q : VK} (hS : SqT K H c xs) (q : ∀ a' H', Ex H H' → SqT K H' a' (xs.take k) → Q (.ref a') H') : rSlA K (.ref c) none (some (k : Int)) H Q := by
  refine ⟨c, xs, rfl, hS, fun hw => ?_, fun _ p hp => q p _ (Evl.Ex.new hp) (SqT.of (by rw [upd_same, cut_take]))⟩
  have e : xs.take k = xs := by
    have h := hw.2
    rw [HT.sIx_nat] at h
    exact List.take_of_length_le (by omega)
  exact q c H (Evl.Ex.refl H) (by rw [e]; exact hS)
theorem catA {H : Hp} {a b : Addr} {xs ys : List V} {Q : VK} (h1 : SqT K H a xs) (h2 : SqT K H b ys) (hz : xs.length + ys.length ≤ 1000) (q : ∀ p H', Ex H H' → SqT K H' p (xs ++ ys) → Q (.ref p) H') : rCatA K (.ref a) (.ref b) H Q := by
  refine ⟨a, b, xs, ys, rfl, rfl, h1, h2, Nat.le_of_lt (small1000 hz), fun e => ?_, fun _ e => ?_, fun _ _ p hp => q p _ (Evl.Ex.new hp) (SqT.of upd_same)⟩
  · subst e
    exact q b H (Evl.Ex.refl H) h2
  · subst e
    exact q a H (Evl.Ex.refl H) (by rw [List.append_nil]; exact h1)

/-- a row of n entries with its roots -/
def Node (K : PySem.W.Frag) (H : Hp) (n : Nat) (v : V) : Prop := ∃ a b c, ∃ xs ts : List Int, v = .ref a ∧ SqT K H a [.ref b, .ref c] ∧ SqT K H b (xs.map V.int) ∧ SqT K H c (ts.map V.int) ∧ Gro xs ts ∧ xs.length = n
theorem Node.ex {H H' : Hp} {n : Nat} {v : V} (e : Ex H H') (h : Node K H n v) : Node K H' n v := by
  obtain ⟨a, b, c, xs, ts, h1, h2, h3, h4, h5⟩ := h
  exact ⟨a, b, c, xs, ts, h1, Evl.ex_t e h2, Evl.ex_t e h3, Evl.ex_t e h4, h5⟩
theorem Node.exB {H H' : Hp} {n : Nat} {v : V} {t : Addr} {ys : List V} (e : ExB t H H') (ht : H t = some (.lst ys)) (h : Node K H n v) : Node K H' n v := by
  obtain ⟨a, b, c, xs, ts, h1, h2, h3, h4, h5⟩ := h
  exact ⟨a, b, c, xs, ts, h1, e.tup ht h2, e.tup ht h3, e.tup ht h4, h5⟩
/-- a row of n entries -/
def Row1 (K : PySem.W.Frag) (H : Hp) (n : Nat) (v : V) : Prop := ∃ a, ∃ xs : List Int, v = .ref a ∧ SqT K H a (xs.map V.int) ∧ Lam xs ∧ xs.length = n
theorem Row1.ex {H H' : Hp} {n : Nat} {v : V} (e : Ex H H') (h : Row1 K H n v) : Row1 K H' n v := by
  obtain ⟨a, xs, h1, h2, h3⟩ := h
  exact ⟨a, xs, h1, Evl.ex_t e h2, h3⟩
def pd : Option Nat → PyData
  | none => .none
  | some i => .int i
theorem dp_ov {H : Hp} (f : Nat → Option Nat) : ∀ l : List Nat, DpAll K H (l.map fun i => ov (f i)) (l.map fun i => pd (f i))
  | [] => .nil
  | i :: l => by
    refine .cons ?_ (dp_ov f l)
    show Dp K H (ov (f i)) (pd (f i))
    cases f i with
    | none => exact .non
    | some j => exact .int _
theorem fl_ov {xs : List Int} (hz : xs.length ≤ 100) (l : List Nat) : ∀ d ∈ l.map (fun i => pd (par xs i)), Fl d := fun d hd => by
  obtain ⟨i, _, rfl⟩ := List.mem_map.mp hd
  cases e : par xs i with
  | none => exact .inl rfl
  | some j =>
    have := (par_some.mp e).2.1
    exact .inr ⟨j, rfl, small_log (by omega) (by omega)⟩
theorem fl_sel {n : Nat} (hz : n ≤ 100) (f : Nat → Bool) : ∀ d ∈ (sel n f).map PyData.int, Fl d := fl_ints fun c hc => by
  have := sel_bound hc
  exact small_log (by omega) (by omega)
theorem ones (n : Nat) : Lam (List.replicate n 1) := by
  have hg : ∀ i, i < (List.replicate n (1 : Int)).length → g (List.replicate n 1) i = 1 := fun i h => by
    rw [List.length_replicate] at h
    unfold g
    rw [List.getD_eq_getElem?_getD, List.getElem?_replicate, if_pos h]; rfl
  refine ⟨fun p h => by rw [hg p h]; decide, fun p h => by rw [hg p h]; omega, fun p j h h1 h2 => ?_⟩
  unfold fc at h1 ⊢
  rw [hg p h] at h1 ⊢
  rw [hg j (by omega)]
  omega
def stairs (n : Nat) : List Int := (List.range n).map fun i => (1 : Int) + (i : Nat)
theorem stairs_g {n i : Nat} (h : i < n) : g (stairs n) i = 1 + i := by
  unfold g stairs
  rw [List.getD_eq_getElem?_getD, List.getElem?_map, List.getElem?_range h]; rfl
theorem stairs_len (n : Nat) : (stairs n).length = n := by unfold stairs; rw [List.length_map, List.length_range]
theorem stairs_lam (n : Nat) : Lam (stairs n) := by
  refine ⟨fun p h => ?_, fun p h => ?_, fun p j h h1 h2 => ?_⟩
  all_goals rw [stairs_len] at h
  · rw [stairs_g h]; omega
  · rw [stairs_g h]; omega
  · unfold fc
    rw [stairs_g h, stairs_g (by omega)]; omega
theorem sel_ones : (sel 100 fun c => decide (par (List.replicate 100 1) c = none)) = (List.range 100).map fun i => (0 : Int) + (i : Nat) := by decide +kernel
theorem sel_stairs : (sel 100 fun c => decide (par (stairs 100) c = none)) = [99] := by decide +kernel
end
end Sx

set_option Elab.async false
set_option linter.all false
set_option maxRecDepth 100000
namespace PySem
open Builtin
open AutoSeq1 (wpAny_loadPart')
/-! enumerate of a tuple -/
section
variable {prog : Program} {w : World} {A : Around} {E : Value → Shared → Prop} {s : Shared}
theorem sx_next_item {j u : Addr} {i : Nat} {us : Array Value} {y : Value} {Q : Value → Shared → Prop} (hj : s.heap.IsTupleIter j u i) (hu : s.heap.IsTuple u us) (hy : us[i]? = some y)
    (k : ∀ h', h'.IsTupleIter j u (i + 1) → Heap.SameBut j s.heap h' → Q y { s with heap := h' }) : wpAny (model prog w) A (Builtin.SmallTypes.nextOf (.ref j)) Q E s := by
  obtain ⟨o, ho, hc, hd⟩ := id hj
  obtain ⟨ou, hou, _, nu, hdu⟩ := hu
  unfold Builtin.SmallTypes.nextOf
  refine wpAny_bind (wpAny_callSpecial?_slot (name := Str.ofString "__next__") hj.typeIs F.slot_tuple_iterator_next (wpAny_call_entry F.slot_tuple_iterator_next hj.typeIs F.entry_tuple_iterator_next ?_ (F.args_tuple_iterator_next_1 _)))
  show wpAny _ _ (field (.ref j) 0 >>= _) _ _ s
  refine wpAny_bind (wpAny_field ho hd (x := .ref u) rfl ?_)
  show wpAny _ _ (if (Value.ref u == Value.none) = true then _ else _) _ _ s
  rw [if_neg (show ¬ ((Value.ref u == Value.none) = true) from Bool.false_ne_true)]
  show wpAny _ _ (field (.ref j) 1 >>= _) _ _ s
  refine wpAny_bind (wpAny_field ho hd (x := .int i 0) rfl (show wpAny _ _ (seqItems? (.ref u) >>= _) _ _ s from wpAny_bind (wpAny_seqItems hou hdu ?_)))
  simp only [Int.toNat_natCast, hy]
  refine wpAny_bind (wpAny_setField ho hd (by simp) (wpAny_pure ⟨y, rfl, wpAny_pure (k _ ⟨_, Heap.get?_update_self _ ho (Obj.isFreed_of_fields (Obj.data_mapFields hd _)), (Obj.cls_mapFields ..).trans hc, ?_⟩ (Heap.SameBut.update ..))⟩))
  rw [Obj.data_mapFields hd]
  simp [rawInt]
theorem sx_next_end {j u : Addr} {i : Nat} {us : Array Value} {Q : Value → Shared → Prop} (hh : A.handled = none) (hj : s.heap.IsTupleIter j u i) (hu : s.heap.IsTuple u us) (hy : us[i]? = none)
    (k : ∀ h' e, Heap.ExtBut j s.heap h' → (∃ o, h'.get? e = some o ∧ o.cls = .type "StopIteration") → E (.ref e) { s with heap := h' }) : wpAny (model prog w) A (Builtin.SmallTypes.nextOf (.ref j)) Q E s := by
  obtain ⟨o, ho, hc, hd⟩ := id hj
  obtain ⟨ou, hou, _, nu, hdu⟩ := hu
  unfold Builtin.SmallTypes.nextOf
  refine wpAny_bind (wpAny_callSpecial?_slot (name := Str.ofString "__next__") hj.typeIs F.slot_tuple_iterator_next (wpAny_call_entry F.slot_tuple_iterator_next hj.typeIs F.entry_tuple_iterator_next ?_ (F.args_tuple_iterator_next_1 _)))
  show wpAny _ _ (field (.ref j) 0 >>= _) _ _ s
  refine wpAny_bind (wpAny_field ho hd (x := .ref u) rfl ?_)
  show wpAny _ _ (if (Value.ref u == Value.none) = true then _ else _) _ _ s
  rw [if_neg (show ¬ ((Value.ref u == Value.none) = true) from Bool.false_ne_true)]
  show wpAny _ _ (field (.ref j) 1 >>= _) _ _ s
  refine wpAny_bind (wpAny_field ho hd (x := .int i 0) rfl (show wpAny _ _ (seqItems? (.ref u) >>= _) _ _ s from wpAny_bind (wpAny_seqItems hou hdu ?_)))
  simp only [Int.toNat_natCast, hy]
  refine wpAny_bind (wpAny_rule (wpAny_bind (wpAny_setField ho hd (by simp) (show wpAny _ _ (newExc (.type "StopIteration") [] >>= _) _ _ _ from wpAny_bind ?_))))
  simp only [newExc, newTuple]
  refine wpAny_bind (wpAny_newObj_type (wpAny_bind (m := firstArgMember _ _) (wpAny_of_eq (a := Value.none) (by first | rfl | (simp only [firstArgMember]; rfl)) (wpAny_newObj_type ?_ (by size_fits)))) (by size_fits))
  simp only [raiseNew]
  refine wpAny_bind (wpAny_handled ?_)
  first | rw [show A.in1.handled = none from hh] | rw [hh]
  exact wpAny_bind (wpAny_pure (wpAny_throw (k _ _ (((Heap.SameBut.update ..).extBut.push _).push _) ⟨_, Heap.get?_push_size _ rfl, rfl⟩)))
theorem sx_draws (hh : A.handled = none) (j u : Addr) (hne : u ≠ j) (us : Array Value) :
    Draws prog w A j [j, u] us.size (fun i v => us[i]? = some v) (fun i h => h.IsTupleIter j u i ∧ h.IsTuple u us) where
  live := fun _ _ st => by
    obtain ⟨o, ho, _⟩ := st.1
    exact ⟨o, ho⟩
  frame := fun _ _ _ st hk => ⟨st.1.at fun o e => hk j (List.mem_cons_self ..) o e, st.2.at fun o e => hk u (List.mem_cons_of_mem _ (List.mem_cons_self ..)) o e⟩
  item := fun i s Q E hi st hQ => sx_next_item st.1 st.2 (y := us[i]) (Array.getElem?_eq_getElem hi) fun h' hit' hs' => hQ _ h' s.toks (Array.getElem?_eq_getElem hi) ⟨hit', st.2.extBut hs'.extBut hne⟩ hs'
  done := fun s Q E st hE => sx_next_end hh st.1 st.2 (by simp) hE
theorem sx_enum_new (u : Addr) (us : Array Value) (n : Nat) (dct : Option Addr) (sl : Array (Option Value)) :
    Meets (Builtin.«enumerate.__new__» ⟨[.type "enumerate", .ref u], []⟩) (fun _ R s => s.heap.get? u = some { cls := .type "tuple", dict := dct, data := .seq us n, slots := sl } ∧
      R (.ok (.ret (.ref (s.heap.push { cls := .type "tuple_iterator", data := .fields #[.ref u, .int 0 0] }).objs.size)))
        { s with heap := (s.heap.push { cls := .type "tuple_iterator", data := .fields #[.ref u, .int 0 0] }).push { cls := .type "enumerate", data := .fields #[.none, .bool false, .ref s.heap.objs.size, rawInt 0, .none, .none] } }) :=
  .of_wp fun prog w A R s h => by
    obtain ⟨hp, gg, d, tk, os⟩ := s
    obtain ⟨hl, h⟩ := h
    have hsub := sub_enumerate
    have hL : Heap.IsTuple (Shared.heap ⟨hp, gg, d, tk, os⟩) u us := ⟨_, hl, rfl, n, rfl⟩
    wp_walk using wpAny_loadPart' hl
    refine wpAny_stack_any fun st => wpAny_pure ?_
    split
    · rename_i c _ _ _ _ _
      cases (c == Value.type "enumerate") <;> (wp_walk using wpAny_loadPart' hl, wpAny_pyIter_tuple hL; exact ⟨_, rfl, h⟩)
    · wp_walk using wpAny_loadPart' hl, wpAny_pyIter_tuple hL
      exact ⟨_, rfl, h⟩
theorem sx_call_enum {u : Addr} {us : Array Value} {Q : Value → Shared → Prop} (hL : s.heap.IsTuple u us)
    (h : ∀ h', IsEnum h' (s.heap.objs.size + 1) s.heap.objs.size 0 .none → h'.IsTupleIter s.heap.objs.size u 0 → (∀ b o, s.heap.get? b = some o → h'.get? b = some o) → Q (.ref (s.heap.objs.size + 1)) { s with heap := h' }) :
    wpAny (model prog w) A (call (.type "enumerate") [.ref u]) Q E s := by
  obtain ⟨⟨c, dct, dt, sl⟩, hl, hc, n, hd⟩ := hL
  replace hc : c = .type "tuple" := hc
  replace hd : dt = .seq us n := hd
  subst hc hd
  refine callType_new F.called_enumerate (by decide) (F.typeCall_enumerate_1 _) (F.newCall_enumerate_1 _) (fun obj => F.args_object_init_2 obj _) F.entry_enumerate_new (sx_enum_new u us n dct sl) ⟨hl, ?_⟩
  have hz : (s.heap.push { cls := .type "tuple_iterator", data := .fields #[.ref u, .int 0 0] }).objs.size = s.heap.objs.size + 1 := Heap.size_push ..
  show _ ∧ _
  rw [hz]
  have he : IsEnum ((s.heap.push { cls := .type "tuple_iterator", data := .fields #[.ref u, .int 0 0] }).push { cls := .type "enumerate", data := .fields #[.none, .bool false, .ref s.heap.objs.size, rawInt 0, .none, .none] }) (s.heap.objs.size + 1) s.heap.objs.size 0 .none := by
    have z := Heap.get?_push_size (s.heap.push { cls := .type "tuple_iterator", data := .fields #[.ref u, .int 0 0] }) (o := { cls := .type "enumerate", data := .fields #[.none, .bool false, .ref s.heap.objs.size, rawInt 0, .none, .none] }) rfl
    rw [hz] at z
    exact z
  exact ⟨⟨_, he, rfl⟩, h _ he ⟨_, Heap.get?_push_of_some _ (Heap.get?_push_size _ rfl), rfl, rfl⟩ fun b o x => Heap.get?_push_of_some _ (Heap.get?_push_of_some _ x)⟩
end
end PySem
namespace Sx
open PySem PySem.Spec
open PyProof.Rows L2
/-- what enumerate of the tuple at a yields -/
def ItE (K : PySem.W.Frag) (a : Addr) : It :=
  ⟨fun i H => ∃ (xs : List V) (x : V), SqT K H a xs ∧ xs[i]? = some x,
   fun i H v H' => ∃ T x, v = .ref T ∧ H T = none ∧ H' = upd H T (.tup [.int (i : Nat), x]) ∧ ∀ xs, SqT K H a xs → xs[i]? = some x,
   fun i H => ∃ xs : List V, SqT K H a xs ∧ xs.length ≤ i⟩
theorem turn_enumT {P : Program} {w : World} {K : PySem.W.Frag} {elts : List Expr} {kk : Nat} {tpos : Pos} (a e it : Addr) :
    Turn P w K (.Tuple elts kk tpos) (ItE K a) [e, it] e (fun i h => (∃ old, IsEnum h e it ((i : Nat) : Int) old) ∧ h.IsTupleIter it a i ∧ e ≠ it) where
  mem := List.mem_cons_self ..
  obj := fun i h st b hb => by
    obtain ⟨⟨old, he⟩, ⟨o, ho, hc, hd⟩, _⟩ := st
    rcases List.mem_cons.mp hb with z | z
    · rw [z]; exact ⟨_, he, fun v q => nomatch q⟩
    · rw [List.mem_singleton.mp z]; exact ⟨o, ho, fun v q => by rw [hd] at q; cases q⟩
  keep := fun i h h' st k => by
    obtain ⟨⟨old, he⟩, hi, hne⟩ := st
    exact ⟨⟨old, k e (List.mem_cons_self ..) _ he⟩, hi.at fun o q => k it (List.mem_cons_of_mem _ (List.mem_cons_self ..)) o q, hne⟩
  item := by
    intro X hP hw hK hc i pins s σ H E I hf st hg
    subst hP hw hK
    obtain ⟨⟨old, he⟩, hit, hne⟩ := st
    obtain ⟨xs, x, hq, hx⟩ := hg
    obtain ⟨its, rv, p, hz⟩ := I.tuple hq
    obtain ⟨u, hu, ru⟩ := rv.get hx
    have hel : e < s.heap.objs.size := Heap.lt_size he
    have hil : it < s.heap.objs.size := by obtain ⟨_, q, _⟩ := hit; exact Heap.lt_size q
    have hal : a < s.heap.objs.size := p.lt
    have hi : i < its.toArray.size := by
      have := (List.getElem?_eq_some_iff.mp hu).1
      rwa [List.size_toArray]
    have hai : a ≠ it := by
      obtain ⟨o, q, c, _⟩ := hit
      obtain ⟨o', q', c', _⟩ := p
      intro z
      subst z
      rw [q] at q'
      cases q'
      rw [c] at c'
      exact absurd (Value.type.inj c') (by decide)
    have hea : e ≠ a := by
      obtain ⟨o', q', c', _⟩ := p
      intro z
      subst z
      rw [he] at q'
      cases q'
      exact absurd (Value.type.inj c') (by decide)
    have hef : e ∉ [it, a] := fun z => by
      rcases List.mem_cons.mp z with z | z
      · exact hne z
      · exact hea (List.mem_singleton.mp z)
    refine wpAny_pyNext_enum_itemD (sx_draws (A := X.A.in1) (I.ok.hd hc) it a hai its.toArray) he ⟨hit, p⟩ hi hne hef fun y h' tk hP ho hst hT hsz hk => ?_
    have ey : y = u := by
      have h1 : its.toArray[i]? = some y := hP
      rw [List.getElem?_toArray, hu] at h1
      exact (Option.some.inj h1).symm
    subst ey
    refine ⟨_, rfl, wpAny_letOwnedTupleGo_enum (s := { s with heap := h', toks := tk + 1 }) ho fun h'' he' sb => ?_⟩
    have hT2 := (sb.2 _ (Nat.ne_of_gt hel)).trans hT
    have new : ObjOk X.prog X.w (upd H s.heap.objs.size (.tup [.int (i : Nat), x])) h'' s.heap.objs.size (.tup [.int (i : Nat), x]) :=
      ⟨by show 2 ≤ sizeLine; decide, [.int i tk, y], .cons ⟨_, rfl⟩ (.cons ru .nil), ⟨_, hT2, rfl, _, rfl⟩⟩
    have I1 : Inv X pins σ (upd H s.heap.objs.size (.tup [.int (i : Nat), x])) { s with heap := h'', toks := tk + 1 } :=
      I.turnedNew (ch := [e, it]) (fun b ob hb q => (sb.2 b fun z => hb (by simp [z])).trans (hk b ob (fun z => hb (by simp [z])) (fun z => hb (by simp [z])) q)) hf (Nat.le_refl _) new
    refine ⟨.ref s.heap.objs.size, _, I1, rfl, ⟨_, x, rfl, I.hok.fresh (Nat.le_refl _), rfl, fun ys hy => ?_⟩, ⟨⟨y, ?_⟩, hst.1.at fun o q => (sb.2 it (Ne.symm hne)).trans q, hne⟩, fun b hb => ?_⟩
    · rw [I.tuple_inj hy hq]; exact hx
    · rw [show ((i + 1 : Nat) : Int) = (i : Int) + 1 by omega]
      exact he'
    · have hb' : b < s.heap.objs.size := by
        rcases List.mem_cons.mp hb with z | z
        · rw [z]; exact hel
        · rw [List.mem_singleton.mp z]; exact hil
      rw [upd_ne (Nat.ne_of_lt hb')]
      exact (hf b hb).1
  done := by
    intro X hP hw hK hc i pins s σ H E I hf st hg
    subst hP hw hK
    obtain ⟨⟨old, he⟩, hit, hne⟩ := st
    obtain ⟨xs, hq, hx⟩ := hg
    obtain ⟨its, rv, p, hz⟩ := I.tuple hq
    obtain ⟨f0, f1, f2, f3, f4, f5⟩ := hf it (List.mem_cons_of_mem _ (List.mem_cons_self ..))
    have hl := rv.length
    have hai : a ≠ it := by
      obtain ⟨o, q, c, _⟩ := hit
      obtain ⟨o', q', c', _⟩ := p
      intro z
      subst z
      rw [q] at q'
      cases q'
      rw [c] at c'
      exact absurd (Value.type.inj c') (by decide)
    have Dn : Draws X.prog X.w X.A.in1 it [it, a] i (fun _ _ => True) (fun k h => k = i ∧ h.IsTupleIter it a k ∧ h.IsTuple a its.toArray) :=
      ⟨fun _ _ st => by obtain ⟨_, ⟨o, ho, _⟩, _⟩ := st; exact ⟨o, ho⟩,
       fun _ _ _ st hk => ⟨st.1, st.2.1.at fun o e => hk it (List.mem_cons_self ..) o e, st.2.2.at fun o e => hk a (List.mem_cons_of_mem _ (List.mem_cons_self ..)) o e⟩,
       fun k s Q E hi st hQ => absurd hi (by rw [st.1]; exact Nat.lt_irrefl _),
       fun s Q E st hE => sx_next_end (I.ok.hd hc) st.2.1 st.2.2 (by simp; omega) hE⟩
    exact wpAny_pyNext_enum_endD Dn he ⟨rfl, hit, p⟩ fun h' eb => ⟨rfl, I.turned (t' := s.toks) (fun b o hb q => eb b o hb q) f0 f1 f3 f4 f5⟩
  self := fun A i s Q E st h => by
    obtain ⟨⟨_, he⟩, _⟩ := st
    exact wpAny_pyIter_enum he h
def iEnumT (K : PySem.W.Frag) (ta : TA) : TI := fun σ H R => ta σ H fun vs H1 => ∃ a xs, vs = [.ref a] ∧ SqT K H1 a xs ∧ R (ItE K a) H1
theorem pi_enumT {X : Cx} {e : Expr} {ta : TA} {p pos tpos : Pos} {elts : List Expr} {kk : Nat} (hg : Gl X "enumerate") (hm : X.mg "enumerate" = none) (ha : PA X [e] ta) (hs : starEach [e] X.env = [(false, eval e X.env)] := by rfl) :
    PI X (.Tuple elts kk tpos) (.Call (.Name "enumerate" p) [e] [] pos) (iEnumT X.K ta) := by
  refine ⟨fun pins s σ H R I h => Call_ (ld_blt I hg hm boot_enumerate (PyProof.Rows.callWith_type1 (thn (ha.run pos pins s σ H _ I h) fun us s1 ⟨vs, H1, I1, r1, q1⟩ => ?_) hs rfl))⟩
  obtain ⟨a, xs, rfl, hq, q⟩ := q1
  rw [Vals.ref1 r1]
  obtain ⟨its, rv, p', hz⟩ := I1.tuple hq
  refine sx_call_enum p' fun h' he hit hk => wpAny_pyIter_enum he ?_
  refine ⟨s1.heap.objs.size + 1, [s1.heap.objs.size + 1, s1.heap.objs.size], _, _, H1, rfl, I1.kept (t' := s1.toks) hk, turn_enumT a (s1.heap.objs.size + 1) s1.heap.objs.size, ⟨⟨.none, he⟩, hit, Nat.succ_ne_self _⟩, fun b hb => ?_, q⟩
  have hle : s1.heap.objs.size ≤ b := by
    rcases List.mem_cons.mp hb with z | z
    · rw [z]; exact Nat.le_succ _
    · rw [List.mem_singleton.mp z]; exact Nat.le_refl _
  exact I1.fpOk hle (I1.hok.fresh hle)
/-- the loop over it -/
theorem for_enumT {K : PySem.W.Frag} {a : Addr} {xs : List V} {g : TG} {tb : TS} {D : Ends} {σ : L2.St} {H : Hp} (Pv : Nat → L2.St → Hp → Prop) (h0 : Pv 0 σ H) (hl : ∀ i σ H, Pv i σ H → SqT K H a xs)
    (hs : ∀ i x T σ H, xs[i]? = some x → Pv i σ H → H T = none →
      g (.ref T) σ (upd H T (.tup [.int (i : Nat), x])) fun σ2 H2 => tb { D with nx := Pv (i + 1), ct := Pv (i + 1), bk := D.nx } σ2 H2)
    (hd : ∀ σ H, Pv xs.length σ H → D.nx σ H) :
    ∃ W : Nat → Nat → L2.St → Hp → Prop, (∃ m, W 0 m σ H) ∧ ∀ i m σ H, W i m σ H →
      ((ItE K a).stop i H ∧ D.nx σ H) ∨
      ((ItE K a).go i H ∧ ∃ N : L2.St → Hp → Prop, (∀ σ' H', N σ' H' → ∃ m', m' < m ∧ W (i + 1) m' σ' H') ∧
        ∀ x H', (ItE K a).yld i H x H' → g x σ H' fun σ2 H2 => tb { D with nx := N, ct := N, bk := D.nx } σ2 H2) := by
  refine ⟨fun i m σ H => i + m = xs.length ∧ Pv i σ H, ⟨xs.length, by omega, h0⟩, fun i m σ H ⟨e, p⟩ => ?_⟩
  have q := hl i σ H p
  by_cases hi : i < xs.length
  · refine .inr ⟨⟨xs, xs[i], q, List.getElem?_eq_getElem hi⟩, Pv (i + 1), fun σ' H' p' => ⟨m - 1, by omega, by omega, p'⟩, ?_⟩
    rintro x H' ⟨T, y, rfl, hT, rfl, hy⟩
    exact hs i y T σ H (hy xs q) p hT
  · have : i = xs.length := by omega
    subst this
    exact .inl ⟨⟨xs, q, Nat.le_refl _⟩, hd σ H p⟩
end Sx
namespace Sx
open PySem PySem.Spec
open PyProof.Rows L2
section
variable {X : Cx}
/-- max, min of a tuple of ints -/
def rBestT (up : Bool) (K : PySem.W.Frag) : List V → Hp → VK → Prop := fun vs H Q =>
  ∃ (a : Addr) (ns : List Int), vs = [V.ref a] ∧ SqT K H a (ns.map V.int) ∧ ns ≠ [] ∧ ∀ m, m ∈ ns → (∀ y, y ∈ ns → if up = true then y ≤ m else m ≤ y) → Q (.int m) H
theorem cr_maxT (hc : X.calm = true) : CallR X (.builtin "max") (rBestT true X.K) := by
  intro pins s σ H vs us Q I r h
  obtain ⟨a, ns, rfl, hs, hne, q⟩ := h
  obtain ⟨its, rv, hl, _⟩ := I.tuple hs
  rw [Vals.ref1 r]
  obtain ⟨xs, e⟩ := rv.ints.allInts.items
  have hn : numsOf (intItems xs).toList = ns := by rw [← e]; exact rv.ints.numsOf
  rw [nums_intItems] at hn
  rw [e] at hl
  subst hn
  have hsz : 0 < xs.size := by
    rcases Nat.eq_zero_or_pos xs.size with z | z
    · exact absurd (by rw [Array.eq_empty_of_size_eq_zero z]; rfl) hne
    · exact z
  have hne2 : a ≠ s.heap.objs.size := Nat.ne_of_lt hl.lt
  refine call_max_walk (wpAny_pyIter_tuple hl ?_)
  refine ⟨_, _, _, _, _, _, _, rfl, Walks.tuple (A := X.A.in1) (I.ok.hd hc) _ a hne2 (intItems xs), ⟨⟨_, Heap.get?_push_size _ rfl, rfl, rfl⟩, hl.keeps fun b o e => Heap.get?_push_of_some _ e⟩, fun b hb => ?_,
    by simpa [intItems] using hsz, CmpOf.ints_gt (numAt xs) (fun _ _ => intItems_at), fun v h' tk hP hk => ?_⟩
  · show b < (s.heap.push _).objs.size
    rw [Heap.size_push]
    rcases List.mem_cons.mp hb with z | z
    · rw [z]; exact Nat.lt_succ_self _
    · rw [List.mem_singleton.mp z]; exact Nat.lt_succ_of_lt hl.lt
  · have hv : (intItems xs)[argBest (fun i j => decide (numAt xs i > numAt xs j)) (xs.size - 1)]? = some v := by simpa [intItems] using hP
    obtain ⟨t, rfl⟩ := intItems_at hv
    obtain ⟨h1, h2⟩ := argBest_gt (numAt xs) (xs.size - 1)
    refine ⟨.int _, H, I.kept (fun b o eo => hk b o (fun hm => ?_) (Heap.get?_push_of_some _ eo)), ⟨_, rfl⟩, q _ ?_ fun y hy => ?_⟩
    · have z := Heap.lt_size eo
      rw [List.mem_singleton] at hm
      rw [hm] at z
      exact Nat.lt_irrefl _ z
    · rw [numAt_eq]
      exact PySem.getD_mem (by rw [List.length_map, Array.length_toList]; omega)
    · rw [if_pos rfl]
      obtain ⟨j, hj, rfl⟩ := mem_getD hy
      rw [List.length_map, Array.length_toList] at hj
      rw [← numAt_eq]
      exact h2 j (by omega)
end
end Sx

set_option Elab.async false
set_option linter.all false
namespace Sx
/-! ### spans of a row, by looking back -/
/-- from f back to behind the last entry that is at least e -/
def bk (xs : List Int) (e : Int) : Nat → Nat
  | 0 => 0
  | f + 1 => if g xs f < e then bk xs e f else f + 1
theorem bk_le (xs : List Int) (e : Int) : ∀ f, bk xs e f ≤ f
  | 0 => Nat.le_refl _
  | f + 1 => by
    unfold bk
    split
    · exact Nat.le_succ_of_le (bk_le xs e f)
    · exact Nat.le_refl _
theorem bk_lt {xs : List Int} {e : Int} : ∀ {f j : Nat}, bk xs e f ≤ j → j < f → g xs j < e
  | 0, _, _, h => absurd h (Nat.not_lt_zero _)
  | f + 1, j, h1, h2 => by
    unfold bk at h1
    split at h1
    · by_cases h : j = f
      · subst h; assumption
      · exact bk_lt h1 (by omega)
    · omega
theorem bk_ge {xs : List Int} {e : Int} : ∀ {f : Nat}, 0 < bk xs e f → e ≤ g xs (bk xs e f - 1)
  | 0, h => absurd h (Nat.lt_irrefl _)
  | f + 1, h => by
    unfold bk at h ⊢
    split at h
    · rename_i hc
      rw [if_pos hc]
      exact bk_ge h
    · rename_i hc
      rw [if_neg hc]
      show e ≤ g xs f
      omega
theorem bk_eq {xs : List Int} {e : Int} {f b : Nat} (h0 : b ≤ f) (h1 : ∀ j, b ≤ j → j < f → g xs j < e) (h2 : 0 < b → e ≤ g xs (b - 1)) : bk xs e f = b := by
  rcases Nat.lt_trichotomy (bk xs e f) b with h | h | h
  · have a := h2 (by omega)
    have := bk_lt (xs := xs) (e := e) (f := f) (j := b - 1) (by omega) (by omega)
    omega
  · exact h
  · have a := bk_ge (xs := xs) (e := e) (f := f) (by omega)
    have := h1 (bk xs e f - 1) (by omega) (by have := bk_le xs e f; omega)
    omega
def spn (xs : List Int) (i : Nat) : Int := (i : Int) - bk xs (g xs i) i + 1
def spans (xs : List Int) : List Int := (List.range xs.length).map (spn xs)
theorem spans_len (xs : List Int) : (spans xs).length = xs.length := by unfold spans; rw [List.length_map, List.length_range]
theorem spans_g {xs : List Int} {i : Nat} (h : i < xs.length) : g (spans xs) i = spn xs i := by
  unfold spans
  show ((List.range xs.length).map (spn xs)).getD i 0 = _
  rw [List.getD_eq_getElem?_getD, List.getElem?_map, List.getElem?_range h]; rfl
theorem spans_fc {xs : List Int} {i : Nat} (h : i < xs.length) : fc (spans xs) i = bk xs (g xs i) i := by
  unfold fc
  rw [spans_g h]
  unfold spn
  omega
theorem spans_lam (xs : List Int) : Lam (spans xs) := by
  refine ⟨fun p h => ?_, fun p h => ?_, fun p j h h1 h2 => ?_⟩
  all_goals rw [spans_len] at h
  · rw [spans_g h]; unfold spn; have := bk_le xs (g xs p) p; omega
  · rw [spans_g h]; unfold spn; omega
  · rw [spans_fc h] at h1 ⊢
    rw [spans_fc (by omega)]
    have hj := bk_lt (xs := xs) (e := g xs p) (f := p) (j := j) (by omega) h2
    by_cases hz : bk xs (g xs p) p = 0
    · omega
    · have a := bk_ge (xs := xs) (e := g xs p) (f := p) (by omega)
      by_cases hb : bk xs (g xs j) j < bk xs (g xs p) p
      · have := bk_lt (xs := xs) (e := g xs j) (f := j) (j := bk xs (g xs p) p - 1) (by omega) (by omega)
        omega
      · omega
/-- the last place of the stretch -/
def lst (xs : List Int) (i : Nat) : Int := match par xs i with
  | none => (xs.length : Int) - 1
  | some b => (b : Int) - 1
theorem lst_in {xs : List Int} {i : Nat} (h : i < xs.length) : (i : Int) ≤ lst xs i ∧ lst xs i < xs.length := by
  unfold lst
  cases e : par xs i with
  | none => constructor <;> simp only <;> omega
  | some b =>
    obtain ⟨h1, h2, _⟩ := par_some.mp e
    constructor <;> simp only <;> omega
theorem lst_free {xs : List Int} {i j : Nat} (h : i < xs.length) (h1 : i < j) (h2 : (j : Int) ≤ lst xs i) : (i : Int) < fc xs j := by
  unfold lst at h2
  cases e : par xs i with
  | none => rw [e] at h2; simp only at h2; exact par_none.mp e j h1 (by omega)
  | some b =>
    rw [e] at h2
    simp only at h2
    exact (par_some.mp e).2.2.2 j h1 (by omega)
/-- in its stretch an entry is the greatest -/
theorem great {xs : List Int} {i : Nat} (h : i < xs.length) : ∀ j : Nat, fc (spans xs) i ≤ (j : Int) → (j : Int) ≤ lst (spans xs) i → g xs j ≤ g xs i := by
  have hs : i < (spans xs).length := by rw [spans_len]; exact h
  have hl := lst_in hs
  rw [spans_len] at hl
  intro j h1 h2
  rw [spans_fc h] at h1
  by_cases hj : j < i
  · exact Int.le_of_lt (bk_lt (f := i) (by omega) hj)
  · by_cases he : j = i
    · rw [he]; exact Int.le_refl _
    · -- the least place behind with a greater entry would cover i
      have key : ∀ n j : Nat, j - i ≤ n → i ≤ j → (j : Int) ≤ lst (spans xs) i → g xs j ≤ g xs i := by
        intro n
        induction n with
        | zero => intro j a b c; have : j = i := by omega
                  rw [this]; exact Int.le_refl _
        | succ n ih =>
          intro j a b c
          by_cases e : j = i
          · rw [e]; exact Int.le_refl _
          · by_cases q : g xs j ≤ g xs i
            · exact q
            · exfalso
              have hf := lst_free hs (show i < j by omega) c
              rw [spans_fc (by omega)] at hf
              have hb := bk_ge (xs := xs) (e := g xs j) (f := j) (by omega)
              have hle := bk_le xs (g xs j) j
              have := ih (bk xs (g xs j) j - 1) (by omega) (by omega) (by omega)
              omega
      exact key (j - i) j (Nat.le_refl _) (by omega) h2
theorem great_behind {xs : List Int} {i : Nat} (h : i < xs.length) (h1 : lst (spans xs) i + 1 < xs.length) : g xs i < g xs (lst (spans xs) i + 1).toNat := by
  unfold lst at h1 ⊢
  cases e : par (spans xs) i with
  | none => rw [e] at h1; simp only at h1; rw [spans_len] at h1; omega
  | some b =>
    simp only
    obtain ⟨g1, g2, g3, _⟩ := par_some.mp e
    rw [spans_len] at g2
    rw [spans_fc g2] at g3
    have : ((b : Int) - 1 + 1).toNat = b := by omega
    rw [this]
    exact bk_lt (f := b) (by omega) g1
theorem great_front {xs : List Int} {i : Nat} (h : i < xs.length) (h1 : 0 < fc (spans xs) i) : g xs i ≤ g xs (fc (spans xs) i - 1).toNat := by
  rw [spans_fc h] at h1 ⊢
  have := bk_ge (xs := xs) (e := g xs i) (f := i) (by omega)
  have e : ((bk xs (g xs i) i : Int) - 1).toNat = bk xs (g xs i) i - 1 := by omega
  rw [e]
  exact this
end Sx

set_option Elab.async false
set_option linter.all false
set_option maxRecDepth 100000
namespace Sx
open PySem PySem.Spec
open PyProof.Rows L2
/-! ### small data: k deep, b items and signs -/
structure Sm (d : PyData) (k b : Nat) : Prop where
  ok : d.showable = true
  deep : d.depth ≤ k
  short : d.leavesShort 1921 = true
  bulk : d.bulk ≤ b
theorem Sm.shw {d : PyData} {k b : Nat} (s : Sm d k b) (hk : k ≤ 100) (hb : b ≤ 8000) : Shw d := by
  refine ⟨s.ok, Nat.le_trans s.deep hk, ?_⟩
  have h1 := PyData.shown_le_bulk 1921 (by decide) d s.short
  have h2 := s.bulk
  have h3 : (1921 + 2) * d.bulk ≤ 1923 * 8000 := Nat.mul_le_mul (Nat.le_refl _) (by omega)
  exact Nat.le_trans h1 (Nat.le_trans (show _ ≤ 16000000 by omega) (by decide))
theorem Sm.mono {d : PyData} {k b k' b' : Nat} (s : Sm d k b) (h1 : k ≤ k') (h2 : b ≤ b') : Sm d k' b' := ⟨s.ok, Nat.le_trans s.deep h1, s.short, Nat.le_trans s.bulk h2⟩
theorem Sm.all {k b : Nat} : ∀ {ds : List PyData}, (∀ d ∈ ds, Sm d k b) → PyData.showableAll ds = true ∧ PyData.depthAll ds ≤ k ∧ PyData.leavesShortAll 1921 ds = true ∧ PyData.bulkAll ds ≤ ds.length * (b + 1)
  | [], _ => by simp [PyData.showableAll, PyData.depthAll, PyData.leavesShortAll, PyData.bulkAll]
  | d :: ds, h => by
    obtain ⟨h1, h2, h3, h4⟩ := Sm.all (ds := ds) fun e he => h e (List.mem_cons_of_mem _ he)
    have hd := h d (List.mem_cons_self ..)
    refine ⟨by simp [PyData.showableAll, hd.ok, h1], ?_, by simp [PyData.leavesShortAll, hd.short, h3], ?_⟩
    · simp only [PyData.depthAll]
      have := hd.deep
      omega
    · simp only [PyData.bulkAll, List.length_cons]
      have := hd.bulk
      have e : (ds.length + 1) * (b + 1) = ds.length * (b + 1) + (b + 1) := by rw [Nat.add_mul, Nat.one_mul]
      omega
theorem Sm.list {ds : List PyData} {k b n : Nat} (h : ∀ d ∈ ds, Sm d k b) (hn : ds.length ≤ n) : Sm (.list ds) (k + 1) (n * (b + 1)) := by
  obtain ⟨h1, h2, h3, h4⟩ := Sm.all h
  refine ⟨by simp [PyData.showable, h1], by simp only [PyData.depth]; omega, by simp [PyData.leavesShort, h3], ?_⟩
  simp only [PyData.bulk]
  exact Nat.le_trans h4 (Nat.mul_le_mul hn (Nat.le_refl _))
theorem Sm.tuple {ds : List PyData} {k b n : Nat} (h : ∀ d ∈ ds, Sm d k b) (hn : ds.length ≤ n) : Sm (.tuple ds) (k + 1) (n * (b + 1)) := by
  obtain ⟨h1, h2, h3, h4⟩ := Sm.all h
  refine ⟨by simp [PyData.showable, h1], by simp only [PyData.depth]; omega, by simp [PyData.leavesShort, h3], ?_⟩
  simp only [PyData.bulk]
  exact Nat.le_trans h4 (Nat.mul_le_mul hn (Nat.le_refl _))
theorem Sm.int {i : Int} (h : i.natAbs.log2 < 1900) : Sm (.int i) 0 0 := by
  have hl : (Str.ofString (toString i)).length ≤ 1921 := int_text_len_1921 (by omega)
  refine ⟨by simp [PyData.showable]; omega, by simp [PyData.depth], ?_, by simp [PyData.bulk]⟩
  simp only [PyData.leavesShort, decide_eq_true_eq]
  exact hl
theorem Sm.none : Sm .none 0 0 := ⟨by simp [PyData.showable], by simp [PyData.depth], by simp [PyData.leavesShort], by simp [PyData.bulk]⟩
theorem Sm.bool (b : Bool) : Sm (.bool b) 0 0 := ⟨by simp [PyData.showable], by simp [PyData.depth], by simp [PyData.leavesShort], by simp [PyData.bulk]⟩

theorem p1000w {n : Int} (h : n < 2 ^ 200) : n < 2 ^ 1000 := by
  refine Int.lt_of_lt_of_le h ?_
  have e1 : (2 : Int) ^ 200 = ((2 ^ 200 : Nat) : Int) := by decide
  have e2 : (2 : Int) ^ 1000 = ((2 ^ 1000 : Nat) : Int) := by norm_cast
  rw [e1, e2]
  exact Int.ofNat_le.mpr (Nat.pow_le_pow_right (by decide) (by decide))
theorem at5 {x1 x2 x3 x4 x5 lo hi r : Int} (r0 : 0 ≤ r) (r1 : r < 5) (h1 : lo ≤ x1 ∧ x1 ≤ hi) (h2 : lo ≤ x2 ∧ x2 ≤ hi) (h3 : lo ≤ x3 ∧ x3 ≤ hi) (h4 : lo ≤ x4 ∧ x4 ≤ hi) (h5 : lo ≤ x5 ∧ x5 ≤ hi) :
    ∃ v : Int, atI [V.int x1, V.int x2, V.int x3, V.int x4, V.int x5] r = some (.int v) ∧ lo ≤ v ∧ v ≤ hi := by
  rcases (show r = 0 ∨ r = 1 ∨ r = 2 ∨ r = 3 ∨ r = 4 by omega) with e | e | e | e | e <;> subst e
  · exact ⟨x1, rfl, h1⟩
  · exact ⟨x2, rfl, h2⟩
  · exact ⟨x3, rfl, h3⟩
  · exact ⟨x4, rfl, h4⟩
  · exact ⟨x5, rfl, h5⟩
section
variable {K : PySem.W.Frag}
theorem slA_cut {H : Hp} {c : Addr} {xs : List V} {i j : Nat} {Q : VK} (hS : SqT K H c xs) (h1 : i ≤ j) (h2 : j ≤ xs.length)
    (q : ∀ a' H', Ex H H' → SqT K H' a' ((xs.drop i).take (j - i)) → Q (.ref a') H') : rSlA K (.ref c) (some (i : Int)) (some (j : Int)) H Q := by
  have hc : cutV xs (some (i : Int)) (some (j : Int)) = (xs.drop i).take (j - i) := by
    unfold cutV
    rw [HT.sIx_nat, HT.sIx_nat, Nat.min_eq_left h2, Nat.min_eq_left (Nat.le_trans h1 h2)]
  refine ⟨c, xs, rfl, hS, fun hw => ?_, fun _ p hp => q p _ (Evl.Ex.new hp) (SqT.of (by rw [upd_same, hc]))⟩
  have a := hw.1
  have b := hw.2
  rw [HT.sIx_nat] at a b
  rw [Nat.min_eq_left (Nat.le_trans h1 h2)] at a
  rw [Nat.min_eq_left h2] at b
  refine q c H (Evl.Ex.refl H) ?_
  rw [a, b, List.drop_zero, Nat.sub_zero, List.take_length]
  exact hS
end
end Sx

set_option Elab.async false
set_option linter.all false
namespace Sx
/-! ### rounds -/
theorem g_ext {xs ys : List Int} (hl : xs.length = ys.length) (h : ∀ i, i < xs.length → g xs i = g ys i) : xs = ys := by
  refine List.ext_getElem hl fun i h1 h2 => ?_
  have := h i h1
  unfold g at this
  rw [List.getD_eq_getElem?_getD, List.getD_eq_getElem?_getD, List.getElem?_eq_getElem h1, List.getElem?_eq_getElem h2] at this
  exact this
theorem bk_congr {xs ys : List Int} {e e' : Int} : ∀ {f : Nat}, (∀ j, j < f → (g xs j < e ↔ g ys j < e')) → bk xs e f = bk ys e' f
  | 0, _ => rfl
  | f + 1, h => by
    unfold bk
    have h1 := h f (Nat.lt_succ_self f)
    have h2 := bk_congr (f := f) fun j hj => h j (Nat.lt_succ_of_lt hj)
    by_cases c : g xs f < e
    · rw [if_pos c, if_pos (h1.mp c), h2]
    · rw [if_neg c, if_neg fun k => c (h1.mpr k)]
/-- other entries in the same order -/
theorem spans_order {xs ys : List Int} (hl : xs.length = ys.length) (h : ∀ i j, i < xs.length → j < xs.length → (g xs i < g xs j ↔ g ys i < g ys j)) : spans xs = spans ys := by
  refine g_ext (by rw [spans_len, spans_len, hl]) fun i hi => ?_
  rw [spans_len] at hi
  rw [spans_g hi, spans_g (by omega)]
  unfold spn
  rw [bk_congr (ys := ys) (e' := g ys i) fun j hj => h j i (by omega) hi]
theorem g_take {xs : List Int} {m i : Nat} (h : i < m) : g (xs.take m) i = g xs i := by
  unfold g
  rw [List.getD_eq_getElem?_getD, List.getD_eq_getElem?_getD, List.getElem?_take, if_pos h]
/-- the front part -/
theorem spans_take (xs : List Int) (m : Nat) : spans (xs.take m) = (spans xs).take m := by
  refine g_ext (by rw [spans_len, List.length_take, List.length_take, spans_len]) fun i hi => ?_
  rw [spans_len, List.length_take] at hi
  rw [spans_g (by rw [List.length_take]; exact hi), g_take (by omega), spans_g (by omega)]
  unfold spn
  rw [g_take (by omega), bk_congr (ys := xs) (e' := g xs i) fun j hj => by rw [g_take (by omega)]]
def ro : Nat → List Int → List Int
  | 0, xs => xs
  | n + 1, xs => spans (ro n xs)
theorem ro_len (xs : List Int) : ∀ n, (ro n xs).length = xs.length
  | 0 => rfl
  | n + 1 => by show (spans (ro n xs)).length = _; rw [spans_len, ro_len xs n]
theorem ro_shift (xs : List Int) : ∀ n, ro n (spans xs) = ro (n + 1) xs
  | 0 => rfl
  | n + 1 => by show spans (ro n (spans xs)) = _; rw [ro_shift xs n]; rfl
theorem ro_take (xs : List Int) (m : Nat) : ∀ n, ro n (xs.take m) = (ro n xs).take m
  | 0 => rfl
  | n + 1 => by show spans (ro n (xs.take m)) = _; rw [ro_take xs m n, spans_take]; rfl
theorem ro_still {xs : List Int} {n : Nat} (h : spans (ro n xs) = ro n xs) : ∀ k, ro (n + k) xs = ro n xs
  | 0 => rfl
  | k + 1 => by show spans (ro (n + k) xs) = _; rw [ro_still h k, h]
theorem ro_far {xs : List Int} {n : Nat} (h : spans (ro n xs) = ro n xs) (m : Nat) : ro m xs = ro (min m n) xs := by
  by_cases c : m ≤ n
  · rw [Nat.min_eq_left c]
  · rw [Nat.min_eq_right (by omega)]
    obtain ⟨k, rfl⟩ : ∃ k, m = n + k := ⟨m - n, by omega⟩
    exact ro_still h k
/-- from the first round on no entry gets less -/
theorem spans_ge {xs : List Int} (L : Lam xs) {i : Nat} (h : i < xs.length) : g xs i ≤ g (spans xs) i := by
  rw [spans_g h]
  unfold spn
  have l := L.lo i h
  have u := L.hi i h
  by_cases c : (bk xs (g xs i) i : Int) ≤ fc xs i
  · unfold fc at c; omega
  · exfalso
    have hf : fc xs i = i - g xs i + 1 := rfl
    have hb := bk_le xs (g xs i) i
    have k1 := bk_ge (xs := xs) (e := g xs i) (f := i) (by omega)
    have k2 := L.nest i (bk xs (g xs i) i - 1) h (by omega) (by omega)
    have hf2 : fc xs (bk xs (g xs i) i - 1) = ((bk xs (g xs i) i - 1 : Nat) : Int) - g xs (bk xs (g xs i) i - 1) + 1 := rfl
    omega
def sm (xs : List Int) : Nat → Int
  | 0 => 0
  | n + 1 => sm xs n + g xs n
theorem sm_le {xs ys : List Int} : ∀ {n : Nat}, (∀ i, i < n → g xs i ≤ g ys i) → sm xs n ≤ sm ys n
  | 0, _ => Int.le_refl _
  | n + 1, h => by
    have := sm_le (n := n) fun i hi => h i (Nat.lt_succ_of_lt hi)
    have := h n (Nat.lt_succ_self n)
    show sm xs n + g xs n ≤ sm ys n + g ys n
    omega
theorem sm_eq {xs ys : List Int} : ∀ {n : Nat}, (∀ i, i < n → g xs i ≤ g ys i) → sm ys n ≤ sm xs n → ∀ i, i < n → g xs i = g ys i
  | 0, _, _, i, hi => absurd hi (Nat.not_lt_zero _)
  | n + 1, h, hs, i, hi => by
    have h1 := sm_le (n := n) fun i hi => h i (Nat.lt_succ_of_lt hi)
    have h2 := h n (Nat.lt_succ_self n)
    have h3 : sm ys n + g ys n ≤ sm xs n + g xs n := hs
    by_cases e : i = n
    · subst e; omega
    · exact sm_eq (n := n) (fun i hi => h i (Nat.lt_succ_of_lt hi)) (by omega) i (by omega)
theorem sm_top {xs : List Int} (L : Lam xs) (hz : xs.length ≤ 100) : ∀ {n : Nat}, n ≤ xs.length → sm xs n ≤ 100 * n
  | 0, _ => by show (0:Int) ≤ 100 * 0; decide
  | n + 1, h => by
    have := sm_top L hz (n := n) (by omega)
    have := L.hi n (by omega)
    show sm xs n + g xs n ≤ 100 * ((n + 1 : Nat) : Int)
    omega
theorem sm_pos {xs : List Int} (L : Lam xs) : ∀ {n : Nat}, n ≤ xs.length → 0 ≤ sm xs n
  | 0, _ => Int.le_refl 0
  | n + 1, h => by
    have := sm_pos L (n := n) (by omega)
    have := L.lo n (by omega)
    show 0 ≤ sm xs n + g xs n
    omega
/-- so many rounds are needed -/
structure Nd (xs : List Int) (n : Nat) : Prop where
  still : spans (ro n xs) = ro n xs
  least : ∀ k, k < n → spans (ro k xs) ≠ ro k xs
theorem Nd.uniq {xs : List Int} {n m : Nat} (h1 : Nd xs n) (h2 : Nd xs m) : n = m := by
  rcases Nat.lt_trichotomy n m with h | h | h
  · exact absurd h1.still (h2.least n h)
  · exact h
  · exact absurd h2.still (h1.least m h)
theorem Nd.step {xs : List Int} {n : Nat} (h0 : spans xs ≠ xs) (h : Nd (spans xs) n) : Nd xs (n + 1) := by
  refine ⟨?_, fun k hk => ?_⟩
  · rw [← ro_shift]; exact h.still
  · cases k with
    | zero => exact h0
    | succ k => rw [← ro_shift]; exact h.least k (by omega)
theorem nd_lam : ∀ (m : Nat) (xs : List Int), Lam xs → xs.length ≤ 100 → 10000 - sm xs xs.length ≤ m → ∃ n, n ≤ m ∧ Nd xs n := by
  intro m
  induction m with
  | zero =>
    intro xs L hz hm
    refine ⟨0, Nat.le_refl 0, ?_, fun k hk => absurd hk (Nat.not_lt_zero _)⟩
    have t := sm_top (spans_lam xs) (by rw [spans_len]; exact hz) (n := xs.length) (by rw [spans_len]; exact Nat.le_refl _)
    exact (g_ext (spans_len xs).symm (sm_eq (fun i hi => spans_ge L hi) (by omega))).symm
  | succ m ih =>
    intro xs L hz hm
    by_cases e : spans xs = xs
    · exact ⟨0, Nat.zero_le _, e, fun k hk => absurd hk (Nat.not_lt_zero _)⟩
    · have hs : sm xs xs.length < sm (spans xs) xs.length := by
        refine Classical.byContradiction fun c => e (g_ext (spans_len xs).symm (sm_eq (fun i hi => spans_ge L hi) (by omega))).symm
      obtain ⟨n, hn, h⟩ := ih (spans xs) (spans_lam xs) (by rw [spans_len]; exact hz) (by rw [spans_len]; omega)
      exact ⟨n + 1, by omega, h.step e⟩
theorem nd_any (xs : List Int) (hz : xs.length ≤ 100) : ∃ n, n ≤ 10001 ∧ Nd xs n := by
  by_cases e : spans xs = xs
  · exact ⟨0, Nat.zero_le _, e, fun k hk => absurd hk (Nat.not_lt_zero _)⟩
  · have p := sm_pos (spans_lam xs) (n := xs.length) (by rw [spans_len]; exact Nat.le_refl _)
    obtain ⟨n, hn, h⟩ := nd_lam 10000 (spans xs) (spans_lam xs) (by rw [spans_len]; exact hz) (by rw [spans_len]; omega)
    exact ⟨n + 1, by omega, h.step e⟩
/-! ### skipping what a lesser entry covers -/
theorem bk_skip {xs : List Int} {e : Int} {f : Nat} (h : g xs f < e) : bk xs e (f + 1) = bk xs e (bk xs (g xs f) f) := by
  have key : ∀ d k : Nat, k + d = f → bk xs (g xs f) f ≤ k → bk xs e f = bk xs e k := by
    intro d
    induction d with
    | zero => intro k h1 _; have : k = f := by omega
              rw [this]
    | succ d ih =>
      intro k h1 h2
      rw [ih (k + 1) (by omega) (by omega)]
      show (if g xs k < e then bk xs e k else k + 1) = bk xs e k
      have := bk_lt (xs := xs) (e := g xs f) (f := f) (j := k) h2 (by omega)
      rw [if_pos (by omega)]
  show (if g xs f < e then bk xs e f else f + 1) = _
  rw [if_pos h]
  have hb := bk_le xs (g xs f) f
  exact key (f - bk xs (g xs f) f) _ (by omega) (Nat.le_refl _)
end Sx

set_option Elab.async false
set_option linter.all false
namespace Sx
open PySem PySem.Spec
open PyProof.Rows L2 Sx
theorem eqv_ints : ∀ ys zs : List Int, PyData.eqvAll (ys.map PyData.int) (zs.map PyData.int) = decide (ys = zs)
  | [], [] => rfl
  | [], z :: zs => by simp [PyData.eqvAll]
  | y :: ys, [] => by simp [PyData.eqvAll]
  | y :: ys, z :: zs => by
    simp only [List.map_cons, PyData.eqvAll, PyData.eqv, eqv_ints ys zs]
    by_cases h1 : y = z
    · subst h1; simp
    · simp [h1]
theorem eqv_tup (ys zs : List Int) : PyData.eqv (.tuple (ys.map PyData.int)) (.tuple (zs.map PyData.int)) = decide (ys = zs) := by
  simp only [PyData.eqv]; exact eqv_ints ys zs
theorem eqv_lst (ys zs : List Int) : PyData.eqv (.list (ys.map PyData.int)) (.list (zs.map PyData.int)) = decide (ys = zs) := by
  simp only [PyData.eqv]; exact eqv_ints ys zs
theorem lay_ints : ∀ ys : List Int, PyData.canLayAll0 (ys.map PyData.int) = true
  | [] => rfl
  | y :: ys => by simp only [List.map_cons, PyData.canLayAll0, PyData.canLay0, lay_ints ys]; rfl
theorem depth_ints : ∀ ys : List Int, PyData.depthAll (ys.map PyData.int) = 0
  | [] => rfl
  | y :: ys => by simp only [List.map_cons, PyData.depthAll, PyData.depth, depth_ints ys]; rfl
theorem shaped_tup (ys : List Int) : SeqAt.shaped (.tuple (ys.map PyData.int)) = true := by
  simp only [SeqAt.shaped, PyData.canLay0, PyData.depth, lay_ints, depth_ints]; rfl
theorem shaped_lst (ys : List Int) : SeqAt.shaped (.list (ys.map PyData.int)) = true := by
  simp only [SeqAt.shaped, PyData.canLay0, PyData.depth, lay_ints, depth_ints]; rfl
end Sx

set_option Elab.async false
set_option linter.all false
namespace Sx
open PySem PySem.Spec
open PyProof.Rows L2 Sx
/-- a row -/
structure Rw (xs : List Int) : Prop where
  lo : 1 ≤ xs.length
  hi : xs.length ≤ 100
  ok : ∀ x ∈ xs, -10 ^ 30 ≤ x ∧ x ≤ 10 ^ 30
/-- p holds the rows after 0 to n rounds -/
def Rws (K : PySem.W.Frag) (H : Hp) (p : Addr) (xs : List Int) (n : Nat) : Prop :=
  ∃ vs : List V, H p = some (.lst vs) ∧ vs.length = n + 1 ∧ ∀ j, j ≤ n → ∃ b, vs[j]? = some (.ref b) ∧ SqT K H b ((ro j xs).map V.int)
theorem Rws.ex {K : PySem.W.Frag} {H H' : Hp} {p : Addr} {xs : List Int} {n : Nat} (h : Rws K H p xs n) (X : Ex H H') : Rws K H' p xs n := by
  obtain ⟨vs, h1, h2, h3⟩ := h
  refine ⟨vs, X _ _ h1, h2, fun j hj => ?_⟩
  obtain ⟨b, hb, hS⟩ := h3 j hj
  exact ⟨b, hb, Evl.ex_t X hS⟩
def hind (xs : List Int) (i : Nat) : V := if (bk xs (g xs i) i : Int) - 1 < 0 then .non else .int ((bk xs (g xs i) i : Int) - 1)
theorem atI_last {vs : List V} {n : Nat} (h : vs.length = n + 1) : atI vs (-1) = vs[n]? := by
  unfold atI ixN
  rw [h, if_neg (by decide), if_pos (by omega)]
  show vs[((-1 : Int) + ((n + 1 : Nat) : Int)).toNat]? = vs[n]?
  rw [show ((-1 : Int) + ((n + 1 : Nat) : Int)).toNat = n by omega]
theorem atI_at {vs : List V} {i : Nat} (h : i < vs.length) : atI vs (i : Int) = vs[i]? := by
  unfold atI ixN
  have h2 : (i : Int) < (vs.length : Int) := by omega
  simp [h2]
/-- a tuple stays when a list that was not there changes -/
theorem sqT_mut {K : PySem.W.Frag} {H : Hp} {b p : Addr} {xs ys zs : List V} (h : SqT K H b xs) (hp : H p = some (.lst ys)) : SqT K (upd H p (.lst zs)) b xs := by
  rcases h with (h | ⟨o, h⟩) | h
  · refine Or.inl (Or.inl ?_)
    rw [upd_ne (by rintro rfl; rw [hp] at h; cases h)]
    exact h
  · refine Or.inl (Or.inr ⟨o, ?_⟩)
    rw [upd_ne (by rintro rfl; rw [hp] at h; cases h)]
    exact h
  · exact Or.inr h
end Sx
namespace Sx
/-- from r on the entry stays, and from no earlier number -/
structure RA (xs : List Int) (i r : Nat) : Prop where
  stay : ∀ k, r ≤ k → g (ro k xs) i = g (ro r xs) i
  least : ∀ r', r' < r → ∃ k, r' ≤ k ∧ g (ro k xs) i ≠ g (ro r' xs) i
theorem RA.uniq {xs : List Int} {i r s : Nat} (h1 : RA xs i r) (h2 : RA xs i s) : r = s := by
  rcases Nat.lt_trichotomy r s with h | h | h
  · obtain ⟨k, k1, k2⟩ := h2.least r h
    exact absurd (h1.stay k k1) k2
  · exact h
  · obtain ⟨k, k1, k2⟩ := h1.least s h
    exact absurd (h2.stay k k1) k2
theorem RA.take {xs : List Int} {i m r : Nat} (hi : i < m) (h : RA xs i r) : RA (xs.take m) i r := by
  have e : ∀ k, g (ro k (xs.take m)) i = g (ro k xs) i := fun k => by rw [ro_take, g_take hi]
  refine ⟨fun k hk => by rw [e, e]; exact h.stay k hk, fun r' hr => ?_⟩
  obtain ⟨k, k1, k2⟩ := h.least r' hr
  exact ⟨k, k1, by rw [e, e]; exact k2⟩
/-- after how many rounds two rows are equal -/
inductive Mt (xs ys : List Int) : L2.V → Prop
  | at (r : Nat) (h : ro r xs = ro r ys) (l : ∀ k, k < r → ro k xs ≠ ro k ys) : Mt xs ys (.int (r : Int))
  | no (l : ∀ k, ro k xs ≠ ro k ys) : Mt xs ys .non
end Sx

set_option Elab.async false
set_option linter.all false
namespace Sx
open PySem PySem.Spec
open PyProof.Rows L2 Sx
/-- the state of the draws: its last number counts them -/
def Bag (H : Hp) (t : Addr) (m : Int) : Prop := ∃ x0 x1 x2 : Int, H t = some (.lst [.int x0, .int x1, .int x2]) ∧ 0 ≤ x2 ∧ x2 ≤ m
theorem Bag.ex {H H' : Hp} {t : Addr} {m : Int} (T : Bag H t m) (e : Ex H H') : Bag H' t m := by
  obtain ⟨x0, x1, x2, h, r⟩ := T
  exact ⟨x0, x1, x2, e _ _ h, r⟩
theorem Bag.le {H : Hp} {t : Addr} {m n : Int} (T : Bag H t m) (h : m ≤ n) : Bag H t n := by
  obtain ⟨x0, x1, x2, h1, h4, h5⟩ := T
  exact ⟨x0, x1, x2, h1, h4, by omega⟩
theorem Bag.exB {H H' : Hp} {t b : Addr} {m : Int} (T : Bag H t m) (e : ExB b H H') (n : t ≠ b) : Bag H' t m := by
  obtain ⟨x0, x1, x2, h, r⟩ := T
  exact ⟨x0, x1, x2, e _ _ n h, r⟩
theorem Bag.get {H : Hp} {t : Addr} {m : Int} (T : Bag H t m) : ∃ xs, H t = some (.lst xs) := by
  obtain ⟨x0, x1, x2, h, r⟩ := T
  exact ⟨_, h⟩
theorem for_enumL {K : PySem.W.Frag} {a : Addr} {xs : List V} {g : TG} {tb : TS} {D : Ends} {σ : L2.St} {H : Hp} (Pv : Nat → L2.St → Hp → Prop) (h0 : Pv 0 σ H) (hl : ∀ i σ H, Pv i σ H → SqL K H a xs)
    (hs : ∀ i x T σ H, xs[i]? = some x → Pv i σ H → H T = none →
      g (.ref T) σ (upd H T (.tup [.int (i : Nat), x])) fun σ2 H2 => tb { D with nx := Pv (i + 1), ct := Pv (i + 1), bk := D.nx } σ2 H2)
    (hd : ∀ σ H, Pv xs.length σ H → D.nx σ H) :
    ∃ W : Nat → Nat → L2.St → Hp → Prop, (∃ m, W 0 m σ H) ∧ ∀ i m σ H, W i m σ H →
      ((Ite K a).stop i H ∧ D.nx σ H) ∨
      ((Ite K a).go i H ∧ ∃ N : L2.St → Hp → Prop, (∀ σ' H', N σ' H' → ∃ m', m' < m ∧ W (i + 1) m' σ' H') ∧
        ∀ x H', (Ite K a).yld i H x H' → g x σ H' fun σ2 H2 => tb { D with nx := N, ct := N, bk := D.nx } σ2 H2) := by
  refine ⟨fun i m σ H => i + m = xs.length ∧ Pv i σ H, ⟨xs.length, by omega, h0⟩, fun i m σ H ⟨e, p⟩ => ?_⟩
  have q := hl i σ H p
  by_cases hi : i < xs.length
  · refine .inr ⟨⟨xs, xs[i], q, List.getElem?_eq_getElem hi⟩, Pv (i + 1), fun σ' H' p' => ⟨m - 1, by omega, by omega, p'⟩, ?_⟩
    rintro x H' ⟨T, y, rfl, hT, rfl, hy⟩
    exact hs i y T σ H (hy xs q) p hT
  · have : i = xs.length := by omega
    subst this
    exact .inl ⟨⟨xs, q, Nat.le_refl _⟩, hd σ H p⟩
/-- what is new stays new -/
theorem none_back {H H' : Hp} {t b : Addr} (E : ExB t H H') (n : b ≠ t) (h : H' b = none) : H b = none := by
  cases q0 : H b with
  | none => rfl
  | some o =>
    have := E _ _ n q0
    rw [h] at this; cases this
theorem Bag.ne {H : Hp} {t b : Addr} {m : Int} (T : Bag H t m) (h : H b = none) : b ≠ t := by
  obtain ⟨_, hT⟩ := T.get
  exact (ne_of_none hT h).symm
/-- both branches of an if without else lead on -/
theorem iteJ {c : Prop} [Decidable c] {TB : Prop} {NX : L2.St → Hp → Prop} {σ : L2.St} {H : Hp} (Inv : L2.St → Hp → Prop) (k : ∀ σ' H', Inv σ' H' → NX σ' H')
    (h1 : (∀ σ' H', Inv σ' H' → NX σ' H') → c → TB) (h2 : ¬ c → Inv σ H) : if c then TB else NX σ H := by
  split
  · exact h1 k (by assumption)
  · exact k _ _ (h2 (by assumption))
theorem at8 {x1 x2 x3 x4 x5 x6 x7 x8 y1 y2 y3 y4 y5 y6 y7 y8 r : Int} (P : Int → Int → Prop) (r0 : 0 ≤ r) (r1 : r < 8) (h1 : P x1 y1) (h2 : P x2 y2) (h3 : P x3 y3) (h4 : P x4 y4) (h5 : P x5 y5) (h6 : P x6 y6) (h7 : P x7 y7) (h8 : P x8 y8) :
    ∃ v w : Int, atI [V.int x1, V.int x2, V.int x3, V.int x4, V.int x5, V.int x6, V.int x7, V.int x8] r = some (.int v) ∧ atI [V.int y1, V.int y2, V.int y3, V.int y4, V.int y5, V.int y6, V.int y7, V.int y8] r = some (.int w) ∧ P v w := by
  rcases (show r = 0 ∨ r = 1 ∨ r = 2 ∨ r = 3 ∨ r = 4 ∨ r = 5 ∨ r = 6 ∨ r = 7 by omega) with e | e | e | e | e | e | e | e <;> subst e
  · exact ⟨x1, y1, rfl, rfl, h1⟩
  · exact ⟨x2, y2, rfl, rfl, h2⟩
  · exact ⟨x3, y3, rfl, rfl, h3⟩
  · exact ⟨x4, y4, rfl, rfl, h4⟩
  · exact ⟨x5, y5, rfl, rfl, h5⟩
  · exact ⟨x6, y6, rfl, rfl, h6⟩
  · exact ⟨x7, y7, rfl, rfl, h7⟩
  · exact ⟨x8, y8, rfl, rfl, h8⟩
theorem iteJ2 {c : Prop} [Decidable c] {X TB : Prop} {NX : L2.St → Hp → Prop} {σ : L2.St} {H : Hp} (Inv : L2.St → Hp → Prop) (k : ∀ σ' H', Inv σ' H' → NX σ' H')
    (h1 : (∀ σ' H', Inv σ' H' → NX σ' H') → c → X) (h2 : ¬ c → Inv σ H) : if c then X else (if false = true then TB else NX σ H) := by
  split
  · exact h1 k (by assumption)
  · rw [if_neg (by decide)]; exact k _ _ (h2 (by assumption))
end Sx

set_option Elab.async false
set_option linter.all false
set_option maxRecDepth 100000
namespace Sx
open PySem PySem.Spec
open PyProof.Rows L2
/-- a def of the module under its name, with n positional values and the keywords ks behind them -/
structure DefAtN (K : PySem.W.Frag) (mg : Str → Option Value) (x : Str) (st : Stmt) (ps : List Str) (n : Nat) (ks : List Str) (f : Addr) (fd : FuncData) : Prop where
  fn : L2.Fun K x x st f fd
  at_ : mg x = some (.ref f)
  bi : KBn K fd ps n ks (fun us ws => us ++ ws) (fun vs zs => vs ++ zs)
structure CalN (P : Program) (w : World) (K : PySem.W.Frag) (mg : Str → Option Value) (base : Heap) (k : Nat) (x : Str) (sp : Sp) (n : Nat) (ks : List Str) : Prop where
  ex : ∃ (f : Addr) (fd : FuncData) (ps : List Str), FnOk P w K mg base CX0 k f fd ps sp ∧ mg x = some (.ref f) ∧ PySem.W.keepIn K (.ref f) = true ∧ KBn K fd ps n ks (fun us ws => us ++ ws) (fun vs zs => vs ++ zs)
section
variable {P : Program} {w : World} {K : PySem.W.Frag} {mg : Str → Option Value} {base : Heap} {x : Str} {st : Stmt} {N ps ks : List Str} {f : Addr} {fd : FuncData} {k n : Nat} {sp : Sp}
theorem DefAtN.cal (D : DefAtN K mg x st ps n ks f fd) (S : FnScope N ps (defScope st)) (ar : ∀ vs H Q E, sp vs H Q E → vs.length = ps.length)
    (hb : ∀ (cdv : Value) (A : Around) (outer : List Env) (s : Shared) (H : Hp) (vs : List V) (Q : VK) (E : XK),
      Room k (A.deeper (envOfC x (defScope st) s.heap.objs.size f cdv)) → sp vs H Q E →
      ∃ t, PSs (cxOf CX0 P w K mg base N x (defScope st) f cdv A outer s H E).nox (defBody st) t ∧
        t { nx := fun _ H' => Q .non H', rt := Q } (start N vs) H) : CalN P w K mg base (k + 1) x sp n ks :=
  ⟨f, fd, ps, D.fn.ok S ar hb, D.at_, D.fn.kp, D.bi⟩
end
theorem pe_kn {X : Cx} {k j n : Nat} {x : Str} {sp : Sp} {ks : List Str} {p pos : Pos} {e : Expr} {es : List Expr} {kws : List Keyword} {t tk : TA}
    (c : CalN X.prog X.w X.K X.mg X.base k x sp n ks) (hr : Room j X.A) (hk : k ≤ j) (hg : Gl X x) (ha : PA X (e :: es) t) (hkw : PK X kws tk)
    (hall : (backToKw pos (keywordEach kws X.env)).all (·.1.isSome) = true := by rfl) (hks : (backToKw pos (keywordEach kws X.env)).filterMap (·.1) = ks := by rfl)
    (hdb : (x == ("__debug__" : Str)) = false := by decide) (he : starEach (e :: es) X.env = (false, eval e X.env) :: starEach es X.env := by rfl)
    (hpl : ((backTo pos (starEach (e :: es) X.env)).any (·.1) || (backToKw pos (keywordEach kws X.env)).any (·.1.isNone)) = false := by rfl) :
    PE X (.Call (.Name x p) (e :: es) kws pos) (tCallN n ks.length sp (fun vs zs => vs ++ zs) C8.E0 t tk) := by
  obtain ⟨f, fd, ps, F, hm, kp, b⟩ := c.ex
  exact pe_callN F (hr.mono hk) hg hm kp b C8.pass0 ha hkw hall hks hdb he hpl
end Sx
namespace Sx
open PySem PySem.Spec
open PyProof.Rows L2
theorem Bag.tup {K : PySem.W.Frag} {H H' : Hp} {t a : Addr} {m : Int} {xs : List V} (T : Bag H t m) (E : ExB t H H') (h : SqT K H a xs) : SqT K H' a xs := by
  obtain ⟨_, hT⟩ := T.get
  exact E.tup hT h
theorem at2 {x1 x2 hi r : Int} (r0 : 0 ≤ r) (r1 : r < 2) (h1 : 0 ≤ x1 ∧ x1 ≤ hi) (h2 : 0 ≤ x2 ∧ x2 ≤ hi) : ∃ v : Int, atI [V.int x1, V.int x2] r = some (.int v) ∧ 0 ≤ v ∧ v ≤ hi := by
  rcases (show r = 0 ∨ r = 1 by omega) with e | e <;> subst e
  · exact ⟨x1, rfl, h1⟩
  · exact ⟨x2, rfl, h2⟩
theorem Rw.take {xs : List Int} (R : Rw xs) {k : Nat} (h : 1 ≤ k) : Rw (xs.take k) := by
  refine ⟨?_, ?_, fun x hx => R.ok x (List.mem_of_mem_take hx)⟩
  · rw [List.length_take]; have := R.lo; omega
  · rw [List.length_take]; have := R.hi; omega
/-- the final row of a front part -/
theorem final_take {xs : List Int} {k n m : Nat} (h : Nd xs n) (h2 : Nd (xs.take k) m) : (ro n xs).take k = ro m (xs.take k) := by
  have e1 := ro_far h.still (max n m)
  have e2 := ro_far h2.still (max n m)
  rw [Nat.min_eq_right (Nat.le_max_left _ _)] at e1
  rw [Nat.min_eq_right (Nat.le_max_right _ _)] at e2
  rw [← e1, ← e2, ro_take]
end Sx
namespace Sx
open PySem PySem.Spec
open PyProof.Rows L2
section
variable {X : Cx}
theorem cr_minT (hc : X.calm = true) : CallR X (.builtin "min") (rBestT false X.K) := by
  intro pins s σ H vs us Q I r h
  obtain ⟨a, ns, rfl, hs, hne, q⟩ := h
  obtain ⟨its, rv, hl, _⟩ := I.tuple hs
  rw [Vals.ref1 r]
  obtain ⟨xs, e⟩ := rv.ints.allInts.items
  have hn : numsOf (intItems xs).toList = ns := by rw [← e]; exact rv.ints.numsOf
  rw [nums_intItems] at hn
  rw [e] at hl
  subst hn
  have hsz : 0 < xs.size := by
    rcases Nat.eq_zero_or_pos xs.size with z | z
    · exact absurd (by rw [Array.eq_empty_of_size_eq_zero z]; rfl) hne
    · exact z
  have hne2 : a ≠ s.heap.objs.size := Nat.ne_of_lt hl.lt
  refine call_min_walk (wpAny_pyIter_tuple hl ?_)
  refine ⟨_, _, _, _, _, _, _, rfl, Walks.tuple (A := X.A.in1) (I.ok.hd hc) _ a hne2 (intItems xs), ⟨⟨_, Heap.get?_push_size _ rfl, rfl, rfl⟩, hl.keeps fun b o e => Heap.get?_push_of_some _ e⟩, fun b hb => ?_,
    by simpa [intItems] using hsz, CmpOf.ints_lt (numAt xs) (fun _ _ => intItems_at), fun v h' tk hP hk => ?_⟩
  · show b < (s.heap.push _).objs.size
    rw [Heap.size_push]
    rcases List.mem_cons.mp hb with z | z
    · rw [z]; exact Nat.lt_succ_self _
    · rw [List.mem_singleton.mp z]; exact Nat.lt_succ_of_lt hl.lt
  · have hv : (intItems xs)[argBest (fun i j => decide (numAt xs i < numAt xs j)) (xs.size - 1)]? = some v := by simpa [intItems] using hP
    obtain ⟨t, rfl⟩ := intItems_at hv
    obtain ⟨h1, h2⟩ := argBest_lt (numAt xs) (xs.size - 1)
    refine ⟨.int _, H, I.kept (fun b o eo => hk b o (fun hm => ?_) (Heap.get?_push_of_some _ eo)), ⟨_, rfl⟩, q _ ?_ fun y hy => ?_⟩
    · have z := Heap.lt_size eo
      rw [List.mem_singleton] at hm
      rw [hm] at z
      exact Nat.lt_irrefl _ z
    · rw [numAt_eq]
      exact PySem.getD_mem (by rw [List.length_map, Array.length_toList]; omega)
    · rw [if_neg (by decide)]
      obtain ⟨j, hj, rfl⟩ := mem_getD hy
      rw [List.length_map, Array.length_toList] at hj
      rw [← numAt_eq]
      exact h2 j (by omega)
end
end Sx
namespace Sx
open PySem PySem.Spec
open PyProof.Rows L2
theorem cut_init (ys : List V) (z : V) : cutV (ys ++ [z]) none (some (-1)) = ys := by
  unfold cutV
  have e1 : HT.sIx (ys ++ [z]).length (ys ++ [z]).length (some (-1)) = ys.length := by
    unfold HT.sIx
    show (if (-1 : Int) < 0 then ((-1 : Int) + ((ys ++ [z]).length : Nat)).toNat else _) = _
    rw [if_pos (by decide), List.length_append]
    show ((-1 : Int) + ((ys.length + 1 : Nat) : Int)).toNat = ys.length
    omega
  rw [e1, HT.sIx_none, List.drop_zero, Nat.sub_zero, List.take_left']
  rfl
theorem slA_init {K : PySem.W.Frag} {H : Hp} {c : Addr} {ys : List V} {z : V} {Q : VK} (hS : SqT K H c (ys ++ [z])) (q : ∀ a' H', Ex H H' → SqT K H' a' ys → Q (.ref a') H') : rSlA K (.ref c) none (some (-1)) H Q := by
  refine ⟨c, _, rfl, hS, fun hw => ?_, fun _ p hp => q p _ (Evl.Ex.new hp) (SqT.of (by rw [upd_same, cut_init]))⟩
  exfalso
  have h := hw.2
  unfold HT.sIx at h
  have h : (if (-1 : Int) < 0 then ((-1 : Int) + ((ys ++ [z]).length : Nat)).toNat else min ((-1 : Int).toNat) (ys ++ [z]).length) = (ys ++ [z]).length := h
  rw [if_pos (by decide), List.length_append] at h
  have h : ((-1 : Int) + ((ys.length + 1 : Nat) : Int)).toNat = ys.length + 1 := h
  omega
theorem g_left {xs ys : List Int} {i : Nat} (h : i < xs.length) : g (xs ++ ys) i = g xs i := by
  unfold g
  rw [List.getD_eq_getElem?_getD, List.getD_eq_getElem?_getD, List.getElem?_append_left h]
theorem g_snoc {xs : List Int} {y : Int} : g (xs ++ [y]) xs.length = y := by
  unfold g
  rw [List.getD_eq_getElem?_getD, List.getElem?_append_right (Nat.le_refl _), Nat.sub_self]; rfl
/-- one more entry that the last one hinders -/
theorem spans_snoc {xs : List Int} {y : Int} (h : 1 ≤ xs.length) (hy : y ≤ g xs (xs.length - 1)) : spans (xs ++ [y]) = spans xs ++ [1] := by
  have hlen : (xs ++ [y]).length = xs.length + 1 := by rw [List.length_append]; rfl
  refine g_ext (by rw [spans_len, hlen, List.length_append, spans_len]; rfl) fun i hi => ?_
  rw [spans_len, hlen] at hi
  by_cases c : i < xs.length
  · have e : (spans xs) = (spans (xs ++ [y])).take xs.length := by
      rw [← spans_take, List.take_left']
      rfl
    rw [g_left (by rw [spans_len]; exact c), e, g_take c]
  · have ei : i = xs.length := by omega
    subst ei
    rw [spans_g (by omega)]
    have e2 : g (spans xs ++ [1]) xs.length = 1 := by
      have := g_snoc (xs := spans xs) (y := 1)
      rw [spans_len] at this
      exact this
    rw [e2]
    unfold spn
    rw [g_snoc]
    have eb : bk (xs ++ [y]) y xs.length = xs.length := by
      obtain ⟨n, hn⟩ : ∃ n, xs.length = n + 1 := ⟨xs.length - 1, by omega⟩
      rw [hn]
      show (if g (xs ++ [y]) n < y then bk (xs ++ [y]) y n else n + 1) = n + 1
      rw [g_left (by omega), if_neg]
      have : xs.length - 1 = n := by omega
      rw [this] at hy
      omega
    rw [eb]; omega
theorem ro_snoc {xs : List Int} {y : Int} (h : 1 ≤ xs.length) (hy : y ≤ g xs (xs.length - 1)) : ∀ k, ro (k + 1) (xs ++ [y]) = ro (k + 1) xs ++ [1]
  | 0 => spans_snoc h hy
  | k + 1 => by
    show spans (ro (k + 1) (xs ++ [y])) = spans (ro (k + 1) xs) ++ [1]
    rw [ro_snoc h hy k, spans_snoc (by rw [ro_len]; exact h)]
    have L := spans_lam (ro k xs)
    have := L.lo ((ro (k + 1) xs).length - 1) (by rw [ro_len, spans_len, ro_len]; omega)
    exact this
theorem spn_snoc {xs : List Int} {y : Int} (h : 1 ≤ xs.length) (hy : y ≤ g xs (xs.length - 1)) : spn (xs ++ [y]) xs.length = 1 := by
  have e : g (spans (xs ++ [y])) xs.length = 1 := by
    rw [spans_snoc h hy]
    have := g_snoc (xs := spans xs) (y := 1)
    rw [spans_len] at this
    exact this
  rw [spans_g (by rw [List.length_append]; exact Nat.lt_succ_self _)] at e
  exact e
end Sx

set_option Elab.async false
set_option linter.all false
set_option maxRecDepth 100000
namespace Sx
open PySem PySem.Spec
open PyProof.Rows L2
/-- a def of the module under its name, the last of its parameters with defaults -/
structure DefAtP (K : PySem.W.Frag) (mg : Str → Option Value) (x : Str) (st : Stmt) (ps : List Str) (dvs : List V) (f : Addr) (fd : FuncData) : Prop where
  fn : FunD K x x (defArgs st) (defBody st) (defScope st) dvs [] f fd
  at_ : mg x = some (.ref f)
  bi : Binds K fd ps []
  bd : ∃ ds, Vals dvs ds ∧ Binds K fd ps ds
section
variable {P : Program} {w : World} {K : PySem.W.Frag} {mg : Str → Option Value} {base : Heap} {x : Str} {st : Stmt} {N ps : List Str} {dvs : List V} {f : Addr} {fd : FuncData} {k : Nat} {sp : Sp}
theorem DefAtP.fok (D : DefAtP K mg x st ps dvs f fd) (S : FnScope N ps (defScope st)) (ar : ∀ vs H Q E, sp vs H Q E → vs.length = ps.length)
    (hb : ∀ (cdv : Value) (A : Around) (outer : List Env) (s : Shared) (H : Hp) (vs : List V) (Q : VK) (E : XK),
      Room k (A.deeper (envOfC x (defScope st) s.heap.objs.size f cdv)) → sp vs H Q E →
      ∃ t, PSs (cxOf CX0 P w K mg base N x (defScope st) f cdv A outer s H E).nox (defBody st) t ∧
        t { nx := fun _ H' => Q .non H', rt := Q } (start N vs) H) : FnOk P w K mg base CX0 (k + 1) f fd ps sp :=
  D.fn.ok S ar fun cdv A outer s H vs Q E hr h => by
    obtain ⟨t, h1, q⟩ := hb cdv A outer s H vs Q E hr h
    exact ⟨t, h1.nox, q⟩
theorem DefAtP.cal (D : DefAtP K mg x st ps dvs f fd) (F : FnOk P w K mg base CX0 k f fd ps sp) : C8.Cal P w K mg base k x sp [] :=
  ⟨f, fd, ps, [], F, D.at_, D.fn.kp, D.bi, .nil⟩
theorem DefAtP.cald (D : DefAtP K mg x st ps dvs f fd) (F : FnOk P w K mg base CX0 k f fd ps sp) : C8.Cal P w K mg base k x sp dvs := by
  obtain ⟨ds, h1, h2⟩ := D.bd
  exact ⟨f, fd, ps, ds, F, D.at_, D.fn.kp, h2, h1⟩
theorem funD_b0 {qual : Str} {params : Arguments} {body : List Stmt} {scope : Scope} (F : FunD K x qual params body scope dvs [] f fd) (hd : dvs ≠ [])
    (h : ∀ (T : Addr) (kV doc pm : Value) (an : Option Addr) (cdv ct : Value) (us its : List Value), us.length = ps.length → its.length = dvs.length →
      ∃ k, bindArgs (PySem.W.fnOf x qual params body scope (.ref T) kV doc pm an cdv ct) ⟨us, []⟩ = seqItems? (.ref T) >>= k ∧ k (some its.toArray) = pure (ps.zip (us ++ its.drop dvs.length))) : Binds K fd ps [] := by
  obtain ⟨ds, hv, hb⟩ := F.binds1 ps.length dvs.length hd (by rw [Nat.sub_self, Nat.add_zero]) h
  rw [List.drop_length] at hv
  cases hv
  exact hb
end
end Sx

set_option Elab.async false
set_option linter.all false
set_option maxRecDepth 100000
set_option maxHeartbeats 4000000
namespace Sx
open PySem PySem.Spec
open PyProof.Rows L2
section
variable {P : Program} {w : World} {A : Around} {E : Value → Shared → Prop} {s : Shared} {a : Addr}
/-- sorted of a set of ints, many of them -/
theorem sorted_setB {S : Int → Bool} {n : Nat} {Q : Value → Shared → Prop} (R : SetR w s.heap a S n) (hh : A.handled = none) (h64 : n ≤ 1000)
    (hQ : ∀ s' p (out : Array Value) (c : Nat) (ns : List Int), (∀ b o, s.heap.get? b = some o → s'.heap.get? b = some o) → s'.gens = s.gens → s'.os = s.os → s.heap.objs.size ≤ p →
      s'.heap.get? p = some (seqObj "list" out c) → IntsAre out.toList ns → ns.Pairwise (· < ·) → (∀ k, k ∈ ns ↔ S k = true) → ns.length = n → Q (.ref p) s') :
    wpAny (model P w) A (call (.builtin "sorted") [.ref a]) Q E s := by
  obtain ⟨o, es, ep, t, ho, hex, hd, g, nd, hm, hb, hf, hn, hr, hl⟩ := R
  refine Calls.call_function_entry kind_sorted plain_sorted entry_sorted (args_sorted1 _) ?_
  unfold Builtin.«sorted»
  refine wpAny_bind (m := checkCount "sorted" 1 1 _) (wpAny_pure ?_)
  refine wpAny_bind (collect_set (A := A.in1) hh ⟨o, ho, hex.1, hd⟩ hf hb hr hl fun s1 vs k1 hz g1 o1 pm => ?_)
  have hvl : vs.length = n := by rw [pm.length_eq, List.length_map, Array.length_toList]; exact hn
  have hI : IntsAre vs (vs.map Builtin.Re.reRawOf) := ints_of vs fun v hv => by
    obtain ⟨e, he, q⟩ := List.mem_map.mp (pm.mem_iff.mp hv)
    obtain ⟨k, tk, h1, _⟩ := g e he
    exact ⟨k, tk, by rw [← q]; exact h1⟩
  have pk : (vs.map Builtin.Re.reRawOf).Perm (es.toList.map keyOf) := by
    have q := pm.map Builtin.Re.reRawOf
    rw [List.map_map] at q
    exact q
  have hz2 : vs.length ≤ sizeLine := by rw [hvl, sizeLine_eq]; omega
  refine wpAny_bind (wpAny_newList ?_ hz2)
  have hoL : (s1.heap.push (seqObj "list" vs.toArray 0)).get? s1.heap.objs.size = some (seqObj "list" vs.toArray 0) := Heap.get?_push_size _ rfl
  refine wpAny_bind (wpAny_holding (wpAny_call_entry slot_list_sort ⟨_, hoL, rfl⟩ entry_list_sort
    (SrtO.list_sort_ord SrtO.swo_int hoL hz2 (fun h2 => SrtO.ints_sortable hI h2) fun out h1 h2 => ⟨_, rfl, ?_⟩) (args_list_sort _)))
  obtain ⟨a1, a2, a3⟩ := SrtO.ints_out hI h1 h2
  obtain ⟨c, hc⟩ := sortedHeap_at (vs := vs) (out := out.toArray) hoL
  have pn : (out.map SrtO.iv).Perm (es.toList.map keyOf) := a2.trans pk
  refine wpAny_pure ⟨_, rfl, hQ _ s1.heap.objs.size out.toArray c (out.map SrtO.iv) (fun b u e => ?_) g1 o1 hz hc a1 (lt_of_le_nodup _ a3 (pn.nodup_iff.mpr nd)) (fun k => by rw [pn.mem_iff, ← hm k]) ?_⟩
  · have q := k1 b u e
    have hlt := Heap.lt_size q
    show (sortedHeap (s1.heap.push (seqObj "list" vs.toArray 0)) s1.heap.objs.size vs out.toArray).get? b = some u
    rw [sortedHeap_old (Nat.ne_of_lt hlt) (by rw [size_push']; exact Nat.lt_succ_of_lt hlt)]
    exact Heap.get?_push_of_some _ q
  · rw [pn.length_eq, List.length_map, Array.length_toList]; exact hn
end
section
variable {X : Cx}
/-- set(t) of a tuple of ints -/
def rSetTI (K : PySem.W.Frag) (w : World) : List V → Hp → VK → Prop := fun xs H Q => ∃ (l : Addr) (ns : List Int), xs = [V.ref l] ∧ SqT K H l (ns.map V.int) ∧ ns.length ≤ 1000 ∧
  ∀ (p : Addr) (c : Nat), H p = none → c ≤ ns.length → Q (.ref p) (upd H p (SetO w p (fun j => decide (j ∈ ns)) c))
theorem cr_setTI (hc : X.calm = true) : CallR X (.type "set") (rSetTI X.K X.w) := by
  intro pins s σ H xs us Q I r h
  obtain ⟨l, ns, rfl, hl, hz, q⟩ := h
  rw [Vals.ref1 r]
  obtain ⟨its, rv, pt, _⟩ := I.tuple hl
  have hi : IntsAre its.toArray.toList ns := ints_of_vals rv
  refine call_set_tupI ns (I.ok.hd hc) (show s.heap.IsTuple l its.toArray from pt) hi (by unfold scanBound; omega) fun h' tk c R hcn k => ?_
  exact ⟨.ref s.heap.objs.size, upd H s.heap.objs.size (SetO X.w s.heap.objs.size (fun j => decide (j ∈ ns)) c), I.laid (t' := tk) k (Nat.le_refl _) (setO_new R), rfl, q _ c (I.hok.fresh (Nat.le_refl _)) hcn⟩
/-- sorted(set) -/
def rSortedSetB (w : World) : List V → Hp → VK → Prop := fun vs H Q => ∃ (a : Addr) (S : Int → Bool) (n : Nat), vs = [V.ref a] ∧ H a = some (SetO w a S n) ∧ n ≤ 1000 ∧
  ∀ (ns : List Int) (p : Addr), ns.Pairwise (· < ·) → (∀ k : Int, k ∈ ns ↔ S k = true) → ns.length = n → H p = none → Q (.ref p) (upd H p (.lst (ns.map V.int)))
theorem cr_sortedSetB (hc : X.calm = true) : CallR X (.builtin "sorted") (rSortedSetB X.w) := by
  intro pins s σ H vs us Q I r h
  obtain ⟨a, S, n, rfl, ha, h64, q⟩ := h
  have R := setO_get I ha
  rw [Vals.ref1 r]
  refine sorted_setB R (I.ok.hd hc) h64 fun s' p out c ns k g o hp hg hi hs hm hl => ?_
  have hlen : (ns.map V.int).length ≤ sizeLine := by rw [List.length_map, hl, sizeLine_eq]; omega
  have hn : H p = none := I.hok.fresh hp
  have J : Inv X pins σ (upd H p (.lst (ns.map V.int))) { s with heap := s'.heap, gens := s'.gens, drawn := s'.drawn, toks := s'.toks } :=
    I.call (ch := []) (Un.laid k hp hn) (I.hok.laid k hp ⟨hlen, out.toList, c, vals_of_ints hi, hg⟩) (by rw [g]; exact I.bare) (fun _ z => nomatch z)
  have e : s' = { s with heap := s'.heap, gens := s'.gens, drawn := s'.drawn, toks := s'.toks } := by
    cases s'
    cases s
    cases o
    rfl
  rw [e]
  exact ⟨.ref p, _, J, rfl, q ns p hs hm hl hn⟩
end
end Sx

set_option Elab.async false
set_option linter.all false
namespace Sx
open PySem PySem.Spec
open PyProof.Rows L2
/-- the first place of x -/
def ix (x : Int) : List Int → Nat
  | [] => 0
  | y :: ys => if y = x then 0 else ix x ys + 1
theorem ix_lt {x : Int} : ∀ {ys : List Int}, x ∈ ys → ix x ys < ys.length
  | [], h => absurd h List.not_mem_nil
  | y :: ys, h => by
    unfold ix
    split
    · exact Nat.succ_pos _
    · rcases List.mem_cons.mp h with e | h
      · exact absurd e.symm (by assumption)
      · exact Nat.succ_lt_succ (ix_lt h)
theorem ix_at {x : Int} : ∀ {ys : List Int}, x ∈ ys → ys[ix x ys]? = some x
  | [], h => absurd h List.not_mem_nil
  | y :: ys, h => by
    unfold ix
    split
    · rename_i e; rw [e]; rfl
    · rcases List.mem_cons.mp h with e | h
      · exact absurd e.symm (by assumption)
      · exact ix_at h
theorem ix_first {x : Int} : ∀ {ys : List Int} {m : Nat} {z : Int}, m < ix x ys → ys[m]? = some z → z ≠ x
  | [], m, z, h, _ => absurd h (Nat.not_lt_zero _)
  | y :: ys, m, z, h, hz => by
    unfold ix at h
    split at h
    · exact absurd h (Nat.not_lt_zero _)
    · cases m with
      | zero => cases hz; assumption
      | succ m => exact ix_first (Nat.lt_of_succ_lt_succ h) hz
theorem sorted_g {ys : List Int} (h : ys.Pairwise (· < ·)) {i j : Nat} (hi : i < ys.length) (hj : j < ys.length) : g ys i < g ys j ↔ i < j := by
  have key : ∀ {i j : Nat}, i < j → j < ys.length → g ys i < g ys j := fun {i j} hij hj => by
    have := List.pairwise_iff_getElem.mp h i j (by omega) hj hij
    have hi' : i < ys.length := by omega
    have e1 : g ys i = ys[i] := Option.some.inj ((g_get hi').symm.trans (List.getElem?_eq_getElem hi'))
    have e2 : g ys j = ys[j] := Option.some.inj ((g_get hj).symm.trans (List.getElem?_eq_getElem hj))
    rw [e1, e2]
    exact this
  constructor
  · intro hlt
    rcases Nat.lt_trichotomy i j with c | c | c
    · exact c
    · subst c; omega
    · have := key c hi; omega
  · intro c; exact key c hj
/-- other entries in the same order -/
def other (old new xs : List Int) : List Int := xs.map fun x => g new (ix x old)
theorem other_len (old new xs : List Int) : (other old new xs).length = xs.length := List.length_map ..
theorem other_g {old new xs : List Int} {i : Nat} (h : i < xs.length) : g (other old new xs) i = g new (ix (g xs i) old) := by
  unfold other
  show (xs.map _).getD i 0 = _
  rw [List.getD_eq_getElem?_getD, List.getElem?_map, g_get h]; rfl
theorem other_spans {old new xs : List Int} (ho : old.Pairwise (· < ·)) (hn : new.Pairwise (· < ·)) (hl : new.length = old.length) (hm : ∀ x, x ∈ xs → x ∈ old) : spans (other old new xs) = spans xs := by
  refine spans_order (other_len ..) fun i j hi hj => ?_
  rw [other_len] at hi hj
  rw [other_g hi, other_g hj]
  have mi := hm _ (List.mem_of_getElem? (g_get hi))
  have mj := hm _ (List.mem_of_getElem? (g_get hj))
  have li := ix_lt mi
  have lj := ix_lt mj
  rw [sorted_g hn (by omega) (by omega)]
  have gi : g old (ix (g xs i) old) = g xs i := by
    have := ix_at mi
    rw [g_get li] at this
    exact Option.some.inj this
  have gj : g old (ix (g xs j) old) = g xs j := by
    have := ix_at mj
    rw [g_get lj] at this
    exact Option.some.inj this
  have := sorted_g ho li lj
  rw [gi, gj] at this
  exact this.symm
theorem ro_same {xs ys : List Int} (h : spans ys = spans xs) : ∀ k, ro (k + 1) ys = ro (k + 1) xs
  | 0 => h
  | k + 1 => by show spans (ro (k + 1) ys) = spans (ro (k + 1) xs); rw [ro_same h k]
theorem mt_same {xs ys : List Int} {v : V} (h : spans ys = spans xs) (m : Mt ys xs v) : v = .int 0 ∨ v = .int 1 := by
  cases m with
  | «at» r e l =>
    rcases (show r = 0 ∨ r = 1 ∨ 2 ≤ r by omega) with c | c | c
    · left; rw [c]; rfl
    · right; rw [c]; rfl
    · exact absurd (ro_same h 0) (l 1 (by omega))
  | no l => exact absurd (ro_same h 0) (l 1)
theorem nd_near {xs : List Int} {n e : Nat} (hz : xs.length ≤ 100) (h : Nd xs n) (he : Nd (spans xs) e) : n = e ∨ n = e + 1 := by
  by_cases c : spans xs = xs
  · left
    rw [c] at he
    exact h.uniq he
  · right
    exact h.uniq (he.step c)
theorem nd_same {xs ys : List Int} {n m : Nat} (hz : xs.length ≤ 100) (hl : ys.length = xs.length) (h : spans ys = spans xs) (h1 : Nd ys n) (h2 : Nd xs m) : (n : Int) - m < 2 ∧ (m : Int) - n < 2 := by
  obtain ⟨e, _, he⟩ := nd_any (spans xs) (by rw [spans_len]; exact hz)
  have a := nd_near hz h2 he
  rw [← h] at he
  have b := nd_near (by omega) h1 he
  omega
/-- hinderers are those of the spans -/
theorem spn_same {xs ys : List Int} (h : spans ys = spans xs) {i : Nat} (hi : i < xs.length) : spn ys i = spn xs i := by
  have hl : ys.length = xs.length := by have := congrArg List.length h; rw [spans_len, spans_len] at this; exact this
  rw [← spans_g hi, ← spans_g (xs := ys) (by omega), h]
theorem hind_same {xs ys : List Int} (h : spans ys = spans xs) {i : Nat} (hi : i < xs.length) : hind ys i = hind xs i := by
  have e := spn_same h hi
  unfold spn at e
  unfold hind
  rw [show (bk ys (g ys i) i : Int) = bk xs (g xs i) i by omega]
end Sx
namespace Sx
open PySem PySem.Spec
open PyProof.Rows L2
theorem hind_d (xs : List Int) (i : Nat) : ∃ d, (∀ (K : PySem.W.Frag) (H : Hp), Dp K H (hind xs i) d) ∧ SeqAt.shaped d = true ∧ PyData.eqv d d = true := by
  unfold hind
  split
  · exact ⟨.none, fun K H => .non, by decide, rfl⟩
  · refine ⟨.int ((bk xs (g xs i) i : Int) - 1), fun K H => .int _, by simp [SeqAt.shaped, PyData.canLay0, PyData.depth], ?_⟩
    simp [PyData.eqv]
end Sx

set_option Elab.async false
set_option linter.all false
namespace Sx
/-! ### growth as Fibonacci's numbers -/
theorem ro_lam (xs : List Int) (t : Nat) : Lam (ro (t + 1) xs) := spans_lam (ro t xs)
theorem ro_ge {xs : List Int} {t i : Nat} (h : i < xs.length) : g (ro (t + 1) xs) i ≤ g (ro (t + 2) xs) i := spans_ge (ro_lam xs t) (by rw [ro_len]; exact h)
theorem ro_spn {xs : List Int} {t i : Nat} (h : i < xs.length) : g (ro (t + 1) xs) i = (i : Int) - bk (ro t xs) (g (ro t xs) i) i + 1 := by
  show g (spans (ro t xs)) i = _
  rw [spans_g (by rw [ro_len]; exact h)]; rfl
/-- what a skipped place covers is skipped too -/
theorem bk_under {xs : List Int} {i j : Nat} (hij : j < i) (hb : bk xs (g xs i) i ≤ j) : bk xs (g xs i) i ≤ bk xs (g xs j) j := by
  refine Nat.le_of_not_lt fun c => ?_
  have hlt := bk_lt (xs := xs) (e := g xs i) (f := i) (j := j) hb hij
  have hp : 0 < bk xs (g xs i) i := by omega
  have h1 := bk_ge (xs := xs) (e := g xs i) (f := i) hp
  have h2 := bk_lt (xs := xs) (e := g xs j) (f := j) (j := bk xs (g xs i) i - 1) (by omega) (by omega)
  omega
/-- an entry that grows from round t + 2 to t + 3: some place j in front was its hinderer before, and is skipped now -/
theorem grow_at {xs : List Int} {t i : Nat} (h : i < xs.length) (hg : g (ro (t + 2) xs) i < g (ro (t + 3) xs) i) :
    ∃ j, j < i ∧ g (ro (t + 1) xs) i ≤ g (ro (t + 1) xs) j ∧ g (ro (t + 2) xs) j < g (ro (t + 2) xs) i ∧ g (ro (t + 2) xs) i + g (ro (t + 3) xs) j ≤ g (ro (t + 3) xs) i := by
  have e2 : g (ro (t + 2) xs) i = (i : Int) - bk (ro (t + 1) xs) (g (ro (t + 1) xs) i) i + 1 := ro_spn h
  have e3 : g (ro (t + 3) xs) i = (i : Int) - bk (ro (t + 2) xs) (g (ro (t + 2) xs) i) i + 1 := ro_spn h
  have hb : bk (ro (t + 2) xs) (g (ro (t + 2) xs) i) i < bk (ro (t + 1) xs) (g (ro (t + 1) xs) i) i := by omega
  have hle := bk_le (ro (t + 1) xs) (g (ro (t + 1) xs) i) i
  refine ⟨bk (ro (t + 1) xs) (g (ro (t + 1) xs) i) i - 1, by omega, bk_ge (by omega), ?_, ?_⟩
  · exact bk_lt (f := i) (by omega) (by omega)
  · have hj : bk (ro (t + 1) xs) (g (ro (t + 1) xs) i) i - 1 < xs.length := by omega
    have e4 : g (ro (t + 3) xs) _ = _ := ro_spn (t := t + 2) hj
    have hu := bk_under (xs := ro (t + 2) xs) (i := i) (j := bk (ro (t + 1) xs) (g (ro (t + 1) xs) i) i - 1) (by omega) (by omega)
    omega
theorem grow {xs : List Int} {t i : Nat} (h : i < xs.length) (hg : g (ro (t + 2) xs) i < g (ro (t + 3) xs) i) :
    g (ro (t + 1) xs) i < g (ro (t + 2) xs) i ∧ g (ro (t + 2) xs) i + g (ro (t + 1) xs) i ≤ g (ro (t + 3) xs) i := by
  obtain ⟨j, hj, h1, h2, h3⟩ := grow_at h hg
  have a := ro_ge (xs := xs) (t := t) (i := j) (by omega)
  have b : g (ro (t + 2) xs) j ≤ g (ro (t + 3) xs) j := ro_ge (t := t + 1) (by omega)
  omega
/-- growth in the second round -/
theorem grow2 {xs : List Int} {i : Nat} (h : i < xs.length) (hg : g (ro 1 xs) i < g (ro 2 xs) i) : 2 ≤ g (ro 1 xs) i ∧ g (ro 1 xs) i + 1 ≤ g (ro 2 xs) i := by
  refine ⟨?_, by omega⟩
  have e1 : g (ro 1 xs) i = (i : Int) - bk (ro 0 xs) (g (ro 0 xs) i) i + 1 := ro_spn (t := 0) h
  have e2 : g (ro 2 xs) i = (i : Int) - bk (ro 1 xs) (g (ro 1 xs) i) i + 1 := ro_spn (t := 1) h
  have hb : bk (ro 1 xs) (g (ro 1 xs) i) i < bk (ro 0 xs) (g (ro 0 xs) i) i := by omega
  have hle := bk_le (ro 0 xs) (g (ro 0 xs) i) i
  have hlt := bk_lt (xs := ro 1 xs) (e := g (ro 1 xs) i) (f := i) (j := bk (ro 0 xs) (g (ro 0 xs) i) i - 1) (by omega) (by omega)
  have := (ro_lam xs 0).lo (bk (ro 0 xs) (g (ro 0 xs) i) i - 1) (by rw [ro_len]; omega)
  show 2 ≤ g (ro 1 xs) i
  have : (1 : Int) ≤ g (ro 1 xs) (bk (ro 0 xs) (g (ro 0 xs) i) i - 1) := this
  omega
def fib : Nat → Int
  | 0 => 0
  | 1 => 1
  | n + 2 => fib n + fib (n + 1)
/-- an entry that grows in round t + 2 has F(t + 4) -/
theorem grow_fib {xs : List Int} {i : Nat} (h : i < xs.length) : ∀ t, g (ro (t + 1) xs) i < g (ro (t + 2) xs) i → fib (t + 3) ≤ g (ro (t + 1) xs) i ∧ fib (t + 4) ≤ g (ro (t + 2) xs) i
  | 0, hg => by
    obtain ⟨a, b⟩ := grow2 h hg
    exact ⟨a, by show (3 : Int) ≤ g (ro 2 xs) i; omega⟩
  | t + 1, hg => by
    obtain ⟨a, b⟩ := grow h hg
    obtain ⟨c, d⟩ := grow_fib h t a
    refine ⟨d, ?_⟩
    show fib (t + 3) + fib (t + 4) ≤ g (ro (t + 3) xs) i
    omega
/-- the rounds that are needed, from two on, are at most as many as Fibonacci's numbers allow -/
theorem nd_fib {xs : List Int} {n : Nat} (h : Nd xs (n + 2)) : fib (n + 4) ≤ xs.length := by
  have hne : spans (ro (n + 1) xs) ≠ ro (n + 1) xs := h.least (n + 1) (by omega)
  have : ∃ i, i < xs.length ∧ g (ro (n + 1) xs) i < g (ro (n + 2) xs) i := by
    refine Classical.byContradiction fun c => hne ?_
    refine (g_ext (by rw [spans_len]) fun i hi => ?_).symm
    rw [ro_len] at hi
    have h1 := ro_ge (xs := xs) (t := n) hi
    have h2 : ¬ g (ro (n + 1) xs) i < g (ro (n + 2) xs) i := fun k => c ⟨i, hi, k⟩
    show g (ro (n + 1) xs) i = g (ro (n + 2) xs) i
    omega
  obtain ⟨i, hi, hg⟩ := this
  have h1 := (grow_fib hi n hg).2
  have h2 := (ro_lam xs (n + 1)).hi i (by rw [ro_len]; exact hi)
  have h2 : g (ro (n + 2) xs) i ≤ (i : Int) + 1 := h2
  omega
end Sx
namespace Sx
theorem fib_pos : ∀ t : Nat, 1 ≤ fib (t + 1)
  | 0 => by decide
  | 1 => by decide
  | t + 2 => by
    have h1 := fib_pos t
    have h2 : 1 ≤ fib (t + 2) := fib_pos (t + 1)
    show 1 ≤ fib (t + 1) + fib (t + 2)
    omega
theorem fib_mono {s t : Nat} (h : s ≤ t) : fib (s + 1) ≤ fib (t + 1) := by
  induction t with
  | zero => have : s = 0 := by omega
            rw [this]; exact Int.le_refl _
  | succ t ih =>
    by_cases e : s = t + 1
    · rw [e]; exact Int.le_refl _
    · have := ih (by omega)
      have h2 : fib (t + 1 + 1) = fib t + fib (t + 1) := rfl
      have h3 : 0 ≤ fib t := by
        cases t with
        | zero => decide
        | succ t => have := fib_pos t; omega
      omega
/-- no row needs more rounds than Fibonacci's numbers allow -/
theorem nd_most {xs : List Int} {n t : Nat} (h : Nd xs n) (ht : (xs.length : Int) < fib (t + 3)) : n ≤ max t 1 := by
  by_cases c : n ≤ 1
  · omega
  · obtain ⟨k, rfl⟩ : ∃ k, n = k + 2 := ⟨n - 2, by omega⟩
    have h1 := nd_fib h
    refine Classical.byContradiction fun d => ?_
    have h2 : fib (t + 3) ≤ fib (k + 4) := fib_mono (s := t + 2) (t := k + 3) (by omega)
    omega
theorem ra_le {xs : List Int} {i r n : Nat} (h : RA xs i r) (hn : Nd xs n) : r ≤ n := by
  refine Classical.byContradiction fun c => ?_
  obtain ⟨k, k1, k2⟩ := h.least n (by omega)
  rw [ro_far hn.still k, Nat.min_eq_right k1] at k2
  exact k2 rfl
end Sx

set_option Elab.async false
set_option linter.all false
set_option maxRecDepth 100000
set_option maxHeartbeats 1000000
namespace Sx
open PySem PySem.Spec
open PyProof.Rows L2
/-! ### yield from a list that the generator alone holds -/
section
variable {prog : Program} {w : World} {A : Around} {E : Value → Shared → Prop} {s : Shared}
theorem sp_lst_item {it t : Addr} {i : Nat} {us : Array Value} {x : Value} {Q : Option Value → Shared → Prop} (hit : s.heap.IsListIter it t i) (ht : s.heap.IsList t us) (hx : us[i]? = some x)
    (hQ : ∀ h', h'.IsListIter it t (i + 1) → Heap.SameBut it s.heap h' → Q (some x) { s with heap := h' }) : wpAny (model prog w) A (callSpecial? (.ref it) "__next__") Q E s := by
  obtain ⟨o, ho, hc, hd⟩ := id hit
  obtain ⟨ol, hol, _, nl, hdl⟩ := ht
  refine wpAny_callSpecial?_slot (name := Str.ofString "__next__") hit.typeIs slot_listiter_next (wpAny_call_entry slot_listiter_next hit.typeIs entry_listiter_next ?_ (args_listiter_next _))
  show wpAny _ _ (field (.ref it) 0 >>= _) _ _ s
  refine wpAny_bind (wpAny_field ho hd (x := .ref t) rfl (show wpAny _ _ (if (Value.ref t == Value.none) = true then _ else _) _ _ s from ?_))
  rw [if_neg (show ¬ ((Value.ref t == Value.none) = true) from Bool.false_ne_true)]
  show wpAny _ _ (field (.ref it) 1 >>= _) _ _ s
  refine wpAny_bind (wpAny_field ho hd (x := .int i 0) rfl (show wpAny _ _ (seqItems? (.ref t) >>= _) _ _ s from wpAny_bind (wpAny_seqItems hol hdl ?_)))
  simp only [Int.toNat_natCast, hx]
  refine wpAny_bind (wpAny_setField ho hd (by simp) (wpAny_pure ⟨x, rfl, hQ _ ⟨_, Heap.get?_update_self _ ho (Obj.isFreed_of_fields (Obj.data_mapFields hd _)), (Obj.cls_mapFields ..).trans hc, ?_⟩ (Heap.SameBut.update ..)⟩))
  rw [Obj.data_mapFields hd]; simp [rawInt]
theorem sp_lst_end {it t : Addr} {i : Nat} {us : Array Value} {Q : Option Value → Shared → Prop} (hh : A.handled = none) (hit : s.heap.IsListIter it t i) (ht : s.heap.IsList t us) (hx : us[i]? = none)
    (hE : ∀ e h', StopX e h' → Heap.ExtBut it s.heap h' → E e { s with heap := h' }) : wpAny (model prog w) A (callSpecial? (.ref it) "__next__") Q E s := by
  obtain ⟨o, ho, hc, hd⟩ := id hit
  obtain ⟨ol, hol, _, nl, hdl⟩ := ht
  refine wpAny_callSpecial?_slot (name := Str.ofString "__next__") hit.typeIs slot_listiter_next (wpAny_call_entry slot_listiter_next hit.typeIs entry_listiter_next ?_ (args_listiter_next _))
  show wpAny _ _ (field (.ref it) 0 >>= _) _ _ s
  refine wpAny_bind (wpAny_field ho hd (x := .ref t) rfl (show wpAny _ _ (if (Value.ref t == Value.none) = true then _ else _) _ _ s from ?_))
  rw [if_neg (show ¬ ((Value.ref t == Value.none) = true) from Bool.false_ne_true)]
  show wpAny _ _ (field (.ref it) 1 >>= _) _ _ s
  refine wpAny_bind (wpAny_field ho hd (x := .int i 0) rfl (show wpAny _ _ (seqItems? (.ref t) >>= _) _ _ s from wpAny_bind (wpAny_seqItems hol hdl ?_)))
  simp only [Int.toNat_natCast, hx]
  refine wpAny_bind (wpAny_rule (wpAny_bind (wpAny_setField ho hd (by simp) (show wpAny _ _ (newExc (.type "StopIteration") [] >>= _) _ _ _ from wpAny_bind ?_))))
  simp only [newExc, newTuple]
  refine wpAny_bind (wpAny_newObj_type (wpAny_bind (m := firstArgMember _ _) (wpAny_of_eq (a := Value.none) (by first | rfl | (simp only [firstArgMember]; rfl)) (wpAny_newObj_type ?_ (by size_fits)))) (by size_fits))
  simp only [raiseNew]
  refine wpAny_bind (wpAny_handled ?_)
  first | rw [show A.in1.handled = none from hh] | rw [hh]
  refine wpAny_bind (wpAny_pure (wpAny_throw (hE _ _ ⟨_, _, _, rfl, Heap.get?_push_size _ rfl, rfl, rfl, ?_⟩ (((Heap.SameBut.update ..).extBut.push _).push _))))
  first
    | rfl
    | (rw [Array.getElem?_append_left (by decide)]; rfl)
    | kernel_rfl
end
section
variable {X : Cx} {e : Expr} {te : TE}
def tYfLst (te : TE) : TYf := fun σ H Q => te σ H fun x H1 => ∃ a xs, x = .ref a ∧ H1 a = some (.lst xs) ∧ Q xs H1
theorem close_lst : typeLookup (.type "list_iterator") "close" = pure none := by rw [typeLookup_type, builtinLookup_eq_fast]; kernel_rfl
theorem yf_lst (he : PE X e te) : YfE X e (tYfLst te) := by
  refine ⟨fun pins s σ H Q I h => ?_⟩
  refine thn (he.run pins s σ H _ I h) fun v s1 ⟨x, H1, I1, r1, a, xs, ex, ha, hq⟩ => ?_
  subst ex
  obtain rfl : v = Value.ref a := r1
  obtain ⟨hlen, its, c0, rits, hob⟩ := I1.hok a _ ha
  have ht : s1.heap.IsList a its.toArray := ⟨_, hob, rfl, c0, rfl⟩
  refine ⟨"list", ht.typeIs, by decide, wpAny_pyIter_list ht ?_⟩
  have ksz : ∀ b o, s1.heap.get? b = some o → b ≠ s1.heap.objs.size := fun b o e => Nat.ne_of_lt (Heap.lt_size e)
  have kp : ∀ b o, s1.heap.get? b = some o → (s1.heap.push { cls := .type "list_iterator", data := .fields #[.ref a, .int 0 0] }).get? b = some o := fun b o e => Heap.get?_push_of_some _ e
  refine ⟨s1.heap.objs.size, H1, xs, fun j h => h.IsListIter s1.heap.objs.size a j ∧ h.IsList a its.toArray, rfl, I1.kept (t' := s1.toks) kp, .inr I1.sz, Nat.ne_of_gt I1.lt, fun y c hy => ?_, I1.hok.fresh (Nat.le_refl _), fun p hp => ?_,
    ⟨⟨_, Heap.get?_push_size _ rfl, rfl, rfl⟩, ht.push _⟩, ⟨⟨"list_iterator", fun j h q => ?_, close_lst, by decide⟩, fun j h h' q hk => ?_, fun A' j x s2 Q' E' hA hx q hQ => ?_, fun A' s2 Q' E' hA q hE => ?_⟩, hq⟩
  · obtain ⟨v, o, ho, _⟩ := I1.cell y c hy
    exact ksz c o ho
  · exact ksz p.1 _ (I1.pin p hp).1
  · obtain ⟨⟨o, ho, hc, _⟩, _⟩ := q
    exact ⟨o, ho, hc⟩
  · obtain ⟨⟨o, ho, r⟩, o2, ho2, r2⟩ := q
    exact ⟨⟨o, hk _ o (.inl rfl) ho, r⟩, o2, hk _ o2 (.inr (by rw [ha]; exact fun z => by cases z)) ho2, r2⟩
  · obtain ⟨q1, q2⟩ := q
    obtain ⟨u, hu, ru⟩ := rits.get hx
    have hne : a ≠ s1.heap.objs.size := Nat.ne_of_lt (Heap.lt_size hob)
    exact sp_lst_item q1 q2 (x := u) (by simpa using hu) fun h' q1' hs => hQ u h' s2.toks ru ⟨q1', q2.extBut hs.extBut hne⟩ fun b o hb eb => hs.extBut b o hb eb
  · obtain ⟨q1, q2⟩ := q
    have hnone : its.toArray[xs.length]? = none := by
      have e := rits.length
      have e2 : its[xs.length]? = none := List.getElem?_eq_none_iff.mpr (by omega)
      simpa using e2
    exact sp_lst_end hA q1 q2 hnone fun e h' hS hk => hE e h' s2.toks hS fun b o hb eb => hk b o hb eb
end
/-- no exception comes out -/
theorem passCX {X : Cx} : Passes (CX X.prog X.w) X E0 := fun _ _ _ _ _ _ _ h => by
  obtain ⟨_, _, _, _, _, _, _, _, _, _, _, _, z⟩ := h
  exact z.elim
theorem noStop0 {K : PySem.W.Frag} : NoStop K E0 := fun _ _ _ h => h.elim
/-- a generator def of the module under its name -/
structure GenAt (P : Program) (w : World) (K : PySem.W.Frag) (mg : Str → Option Value) (base : Heap) (k : Nat) (x : Str) (sp : SpG) : Prop where
  ex : ∃ (f : Addr) (fd : FuncData) (ps : List Str), GFn P w K mg base k f fd ps sp ∧ mg x = some (.ref f) ∧ PySem.W.keepIn K (.ref f) = true ∧ Binds K fd ps []
section
variable {P : Program} {w : World} {K : PySem.W.Frag} {mg : Str → Option Value} {base : Heap} {x : Str} {st : Stmt} {N ps : List Str} {f : Addr} {fd : FuncData} {k : Nat} {sp : SpG}
theorem DefAt.gen (D : DefAt K mg x st ps f fd) (S : GScope N ps (defScope st)) (len : ∀ vs H Q E, sp vs H Q E → vs.length = ps.length)
    (hbody : ∀ (cdv : Value) (A : Around) (outer : List Env) (s : Shared) (H : Hp) (vs : List V) (Q : List V → Hp → Prop) (E : XK) (pn : List (Addr × Obj)), Room k (A.deeper (envOfC x (defScope st) s.heap.objs.size f cdv)) → sp vs H Q E →
      ∃ t, GSs (gcxOf P w K mg base N x (defScope st) f cdv A outer s H E pn) (defBody st) t ∧ t { nx := fun ys _ H' => Q ys H', rt := fun ys v H' => v = .non ∧ Q ys H' } [] (start N vs) H) : GenAt P w K mg base (k + 1) x sp := by
  obtain ⟨oc, od, kV, doc, pm, an, cdv, ct, osl, rfl, lk, hcd⟩ := D.fn.ex
  exact ⟨f, _, ps, gfn_of lk hcd S len (hbody cdv), D.at_, D.fn.kp, D.bi⟩
end
/-- list(g(e, ..)) of a generator def that raises nothing -/
theorem pe_listOf {X : Cx} {k j : Nat} {x : Str} {sp : SpG} {p p2 pos pos' : Pos} {e : Expr} {es : List Expr} {t : TA} (c : GenAt X.prog X.w X.K X.mg X.base k x sp) (hr : Room j X.A) (hk : k + 3 ≤ j) (hg : Gl X x) (hgl : Gl X "list") (hml : X.mg "list" = none) (ha : PA X (e :: es) t)
    (hdb : (x == ("__debug__" : Str)) = false := by decide) (he : starEach (e :: es) X.env = (false, eval e X.env) :: starEach es X.env := by rfl) (hpl : (backTo pos' (starEach es X.env)).any (·.1) = false := by rfl)
    (he2 : starEach [.Call (.Name x p) (e :: es) [] pos'] X.env = (false, eval (.Call (.Name x p) (e :: es) [] pos') X.env) :: starEach [] X.env := by rfl) :
    PE X (.Call (.Name "list" p2) [.Call (.Name x p) (e :: es) [] pos'] [] pos) (tListG (tCallG sp [] E0 t)) := by
  obtain ⟨f, fd, ps, F, hm, kp, b⟩ := c.ex
  exact pe_listG (pgen_call F (hr.mono (by omega)) hg hm kp b .nil ha hdb he hpl) passCX noStop0 (hr.mono hk) hgl hml (by decide +kernel) (by decide) (by decide) he2
end Sx

set_option Elab.async false
set_option linter.all false
set_option maxRecDepth 100000
namespace Sx
open PySem PySem.Spec
open PyProof.Rows L2
/-! ### data that can be compared: k deep -/
structure Sh (d : PyData) (k : Nat) : Prop where
  lay : d.canLay0 = true
  deep : d.depth ≤ k
theorem Sh.ok {d : PyData} {k : Nat} (s : Sh d k) (h : k ≤ 64) : SeqAt.shaped d = true := by
  unfold SeqAt.shaped
  rw [s.lay, Bool.true_and, decide_eq_true_eq]
  exact Nat.le_trans s.deep h
theorem Sh.all {k : Nat} : ∀ {ds : List PyData}, (∀ d ∈ ds, Sh d k) → PyData.canLayAll0 ds = true ∧ PyData.depthAll ds ≤ k
  | [], _ => by simp [PyData.canLayAll0, PyData.depthAll]
  | d :: ds, h => by
    obtain ⟨h1, h2⟩ := Sh.all (ds := ds) fun e he => h e (List.mem_cons_of_mem _ he)
    have hd := h d (List.mem_cons_self ..)
    have := hd.deep
    refine ⟨by simp [PyData.canLayAll0, hd.lay, h1], ?_⟩
    simp only [PyData.depthAll]
    omega
theorem Sh.lst {ds : List PyData} {k : Nat} (h : ∀ d ∈ ds, Sh d k) : Sh (.list ds) (k + 1) := by
  obtain ⟨h1, h2⟩ := Sh.all h
  exact ⟨by simp [PyData.canLay0, h1], by simp only [PyData.depth]; omega⟩
theorem Sh.tup {ds : List PyData} {k : Nat} (h : ∀ d ∈ ds, Sh d k) : Sh (.tuple ds) (k + 1) := by
  obtain ⟨h1, h2⟩ := Sh.all h
  exact ⟨by simp [PyData.canLay0, h1], by simp only [PyData.depth]; omega⟩
theorem Sh.int (i : Int) : Sh (.int i) 0 := ⟨by simp [PyData.canLay0], by simp [PyData.depth]⟩
theorem Sh.bool (i : Bool) : Sh (.bool i) 0 := ⟨by simp [PyData.canLay0], by simp [PyData.depth]⟩
theorem Sh.none : Sh .none 0 := ⟨by simp [PyData.canLay0], by simp [PyData.depth]⟩
theorem Sh.row (xs : List Int) : Sh (.tuple (xs.map PyData.int)) 1 := Sh.tup fun d hd => by
  obtain ⟨x, _, rfl⟩ := List.mem_map.mp hd
  exact .int x
theorem Sh.ints (xs : List Int) : Sh (.list (xs.map PyData.int)) 1 := Sh.lst fun d hd => by
  obtain ⟨x, _, rfl⟩ := List.mem_map.mp hd
  exact .int x
theorem dpAll_of {K : PySem.W.Frag} {H : Hp} : ∀ {vs : List V} {ds : List PyData}, vs.length = ds.length → (∀ (j : Nat) (v : V) (d : PyData), vs[j]? = some v → ds[j]? = some d → Dp K H v d) → DpAll K H vs ds
  | [], [], _, _ => .nil
  | [], _ :: _, h, _ => nomatch h
  | _ :: _, [], h, _ => nomatch h
  | v :: vs, d :: ds, h, p => .cons (p 0 v d rfl rfl) (dpAll_of (Nat.succ.inj h) fun j v d h1 h2 => p (j + 1) v d (by simpa using h1) (by simpa using h2))
/-- the rows after 0 to n rounds, as data -/
def rowsD (xs : List Int) (n : Nat) : List PyData := (List.range (n + 1)).map fun j => PyData.tuple ((ro j xs).map PyData.int)
theorem rowsD_len (xs : List Int) (n : Nat) : (rowsD xs n).length = n + 1 := by unfold rowsD; rw [List.length_map, List.length_range]
theorem rowsD_at {xs : List Int} {n j : Nat} (h : j ≤ n) : (rowsD xs n)[j]? = some (.tuple ((ro j xs).map PyData.int)) := by
  unfold rowsD
  rw [List.getElem?_map, List.getElem?_range (by omega)]; rfl
theorem rowsD_sh (xs : List Int) (n : Nat) : Sh (.list (rowsD xs n)) 2 := Sh.lst fun d hd => by
  obtain ⟨j, _, rfl⟩ := List.mem_map.mp hd
  exact Sh.row _
theorem shaped_rows (xs : List Int) (n : Nat) : SeqAt.shaped (.list (rowsD xs n)) = true := (rowsD_sh xs n).ok (by decide)
theorem dp_rows {K : PySem.W.Frag} {H : Hp} {xs : List Int} {n : Nat} {ys : List V} (hl : ys.length = n + 1) (h : ∀ j, j ≤ n → ∃ b, ys[j]? = some (.ref b) ∧ SqT K H b ((ro j xs).map V.int)) : DpAll K H ys (rowsD xs n) := by
  refine dpAll_of (by rw [hl, rowsD_len]) fun j v d h1 h2 => ?_
  have hj : j ≤ n := by
    have := (List.getElem?_eq_some_iff.mp h1).1
    omega
  obtain ⟨b, hb, hS⟩ := h j hj
  rw [h1] at hb
  rw [rowsD_at hj] at h2
  cases hb
  cases h2
  exact .tup hS (dp_ints _)
theorem eqv_same {d : PyData} {k : Nat} (s : Sh d k) : PyData.eqv d d = true := SeqAt.eqv_refl d s.lay
theorem Rw.ro {xs : List Int} (R : Rw xs) : ∀ n, Rw (ro n xs)
  | 0 => R
  | n + 1 => by
    have hl := ro_len xs (n + 1)
    have L := ro_lam xs n
    have h0 := R.lo
    have h1 := R.hi
    refine ⟨by omega, by omega, fun x hx => ?_⟩
    obtain ⟨i, hi, rfl⟩ := List.mem_iff_getElem.mp hx
    have e : g (Sx.ro (n + 1) xs) i = (Sx.ro (n + 1) xs)[i] := Option.some.inj ((g_get hi).symm.trans (List.getElem?_eq_getElem hi))
    rw [← e]
    have := L.lo i hi
    have := L.hi i hi
    omega
theorem nd_100 {xs : List Int} {n t : Nat} (h : Nd xs n) (hz : xs.length ≤ 100) (ht : fib (t + 2) ≤ xs.length) (ht2 : (xs.length : Int) < fib (t + 3)) : n ≤ 100 := by
  have := nd_most h ht2
  refine Classical.byContradiction fun c => ?_
  have h1 : fib 13 ≤ fib (t + 2) := fib_mono (s := 12) (t := t + 1) (by omega)
  have h2 : fib 13 = 233 := by decide
  omega
end Sx
namespace Sx
theorem nd_small {xs : List Int} {n : Nat} (h : Nd xs n) (hz : xs.length ≤ 100) : n ≤ 10 := by
  refine Classical.byContradiction fun c => ?_
  obtain ⟨k, rfl⟩ : ∃ k, n = k + 2 := ⟨n - 2, by omega⟩
  have h1 := nd_fib h
  have h2 : fib 13 ≤ fib (k + 4) := fib_mono (s := 12) (t := k + 3) (by omega)
  have h3 : fib 13 = 233 := by decide
  omega
end Sx

set_option Elab.async false
set_option linter.all false
namespace Sx
/-! ### rounds with weights -/
def tot (ws : List Int) (k : Nat) : Int := (ws.take k).sum
theorem tot_zero (ws : List Int) : tot ws 0 = 0 := by unfold tot; rw [List.take_zero]; rfl
theorem tot_succ {ws : List Int} {k : Nat} (h : k < ws.length) : tot ws (k + 1) = tot ws k + g ws k := by
  unfold tot
  rw [List.take_add_one, g_get h, List.sum_append]
  show _ + (g ws k + 0) = _
  omega
/-- weights for n places -/
structure Wt (ws : List Int) (n : Nat) : Prop where
  len : ws.length = n
  lo : ∀ x ∈ ws, 1 ≤ x
  hi : ∀ x ∈ ws, x ≤ 10 ^ 28
theorem Wt.at {ws : List Int} {n i : Nat} (h : Wt ws n) (hi : i < n) : 1 ≤ g ws i ∧ g ws i ≤ 10 ^ 28 := by
  have hm := List.mem_of_getElem? (g_get (xs := ws) (i := i) (by rw [h.len]; exact hi))
  exact ⟨h.lo _ hm, h.hi _ hm⟩
theorem tot_lt {ws : List Int} {n : Nat} (h : Wt ws n) {i j : Nat} (hij : i < j) (hj : j ≤ n) : tot ws i < tot ws j := by
  induction j with
  | zero => omega
  | succ j ih =>
    have e := tot_succ (ws := ws) (k := j) (by rw [h.len]; omega)
    have p := h.at (i := j) (by omega)
    by_cases c : i = j
    · subst c; omega
    · have := ih (by omega) (by omega); omega
theorem tot_le {ws : List Int} {n : Nat} (h : Wt ws n) {i j : Nat} (hij : i ≤ j) (hj : j ≤ n) : tot ws i ≤ tot ws j := by
  by_cases c : i = j
  · rw [c]; exact Int.le_refl _
  · exact Int.le_of_lt (tot_lt h (by omega) hj)
/-- the weights from behind the hinderer up to the place -/
def wv (ws xs : List Int) (i : Nat) : Int := tot ws (i + 1) - tot ws (bk xs (g xs i) i)
def wsp (ws xs : List Int) : List Int := (List.range xs.length).map (wv ws xs)
theorem wsp_len (ws xs : List Int) : (wsp ws xs).length = xs.length := by unfold wsp; rw [List.length_map, List.length_range]
theorem wsp_g {ws xs : List Int} {i : Nat} (h : i < xs.length) : g (wsp ws xs) i = wv ws xs i := by
  unfold wsp
  show ((List.range xs.length).map (wv ws xs)).getD i 0 = _
  rw [List.getD_eq_getElem?_getD, List.getElem?_map, List.getElem?_range h]; rfl
def wro (ws : List Int) : Nat → List Int → List Int
  | 0, xs => xs
  | n + 1, xs => wsp ws (wro ws n xs)
theorem wro_len (ws xs : List Int) : ∀ n, (wro ws n xs).length = xs.length
  | 0 => rfl
  | n + 1 => by show (wsp ws (wro ws n xs)).length = _; rw [wsp_len, wro_len ws xs n]
theorem wro_still {ws xs : List Int} {n : Nat} (h : wsp ws (wro ws n xs) = wro ws n xs) : ∀ k, wro ws (n + k) xs = wro ws n xs
  | 0 => rfl
  | k + 1 => by show wsp ws (wro ws (n + k) xs) = _; rw [wro_still h k, h]
theorem wro_far {ws xs : List Int} {n : Nat} (h : wsp ws (wro ws n xs) = wro ws n xs) (m : Nat) : wro ws m xs = wro ws (min m n) xs := by
  by_cases c : m ≤ n
  · rw [Nat.min_eq_left c]
  · rw [Nat.min_eq_right (by omega)]
    obtain ⟨k, rfl⟩ : ∃ k, m = n + k := ⟨m - n, by omega⟩
    exact wro_still h k
structure WNd (ws xs : List Int) (n : Nat) : Prop where
  still : wsp ws (wro ws n xs) = wro ws n xs
  least : ∀ k, k < n → wsp ws (wro ws k xs) ≠ wro ws k xs
theorem WNd.uniq {ws xs : List Int} {n m : Nat} (h1 : WNd ws xs n) (h2 : WNd ws xs m) : n = m := by
  rcases Nat.lt_trichotomy n m with h | h | h
  · exact absurd h1.still (h2.least n h)
  · exact h
  · exact absurd h2.still (h1.least m h)
/-- how far the place looks back in round t + 1 -/
def wb (ws xs : List Int) (t i : Nat) : Nat := bk (wro ws t xs) (g (wro ws t xs) i) i
theorem wb_le (ws xs : List Int) (t i : Nat) : wb ws xs t i ≤ i := bk_le _ _ _
theorem wro_g {ws xs : List Int} {t i : Nat} (h : i < xs.length) : g (wro ws (t + 1) xs) i = tot ws (i + 1) - tot ws (wb ws xs t i) := by
  show g (wsp ws (wro ws t xs)) i = _
  rw [wsp_g (by rw [wro_len]; exact h)]; rfl
/-- from the first round on no place looks back less -/
theorem wb_mono {ws xs : List Int} {t i : Nat} (W : Wt ws xs.length) (h : i < xs.length) : wb ws xs (t + 1) i ≤ wb ws xs t i := by
  refine Nat.le_of_not_lt fun c => ?_
  have hle := wb_le ws xs (t + 1) i
  have hp : 0 < bk (wro ws (t + 1) xs) (g (wro ws (t + 1) xs) i) i := by show 0 < wb ws xs (t + 1) i; omega
  have h1 := bk_ge hp
  have hj : wb ws xs (t + 1) i - 1 < i := by omega
  have hu : wb ws xs t i ≤ wb ws xs t (wb ws xs (t + 1) i - 1) := bk_under (xs := wro ws t xs) hj (by show wb ws xs t i ≤ _; omega)
  have e1 := wro_g (ws := ws) (xs := xs) (t := t) h
  have e2 := wro_g (ws := ws) (xs := xs) (t := t) (i := wb ws xs (t + 1) i - 1) (by omega)
  have h1 : g (wro ws (t + 1) xs) i ≤ g (wro ws (t + 1) xs) (wb ws xs (t + 1) i - 1) := h1
  have l1 := tot_lt W (i := wb ws xs (t + 1) i - 1 + 1) (j := i + 1) (by omega) (by omega)
  have l2 := tot_le W hu (by have := wb_le ws xs t (wb ws xs (t + 1) i - 1); omega)
  omega
theorem wro_ge {ws xs : List Int} {t i : Nat} (W : Wt ws xs.length) (h : i < xs.length) : g (wro ws (t + 1) xs) i ≤ g (wro ws (t + 2) xs) i := by
  rw [wro_g h, wro_g h]
  have := tot_le W (wb_mono (t := t) W h) (by have := wb_le ws xs t i; omega)
  omega
theorem wb_lt {ws xs : List Int} {t i : Nat} (W : Wt ws xs.length) (h : i < xs.length) (hg : g (wro ws (t + 1) xs) i < g (wro ws (t + 2) xs) i) : wb ws xs (t + 1) i < wb ws xs t i := by
  have := wb_mono (t := t) W h
  rcases Nat.lt_or_eq_of_le this with c | c
  · exact c
  · rw [wro_g h, wro_g h, c] at hg; omega
/-- a place that grows in round t + 2 has grown in each round from the second one on -/
theorem wgrow {ws xs : List Int} {i : Nat} (W : Wt ws xs.length) (h : i < xs.length) : ∀ t, g (wro ws (t + 1) xs) i < g (wro ws (t + 2) xs) i → wb ws xs (t + 1) i + (t + 1) ≤ i
  | 0, hg => by
    have := wb_lt W h hg
    have := wb_le ws xs 0 i
    omega
  | t + 1, hg => by
    have hlt : wb ws xs (t + 2) i < wb ws xs (t + 1) i := wb_lt (t := t + 1) W h hg
    have hb := wb_le ws xs (t + 1) i
    have h1 : g (wro ws (t + 1) xs) i ≤ g (wro ws (t + 1) xs) (wb ws xs (t + 1) i - 1) := bk_ge (xs := wro ws (t + 1) xs) (by show 0 < wb ws xs (t + 1) i; omega)
    have h2 : g (wro ws (t + 2) xs) (wb ws xs (t + 1) i - 1) < g (wro ws (t + 2) xs) i := bk_lt (xs := wro ws (t + 2) xs) (f := i) (by show wb ws xs (t + 2) i ≤ _; omega) (by omega)
    have h3 := wro_ge (t := t) (i := wb ws xs (t + 1) i - 1) W (by omega)
    have := wgrow W h t (by omega)
    show wb ws xs (t + 2) i + (t + 2) ≤ i
    omega
theorem wstill {ws xs : List Int} (W : Wt ws xs.length) (h0 : 1 ≤ xs.length) : wsp ws (wro ws xs.length xs) = wro ws xs.length xs := by
  obtain ⟨m, hm⟩ : ∃ m, xs.length = m + 1 := ⟨xs.length - 1, by omega⟩
  refine g_ext (by rw [wsp_len]) fun i hi => ?_
  rw [wsp_len, wro_len] at hi
  rw [hm]
  show g (wro ws (m + 2) xs) i = g (wro ws (m + 1) xs) i
  have h1 := wro_ge (t := m) W hi
  refine Classical.byContradiction fun c => ?_
  have := wgrow W hi m (by omega)
  omega
theorem wnd_any {ws xs : List Int} (W : Wt ws xs.length) (h0 : 1 ≤ xs.length) : ∃ n, n ≤ xs.length ∧ WNd ws xs n := by
  have key : ∀ m, wsp ws (wro ws m xs) = wro ws m xs → ∃ n, n ≤ m ∧ WNd ws xs n := by
    intro m
    induction m with
    | zero => intro h; exact ⟨0, Nat.le_refl 0, h, fun k hk => absurd hk (Nat.not_lt_zero _)⟩
    | succ m ih =>
      intro h
      by_cases c : ∃ k, k ≤ m ∧ wsp ws (wro ws k xs) = wro ws k xs
      · obtain ⟨k, hk, e⟩ := c
        have e2 : wsp ws (wro ws m xs) = wro ws m xs := by
          obtain ⟨d, rfl⟩ : ∃ d, m = k + d := ⟨m - k, by omega⟩
          rw [wro_still e d, e]
        obtain ⟨n, hn, H⟩ := ih e2
        exact ⟨n, by omega, H⟩
      · exact ⟨m + 1, Nat.le_refl _, h, fun k hk e => c ⟨k, by omega, e⟩⟩
  exact key _ (wstill W h0)
/-! #### equal weights -/
theorem bk_scale {xs ys : List Int} {c e : Int} (hc : 1 ≤ c) : ∀ {f : Nat}, (∀ j, j < f → g ys j = c * g xs j) → bk ys (c * e) f = bk xs e f := fun {f} h =>
  bk_congr fun j hj => by
    rw [h j hj]
    exact ⟨fun k => Int.lt_of_mul_lt_mul_left k (by omega), fun k => Int.mul_lt_mul_of_pos_left k (by omega)⟩
theorem same_tot {c : Int} {n : Nat} : ∀ k, k ≤ n → tot (List.replicate n c) k = c * k
  | 0, _ => by rw [tot_zero]; simp
  | k + 1, h => by
    have e := tot_succ (ws := List.replicate n c) (k := k) (by rw [List.length_replicate]; omega)
    have eg : g (List.replicate n c) k = c := by
      unfold g
      rw [List.getD_eq_getElem?_getD, List.getElem?_replicate, if_pos (by omega)]; rfl
    rw [e, same_tot k (by omega), eg]
    rw [show ((k + 1 : Nat) : Int) = (k : Int) + 1 by omega, Int.mul_add]
    omega
theorem g_scale {xs : List Int} {c : Int} {i : Nat} (h : i < xs.length) : g (xs.map (c * ·)) i = c * g xs i := by
  show (xs.map (c * ·)).getD i 0 = _
  rw [List.getD_eq_getElem?_getD, List.getElem?_map, g_get h]; rfl
theorem wsp_same {xs : List Int} {c : Int} : wsp (List.replicate xs.length c) xs = (spans xs).map (c * ·) := by
  refine g_ext (by rw [wsp_len, List.length_map, spans_len]) fun i hi => ?_
  rw [wsp_len] at hi
  rw [wsp_g hi, g_scale (by rw [spans_len]; exact hi), spans_g hi]
  unfold wv spn
  have hb := bk_le xs (g xs i) i
  rw [same_tot _ (by omega), same_tot _ (by omega), ← Int.mul_sub]
  congr 1
  omega
theorem spans_scale {xs : List Int} {c : Int} (hc : 1 ≤ c) : spans (xs.map (c * ·)) = spans xs := by
  refine spans_order (List.length_map ..) fun i j hi hj => ?_
  rw [List.length_map] at hi hj
  rw [g_scale hi, g_scale hj]
  exact ⟨fun k => Int.lt_of_mul_lt_mul_left k (by omega), fun k => Int.mul_lt_mul_of_pos_left k (by omega)⟩
theorem wro_same {xs : List Int} {c : Int} (hc : 1 ≤ c) : ∀ t, wro (List.replicate xs.length c) (t + 1) xs = (ro (t + 1) xs).map (c * ·)
  | 0 => wsp_same
  | t + 1 => by
    show wsp (List.replicate xs.length c) (wro (List.replicate xs.length c) (t + 1) xs) = _
    rw [wro_same hc t]
    have e := wsp_same (xs := (ro (t + 1) xs).map (c * ·)) (c := c)
    rw [List.length_map, ro_len] at e
    rw [e, spans_scale hc]; rfl
theorem map_one (xs : List Int) : xs.map ((1 : Int) * ·) = xs := by
  conv => rhs; rw [← List.map_id xs]
  exact List.map_congr_left fun x _ => Int.one_mul x
theorem wro_ones {xs : List Int} : ∀ t, wro (List.replicate xs.length 1) t xs = ro t xs
  | 0 => rfl
  | t + 1 => by rw [wro_same (by decide) t, map_one]
theorem wnd_ones {xs : List Int} {n m : Nat} (h1 : WNd (List.replicate xs.length 1) xs n) (h2 : Nd xs m) : n = m := by
  refine h1.uniq ⟨?_, fun k hk => ?_⟩
  · show wro (List.replicate xs.length 1) (m + 1) xs = _
    rw [wro_ones, wro_ones]; exact h2.still
  · show wro (List.replicate xs.length 1) (k + 1) xs ≠ _
    rw [wro_ones, wro_ones]; exact h2.least k hk
theorem wnd_calm {xs : List Int} {c : Int} {n m : Nat} (hc : 1 ≤ c) (h : Nd xs m) (h1 : WNd (List.replicate xs.length c) ((ro m xs).map (c * ·)) n) : n = 0 := by
  refine h1.uniq ⟨?_, fun k hk => absurd hk (Nat.not_lt_zero _)⟩
  show wsp (List.replicate xs.length c) ((ro m xs).map (c * ·)) = _
  have e := wsp_same (xs := (ro m xs).map (c * ·)) (c := c)
  rw [List.length_map, ro_len] at e
  rw [e, spans_scale hc, h.still]; rfl
/-! #### the front part -/
theorem tot_take {ws : List Int} {m k : Nat} (h : k ≤ m) : tot (ws.take m) k = tot ws k := by
  unfold tot
  rw [List.take_take, Nat.min_eq_left h]
theorem wsp_take (ws xs : List Int) (m : Nat) : wsp (ws.take m) (xs.take m) = (wsp ws xs).take m := by
  refine g_ext (by rw [wsp_len, List.length_take, List.length_take, wsp_len]) fun i hi => ?_
  rw [wsp_len, List.length_take] at hi
  rw [wsp_g (by rw [List.length_take]; exact hi), g_take (by omega), wsp_g (by omega)]
  unfold wv
  have hb := bk_le (xs.take m) (g (xs.take m) i) i
  rw [tot_take (by omega), tot_take (by omega), g_take (by omega), bk_congr (ys := xs) (e' := g xs i) fun j hj => by rw [g_take (by omega)]]
theorem wro_take (ws xs : List Int) (m : Nat) : ∀ t, wro (ws.take m) t (xs.take m) = (wro ws t xs).take m
  | 0 => rfl
  | t + 1 => by show wsp (ws.take m) (wro (ws.take m) t (xs.take m)) = _; rw [wro_take ws xs m t, wsp_take]; rfl
theorem Wt.take {ws : List Int} {n k : Nat} (h : Wt ws n) (hk : k ≤ n) : Wt (ws.take k) k :=
  ⟨by rw [List.length_take, h.len, Nat.min_eq_left hk], fun x hx => h.lo x (List.mem_of_mem_take hx), fun x hx => h.hi x (List.mem_of_mem_take hx)⟩
theorem Wt.same {c : Int} {n : Nat} (h1 : 1 ≤ c) (h2 : c ≤ 10 ^ 28) : Wt (List.replicate n c) n :=
  ⟨List.length_replicate, fun x hx => by rw [(List.mem_replicate.mp hx).2]; exact h1, fun x hx => by rw [(List.mem_replicate.mp hx).2]; exact h2⟩
theorem sum_cut {ws : List Int} {b e : Nat} (h : b ≤ e) : ((ws.drop b).take (e - b)).sum = tot ws e - tot ws b := by
  have : (ws.take e).sum = (ws.take b).sum + ((ws.drop b).take (e - b)).sum := by
    rw [← List.sum_append]
    congr 1
    have : ws.take e = ws.take (b + (e - b)) := by rw [show b + (e - b) = e by omega]
    rw [this, List.take_add]
  unfold tot
  omega
end Sx
namespace Sx
open PySem PySem.Spec
open PyProof.Rows L2
/-- a comprehension over enumerate of a tuple -/
theorem lc_enumT {K : PySem.W.Frag} {a : Addr} {xs : List V} {g : TG} {tt : TT} {te : TE} {vs : List Nat} {σ : L2.St} {H1 : Hp} {D : Addr} {Qd : Hp → Prop}
    (Pv : Nat → Hp → Prop) (h0 : Pv 0 (upd H1 D (.lst [])))
    (hl : ∀ i H, Pv i H → SqT K H a xs)
    (hs : ∀ i x T H, xs[i]? = some x → Pv i H → H T = none →
      g (.ref T) (wipe σ vs) (upd H T (.tup [.int (i : Nat), x])) fun σ2 H2 =>
        wipe σ2 vs = wipe σ vs ∧ tt σ2 H2 fun b H3 =>
          if b = true then te σ2 H3 fun y H4 =>
            ∃ acc, H4 D = some (.lst acc) ∧ acc.length < sizeLine ∧ Pv (i + 1) (upd H4 D (.lst (acc ++ [y])))
          else Pv (i + 1) H3)
    (hd : ∀ H, Pv xs.length H → Qd H) :
    ∃ W : Nat → Nat → Hp → Prop, (∃ m, W 0 m (upd H1 D (.lst []))) ∧ ∀ i m H, W i m H →
      ((ItE K a).stop i H ∧ Qd H) ∨
      ((ItE K a).go i H ∧ ∃ Nx : Hp → Prop, (∀ H', Nx H' → ∃ m', m' < m ∧ W (i + 1) m' H') ∧ ∀ x H', (ItE K a).yld i H x H' →
        g x (wipe σ vs) H' fun σ2 H2 =>
          wipe σ2 vs = wipe σ vs ∧ tt σ2 H2 fun b H3 =>
            if b = true then te σ2 H3 fun y H4 =>
              ∃ acc, H4 D = some (.lst acc) ∧ acc.length < sizeLine ∧ Nx (upd H4 D (.lst (acc ++ [y])))
            else Nx H3) := by
  refine ⟨fun i m H => i + m = xs.length ∧ Pv i H, ⟨xs.length, by omega, h0⟩, fun i m H ⟨e, p⟩ => ?_⟩
  have q := hl i H p
  by_cases hi : i < xs.length
  · refine .inr ⟨⟨xs, xs[i], q, List.getElem?_eq_getElem hi⟩, Pv (i + 1), fun H' p' => ⟨m - 1, by omega, by omega, p'⟩, ?_⟩
    rintro x H' ⟨T, y, rfl, hT, rfl, hy⟩
    exact hs i y T H (hy xs q) p hT
  · have : i = xs.length := by omega
    subst this
    exact .inl ⟨⟨xs, q, Nat.le_refl _⟩, hd H p⟩
/-- p holds the rows f 0 to f n -/
def Seqs (K : PySem.W.Frag) (H : Hp) (p : Addr) (f : Nat → List Int) (n : Nat) : Prop :=
  ∃ vs : List V, H p = some (.lst vs) ∧ vs.length = n + 1 ∧ ∀ j, j ≤ n → ∃ b, vs[j]? = some (.ref b) ∧ SqT K H b ((f j).map V.int)
theorem Seqs.ex {K : PySem.W.Frag} {H H' : Hp} {p : Addr} {f : Nat → List Int} {n : Nat} (h : Seqs K H p f n) (X : Ex H H') : Seqs K H' p f n := by
  obtain ⟨vs, h1, h2, h3⟩ := h
  refine ⟨vs, X _ _ h1, h2, fun j hj => ?_⟩
  obtain ⟨b, hb, hS⟩ := h3 j hj
  exact ⟨b, hb, Evl.ex_t X hS⟩
/-- the totals of the weights -/
def tots (ws : List Int) (n : Nat) : List Int := (List.range (n + 1)).map (tot ws)
theorem tots_len (ws : List Int) (n : Nat) : (tots ws n).length = n + 1 := by unfold tots; rw [List.length_map, List.length_range]
theorem tots_at {ws : List Int} {n k : Nat} (h : k ≤ n) : atI ((tots ws n).map V.int) ((k : Nat) : Int) = some (.int (tot ws k)) := by
  rw [atN (by rw [tots_len]; omega)]
  unfold tots
  show some (V.int (((List.range (n + 1)).map (tot ws)).getD k 0)) = _
  rw [List.getD_eq_getElem?_getD, List.getElem?_map, List.getElem?_range (by omega)]; rfl
theorem tots_succ (ws : List Int) (n : Nat) : tots ws (n + 1) = tots ws n ++ [tot ws (n + 1)] := by
  unfold tots
  rw [List.range_succ, List.map_append]; rfl
end Sx

set_option Elab.async false
set_option linter.all false
set_option maxRecDepth 100000
set_option maxHeartbeats 4000000
namespace Sx
open PySem PySem.Spec PyProof.Rows L2
/-! ### a tuple once -/
theorem tup_once (l : Addr) (us : Array Value) (n : Nat) (dd : Option Addr) (sl : Array (Option Value)) (u : Tok) :
    Meets (Builtin.«tuple.__mul__» ⟨[.ref l, .int 1 u], []⟩) (fun _ R s => s.heap.get? l = some { cls := .type "tuple", dict := dd, data := .seq us n, slots := sl } ∧
      R (.ok (.ret (Value.ref l))) s) :=
  .of_wp fun prog w A R s h => by
    obtain ⟨hp, gg, d, tk, os⟩ := s
    obtain ⟨hl, h⟩ := h
    have f1 := AutoSeq1.idx_int
    have c0 : (decide ((1 : Int) < -(2 ^ 63)) || decide ((1 : Int) ≥ 2 ^ 63)) = false := by decide
    have c1 : (us.isEmpty || (1 : Int) == 1) = true := by rw [show ((1 : Int) == 1) = true from rfl, Bool.or_true]
    wp_walk using AutoSeq1.wpAny_loadPart' hl
    repeat (first
      | (refine wpAny_ite_false (decide_eq_false (by rw [c0]; exact Bool.false_ne_true)) ?_; wp_walk using AutoSeq1.wpAny_loadPart' hl)
      | (refine wpAny_ite_true (decide_eq_true c1) ?_; wp_walk using AutoSeq1.wpAny_loadPart' hl))
    exact ⟨_, rfl, h⟩
section
variable {X : Cx}
theorem rep_one {α : Type} (xs : List α) : (List.replicate 1 xs).flatten = xs := by simp
def rRepA (K : PySem.W.Frag) : R2 := fun x y H Q => ∃ l k xs, x = V.ref l ∧ y = V.int k ∧ SqT K H l xs ∧ xs ≠ [] ∧ 1 ≤ k ∧ k ≤ 1000 ∧ xs.length ≤ 1000 ∧
  ∀ c H', Ex H H' → SqT K H' c (List.replicate k.toNat xs).flatten → Q (.ref c) H'
theorem op_repA : OpR X (binaryOp .Mult) (rRepA X.K) := by
  intro pins s σ H x y v u Q I rx ry h
  obtain ⟨l, k, xs, hx, hy, hT, hne, h1, h2, hz, q⟩ := h
  by_cases hk : 2 ≤ k
  · exact op_repT pins s σ H x y v u Q I rx ry ⟨l, k, xs, hx, hy, hT, hne, hk, h2, hz, fun p hp => q p _ (Evl.Ex.new hp) (SqT.of upd_same)⟩
  obtain rfl : k = 1 := by omega
  subst hx hy
  cases rx
  obtain ⟨t, rfl⟩ := ry
  obtain ⟨its, r, ⟨⟨cls, dd, data, sl⟩, ho, hc, n, hd⟩, hs⟩ := I.tuple hT
  simp only at hc hd
  subst hc hd
  refine wpAny_binaryOp_repeat_ref (T := "tuple") (U := "int") (by decide) ⟨_, ho, rfl⟩ (fun s' => typeIs_int s' 1 t) noFill_tuple_mul F.fills_int_mul F.slot_int_rmul repeat_tuple F.slot_int_index.lookup
    (call_meets F.slot_int_rmul (typeIs_int s 1 t) F.entry_int_rmul (F.args_int_rmul_2 _ _) (int_rmul_tuple 1 t l its.toArray n dd sl)
      ⟨ho, rfl, ⟨_, ho, rfl⟩, call_meets F.slot_tuple_mul ⟨_, ho, rfl⟩ F.entry_tuple_mul (F.args_tuple_mul_2 _ _) (tup_once l its.toArray n dd sl t) ⟨ho, ?_⟩⟩)
  refine ⟨.ref l, H, I, rfl, q l H (Evl.Ex.refl H) ?_⟩
  rw [show (1 : Int).toNat = 1 from rfl, rep_one]
  exact hT
end
theorem rep_flat {n : Nat} {c : Int} : (List.replicate n [V.int c]).flatten = (List.replicate n c).map V.int := by
  induction n with
  | zero => rfl
  | succ n ih => rw [List.replicate_succ, List.replicate_succ, List.flatten_cons, ih]; rfl
end Sx

set_option Elab.async false
set_option linter.all false
namespace Sx
open PySem PySem.Spec
open PyProof.Rows L2 Sx
/-- the state of the draws of the third kind -/
def Mug (H : Hp) (t : Addr) (m : Int) : Prop := ∃ x0 x1 x2 : Int, H t = some (.lst [.int x0, .int x1, .int x2]) ∧ 0 ≤ x1 ∧ x1 < 10 ^ 46 ∧ 0 ≤ x2 ∧ x2 ≤ m
theorem Mug.ex {H H' : Hp} {t : Addr} {m : Int} (T : Mug H t m) (e : Ex H H') : Mug H' t m := by
  obtain ⟨x0, x1, x2, h, r⟩ := T
  exact ⟨x0, x1, x2, e _ _ h, r⟩
theorem Mug.le {H : Hp} {t : Addr} {m n : Int} (T : Mug H t m) (h : m ≤ n) : Mug H t n := by
  obtain ⟨x0, x1, x2, h1, h2, h3, h4, h5⟩ := T
  exact ⟨x0, x1, x2, h1, h2, h3, h4, by omega⟩
theorem Mug.exB {H H' : Hp} {t b : Addr} {m : Int} (T : Mug H t m) (e : ExB b H H') (n : t ≠ b) : Mug H' t m := by
  obtain ⟨x0, x1, x2, h, r⟩ := T
  exact ⟨x0, x1, x2, e _ _ n h, r⟩
theorem Mug.get {H : Hp} {t : Addr} {m : Int} (T : Mug H t m) : ∃ xs, H t = some (.lst xs) := by
  obtain ⟨x0, x1, x2, h, r⟩ := T
  exact ⟨_, h⟩
theorem Mug.ne {H : Hp} {t b : Addr} {m : Int} (T : Mug H t m) (h : H b = none) : b ≠ t := by
  obtain ⟨_, hT⟩ := T.get
  exact (ne_of_none hT h).symm
theorem Mug.tup {K : PySem.W.Frag} {H H' : Hp} {t a : Addr} {m : Int} {xs : List V} (T : Mug H t m) (E : ExB t H H') (h : SqT K H a xs) : SqT K H' a xs := by
  obtain ⟨_, hT⟩ := T.get
  exact E.tup hT h
end Sx

set_option Elab.async false
set_option linter.all false
set_option maxRecDepth 100000
namespace Sx
open PySem PySem.Spec PyProof.Rows L2
section
variable {X : Cx}
/-- the ints a, a + c, .. -/
def rgC (a c : Int) (n : Nat) : List Int := (List.range n).map fun i => a + (i : Nat) * c
theorem vals_rgC {a c : Int} {n : Nat} {acc : Array Value} (h : ItemsOf (fun i v => ∃ t, v = .int (a + i * c) t) acc n) : Vals ((rgC a c n).map V.int) acc.toList := by
  have e : acc.toList.length = n := by rw [Array.length_toList]; exact h.1
  unfold rgC
  rw [← e, List.map_map]
  refine vals_of_get acc.toList _ fun j u hj => ?_
  obtain ⟨t, rfl⟩ := h.2 j u (by rw [← hj, Array.getElem?_toList])
  exact ⟨t, rfl⟩
def tTupC (ta : TA) : TE := fun σ H Q => ta σ H fun vs H1 => ∃ (i j c : Int) (n : Nat), vs = [.int i, .int j, .int c] ∧ RgC i j c n ∧ n ≤ 1000 ∧ ∀ q, H1 q = none → Q (.ref q) (upd H1 q (.tup ((rgC i c n).map V.int)))
/-- tuple(range(a, b, c)) -/
theorem pe_tupC {a b c : Expr} {ta : TA} {p p2 pos pos2 : Pos} (hc : X.calm = true) (ht : Gl X "tuple") (hmt : X.mg "tuple" = none) (hg : Gl X "range") (hm : X.mg "range" = none) (ha : PA X [a, b, c] ta)
    (hs : starEach [a, b, c] X.env = (false, eval a X.env) :: starEach [b, c] X.env := by rfl) (hpl : (backTo pos2 (starEach [b, c] X.env)).any (·.1) = false := by rfl)
    (na : starEach [.Call (.Name "range" p2) [a, b, c] [] pos2] X.env = (false, eval (.Call (.Name "range" p2) [a, b, c] [] pos2) X.env) :: starEach [] X.env := by rfl) :
    PE X (.Call (.Name "tuple" p) [.Call (.Name "range" p2) [a, b, c] [] pos2] [] pos) (tTupC ta) := by
  refine ⟨fun pins s σ H Q I h => ?_⟩
  refine Call_ (ld_blt I ht hmt boot_tuple (PyProof.Rows.callWith_type1 (args_cons ?_ na) na))
  refine Call_ (ld_blt I hg hm boot_range (PyProof.Rows.callWith_type1 (thn (ha.run pos2 pins s σ H _ I h) fun us s1 ⟨vs, H1, I1, r1, q1⟩ => ?_) hs hpl))
  obtain ⟨i, j, k, n, e, ⟨c0, c1, c2, c3⟩, hn, q⟩ := q1
  subst e
  cases r1 with
  | cons r rr =>
    cases rr with
    | cons r' rr =>
      cases rr with
      | cons r'' rr =>
        cases rr
        obtain ⟨t, rfl⟩ := r
        obtain ⟨t', rfl⟩ := r'
        obtain ⟨t'', rfl⟩ := r''
        refine call_range_3 c0 ?_ (.inl (PyProof.noPylong_small c1))
        refine args_nil ?_
        have I2 : Inv X pins σ H1 { s1 with heap := s1.heap.push { cls := .type "range", data := .fields #[.int i t, .int j t', .int k t''] } } := I1.kept (t' := s1.toks) fun b o e => Heap.get?_push_of_some _ e
        refine call_tuple_range (n := n) (I2.ok.hd hc) (IsRange.new ..) c2 c3 (by omega) fun h' tk acc hk hi => ?_
        have I3 : Inv X pins σ H1 { s1 with heap := h', toks := tk } := I2.kept hk
        refine ⟨.ref h'.objs.size, upd H1 h'.objs.size (.tup ((rgC i k n).map V.int)), I3.laid (t' := tk) (fun c o e => Heap.get?_push_of_some _ e) (Nat.le_refl _) (show ObjOk X.prog X.w _ _ _ (.tup ((rgC i k n).map V.int)) from ⟨?_, acc.toList, vals_rgC hi, ?_⟩), rfl, q _ (I3.hok.fresh (Nat.le_refl _))⟩
        · rw [List.length_map]; unfold rgC; rw [List.length_map, List.length_range, sizeLine_eq]; omega
        · rw [Array.toArray_toList]; exact IsTup.new _ _
end
end Sx

set_option Elab.async false
set_option linter.all false
set_option maxRecDepth 100000
namespace Sx
theorem wsp_order {ws xs ys : List Int} (hl : xs.length = ys.length) (h : ∀ i j, i < xs.length → j < xs.length → (g xs i < g xs j ↔ g ys i < g ys j)) : wsp ws xs = wsp ws ys := by
  refine g_ext (by rw [wsp_len, wsp_len, hl]) fun i hi => ?_
  rw [wsp_len] at hi
  rw [wsp_g hi, wsp_g (by omega)]
  unfold wv
  rw [bk_congr (ys := ys) (e' := g ys i) fun j hj => h j i (by omega) hi]
theorem wro_ext {ws xs ys : List Int} (h : wsp ws xs = wsp ws ys) : ∀ t, wro ws (t + 1) xs = wro ws (t + 1) ys
  | 0 => h
  | t + 1 => by show wsp ws (wro ws (t + 1) xs) = wsp ws (wro ws (t + 1) ys); rw [wro_ext h t]
theorem tot_scale {ws : List Int} {c : Int} : ∀ k, tot (ws.map (c * ·)) k = c * tot ws k
  | 0 => by rw [tot_zero, tot_zero, Int.mul_zero]
  | k + 1 => by
    by_cases h : k < ws.length
    · rw [tot_succ (by rw [List.length_map]; exact h), tot_succ h, tot_scale k, g_scale h, Int.mul_add]
    · have e1 : tot (ws.map (c * ·)) (k + 1) = tot (ws.map (c * ·)) k := by
        unfold tot
        rw [List.take_of_length_le (by rw [List.length_map]; omega), List.take_of_length_le (by rw [List.length_map]; omega)]
      have e2 : tot ws (k + 1) = tot ws k := by
        unfold tot
        rw [List.take_of_length_le (by omega), List.take_of_length_le (by omega)]
      rw [e1, e2, tot_scale k]
theorem wsp_scale {ws xs : List Int} {c : Int} : wsp (ws.map (c * ·)) xs = (wsp ws xs).map (c * ·) := by
  refine g_ext (by rw [wsp_len, List.length_map, wsp_len]) fun i hi => ?_
  rw [wsp_len] at hi
  rw [wsp_g hi, g_scale (by rw [wsp_len]; exact hi), wsp_g hi]
  unfold wv
  rw [tot_scale, tot_scale, ← Int.mul_sub]
theorem wsp_scaled {ws xs : List Int} {c : Int} (hc : 1 ≤ c) : wsp ws (xs.map (c * ·)) = wsp ws xs := by
  refine wsp_order (List.length_map ..) fun i j hi hj => ?_
  rw [List.length_map] at hi hj
  rw [g_scale hi, g_scale hj]
  exact ⟨fun k => Int.lt_of_mul_lt_mul_left k (by omega), fun k => Int.mul_lt_mul_of_pos_left k (by omega)⟩
theorem wro_scale {ws xs : List Int} {c : Int} (hc : 1 ≤ c) : ∀ t, wro (ws.map (c * ·)) (t + 1) xs = (wro ws (t + 1) xs).map (c * ·)
  | 0 => wsp_scale
  | t + 1 => by
    show wsp (ws.map (c * ·)) (wro (ws.map (c * ·)) (t + 1) xs) = _
    rw [wro_scale hc t, wsp_scaled hc, wsp_scale]; rfl
/-! #### growth -/
theorem wgrow1 {ws xs : List Int} {i t : Nat} (W : Wt ws xs.length) (h : i < xs.length) (hg : g (wro ws (t + 2) xs) i < g (wro ws (t + 3) xs) i) :
    g (wro ws (t + 1) xs) i < g (wro ws (t + 2) xs) i ∧ g (wro ws (t + 2) xs) i + g (wro ws (t + 1) xs) i ≤ g (wro ws (t + 3) xs) i := by
  have hlt : wb ws xs (t + 2) i < wb ws xs (t + 1) i := wb_lt (t := t + 1) W h hg
  have hb := wb_le ws xs (t + 1) i
  have h1 : g (wro ws (t + 1) xs) i ≤ g (wro ws (t + 1) xs) (wb ws xs (t + 1) i - 1) := bk_ge (xs := wro ws (t + 1) xs) (by show 0 < wb ws xs (t + 1) i; omega)
  have h2 : g (wro ws (t + 2) xs) (wb ws xs (t + 1) i - 1) < g (wro ws (t + 2) xs) i := bk_lt (xs := wro ws (t + 2) xs) (f := i) (by show wb ws xs (t + 2) i ≤ _; omega) (by omega)
  have hj : wb ws xs (t + 1) i - 1 < xs.length := by omega
  have h3 := wro_ge (t := t) W hj
  have h4 : g (wro ws (t + 2) xs) (wb ws xs (t + 1) i - 1) ≤ g (wro ws (t + 3) xs) (wb ws xs (t + 1) i - 1) := wro_ge (t := t + 1) W hj
  have hu : wb ws xs (t + 2) i ≤ wb ws xs (t + 2) (wb ws xs (t + 1) i - 1) := bk_under (xs := wro ws (t + 2) xs) (by omega) (by show wb ws xs (t + 2) i ≤ _; omega)
  have e3 : g (wro ws (t + 3) xs) i = _ := wro_g (t := t + 2) h
  have e2 : g (wro ws (t + 2) xs) i = _ := wro_g (t := t + 1) h
  have e4 : g (wro ws (t + 3) xs) (wb ws xs (t + 1) i - 1) = _ := wro_g (t := t + 2) hj
  have l := tot_le W hu (by have := wb_le ws xs (t + 2) (wb ws xs (t + 1) i - 1); omega)
  rw [show wb ws xs (t + 1) i - 1 + 1 = wb ws xs (t + 1) i by omega] at e4
  constructor
  · omega
  · omega
theorem wro_pos {ws xs : List Int} {i t : Nat} (W : Wt ws xs.length) (h : i < xs.length) : 1 ≤ g (wro ws (t + 1) xs) i := by
  rw [wro_g h]
  have hb := wb_le ws xs t i
  have := tot_le W (i := wb ws xs t i) (j := i) hb (by omega)
  have e := tot_succ (ws := ws) (k := i) (by rw [W.len]; exact h)
  have := (W.at h).1
  omega
theorem wgrow2 {ws xs : List Int} {i : Nat} (W : Wt ws xs.length) (h : i < xs.length) (hg : g (wro ws 1 xs) i < g (wro ws 2 xs) i) : 2 ≤ g (wro ws 1 xs) i ∧ 3 ≤ g (wro ws 2 xs) i := by
  have hlt : wb ws xs 1 i < wb ws xs 0 i := wb_lt (t := 0) W h hg
  have hb := wb_le ws xs 0 i
  have h2 : g (wro ws 1 xs) (wb ws xs 0 i - 1) < g (wro ws 1 xs) i := bk_lt (xs := wro ws 1 xs) (f := i) (by show wb ws xs 1 i ≤ _; omega) (by omega)
  have h3 := wro_pos (t := 0) W (i := wb ws xs 0 i - 1) (by omega)
  have h3 : 1 ≤ g (wro ws 1 xs) (wb ws xs 0 i - 1) := h3
  omega
theorem wgrow_fib {ws xs : List Int} {i : Nat} (W : Wt ws xs.length) (h : i < xs.length) : ∀ t, g (wro ws (t + 1) xs) i < g (wro ws (t + 2) xs) i → fib (t + 3) ≤ g (wro ws (t + 1) xs) i ∧ fib (t + 4) ≤ g (wro ws (t + 2) xs) i
  | 0, hg => wgrow2 W h hg
  | t + 1, hg => by
    obtain ⟨a, b⟩ := wgrow1 W h hg
    obtain ⟨c, d⟩ := wgrow_fib W h t a
    refine ⟨d, ?_⟩
    show fib (t + 3) + fib (t + 4) ≤ g (wro ws (t + 3) xs) i
    omega
theorem wnd_fib {ws xs : List Int} {n : Nat} (W : Wt ws xs.length) (h : WNd ws xs (n + 2)) : fib (n + 4) ≤ tot ws xs.length := by
  have hne : wsp ws (wro ws (n + 1) xs) ≠ wro ws (n + 1) xs := h.least (n + 1) (by omega)
  have : ∃ i, i < xs.length ∧ g (wro ws (n + 1) xs) i < g (wro ws (n + 2) xs) i := by
    refine Classical.byContradiction fun c => hne ?_
    refine (g_ext (by rw [wsp_len]) fun i hi => ?_).symm
    rw [wro_len] at hi
    have h1 := wro_ge (t := n) W hi
    have h2 : ¬ g (wro ws (n + 1) xs) i < g (wro ws (n + 2) xs) i := fun k => c ⟨i, hi, k⟩
    show g (wro ws (n + 1) xs) i = g (wro ws (n + 2) xs) i
    omega
  obtain ⟨i, hi, hg⟩ := this
  have h1 := (wgrow_fib W hi n hg).2
  have h2 : g (wro ws (n + 2) xs) i = _ := wro_g (t := n + 1) hi
  have h3 := tot_le W (i := 0) (j := wb ws xs (n + 1) i) (by omega) (by have := wb_le ws xs (n + 1) i; omega)
  have h4 := tot_le W (i := i + 1) (j := xs.length) (by omega) (by omega)
  rw [tot_zero] at h3
  omega
theorem tot_top {ws : List Int} {n : Nat} (W : Wt ws n) : ∀ k, k ≤ n → tot ws k ≤ 10 ^ 28 * k
  | 0, _ => by rw [tot_zero]; decide
  | k + 1, h => by
    have := tot_top W k (by omega)
    have e := tot_succ (ws := ws) (k := k) (by rw [W.len]; omega)
    have := (W.at (i := k) (by omega)).2
    omega
theorem rw_wro {ws xs : List Int} (W : Wt ws xs.length) (R : Rw xs) : ∀ n, Rw (wro ws n xs)
  | 0 => R
  | n + 1 => by
    have hl := wro_len ws xs (n + 1)
    have h0 := R.lo
    have h1 := R.hi
    refine ⟨by omega, by omega, fun x hx => ?_⟩
    obtain ⟨i, hi, rfl⟩ := List.mem_iff_getElem.mp hx
    have e : g (wro ws (n + 1) xs) i = (wro ws (n + 1) xs)[i] := Option.some.inj ((g_get hi).symm.trans (List.getElem?_eq_getElem hi))
    rw [← e]
    have hi : i < xs.length := by omega
    have p := wro_pos (t := n) W hi
    have e2 := wro_g (ws := ws) (t := n) hi
    have h3 := tot_le W (i := 0) (j := wb ws xs n i) (by omega) (by have := wb_le ws xs n i; omega)
    rw [tot_zero] at h3
    have h4 := tot_top W (i + 1) (by omega)
    omega
theorem wro_later {ws xs : List Int} (n : Nat) : ∀ t, wro ws t (wro ws n xs) = wro ws (n + t) xs
  | 0 => rfl
  | t + 1 => by show wsp ws (wro ws t (wro ws n xs)) = _; rw [wro_later n t]; rfl
theorem wnd_final {ws xs : List Int} {n m : Nat} (h : WNd ws xs n) (h2 : WNd ws (wro ws n xs) m) : m = 0 :=
  h2.uniq ⟨h.still, fun k hk => absurd hk (Nat.not_lt_zero _)⟩
/-! #### the slow rows -/
def pr : Nat → Int × Int
  | 0 => (1, 2)
  | k + 1 => ((pr k).2, if 10000000000000000000000000000 < (pr k).1 + (pr k).2 then 10000000000000000000000000000 else (pr k).1 + (pr k).2)
theorem pr_ok : ∀ k, 1 ≤ (pr k).1 ∧ (pr k).1 ≤ 10 ^ 28 ∧ 1 ≤ (pr k).2 ∧ (pr k).2 ≤ 10 ^ 28
  | 0 => by decide
  | k + 1 => by
    obtain ⟨a, b, c, d⟩ := pr_ok k
    show 1 ≤ (pr k).2 ∧ (pr k).2 ≤ 10 ^ 28 ∧ 1 ≤ (if 10000000000000000000000000000 < (pr k).1 + (pr k).2 then 10000000000000000000000000000 else (pr k).1 + (pr k).2) ∧ (if 10000000000000000000000000000 < (pr k).1 + (pr k).2 then 10000000000000000000000000000 else (pr k).1 + (pr k).2) ≤ 10 ^ 28
    refine ⟨c, d, ?_, ?_⟩ <;> split <;> omega
def fsl (m : Nat) : List Int := [2, 1] ++ (List.range m).map fun k => (pr k).2
theorem fsl_len (m : Nat) : (fsl m).length = m + 2 := by unfold fsl; rw [List.length_append, List.length_map, List.length_range]; show 2 + m = _; omega
theorem fsl_succ (m : Nat) : fsl (m + 1) = fsl m ++ [(pr m).2] := by unfold fsl; rw [List.range_succ, List.map_append, List.append_assoc]; rfl
theorem fsl_ok {m : Nat} {x : Int} (h : x ∈ fsl m) : 1 ≤ x ∧ x ≤ 10 ^ 28 := by
  unfold fsl at h
  rcases List.mem_append.mp h with h | h
  · simp only [List.mem_cons, List.not_mem_nil, or_false] at h
    rcases h with e | e <;> rw [e] <;> decide
  · obtain ⟨k, _, rfl⟩ := List.mem_map.mp h
    have := pr_ok k
    exact ⟨this.2.2.1, this.2.2.2⟩
def slowX (n : Nat) : List Int := rgC n (-1) n
def slowW (n : Nat) : List Int := (fsl (n - 2)).reverse
theorem slowW_wt {n : Nat} (h : 2 ≤ n) : Wt (slowW n) n :=
  ⟨by unfold slowW; rw [List.length_reverse, fsl_len]; omega, fun x hx => (fsl_ok (List.mem_reverse.mp hx)).1, fun x hx => (fsl_ok (List.mem_reverse.mp hx)).2⟩
theorem slowX_len (n : Nat) : (slowX n).length = n := by unfold slowX rgC; rw [List.length_map, List.length_range]
theorem slowX_rw {n : Nat} (h : 2 ≤ n) (h2 : n ≤ 100) : Rw (slowX n) := ⟨by rw [slowX_len]; omega, by rw [slowX_len]; exact h2, fun x hx => by
  unfold slowX rgC at hx
  obtain ⟨k, hk, rfl⟩ := List.mem_map.mp hx
  rw [List.mem_range] at hk
  omega⟩
/-- each round changes something -/
def wchk (ws : List Int) : Nat → List Int → Bool
  | 0, _ => true
  | k + 1, ys => (wsp ws ys != ys) && wchk ws k (wsp ws ys)
theorem wchk_ne {ws : List Int} : ∀ {n : Nat} {ys : List Int}, wchk ws n ys = true → ∀ k, k < n → wsp ws (wro ws k ys) ≠ wro ws k ys
  | 0, _, _, k, h => absurd h (Nat.not_lt_zero _)
  | n + 1, ys, h, k, hk => by
    unfold wchk at h
    rw [Bool.and_eq_true] at h
    cases k with
    | zero => exact bne_iff_ne.mp h.1
    | succ k =>
      have := wchk_ne h.2 k (by omega)
      have e : ∀ k, wro ws k (wsp ws ys) = wro ws (k + 1) ys := fun k => by
        induction k with
        | zero => rfl
        | succ k ih => show wsp ws (wro ws k (wsp ws ys)) = wsp ws (wro ws (k + 1) ys); rw [ih]
      rw [e] at this
      exact this
theorem slow_all : (List.range 42).all (fun n => decide (n < 2) || wchk (slowW n) n (slowX n)) = true := by decide +kernel
theorem slow_nd {n m : Nat} (h : 2 ≤ n) (h2 : n ≤ 41) (hm : WNd (slowW n) (slowX n) m) : m = n := by
  have h3 := List.all_eq_true.mp slow_all n (List.mem_range.mpr (by omega))
  rw [decide_eq_false (by omega), Bool.false_or] at h3
  have W := slowW_wt h
  have e := slowX_len n
  have hs := wstill (ws := slowW n) (xs := slowX n) (by rw [e]; exact W) (by omega)
  rw [e] at hs
  exact hm.uniq ⟨hs, wchk_ne h3⟩
end Sx
namespace Sx
theorem big_log {n : Int} (h0 : -10 ^ 30 ≤ n) (h : n ≤ 10 ^ 30) : n.natAbs.log2 < 1900 := by
  have := PySem.Flt.log2_lt_of (n := n.natAbs) (k := 120) (by decide) (by omega)
  omega
end Sx

set_option Elab.async false
set_option linter.all false
set_option maxRecDepth 100000
namespace Sx
open PySem PySem.Spec
open PyProof.Rows L2
/-- a loop over zip of two lists, as long as the shorter one -/
theorem for_zipM {K : PySem.W.Frag} {a b : Addr} {xs ys : List V} {g : TG} {tb : TS} {D : Ends} {σ : L2.St} {H : Hp} (Pv : Nat → L2.St → Hp → Prop) (h0 : Pv 0 σ H) (hq : ∀ i σ H, Pv i σ H → SqL K H a xs ∧ SqL K H b ys)
    (hs : ∀ (i : Nat) (x y : V) (T : Addr) (σ : L2.St) (H : Hp), xs[i]? = some x → ys[i]? = some y → Pv i σ H → H T = none → g (.ref T) σ (upd H T (.tup [x, y])) fun σ2 H2 => tb { D with nx := Pv (i + 1), ct := Pv (i + 1), bk := D.nx } σ2 H2) (hd : ∀ σ H, Pv (min xs.length ys.length) σ H → D.nx σ H) :
    ∃ W : Nat → Nat → L2.St → Hp → Prop, (∃ m, W 0 m σ H) ∧ ∀ i m σ H, W i m σ H →
      ((Itz K a b).stop i H ∧ D.nx σ H) ∨ ((Itz K a b).go i H ∧ ∃ N : L2.St → Hp → Prop, (∀ σ' H', N σ' H' → ∃ m', m' < m ∧ W (i + 1) m' σ' H') ∧ ∀ v H', (Itz K a b).yld i H v H' → g v σ H' fun σ2 H2 => tb { D with nx := N, ct := N, bk := D.nx } σ2 H2) := by
  refine ⟨fun i m σ H => i + m = min xs.length ys.length ∧ Pv i σ H, ⟨_, Nat.zero_add _, h0⟩, ?_⟩
  rintro i m σ H ⟨e, p⟩
  obtain ⟨qx, qy⟩ := hq i σ H p
  by_cases hlt : i < min xs.length ys.length
  · have hx : xs[i]? = some (xs[i]'(by omega)) := List.getElem?_eq_getElem (by omega)
    have hy : ys[i]? = some (ys[i]'(by omega)) := List.getElem?_eq_getElem (by omega)
    refine .inr ⟨⟨xs, ys, _, _, qx, qy, hx, hy⟩, Pv (i + 1), fun σ' H' p' => ⟨m - 1, by omega, by omega, p'⟩, fun v H' y => ?_⟩
    obtain ⟨T, x', y', rfl, hT, rfl, f1, f2⟩ := y
    exact hs i x' y' T σ H (f1 xs qx) (f2 ys qy) p hT
  · have e : i = min xs.length ys.length := by omega
    subst e
    exact .inl ⟨⟨xs, ys, qx, qy, by omega⟩, hd σ H p⟩
/-- a comprehension over zip of two tuples -/
theorem lc_zipT {K : PySem.W.Frag} {a b : Addr} {xs ys : List V} {g : TG} {tt : TT} {te : TE} {vs : List Nat} {σ : L2.St} {H1 : Hp} {D : Addr} {Qd : Hp → Prop}
    (Pv : Nat → Hp → Prop) (h0 : Pv 0 (upd H1 D (.lst [])))
    (hl : ∀ i H, Pv i H → SqT K H a xs ∧ SqT K H b ys)
    (hs : ∀ i x y T H, xs[i]? = some x → ys[i]? = some y → Pv i H → H T = none →
      g (.ref T) (wipe σ vs) (upd H T (.tup [x, y])) fun σ2 H2 =>
        wipe σ2 vs = wipe σ vs ∧ tt σ2 H2 fun b H3 =>
          if b = true then te σ2 H3 fun y H4 =>
            ∃ acc, H4 D = some (.lst acc) ∧ acc.length < sizeLine ∧ Pv (i + 1) (upd H4 D (.lst (acc ++ [y])))
          else Pv (i + 1) H3)
    (hd : ∀ H, Pv (min xs.length ys.length) H → Qd H) :
    ∃ W : Nat → Nat → Hp → Prop, (∃ m, W 0 m (upd H1 D (.lst []))) ∧ ∀ i m H, W i m H →
      ((RZ.ItzT K a b).stop i H ∧ Qd H) ∨
      ((RZ.ItzT K a b).go i H ∧ ∃ Nx : Hp → Prop, (∀ H', Nx H' → ∃ m', m' < m ∧ W (i + 1) m' H') ∧ ∀ x H', (RZ.ItzT K a b).yld i H x H' →
        g x (wipe σ vs) H' fun σ2 H2 =>
          wipe σ2 vs = wipe σ vs ∧ tt σ2 H2 fun b H3 =>
            if b = true then te σ2 H3 fun y H4 =>
              ∃ acc, H4 D = some (.lst acc) ∧ acc.length < sizeLine ∧ Nx (upd H4 D (.lst (acc ++ [y])))
            else Nx H3) := by
  refine ⟨fun i m H => i + m = min xs.length ys.length ∧ Pv i H, ⟨_, Nat.zero_add _, h0⟩, fun i m H ⟨e, p⟩ => ?_⟩
  obtain ⟨qx, qy⟩ := hl i H p
  by_cases hlt : i < min xs.length ys.length
  · have hx : xs[i]? = some (xs[i]'(by omega)) := List.getElem?_eq_getElem (by omega)
    have hy : ys[i]? = some (ys[i]'(by omega)) := List.getElem?_eq_getElem (by omega)
    refine .inr ⟨⟨xs, ys, _, _, qx, qy, hx, hy⟩, Pv (i + 1), fun H' p' => ⟨m - 1, by omega, by omega, p'⟩, ?_⟩
    rintro v H' ⟨T, x', y', rfl, hT, rfl, f1, f2⟩
    exact hs i x' y' T H (f1 xs qx) (f2 ys qy) p hT
  · have e : i = min xs.length ys.length := by omega
    subst e
    exact .inl ⟨⟨xs, ys, qx, qy, by omega⟩, hd H p⟩
end Sx
namespace Sx
open PySem PySem.Spec
open PyProof.Rows L2
theorem noPart_i {σ : L2.St} {H : Hp} {R : Option Int → Hp → Prop} (h : R none H) : tNoPart σ H R := h
end Sx

set_option Elab.async false
set_option linter.all false
set_option maxRecDepth 100000
set_option maxHeartbeats 1000000
namespace K38
open PySem PySem.Spec
open PyProof.Rows L2 Sx
def topS (i : Nat) : Stmt := PySem.Challenge.pw_spanrounds_k38_whole_weights_and_rounds.main.body.getD i (.Pass ⟨0, 0, 0, 0⟩)
abbrev s_is_int : Stmt := topS 10
theorem sc_is_int : FnScope ["value"] ["value"] (defScope s_is_int) := ⟨rfl, rfl, rfl, by decide +kernel, rfl, by decide +kernel, by decide +kernel⟩
abbrev s_is_whole : Stmt := topS 11
theorem sc_is_whole : FnScope ["value", "low", "high"] ["value", "low", "high"] (defScope s_is_whole) := ⟨rfl, rfl, rfl, by decide +kernel, rfl, by decide +kernel, by decide +kernel⟩
abbrev s_is_entry : Stmt := topS 12
theorem sc_is_entry : FnScope ["value"] ["value"] (defScope s_is_entry) := ⟨rfl, rfl, rfl, by decide +kernel, rfl, by decide +kernel, by decide +kernel⟩
abbrev s_check_place : Stmt := topS 13
theorem sc_check_place : FnScope ["place", "size"] ["place", "size"] (defScope s_check_place) := ⟨rfl, rfl, rfl, by decide +kernel, rfl, by decide +kernel, by decide +kernel⟩
abbrev s_check_rounds : Stmt := topS 14
theorem sc_check_rounds : FnScope ["rounds", "least"] ["rounds", "least"] (defScope s_check_rounds) := ⟨rfl, rfl, rfl, by decide +kernel, rfl, by decide +kernel, by decide +kernel⟩
abbrev s_is_row : Stmt := topS 16
theorem sc_is_row : FnScope ["value", "entry"] ["value"] (defScope s_is_row) := ⟨rfl, rfl, rfl, by decide +kernel, rfl, by decide +kernel, by decide +kernel⟩
abbrev s_check_row : Stmt := topS 17
theorem sc_check_row : FnScope ["row"] ["row"] (defScope s_check_row) := ⟨rfl, rfl, rfl, by decide +kernel, rfl, by decide +kernel, by decide +kernel⟩
abbrev s_all_spans : Stmt := topS 18
theorem sc_all_spans : FnScope ["row", "spans", "place", "entry", "front"] ["row"] (defScope s_all_spans) := ⟨rfl, rfl, rfl, by decide +kernel, rfl, by decide +kernel, by decide +kernel⟩
abbrev s_rows_until_still : Stmt := topS 19
theorem sc_rows_until_still : FnScope ["row", "rows", "following"] ["row"] (defScope s_rows_until_still) := ⟨rfl, rfl, rfl, by decide +kernel, rfl, by decide +kernel, by decide +kernel⟩
abbrev s_span_of : Stmt := topS 20
theorem sc_span_of : FnScope ["row", "place"] ["row", "place"] (defScope s_span_of) := ⟨rfl, rfl, rfl, by decide +kernel, rfl, by decide +kernel, by decide +kernel⟩
abbrev s_place_in_front : Stmt := topS 21
theorem sc_place_in_front : FnScope ["row", "place"] ["row", "place"] (defScope s_place_in_front) := ⟨rfl, rfl, rfl, by decide +kernel, rfl, by decide +kernel, by decide +kernel⟩
abbrev s_row_after : Stmt := topS 22
theorem sc_row_after : FnScope ["row", "rounds", "rows"] ["row", "rounds"] (defScope s_row_after) := ⟨rfl, rfl, rfl, by decide +kernel, rfl, by decide +kernel, by decide +kernel⟩
abbrev s_is_weights : Stmt := topS 25
theorem sc_is_weights : FnScope ["row", "value", "weight"] ["row", "value"] (defScope s_is_weights) := ⟨rfl, rfl, rfl, by decide +kernel, rfl, by decide +kernel, by decide +kernel⟩
abbrev s_check_weights : Stmt := topS 26
theorem sc_check_weights : FnScope ["row", "weights"] ["row", "weights"] (defScope s_check_weights) := ⟨rfl, rfl, rfl, by decide +kernel, rfl, by decide +kernel, by decide +kernel⟩
abbrev s_weighted_after : Stmt := topS 27
theorem sc_weighted_after : FnScope ["row", "weights", "rounds", "rows"] ["row", "weights", "rounds"] (defScope s_weighted_after) := ⟨rfl, rfl, rfl, by decide +kernel, rfl, by decide +kernel, by decide +kernel⟩
abbrev s_weighted_needed : Stmt := topS 28
theorem sc_weighted_needed : FnScope ["row", "weights"] ["row", "weights"] (defScope s_weighted_needed) := ⟨rfl, rfl, rfl, by decide +kernel, rfl, by decide +kernel, by decide +kernel⟩
abbrev s_weighted_rows : Stmt := topS 29
theorem sc_weighted_rows : FnScope ["row", "weights", "totals", "weight", "rows", "following"] ["row", "weights"] (defScope s_weighted_rows) := ⟨rfl, rfl, rfl, by decide +kernel, rfl, by decide +kernel, by decide +kernel⟩
abbrev s_weighted_spans : Stmt := topS 30
theorem sc_weighted_spans : FnScope ["row", "totals", "spans", "place", "span"] ["row", "totals"] (defScope s_weighted_spans) := ⟨rfl, rfl, rfl, by decide +kernel, rfl, by decide +kernel, by decide +kernel⟩
abbrev s_final_row : Stmt := topS 32
theorem sc_final_row : FnScope ["row"] ["row"] (defScope s_final_row) := ⟨rfl, rfl, rfl, by decide +kernel, rfl, by decide +kernel, by decide +kernel⟩
abbrev s_rounds_needed : Stmt := topS 33
theorem sc_rounds_needed : FnScope ["row"] ["row"] (defScope s_rounds_needed) := ⟨rfl, rfl, rfl, by decide +kernel, rfl, by decide +kernel, by decide +kernel⟩
abbrev s__law_mug : Stmt := topS 35
theorem sc__law_mug : FnScope ["script", "k", "cell"] ["script", "k"] (defScope s__law_mug) := ⟨rfl, rfl, rfl, by decide +kernel, rfl, by decide +kernel, by decide +kernel⟩
abbrev s__law_gulp : Stmt := topS 36
theorem sc__law_gulp : FnScope ["mug", "many", "found", "mixed"] ["mug", "many"] (defScope s__law_gulp) := ⟨rfl, rfl, rfl, by decide +kernel, rfl, by decide +kernel, by decide +kernel⟩
abbrev s__law_row : Stmt := topS 37
theorem sc__law_row : FnScope ["mug", "most", "many", "way", "found", "last", "turn", "some"] ["mug", "most"] (defScope s__law_row) := ⟨rfl, rfl, rfl, by decide +kernel, rfl, by decide +kernel, by decide +kernel⟩
abbrev s__law_loads : Stmt := topS 38
theorem sc__law_loads : FnScope ["mug", "many", "way", "found", "one", "two", "turn", "some"] ["mug", "many"] (defScope s__law_loads) := ⟨rfl, rfl, rfl, by decide +kernel, rfl, by decide +kernel, by decide +kernel⟩
abbrev s__law_slow : Stmt := topS 39
theorem sc__law_slow : FnScope ["many", "one", "two", "found"] ["many"] (defScope s__law_slow) := ⟨rfl, rfl, rfl, by decide +kernel, rfl, by decide +kernel, by decide +kernel⟩
abbrev s__law_equal_right : Stmt := topS 40
theorem sc__law_equal_right : FnScope ["mug", "row_here", "load", "often", "loads", "due", "told", "spot", "entry"] ["mug", "row_here"] (defScope s__law_equal_right) := ⟨rfl, rfl, rfl, by decide +kernel, rfl, by decide +kernel, by decide +kernel⟩
abbrev s__law_scaled_right : Stmt := topS 41
theorem sc__law_scaled_right : FnScope ["mug", "row_here", "loads", "factor", "often", "less", "wide", "told", "cut", "ranks", "other", "load", "entry"] ["mug", "row_here", "loads"] (defScope s__law_scaled_right) := ⟨rfl, rfl, rfl, by decide +kernel, rfl, by decide +kernel, by decide +kernel⟩
abbrev s__law_bound_right : Stmt := topS 42
theorem sc__law_bound_right : FnScope ["row_here", "loads", "many", "one", "two", "turn", "final"] ["row_here", "loads"] (defScope s__law_bound_right) := ⟨rfl, rfl, rfl, by decide +kernel, rfl, by decide +kernel, by decide +kernel⟩
abbrev s_law : Stmt := topS 43
theorem sc_law : FnScope ["script", "k", "mug", "most", "row_here", "loads"] ["script"] (defScope s_law) := ⟨rfl, rfl, rfl, by decide +kernel, rfl, by decide +kernel, by decide +kernel⟩
structure Top (mg : Str → Option Value) : Prop where
  isinstance : mg "isinstance" = none
  int : mg "int" = none
  bool : mg "bool" = none
  all : mg "all" = none
  tuple : mg "tuple" = none
  len : mg "len" = none
  enumerate : mg "enumerate" = none
  min : mg "min" = none
  max : mg "max" = none
  range : mg "range" = none
  list : mg "list" = none
  sorted : mg "sorted" = none
  set : mg "set" = none
  sum : mg "sum" = none
  c_MOST_ENTRIES : ∃ u, mg "MOST_ENTRIES" = some u ∧ RelV (.int 100) u
  c_GREATEST_ENTRY : ∃ u, mg "GREATEST_ENTRY" = some u ∧ RelV (.int 1000000000000000000000000000000) u
  c_MOST_ROUNDS : ∃ u, mg "MOST_ROUNDS" = some u ∧ RelV (.int 1000000000000000000000000000000) u
  c_GREATEST_WEIGHT : ∃ u, mg "GREATEST_WEIGHT" = some u ∧ RelV (.int 10000000000000000000000000000) u
section
variable {P : Program} {w : World} {K : PySem.W.Frag} {mg : Str → Option Value} {base : Heap}
def sp_is_int (K : PySem.W.Frag) : Sp := fun vs H Q _ => ∃ v, vs = [.int v] ∧ Q (.bl true) H
theorem ok_is_int {f : Addr} {fd : FuncData} (D : DefAt K mg "is_int" s_is_int ["value"] f fd) (T : Top mg)  :
    C8.Cal P w K mg base 1 "is_int" (sp_is_int K) [] := by
  refine D.cal sc_is_int (fun vs H Q E h => ?len) fun cdv A outer s H vs Q E hr h => ?body
  case len => obtain ⟨v, rfl, _⟩ := h; rfl
  obtain ⟨v, rfl, q⟩ := h
  refine ⟨_, (pss_one (ps_ret (pe_and (pe_callB call_isi (by rfl) T.isinstance (by decide +kernel) (pa_cons (pv 0) (pa_cons (pe_bltn (by rfl) T.int (by decide +kernel) (v := .ty "int") rfl) pa_nil))) (pe_one (pe_not (pe_callB call_isi (by rfl) T.isinstance (by decide +kernel) (pa_cons (pv 0) (pa_cons (pe_bltn (by rfl) T.bool (by decide +kernel) (v := .ty "bool") rfl) pa_nil)))))))), ?_⟩
  refine ⟨_, rfl, _, _, _, _, true, rfl, .ty "int", .base (.int v), kit_ty (by decide +kernel), true, rfl, ?_⟩
  refine iteT ⟨_, rfl, _, _, _, _, false, rfl, .ty "bool", .base (.int v), kit_ty (by decide +kernel), false, rfl, ?_⟩
  exact q
def sp_is_whole (K : PySem.W.Frag) : Sp := fun vs H Q _ => ∃ v lo hi, vs = [.int v, .int lo, .int hi] ∧ Q (.bl (decide (lo ≤ v ∧ v ≤ hi))) H
theorem ok_is_whole {f : Addr} {fd : FuncData} (D : DefAt K mg "is_whole" s_is_whole ["value", "low", "high"] f fd) (T : Top mg) (c_is_int : C8.Cal P w K mg base 1 "is_int" (sp_is_int K) []) :
    C8.Cal P w K mg base 2 "is_whole" (sp_is_whole K) [] := by
  refine D.cal sc_is_whole (fun vs H Q E h => ?len) fun cdv A outer s H vs Q E hr h => ?body
  case len => obtain ⟨v, lo, hi, rfl, _⟩ := h; rfl
  obtain ⟨v, lo, hi, rfl, q⟩ := h
  refine ⟨_, (pss_one (ps_ret (pe_and (C8.pe_c c_is_int hr (by decide) (by rfl) (pa_cons (pv 0) pa_nil)) (pe_one (pe_chain op_le op_le (pv 1) (pv 0) (pv 2)))))), ?_⟩
  refine ⟨_, rfl, _, rfl, true, rfl, ?_⟩
  refine iteT ⟨_, rfl, _, rfl, _, _, rfl, rfl, _, rfl, ite2 (fun h1 => ?_) fun h1 => ?_⟩
  · refine ⟨_, rfl, _, _, rfl, rfl, ?_⟩
    have e : decide (v ≤ hi) = decide (lo ≤ v ∧ v ≤ hi) := decide_eq_decide.mpr ⟨fun h => ⟨of_decide_eq_true h1, h⟩, fun h => h.2⟩
    show Q (.bl (decide (v ≤ hi))) H
    rw [e]; exact q
  · have e : false = decide (lo ≤ v ∧ v ≤ hi) := (decide_eq_false fun h => h1 (decide_eq_true h.1)).symm
    show Q (.bl false) H
    rw [e]; exact q
theorem ten30 : (10 : Int) ^ 30 = 1000000000000000000000000000000 := by decide
def sp_is_entry (K : PySem.W.Frag) : Sp := fun vs H Q _ => ∃ v, vs = [.int v] ∧ Q (.bl (decide (-10 ^ 30 ≤ v ∧ v ≤ 10 ^ 30))) H
theorem ok_is_entry {f : Addr} {fd : FuncData} (D : DefAt K mg "is_entry" s_is_entry ["value"] f fd) (T : Top mg) (c_is_whole : C8.Cal P w K mg base 2 "is_whole" (sp_is_whole K) []) :
    C8.Cal P w K mg base 3 "is_entry" (sp_is_entry K) [] := by
  refine D.cal sc_is_entry (fun vs H Q E h => ?len) fun cdv A outer s H vs Q E hr h => ?body
  case len => obtain ⟨v, rfl, _⟩ := h; rfl
  obtain ⟨v, rfl, q⟩ := h
  refine ⟨_, (pss_one (ps_ret (C8.pe_c c_is_whole hr (by decide) (by rfl) (pa_cons (pv 0) (pa_cons (pe_un un_neg (C8.pe_gc (by rfl) T.c_GREATEST_ENTRY)) (pa_cons (C8.pe_gc (by rfl) T.c_GREATEST_ENTRY) pa_nil)))))), ?_⟩
  refine ⟨_, rfl, _, rfl, _, _, _, rfl, ?_⟩
  rw [ten30] at q
  exact q
def sp_check_place (K : PySem.W.Frag) : Sp := fun vs H Q _ => ∃ v n, vs = [.int v, .int n] ∧ 0 ≤ v ∧ v < n ∧ Q .non H
theorem ok_check_place {f : Addr} {fd : FuncData} (D : DefAt K mg "check_place" s_check_place ["place", "size"] f fd) (T : Top mg) (c_is_whole : C8.Cal P w K mg base 2 "is_whole" (sp_is_whole K) []) :
    C8.Cal P w K mg base 3 "check_place" (sp_check_place K) [] := by
  refine D.cal sc_check_place (fun vs H Q E h => ?len) fun cdv A outer s H vs Q E hr h => ?body
  case len => obtain ⟨v, lo, rfl, _⟩ := h; rfl
  obtain ⟨v, n, rfl, h0, h1, q⟩ := h
  refine ⟨_, (pss_one (ps_if (pt_not (pt_val (C8.pe_c c_is_whole hr (by decide) (by rfl) (pa_cons (pv 0) (pa_cons pe_int (pa_cons (pe_op op_sub (pv 1) pe_int) pa_nil))))))
        (pss_one ps_never)
        pss_nil)), ?_⟩
  refine ⟨_, rfl, _, rfl, _, _, rfl, rfl, _, _, _, rfl, _, rfl, ?_⟩
  rw [decide_eq_true (show (0 : Int) ≤ v ∧ v ≤ n - 1 from ⟨h0, by omega⟩)]
  exact q
def sp_is_row (K : PySem.W.Frag) : Sp := fun vs H Q _ => ∃ a, ∃ xs : List Int, vs = [.ref a] ∧ SqT K H a (xs.map V.int) ∧ 1 ≤ xs.length ∧ xs.length ≤ 100 ∧ (∀ x ∈ xs, -10 ^ 30 ≤ x ∧ x ≤ 10 ^ 30) ∧ ∀ H', Ex H H' → Q (.bl true) H'
theorem ok_is_row {f : Addr} {fd : FuncData} (D : DefAt K mg "is_row" s_is_row ["value"] f fd) (T : Top mg) (c_is_entry : C8.Cal P w K mg base 3 "is_entry" (sp_is_entry K) []) :
    C8.Cal P w K mg base 4 "is_row" (sp_is_row K) [] := by
  refine D.cal sc_is_row (fun vs H Q E h => ?len) fun cdv A outer s H vs Q E hr h => ?body
  case len => obtain ⟨a, xs, rfl, _⟩ := h; rfl
  obtain ⟨a, xs, rfl, hS, h0, h1, hB, q⟩ := h
  refine ⟨_, (pss_cons (ps_if (PW.pt (pw_or (pt_not (pt_val (pe_callB call_isi (by rfl) T.isinstance (by decide +kernel) (pa_cons (pv 0) (pa_cons (pe_bltn (by rfl) T.tuple (by decide +kernel) (v := .ty "tuple") rfl) pa_nil))))) (pw_or1 (pt_not (pt_chain op_le op_le pe_int (pe_callB call_len_seq (by rfl) T.len (by decide +kernel) (pa_cons (pv 0) pa_nil)) (C8.pe_gc (by rfl) T.c_MOST_ENTRIES))))))
        (pss_one (ps_ret pe_bl))
        pss_nil)
      (pss_one (ps_ret (pe_callB (cr_all rfl) (by rfl) T.all (by decide +kernel) (pa_cons (pe_lc (own := [("entry", 1)]) (g := gName 1) (by rfl) sc_is_row.nd (pi_tup (pv 0)) (blkOk_by (own := [("entry", 1)]) (N := ["value", "entry"]) (sc := defScope s_is_row) (by decide +kernel)) (fun _ _ _ _ _ => (pg_name (i := 1) sc_is_row.nd rfl (.inl rfl))) (fun _ _ _ _ _ => pts_nil) (fun _ _ _ _ _ => (C8.pe_c c_is_entry hr (by decide) (by rfl) (pa_cons (pv 1) pa_nil)))) pa_nil))))), ?_⟩
  refine ⟨_, rfl, _, _, _, _, true, rfl, .ty "tuple", tyT hS, kit_ty (by decide +kernel), true, rfl, ?_⟩
  refine ⟨_, rfl, a, _, rfl, .inr hS, _, _, rfl, rfl, true, ?_, ?_⟩
  · rw [List.length_map]; exact congrArg V.bl (decide_eq_true (by omega))
  refine iteT ⟨_, _, rfl, rfl, true, ?_, ?_⟩
  · rw [List.length_map]; exact congrArg V.bl (decide_eq_true (by omega))
  refine ⟨_, rfl, a, rfl, ⟨_, hS⟩, fun D hD => ?_⟩
  refine lc_tup (K := K) (a := a) (xs := xs.map V.int) (fun i H' => Ex H H' ∧ H' D = some (.lst ((List.replicate i true).map V.bl))) ⟨Evl.Ex.new hD, upd_same⟩ (fun i H' _ h => Evl.ex_t h.1 hS) ?_ ?_
  · rintro i x H' hx ⟨hE, hH⟩
    have hi : i < xs.length := by
      have := (List.getElem?_eq_some_iff.mp hx).1
      rwa [List.length_map] at this
    obtain ⟨z, hz, rfl⟩ : ∃ z, z ∈ xs ∧ x = .int z := by
      rw [List.getElem?_map] at hx
      cases e : xs[i]? with
      | none => rw [e] at hx; cases hx
      | some z => rw [e] at hx; cases hx; exact ⟨z, List.mem_of_getElem? e, rfl⟩
    refine ⟨rfl, ?_⟩
    dsimp only [tYes]
    rw [if_pos rfl]
    have hz' : H' D = some (.lst ((List.replicate i true).map V.bl)) := hH
    refine ⟨_, rfl, _, rfl, ?_⟩
    rw [decide_eq_true (show -10 ^ 30 ≤ z ∧ z ≤ 10 ^ 30 from hB z hz)]
    refine ⟨_, hz', ?_, Evl.Ex.mut hE hD, ?_⟩
    · rw [List.length_map, List.length_replicate]; exact small1000 (by omega)
    · rw [upd_same, List.replicate_succ', List.map_append]; rfl
  · rintro H' ⟨hE, hH⟩
    refine ⟨D, _, rfl, SqL.of hH, ?_⟩
    have e : (List.replicate (xs.map V.int).length true).all id = true := by
      rw [List.all_eq_true]
      intro b hb
      rw [(List.mem_replicate.mp hb).2]; rfl
    rw [e]
    exact q H' hE
def sp_check_row (K : PySem.W.Frag) : Sp := fun vs H Q _ => ∃ a, ∃ xs : List Int, vs = [.ref a] ∧ SqT K H a (xs.map V.int) ∧ 1 ≤ xs.length ∧ xs.length ≤ 100 ∧ (∀ x ∈ xs, -10 ^ 30 ≤ x ∧ x ≤ 10 ^ 30) ∧ ∀ H', Ex H H' → Q .non H'
theorem ok_check_row {f : Addr} {fd : FuncData} (D : DefAt K mg "check_row" s_check_row ["row"] f fd) (T : Top mg) (c_is_row : C8.Cal P w K mg base 4 "is_row" (sp_is_row K) []) :
    C8.Cal P w K mg base 5 "check_row" (sp_check_row K) [] := by
  refine D.cal sc_check_row (fun vs H Q E h => ?len) fun cdv A outer s H vs Q E hr h => ?body
  case len => obtain ⟨a, xs, rfl, _⟩ := h; rfl
  obtain ⟨a, xs, rfl, hS, h0, h1, hB, q⟩ := h
  refine ⟨_, (pss_one (ps_if (pt_not (pt_val (C8.pe_c c_is_row hr (by decide) (by rfl) (pa_cons (pv 0) pa_nil))))
        (pss_one ps_never)
        pss_nil)), ?_⟩
  refine ⟨_, rfl, a, xs, rfl, hS, h0, h1, hB, fun H' hE => ⟨_, rfl, ?_⟩⟩
  show if (!true) = true then _ else _
  rw [if_neg (by decide)]
  exact q H' hE
def sp_check_rounds (K : PySem.W.Frag) : Sp := fun vs H Q _ => ∃ v, vs = [.int v, .int 0] ∧ 0 ≤ v ∧ v ≤ 10 ^ 30 ∧ Q .non H
theorem fo_check_rounds {f : Addr} {fd : FuncData} (D : DefAtP K mg "check_rounds" s_check_rounds ["rounds", "least"] [.int 0] f fd) (T : Top mg) (c_is_whole : C8.Cal P w K mg base 2 "is_whole" (sp_is_whole K) []) :
    FnOk P w K mg base CX0 3 f fd ["rounds", "least"] (sp_check_rounds K) := by
  refine D.fok sc_check_rounds (fun vs H Q E h => ?len) fun cdv A outer s H vs Q E hr h => ?body
  case len => obtain ⟨v, rfl, _⟩ := h; rfl
  obtain ⟨v, rfl, h0, h1, q⟩ := h
  refine ⟨_, (pss_one (ps_if (pt_not (pt_val (C8.pe_c c_is_whole hr (by decide) (by rfl) (pa_cons (pv 0) (pa_cons (pv 1) (pa_cons (C8.pe_gc (by rfl) T.c_MOST_ROUNDS) pa_nil))))))
        (pss_one ps_never)
        pss_nil)), ?_⟩
  refine ⟨_, rfl, _, rfl, _, _, _, rfl, _, rfl, ?_⟩
  rw [decide_eq_true (show (0 : Int) ≤ v ∧ v ≤ 1000000000000000000000000000000 from ⟨h0, h1⟩)]
  exact q
def sp_all_spans (K : PySem.W.Frag) : Sp := fun vs H Q _ => ∃ a, ∃ xs : List Int, vs = [.ref a] ∧ SqT K H a (xs.map V.int) ∧ xs.length ≤ 200 ∧
  ∀ p H', H p = none → Ex H H' → H' p = some (.tup ((spans xs).map V.int)) → Q (.ref p) H'
theorem ok_all_spans {f : Addr} {fd : FuncData} (D : DefAt K mg "all_spans" s_all_spans ["row"] f fd) (T : Top mg)  :
    C8.Cal P w K mg base 1 "all_spans" (sp_all_spans K) [] := by
  refine D.cal sc_all_spans (fun vs H Q E h => ?len) fun cdv A outer s H vs Q E hr h => ?body
  case len => obtain ⟨a, xs, rfl, _⟩ := h; rfl
  obtain ⟨a, xs, rfl, hS, hz, q⟩ := h
  refine ⟨_, (pss_cons (ps_set (i := 1) sc_all_spans.nd rfl (.inl rfl) (pe_lst pa_nil))
      (pss_cons (ps_for PassesOwn.never rfl (pi_enumT (by rfl) T.enumerate (pa_cons (pv 0) pa_nil)) (pg_tup rfl (pgs_cons (pg_name (i := 2) sc_all_spans.nd rfl (.inl rfl)) (pgs_cons (pg_name (i := 3) sc_all_spans.nd rfl (.inl rfl)) pgs_nil)))
        (pss_cons (ps_set (i := 4) sc_all_spans.nd rfl (.inl rfl) (pe_op op_sub (pv 2) pe_int))
          (pss_cons (ps_while PassesOwn.never (PW.pt (pw_and (pt_cmpR op_ge (pv 4) pe_int (nomark _)) (pw_and1 (pt_cmpR op_lt (pe_ix ix_tup (pv 0) (pv 4) (fun _ _ => rfl)) (pv 3) (nomark _)))))
            (pss_one (ps_set (i := 4) sc_all_spans.nd rfl (.inl rfl) (pe_op op_sub (pv 4) (pe_ix ix_list (pv 1) (pv 4) (fun _ _ => rfl))))))
          (pss_one (ps_expr (pe_bm PySem.F.plainAttrs_list PySem.F.slot_list_append PySem.F.type_list_append mt_append (pv 1) (pa_cons (pe_op op_sub (pv 2) (pv 4)) pa_nil)))))))
      (pss_one (ps_ret (pe_callTy call_tuple_of (by rfl) T.tuple (by decide +kernel) (pa_cons (pv 1) pa_nil)))))), ?_⟩
  refine ⟨Nat.zero_le _, fun fl hfl => ?_⟩
  have X0 := Evl.Ex.new (o := .lst []) hfl
  refine ⟨_, rfl, a, _, rfl, Evl.ex_t X0 hS, ?_⟩
  refine for_enumT (K := K) (a := a) (xs := xs.map V.int) (fun i σ H' => Ex H H' ∧ H' fl = some (.lst (((spans xs).take i).map V.int)) ∧ ∃ y2 y3 y4 : Option V, σ = [some (.ref a), some (.ref fl), y2, y3, y4])
    ⟨X0, upd_same, _, _, _, rfl⟩ (fun i σ H' h => Evl.ex_t h.1 hS) ?_ ?_
  · rintro i x T' σ H1 hx ⟨X1, hfl1, y2, y3, y4, rfl⟩ hT
    have hi : i < xs.length := by
      have := (List.getElem?_eq_some_iff.mp hx).1
      rwa [List.length_map] at this
    have ex : x = .int (g xs i) := by
      rw [List.getElem?_map, g_get hi] at hx
      exact (Option.some.inj hx).symm
    subst ex
    have X2 := Evl.Ex.new (o := .tup [.int (i : Nat), .int (g xs i)]) hT
    have hS2 := Evl.ex_t (X1.trans X2) hS
    have hfl2 := X2 _ _ hfl1
    refine ⟨T', _, rfl, SqT.of upd_same, rfl, _, _, rfl, _, _, rfl, rfl, ?_⟩
    refine ⟨_, rfl, _, _, rfl, rfl, ?_⟩
    generalize upd H1 T' (.tup [.int (i : Nat), .int (g xs i)]) = H2 at X2 hS2 hfl2 ⊢
    refine ⟨fun m σ H' => H' = H2 ∧ ∃ f : Nat, σ = [some (.ref a), some (.ref fl), some (.int i), some (.int (g xs i)), some (.int ((f : Int) - 1))] ∧ f ≤ i ∧ bk xs (g xs i) f = bk xs (g xs i) i ∧ m = f, ⟨i, rfl, i, rfl, Nat.le_refl _, rfl, rfl⟩, ?_⟩
    rintro m σ H' ⟨rfl, f, rfl, hf, hb, rfl⟩
    refine ⟨_, rfl, _, _, rfl, rfl, _, rfl, ?_⟩
    refine ite2 (fun t => ?inA) fun t => ?inB
    case' inA =>
      have t : (0 : Int) ≤ (m : Int) - 1 := of_decide_eq_true t
      have em : (m : Int) - 1 = ((m - 1 : Nat) : Int) := by omega
      have hat : atI (xs.map V.int) ((m : Int) - 1) = some (.int (g xs (m - 1))) := by rw [em]; exact atN (by omega)
      refine ⟨_, rfl, _, rfl, a, _, _, _, rfl, rfl, hS2, hat, _, rfl, _, _, rfl, rfl, _, rfl, ?_⟩
      refine ite2 (fun t2 => ?inC) fun t2 => ?inD
      case' inC =>
        have t2 : g xs (m - 1) < g xs i := of_decide_eq_true t2
        refine ⟨_, fun _ _ h => h, ?_⟩
        have hat2 : atI (((spans xs).take i).map V.int) ((m : Int) - 1) = some (.int (spn xs (m - 1))) := by
          rw [em, atN (by rw [List.length_take, spans_len]; omega), g_take (by omega), spans_g (by omega)]
        refine ⟨_, rfl, _, rfl, _, rfl, fl, _, _, _, rfl, rfl, SqL.of hfl2, hat2, _, _, rfl, rfl, bk xs (g xs (m - 1)) (m - 1), ?_, rfl, bk xs (g xs (m - 1)) (m - 1), ?_, ?_, ?_, rfl⟩
        · have := bk_le xs (g xs (m - 1)) (m - 1); omega
        · have e5 : (m : Int) - 1 - spn xs (m - 1) = (bk xs (g xs (m - 1)) (m - 1) : Int) - 1 := by unfold spn; omega
          exact congrArg (fun z => [some (V.ref a), some (V.ref fl), some (V.int i), some (V.int (g xs i)), some (V.int z)]) e5
        · have := bk_le xs (g xs (m - 1)) (m - 1); omega
        · rw [← bk_skip t2, show m - 1 + 1 = m by omega]; exact hb
      case' inD =>
        have hm : bk xs (g xs i) m = m := by
          have t2 : ¬ g xs (m - 1) < g xs i := fun h => t2 (decide_eq_true h)
          obtain ⟨k, rfl⟩ : ∃ k, m = k + 1 := ⟨m - 1, by omega⟩
          show (if g xs k < g xs i then bk xs (g xs i) k else k + 1) = k + 1
          rw [if_neg (show ¬ g xs k < g xs i from t2)]
    case' inB =>
      have t : ¬ (0 : Int) ≤ (m : Int) - 1 := fun h => t (decide_eq_true h)
      have hm : bk xs (g xs i) m = m := by
        have e0 : m = 0 := by omega
        rw [e0]; rfl
      refine iteF ?_
    all_goals
      refine ⟨_, rfl, .inl ⟨rfl, _, SqL.of hfl2⟩, _, rfl, _, rfl, _, _, rfl, rfl, fl, _, _, rfl, rfl, hfl2, ?_, ?_⟩
      · rw [List.length_map, List.length_take]; exact small1000 (by omega)
      · refine ⟨Evl.Ex.mut (X1.trans X2) hfl, ?_, _, _, _, rfl⟩
        rw [upd_same, List.take_add_one]
        have hg : (spans xs)[i]? = some ((i : Int) - ((m : Int) - 1)) := by
          rw [g_get (by rw [spans_len]; exact hi), spans_g hi]
          unfold spn
          rw [← hb, hm]
          exact congrArg some (by omega)
        rw [hg, List.map_append]
        rfl
  · rintro σ H1 ⟨X1, hfl1, y2, y3, y4, rfl⟩
    rw [List.length_map, List.take_of_length_le (by rw [spans_len]; exact Nat.le_refl _)] at hfl1
    refine ⟨_, rfl, fl, _, rfl, .inl ⟨SqL.of hfl1, fun r hr' => ?_⟩⟩
    exact q r _ (Evl.fresh_back X1 hr') (X1.trans (Evl.Ex.new hr')) upd_same
end
end K38

set_option Elab.async false
set_option linter.all false
set_option maxRecDepth 100000
set_option maxHeartbeats 1000000
namespace K38
open PySem PySem.Spec
open PyProof.Rows L2 Sx
section
variable {P : Program} {w : World} {K : PySem.W.Frag} {mg : Str → Option Value} {base : Heap}
def sp_rows_until_still (K : PySem.W.Frag) : Sp := fun vs H Q _ => ∃ a, ∃ xs : List Int, vs = [.ref a] ∧ SqT K H a (xs.map V.int) ∧ xs.length ≤ 100 ∧
  ∀ p H' n, H p = none → Ex H H' → Nd xs n → n ≤ 10001 → Rws K H' p xs n → Q (.ref p) H'
theorem ok_rows_until_still {f : Addr} {fd : FuncData} (D : DefAt K mg "rows_until_still" s_rows_until_still ["row"] f fd) (T : Top mg) (c_all_spans : C8.Cal P w K mg base 1 "all_spans" (sp_all_spans K) []) :
    C8.Cal P w K mg base 2 "rows_until_still" (sp_rows_until_still K) [] := by
  refine D.cal sc_rows_until_still (fun vs H Q E h => ?len) fun cdv A outer s H vs Q E hr h => ?body
  case len => obtain ⟨a, xs, rfl, _⟩ := h; rfl
  obtain ⟨a, xs, rfl, hS, hz, q⟩ := h
  refine ⟨_, (pss_cons (ps_set (i := 1) sc_rows_until_still.nd rfl (.inl rfl) (pe_lst (pa_cons (pv 0) pa_nil)))
      (pss_cons (ps_set (i := 2) sc_rows_until_still.nd rfl (.inl rfl) (C8.pe_c c_all_spans hr (by decide) (by rfl) (pa_cons (pv 0) pa_nil)))
      (pss_cons (ps_while PassesOwn.never (pt_cmpR (op_neD hr.units) (pv 2) (pe_ix ix_list (pv 1) (pe_un un_neg pe_int) (fun _ _ => rfl)) (nomark _))
        (pss_cons (ps_expr (pe_bm PySem.F.plainAttrs_list PySem.F.slot_list_append PySem.F.type_list_append mt_append (pv 1) (pa_cons (pv 2) pa_nil)))
          (pss_one (ps_set (i := 2) sc_rows_until_still.nd rfl (.inl rfl) (C8.pe_c c_all_spans hr (by decide) (by rfl) (pa_cons (pv 2) pa_nil))))))
      (pss_one (ps_ret (pv 1)))))), ?_⟩
  obtain ⟨n, hn, hnd⟩ := nd_any xs hz
  refine ⟨_, rfl, by show 1 ≤ sizeLine; decide, fun p hp => ?_⟩
  have X0 := Evl.Ex.new (o := .lst [.ref a]) hp
  refine ⟨_, rfl, a, xs, rfl, Evl.ex_t X0 hS, by omega, fun fl H1 hfl X1 hfl1 => ?_⟩
  refine ⟨fun m σ H' => ∃ k f, k + m = n ∧ Ex H H' ∧ σ = [some (.ref a), some (.ref p), some (.ref f)] ∧ H' f = some (.tup ((ro (k + 1) xs).map V.int)) ∧ Rws K H' p xs k, ⟨n, 0, fl, by omega, X0.trans X1, rfl, hfl1, ?_⟩, ?_⟩
  · refine ⟨_, X1 _ _ upd_same, rfl, fun j hj => ?_⟩
    have e0 : j = 0 := by omega
    subst e0
    exact ⟨a, rfl, Evl.ex_t (X0.trans X1) hS⟩
  rintro m σ H2 ⟨k, f, hkm, X2, rfl, hf, vs, hv, hvl, hR⟩
  obtain ⟨b, hb, hbS⟩ := hR k (Nat.le_refl k)
  have hat : atI vs (-1) = some (.ref b) := by
    rw [atI_last hvl]; exact hb
  refine ⟨_, rfl, _, rfl, _, rfl, p, _, _, _, rfl, rfl, SqL.of hv, hat, .tuple ((ro (k + 1) xs).map PyData.int), .tuple ((ro k xs).map PyData.int), .tup (SqT.of hf) (dp_ints _), .tup hbS (dp_ints _), shaped_tup _, shaped_tup _, _, rfl, ?_⟩
  rw [eqv_tup]
  by_cases hc : ro (k + 1) xs = ro k xs
  · rw [decide_eq_true hc]
    have hk : k = n := by
      rcases Nat.lt_trichotomy k n with h | h | h
      · exact absurd hc (hnd.least k h)
      · exact h
      · omega
    subst hk
    refine iteF ?_
    refine ⟨_, rfl, ?_⟩
    exact q p H2 k hp X2 hnd hn ⟨vs, hv, hvl, hR⟩
  · rw [decide_eq_false hc]
    have hk : k ≠ n := fun e => hc (by subst e; exact hnd.still)
    refine iteT ?_
    refine ⟨_, fun _ _ h => h, ?_⟩
    refine ⟨_, rfl, .inl ⟨rfl, _, SqL.of hv⟩, _, rfl, p, _, _, rfl, rfl, hv, ?_, ?_⟩
    · rw [hvl]; exact Nat.lt_of_le_of_lt (by omega) (show 10002 < sizeLine by decide)
    have X3 : Ex H (upd H2 p (.lst (vs ++ [.ref f]))) := Evl.Ex.mut X2 hp
    have nf : f ≠ p := by rintro rfl; rw [hf] at hv; cases hv
    have hf3 : (upd H2 p (.lst (vs ++ [.ref f]))) f = some (.tup ((ro (k + 1) xs).map V.int)) := by rw [upd_ne nf]; exact hf
    refine ⟨_, rfl, f, ro (k + 1) xs, rfl, SqT.of hf3, by rw [ro_len]; omega, fun f2 H4 hf2 X4 hf4 => ?_⟩
    refine ⟨m - 1, by omega, k + 1, f2, by omega, X3.trans X4, rfl, hf4, ?_⟩
    refine ⟨vs ++ [.ref f], X4 _ _ upd_same, by rw [List.length_append, hvl]; rfl, fun j hj => ?_⟩
    by_cases e : j = k + 1
    · subst e
      refine ⟨f, ?_, Evl.ex_t X4 (SqT.of hf3)⟩
      rw [List.getElem?_append_right (by omega), hvl]; simp
    · obtain ⟨b, hb, hbS⟩ := hR j (by omega)
      refine ⟨b, by rw [List.getElem?_append_left (by omega)]; exact hb, ?_⟩
      exact Evl.ex_t X4 (sqT_mut hbS hv)
def sp_place_in_front (K : PySem.W.Frag) : Sp := fun vs H Q _ => ∃ a, ∃ xs : List Int, ∃ i : Nat, vs = [.ref a, .int i] ∧ SqT K H a (xs.map V.int) ∧ Rw xs ∧ i < xs.length ∧ ∀ H', Ex H H' → Q (.int ((bk xs (g xs i) i : Int) - 1)) H'
theorem ok_place_in_front {f : Addr} {fd : FuncData} (D : DefAt K mg "place_in_front" s_place_in_front ["row", "place"] f fd) (T : Top mg) (c_check_row : C8.Cal P w K mg base 5 "check_row" (sp_check_row K) []) (c_check_place : C8.Cal P w K mg base 3 "check_place" (sp_check_place K) []) (c_all_spans : C8.Cal P w K mg base 1 "all_spans" (sp_all_spans K) []) :
    C8.Cal P w K mg base 6 "place_in_front" (sp_place_in_front K) [] := by
  refine D.cal sc_place_in_front (fun vs H Q E h => ?len) fun cdv A outer s H vs Q E hr h => ?body
  case len => obtain ⟨a, xs, i, rfl, _⟩ := h; rfl
  obtain ⟨a, xs, i, rfl, hS, R, hi, q⟩ := h
  refine ⟨_, (pss_cons (ps_expr (C8.pe_c c_check_row hr (by decide) (by rfl) (pa_cons (pv 0) pa_nil)))
      (pss_cons (ps_expr (C8.pe_c c_check_place hr (by decide) (by rfl) (pa_cons (pv 1) (pa_cons (pe_callB call_len_seq (by rfl) T.len (by decide +kernel) (pa_cons (pv 0) pa_nil)) pa_nil))))
      (pss_one (ps_ret (pe_op op_sub (pv 1) (pe_ix ix_tup (C8.pe_c c_all_spans hr (by decide) (by rfl) (pa_cons (pv 0) pa_nil)) (pv 1) (fun _ _ => rfl))))))), ?_⟩
  refine ⟨_, rfl, a, xs, rfl, hS, R.lo, R.hi, R.ok, fun H1 X1 => ?_⟩
  refine ⟨_, rfl, _, rfl, a, _, rfl, .inr (Evl.ex_t X1 hS), _, _, rfl, by omega, by rw [List.length_map]; omega, ?_⟩
  refine ⟨_, rfl, _, rfl, a, xs, rfl, Evl.ex_t X1 hS, by have := R.hi; omega, fun p H2 hp X2 hp2 => ?_⟩
  refine ⟨_, rfl, p, _, _, _, rfl, rfl, SqT.of hp2, atN (by rw [spans_len]; exact hi), _, _, rfl, rfl, ?_⟩
  have e : (i : Int) - g (spans xs) i = (bk xs (g xs i) i : Int) - 1 := by rw [spans_g hi]; unfold spn; omega
  show Q (.int ((i : Int) - g (spans xs) i)) H2
  rw [e]
  exact q _ (X1.trans X2)
def sp_span_of (K : PySem.W.Frag) : Sp := fun vs H Q _ => ∃ a, ∃ xs : List Int, ∃ i : Nat, vs = [.ref a, .int i] ∧ SqT K H a (xs.map V.int) ∧ Rw xs ∧ i < xs.length ∧ ∀ H', Ex H H' → Q (.int (spn xs i)) H'
theorem ok_span_of {f : Addr} {fd : FuncData} (D : DefAt K mg "span_of" s_span_of ["row", "place"] f fd) (T : Top mg) (c_place_in_front : C8.Cal P w K mg base 6 "place_in_front" (sp_place_in_front K) []) :
    C8.Cal P w K mg base 7 "span_of" (sp_span_of K) [] := by
  refine D.cal sc_span_of (fun vs H Q E h => ?len) fun cdv A outer s H vs Q E hr h => ?body
  case len => obtain ⟨a, xs, i, rfl, _⟩ := h; rfl
  obtain ⟨a, xs, i, rfl, hS, R, hi, q⟩ := h
  refine ⟨_, (pss_one (ps_ret (pe_op op_sub (pv 1) (C8.pe_c c_place_in_front hr (by decide) (by rfl) (pa_cons (pv 0) (pa_cons (pv 1) pa_nil)))))), ?_⟩
  refine ⟨_, rfl, _, rfl, _, rfl, a, xs, i, rfl, hS, R, hi, fun H1 X1 => ?_⟩
  refine ⟨_, _, rfl, rfl, ?_⟩
  have e : (i : Int) - ((bk xs (g xs i) i : Int) - 1) = spn xs i := by unfold spn; omega
  show Q (.int ((i : Int) - ((bk xs (g xs i) i : Int) - 1))) H1
  rw [e]
  exact q _ X1
def sp_row_after (K : PySem.W.Frag) : Sp := fun vs H Q _ => ∃ a, ∃ xs : List Int, ∃ m : Int, vs = [.ref a, .int m] ∧ SqT K H a (xs.map V.int) ∧ Rw xs ∧ 0 ≤ m ∧ m ≤ 10 ^ 30 ∧ ∀ b H', Ex H H' → SqT K H' b ((ro m.toNat xs).map V.int) → Q (.ref b) H'
theorem ok_row_after {f : Addr} {fd : FuncData} (D : DefAtN K mg "row_after" s_row_after ["row", "rounds"] 1 ["rounds"] f fd) (T : Top mg) (c_check_row : C8.Cal P w K mg base 5 "check_row" (sp_check_row K) []) (cd_check_rounds : C8.Cal P w K mg base 3 "check_rounds" (sp_check_rounds K) [.int 0]) (c_rows_until_still : C8.Cal P w K mg base 2 "rows_until_still" (sp_rows_until_still K) []) :
    CalN P w K mg base 6 "row_after" (sp_row_after K) 1 ["rounds"] := by
  refine D.cal sc_row_after (fun vs H Q E h => ?len) fun cdv A outer s H vs Q E hr h => ?body
  case len => obtain ⟨a, xs, m, rfl, _⟩ := h; rfl
  obtain ⟨a, xs, m, rfl, hS, R, m0, m1, q⟩ := h
  refine ⟨_, (pss_cons (ps_expr (C8.pe_c c_check_row hr (by decide) (by rfl) (pa_cons (pv 0) pa_nil)))
      (pss_cons (ps_expr (C8.pe_c cd_check_rounds hr (by decide) (by rfl) (pa_cons (pv 1) pa_nil)))
      (pss_cons (ps_set (i := 2) sc_row_after.nd rfl (.inl rfl) (C8.pe_c c_rows_until_still hr (by decide) (by rfl) (pa_cons (pv 0) pa_nil)))
      (pss_one (ps_ret (pe_ix ix_list (pv 2) (pe_callB (call_min2 rfl) (by rfl) T.min (by decide +kernel) (pa_cons (pv 1) (pa_cons (pe_op op_sub (pe_callB call_len_seq (by rfl) T.len (by decide +kernel) (pa_cons (pv 2) pa_nil)) pe_int) pa_nil))) (fun _ _ => rfl))))))), ?_⟩
  refine ⟨_, rfl, a, xs, rfl, hS, R.lo, R.hi, R.ok, fun H1 X1 => ?_⟩
  refine ⟨_, rfl, _, rfl, m0, m1, ?_⟩
  refine ⟨_, rfl, a, xs, rfl, Evl.ex_t X1 hS, R.hi, fun p H2 n hp X2 hnd hn hR => ?_⟩
  obtain ⟨vs, hv, hvl, hR⟩ := hR
  have em : (if (vs.length : Int) - 1 < m then (vs.length : Int) - 1 else m) = ((min m.toNat n : Nat) : Int) := by
    rw [hvl]; split <;> omega
  obtain ⟨b, hb, hbS⟩ := hR (min m.toNat n) (Nat.min_le_right _ _)
  have hat : atI vs (if (vs.length : Int) - 1 < m then (vs.length : Int) - 1 else m) = some (.ref b) := by
    rw [em, atI_at (by omega)]; assumption
  refine ⟨_, rfl, _, rfl, _, rfl, p, _, rfl, .inl (SqL.of hv), _, _, rfl, rfl, _, _, rfl, p, _, _, _, rfl, rfl, SqL.of hv, hat, ?_⟩
  refine q b H2 (X1.trans X2) ?_
  rw [ro_far hnd.still]; exact hbS
def sp_final_row (K : PySem.W.Frag) : Sp := fun vs H Q _ => ∃ a, ∃ xs : List Int, vs = [.ref a] ∧ SqT K H a (xs.map V.int) ∧ Rw xs ∧ ∀ b H' n, Ex H H' → Nd xs n → SqT K H' b ((ro n xs).map V.int) → Q (.ref b) H'
theorem ok_final_row {f : Addr} {fd : FuncData} (D : DefAt K mg "final_row" s_final_row ["row"] f fd) (T : Top mg) (c_check_row : C8.Cal P w K mg base 5 "check_row" (sp_check_row K) []) (c_rows_until_still : C8.Cal P w K mg base 2 "rows_until_still" (sp_rows_until_still K) []) :
    C8.Cal P w K mg base 6 "final_row" (sp_final_row K) [] := by
  refine D.cal sc_final_row (fun vs H Q E h => ?len) fun cdv A outer s H vs Q E hr h => ?body
  case len => obtain ⟨a, xs, rfl, _⟩ := h; rfl
  obtain ⟨a, xs, rfl, hS, R, q⟩ := h
  refine ⟨_, (pss_cons (ps_expr (C8.pe_c c_check_row hr (by decide) (by rfl) (pa_cons (pv 0) pa_nil)))
      (pss_one (ps_ret (pe_ix ix_list (C8.pe_c c_rows_until_still hr (by decide) (by rfl) (pa_cons (pv 0) pa_nil)) (pe_un un_neg pe_int) (fun _ _ => rfl))))), ?_⟩
  refine ⟨_, rfl, a, xs, rfl, hS, R.lo, R.hi, R.ok, fun H1 X1 => ?_⟩
  refine ⟨_, rfl, a, xs, rfl, Evl.ex_t X1 hS, R.hi, fun p H2 n hp X2 hnd hn hR => ?_⟩
  obtain ⟨vs, hv, hvl, hR⟩ := hR
  obtain ⟨b, hb, hbS⟩ := hR n (Nat.le_refl n)
  refine ⟨_, rfl, p, _, _, _, rfl, rfl, SqL.of hv, by rw [atI_last hvl]; exact hb, ?_⟩
  exact q b H2 n (X1.trans X2) hnd hbS
def sp_rounds_needed (K : PySem.W.Frag) : Sp := fun vs H Q _ => ∃ a, ∃ xs : List Int, vs = [.ref a] ∧ SqT K H a (xs.map V.int) ∧ Rw xs ∧ ∀ H' n, Ex H H' → Nd xs n → n ≤ 10001 → Q (.int (n : Int)) H'
theorem ok_rounds_needed {f : Addr} {fd : FuncData} (D : DefAt K mg "rounds_needed" s_rounds_needed ["row"] f fd) (T : Top mg) (c_check_row : C8.Cal P w K mg base 5 "check_row" (sp_check_row K) []) (c_rows_until_still : C8.Cal P w K mg base 2 "rows_until_still" (sp_rows_until_still K) []) :
    C8.Cal P w K mg base 6 "rounds_needed" (sp_rounds_needed K) [] := by
  refine D.cal sc_rounds_needed (fun vs H Q E h => ?len) fun cdv A outer s H vs Q E hr h => ?body
  case len => obtain ⟨a, xs, rfl, _⟩ := h; rfl
  obtain ⟨a, xs, rfl, hS, R, q⟩ := h
  refine ⟨_, (pss_cons (ps_expr (C8.pe_c c_check_row hr (by decide) (by rfl) (pa_cons (pv 0) pa_nil)))
      (pss_one (ps_ret (pe_op op_sub (pe_callB call_len_seq (by rfl) T.len (by decide +kernel) (pa_cons (C8.pe_c c_rows_until_still hr (by decide) (by rfl) (pa_cons (pv 0) pa_nil)) pa_nil)) pe_int)))), ?_⟩
  refine ⟨_, rfl, a, xs, rfl, hS, R.lo, R.hi, R.ok, fun H1 X1 => ?_⟩
  refine ⟨_, rfl, a, xs, rfl, Evl.ex_t X1 hS, R.hi, fun p H2 n hp X2 hnd hn hR => ?_⟩
  obtain ⟨vs, hv, hvl, hR⟩ := hR
  refine ⟨p, _, rfl, .inl (SqL.of hv), _, _, rfl, rfl, ?_⟩
  have e : (vs.length : Int) - 1 = (n : Int) := by omega
  show Q (.int ((vs.length : Int) - 1)) H2
  rw [e]
  exact q H2 n (X1.trans X2) hnd hn
end
end K38

set_option Elab.async false
set_option linter.all false
set_option maxRecDepth 100000
set_option maxHeartbeats 1000000
namespace K38
open PySem PySem.Spec
open PyProof.Rows L2 Sx
section
variable {P : Program} {w : World} {K : PySem.W.Frag} {mg : Str → Option Value} {base : Heap}
def sp_is_weights (K : PySem.W.Frag) : Sp := fun vs H Q _ => ∃ a b, ∃ xs ws : List Int, vs = [.ref a, .ref b] ∧ SqT K H a (xs.map V.int) ∧ Rw xs ∧ SqT K H b (ws.map V.int) ∧ Wt ws xs.length ∧ ∀ H', Ex H H' → Q (.bl true) H'
theorem ok_is_weights {f : Addr} {fd : FuncData} (D : DefAt K mg "is_weights" s_is_weights ["row", "value"] f fd) (T : Top mg) (c_check_row : C8.Cal P w K mg base 5 "check_row" (sp_check_row K) []) (c_is_whole : C8.Cal P w K mg base 2 "is_whole" (sp_is_whole K) []) :
    C8.Cal P w K mg base 6 "is_weights" (sp_is_weights K) [] := by
  refine D.cal sc_is_weights (fun vs H Q E h => ?len) fun cdv A outer s H vs Q E hr h => ?body
  case len => obtain ⟨a, b, xs, ws, rfl, _⟩ := h; rfl
  obtain ⟨a, b, xs, ws, rfl, hS, R, hT, W, q⟩ := h
  refine ⟨_, (pss_cons (ps_expr (C8.pe_c c_check_row hr (by decide) (by rfl) (pa_cons (pv 0) pa_nil)))
      (pss_cons (ps_if (PW.pt (pw_or (pt_not (pt_val (pe_callB call_isi (by rfl) T.isinstance (by decide +kernel) (pa_cons (pv 1) (pa_cons (pe_bltn (by rfl) T.tuple (by decide +kernel) (v := .ty "tuple") rfl) pa_nil))))) (pw_or1 (pt_cmpR op_ne (pe_callB call_len_seq (by rfl) T.len (by decide +kernel) (pa_cons (pv 1) pa_nil)) (pe_callB call_len_seq (by rfl) T.len (by decide +kernel) (pa_cons (pv 0) pa_nil)) (nomark _)))))
        (pss_one (ps_ret pe_bl))
        pss_nil)
      (pss_one (ps_ret (pe_callB (cr_all rfl) (by rfl) T.all (by decide +kernel) (pa_cons (pe_lc (own := [("weight", 2)]) (g := gName 2) (by rfl) sc_is_weights.nd (pi_tup (pv 1)) (blkOk_by (own := [("weight", 2)]) (N := ["row", "value", "weight"]) (sc := defScope s_is_weights) (by decide +kernel)) (fun _ _ _ _ _ => (pg_name (i := 2) sc_is_weights.nd rfl (.inl rfl))) (fun _ _ _ _ _ => pts_nil) (fun _ _ _ _ _ => (C8.pe_c c_is_whole hr (by decide) (by rfl) (pa_cons (pv 2) (pa_cons pe_int (pa_cons (C8.pe_gc (by rfl) T.c_GREATEST_WEIGHT) pa_nil)))))) pa_nil)))))), ?_⟩
  refine ⟨_, rfl, a, xs, rfl, hS, R.lo, R.hi, R.ok, fun H1 X1 => ?_⟩
  have hS1 := Evl.ex_t X1 hS
  have hT1 := Evl.ex_t X1 hT
  have hw := W.len
  have hhi := R.hi
  refine ⟨_, rfl, _, _, _, _, true, rfl, .ty "tuple", tyT hT1, kit_ty (by decide +kernel), true, rfl, ?_⟩
  refine iteF ?_
  refine ⟨_, rfl, b, _, rfl, .inr hT1, _, rfl, a, _, rfl, .inr hS1, rfl, _, rfl, ?_⟩
  have el : (!decide (V.int ((ws.map V.int).length : Int) = .int ((xs.map V.int).length : Int))) = false := by
    rw [List.length_map, List.length_map, hw, decide_eq_true rfl]; rfl
  rw [el]
  refine iteF ?_
  refine ⟨_, rfl, b, rfl, ⟨_, hT1⟩, fun D hD => ?_⟩
  refine lc_tup (K := K) (a := b) (xs := ws.map V.int) (fun i H' => Ex H1 H' ∧ H' D = some (.lst ((List.replicate i true).map V.bl))) ⟨Evl.Ex.new hD, upd_same⟩ (fun i H' _ h => Evl.ex_t h.1 hT1) ?_ ?_
  · rintro i x H' hx ⟨hE, hH⟩
    have hi : i < ws.length := by
      have := (List.getElem?_eq_some_iff.mp hx).1
      rwa [List.length_map] at this
    obtain ⟨z, hz, rfl⟩ : ∃ z, z ∈ ws ∧ x = .int z := by
      rw [List.getElem?_map] at hx
      cases e : ws[i]? with
      | none => rw [e] at hx; cases hx
      | some z => rw [e] at hx; cases hx; exact ⟨z, List.mem_of_getElem? e, rfl⟩
    refine ⟨rfl, ?_⟩
    dsimp only [tYes]
    rw [if_pos rfl]
    refine ⟨_, rfl, _, _, _, rfl, ?_⟩
    rw [decide_eq_true (show 1 ≤ z ∧ z ≤ 10000000000000000000000000000 from ⟨W.lo z hz, W.hi z hz⟩)]
    refine ⟨_, hH, ?_, Evl.Ex.mut hE hD, ?_⟩
    · rw [List.length_map, List.length_replicate]; exact small1000 (by omega)
    · rw [upd_same, List.replicate_succ', List.map_append]; rfl
  · rintro H' ⟨hE, hH⟩
    refine ⟨D, _, rfl, SqL.of hH, ?_⟩
    have e : (List.replicate (ws.map V.int).length true).all id = true := by
      rw [List.all_eq_true]
      intro b hb
      rw [(List.mem_replicate.mp hb).2]; rfl
    rw [e]
    exact q H' (X1.trans hE)
def sp_check_weights (K : PySem.W.Frag) : Sp := fun vs H Q _ => ∃ a b, ∃ xs ws : List Int, vs = [.ref a, .ref b] ∧ SqT K H a (xs.map V.int) ∧ Rw xs ∧ SqT K H b (ws.map V.int) ∧ Wt ws xs.length ∧ ∀ H', Ex H H' → Q .non H'
theorem ok_check_weights {f : Addr} {fd : FuncData} (D : DefAt K mg "check_weights" s_check_weights ["row", "weights"] f fd) (T : Top mg) (c_is_weights : C8.Cal P w K mg base 6 "is_weights" (sp_is_weights K) []) :
    C8.Cal P w K mg base 7 "check_weights" (sp_check_weights K) [] := by
  refine D.cal sc_check_weights (fun vs H Q E h => ?len) fun cdv A outer s H vs Q E hr h => ?body
  case len => obtain ⟨a, b, xs, ws, rfl, _⟩ := h; rfl
  obtain ⟨a, b, xs, ws, rfl, hS, R, hT, W, q⟩ := h
  refine ⟨_, (pss_one (ps_if (pt_not (pt_val (C8.pe_c c_is_weights hr (by decide) (by rfl) (pa_cons (pv 0) (pa_cons (pv 1) pa_nil)))))
        (pss_one ps_never)
        pss_nil)), ?_⟩
  refine ⟨_, rfl, _, rfl, a, b, xs, ws, rfl, hS, R, hT, W, fun H' hE => ⟨_, rfl, ?_⟩⟩
  show if (!true) = true then _ else _
  rw [if_neg (by decide)]
  exact q H' hE
def sp_weighted_spans (K : PySem.W.Frag) : Sp := fun vs H Q _ => ∃ a t, ∃ xs ws : List Int, vs = [.ref a, .ref t] ∧ SqT K H a (xs.map V.int) ∧ xs.length ≤ 100 ∧ SqL K H t ((tots ws xs.length).map V.int) ∧
  ∀ p H', H p = none → Ex H H' → H' p = some (.tup ((wsp ws xs).map V.int)) → Q (.ref p) H'
theorem ok_weighted_spans {f : Addr} {fd : FuncData} (D : DefAt K mg "weighted_spans" s_weighted_spans ["row", "totals"] f fd) (T : Top mg) (c_all_spans : C8.Cal P w K mg base 1 "all_spans" (sp_all_spans K) []) :
    C8.Cal P w K mg base 2 "weighted_spans" (sp_weighted_spans K) [] := by
  refine D.cal sc_weighted_spans (fun vs H Q E h => ?len) fun cdv A outer s H vs Q E hr h => ?body
  case len => obtain ⟨a, b, xs, ws, rfl, _⟩ := h; rfl
  obtain ⟨a, t, xs, ws, rfl, hS, hz, hT, q⟩ := h
  refine ⟨_, (pss_cons (ps_set (i := 2) sc_weighted_spans.nd rfl (.inl rfl) (C8.pe_c c_all_spans hr (by decide) (by rfl) (pa_cons (pv 0) pa_nil)))
      (pss_one (ps_ret (pe_callTy call_tuple_of (by rfl) T.tuple (by decide +kernel) (pa_cons (pe_lc (own := [("place", 3), ("span", 4)]) (g := (gTup K 2 (gCons (gName 3) (gCons (gName 4) gNil)))) (by rfl) sc_weighted_spans.nd (pi_enumT (by rfl) T.enumerate (pa_cons (pv 2) pa_nil)) (blkOk_by (own := [("place", 3), ("span", 4)]) (N := ["row", "totals", "spans", "place", "span"]) (sc := defScope s_weighted_spans) (by decide +kernel)) (fun _ _ _ _ _ => (pg_tup rfl (pgs_cons (pg_name (i := 3) sc_weighted_spans.nd rfl (.inl rfl)) (pgs_cons (pg_name (i := 4) sc_weighted_spans.nd rfl (.inl rfl)) pgs_nil)))) (fun _ _ _ _ _ => pts_nil) (fun _ _ _ _ _ => (pe_op op_sub (pe_ix (show IxR _ (rIxL K) from ix_list) (pv 1) (pe_op op_add (pv 3) pe_int) (fun _ _ => rfl)) (pe_ix (show IxR _ (rIxL K) from ix_list) (pv 1) (pe_op op_sub (pe_op op_add (pv 3) pe_int) (pv 4)) (fun _ _ => rfl))))) pa_nil))))), ?_⟩
  refine ⟨_, rfl, a, xs, rfl, hS, by omega, fun s H1 hs X1 hs1 => ?_⟩
  have hT1 := Evl.ex_l X1 hT
  refine ⟨_, rfl, s, _, rfl, SqT.of hs1, fun D hD => ?_⟩
  refine lc_enumT (K := K) (a := s) (xs := (spans xs).map V.int) (fun i H' => Ex H1 H' ∧ H' D = some (.lst (((wsp ws xs).take i).map V.int))) ⟨Evl.Ex.new hD, upd_same⟩ (fun i H' h => SqT.of (h.1 _ _ hs1)) ?_ ?_
  · rintro i x T' H2 hx ⟨X2, hD2⟩ hT'
    have hi : i < xs.length := by
      have := (List.getElem?_eq_some_iff.mp hx).1
      rwa [List.length_map, spans_len] at this
    have ex : x = .int (spn xs i) := by
      rw [List.getElem?_map, g_get (by rw [spans_len]; exact hi), spans_g hi] at hx
      exact (Option.some.inj hx).symm
    subst ex
    have X3 := Evl.Ex.new (o := .tup [.int (i : Nat), .int (spn xs i)]) hT'
    have hT3 := Evl.ex_l (X2.trans X3) hT1
    have hD3 := X3 _ _ hD2
    refine ⟨T', _, rfl, SqT.of upd_same, rfl, _, _, rfl, _, _, rfl, rfl, ?_⟩
    generalize upd H2 T' (.tup [.int (i : Nat), .int (spn xs i)]) = H3 at X3 hT3 hD3 ⊢
    refine ⟨rfl, ?_⟩
    dsimp only [tYes]
    rw [if_pos rfl]
    have hb := bk_le xs (g xs i) i
    have a1 : atI ((tots ws xs.length).map V.int) ((i : Int) + 1) = some (.int (tot ws (i + 1))) := by
      rw [show (i : Int) + 1 = ((i + 1 : Nat) : Int) by omega]; exact tots_at (by omega)
    have a2 : atI ((tots ws xs.length).map V.int) ((i : Int) + 1 - spn xs i) = some (.int (tot ws (bk xs (g xs i) i))) := by
      rw [show (i : Int) + 1 - spn xs i = ((bk xs (g xs i) i : Nat) : Int) by unfold spn; omega]; exact tots_at (by omega)
    refine ⟨_, rfl, _, rfl, _, _, rfl, rfl, t, _, _, _, rfl, rfl, hT3, a1, _, rfl, _, rfl, _, _, rfl, rfl, _, rfl, _, _, rfl, rfl, t, _, _, _, rfl, rfl, hT3, a2, _, _, rfl, rfl, _, hD3, ?_, Evl.Ex.mut (X2.trans X3) hD, ?_⟩
    · rw [List.length_map, List.length_take]; exact small1000 (by omega)
    · rw [upd_same, List.take_add_one, g_get (by rw [wsp_len]; exact hi), wsp_g hi, List.map_append]; rfl
  · rintro H2 ⟨X2, hD2⟩
    rw [List.length_map, spans_len, List.take_of_length_le (by rw [wsp_len]; exact Nat.le_refl _)] at hD2
    refine ⟨D, _, rfl, .inl ⟨SqL.of hD2, fun r hr' => ?_⟩⟩
    exact q r _ (Evl.fresh_back (X1.trans X2) hr') ((X1.trans X2).trans (Evl.Ex.new hr')) upd_same
def sp_weighted_rows (K : PySem.W.Frag) : Sp := fun vs H Q _ => ∃ a b, ∃ xs ws : List Int, vs = [.ref a, .ref b] ∧ SqT K H a (xs.map V.int) ∧ Rw xs ∧ SqT K H b (ws.map V.int) ∧ Wt ws xs.length ∧
  ∀ p H' n, H p = none → Ex H H' → WNd ws xs n → n ≤ xs.length → Seqs K H' p (fun j => wro ws j xs) n → Q (.ref p) H'
theorem ok_weighted_rows {f : Addr} {fd : FuncData} (D : DefAt K mg "weighted_rows" s_weighted_rows ["row", "weights"] f fd) (T : Top mg) (c_weighted_spans : C8.Cal P w K mg base 2 "weighted_spans" (sp_weighted_spans K) []) :
    C8.Cal P w K mg base 3 "weighted_rows" (sp_weighted_rows K) [] := by
  refine D.cal sc_weighted_rows (fun vs H Q E h => ?len) fun cdv A outer s H vs Q E hr h => ?body
  case len => obtain ⟨a, b, xs, ws, rfl, _⟩ := h; rfl
  obtain ⟨a, b, xs, ws, rfl, hS, R, hT, W, q⟩ := h
  refine ⟨_, (pss_cons (ps_set (i := 2) sc_weighted_rows.nd rfl (.inl rfl) (pe_lst (pa_cons pe_int pa_nil)))
      (pss_cons (ps_for PassesOwn.never rfl (pi_tup (pv 1)) (pg_name (i := 3) sc_weighted_rows.nd rfl (.inl rfl))
        (pss_one (ps_expr (pe_bm PySem.F.plainAttrs_list PySem.F.slot_list_append PySem.F.type_list_append mt_append (pv 2) (pa_cons (pe_op op_add (pe_ix ix_list (pv 2) (pe_un un_neg pe_int) (fun _ _ => rfl)) (pv 3)) pa_nil)))))
      (pss_cons (ps_set (i := 4) sc_weighted_rows.nd rfl (.inl rfl) (pe_lst (pa_cons (pv 0) pa_nil)))
      (pss_cons (ps_set (i := 5) sc_weighted_rows.nd rfl (.inl rfl) (C8.pe_c c_weighted_spans hr (by decide) (by rfl) (pa_cons (pv 0) (pa_cons (pv 2) pa_nil))))
      (pss_cons (ps_while PassesOwn.never (pt_cmpR (op_neD hr.units) (pv 5) (pe_ix ix_list (pv 4) (pe_un un_neg pe_int) (fun _ _ => rfl)) (nomark _))
        (pss_cons (ps_expr (pe_bm PySem.F.plainAttrs_list PySem.F.slot_list_append PySem.F.type_list_append mt_append (pv 4) (pa_cons (pv 5) pa_nil)))
          (pss_one (ps_set (i := 5) sc_weighted_rows.nd rfl (.inl rfl) (C8.pe_c c_weighted_spans hr (by decide) (by rfl) (pa_cons (pv 5) (pa_cons (pv 2) pa_nil)))))))
      (pss_one (ps_ret (pv 4)))))))), ?_⟩
  have hw := W.len
  have hlo := R.lo
  have hhi := R.hi
  obtain ⟨n, hn, hnd⟩ := wnd_any W hlo
  refine ⟨by show 1 ≤ sizeLine; decide, fun t ht => ?_⟩
  have Xt := Evl.Ex.new (o := .lst [.int 0]) ht
  refine ⟨_, rfl, b, rfl, ⟨_, Evl.ex_t Xt hT⟩, ?_⟩
  refine for_tup (K := K) (a := b) (xs := ws.map V.int) (fun i σ H' => Ex H H' ∧ H' t = some (.lst ((tots ws i).map V.int)) ∧ ∃ y3 : Option V, σ = [some (.ref a), some (.ref b), some (.ref t), y3, none, none])
    ⟨Xt, ?_, _, rfl⟩ (fun i σ H' _ h => Evl.ex_t h.1 hT) ?_ ?_
  · rw [upd_same]
    show some (HO.lst [V.int 0]) = some (HO.lst [V.int (tot ws 0)])
    rw [tot_zero]
  · rintro i v σ H1 hx ⟨X1, ht1, y3, rfl⟩
    have hi : i < ws.length := by
      have := (List.getElem?_eq_some_iff.mp hx).1
      rwa [List.length_map] at this
    have ex : v = .int (g ws i) := by
      rw [List.getElem?_map, g_get hi] at hx
      exact (Option.some.inj hx).symm
    subst ex
    have al : atI ((tots ws i).map V.int) (-1) = some (.int (tot ws i)) := by
      rw [atI_last (n := i) (by rw [List.length_map, tots_len])]
      have := tots_at (ws := ws) (n := i) (k := i) (Nat.le_refl i)
      rw [atI_at (by rw [List.length_map, tots_len]; omega)] at this
      exact this
    refine ⟨_, rfl, .inl ⟨rfl, _, SqL.of ht1⟩, _, rfl, _, rfl, t, _, _, _, rfl, rfl, SqL.of ht1, al, _, rfl, _, _, rfl, rfl, t, _, _, rfl, rfl, ht1, ?_, ?_⟩
    · rw [List.length_map, tots_len]; exact small1000 (by omega)
    · refine ⟨Evl.Ex.mut X1 ht, ?_, _, rfl⟩
      rw [upd_same, tots_succ, List.map_append, tot_succ hi]; rfl
  rintro σ H1 ⟨X1, ht1, y3, rfl⟩
  rw [List.length_map, hw] at ht1
  have hS1 := Evl.ex_t X1 hS
  refine ⟨_, rfl, by show 1 ≤ sizeLine; decide, fun p hp => ?_⟩
  have X2 := Evl.Ex.new (o := .lst [.ref a]) hp
  have zp : H p = none := Evl.fresh_back X1 hp
  have ntp : t ≠ p := ne_of_none ht1 hp
  refine ⟨_, rfl, _, rfl, a, t, xs, ws, rfl, Evl.ex_t X2 hS1, hhi, SqL.of (X2 _ _ ht1), fun fl H3 hfl X3 hfl3 => ?_⟩
  refine ⟨fun m σ H' => ∃ k f, k + m = n ∧ Ex H H' ∧ σ = [some (.ref a), some (.ref b), some (.ref t), y3, some (.ref p), some (.ref f)] ∧ H' t = some (.lst ((tots ws xs.length).map V.int)) ∧ H' f = some (.tup ((wro ws (k + 1) xs).map V.int)) ∧ Seqs K H' p (fun j => wro ws j xs) k, ⟨n, 0, fl, by omega, (X1.trans X2).trans X3, rfl, X3 _ _ (X2 _ _ ht1), hfl3, ?_⟩, ?_⟩
  · refine ⟨_, X3 _ _ upd_same, rfl, fun j hj => ?_⟩
    have e0 : j = 0 := by omega
    subst e0
    exact ⟨a, rfl, Evl.ex_t (X2.trans X3) hS1⟩
  rintro m σ H4 ⟨k, f, hkm, X4, rfl, ht4, hf, vs, hv, hvl, hR⟩
  obtain ⟨c, hc, hcS⟩ := hR k (Nat.le_refl k)
  have hat : atI vs (-1) = some (.ref c) := by rw [atI_last hvl]; exact hc
  refine ⟨_, rfl, _, rfl, _, rfl, p, _, _, _, rfl, rfl, SqL.of hv, hat, .tuple ((wro ws (k + 1) xs).map PyData.int), .tuple ((wro ws k xs).map PyData.int), .tup (SqT.of hf) (dp_ints _), .tup hcS (dp_ints _), shaped_tup _, shaped_tup _, _, rfl, ?_⟩
  rw [eqv_tup]
  by_cases hcc : wro ws (k + 1) xs = wro ws k xs
  · rw [decide_eq_true hcc]
    have hk : k = n := by
      rcases Nat.lt_trichotomy k n with h | h | h
      · exact absurd hcc (hnd.least k h)
      · exact h
      · omega
    subst hk
    refine iteF ?_
    refine ⟨_, rfl, ?_⟩
    exact q p H4 k zp X4 hnd hn ⟨vs, hv, hvl, hR⟩
  · rw [decide_eq_false hcc]
    have hk : k ≠ n := fun e => hcc (by subst e; exact hnd.still)
    refine iteT ?_
    refine ⟨_, fun _ _ h => h, ?_⟩
    refine ⟨_, rfl, .inl ⟨rfl, _, SqL.of hv⟩, _, rfl, p, _, _, rfl, rfl, hv, ?_, ?_⟩
    · rw [hvl]; exact small1000 (by omega)
    have X5 : Ex H (upd H4 p (.lst (vs ++ [.ref f]))) := Evl.Ex.mut X4 zp
    have nf : f ≠ p := by rintro rfl; rw [hf] at hv; cases hv
    have hf5 : (upd H4 p (.lst (vs ++ [.ref f]))) f = some (.tup ((wro ws (k + 1) xs).map V.int)) := by rw [upd_ne nf]; exact hf
    have ht5 : (upd H4 p (.lst (vs ++ [.ref f]))) t = some (.lst ((tots ws xs.length).map V.int)) := by rw [upd_ne ntp]; exact ht4
    have ewl : (wro ws (k + 1) xs).length = xs.length := wro_len ws xs (k + 1)
    refine ⟨_, rfl, _, rfl, f, t, wro ws (k + 1) xs, ws, rfl, SqT.of hf5, by omega, by rw [ewl]; exact SqL.of ht5, fun f2 H6 hf2 X6 hf6 => ?_⟩
    refine ⟨m - 1, by omega, k + 1, f2, by omega, X5.trans X6, rfl, X6 _ _ ht5, hf6, ?_⟩
    refine ⟨vs ++ [.ref f], X6 _ _ upd_same, by rw [List.length_append, hvl]; rfl, fun j hj => ?_⟩
    by_cases e : j = k + 1
    · subst e
      refine ⟨f, ?_, Evl.ex_t X6 (SqT.of hf5)⟩
      rw [List.getElem?_append_right (by omega), hvl]; simp
    · obtain ⟨c', hc', hcS'⟩ := hR j (by omega)
      refine ⟨c', by rw [List.getElem?_append_left (by omega)]; exact hc', ?_⟩
      exact Evl.ex_t X6 (sqT_mut hcS' hv)
def sp_weighted_after (K : PySem.W.Frag) : Sp := fun vs H Q _ => ∃ a b, ∃ xs ws : List Int, ∃ m : Int, vs = [.ref a, .ref b, .int m] ∧ SqT K H a (xs.map V.int) ∧ Rw xs ∧ SqT K H b (ws.map V.int) ∧ Wt ws xs.length ∧ 0 ≤ m ∧ m ≤ 10 ^ 30 ∧
  ∀ c H', Ex H H' → SqT K H' c ((wro ws m.toNat xs).map V.int) → Q (.ref c) H'
theorem fo_weighted_after {f : Addr} {fd : FuncData} (D : DefAtN K mg "weighted_after" s_weighted_after ["row", "weights", "rounds"] 2 ["rounds"] f fd) (T : Top mg) (c_check_weights : C8.Cal P w K mg base 7 "check_weights" (sp_check_weights K) []) (cd_check_rounds : C8.Cal P w K mg base 3 "check_rounds" (sp_check_rounds K) [.int 0]) (c_weighted_rows : C8.Cal P w K mg base 3 "weighted_rows" (sp_weighted_rows K) []) :
    FnOk P w K mg base CX0 8 f fd ["row", "weights", "rounds"] (sp_weighted_after K) := by
  refine D.fn.ok sc_weighted_after (fun vs H Q E h => ?len) fun cdv A outer s H vs Q E hr h => ?body
  case len => obtain ⟨a, b, xs, ws, m, rfl, _⟩ := h; rfl
  obtain ⟨a, b, xs, ws, m, rfl, hS, R, hT, W, m0, m1, q⟩ := h
  refine ⟨_, (pss_cons (ps_expr (C8.pe_c c_check_weights hr (by decide) (by rfl) (pa_cons (pv 0) (pa_cons (pv 1) pa_nil))))
      (pss_cons (ps_expr (C8.pe_c cd_check_rounds hr (by decide) (by rfl) (pa_cons (pv 2) pa_nil)))
      (pss_cons (ps_set (i := 3) sc_weighted_after.nd rfl (.inl rfl) (C8.pe_c c_weighted_rows hr (by decide) (by rfl) (pa_cons (pv 0) (pa_cons (pv 1) pa_nil))))
      (pss_one (ps_ret (pe_ix ix_list (pv 3) (pe_callB (call_min2 rfl) (by rfl) T.min (by decide +kernel) (pa_cons (pv 2) (pa_cons (pe_op op_sub (pe_callB call_len_seq (by rfl) T.len (by decide +kernel) (pa_cons (pv 3) pa_nil)) pe_int) pa_nil))) (fun _ _ => rfl))))))), ?_⟩
  refine ⟨_, rfl, _, rfl, a, b, xs, ws, rfl, hS, R, hT, W, fun H1 X1 => ?_⟩
  refine ⟨_, rfl, _, rfl, m0, m1, ?_⟩
  refine ⟨_, rfl, _, rfl, a, b, xs, ws, rfl, Evl.ex_t X1 hS, R, Evl.ex_t X1 hT, W, fun p H2 n hp X2 hnd hn hR => ?_⟩
  obtain ⟨vs, hv, hvl, hR⟩ := hR
  have em : (if (vs.length : Int) - 1 < m then (vs.length : Int) - 1 else m) = ((min m.toNat n : Nat) : Int) := by
    rw [hvl]; split <;> omega
  obtain ⟨c, hb, hbS⟩ := hR (min m.toNat n) (Nat.min_le_right _ _)
  have hat : atI vs (if (vs.length : Int) - 1 < m then (vs.length : Int) - 1 else m) = some (.ref c) := by
    rw [em, atI_at (by omega)]; assumption
  refine ⟨_, rfl, _, rfl, _, rfl, p, _, rfl, .inl (SqL.of hv), _, _, rfl, rfl, _, _, rfl, p, _, _, _, rfl, rfl, SqL.of hv, hat, ?_⟩
  refine q c H2 (X1.trans X2) ?_
  rw [wro_far hnd.still]; exact hbS
theorem ok_weighted_after {f : Addr} {fd : FuncData} (D : DefAtN K mg "weighted_after" s_weighted_after ["row", "weights", "rounds"] 2 ["rounds"] f fd) (T : Top mg) (c_check_weights : C8.Cal P w K mg base 7 "check_weights" (sp_check_weights K) []) (cd_check_rounds : C8.Cal P w K mg base 3 "check_rounds" (sp_check_rounds K) [.int 0]) (c_weighted_rows : C8.Cal P w K mg base 3 "weighted_rows" (sp_weighted_rows K) []) :
    CalN P w K mg base 8 "weighted_after" (sp_weighted_after K) 2 ["rounds"] := ⟨f, fd, _, fo_weighted_after D T c_check_weights cd_check_rounds c_weighted_rows, D.at_, D.fn.kp, D.bi⟩
theorem okd_weighted_after {f : Addr} {fd : FuncData} (D : DefAtN K mg "weighted_after" s_weighted_after ["row", "weights", "rounds"] 2 ["rounds"] f fd) (DD : ∃ ds, Vals [V.int 1] ds ∧ Binds K fd ["row", "weights", "rounds"] ds) (T : Top mg) (c_check_weights : C8.Cal P w K mg base 7 "check_weights" (sp_check_weights K) []) (cd_check_rounds : C8.Cal P w K mg base 3 "check_rounds" (sp_check_rounds K) [.int 0]) (c_weighted_rows : C8.Cal P w K mg base 3 "weighted_rows" (sp_weighted_rows K) []) :
    C8.Cal P w K mg base 8 "weighted_after" (sp_weighted_after K) [.int 1] := by
  obtain ⟨ds, h1, h2⟩ := DD
  exact ⟨f, fd, _, ds, fo_weighted_after D T c_check_weights cd_check_rounds c_weighted_rows, D.at_, D.fn.kp, h2, h1⟩
def sp_weighted_needed (K : PySem.W.Frag) : Sp := fun vs H Q _ => ∃ a b, ∃ xs ws : List Int, vs = [.ref a, .ref b] ∧ SqT K H a (xs.map V.int) ∧ Rw xs ∧ SqT K H b (ws.map V.int) ∧ Wt ws xs.length ∧
  ∀ H' n, Ex H H' → WNd ws xs n → n ≤ xs.length → Q (.int (n : Int)) H'
theorem ok_weighted_needed {f : Addr} {fd : FuncData} (D : DefAt K mg "weighted_needed" s_weighted_needed ["row", "weights"] f fd) (T : Top mg) (c_check_weights : C8.Cal P w K mg base 7 "check_weights" (sp_check_weights K) []) (c_weighted_rows : C8.Cal P w K mg base 3 "weighted_rows" (sp_weighted_rows K) []) :
    C8.Cal P w K mg base 8 "weighted_needed" (sp_weighted_needed K) [] := by
  refine D.cal sc_weighted_needed (fun vs H Q E h => ?len) fun cdv A outer s H vs Q E hr h => ?body
  case len => obtain ⟨a, b, xs, ws, rfl, _⟩ := h; rfl
  obtain ⟨a, b, xs, ws, rfl, hS, R, hT, W, q⟩ := h
  refine ⟨_, (pss_cons (ps_expr (C8.pe_c c_check_weights hr (by decide) (by rfl) (pa_cons (pv 0) (pa_cons (pv 1) pa_nil))))
      (pss_one (ps_ret (pe_op op_sub (pe_callB call_len_seq (by rfl) T.len (by decide +kernel) (pa_cons (C8.pe_c c_weighted_rows hr (by decide) (by rfl) (pa_cons (pv 0) (pa_cons (pv 1) pa_nil))) pa_nil)) pe_int)))), ?_⟩
  refine ⟨_, rfl, _, rfl, a, b, xs, ws, rfl, hS, R, hT, W, fun H1 X1 => ?_⟩
  refine ⟨_, rfl, _, rfl, a, b, xs, ws, rfl, Evl.ex_t X1 hS, R, Evl.ex_t X1 hT, W, fun p H2 n hp X2 hnd hn hR => ?_⟩
  obtain ⟨vs, hv, hvl, hR⟩ := hR
  refine ⟨p, _, rfl, .inl (SqL.of hv), _, _, rfl, rfl, ?_⟩
  have e : (vs.length : Int) - 1 = (n : Int) := by omega
  show Q (.int ((vs.length : Int) - 1)) H2
  rw [e]
  exact q H2 n (X1.trans X2) hnd hn
end
end K38

set_option Elab.async false
set_option linter.all false
set_option maxRecDepth 100000
set_option maxHeartbeats 1000000
namespace K38
open PySem PySem.Spec
open PyProof.Rows L2 Sx
section
variable {P : Program} {w : World} {K : PySem.W.Frag} {mg : Str → Option Value} {base : Heap}
def sp__law_mug (K : PySem.W.Frag) : Sp := fun vs H Q _ => ∃ a, ∃ ns : List Int, ∃ k : Nat, vs = [.ref a, .int k] ∧ SqL K H a (ns.map V.int) ∧ k ≤ 1000 ∧
  ∀ p H', H p = none → Ex H H' → Mug H' p 0 → Q (.ref p) H'
theorem ok__law_mug {f : Addr} {fd : FuncData} (D : DefAt K mg "_law_mug" s__law_mug ["script", "k"] f fd) (T : Top mg)  :
    C8.Cal P w K mg base 1 "_law_mug" (sp__law_mug K) [] := by
  refine D.cal sc__law_mug (fun vs H Q E h => ?len) fun cdv A outer s H vs Q E hr h => ?body
  case len => obtain ⟨a, ns, k, rfl, _⟩ := h; rfl
  obtain ⟨a, ns, k, rfl, hS, hk, q⟩ := h
  refine ⟨_, (pss_cons (ps_set (i := 2) sc__law_mug.nd rfl (.inl rfl) (pe_ifExp (pt_cmpR op_lt (pv 1) (pe_callB call_len_seq (by rfl) T.len (by decide +kernel) (pa_cons (pv 0) pa_nil)) (nomark _)) (pe_ix ix_list (pv 0) (pv 1) (fun _ _ => rfl)) pe_int))
      (pss_one (ps_ret (pe_lst (pa_cons (pe_callB (call_max2 rfl) (by rfl) T.max (by decide +kernel) (pa_cons pe_int (pa_cons (pe_op op_sub (pv 2) (pe_op op_powW pe_int pe_int)) pa_nil))) (pa_cons (pe_op op_add (pe_op op_mulW (pe_op op_mod (pv 2) (pe_op op_add (pe_op op_powW pe_int pe_int) pe_int)) pe_int) (pv 1)) (pa_cons pe_int pa_nil))))))), ?_⟩
  have e43 : (10 : Int) ^ (43 : Int).toNat = 10000000000000000000000000000000000000000000 := by decide
  have e46 : (10 : Int) ^ 46 = 10000000000000000000000000000000000000000000000 := by decide
  have fm : ∀ z : Int, 0 ≤ z % (10 ^ (43 : Int).toNat + 57) ∧ z % (10 ^ (43 : Int).toNat + 57) < 10 ^ (43 : Int).toNat + 57 := fun z => ⟨Int.emod_nonneg _ (by decide), Int.emod_lt_of_pos _ (by decide)⟩
  rw [e43] at fm
  refine ⟨_, rfl, _, rfl, a, _, rfl, .inl hS, _, _, rfl, rfl, _, rfl, ite2 (fun t => ?inA) fun t => ?inB⟩
  case' inA =>
    have t := of_decide_eq_true t
    rw [List.length_map] at t
    refine ⟨_, rfl, _, rfl, a, _, k, .int (g ns k), rfl, rfl, hS, atN (by omega), ?_⟩
  all_goals
    refine ⟨_, rfl, _, _, rfl, rfl, ⟨by decide, by decide, by decide⟩, _, _, rfl, rfl, _, _, rfl, ?_⟩
    refine ⟨_, rfl, _, _, rfl, rfl, ⟨by decide, by decide, by decide⟩, _, _, rfl, rfl, _, _, rfl, rfl, (by show (0 : Int) < _; decide), _, _, rfl, rfl, wide_mul (a := 200) (b := 64) (by rw [e43]; have := fm; omega) (by decide) (by decide) (by decide) (by decide), _, rfl, _, _, rfl, rfl, ?_⟩
    refine ⟨by show 3 ≤ sizeLine; decide, fun p hp => ?_⟩
    refine q p _ hp (Evl.Ex.new hp) ⟨_, _, _, upd_same, ?_, ?_, by decide, by decide⟩
    · rw [e43]; have := fm; omega
    · rw [e43, e46]; have := fm; omega
def sp__law_gulp (K : PySem.W.Frag) : Sp := fun vs H Q _ => ∃ t, ∃ n m : Int, vs = [.ref t, .int n] ∧ Mug H t m ∧ 1 ≤ n ∧ n < 2 ^ 1000 ∧ m ≤ 1000000 ∧
  ∀ r H', 0 ≤ r → r < n → ExB t H H' → Mug H' t (m + 1) → Q (.int r) H'
theorem ok__law_gulp {f : Addr} {fd : FuncData} (D : DefAt K mg "_law_gulp" s__law_gulp ["mug", "many"] f fd) (T : Top mg)  :
    C8.Cal P w K mg base 1 "_law_gulp" (sp__law_gulp K) [] := by
  refine D.cal sc__law_gulp (fun vs H Q E h => ?len) fun cdv A outer s H vs Q E hr h => ?body
  case len => obtain ⟨a, n, m, rfl, _⟩ := h; rfl
  obtain ⟨t, n, m, rfl, ⟨x0, x1, x2, hT, p1, p2, p3, p4⟩, n1, n2, hm, q⟩ := h
  refine ⟨_, (pss_cons (ps_if (pt_cmpR op_gt (pe_ix ix_list (pv 0) pe_int (fun _ _ => rfl)) pe_int (nomark _))
        (pss_cons (ps_set (i := 2) sc__law_gulp.nd rfl (.inl rfl) (pe_op op_mod (pe_ix ix_list (pv 0) pe_int (fun _ _ => rfl)) (pv 1)))
          (pss_cons (ps_asg (pe_op op_fdivW (pe_ix ix_list (pv 0) pe_int (fun _ _ => rfl)) (pv 1)) (pg_sub (pv 0) pe_int set_list))
          (pss_one (ps_ret (pv 2)))))
        pss_nil)
      (pss_cons (ps_asg (pe_op op_add (pe_ix ix_list (pv 0) pe_int (fun _ _ => rfl)) pe_int) (pg_sub (pv 0) pe_int set_list))
      (pss_cons (ps_set (i := 3) sc__law_gulp.nd rfl (.inl rfl) (pe_op op_mod (pe_op op_powW (pe_op op_add (pe_ix ix_list (pv 0) pe_int (fun _ _ => rfl)) (pe_op op_mulW pe_int (pe_ix ix_list (pv 0) pe_int (fun _ _ => rfl)))) pe_int) (pe_op op_add (pe_op op_powW pe_int pe_int) pe_int)))
      (pss_cons (ps_set (i := 3) sc__law_gulp.nd rfl (.inl rfl) (pe_op op_mod (pe_op op_powW (pe_op op_add (pv 3) (pe_op op_mulW pe_int (pe_ix ix_list (pv 0) pe_int (fun _ _ => rfl)))) pe_int) (pe_op op_add (pe_op op_powW pe_int pe_int) pe_int)))
      (pss_one (ps_ret (pe_op op_mod (pe_op op_fdivW (pv 3) pe_int) (pv 1)))))))), ?_⟩
  refine ⟨_, rfl, t, _, _, _, rfl, rfl, SqL.of hT, rfl, _, _, rfl, rfl, _, rfl, ite2 (fun _ => ?_) fun _ => ?_⟩
  · refine ⟨_, rfl, t, _, _, _, rfl, rfl, SqL.of hT, rfl, _, rfl, _, _, rfl, rfl, by omega, ?_⟩
    refine ⟨_, rfl, t, _, _, _, rfl, rfl, SqL.of hT, rfl, _, rfl, _, _, rfl, rfl, wide_div (b := 1000) (by omega) (by omega) (by decide) (by decide), ?_⟩
    refine ⟨_, rfl, t, _, _, _, rfl, rfl, hT, rfl, ?_⟩
    refine ⟨_, rfl, q _ _ (Int.emod_nonneg _ (by omega)) (Int.emod_lt_of_pos _ (by omega)) ExB.upd ⟨_, _, _, upd_same, p1, p2, p3, by omega⟩⟩
  · refine ⟨_, rfl, t, _, _, _, rfl, rfl, SqL.of hT, rfl, _, _, rfl, rfl, ?_⟩
    refine ⟨_, rfl, t, _, _, _, rfl, rfl, hT, rfl, ?_⟩
    have hT2 : (upd H t (.lst (List.set [.int x0, .int x1, .int x2] 2 (.int (x2 + 1))))) t = some (.lst [.int x0, .int x1, .int (x2 + 1)]) := upd_same
    refine ⟨_, rfl, t, _, _, _, rfl, rfl, SqL.of hT2, rfl, _, rfl, t, _, _, _, rfl, rfl, SqL.of hT2, rfl, _, _, rfl, rfl, ?_, _, _, rfl, rfl, _, _, rfl, rfl, ⟨by decide, by decide, ?_⟩, ?_⟩
    · exact wide_mul (a := 64) (b := 64) (by decide) (by omega) (by decide) (by decide) (by decide)
    · have e : (10 : Int) ^ 46 = 10000000000000000000000000000000000000000000000 := by decide
      rw [e] at p2
      have : (x1 + 122949829 * (x2 + 1)).natAbs < 2 ^ 200 := by omega
      exact p4000 this
    refine ⟨_, _, rfl, rfl, ⟨by decide, by decide, by decide⟩, _, _, rfl, rfl, _, _, rfl, rfl, (by show (0 : Int) < _; decide), ?_⟩
    have z0 : 0 ≤ ((x1 + 122949829 * (x2 + 1)) ^ (3 : Int).toNat % (10 ^ (46 : Int).toNat + 9)) := Int.emod_nonneg _ (by decide)
    have z1 : ((x1 + 122949829 * (x2 + 1)) ^ (3 : Int).toNat % (10 ^ (46 : Int).toNat + 9)) < 10 ^ (46 : Int).toNat + 9 := Int.emod_lt_of_pos _ (by decide)
    have zz : ∀ z : Int, 0 ≤ z → z < 10 ^ (46 : Int).toNat + 9 → (z + 67867979 * (x2 + 1)).natAbs < 2 ^ 200 := fun z z0 z1 => by
      have e : (10 : Int) ^ (46 : Int).toNat = 10000000000000000000000000000000000000000000000 := by decide
      rw [e] at z1
      omega
    refine ⟨_, rfl, _, rfl, t, _, _, _, rfl, rfl, SqL.of hT2, rfl, _, _, rfl, rfl, ?_, _, _, rfl, rfl, _, _, rfl, rfl, ⟨by decide, by decide, ?_⟩, ?_⟩
    · exact wide_mul (a := 64) (b := 64) (by decide) (by omega) (by decide) (by decide) (by decide)
    · exact p4000 (zz _ z0 z1)
    refine ⟨_, _, rfl, rfl, ⟨by decide, by decide, by decide⟩, _, _, rfl, rfl, _, _, rfl, rfl, (by show (0 : Int) < _; decide), ?_⟩
    refine ⟨_, rfl, _, _, rfl, rfl, wide_div (b := 1000) (by decide) (by decide) (by decide) (by decide), _, rfl, _, _, rfl, rfl, by omega, ?_⟩
    exact q _ _ (Int.emod_nonneg _ (by omega)) (Int.emod_lt_of_pos _ (by omega)) ExB.upd ⟨_, _, _, upd_same, p1, p2, by omega, by omega⟩
def sp__law_row (K : PySem.W.Frag) : Sp := fun vs H Q _ => ∃ t, ∃ b m : Int, vs = [.ref t, .int b] ∧ Mug H t m ∧ 1 ≤ b ∧ b ≤ 100 ∧ 0 ≤ m ∧ m ≤ 900000 ∧
  ∀ p H', ∀ xs : List Int, H p = none → ExB t H H' → Mug H' t (m + 1000) → H' p = some (.tup (xs.map V.int)) → Rw xs → (xs.length : Int) ≤ b → Q (.ref p) H'
theorem ok__law_row {f : Addr} {fd : FuncData} (D : DefAt K mg "_law_row" s__law_row ["mug", "most"] f fd) (T : Top mg) (c__law_gulp : C8.Cal P w K mg base 1 "_law_gulp" (sp__law_gulp K) []) :
    C8.Cal P w K mg base 2 "_law_row" (sp__law_row K) [] := by
  refine D.cal sc__law_row (fun vs H Q E h => ?len) fun cdv A outer s H vs Q E hr h => ?body
  case len => obtain ⟨a, n, m, rfl, _⟩ := h; rfl
  obtain ⟨t, b, m, rfl, hT, b1, b2, m0, m1, q⟩ := h
  refine ⟨_, (pss_cons (ps_set (i := 2) sc__law_row.nd rfl (.inl rfl) (pe_ix ix_list (pe_lst (pa_cons (pe_op op_add pe_int (C8.pe_c c__law_gulp hr (by decide) (by rfl) (pa_cons (pv 0) (pa_cons (pv 1) pa_nil)))) (pa_cons (pv 1) (pa_cons (pe_op op_add pe_int (C8.pe_c c__law_gulp hr (by decide) (by rfl) (pa_cons (pv 0) (pa_cons (pe_callB (call_min2 rfl) (by rfl) T.min (by decide +kernel) (pa_cons (pv 1) (pa_cons pe_int pa_nil))) pa_nil)))) pa_nil)))) (C8.pe_c c__law_gulp hr (by decide) (by rfl) (pa_cons (pv 0) (pa_cons pe_int pa_nil))) (fun _ _ => rfl)))
      (pss_cons (ps_par3 (i := 3) (j := 4) (l := 5) (by rfl) sc__law_row.nd rfl rfl rfl (by decide) (by decide) (by decide) rfl rfl rfl (pa_cons (C8.pe_c c__law_gulp hr (by decide) (by rfl) (pa_cons (pv 0) (pa_cons pe_int pa_nil))) (pa_cons (pe_lst pa_nil) (pa_cons pe_int pa_nil))) (by rfl))
      (pss_cons (ps_for PassesOwn.never rfl (pi_range1 (by rfl) T.range (pa_cons (pv 2) pa_nil)) (pg_name (i := 6) sc__law_row.nd rfl (.inl rfl))
        (pss_cons (ps_set (i := 5) sc__law_row.nd rfl (.inl rfl) (pe_op op_sub (pe_op op_add (pv 5) (C8.pe_c c__law_gulp hr (by decide) (by rfl) (pa_cons (pv 0) (pa_cons pe_int pa_nil)))) pe_int))
          (pss_cons (ps_set (i := 7) sc__law_row.nd rfl (.inl rfl) (pe_lst (pa_cons (C8.pe_c c__law_gulp hr (by decide) (by rfl) (pa_cons (pv 0) (pa_cons pe_int pa_nil))) (pa_cons (pe_op op_sub (C8.pe_c c__law_gulp hr (by decide) (by rfl) (pa_cons (pv 0) (pa_cons pe_int pa_nil))) pe_int) (pa_cons (pv 5) (pa_cons (pe_op op_sub pe_int (pe_op op_fdivW (pv 6) pe_int)) (pa_cons (pe_op op_sub (pe_op op_powW pe_int pe_int) (C8.pe_c c__law_gulp hr (by decide) (by rfl) (pa_cons (pv 0) (pa_cons pe_int pa_nil)))) pa_nil)))))))
          (pss_one (ps_expr (pe_bm PySem.F.plainAttrs_list PySem.F.slot_list_append PySem.F.type_list_append mt_append (pv 4) (pa_cons (pe_ix ix_list (pv 7) (pv 3) (fun _ _ => rfl)) pa_nil)))))))
      (pss_one (ps_ret (pe_callTy call_tuple_of (by rfl) T.tuple (by decide +kernel) (pa_cons (pv 4) pa_nil))))))), ?_⟩
  have ten : (10 : Int) ^ (30 : Int).toNat = 1000000000000000000000000000000 := by decide
  -- many
  refine ⟨_, rfl, _, rfl, t, b, m, rfl, hT, b1, p1000 (by omega), by omega, fun r1 H1 r10 r11 e1 T1 => ?_⟩
  refine ⟨_, _, rfl, rfl, _, rfl, _, rfl, _, rfl, _, _, rfl, t, _, m + 1, rfl, T1, (min_in (lo := 1) (hi := 100) b1 (by decide) b2).1, p1000 (Int.le_trans (min_in (lo := 1) (hi := 100) b1 (by decide) b2).2 (by decide)), by omega, fun r2 H2 r20 r21 e2 T2 => ?_⟩
  refine ⟨_, _, rfl, rfl, by show 3 ≤ sizeLine; decide, fun p hp => ?_⟩
  refine ⟨_, rfl, t, 3, m + 1 + 1, rfl, T2.ex (Evl.Ex.new hp), by decide, p1000 (by decide), by omega, fun r3 H3 r30 r31 e3 T3 => ?_⟩
  have hpt : p ≠ t := T2.ne hp
  have g3 : H3 p = some (.lst [.int (1 + r1), .int b, .int (1 + r2)]) := e3 _ _ hpt upd_same
  have hmin : (if (6 : Int) < b then 6 else b) ≤ b := by split <;> omega
  obtain ⟨size, hsz, sz1, sz2⟩ := at3 (lo := 1) (hi := b) r30 r31 (x := 1 + r1) (y := b) (z := 1 + r2) ⟨by omega, by omega⟩ ⟨b1, Int.le_refl _⟩ ⟨by omega, by omega⟩
  refine ⟨p, _, _, _, rfl, rfl, SqL.of g3, hsz, ?_⟩
  have E3 : ExB t H H3 := (e1.trans e2).trans ((ExB.of (Evl.Ex.new hp)).trans e3)
  -- way, found, last
  refine ⟨_, rfl, t, 5, m + 1 + 1 + 1, rfl, T3, by decide, p1000 (by decide), by omega, fun way H4 w0 w1 e4 T4 => ?_⟩
  refine ⟨Nat.zero_le _, fun fl hfl => ?_⟩
  refine ⟨_, _, _, rfl, ?_⟩
  have E4 : ExB t H H4 := E3.trans e4
  have nfl : fl ≠ t := T4.ne hfl
  have fl0 : H fl = none := none_back E4 nfl hfl
  -- the loop
  refine ⟨_, rfl, size, rfl, by omega, by omega, ?_⟩
  refine for_range (lo := 0) (n := size.toNat) (fun i σ H' => ∃ (xs : List Int) (c : Int) (y6 y7 : Option V),
      σ = [some (.ref t), some (.int b), some (.int size), some (.int way), some (.ref fl), some (.int c), y6, y7] ∧ xs.length = i ∧ -2 * (i : Int) ≤ c ∧ c ≤ 2 * i ∧ (∀ x ∈ xs, -10 ^ 30 ≤ x ∧ x ≤ 10 ^ 30) ∧
      H' fl = some (.lst (xs.map V.int)) ∧ ExB t H H' ∧ Mug H' t (m + 10 + 4 * i)) ?_ ?_ ?_
  · refine ⟨[], 0, _, _, rfl, rfl, by omega, by omega, fun x hx => (List.not_mem_nil hx).elim, upd_same, E4.trans (ExB.of (Evl.Ex.new hfl)), (T4.ex (Evl.Ex.new hfl)).le (by omega)⟩
  · rintro i σ H5 hi ⟨xs, c, y6, y7, rfl, hxi, c0, c1, hB, hfl5, E5, T5⟩
    have hi100 : i < 100 := by omega
    -- last
    refine ⟨_, rfl, _, rfl, t, 5, _, rfl, T5, by decide, p1000 (by decide), by omega, fun s1 H6 s10 s11 e6 T6 => ?_⟩
    refine ⟨_, _, rfl, rfl, _, _, rfl, rfl, ?_⟩
    obtain ⟨c', hc'⟩ : ∃ c' : Int, c' = c + s1 - 2 := ⟨_, rfl⟩
    rw [show (fun i j => V.int (i - j)) (c + s1) 2 = V.int c' from congrArg V.int hc'.symm]
    -- some
    refine ⟨_, rfl, t, 3, _, rfl, T6, by decide, p1000 (by decide), by omega, fun s2 H7 s20 s21 e7 T7 => ?_⟩
    refine ⟨_, rfl, t, 100, _, rfl, T7, by decide, p1000 (by decide), by omega, fun s3 H8 s30 s31 e8 T8 => ?_⟩
    refine ⟨_, _, rfl, rfl, _, rfl, _, rfl, _, _, rfl, rfl, wide_div (b := 1000) (by decide) (by decide) (by decide) (by decide), _, _, rfl, rfl, _, _, rfl, rfl, ⟨by decide, by decide, by decide⟩, _, rfl, t, 3, _, rfl, T8, by decide, p1000 (by decide), by omega, fun s4 H9 s40 s41 e9 T9 => ?_⟩
    refine ⟨_, _, rfl, rfl, by show 5 ≤ sizeLine; decide, fun sl hsl => ?_⟩
    obtain ⟨v, hv, v0, v1⟩ := at5 (lo := -10 ^ 30) (hi := 10 ^ 30) w0 w1 (x1 := s2) (x2 := s3 - 50) (x3 := c') (x4 := 0 - (0 + (i : Int)) / 2) (x5 := 10 ^ (30 : Int).toNat - s4)
      ⟨by omega, by omega⟩ ⟨by omega, by omega⟩ ⟨by omega, by omega⟩ ⟨by omega, by omega⟩ ⟨by rw [ten]; omega, by rw [ten]; omega⟩
    have E59 := ((e6.trans e7).trans e8).trans e9
    have X10 := Evl.Ex.new (o := .lst [.int s2, .int (s3 - 50), .int c', .int (0 - (0 + (i : Int)) / 2), .int (10 ^ (30 : Int).toNat - s4)]) hsl
    have hfl10 := X10 _ _ (E59 _ _ nfl hfl5)
    refine ⟨_, rfl, .inl ⟨rfl, _, SqL.of hfl10⟩, _, rfl, _, rfl, sl, _, _, _, rfl, rfl, SqL.of upd_same, hv, fl, _, _, rfl, rfl, hfl10, ?_, ?_⟩
    · rw [List.length_map]; exact small1000 (by omega)
    · refine ⟨xs ++ [v], c', _, _, rfl, ?_, by omega, by omega, fun x hx => ?_, ?_, ?_, ?_⟩
      · rw [List.length_append, hxi]; rfl
      · rcases List.mem_append.mp hx with hx | hx
        · exact hB x hx
        · rw [List.mem_singleton] at hx; rw [hx]; exact ⟨v0, v1⟩
      · rw [upd_same, List.map_append]; rfl
      · intro b' o' n' h'
        rw [upd_ne (ne_of_none h' fl0)]
        exact X10 _ _ (E59 _ _ n' (E5 _ _ n' h'))
      · exact ((T9.ex X10).exB (b := fl) ExB.upd nfl.symm).le (by omega)
  · rintro σ H5 ⟨xs, c, y6, y7, rfl, hxi, c0, c1, hB, hfl5, E5, T5⟩
    refine ⟨_, rfl, fl, _, rfl, .inl ⟨SqL.of hfl5, fun r hr' => ?_⟩⟩
    exact q r _ xs (none_back E5 (T5.ne hr') hr') (E5.trans (ExB.of (Evl.Ex.new hr'))) ((T5.ex (Evl.Ex.new hr')).le (by omega)) upd_same ⟨by omega, by omega, hB⟩ (by omega)
def sp__law_loads (K : PySem.W.Frag) : Sp := fun vs H Q _ => ∃ t, ∃ b m : Int, vs = [.ref t, .int b] ∧ Mug H t m ∧ 1 ≤ b ∧ b ≤ 100 ∧ 0 ≤ m ∧ m ≤ 900000 ∧
  ∀ p H', ∀ ws : List Int, H p = none → ExB t H H' → Mug H' t (m + 1000) → H' p = some (.tup (ws.map V.int)) → Wt ws b.toNat → Q (.ref p) H'
theorem ok__law_loads {f : Addr} {fd : FuncData} (D : DefAt K mg "_law_loads" s__law_loads ["mug", "many"] f fd) (T : Top mg) (c__law_gulp : C8.Cal P w K mg base 1 "_law_gulp" (sp__law_gulp K) []) :
    C8.Cal P w K mg base 2 "_law_loads" (sp__law_loads K) [] := by
  refine D.cal sc__law_loads (fun vs H Q E h => ?len) fun cdv A outer s H vs Q E hr h => ?body
  case len => obtain ⟨a, n, m, rfl, _⟩ := h; rfl
  obtain ⟨t, b, m, rfl, hT, b1, b2, m0, m1, q⟩ := h
  refine ⟨_, (pss_cons (ps_asg (pe_tup (pa_cons (C8.pe_c c__law_gulp hr (by decide) (by rfl) (pa_cons (pv 0) (pa_cons pe_int pa_nil))) (pa_cons (pe_lst pa_nil) (pa_cons pe_int (pa_cons pe_int pa_nil))))) (pg_tup rfl (pgs_cons (pg_name (i := 2) sc__law_loads.nd rfl (.inl rfl)) (pgs_cons (pg_name (i := 3) sc__law_loads.nd rfl (.inl rfl)) (pgs_cons (pg_name (i := 4) sc__law_loads.nd rfl (.inl rfl)) (pgs_cons (pg_name (i := 5) sc__law_loads.nd rfl (.inl rfl)) pgs_nil))))))
      (pss_cons (ps_for PassesOwn.never rfl (pi_range1 (by rfl) T.range (pa_cons (pv 1) pa_nil)) (pg_name (i := 6) sc__law_loads.nd rfl (.inl rfl))
        (pss_cons (ps_set (i := 7) sc__law_loads.nd rfl (.inl rfl) (pe_lst (pa_cons pe_int (pa_cons (pe_op op_add pe_int (C8.pe_c c__law_gulp hr (by decide) (by rfl) (pa_cons (pv 0) (pa_cons pe_int pa_nil)))) (pa_cons (pe_op op_add pe_int (C8.pe_c c__law_gulp hr (by decide) (by rfl) (pa_cons (pv 0) (pa_cons (pe_op op_powW pe_int pe_int) pa_nil)))) (pa_cons (pe_op op_sub (pe_op op_powW pe_int pe_int) (C8.pe_c c__law_gulp hr (by decide) (by rfl) (pa_cons (pv 0) (pa_cons pe_int pa_nil)))) (pa_cons (pv 4) (pa_cons (pv 4) pa_nil))))))))
          (pss_cons (ps_expr (pe_bm PySem.F.plainAttrs_list PySem.F.slot_list_append PySem.F.type_list_append mt_append (pv 3) (pa_cons (pe_ix ix_list (pv 7) (pv 2) (fun _ _ => rfl)) pa_nil)))
          (pss_one (ps_par (i := 4) (j := 5) (by rfl) sc__law_loads.nd rfl rfl (by decide) rfl rfl (pa_cons (pv 5) (pa_cons (pe_callB (call_min2 rfl) (by rfl) T.min (by decide +kernel) (pa_cons (pe_op op_add (pv 4) (pv 5)) (pa_cons (pe_op op_powW pe_int pe_int) pa_nil))) pa_nil)) (by rfl))))))
      (pss_one (ps_ret (pe_callTy call_tuple_of (by rfl) T.tuple (by decide +kernel) (pa_cons (pe_ifExp (pt_cmpR op_eq (pv 2) pe_int (nomark _)) (pe_revL (pv 3)) (pv 3)) pa_nil)))))), ?_⟩
  have ten : (10 : Int) ^ (28 : Int).toNat = 10000000000000000000000000000 := by decide
  refine ⟨_, rfl, t, 6, m, rfl, hT, by decide, p1000 (by decide), by omega, fun way H1 w0 w1 e1 T1 => ?_⟩
  refine ⟨Nat.zero_le _, fun fl hfl => ⟨by show 4 ≤ sizeLine; decide, fun pt hpt => ?_⟩⟩
  have X2 := Evl.Ex.new (o := .lst []) hfl
  have X3 := Evl.Ex.new (o := .tup [.int way, .ref fl, .int 1, .int 1]) hpt
  have nfl : fl ≠ t := T1.ne hfl
  have fl0 : H fl = none := none_back e1 nfl hfl
  have hfl3 := X3 _ _ (upd_same (H := H1) (a := fl) (o := .lst []))
  have T3 := (T1.ex X2).ex X3
  have E3 := e1.trans (ExB.of (X2.trans X3))
  refine ⟨pt, _, rfl, SqT.of upd_same, rfl, _, _, rfl, _, _, rfl, _, _, rfl, _, _, rfl, rfl, ?_⟩
  refine ⟨_, rfl, _, rfl, by omega, by omega, ?_⟩
  refine for_range (lo := 0) (n := b.toNat) (fun i σ H' => ∃ (ws : List Int) (c d : Int) (y6 y7 : Option V),
      σ = [some (.ref t), some (.int b), some (.int way), some (.ref fl), some (.int c), some (.int d), y6, y7] ∧ ws.length = i ∧ 1 ≤ c ∧ c ≤ 10 ^ 28 ∧ 1 ≤ d ∧ d ≤ 10 ^ 28 ∧ (∀ x ∈ ws, 1 ≤ x ∧ x ≤ 10 ^ 28) ∧
      H' fl = some (.lst (ws.map V.int)) ∧ ExB t H H' ∧ Mug H' t (m + 10 + 4 * i)) ?_ ?_ ?_
  · exact ⟨[], 1, 1, _, _, rfl, rfl, by decide, by decide, by decide, by decide, fun x hx => (List.not_mem_nil hx).elim, hfl3, E3, T3.le (by omega)⟩
  · rintro i σ H5 hi ⟨ws, c, d, y6, y7, rfl, hwi, c0, c1, d0, d1, hB, hfl5, E5, T5⟩
    have hi100 : i < 100 := by omega
    refine ⟨_, rfl, t, 3, _, rfl, T5, by decide, p1000 (by decide), by omega, fun s1 H6 s10 s11 e6 T6 => ?_⟩
    refine ⟨_, _, rfl, rfl, _, rfl, _, _, rfl, rfl, ⟨by decide, by decide, by decide⟩, t, _, _, rfl, T6, by rw [ten]; decide, by rw [ten]; exact p1000w (by decide), by omega, fun s2 H7 s20 s21 e7 T7 => ?_⟩
    rw [ten] at s21
    refine ⟨_, _, rfl, rfl, _, _, rfl, rfl, ⟨by decide, by decide, by decide⟩, _, rfl, t, 3, _, rfl, T7, by decide, p1000 (by decide), by omega, fun s3 H8 s30 s31 e8 T8 => ?_⟩
    refine ⟨_, _, rfl, rfl, _, rfl, _, rfl, by show 6 ≤ sizeLine; decide, fun sl hsl => ?_⟩
    obtain ⟨v, hv, v0, v1⟩ : ∃ v : Int, atI [V.int 1, .int (1 + s1), .int (1 + s2), .int (10 ^ (28 : Int).toNat - s3), .int c, .int c] way = some (.int v) ∧ 1 ≤ v ∧ v ≤ 10 ^ 28 := by
      rcases (show way = 0 ∨ way = 1 ∨ way = 2 ∨ way = 3 ∨ way = 4 ∨ way = 5 by omega) with e | e | e | e | e | e <;> subst e
      · exact ⟨1, rfl, by decide, by decide⟩
      · exact ⟨_, rfl, by omega, by omega⟩
      · exact ⟨_, rfl, by omega, by omega⟩
      · exact ⟨_, rfl, by rw [ten]; omega, by rw [ten]; omega⟩
      · exact ⟨_, rfl, c0, c1⟩
      · exact ⟨_, rfl, c0, c1⟩
    have E58 := (e6.trans e7).trans e8
    have X9 := Evl.Ex.new (o := .lst [.int 1, .int (1 + s1), .int (1 + s2), .int (10 ^ (28 : Int).toNat - s3), .int c, .int c]) hsl
    have hfl9 := X9 _ _ (E58 _ _ nfl hfl5)
    refine ⟨_, rfl, .inl ⟨rfl, _, SqL.of hfl9⟩, _, rfl, _, rfl, sl, _, _, _, rfl, rfl, SqL.of upd_same, hv, fl, _, _, rfl, rfl, hfl9, ?_, ?_⟩
    · rw [List.length_map]; exact small1000 (by omega)
    refine ⟨_, rfl, _, rfl, _, rfl, _, _, rfl, rfl, _, _, rfl, rfl, ⟨by decide, by decide, by decide⟩, _, _, rfl, _, _, rfl, ?_⟩
    have hmin := min_in (lo := 1) (hi := 10 ^ 28) (a := 10 ^ 28) (b := c + d) (by decide) (by omega) (by decide)
    refine ⟨ws ++ [v], d, _, _, _, rfl, ?_, d0, d1, ?_, ?_, fun x hx => ?_, ?_, ?_, ?_⟩
    · rw [List.length_append, hwi]; rfl
    · rw [ten]; split <;> omega
    · rw [ten]; split <;> omega
    · rcases List.mem_append.mp hx with hx | hx
      · exact hB x hx
      · rw [List.mem_singleton] at hx; rw [hx]; exact ⟨v0, v1⟩
    · rw [upd_same, List.map_append]; rfl
    · intro b' o' n' h'
      rw [upd_ne (ne_of_none h' fl0)]
      exact X9 _ _ (E58 _ _ n' (E5 _ _ n' h'))
    · exact ((T8.ex X9).exB (b := fl) ExB.upd nfl.symm).le (by omega)
  · rintro σ H5 ⟨ws, c, d, y6, y7, rfl, hwi, c0, c1, d0, d1, hB, hfl5, E5, T5⟩
    refine ⟨_, rfl, rfl, _, rfl, ite2 (fun _ => ?_) fun _ => ?_⟩
    · refine ⟨_, rfl, fl, _, rfl, SqL.of hfl5, fun p hp => ⟨p, _, rfl, .inl ⟨SqL.of upd_same, fun r hr' => ?_⟩⟩⟩
      have X6 := (Evl.Ex.new (o := .lst (ws.map V.int).reverse) hp).trans (Evl.Ex.new (o := .tup (ws.map V.int).reverse) hr')
      have zr : H5 r = none := Evl.fresh_back (Evl.Ex.new hp) hr'
      refine q r _ ws.reverse (none_back E5 (T5.ne zr) zr) (E5.trans (ExB.of X6)) ((T5.ex X6).le (by omega)) (by rw [upd_same, List.map_reverse]) ⟨by rw [List.length_reverse]; omega, fun x hx => (hB x (List.mem_reverse.mp hx)).1, fun x hx => (hB x (List.mem_reverse.mp hx)).2⟩
    · refine ⟨_, rfl, fl, _, rfl, .inl ⟨SqL.of hfl5, fun r hr' => ?_⟩⟩
      exact q r _ ws (none_back E5 (T5.ne hr') hr') (E5.trans (ExB.of (Evl.Ex.new hr'))) ((T5.ex (Evl.Ex.new hr')).le (by omega)) upd_same ⟨by omega, fun x hx => (hB x hx).1, fun x hx => (hB x hx).2⟩
end
end K38

set_option Elab.async false
set_option linter.all false
set_option maxRecDepth 100000
set_option maxHeartbeats 1000000
namespace K38
open PySem PySem.Spec
open PyProof.Rows L2 Sx
section
variable {P : Program} {w : World} {K : PySem.W.Frag} {mg : Str → Option Value} {base : Heap}
def sp__law_slow (K : PySem.W.Frag) : Sp := fun vs H Q _ => ∃ n : Nat, vs = [.int n] ∧ 2 ≤ n ∧ n ≤ 100 ∧
  ∀ p a w H', H p = none → Ex H H' → H' p = some (.tup [.ref a, .ref w]) → SqT K H' a ((slowX n).map V.int) → SqT K H' w ((slowW n).map V.int) → Q (.ref p) H'
theorem ok__law_slow {f : Addr} {fd : FuncData} (D : DefAt K mg "_law_slow" s__law_slow ["many"] f fd) (T : Top mg)  :
    C8.Cal P w K mg base 1 "_law_slow" (sp__law_slow K) [] := by
  refine D.cal sc__law_slow (fun vs H Q E h => ?len) fun cdv A outer s H vs Q E hr h => ?body
  case len => obtain ⟨n, rfl, _⟩ := h; rfl
  obtain ⟨n, rfl, n2, n100, q⟩ := h
  refine ⟨_, (pss_cons (ps_par3 (i := 1) (j := 2) (l := 3) (by rfl) sc__law_slow.nd rfl rfl rfl (by decide) (by decide) (by decide) rfl rfl rfl (pa_cons pe_int (pa_cons pe_int (pa_cons (pe_lst (pa_cons pe_int (pa_cons pe_int pa_nil))) pa_nil))) (by rfl))
      (pss_cons (ps_while PassesOwn.never (pt_cmpR op_lt (pe_callB call_len_seq (by rfl) T.len (by decide +kernel) (pa_cons (pv 3) pa_nil)) (pv 0) (nomark _))
        (pss_cons (ps_expr (pe_bm PySem.F.plainAttrs_list PySem.F.slot_list_append PySem.F.type_list_append mt_append (pv 3) (pa_cons (pv 2) pa_nil)))
          (pss_one (ps_par (i := 1) (j := 2) (by rfl) sc__law_slow.nd rfl rfl (by decide) rfl rfl (pa_cons (pv 2) (pa_cons (pe_callB (call_min2 rfl) (by rfl) T.min (by decide +kernel) (pa_cons (pe_op op_add (pv 1) (pv 2)) (pa_cons (pe_op op_powW pe_int pe_int) pa_nil))) pa_nil)) (by rfl)))))
      (pss_one (ps_ret (pe_tup (pa_cons (pe_tupC rfl (by rfl) T.tuple (by rfl) T.range (pa_cons (pv 0) (pa_cons pe_int (pa_cons (pe_un un_neg pe_int) pa_nil)))) (pa_cons (pe_callTy call_tuple_of (by rfl) T.tuple (by decide +kernel) (pa_cons (pe_revL (pe_slice sl_list (pv 3) po_none (po_some (pv 0)))) pa_nil)) pa_nil))))))), ?_⟩
  have ten : (10 : Int) ^ (28 : Int).toNat = 10000000000000000000000000000 := by decide
  refine ⟨by show 2 ≤ sizeLine; decide, fun fl hfl => ?_⟩
  refine ⟨_, _, _, rfl, ?_⟩
  refine ⟨fun m σ H' => ∃ k, k + 2 + m = n ∧ Ex H H' ∧ σ = [some (.int (n : Int)), some (.int (pr k).1), some (.int (pr k).2), some (.ref fl)] ∧ H' fl = some (.lst ((fsl k).map V.int)), ⟨n - 2, 0, by omega, Evl.Ex.new hfl, rfl, upd_same⟩, ?_⟩
  rintro m σ H1 ⟨k, hk, X1, rfl, hfl1⟩
  refine ⟨_, rfl, fl, _, rfl, .inl (SqL.of hfl1), _, rfl, _, _, rfl, rfl, _, rfl, ?_⟩
  rw [List.length_map, fsl_len]
  refine ite2 (fun t => ?_) fun t => ?_
  · have t : ((k + 2 : Nat) : Int) < (n : Int) := of_decide_eq_true t
    refine ⟨_, fun _ _ h => h, ?_⟩
    refine ⟨_, rfl, .inl ⟨rfl, _, SqL.of hfl1⟩, _, rfl, fl, _, _, rfl, rfl, hfl1, ?_, ?_⟩
    · rw [List.length_map, fsl_len]; exact small1000 (by omega)
    refine ⟨_, rfl, _, rfl, _, rfl, _, _, rfl, rfl, _, _, rfl, rfl, ⟨by decide, by decide, by decide⟩, _, _, rfl, _, _, rfl, ?_⟩
    refine ⟨m - 1, by omega, k + 1, by omega, Evl.Ex.mut X1 hfl, ?_, ?_⟩
    · rw [ten]; rfl
    · rw [upd_same, fsl_succ, List.map_append]; rfl
  · have t : ¬ ((k + 2 : Nat) : Int) < (n : Int) := fun h => t (decide_eq_true h)
    have ek : k = n - 2 := by omega
    subst ek
    refine ⟨_, rfl, _, rfl, _, _, _, n, rfl, ?_, by omega, fun q1 hq1 => ?_⟩
    · have := RgC.neg (i := (n : Int)) (j := 0) (by omega) (by omega) (by omega) (by omega)
      rw [show ((n : Int) - 0).toNat = n by omega] at this
      exact this
    have Y1 := Evl.Ex.new (o := .tup ((rgC n (-1) n).map V.int)) hq1
    have hfl2 := Y1 _ _ hfl1
    refine ⟨_, rfl, ?_⟩
    dsimp only [tNoPart]
    refine ⟨_, rfl, _, rfl, fl, _, rfl, SqL.of hfl2, fun q2 hq2 => ?_⟩
    rw [cut_take, List.take_of_length_le (by rw [List.length_map, fsl_len]; omega)]
    have Y2 := Evl.Ex.new (o := .lst ((fsl (n - 2)).map V.int)) hq2
    refine ⟨q2, _, rfl, SqL.of upd_same, fun q3 hq3 => ?_⟩
    have Y3 := Evl.Ex.new (o := .lst ((fsl (n - 2)).map V.int).reverse) hq3
    refine ⟨q3, _, rfl, .inl ⟨SqL.of upd_same, fun q4 hq4 => ?_⟩⟩
    have Y4 := Evl.Ex.new (o := .tup ((fsl (n - 2)).map V.int).reverse) hq4
    refine ⟨by show 2 ≤ sizeLine; decide, fun q5 hq5 => ?_⟩
    have Y5 := Evl.Ex.new (o := .tup [.ref q1, .ref q4]) hq5
    have Y15 := (((Y1.trans Y2).trans Y3).trans Y4)
    refine q q5 q1 q4 _ (Evl.fresh_back (X1.trans Y15) hq5) ((X1.trans Y15).trans Y5) upd_same (SqT.of (Y5 _ _ (Y4 _ _ (Y3 _ _ (Y2 _ _ upd_same))))) (SqT.of (Y5 _ _ ?_))
    rw [upd_same]
    unfold slowW
    rw [List.map_reverse]
end
end K38

set_option Elab.async false
set_option linter.all false
set_option maxRecDepth 100000
set_option maxHeartbeats 1000000
namespace K38
open PySem PySem.Spec
open PyProof.Rows L2 Sx
section
variable {P : Program} {w : World} {K : PySem.W.Frag} {mg : Str → Option Value} {base : Heap}
def sp__law_equal_right (K : PySem.W.Frag) : Sp := fun vs H Q _ => ∃ t a, ∃ xs : List Int, ∃ m : Int, vs = [.ref t, .ref a] ∧ Mug H t m ∧ SqT K H a (xs.map V.int) ∧ Rw xs ∧ 0 ≤ m ∧ m ≤ 900000 ∧ ∀ H', ExB t H H' → Mug H' t (m + 100) → Q (.bl true) H'
theorem ok__law_equal_right {f : Addr} {fd : FuncData} (D : DefAt K mg "_law_equal_right" s__law_equal_right ["mug", "row_here"] f fd) (T : Top mg) (c_weighted_after : CalN P w K mg base 8 "weighted_after" (sp_weighted_after K) 2 ["rounds"]) (cd_weighted_after : C8.Cal P w K mg base 8 "weighted_after" (sp_weighted_after K) [.int 1]) (c_span_of : C8.Cal P w K mg base 7 "span_of" (sp_span_of K) []) (c__law_gulp : C8.Cal P w K mg base 1 "_law_gulp" (sp__law_gulp K) []) (c_weighted_needed : C8.Cal P w K mg base 8 "weighted_needed" (sp_weighted_needed K) []) (c_rounds_needed : C8.Cal P w K mg base 6 "rounds_needed" (sp_rounds_needed K) []) (c_row_after : CalN P w K mg base 6 "row_after" (sp_row_after K) 1 ["rounds"]) (c_final_row : C8.Cal P w K mg base 6 "final_row" (sp_final_row K) []) :
    C8.Cal P w K mg base 9 "_law_equal_right" (sp__law_equal_right K) [] := by
  refine D.cal sc__law_equal_right (fun vs H Q E h => ?len) fun cdv A outer s H vs Q E hr h => ?body
  case len => obtain ⟨t, a, xs, m, rfl, _⟩ := h; rfl
  obtain ⟨t, a, xs, m, rfl, hT, hS, R, m0, m1, q⟩ := h
  refine ⟨_, (pss_cons (ps_asg (pe_tup (pa_cons (pe_op op_add pe_int (C8.pe_c c__law_gulp hr (by decide) (by rfl) (pa_cons (pv 0) (pa_cons (pe_ix ix_list (pe_lst (pa_cons pe_int (pa_cons pe_int (pa_cons (pe_op op_powW pe_int pe_int) pa_nil)))) (C8.pe_c c__law_gulp hr (by decide) (by rfl) (pa_cons (pv 0) (pa_cons pe_int pa_nil))) (fun _ _ => rfl)) pa_nil)))) (pa_cons (pe_op op_add pe_int (C8.pe_c c__law_gulp hr (by decide) (by rfl) (pa_cons (pv 0) (pa_cons pe_int pa_nil)))) pa_nil))) (pg_tup rfl (pgs_cons (pg_name (i := 2) sc__law_equal_right.nd rfl (.inr rfl)) (pgs_cons (pg_name (i := 3) sc__law_equal_right.nd rfl (.inl rfl)) pgs_nil))))
      (pss_cons (ps_set (i := 4) sc__law_equal_right.nd rfl (.inl rfl) (pe_op op_repA (pe_tup (pa_cons (pv 2) pa_nil)) (pe_callB call_len_seq (by rfl) T.len (by decide +kernel) (pa_cons (pv 1) pa_nil))))
      (pss_cons (ps_set (i := 5) sc__law_equal_right.nd rfl (.inl rfl) (pe_callTy call_tuple_of (by rfl) T.tuple (by decide +kernel) (pa_cons (pe_lc (own := [("entry", 8)]) (g := gName 8) (by rfl) sc__law_equal_right.nd (pi_tup (pe_kn c_row_after hr (by decide) (by rfl) (pa_cons (pv 1) pa_nil) (pk_cons (pv 3) pk_nil))) (blkOk_by (own := [("entry", 8)]) (N := ["mug", "row_here", "load", "often", "loads", "due", "told", "spot", "entry"]) (sc := defScope s__law_equal_right) (by decide +kernel)) (fun _ _ _ _ _ => (pg_name (i := 8) sc__law_equal_right.nd rfl (.inl rfl))) (fun _ _ _ _ _ => pts_nil) (fun _ _ _ _ _ => (pe_op op_mulW (pv 2) (pv 8)))) pa_nil)))
      (pss_cons (ps_if (pt_cmpR (op_neD hr.units) (pe_kn c_weighted_after hr (by decide) (by rfl) (pa_cons (pv 1) (pa_cons (pv 4) pa_nil)) (pk_cons (pv 3) pk_nil)) (pv 5) (nomark _))
        (pss_one (ps_ret pe_bl))
        pss_nil)
      (pss_cons (ps_if (PW.pt (pw_and (pt_cmpR op_eq (pv 2) pe_int (nomark _)) (pw_and1 (pt_cmpR op_ne (C8.pe_c c_weighted_needed hr (by decide) (by rfl) (pa_cons (pv 1) (pa_cons (pv 4) pa_nil))) (C8.pe_c c_rounds_needed hr (by decide) (by rfl) (pa_cons (pv 1) pa_nil)) (nomark _)))))
        (pss_one (ps_ret pe_bl))
        pss_nil)
      (pss_cons (ps_setLc (i := 6) (own := [("spot", 7)]) (g := gName 7) (by rfl) sc__law_equal_right.nd rfl rfl (sw_true rfl rfl rfl (by decide +kernel)) (pi_range1 (by rfl) T.range (pa_cons (pe_callB call_len_seq (by rfl) T.len (by decide +kernel) (pa_cons (pv 1) pa_nil)) pa_nil)) (blkOk_by (own := [("spot", 7)]) (N := ["mug", "row_here", "load", "often", "loads", "due", "told", "spot", "entry"]) (sc := defScope s__law_equal_right) (by decide +kernel)) (fun _ _ _ _ _ => (pg_name (i := 7) sc__law_equal_right.nd rfl (.inl rfl))) (fun _ _ _ _ _ => pts_nil) (fun _ _ _ _ _ => (C8.pe_c c_span_of hr (by decide) (by rfl) (pa_cons (pv 1) (pa_cons (pv 7) pa_nil)))))
      (pss_cons (ps_if (PW.pt (pw_and (pt_cmpR op_eq (pv 2) pe_int (nomark _)) (pw_and1 (pt_cmpR (op_neD hr.units) (pv 6) (pe_callTy call_list_of (by rfl) T.list (by decide +kernel) (pa_cons (C8.pe_c cd_weighted_after hr (by decide) (by rfl) (pa_cons (pv 1) (pa_cons (pv 4) pa_nil))) pa_nil)) (nomark _)))))
        (pss_one (ps_ret pe_bl))
        pss_nil)
      (pss_one (ps_ret (pe_cmpR (op_eqD hr.units) (pe_kn c_weighted_after hr (by decide) (by rfl) (pa_cons (pv 1) (pa_cons (pv 4) pa_nil)) (pk_cons (pe_op op_powW pe_int pe_int) pk_nil)) (pe_callTy call_tuple_of (by rfl) T.tuple (by decide +kernel) (pa_cons (pe_lc (own := [("entry", 8)]) (g := gName 8) (by rfl) sc__law_equal_right.nd (pi_tup (C8.pe_c c_final_row hr (by decide) (by rfl) (pa_cons (pv 1) pa_nil))) (blkOk_by (own := [("entry", 8)]) (N := ["mug", "row_here", "load", "often", "loads", "due", "told", "spot", "entry"]) (sc := defScope s__law_equal_right) (by decide +kernel)) (fun _ _ _ _ _ => (pg_name (i := 8) sc__law_equal_right.nd rfl (.inl rfl))) (fun _ _ _ _ _ => pts_nil) (fun _ _ _ _ _ => (pe_op op_mulW (pv 2) (pv 8)))) pa_nil)) (nomark _))))))))))), ?_⟩
  have hlo := R.lo
  have hhi := R.hi
  have ten : (10 : Int) ^ (28 : Int).toNat = 10000000000000000000000000000 := by decide
  have ten3 : (10 : Int) ^ (30 : Int).toNat = 1000000000000000000000000000000 := by decide
  refine ⟨_, rfl, _, _, rfl, rfl, ⟨by decide, by decide, by decide⟩, by show 3 ≤ sizeLine; decide, fun p1 hp1 => ?_⟩
  have X1 := Evl.Ex.new (o := .lst [.int 1, .int 9, .int (10 ^ (28 : Int).toNat)]) hp1
  have n1 : p1 ≠ t := hT.ne hp1
  refine ⟨_, rfl, t, 3, m, rfl, hT.ex X1, by decide, p1000 (by decide), by omega, fun r1 H2 r10 r11 e2 T2 => ?_⟩
  obtain ⟨wide, hat, w1, w2⟩ := at3 (lo := 1) (hi := 10 ^ 28) r10 r11 (x := 1) (y := 9) (z := 10 ^ (28 : Int).toNat) (by decide) (by decide) (by rw [ten]; decide)
  refine ⟨p1, _, _, _, rfl, rfl, SqL.of (e2 _ _ n1 upd_same), hat, ?_⟩
  refine ⟨t, wide, _, rfl, T2, w1, p1000w (Int.lt_of_le_of_lt w2 (by decide)), by omega, fun r3 H3 r30 r31 e3 T3 => ?_⟩
  refine ⟨_, _, rfl, rfl, ?_⟩
  obtain ⟨c, hc⟩ : ∃ c : Int, c = 1 + r3 := ⟨_, rfl⟩
  rw [show (fun i j : Int => V.int (i + j)) 1 r3 = .int c from congrArg V.int hc.symm]
  have c1 : 1 ≤ c := by omega
  have c2 : c ≤ 10 ^ 28 := by omega
  refine ⟨_, rfl, t, 12, _, rfl, T3, by decide, p1000 (by decide), by omega, fun ra H4 ra0 ra1 e4 T4 => ?_⟩
  refine ⟨_, _, rfl, rfl, ?_⟩
  obtain ⟨k, hk⟩ : ∃ k : Nat, ((k + 1 : Nat) : Int) = 1 + ra := ⟨ra.toNat, by omega⟩
  rw [show (fun i j : Int => V.int (i + j)) 1 ra = .int ((k + 1 : Nat) : Int) from congrArg V.int hk.symm]
  refine ⟨by show 2 ≤ sizeLine; decide, fun pt hpt => ⟨pt, _, rfl, SqT.of upd_same, rfl, _, _, rfl, _, _, rfl, rfl, ?_⟩⟩
  have T4 := T4.ex (Evl.Ex.new (o := .tup [.int c, .int ((k + 1 : Nat) : Int)]) hpt)
  have E4 := ((((ExB.of X1).trans e2).trans e3).trans e4).trans (ExB.of (Evl.Ex.new (o := .tup [.int c, .int ((k + 1 : Nat) : Int)]) hpt))
  generalize upd H4 pt (.tup [.int c, .int ((k + 1 : Nat) : Int)]) = H4 at T4 E4 ⊢
  have hS4 := hT.tup E4 hS
  -- loads
  refine ⟨_, rfl, by show 1 ≤ sizeLine; decide, fun p5 hp5 => ?_⟩
  have X5 := Evl.Ex.new (o := .tup [.int c]) hp5
  have hS5 := Evl.ex_t X5 hS4
  refine ⟨_, rfl, a, _, rfl, .inr hS5, p5, _, [.int c], rfl, rfl, SqT.of upd_same, List.cons_ne_nil _ _, by rw [List.length_map]; omega, by rw [List.length_map]; omega, by show 1 ≤ 1000; decide, fun s6 H6 X6 hs6 => ?_⟩
  rw [List.length_map, Int.toNat_natCast, rep_flat] at hs6
  have W2 : Wt (List.replicate xs.length c) xs.length := .same c1 c2
  have hS6 := Evl.ex_t X6 hS5
  -- due
  refine ⟨_, rfl, _, rfl, rfl, rfl, a, xs, _, rfl, hS6, R, by omega, by omega, fun b7 H7 X7 hb7 => ?_⟩
  rw [Int.toNat_natCast] at hb7
  refine ⟨b7, rfl, ⟨_, hb7⟩, fun D hD => ?_⟩
  refine lc_tup (K := K) (a := b7) (xs := (ro (k + 1) xs).map V.int) (fun j H' => Ex H7 H' ∧ H' D = some (.lst ((((ro (k + 1) xs).map (c * ·)).take j).map V.int))) ⟨Evl.Ex.new hD, upd_same⟩ (fun j H' _ h => Evl.ex_t h.1 hb7) ?_ ?_
  · rintro j x H8 hx ⟨X8, hDn⟩
    have hj : j < (ro (k + 1) xs).length := by
      have := (List.getElem?_eq_some_iff.mp hx).1
      rwa [List.length_map] at this
    have ex : x = .int (g (ro (k + 1) xs) j) := by
      rw [List.getElem?_map, g_get hj] at hx
      exact (Option.some.inj hx).symm
    subst ex
    have L := ro_lam xs k
    have l1 := L.lo j hj
    have l2 := L.hi j hj
    have l3 := ro_len xs (k + 1)
    refine ⟨rfl, ?_⟩
    dsimp only [tYes]
    rw [if_pos rfl]
    refine ⟨_, rfl, _, rfl, _, _, rfl, rfl, wide_mul (a := 200) (b := 64) (by omega) (by omega) (by decide) (by decide) (by decide), _, hDn, ?_, Evl.Ex.mut X8 hD, ?_⟩
    · rw [List.length_map, List.length_take, List.length_map]; exact small1000 (by omega)
    · rw [upd_same, List.take_add_one, g_get (by rw [List.length_map]; exact hj), g_scale hj, List.map_append]; rfl
  rintro H8 ⟨X8, hDn⟩
  rw [List.length_map, List.take_of_length_le (by rw [List.length_map]; exact Nat.le_refl _)] at hDn
  refine ⟨D, _, rfl, .inl ⟨SqL.of hDn, fun b9 hb9 => ?_⟩⟩
  have X9 := Evl.Ex.new (o := .tup (((ro (k + 1) xs).map (c * ·)).map V.int)) hb9
  have gb9 : SqT K (upd H8 b9 (.tup (((ro (k + 1) xs).map (c * ·)).map V.int))) b9 (((ro (k + 1) xs).map (c * ·)).map V.int) := SqT.of upd_same
  have X69 := (X7.trans X8).trans X9
  generalize upd H8 b9 (.tup (((ro (k + 1) xs).map (c * ·)).map V.int)) = H9 at X69 gb9 ⊢
  have hS9 := Evl.ex_t X69 hS6
  have hs9 := Evl.ex_t X69 hs6
  refine ⟨_, rfl, _, rfl, _, rfl, rfl, rfl, a, s6, xs, _, _, rfl, hS9, R, hs9, W2, by omega, by omega, fun b10 H10 X10 hb10 => ?_⟩
  rw [Int.toNat_natCast, wro_same c1] at hb10
  refine ⟨_, rfl, .tuple (((ro (k + 1) xs).map (c * ·)).map PyData.int), .tuple (((ro (k + 1) xs).map (c * ·)).map PyData.int), .tup hb10 (dp_ints _), .tup (Evl.ex_t X10 gb9) (dp_ints _), shaped_tup _, shaped_tup _, _, rfl, ?_⟩
  rw [eqv_tup, decide_eq_true rfl]
  refine iteF ?_
  have hS10 := Evl.ex_t X10 hS9
  have hs10 := Evl.ex_t X10 hs9
  have X410 := (X5.trans X6).trans (X69.trans X10)
  -- one
  refine ⟨_, rfl, rfl, _, rfl, ?_⟩
  refine iteJ2 (c := decide (V.int c = V.int 1) = true) (fun σ H' => Ex H10 H' ∧ σ = [some (.ref t), some (.ref a), some (.int c), some (.int ((k + 1 : Nat) : Int)), some (.ref s6), some (.ref b9), none, none, none]) ?_ ?_ (fun _ => ⟨Evl.Ex.refl _, rfl⟩)
  rotate_left
  · intro kk hc1
    have hc1 : c = 1 := V.int.inj (of_decide_eq_true hc1)
    refine ⟨_, rfl, _, rfl, a, s6, xs, _, rfl, hS10, R, hs10, W2, fun H11 n11 X11 hn11 _ => ?_⟩
    refine ⟨_, rfl, a, xs, rfl, Evl.ex_t X11 hS10, R, fun H12 n12 X12 hn12 _ => ?_⟩
    rw [hc1] at hn11
    rw [wnd_ones hn11 hn12]
    refine ⟨rfl, _, rfl, ?_⟩
    have el : (!decide (V.int (n12 : Int) = .int (n12 : Int))) = false := by rw [decide_eq_true rfl]; rfl
    rw [el]
    exact iteF (kk _ _ ⟨X11.trans X12, rfl⟩)
  rintro σ H12 ⟨X12, rfl⟩
  have hS12 := Evl.ex_t X12 hS10
  have hs12 := Evl.ex_t X12 hs10
  -- told
  refine ⟨_, rfl, a, _, rfl, .inr hS12, _, rfl, ?_⟩
  rw [List.length_map]
  refine ⟨by omega, by omega, fun D2 hD2 => ?_⟩
  refine lc_range (lo := 0) (n := (xs.length : Int).toNat) (fun j H' => Ex H12 H' ∧ H' D2 = some (.lst (((spans xs).take j).map V.int))) ⟨Evl.Ex.new hD2, upd_same⟩ ?_ ?_
  · rintro j H13 hj ⟨X13, hD13⟩
    have hj : j < xs.length := by omega
    refine ⟨rfl, ?_⟩
    dsimp only [tYes]
    rw [if_pos rfl]
    refine ⟨_, rfl, _, rfl, a, xs, j, congrArg (fun z => [V.ref a, V.int z]) (show (0 : Int) + (j : Int) = ((j : Nat) : Int) by omega), Evl.ex_t X13 hS12, R, hj, fun H14 X14 => ?_⟩
    refine ⟨_, X14 _ _ hD13, ?_, Evl.Ex.mut (X13.trans X14) hD2, ?_⟩
    · rw [List.length_map, List.length_take, spans_len]; exact small1000 (by omega)
    · rw [upd_same, List.take_add_one, g_get (by rw [spans_len]; exact hj), spans_g hj, List.map_append]; rfl
  rintro H13 ⟨X13, hD13⟩
  rw [List.take_of_length_le (by rw [spans_len]; omega)] at hD13
  have hS13 := Evl.ex_t X13 hS12
  have hs13 := Evl.ex_t X13 hs12
  refine ⟨_, rfl, rfl, _, rfl, ?_⟩
  refine iteJ2 (c := decide (V.int c = V.int 1) = true) (fun σ H' => Ex H13 H' ∧ σ = [some (.ref t), some (.ref a), some (.int c), some (.int ((k + 1 : Nat) : Int)), some (.ref s6), some (.ref b9), some (.ref D2), none, none]) ?_ ?_ (fun _ => ⟨Evl.Ex.refl _, rfl⟩)
  rotate_left
  · intro kk hc1
    have hc1 : c = 1 := V.int.inj (of_decide_eq_true hc1)
    refine ⟨_, rfl, _, rfl, _, rfl, a, s6, xs, _, 1, rfl, hS13, R, hs13, W2, by decide, by decide, fun b14 H14 X14 hb14 => ?_⟩
    rw [hc1, wro_ones] at hb14
    refine ⟨b14, _, rfl, .inr hb14, fun l hl => ?_⟩
    have X15 := Evl.Ex.new (o := .lst ((ro (1 : Int).toNat xs).map V.int)) hl
    refine ⟨.list ((spans xs).map PyData.int), .list ((ro (1 : Int).toNat xs).map PyData.int), .lst (SqL.of (X15 _ _ (X14 _ _ hD13))) (dp_ints _), .lst (SqL.of upd_same) (dp_ints _), shaped_lst _, shaped_lst _, _, rfl, ?_⟩
    rw [eqv_lst, decide_eq_true (show spans xs = ro (1 : Int).toNat xs from rfl)]
    exact iteF (kk _ _ ⟨X14.trans X15, rfl⟩)
  rintro σ H15 ⟨X15, rfl⟩
  have hS15 := Evl.ex_t X15 hS13
  have hs15 := Evl.ex_t X15 hs13
  -- far
  refine ⟨_, rfl, _, rfl, _, _, rfl, rfl, ⟨by decide, by decide, by decide⟩, rfl, rfl, a, s6, xs, _, _, rfl, hS15, R, hs15, W2, by rw [ten3]; decide, by rw [ten3]; decide, fun b16 H16 X16 hb16 => ?_⟩
  refine ⟨_, rfl, a, xs, rfl, Evl.ex_t X16 hS15, R, fun b17 H17 n17 X17 hn17 hb17 => ?_⟩
  have hfar : wro (List.replicate xs.length c) ((10 : Int) ^ (30 : Int).toNat).toNat xs = (ro n17 xs).map (c * ·) := by
    obtain ⟨d, hd⟩ : ∃ d, ((10 : Int) ^ (30 : Int).toNat).toNat = d + 1 := ⟨((10 : Int) ^ (30 : Int).toNat).toNat - 1, by rw [ten3]; omega⟩
    have h100 := nd_small hn17 hhi
    rw [hd, wro_same c1, ro_far hn17.still, Nat.min_eq_right (by rw [ten3] at hd; omega)]
  rw [hfar] at hb16
  have Ls : Lam (ro n17 xs) := by rw [← hn17.still]; exact spans_lam _
  refine ⟨b17, rfl, ⟨_, hb17⟩, fun D3 hD3 => ?_⟩
  refine lc_tup (K := K) (a := b17) (xs := (ro n17 xs).map V.int) (fun j H' => Ex H17 H' ∧ H' D3 = some (.lst ((((ro n17 xs).map (c * ·)).take j).map V.int))) ⟨Evl.Ex.new hD3, upd_same⟩ (fun j H' _ h => Evl.ex_t h.1 hb17) ?_ ?_
  · rintro j x H18 hx ⟨X18, hD3n⟩
    have hj : j < (ro n17 xs).length := by
      have := (List.getElem?_eq_some_iff.mp hx).1
      rwa [List.length_map] at this
    have ex : x = .int (g (ro n17 xs) j) := by
      rw [List.getElem?_map, g_get hj] at hx
      exact (Option.some.inj hx).symm
    subst ex
    have l1 := Ls.lo j hj
    have l2 := Ls.hi j hj
    have l3 := ro_len xs n17
    refine ⟨rfl, ?_⟩
    dsimp only [tYes]
    rw [if_pos rfl]
    refine ⟨_, rfl, _, rfl, _, _, rfl, rfl, wide_mul (a := 200) (b := 64) (by omega) (by omega) (by decide) (by decide) (by decide), _, hD3n, ?_, Evl.Ex.mut X18 hD3, ?_⟩
    · rw [List.length_map, List.length_take, List.length_map]; exact small1000 (by omega)
    · rw [upd_same, List.take_add_one, g_get (by rw [List.length_map]; exact hj), g_scale hj, List.map_append]; rfl
  rintro H18 ⟨X18, hD3n⟩
  rw [List.length_map, List.take_of_length_le (by rw [List.length_map]; exact Nat.le_refl _)] at hD3n
  refine ⟨D3, _, rfl, .inl ⟨SqL.of hD3n, fun b19 hb19 => ?_⟩⟩
  have X19 := Evl.Ex.new (o := .tup (((ro n17 xs).map (c * ·)).map V.int)) hb19
  refine ⟨.tuple (((ro n17 xs).map (c * ·)).map PyData.int), .tuple (((ro n17 xs).map (c * ·)).map PyData.int), .tup (Evl.ex_t ((X17.trans X18).trans X19) hb16) (dp_ints _), .tup (SqT.of upd_same) (dp_ints _), shaped_tup _, shaped_tup _, ?_⟩
  rw [eqv_tup, decide_eq_true rfl]
  have XX := ((X410.trans X12).trans (X13.trans X15)).trans ((X16.trans X17).trans (X18.trans X19))
  exact q _ (E4.trans (ExB.of XX)) ((T4.ex XX).le (by omega))
end
end K38

set_option Elab.async false
set_option linter.all false
set_option maxRecDepth 100000
set_option maxHeartbeats 1000000
namespace K38
open PySem PySem.Spec
open PyProof.Rows L2 Sx
section
variable {P : Program} {w : World} {K : PySem.W.Frag} {mg : Str → Option Value} {base : Heap}
def sp__law_scaled_right (K : PySem.W.Frag) : Sp := fun vs H Q _ => ∃ t a b, ∃ xs ws : List Int, ∃ m : Int, vs = [.ref t, .ref a, .ref b] ∧ Mug H t m ∧ SqT K H a (xs.map V.int) ∧ Rw xs ∧ SqT K H b (ws.map V.int) ∧ Wt ws xs.length ∧ 0 ≤ m ∧ m ≤ 900000 ∧ ∀ H', ExB t H H' → Mug H' t (m + 100) → Q (.bl true) H'
theorem ok__law_scaled_right {f : Addr} {fd : FuncData} (D : DefAt K mg "_law_scaled_right" s__law_scaled_right ["mug", "row_here", "loads"] f fd) (T : Top mg) (c_weighted_after : CalN P w K mg base 8 "weighted_after" (sp_weighted_after K) 2 ["rounds"]) (c__law_gulp : C8.Cal P w K mg base 1 "_law_gulp" (sp__law_gulp K) []) (c_is_weights : C8.Cal P w K mg base 6 "is_weights" (sp_is_weights K) []) :
    C8.Cal P w K mg base 9 "_law_scaled_right" (sp__law_scaled_right K) [] := by
  refine D.cal sc__law_scaled_right (fun vs H Q E h => ?len) fun cdv A outer s H vs Q E hr h => ?body
  case len => obtain ⟨t, a, b, xs, ws, m, rfl, _⟩ := h; rfl
  obtain ⟨t, a, b, xs, ws, m, rfl, hT, hS, R, hW, W, m0, m1, q⟩ := h
  refine ⟨_, (pss_cons (ps_asg (pe_tup (pa_cons (pe_op op_add pe_int (C8.pe_c c__law_gulp hr (by decide) (by rfl) (pa_cons (pv 0) (pa_cons pe_int pa_nil)))) (pa_cons (C8.pe_c c__law_gulp hr (by decide) (by rfl) (pa_cons (pv 0) (pa_cons pe_int pa_nil))) pa_nil))) (pg_tup rfl (pgs_cons (pg_name (i := 3) sc__law_scaled_right.nd rfl (.inr rfl)) (pgs_cons (pg_name (i := 4) sc__law_scaled_right.nd rfl (.inl rfl)) pgs_nil))))
      (pss_cons (ps_set (i := 5) sc__law_scaled_right.nd rfl (.inl rfl) (pe_callTy call_tuple_of (by rfl) T.tuple (by decide +kernel) (pa_cons (pe_lc (own := [("load", 11)]) (g := gName 11) (by rfl) sc__law_scaled_right.nd (pi_tup (pv 2)) (blkOk_by (own := [("load", 11)]) (N := ["mug", "row_here", "loads", "factor", "often", "less", "wide", "told", "cut", "ranks", "other", "load", "entry"]) (sc := defScope s__law_scaled_right) (by decide +kernel)) (fun _ _ _ _ _ => (pg_name (i := 11) sc__law_scaled_right.nd rfl (.inl rfl))) (fun _ _ _ _ _ => pts_nil) (fun _ _ _ _ _ => (pe_op op_add pe_int (pe_op op_mod (pv 11) (pe_op op_powW pe_int pe_int))))) pa_nil)))
      (pss_cons (ps_set (i := 6) sc__law_scaled_right.nd rfl (.inl rfl) (pe_callTy call_tuple_of (by rfl) T.tuple (by decide +kernel) (pa_cons (pe_lc (own := [("load", 11)]) (g := gName 11) (by rfl) sc__law_scaled_right.nd (pi_tup (pv 5)) (blkOk_by (own := [("load", 11)]) (N := ["mug", "row_here", "loads", "factor", "often", "less", "wide", "told", "cut", "ranks", "other", "load", "entry"]) (sc := defScope s__law_scaled_right) (by decide +kernel)) (fun _ _ _ _ _ => (pg_name (i := 11) sc__law_scaled_right.nd rfl (.inl rfl))) (fun _ _ _ _ _ => pts_nil) (fun _ _ _ _ _ => (pe_op op_mulW (pv 3) (pv 11)))) pa_nil)))
      (pss_cons (ps_if (PW.pt (pw_or (pt_not (pt_val (C8.pe_c c_is_weights hr (by decide) (by rfl) (pa_cons (pv 1) (pa_cons (pv 5) pa_nil))))) (pw_or1 (pt_not (pt_val (C8.pe_c c_is_weights hr (by decide) (by rfl) (pa_cons (pv 1) (pa_cons (pv 6) pa_nil))))))))
        (pss_one (ps_ret pe_bl))
        pss_nil)
      (pss_cons (ps_set (i := 7) sc__law_scaled_right.nd rfl (.inl rfl) (pe_kn c_weighted_after hr (by decide) (by rfl) (pa_cons (pv 1) (pa_cons (pv 5) pa_nil)) (pk_cons (pe_op op_add pe_int (pv 4)) pk_nil)))
      (pss_cons (ps_if (pt_cmpR (op_neD hr.units) (pe_kn c_weighted_after hr (by decide) (by rfl) (pa_cons (pv 1) (pa_cons (pv 6) pa_nil)) (pk_cons (pe_op op_add pe_int (pv 4)) pk_nil)) (pe_callTy call_tuple_of (by rfl) T.tuple (by decide +kernel) (pa_cons (pe_lc (own := [("entry", 12)]) (g := gName 12) (by rfl) sc__law_scaled_right.nd (pi_tup (pv 7)) (blkOk_by (own := [("entry", 12)]) (N := ["mug", "row_here", "loads", "factor", "often", "less", "wide", "told", "cut", "ranks", "other", "load", "entry"]) (sc := defScope s__law_scaled_right) (by decide +kernel)) (fun _ _ _ _ _ => (pg_name (i := 12) sc__law_scaled_right.nd rfl (.inl rfl))) (fun _ _ _ _ _ => pts_nil) (fun _ _ _ _ _ => (pe_op op_mulW (pv 3) (pv 12)))) pa_nil)) (nomark _))
        (pss_one (ps_ret pe_bl))
        pss_nil)
      (pss_cons (ps_set (i := 8) sc__law_scaled_right.nd rfl (.inl rfl) (pe_op op_add pe_int (C8.pe_c c__law_gulp hr (by decide) (by rfl) (pa_cons (pv 0) (pa_cons (pe_callB call_len_seq (by rfl) T.len (by decide +kernel) (pa_cons (pv 1) pa_nil)) pa_nil)))))
      (pss_cons (ps_if (pt_cmpR (op_neD hr.units) (pe_kn c_weighted_after hr (by decide) (by rfl) (pa_cons (pe_slice sl_tupA (pv 1) po_none (po_some (pv 8))) (pa_cons (pe_slice sl_tupA (pv 5) po_none (po_some (pv 8))) pa_nil)) (pk_cons (pv 4) pk_nil)) (pe_slice sl_tupA (pe_kn c_weighted_after hr (by decide) (by rfl) (pa_cons (pv 1) (pa_cons (pv 5) pa_nil)) (pk_cons (pv 4) pk_nil)) po_none (po_some (pv 8))) (nomark _))
        (pss_one (ps_ret pe_bl))
        pss_nil)
      (pss_cons (ps_set (i := 9) sc__law_scaled_right.nd rfl (.inr rfl) (pe_callB (cr_sortedSetB rfl) (by rfl) T.sorted (by decide +kernel) (pa_cons (pe_callTy (cr_setTI rfl) (by rfl) T.set (by decide +kernel) (pa_cons (pv 1) pa_nil)) pa_nil)))
      (pss_cons (ps_set (i := 10) sc__law_scaled_right.nd rfl (.inl rfl) (pe_callTy call_tuple_of (by rfl) T.tuple (by decide +kernel) (pa_cons (pe_lc (own := [("entry", 12)]) (g := gName 12) (by rfl) sc__law_scaled_right.nd (pi_tup (pv 1)) (blkOk_by (own := [("entry", 12)]) (N := ["mug", "row_here", "loads", "factor", "often", "less", "wide", "told", "cut", "ranks", "other", "load", "entry"]) (sc := defScope s__law_scaled_right) (by decide +kernel)) (fun _ _ _ _ _ => (pg_name (i := 12) sc__law_scaled_right.nd rfl (.inl rfl))) (fun _ _ _ _ _ => pts_nil) (fun _ _ _ _ _ => (show PE _ _ (tBM K "list" (rIndex K) _ _) from pe_bm PySem.F.plainAttrs_list PySem.F.slot_list_index PySem.F.type_list_index mt_index (pv 9) (pa_cons (pv 12) pa_nil)))) pa_nil)))
      (pss_one (ps_ret (pe_cmpR (op_eqD hr.units) (pe_kn c_weighted_after hr (by decide) (by rfl) (pa_cons (pv 10) (pa_cons (pv 5) pa_nil)) (pk_cons (pe_op op_add pe_int (pv 4)) pk_nil)) (pv 7) (nomark _)))))))))))))), ?_⟩
  have hlo := R.lo
  have hhi := R.hi
  have hwl := W.len
  have ten : (10 : Int) ^ (26 : Int).toNat = 100000000000000000000000000 := by decide
  refine ⟨_, rfl, t, 9, m, rfl, hT, by decide, p1000 (by decide), by omega, fun r1 H1 r10 r11 e1 T1 => ?_⟩
  refine ⟨_, _, rfl, rfl, _, rfl, t, 12, _, rfl, T1, by decide, p1000 (by decide), by omega, fun r2 H2 r20 r21 e2 T2 => ?_⟩
  obtain ⟨c, hc⟩ : ∃ c : Int, c = 1 + r1 := ⟨_, rfl⟩
  rw [show (fun i j : Int => V.int (i + j)) 1 r1 = .int c from congrArg V.int hc.symm]
  obtain ⟨k, hk⟩ : ∃ k : Nat, r2 = (k : Int) := ⟨r2.toNat, by omega⟩
  subst hk
  refine ⟨by show 2 ≤ sizeLine; decide, fun pt hpt => ⟨pt, _, rfl, SqT.of upd_same, rfl, _, _, rfl, _, _, rfl, rfl, ?_⟩⟩
  have c1 : 1 ≤ c := by omega
  have T2 := T2.ex (Evl.Ex.new (o := .tup [.int c, .int (k : Int)]) hpt)
  have E2 := (e1.trans e2).trans (ExB.of (Evl.Ex.new (o := .tup [.int c, .int (k : Int)]) hpt))
  generalize upd H2 pt (.tup [.int c, .int (k : Int)]) = H2 at T2 E2 ⊢
  have hS2 := hT.tup E2 hS
  have hW2 := hT.tup E2 hW
  -- less
  obtain ⟨ls, hls⟩ : ∃ ls : List Int, ls = ws.map fun x => 1 + x % (10 ^ (26 : Int).toNat) := ⟨_, rfl⟩
  have hll : ls.length = xs.length := by rw [hls, List.length_map, hwl]
  have hlg : ∀ j, j < ws.length → g ls j = 1 + g ws j % (10 ^ (26 : Int).toNat) := fun j hj => by
    rw [hls]
    show (ws.map _).getD j 0 = _
    rw [List.getD_eq_getElem?_getD, List.getElem?_map, g_get hj]; rfl
  have hlb : ∀ x ∈ ls, 1 ≤ x ∧ x ≤ 10 ^ 26 := fun x hx => by
    rw [hls] at hx
    obtain ⟨y, _, rfl⟩ := List.mem_map.mp hx
    have h1 : 0 ≤ y % (10 ^ (26 : Int).toNat) := Int.emod_nonneg _ (by decide)
    have h2 : y % (10 ^ (26 : Int).toNat) < 10 ^ (26 : Int).toNat := Int.emod_lt_of_pos _ (by decide)
    rw [ten] at h1 h2 ⊢
    omega
  refine ⟨_, rfl, b, rfl, ⟨_, hW2⟩, fun D hD => ?_⟩
  refine lc_tup (K := K) (a := b) (xs := ws.map V.int) (fun j H' => Ex H2 H' ∧ H' D = some (.lst ((ls.take j).map V.int))) ⟨Evl.Ex.new hD, upd_same⟩ (fun j H' _ h => Evl.ex_t h.1 hW2) ?_ ?_
  · rintro j x H3 hx ⟨X3, hDn⟩
    have hj : j < ws.length := by
      have := (List.getElem?_eq_some_iff.mp hx).1
      rwa [List.length_map] at this
    have ex : x = .int (g ws j) := by
      rw [List.getElem?_map, g_get hj] at hx
      exact (Option.some.inj hx).symm
    subst ex
    refine ⟨rfl, ?_⟩
    dsimp only [tYes]
    rw [if_pos rfl]
    refine ⟨_, rfl, _, _, rfl, rfl, ⟨by decide, by decide, by decide⟩, _, _, rfl, rfl, (by show (0 : Int) < _; decide), _, _, rfl, rfl, _, hDn, ?_, Evl.Ex.mut X3 hD, ?_⟩
    · rw [List.length_map, List.length_take]; exact small1000 (by omega)
    · rw [upd_same, List.take_add_one, g_get (xs := ls) (by omega), hlg j hj, List.map_append]; rfl
  rintro H3 ⟨X3, hDn⟩
  rw [List.length_map, List.take_of_length_le (by omega)] at hDn
  refine ⟨D, _, rfl, .inl ⟨SqL.of hDn, fun p4 hp4 => ?_⟩⟩
  have X4 := Evl.Ex.new (o := .tup (ls.map V.int)) hp4
  have gl4 : SqT K (upd H3 p4 (.tup (ls.map V.int))) p4 (ls.map V.int) := SqT.of upd_same
  have X24 := X3.trans X4
  generalize upd H3 p4 (.tup (ls.map V.int)) = H4 at X24 gl4 ⊢
  -- wide
  refine ⟨_, rfl, p4, rfl, ⟨_, gl4⟩, fun D2 hD2 => ?_⟩
  refine lc_tup (K := K) (a := p4) (xs := (ls).map V.int) (fun j H' => Ex H4 H' ∧ H' D2 = some (.lst ((((ls).map (c * ·)).take j).map V.int))) ⟨Evl.Ex.new hD2, upd_same⟩ (fun j H' _ h => Evl.ex_t h.1 gl4) ?_ ?_
  · rintro j x H5 hx ⟨X5, hD2n⟩
    have hj : j < (ls).length := by
      have := (List.getElem?_eq_some_iff.mp hx).1
      rwa [List.length_map] at this
    have ex : x = .int (g (ls) j) := by
      rw [List.getElem?_map, g_get hj] at hx
      exact (Option.some.inj hx).symm
    subst ex
    have lb := hlb _ (List.mem_of_getElem? (g_get hj))
    refine ⟨rfl, ?_⟩
    dsimp only [tYes]
    rw [if_pos rfl]
    refine ⟨_, rfl, _, rfl, _, _, rfl, rfl, wide_mul (a := 64) (b := 200) (by omega) (by omega) (by decide) (by decide) (by decide), _, hD2n, ?_, Evl.Ex.mut X5 hD2, ?_⟩
    · rw [List.length_map, List.length_take, List.length_map]; exact small1000 (by omega)
    · rw [upd_same, List.take_add_one, g_get (by rw [List.length_map]; exact hj), g_scale hj, List.map_append]; rfl
  rintro H5 ⟨X5, hD2n⟩
  rw [List.length_map, List.take_of_length_le (by rw [List.length_map]; exact Nat.le_refl _)] at hD2n
  refine ⟨D2, _, rfl, .inl ⟨SqL.of hD2n, fun p6 hp6 => ?_⟩⟩
  have X6 := Evl.Ex.new (o := .tup ((ls.map (c * ·)).map V.int)) hp6
  have gw6 : SqT K (upd H5 p6 (.tup ((ls.map (c * ·)).map V.int))) p6 ((ls.map (c * ·)).map V.int) := SqT.of upd_same
  have X46 := X5.trans X6
  generalize upd H5 p6 (.tup ((ls.map (c * ·)).map V.int)) = H6 at X46 gw6 ⊢
  have hS6 := Evl.ex_t (X24.trans X46) hS2
  have gl6 := Evl.ex_t X46 gl4
  have Wl : Wt ls xs.length := ⟨hll, fun x hx => (hlb x hx).1, fun x hx => by have := (hlb x hx).2; omega⟩
  have Ww : Wt (ls.map (c * ·)) xs.length := by
    refine ⟨by rw [List.length_map, hll], fun x hx => ?_, fun x hx => ?_⟩
    · obtain ⟨y, hy, rfl⟩ := List.mem_map.mp hx
      have := hlb y hy
      have := Int.mul_le_mul c1 this.1 (by decide) (by omega)
      omega
    · obtain ⟨y, hy, rfl⟩ := List.mem_map.mp hx
      have h2 := hlb y hy
      have := Int.mul_le_mul (show c ≤ 9 by omega) h2.2 (by omega) (by decide)
      omega
  refine ⟨_, rfl, _, rfl, a, p4, xs, ls, rfl, hS6, R, gl6, Wl, fun H7 X7 => ⟨true, rfl, ?_⟩⟩
  refine iteF ?_
  refine ⟨_, rfl, _, rfl, a, p6, xs, _, rfl, Evl.ex_t X7 hS6, R, Evl.ex_t X7 gw6, Ww, fun H8 X8 => ⟨true, rfl, ?_⟩⟩
  refine iteF ?_
  have X68 := X7.trans X8
  have hS8 := Evl.ex_t X68 hS6
  have gl8 := Evl.ex_t X68 gl6
  have gw8 := Evl.ex_t X68 gw6
  -- told
  refine ⟨_, rfl, _, rfl, _, rfl, _, _, rfl, rfl, rfl, rfl, a, p4, xs, ls, _, rfl, hS8, R, gl8, Wl, by omega, by omega, fun b9 H9 X9 hb9 => ?_⟩
  have ek : (1 + (k : Int)).toNat = k + 1 := by omega
  rw [ek] at hb9
  have hS9 := Evl.ex_t X9 hS8
  have gl9 := Evl.ex_t X9 gl8
  refine ⟨_, rfl, _, rfl, _, rfl, _, _, rfl, rfl, rfl, rfl, a, p6, xs, _, _, rfl, hS9, R, Evl.ex_t X9 gw8, Ww, by omega, by omega, fun b10 H10 X10 hb10 => ?_⟩
  rw [ek, wro_scale c1] at hb10
  have hb910 := Evl.ex_t X10 hb9
  refine ⟨_, rfl, b9, rfl, ⟨_, hb910⟩, fun D3 hD3 => ?_⟩
  refine lc_tup (K := K) (a := b9) (xs := (wro ls (k + 1) xs).map V.int) (fun j H' => Ex H10 H' ∧ H' D3 = some (.lst ((((wro ls (k + 1) xs).map (c * ·)).take j).map V.int))) ⟨Evl.Ex.new hD3, upd_same⟩ (fun j H' _ h => Evl.ex_t h.1 hb910) ?_ ?_
  · rintro j x H11 hx ⟨X11, hD3n⟩
    have hj : j < (wro ls (k + 1) xs).length := by
      have := (List.getElem?_eq_some_iff.mp hx).1
      rwa [List.length_map] at this
    have ex : x = .int (g (wro ls (k + 1) xs) j) := by
      rw [List.getElem?_map, g_get hj] at hx
      exact (Option.some.inj hx).symm
    subst ex
    have Rb := (rw_wro Wl R (k + 1)).ok _ (List.mem_of_getElem? (g_get hj))
    have lz := wro_len ls xs (k + 1)
    refine ⟨rfl, ?_⟩
    dsimp only [tYes]
    rw [if_pos rfl]
    refine ⟨_, rfl, _, rfl, _, _, rfl, rfl, wide_mul (a := 64) (b := 200) (by omega) (by omega) (by decide) (by decide) (by decide), _, hD3n, ?_, Evl.Ex.mut X11 hD3, ?_⟩
    · rw [List.length_map, List.length_take, List.length_map]; exact small1000 (by omega)
    · rw [upd_same, List.take_add_one, g_get (by rw [List.length_map]; exact hj), g_scale hj, List.map_append]; rfl
  rintro H11 ⟨X11, hD3n⟩
  rw [List.length_map, List.take_of_length_le (by rw [List.length_map]; exact Nat.le_refl _)] at hD3n
  refine ⟨D3, _, rfl, .inl ⟨SqL.of hD3n, fun b12 hb12 => ?_⟩⟩
  have X12 := Evl.Ex.new (o := .tup (((wro ls (k + 1) xs).map (c * ·)).map V.int)) hb12
  refine ⟨.tuple (((wro ls (k + 1) xs).map (c * ·)).map PyData.int), .tuple (((wro ls (k + 1) xs).map (c * ·)).map PyData.int), .tup (Evl.ex_t (X11.trans X12) hb10) (dp_ints _), .tup (SqT.of upd_same) (dp_ints _), shaped_tup _, shaped_tup _, _, rfl, ?_⟩
  rw [eqv_tup, decide_eq_true rfl]
  refine iteF ?_
  have X912 := (X10.trans X11).trans X12
  generalize upd H11 b12 (.tup (((wro ls (k + 1) xs).map (c * ·)).map V.int)) = H12 at X912 ⊢
  have X212 := ((X24.trans X46).trans X68).trans (X9.trans X912)
  have T12 := T2.ex X212
  have hS12 := Evl.ex_t X912 hS9
  have gl12 := Evl.ex_t X912 gl9
  have hb912 := Evl.ex_t X912 hb9
  -- cut
  refine ⟨_, rfl, _, rfl, a, _, rfl, .inr hS12, t, _, _, rfl, T12, by rw [List.length_map]; omega, p1000 (by rw [List.length_map]; omega), by omega, fun r13 H13 r130 r131 e13 T13 => ?_⟩
  rw [List.length_map] at r131
  refine ⟨_, _, rfl, rfl, ?_⟩
  obtain ⟨u, hu⟩ : ∃ u : Nat, (u : Int) = 1 + r13 := ⟨(1 + r13).toNat, by omega⟩
  rw [show (fun i j : Int => V.int (i + j)) 1 r13 = .int (u : Int) from congrArg V.int hu.symm]
  have hul : u ≤ xs.length := by omega
  have hS13 := T12.tup e13 hS12
  have gl13 := T12.tup e13 gl12
  have hb913 := T12.tup e13 hb912
  refine ⟨_, rfl, ?_⟩
  dsimp only [tNoPart]
  refine ⟨_, rfl, _, rfl, ?_⟩
  refine slA_take hS13 fun c1' H14 X14 hc1 => ?_
  rw [← List.map_take] at hc1
  refine ⟨_, rfl, ?_⟩
  dsimp only [tNoPart]
  refine ⟨_, rfl, _, rfl, ?_⟩
  refine slA_take (Evl.ex_t X14 gl13) fun c2' H15 X15 hc2 => ?_
  rw [← List.map_take] at hc2
  have Rk : Rw (xs.take u) := R.take (by omega)
  have Wk : Wt (ls.take u) (xs.take u).length := by rw [List.length_take, Nat.min_eq_left hul]; exact Wl.take hul
  refine ⟨_, rfl, rfl, rfl, c1', c2', xs.take u, ls.take u, _, rfl, Evl.ex_t X15 hc1, Rk, hc2, Wk, by omega, by omega, fun b16 H16 X16 hb16 => ?_⟩
  rw [Int.toNat_natCast] at hb16
  have X1316 := (X14.trans X15).trans X16
  refine ⟨_, rfl, _, rfl, _, rfl, rfl, rfl, a, p4, xs, ls, _, rfl, Evl.ex_t X1316 hS13, R, Evl.ex_t X1316 gl13, Wl, by omega, by omega, fun b17 H17 X17 hb17 => ?_⟩
  rw [Int.toNat_natCast] at hb17
  dsimp only [tNoPart]
  refine ⟨_, rfl, _, rfl, ?_⟩
  refine slA_take hb17 fun b18 H18 X18 hb18 => ?_
  rw [← List.map_take] at hb18
  refine ⟨.tuple ((wro (ls.take u) k (xs.take u)).map PyData.int), .tuple (((wro ls k xs).take u).map PyData.int), .tup (Evl.ex_t (X17.trans X18) hb16) (dp_ints _), .tup hb18 (dp_ints _), shaped_tup _, shaped_tup _, _, rfl, ?_⟩
  rw [eqv_tup, wro_take, decide_eq_true rfl]
  refine iteF ?_
  have X1318 := (X1316.trans X17).trans X18
  have hS18 := Evl.ex_t X1318 hS13
  have gl18 := Evl.ex_t X1318 gl13
  have hb918 := Evl.ex_t X1318 hb913
  -- ranks
  refine ⟨_, rfl, a, xs, rfl, hS18, by omega, fun q1 cc hq1 hcc => ?_⟩
  refine ⟨q1, _, cc, rfl, upd_same, by omega, fun old q2 hord hmem hlen hq2 => ?_⟩
  have hold : ∀ x, x ∈ xs → x ∈ old := fun x hx => (hmem x).mpr (decide_eq_true hx)
  have hol : old.length ≤ 100 := by omega
  generalize hH20 : upd (upd H18 q1 _) q2 _ = H20
  have X20 : Ex H18 H20 := by rw [← hH20]; exact (Evl.Ex.new hq1).trans (Evl.Ex.new hq2)
  have gq2 : H20 q2 = some (.lst (old.map V.int)) := by rw [← hH20]; exact upd_same
  have hS20 := Evl.ex_t X20 hS18
  -- other
  obtain ⟨os, hos⟩ : ∃ os : List Int, os = xs.map fun x => ((ix x old : Nat) : Int) := ⟨_, rfl⟩
  have hosl : os.length = xs.length := by rw [hos, List.length_map]
  have hosg : ∀ j, j < xs.length → g os j = ((ix (g xs j) old : Nat) : Int) := fun j hj => by
    rw [hos]
    show (xs.map _).getD j 0 = _
    rw [List.getD_eq_getElem?_getD, List.getElem?_map, g_get hj]; rfl
  refine ⟨_, rfl, a, rfl, ⟨_, hS20⟩, fun D4 hD4 => ?_⟩
  refine lc_tup (K := K) (a := a) (xs := xs.map V.int) (fun j H' => Ex H20 H' ∧ H' D4 = some (.lst ((os.take j).map V.int))) ⟨Evl.Ex.new hD4, upd_same⟩ (fun j H' _ h => Evl.ex_t h.1 hS20) ?_ ?_
  · rintro j x H21 hx ⟨X21, hD21⟩
    have hj : j < xs.length := by
      have := (List.getElem?_eq_some_iff.mp hx).1
      rwa [List.length_map] at this
    have ex : x = .int (g xs j) := by
      rw [List.getElem?_map, g_get hj] at hx
      exact (Option.some.inj hx).symm
    subst ex
    have hin := hold _ (List.mem_of_getElem? (g_get hj))
    refine ⟨rfl, ?_⟩
    dsimp only [tYes]
    rw [if_pos rfl]
    have lix := ix_lt hin
    refine ⟨_, rfl, .inl ⟨rfl, _, SqL.of (X21 _ _ gq2)⟩, _, rfl, q2, _, _, ix (g xs j) old, .int (g xs j), rfl, rfl, SqL.of (X21 _ _ gq2), rfl, ?_, ?_, ?_, fun m' z' hm' hz' => ?_, ?_⟩
    · rw [List.all_eq_true]
      intro v hv
      obtain ⟨z, _, rfl⟩ := List.mem_map.mp hv
      rfl
    · rw [List.getElem?_map, ix_at hin]; rfl
    · show (g xs j == g xs j) = true
      exact beq_self_eq_true _
    · rw [List.getElem?_map] at hz'
      cases e : old[m']? with
      | none => rw [e] at hz'; cases hz'
      | some z =>
        rw [e] at hz'; cases hz'
        show (z == g xs j) = false
        exact beq_eq_false_iff_ne.mpr (ix_first hm' e)
    refine ⟨_, hD21, ?_, Evl.Ex.mut X21 hD4, ?_⟩
    · rw [List.length_map, List.length_take]; exact small1000 (by omega)
    · rw [upd_same, List.take_add_one, g_get (xs := os) (by omega), hosg j hj, List.map_append]; rfl
  rintro H21 ⟨X21, hD21⟩
  rw [List.length_map, List.take_of_length_le (by omega)] at hD21
  refine ⟨D4, _, rfl, .inl ⟨SqL.of hD21, fun q5 hq5 => ?_⟩⟩
  have X22 := Evl.Ex.new (o := .tup (os.map V.int)) hq5
  have X1822 := (X20.trans X21).trans X22
  have Ro : Rw os := ⟨by omega, by omega, fun x hx => by
    rw [hos] at hx
    obtain ⟨y, hy, rfl⟩ := List.mem_map.mp hx
    have := ix_lt (hold y hy)
    omega⟩
  have hord2 : wsp ls os = wsp ls xs := by
    refine wsp_order hosl fun i j hi hj => ?_
    rw [hosg i (by omega), hosg j (by omega)]
    have mi := hold _ (List.mem_of_getElem? (g_get (xs := xs) (i := i) (by omega)))
    have mj := hold _ (List.mem_of_getElem? (g_get (xs := xs) (i := j) (by omega)))
    have li := ix_lt mi
    have lj := ix_lt mj
    have gi : g old (ix (g xs i) old) = g xs i := by
      have := ix_at mi
      rw [g_get li] at this
      exact Option.some.inj this
    have gj : g old (ix (g xs j) old) = g xs j := by
      have := ix_at mj
      rw [g_get lj] at this
      exact Option.some.inj this
    have := sorted_g hord li lj
    rw [gi, gj] at this
    omega
  refine ⟨_, rfl, _, rfl, _, rfl, _, _, rfl, rfl, rfl, rfl, q5, p4, os, ls, _, rfl, SqT.of upd_same, Ro, Evl.ex_t X1822 gl18, by rw [hosl]; exact Wl, by omega, by omega, fun b23 H23 X23 hb23 => ?_⟩
  rw [ek, wro_ext hord2] at hb23
  refine ⟨_, rfl, .tuple ((wro ls (k + 1) xs).map PyData.int), .tuple ((wro ls (k + 1) xs).map PyData.int), .tup hb23 (dp_ints _), .tup (Evl.ex_t (X1822.trans X23) hb918) (dp_ints _), shaped_tup _, shaped_tup _, ?_⟩
  rw [eqv_tup, decide_eq_true rfl]
  have XX := X1318.trans (X1822.trans X23)
  exact q _ (((E2.trans (ExB.of X212)).trans e13).trans (ExB.of XX)) ((T13.ex XX).le (by omega))
end
end K38

set_option Elab.async false
set_option linter.all false
set_option maxRecDepth 100000
set_option maxHeartbeats 1000000
namespace K38
open PySem PySem.Spec
open PyProof.Rows L2 Sx
section
variable {P : Program} {w : World} {K : PySem.W.Frag} {mg : Str → Option Value} {base : Heap}
def sp__law_bound_right (K : PySem.W.Frag) : Sp := fun vs H Q _ => ∃ a b, ∃ xs ws : List Int, vs = [.ref a, .ref b] ∧ SqT K H a (xs.map V.int) ∧ Rw xs ∧ SqT K H b (ws.map V.int) ∧ Wt ws xs.length ∧ ∀ H', Ex H H' → Q (.bl true) H'
theorem ok__law_bound_right {f : Addr} {fd : FuncData} (D : DefAt K mg "_law_bound_right" s__law_bound_right ["row_here", "loads"] f fd) (T : Top mg) (c_weighted_after : CalN P w K mg base 8 "weighted_after" (sp_weighted_after K) 2 ["rounds"]) (cd_weighted_after : C8.Cal P w K mg base 8 "weighted_after" (sp_weighted_after K) [.int 1]) (c_weighted_needed : C8.Cal P w K mg base 8 "weighted_needed" (sp_weighted_needed K) []) :
    C8.Cal P w K mg base 9 "_law_bound_right" (sp__law_bound_right K) [] := by
  refine D.cal sc__law_bound_right (fun vs H Q E h => ?len) fun cdv A outer s H vs Q E hr h => ?body
  case len => obtain ⟨a, b, xs, ws, rfl, _⟩ := h; rfl
  obtain ⟨a, b, xs, ws, rfl, hS, R, hW, W, q⟩ := h
  refine ⟨_, (pss_cons (ps_par3 (i := 2) (j := 3) (l := 4) (by rfl) sc__law_bound_right.nd rfl rfl rfl (by decide) (by decide) (by decide) rfl rfl rfl (pa_cons (C8.pe_c c_weighted_needed hr (by decide) (by rfl) (pa_cons (pv 0) (pa_cons (pv 1) pa_nil))) (pa_cons pe_int (pa_cons pe_int pa_nil))) (by rfl))
      (pss_cons (ps_for PassesOwn.never rfl (pi_range1 (by rfl) T.range (pa_cons (pv 2) pa_nil)) (pg_name (i := 5) sc__law_bound_right.nd rfl (.inl rfl))
        (pss_one (ps_par (i := 3) (j := 4) (by rfl) sc__law_bound_right.nd rfl rfl (by decide) rfl rfl (pa_cons (pv 4) (pa_cons (pe_op op_add (pv 3) (pv 4)) pa_nil)) (by rfl))))
      (pss_cons (ps_if (PW.pt (pw_or (pt_cmpR op_gt (pv 2) (pe_callB call_len_seq (by rfl) T.len (by decide +kernel) (pa_cons (pv 0) pa_nil)) (nomark _)) (pw_or1 (PW.pt (pw_and (pt_cmpR op_gt (pv 2) pe_int (nomark _)) (pw_and1 (pt_cmpR op_lt (pe_callB (cr_sumA rfl) (by rfl) T.sum (by decide +kernel) (pa_cons (pv 1) pa_nil)) (pv 4) (nomark _))))))))
        (pss_one (ps_ret pe_bl))
        pss_nil)
      (pss_cons (ps_set (i := 6) sc__law_bound_right.nd rfl (.inl rfl) (pe_kn c_weighted_after hr (by decide) (by rfl) (pa_cons (pv 0) (pa_cons (pv 1) pa_nil)) (pk_cons (pv 2) pk_nil)))
      (pss_cons (ps_if (PW.pt (pw_or (pt_cmpR (op_neD hr.units) (C8.pe_c cd_weighted_after hr (by decide) (by rfl) (pa_cons (pv 6) (pa_cons (pv 1) pa_nil))) (pv 6) (nomark _)) (pw_or1 (pt_cmpR op_ne (C8.pe_c c_weighted_needed hr (by decide) (by rfl) (pa_cons (pv 6) (pa_cons (pv 1) pa_nil))) pe_int (nomark _)))))
        (pss_one (ps_ret pe_bl))
        pss_nil)
      (pss_one (ps_ret (pe_or (pe_cmpR op_eq (pv 2) pe_int (nomark _)) (pe_one (pe_cmpR (op_neD hr.units) (pe_kn c_weighted_after hr (by decide) (by rfl) (pa_cons (pv 0) (pa_cons (pv 1) pa_nil)) (pk_cons (pe_op op_sub (pv 2) pe_int) pk_nil)) (pv 6) (nomark _))))))))))), ?_⟩
  have hlo := R.lo
  have hhi := R.hi
  refine ⟨_, rfl, _, rfl, a, b, xs, ws, rfl, hS, R, hW, W, fun H1 n X1 hn hle => ?_⟩
  refine ⟨_, _, _, rfl, ?_⟩
  have hS1 := Evl.ex_t X1 hS
  have hW1 := Evl.ex_t X1 hW
  refine ⟨_, rfl, _, rfl, by omega, by omega, ?_⟩
  refine for_range (lo := 0) (n := (n : Int).toNat) (fun j σ H' => H' = H1 ∧ ∃ y5 : Option V, σ = [some (.ref a), some (.ref b), some (.int (n : Int)), some (.int (fib (j + 1))), some (.int (fib (j + 2))), y5, none]) ⟨rfl, _, rfl⟩ ?_ ?_
  · rintro j σ H' hj ⟨rfl, y5, rfl⟩
    exact ⟨_, rfl, _, rfl, _, rfl, _, _, rfl, rfl, _, _, rfl, rfl, _, rfl⟩
  rintro σ H' ⟨rfl, y5, rfl⟩
  rw [Int.toNat_natCast]
  refine ⟨_, rfl, _, rfl, a, _, rfl, .inr hS1, _, _, rfl, rfl, _, rfl, ?_⟩
  rw [List.length_map, decide_eq_false (show ¬ (n : Int) > (xs.length : Int) by omega)]
  refine iteF ?_
  have first : ∀ {TB : Prop} {NX : L2.St → Hp → Prop}, NX [some (.ref a), some (.ref b), some (.int (n : Int)), some (.int (fib (n + 1))), some (.int (fib (n + 2))), y5, none] H' → True := fun _ => trivial
  refine ⟨_, rfl, _, _, rfl, rfl, _, rfl, ?_⟩
  refine iteJ2 (c := decide ((n : Int) > 1) = true) (fun σ H'' => H'' = H' ∧ σ = [some (.ref a), some (.ref b), some (.int (n : Int)), some (.int (fib (n + 1))), some (.int (fib (n + 2))), y5, none]) ?_ ?_ (fun _ => ⟨rfl, rfl⟩)
  rotate_left
  · intro kk h1
    have h1 : (1 : Int) < (n : Int) := of_decide_eq_true h1
    obtain ⟨d, rfl⟩ : ∃ d, n = d + 2 := ⟨n - 2, by omega⟩
    have hf := wnd_fib W hn
    have hs : ws.sum = tot ws xs.length := by
      unfold tot
      rw [← W.len, List.take_length]
    refine ⟨_, rfl, b, ws, rfl, .inr hW1, _, rfl, _, _, rfl, rfl, _, rfl, ?_⟩
    rw [decide_eq_false (show ¬ ws.sum < fib (d + 2 + 2) by rw [hs]; show ¬ tot ws xs.length < fib (d + 4); omega)]
    exact iteF (kk _ _ ⟨rfl, rfl⟩)
  rintro σ H'' ⟨rfl, rfl⟩
  -- final
  refine ⟨_, rfl, _, rfl, _, rfl, rfl, rfl, a, b, xs, ws, _, rfl, hS1, R, hW1, W, by omega, by omega, fun f2 H2 X2 hf2 => ?_⟩
  rw [Int.toNat_natCast] at hf2
  have hS2 := Evl.ex_t X2 hS1
  have hW2 := Evl.ex_t X2 hW1
  have Rf := rw_wro W R n
  have hfl := wro_len ws xs n
  have Wf : Wt ws (wro ws n xs).length := by rw [hfl]; exact W
  refine ⟨_, rfl, _, rfl, f2, b, wro ws n xs, ws, 1, rfl, hf2, Rf, hW2, Wf, by decide, by decide, fun f3 H3 X3 hf3 => ?_⟩
  have e1 : wro ws (1 : Int).toNat (wro ws n xs) = wro ws n xs := hn.still
  rw [e1] at hf3
  refine ⟨_, rfl, .tuple ((wro ws n xs).map PyData.int), .tuple ((wro ws n xs).map PyData.int), .tup hf3 (dp_ints _), .tup (Evl.ex_t X3 hf2) (dp_ints _), shaped_tup _, shaped_tup _, _, rfl, ?_⟩
  rw [eqv_tup, decide_eq_true rfl]
  refine iteF ?_
  refine ⟨_, rfl, _, rfl, f2, b, wro ws n xs, ws, rfl, Evl.ex_t X3 hf2, Rf, Evl.ex_t X3 hW2, Wf, fun H4 n4 X4 hn4 _ => ?_⟩
  have hz := wnd_final hn hn4
  subst hz
  refine ⟨rfl, _, rfl, ?_⟩
  refine iteF ?_
  have X14 := (X2.trans X3).trans X4
  refine ⟨_, rfl, rfl, _, rfl, ite2 (fun t => ?_) fun t => ?_⟩
  · have t := of_decide_eq_true t
    exact q _ (X1.trans X14)
  · have hn0 : n ≠ 0 := fun e => t (decide_eq_true (by rw [e]; rfl))
    refine ⟨_, rfl, _, rfl, _, rfl, _, _, rfl, rfl, rfl, rfl, a, b, xs, ws, _, rfl, Evl.ex_t X14 hS1, R, Evl.ex_t X14 hW1, W, by omega, by omega, fun f5 H5 X5 hf5 => ?_⟩
    rw [show ((n : Int) - 1).toNat = n - 1 by omega] at hf5
    refine ⟨_, rfl, .tuple ((wro ws (n - 1) xs).map PyData.int), .tuple ((wro ws n xs).map PyData.int), .tup hf5 (dp_ints _), .tup (Evl.ex_t ((X3.trans X4).trans X5) hf2) (dp_ints _), shaped_tup _, shaped_tup _, ?_⟩
    have hne : wro ws (n - 1) xs ≠ wro ws n xs := fun e => by
      refine hn.least (n - 1) (by omega) ?_
      obtain ⟨d, rfl⟩ : ∃ d, n = d + 1 := ⟨n - 1, by omega⟩
      exact e.symm
    rw [eqv_tup, decide_eq_false hne]
    exact q _ ((X1.trans X14).trans X5)
def sp_law (K : PySem.W.Frag) : Sp := fun vs H Q _ => ∃ a, ∃ ns : List Int, vs = [.ref a] ∧ SqL K H a (ns.map V.int) ∧ ns.length ≤ 63 ∧ ∀ H', Q (.bl true) H'
theorem ok_law {f : Addr} {fd : FuncData} (D : DefAt K mg "law" s_law ["script"] f fd) (T : Top mg) (c__law_mug : C8.Cal P w K mg base 1 "_law_mug" (sp__law_mug K) []) (c__law_slow : C8.Cal P w K mg base 1 "_law_slow" (sp__law_slow K) []) (c__law_row : C8.Cal P w K mg base 2 "_law_row" (sp__law_row K) []) (c__law_loads : C8.Cal P w K mg base 2 "_law_loads" (sp__law_loads K) []) (c__law_bound_right : C8.Cal P w K mg base 9 "_law_bound_right" (sp__law_bound_right K) []) (c__law_gulp : C8.Cal P w K mg base 1 "_law_gulp" (sp__law_gulp K) []) (c_weighted_needed : C8.Cal P w K mg base 8 "weighted_needed" (sp_weighted_needed K) []) (c__law_equal_right : C8.Cal P w K mg base 9 "_law_equal_right" (sp__law_equal_right K) []) (c__law_scaled_right : C8.Cal P w K mg base 9 "_law_scaled_right" (sp__law_scaled_right K) []) :
    GOk P w K mg base 10 f fd ["script"] (sp_law K) := by
  refine g_ok D.fn sc_law (fun vs H Q E h => ?len) fun cdv A outer s H vs Q E hG hr h => ?body
  case len => obtain ⟨a, ns, rfl, _⟩ := h; rfl
  obtain ⟨a, ns, rfl, hS, hz, q⟩ := h
  refine ⟨_, (pss_cons (ps_for PassesOwn.never rfl (pi_range1 (by rfl) T.range (pa_cons (pe_callB (call_max2 rfl) (by rfl) T.max (by decide +kernel) (pa_cons pe_int (pa_cons (pe_callB (call_min2 rfl) (by rfl) T.min (by decide +kernel) (pa_cons pe_int (pa_cons (pe_callB call_len_seq (by rfl) T.len (by decide +kernel) (pa_cons (pv 0) pa_nil)) pa_nil))) pa_nil))) pa_nil)) (pg_name (i := 1) sc_law.nd rfl (.inl rfl))
        (pss_cons (ps_set (i := 2) sc_law.nd rfl (.inl rfl) (C8.pe_c c__law_mug hr (by decide) (by rfl) (pa_cons (pv 0) (pa_cons (pv 1) pa_nil))))
          (pss_cons (ps_for PassesOwn.never rfl (pi_list (pe_lst (pa_cons pe_int (pa_cons pe_int pa_nil)))) (pg_name (i := 3) sc_law.nd rfl (.inl rfl))
            (pss_cons (ps_set (i := 4) sc_law.nd rfl (.inl rfl) (C8.pe_c c__law_row hr (by decide) (by rfl) (pa_cons (pv 2) (pa_cons (pv 3) pa_nil))))
              (pss_cons (ps_set (i := 5) sc_law.nd rfl (.inl rfl) (C8.pe_c c__law_loads hr (by decide) (by rfl) (pa_cons (pv 2) (pa_cons (pe_callB call_len_seq (by rfl) T.len (by decide +kernel) (pa_cons (pv 4) pa_nil)) pa_nil))))
              (pss_cons (ps_if (PW.pt (pw_or (pt_not (pt_val (C8.pe_c c__law_equal_right hr (by decide) (by rfl) (pa_cons (pv 2) (pa_cons (pv 4) pa_nil))))) (pw_or1 (pt_not (pt_val (C8.pe_c c__law_scaled_right hr (by decide) (by rfl) (pa_cons (pv 2) (pa_cons (pv 4) (pa_cons (pv 5) pa_nil)))))))))
                (pss_one (ps_ret pe_bl))
                pss_nil)
              (pss_one (ps_if (pt_not (pt_val (C8.pe_c c__law_bound_right hr (by decide) (by rfl) (pa_cons (pv 4) (pa_cons (pv 5) pa_nil)))))
                (pss_one (ps_ret pe_bl))
                pss_nil))))))
          (pss_cons (ps_asg (C8.pe_c c__law_slow hr (by decide) (by rfl) (pa_cons (pe_op op_add pe_int (C8.pe_c c__law_gulp hr (by decide) (by rfl) (pa_cons (pv 2) (pa_cons pe_int pa_nil)))) pa_nil)) (pg_tup rfl (pgs_cons (pg_name (i := 4) sc_law.nd rfl (.inl rfl)) (pgs_cons (pg_name (i := 5) sc_law.nd rfl (.inl rfl)) pgs_nil))))
          (pss_one (ps_if (PW.pt (pw_or (pt_not (pt_val (C8.pe_c c__law_bound_right hr (by decide) (by rfl) (pa_cons (pv 4) (pa_cons (pv 5) pa_nil))))) (pw_or1 (pt_cmpR op_ne (C8.pe_c c_weighted_needed hr (by decide) (by rfl) (pa_cons (pv 4) (pa_cons (pv 5) pa_nil))) (pe_callB call_len_seq (by rfl) T.len (by decide +kernel) (pa_cons (pv 4) pa_nil)) (nomark _)))))
            (pss_one (ps_ret pe_bl))
            pss_nil))))))
      (pss_one (ps_ret pe_bl))), ?_⟩
  refine ⟨_, rfl, a, _, rfl, .inl hS, _, _, rfl, _, _, rfl, _, rfl, ?_⟩
  rw [List.length_map]
  have hb : ∀ c : Int, 0 ≤ c → c ≤ 63 → (if (if c < 6 then c else 6) > 1 then (if c < 6 then c else 6) else (1 : Int)) ≤ 6 ∧ 1 ≤ (if (if c < 6 then c else 6) > 1 then (if c < 6 then c else 6) else (1 : Int)) := fun c c0 c1 => by
    constructor <;> split <;> split <;> omega
  obtain ⟨hb1, hb2⟩ := hb (ns.length : Int) (by omega) (by omega)
  generalize (if (if (ns.length : Int) < 6 then (ns.length : Int) else 6) > 1 then (if (ns.length : Int) < 6 then (ns.length : Int) else 6) else (1 : Int)) = cnt at hb1 hb2 ⊢
  refine ⟨by omega, by omega, ?_⟩
  refine for_range (lo := 0) (n := cnt.toNat) (fun i σ H' => Ex H H' ∧ ∃ y1 y2 y3 y4 y5 : Option V, σ = [some (.ref a), y1, y2, y3, y4, y5]) ⟨Evl.Ex.refl _, _, _, _, _, _, rfl⟩ ?_ ?_
  · rintro i σ H2 hi ⟨X2, y1, y2, y3, y4, y5, rfl⟩
    refine ⟨_, rfl, _, rfl, a, ns, i, ?_, Evl.ex_l X2 hS, by omega, fun t H3 ht X3 T3 => ?_⟩
    · rw [Int.zero_add]; rfl
    have X23 : Ex H H3 := X2.trans X3
    have t1 : H t = none := Evl.fresh_back X2 ht
    refine ⟨by show 2 ≤ sizeLine; decide, fun p2 hp2 => ⟨p2, rfl, ⟨_, SqL.of upd_same⟩, ?_⟩⟩
    have Y2 := Evl.Ex.new (o := .lst [.int 7, .int 100]) hp2
    have T5 := T3.ex Y2
    have np2 : p2 ≠ t := T3.ne hp2
    refine for_list (K := K) (a := p2) (xs := [.int 7, .int 100]) (fun j σ H' => Ex H H' ∧ Mug H' t (5000 * j) ∧ H' p2 = some (.lst [.int 7, .int 100]) ∧ ∃ y3 y4 y5 : Option V, σ = [some (.ref a), some (.int (0 + (i : Int))), some (.ref t), y3, y4, y5])
      ⟨X23.trans Y2, T5.le (by decide), upd_same, _, _, _, rfl⟩ (fun j σ H' _ h => SqL.of h.2.2.1) ?_ ?_
    · rintro j v σ H4 hv ⟨X4, T4, hp4, y3, y4, y5, rfl⟩
      obtain ⟨b, rfl, b1, b2, hj⟩ : ∃ b : Int, v = .int b ∧ 1 ≤ b ∧ b ≤ 100 ∧ j < 2 := by
        match j, hv with
        | 0, hv => cases hv; exact ⟨7, rfl, by decide, by decide, by decide⟩
        | 1, hv => cases hv; exact ⟨100, rfl, by decide, by decide, by decide⟩
        | j + 2, hv => cases hv
      refine ⟨_, rfl, _, rfl, t, b, _, rfl, T4, b1, b2, by omega, by omega, fun p H5 xs hp B5 T5 hp5 R hle => ?_⟩
      have np : p ≠ t := T4.ne hp
      have hS5 : SqT K H5 p (xs.map V.int) := SqT.of hp5
      have hlo := R.lo
      have hhi := R.hi
      refine ⟨_, rfl, _, rfl, p, _, rfl, .inr hS5, t, _, _, rfl, T5, by rw [List.length_map]; omega, by rw [List.length_map]; omega, by omega, by omega, fun w H6 ws hw B6 T6 hw6 W => ?_⟩
      rw [List.length_map, Int.toNat_natCast] at W
      have hS6 := T5.tup B6 hS5
      have hW6 : SqT K H6 w (ws.map V.int) := SqT.of hw6
      refine ⟨_, rfl, _, rfl, t, p, xs, _, rfl, T6, hS6, R, by omega, by omega, fun H7 B7 T7 => ⟨true, rfl, iteF ?_⟩⟩
      have hS7 := T6.tup B7 hS6
      have hW7 := T6.tup B7 hW6
      refine ⟨_, rfl, _, rfl, _, rfl, t, p, w, xs, ws, _, rfl, T7, hS7, R, hW7, W, by omega, by omega, fun H8 B8 T8 => ⟨true, rfl, iteF ?_⟩⟩
      refine ⟨_, rfl, _, rfl, p, w, xs, ws, rfl, T7.tup B8 hS7, R, T7.tup B8 hW7, W, fun H9 X9 => ⟨true, rfl, iteF ?_⟩⟩
      have B := (((B5.trans B6).trans B7).trans B8).trans (ExB.of X9)
      exact ⟨fun b' o' h' => B _ _ (ne_of_none h' t1) (X4 _ _ h'), (T8.ex X9).le (by omega), B _ _ np2 hp4, _, _, _, rfl⟩
    rintro σ H4 ⟨X4, T4, _, y3, y4, y5, rfl⟩
    -- the slow one
    refine ⟨_, rfl, t, 40, _, rfl, T4, by decide, p1000 (by decide), by decide, fun r H5 r0 r1 e5 T5 => ?_⟩
    obtain ⟨n, hn⟩ : ∃ n : Nat, (n : Int) = 2 + r := ⟨(2 + r).toNat, by omega⟩
    refine ⟨_, _, rfl, rfl, n, congrArg (fun z => [V.int z]) hn.symm, by omega, by omega, fun p p1 w H6 hp X6 hp6 hS6 hW6 => ?_⟩
    refine ⟨p, _, rfl, SqT.of hp6, rfl, _, _, rfl, _, _, rfl, rfl, ?_⟩
    have Rs := slowX_rw (n := n) (by omega) (by omega)
    have Ws : Wt (slowW n) (slowX n).length := by rw [slowX_len]; exact slowW_wt (by omega)
    refine ⟨_, rfl, _, rfl, p1, w, _, _, rfl, hS6, Rs, hW6, Ws, fun H7 X7 => ⟨true, rfl, iteF ?_⟩⟩
    have hS7 := Evl.ex_t X7 hS6
    refine ⟨_, rfl, _, rfl, p1, w, _, _, rfl, hS7, Rs, Evl.ex_t X7 hW6, Ws, fun H8 m8 X8 hm8 _ => ?_⟩
    rw [slow_nd (by omega) (by omega) hm8]
    refine ⟨_, rfl, p1, _, rfl, .inr (Evl.ex_t X8 hS7), rfl, _, rfl, ?_⟩
    have el : (!decide (V.int (n : Int) = .int (((slowX n).map V.int).length : Int))) = false := by rw [List.length_map, slowX_len, decide_eq_true rfl]; rfl
    rw [el]
    have B := (e5.trans (ExB.of X6)).trans (ExB.of (X7.trans X8))
    exact iteF ⟨fun b' o' h' => B _ _ (ne_of_none h' t1) (X4 _ _ h'), _, _, _, _, _, rfl⟩
  · rintro σ H2 ⟨X2, y1, y2, y3, y4, y5, rfl⟩
    exact q _
end
section
theorem all_mk {l : PySem.W.OpenLaw} {w : World} {K : PySem.W.Frag} {h : Heap} {mg : Str → Option Value} {fa f0 f1 f2 f3 f4 f5 f6 f7 f8 f9 f10 f11 f12 f13 f14 f15 f16 f17 f18 f19 f20 f21 f22 f23 f24 f25 f26 f27 f28 : Addr}
    (X : K.In h) (G : h.Ns mainGlobals mg) (hfa : mg "law" = some (.ref fa))
    {od0 an0 od1 an1 od2 an2 od3 an3 od4 an4 od5 an5 od6 an6 od7 an7 od8 an8 od9 an9 od10 an10 od11 an11 od12 an12 od13 an13 od14 an14 od15 an15 od16 an16 od17 an17 od18 an18 od19 an19 od20 an20 od21 an21 od22 an22 od23 an23 od24 an24 od25 an25 od26 an26 od27 an27 od28 an28 : Option Addr}
    {sl0 sl1 sl2 sl3 sl4 sl5 sl6 sl7 sl8 sl9 sl10 sl11 sl12 sl13 sl14 sl15 sl16 sl17 sl18 sl19 sl20 sl21 sl22 sl23 sl24 sl25 sl26 sl27 sl28 : Array (Option Value)}
    {oc0 kV0 dc0 pm0 cd0 ct0 oc1 kV1 dc1 pm1 cd1 ct1 oc2 kV2 dc2 pm2 cd2 ct2 oc3 kV3 dc3 pm3 cd3 ct3 oc4 kV4 dc4 pm4 cd4 ct4 oc5 kV5 dc5 pm5 cd5 ct5 oc6 kV6 dc6 pm6 cd6 ct6 oc7 kV7 dc7 pm7 cd7 ct7 oc8 kV8 dc8 pm8 cd8 ct8 oc9 kV9 dc9 pm9 cd9 ct9 oc10 kV10 dc10 pm10 cd10 ct10 oc11 kV11 dc11 pm11 cd11 ct11 oc12 kV12 dc12 pm12 cd12 ct12 oc13 kV13 dc13 pm13 cd13 ct13 oc14 dc14 pm14 cd14 ct14 oc15 kV15 dc15 pm15 cd15 ct15 oc16 kV16 dc16 pm16 cd16 ct16 oc17 kV17 dc17 pm17 cd17 ct17 oc18 kV18 dc18 pm18 cd18 ct18 oc19 kV19 dc19 pm19 cd19 ct19 oc20 kV20 dc20 pm20 cd20 ct20 oc21 kV21 dc21 pm21 cd21 ct21 oc22 kV22 dc22 pm22 cd22 ct22 oc23 kV23 dc23 pm23 cd23 ct23 oc24 kV24 dc24 pm24 cd24 ct24 oc25 kV25 dc25 pm25 cd25 ct25 oc26 kV26 dc26 pm26 cd26 ct26 oc27 kV27 dc27 pm27 cd27 ct27 oc28 kV28 dc28 pm28 cd28 ct28 : Value}
    {t0 t1 t2 t3 : Tok}
    {kd14 : Addr} {kt14 : Tok}
    {kd4 : Addr} {kt4 : Tok} {ko4 : Value} {kq4 : Option Addr} {kn4 : Nat} {ks4 : Array (Option Value)}
    (a0 : PySem.W.nsIn K mainGlobals "is_int" = some (some (.ref f0)))
    (l0 : K.lookup f0 = some ⟨oc0, od0, .func (PySem.W.fnOf "is_int" "is_int" (defArgs s_is_int) (defBody s_is_int) (defScope s_is_int) .none kV0 dc0 pm0 an0 cd0 ct0), sl0⟩)
    (c0 : PySem.W.codeIn K cd0 "is_int" = true) (k0 : PySem.W.keepIn K (.ref f0) = true)
    (a1 : PySem.W.nsIn K mainGlobals "is_whole" = some (some (.ref f1)))
    (l1 : K.lookup f1 = some ⟨oc1, od1, .func (PySem.W.fnOf "is_whole" "is_whole" (defArgs s_is_whole) (defBody s_is_whole) (defScope s_is_whole) .none kV1 dc1 pm1 an1 cd1 ct1), sl1⟩)
    (c1 : PySem.W.codeIn K cd1 "is_whole" = true) (k1 : PySem.W.keepIn K (.ref f1) = true)
    (a2 : PySem.W.nsIn K mainGlobals "is_entry" = some (some (.ref f2)))
    (l2 : K.lookup f2 = some ⟨oc2, od2, .func (PySem.W.fnOf "is_entry" "is_entry" (defArgs s_is_entry) (defBody s_is_entry) (defScope s_is_entry) .none kV2 dc2 pm2 an2 cd2 ct2), sl2⟩)
    (c2 : PySem.W.codeIn K cd2 "is_entry" = true) (k2 : PySem.W.keepIn K (.ref f2) = true)
    (a3 : PySem.W.nsIn K mainGlobals "check_place" = some (some (.ref f3)))
    (l3 : K.lookup f3 = some ⟨oc3, od3, .func (PySem.W.fnOf "check_place" "check_place" (defArgs s_check_place) (defBody s_check_place) (defScope s_check_place) .none kV3 dc3 pm3 an3 cd3 ct3), sl3⟩)
    (c3 : PySem.W.codeIn K cd3 "check_place" = true) (k3 : PySem.W.keepIn K (.ref f3) = true)
    (a4 : PySem.W.nsIn K mainGlobals "check_rounds" = some (some (.ref f4)))
    (l4 : K.lookup f4 = some ⟨oc4, od4, .func (PySem.W.fnOf "check_rounds" "check_rounds" (defArgs s_check_rounds) (defBody s_check_rounds) (defScope s_check_rounds) (.ref kd4) kV4 dc4 pm4 an4 cd4 ct4), sl4⟩)
    (c4 : PySem.W.codeIn K cd4 "check_rounds" = true) (k4 : PySem.W.keepIn K (.ref f4) = true)
    (w4 : K.lookup kd4 = some ⟨ko4, kq4, .seq #[.int 0 kt4] kn4, ks4⟩)
    (a5 : PySem.W.nsIn K mainGlobals "is_row" = some (some (.ref f5)))
    (l5 : K.lookup f5 = some ⟨oc5, od5, .func (PySem.W.fnOf "is_row" "is_row" (defArgs s_is_row) (defBody s_is_row) (defScope s_is_row) .none kV5 dc5 pm5 an5 cd5 ct5), sl5⟩)
    (c5 : PySem.W.codeIn K cd5 "is_row" = true) (k5 : PySem.W.keepIn K (.ref f5) = true)
    (a6 : PySem.W.nsIn K mainGlobals "check_row" = some (some (.ref f6)))
    (l6 : K.lookup f6 = some ⟨oc6, od6, .func (PySem.W.fnOf "check_row" "check_row" (defArgs s_check_row) (defBody s_check_row) (defScope s_check_row) .none kV6 dc6 pm6 an6 cd6 ct6), sl6⟩)
    (c6 : PySem.W.codeIn K cd6 "check_row" = true) (k6 : PySem.W.keepIn K (.ref f6) = true)
    (a7 : PySem.W.nsIn K mainGlobals "all_spans" = some (some (.ref f7)))
    (l7 : K.lookup f7 = some ⟨oc7, od7, .func (PySem.W.fnOf "all_spans" "all_spans" (defArgs s_all_spans) (defBody s_all_spans) (defScope s_all_spans) .none kV7 dc7 pm7 an7 cd7 ct7), sl7⟩)
    (c7 : PySem.W.codeIn K cd7 "all_spans" = true) (k7 : PySem.W.keepIn K (.ref f7) = true)
    (a8 : PySem.W.nsIn K mainGlobals "rows_until_still" = some (some (.ref f8)))
    (l8 : K.lookup f8 = some ⟨oc8, od8, .func (PySem.W.fnOf "rows_until_still" "rows_until_still" (defArgs s_rows_until_still) (defBody s_rows_until_still) (defScope s_rows_until_still) .none kV8 dc8 pm8 an8 cd8 ct8), sl8⟩)
    (c8 : PySem.W.codeIn K cd8 "rows_until_still" = true) (k8 : PySem.W.keepIn K (.ref f8) = true)
    (a9 : PySem.W.nsIn K mainGlobals "span_of" = some (some (.ref f9)))
    (l9 : K.lookup f9 = some ⟨oc9, od9, .func (PySem.W.fnOf "span_of" "span_of" (defArgs s_span_of) (defBody s_span_of) (defScope s_span_of) .none kV9 dc9 pm9 an9 cd9 ct9), sl9⟩)
    (c9 : PySem.W.codeIn K cd9 "span_of" = true) (k9 : PySem.W.keepIn K (.ref f9) = true)
    (a10 : PySem.W.nsIn K mainGlobals "place_in_front" = some (some (.ref f10)))
    (l10 : K.lookup f10 = some ⟨oc10, od10, .func (PySem.W.fnOf "place_in_front" "place_in_front" (defArgs s_place_in_front) (defBody s_place_in_front) (defScope s_place_in_front) .none kV10 dc10 pm10 an10 cd10 ct10), sl10⟩)
    (c10 : PySem.W.codeIn K cd10 "place_in_front" = true) (k10 : PySem.W.keepIn K (.ref f10) = true)
    (a11 : PySem.W.nsIn K mainGlobals "row_after" = some (some (.ref f11)))
    (l11 : K.lookup f11 = some ⟨oc11, od11, .func (PySem.W.fnOf "row_after" "row_after" (defArgs s_row_after) (defBody s_row_after) (defScope s_row_after) .none kV11 dc11 pm11 an11 cd11 ct11), sl11⟩)
    (c11 : PySem.W.codeIn K cd11 "row_after" = true) (k11 : PySem.W.keepIn K (.ref f11) = true)
    (a12 : PySem.W.nsIn K mainGlobals "is_weights" = some (some (.ref f12)))
    (l12 : K.lookup f12 = some ⟨oc12, od12, .func (PySem.W.fnOf "is_weights" "is_weights" (defArgs s_is_weights) (defBody s_is_weights) (defScope s_is_weights) .none kV12 dc12 pm12 an12 cd12 ct12), sl12⟩)
    (c12 : PySem.W.codeIn K cd12 "is_weights" = true) (k12 : PySem.W.keepIn K (.ref f12) = true)
    (a13 : PySem.W.nsIn K mainGlobals "check_weights" = some (some (.ref f13)))
    (l13 : K.lookup f13 = some ⟨oc13, od13, .func (PySem.W.fnOf "check_weights" "check_weights" (defArgs s_check_weights) (defBody s_check_weights) (defScope s_check_weights) .none kV13 dc13 pm13 an13 cd13 ct13), sl13⟩)
    (c13 : PySem.W.codeIn K cd13 "check_weights" = true) (k13 : PySem.W.keepIn K (.ref f13) = true)
    (a14 : PySem.W.nsIn K mainGlobals "weighted_after" = some (some (.ref f14)))
    (l14 : K.lookup f14 = some ⟨oc14, od14, .func (PySem.W.fnOf "weighted_after" "weighted_after" (defArgs s_weighted_after) (defBody s_weighted_after) (defScope s_weighted_after) .none (.ref kd14) dc14 pm14 an14 cd14 ct14), sl14⟩)
    (c14 : PySem.W.codeIn K cd14 "weighted_after" = true) (k14 : PySem.W.keepIn K (.ref f14) = true)
    (w14 : PySem.W.nsIn K kd14 "rounds" = some (some (.int 1 kt14)))
    (a15 : PySem.W.nsIn K mainGlobals "weighted_needed" = some (some (.ref f15)))
    (l15 : K.lookup f15 = some ⟨oc15, od15, .func (PySem.W.fnOf "weighted_needed" "weighted_needed" (defArgs s_weighted_needed) (defBody s_weighted_needed) (defScope s_weighted_needed) .none kV15 dc15 pm15 an15 cd15 ct15), sl15⟩)
    (c15 : PySem.W.codeIn K cd15 "weighted_needed" = true) (k15 : PySem.W.keepIn K (.ref f15) = true)
    (a16 : PySem.W.nsIn K mainGlobals "weighted_rows" = some (some (.ref f16)))
    (l16 : K.lookup f16 = some ⟨oc16, od16, .func (PySem.W.fnOf "weighted_rows" "weighted_rows" (defArgs s_weighted_rows) (defBody s_weighted_rows) (defScope s_weighted_rows) .none kV16 dc16 pm16 an16 cd16 ct16), sl16⟩)
    (c16 : PySem.W.codeIn K cd16 "weighted_rows" = true) (k16 : PySem.W.keepIn K (.ref f16) = true)
    (a17 : PySem.W.nsIn K mainGlobals "weighted_spans" = some (some (.ref f17)))
    (l17 : K.lookup f17 = some ⟨oc17, od17, .func (PySem.W.fnOf "weighted_spans" "weighted_spans" (defArgs s_weighted_spans) (defBody s_weighted_spans) (defScope s_weighted_spans) .none kV17 dc17 pm17 an17 cd17 ct17), sl17⟩)
    (c17 : PySem.W.codeIn K cd17 "weighted_spans" = true) (k17 : PySem.W.keepIn K (.ref f17) = true)
    (a18 : PySem.W.nsIn K mainGlobals "final_row" = some (some (.ref f18)))
    (l18 : K.lookup f18 = some ⟨oc18, od18, .func (PySem.W.fnOf "final_row" "final_row" (defArgs s_final_row) (defBody s_final_row) (defScope s_final_row) .none kV18 dc18 pm18 an18 cd18 ct18), sl18⟩)
    (c18 : PySem.W.codeIn K cd18 "final_row" = true) (k18 : PySem.W.keepIn K (.ref f18) = true)
    (a19 : PySem.W.nsIn K mainGlobals "rounds_needed" = some (some (.ref f19)))
    (l19 : K.lookup f19 = some ⟨oc19, od19, .func (PySem.W.fnOf "rounds_needed" "rounds_needed" (defArgs s_rounds_needed) (defBody s_rounds_needed) (defScope s_rounds_needed) .none kV19 dc19 pm19 an19 cd19 ct19), sl19⟩)
    (c19 : PySem.W.codeIn K cd19 "rounds_needed" = true) (k19 : PySem.W.keepIn K (.ref f19) = true)
    (a20 : PySem.W.nsIn K mainGlobals "_law_mug" = some (some (.ref f20)))
    (l20 : K.lookup f20 = some ⟨oc20, od20, .func (PySem.W.fnOf "_law_mug" "_law_mug" (defArgs s__law_mug) (defBody s__law_mug) (defScope s__law_mug) .none kV20 dc20 pm20 an20 cd20 ct20), sl20⟩)
    (c20 : PySem.W.codeIn K cd20 "_law_mug" = true) (k20 : PySem.W.keepIn K (.ref f20) = true)
    (a21 : PySem.W.nsIn K mainGlobals "_law_gulp" = some (some (.ref f21)))
    (l21 : K.lookup f21 = some ⟨oc21, od21, .func (PySem.W.fnOf "_law_gulp" "_law_gulp" (defArgs s__law_gulp) (defBody s__law_gulp) (defScope s__law_gulp) .none kV21 dc21 pm21 an21 cd21 ct21), sl21⟩)
    (c21 : PySem.W.codeIn K cd21 "_law_gulp" = true) (k21 : PySem.W.keepIn K (.ref f21) = true)
    (a22 : PySem.W.nsIn K mainGlobals "_law_row" = some (some (.ref f22)))
    (l22 : K.lookup f22 = some ⟨oc22, od22, .func (PySem.W.fnOf "_law_row" "_law_row" (defArgs s__law_row) (defBody s__law_row) (defScope s__law_row) .none kV22 dc22 pm22 an22 cd22 ct22), sl22⟩)
    (c22 : PySem.W.codeIn K cd22 "_law_row" = true) (k22 : PySem.W.keepIn K (.ref f22) = true)
    (a23 : PySem.W.nsIn K mainGlobals "_law_loads" = some (some (.ref f23)))
    (l23 : K.lookup f23 = some ⟨oc23, od23, .func (PySem.W.fnOf "_law_loads" "_law_loads" (defArgs s__law_loads) (defBody s__law_loads) (defScope s__law_loads) .none kV23 dc23 pm23 an23 cd23 ct23), sl23⟩)
    (c23 : PySem.W.codeIn K cd23 "_law_loads" = true) (k23 : PySem.W.keepIn K (.ref f23) = true)
    (a24 : PySem.W.nsIn K mainGlobals "_law_slow" = some (some (.ref f24)))
    (l24 : K.lookup f24 = some ⟨oc24, od24, .func (PySem.W.fnOf "_law_slow" "_law_slow" (defArgs s__law_slow) (defBody s__law_slow) (defScope s__law_slow) .none kV24 dc24 pm24 an24 cd24 ct24), sl24⟩)
    (c24 : PySem.W.codeIn K cd24 "_law_slow" = true) (k24 : PySem.W.keepIn K (.ref f24) = true)
    (a25 : PySem.W.nsIn K mainGlobals "_law_equal_right" = some (some (.ref f25)))
    (l25 : K.lookup f25 = some ⟨oc25, od25, .func (PySem.W.fnOf "_law_equal_right" "_law_equal_right" (defArgs s__law_equal_right) (defBody s__law_equal_right) (defScope s__law_equal_right) .none kV25 dc25 pm25 an25 cd25 ct25), sl25⟩)
    (c25 : PySem.W.codeIn K cd25 "_law_equal_right" = true) (k25 : PySem.W.keepIn K (.ref f25) = true)
    (a26 : PySem.W.nsIn K mainGlobals "_law_scaled_right" = some (some (.ref f26)))
    (l26 : K.lookup f26 = some ⟨oc26, od26, .func (PySem.W.fnOf "_law_scaled_right" "_law_scaled_right" (defArgs s__law_scaled_right) (defBody s__law_scaled_right) (defScope s__law_scaled_right) .none kV26 dc26 pm26 an26 cd26 ct26), sl26⟩)
    (c26 : PySem.W.codeIn K cd26 "_law_scaled_right" = true) (k26 : PySem.W.keepIn K (.ref f26) = true)
    (a27 : PySem.W.nsIn K mainGlobals "_law_bound_right" = some (some (.ref f27)))
    (l27 : K.lookup f27 = some ⟨oc27, od27, .func (PySem.W.fnOf "_law_bound_right" "_law_bound_right" (defArgs s__law_bound_right) (defBody s__law_bound_right) (defScope s__law_bound_right) .none kV27 dc27 pm27 an27 cd27 ct27), sl27⟩)
    (c27 : PySem.W.codeIn K cd27 "_law_bound_right" = true) (k27 : PySem.W.keepIn K (.ref f27) = true)
    (a28 : PySem.W.nsIn K mainGlobals "law" = some (some (.ref f28)))
    (l28 : K.lookup f28 = some ⟨oc28, od28, .func (PySem.W.fnOf "law" "law" (defArgs s_law) (defBody s_law) (defScope s_law) .none kV28 dc28 pm28 an28 cd28 ct28), sl28⟩)
    (c28 : PySem.W.codeIn K cd28 "law" = true) (k28 : PySem.W.keepIn K (.ref f28) = true)
    (kc0 : PySem.W.nsIn K mainGlobals "MOST_ENTRIES" = some (some (.int 100 t0)))
    (kc1 : PySem.W.nsIn K mainGlobals "GREATEST_ENTRY" = some (some (.int 1000000000000000000000000000000 t1)))
    (kc2 : PySem.W.nsIn K mainGlobals "MOST_ROUNDS" = some (some (.int 1000000000000000000000000000000 t2)))
    (kc3 : PySem.W.nsIn K mainGlobals "GREATEST_WEIGHT" = some (some (.int 10000000000000000000000000000 t3)))
    (z0 : PySem.W.nsIn K mainGlobals "isinstance" = some none)
    (z1 : PySem.W.nsIn K mainGlobals "int" = some none)
    (z2 : PySem.W.nsIn K mainGlobals "bool" = some none)
    (z3 : PySem.W.nsIn K mainGlobals "all" = some none)
    (z4 : PySem.W.nsIn K mainGlobals "tuple" = some none)
    (z5 : PySem.W.nsIn K mainGlobals "len" = some none)
    (z6 : PySem.W.nsIn K mainGlobals "enumerate" = some none)
    (z7 : PySem.W.nsIn K mainGlobals "min" = some none)
    (z8 : PySem.W.nsIn K mainGlobals "max" = some none)
    (z9 : PySem.W.nsIn K mainGlobals "range" = some none)
    (z10 : PySem.W.nsIn K mainGlobals "list" = some none)
    (z11 : PySem.W.nsIn K mainGlobals "sorted" = some none)
    (z12 : PySem.W.nsIn K mainGlobals "set" = some none)
    (z13 : PySem.W.nsIn K mainGlobals "sum" = some none)
    : ∃ fd : FuncData, (∀ (s : Shared) (v : Value), BindsTo s fd ⟨[v], []⟩ [("script", v)]) ∧ ∀ base : Heap, K.In base → base.Ns mainGlobals mg →
      GOk l.prog w K mg base 10 fa fd ["script"] (sp_law K) := by
  have e := hfa.symm.trans (PySem.W.mg_of X G a28)
  cases e
  have T : Top mg := ⟨PySem.W.mg_none_of X G z0, PySem.W.mg_none_of X G z1, PySem.W.mg_none_of X G z2, PySem.W.mg_none_of X G z3, PySem.W.mg_none_of X G z4, PySem.W.mg_none_of X G z5, PySem.W.mg_none_of X G z6, PySem.W.mg_none_of X G z7, PySem.W.mg_none_of X G z8, PySem.W.mg_none_of X G z9, PySem.W.mg_none_of X G z10, PySem.W.mg_none_of X G z11, PySem.W.mg_none_of X G z12, PySem.W.mg_none_of X G z13, ⟨_, PySem.W.mg_of X G kc0, _, rfl⟩, ⟨_, PySem.W.mg_of X G kc1, _, rfl⟩, ⟨_, PySem.W.mg_of X G kc2, _, rfl⟩, ⟨_, PySem.W.mg_of X G kc3, _, rfl⟩⟩
  have D0 : DefAt K mg "is_int" s_is_int ["value"] _ _ := ⟨fun_mk (st := s_is_int) l0 c0 k0, PySem.W.mg_of X G a0,
    (fun_mk (st := s_is_int) l0 c0 k0).binds fun _ _ _ _ _ _ us hl => match us, hl with | [_], _ => rfl⟩
  have D1 : DefAt K mg "is_whole" s_is_whole ["value", "low", "high"] _ _ := ⟨fun_mk (st := s_is_whole) l1 c1 k1, PySem.W.mg_of X G a1,
    (fun_mk (st := s_is_whole) l1 c1 k1).binds fun _ _ _ _ _ _ us hl => match us, hl with | [_, _, _], _ => rfl⟩
  have D2 : DefAt K mg "is_entry" s_is_entry ["value"] _ _ := ⟨fun_mk (st := s_is_entry) l2 c2 k2, PySem.W.mg_of X G a2,
    (fun_mk (st := s_is_entry) l2 c2 k2).binds fun _ _ _ _ _ _ us hl => match us, hl with | [_], _ => rfl⟩
  have D3 : DefAt K mg "check_place" s_check_place ["place", "size"] _ _ := ⟨fun_mk (st := s_check_place) l3 c3 k3, PySem.W.mg_of X G a3,
    (fun_mk (st := s_check_place) l3 c3 k3).binds fun _ _ _ _ _ _ us hl => match us, hl with | [_, _], _ => rfl⟩
  have F4 : FunD K "check_rounds" "check_rounds" (defArgs s_check_rounds) (defBody s_check_rounds) (defScope s_check_rounds) [.int 0] [] _ _ := ⟨⟨_, _, _, _, _, _, _, _, _, _, rfl, l4, c4, .inr ⟨(fun h => nomatch h), kd4, _, [.int 0 kt4], _, rfl, w4, rfl, .cons ⟨_, rfl⟩ .nil⟩, .inl rfl⟩, k4⟩
  have D4 : DefAtP K mg "check_rounds" s_check_rounds ["rounds", "least"] [.int 0] _ _ := ⟨F4, PySem.W.mg_of X G a4, funD_b0 F4 (fun h => nomatch h) fun T kV doc pm an cdv ct us its h1 h2 => match us, its, h1, h2 with | [_, _], [_], _, _ => ⟨_, rfl, rfl⟩,
    F4.binds1 1 0 (fun h => nomatch h) rfl fun T kV doc pm an cdv ct us its h1 h2 => match us, its, h1, h2 with | [_], [_], _, _ => ⟨_, rfl, rfl⟩⟩
  have D5 : DefAt K mg "is_row" s_is_row ["value"] _ _ := ⟨fun_mk (st := s_is_row) l5 c5 k5, PySem.W.mg_of X G a5,
    (fun_mk (st := s_is_row) l5 c5 k5).binds fun _ _ _ _ _ _ us hl => match us, hl with | [_], _ => rfl⟩
  have D6 : DefAt K mg "check_row" s_check_row ["row"] _ _ := ⟨fun_mk (st := s_check_row) l6 c6 k6, PySem.W.mg_of X G a6,
    (fun_mk (st := s_check_row) l6 c6 k6).binds fun _ _ _ _ _ _ us hl => match us, hl with | [_], _ => rfl⟩
  have D7 : DefAt K mg "all_spans" s_all_spans ["row"] _ _ := ⟨fun_mk (st := s_all_spans) l7 c7 k7, PySem.W.mg_of X G a7,
    (fun_mk (st := s_all_spans) l7 c7 k7).binds fun _ _ _ _ _ _ us hl => match us, hl with | [_], _ => rfl⟩
  have D8 : DefAt K mg "rows_until_still" s_rows_until_still ["row"] _ _ := ⟨fun_mk (st := s_rows_until_still) l8 c8 k8, PySem.W.mg_of X G a8,
    (fun_mk (st := s_rows_until_still) l8 c8 k8).binds fun _ _ _ _ _ _ us hl => match us, hl with | [_], _ => rfl⟩
  have D9 : DefAt K mg "span_of" s_span_of ["row", "place"] _ _ := ⟨fun_mk (st := s_span_of) l9 c9 k9, PySem.W.mg_of X G a9,
    (fun_mk (st := s_span_of) l9 c9 k9).binds fun _ _ _ _ _ _ us hl => match us, hl with | [_, _], _ => rfl⟩
  have D10 : DefAt K mg "place_in_front" s_place_in_front ["row", "place"] _ _ := ⟨fun_mk (st := s_place_in_front) l10 c10 k10, PySem.W.mg_of X G a10,
    (fun_mk (st := s_place_in_front) l10 c10 k10).binds fun _ _ _ _ _ _ us hl => match us, hl with | [_, _], _ => rfl⟩
  have D11 : DefAtN K mg "row_after" s_row_after ["row", "rounds"] 1 ["rounds"] _ _ := ⟨fun_mk (st := s_row_after) l11 c11 k11, PySem.W.mg_of X G a11,
    ⟨fun s us ws _ h1 h2 => match us, ws, h1, h2 with | [_], [_], _, _ => .of_eq rfl, fun r1 r2 => r1.append r2⟩⟩
  have D12 : DefAt K mg "is_weights" s_is_weights ["row", "value"] _ _ := ⟨fun_mk (st := s_is_weights) l12 c12 k12, PySem.W.mg_of X G a12,
    (fun_mk (st := s_is_weights) l12 c12 k12).binds fun _ _ _ _ _ _ us hl => match us, hl with | [_, _], _ => rfl⟩
  have D13 : DefAt K mg "check_weights" s_check_weights ["row", "weights"] _ _ := ⟨fun_mk (st := s_check_weights) l13 c13 k13, PySem.W.mg_of X G a13,
    (fun_mk (st := s_check_weights) l13 c13 k13).binds fun _ _ _ _ _ _ us hl => match us, hl with | [_, _], _ => rfl⟩
  have D14 : DefAtN K mg "weighted_after" s_weighted_after ["row", "weights", "rounds"] 2 ["rounds"] _ _ := ⟨fun_mk (st := s_weighted_after) l14 c14 k14, PySem.W.mg_of X G a14,
    ⟨fun s us ws _ h1 h2 => match us, ws, h1, h2 with | [_, _], [_], _, _ => .of_eq rfl, fun r1 r2 => r1.append r2⟩⟩
  have F14 : FunD K "weighted_after" "weighted_after" (defArgs s_weighted_after) (defBody s_weighted_after) (defScope s_weighted_after) [] [("rounds", .int 1)] _ _ := ⟨⟨_, _, _, _, _, _, _, _, _, _, rfl, l14, c14, .inl ⟨rfl, rfl⟩, .inr ⟨kd14, rfl, fun q hq => by rw [List.mem_singleton.mp hq]; exact ⟨_, w14, _, rfl⟩⟩⟩, k14⟩
  have DD14 : ∃ ds, Vals [V.int 1] ds ∧ Binds K _ ["row", "weights", "rounds"] ds := F14.binds0 2 (by decide) rfl fun D doc pm an cdv ct us ks h1 h2 => match us, ks, h1, h2 with | [_, _], [_], _, _ => ⟨_, _, _, _, _, _, rfl, rfl, rfl⟩
  have D15 : DefAt K mg "weighted_needed" s_weighted_needed ["row", "weights"] _ _ := ⟨fun_mk (st := s_weighted_needed) l15 c15 k15, PySem.W.mg_of X G a15,
    (fun_mk (st := s_weighted_needed) l15 c15 k15).binds fun _ _ _ _ _ _ us hl => match us, hl with | [_, _], _ => rfl⟩
  have D16 : DefAt K mg "weighted_rows" s_weighted_rows ["row", "weights"] _ _ := ⟨fun_mk (st := s_weighted_rows) l16 c16 k16, PySem.W.mg_of X G a16,
    (fun_mk (st := s_weighted_rows) l16 c16 k16).binds fun _ _ _ _ _ _ us hl => match us, hl with | [_, _], _ => rfl⟩
  have D17 : DefAt K mg "weighted_spans" s_weighted_spans ["row", "totals"] _ _ := ⟨fun_mk (st := s_weighted_spans) l17 c17 k17, PySem.W.mg_of X G a17,
    (fun_mk (st := s_weighted_spans) l17 c17 k17).binds fun _ _ _ _ _ _ us hl => match us, hl with | [_, _], _ => rfl⟩
  have D18 : DefAt K mg "final_row" s_final_row ["row"] _ _ := ⟨fun_mk (st := s_final_row) l18 c18 k18, PySem.W.mg_of X G a18,
    (fun_mk (st := s_final_row) l18 c18 k18).binds fun _ _ _ _ _ _ us hl => match us, hl with | [_], _ => rfl⟩
  have D19 : DefAt K mg "rounds_needed" s_rounds_needed ["row"] _ _ := ⟨fun_mk (st := s_rounds_needed) l19 c19 k19, PySem.W.mg_of X G a19,
    (fun_mk (st := s_rounds_needed) l19 c19 k19).binds fun _ _ _ _ _ _ us hl => match us, hl with | [_], _ => rfl⟩
  have D20 : DefAt K mg "_law_mug" s__law_mug ["script", "k"] _ _ := ⟨fun_mk (st := s__law_mug) l20 c20 k20, PySem.W.mg_of X G a20,
    (fun_mk (st := s__law_mug) l20 c20 k20).binds fun _ _ _ _ _ _ us hl => match us, hl with | [_, _], _ => rfl⟩
  have D21 : DefAt K mg "_law_gulp" s__law_gulp ["mug", "many"] _ _ := ⟨fun_mk (st := s__law_gulp) l21 c21 k21, PySem.W.mg_of X G a21,
    (fun_mk (st := s__law_gulp) l21 c21 k21).binds fun _ _ _ _ _ _ us hl => match us, hl with | [_, _], _ => rfl⟩
  have D22 : DefAt K mg "_law_row" s__law_row ["mug", "most"] _ _ := ⟨fun_mk (st := s__law_row) l22 c22 k22, PySem.W.mg_of X G a22,
    (fun_mk (st := s__law_row) l22 c22 k22).binds fun _ _ _ _ _ _ us hl => match us, hl with | [_, _], _ => rfl⟩
  have D23 : DefAt K mg "_law_loads" s__law_loads ["mug", "many"] _ _ := ⟨fun_mk (st := s__law_loads) l23 c23 k23, PySem.W.mg_of X G a23,
    (fun_mk (st := s__law_loads) l23 c23 k23).binds fun _ _ _ _ _ _ us hl => match us, hl with | [_, _], _ => rfl⟩
  have D24 : DefAt K mg "_law_slow" s__law_slow ["many"] _ _ := ⟨fun_mk (st := s__law_slow) l24 c24 k24, PySem.W.mg_of X G a24,
    (fun_mk (st := s__law_slow) l24 c24 k24).binds fun _ _ _ _ _ _ us hl => match us, hl with | [_], _ => rfl⟩
  have D25 : DefAt K mg "_law_equal_right" s__law_equal_right ["mug", "row_here"] _ _ := ⟨fun_mk (st := s__law_equal_right) l25 c25 k25, PySem.W.mg_of X G a25,
    (fun_mk (st := s__law_equal_right) l25 c25 k25).binds fun _ _ _ _ _ _ us hl => match us, hl with | [_, _], _ => rfl⟩
  have D26 : DefAt K mg "_law_scaled_right" s__law_scaled_right ["mug", "row_here", "loads"] _ _ := ⟨fun_mk (st := s__law_scaled_right) l26 c26 k26, PySem.W.mg_of X G a26,
    (fun_mk (st := s__law_scaled_right) l26 c26 k26).binds fun _ _ _ _ _ _ us hl => match us, hl with | [_, _, _], _ => rfl⟩
  have D27 : DefAt K mg "_law_bound_right" s__law_bound_right ["row_here", "loads"] _ _ := ⟨fun_mk (st := s__law_bound_right) l27 c27 k27, PySem.W.mg_of X G a27,
    (fun_mk (st := s__law_bound_right) l27 c27 k27).binds fun _ _ _ _ _ _ us hl => match us, hl with | [_, _], _ => rfl⟩
  have D28 : DefAt K mg "law" s_law ["script"] _ _ := ⟨fun_mk (st := s_law) l28 c28 k28, PySem.W.mg_of X G a28,
    (fun_mk (st := s_law) l28 c28 k28).binds fun _ _ _ _ _ _ us hl => match us, hl with | [_], _ => rfl⟩
  refine ⟨(PySem.W.fnOf "law" "law" (defArgs s_law) (defBody s_law) (defScope s_law) .none kV28 dc28 pm28 an28 cd28 ct28), fun s v => .of_eq rfl, fun base _ _ => ?_⟩
  have c_is_int := ok_is_int (P := l.prog) (w := w) (base := base) D0 T
  have c_all_spans := ok_all_spans (P := l.prog) (w := w) (base := base) D7 T
  have c__law_mug := ok__law_mug (P := l.prog) (w := w) (base := base) D20 T
  have c__law_gulp := ok__law_gulp (P := l.prog) (w := w) (base := base) D21 T
  have c__law_slow := ok__law_slow (P := l.prog) (w := w) (base := base) D24 T
  have c_is_whole := ok_is_whole (P := l.prog) (w := w) (base := base) D1 T c_is_int
  have c_rows_until_still := ok_rows_until_still (P := l.prog) (w := w) (base := base) D8 T c_all_spans
  have c_weighted_spans := ok_weighted_spans (P := l.prog) (w := w) (base := base) D17 T c_all_spans
  have c__law_row := ok__law_row (P := l.prog) (w := w) (base := base) D22 T c__law_gulp
  have c__law_loads := ok__law_loads (P := l.prog) (w := w) (base := base) D23 T c__law_gulp
  have c_is_entry := ok_is_entry (P := l.prog) (w := w) (base := base) D2 T c_is_whole
  have c_check_place := ok_check_place (P := l.prog) (w := w) (base := base) D3 T c_is_whole
  have c_check_rounds := D4.cal (fo_check_rounds (P := l.prog) (w := w) (base := base) D4 T c_is_whole)
  have cd_check_rounds := D4.cald (fo_check_rounds (P := l.prog) (w := w) (base := base) D4 T c_is_whole)
  have c_weighted_rows := ok_weighted_rows (P := l.prog) (w := w) (base := base) D16 T c_weighted_spans
  have c_is_row := ok_is_row (P := l.prog) (w := w) (base := base) D5 T c_is_entry
  have c_check_row := ok_check_row (P := l.prog) (w := w) (base := base) D6 T c_is_row
  have c_place_in_front := ok_place_in_front (P := l.prog) (w := w) (base := base) D10 T c_check_row c_check_place c_all_spans
  have c_row_after := ok_row_after (P := l.prog) (w := w) (base := base) D11 T c_check_row cd_check_rounds c_rows_until_still
  have c_is_weights := ok_is_weights (P := l.prog) (w := w) (base := base) D12 T c_check_row c_is_whole
  have c_final_row := ok_final_row (P := l.prog) (w := w) (base := base) D18 T c_check_row c_rows_until_still
  have c_rounds_needed := ok_rounds_needed (P := l.prog) (w := w) (base := base) D19 T c_check_row c_rows_until_still
  have c_span_of := ok_span_of (P := l.prog) (w := w) (base := base) D9 T c_place_in_front
  have c_check_weights := ok_check_weights (P := l.prog) (w := w) (base := base) D13 T c_is_weights
  have c_weighted_after := ok_weighted_after (P := l.prog) (w := w) (base := base) D14 T c_check_weights cd_check_rounds c_weighted_rows
  have cd_weighted_after := okd_weighted_after (P := l.prog) (w := w) (base := base) D14 DD14 T c_check_weights cd_check_rounds c_weighted_rows
  have c_weighted_needed := ok_weighted_needed (P := l.prog) (w := w) (base := base) D15 T c_check_weights c_weighted_rows
  have c__law_equal_right := ok__law_equal_right (P := l.prog) (w := w) (base := base) D25 T c_weighted_after cd_weighted_after c_span_of c__law_gulp c_weighted_needed c_rounds_needed c_row_after c_final_row
  have c__law_scaled_right := ok__law_scaled_right (P := l.prog) (w := w) (base := base) D26 T c_weighted_after c__law_gulp c_is_weights
  have c__law_bound_right := ok__law_bound_right (P := l.prog) (w := w) (base := base) D27 T c_weighted_after cd_weighted_after c_weighted_needed
  exact ok_law D28 T c__law_mug c__law_slow c__law_row c__law_loads c__law_bound_right c__law_gulp c_weighted_needed c__law_equal_right c__law_scaled_right
end
end K38
open PySem PySem.W PyProof.Rows
set_option maxHeartbeats 0 in
theorem PySem.Challenge.cw_spanrounds_k38_whole_weights_and_rounds_holds : PySem.Challenge.rw_spanrounds_k38_whole_weights_and_rounds.Holds := by
  w_on; o_law; k_head; (case hw => w_witness2)
  k_fill
  refine Sx.walk_g (l := PySem.Challenge.rw_spanrounds_k38_whole_weights_and_rounds) (n := 63) (k := 10) (x := "script") (sp := K38.sp_law) rfl (by decide) rfl ⟨rfl, by decide, by decide⟩
    (fun w h Y => PySem.W.kIn_of Y) ?F (fun K H a ns hl _ hS => ⟨a, ns, rfl, hS, hl, fun _ => rfl⟩)
  case F =>
    intro w mg fa h KX G hmg
    refine' K38.all_mk KX G hmg ?a0 ?l0 ?c0 ?k0 ?a1 ?l1 ?c1 ?k1 ?a2 ?l2 ?c2 ?k2 ?a3 ?l3 ?c3 ?k3 ?a4 ?l4 ?c4 ?k4 ?w4 ?a5 ?l5 ?c5 ?k5 ?a6 ?l6 ?c6 ?k6 ?a7 ?l7 ?c7 ?k7 ?a8 ?l8 ?c8 ?k8 ?a9 ?l9 ?c9 ?k9 ?a10 ?l10 ?c10 ?k10 ?a11 ?l11 ?c11 ?k11 ?a12 ?l12 ?c12 ?k12 ?a13 ?l13 ?c13 ?k13 ?a14 ?l14 ?c14 ?k14 ?w14 ?a15 ?l15 ?c15 ?k15 ?a16 ?l16 ?c16 ?k16 ?a17 ?l17 ?c17 ?k17 ?a18 ?l18 ?c18 ?k18 ?a19 ?l19 ?c19 ?k19 ?a20 ?l20 ?c20 ?k20 ?a21 ?l21 ?c21 ?k21 ?a22 ?l22 ?c22 ?k22 ?a23 ?l23 ?c23 ?k23 ?a24 ?l24 ?c24 ?k24 ?a25 ?l25 ?c25 ?k25 ?a26 ?l26 ?c26 ?k26 ?a27 ?l27 ?c27 ?k27 ?a28 ?l28 ?c28 ?k28 ?kc0 ?kc1 ?kc2 ?kc3 ?z0 ?z1 ?z2 ?z3 ?z4 ?z5 ?z6 ?z7 ?z8 ?z9 ?z10 ?z11 ?z12 ?z13
    (case a0 => k_is); (case l0 => k_is); (case c0 => k_is); (case k0 => k_is)
    (case a1 => k_is); (case l1 => k_is); (case c1 => k_is); (case k1 => k_is)
    (case a2 => k_is); (case l2 => k_is); (case c2 => k_is); (case k2 => k_is)
    (case a3 => k_is); (case l3 => k_is); (case c3 => k_is); (case k3 => k_is)
    (case a4 => k_is); (case l4 => k_is); (case c4 => k_is); (case k4 => k_is)
    (case w4 => k_is); (case a5 => k_is); (case l5 => k_is); (case c5 => k_is)
    (case k5 => k_is); (case a6 => k_is); (case l6 => k_is); (case c6 => k_is)
    (case k6 => k_is); (case a7 => k_is); (case l7 => k_is); (case c7 => k_is)
    (case k7 => k_is); (case a8 => k_is); (case l8 => k_is); (case c8 => k_is)
    (case k8 => k_is); (case a9 => k_is); (case l9 => k_is); (case c9 => k_is)
    (case k9 => k_is); (case a10 => k_is); (case l10 => k_is); (case c10 => k_is)
    (case k10 => k_is); (case a11 => k_is); (case l11 => k_is); (case c11 => k_is)
    (case k11 => k_is); (case a12 => k_is); (case l12 => k_is); (case c12 => k_is)
    (case k12 => k_is); (case a13 => k_is); (case l13 => k_is); (case c13 => k_is)
    (case k13 => k_is); (case a14 => k_is); (case l14 => k_is); (case c14 => k_is)
    (case k14 => k_is); (case w14 => k_is); (case a15 => k_is); (case l15 => k_is)
    (case c15 => k_is); (case k15 => k_is); (case a16 => k_is); (case l16 => k_is)
    (case c16 => k_is); (case k16 => k_is); (case a17 => k_is); (case l17 => k_is)
    (case c17 => k_is); (case k17 => k_is); (case a18 => k_is); (case l18 => k_is)
    (case c18 => k_is); (case k18 => k_is); (case a19 => k_is); (case l19 => k_is)
    (case c19 => k_is); (case k19 => k_is); (case a20 => k_is); (case l20 => k_is)
    (case c20 => k_is); (case k20 => k_is); (case a21 => k_is); (case l21 => k_is)
    (case c21 => k_is); (case k21 => k_is); (case a22 => k_is); (case l22 => k_is)
    (case c22 => k_is); (case k22 => k_is); (case a23 => k_is); (case l23 => k_is)
    (case c23 => k_is); (case k23 => k_is); (case a24 => k_is); (case l24 => k_is)
    (case c24 => k_is); (case k24 => k_is); (case a25 => k_is); (case l25 => k_is)
    (case c25 => k_is); (case k25 => k_is); (case a26 => k_is); (case l26 => k_is)
    (case c26 => k_is); (case k26 => k_is); (case a27 => k_is); (case l27 => k_is)
    (case c27 => k_is); (case k27 => k_is); (case a28 => k_is); (case l28 => k_is)
    (case c28 => k_is); (case k28 => k_is); (case kc0 => k_is); (case kc1 => k_is)
    (case kc2 => k_is); (case kc3 => k_is); (case z0 => k_is); (case z1 => k_is)
    (case z2 => k_is); (case z3 => k_is); (case z4 => k_is); (case z5 => k_is)
    (case z6 => k_is); (case z7 => k_is); (case z8 => k_is); (case z9 => k_is)
    (case z10 => k_is); (case z11 => k_is); (case z12 => k_is); (case z13 => k_is)
#print axioms PySem.Challenge.cw_spanrounds_k38_whole_weights_and_rounds_holds
