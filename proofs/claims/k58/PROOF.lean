import PyProof.Rows.All
import Wide.All
import OpenK.AllK
import Wide.FinOn
import PySem.Challenge.RW_askless_k58_promises_told
import HandS.ForMost
import HandS.Flow
import HandS.IsInst
import HandS.ExcValue
import HandS.ExcOwn
import HandS.Wide
import HandS.Steps
import HandS.Codes
import HandS.ExcIs
import PyProof.ReprLen
import HandS.Walk
import HandS.ExcInit
import HandS.ExcField
import KE.KExcIs
import HandS.TupAny
import HandS.Iter
import HandS.Zip
import HandS.Style
import HandS.More
import HandS.WordsDict
import HandS.TryOnly
import HandS.WordsExc
import PyProof.NeKinds
import PyProof.FactsAll.subtypes_4
import KE.DataCmp
set_option Elab.async false
set_option linter.all false
set_option maxRecDepth 100000
/-! GLay: defs that are called where no text of a list is being made (so that repr of a list is told), their rules. -/
namespace GL
open PySem PySem.Spec PyProof.Rows L2

/-- nothing is being shown around -/
abbrev Gd (A : Around) : Prop := A.guards = some []
theorem Gd.deep {A : Around} (g : Gd A) (env : Env) : Gd (A.deeper env) := by
  unfold Gd at *
  simp [Around.deeper, g]

/-- a def's promise, given that nothing is being shown around the call -/
structure FnG (P : Program) (w : World) (K : PySem.W.Frag) (mg : Str → Option Value) (base : Heap)
    (k : Nat) (f : Addr) (fd : FuncData) (ps : List Str) (sp : Sp) : Prop where
  many : ∀ vs H Q E, sp vs H Q E → vs.length = ps.length
  does : ∀ (A : Around) (out : List Env) (s : Shared) (H : Hp) (ar : Args) (us : List Value) (vs : List V) (Q : VK) (E : XK),
    Gd A → Room k A → Env0 P w K mg base A out s H → BindsTo s fd ar (ps.zip us) → Vals vs us →
    sp vs H Q E → codeAny (model P w) A (.call (.ref f) ar) (CR CX0 out P w H s Q E) s
theorem FnG.of {P : Program} {w : World} {K : PySem.W.Frag} {mg : Str → Option Value} {base : Heap} {k : Nat} {f : Addr}
    {fd : FuncData} {ps : List Str} {sp : Sp} (F : FnOk P w K mg base CX0 k f fd ps sp) : FnG P w K mg base k f fd ps sp :=
  ⟨F.len, fun A out s H ar us vs Q E _ hr e b r h => F.run A out s H ar us vs Q E hr e b r h⟩

/-- a def by its body -/
theorem okG {P : Program} {w : World} {K : PySem.W.Frag} {mg : Str → Option Value} {base : Heap} {x qual : Str} {st : Stmt} {f : Addr}
    {fd : FuncData} {N ps : List Str} {k : Nat} {sp : Sp} (F : Fun K x qual st f fd) (S : FnScope N ps (defScope st))
    (many : ∀ vs H Q E, sp vs H Q E → vs.length = ps.length)
    (body : ∀ (cdv : Value) (A : Around) (out : List Env) (s : Shared) (H : Hp) (vs : List V) (Q : VK) (E : XK),
      Gd (A.deeper (envOfC qual (defScope st) s.heap.objs.size f cdv)) →
      Room k (A.deeper (envOfC qual (defScope st) s.heap.objs.size f cdv)) → sp vs H Q E →
      ∃ t, PSs (cxOf CX0 P w K mg base N qual (defScope st) f cdv A out s H E).nox (defBody st) t ∧
        t { nx := fun _ H' => Q .non H', rt := Q } (start N vs) H) :
    FnG P w K mg base (k + 1) f fd ps sp := by
  obtain ⟨oc, od, kV, doc, pm, an, cdv, ct, osl, rfl, lk, hcd⟩ := F.ex
  refine ⟨many, fun A out s H ar us vs Q E hG hr e0 hb r hsp => ?_⟩
  have hlen := many _ _ _ _ hsp
  have inK : K.In s.heap := e0.mod.kin.keeps (fun b o e => (e0.bs b o e).1)
  have lim := (e0.mod.nolimit.keeps (h' := s.heap) (fun b o e => (e0.bs b o e).1))
  have kinds : ∀ y ∈ ps.zip us, (defScope st).names.lookup y.1 = some .local ∨ ((defScope st).names.lookup y.1 = some .cell ∧
      ((cellsFrom (s.heap.objs.size + 1) (defScope st).names []).lookup y.1).isSome = true) := by
    rintro ⟨n, v⟩ hy
    cases S.par n (List.of_mem_zip hy).1 with
    | inl q => exact Or.inl q
    | inr q => exact Or.inr ⟨q, PySem.W.cellsFrom_some _ _ _ (Or.inl q)⟩
  refine codeAny_call_function hr.depth (inK _ _ lk) rfl S.co S.gen rfl
    (PySem.W.codeRec_of inK hcd) (hb _ _ _ _ ?_)
  refine wpAny_newFunctionEnv_cells S.kind kinds (fun env he s1 entered => ?_)
  subst he
  refine ⟨lim.keeps entered.toInCall.keep, codeAny_func ?_⟩
  obtain ⟨t, ht, hq⟩ := body cdv A out s H vs Q E (hG.deep _) (hr.deeper _) hsp
  have I0 := inv_start (E := E) (mg := mg) (P := P) (CX := CX0) S hr.hd e0 hlen r entered
  refine wpAny_mono (ht.nox.run [] s1 (start N vs) H _ I0 hq) (fun fl s' hs => ?_) (fun e s' hs => hs)
  cases fl with
  | next =>
    obtain ⟨σ', H', J, q⟩ := hs
    exact ⟨.non, H', J.os, J.bare, J.base, J.hok, rfl, q⟩
  | ret u =>
    obtain ⟨v, σ', H', J, rv, q⟩ := hs
    exact ⟨v, H', J.os, J.bare, J.base, J.hok, rv, q⟩
  | brk => obtain ⟨_, _, _, q⟩ := hs; exact q.elim
  | cont => obtain ⟨_, _, _, q⟩ := hs; exact q.elim

section
variable {X : Cx} {k : Nat} {f : Addr} {fd : FuncData} {ps : List Str} {sp : Sp} {x : Str} {p pos : Pos} {e : Expr} {es : List Expr} {t : TA}
/-- f(e, ..) where nothing is being shown around -/
theorem pe_callG (F : FnG X.prog X.w X.K X.mg X.base k f fd ps sp) (hG : Gd X.A) (hr : Room k X.A) (hg : Gl X x)
    (hm : X.mg x = some (.ref f)) (hk : PySem.W.keepIn X.K (.ref f) = true) (hb : Binds X.K fd ps [])
    (ha : PA X (e :: es) t) (hdb : (x == ("__debug__" : Str)) = false := by decide)
    (he : starEach (e :: es) X.env = (false, eval e X.env) :: starEach es X.env := by rfl)
    (hpl : (backTo pos (starEach es X.env)).any (·.1) = false := by rfl) :
    PE X (.Call (.Name x p) (e :: es) [] pos) (tCall sp [] E0 t) := by
  constructor
  intro pins s σ H Q I h
  apply wpAny_Call_Name_kw
  apply ld_glob I hg hm ?_ hdb
  apply PySem.W.callWith_K (h₀ := X.base) I.ok.mod.kin hk ?_ he hpl
  apply thn (ha.run pos pins s σ H _ I h)
  rintro us s1 ⟨vs, H1, I1, r, q⟩
  refine ⟨I1.kIn, ?_⟩
  have q' : sp vs H1 Q E0 := by
    have q0 : sp (vs ++ []) H1 Q E0 := q
    rwa [List.append_nil] at q0
  have hl : (us ++ []).length = ps.length := by
    rw [List.append_nil, ← r.length]
    exact F.many _ _ _ _ q'
  have hbd := hb s1 us I1.kIn hl
  rw [List.append_nil] at hbd
  apply wpAny_call
  apply codeAny_mono (F.does X.A X.stack s1 H1 ⟨us, []⟩ us vs Q E0 hG hr I1.env0 hbd r q')
  intro res s' hq
  match res, hq with
  | .ok (.ret u), hq => exact I1.after hq
end

/-- a def of the module that may be called by its name -/
structure Cl (P : Program) (w : World) (K : PySem.W.Frag) (mg : Str → Option Value) (base : Heap) (k : Nat) (x : Str) (sp : Sp) : Prop where
  ex : ∃ (f : Addr) (fd : FuncData) (ps : List Str), FnOk P w K mg base CX0 k f fd ps sp ∧
    mg x = some (.ref f) ∧ PySem.W.keepIn K (.ref f) = true ∧ Binds K fd ps []
structure ClG (P : Program) (w : World) (K : PySem.W.Frag) (mg : Str → Option Value) (base : Heap) (k : Nat) (x : Str) (sp : Sp) : Prop where
  ex : ∃ (f : Addr) (fd : FuncData) (ps : List Str), FnG P w K mg base k f fd ps sp ∧
    mg x = some (.ref f) ∧ PySem.W.keepIn K (.ref f) = true ∧ Binds K fd ps []
section
variable {X : Cx} {j k : Nat} {sp : Sp} {x : Str} {p pos : Pos} {e : Expr} {es : List Expr} {t : TA}
theorem pe_cl (c : Cl X.prog X.w X.K X.mg X.base k x sp) (hr : Room j X.A) (hk : k ≤ j) (hg : Gl X x)
    (ha : PA X (e :: es) t) (hdb : (x == ("__debug__" : Str)) = false := by decide)
    (he : starEach (e :: es) X.env = (false, eval e X.env) :: starEach es X.env := by rfl)
    (hpl : (backTo pos (starEach es X.env)).any (·.1) = false := by rfl) :
    PE X (.Call (.Name x p) (e :: es) [] pos) (tCall sp [] E0 t) := by
  obtain ⟨f, fd, ps, F, hm, kp, b⟩ := c.ex
  exact pe_call F (hr.mono hk) hg hm kp b .nil pass0 ha hdb he hpl
theorem pe_clG (c : ClG X.prog X.w X.K X.mg X.base k x sp) (hG : Gd X.A) (hr : Room j X.A) (hk : k ≤ j) (hg : Gl X x)
    (ha : PA X (e :: es) t) (hdb : (x == ("__debug__" : Str)) = false := by decide)
    (he : starEach (e :: es) X.env = (false, eval e X.env) :: starEach es X.env := by rfl)
    (hpl : (backTo pos (starEach es X.env)).any (·.1) = false := by rfl) :
    PE X (.Call (.Name x p) (e :: es) [] pos) (tCall sp [] E0 t) := by
  obtain ⟨f, fd, ps, F, hm, kp, b⟩ := c.ex
  exact pe_callG F hG (hr.mono hk) hg hm kp b ha hdb he hpl
end

section
variable {X : Cx}
/-- repr of data: none, bools, ints, texts, lists, tuples -/
def rRepr (K : PySem.W.Frag) : List V → Hp → VK → Prop := fun xs H Q => ∃ v d, xs = [v] ∧ Dp K H v d ∧ d.showable = true ∧
  d.hasDict = false ∧ d.depth ≤ 64 ∧ d.shown.length ≤ sizeLine ∧ Q (.str d.shown) H
theorem call_reprD (hG : Gd X.A) (hu : X.A.units + 66 < cLine) : CallR X (.builtin "repr") (rRepr X.K) := by
  intro pins s σ H xs us Q I r h
  obtain ⟨v, d, rfl, hd, hs, hn, hz, hl, q⟩ := h
  obtain ⟨u, rfl, rv⟩ := vals1 r
  obtain ⟨as, rd⟩ := Dp.reads I d v u hd rv
  cases rd with
  | none => exact PySem.P.repr_of_none ⟨.str _, H, I.tok _, ⟨_, rfl⟩, q⟩
  | bool b => exact PySem.P.repr_of_bool ⟨.str _, H, I.tok _, ⟨_, rfl⟩, by cases b <;> exact q⟩
  | int i t => exact PySem.P.repr_of_int (of_decide_eq_true hs) ⟨.str _, H, I.tok _, ⟨_, rfl⟩, q⟩
  | str y t => exact PySem.P.repr_of_str ⟨.str _, H, I.tok _, ⟨_, rfl⟩, q⟩ hl
  | list h1 h2 h3 h4 =>
    exact repr_of_reads' (.list h1 h2 h3 h4) hs (PyData.noDict_hsm hn) hG (by omega) (fun _ _ e => e)
      (fun h' u tk hk => ⟨.str _, H, I.kept hk, ⟨_, rfl⟩, q⟩) hl
  | tuple h1 h2 h3 h4 =>
    exact repr_of_reads' (.tuple h1 h2 h3 h4) hs (PyData.noDict_hsm hn) hG (by omega) (fun _ _ e => e)
      (fun h' u tk hk => ⟨.str _, H, I.kept hk, ⟨_, rfl⟩, q⟩) hl
  | dict h1 h2 h3 h4 h5 => cases hd
end
end GL
set_option Elab.async false
set_option linter.all false
set_option maxRecDepth 100000
/-! GLay2: a few more rules by values, and words about heaps -/
namespace GL
open PySem PySem.Spec PyProof.Rows L2
section
variable {X : Cx}
/-- x op= of a list's item: the item is read -/
theorem get_list : PGet X (fun o i H Q => ∃ p xs k v, o = .ref p ∧ i = .int (k : Nat) ∧ H p = some (.lst xs) ∧ xs[k]? = some v ∧ Q v H) := by
  intro pins s σ H o i ov iv Q I ro ri h
  obtain ⟨p, xs, k, v, rfl, rfl, hp, he, q⟩ := h
  cases ro
  obtain ⟨t, rfl⟩ := ri
  obtain ⟨its, r, pl, hz⟩ := I.list (.inl (.inl hp))
  obtain ⟨w, ew, rw'⟩ := r.get he
  have hk : k < xs.length := (List.getElem?_eq_some_iff.mp he).1
  have h63 := line63
  exact getItem_listL pl.isList (Int.natCast_nonneg k) (by omega) (by simpa using ew) ⟨v, H, I, rw', q⟩
/-- a text a few times -/
theorem op_mul_str : OpR X (binaryOp .Mult) (fun x y H Q => ∃ (z : Str) (n : Int), x = .str z ∧ y = .int n ∧ 0 ≤ n ∧ n ≤ 1000 ∧ z.length ≤ 1000 ∧ Q (.str (Txt.mul z n)) H) := by
  intro pins s σ H x y v u Q I rx ry h
  obtain ⟨z, n, rfl, rfl, h0, h1, hz, q⟩ := h
  obtain ⟨t, rfl⟩ := rx
  obtain ⟨t', rfl⟩ := ry
  have hn : n.toNat ≤ 1000 := by omega
  have hm : z.length * n.toNat ≤ 1000 * 1000 := Nat.mul_le_mul hz hn
  refine SB.mul (n := n) ⟨?_, fun h2 _ => ?_, fun h2 _ => ?_⟩ fun t2 k => ⟨.str (Txt.mul z n), H, I.tok k, ⟨t2, rfl⟩, q⟩
  · rw [decide_eq_false (by omega), decide_eq_false (by omega)]
    rfl
  · have h3 : (2 ^ 63 - 1 : Int) / 1000 ≤ (2 ^ 63 - 1) / n := by
      rcases Int.lt_or_le 0 n with hp | hp
      · rw [Int.le_ediv_iff_mul_le hp]
        have h4 : (2 ^ 63 - 1 : Int) / 1000 * n ≤ (2 ^ 63 - 1 : Int) / 1000 * 1000 := Int.mul_le_mul_of_nonneg_left h1 (by decide)
        have h5 : (2 ^ 63 - 1 : Int) / 1000 * 1000 ≤ 2 ^ 63 - 1 := by decide
        omega
      · omega
    have h6 : (1000 : Int) ≤ (2 ^ 63 - 1 : Int) / 1000 := by decide
    omega
  · have h7 : 1000 * 1000 ≤ sizeLine := by rw [sizeLine_eq]; decide
    unfold Builtin.Str.tooLong
    exact decide_eq_false (by omega)
end

theorem atI_int {α : Type} {xs : List α} {i : Int} {v : α} (h0 : 0 ≤ i) (h : xs[i.toNat]? = some v) : atI xs i = some v := by
  have e := atI_nat h
  rwa [Int.toNat_of_nonneg h0] at e

/-! ### heaps: all but one object stays -/
/-- the heap without b -/
def wo (b : Addr) (H : Hp) : Hp := fun a => if a = b then none else H a
theorem wo_ne {b a : Addr} {H : Hp} (h : a ≠ b) : wo b H a = H a := by unfold wo; rw [if_neg h]
theorem wo_some {b a : Addr} {H : Hp} {o : HO} (h : wo b H a = some o) : a ≠ b ∧ H a = some o := by
  unfold wo at h
  by_cases e : a = b
  · rw [if_pos e] at h; cases h
  · rw [if_neg e] at h; exact ⟨e, h⟩
theorem wo_same {b : Addr} {H : Hp} : Same (wo b H) H := fun _ _ h => (wo_some h).2
/-- all that is tracked in H but b is so in H' -/
def But (b : Addr) (H H' : Hp) : Prop := Same (wo b H) (wo b H')
theorem But.refl {b : Addr} {H : Hp} : But b H H := Same.refl _
theorem But.trans {b : Addr} {H H1 H2 : Hp} (h : But b H H1) (k : But b H1 H2) : But b H H2 := Same.trans h k
theorem But.of {b : Addr} {H H' : Hp} (h : Same H H') : But b H H' := fun a o e => by
  obtain ⟨n, e'⟩ := wo_some e
  rw [wo_ne n]; exact h _ _ e'
theorem But.upd {b : Addr} {H : Hp} {o : HO} : But b H (upd H b o) := fun a u e => by
  obtain ⟨n, e'⟩ := wo_some e
  rw [wo_ne n, upd_ne n]; exact e'
theorem But.new {b p : Addr} {H : Hp} {o : HO} (h : H p = none) : But b H (L2.upd H p o) := But.of fun a u e => by
  rw [upd_ne (ne_of_none e h)]; exact e
theorem But.at {b a : Addr} {H H' : Hp} {o : HO} (h : But b H H') (n : a ≠ b) (e : H a = some o) : H' a = some o := by
  have := h a o (by rw [wo_ne n]; exact e)
  rw [wo_ne n] at this; exact this
theorem same_new {p : Addr} {H : Hp} {o : HO} (h : H p = none) : Same H (upd H p o) := fun a u e => by
  rw [upd_ne (ne_of_none e h)]; exact e
theorem upd_self {a : Addr} {H : Hp} {o : HO} (h : H a = some o) : upd H a o = H := by
  funext b
  by_cases e : b = a
  · rw [e, upd_same, h]
  · rw [upd_ne e]
theorem Same.seqT {K : PySem.W.Frag} {H H' : Hp} {a : Addr} {xs : List V} (e : Same H H') (h : SqT K H a xs) : SqT K H' a xs := by
  rcases h with (h | ⟨o, h⟩) | h
  · exact .inl (.inl (e _ _ h))
  · exact .inl (.inr ⟨o, e _ _ h⟩)
  · exact .inr h
mutual
theorem Dp.same {K : PySem.W.Frag} {H H' : Hp} (e : Same H H') : ∀ {d : PyData} {v : V}, Dp K H v d → Dp K H' v d
  | .none, _, .non => .non
  | .bool _, _, .bl b => .bl b
  | .int _, _, .int i => .int i
  | .str _, _, .str x => .str x
  | .list _, _, .lst h a => .lst (e.seq h) (DpAll.same e a)
  | .tuple _, _, .tup h a => .tup (Same.seqT e h) (DpAll.same e a)
theorem DpAll.same {K : PySem.W.Frag} {H H' : Hp} (e : Same H H') : ∀ {ds : List PyData} {vs : List V}, DpAll K H vs ds → DpAll K H' vs ds
  | [], _, .nil => .nil
  | _ :: _, _, .cons h t => .cons (Dp.same e h) (DpAll.same e t)
end
end GL
set_option Elab.async false
set_option linter.all false
set_option maxRecDepth 100000
/-! GLay3: any values: what a law may be handed -/
namespace GL
open PySem PySem.Spec PyProof.Rows L2

/-- a short text of plain signs -/
def TxOk (x : Str) : Prop := x.length ≤ 10000 ∧ ∀ c ∈ x.cps.toList, c < 128
/-- data whose text may be told -/
structure DOk (d : PyData) : Prop where
  lay : d.canLay0 = true
  short : d.leavesShort 8 = true
  weighs : d.weight ≤ 100000
  deep : d.depth ≤ 60
  shows : d.showable = true
theorem DOk.fits {d : PyData} (h : DOk d) : d.shown.length ≤ sizeLine := by
  have k := PyData.shown_le 8 (by decide) d h.short
  have k2 := h.weighs
  rw [sizeLine_eq]
  omega
theorem DOk.nodict {d : PyData} (h : DOk d) : d.hasDict = false := PyData.hasDict_of_canLay d h.lay
theorem TxOk.size {x : Str} (h : TxOk x) : x.length ≤ sizeLine := by
  have := h.1
  rw [sizeLine_eq]
  omega
theorem TxOk.strOk {x : Str} (h : TxOk x) : PyData.strOk x = true := by
  unfold PyData.strOk
  rw [Array.all_eq_true_iff_forall_mem]
  intro c hc
  have := h.2 c (Array.mem_toList_iff.mpr hc)
  simp
  omega
theorem TxOk.data {x : Str} (h : TxOk x) : DOk (.str x) where
  lay := by simp only [PyData.canLay0]; exact h.strOk
  short := by
    simp only [PyData.leavesShort, List.all_eq_true, decide_eq_true_eq]
    intro c hc
    have := h.2 c hc
    have e : (16 : Nat) ^ 8 = 4294967296 := by decide
    omega
  weighs := by
    have := h.1
    have e : x.length = x.cps.size := rfl
    simp only [PyData.weight]
    omega
  deep := by simp only [PyData.depth]; omega
  shows := by simp only [PyData.showable]

/-- a value that is no exception, in H -/
inductive ThN (K : PySem.W.Frag) (H : Hp) : V → Prop where
  | int (i : Int) (h : i.natAbs < 10 ^ 41) : ThN K H (.int i)
  | str (x : Str) (h : TxOk x) : ThN K H (.str x)
  | bl (b : Bool) : ThN K H (.bl b)
  | non : ThN K H .non
  | lst {a : Addr} {xs : List V} {ds : List PyData} (e : H a = some (.lst xs)) (d : DpAll K H xs ds) (o : DOk (.list ds)) : ThN K H (.ref a)
  | tup {a : Addr} {xs : List V} {ds : List PyData} (e : H a = some (.tup xs)) (d : DpAll K H xs ds) (o : DOk (.tuple ds)) : ThN K H (.ref a)
  | dct {a : Addr} (e : H a = some (.dK [])) : ThN K H (.ref a)
theorem ThN.same {K : PySem.W.Frag} {H H' : Hp} {v : V} (t : ThN K H v) (e : Same H H') : ThN K H' v := by
  cases t with
  | int i h => exact .int i h
  | str x h => exact .str x h
  | bl b => exact .bl b
  | non => exact .non
  | lst h d o => exact .lst (e _ _ h) (DpAll.same e d) o
  | tup h d o => exact .tup (e _ _ h) (DpAll.same e d) o
  | dct h => exact .dct (e _ _ h)
/-- an exception of the class C -/
def ThE (C : Addr) (H : Hp) (v : V) : Prop := ∃ a, v = .ref a ∧ H a = some (ExO (.ref C) a)
def Th (K : PySem.W.Frag) (C : Addr) (H : Hp) (v : V) : Prop := ThN K H v ∨ ThE C H v
theorem Th.same {K : PySem.W.Frag} {C : Addr} {H H' : Hp} {v : V} (t : Th K C H v) (e : Same H H') : Th K C H' v := by
  rcases t with t | ⟨a, rfl, h⟩
  · exact .inl (t.same e)
  · exact .inr ⟨a, rfl, e _ _ h⟩

/-- isinstance of a built-in class that no reference is of -/
inductive Ty3 where
  | i | b | s
def Ty3.name : Ty3 → String
  | .i => "int"
  | .b => "bool"
  | .s => "str"
def isB : Ty3 → V → Bool
  | .i, .int _ => true
  | .i, .bl _ => true
  | .b, .bl _ => true
  | .s, .str _ => true
  | _, _ => false
section
variable {X : Cx}
theorem isi_run {pins : List (Addr × Obj)} {σ : L2.St} {H : Hp} {s : Shared} {v : V} {u : Value} {T : String} {b : Bool} {Q : VK} (t : Value) (I : Inv X pins σ H s) (rx : RelV v u)
    (ty : TyX X.K H v t) (e : PySem.W.kitOne X.K t (.type T) = some b) (q : Q (.bl b) H) :
    wpAny (model X.prog X.w) X.A (call (.builtin "isinstance") [u, .type T]) (EP X pins σ Q) X.xe s := by
  obtain ⟨Z, k, p, hx⟩ := kit_of I rx ty
  exact PySem.W.kia_one k I.kIn p e hx fun tk => ⟨.bl b, H, I.tok tk, rfl, q⟩
theorem exc_inst {pins : List (Addr × Obj)} {σ : L2.St} {H : Hp} {s : Shared} {C a : Addr} (I : Inv X pins σ H s) (h : H a = some (ExO (.ref C) a)) :
    ∃ oe, PySem.W.InstAt s.heap a oe C none := by
  obtain ⟨⟨oe, vs, ho, hz, hd, _⟩, _, _⟩ := I.hok a _ h
  obtain ⟨oc, od, oda, osl⟩ := oe
  obtain ⟨h1, h2⟩ := hz
  dsimp only at h1 h2 hd
  subst h1 h2 hd
  exact ⟨_, ho, rfl, rfl, trivial⟩
/-- the answers for the exceptions of the class C -/
structure ExcK (K : PySem.W.Frag) (C : Addr) : Prop where
  c : ExcC K C
  i : PySem.W.kitOne K (.ref C) (.type "int") = some false
  b : PySem.W.kitOne K (.ref C) (.type "bool") = some false
  s : PySem.W.kitOne K (.ref C) (.type "str") = some false
  own : PySem.W.kitOne K (.ref C) (.ref C) = some true
  int : PySem.W.kitOne K (.type "int") (.ref C) = some false
  bool : PySem.W.kitOne K (.type "bool") (.ref C) = some false
  str : PySem.W.kitOne K (.type "str") (.ref C) = some false
  non : PySem.W.kitOne K (.type "NoneType") (.ref C) = some false
  lst : PySem.W.kitOne K (.type "list") (.ref C) = some false
  tup : PySem.W.kitOne K (.type "tuple") (.ref C) = some false
  dct : PySem.W.kitOne K (.type "dict") (.ref C) = some false
theorem isi_exc {pins : List (Addr × Obj)} {σ : L2.St} {H : Hp} {s : Shared} {C a : Addr} {c : Value} {b : Bool} {Q : VK} (E : ExcC X.K C) (I : Inv X pins σ H s) (h : H a = some (ExO (.ref C) a))
    (e : PySem.W.kitOne X.K (.ref C) c = some b) (q : Q (.bl b) H) :
    wpAny (model X.prog X.w) X.A (call (.builtin "isinstance") [.ref a, c]) (EP X pins σ Q) X.xe s := by
  obtain ⟨oe, J⟩ := exc_inst I h
  exact PySem.W.kia_one (PySem.W.handS_kitx_exc E.hg E.hk E.hs E.hd E.ha E.hn E.ht E.hm) I.kIn J e (fun z => nomatch z)
    fun tk => ⟨.bl b, H, I.tok tk, rfl, q⟩
theorem call_isiTh {C : Addr} (EK : ExcK X.K C) : CallR X (.builtin "isinstance") (fun xs H Q => ∃ v T, xs = [v, .ty T.name] ∧ Th X.K C H v ∧ Q (.bl (isB T v)) H) := by
  intro pins s σ H xs us Q I r h
  obtain ⟨v, T, rfl, t, q⟩ := h
  obtain ⟨u, u2, rfl, rv, r2⟩ := vals2 r
  cases (show u2 = Value.type T.name from r2)
  have go : ∀ (t : String) (b : Bool), TyX X.K H v (.type t) → kitB t T.name = some b → isB T v = b →
      wpAny (model X.prog X.w) X.A (call (.builtin "isinstance") [u, .type T.name]) (EP X pins σ Q) X.xe s :=
    fun t b ty e eb => isi_run _ I rv ty (kit_ty e) (eb ▸ q)
  rcases t with t | ⟨a, rfl, h⟩
  · cases t with
    | int i h =>
      cases T
      · exact go "int" true (.base (.int i)) (by decide +kernel) rfl
      · exact go "int" false (.base (.int i)) (by decide +kernel) rfl
      · exact go "int" false (.base (.int i)) (by decide +kernel) rfl
    | str x h =>
      cases T
      · exact go "str" false (.base (.str x)) (by decide +kernel) rfl
      · exact go "str" false (.base (.str x)) (by decide +kernel) rfl
      · exact go "str" true (.base (.str x)) (by decide +kernel) rfl
    | bl b =>
      cases T
      · exact go "bool" true (.base (.bl b)) (by decide +kernel) rfl
      · exact go "bool" true (.base (.bl b)) (by decide +kernel) rfl
      · exact go "bool" false (.base (.bl b)) (by decide +kernel) rfl
    | non => cases T <;> exact go "NoneType" false (.base .non) (by decide +kernel) rfl
    | lst e d o => cases T <;> exact go "list" false (.base (.lst e)) (by decide +kernel) rfl
    | tup e d o => cases T <;> exact go "tuple" false (.base (.tup e)) (by decide +kernel) rfl
    | dct e => cases T <;> exact go "dict" false (.base (.dK e)) (by decide +kernel) rfl
  · cases (show u = Value.ref a from rv)
    cases T
    · exact isi_exc EK.c I h EK.i q
    · exact isi_exc EK.c I h EK.b q
    · exact isi_exc EK.c I h EK.s q
/-- isinstance(x, C), C the class of exceptions -/
theorem call_isiC {C : Addr} (EK : ExcK X.K C) : CallR X (.builtin "isinstance") (fun xs H Q => ∃ v, xs = [v, .ref C] ∧ ((ThN X.K H v ∧ Q (.bl false) H) ∨ (ThE C H v ∧ Q (.bl true) H))) := by
  intro pins s σ H xs us Q I r h
  obtain ⟨v, rfl, h⟩ := h
  obtain ⟨u, u2, rfl, rv, r2⟩ := vals2 r
  cases (show u2 = Value.ref C from r2)
  have go : ∀ {t : Value}, TyX X.K H v t → PySem.W.kitOne X.K t (.ref C) = some false → Q (.bl false) H →
      wpAny (model X.prog X.w) X.A (call (.builtin "isinstance") [u, .ref C]) (EP X pins σ Q) X.xe s := by
    intro t ty e q
    obtain ⟨Z, k, p, hx⟩ := kit_of I rv ty
    exact PySem.W.kia_one k I.kIn p e hx fun tk => ⟨.bl false, H, I.tok tk, rfl, q⟩
  rcases h with ⟨t, q⟩ | ⟨⟨a, rfl, h⟩, q⟩
  · cases t with
    | int i h => exact go (.base (.int i)) EK.int q
    | str x h => exact go (.base (.str x)) EK.str q
    | bl b => exact go (.base (.bl b)) EK.bool q
    | non => exact go (.base .non) EK.non q
    | lst e d o => exact go (.base (.lst e)) EK.lst q
    | tup e d o => exact go (.base (.tup e)) EK.tup q
    | dct e => exact go (.base (.dK e)) EK.dct q
  · cases (show u = Value.ref a from rv)
    exact isi_exc EK.c I h EK.own q

/-- the data that v is in H -/
inductive Is (K : PySem.W.Frag) (H : Hp) : V → PyData → Prop where
  | dp {v : V} {d : PyData} (h : Dp K H v d) (o : d.hasDict = false) (s : d.showable = true) (z : d.depth ≤ 60) (l : d.shown.length ≤ sizeLine) : Is K H v d
  | dct {a : Addr} (h : H a = some (.dK [])) : Is K H (.ref a) (.dict [])
theorem ThN.is {K : PySem.W.Frag} {H : Hp} {v : V} (t : ThN K H v) : ∃ d, Is K H v d := by
  cases t with
  | int i h =>
    refine ⟨_, .dp (.int i) rfl (decide_eq_true ?_) (by simp only [PyData.depth]; omega) ?_⟩
    · exact PySem.Flt.log2_lt_of (by decide) (Nat.lt_trans h (by decide))
    · have e := int_text_length_le10 (k := 41) (by decide) h
      show (Str.ofString (toString i)).length ≤ sizeLine
      rw [PyProof.Rows.ofString_length, sizeLine_eq]
      have e2 : (toString i).toList.length ≤ 42 := e
      omega
  | str x h => exact ⟨_, .dp (.str x) rfl rfl (by simp only [PyData.depth]; omega) h.data.fits⟩
  | bl b => exact ⟨_, .dp (.bl b) rfl rfl (by simp only [PyData.depth]; omega) (by rw [sizeLine_eq]; cases b <;> decide)⟩
  | non => exact ⟨_, .dp .non rfl rfl (by simp only [PyData.depth]; omega) (by rw [sizeLine_eq]; decide)⟩
  | lst e d o => exact ⟨_, .dp (.lst (.inl (.inl e)) d) o.nodict o.shows o.deep o.fits⟩
  | tup e d o => exact ⟨_, .dp (.tup (.inl (.inl e)) d) o.nodict o.shows o.deep o.fits⟩
  | dct e => exact ⟨_, .dct e⟩
theorem Is.same {K : PySem.W.Frag} {H H' : Hp} {v : V} {d : PyData} (t : Is K H v d) (e : Same H H') : Is K H' v d := by
  cases t with
  | dp h o s z l => exact .dp (Dp.same e h) o s z l
  | dct h => exact .dct (e _ _ h)
theorem call_reprQ (hG : Gd X.A) (hu : X.A.units + 66 < cLine) : CallR X (.builtin "repr") (fun xs H Q => ∃ v d, xs = [v] ∧ Is X.K H v d ∧ Q (.str d.shown) H) := by
  intro pins s σ H xs us Q I r h
  obtain ⟨v, d, rfl, hd, q⟩ := h
  cases hd with
  | dp h o sh z l => exact call_reprD hG hu pins s σ H [v] us Q I r ⟨v, d, rfl, h, sh, o, by omega, l, q⟩
  | @dct a h =>
    obtain ⟨u, rfl, rv⟩ := vals1 r
    cases (show u = Value.ref a from rv)
    obtain ⟨_, hsm, vs, kv, ob, es, ep, h1, h2, h3, h4⟩ := (show ObjOk X.prog X.w H s.heap a (.dK []) from I.hok a _ h)
    have e0 : vs = [] := by
      cases kv
      rfl
    subst e0
    have e1 : es.toList = [] := by
      obtain ⟨l, el⟩ : ∃ l, es.toList = l := ⟨_, rfl⟩
      have p := h4.2.1
      rw [el] at p
      cases p
      exact el
    obtain ⟨as, bs, hr⟩ : ∃ as bs, Reads s.heap (.ref a) (.dict []) (a :: as ++ bs) ∧ as = [] ∧ bs = [] :=
      ⟨[], [], .dict h1 h2.1 h3 (by rw [e1]; exact .nil) (by rw [e1]; exact .nil), rfl, rfl⟩
    obtain ⟨rd, rfl, rfl⟩ := hr
    refine repr_of_reads' rd rfl (fun _ hm => ?_) hG (by simp only [PyData.depth, PyData.depthKv]; omega) (fun _ _ e => e)
      (fun h' u tk hk => ⟨.str _, H, I.kept hk, ⟨_, rfl⟩, q⟩) (by rw [sizeLine_eq]; decide +kernel)
    rcases List.mem_cons.mp hm with e | e
    · rw [← e] at hsm
      simp at hsm
    · cases e
end
end GL
set_option Elab.async false
set_option linter.all false
set_option maxRecDepth 100000
/-! GLay4: comprehensions that change nothing -/
namespace GL
open PySem PySem.Spec PyProof.Rows L2
theorem lc_pure {α : Type} {J : It} {G : Hp → Prop} {Y : Nat → Hp → V → Hp → Prop} {as : List α} {emb : α → V} (w : Walk J as.length G Y)
    (hY : ∀ i H x H', Y i H x H' → H' = H ∧ ∃ a, as[i]? = some a ∧ x = emb a)
    {g : TG} {tt : TT} {te : TE} {vs : List Nat} {σ : L2.St} {H1 : Hp} {D : Addr} {Qd : Hp → Prop} (hG : ∀ l, G (upd H1 D (.lst l))) (hn : as.length < sizeLine) (p : α → Bool) (f : α → V)
    (hs : ∀ a, a ∈ as → ∀ (l : List V) (R : VK) (S : Hp → Prop), (p a = true → R (f a) (upd H1 D (.lst l))) → (p a = false → S (upd H1 D (.lst l))) →
      g (emb a) (wipe σ vs) (upd H1 D (.lst l)) fun σ2 H2 => wipe σ2 vs = wipe σ vs ∧ tt σ2 H2 fun b H3 => if b = true then te σ2 H3 R else S H3)
    (hd : Qd (upd H1 D (.lst ((as.filter p).map f)))) :
    ∃ W : Nat → Nat → Hp → Prop, (∃ m, W 0 m (upd H1 D (.lst []))) ∧ ∀ i m H, W i m H →
      (J.stop i H ∧ Qd H) ∨ (J.go i H ∧ ∃ Nx : Hp → Prop, (∀ H', Nx H' → ∃ m', m' < m ∧ W (i + 1) m' H') ∧ ∀ x H', J.yld i H x H' → g x (wipe σ vs) H' fun σ2 H2 => wipe σ2 vs = wipe σ vs ∧ tt σ2 H2 fun b H3 =>
        if b = true then te σ2 H3 fun y H4 => ∃ acc, H4 D = some (.lst acc) ∧ acc.length < sizeLine ∧ Nx (upd H4 D (.lst (acc ++ [y]))) else Nx H3) := by
  refine lc_it w (fun i H => H = upd H1 D (.lst (((as.take i).filter p).map f))) rfl (fun i H _ h => by subst h; exact hG _) (fun i x H H' hi h y => ?_) (fun H h => ?_)
  · subst h
    obtain ⟨rfl, a, ha, rfl⟩ := hY _ _ _ _ y
    have hm : a ∈ as := List.mem_of_getElem? ha
    have et : as.take (i + 1) = as.take i ++ [a] := by rw [List.take_add_one, ha]; rfl
    refine hs a hm _ _ _ (fun hp => ?_) (fun hp => ?_)
    · refine ⟨_, upd_same, ?_, ?_⟩
      · rw [List.length_map]
        exact Nat.lt_of_le_of_lt (Nat.le_trans (List.length_filter_le _ _) (List.length_take_le _ _)) (Nat.lt_of_le_of_lt (Nat.le_of_lt hi) hn)
      · rw [upd_upd, et, List.filter_append, List.map_append]
        simp [hp]
    · rw [et, List.filter_append, List.map_append]
      simp [hp]
  · rw [List.take_length] at h
    subst h
    exact hd
theorem walk_signs {z : Str} : Walk (Its z) z.cps.toList.length (fun _ => True) (fun i H v H' => H' = H ∧ ∃ c, z.cps[i]? = some c ∧ v = .str ⟨#[c]⟩) := by
  have h : z.cps.toList.length = z.cps.size := by simp
  rw [h]
  exact walk_str
theorem signs_y {z : Str} (i : Nat) (H : Hp) (x : V) (H' : Hp) (h : H' = H ∧ ∃ c, z.cps[i]? = some c ∧ x = .str ⟨#[c]⟩) : H' = H ∧ ∃ c, z.cps.toList[i]? = some c ∧ x = (fun c => V.str ⟨#[c]⟩) c := by
  obtain ⟨e, c, h1, h2⟩ := h
  exact ⟨e, c, by simpa using h1, h2⟩
theorem list_y {xs : List V} (i : Nat) (H : Hp) (x : V) (H' : Hp) (h : YAt xs i H x H') : H' = H ∧ ∃ c, xs[i]? = some c ∧ x = id c := ⟨h.1, x, h.2, rfl⟩
theorem Dp.strs {K : PySem.W.Frag} {H : Hp} : ∀ cs : List Str, DpAll K H (cs.map V.str) (cs.map PyData.str)
  | [] => .nil
  | c :: r => .cons (.str c) (Dp.strs r)
theorem Dp.bools {K : PySem.W.Frag} {H : Hp} : ∀ cs : List Bool, DpAll K H (cs.map V.bl) (cs.map PyData.bool)
  | [] => .nil
  | c :: r => .cons (.bl c) (Dp.bools r)
section
variable {X : Cx} {p : Pos}
theorem pe_tInt (hm : X.mg "int" = none) (hg : Gl X "int" := by rfl) : PE X (.Name "int" p) (tC (.ty Ty3.i.name)) :=
  pe_bltn (u := .type "int") hg hm (by decide +kernel) (show RelV (.ty "int") (.type "int") from rfl)
theorem pe_tBool (hm : X.mg "bool" = none) (hg : Gl X "bool" := by rfl) : PE X (.Name "bool" p) (tC (.ty Ty3.b.name)) :=
  pe_bltn (u := .type "bool") hg hm (by decide +kernel) (show RelV (.ty "bool") (.type "bool") from rfl)
theorem pe_tStr (hm : X.mg "str" = none) (hg : Gl X "str" := by rfl) : PE X (.Name "str" p) (tC (.ty Ty3.s.name)) :=
  pe_bltn (u := .type "str") hg hm (by decide +kernel) (show RelV (.ty "str") (.type "str") from rfl)
end
end GL
set_option Elab.async false
set_option linter.all false
set_option maxRecDepth 100000
/-! GLay5: texts of plain signs, by their greatest length -/
namespace GL
open PySem PySem.Spec PyProof.Rows L2
/-- what is new in H' -/
def fr (H H' : Hp) : Hp := fun a => match H a with
  | none => H' a
  | some _ => none
theorem fr_at {H H' : Hp} {a : Addr} {o : HO} (h : H a = none) (k : H' a = some o) : fr H H' a = some o := by
  unfold fr
  rw [h]
  exact k
theorem fr_some {H H' : Hp} {a : Addr} {o : HO} (h : fr H H' a = some o) : H a = none ∧ H' a = some o := by
  unfold fr at h
  cases e : H a with
  | none => rw [e] at h; exact ⟨rfl, h⟩
  | some u => rw [e] at h; cases h
theorem fr_same {H H' : Hp} : Same (fr H H') H' := fun _ _ h => (fr_some h).2
theorem fr_but {b : Addr} {H0 H H' : Hp} (hb : H0 b ≠ none) (h : But b H H') : Same (fr H0 H) (fr H0 H') := fun a o e => by
  obtain ⟨e1, e2⟩ := fr_some e
  have n : a ≠ b := fun z => hb (z ▸ e1)
  exact fr_at e1 (h.at n e2)
theorem fr_grow {H0 H H' : Hp} (h : Same H H') : Same (fr H0 H) (fr H0 H') := fun a o e => by
  obtain ⟨e1, e2⟩ := fr_some e
  exact fr_at e1 (h _ _ e2)
theorem fr_less {H0 H H' : Hp} (h : ∀ a, H a = none → H0 a = none) : Same (fr H H') (fr H0 H') := fun a o e => by
  obtain ⟨e1, e2⟩ := fr_some e
  exact fr_at (h a e1) e2
theorem But.none_back {b a : Addr} {H H' : Hp} (h : But b H H') (n : a ≠ b) (e : H' a = none) : H a = none := by
  cases k : H a with
  | none => rfl
  | some o =>
    have := h.at n k
    rw [e] at this
    cases this
theorem Same.none_back {a : Addr} {H H' : Hp} (h : Same H H') (e : H' a = none) : H a = none := by
  cases k : H a with
  | none => rfl
  | some o =>
    have := h _ _ k
    rw [e] at this
    cases this
/-- at most n signs, all plain -/
def TxB (n : Nat) (x : Str) : Prop := x.length ≤ n ∧ ∀ c ∈ x.cps.toList, c < 128
theorem TxB.ok {n : Nat} {x : Str} (h : TxB n x) (hn : n ≤ 10000) : TxOk x := ⟨Nat.le_trans h.1 hn, h.2⟩
theorem TxB.mono {n m : Nat} {x : Str} (h : TxB n x) (hn : n ≤ m) : TxB m x := ⟨Nat.le_trans h.1 hn, h.2⟩
theorem TxB.size {n : Nat} {x : Str} (h : TxB n x) (hn : n ≤ 10000) : x.length ≤ sizeLine := (h.ok hn).size
theorem TxB.add {n m : Nat} {x y : Str} (h : TxB n x) (k : TxB m y) : TxB (n + m) (x ++ y) := by
  refine ⟨?_, fun c hc => ?_⟩
  · rw [Str.length_append]
    have := h.1
    have := k.1
    omega
  · have e : (x ++ y).cps.toList = x.cps.toList ++ y.cps.toList := by
      show (x.cps ++ y.cps).toList = _
      rw [Array.toList_append]
    rw [e] at hc
    rcases List.mem_append.mp hc with z | z
    · exact h.2 c z
    · exact k.2 c z
theorem TxB.cut {n : Nat} {x : Str} (h : TxB n x) (lo hi : Option Int) : TxB n (cutS x lo hi) := by
  refine ⟨Nat.le_trans (cutS_length x lo hi) h.1, fun c hc => h.2 c ?_⟩
  have hc' : c ∈ ((x.cps.toList.drop (HT.sIx x.length 0 lo)).take (HT.sIx x.length x.length hi - HT.sIx x.length 0 lo)) := by simpa [cutS] using hc
  exact List.mem_of_mem_drop (List.mem_of_mem_take hc')
theorem TxB.one {c : Nat} (h : c < 128) : TxB 1 ⟨#[c]⟩ := ⟨Nat.le_refl _, fun d hd => by
  have e : d = c := by simpa using hd
  rw [e]
  exact h⟩
theorem TxB.at {n : Nat} {x : Str} (h : TxB n x) {i : Int} {c : Nat} (e : atI x.cps.toList i = some c) : TxB 1 ⟨#[c]⟩ := by
  refine .one (h.2 c ?_)
  unfold atI at e
  cases k : ixN x.cps.toList.length i with
  | none => rw [k] at e; cases e
  | some j =>
    rw [k] at e
    exact List.mem_of_getElem? e
theorem reps_len (x : Array Nat) : ∀ (k : Nat) (acc : Array Nat), ((List.replicate k x).foldl (· ++ ·) acc).size = acc.size + k * x.size
  | 0, acc => by simp
  | k + 1, acc => by
    rw [List.replicate_succ, List.foldl_cons, reps_len x k, Array.size_append, Nat.succ_mul]
    omega
theorem reps_mem (x : Array Nat) : ∀ (k : Nat) (acc : Array Nat) (c : Nat), c ∈ ((List.replicate k x).foldl (· ++ ·) acc).toList → c ∈ acc.toList ∨ c ∈ x.toList
  | 0, acc, c, h => .inl h
  | k + 1, acc, c, h => by
    rw [List.replicate_succ, List.foldl_cons] at h
    rcases reps_mem x k (acc ++ x) c h with z | z
    · rw [Array.toList_append] at z
      exact List.mem_append.mp z
    · exact .inr z
theorem TxB.mul {n m : Nat} {x : Str} (h : TxB n x) {k : Int} (hk : k ≤ m) (hm : 1 ≤ m) : TxB (n * m) (Txt.mul x k) := by
  have h1 := h.1
  unfold Txt.mul
  by_cases k1 : k < 1
  · rw [if_pos k1]
    exact ⟨Nat.zero_le _, fun c hc => nomatch hc⟩
  · rw [if_neg k1]
    by_cases k2 : (k == 1 || x.length == 0) = true
    · rw [if_pos k2]
      exact h.mono (Nat.le_mul_of_pos_right _ hm)
    · rw [if_neg k2]
      refine ⟨?_, fun c hc => ?_⟩
      · show ((List.replicate k.toNat x.cps).foldl (· ++ ·) #[]).size ≤ n * m
        rw [reps_len]
        have e : x.cps.size ≤ n := h1
        have e2 : k.toNat * x.cps.size ≤ m * n := Nat.mul_le_mul (by omega) e
        rw [Nat.mul_comm m n] at e2
        simpa using e2
      · rcases reps_mem x.cps k.toNat #[] c hc with z | z
        · cases z
        · exact h.2 c z
theorem TxB.glue {n : Nat} : ∀ {ys : List Str}, (∀ y ∈ ys, TxB n y) → TxB (n * ys.length) (Txt.join Str.empty ys)
  | [], _ => by
    show TxB _ (Builtin.Str.glued Str.empty [])
    rw [StrLaws.glued_eq_join]
    exact ⟨Nat.zero_le _, fun c hc => nomatch hc⟩
  | [y], h => by
    show TxB _ (Builtin.Str.glued Str.empty [y])
    rw [StrLaws.glued_eq_join]
    exact (h y List.mem_cons_self).mono (by simp)
  | y :: z :: r, h => by
    have k := TxB.glue (ys := z :: r) fun u hu => h u (List.mem_cons_of_mem _ hu)
    have k' : TxB (n * (z :: r).length) (Str.join Str.empty (z :: r)) := by
      have e : Txt.join Str.empty (z :: r) = Str.join Str.empty (z :: r) := StrLaws.glued_eq_join _ _
      rw [← e]
      exact k
    show TxB _ (Builtin.Str.glued Str.empty (y :: z :: r))
    rw [StrLaws.glued_eq_join]
    show TxB _ (y ++ Str.empty ++ Str.join Str.empty (z :: r))
    have e0 : TxB 0 Str.empty := ⟨Nat.le_refl _, fun c hc => nomatch hc⟩
    refine (((h y List.mem_cons_self).add e0).add k').mono ?_
    rw [List.length_cons (a := y), Nat.mul_succ]
    omega
end GL
set_option Elab.async false
set_option linter.all false
set_option maxRecDepth 100000
/-! GLay6: the end of a law whose def is promised where nothing is being shown -/
namespace GL
open PySem PySem.Spec PyProof.Rows L2
/-- the law called by nobody but the claim: from its promise -/
theorem law_callG {P : Program} {w : World} {K : PySem.W.Frag} {mg mb : Str → Option Value} {k : Nat} {fa a : Addr} {fd : FuncData} {x : Str} {sp : Sp} {s1 : Shared} {vs : List Value} {ns : List Int}
    (inK : K.In s1.heap) (gl : s1.heap.Ns mainGlobals mg) (bl : s1.heap.Ns builtinsNs mb) (bb : ∀ x : Str, x ≠ "__name__" → mb x = bootBuiltins x) (lim : s1.heap.NoLimit) (gens : s1.gens = #[])
    (ha : s1.heap.get? a = some { cls := .type "list", data := .seq vs.toArray }) (hin : IntsAre vs ns) (short : ns.length ≤ sizeLine) (room : Room k callerA)
    (F : ∀ base : Heap, K.In base → base.Ns mainGlobals mg → FnG P w K mg base k fa fd [x] sp) (binds : ∀ (s : Shared) (u : Value), BindsTo s fd ⟨[u], []⟩ [(x, u)])
    (says : ∀ H : Hp, Only H → SqL K H a (ns.map V.int) → sp [.ref a] H (fun v _ => v = .bl true) (fun _ _ _ => False)) :
    codeAny (model P w) callerA (.call (.ref fa) ⟨[.ref a], []⟩)
      (fun r s' => r = .ok (.ret (.bool true)) ∧ OldK s1.heap s'.heap ∧ s'.os = s1.os ∧ AllBare s'.gens) s1 := by
  have rv := vals_ints hin
  have nv := hin.length
  have main : ∀ H : Hp, Only H → SqL K H a (ns.map V.int) → HOk P w H s1.heap → (∀ b, H b ≠ none → b = a) → (H a ≠ none → K.lookup a = none) →
      codeAny (model P w) callerA (.call (.ref fa) ⟨[.ref a], []⟩)
        (fun r s' => r = .ok (.ret (.bool true)) ∧ OldK s1.heap s'.heap ∧ s'.os = s1.os ∧ AllBare s'.gens) s1 := by
    intro H only hS ok atA notK
    have keep : ∀ {b : Addr} {o : Obj}, s1.heap.get? b = some o → H b = none → (hidT s1.heap H).get? b = some o := fun e n => hidT_get e n
    have untracked : ∀ {b : Addr} {o : Obj} {es : Array DictEntry} {ep : Nat}, s1.heap.get? b = some o → o.data = .dict es ep → H b = none := by
      intro b o es ep e d
      cases q : H b with
      | none => rfl
      | some u =>
        obtain rfl : b = a := atA b (by simp [q])
        cases ha.symm.trans e
        cases d
    have nsp : ∀ {b : Addr} {m : Str → Option Value}, s1.heap.Ns b m → (hidT s1.heap H).Ns b m := by
      rintro b m ⟨o, es, ep, e, d, r⟩
      exact ⟨o, es, ep, keep e (untracked e d), d, r⟩
    have inB : K.In (hidT s1.heap H) := by
      intro b o e
      refine keep (inK b o e) ?_
      cases q : H b with
      | none => rfl
      | some u =>
        obtain rfl : b = a := atA b (by simp [q])
        have z := notK (by simp [q])
        rw [z] at e
        cases e
    have mod : Mod K mg (hidT s1.heap H) := ⟨inB, nsp gl, ⟨mb, nsp bl, bb⟩, by obtain ⟨mc, h1, h2⟩ := lim; exact ⟨mc, nsp h1, h2⟩⟩
    have e0 : Env0 P w K mg (hidT s1.heap H) callerA [] s1 H :=
      ⟨rfl, mod, fun b o e => of_hidT e, by rw [hidT_size]; exact Nat.le_refl _, trivial, fun b hb => (by cases hb), ok, .of_eq gens⟩
    have run := (F _ inB (nsp gl)).does callerA [] s1 H ⟨[.ref a], []⟩ [.ref a] [.ref a] _ _ rfl room e0 (binds s1 (.ref a)) (.cons rfl .nil) (says H only hS)
    refine codeAny_mono run fun r s' h => ?_
    match r, h with
    | .ok (.ret u), ⟨v, H', os, bare, un, ok', r', q⟩ =>
      obtain rfl : v = .bl true := q
      obtain rfl : u = Value.bool true := r'
      refine ⟨rfl, OldK.of_keep (fun b o e => ?_), os, bare⟩
      cases q : H b with
      | none => exact un.keep b o e q (fun z => by cases z) (fun z => by cases z)
      | some u =>
        rcases only b with z | ⟨ob, xs, z⟩
        · rw [q] at z; cases z
        · obtain ⟨e1, _⟩ := ok b _ z
          obtain ⟨e2, _⟩ := ok' b _ (un.frzs b ob _ z)
          cases e.symm.trans e1
          exact e2
  cases hk : K.lookup a with
  | some o =>
    cases ha.symm.trans (inK a o hk)
    refine main (fun _ => none) (fun _ => Or.inl rfl) (Or.inr ⟨_, vs.toArray, _, hk, rfl, rfl, rfl, ?_, by simpa using rv⟩)
      (fun b u z => (by cases z)) (fun b z => absurd rfl z) (fun z => absurd rfl z)
    rw [List.size_toArray, nv]
    exact short
  | none =>
    let frozen : HO := .frz { cls := .type "list", data := .seq vs.toArray } (.lst (ns.map V.int))
    refine main (fun b => if b = a then some frozen else none) (fun b => ?_) (Or.inl (Or.inr ⟨_, if_pos rfl⟩)) (fun b u z => ?_) (fun b z => ?_) (fun _ => hk)
    · by_cases e : b = a
      · exact Or.inr ⟨_, _, if_pos e⟩
      · exact Or.inl (if_neg e)
    · by_cases e : b = a
      · have zz : some frozen = some u := (if_pos e).symm.trans z
        cases zz
        subst e
        exact ⟨ha, by rw [List.length_map]; exact short, vs, _, rv, ha⟩
      · cases (if_neg e).symm.trans z
    · by_cases e : b = a
      · exact e
      · exact absurd (if_neg e) z
theorem walkG {l : PySem.W.OpenLaw} {n k : Nat} {q : Program} {loose : List Str} {XP : (Str → Option Value) → Heap → Prop} {YP : World → Heap → Prop} {d : DefRec} {K : Params → PySem.W.Frag} {sp : World → Sp} {x : Str}
    (hn : l.most = some n) (hn2 : n ≤ sizeLine) (hdf : d.params.defaults = []) (room : Room k callerA)
    (hY : ∀ (w : World) (h : Heap), YP w h → (K w.params).In h)
    (F : ∀ (w : World) (mg : Str → Option Value) (fa : Addr) (h : Heap), (K w.params).In h → h.Ns mainGlobals mg → mg d.name = some (.ref fa) →
      ∃ fd : FuncData, (∀ (s : Shared) (u : Value), BindsTo s fd ⟨[u], []⟩ [(x, u)]) ∧
        ∀ base : Heap, (K w.params).In base → base.Ns mainGlobals mg → FnG l.prog w (K w.params) mg base k fa fd [x] (sp w))
    (says : ∀ (w : World) (H : Hp) (a : Addr) (ns : List Int), ns.length ≤ n → Only H → SqL (K w.params) H a (ns.map V.int) → sp w [.ref a] H (fun v _ => v = .bl true) (fun _ _ _ => False)) :
    PySem.W.WalkO q loose XP YP l.row.toRowW d [] (fun f vs => PySem.call f vs) := by
  refine Att.attach_call hn hdf ?_
  intro w s0 s1 mg mb fa o pm cd doc a vs ns G Y ho hd hcd hmg hobj hints hlen hg
  have inK := hY w _ Y
  obtain ⟨fd, hb, hF⟩ := F w mg fa _ inK G.T.g hmg
  exact law_callG inK G.T.g G.T.b G.T.builtins G.T.nolimit hg hobj hints (Nat.le_trans hlen hn2) room hF hb (fun H hO hS => says w H a ns hlen hO hS)
end GL
set_option Elab.async false
set_option linter.all false
set_option maxRecDepth 100000
set_option maxHeartbeats 2000000
/-! GLay7: exceptions of own classes with their own __init__, as values -/
namespace GL
open PySem PySem.Spec PyProof.Rows L2
/-- at a an exception of the class at C with such fields -/
def Err (H : Hp) (a C : Addr) (fs : List (Str × V)) : Prop :=
  (fs = [] ∧ H a = some (exo a C none)) ∨
    ∃ (dx : Addr) (gs : List (Str × V)), H a = some (exo a C (some dx)) ∧ H dx = some (exd dx gs) ∧ ∀ p ∈ fs, gs.lookup p.1 = some p.2
theorem Err.same {H H' : Hp} {a C : Addr} {fs : List (Str × V)} (h : Err H a C fs) (e : Same H H') : Err H' a C fs := by
  rcases h with ⟨h1, h2⟩ | ⟨dx, gs, h1, h2, h3⟩
  · exact .inl ⟨h1, e _ _ h2⟩
  · exact .inr ⟨dx, gs, e _ _ h1, e _ _ h2, h3⟩
section
variable {X : Cx} {o e : Expr} {es : List Expr} {to te : TE} {ta : TA} {f : Str} {p p' p1 p2 pos : Pos}
/-- C(e, ..): a new exception, from the promise of its __init__ -/
theorem pe_oexV {x : Str} {C fI : Addr} {k : Nat} {fd : FuncData} {ps : List Str} {sp : Sp} (T : OexC X.K C) (iC : PySem.W.findIn X.K (.ref C) "__init__" = some (some (.ref fI))) (tI : PySem.W.typeIn X.K (.ref fI) = some (.type "function"))
    (F1 : FnOk X.prog X.w X.K X.mg X.base CX0 k fI fd ps sp) (hr : Room (k + 1) X.A) (hb : Binds X.K fd ps []) (hg : Gl X x) (hm : X.mg x = some (.ref C)) (ha : PA X (e :: es) ta)
    (hdb : (x == ("__debug__" : Str)) = false := by decide) (he : starEach (e :: es) X.env = (false, eval e X.env) :: starEach es X.env := by rfl) (hpl : (backTo pos (starEach es X.env)).any (·.1) = false := by rfl) :
    PE X (.Call (.Name x p) (e :: es) [] pos) (fun σ H Q => ta σ H fun vs H1 => vs.length ≤ 1000 ∧ ∀ a, H1 a = none → sp (.ref a :: vs) (upd H1 a (exo a C none)) (fun v H2 => v = .non ∧ Q (.ref a) H2) (fun _ _ _ => False)) := by
  constructor
  intro pins s σ H Q I h
  obtain ⟨nm, q, N, bs, bm, sn, sub, ab, col, dd, k0, k1, k2, k3, k5, hC, hbm⟩ := T.cls
  apply wpAny_Call_Name_kw
  apply ld_glob I hg hm ?_ hdb
  apply PySem.W.callWith_K (h₀ := X.base) I.ok.mod.kin T.kC ?_ he hpl
  apply thn (ha.run pos pins s σ H _ I h)
  rintro us s1 ⟨vs, H1, I1, r1, hz, q1⟩
  refine ⟨I1.kIn, ?_⟩
  show wpAny _ _ (call (.ref C) us) _ _ _
  obtain ⟨hp, g, dr, tk, os⟩ := s1
  have up := Nat.le_succ hp.objs.size
  have q2 := q1 (hp.objs.size + 1) (I1.hok.fresh up)
  have keeps : ∀ b o, hp.get? b = some o → ((hp.push (PySem.W.kdv_tup us)).push (PySem.HandSPX.excO C hp.objs.size)).get? b = some o :=
    fun b o z => Heap.get?_push_of_some _ (Heap.get?_push_of_some _ z)
  have there : ((hp.push (PySem.W.kdv_tup us)).push (PySem.HandSPX.excO C hp.objs.size)).get? (hp.objs.size + 1) = some (PySem.HandSPX.excO C hp.objs.size) := by heap_get
  have I2 : Inv X pins σ (upd H1 (hp.objs.size + 1) (exo (hp.objs.size + 1) C none)) ⟨(hp.push (PySem.W.kdv_tup us)).push (PySem.HandSPX.excO C hp.objs.size), g, dr, tk, os⟩ :=
    I1.laid (t' := tk) keeps up (exo_ok there)
  have r2 : Vals (V.ref (hp.objs.size + 1) :: vs) (Value.ref (hp.objs.size + 1) :: us) := .cons rfl r1
  have many : (Value.ref (hp.objs.size + 1) :: us ++ []).length = ps.length := by
    rw [List.append_nil, ← r2.length]
    exact F1.len _ _ _ _ q2
  have bound := hb _ (Value.ref (hp.objs.size + 1) :: us) I2.kIn many
  rw [List.append_nil] at bound
  have room : us.length ≤ sizeLine := by
    rw [← Paired.length r1, sizeLine_eq]
    omega
  refine wpAny_call (PySem.HandSPX.call_own F.excBase_ValueError (fun Y => PySem.HandSPX.refsVE_contains Y bm hbm) (I1.kIn _ _ hC)
    (PySem.W.looks_findIn I1.kIn iC) (fun self => PySem.W.bind_fn I1.kIn self tI) room ?_)
  refine codeAny_mono (F1.run _ X.stack _ _ ⟨Value.ref (hp.objs.size + 1) :: us, []⟩ _ _ _ (fun _ _ _ => False) (hr.make C us []) (I2.env0.make C us []) bound r2 q2) ?_
  intro r s' hq
  match r, hq with
  | .ok (.ret u), hq =>
    obtain ⟨v, H2, I3, rv, ev, q3⟩ := I2.after hq
    subst ev
    exact ⟨rv, .ref (hp.objs.size + 1), H2, I3, rfl, q3⟩
/-- C() -/
theorem pe_oexV0 {x : Str} {C fI : Addr} {k : Nat} {fd : FuncData} {ps : List Str} {sp : Sp} (T : OexC X.K C) (iC : PySem.W.findIn X.K (.ref C) "__init__" = some (some (.ref fI))) (tI : PySem.W.typeIn X.K (.ref fI) = some (.type "function"))
    (F1 : FnOk X.prog X.w X.K X.mg X.base CX0 k fI fd ps sp) (hr : Room (k + 1) X.A) (hb : Binds X.K fd ps []) (hg : Gl X x) (hm : X.mg x = some (.ref C))
    (hdb : (x == ("__debug__" : Str)) = false := by decide) :
    PE X (.Call (.Name x p) [] [] pos) (fun σ H Q => ∀ a, H a = none → sp [.ref a] (upd H a (exo a C none)) (fun v H2 => v = .non ∧ Q (.ref a) H2) (fun _ _ _ => False)) := by
  constructor
  intro pins s σ H Q I h
  obtain ⟨nm, q, N, bs, bm, sn, sub, ab, col, dd, k0, k1, k2, k3, k5, hC, hbm⟩ := T.cls
  apply wpAny_Call_Name_kw
  apply ld_glob I hg hm ?_ hdb
  apply PySem.W.callWith_K0 I.kIn T.kC
  obtain ⟨hp, g, dr, tk, os⟩ := s
  have up := Nat.le_succ hp.objs.size
  have q2 := h (hp.objs.size + 1) (I.hok.fresh up)
  have keeps : ∀ b o, hp.get? b = some o → ((hp.push (PySem.W.kdv_tup [])).push (PySem.HandSPX.excO C hp.objs.size)).get? b = some o :=
    fun b o z => Heap.get?_push_of_some _ (Heap.get?_push_of_some _ z)
  have there : ((hp.push (PySem.W.kdv_tup [])).push (PySem.HandSPX.excO C hp.objs.size)).get? (hp.objs.size + 1) = some (PySem.HandSPX.excO C hp.objs.size) := by heap_get
  have I2 : Inv X pins σ (upd H (hp.objs.size + 1) (exo (hp.objs.size + 1) C none)) ⟨(hp.push (PySem.W.kdv_tup [])).push (PySem.HandSPX.excO C hp.objs.size), g, dr, tk, os⟩ :=
    I.laid (t' := tk) keeps up (exo_ok there)
  have r2 : Vals [V.ref (hp.objs.size + 1)] [Value.ref (hp.objs.size + 1)] := .cons rfl .nil
  have bound := hb _ [Value.ref (hp.objs.size + 1)] I2.kIn (by rw [List.append_nil, ← r2.length]; exact F1.len _ _ _ _ q2)
  rw [List.append_nil] at bound
  refine wpAny_call (PySem.HandSPX.call_own F.excBase_ValueError (fun Y => PySem.HandSPX.refsVE_contains Y bm hbm) (I.kIn _ _ hC)
    (PySem.W.looks_findIn I.kIn iC) (fun self => PySem.W.bind_fn I.kIn self tI) (by rw [sizeLine_eq]; decide) ?_)
  refine codeAny_mono (F1.run _ X.stack _ _ ⟨[Value.ref (hp.objs.size + 1)], []⟩ _ _ _ (fun _ _ _ => False) (hr.make C [] []) (I2.env0.make C [] []) bound r2 q2) ?_
  intro r s' hq
  match r, hq with
  | .ok (.ret u), hq =>
    obtain ⟨v, H2, I3, rv, ev, q3⟩ := I2.after hq
    subst ev
    exact ⟨rv, .ref (hp.objs.size + 1), H2, I3, rfl, q3⟩
/-- an exception's object and its dict -/
theorem exo_inst {pins : List (Addr × Obj)} {σ : L2.St} {H : Hp} {s : Shared} {a C dx : Addr} {gs : List (Str × V)} (I : Inv X pins σ H s) (h1 : H a = some (exo a C (some dx))) (h2 : H dx = some (exd dx gs)) :
    ∃ oe od mA, PySem.W.InstAt s.heap a oe C (some od) ∧ s.heap.get? dx = some od ∧ s.heap.Ns1 dx mA ∧ ∀ f, RelO (gs.lookup f) (mA f) := by
  obtain ⟨t1, ho⟩ := exo_at I.hok h1
  obtain ⟨mA, hns, rel⟩ := exd_at I.hok h2
  obtain ⟨od, es, ep, hod, hr⟩ := id hns
  exact ⟨_, od, mA, ⟨ho, rfl, rfl, hod⟩, hod, hns, rel⟩
/-- e.f -/
theorem pe_fldE (he : PE X e te) (hb : attributeBase e f X.env (eval e X.env) = eval e X.env := by rfl) :
    PE X (.Attribute e f pos) (fun σ H Q => te σ H fun x H1 => ∃ (a C : Addr) (fs : List (Str × V)) (v : V), x = .ref a ∧ XfC X.K C ∧ PySem.W.findIn X.K (.ref C) f = some none ∧ Err H1 a C fs ∧ (f, v) ∈ fs ∧ Q v H1) := by
  constructor
  intro pins s σ H Q I h
  refine attr_of hb (thn (he.run pins s σ H _ I h) ?_)
  rintro u s1 ⟨x, H1, I1, rx, a, C, fs, v, ex, T, hno, er, hm, q⟩
  subst ex
  cases (show u = Value.ref a from rx)
  rcases er with ⟨e0, _⟩ | ⟨dx, gs, h1, h2, h3⟩
  · subst e0
    cases hm
  · obtain ⟨t1, ho⟩ := exo_at I1.hok h1
    obtain ⟨mA, hns, rel⟩ := exd_at I1.hok h2
    obtain ⟨od, hod, hl⟩ := lookIn_ns hns
    have el : gs.lookup f = some v := h3 _ hm
    obtain ⟨u, hu, ru⟩ := RelO.some_of (v := v) (o := mA f) (by rw [← el]; exact rel f)
    have J : PySem.W.InstAt s1.heap a _ C (some od) := ⟨ho, rfl, rfl, hod⟩
    exact HandSPX.exc_get I1.kIn J T.ga T.gg T.exC (PySem.W.findObj_own T.hdC hno rfl (by rw [hl, hu])) (handed_of ru) ⟨v, H1, I1.tok _, ru, q⟩
/-- any exception of an own class: with its own __init__, or without -/
def IsErr (H : Hp) (a C : Addr) : Prop := (∃ fs, Err H a C fs) ∨ H a = some (ExO (.ref C) a)
/-- isinstance(e, c) -/
theorem call_isX : CallR X (.builtin "isinstance") (fun xs H Q => ∃ (a C : Addr) (c : V) (cv : Value) (b : Bool), xs = [.ref a, c] ∧ ClsV c cv ∧ IsErr H a C ∧ ExcC X.K C ∧ PySem.W.kitOne X.K (.ref C) cv = some b ∧ Q (.bl b) H) := by
  intro pins s σ H xs us Q I r h
  obtain ⟨a, C, c, cv, b, rfl, hc, he, E, e, q⟩ := h
  obtain ⟨u, u2, rfl, r1, r2⟩ := vals2 r
  cases (show u = Value.ref a from r1)
  have e2 := hc.eq r2
  subst e2
  rcases he with ⟨fs, ⟨_, h1⟩ | ⟨dx, gs, h1, h2, _⟩⟩ | h
  · obtain ⟨t1, ho⟩ := exo_at I.hok h1
    exact PySem.W.kia_one (PySem.W.handS_kitx_exc E.hg E.hk E.hs E.hd E.ha E.hn E.ht E.hm) I.kIn ⟨ho, rfl, rfl, trivial⟩ e (fun z => nomatch z)
      fun tk => ⟨.bl b, H, I.tok tk, rfl, q⟩
  · obtain ⟨oe, od, mA, J, _⟩ := exo_inst I h1 h2
    have hcl : (PySem.W.clsIn X.K C).isSome = true := by
      have := E.hd
      unfold PySem.W.hasDictIn at this
      cases k : PySem.W.clsIn X.K C with
      | none => rw [k] at this; cases this
      | some _ => rfl
    exact PySem.W.kia_one (PySem.W.kitx_exc hcl E.hg E.hk E.hs E.ha E.hn E.ht E.hm) I.kIn J e (fun z => nomatch z)
      fun tk => ⟨.bl b, H, I.tok tk, rfl, q⟩
  · exact isi_exc E I h e q
/-- X(e, ..), X without an __init__ of its own -/
theorem pe_excA {C : Addr} {bmB : List Value} {B newId initId : String} {x : Str} (F : ExcBaseFacts B newId initId bmB) (q : PySem.W.excIn X.K C bmB newId = true) (gC : X.mg x = some (.ref C)) (kC : PySem.W.keepIn X.K (.ref C) = true) (hg : Gl X x)
    (ha : PA X (e :: es) ta) (hdb : (x == ("__debug__" : Str)) = false := by decide) (he : starEach (e :: es) X.env = (false, eval e X.env) :: starEach es X.env := by rfl) (hpl : (backTo pos (starEach es X.env)).any (·.1) = false := by rfl) :
    PE X (.Call (.Name x p) (e :: es) [] pos) (fun σ H Q => ta σ H fun vs H1 => vs.length ≤ 1000 ∧ ∀ a, H1 a = none → Q (.ref a) (upd H1 a (ExO (.ref C) a))) := by
  constructor
  intro pins s σ H Q I h
  apply wpAny_Call_Name_kw
  apply ld_glob I hg gC ?_ hdb
  apply PySem.W.callWith_K (h₀ := X.base) I.ok.mod.kin kC ?_ he hpl
  apply thn (ha.run pos pins s σ H _ I h)
  rintro us s1 ⟨vs, H1, I1, r1, hz, q1⟩
  refine ⟨I1.kIn, ?_⟩
  show wpAny _ _ (call (.ref C) us) _ _ _
  obtain ⟨bm, N, nm, qn, bs, hdct, sn, sub, ab, col, dd, k0, k1, k2, k3, k5, mN, hC, hN, hni, T⟩ := exc_obj I1.kIn q
  refine wpAny_call_exc_subT F T hC hN hni (fun h' a hm => ?_) (by rw [← Paired.length r1, sizeLine_eq]; omega)
  obtain ⟨t, ht, _, _⟩ := hm.there
  have fresh := I1.hok.gone hm.new
  exact ⟨.ref a, _, I1.laidN hm.keeps hm.new fresh (exO_ok ht ⟨rfl, rfl⟩ rfl rfl rfl (by decide : 4 < 6)), rfl, q1 a fresh⟩
theorem pe_excA0 {C : Addr} {bmB : List Value} {B newId initId : String} {x : Str} (F : ExcBaseFacts B newId initId bmB) (q : PySem.W.excIn X.K C bmB newId = true) (gC : X.mg x = some (.ref C)) (kC : PySem.W.keepIn X.K (.ref C) = true) (hg : Gl X x)
    (hdb : (x == ("__debug__" : Str)) = false := by decide) :
    PE X (.Call (.Name x p) [] [] pos) (fun σ H Q => ∀ a, H a = none → Q (.ref a) (upd H a (ExO (.ref C) a))) := by
  constructor
  intro pins s σ H Q I h
  apply wpAny_Call_Name_kw
  apply ld_glob I hg gC ?_ hdb
  apply PySem.W.callWith_K0 I.kIn kC
  obtain ⟨bm, N, nm, qn, bs, hdct, sn, sub, ab, col, dd, k0, k1, k2, k3, k5, mN, hC, hN, hni, T⟩ := exc_obj I.kIn q
  refine wpAny_call_exc_subT F T hC hN hni (fun h' a hm => ?_) (by rw [sizeLine_eq]; decide)
  obtain ⟨t, ht, _, _⟩ := hm.there
  have fresh := I.hok.gone hm.new
  exact ⟨.ref a, _, I.laidN hm.keeps hm.new fresh (exO_ok ht ⟨rfl, rfl⟩ rfl rfl rfl (by decide : 4 < 6)), rfl, h a fresh⟩
end
end GL
set_option Elab.async false
set_option linter.all false
set_option maxRecDepth 100000
set_option maxHeartbeats 1000000
/-! DL1: data instead of heaps. Values are data (frozen) or lists of one's own; the heap stays behind these words. -/
namespace DL
open PySem PySem.Spec PyProof.Rows L2 GL

/-- an own class: plain, below no built-in one but object -/
structure OwnC (K : PySem.W.Frag) (C : Addr) : Prop where
  cl : Cls K C
  ha : PySem.W.findIn K (.ref C) "__class__" = some (some (.builtin "object.__class__"))
  hn : PySem.W.specialIn K (.builtin "object.__class__") "__get__" = some (some (.builtin "getset_descriptor.__get__"))
  ht : PySem.W.takesIn K (.builtin "object.__class__") = some true
  hm : PySem.W.mroIn K C (.type "object") = some true
  kit : ∀ T ∈ ["int", "bool", "str", "list", "tuple", "dict"], PySem.W.kitOne K (.ref C) (.type T) = some false
/-- the data of a key -/
def kD : Key → PyData
  | .inl i => .int i
  | .inr x => .str x
mutual
inductive Dr (K : PySem.W.Frag) (H : Hp) : V → PyData → Prop
  | non : Dr K H .non .none
  | bl (b : Bool) : Dr K H (.bl b) (.bool b)
  | int (i : Int) : Dr K H (.int i) (.int i)
  | str (x : Str) : Dr K H (.str x) (.str x)
  | lst {a : Addr} {xs : List V} {ds : List PyData} : H a = some (.lst xs) → DrAll K H xs ds → Dr K H (.ref a) (.list ds)
  | tup {a : Addr} {xs : List V} {ds : List PyData} : SqT K H a xs → DrAll K H xs ds → Dr K H (.ref a) (.tuple ds)
  | dct {a : Addr} {kvs : List (Key × V)} {ds : List PyData} : H a = some (.dK kvs) → DrAll K H (kvs.map (·.2)) ds → Dr K H (.ref a) (.dict ((kvs.map fun p => kD p.1).zip ds))
  | ins {a C dx : Addr} {fs : List (Str × V)} {ds : List PyData} : OwnC K C → H a = some (.ins C dx fs) → H dx = some (.own a) → DrAll K H (fs.map (·.2)) ds → Dr K H (.ref a) (.dict ((.none, .int C) :: (fs.map fun p => PyData.str p.1).zip ds))
inductive DrAll (K : PySem.W.Frag) (H : Hp) : List V → List PyData → Prop
  | nil : DrAll K H [] []
  | cons {v : V} {vs : List V} {d : PyData} {ds : List PyData} : Dr K H v d → DrAll K H vs ds → DrAll K H (v :: vs) (d :: ds)
end
section
variable {K : PySem.W.Frag} {H H' : Hp}
theorem rd_same {a : Addr} {u : HO} (e : Same H H') (h : Rd H a u) : Rd H' a u := h.imp (fun h => e _ _ h) fun ⟨o, h⟩ => ⟨o, e _ _ h⟩
mutual
theorem Dr.same (e : Same H H') : ∀ {d : PyData} {v : V}, Dr K H v d → Dr K H' v d
  | _, _, .non => .non
  | _, _, .bl b => .bl b
  | _, _, .int i => .int i
  | _, _, .str x => .str x
  | _, _, .lst h a => .lst (e _ _ h) (DrAll.same e a)
  | _, _, .tup h a => .tup (Same.seqT e h) (DrAll.same e a)
  | _, _, .dct h a => .dct (e _ _ h) (DrAll.same e a)
  | _, _, .ins c h h2 a => .ins c (e _ _ h) (e _ _ h2) (DrAll.same e a)
theorem DrAll.same (e : Same H H') : ∀ {ds : List PyData} {vs : List V}, DrAll K H vs ds → DrAll K H' vs ds
  | _, _, .nil => .nil
  | _, _, .cons h t => .cons (Dr.same e h) (DrAll.same e t)
end
theorem DrAll.length : ∀ {vs : List V} {ds : List PyData}, DrAll K H vs ds → vs.length = ds.length
  | _, _, .nil => rfl
  | _, _, .cons _ t => by rw [List.length_cons, List.length_cons, DrAll.length t]
theorem DrAll.get : ∀ {vs : List V} {ds : List PyData} {i : Nat} {d : PyData}, DrAll K H vs ds → ds[i]? = some d → ∃ v, vs[i]? = some v ∧ Dr K H v d
  | _, _, _, _, .nil, e => by simp at e
  | _, _, 0, _, .cons r _, e => by simp at e; subst e; exact ⟨_, rfl, r⟩
  | _, _, i + 1, _, .cons _ t, e => by
    obtain ⟨v, h1, h2⟩ := DrAll.get (i := i) t (by simpa using e)
    exact ⟨v, by simpa using h1, h2⟩
theorem DrAll.getV : ∀ {vs : List V} {ds : List PyData} {i : Nat} {v : V}, DrAll K H vs ds → vs[i]? = some v → ∃ d, ds[i]? = some d ∧ Dr K H v d
  | _, _, _, _, .nil, e => by simp at e
  | _, _, 0, _, .cons r _, e => by simp at e; subst e; exact ⟨_, rfl, r⟩
  | _, _, i + 1, _, .cons _ t, e => by
    obtain ⟨v, h1, h2⟩ := DrAll.getV (i := i) t (by simpa using e)
    exact ⟨v, by simpa using h1, h2⟩
theorem DrAll.append : ∀ {vs ws : List V} {ds es : List PyData}, DrAll K H vs ds → DrAll K H ws es → DrAll K H (vs ++ ws) (ds ++ es)
  | _, _, _, _, .nil, s => s
  | _, _, _, _, .cons r t, s => .cons r (DrAll.append t s)
theorem DrAll.take : ∀ {vs : List V} {ds : List PyData} (n : Nat), DrAll K H vs ds → DrAll K H (vs.take n) (ds.take n)
  | _, _, 0, _ => .nil
  | _, _, _ + 1, .nil => .nil
  | _, _, n + 1, .cons r t => .cons r (DrAll.take n t)
theorem DrAll.drop : ∀ {vs : List V} {ds : List PyData} (n : Nat), DrAll K H vs ds → DrAll K H (vs.drop n) (ds.drop n)
  | _, _, 0, r => r
  | _, _, _ + 1, .nil => .nil
  | _, _, n + 1, .cons _ t => DrAll.drop n t
theorem DrAll.set : ∀ {vs : List V} {ds : List PyData} {v : V} {d : PyData} (n : Nat), Dr K H v d → DrAll K H vs ds → DrAll K H (vs.set n v) (ds.set n d)
  | _, _, _, _, _, _, .nil => .nil
  | _, _, _, _, 0, h, .cons _ t => .cons h t
  | _, _, _, _, n + 1, h, .cons r t => .cons r (DrAll.set n h t)
theorem DrAll.ints : ∀ ns : List Int, DrAll K H (ns.map V.int) (ns.map PyData.int)
  | [] => .nil
  | n :: r => .cons (.int n) (DrAll.ints r)
theorem DrAll.strs : ∀ ns : List Str, DrAll K H (ns.map V.str) (ns.map PyData.str)
  | [] => .nil
  | n :: r => .cons (.str n) (DrAll.strs r)
theorem DrAll.bools : ∀ ns : List Bool, DrAll K H (ns.map V.bl) (ns.map PyData.bool)
  | [] => .nil
  | n :: r => .cons (.bl n) (DrAll.bools r)
theorem DrAll.ofInts : ∀ {ns : List Int} {vs : List V}, DrAll K H vs (ns.map PyData.int) → vs = ns.map V.int
  | [], _, h => by cases h; rfl
  | n :: r, _, h => by
    cases h with
    | cons h1 h2 => cases h1; rw [DrAll.ofInts h2]; rfl
theorem DrAll.ofStrs : ∀ {ns : List Str} {vs : List V}, DrAll K H vs (ns.map PyData.str) → vs = ns.map V.str
  | [], _, h => by cases h; rfl
  | n :: r, _, h => by
    cases h with
    | cons h1 h2 => cases h1; rw [DrAll.ofStrs h2]; rfl
theorem DrAll.ofBools : ∀ {ns : List Bool} {vs : List V}, DrAll K H vs (ns.map PyData.bool) → vs = ns.map V.bl
  | [], _, h => by cases h; rfl
  | n :: r, _, h => by
    cases h with
    | cons h1 h2 => cases h1; rw [DrAll.ofBools h2]; rfl
mutual
/-- data without dicts, as the library says it -/
theorem Dr.dp : ∀ {d : PyData} {v : V}, Dr K H v d → d.hasDict = false → Dp K H v d
  | _, _, .non, _ => .non
  | _, _, .bl b, _ => .bl b
  | _, _, .int i, _ => .int i
  | _, _, .str x, _ => .str x
  | _, _, .lst h a, n => .lst (.inl (.inl h)) (DrAll.dp a (by simpa only [PyData.hasDict] using n))
  | _, _, .tup h a, n => .tup h (DrAll.dp a (by simpa only [PyData.hasDict] using n))
  | _, _, .dct h a, n => by simp [PyData.hasDict] at n
  | _, _, .ins _ _ _ _, n => by simp [PyData.hasDict] at n
theorem DrAll.dp : ∀ {ds : List PyData} {vs : List V}, DrAll K H vs ds → PyData.hasDictAll ds = false → DpAll K H vs ds
  | _, _, .nil, _ => .nil
  | _, _, .cons h t, n => by
    simp only [PyData.hasDictAll, Bool.or_eq_false_iff] at n
    exact .cons (Dr.dp h n.1) (DrAll.dp t n.2)
end
theorem Dr.bool {b : Bool} {v : V} (h : Dr K H v (.bool b)) : v = .bl b := by cases h; rfl
theorem Dr.tInt {i : Int} {v : V} (h : Dr K H v (.int i)) : v = .int i := by cases h; rfl
theorem Dr.tStr {x : Str} {v : V} (h : Dr K H v (.str x)) : v = .str x := by cases h; rfl
theorem Dr.tNon {v : V} (h : Dr K H v .none) : v = .non := by cases h; rfl
end

/-- an object that is data -/
def obD (C : Addr) (fs : List (Str × PyData)) : PyData := .dict ((.none, .int C) :: fs.map fun p => (.str p.1, p.2))
theorem ob_zip : ∀ {α : Type} (vs : List (Str × α)) (fs : List (Str × PyData)), vs.map (·.1) = fs.map (·.1) → (vs.map fun p => PyData.str p.1).zip (fs.map (·.2)) = fs.map fun p => (.str p.1, p.2)
  | _, [], [], _ => rfl
  | _, [], _ :: _, e => by cases e
  | _, _ :: _, [], e => by cases e
  | _, v :: vs, f :: fs, e => by
    rw [List.map_cons, List.map_cons, List.cons.injEq] at e
    rw [List.map_cons, List.map_cons, List.map_cons, List.zip_cons_cons, ob_zip vs fs e.2, e.1]
theorem ob_unzip : ∀ {α : Type} (vs : List (Str × α)) (ds : List PyData) (fs : List (Str × PyData)), vs.length = ds.length → (vs.map fun p => PyData.str p.1).zip ds = (fs.map fun p => (PyData.str p.1, p.2)) → vs.map (·.1) = fs.map (·.1) ∧ ds = fs.map (·.2)
  | _, [], [], [], _, _ => ⟨rfl, rfl⟩
  | _, [], [], _ :: _, _, e => by simp at e
  | _, [], _ :: _, _, l, _ => by simp at l
  | _, _ :: _, [], _, l, _ => by simp at l
  | _, _ :: _, _ :: _, [], _, e => by simp at e
  | _, v :: vs, d :: ds, f :: fs, l, e => by
    rw [List.map_cons, List.map_cons, List.zip_cons_cons, List.cons.injEq, Prod.mk.injEq, PyData.str.injEq] at e
    obtain ⟨h1, h2⟩ := ob_unzip vs ds fs (by simpa using l) e.2
    rw [List.map_cons, List.map_cons, List.map_cons, h1, h2, e.1.1, e.1.2]
    exact ⟨rfl, rfl⟩
/-- where an object's data lies -/
def ObAt (K : PySem.W.Frag) (G H : Hp) (a C dx : Addr) (vs : List (Str × V)) (fs : List (Str × PyData)) : Prop :=
  OwnC K C ∧ H a = some (.ins C dx vs) ∧ H dx = some (.own a) ∧ vs.map (·.1) = fs.map (·.1) ∧ DrAll K G (vs.map (·.2)) (fs.map (·.2))
section
variable {K : PySem.W.Frag} {G H : Hp}
theorem Dr.mkOb {a C dx : Addr} {vs : List (Str × V)} {fs : List (Str × PyData)} (h : ObAt K G G a C dx vs fs) : Dr K G (.ref a) (obD C fs) := by
  obtain ⟨c, h1, h2, e, h3⟩ := h
  have r := Dr.ins c h1 h2 h3
  rw [ob_zip vs fs e] at r
  exact r
theorem Dr.ob {v : V} {C : Addr} {fs : List (Str × PyData)} (h : Dr K G v (obD C fs)) : ∃ a dx vs, v = .ref a ∧ ObAt K G G a C dx vs fs := by
  generalize e : obD C fs = d at h
  unfold obD at e
  cases h with
  | dct h1 h2 =>
    rename_i kvs ds
    cases kvs with
    | nil => simp at e
    | cons p r =>
      obtain ⟨k, x⟩ := p
      cases ds with
      | nil => simp at e
      | cons d ds =>
        rw [List.map_cons, List.zip_cons_cons] at e
        cases k <;> simp [kD] at e
  | ins c h1 h2 h3 =>
    rename_i a C' dx vs ds
    injection e with e
    rw [List.cons.injEq, Prod.mk.injEq, PyData.int.injEq] at e
    obtain ⟨⟨_, e1⟩, e2⟩ := e
    have e3 : C = C' := Int.ofNat.inj e1
    subst e3
    obtain ⟨h4, h5⟩ := ob_unzip vs ds fs (by have := h3.length; rwa [List.length_map] at this) e2.symm
    subst h5
    exact ⟨a, dx, vs, rfl, c, h1, h2, h4, h3⟩
  | _ => cases e
end
/-- an object of one's own, its fields are data -/
inductive RepB (K : PySem.W.Frag) (G H : Hp) : Addr → Addr → List (Str × PyData) → List Addr → Prop
  | mk {a C dx : Addr} {vs : List (Str × V)} {fs : List (Str × PyData)} : ObAt K G H a C dx vs fs → G a = none → G dx = none → a ≠ dx → RepB K G H a C fs [a, dx]
section
variable {K : PySem.W.Frag} {G H G' H' : Hp} {v C : Addr} {fs : List (Str × PyData)} {F : List Addr}
theorem RepB.dom (h : RepB K G H v C fs F) : ∀ a ∈ F, G a = none ∧ H a ≠ none := by
  obtain ⟨⟨c, h1, h2, _, _⟩, g1, g2, _⟩ := h
  intro a m
  simp only [List.mem_cons, List.mem_nil_iff, or_false] at m
  rcases m with rfl | rfl
  · exact ⟨g1, by rw [h1]; exact nofun⟩
  · exact ⟨g2, by rw [h2]; exact nofun⟩
theorem RepB.mono (e : Same G G') (h : RepB K G H v C fs F) (k1 : ∀ a ∈ F, G' a = none) (k2 : ∀ a ∈ F, ∀ u, H a = some u → H' a = some u) : RepB K G' H' v C fs F := by
  obtain ⟨⟨c, h1, h2, h3, h4⟩, _, _, n⟩ := h
  exact .mk ⟨c, k2 _ (by simp) _ h1, k2 _ (by simp) _ h2, h3, h4.same e⟩ (k1 _ (by simp)) (k1 _ (by simp)) n
theorem RepB.freeze (e : Same G G') (h : RepB K G H v C fs F) (k : ∀ a ∈ F, ∀ u, H a = some u → G' a = some u) : Dr K G' (.ref v) (obD C fs) := by
  obtain ⟨⟨c, h1, h2, h3, h4⟩, _, _, n⟩ := h
  exact .mkOb ⟨c, k _ (by simp) _ h1, k _ (by simp) _ h2, h3, h4.same e⟩
end
/-- a value: data, or a list of one's own -/
inductive O where
  | dat (d : PyData)
  | lst (xs : List O)
mutual
def O.erase : O → PyData
  | .dat d => d
  | .lst xs => .list (eraseAll xs)
def eraseAll : List O → List PyData
  | [] => []
  | x :: xs => x.erase :: eraseAll xs
end
theorem eraseAll_dat : ∀ ds : List PyData, eraseAll (ds.map O.dat) = ds
  | [] => rfl
  | d :: ds => by
    show d :: eraseAll (ds.map O.dat) = _
    rw [eraseAll_dat ds]
theorem eraseAll_map : ∀ xs : List O, eraseAll xs = xs.map O.erase
  | [] => rfl
  | x :: xs => by
    show x.erase :: eraseAll xs = _
    rw [eraseAll_map xs]
    rfl
mutual
inductive RepO (K : PySem.W.Frag) (G H : Hp) : V → O → List Addr → Prop
  | dat {v : V} {d : PyData} : Dr K G v d → RepO K G H v (.dat d) []
  | lst {a : Addr} {vs : List V} {xs : List O} {F : List Addr} : G a = none → H a = some (.lst vs) → RepOs K G H vs xs F → a ∉ F → RepO K G H (.ref a) (.lst xs) (a :: F)
inductive RepOs (K : PySem.W.Frag) (G H : Hp) : List V → List O → List Addr → Prop
  | nil : RepOs K G H [] [] []
  | cons {v : V} {vs : List V} {x : O} {xs : List O} {F1 F2 : List Addr} : RepO K G H v x F1 → RepOs K G H vs xs F2 → (∀ a ∈ F1, a ∉ F2) → RepOs K G H (v :: vs) (x :: xs) (F1 ++ F2)
end
section
variable {K : PySem.W.Frag} {G H G' H' : Hp}
mutual
theorem RepO.dom : ∀ {x : O} {v : V} {F : List Addr}, RepO K G H v x F → ∀ a ∈ F, G a = none ∧ H a ≠ none
  | _, _, _, .dat _, a, h => by cases h
  | _, _, _, .lst g h r n, a, m => by
    rcases List.mem_cons.mp m with e | m
    · subst e
      exact ⟨g, by rw [h]; exact nofun⟩
    · exact RepOs.dom r a m
theorem RepOs.dom : ∀ {x : List O} {v : List V} {F : List Addr}, RepOs K G H v x F → ∀ a ∈ F, G a = none ∧ H a ≠ none
  | _, _, _, .nil, a, h => by cases h
  | _, _, _, .cons r t n, a, m => by
    rcases List.mem_append.mp m with m | m
    · exact RepO.dom r a m
    · exact RepOs.dom t a m
end
mutual
theorem RepO.mono (e : Same G G') : ∀ {x : O} {v : V} {F : List Addr}, RepO K G H v x F → (∀ a ∈ F, G' a = none) → (∀ a ∈ F, ∀ u, H a = some u → H' a = some u) → RepO K G' H' v x F
  | _, _, _, .dat d, _, _ => .dat (d.same e)
  | _, _, _, .lst g h r n, k1, k2 => .lst (k1 _ List.mem_cons_self) (k2 _ List.mem_cons_self _ h) (RepOs.mono e r (fun a m => k1 a (List.mem_cons_of_mem _ m)) fun a m => k2 a (List.mem_cons_of_mem _ m)) n
theorem RepOs.mono (e : Same G G') : ∀ {x : List O} {v : List V} {F : List Addr}, RepOs K G H v x F → (∀ a ∈ F, G' a = none) → (∀ a ∈ F, ∀ u, H a = some u → H' a = some u) → RepOs K G' H' v x F
  | _, _, _, .nil, _, _ => .nil
  | _, _, _, .cons r t n, k1, k2 => .cons (RepO.mono e r (fun a m => k1 a (List.mem_append_left _ m)) fun a m => k2 a (List.mem_append_left _ m))
      (RepOs.mono e t (fun a m => k1 a (List.mem_append_right _ m)) fun a m => k2 a (List.mem_append_right _ m)) n
end
/-- G, and what H has at F -/
def addF (G H : Hp) (F : List Addr) : Hp := fun a => if a ∈ F then H a else G a
theorem addF_in {F : List Addr} {a : Addr} (h : a ∈ F) : addF G H F a = H a := if_pos h
theorem addF_out {F : List Addr} {a : Addr} (h : a ∉ F) : addF G H F a = G a := if_neg h
theorem addF_ext {F : List Addr} (n : ∀ a ∈ F, G a = none) : Same G (addF G H F) := fun a u e => by
  have : a ∉ F := fun m => by rw [n a m] at e; cases e
  rw [addF_out this]
  exact e
theorem addF_sub {F : List Addr} (e : Same G H) : Same (addF G H F) H := fun a u h => by
  by_cases m : a ∈ F
  · rwa [addF_in m] at h
  · rw [addF_out m] at h
    exact e _ _ h
mutual
theorem RepO.freeze (e : Same G G') : ∀ {x : O} {v : V} {F : List Addr}, RepO K G H v x F → (∀ a ∈ F, ∀ u, H a = some u → G' a = some u) → Dr K G' v x.erase
  | _, _, _, .dat d, _ => d.same e
  | _, _, _, .lst g h r n, k => .lst (k _ List.mem_cons_self _ h) (RepOs.freeze e r fun a m => k a (List.mem_cons_of_mem _ m))
theorem RepOs.freeze (e : Same G G') : ∀ {x : List O} {v : List V} {F : List Addr}, RepOs K G H v x F → (∀ a ∈ F, ∀ u, H a = some u → G' a = some u) → DrAll K G' v (eraseAll x)
  | _, _, _, .nil, _ => .nil
  | _, _, _, .cons r t n, k => .cons (RepO.freeze e r fun a m => k a (List.mem_append_left _ m)) (RepOs.freeze e t fun a m => k a (List.mem_append_right _ m))
end
theorem RepOs.ofDat : ∀ {ds : List PyData} {vs : List V}, DrAll K G vs ds → RepOs K G H vs (ds.map O.dat) []
  | _, _, .nil => .nil
  | _, _, .cons h t => RepOs.cons (F1 := []) (F2 := []) (.dat h) (RepOs.ofDat t) (fun _ m => nomatch m)
theorem RepOs.length : ∀ {xs : List O} {vs : List V} {F : List Addr}, RepOs K G H vs xs F → vs.length = xs.length
  | _, _, _, .nil => rfl
  | _, _, _, .cons _ t _ => by rw [List.length_cons, List.length_cons, RepOs.length t]
theorem RepOs.append {ys : List O} {ws : List V} {F2 : List Addr} (k : RepOs K G H ws ys F2) : ∀ {xs : List O} {vs : List V} {F1 : List Addr}, RepOs K G H vs xs F1 → (∀ a ∈ F1, a ∉ F2) → RepOs K G H (vs ++ ws) (xs ++ ys) (F1 ++ F2)
  | _, _, _, .nil, _ => k
  | _, _, _, .cons (F1 := Fa) (F2 := Fb) r t n, d => by
    rw [List.cons_append, List.cons_append, List.append_assoc]
    refine .cons r (RepOs.append k t fun a m => d a (List.mem_append_right _ m)) fun a m z => ?_
    rcases List.mem_append.mp z with z | z
    · exact n a m z
    · exact d a (List.mem_append_left _ m) z
theorem RepOs.dats : ∀ {ds : List PyData} {vs : List V} {F : List Addr}, RepOs K G H vs (ds.map O.dat) F → F = [] ∧ DrAll K G vs ds
  | [], _, _, h => by cases h; exact ⟨rfl, .nil⟩
  | d :: ds, _, _, h => by
    cases h with
    | cons h1 h2 n =>
      cases h1 with
      | dat k =>
        obtain ⟨rfl, k2⟩ := RepOs.dats h2
        exact ⟨rfl, .cons k k2⟩
end

/-! ### the slots -/
inductive En where
  | d (d : PyData)
  | l (xs : List O)
  | bag
  | o (a C : Addr) (fs : List (Str × PyData))
def En.of : O → En
  | .dat x => En.d x
  | .lst xs => En.l xs
abbrev Env' := List (Option En)
/-- the bag at b: its numbers are frozen -/
def BagAt (G H : Hp) (b : Addr × Addr) : Prop := ∃ (g s i : Int) (ns : List Int), H b.1 = some (.lst [.int g, .int s, .int i, .ref b.2]) ∧ G b.2 = some (.lst (ns.map V.int)) ∧ 0 ≤ i
/-- not the bag -/
def NotB (B : Option (Addr × Addr)) (a : Addr) : Prop := ∀ c, B ≠ some (a, c)
inductive RepE (K : PySem.W.Frag) (B : Option (Addr × Addr)) (G H : Hp) : L2.St → Env' → List Addr → Prop
  | nil : RepE K B G H [] [] []
  | non {x : Option V} {σ : L2.St} {ρ : Env'} {F : List Addr} : RepE K B G H σ ρ F → RepE K B G H (x :: σ) (none :: ρ) F
  | d {v : V} {d : PyData} {σ : L2.St} {ρ : Env'} {F : List Addr} : Dr K G v d → RepE K B G H σ ρ F → RepE K B G H (some v :: σ) (some (.d d) :: ρ) F
  | l {v : V} {xs : List O} {σ : L2.St} {ρ : Env'} {F1 F2 : List Addr} : RepO K G H v (.lst xs) F1 → RepE K B G H σ ρ F2 → (∀ a ∈ F1, a ∉ F2) → RepE K B G H (some v :: σ) (some (.l xs) :: ρ) (F1 ++ F2)
  | bag {b : Addr × Addr} {σ : L2.St} {ρ : Env'} {F : List Addr} : B = some b → RepE K B G H σ ρ F → RepE K B G H (some (.ref b.1) :: σ) (some .bag :: ρ) F
  | o {a C : Addr} {fs : List (Str × PyData)} {σ : L2.St} {ρ : Env'} {F1 F2 : List Addr} : RepB K G H a C fs F1 → RepE K B G H σ ρ F2 → (∀ a ∈ F1, a ∉ F2) → RepE K B G H (some (.ref a) :: σ) (some (.o a C fs) :: ρ) (F1 ++ F2)
/-- one slot -/
inductive RepN (K : PySem.W.Frag) (B : Option (Addr × Addr)) (G H : Hp) : V → En → List Addr → Prop
  | d {v : V} {d : PyData} : Dr K G v d → RepN K B G H v (.d d) []
  | l {v : V} {xs : List O} {F : List Addr} : RepO K G H v (.lst xs) F → RepN K B G H v (.l xs) F
  | bag {b : Addr × Addr} : B = some b → RepN K B G H (.ref b.1) .bag []
  | o {a C : Addr} {fs : List (Str × PyData)} {F : List Addr} : RepB K G H a C fs F → RepN K B G H (.ref a) (.o a C fs) F
section
variable {K : PySem.W.Frag} {B : Option (Addr × Addr)} {G H G' H' : Hp}
theorem RepN.ofO {v : V} {o : O} {F : List Addr} (h : RepO K G H v o F) : RepN K B G H v (En.of o) F := by
  cases h with
  | dat h => exact .d h
  | lst a b c d => exact .l (.lst a b c d)
theorem RepN.dom {v : V} {n : En} {F : List Addr} (h : RepN K B G H v n F) : ∀ a ∈ F, G a = none ∧ H a ≠ none := by
  cases h with
  | d h => intro a m; cases m
  | l h => exact h.dom
  | bag h => intro a m; cases m
  | o h => exact h.dom
theorem RepN.mono (e : Same G G') {v : V} {n : En} {F : List Addr} (h : RepN K B G H v n F) (k1 : ∀ a ∈ F, G' a = none) (k2 : ∀ a ∈ F, ∀ u, H a = some u → H' a = some u) : RepN K B G' H' v n F := by
  cases h with
  | d h => exact .d (h.same e)
  | l h => exact .l (h.mono e k1 k2)
  | bag h => exact .bag h
  | o h => exact .o (h.mono e k1 k2)
theorem RepE.dom : ∀ {σ : L2.St} {ρ : Env'} {F : List Addr}, RepE K B G H σ ρ F → ∀ a ∈ F, G a = none ∧ H a ≠ none
  | _, _, _, .nil, a, h => by cases h
  | _, _, _, .non t, a, m => RepE.dom t a m
  | _, _, _, .d _ t, a, m => RepE.dom t a m
  | _, _, _, .l r t n, a, m => by
    rcases List.mem_append.mp m with m | m
    · exact r.dom a m
    · exact RepE.dom t a m
  | _, _, _, .bag _ t, a, m => RepE.dom t a m
  | _, _, _, .o r t n, a, m => by
    rcases List.mem_append.mp m with m | m
    · exact r.dom a m
    · exact RepE.dom t a m
theorem RepE.mono (e : Same G G') : ∀ {σ : L2.St} {ρ : Env'} {F : List Addr}, RepE K B G H σ ρ F → (∀ a ∈ F, G' a = none) → (∀ a ∈ F, ∀ u, H a = some u → H' a = some u) → RepE K B G' H' σ ρ F
  | _, _, _, .nil, _, _ => .nil
  | _, _, _, .non t, k1, k2 => .non (RepE.mono e t k1 k2)
  | _, _, _, .d h t, k1, k2 => .d (h.same e) (RepE.mono e t k1 k2)
  | _, _, _, .l r t n, k1, k2 => .l (r.mono e (fun a m => k1 a (List.mem_append_left _ m)) fun a m => k2 a (List.mem_append_left _ m))
      (RepE.mono e t (fun a m => k1 a (List.mem_append_right _ m)) fun a m => k2 a (List.mem_append_right _ m)) n
  | _, _, _, .bag h t, k1, k2 => .bag h (RepE.mono e t k1 k2)
  | _, _, _, .o r t n, k1, k2 => .o (r.mono e (fun a m => k1 a (List.mem_append_left _ m)) fun a m => k2 a (List.mem_append_left _ m))
      (RepE.mono e t (fun a m => k1 a (List.mem_append_right _ m)) fun a m => k2 a (List.mem_append_right _ m)) n
theorem RepE.length : ∀ {σ : L2.St} {ρ : Env'} {F : List Addr}, RepE K B G H σ ρ F → σ.length = ρ.length
  | _, _, _, .nil => rfl
  | _, _, _, .non t => by rw [List.length_cons, List.length_cons, RepE.length t]
  | _, _, _, .d _ t => by rw [List.length_cons, List.length_cons, RepE.length t]
  | _, _, _, .l _ t _ => by rw [List.length_cons, List.length_cons, RepE.length t]
  | _, _, _, .bag _ t => by rw [List.length_cons, List.length_cons, RepE.length t]
  | _, _, _, .o _ t _ => by rw [List.length_cons, List.length_cons, RepE.length t]
/-- a new head -/
theorem RepN.push {v : V} {n : En} {F1 F2 : List Addr} {σ : L2.St} {ρ : Env'} (h : RepN K B G H v n F1) (t : RepE K B G H σ ρ F2) (k : ∀ a ∈ F1, a ∉ F2) : RepE K B G H (some v :: σ) (some n :: ρ) (F1 ++ F2) := by
  cases h with
  | d h => exact .d h t
  | l h => exact .l h t k
  | bag h => exact .bag h t
  | o h => exact .o h t k
theorem RepE.pop {x : Option V} {y : Option En} {F : List Addr} {σ : L2.St} {ρ : Env'} (h : RepE K B G H (x :: σ) (y :: ρ) F) : ∃ F1 F2, F = F1 ++ F2 ∧ RepE K B G H σ ρ F2 ∧ (∀ a ∈ F1, a ∉ F2) ∧
    ∀ n, y = some n → ∃ v, x = some v ∧ RepN K B G H v n F1 := by
  cases h with
  | non t => exact ⟨[], F, rfl, t, (fun _ m => nomatch m), fun n e => nomatch e⟩
  | d h t => exact ⟨[], F, rfl, t, (fun _ m => nomatch m), fun n e => by cases e; exact ⟨_, rfl, .d h⟩⟩
  | l r t n => exact ⟨_, _, rfl, t, n, fun n e => by cases e; exact ⟨_, rfl, .l r⟩⟩
  | bag h t => exact ⟨[], F, rfl, t, (fun _ m => nomatch m), fun n e => by cases e; exact ⟨_, rfl, .bag h⟩⟩
  | o r t n => exact ⟨_, _, rfl, t, n, fun n e => by cases e; exact ⟨_, rfl, .o r⟩⟩
theorem RepE.get : ∀ {i : Nat} {σ : L2.St} {ρ : Env'} {F : List Addr} {n : En}, RepE K B G H σ ρ F → ρ[i]? = some (some n) → ∃ v F1, σ[i]? = some (some v) ∧ RepN K B G H v n F1 ∧ ∀ a ∈ F1, a ∈ F
  | i, [], ρ, F, n, h, e => by
    cases h
    simp at e
  | 0, x :: σ, ρ, F, n, h, e => by
    match ρ, h, e with
    | y :: ρ, h, e =>
      obtain ⟨F1, F2, rfl, _, _, k⟩ := h.pop
      obtain ⟨v, rfl, r⟩ := k n (by simpa using e)
      exact ⟨v, F1, rfl, r, fun a m => List.mem_append_left _ m⟩
  | i + 1, x :: σ, ρ, F, n, h, e => by
    match ρ, h, e with
    | y :: ρ, h, e =>
      obtain ⟨F1, F2, rfl, t, _, _⟩ := h.pop
      obtain ⟨v, F3, e1, r, k⟩ := RepE.get (i := i) t (by simpa using e)
      exact ⟨v, F3, by simpa using e1, r, fun a m => List.mem_append_right _ (k a m)⟩
/-- a slot stored (what it held is forgotten) -/
theorem RepE.set {v : V} {n : En} {Fv : List Addr} (hv : RepN K B G H v n Fv) : ∀ {i : Nat} {σ : L2.St} {ρ : Env'} {F : List Addr}, RepE K B G H σ ρ F → (∀ a ∈ Fv, a ∉ F) →
    ∃ F', RepE K B G H (σ.set i (some v)) (ρ.set i (some n)) F' ∧ ∀ a ∈ F', a ∈ F ∨ a ∈ Fv
  | i, [], ρ, F, h, k => by
    cases h
    exact ⟨[], .nil, fun a m => nomatch m⟩
  | 0, x :: σ, ρ, F, h, k => by
    match ρ, h with
    | y :: ρ, h =>
      obtain ⟨F1, F2, rfl, t, _, _⟩ := h.pop
      exact ⟨Fv ++ F2, hv.push t (fun a m z => k a m (List.mem_append_right _ z)), fun a m => (List.mem_append.mp m).elim .inr fun m => .inl (List.mem_append_right _ m)⟩
  | i + 1, x :: σ, ρ, F, h, k => by
    match ρ, h with
    | y :: ρ, h =>
      obtain ⟨F1, F2, rfl, t, n1, g⟩ := h.pop
      obtain ⟨F', r, c⟩ := RepE.set hv (i := i) t (fun a m z => k a m (List.mem_append_right _ z))
      cases y with
      | none => exact ⟨F', .non r, fun a m => (c a m).elim (fun m => .inl (List.mem_append_right _ m)) .inr⟩
      | some n2 =>
        obtain ⟨v2, rfl, q⟩ := g n2 rfl
        refine ⟨F1 ++ F', q.push r (fun a m z => ?_), fun a m => ?_⟩
        · rcases c a z with z | z
          · exact n1 a m z
          · exact k a z (List.mem_append_left _ m)
        · rcases List.mem_append.mp m with m | m
          · exact .inl (List.mem_append_left _ m)
          · exact (c a m).elim (fun m => .inl (List.mem_append_right _ m)) .inr
/-- a slot forgotten -/
theorem RepE.forget : ∀ {i : Nat} {σ : L2.St} {ρ : Env'} {F : List Addr} {x : Option V}, RepE K B G H σ ρ F → ∃ F', RepE K B G H (σ.set i x) (ρ.set i none) F' ∧ ∀ a ∈ F', a ∈ F
  | i, [], ρ, F, x, h => by
    cases h
    exact ⟨[], .nil, fun a m => m⟩
  | 0, x :: σ, ρ, F, _, h => by
    match ρ, h with
    | y :: ρ, h =>
      obtain ⟨F1, F2, rfl, t, _, _⟩ := h.pop
      exact ⟨F2, .non t, fun a m => List.mem_append_right _ m⟩
  | i + 1, x :: σ, ρ, F, _, h => by
    match ρ, h with
    | y :: ρ, h =>
      obtain ⟨F1, F2, rfl, t, n1, g⟩ := h.pop
      obtain ⟨F', r, c⟩ := RepE.forget (i := i) t
      cases y with
      | none => exact ⟨F', .non r, fun a m => List.mem_append_right _ (c a m)⟩
      | some n2 =>
        obtain ⟨v2, rfl, q⟩ := g n2 rfl
        exact ⟨F1 ++ F', q.push r (fun a m z => n1 a m (c a z)), fun a m => (List.mem_append.mp m).elim (fun m => List.mem_append_left _ m) fun m => List.mem_append_right _ (c a m)⟩
/-- a slot's own things are changed -/
theorem RepE.change : ∀ {i : Nat} {σ : L2.St} {ρ : Env'} {F : List Addr} {n : En}, RepE K B G H σ ρ F → ρ[i]? = some (some n) → ∃ v F1, σ[i]? = some (some v) ∧ RepN K B G H v n F1 ∧ (∀ a ∈ F1, a ∈ F) ∧
    ∀ (G' H' : Hp) (n' : En) (F1' : List Addr), Same G G' → (∀ a ∈ F, a ∉ F1 → G' a = none ∧ ∀ u, H a = some u → H' a = some u) → RepN K B G' H' v n' F1' → (∀ a ∈ F1', a ∈ F1 ∨ a ∉ F) →
      ∃ F', RepE K B G' H' σ (ρ.set i (some n')) F' ∧ ∀ a ∈ F', a ∈ F ∨ a ∈ F1'
  | i, [], ρ, F, n, h, e => by
    cases h
    simp at e
  | 0, x :: σ, ρ, F, n, h, e => by
    match ρ, h, e with
    | y :: ρ, h, e =>
      obtain ⟨F1, F2, rfl, t, dj, k⟩ := h.pop
      obtain ⟨v, rfl, r⟩ := k n (by simpa using e)
      refine ⟨v, F1, rfl, r, fun a m => List.mem_append_left _ m, fun G' H' n' F1' sG ot r' c => ⟨F1' ++ F2, ?_, fun a m => ?_⟩⟩
      · refine r'.push (t.mono sG (fun a m => ?_) (fun a m => ?_)) (fun a m z => ?_)
        · exact (ot a (List.mem_append_right _ m) (fun z => dj a z m)).1
        · exact (ot a (List.mem_append_right _ m) (fun z => dj a z m)).2
        · rcases c a m with m | m
          · exact dj a m z
          · exact m (List.mem_append_right _ z)
      · exact (List.mem_append.mp m).elim .inr fun m => .inl (List.mem_append_right _ m)
  | i + 1, x :: σ, ρ, F, n, h, e => by
    match ρ, h, e with
    | y :: ρ, h, e =>
      obtain ⟨F1, F2, rfl, t, dj, g⟩ := h.pop
      obtain ⟨v, F3, e1, r, k, go⟩ := RepE.change (i := i) t (by simpa using e)
      refine ⟨v, F3, by simpa using e1, r, fun a m => List.mem_append_right _ (k a m), fun G' H' n' F1' sG ot r' c => ?_⟩
      obtain ⟨F', q, c2⟩ := go G' H' n' F1' sG (fun a m z => ot a (List.mem_append_right _ m) z) r' (fun a m => (c a m).elim .inl fun m => .inr fun z => m (List.mem_append_right _ z))
      cases y with
      | none => exact ⟨F', .non q, fun a m => (c2 a m).elim (fun m => .inl (List.mem_append_right _ m)) .inr⟩
      | some n2 =>
        obtain ⟨v2, rfl, q2⟩ := g n2 rfl
        have no : ∀ a ∈ F1, a ∉ F3 := fun a m z => dj a m (k a z)
        refine ⟨F1 ++ F', (q2.mono sG (fun a m => (ot a (List.mem_append_left _ m) (no a m)).1) (fun a m => (ot a (List.mem_append_left _ m) (no a m)).2)).push q (fun a m z => ?_), fun a m => ?_⟩
        · rcases c2 a z with z | z
          · exact dj a m z
          · rcases c a z with z | z
            · exact dj a m (k a z)
            · exact z (List.mem_append_left _ m)
        · rcases List.mem_append.mp m with m | m
          · exact .inl (List.mem_append_left _ m)
          · exact (c2 a m).elim (fun m => .inl (List.mem_append_right _ m)) .inr
def En.frz : En → En
  | .l xs => .d (.list (eraseAll xs))
  | .o _ C fs => .d (obD C fs)
  | n => n
def frz (ρ : Env') : Env' := ρ.map fun x => x.map En.frz
/-- all that is one's own is frozen -/
theorem RepE.freeze (e : Same G G') : ∀ {σ : L2.St} {ρ : Env'} {F : List Addr}, RepE K B G H σ ρ F → (∀ a ∈ F, ∀ u, H a = some u → G' a = some u) → RepE K B G' H σ (frz ρ) []
  | _, _, _, .nil, _ => .nil
  | _, _, _, .non t, k => .non (RepE.freeze e t k)
  | _, _, _, .d h t, k => .d (h.same e) (RepE.freeze e t k)
  | _, _, _, .l r t n, k => .d (r.freeze e fun a m => k a (List.mem_append_left _ m)) (RepE.freeze e t fun a m => k a (List.mem_append_right _ m))
  | _, _, _, .bag h t, k => .bag h (RepE.freeze e t k)
  | _, _, _, .o r t n, k => .d (r.freeze e fun a m => k a (List.mem_append_left _ m)) (RepE.freeze e t fun a m => k a (List.mem_append_right _ m))
end

/-- where a def stands: its own frame -/
structure Wd (K : PySem.W.Frag) (G0 H0 : Hp) (B : Option (Addr × Addr)) (G H : Hp) (σ : L2.St) (ρ : Env') (F : List Addr) : Prop where
  sGH : Same G H
  sG : Same G0 G
  fr : ∀ a, G a ≠ none → G0 a ≠ none ∨ H0 a = none
  keep : ∀ a u, H0 a = some u → NotB B a → H a = some u
  own : ∀ a ∈ F, H0 a = none
  bag : ∀ b, B = some b → BagAt G H b ∧ G b.1 = none ∧ H0 b.1 ≠ none
  env : RepE K B G H σ ρ F
/-- an expression's step -/
structure Stp (B : Option (Addr × Addr)) (G H G' H' : Hp) : Prop where
  keep : ∀ a u, H a = some u → NotB B a → H' a = some u
  sG : Same G G'
  sGH : Same G' H'
  fr : ∀ a, G' a ≠ none → G a ≠ none ∨ H a = none
  bag : ∀ b, B = some b → BagAt G H b → BagAt G' H' b
section
variable {K : PySem.W.Frag} {B : Option (Addr × Addr)} {G0 H0 G H G' H' G2 H2 : Hp} {σ : L2.St} {ρ : Env'} {F : List Addr}
theorem Stp.refl (e : Same G H) : Stp B G H G H := ⟨fun _ _ h _ => h, Same.refl _, e, fun _ h => .inl h, fun _ _ h => h⟩
theorem isB {a : Addr} (h : ¬ NotB B a) : ∃ c, B = some (a, c) := Classical.byContradiction fun k => h fun c e => k ⟨c, e⟩
theorem BagAt.some {b : Addr × Addr} (h : BagAt G H b) : H b.1 ≠ none := by
  obtain ⟨g, s, i, ns, e, _⟩ := h
  rw [e]
  exact nofun
theorem Stp.trans (s : Stp B G H G' H') (t : Stp B G' H' G2 H2) (hb : ∀ b, B = some b → BagAt G H b) : Stp B G H G2 H2 where
  keep a u h n := t.keep a u (s.keep a u h n) n
  sG := s.sG.trans t.sG
  sGH := t.sGH
  fr a h := by
    rcases t.fr a h with h | h
    · exact s.fr a h
    · cases e : H a with
      | none => exact .inr rfl
      | some u =>
        by_cases n : NotB B a
        · rw [s.keep a u e n] at h
          cases h
        · obtain ⟨c, n⟩ := isB n
          exact absurd h (s.bag _ n (hb _ n)).some
  bag b e h := t.bag b e (s.bag b e h)
theorem Wd.step (w : Wd K G0 H0 B G H σ ρ F) (s : Stp B G H G' H') : Wd K G0 H0 B G' H' σ ρ F where
  sGH := s.sGH
  sG := w.sG.trans s.sG
  fr a h := by
    rcases s.fr a h with h | h
    · exact w.fr a h
    · cases e : H0 a with
      | none => exact .inr rfl
      | some u =>
        by_cases n : NotB B a
        · rw [w.keep a u e n] at h
          cases h
        · obtain ⟨c, n⟩ := isB n
          exact absurd h (w.bag _ n).1.some
  keep a u h n := s.keep a u (w.keep a u h n) n
  own := w.own
  bag b e := by
    obtain ⟨h1, h2, h3⟩ := w.bag b e
    refine ⟨s.bag b e h1, ?_, h3⟩
    cases q : G' b.1 with
    | none => rfl
    | some u =>
      rcases s.fr b.1 (by rw [q]; exact nofun) with z | z
      · exact absurd h2 z
      · exact absurd z h1.some
  env := by
    have nb : ∀ a ∈ F, NotB B a := fun a m c e => (w.bag _ e).2.2 (w.own a m)
    refine w.env.mono s.sG (fun a m => ?_) (fun a m u h => s.keep a u h (nb a m))
    obtain ⟨h1, h2⟩ := w.env.dom a m
    cases q : G' a with
    | none => rfl
    | some u =>
      rcases s.fr a (by rw [q]; exact nofun) with z | z
      · exact absurd h1 z
      · exact absurd z h2
/-- a new thing is laid and frozen -/
theorem Stp.lay {p : Addr} {o : HO} (e : Same G H) (n : H p = none) : Stp B G H (upd G p o) (upd H p o) where
  keep a u h _ := by rw [upd_ne (ne_of_none h n)]; exact h
  sG a u h := by rw [upd_ne (ne_of_none (e _ _ h) n)]; exact h
  sGH a u h := by
    by_cases z : a = p
    · subst z
      rw [upd_same] at h ⊢
      exact h
    · rw [upd_ne z] at h ⊢
      exact e _ _ h
  fr a h := by
    by_cases z : a = p
    · subst z
      exact .inr n
    · rw [upd_ne z] at h
      exact .inl h
  bag b _ h := by
    obtain ⟨g, s, i, ns, h1, h2, h3⟩ := h
    exact ⟨g, s, i, ns, by rw [upd_ne (ne_of_none h1 n)]; exact h1, by rw [upd_ne (ne_of_none (e _ _ h2) n)]; exact h2, h3⟩
/-- a new thing is laid, and stays one's own -/
theorem Stp.new {p : Addr} {o : HO} (e : Same G H) (n : H p = none) : Stp B G H G (upd H p o) where
  keep a u h _ := by rw [upd_ne (ne_of_none h n)]; exact h
  sG := Same.refl _
  sGH a u h := by rw [upd_ne (ne_of_none (e _ _ h) n)]; exact e _ _ h
  fr a h := .inl h
  bag b _ h := by
    obtain ⟨g, s, i, ns, h1, h2, h3⟩ := h
    exact ⟨g, s, i, ns, by rw [upd_ne (ne_of_none h1 n)]; exact h1, h2, h3⟩
theorem RepO.step {v : V} {o : O} {Fv : List Addr} (r : RepO K G H v o Fv) (s : Stp B G H G' H') (nb : ∀ a ∈ Fv, NotB B a) : RepO K G' H' v o Fv := by
  refine r.mono s.sG (fun a m => ?_) (fun a m u h => s.keep a u h (nb a m))
  obtain ⟨h1, h2⟩ := r.dom a m
  cases q : G' a with
  | none => rfl
  | some u =>
    rcases s.fr a (by rw [q]; exact nofun) with z | z
    · exact absurd h1 z
    · exact absurd z h2
end
end DL
set_option Elab.async false
set_option linter.all false
set_option maxRecDepth 100000
set_option maxHeartbeats 1000000
/-! DL2: expressions over data -/
namespace DL
open PySem PySem.Spec PyProof.Rows L2 GL
abbrev DT := Env' → (PyData → Prop) → Prop
abbrev OT := Env' → (O → Prop) → Prop
abbrev BT := Env' → (Bool → Prop) → Prop
abbrev LT := Env' → (List PyData → Prop) → Prop
def liftE (K : PySem.W.Frag) (T : DT) : TE := fun σ H Q => ∃ G0 H0 B G ρ F P, Wd K G0 H0 B G H σ ρ F ∧ T ρ P ∧ ∀ d G' H' v, P d → Stp B G H G' H' → Dr K G' v d → Q v H'
def liftO (K : PySem.W.Frag) (T : OT) : TE := fun σ H Q => ∃ G0 H0 B G ρ F P, Wd K G0 H0 B G H σ ρ F ∧ T ρ P ∧ ∀ o G' H' v Fv, P o → Stp B G H G' H' → RepO K G' H' v o Fv → (∀ a ∈ Fv, H a = none) → Q v H'
def liftB (K : PySem.W.Frag) (T : BT) : TT := fun σ H Q => ∃ G0 H0 B G ρ F P, Wd K G0 H0 B G H σ ρ F ∧ T ρ P ∧ ∀ b G' H', P b → Stp B G H G' H' → Q b H'
def liftL (K : PySem.W.Frag) (n : Nat) (T : LT) : TA := fun σ H Q => ∃ G0 H0 B G ρ F P, Wd K G0 H0 B G H σ ρ F ∧ T ρ P ∧ ∀ ds G' H' vs, P ds → ds.length = n → Stp B G H G' H' → DrAll K G' vs ds → Q vs H'
structure DE (K : PySem.W.Frag) (X : Cx) (e : Expr) (T : DT) : Prop where
  pe : PE X e (liftE K T)
structure DO (K : PySem.W.Frag) (X : Cx) (e : Expr) (T : OT) : Prop where
  pe : PE X e (liftO K T)
structure DB (K : PySem.W.Frag) (X : Cx) (e : Expr) (T : BT) : Prop where
  pt : PT X e (liftB K T)
structure DW (K : PySem.W.Frag) (X : Cx) (e : Expr) (T : BT) : Prop where
  pw : PW X e (liftB K T)
structure DA (K : PySem.W.Frag) (X : Cx) (es : List Expr) (T : LT) : Prop where
  pa : PA X es (liftL K es.length T)
theorem PE.weak {X : Cx} {e : Expr} {t t' : TE} (h : PE X e t) (k : ∀ σ H Q, t' σ H Q → t σ H Q) : PE X e t' := ⟨fun pins s σ H Q I q => h.run pins s σ H Q I (k σ H Q q)⟩
theorem PT.weak {X : Cx} {e : Expr} {t t' : TT} (h : PT X e t) (k : ∀ σ H Q, t' σ H Q → t σ H Q) : PT X e t' := ⟨fun pins s σ H Q I q => h.run pins s σ H Q I (k σ H Q q)⟩
theorem PW.weak {X : Cx} {e : Expr} {t t' : TT} (h : PW X e t) (k : ∀ σ H Q, t' σ H Q → t σ H Q) : PW X e t' := ⟨fun wh pins s σ H Q I q => h.run wh pins s σ H Q I (k σ H Q q)⟩
theorem PA.weak {X : Cx} {es : List Expr} {t t' : TA} (h : PA X es t) (k : ∀ σ H Q, t' σ H Q → t σ H Q) : PA X es t' := ⟨fun pos pins s σ H Q I q => h.run pos pins s σ H Q I (k σ H Q q)⟩
theorem Wd.bags {K : PySem.W.Frag} {B : Option (Addr × Addr)} {G0 H0 G H : Hp} {σ : L2.St} {ρ : Env'} {F : List Addr} (w : Wd K G0 H0 B G H σ ρ F) : ∀ b, B = some b → BagAt G H b := fun b e => (w.bag b e).1

section
variable {K : PySem.W.Frag} {X : Cx} {e a b c : Expr} {es : List Expr} {Ta Tb Tc : DT} {To : OT} {Tt Tu : BT} {pos : Pos}
/-- frozen -/
theorem DO.d (h : DO K X e To) : DE K X e (fun ρ P => To ρ fun o => P o.erase) := by
  refine ⟨PE.weak h.pe fun σ H Q h => ?_⟩
  obtain ⟨G0, H0, B, G, ρ, F, P, w, t, k⟩ := h
  refine ⟨G0, H0, B, G, ρ, F, _, w, t, fun o G' H' v Fv p s r n => ?_⟩
  have h1 := fun a m => (r.dom a m).1
  refine k o.erase (addF G' H' Fv) H' v p ⟨s.keep, s.sG.trans (addF_ext h1), addF_sub s.sGH, fun a q => ?_, fun b e h => ?_⟩ (r.freeze (addF_ext h1) fun a m u e => by rw [addF_in m]; exact e)
  · by_cases m : a ∈ Fv
    · exact .inr (n a m)
    · rw [addF_out m] at q
      exact s.fr a q
  · obtain ⟨g, s', i, ns, e1, e2, e3⟩ := s.bag b e h
    exact ⟨g, s', i, ns, e1, addF_ext h1 _ _ e2, e3⟩
theorem DE.o (h : DE K X e Ta) : DO K X e (fun ρ P => Ta ρ fun d => P (.dat d)) := by
  refine ⟨PE.weak h.pe fun σ H Q h => ?_⟩
  obtain ⟨G0, H0, B, G, ρ, F, P, w, t, k⟩ := h
  exact ⟨G0, H0, B, G, ρ, F, _, w, t, fun d G' H' v p s r => k _ G' H' v [] p s (.dat r) fun _ m => nomatch m⟩
/-- a constant -/
theorem de_c {v : V} {d : PyData} (h : PE X e (tC v)) (hd : ∀ G, Dr K G v d) : DE K X e (fun _ P => P d) := by
  refine ⟨PE.weak h fun σ H Q h => ?_⟩
  obtain ⟨G0, H0, B, G, ρ, F, P, w, t, k⟩ := h
  exact k d G H v t (.refl w.sGH) (hd G)
theorem de_int {i j pos} : DE K X (.Constant (.int i) j pos) (fun _ P => P (.int i)) := de_c pe_int fun _ => .int i
theorem de_bl {b j pos} : DE K X (.Constant (.bool b) j pos) (fun _ P => P (.bool b)) := de_c pe_bl fun _ => .bl b
theorem de_non {j pos} : DE K X (.Constant .none j pos) (fun _ P => P .none) := de_c pe_non fun _ => .non
theorem de_str {x j pos} : DE K X (.Constant (.str x) j pos) (fun _ P => P (.str x)) := de_c pe_str fun _ => .str x
/-- a name that holds data -/
theorem de_v {i : Nat} (h : PE X e (tVar i)) : DE K X e (fun ρ P => ∃ d, ρ[i]? = some (some (.d d)) ∧ P d) := by
  refine ⟨PE.weak h fun σ H Q h => ?_⟩
  obtain ⟨G0, H0, B, G, ρ, F, P, w, ⟨d, e1, t⟩, k⟩ := h
  obtain ⟨v, F1, e2, r, _⟩ := w.env.get e1
  cases r with
  | d r => exact ⟨v, e2, k d G H v t (.refl w.sGH) r⟩
/-- a flat answer, all that is one's own being read -/
def flatD : PyData → Bool
  | .list _ => false
  | .tuple _ => false
  | .dict _ => false
  | _ => true
theorem Dr.flat {G G' : Hp} {v : V} {d : PyData} (h : Dr K G v d) (f : flatD d = true) : Dr K G' v d := by
  cases h with
  | non => exact .non
  | bl b => exact .bl b
  | int i => exact .int i
  | str x => exact .str x
  | lst a b => cases f
  | tup a b => cases f
  | dct a b => cases f
  | ins _ _ _ _ => cases f
theorem frz_wd {G0 H0 : Hp} {B : Option (Addr × Addr)} {G H : Hp} {σ : L2.St} {ρ : Env'} {F : List Addr} (w : Wd K G0 H0 B G H σ ρ F) : Wd K G0 H0 B (addF G H F) H σ (frz ρ) [] := by
  have h1 := fun a m => (w.env.dom a m).1
  refine ⟨addF_sub w.sGH, w.sG.trans (addF_ext h1), fun a q => ?_, w.keep, fun _ m => (nomatch m), fun b e => ?_, w.env.freeze (addF_ext h1) fun a m u e => by rw [addF_in m]; exact e⟩
  · by_cases m : a ∈ F
    · exact .inr (w.own a m)
    · rw [addF_out m] at q
      exact w.fr a q
  · obtain ⟨⟨g, s', i, ns, e1, e2, e3⟩, g2, g3⟩ := w.bag b e
    have nb : b.1 ∉ F := fun m => g3 (w.own b.1 m)
    exact ⟨⟨g, s', i, ns, e1, addF_ext h1 _ _ e2, e3⟩, by rw [addF_out nb]; exact g2, g3⟩
theorem frz_back {G0 H0 : Hp} {B : Option (Addr × Addr)} {G H G' H' : Hp} {σ : L2.St} {ρ : Env'} {F : List Addr} (w : Wd K G0 H0 B G H σ ρ F) (s : Stp B (addF G H F) H G' H') : Stp B G H G H' := by
  have h1 := fun a m => (w.env.dom a m).1
  refine ⟨s.keep, Same.refl _, fun a u e => s.sGH _ _ (s.sG _ _ (addF_ext h1 _ _ e)), fun a h => .inl h, fun b e h => ?_⟩
  obtain ⟨g, s', i, ns, e1, e2, e3⟩ := h
  obtain ⟨g', s'', i', ns', k1, k2, k3⟩ := s.bag b e ⟨g, s', i, ns, e1, addF_ext h1 _ _ e2, e3⟩
  exact ⟨g', s'', i', ns, k1, e2, k3⟩
theorem de_flat (h : DE K X e Ta) : DE K X e (fun ρ P => Ta (frz ρ) fun d => flatD d = true ∧ P d) := by
  refine ⟨PE.weak h.pe fun σ H Q h => ?_⟩
  obtain ⟨G0, H0, B, G, ρ, F, P, w, t, k⟩ := h
  exact ⟨G0, H0, B, _, _, _, _, frz_wd w, t, fun d G' H' v p s r => k d G H' v p.2 (frz_back w s) (r.flat p.1)⟩
theorem db_flat (h : DB K X e Tt) : DB K X e (fun ρ P => Tt (frz ρ) P) := by
  refine ⟨PT.weak h.pt fun σ H Q h => ?_⟩
  obtain ⟨G0, H0, B, G, ρ, F, P, w, t, k⟩ := h
  exact ⟨G0, H0, B, _, _, _, _, frz_wd w, t, fun d G' H' p s => k d G H' p (frz_back w s)⟩

/-! ### arguments -/
theorem da_nil : DA K X [] (fun _ P => P []) := by
  refine ⟨PA.weak pa_nil fun σ H Q h => ?_⟩
  obtain ⟨G0, H0, B, G, ρ, F, P, w, t, k⟩ := h
  exact k [] G H [] t rfl (.refl w.sGH) .nil
theorem da_cons {Tl : LT} (h : DE K X e Ta) (ht : DA K X es Tl) (hs : starEach (e :: es) X.env = (false, eval e X.env) :: starEach es X.env := by rfl) : DA K X (e :: es) (fun ρ P => Ta ρ fun d => Tl ρ fun ds => P (d :: ds)) := by
  refine ⟨PA.weak (pa_cons h.pe ht.pa hs) fun σ H Q h => ?_⟩
  obtain ⟨G0, H0, B, G, ρ, F, P, w, t, k⟩ := h
  refine ⟨G0, H0, B, G, ρ, F, _, w, t, fun d G1 H1 v p1 s1 r1 => ⟨G0, H0, B, G1, ρ, F, _, w.step s1, p1, fun ds G2 H2 vs p2 e2 s2 r2 => ?_⟩⟩
  exact k (d :: ds) G2 H2 (v :: vs) p2 (by rw [List.length_cons, e2, List.length_cons]) (s1.trans s2 w.bags) (.cons (r1.same s2.sG) r2)
theorem small {n : Nat} (h : n ≤ 1000) : n ≤ sizeLine := by
  rw [sizeLine_eq]
  omega
/-- [a, b, ..]: one's own -/
theorem do_lst {Tl : LT} (h : DA K X es Tl) (hn : es.length ≤ 1000 := by decide) : DO K X (.List es pos) (fun ρ P => Tl ρ fun ds => P (.lst (ds.map .dat))) := by
  refine ⟨PE.weak (pe_lst h.pa) fun σ H Q h => ?_⟩
  obtain ⟨G0, H0, B, G, ρ, F, P, w, t, k⟩ := h
  refine ⟨G0, H0, B, G, ρ, F, _, w, t, fun ds G1 H1 vs p e s r => ⟨small (by rw [r.length, e]; exact hn), fun p' np => ?_⟩⟩
  have gp : G1 p' = none := by
    cases q : G1 p' with
    | none => rfl
    | some u => rw [s.sGH _ _ q] at np; cases np
  refine k _ G1 _ (.ref p') (p' :: []) p (s.trans (Stp.new s.sGH np) w.bags) (.lst gp upd_same (.ofDat r) (fun m => nomatch m)) fun a m => ?_
  rw [List.mem_singleton.mp m]
  cases q : H p' with
  | none => rfl
  | some u =>
    by_cases z : NotB B p'
    · rw [s.keep _ _ q z] at np
      cases np
    · obtain ⟨c, z⟩ := isB z
      exact absurd np (s.bag _ z (w.bag _ z).1).some
theorem Stp.none_back {B : Option (Addr × Addr)} {G H G' H' : Hp} (s : Stp B G H G' H') (hb : ∀ b, B = some b → BagAt G H b) {p : Addr} (n : H' p = none) : H p = none := by
  cases q : H p with
  | none => rfl
  | some u =>
    by_cases z : NotB B p
    · rw [s.keep _ _ q z] at n
      cases n
    · obtain ⟨c, z⟩ := isB z
      exact absurd n (s.bag _ z (hb _ z)).some
theorem Stp.gnone {B : Option (Addr × Addr)} {G H G' H' : Hp} (s : Stp B G H G' H') {p : Addr} (n : H' p = none) : G' p = none := by
  cases q : G' p with
  | none => rfl
  | some u => rw [s.sGH _ _ q] at n; cases n
/-- (a, b, ..) -/
theorem de_tup {x1} {Tl : LT} (h : DA K X es Tl) (hn : es.length ≤ 1000 := by decide) : DE K X (.Tuple es x1 pos) (fun ρ P => Tl ρ fun ds => P (.tuple ds)) := by
  refine ⟨PE.weak (pe_tup h.pa) fun σ H Q h => ?_⟩
  obtain ⟨G0, H0, B, G, ρ, F, P, w, t, k⟩ := h
  refine ⟨G0, H0, B, G, ρ, F, _, w, t, fun ds G1 H1 vs p e s r => ⟨small (by rw [r.length, e]; exact hn), fun p' np => ?_⟩⟩
  have s2 := Stp.lay (B := B) (o := .tup vs) s.sGH np
  exact k _ _ _ (.ref p') p (s.trans s2 w.bags) (.tup (.inl (.inl upd_same)) (r.same s2.sG))

/-! ### operators by values -/
/-- what a two-place rule asks, over data -/
def OpData (K : PySem.W.Frag) (r : R2) (R : PyData → PyData → (PyData → Prop) → Prop) : Prop :=
  ∀ (B : Option (Addr × Addr)) (G H : Hp) (d e : PyData) (x y : V) (P : PyData → Prop) (Q : VK), Same G H → Dr K G x d → Dr K G y e → R d e P →
    (∀ d' G' H' v, P d' → Stp B G H G' H' → Dr K G' v d' → Q v H') → r x y H Q
def OpOwn (K : PySem.W.Frag) (r : R2) (R : PyData → PyData → (O → Prop) → Prop) : Prop :=
  ∀ (B : Option (Addr × Addr)) (G H : Hp) (d e : PyData) (x y : V) (P : O → Prop) (Q : VK), Same G H → Dr K G x d → Dr K G y e → R d e P →
    (∀ o G' H' v Fv, P o → Stp B G H G' H' → RepO K G' H' v o Fv → (∀ a ∈ Fv, H a = none) → Q v H') → r x y H Q
section
variable {r : R2} {R : PyData → PyData → (PyData → Prop) → Prop} {Ro : PyData → PyData → (O → Prop) → Prop}
theorem lift2 (hR : OpData K r R) (ha : DE K X a Ta) (hb : DE K X b Tb) (σ : L2.St) (H : Hp) (Q : VK) (h : liftE K (fun ρ P => Ta ρ fun d => Tb ρ fun e => R d e P) σ H Q) : tOp r (liftE K Ta) (liftE K Tb) σ H Q := by
  obtain ⟨G0, H0, B, G, ρ, F, P, w, t, k⟩ := h
  refine ⟨G0, H0, B, G, ρ, F, _, w, t, fun d G1 H1 x p1 s1 r1 => ⟨G0, H0, B, G1, ρ, F, _, w.step s1, p1, fun e G2 H2 y p2 s2 r2 => ?_⟩⟩
  refine hR B G2 H2 d e x y P Q s2.sGH (r1.same s2.sG) r2 p2 fun d' G' H' v p s rv => ?_
  exact k d' G' H' v p ((s1.trans s2 w.bags).trans s w.bags) rv
theorem de_op {op : Operator} (ho : OpR X (binaryOp op) r) (hR : OpData K r R) (ha : DE K X a Ta) (hb : DE K X b Tb) : DE K X (.BinOp a op b pos) (fun ρ P => Ta ρ fun d => Tb ρ fun e => R d e P) :=
  ⟨PE.weak (pe_op ho ha.pe hb.pe) (lift2 hR ha hb)⟩
theorem de_cmp {op : CmpOp} (ho : OpR X (compareOp op) r) (hR : OpData K r R) (ha : DE K X a Ta) (hb : DE K X b Tb) (hm : behindInMarks op b = false) : DE K X (.Compare a [op] [b] pos) (fun ρ P => Ta ρ fun d => Tb ρ fun e => R d e P) :=
  ⟨PE.weak (pe_cmpR ho ha.pe hb.pe hm) (lift2 hR ha hb)⟩
theorem de_ix (hr : IxR X r) (hR : OpData K r R) (ha : DE K X a Ta) (hb : DE K X b Tb) (hs : PlainIx b) : DE K X (.Subscript a b pos) (fun ρ P => Ta ρ fun d => Tb ρ fun e => R d e P) :=
  ⟨PE.weak (pe_ix hr ha.pe hb.pe hs) (lift2 hR ha hb)⟩
theorem db_cmp {op : CmpOp} (ho : OpR X (compareOp op) r) (hR : OpData K r R) (ha : DE K X a Ta) (hb : DE K X b Tb) (hm : behindInMarks op b = false) :
    DB K X (.Compare a [op] [b] pos) (fun ρ P => Ta ρ fun d => Tb ρ fun e => R d e fun x => ∃ k, x = .bool k ∧ P k) := by
  refine ⟨PT.weak (pt_cmpR ho ha.pe hb.pe hm) fun σ H Q h => ?_⟩
  obtain ⟨G0, H0, B, G, ρ, F, P, w, t, k⟩ := h
  refine lift2 hR ha hb σ H _ ⟨G0, H0, B, G, ρ, F, _, w, t, fun d G' H' v p s rv => ?_⟩
  obtain ⟨kk, rfl, p⟩ := p
  exact ⟨kk, rv.bool, k kk G' H' p s⟩
theorem do_op {op : Operator} (ho : OpR X (binaryOp op) r) (hR : OpOwn K r Ro) (ha : DE K X a Ta) (hb : DE K X b Tb) : DO K X (.BinOp a op b pos) (fun ρ P => Ta ρ fun d => Tb ρ fun e => Ro d e P) := by
  refine ⟨PE.weak (pe_op ho ha.pe hb.pe) fun σ H Q h => ?_⟩
  obtain ⟨G0, H0, B, G, ρ, F, P, w, t, k⟩ := h
  refine ⟨G0, H0, B, G, ρ, F, _, w, t, fun d G1 H1 x p1 s1 r1 => ⟨G0, H0, B, G1, ρ, F, _, w.step s1, p1, fun e G2 H2 y p2 s2 r2 => ?_⟩⟩
  refine hR B G2 H2 d e x y P Q s2.sGH (r1.same s2.sG) r2 p2 fun o G' H' v Fv p s rv n => ?_
  have s12 := s1.trans s2 w.bags
  exact k o G' H' v Fv p (s12.trans s w.bags) rv fun a m => s12.none_back w.bags (n a m)
end
section
variable {B : Option (Addr × Addr)}
theorem flat_data {r : R2} {R : PyData → PyData → (PyData → Prop) → Prop} (h : ∀ (G H : Hp) (d e : PyData) (x y : V) (P : PyData → Prop) (Q : VK), Same G H → Dr K G x d → Dr K G y e → R d e P → (∀ d' v, P d' → Dr K G v d' → Q v H) → r x y H Q) : OpData K r R :=
  fun B G H d e x y P Q s dx dy p k => h G H d e x y P Q s dx dy p fun d' v p' r' => k d' G H v p' (.refl s) r'
end
/-! ints -/
def RI (f : Int → Int → PyData) : PyData → PyData → (PyData → Prop) → Prop := fun d e P => ∃ i j, d = .int i ∧ e = .int j ∧ P (f i j)
def RIc (C : Int → Int → Prop) (f : Int → Int → PyData) : PyData → PyData → (PyData → Prop) → Prop := fun d e P => ∃ i j, d = .int i ∧ e = .int j ∧ C i j ∧ P (f i j)
theorem od_I {g : Int → Int → Int} : OpData K (rI0 fun i j => .int (g i j)) (RI fun i j => .int (g i j)) := flat_data fun G H d e x y P Q s dx dy p k => by
  obtain ⟨i, j, rfl, rfl, p⟩ := p
  cases dx
  cases dy
  exact ⟨i, j, rfl, rfl, k _ _ p (.int _)⟩
theorem od_Ib {g : Int → Int → Bool} : OpData K (rI0 fun i j => .bl (g i j)) (RI fun i j => .bool (g i j)) := flat_data fun G H d e x y P Q s dx dy p k => by
  obtain ⟨i, j, rfl, rfl, p⟩ := p
  cases dx
  cases dy
  exact ⟨i, j, rfl, rfl, k _ _ p (.bl _)⟩
theorem od_Ic {C : Int → Int → Prop} {g : Int → Int → Int} : OpData K (rI C fun i j => .int (g i j)) (RIc C fun i j => .int (g i j)) := flat_data fun G H d e x y P Q s dx dy p k => by
  obtain ⟨i, j, rfl, rfl, c, p⟩ := p
  cases dx
  cases dy
  exact ⟨i, j, rfl, rfl, c, k _ _ p (.int _)⟩
/-! == of flat things -/
def eqS : PyData → PyData → Option Bool
  | .none, .none => some true
  | .none, .int _ => some false
  | .none, .bool _ => some false
  | .none, .str _ => some false
  | .int _, .none => some false
  | .bool _, .none => some false
  | .str _, .none => some false
  | .int i, .int j => some (decide (i = j))
  | .bool i, .bool j => some (decide (i = j))
  | .str x, .str y => some (decide (x = y))
  | .int _, .str _ => some false
  | .str _, .int _ => some false
  | .bool _, .str _ => some false
  | .str _, .bool _ => some false
  | _, _ => none
def RS (n : Bool) : PyData → PyData → (PyData → Prop) → Prop := fun d e P => ∃ b, eqS d e = some b ∧ P (.bool (b ^^ n))
theorem eqS_scal {G : Hp} {x y : V} {d e : PyData} {b : Bool} (dx : Dr K G x d) (dy : Dr K G y e) (h : eqS d e = some b) : scal x y = true ∧ decide (x = y) = b := by
  cases dx <;> cases dy <;> simp only [eqS, reduceCtorEq, Option.some.injEq] at h <;> first | (subst h; refine ⟨rfl, ?_⟩; simp) | cases h
theorem od_eq : OpData K rEq (RS false) := flat_data fun G H d e x y P Q s dx dy p k => by
  obtain ⟨b, h, p⟩ := p
  obtain ⟨h1, h2⟩ := eqS_scal dx dy h
  rw [Bool.xor_false] at p
  exact ⟨h1, by rw [h2]; exact k _ _ p (.bl b)⟩
theorem od_ne : OpData K rNe (RS true) := flat_data fun G H d e x y P Q s dx dy p k => by
  obtain ⟨b, h, p⟩ := p
  obtain ⟨h1, h2⟩ := eqS_scal dx dy h
  rw [Bool.xor_true] at p
  exact ⟨h1, by rw [h2]; exact k _ _ p (.bl _)⟩
/-! == of data -/
def RD (n : Bool) : PyData → PyData → (PyData → Prop) → Prop := fun d e P => d.hasDict = false ∧ e.hasDict = false ∧ SeqAt.shaped d = true ∧ SeqAt.shaped e = true ∧ P (.bool (PyData.eqv d e ^^ n))
theorem od_eqD : OpData K (rEqD K) (RD false) := flat_data fun G H d e x y P Q s dx dy p k => by
  obtain ⟨h1, h2, h3, h4, p⟩ := p
  rw [Bool.xor_false] at p
  exact ⟨d, e, Dp.same s (dx.dp h1), Dp.same s (dy.dp h2), h3, h4, k _ _ p (.bl _)⟩
theorem od_neD : OpData K (rNeD K) (RD true) := flat_data fun G H d e x y P Q s dx dy p k => by
  obtain ⟨h1, h2, h3, h4, p⟩ := p
  rw [Bool.xor_true] at p
  exact ⟨d, e, Dp.same s (dx.dp h1), Dp.same s (dy.dp h2), h3, h4, k _ _ p (.bl _)⟩
/-! is None -/
def isNon : PyData → Bool
  | .none => true
  | _ => false
theorem isNon_v {G : Hp} {x : V} {d : PyData} (dx : Dr K G x d) : decide (x = .non) = isNon d := by cases dx <;> simp [isNon]
theorem od_isN : OpData K (fun x y H Q => y = .non ∧ Q (.bl (decide (x = .non))) H) (fun d e P => e = .none ∧ P (.bool (isNon d))) := flat_data fun G H d e x y P Q s dx dy p k => by
  obtain ⟨rfl, p⟩ := p
  cases dy
  exact ⟨rfl, by rw [isNon_v dx]; exact k _ _ p (.bl _)⟩
theorem od_notN : OpData K (fun x y H Q => y = .non ∧ Q (.bl (!decide (x = .non))) H) (fun d e P => e = .none ∧ P (.bool (!isNon d))) := flat_data fun G H d e x y P Q s dx dy p k => by
  obtain ⟨rfl, p⟩ := p
  cases dy
  exact ⟨rfl, by rw [isNon_v dx]; exact k _ _ p (.bl _)⟩
/-! texts -/
theorem od_addS : OpData K (fun x y H Q => ∃ i j, x = .str i ∧ y = .str j ∧ i.length + j.length ≤ sizeLine ∧ Q (.str (i ++ j)) H) (fun d e P => ∃ i j, d = .str i ∧ e = .str j ∧ i.length + j.length ≤ sizeLine ∧ P (.str (i ++ j))) := flat_data fun G H d e x y P Q s dx dy p k => by
  obtain ⟨i, j, rfl, rfl, c, p⟩ := p
  cases dx
  cases dy
  exact ⟨i, j, rfl, rfl, c, k _ _ p (.str _)⟩
theorem od_mulS : OpData K (fun x y H Q => ∃ (z : Str) (n : Int), x = .str z ∧ y = .int n ∧ 0 ≤ n ∧ n ≤ 1000 ∧ z.length ≤ 1000 ∧ Q (.str (Txt.mul z n)) H)
    (fun d e P => ∃ (z : Str) (n : Int), d = .str z ∧ e = .int n ∧ 0 ≤ n ∧ n ≤ 1000 ∧ z.length ≤ 1000 ∧ P (.str (Txt.mul z n))) := flat_data fun G H d e x y P Q s dx dy p k => by
  obtain ⟨i, j, rfl, rfl, c1, c2, c3, p⟩ := p
  cases dx
  cases dy
  exact ⟨i, j, rfl, rfl, c1, c2, c3, k _ _ p (.str _)⟩
/-! places -/
theorem atI_map {α β : Type} (f : α → β) (xs : List α) (i : Int) : atI (xs.map f) i = (atI xs i).map f := by
  unfold atI
  rw [List.length_map]
  cases ixN xs.length i with
  | none => rfl
  | some j => simp
theorem atI_dr {G : Hp} {vs : List V} {ds : List PyData} {i : Int} {d : PyData} (h : DrAll K G vs ds) (e : atI ds i = some d) : ∃ v, atI vs i = some v ∧ Dr K G v d := by
  unfold atI at e ⊢
  rw [h.length]
  cases q : ixN ds.length i with
  | none => rw [q] at e; cases e
  | some j =>
    rw [q] at e
    exact h.get e
theorem od_ixT : OpData K (rIxT K) (fun d e P => ∃ ds i d', d = .tuple ds ∧ e = .int i ∧ atI ds i = some d' ∧ P d') := flat_data fun G H d e x y P Q s dx dy p k => by
  obtain ⟨ds, i, d', rfl, rfl, h, p⟩ := p
  cases dy
  cases dx with
  | tup h1 h2 =>
    obtain ⟨v, h3, h4⟩ := atI_dr h2 h
    exact ⟨_, _, i, v, rfl, rfl, Same.seqT s h1, h3, k _ _ p h4⟩
theorem od_ixL : OpData K (rIxL K) (fun d e P => ∃ ds i d', d = .list ds ∧ e = .int i ∧ atI ds i = some d' ∧ P d') := flat_data fun G H d e x y P Q s dx dy p k => by
  obtain ⟨ds, i, d', rfl, rfl, h, p⟩ := p
  cases dy
  cases dx with
  | lst h1 h2 =>
    obtain ⟨v, h3, h4⟩ := atI_dr h2 h
    exact ⟨_, _, i, v, rfl, rfl, .inl (.inl (s _ _ h1)), h3, k _ _ p h4⟩
theorem od_ixS : OpData K rIxS (fun d e P => ∃ z i c, d = .str z ∧ e = .int i ∧ z.length ≤ sizeLine ∧ atI z.cps.toList i = some c ∧ P (.str ⟨#[c]⟩)) := flat_data fun G H d e x y P Q s dx dy p k => by
  obtain ⟨z, i, c, rfl, rfl, l, h, p⟩ := p
  cases dy
  cases dx
  exact ⟨z, i, c, rfl, rfl, l, h, k _ _ p (.str _)⟩
/-- lists, tuples: their items -/
def items : PyData → Option (List PyData)
  | .list ds => some ds
  | .tuple ds => some ds
  | _ => none
theorem Dr.items {G : Hp} {x : V} {d : PyData} {ds : List PyData} (dx : Dr K G x d) (h : DL.items d = some ds) : ∃ p vs, x = .ref p ∧ (SqL K G p vs ∨ SqT K G p vs) ∧ DrAll K G vs ds := by
  cases dx with
  | lst h1 h2 => cases h; exact ⟨_, _, rfl, .inl (.inl (.inl h1)), h2⟩
  | tup h1 h2 => cases h; exact ⟨_, _, rfl, .inr h1, h2⟩
  | _ => cases h
theorem sq_same {G H : Hp} {p : Addr} {vs : List V} (s : Same G H) (h : SqL K G p vs ∨ SqT K G p vs) : SqL K H p vs ∨ SqT K H p vs := h.imp (fun h => s.seq h) (fun h => Same.seqT s h)
/-! + of lists and tuples -/
def rCatR : R2 := fun x y H Q => ∃ l b xs zs, x = .ref l ∧ y = .ref b ∧ Rd H l (.lst xs) ∧ Rd H b (.lst zs) ∧ xs.length + zs.length ≤ sizeLine ∧ ∀ p, H p = none → Q (.ref p) (upd H p (.lst (xs ++ zs)))
theorem op_catR : OpR X (binaryOp .Add) rCatR := by
  intro pins s σ H x y v u Q I rx ry h
  obtain ⟨l, b, xs, zs, rfl, rfl, h1, h2, room, q⟩ := h
  cases rx
  cases ry
  obtain ⟨_, its, _, r, e⟩ := h1.ok I.hok
  obtain ⟨_, its2, _, r2, e2⟩ := h2.ok I.hok
  have n1 := r.length
  have n2 := r2.length
  refine PySem.P.add_list e e2 ?_ (by rw [List.size_toArray, List.size_toArray]; omega)
  rw [show its.toArray ++ its2.toArray = (its ++ its2).toArray by simp]
  exact ⟨.ref _, _, I.lnew (t' := s.toks) (r.append r2) (by rw [List.length_append]; exact room), rfl, q _ I.fresh⟩
theorem new_own {B : Option (Addr × Addr)} {G H : Hp} {p : Addr} {vs : List V} {ds : List PyData} {Q : VK} {P : O → Prop} (s : Same G H) (np : H p = none) (r : DrAll K G vs ds) (h : P (.lst (ds.map .dat)))
    (k : ∀ o G' H' v Fv, P o → Stp B G H G' H' → RepO K G' H' v o Fv → (∀ a ∈ Fv, H a = none) → Q v H') : Q (.ref p) (upd H p (.lst vs)) := by
  have gp : G p = none := by
    cases q : G p with
    | none => rfl
    | some u => rw [s _ _ q] at np; cases np
  exact k _ G _ (.ref p) [p] h (Stp.new s np) (.lst gp upd_same (.ofDat r) (fun m => nomatch m)) fun a m => by rw [List.mem_singleton.mp m]; exact np
theorem ow_cat : OpOwn K rCatR (fun d e P => ∃ ds es, d = .list ds ∧ e = .list es ∧ ds.length + es.length ≤ sizeLine ∧ P (.lst ((ds ++ es).map .dat))) := by
  intro B G H d e x y P Q s dx dy p k
  obtain ⟨ds, es, rfl, rfl, hl, p⟩ := p
  cases dx with
  | lst h1 h2 =>
    cases dy with
    | lst h3 h4 => exact ⟨_, _, _, _, rfl, rfl, .inl (s _ _ h1), .inl (s _ _ h3), by rw [h2.length, h4.length]; exact hl, fun q nq => new_own s nq (h2.append h4) p k⟩
theorem od_catT : OpData K (rCatA K) (fun d e P => ∃ ds es, d = .tuple ds ∧ e = .tuple es ∧ ds.length + es.length ≤ sizeLine ∧ P (.tuple (ds ++ es))) := by
  intro B G H d e x y P Q s dx dy p k
  obtain ⟨ds, es, rfl, rfl, hl, p⟩ := p
  cases dx with
  | @tup a xs _ h1 h2 =>
    cases dy with
    | @tup b ys _ h3 h4 =>
      refine ⟨_, _, _, _, rfl, rfl, Same.seqT s h1, Same.seqT s h3, by rw [h2.length, h4.length]; exact hl, fun z => ?_, fun _ z => ?_, fun _ z q nq => ?_⟩
      · subst z
        cases h2
        rw [List.nil_append] at p
        exact k _ G H _ p (.refl s) (.tup h3 h4)
      · subst z
        cases h4
        rw [List.append_nil] at p
        exact k _ G H _ p (.refl s) (.tup h1 h2)
      · have s2 := Stp.lay (B := B) (o := .tup (xs ++ ys)) s nq
        exact k _ _ _ _ p s2 (.tup (.inl (.inl upd_same)) ((h2.append h4).same s2.sG))
/-- a list times an int -/
def rRepR : R2 := fun x y H Q => ∃ (l : Addr) (k : Int) (xs : List V), x = .ref l ∧ y = .int k ∧ H l = some (.lst xs) ∧ -(2 ^ 63) ≤ k ∧ k < 2 ^ 63 ∧ xs.length * k.toNat ≤ sizeLine ∧ ∀ p, H p = none → Q (.ref p) (upd H p (.lst (List.replicate k.toNat xs).flatten))

/-! ### slices -/
def cutD (xs : List PyData) (lo hi : Option Int) : List PyData := (xs.drop (HT.sIx xs.length 0 lo)).take (HT.sIx xs.length xs.length hi - HT.sIx xs.length 0 lo)
theorem cut_dr {G : Hp} {vs : List V} {ds : List PyData} (h : DrAll K G vs ds) (lo hi : Option Int) : DrAll K G (cutV vs lo hi) (cutD ds lo hi) := by
  unfold cutV cutD
  rw [h.length]
  exact (h.drop _).take _
/-- an end of a slice -/
def IntO (T : Env' → (Option Int → Prop) → Prop) (K : PySem.W.Frag) (X : Cx) (e : Option Expr) : Prop :=
  PO X e (fun σ H Q => ∃ G0 H0 B G ρ F P, Wd K G0 H0 B G H σ ρ F ∧ T ρ P ∧ ∀ i G' H', P i → Stp B G H G' H' → Q i H')
theorem PO.weak {X : Cx} {e : Option Expr} {t t' : TO} (h : PO X e t) (k : ∀ σ H Q, t' σ H Q → t σ H Q) : PO X e t' := ⟨fun pins s σ H Q I q => h.run pins s σ H Q I (k σ H Q q)⟩
theorem io_none : IntO (fun _ P => P none) K X none := by
  refine PO.weak po_none fun σ H Q h => ?_
  obtain ⟨G0, H0, B, G, ρ, F, P, w, t, k⟩ := h
  exact k none G H t (.refl w.sGH)
theorem io_some (h : DE K X e Ta) : IntO (fun ρ P => Ta ρ fun d => ∃ i, d = .int i ∧ P (some i)) K X (some e) := by
  refine PO.weak (po_some h.pe) fun σ H Q h => ?_
  obtain ⟨G0, H0, B, G, ρ, F, P, w, t, k⟩ := h
  refine ⟨G0, H0, B, G, ρ, F, _, w, t, fun d G' H' v p s r => ?_⟩
  obtain ⟨i, rfl, p⟩ := p
  exact ⟨i, r.tInt, k _ G' H' p s⟩
section
variable {Tl Th : Env' → (Option Int → Prop) → Prop} {lo hi : Option Expr} {p2 : Pos} {r : V → Option Int → Option Int → Hp → VK → Prop}
theorem slice3 {G0 H0 : Hp} {B : Option (Addr × Addr)} {G : Hp} {ρ : Env'} {F : List Addr} {σ : L2.St} {H : Hp} {Q : VK} {P : PyData → Option Int → Option Int → Prop} (w : Wd K G0 H0 B G H σ ρ F)
    (t : Ta ρ fun d => Tl ρ fun i => Th ρ fun j => P d i j) (k : ∀ d i j G' H' v, P d i j → Stp B G H G' H' → Dr K G' v d → r v i j H' Q) :
    tSl r (liftE K Ta) (fun σ H Q => ∃ G0 H0 B G ρ F P, Wd K G0 H0 B G H σ ρ F ∧ Tl ρ P ∧ ∀ i G' H', P i → Stp B G H G' H' → Q i H')
      (fun σ H Q => ∃ G0 H0 B G ρ F P, Wd K G0 H0 B G H σ ρ F ∧ Th ρ P ∧ ∀ i G' H', P i → Stp B G H G' H' → Q i H') σ H Q := by
  refine ⟨G0, H0, B, G, ρ, F, _, w, t, fun d G1 H1 v p1 s1 r1 => ⟨G0, H0, B, G1, ρ, F, _, w.step s1, p1, fun i G2 H2 p2 s2 => ⟨G0, H0, B, G2, ρ, F, _, (w.step s1).step s2, p2, fun j G3 H3 p3 s3 => ?_⟩⟩⟩
  exact k d i j G3 H3 v p3 ((s1.trans s2 w.bags).trans s3 w.bags) (r1.same (s2.sG.trans s3.sG))
/-- xs[lo:hi] of a list: one's own -/
theorem do_slL (e1 : X.K = K) (h : DE K X e Ta) (hl : IntO Tl K X lo) (hh : IntO Th K X hi) : DO K X (.Subscript e (.Slice lo hi none p2) pos) (fun ρ P => Ta ρ fun d => Tl ρ fun i => Th ρ fun j => ∃ ds, d = .list ds ∧ P (.lst ((cutD ds i j).map .dat))) := by
  subst e1
  refine ⟨PE.weak (pe_slice sl_list h.pe hl hh) fun σ H Q h => ?_⟩
  obtain ⟨G0, H0, B, G, ρ, F, P, w, t, k⟩ := h
  refine slice3 w t fun d i j G' H' v p s r => ?_
  obtain ⟨ds, rfl, p⟩ := p
  cases r with
  | lst h1 h2 =>
    refine ⟨_, _, rfl, .inl (.inl (s.sGH _ _ h1)), fun q nq => ?_⟩
    exact new_own s.sGH nq (cut_dr h2 i j) p fun o G2 H2 v2 Fv p2 s2 r2 n2 => k o G2 H2 v2 Fv p2 (s.trans s2 w.bags) r2 fun a m => s.none_back w.bags (n2 a m)
/-- t[lo:hi] of a tuple -/
theorem de_slT (e1 : X.K = K) (h : DE K X e Ta) (hl : IntO Tl K X lo) (hh : IntO Th K X hi) : DE K X (.Subscript e (.Slice lo hi none p2) pos) (fun ρ P => Ta ρ fun d => Tl ρ fun i => Th ρ fun j => ∃ ds, d = .tuple ds ∧ P (.tuple (cutD ds i j))) := by
  subst e1
  refine ⟨PE.weak (pe_slice sl_tupA h.pe hl hh) fun σ H Q h => ?_⟩
  obtain ⟨G0, H0, B, G, ρ, F, P, w, t, k⟩ := h
  refine slice3 w t fun d i j G' H' v p s r => ?_
  obtain ⟨ds, rfl, p⟩ := p
  cases r with
  | @tup a xs _ h1 h2 =>
    refine ⟨_, _, rfl, Same.seqT s.sGH h1, fun z => ?_, fun z q nq => ?_⟩
    · have e : cutD ds i j = ds := by
        unfold cutD
        rw [← h2.length, z.1, z.2, List.drop_zero, Nat.sub_zero, h2.length, List.take_length]
      rw [e] at p
      exact k _ G' H' _ p s (.tup h1 h2)
    · have s2 := Stp.lay (B := B) (o := .tup (cutV xs i j)) s.sGH nq
      exact k _ _ _ _ p (s.trans s2 w.bags) (.tup (.inl (.inl upd_same)) ((cut_dr h2 i j).same s2.sG))
/-- s[lo:hi] of a text -/
theorem de_slS (h : DE K X e Ta) (hl : IntO Tl K X lo) (hh : IntO Th K X hi) : DE K X (.Subscript e (.Slice lo hi none p2) pos) (fun ρ P => Ta ρ fun d => Tl ρ fun i => Th ρ fun j => ∃ z, d = .str z ∧ z.length ≤ sizeLine ∧ P (.str (cutS z i j))) := by
  refine ⟨PE.weak (pe_slice sl_str h.pe hl hh) fun σ H Q h => ?_⟩
  obtain ⟨G0, H0, B, G, ρ, F, P, w, t, k⟩ := h
  refine slice3 w t fun d i j G' H' v p s r => ?_
  obtain ⟨z, rfl, c, p⟩ := p
  cases r
  exact ⟨z, rfl, c, k _ G' H' _ p s (.str _)⟩
end
end
end DL
set_option Elab.async false
set_option linter.all false
set_option maxRecDepth 100000
set_option maxHeartbeats 1000000
/-! DL3: tests, calls, comprehensions over data -/
namespace DL
open PySem PySem.Spec PyProof.Rows L2 GL
section
variable {K : PySem.W.Frag} {X : Cx} {e a b c : Expr} {es rest : List Expr} {Ta Tb Tc : DT} {To Tp : OT} {Tt Tu : BT} {Tl : LT} {pos : Pos}
/-! ### tests -/
theorem db_val (h : DE K X e Ta) (he : ∀ whole, isTrue e X.env whole = (do let v ← whole; standAt e.pos; holding [v] (truthy v)) := by intro _; rfl) : DB K X e (fun ρ P => Ta ρ fun d => ∃ k, d = .bool k ∧ P k) := by
  refine ⟨PT.weak (pt_val h.pe he) fun σ H Q h => ?_⟩
  obtain ⟨G0, H0, B, G, ρ, F, P, w, t, k⟩ := h
  refine ⟨G0, H0, B, G, ρ, F, _, w, t, fun d G' H' v p s r => ?_⟩
  obtain ⟨kk, rfl, p⟩ := p
  exact ⟨kk, r.bool, k kk G' H' p s⟩
theorem DW.db (h : DW K X e Tt) : DB K X e Tt := ⟨h.pw.pt⟩
theorem dw_and1 (h : DB K X a Tt) : DW K X (.BoolOp .And [a] pos) Tt := ⟨pw_and1 h.pt⟩
theorem dw_or1 (h : DB K X a Tt) : DW K X (.BoolOp .Or [a] pos) Tt := ⟨pw_or1 h.pt⟩
theorem dw_and (h : DB K X a Tt) (h2 : DW K X (.BoolOp .And (b :: rest) pos) Tu) : DW K X (.BoolOp .And (a :: b :: rest) pos) (fun ρ P => Tt ρ fun c => if c = true then Tu ρ P else P false) := by
  refine ⟨PW.weak (pw_and h.pt h2.pw) fun σ H Q h => ?_⟩
  obtain ⟨G0, H0, B, G, ρ, F, P, w, t, k⟩ := h
  refine ⟨G0, H0, B, G, ρ, F, _, w, t, fun c G' H' p s => ?_⟩
  cases c with
  | true =>
    show liftB K Tu σ H' Q
    exact ⟨G0, H0, B, G', ρ, F, _, w.step s, (by simpa using p), fun b G2 H2 p2 s2 => k b G2 H2 p2 (s.trans s2 w.bags)⟩
  | false => exact k false G' H' (by simpa using p) s
theorem dw_or (h : DB K X a Tt) (h2 : DW K X (.BoolOp .Or (b :: rest) pos) Tu) : DW K X (.BoolOp .Or (a :: b :: rest) pos) (fun ρ P => Tt ρ fun c => if c = true then P true else Tu ρ P) := by
  refine ⟨PW.weak (pw_or h.pt h2.pw) fun σ H Q h => ?_⟩
  obtain ⟨G0, H0, B, G, ρ, F, P, w, t, k⟩ := h
  refine ⟨G0, H0, B, G, ρ, F, _, w, t, fun c G' H' p s => ?_⟩
  cases c with
  | false =>
    show liftB K Tu σ H' Q
    exact ⟨G0, H0, B, G', ρ, F, _, w.step s, (by simpa using p), fun b G2 H2 p2 s2 => k b G2 H2 p2 (s.trans s2 w.bags)⟩
  | true => exact k true G' H' (by simpa using p) s
theorem db_not (h : DB K X a Tt) : DB K X (.UnaryOp .Not a pos) (fun ρ P => Tt ρ fun c => P (!c)) := by
  refine ⟨PT.weak (pt_not h.pt) fun σ H Q h => ?_⟩
  obtain ⟨G0, H0, B, G, ρ, F, P, w, t, k⟩ := h
  exact ⟨G0, H0, B, G, ρ, F, _, w, t, fun c G' H' p s => k (!c) G' H' p s⟩
/-! .. as values -/
theorem de_one {op} (h : DE K X a Ta) : DE K X (.BoolOp op [a] pos) Ta := ⟨pe_one h.pe⟩
theorem de_and (h : DE K X a Ta) (h2 : DE K X (.BoolOp .And (b :: rest) pos) Tb) : DE K X (.BoolOp .And (a :: b :: rest) pos) (fun ρ P => Ta ρ fun d => ∃ c, d = .bool c ∧ if c = true then Tb ρ P else P (.bool false)) := by
  refine ⟨PE.weak (pe_and h.pe h2.pe) fun σ H Q h => ?_⟩
  obtain ⟨G0, H0, B, G, ρ, F, P, w, t, k⟩ := h
  refine ⟨G0, H0, B, G, ρ, F, _, w, t, fun d G' H' v p s r => ?_⟩
  obtain ⟨c, rfl, p⟩ := p
  refine ⟨c, r.bool, ?_⟩
  cases c with
  | true =>
    show liftE K Tb σ H' Q
    exact ⟨G0, H0, B, G', ρ, F, _, w.step s, (by simpa using p), fun d G2 H2 v p2 s2 r => k d G2 H2 v p2 (s.trans s2 w.bags) r⟩
  | false => exact k _ G' H' _ (by simpa using p) s (.bl false)
theorem de_or (h : DE K X a Ta) (h2 : DE K X (.BoolOp .Or (b :: rest) pos) Tb) : DE K X (.BoolOp .Or (a :: b :: rest) pos) (fun ρ P => Ta ρ fun d => ∃ c, d = .bool c ∧ if c = true then P (.bool true) else Tb ρ P) := by
  refine ⟨PE.weak (pe_or h.pe h2.pe) fun σ H Q h => ?_⟩
  obtain ⟨G0, H0, B, G, ρ, F, P, w, t, k⟩ := h
  refine ⟨G0, H0, B, G, ρ, F, _, w, t, fun d G' H' v p s r => ?_⟩
  obtain ⟨c, rfl, p⟩ := p
  refine ⟨c, r.bool, ?_⟩
  cases c with
  | false =>
    show liftE K Tb σ H' Q
    exact ⟨G0, H0, B, G', ρ, F, _, w.step s, (by simpa using p), fun d G2 H2 v p2 s2 r => k d G2 H2 v p2 (s.trans s2 w.bags) r⟩
  | true => exact k _ G' H' _ (by simpa using p) s (.bl true)
theorem de_not (h : DE K X a Ta) : DE K X (.UnaryOp .Not a pos) (fun ρ P => Ta ρ fun d => ∃ c, d = .bool c ∧ P (.bool (!c))) := by
  refine ⟨PE.weak (pe_not h.pe) fun σ H Q h => ?_⟩
  obtain ⟨G0, H0, B, G, ρ, F, P, w, t, k⟩ := h
  refine ⟨G0, H0, B, G, ρ, F, _, w, t, fun d G' H' v p s r => ?_⟩
  obtain ⟨c, rfl, p⟩ := p
  exact ⟨c, r.bool, k _ G' H' _ p s (.bl _)⟩
theorem de_if (hc : DB K X c Tt) (ha : DE K X a Ta) (hb : DE K X b Tb) : DE K X (.IfExp c a b pos) (fun ρ P => Tt ρ fun k => if k = true then Ta ρ P else Tb ρ P) := by
  refine ⟨PE.weak (pe_ifExp hc.pt ha.pe hb.pe) fun σ H Q h => ?_⟩
  obtain ⟨G0, H0, B, G, ρ, F, P, w, t, k⟩ := h
  refine ⟨G0, H0, B, G, ρ, F, _, w, t, fun c G' H' p s => ?_⟩
  cases c with
  | false =>
    show liftE K Tb σ H' Q
    exact ⟨G0, H0, B, G', ρ, F, _, w.step s, (by simpa using p), fun d G2 H2 v p2 s2 r => k d G2 H2 v p2 (s.trans s2 w.bags) r⟩
  | true =>
    show liftE K Ta σ H' Q
    exact ⟨G0, H0, B, G', ρ, F, _, w.step s, (by simpa using p), fun d G2 H2 v p2 s2 r => k d G2 H2 v p2 (s.trans s2 w.bags) r⟩
theorem do_if (hc : DB K X c Tt) (ha : DO K X a To) (hb : DO K X b Tp) : DO K X (.IfExp c a b pos) (fun ρ P => Tt ρ fun k => if k = true then To ρ P else Tp ρ P) := by
  refine ⟨PE.weak (pe_ifExp hc.pt ha.pe hb.pe) fun σ H Q h => ?_⟩
  obtain ⟨G0, H0, B, G, ρ, F, P, w, t, k⟩ := h
  refine ⟨G0, H0, B, G, ρ, F, _, w, t, fun c G' H' p s => ?_⟩
  cases c with
  | false =>
    show liftO K Tp σ H' Q
    exact ⟨G0, H0, B, G', ρ, F, _, w.step s, (by simpa using p), fun d G2 H2 v Fv p2 s2 r n => k d G2 H2 v Fv p2 (s.trans s2 w.bags) r fun a m => s.none_back w.bags (n a m)⟩
  | true =>
    show liftO K To σ H' Q
    exact ⟨G0, H0, B, G', ρ, F, _, w.step s, (by simpa using p), fun d G2 H2 v Fv p2 s2 r n => k d G2 H2 v Fv p2 (s.trans s2 w.bags) r fun a m => s.none_back w.bags (n a m)⟩
/-- a < b < c -/
theorem lift3 {r r' : R2} {R R' : PyData → PyData → (PyData → Prop) → Prop} (hR : OpData K r R) (hR' : OpData K r' R') (ha : DE K X a Ta) (hb : DE K X b Tb) (hc : DE K X c Tc) (σ : L2.St) (H : Hp) (Q : VK)
    (h : liftE K (fun ρ P => Ta ρ fun d => Tb ρ fun e => R d e fun k => ∃ k', k = .bool k' ∧ if k' = true then Tc ρ fun f => R' e f P else P (.bool false)) σ H Q) : tChain r r' (liftE K Ta) (liftE K Tb) (liftE K Tc) σ H Q := by
  obtain ⟨G0, H0, B, G, ρ, F, P, w, t, k⟩ := h
  refine ⟨G0, H0, B, G, ρ, F, _, w, t, fun d G1 H1 x p1 s1 r1 => ⟨G0, H0, B, G1, ρ, F, _, w.step s1, p1, fun e G2 H2 y p2 s2 r2 => ?_⟩⟩
  refine hR B G2 H2 d e x y _ _ s2.sGH (r1.same s2.sG) r2 p2 fun d' G' H' v p s rv => ?_
  have s3 := (s1.trans s2 w.bags).trans s w.bags
  obtain ⟨k', rfl, p⟩ := p
  refine ⟨k', rv.bool, ?_⟩
  cases k' with
  | false => exact k _ G' H' _ (by simpa using p) s3 (.bl false)
  | true =>
    refine ⟨G0, H0, B, G', ρ, F, _, w.step s3, (by simpa using p), fun f G4 H4 z p4 s4 r4 => ?_⟩
    refine hR' B G4 H4 e f y z P Q s4.sGH (r2.same (s.sG.trans s4.sG)) r4 p4 fun d' G' H' v p s rv => ?_
    exact k d' G' H' v p ((s3.trans s4 w.bags).trans s w.bags) rv
theorem de_chain {op op' : CmpOp} {r r' : R2} {R R' : PyData → PyData → (PyData → Prop) → Prop} (ho : OpR X (compareOp op) r) (ho' : OpR X (compareOp op') r') (hR : OpData K r R) (hR' : OpData K r' R') (ha : DE K X a Ta) (hb : DE K X b Tb) (hc : DE K X c Tc)
    (hm : lastMarks [op, op'] [b, c] = false := by with_unfolding_all rfl) : DE K X (.Compare a [op, op'] [b, c] pos) (fun ρ P => Ta ρ fun d => Tb ρ fun e => R d e fun k => ∃ k', k = .bool k' ∧ if k' = true then Tc ρ fun f => R' e f P else P (.bool false)) :=
  ⟨PE.weak (pe_chain ho ho' ha.pe hb.pe hc.pe hm) (lift3 hR hR' ha hb hc)⟩
theorem db_chain {op op' : CmpOp} {r r' : R2} {R R' : PyData → PyData → (PyData → Prop) → Prop} (ho : OpR X (compareOp op) r) (ho' : OpR X (compareOp op') r') (hR : OpData K r R) (hR' : OpData K r' R') (ha : DE K X a Ta) (hb : DE K X b Tb) (hc : DE K X c Tc)
    (hm : lastMarks [op, op'] [b, c] = false := by with_unfolding_all rfl) : DB K X (.Compare a [op, op'] [b, c] pos) (fun ρ P => Ta ρ fun d => Tb ρ fun e => R d e fun k => ∃ k', k = .bool k' ∧ if k' = true then Tc ρ fun f => R' e f fun x => ∃ q, x = .bool q ∧ P q else P false) := by
  refine ⟨PT.weak (pt_chain ho ho' ha.pe hb.pe hc.pe hm) fun σ H Q h => ?_⟩
  obtain ⟨G0, H0, B, G, ρ, F, P, w, t, k⟩ := h
  have lf : liftE K (fun ρ P => Ta ρ fun d => Tb ρ fun e => R d e fun k => ∃ k', k = .bool k' ∧ if k' = true then Tc ρ fun f => R' e f P else P (.bool false)) σ H (fun x H' => ∃ k, x = .bl k ∧ Q k H') := by
    refine ⟨G0, H0, B, G, ρ, F, fun x => ∃ q, x = .bool q ∧ P q, w, ?_, fun d G' H' v p s rv => ?_⟩
    · have e : (fun (k : Bool) => if k = true then (0 : Nat) else 0) = fun _ => 0 := by funext k; cases k <;> rfl
      have e2 : (P false) = ∃ q, PyData.bool false = .bool q ∧ P q := propext ⟨fun h => ⟨false, rfl, h⟩, fun ⟨q, h1, h2⟩ => by cases h1; exact h2⟩
      rw [e2] at t
      exact t
    · obtain ⟨q, rfl, p⟩ := p
      exact ⟨q, rv.bool, k q G' H' p s⟩
  exact lift3 hR hR' ha hb hc σ H _ lf

/-! ### calls by values -/
def CallData (K : PySem.W.Frag) (r : List V → Hp → VK → Prop) (R : List PyData → (PyData → Prop) → Prop) : Prop :=
  ∀ (B : Option (Addr × Addr)) (G H : Hp) (ds : List PyData) (vs : List V) (P : PyData → Prop) (Q : VK), Same G H → DrAll K G vs ds → R ds P →
    (∀ d' G' H' v, P d' → Stp B G H G' H' → Dr K G' v d' → Q v H') → r vs H Q
def CallOwn (K : PySem.W.Frag) (r : List V → Hp → VK → Prop) (R : List PyData → (O → Prop) → Prop) : Prop :=
  ∀ (B : Option (Addr × Addr)) (G H : Hp) (ds : List PyData) (vs : List V) (P : O → Prop) (Q : VK), Same G H → DrAll K G vs ds → R ds P →
    (∀ o G' H' v Fv, P o → Stp B G H G' H' → RepO K G' H' v o Fv → (∀ a ∈ Fv, H a = none) → Q v H') → r vs H Q
section
variable {x id T : Str} {r : List V → Hp → VK → Prop} {R : List PyData → (PyData → Prop) → Prop} {Ro : List PyData → (O → Prop) → Prop} {p : Pos}
theorem liftCall (hR : CallData K r R) (σ : L2.St) (H : Hp) (Q : VK) {n : Nat} (h : liftE K (fun ρ P => Tl ρ fun ds => R ds P) σ H Q) : tCB r (liftL K n Tl) σ H Q := by
  obtain ⟨G0, H0, B, G, ρ, F, P, w, t, k⟩ := h
  refine ⟨G0, H0, B, G, ρ, F, _, w, t, fun ds G1 H1 vs p1 _ s1 r1 => ?_⟩
  exact hR B G1 H1 ds vs P Q s1.sGH r1 p1 fun d' G' H' v p s rv => k d' G' H' v p (s1.trans s w.bags) rv
theorem liftCallO (hR : CallOwn K r Ro) (σ : L2.St) (H : Hp) (Q : VK) {n : Nat} (h : liftO K (fun ρ P => Tl ρ fun ds => Ro ds P) σ H Q) : tCB r (liftL K n Tl) σ H Q := by
  obtain ⟨G0, H0, B, G, ρ, F, P, w, t, k⟩ := h
  refine ⟨G0, H0, B, G, ρ, F, _, w, t, fun ds G1 H1 vs p1 _ s1 r1 => ?_⟩
  exact hR B G1 H1 ds vs P Q s1.sGH r1 p1 fun o G' H' v Fv p s rv n => k o G' H' v Fv p (s1.trans s w.bags) rv fun a m => s1.none_back w.bags (n a m)
theorem de_callB {id : String} (hc : CallR X (.builtin id) r) (hR : CallData K r R) (hg : Gl X x) (hm : X.mg x = none) (hv : bootBuiltins x = some (.builtin id)) (ha : DA K X (e :: es) Tl) (hn : x ≠ "__name__" := by decide) (hdb : (x == ("__debug__" : Str)) = false := by decide)
    (he : starEach (e :: es) X.env = (false, eval e X.env) :: starEach es X.env := by rfl) (hpl : (backTo pos (starEach es X.env)).any (·.1) = false := by rfl) : DE K X (.Call (.Name x p) (e :: es) [] pos) (fun ρ P => Tl ρ fun ds => R ds P) :=
  ⟨PE.weak (pe_callB hc hg hm hv ha.pa hn hdb he hpl) (fun σ H Q h => liftCall hR σ H Q h)⟩
theorem de_callTy {T : String} (hc : CallR X (.type T) r) (hR : CallData K r R) (hg : Gl X x) (hm : X.mg x = none) (hv : bootBuiltins x = some (.type T)) (ha : DA K X (e :: es) Tl) (hn : x ≠ "__name__" := by decide) (hdb : (x == ("__debug__" : Str)) = false := by decide)
    (he : starEach (e :: es) X.env = (false, eval e X.env) :: starEach es X.env := by rfl) (hpl : (backTo pos (starEach es X.env)).any (·.1) = false := by rfl) : DE K X (.Call (.Name x p) (e :: es) [] pos) (fun ρ P => Tl ρ fun ds => R ds P) :=
  ⟨PE.weak (pe_callTy hc hg hm hv ha.pa hn hdb he hpl) (fun σ H Q h => liftCall hR σ H Q h)⟩
theorem do_callB {id : String} (hc : CallR X (.builtin id) r) (hR : CallOwn K r Ro) (hg : Gl X x) (hm : X.mg x = none) (hv : bootBuiltins x = some (.builtin id)) (ha : DA K X (e :: es) Tl) (hn : x ≠ "__name__" := by decide) (hdb : (x == ("__debug__" : Str)) = false := by decide)
    (he : starEach (e :: es) X.env = (false, eval e X.env) :: starEach es X.env := by rfl) (hpl : (backTo pos (starEach es X.env)).any (·.1) = false := by rfl) : DO K X (.Call (.Name x p) (e :: es) [] pos) (fun ρ P => Tl ρ fun ds => Ro ds P) :=
  ⟨PE.weak (pe_callB hc hg hm hv ha.pa hn hdb he hpl) (fun σ H Q h => liftCallO hR σ H Q h)⟩
theorem do_callTy {T : String} (hc : CallR X (.type T) r) (hR : CallOwn K r Ro) (hg : Gl X x) (hm : X.mg x = none) (hv : bootBuiltins x = some (.type T)) (ha : DA K X (e :: es) Tl) (hn : x ≠ "__name__" := by decide) (hdb : (x == ("__debug__" : Str)) = false := by decide)
    (he : starEach (e :: es) X.env = (false, eval e X.env) :: starEach es X.env := by rfl) (hpl : (backTo pos (starEach es X.env)).any (·.1) = false := by rfl) : DO K X (.Call (.Name x p) (e :: es) [] pos) (fun ρ P => Tl ρ fun ds => Ro ds P) :=
  ⟨PE.weak (pe_callTy hc hg hm hv ha.pa hn hdb he hpl) (fun σ H Q h => liftCallO hR σ H Q h)⟩
end
theorem flat_call {r : List V → Hp → VK → Prop} {R : List PyData → (PyData → Prop) → Prop} (h : ∀ (G H : Hp) (ds : List PyData) (vs : List V) (P : PyData → Prop) (Q : VK), Same G H → DrAll K G vs ds → R ds P → (∀ d' v, P d' → Dr K G v d' → Q v H) → r vs H Q) : CallData K r R :=
  fun B G H ds vs P Q s dx p k => h G H ds vs P Q s dx p fun d' v p' r' => k d' G H v p' (.refl s) r'
theorem DrAll.one {G : Hp} {vs : List V} {d : PyData} (h : DrAll K G vs [d]) : ∃ v, vs = [v] ∧ Dr K G v d := by
  cases h with
  | cons h1 h2 => cases h2; exact ⟨_, rfl, h1⟩
theorem DrAll.two {G : Hp} {vs : List V} {d e : PyData} (h : DrAll K G vs [d, e]) : ∃ v u, vs = [v, u] ∧ Dr K G v d ∧ Dr K G u e := by
  cases h with
  | cons h1 h2 =>
    obtain ⟨u, rfl, h3⟩ := h2.one
    exact ⟨_, _, rfl, h1, h3⟩
def lenOf : PyData → Option Nat
  | .str z => some z.length
  | .list ds => some ds.length
  | .tuple ds => some ds.length
  | _ => none
theorem cd_len : CallData K (fun xs H Q => ∃ x n, xs = [x] ∧ LenV K x H n ∧ Q (.int n) H) (fun ds P => ∃ d n, ds = [d] ∧ lenOf d = some n ∧ n ≤ sizeLine ∧ P (.int n)) := flat_call fun G H ds vs P Q s dx p k => by
  obtain ⟨d, n, rfl, h, hl, p⟩ := p
  obtain ⟨v, rfl, r⟩ := dx.one
  refine ⟨v, n, rfl, ?_, k _ _ p (.int _)⟩
  cases r with
  | str z => cases h; exact ⟨hl, rfl⟩
  | lst h1 h2 => cases h; exact .inl ⟨_, .inl (.inl (s _ _ h1)), h2.length.symm⟩
  | tup h1 h2 => cases h; exact .inr ⟨_, Same.seqT s h1, h2.length.symm⟩
  | _ => cases h
theorem cd_abs : CallData K (fun xs H Q => ∃ i : Int, xs = [.int i] ∧ Q (.int (if i < 0 then -i else i)) H) (fun ds P => ∃ i : Int, ds = [.int i] ∧ P (.int (if i < 0 then -i else i))) := flat_call fun G H ds vs P Q s dx p k => by
  obtain ⟨i, rfl, p⟩ := p
  obtain ⟨v, rfl, r⟩ := dx.one
  cases r
  exact ⟨i, rfl, k _ _ p (.int _)⟩
/-- the int of an int or a bool -/
def intOf : PyData → Option Int
  | .int i => some i
  | .bool b => some (if b = true then 1 else 0)
  | _ => none
theorem cd_repr : CallData K (rRepr K) (fun ds P => ∃ d, ds = [d] ∧ d.hasDict = false ∧ d.showable = true ∧ d.depth ≤ 64 ∧ d.shown.length ≤ sizeLine ∧ P (.str d.shown)) := flat_call fun G H ds vs P Q s dx p k => by
  obtain ⟨d, rfl, h1, h2, h3, h4, p⟩ := p
  obtain ⟨v, rfl, r⟩ := dx.one
  exact ⟨v, d, rfl, Dp.same s (r.dp h1), h2, h1, h3, h4, k _ _ p (.str _)⟩
theorem cd_all : CallData K (rAll K) (fun ds P => ∃ bs : List Bool, ds = [.list (bs.map .bool)] ∧ P (.bool (bs.all id))) := flat_call fun G H ds vs P Q s dx p k => by
  obtain ⟨bs, rfl, p⟩ := p
  obtain ⟨v, rfl, r⟩ := dx.one
  cases r with
  | lst h1 h2 =>
    rw [h2.ofBools] at h1
    exact ⟨_, bs, rfl, .inl (.inl (s _ _ h1)), k _ _ p (.bl _)⟩
theorem co_list : CallOwn K (fun xs H Q => ∃ p ys, xs = [.ref p] ∧ (SqL K H p ys ∨ SqT K H p ys) ∧ ∀ l, H l = none → Q (.ref l) (upd H l (.lst ys))) (fun ds P => ∃ d is, ds = [d] ∧ items d = some is ∧ P (.lst (is.map .dat))) := by
  intro B G H ds vs P Q s dx p k
  obtain ⟨d, is, rfl, h, p⟩ := p
  obtain ⟨v, rfl, r⟩ := dx.one
  obtain ⟨q, us, rfl, h1, h2⟩ := r.items h
  exact ⟨q, us, rfl, sq_same s h1, fun l nl => new_own s nl h2 p k⟩
theorem cd_tuple : CallData K (fun xs H Q => ∃ p ys, xs = [.ref p] ∧ ((SqL K H p ys ∧ ∀ l, H l = none → Q (.ref l) (upd H l (.tup ys))) ∨ (SqT K H p ys ∧ Q (.ref p) H))) (fun ds P => ∃ d is, ds = [d] ∧ items d = some is ∧ P (.tuple is)) := by
  intro B G H ds vs P Q s dx p k
  obtain ⟨d, is, rfl, h, p⟩ := p
  obtain ⟨v, rfl, r⟩ := dx.one
  cases r with
  | lst h1 h2 =>
    cases h
    exact ⟨_, _, rfl, .inl ⟨.inl (.inl (s _ _ h1)), fun l nl => k _ _ _ _ p (Stp.lay s nl) (.tup (.inl (.inl upd_same)) (h2.same (Stp.lay (B := B) s nl).sG))⟩⟩
  | tup h1 h2 =>
    cases h
    exact ⟨_, _, rfl, .inr ⟨Same.seqT s h1, k _ G H _ p (.refl s) (.tup h1 h2)⟩⟩
  | _ => cases h
/-! ### isinstance -/
def tyOf : PyData → String
  | .none => "NoneType"
  | .bool _ => "bool"
  | .int _ => "int"
  | .str _ => "str"
  | .list _ => "list"
  | .tuple _ => "tuple"
  | .dict ((.none, _) :: _) => "object"
  | .dict _ => "dict"
/-- isinstance(e, T) -/
def isTy (T : String) (d : PyData) : Bool := tyOf d == T || (T == "int" && tyOf d == "bool")
theorem kit_all : (["NoneType", "bool", "int", "str", "list", "tuple", "dict"].all fun t => ["int", "bool", "str", "list", "tuple", "dict"].all fun T => kitB t T == some (t == T || (T == "int" && t == "bool"))) = true := by decide +kernel
theorem kit_ty1 {t T : String} (h : T ∈ ["int", "bool", "str", "list", "tuple", "dict"]) (m : t ∈ ["NoneType", "bool", "int", "str", "list", "tuple", "dict"]) : kitB t T = some (t == T || (T == "int" && t == "bool")) :=
  eq_of_beq (List.all_eq_true.mp (List.all_eq_true.mp kit_all _ m) _ h)
theorem tyOf_kd (k : Key) (d : PyData) (r : List (PyData × PyData)) : tyOf (.dict ((kD k, d) :: r)) = "dict" := by cases k <;> rfl
theorem tyOf_dct (kvs : List (Key × V)) (ds : List PyData) : tyOf (.dict ((kvs.map fun p => kD p.1).zip ds)) = "dict" := by
  cases kvs with
  | nil => rfl
  | cons p r =>
    cases ds with
    | nil => rfl
    | cons d ds => exact tyOf_kd _ _ _
theorem isTy_dk (kvs : List (PyData × PyData)) : ∀ T ∈ ["int", "bool", "str", "list", "tuple"], isTy T (.dict kvs) = false := by
  have e : tyOf (.dict kvs) = "dict" ∨ tyOf (.dict kvs) = "object" := by
    cases kvs with
    | nil => exact .inl rfl
    | cons p r =>
      obtain ⟨a, b⟩ := p
      cases a <;> first | exact .inl rfl | exact .inr rfl
  intro T hT
  simp only [List.mem_cons, List.mem_nil_iff, or_false] at hT
  unfold isTy
  rcases e with e | e <;> rw [e] <;> rcases hT with rfl | rfl | rfl | rfl | rfl <;> rfl
/-- what isinstance asks of a value that is data -/
theorem Dr.tyx {G H : Hp} {v : V} {d : PyData} (r : Dr K G v d) (s : Same G H) : ∃ t, TyX K H v t ∧ ∀ T ∈ ["int", "bool", "str", "list", "tuple", "dict"], PySem.W.kitOne K t (.type T) = some (isTy T d) := by
  suffices h : (tyOf d ∈ ["NoneType", "bool", "int", "str", "list", "tuple", "dict"] ∧ TyX K H v (.type (tyOf d))) ∨ ∃ C, TyX K H v (.ref C) ∧ OwnC K C ∧ tyOf d = "object" by
    rcases h with ⟨m, h⟩ | ⟨C, h, c, e⟩
    · exact ⟨_, h, fun T hT => kit_ty (kit_ty1 hT m)⟩
    · refine ⟨_, h, fun T hT => ?_⟩
      rw [c.kit T hT]
      unfold isTy
      rw [e]
      simp only [List.mem_cons, List.mem_nil_iff, or_false] at hT
      rcases hT with rfl | rfl | rfl | rfl | rfl | rfl <;> rfl
  cases r with
  | ins c h _ _ => exact .inr ⟨_, .base (.ins (s _ _ h) c.cl c.ha c.hn c.ht c.hm), c, rfl⟩
  | dct h _ =>
    refine .inl ?_
    rw [tyOf_dct]
    exact ⟨by simp, .base (.dK (s _ _ h))⟩
  | non => exact .inl ⟨by simp [tyOf], .base .non⟩
  | bl b => exact .inl ⟨by simp [tyOf], .base (.bl b)⟩
  | int i => exact .inl ⟨by simp [tyOf], .base (.int i)⟩
  | str x => exact .inl ⟨by simp [tyOf], .base (.str x)⟩
  | lst h _ => exact .inl ⟨by simp [tyOf], .base (.lst (s _ _ h))⟩
  | tup h _ =>
    refine .inl ⟨by simp [tyOf], ?_⟩
    rcases h with (h | ⟨o, h⟩) | ⟨o, its, n, h, c, _⟩
    · exact .base (.tup (s _ _ h))
    · exact .fTuple (s _ _ h)
    · exact .kTuple h c
theorem de_isi {T : String} {p p3 : Pos} (e1 : X.K = K) (ha : DE K X e Ta) (hg : Gl X "isinstance") (hm : X.mg "isinstance" = none) (hgT : Gl X (Str.ofString T)) (hmT : X.mg (Str.ofString T) = none)
    (hb : bootBuiltins (Str.ofString T) = some (.type T)) (hT : T ∈ ["int", "bool", "str", "list", "tuple", "dict"]) (hn : Str.ofString T ≠ "__name__" := by decide) (hd : (Str.ofString T == ("__debug__" : Str)) = false := by decide)
    (hs : starEach [e, .Name (Str.ofString T) p3] X.env = (false, eval e X.env) :: starEach [.Name (Str.ofString T) p3] X.env := by rfl) (hs2 : starEach [.Name (Str.ofString T) p3] X.env = (false, eval (.Name (Str.ofString T) p3) X.env) :: starEach [] X.env := by rfl)
    (hpl : (backTo pos (starEach [.Name (Str.ofString T) p3] X.env)).any (·.1) = false := by rfl) :
    DE K X (.Call (.Name "isinstance" p) [e, .Name (Str.ofString T) p3] [] pos) (fun ρ P => Ta ρ fun d => P (.bool (isTy T d))) := by
  subst e1
  refine ⟨PE.weak (pe_callB call_isi hg hm (by decide +kernel) (pa_cons ha.pe (pa_cons (pe_bltn (v := .ty T) (u := .type T) hgT hmT hb (show RelV (.ty T) (.type T) from rfl) hn hd) pa_nil hs2) hs) (by decide) (by decide) hs hpl) fun σ H Q h => ?_⟩
  obtain ⟨G0, H0, B, G, ρ, F, P, w, t, k⟩ := h
  refine ⟨G0, H0, B, G, ρ, F, _, w, t, fun d G' H' v p s r => ?_⟩
  obtain ⟨t, ty, ki⟩ := r.tyx s.sGH
  exact ⟨v, .ty T, t, .type T, isTy T d, rfl, .ty T, ty, ki T hT, k _ G' H' _ p s (.bl _)⟩
theorem kit_any2 {T U : String} {t : Value} {d : PyData} (h1 : PySem.W.kitOne K t (.type T) = some (isTy T d)) (h2 : PySem.W.kitOne K t (.type U) = some (isTy U d)) : PySem.W.kitAny K t [.type T, .type U] = some (isTy T d || isTy U d) := by
  simp only [PySem.W.kitAny, h1, h2]
  cases isTy T d <;> cases isTy U d <;> rfl
/-- isinstance(e, (T, U)) -/
theorem de_isi2 {x1} {T U : String} {p p3 p4 p5 : Pos} (e1 : X.K = K) (ha : DE K X e Ta) (hg : Gl X "isinstance") (hm : X.mg "isinstance" = none) (hgT : Gl X (Str.ofString T)) (hmT : X.mg (Str.ofString T) = none)
    (hb : bootBuiltins (Str.ofString T) = some (.type T)) (hgU : Gl X (Str.ofString U)) (hmU : X.mg (Str.ofString U) = none) (hbU : bootBuiltins (Str.ofString U) = some (.type U)) (hT : T ∈ ["int", "bool", "str", "list", "tuple", "dict"]) (hU : U ∈ ["int", "bool", "str", "list", "tuple", "dict"])
    (hn : Str.ofString T ≠ "__name__" := by decide) (hd : (Str.ofString T == ("__debug__" : Str)) = false := by decide) (hnU : Str.ofString U ≠ "__name__" := by decide) (hdU : (Str.ofString U == ("__debug__" : Str)) = false := by decide)
    (hs : starEach [e, .Tuple [.Name (Str.ofString T) p3, .Name (Str.ofString U) p4] x1 p5] X.env = (false, eval e X.env) :: starEach [.Tuple [.Name (Str.ofString T) p3, .Name (Str.ofString U) p4] x1 p5] X.env := by rfl)
    (hs2 : starEach [.Tuple [.Name (Str.ofString T) p3, .Name (Str.ofString U) p4] x1 p5] X.env = (false, eval (.Tuple [.Name (Str.ofString T) p3, .Name (Str.ofString U) p4] x1 p5) X.env) :: starEach [] X.env := by rfl)
    (hs3 : starEach [.Name (Str.ofString T) p3, .Name (Str.ofString U) p4] X.env = (false, eval (.Name (Str.ofString T) p3) X.env) :: starEach [.Name (Str.ofString U) p4] X.env := by rfl)
    (hs4 : starEach [.Name (Str.ofString U) p4] X.env = (false, eval (.Name (Str.ofString U) p4) X.env) :: starEach [] X.env := by rfl)
    (hpl : (backTo pos (starEach [.Tuple [.Name (Str.ofString T) p3, .Name (Str.ofString U) p4] x1 p5] X.env)).any (·.1) = false := by rfl) :
    DE K X (.Call (.Name "isinstance" p) [e, .Tuple [.Name (Str.ofString T) p3, .Name (Str.ofString U) p4] x1 p5] [] pos) (fun ρ P => Ta ρ fun d => P (.bool (isTy T d || isTy U d))) := by
  subst e1
  refine ⟨PE.weak (pe_callB call_isiT hg hm (by decide +kernel) (pa_cons ha.pe (pa_cons (pe_tup (pa_cons (pe_bltn (v := .ty T) (u := .type T) hgT hmT hb (show RelV (.ty T) (.type T) from rfl) hn hd)
    (pa_cons (pe_bltn (v := .ty U) (u := .type U) hgU hmU hbU (show RelV (.ty U) (.type U) from rfl) hnU hdU) pa_nil hs4) hs3)) pa_nil hs2) hs) (by decide) (by decide) hs hpl) fun σ H Q h => ?_⟩
  obtain ⟨G0, H0, B, G, ρ, F, P, w, t, k⟩ := h
  refine ⟨G0, H0, B, G, ρ, F, _, w, t, fun d G' H' v p s r => ?_⟩
  refine ⟨small (by show 2 ≤ 1000; decide), fun q nq => ?_⟩
  have s2 := Stp.new (B := B) (o := .tup [.ty T, .ty U]) s.sGH nq
  obtain ⟨t, ty, ki⟩ := r.tyx s2.sGH
  refine ⟨v, q, [.ty T, .ty U], t, [.type T, .type U], _, rfl, upd_same, .cons (.ty T) (.cons (.ty U) .nil), ty, kit_any2 (ki T hT) (ki U hU), ?_⟩
  exact k _ G' _ _ p (s.trans s2 w.bags) (.bl _)
end
end DL
set_option Elab.async false
set_option linter.all false
set_option maxRecDepth 100000
set_option maxHeartbeats 1000000
/-! DL4: targets, walks, comprehensions over data -/
namespace DL
open PySem PySem.Spec PyProof.Rows L2 GL
section
variable {K : PySem.W.Frag} {X : Cx} {e a b c tg : Expr} {es rest : List Expr} {Ta Tb Tc : DT} {To Tp : OT} {Tt Tu : BT} {Tl : LT} {pos : Pos}
/-! ### targets that are names -/
abbrev GT := PyData → Env' → (Env' → Prop) → Prop
def liftG (K : PySem.W.Frag) (ws : List Nat) (g : GT) : TG := fun v σ H Q => ∃ G0 H0 B G ρ F P d, Wd K G0 H0 B G H σ ρ F ∧ Dr K G v d ∧ g d ρ P ∧
  ∀ ρ' σ' F', P ρ' → Wd K G0 H0 B G H σ' ρ' F' → (∀ a ∈ F', a ∈ F) → (∀ vs : List Nat, (∀ i ∈ ws, i ∈ vs) → wipe σ' vs = wipe σ vs) → Q σ' H
structure DG (K : PySem.W.Frag) (X : Cx) (tg : Expr) (ws : List Nat) (g : GT) : Prop where
  pg : PG X tg (liftG K ws g)
theorem PG.weak {g g' : TG} (h : PG X tg g) (k : ∀ v σ H Q, g' v σ H Q → g v σ H Q) : PG X tg g' := ⟨fun pins s σ H v u Q I r q => h.run pins s σ H v u Q I r (k v σ H Q q)⟩
theorem wipe_set {σ : L2.St} {i : Nat} {x : Option V} : ∀ {vs : List Nat}, i ∈ vs → wipe (σ.set i x) vs = wipe σ vs
  | v :: vs, h => by
    unfold wipe
    by_cases hv : i ∈ vs
    · rw [wipe_set hv]
    · have e : v = i := (List.mem_cons.mp h).elim (fun e => e.symm) fun z => absurd z hv
      subst e
      have k : ∀ vs : List Nat, v ∉ vs → wipe (σ.set v x) vs = (wipe σ vs).set v x := by
        intro vs
        induction vs with
        | nil => intro _; rfl
        | cons w ws ih =>
          intro hw
          have h1 : v ≠ w := fun e => hw (by rw [e]; exact List.mem_cons_self)
          show (wipe (σ.set v x) ws).set w none = ((wipe σ ws).set w none).set v x
          rw [ih fun z => hw (List.mem_cons_of_mem _ z), List.set_comm _ _ h1]
      rw [k vs hv, List.set_set]
theorem wipe_wipe {σ : L2.St} {us : List Nat} : ∀ vs : List Nat, (∀ i ∈ vs, i ∈ us) → L2.wipe (L2.wipe σ vs) us = L2.wipe σ us
  | [], _ => rfl
  | v :: vs, h => by
    show L2.wipe ((L2.wipe σ vs).set v none) us = _
    rw [wipe_set (h v List.mem_cons_self), wipe_wipe vs fun i m => h i (List.mem_cons_of_mem _ m)]
theorem Wd.set {G0 H0 : Hp} {B : Option (Addr × Addr)} {G H : Hp} {σ : L2.St} {ρ : Env'} {F Fv : List Addr} {v : V} {n : En} (w : Wd K G0 H0 B G H σ ρ F) (r : RepN K B G H v n Fv) (i : Nat) (hv : ∀ a ∈ Fv, a ∉ F) (nw : ∀ a ∈ Fv, H0 a = none) :
    ∃ F', Wd K G0 H0 B G H (σ.set i (some v)) (ρ.set i (some n)) F' ∧ ∀ a ∈ F', a ∈ F ∨ a ∈ Fv := by
  obtain ⟨F', r', c⟩ := w.env.set r (i := i) hv
  exact ⟨F', ⟨w.sGH, w.sG, w.fr, w.keep, fun a m => (c a m).elim (w.own a) (nw a), w.bag, r'⟩, c⟩
theorem dg_name {i : Nat} (h : PG X tg (gName i)) : DG K X tg [i] (fun d ρ P => P (ρ.set i (some (.d d)))) := by
  refine ⟨PG.weak h fun v σ H Q h => ?_⟩
  obtain ⟨G0, H0, B, G, ρ, F, P, d, w, r, p, k⟩ := h
  obtain ⟨F', w', c⟩ := w.set (.d r) i (fun _ m => nomatch m) fun _ m => nomatch m
  exact k _ _ F' p w' (fun a m => (c a m).elim id fun z => nomatch z) fun vs hv => wipe_set (hv i List.mem_cons_self)
/-- a tuple of names -/
structure DGs (K : PySem.W.Frag) (X : Cx) (ts : List Expr) (ws : List Nat) (g : List PyData → Env' → (Env' → Prop) → Prop) : Prop where
  pg : PGs X ts (fun vs σ H Q => ∃ G0 H0 B G ρ F P ds, Wd K G0 H0 B G H σ ρ F ∧ DrAll K G vs ds ∧ g ds ρ P ∧
    ∀ ρ' σ' F', P ρ' → Wd K G0 H0 B G H σ' ρ' F' → (∀ a ∈ F', a ∈ F) → (∀ vs : List Nat, (∀ i ∈ ws, i ∈ vs) → wipe σ' vs = wipe σ vs) → Q σ' H)
theorem PGs.weak {ts : List Expr} {g g' : TGs} (h : PGs X ts g) (k : ∀ v σ H Q, g' v σ H Q → g v σ H Q) : PGs X ts g' := ⟨fun pins s σ H v u Q I r q => h.run pins s σ H v u Q I r (k v σ H Q q)⟩
theorem dgs_nil : DGs K X [] [] (fun ds ρ P => ds = [] ∧ P ρ) := by
  refine ⟨PGs.weak pgs_nil fun vs σ H Q h => ?_⟩
  obtain ⟨G0, H0, B, G, ρ, F, P, ds, w, r, ⟨rfl, p⟩, k⟩ := h
  cases r
  exact ⟨rfl, k ρ σ F p w (fun _ m => m) fun _ _ => rfl⟩
theorem dgs_cons {ts : List Expr} {ws vs : List Nat} {g : GT} {gs : List PyData → Env' → (Env' → Prop) → Prop} (h : DG K X tg ws g) (ht : DGs K X ts vs gs)
    (hs : (assignEach (tg :: ts) X.env).map (·.2) = assign tg X.env :: (assignEach ts X.env).map (·.2) := by rfl) : DGs K X (tg :: ts) (ws ++ vs) (fun ds ρ P => ∃ d r, ds = d :: r ∧ g d ρ fun ρ' => gs r ρ' P) := by
  refine ⟨PGs.weak (pgs_cons h.pg ht.pg hs) fun us σ H Q h => ?_⟩
  obtain ⟨G0, H0, B, G, ρ, F, P, ds, w, r, ⟨d, rs, rfl, p⟩, k⟩ := h
  cases r with
  | cons r1 r2 =>
    refine ⟨_, _, rfl, G0, H0, B, G, ρ, F, _, d, w, r1, p, fun ρ1 σ1 F1 p1 w1 c1 z1 => ?_⟩
    refine ⟨G0, H0, B, G, ρ1, F1, _, rs, w1, r2, p1, fun ρ2 σ2 F2 p2 w2 c2 z2 => k ρ2 σ2 F2 p2 w2 (fun a m => c1 a (c2 a m)) fun vs hv => ?_⟩
    rw [z2 vs fun i m => hv i (List.mem_append_right _ m), z1 vs fun i m => hv i (List.mem_append_left _ m)]
theorem dg_tup {ts : List Expr} {k : Nat} {ws : List Nat} {gs : List PyData → Env' → (Env' → Prop) → Prop} {n : Nat} (e1 : X.K = K) (hc : X.calm = true) (h : DGs K X ts ws gs)
    (hn : (assignEach ts X.env).length = n := by rfl) (hst : (assignEach ts X.env).findIdx? (·.1) = none := by rfl) : DG K X (.Tuple ts k pos) ws (fun d ρ P => ∃ ds, items d = some ds ∧ (∃ es, d = .tuple es) ∧ ds.length = n ∧ gs ds ρ P) := by
  subst e1
  refine ⟨PG.weak (pg_tup hc h.pg hn hst) fun v σ H Q h => ?_⟩
  obtain ⟨G0, H0, B, G, ρ, F, P, d, w, r, ⟨ds, h1, ⟨es, rfl⟩, hl, p⟩, k⟩ := h
  cases h1
  cases r with
  | tup h2 h3 => exact ⟨_, _, rfl, Same.seqT w.sGH h2, by rw [h3.length]; exact hl, G0, H0, B, G, ρ, F, P, ds, w, h3, p, k⟩

/-! ### walks -/
def IterOf (K : PySem.W.Frag) (J : It) (G : Hp) (ds : List PyData) : Prop := ∃ (Gp : Hp → Prop) (Y : Nat → Hp → V → Hp → Prop), Walk J ds.length Gp Y ∧ (∀ H, Same G H → Gp H) ∧
  ∀ i H x H', i < ds.length → Y i H x H' → ∀ B G1, Same G G1 → Same G1 H → ∃ G2 d, Stp B G1 H G2 H' ∧ Dr K G2 x d ∧ ds[i]? = some d
def liftI (K : PySem.W.Frag) (T : LT) : TI := fun σ H R => ∃ G0 H0 B G ρ F P, Wd K G0 H0 B G H σ ρ F ∧ T ρ P ∧ ∀ ds G' H' J, P ds → Stp B G H G' H' → IterOf K J G' ds → R J H'
structure DI (K : PySem.W.Frag) (X : Cx) (tg iter : Expr) (T : LT) : Prop where
  pi : PI X tg iter (liftI K T)
theorem PI.weak {iter : Expr} {t t' : TI} (h : PI X tg iter t) (k : ∀ σ H R, t' σ H R → t σ H R) : PI X tg iter t' := ⟨fun pins s σ H R I q => h.run pins s σ H R I (k σ H R q)⟩
theorem iter_list {G : Hp} {p : Addr} {vs : List V} {ds : List PyData} (h : SqL K G p vs) (r : DrAll K G vs ds) : IterOf K (Itl K p) G ds := by
  have w := walk_list (K := K) (a := p) (xs := vs)
  rw [r.length] at w
  refine ⟨_, _, w, fun H s => s.seq h, fun i H x H' _ y B G1 s1 s2 => ?_⟩
  obtain ⟨rfl, y⟩ := y
  obtain ⟨d, h1, h2⟩ := r.getV y
  exact ⟨G1, d, .refl s2, h2.same s1, h1⟩
theorem iter_tup {G : Hp} {p : Addr} {vs : List V} {ds : List PyData} (h : SqT K G p vs) (r : DrAll K G vs ds) : IterOf K (Itt K p) G ds := by
  have w := walk_tup (K := K) (a := p) (xs := vs)
  rw [r.length] at w
  refine ⟨_, _, w, fun H s => Same.seqT s h, fun i H x H' _ y B G1 s1 s2 => ?_⟩
  obtain ⟨rfl, y⟩ := y
  obtain ⟨d, h1, h2⟩ := r.getV y
  exact ⟨G1, d, .refl s2, h2.same s1, h1⟩
/-- over a list or a tuple -/
theorem pi_seq {t : TE} (hl : PE X e t) : PI X tg e (fun σ H R => t σ H fun x H1 => ∃ a, x = .ref a ∧ (((∃ xs, SqL X.K H1 a xs) ∧ R (Itl X.K a) H1) ∨ ((∃ xs, SqT X.K H1 a xs) ∧ R (Itt X.K a) H1))) := by
  refine ⟨fun pins s σ H R I h => ?_⟩
  refine thn (hl.run pins s σ H _ I h) fun v s1 ⟨x, H1, I1, r1, q1⟩ => ?_
  obtain ⟨a, rfl, q⟩ := q1
  cases r1
  rcases q with ⟨⟨xs, hq⟩, q⟩ | ⟨⟨xs, hq⟩, q⟩
  · obtain ⟨its, rv, p, hz⟩ := I1.list hq
    refine wpAny_pyIter_list p.isList ?_
    refine ⟨s1.heap.objs.size, [s1.heap.objs.size], _, _, H1, rfl, I1.kept (t' := s1.toks) fun b o e => Heap.get?_push_of_some _ e, turn_list a _, ⟨_, Heap.get?_push_size _ rfl, rfl, rfl⟩, fun b hb => ?_, q⟩
    have e : b = s1.heap.objs.size := by simpa using hb
    subst e
    exact I1.fpOk (Nat.le_refl _) (I1.hok.fresh (Nat.le_refl _))
  · obtain ⟨its, rv, p, hz⟩ := I1.tuple hq
    refine wpAny_pyIter_tuple (show s1.heap.IsTuple a its.toArray from p) ?_
    refine ⟨s1.heap.objs.size, [s1.heap.objs.size], _, _, H1, rfl, I1.kept (t' := s1.toks) fun b o e => Heap.get?_push_of_some _ e, turn_tuple a _, ⟨_, Heap.get?_push_size _ rfl, rfl, rfl⟩, fun b hb => ?_, q⟩
    have e : b = s1.heap.objs.size := by simpa using hb
    subst e
    exact I1.fpOk (Nat.le_refl _) (I1.hok.fresh (Nat.le_refl _))
theorem di_seq (e1 : X.K = K) (h : DE K X e Ta) : DI K X tg e (fun ρ P => Ta ρ fun d => ∃ ds, items d = some ds ∧ P ds) := by
  subst e1
  refine ⟨PI.weak (pi_seq h.pe) fun σ H R h => ?_⟩
  obtain ⟨G0, H0, B, G, ρ, F, P, w, t, k⟩ := h
  refine ⟨G0, H0, B, G, ρ, F, _, w, t, fun d G' H' v p s r => ?_⟩
  obtain ⟨ds, h, p⟩ := p
  cases r with
  | lst h1 h2 => cases h; exact ⟨_, rfl, .inl ⟨⟨_, .inl (.inl (s.sGH _ _ h1))⟩, k _ G' H' _ p s (iter_list (.inl (.inl h1)) h2)⟩⟩
  | tup h1 h2 => cases h; exact ⟨_, rfl, .inr ⟨⟨_, Same.seqT s.sGH h1⟩, k _ G' H' _ p s (iter_tup h1 h2)⟩⟩
  | _ => cases h
def signsD (z : Str) : List PyData := z.cps.toList.map fun c => .str ⟨#[c]⟩
theorem di_str (h : DE K X e Ta) : DI K X tg e (fun ρ P => Ta ρ fun d => ∃ z, d = .str z ∧ P (signsD z)) := by
  refine ⟨PI.weak (pi_str h.pe) fun σ H R h => ?_⟩
  obtain ⟨G0, H0, B, G, ρ, F, P, w, t, k⟩ := h
  refine ⟨G0, H0, B, G, ρ, F, _, w, t, fun d G' H' v p s r => ?_⟩
  obtain ⟨z, rfl, p⟩ := p
  cases r
  have w := walk_str (z := z)
  rw [show z.cps.size = (signsD z).length by simp [signsD]] at w
  refine ⟨z, rfl, k _ G' H' _ p s ⟨_, _, w, fun _ _ => trivial, fun i H x H' hi y B G1 s1 s2 => ?_⟩⟩
  · obtain ⟨rfl, c, h1, rfl⟩ := y
    refine ⟨G1, _, .refl s2, .str _, ?_⟩
    unfold signsD
    rw [List.getElem?_map, Array.getElem?_toList, h1]
    rfl
def rangeD (lo : Int) (n : Nat) : List PyData := (List.range n).map fun (i : Nat) => .int (lo + (i : Int))
theorem iter_range {G : Hp} {lo : Int} {n : Nat} : IterOf K (Itr lo n) G (rangeD lo n) := by
  have w := walk_range (lo := lo) (n := n)
  have w' : Walk (Itr lo n) (rangeD lo n).length (fun _ => True) (YFn fun i => .int (lo + i)) := by
    rw [show (rangeD lo n).length = n by simp [rangeD]]
    exact w
  refine ⟨_, _, w', fun _ _ => trivial, fun i H x H' hi y B G1 s1 s2 => ?_⟩
  · obtain ⟨rfl, rfl⟩ := y
    refine ⟨G1, _, .refl s2, .int _, ?_⟩
    have hi' : i < n := by simpa [rangeD] using hi
    unfold rangeD
    rw [List.getElem?_map, List.getElem?_range hi']
    rfl
theorem di_range1 {p : Pos} (hg : Gl X "range") (hm : X.mg "range" = none) (ha : DA K X [a] Tl) (hs : starEach [a] X.env = [(false, eval a X.env)] := by rfl) :
    DI K X tg (.Call (.Name "range" p) [a] [] pos) (fun ρ P => Tl ρ fun ds => ∃ j : Int, ds = [.int j] ∧ -(2 ^ 62) ≤ j ∧ j < 2 ^ 62 ∧ P (rangeD 0 j.toNat)) := by
  refine ⟨PI.weak (pi_range1 hg hm ha.pa hs) fun σ H R h => ?_⟩
  obtain ⟨G0, H0, B, G, ρ, F, P, w, t, k⟩ := h
  refine ⟨G0, H0, B, G, ρ, F, _, w, t, fun ds G' H' v p _ s r => ?_⟩
  obtain ⟨j, rfl, h1, h2, p⟩ := p
  obtain ⟨v', rfl, r'⟩ := r.one
  cases r'
  exact ⟨j, rfl, h1, h2, k _ G' H' _ p s iter_range⟩
def pairD (p : PyData × PyData) : PyData := .tuple [p.1, p.2]
theorem walk_zipT {a b : Addr} {xs ys : List V} {n : Nat} (hn : n = min xs.length ys.length) : Walk (RZ.ItzT K a b) n (fun H => SqT K H a xs ∧ SqT K H b ys) (YPair (fun i => xs[i]?) (fun i => ys[i]?)) := by
  subst hn
  refine ⟨fun i _ hi q => ?_, fun _ q => ⟨xs, ys, q.1, q.2, by omega⟩, fun i H v H' _ q y => ?_⟩
  · have h1 : i < xs.length := by omega
    have h2 : i < ys.length := by omega
    exact ⟨xs, ys, xs[i], ys[i], q.1, q.2, by simp [h1], by simp [h2]⟩
  · obtain ⟨T, x, z, h1, h2, h3, h4, h5⟩ := y
    exact ⟨T, x, z, h1, h2, h3, h4 xs q.1, h5 ys q.2⟩
theorem pair_step {G : Hp} {vs us : List V} {ds es : List PyData} (r1 : DrAll K G vs ds) (r2 : DrAll K G us es) : ∀ i H x H', i < ((ds.zip es).map pairD).length → YPair (fun i => vs[i]?) (fun i => us[i]?) i H x H' →
    ∀ B G1, Same G G1 → Same G1 H → ∃ G2 d, Stp B G1 H G2 H' ∧ Dr K G2 x d ∧ ((ds.zip es).map pairD)[i]? = some d := by
  intro i H x H' hi y B G1 s1 s2
  obtain ⟨T, x1, x2, rfl, nT, rfl, e1, e2⟩ := y
  obtain ⟨d, h1, h2⟩ := r1.getV e1
  obtain ⟨e, h3, h4⟩ := r2.getV e2
  have s := Stp.lay (B := B) (o := .tup [x1, x2]) s2 nT
  refine ⟨_, pairD (d, e), s, .tup (.inl (.inl upd_same)) (.cons ((h2.same s1).same s.sG) (.cons ((h4.same s1).same s.sG) .nil)), ?_⟩
  rw [List.getElem?_map, List.getElem?_zip_eq_some (z := (d, e)).mpr ⟨h1, h3⟩]
  rfl
/-- zip of two lists, or of two tuples -/
theorem di_zip {elts : List Expr} {kk : Nat} {p tpos : Pos} (e1 : X.K = K) (hg : Gl X "zip") (hm : X.mg "zip" = none) (ha : DA K X [a, b] Tl)
    (hs : starEach [a, b] X.env = (false, eval a X.env) :: starEach [b] X.env := by rfl) (hpl : (backTo pos (starEach [b] X.env)).any (·.1) = false := by rfl) :
    DI K X (.Tuple elts kk tpos) (.Call (.Name "zip" p) [a, b] [] pos) (fun ρ P => Tl ρ fun xs => ∃ d e ds es, xs = [d, e] ∧ ((d = .list ds ∧ e = .list es) ∨ (d = .tuple ds ∧ e = .tuple es)) ∧ P ((ds.zip es).map pairD)) := by
  subst e1
  refine ⟨PI.weak (RZ.pi_zipA hg hm ha.pa hs hpl) fun σ H R h => ?_⟩
  obtain ⟨G0, H0, B, G, ρ, F, P, w, t, k⟩ := h
  refine ⟨G0, H0, B, G, ρ, F, _, w, t, fun xs G' H' v p _ s r => ?_⟩
  obtain ⟨d, e, ds, es, rfl, h, p⟩ := p
  obtain ⟨v, u, rfl, r1, r2⟩ := r.two
  rcases h with ⟨rfl, rfl⟩ | ⟨rfl, rfl⟩
  · cases r1 with
    | lst h1 h2 =>
      cases r2 with
      | lst h3 h4 =>
        refine ⟨_, _, _, _, rfl, .inl ⟨.inl (.inl (s.sGH _ _ h1)), .inl (.inl (s.sGH _ _ h3)), k _ G' H' _ p s ⟨_, _, walk_zip ?_, fun H q => ⟨.inl (.inl (q _ _ h1)), .inl (.inl (q _ _ h3))⟩, pair_step h2 h4⟩⟩⟩
        rw [List.length_map, List.length_zip, h2.length, h4.length]
  · cases r1 with
    | tup h1 h2 =>
      cases r2 with
      | tup h3 h4 =>
        refine ⟨_, _, _, _, rfl, .inr ⟨Same.seqT s.sGH h1, Same.seqT s.sGH h3, k _ G' H' _ p s ⟨_, _, walk_zipT ?_, fun H q => ⟨Same.seqT q h1, Same.seqT q h3⟩, pair_step h2 h4⟩⟩⟩
        rw [List.length_map, List.length_zip, h2.length, h4.length]

/-! ### comprehensions -/
structure DTs (K : PySem.W.Frag) (X : Cx) (ifs : List Expr) (T : BT) : Prop where
  pts : PTs X ifs (liftB K T)
theorem PTs.weak {ifs : List Expr} {t t' : TT} (h : PTs X ifs t) (k : ∀ σ H Q, t' σ H Q → t σ H Q) : PTs X ifs t' := ⟨fun pins s σ H Q I q => h.run pins s σ H Q I (k σ H Q q)⟩
theorem dts_nil : DTs K X [] (fun _ P => P true) := by
  refine ⟨PTs.weak pts_nil fun σ H Q h => ?_⟩
  obtain ⟨G0, H0, B, G, ρ, F, P, w, t, k⟩ := h
  exact k true G H t (.refl w.sGH)
theorem dts_one (h : DB K X c Tt) : DTs K X [c] Tt := ⟨pts_one h.pt⟩
def wipeE (ρ : Env') : List Nat → Env'
  | [] => ρ
  | v :: vs => (wipeE ρ vs).set v none
theorem Wd.wipe {G0 H0 : Hp} {B : Option (Addr × Addr)} {G H : Hp} {σ : L2.St} {ρ : Env'} {F : List Addr} (w : Wd K G0 H0 B G H σ ρ F) : ∀ vs : List Nat, ∃ F', Wd K G0 H0 B G H (L2.wipe σ vs) (wipeE ρ vs) F' ∧ ∀ a ∈ F', a ∈ F
  | [] => ⟨F, w, fun _ m => m⟩
  | v :: vs => by
    obtain ⟨F1, w1, c1⟩ := Wd.wipe w vs
    obtain ⟨F2, r, c2⟩ := w1.env.forget (i := v) (x := none)
    exact ⟨F2, ⟨w1.sGH, w1.sG, w1.fr, w1.keep, fun a m => w1.own a (c2 a m), w1.bag, r⟩, fun a m => c1 a (c2 a m)⟩
theorem Stp.updNew {B : Option (Addr × Addr)} {G H G' H' : Hp} {D : Addr} {o : HO} (s : Stp B G H G' H') (hb : ∀ b, B = some b → BagAt G H b) (nD : H D = none) (gD : G' D = none) : Stp B G H G' (upd H' D o) where
  keep a u h n := by rw [upd_ne (ne_of_none h nD)]; exact s.keep a u h n
  sG := s.sG
  sGH a u h := by
    have : a ≠ D := fun z => by rw [z, gD] at h; cases h
    rw [upd_ne this]
    exact s.sGH a u h
  fr := s.fr
  bag b e h := by
    obtain ⟨g, s', i, ns, e1, e2, e3⟩ := s.bag b e h
    have : b.1 ≠ D := fun z => (hb b e).some (by rw [z]; exact nD)
    exact ⟨g, s', i, ns, by rw [upd_ne this]; exact e1, e2, e3⟩
theorem notB_new {B : Option (Addr × Addr)} {G H : Hp} {D : Addr} (hb : ∀ b, B = some b → BagAt G H b) (nD : H D = none) : NotB B D := fun c e => (hb _ e).some nD
theorem Stp.dom {B : Option (Addr × Addr)} {G H G' H' : Hp} (s : Stp B G H G' H') (hb : ∀ b, B = some b → BagAt G H b) {a : Addr} (h : H a ≠ none) : H' a ≠ none := fun z => h (s.none_back hb z)
theorem Stp.g_none {B : Option (Addr × Addr)} {G H G' H' : Hp} (s : Stp B G H G' H') {a : Addr} (g : G a = none) (h : H a ≠ none) : G' a = none := by
  cases q : G' a with
  | none => rfl
  | some u =>
    rcases s.fr a (by rw [q]; exact nofun) with z | z
    · exact absurd g z
    · exact absurd z h
theorem bags_step {B : Option (Addr × Addr)} {G H G' H' : Hp} (s : Stp B G H G' H') (hb : ∀ b, B = some b → BagAt G H b) : ∀ b, B = some b → BagAt G' H' b := fun b e => s.bag b e (hb b e)
theorem RepOs.step {B : Option (Addr × Addr)} {G H G' H' : Hp} {vs : List V} {xs : List O} {Fv : List Addr} (r : RepOs K G H vs xs Fv) (s : Stp B G H G' H') (nb : ∀ a ∈ Fv, NotB B a) : RepOs K G' H' vs xs Fv :=
  r.mono s.sG (fun a m => s.g_none (r.dom a m).1 (r.dom a m).2) (fun a m u h => s.keep a u h (nb a m))
/-- what a comprehension's block does with one item -/
def lcTurn (g : GT) (Tt : BT) (To : OT) (ρ : Env') (d : PyData) (yes : O → Prop) (no : Prop) : Prop := g d ρ fun ρ2 => Tt ρ2 fun b => if b = true then To ρ2 yes else no
section
variable {elt iter : Expr} {ifs : List Expr} {scope : Scope} {own : List (Str × Nat)} {ws : List Nat} {g : GT} {Ti : LT}
/-- what a comprehension asks, over data -/
abbrev lcT (g : GT) (Tt : BT) (To : OT) (Ti : LT) (vs : List Nat) : OT := fun ρ P => Ti ρ fun ds => ds.length < sizeLine ∧ ∃ I : Nat → List O → Prop, I 0 [] ∧
  (∀ i d acc, ds[i]? = some d → I i acc → lcTurn g Tt To (wipeE ρ vs) d (fun o => I (i + 1) (acc ++ [o])) (I (i + 1) acc)) ∧ ∀ acc, I ds.length acc → P (.lst acc)
theorem lift_lc {vs : List Nat} (hw : ∀ i ∈ ws, i ∈ vs) (σ : L2.St) (H : Hp) (Q : VK) (h : liftO K (lcT g Tt To Ti vs) σ H Q) : tLc (liftI K Ti) (liftG K ws g) (liftB K Tt) (liftO K To) vs σ H Q := by
  obtain ⟨G0, H0, B, G, ρ, F, P, w, t, k⟩ := h
  refine ⟨G0, H0, B, G, ρ, F, _, w, t, fun ds G1 H1 J p1 s1 it D nD => ?_⟩
  obtain ⟨hlen, I, i0, step, fin⟩ := p1
  obtain ⟨Gp, Y, wk, hGp, hY⟩ := it
  have w1 := w.step s1
  have b1 := w1.bags
  have nbD : NotB B D := notB_new b1 nD
  refine lc_it wk (fun i H' => ∃ G' us acc Fa, I i acc ∧ acc.length ≤ i ∧ H' D = some (.lst us) ∧ RepOs K G' H' us acc Fa ∧ D ∉ Fa ∧ (∀ a ∈ Fa, H1 a = none) ∧ Stp B G1 H1 G' H' ∧ G' D = none) ?h0 ?hG ?hs ?hd
  case h0 => exact ⟨G1, [], [], [], i0, Nat.le_refl _, upd_same, .nil, (fun m => nomatch m), (fun _ m => nomatch m), Stp.new s1.sGH nD, s1.gnone nD⟩
  case hG =>
    rintro i H' _ ⟨G', us, acc, Fa, _, _, _, _, _, _, s, _⟩
    exact hGp H' (s.sG.trans s.sGH)
  case hd =>
    rintro H' ⟨G', us, acc, Fa, hI, _, hD, r, nDa, hF, s, gD⟩
    refine k (.lst acc) G' H' (.ref D) (D :: Fa) (fin acc hI) (s1.trans s w.bags) (.lst gD hD r nDa) fun a m => s1.none_back w.bags ?_
    rcases List.mem_cons.mp m with rfl | m
    · exact nD
    · exact hF a m
  case hs =>
    rintro i x H' H'' hi ⟨G', us, acc, Fa, hI, hl, hD, r, nDa, hF, s, gD⟩ y
    obtain ⟨G2, d, s2, rd, hd⟩ := hY i H' x H'' hi y B G' s.sG s.sGH
    have bb := bags_step s b1
    have s12 := s.trans s2 b1
    obtain ⟨Fw, ww, _⟩ := (w1.step s12).wipe (vs)
    refine ⟨G0, H0, B, G2, _, Fw, _, d, ww, rd, step i d acc hd hI, fun ρ' σ' F' p w' c z => ⟨(z _ hw).trans (wipe_wipe _ fun _ m => m), ?_⟩⟩
    refine ⟨G0, H0, B, G2, ρ', F', _, w', p, fun b G3 H3 p3 s3 => ?_⟩
    have s13 := s12.trans s3 b1
    have b3 := bags_step s13 b1
    have nbF : ∀ a ∈ Fa, NotB B a := fun a m => notB_new b1 (hF a m)
    have hD3 : H3 D = some (.lst us) := s3.keep _ _ (s2.keep _ _ hD nbD) nbD
    have s23 := s2.trans s3 bb
    have r3 := r.step s23 nbF
    cases b with
    | false =>
      exact ⟨G3, us, acc, Fa, by simpa using p3, Nat.le_succ_of_le hl, hD3, r3, nDa, hF, s13, s23.g_none gD (by rw [hD]; exact nofun)⟩
    | true =>
      refine ⟨G0, H0, B, G3, ρ', F', _, w'.step s3, (by simpa using p3), fun o G4 H4 v Fv p4 s4 r4 n4 => ?_⟩
      have hD4 : H4 D = some (.lst us) := s4.keep _ _ hD3 nbD
      have s24 := s23.trans s4 bb
      have gD4 : G4 D = none := s24.g_none gD (by rw [hD]; exact nofun)
      have nDv : D ∉ Fv := fun m => by rw [n4 D m] at hD3; cases hD3
      refine ⟨us, hD4, ?_, G4, us ++ [v], acc ++ [o], Fa ++ Fv, p4, by rw [List.length_append]; show _ + 1 ≤ _; omega, upd_same, ?_, ?_, ?_, ?_, gD4⟩
      · rw [r3.length]
        omega
      · have ra := RepOs.append (RepOs.cons (F1 := Fv) (F2 := []) r4 .nil fun _ _ m => nomatch m) (r3.step s4 nbF) (fun a m z => by
          rw [List.append_nil] at z
          exact (r3.dom a m).2 (n4 a z))
        rw [List.append_nil] at ra
        refine ra.mono (Same.refl _) (fun a m => (ra.dom a m).1) (fun a m u h => ?_)
        have : a ≠ D := fun z => by
          subst z
          exact (List.mem_append.mp m).elim nDa nDv
        rw [upd_ne this]
        exact h
      · exact fun m => (List.mem_append.mp m).elim nDa nDv
      · intro a m
        rcases List.mem_append.mp m with m | m
        · exact hF a m
        · exact s13.none_back b1 (n4 a m)
      · exact (s13.trans s4 b1).updNew b1 nD gD4
theorem do_lc (hc : X.calm = true) (hN : X.N.Nodup) (hi : DI K X tg iter Ti) (ok : BlkOk X.N X.env.scope scope own)
    (hg : ∀ (s : Shared) (H : Hp) (C : Addr) (cl : List (Str × Addr)) (fp : List Addr), DG K (X.blk s H scope (compEnvC scope cl C X.env) fp) tg ws g)
    (ht : ∀ (s : Shared) (H : Hp) (C : Addr) (cl : List (Str × Addr)) (fp : List Addr), DTs K (X.blk s H scope (compEnvC scope cl C X.env) fp) ifs Tt)
    (he : ∀ (s : Shared) (H : Hp) (C : Addr) (cl : List (Str × Addr)) (fp : List Addr), DO K (X.blk s H scope (compEnvC scope cl C X.env) fp) elt To) (hw : ∀ i ∈ ws, i ∈ own.map (·.2) := by decide) (hs : ∀ x, foldedSetIterable iter X.env x = pure x := by intro _; rfl) :
    DO K X (.ListComp elt [⟨tg, iter, ifs, 0⟩] scope pos) (lcT g Tt To Ti (own.map (·.2))) :=
  ⟨PE.weak (pe_lc hc hN hi.pi ok (fun s H C cl fp => (hg s H C cl fp).pg) (fun s H C cl fp => (ht s H C cl fp).pts) (fun s H C cl fp => (he s H C cl fp).pe) hs) (lift_lc hw)⟩
end
/-- a comprehension whose block changes nothing: what is kept of each item, and its value -/
theorem lc_fun {g : GT} {Tt : BT} {To : OT} {ρ : Env'} {ds : List PyData} {P : O → Prop} (p : PyData → Bool) (f : PyData → O) (hl : ds.length < sizeLine)
    (h : ∀ d ∈ ds, ∀ (yes : O → Prop) (no : Prop), (p d = true → yes (f d)) → (p d = false → no) → lcTurn g Tt To ρ d yes no) (hp : P (.lst ((ds.filter p).map f))) :
    ds.length < sizeLine ∧ ∃ I : Nat → List O → Prop, I 0 [] ∧ (∀ i d acc, ds[i]? = some d → I i acc → lcTurn g Tt To ρ d (fun o => I (i + 1) (acc ++ [o])) (I (i + 1) acc)) ∧ ∀ acc, I ds.length acc → P (.lst acc) := by
  refine ⟨hl, fun i acc => acc = ((ds.take i).filter p).map f, rfl, fun i d acc hd hI => ?_, fun acc hI => ?_⟩
  · have hI : acc = ((ds.take i).filter p).map f := hI
    have et : ds.take (i + 1) = ds.take i ++ [d] := by rw [List.take_add_one, hd]; rfl
    refine h d (List.mem_of_getElem? hd) _ _ (fun hp => ?_) (fun hp => ?_)
    · show acc ++ [f d] = ((ds.take (i + 1)).filter p).map f
      rw [et, List.filter_append, List.map_append, hI]
      simp [hp]
    · show acc = ((ds.take (i + 1)).filter p).map f
      rw [et, List.filter_append, List.map_append, hI]
      simp [hp]
  · have hI : acc = ((ds.take ds.length).filter p).map f := hI
    rw [List.take_length] at hI
    rw [hI]
    exact hp
end
end DL
set_option Elab.async false
set_option linter.all false
set_option maxRecDepth 100000
set_option maxHeartbeats 1000000
/-! DL5: statements, defs over data -/
namespace DL
open PySem PySem.Spec PyProof.Rows L2 GL
structure DEnds where
  nx : Env' → Prop
  rt : O → Prop
  bk : Env' → Prop := fun _ => False
  ct : Env' → Prop := fun _ => False
abbrev ST := DEnds → Env' → Prop
/-- how a def's value lies -/
structure Fin (K : PySem.W.Frag) (G0 H0 : Hp) (B : Option (Addr × Addr)) (G' H' : Hp) (v : V) (o : O) (Fv : List Addr) : Prop where
  stp : Stp B G0 H0 G' H'
  rep : RepO K G' H' v o Fv
  new : ∀ a ∈ Fv, H0 a = none
def liftS (K : PySem.W.Frag) (T : ST) : TS := fun D σ H => ∃ G0 H0 B G ρ F P, Wd K G0 H0 B G H σ ρ F ∧ T P ρ ∧
  (∀ ρ' σ' G' H' F', P.nx ρ' → Wd K G0 H0 B G' H' σ' ρ' F' → D.nx σ' H') ∧ (∀ o G' H' v Fv, P.rt o → Fin K G0 H0 B G' H' v o Fv → D.rt v H') ∧
  (∀ ρ' σ' G' H' F', P.bk ρ' → Wd K G0 H0 B G' H' σ' ρ' F' → D.bk σ' H') ∧ ∀ ρ' σ' G' H' F', P.ct ρ' → Wd K G0 H0 B G' H' σ' ρ' F' → D.ct σ' H'
structure DS (K : PySem.W.Frag) (X : Cx) (st : Stmt) (T : ST) : Prop where
  ps : PS X st (liftS K T)
structure DSs (K : PySem.W.Frag) (X : Cx) (sts : List Stmt) (T : ST) : Prop where
  pss : PSs X sts (liftS K T)
theorem PS.weak {X : Cx} {st : Stmt} {t t' : TS} (h : PS X st t) (k : ∀ D σ H, t' D σ H → t D σ H) : PS X st t' := ⟨fun pins s σ H D I q => h.run pins s σ H D I (k D σ H q)⟩
theorem PSs.weak {X : Cx} {st : List Stmt} {t t' : TS} (h : PSs X st t) (k : ∀ D σ H, t' D σ H → t D σ H) : PSs X st t' := ⟨fun pins s σ H D I q => h.run pins s σ H D I (k D σ H q)⟩
theorem Wd.fin {K : PySem.W.Frag} {G0 H0 : Hp} {B : Option (Addr × Addr)} {G H : Hp} {σ : L2.St} {ρ : Env'} {F Fv : List Addr} {v : V} {o : O} (w : Wd K G0 H0 B G H σ ρ F) (r : RepO K G H v o Fv) (n : ∀ a ∈ Fv, H0 a = none) : Fin K G0 H0 B G H v o Fv :=
  ⟨⟨w.keep, w.sG, w.sGH, w.fr, fun b e _ => (w.bag b e).1⟩, r, n⟩
theorem Wd.old {K : PySem.W.Frag} {G0 H0 : Hp} {B : Option (Addr × Addr)} {G H : Hp} {σ : L2.St} {ρ : Env'} {F : List Addr} (w : Wd K G0 H0 B G H σ ρ F) {a : Addr} (n : H a = none) : H0 a = none := by
  cases q : H0 a with
  | none => rfl
  | some u =>
    by_cases z : NotB B a
    · rw [w.keep a u q z] at n
      cases n
    · obtain ⟨c, z⟩ := isB z
      exact absurd n (w.bag _ z).1.some
section
variable {K : PySem.W.Frag} {X : Cx} {e a b c tg : Expr} {es rest : List Expr} {Ta Tb Tc : DT} {To Tp : OT} {Tt Tu : BT} {Tl : LT} {pos : Pos} {st : Stmt} {sts : List Stmt} {T U : ST}
theorem dss_nil : DSs K X [] (fun P ρ => P.nx ρ) := by
  refine ⟨PSs.weak pss_nil fun D σ H h => ?_⟩
  obtain ⟨G0, H0, B, G, ρ, F, P, w, t, k, _⟩ := h
  exact k ρ σ G H F t w
theorem dss_cons (h1 : DS K X st T) (h2 : DSs K X sts U) : DSs K X (st :: sts) (fun P ρ => T { P with nx := U P } ρ) := by
  refine ⟨PSs.weak (pss_cons h1.ps h2.pss) fun D σ H h => ?_⟩
  obtain ⟨G0, H0, B, G, ρ, F, P, w, t, k1, k2, k3, k4⟩ := h
  exact ⟨G0, H0, B, G, ρ, F, _, w, t, fun ρ' σ' G' H' F' p w' => ⟨G0, H0, B, G', ρ', F', P, w', p, k1, k2, k3, k4⟩, k2, k3, k4⟩
/-- what holds between the two is said -/
theorem dss_cut (h1 : DS K X st T) (h2 : DSs K X sts U) : DSs K X (st :: sts) (fun P ρ => ∃ J : Env' → Prop, T { P with nx := J } ρ ∧ ∀ ρ', J ρ' → U P ρ') := by
  refine ⟨PSs.weak (pss_cons h1.ps h2.pss) fun D σ H h => ?_⟩
  obtain ⟨G0, H0, B, G, ρ, F, P, w, ⟨J, t, j⟩, k1, k2, k3, k4⟩ := h
  exact ⟨G0, H0, B, G, ρ, F, _, w, t, fun ρ' σ' G' H' F' p w' => ⟨G0, H0, B, G', ρ', F', P, w', j ρ' p, k1, k2, k3, k4⟩, k2, k3, k4⟩
theorem dss_one (h : DS K X st T) : DSs K X [st] T := ⟨pss_one h.ps⟩
theorem ds_pass : DS K X (.Pass pos) (fun P ρ => P.nx ρ) := by
  refine ⟨PS.weak ps_pass fun D σ H h => ?_⟩
  obtain ⟨G0, H0, B, G, ρ, F, P, w, t, k, _⟩ := h
  exact k ρ σ G H F t w
/-- all that is one's own is frozen ahead of a block -/
theorem dss_frz (h : DSs K X sts T) : DSs K X sts (fun P ρ => T P (frz ρ)) := by
  refine ⟨PSs.weak h.pss fun D σ H h => ?_⟩
  obtain ⟨G0, H0, B, G, ρ, F, P, w, t, k⟩ := h
  exact ⟨G0, H0, B, _, _, _, P, frz_wd w, t, k⟩
/-- one slot frozen -/
def frzAt (ρ : Env') (i : Nat) : Env' := match ρ[i]? with
  | some (some n) => ρ.set i (some n.frz)
  | _ => ρ
theorem set_getD {α : Type} : ∀ (xs : List α) (i : Nat) {x : α}, xs[i]? = some x → xs.set i x = xs
  | [], _, _, h => by simp at h
  | y :: xs, 0, x, h => by simp at h; rw [h]; rfl
  | y :: xs, i + 1, x, h => by rw [List.set_cons_succ, set_getD xs i (by simpa using h)]
theorem frzAt_wd {G0 H0 : Hp} {B : Option (Addr × Addr)} {G H : Hp} {σ : L2.St} {ρ : Env'} {F : List Addr} (w : Wd K G0 H0 B G H σ ρ F) (i : Nat) : ∃ G' F', Wd K G0 H0 B G' H σ (frzAt ρ i) F' := by
  unfold frzAt
  split
  · rename_i n hn
    cases n with
    | d d => exact ⟨G, F, by rw [show (En.d d).frz = .d d from rfl, set_getD _ _ hn]; exact w⟩
    | bag => exact ⟨G, F, by rw [show En.bag.frz = .bag from rfl, set_getD _ _ hn]; exact w⟩
    | l xs =>
      obtain ⟨v, F1, e1, r, sub, go⟩ := w.env.change hn
      have h1 : ∀ a ∈ F1, G a = none := fun a m => (r.dom a m).1
      have nb : ∀ b, B = some b → b.1 ∉ F1 := fun b e m => (w.bag b e).2.2 (w.own _ (sub _ m))
      cases r with
      | l r =>
        obtain ⟨F', env', c⟩ := go (addF G H F1) H (.d (.list (eraseAll xs))) [] (addF_ext h1) (fun a m z => ⟨by rw [addF_out z]; exact (w.env.dom a m).1, fun u e => e⟩)
          (.d (r.freeze (addF_ext h1) fun a m u e => by rw [addF_in m]; exact e)) (fun _ m => nomatch m)
        refine ⟨addF G H F1, F', addF_sub w.sGH, w.sG.trans (addF_ext h1), fun a q => ?_, w.keep, fun a m => (c a m).elim (w.own a) (fun z => nomatch z), fun b e => ?_, env'⟩
        · by_cases m : a ∈ F1
          · exact .inr (w.own a (sub a m))
          · rw [addF_out m] at q
            exact w.fr a q
        · obtain ⟨⟨g, s', i', ns, e1, e2, e3⟩, g2, g3⟩ := w.bag b e
          exact ⟨⟨g, s', i', ns, e1, addF_ext h1 _ _ e2, e3⟩, by rw [addF_out (nb b e)]; exact g2, g3⟩
    | o a C fs =>
      obtain ⟨v, F1, e1, r, sub, go⟩ := w.env.change hn
      have h1 : ∀ a ∈ F1, G a = none := fun a m => (r.dom a m).1
      have nb : ∀ b, B = some b → b.1 ∉ F1 := fun b e m => (w.bag b e).2.2 (w.own _ (sub _ m))
      cases r with
      | o r =>
        obtain ⟨F', env', c⟩ := go (addF G H F1) H (.d (obD C fs)) [] (addF_ext h1) (fun a m z => ⟨by rw [addF_out z]; exact (w.env.dom a m).1, fun u e => e⟩)
          (.d (r.freeze (addF_ext h1) fun a m u e => by rw [addF_in m]; exact e)) (fun _ m => nomatch m)
        refine ⟨addF G H F1, F', addF_sub w.sGH, w.sG.trans (addF_ext h1), fun a q => ?_, w.keep, fun a m => (c a m).elim (w.own a) (fun z => nomatch z), fun b e => ?_, env'⟩
        · by_cases m : a ∈ F1
          · exact .inr (w.own a (sub a m))
          · rw [addF_out m] at q
            exact w.fr a q
        · obtain ⟨⟨g, s', i', ns, e1, e2, e3⟩, g2, g3⟩ := w.bag b e
          exact ⟨⟨g, s', i', ns, e1, addF_ext h1 _ _ e2, e3⟩, by rw [addF_out (nb b e)]; exact g2, g3⟩
  · exact ⟨G, F, w⟩
theorem dss_frzAt (i : Nat) (h : DSs K X sts T) : DSs K X sts (fun P ρ => T P (frzAt ρ i)) := by
  refine ⟨PSs.weak h.pss fun D σ H h => ?_⟩
  obtain ⟨G0, H0, B, G, ρ, F, P, w, t, k⟩ := h
  obtain ⟨G', F', w'⟩ := frzAt_wd w i
  exact ⟨G0, H0, B, G', _, F', P, w', t, k⟩
theorem ds_frzAt (i : Nat) (h : DS K X st T) : DS K X st (fun P ρ => T P (frzAt ρ i)) := by
  refine ⟨PS.weak h.ps fun D σ H h => ?_⟩
  obtain ⟨G0, H0, B, G, ρ, F, P, w, t, k⟩ := h
  obtain ⟨G', F', w'⟩ := frzAt_wd w i
  exact ⟨G0, H0, B, G', _, F', P, w', t, k⟩
theorem ds_expr (h : DO K X e To) (hs : swapsWith e none pos.line X.env = pure false := by rfl) : DS K X (.Expr e pos) (fun P ρ => To ρ fun _ => P.nx ρ) := by
  refine ⟨PS.weak (ps_expr h.pe hs) fun D σ H h => ?_⟩
  obtain ⟨G0, H0, B, G, ρ, F, P, w, t, k, _⟩ := h
  exact ⟨G0, H0, B, G, ρ, F, _, w, t, fun o G' H' v Fv p s _ _ => k ρ σ G' H' F p (w.step s)⟩
theorem ds_ret (h : DO K X e To) : DS K X (.Return (some e) pos) (fun P ρ => To ρ P.rt) := by
  refine ⟨PS.weak (ps_ret h.pe) fun D σ H h => ?_⟩
  obtain ⟨G0, H0, B, G, ρ, F, P, w, t, _, k, _⟩ := h
  exact ⟨G0, H0, B, G, ρ, F, _, w, t, fun o G' H' v Fv p s r n => k o G' H' v Fv p ((w.step s).fin r fun a m => w.old (n a m))⟩
/-- return of one's own list -/
theorem ds_retOwn {i : Nat} (h : PE X e (tVar i)) : DS K X (.Return (some e) pos) (fun P ρ => ∃ xs, ρ[i]? = some (some (.l xs)) ∧ P.rt (.lst xs)) := by
  refine ⟨PS.weak (ps_ret h) fun D σ H h => ?_⟩
  obtain ⟨G0, H0, B, G, ρ, F, P, w, ⟨xs, e1, t⟩, _, k, _⟩ := h
  obtain ⟨v, F1, e2, r, sub⟩ := w.env.get e1
  cases r with
  | l r => exact ⟨v, e2, k _ G H v F1 t (w.fin r fun a m => w.own a (sub a m))⟩
theorem ds_retN : DS K X (.Return none pos) (fun P ρ => P.rt (.dat .none)) := by
  refine ⟨PS.weak ps_retN fun D σ H h => ?_⟩
  obtain ⟨G0, H0, B, G, ρ, F, P, w, t, _, k, _⟩ := h
  exact k _ G H _ [] t (w.fin (.dat .non) fun _ m => nomatch m)
theorem ds_if {x y : List Stmt} (hc : DB K X c Tt) (ha : DSs K X x T) (hb : DSs K X y U) : DS K X (.If c x y pos) (fun P ρ => Tt ρ fun k => if k = true then T P ρ else U P ρ) := by
  refine ⟨PS.weak (ps_if hc.pt ha.pss hb.pss) fun D σ H h => ?_⟩
  obtain ⟨G0, H0, B, G, ρ, F, P, w, t, k⟩ := h
  refine ⟨G0, H0, B, G, ρ, F, _, w, t, fun c G' H' p s => ?_⟩
  cases c with
  | true =>
    show liftS K T D σ H'
    exact ⟨G0, H0, B, G', ρ, F, P, w.step s, by simpa using p, k⟩
  | false =>
    show liftS K U D σ H'
    exact ⟨G0, H0, B, G', ρ, F, P, w.step s, by simpa using p, k⟩
theorem Wd.setO {G0 H0 : Hp} {B : Option (Addr × Addr)} {G H G' H' : Hp} {σ : L2.St} {ρ : Env'} {F Fv : List Addr} {v : V} {o : O} (w : Wd K G0 H0 B G H σ ρ F) (s : Stp B G H G' H') (r : RepO K G' H' v o Fv) (n : ∀ a ∈ Fv, H a = none) (i : Nat) :
    ∃ F', Wd K G0 H0 B G' H' (σ.set i (some v)) (ρ.set i (some (En.of o))) F' := by
  obtain ⟨F', w', _⟩ := (w.step s).set (RepN.ofO r) i (fun a m z => (w.env.dom a z).2 (n a m)) (fun a m => w.old (n a m))
  exact ⟨F', w'⟩
/-- x = e -/
theorem ds_set {i : Nat} {x : Str} {pos' : Pos} (hN : X.N.Nodup) (hi : X.N[i]? = some x) (hx : Loc X.env.scope x) (h : DO K X e To) (hs : swapsWith e (some (.Name x pos')) pos.line X.env = pure false := by rfl) (hf : X.fn x = true ∨ X.env.scope.names.lookup x = some .local := by first | exact .inl rfl | exact .inr rfl | assumption) :
    DS K X (.Assign [.Name x pos'] e pos) (fun P ρ => To ρ fun o => P.nx (ρ.set i (some (En.of o)))) := by
  refine ⟨PS.weak (ps_set hN hi hx h.pe hs hf) fun D σ H h => ?_⟩
  obtain ⟨G0, H0, B, G, ρ, F, P, w, t, k, _⟩ := h
  refine ⟨G0, H0, B, G, ρ, F, _, w, t, fun o G' H' v Fv p s r n => ?_⟩
  obtain ⟨F', w'⟩ := w.setO s r n i
  exact k _ _ G' H' F' p w'
/-- x = [.. for ..] on one line -/
theorem ds_setLc {i : Nat} {y : Str} {py : Pos} {elt iter : Expr} {ifs : List Expr} {scope : Scope} {own : List (Str × Nat)} {pos spos : Pos} {ws : List Nat} {g : GT} {Ti : LT} (hc : X.calm = true) (hN : X.N.Nodup) (hy : X.N[i]? = some y) (hyl : X.env.scope.names.lookup y = some .local)
    (hsw : swapsWith (.ListComp elt [⟨tg, iter, ifs, 0⟩] scope pos) (some (.Name y py)) spos.line X.env = pure true) (hi : DI K X tg iter Ti) (ok : BlkOk X.N X.env.scope scope own)
    (hg : ∀ (s : Shared) (H : Hp) (C : Addr) (cl : List (Str × Addr)) (fp : List Addr), DG K (X.blk s H scope (compEnvC scope cl C X.env) fp) tg ws g)
    (ht : ∀ (s : Shared) (H : Hp) (C : Addr) (cl : List (Str × Addr)) (fp : List Addr), DTs K (X.blk s H scope (compEnvC scope cl C X.env) fp) ifs Tt)
    (he : ∀ (s : Shared) (H : Hp) (C : Addr) (cl : List (Str × Addr)) (fp : List Addr), DO K (X.blk s H scope (compEnvC scope cl C X.env) fp) elt To) (hw : ∀ i ∈ ws, i ∈ own.map (·.2) := by decide) (hs : ∀ x, foldedSetIterable iter X.env x = pure x := by intro _; rfl) :
    DS K X (.Assign [.Name y py] (.ListComp elt [⟨tg, iter, ifs, 0⟩] scope pos) spos) (fun P ρ => lcT g Tt To Ti (own.map (·.2)) ρ fun o => P.nx (ρ.set i (some (En.of o)))) := by
  refine ⟨PS.weak (ps_setLc hc hN hy hyl hsw hi.pi ok (fun s H C cl fp => (hg s H C cl fp).pg) (fun s H C cl fp => (ht s H C cl fp).pts) (fun s H C cl fp => (he s H C cl fp).pe) hs) fun D σ H h => ?_⟩
  obtain ⟨G0, H0, B, G, ρ, F, P, w, t, k, _⟩ := h
  refine lift_lc hw σ H _ ⟨G0, H0, B, G, ρ, F, _, w, t, fun o G' H' v Fv p s r n => ?_⟩
  obtain ⟨F', w'⟩ := w.setO s r n i
  exact k _ _ G' H' F' p w'
/-! lists of values -/
structure DOA (K : PySem.W.Frag) (X : Cx) (es : List Expr) (T : Env' → (List O → Prop) → Prop) : Prop where
  pa : PA X es (fun σ H Q => ∃ G0 H0 B G ρ F P, Wd K G0 H0 B G H σ ρ F ∧ T ρ P ∧ ∀ os G' H' vs Fv, P os → Stp B G H G' H' → RepOs K G' H' vs os Fv → (∀ a ∈ Fv, H a = none) → Q vs H')
theorem doa_nil : DOA K X [] (fun _ P => P []) := by
  refine ⟨PA.weak pa_nil fun σ H Q h => ?_⟩
  obtain ⟨G0, H0, B, G, ρ, F, P, w, t, k⟩ := h
  exact k [] G H [] [] t (.refl w.sGH) .nil (fun _ m => nomatch m)
theorem doa_cons {Ts : Env' → (List O → Prop) → Prop} (h : DO K X e To) (ht : DOA K X es Ts) (hs : starEach (e :: es) X.env = (false, eval e X.env) :: starEach es X.env := by rfl) : DOA K X (e :: es) (fun ρ P => To ρ fun o => Ts ρ fun os => P (o :: os)) := by
  refine ⟨PA.weak (pa_cons h.pe ht.pa hs) fun σ H Q h => ?_⟩
  obtain ⟨G0, H0, B, G, ρ, F, P, w, t, k⟩ := h
  refine ⟨G0, H0, B, G, ρ, F, _, w, t, fun o G1 H1 v Fv p1 s1 r1 n1 => ⟨G0, H0, B, G1, ρ, F, _, w.step s1, p1, fun os G2 H2 vs Fw p2 s2 r2 n2 => ?_⟩⟩
  refine k (o :: os) G2 H2 (v :: vs) (Fv ++ Fw) p2 (s1.trans s2 w.bags) (.cons (r1.step s2 fun a m => notB_new w.bags (n1 a m)) r2 fun a m z => (r1.dom a m).2 (n2 a z)) fun a m => ?_
  rcases List.mem_append.mp m with m | m
  · exact n1 a m
  · exact s1.none_back w.bags (n2 a m)
/-- x, y = e, f -/
theorem ds_par {Ts : Env' → (List O → Prop) → Prop} {i j : Nat} {x y : Str} {px py pt : Pos} {kt k2 pt2} (hc : X.calm = true) (hN : X.N.Nodup) (hi : X.N[i]? = some x) (hj : X.N[j]? = some y) (hij : i ≠ j)
    (hx : X.env.scope.names.lookup x = some .local) (hy : X.env.scope.names.lookup y = some .local) (ha : DOA K X [a, b] Ts)
    (hw : swappedStores [.Tuple [.Name x px, .Name y py] kt pt] (.Tuple [a, b] k2 pt2) X.env = pure (some [x, y]))
    (hs : swapsWithSole [.Tuple [.Name x px, .Name y py] kt pt] (.Tuple [a, b] k2 pt2) pos.line X.env = pure false := by rfl) :
    DS K X (.Assign [.Tuple [.Name x px, .Name y py] kt pt] (.Tuple [a, b] k2 pt2) pos) (fun P ρ => Ts ρ fun os => ∃ o p, os = [o, p] ∧ P.nx ((ρ.set i (some (En.of o))).set j (some (En.of p)))) := by
  refine ⟨PS.weak (L2.ps_par hc hN hi hj hij hx hy ha.pa hw hs) fun D σ H h => ?_⟩
  obtain ⟨G0, H0, B, G, ρ, F, P, w, t, k, _⟩ := h
  refine ⟨G0, H0, B, G, ρ, F, _, w, t, fun os G' H' vs Fv p s r n => ?_⟩
  obtain ⟨o, q, rfl, p⟩ := p
  cases r with
  | @cons v _ _ _ F1 _ r1 r2 d1 =>
    cases r2 with
    | @cons u _ _ _ F2 _ r2 r3 d2 =>
      cases r3
      rw [List.append_nil] at d1 n
      obtain ⟨Fa, w1, c1⟩ := (w.step s).set (RepN.ofO r1) i (fun a m z => (w.env.dom a z).2 (n a (List.mem_append_left _ m))) (fun a m => w.old (n a (List.mem_append_left _ m)))
      obtain ⟨Fb, w2, _⟩ := w1.set (RepN.ofO r2) j (fun a m z => (c1 a z).elim (fun z => (w.env.dom a z).2 (n a (List.mem_append_right _ m))) fun z => d1 a z m) (fun a m => w.old (n a (List.mem_append_right _ m)))
      exact ⟨v, u, rfl, k _ _ G' H' Fb p w2⟩
theorem ds_par3 {Ts : Env' → (List O → Prop) → Prop} {i j l : Nat} {x y z : Str} {px py pz pt : Pos} {kt k2 pt2} (hc : X.calm = true) (hN : X.N.Nodup) (hi : X.N[i]? = some x) (hj : X.N[j]? = some y) (hl : X.N[l]? = some z) (hij : i ≠ j) (hil : i ≠ l) (hjl : j ≠ l)
    (hx : X.env.scope.names.lookup x = some .local) (hy : X.env.scope.names.lookup y = some .local) (hz : X.env.scope.names.lookup z = some .local) (ha : DOA K X [a, b, c] Ts)
    (hw : swappedStores [.Tuple [.Name x px, .Name y py, .Name z pz] kt pt] (.Tuple [a, b, c] k2 pt2) X.env = pure (some [x, y, z]))
    (hs : swapsWithSole [.Tuple [.Name x px, .Name y py, .Name z pz] kt pt] (.Tuple [a, b, c] k2 pt2) pos.line X.env = pure false := by rfl) :
    DS K X (.Assign [.Tuple [.Name x px, .Name y py, .Name z pz] kt pt] (.Tuple [a, b, c] k2 pt2) pos) (fun P ρ => Ts ρ fun os => ∃ o p q, os = [o, p, q] ∧ P.nx (((ρ.set i (some (En.of o))).set j (some (En.of p))).set l (some (En.of q)))) := by
  refine ⟨PS.weak (L2.ps_par3 hc hN hi hj hl hij hil hjl hx hy hz ha.pa hw hs) fun D σ H h => ?_⟩
  obtain ⟨G0, H0, B, G, ρ, F, P, w, t, k, _⟩ := h
  refine ⟨G0, H0, B, G, ρ, F, _, w, t, fun os G' H' vs Fv p s r n => ?_⟩
  obtain ⟨o, p', q, rfl, p⟩ := p
  cases r with
  | @cons v _ _ _ F1 _ r1 r2 d1 =>
    cases r2 with
    | @cons u _ _ _ F2 _ r2 r3 d2 =>
      cases r3 with
      | @cons t' _ _ _ F3 _ r3 r4 d3 =>
        cases r4
        rw [List.append_nil] at d2 d1 n
        have n1 : ∀ a ∈ F1, H a = none := fun a m => n a (List.mem_append_left _ m)
        have n2 : ∀ a ∈ F2, H a = none := fun a m => n a (List.mem_append_right _ (List.mem_append_left _ m))
        have n3 : ∀ a ∈ F3, H a = none := fun a m => n a (List.mem_append_right _ (List.mem_append_right _ m))
        obtain ⟨Fa, w1, c1⟩ := (w.step s).set (RepN.ofO r1) i (fun a m z => (w.env.dom a z).2 (n1 a m)) (fun a m => w.old (n1 a m))
        obtain ⟨Fb, w2, c2⟩ := w1.set (RepN.ofO r2) j (fun a m z => (c1 a z).elim (fun z => (w.env.dom a z).2 (n2 a m)) fun z => d1 a z (List.mem_append_left _ m)) (fun a m => w.old (n2 a m))
        obtain ⟨Fc, w3, _⟩ := w2.set (RepN.ofO r3) l (fun a m z => (c2 a z).elim (fun z => (c1 a z).elim (fun z => (w.env.dom a z).2 (n3 a m)) fun z => d1 a z (List.mem_append_right _ m)) fun z => d2 a z m) (fun a m => w.old (n3 a m))
        exact ⟨v, u, t', rfl, k _ _ G' H' Fc p w3⟩
/-- (x, y) = e: e's value taken apart -/
theorem ds_asg {ws : List Nat} {g : GT} (h : DE K X e Ta) (hg : DG K X tg ws g) (hs : swapsWithSole [tg] e pos.line X.env = pure false := by rfl) (hw : swappedStores [tg] e X.env = pure none := by rfl)
    (h1 : (assignEach [tg] X.env).map (·.2) = [assign tg X.env] := by rfl) : DS K X (.Assign [tg] e pos) (fun P ρ => Ta ρ fun d => g d ρ P.nx) := by
  refine ⟨PS.weak (ps_asg h.pe hg.pg hs hw h1) fun D σ H h => ?_⟩
  obtain ⟨G0, H0, B, G, ρ, F, P, w, t, k, _⟩ := h
  refine ⟨G0, H0, B, G, ρ, F, _, w, t, fun d G' H' v p s r => ?_⟩
  exact ⟨G0, H0, B, G', ρ, F, _, d, w.step s, r, p, fun ρ' σ' F' p' w' _ _ => k ρ' σ' G' H' F' p' w'⟩
/-! one's own lists changed -/
theorem Wd.grow {G0 H0 : Hp} {B : Option (Addr × Addr)} {G H : Hp} {σ : L2.St} {ρ : Env'} {F : List Addr} (w : Wd K G0 H0 B G H σ ρ F) {i : Nat} {xs : List O} (e : ρ[i]? = some (some (.l xs))) :
    ∃ p us, σ[i]? = some (some (.ref p)) ∧ H p = some (.lst us) ∧ us.length = xs.length ∧ ∀ G' H' vs os Fv, Stp B G H G' H' → RepOs K G' H' vs os Fv → (∀ a ∈ Fv, H a = none) →
      H' p = some (.lst us) ∧ ∃ F', Wd K G0 H0 B G' (upd H' p (.lst (us ++ vs))) σ (ρ.set i (some (.l (xs ++ os)))) F' := by
  obtain ⟨v, F1, e1, r, sub, _⟩ := w.env.change e
  cases r with
  | l r =>
    cases r with
    | @lst p us _ F2 g h r1 np =>
      refine ⟨p, us, e1, h, r1.length, fun G' H' vs os Fv s ro n => ?_⟩
      have w' := w.step s
      have nbp : NotB B p := fun c z => (w.bag _ z).2.2 (w.own p (sub p List.mem_cons_self))
      have hp' := s.keep _ _ h nbp
      refine ⟨hp', ?_⟩
      obtain ⟨v2, F3, e3, r3, sub3, go⟩ := w'.env.change e
      rw [e1] at e3
      cases e3
      cases r3 with
      | l r3 =>
        cases r3 with
        | @lst _ us' _ F4 g4 h4 r4 np4 =>
          rw [hp'] at h4
          cases h4
          have pv : p ∉ Fv := fun m => by rw [n p m] at h; cases h
          have own4 : ∀ a ∈ F4, H a ≠ none := fun a m => (w.env.dom a (sub3 a (List.mem_cons_of_mem _ m))).2
          have ra := RepOs.append ro r4 (fun a m z => own4 a m (n a z))
          have oth : ∀ a, a ≠ p → ∀ u, H' a = some u → upd H' p (.lst (us ++ vs)) a = some u := fun a z u q => by rw [upd_ne z]; exact q
          have ra' : RepOs K G' (upd H' p (.lst (us ++ vs))) (us ++ vs) (xs ++ os) (F4 ++ Fv) := ra.mono (Same.refl _) (fun a m => (ra.dom a m).1) (fun a m => oth a fun z => by
            subst z
            exact (List.mem_append.mp m).elim np4 pv)
          obtain ⟨F', env', c⟩ := go G' (upd H' p (.lst (us ++ vs))) (.l (xs ++ os)) (p :: (F4 ++ Fv)) (Same.refl _) (fun a m z => ⟨(w'.env.dom a m).1, oth a fun q => z (by rw [q]; exact List.mem_cons_self)⟩)
            (.l (.lst (w'.env.dom p (sub3 p List.mem_cons_self)).1 upd_same ra' fun m => (List.mem_append.mp m).elim np4 pv)) (fun a m => by
              rcases List.mem_cons.mp m with rfl | m
              · exact .inl List.mem_cons_self
              · rcases List.mem_append.mp m with m | m
                · exact .inl (List.mem_cons_of_mem _ m)
                · exact .inr fun z => (w.env.dom a z).2 (n a m))
          have gp : G' p = none := (w'.env.dom p (sub3 p List.mem_cons_self)).1
          refine ⟨F', ⟨fun a u q => ?_, w'.sG, w'.fr, fun a u q nb => ?_, fun a m => ?_, fun b z => ?_, env'⟩⟩
          · have : a ≠ p := fun z => by rw [z, gp] at q; cases q
            rw [upd_ne this]
            exact w'.sGH _ _ q
          · have : a ≠ p := fun z => by rw [z, w.own p (sub p List.mem_cons_self)] at q; cases q
            rw [upd_ne this]
            exact w'.keep a u q nb
          · rcases c a m with m | m
            · exact w'.own a m
            · rcases List.mem_cons.mp m with rfl | m
              · exact w.own _ (sub _ List.mem_cons_self)
              · rcases List.mem_append.mp m with m | m
                · exact w'.own a (sub3 a (List.mem_cons_of_mem _ m))
                · exact w.old (n a m)
          · obtain ⟨⟨g', s', i', ns, q1, q2, q3⟩, q4, q5⟩ := w'.bag b z
            have : b.1 ≠ p := fun y => nbp b.2 (by rw [← y]; exact z)
            exact ⟨⟨g', s', i', ns, by rw [upd_ne this]; exact q1, q2, q3⟩, q4, q5⟩
theorem tyV_lst {H : Hp} {p : Addr} {us : List V} (h : H p = some (.lst us)) : tyV K "list" (.ref p) H := .inl ⟨rfl, _, .inl (.inl h)⟩
/-- xs.append(e), xs one's own -/
theorem ds_append {i : Nat} {o : Expr} {apos cpos : Pos} (e1 : X.K = K) (ho : PE X o (tVar i)) (h : DO K X e To)
    (hbase : attributeBase o "append" X.env (eval o X.env) = eval o X.env := by rfl)
    (hfew : ((backTo cpos (starEach [e] X.env)).all (fun x => !x.1) && (backToKw cpos (keywordEach [] X.env)).all (fun x => x.1.isSome)
      && decide ([e].length + ([] : List Keyword).length + (if ([] : List Keyword).isEmpty then 0 else 1) < 30)) = true := by rfl)
    (hline : (apos.endLine == cpos.line) = true := by rfl) (hs : starEach [e] X.env = (false, eval e X.env) :: starEach [] X.env := by rfl) (hplain : (backTo cpos (starEach [] X.env)).any (·.1) = false := by rfl)
    (hsw : swapsWith (.Call (.Attribute o "append" apos) [e] [] cpos) none pos.line X.env = pure false := by rfl) :
    DS K X (.Expr (.Call (.Attribute o "append" apos) [e] [] cpos) pos) (fun P ρ => ∃ xs, ρ[i]? = some (some (.l xs)) ∧ xs.length < sizeLine ∧ To ρ fun o => P.nx (ρ.set i (some (.l (xs ++ [o]))))) := by
  subst e1
  refine ⟨PS.weak (ps_expr (pe_bm PySem.F.plainAttrs_list PySem.F.slot_list_append PySem.F.type_list_append mt_append ho (pa_cons h.pe pa_nil hs) hbase hfew hline hs hplain) hsw) fun D σ H h => ?_⟩
  obtain ⟨G0, H0, B, G, ρ, F, P, w, ⟨xs, e1, hl, t⟩, k, _⟩ := h
  obtain ⟨p, us, e2, h2, l2, go⟩ := w.grow e1
  refine ⟨.ref p, e2, tyV_lst h2, G0, H0, B, G, ρ, F, _, w, t, fun o G' H' v Fv p' s r n => ?_⟩
  obtain ⟨h3, F', w'⟩ := go G' H' [v] [o] (Fv ++ []) s (.cons r .nil fun _ _ m => nomatch m) (fun a m => n a (by rw [List.append_nil] at m; exact m))
  exact ⟨p, us, v, rfl, rfl, h3, by rw [l2]; exact hl, k _ σ G' _ F' p' w'⟩
/-- xs.extend(e), xs one's own, e a list -/
theorem ds_extend {i : Nat} {o : Expr} {apos cpos : Pos} (e1 : X.K = K) (ho : PE X o (tVar i)) (h : DE K X e Ta)
    (hbase : attributeBase o "extend" X.env (eval o X.env) = eval o X.env := by rfl)
    (hfew : ((backTo cpos (starEach [e] X.env)).all (fun x => !x.1) && (backToKw cpos (keywordEach [] X.env)).all (fun x => x.1.isSome)
      && decide ([e].length + ([] : List Keyword).length + (if ([] : List Keyword).isEmpty then 0 else 1) < 30)) = true := by rfl)
    (hline : (apos.endLine == cpos.line) = true := by rfl) (hs : starEach [e] X.env = (false, eval e X.env) :: starEach [] X.env := by rfl) (hplain : (backTo cpos (starEach [] X.env)).any (·.1) = false := by rfl)
    (hsw : swapsWith (.Call (.Attribute o "extend" apos) [e] [] cpos) none pos.line X.env = pure false := by rfl) :
    DS K X (.Expr (.Call (.Attribute o "extend" apos) [e] [] cpos) pos) (fun P ρ => ∃ xs, ρ[i]? = some (some (.l xs)) ∧ Ta ρ fun d => ∃ ds, d = .list ds ∧ xs.length + ds.length ≤ sizeLine ∧ P.nx (ρ.set i (some (.l (xs ++ ds.map .dat))))) := by
  subst e1
  refine ⟨PS.weak (ps_expr (pe_bm PySem.F.plainAttrs_list PySem.F.slot_list_extend PySem.F.type_list_extend mt_extend ho (pa_cons h.pe pa_nil hs) hbase hfew hline hs hplain) hsw) fun D σ H h => ?_⟩
  obtain ⟨G0, H0, B, G, ρ, F, P, w, ⟨xs, e1, t⟩, k, _⟩ := h
  obtain ⟨p, us, e2, h2, l2, go⟩ := w.grow e1
  refine ⟨.ref p, e2, tyV_lst h2, G0, H0, B, G, ρ, F, _, w, t, fun d G' H' v p' s r => ?_⟩
  obtain ⟨ds, rfl, hl, p'⟩ := p'
  cases r with
  | @lst q vs _ h5 h6 =>
    obtain ⟨h3, F', w'⟩ := go G' H' vs (ds.map .dat) [] s (.ofDat h6) (fun a m => nomatch m)
    exact ⟨p, q, us, vs, rfl, rfl, h3, s.sGH _ _ h5, by rw [l2, h6.length]; exact hl, k _ σ G' _ F' p' w'⟩
theorem Wd.rebase {G0 H0 : Hp} {B : Option (Addr × Addr)} {G H : Hp} {σ : L2.St} {ρ : Env'} {F : List Addr} (w : Wd K G0 H0 B G H σ ρ F) : Wd K G H0 B G H σ ρ F :=
  ⟨w.sGH, Same.refl _, fun _ h => .inl h, w.keep, w.own, w.bag, w.env⟩
theorem Wd.unbase {G0 H0 : Hp} {B : Option (Addr × Addr)} {G H G' H' : Hp} {σ σ' : L2.St} {ρ ρ' : Env'} {F F' : List Addr} (w : Wd K G0 H0 B G H σ ρ F) (w' : Wd K G H0 B G' H' σ' ρ' F') : Wd K G0 H0 B G' H' σ' ρ' F' :=
  ⟨w'.sGH, w.sG.trans w'.sG, fun a h => (w'.fr a h).elim (w.fr a) .inr, w'.keep, w'.own, w'.bag, w'.env⟩
theorem Fin.unbase {G0 H0 : Hp} {B : Option (Addr × Addr)} {G H G' H' : Hp} {σ : L2.St} {ρ : Env'} {F Fv : List Addr} {v : V} {o : O} (w : Wd K G0 H0 B G H σ ρ F) (h : Fin K G H0 B G' H' v o Fv) : Fin K G0 H0 B G' H' v o Fv :=
  ⟨⟨h.stp.keep, w.sG.trans h.stp.sG, h.stp.sGH, fun a z => (h.stp.fr a z).elim (w.fr a) .inr, fun b e k => by
    obtain ⟨g, s, i, ns, e1, e2, e3⟩ := k
    exact h.stp.bag b e ⟨g, s, i, ns, e1, w.sG _ _ e2, e3⟩⟩, h.rep, h.new⟩
/-! for -/
theorem ds_for {iter : Expr} {body : List Stmt} {ws : List Nat} {g : GT} {Ti : LT} (hp : PassesOwn (model X.prog X.w) X.A X.env X.xe) (hc : X.calm = true) (hi : DI K X tg iter Ti) (hg : DG K X tg ws g) (hb : DSs K X body T)
    (hs : ∀ x, foldedSetIterable iter X.env x = pure x := by intro _; rfl) :
    DS K X (.For tg iter body [] pos) (fun P ρ => Ti ρ fun ds => ∃ I : Nat → Env' → Prop, I 0 ρ ∧ (∀ i d ρ', ds[i]? = some d → I i ρ' → g d ρ' fun ρ2 => T { nx := I (i + 1), ct := I (i + 1), bk := P.nx, rt := P.rt } ρ2) ∧ ∀ ρ', I ds.length ρ' → P.nx ρ') := by
  refine ⟨PS.weak (ps_for hp hc hi.pi hg.pg hb.pss hs) fun D σ H h => ?_⟩
  obtain ⟨G0, H0, B, G, ρ, F, P, w, t, k1, k2, k3, k4⟩ := h
  refine ⟨G0, H0, B, G, ρ, F, _, w, t, fun ds G1 H1 J p1 s1 it => ?_⟩
  obtain ⟨I, i0, step, fin⟩ := p1
  obtain ⟨Gp, Y, wk, hGp, hY⟩ := it
  refine for_it wk (fun i σ' H' => ∃ ρ' G' F', I i ρ' ∧ Wd K G0 H0 B G' H' σ' ρ' F' ∧ Same G1 G') ⟨ρ, G1, F, i0, w.step s1, Same.refl _⟩ (fun i σ' H' _ h => ?_) (fun i x σ' H' H'' hi h y => ?_) (fun σ' H' h => ?_)
  · obtain ⟨ρ', G', F', _, w', s⟩ := h
    exact hGp H' (s.trans w'.sGH)
  · obtain ⟨ρ', G', F', hI, w', s⟩ := h
    obtain ⟨G2, d, s2, rd, hd⟩ := hY i H' x H'' hi y B G' s w'.sGH
    refine ⟨G0, H0, B, G2, ρ', F', _, d, w'.step s2, rd, step i d ρ' hd hI, fun ρ2 σ2 F2 p2 w2 _ _ => ?_⟩
    have s3 : Same G1 G2 := s.trans s2.sG
    exact ⟨G2, H0, B, G2, ρ2, F2, _, w2.rebase, p2, fun ρ3 σ3 G3 H3 F3 p3 w3 => ⟨ρ3, G3, F3, p3, w2.unbase w3, s3.trans w3.sG⟩, fun o G3 H3 v Fv p3 f => k2 o G3 H3 v Fv p3 (f.unbase w2),
      fun ρ3 σ3 G3 H3 F3 p3 w3 => k1 ρ3 σ3 G3 H3 F3 p3 (w2.unbase w3), fun ρ3 σ3 G3 H3 F3 p3 w3 => ⟨ρ3, G3, F3, p3, w2.unbase w3, s3.trans w3.sG⟩⟩
  · obtain ⟨ρ', G', F', hI, w', s⟩ := h
    exact k1 ρ' σ' G' H' F' (fin ρ' hI) w'
end

/-! ### defs -/
inductive RepA (K : PySem.W.Frag) (B : Option (Addr × Addr)) (G : Hp) : List V → List En → Prop
  | nil : RepA K B G [] []
  | d {v : V} {d : PyData} {vs : List V} {as : List En} : Dr K G v d → RepA K B G vs as → RepA K B G (v :: vs) (.d d :: as)
  | bag {b : Addr × Addr} {vs : List V} {as : List En} : B = some b → RepA K B G vs as → RepA K B G (.ref b.1 :: vs) (.bag :: as)
abbrev DSp := List En → (O → Prop) → Prop
def spF (K : PySem.W.Frag) (S : DSp) : Sp := fun vs H Q _ => ∃ B G as P, Same G H ∧ (∀ b, B = some b → BagAt G H b ∧ G b.1 = none) ∧ RepA K B G vs as ∧ S as P ∧
  ∀ o G' H' v Fv, P o → Stp B G H G' H' → RepO K G' H' v o Fv → (∀ a ∈ Fv, H a = none) → Q v H'
section
variable {K : PySem.W.Frag} {B : Option (Addr × Addr)} {G H G' H' : Hp}
theorem RepA.length : ∀ {vs : List V} {as : List En}, RepA K B G vs as → vs.length = as.length
  | _, _, .nil => rfl
  | _, _, .d _ t => by rw [List.length_cons, List.length_cons, RepA.length t]
  | _, _, .bag _ t => by rw [List.length_cons, List.length_cons, RepA.length t]
theorem RepA.env : ∀ {vs : List V} {as : List En} {n : Nat}, RepA K B G vs as → RepE K B G H (vs.map some ++ List.replicate n none) (as.map some ++ List.replicate n none) []
  | [], _, 0, .nil => .nil
  | [], _, n + 1, .nil => .non (RepA.env (vs := []) (n := n) .nil)
  | _, _, _, .d h t => .d h (RepA.env t)
  | _, _, _, .bag h t => .bag h (RepA.env t)
theorem RepA.same (s : Same G G') : ∀ {vs : List V} {as : List En}, RepA K B G vs as → RepA K B G' vs as
  | _, _, .nil => .nil
  | _, _, .d h t => .d (h.same s) (RepA.same s t)
  | _, _, .bag h t => .bag h (RepA.same s t)
end
/-- the slots at a def's start -/
def startD (N : List Str) (as : List En) : Env' := as.map some ++ List.replicate (N.length - as.length) none
section
variable {P : Program} {w : World} {K : PySem.W.Frag} {mg : Str → Option Value} {base : Heap} {x qual : Str} {st : Stmt} {f : Addr} {fd : FuncData} {N ps : List Str} {k : Nat} {S : DSp}
/-- a def by its body -/
theorem okD (F : Fun K x qual st f fd) (Sc : FnScope N ps (defScope st)) (many : ∀ as Q, S as Q → as.length = ps.length)
    (body : ∀ (cdv : Value) (A : Around) (out : List Env) (s : Shared) (H : Hp) (E : XK),
      Gd (A.deeper (envOfC qual (defScope st) s.heap.objs.size f cdv)) → Room k (A.deeper (envOfC qual (defScope st) s.heap.objs.size f cdv)) →
      ∃ T, DSs K (cxOf CX0 P w K mg base N qual (defScope st) f cdv A out s H E).nox (defBody st) T ∧ ∀ as Q, S as Q → T { nx := fun _ => Q (.dat .none), rt := Q } (startD N as)) :
    FnG P w K mg base (k + 1) f fd ps (spF K S) := by
  refine okG F Sc (fun vs H Q E h => ?_) (fun cdv A out s H vs Q E hG hr h => ?_)
  · obtain ⟨B, G, as, P', _, _, r, h, _⟩ := h
    rw [r.length]
    exact many as P' h
  · obtain ⟨B, G, as, P', sm, hb, r, h, go⟩ := h
    obtain ⟨T, d, t⟩ := body cdv A out s H E hG hr
    refine ⟨_, d.pss, G, H, B, G, startD N as, [], _, ⟨sm, Same.refl _, fun _ z => .inl z, fun _ _ z _ => z, (fun _ m => nomatch m), fun b e => ⟨(hb b e).1, (hb b e).2, (hb b e).1.some⟩, ?_⟩, t as P' h, fun ρ' σ' G' H' F' p w' => ?_, fun o G' H' v Fv p f => go o G' H' v Fv p f.stp f.rep f.new, (fun _ _ _ _ _ z => z.elim), fun _ _ _ _ _ z => z.elim⟩
    · show RepE K B G H (L2.start N vs) _ []
      unfold L2.start startD
      rw [r.length]
      exact r.env
    · have f := w'.fin (v := .non) (o := .dat .none) (.dat .non) (fun _ m => nomatch m)
      exact go _ G' H' .non [] p f.stp f.rep f.new
theorem FnG.mono {sp sp' : Sp} (F : FnG P w K mg base k f fd ps sp) (h : ∀ vs H Q E, sp' vs H Q E → sp vs H Q E) : FnG P w K mg base k f fd ps sp' :=
  ⟨fun vs H Q E z => F.many vs H Q E (h vs H Q E z), fun A out s H ar us vs Q E g r e b v z => F.does A out s H ar us vs Q E g r e b v (h vs H Q E z)⟩
end
section
variable {K : PySem.W.Frag} {X : Cx} {e : Expr} {es : List Expr} {Ta : DT} {pos : Pos}
/-- a call's arguments: data, or the bag -/
structure DR (K : PySem.W.Frag) (X : Cx) (es : List Expr) (T : Env' → (List En → Prop) → Prop) : Prop where
  pa : PA X es (fun σ H Q => ∃ G0 H0 B G ρ F P, Wd K G0 H0 B G H σ ρ F ∧ T ρ P ∧ ∀ as G' H' vs, P as → Stp B G H G' H' → RepA K B G' vs as → Q vs H')
theorem dr_nil : DR K X [] (fun _ P => P []) := by
  refine ⟨PA.weak pa_nil fun σ H Q h => ?_⟩
  obtain ⟨G0, H0, B, G, ρ, F, P, w, t, k⟩ := h
  exact k [] G H [] t (.refl w.sGH) .nil
theorem dr_cons {T : Env' → (List En → Prop) → Prop} (h : DE K X e Ta) (ht : DR K X es T) (hs : starEach (e :: es) X.env = (false, eval e X.env) :: starEach es X.env := by rfl) : DR K X (e :: es) (fun ρ P => Ta ρ fun d => T ρ fun as => P (.d d :: as)) := by
  refine ⟨PA.weak (pa_cons h.pe ht.pa hs) fun σ H Q h => ?_⟩
  obtain ⟨G0, H0, B, G, ρ, F, P, w, t, k⟩ := h
  refine ⟨G0, H0, B, G, ρ, F, _, w, t, fun d G1 H1 v p1 s1 r1 => ⟨G0, H0, B, G1, ρ, F, _, w.step s1, p1, fun as G2 H2 vs p2 s2 r2 => ?_⟩⟩
  exact k _ G2 H2 _ p2 (s1.trans s2 w.bags) (.d (r1.same s2.sG) r2)
theorem dr_bag {T : Env' → (List En → Prop) → Prop} {i : Nat} (h : PE X e (tVar i)) (ht : DR K X es T) (hs : starEach (e :: es) X.env = (false, eval e X.env) :: starEach es X.env := by rfl) : DR K X (e :: es) (fun ρ P => ρ[i]? = some (some .bag) ∧ T ρ fun as => P (.bag :: as)) := by
  refine ⟨PA.weak (pa_cons h ht.pa hs) fun σ H Q h => ?_⟩
  obtain ⟨G0, H0, B, G, ρ, F, P, w, ⟨e1, t⟩, k⟩ := h
  obtain ⟨v, F1, e2, r, _⟩ := w.env.get e1
  cases r with
  | bag z => exact ⟨_, e2, G0, H0, B, G, ρ, F, _, w, t, fun as G2 H2 vs p2 s2 r2 => k _ G2 H2 _ p2 s2 (.bag z r2)⟩
/-- f(e, ..) -/
theorem do_call {j k : Nat} {x : Str} {p : Pos} {S : DSp} {T : Env' → (List En → Prop) → Prop} (e1 : X.K = K) (c : ClG X.prog X.w X.K X.mg X.base k x (spF K S)) (hG : Gd X.A) (hr : Room j X.A) (hk : k ≤ j) (hg : Gl X x)
    (ha : DR K X (e :: es) T) (hdb : (x == ("__debug__" : Str)) = false := by decide)
    (he : starEach (e :: es) X.env = (false, eval e X.env) :: starEach es X.env := by rfl)
    (hpl : (backTo pos (starEach es X.env)).any (·.1) = false := by rfl) :
    DO K X (.Call (.Name x p) (e :: es) [] pos) (fun ρ P => T ρ fun as => S as P) := by
  subst e1
  refine ⟨PE.weak (pe_clG c hG hr hk hg ha.pa hdb he hpl) fun σ H Q h => ?_⟩
  obtain ⟨G0, H0, B, G, ρ, F, P, w, t, k⟩ := h
  refine ⟨G0, H0, B, G, ρ, F, _, w, t, fun as G' H' vs p s r => ?_⟩
  show spF X.K S (vs ++ []) H' Q E0
  rw [List.append_nil]
  have w' := w.step s
  exact ⟨B, G', as, P, s.sGH, fun b e => ⟨(w'.bag b e).1, (w'.bag b e).2.1⟩, r, p, fun o G2 H2 v Fv p2 s2 r2 n2 => k o G2 H2 v Fv p2 (s.trans s2 w.bags) r2 fun a m => s.none_back w.bags (n2 a m)⟩
end
end DL
set_option Elab.async false
set_option linter.all false
set_option maxRecDepth 100000
set_option maxHeartbeats 1000000
/-! DL6: rules for values of any kind; reads of dicts; one's own lists by place -/
namespace DL
open PySem PySem.Spec PyProof.Rows L2 GL
section
variable {K : PySem.W.Frag} {X : Cx} {e a b c tg : Expr} {es rest : List Expr} {Ta Tb Tc : DT} {To Tp : OT} {Tt Tu : BT} {Tl : LT} {pos : Pos}
theorem OpOwn.of {r : R2} {R : PyData → PyData → (PyData → Prop) → Prop} (h : OpData K r R) : OpOwn K r (fun d e P => R d e fun d' => P (.dat d')) := by
  intro B G H d e x y P Q s dx dy p k
  exact h B G H d e x y _ Q s dx dy p fun d' G' H' v p s r => k _ G' H' v [] p s (.dat r) fun _ m => nomatch m
theorem OpOwn.or {r r' : R2} {R R' : PyData → PyData → (O → Prop) → Prop} (h : OpOwn K r R) (h' : OpOwn K r' R') : OpOwn K (fun x y H Q => r x y H Q ∨ r' x y H Q) (fun d e P => R d e P ∨ R' d e P) := by
  intro B G H d e x y P Q s dx dy p k
  exact p.imp (fun p => h B G H d e x y P Q s dx dy p k) (fun p => h' B G H d e x y P Q s dx dy p k)
theorem OpData.or {r r' : R2} {R R' : PyData → PyData → (PyData → Prop) → Prop} (h : OpData K r R) (h' : OpData K r' R') : OpData K (fun x y H Q => r x y H Q ∨ r' x y H Q) (fun d e P => R d e P ∨ R' d e P) := by
  intro B G H d e x y P Q s dx dy p k
  exact p.imp (fun p => h B G H d e x y P Q s dx dy p k) (fun p => h' B G H d e x y P Q s dx dy p k)
theorem OpData.imp {r : R2} {R R' : PyData → PyData → (PyData → Prop) → Prop} (h : OpData K r R) (i : ∀ d e P, R' d e P → R d e P) : OpData K r R' := by
  intro B G H d e x y P Q s dx dy p k
  exact h B G H d e x y P Q s dx dy (i d e P p) k
theorem OpOwn.imp {r : R2} {R R' : PyData → PyData → (O → Prop) → Prop} (h : OpOwn K r R) (i : ∀ d e P, R' d e P → R d e P) : OpOwn K r R' := by
  intro B G H d e x y P Q s dx dy p k
  exact h B G H d e x y P Q s dx dy (i d e P p) k
/-! an item, of anything -/
def ixD : PyData → PyData → Option PyData
  | .list ds, .int i => atI ds i
  | .tuple ds, .int i => atI ds i
  | .str z, .int i => if z.length ≤ sizeLine then (atI z.cps.toList i).map fun c => .str ⟨#[c]⟩ else none
  | _, _ => none
theorem od_ix : OpData K (rIx K) (fun d e P => ∃ d', ixD d e = some d' ∧ P d') := (od_ixL.or (od_ixT.or od_ixS)).imp fun d e P h => by
  obtain ⟨d', h, p⟩ := h
  cases d <;> cases e <;> simp only [ixD, reduceCtorEq] at h
  · split at h
    · rename_i z i hl
      cases q : atI z.cps.toList i with
      | none => rw [q] at h; cases h
      | some c => rw [q] at h; cases h; exact .inr (.inr ⟨_, _, c, rfl, rfl, hl, q, p⟩)
    · cases h
  · exact .inl ⟨_, _, _, rfl, rfl, h, p⟩
  · exact .inr (.inl ⟨_, _, _, rfl, rfl, h, p⟩)
theorem de_ixA (e1 : X.K = K) (ha : DE K X a Ta) (hb : DE K X b Tb) (hs : PlainIx b := by exact fun _ _ => rfl) : DE K X (.Subscript a b pos) (fun ρ P => Ta ρ fun d => Tb ρ fun e => ∃ d', ixD d e = some d' ∧ P d') := by
  subst e1
  exact de_ix ix_seq od_ix ha hb hs
/-! + -/
def addD : PyData → PyData → Option O
  | .int i, .int j => some (.dat (.int (i + j)))
  | .str x, .str y => if x.length + y.length ≤ sizeLine then some (.dat (.str (x ++ y))) else none
  | .list ds, .list es => if ds.length + es.length ≤ sizeLine then some (.lst ((ds ++ es).map .dat)) else none
  | .tuple ds, .tuple es => if ds.length + es.length ≤ sizeLine then some (.dat (.tuple (ds ++ es))) else none
  | _, _ => none
theorem ow_add : OpOwn K (fun x y H Q => rI0 (fun i j => .int (i + j)) x y H Q ∨ (∃ i j, x = V.str i ∧ y = V.str j ∧ i.length + j.length ≤ sizeLine ∧ Q (V.str (i ++ j)) H) ∨ rCatR x y H Q ∨ rCatA K x y H Q)
    (fun d e P => ∃ o, addD d e = some o ∧ P o) := ((OpOwn.of od_I).or ((OpOwn.of od_addS).or (ow_cat.or (OpOwn.of od_catT)))).imp fun d e P h => by
  obtain ⟨o, h, p⟩ := h
  cases d <;> cases e <;> simp only [addD, reduceCtorEq] at h
  · cases h
    exact .inl ⟨_, _, rfl, rfl, p⟩
  · split at h
    · cases h
      exact .inr (.inl ⟨_, _, rfl, rfl, by assumption, p⟩)
    · cases h
  · split at h
    · cases h
      exact .inr (.inr (.inl ⟨_, _, rfl, rfl, by assumption, p⟩))
    · cases h
  · split at h
    · cases h
      exact .inr (.inr (.inr ⟨_, _, rfl, rfl, by assumption, p⟩))
    · cases h
theorem do_add (e1 : X.K = K) (ha : DE K X a Ta) (hb : DE K X b Tb) : DO K X (.BinOp a .Add b pos) (fun ρ P => Ta ρ fun d => Tb ρ fun e => ∃ o, addD d e = some o ∧ P o) := by
  subst e1
  exact do_op (op_add.or (op_add_str.or (op_catR.or op_catA))) ow_add ha hb
/-! - // % of ints -/
theorem de_sub (ha : DE K X a Ta) (hb : DE K X b Tb) : DE K X (.BinOp a .Sub b pos) (fun ρ P => Ta ρ fun d => Tb ρ fun e => RI (fun i j => .int (i - j)) d e P) := de_op op_sub od_I ha hb
theorem de_mod (ha : DE K X a Ta) (hb : DE K X b Tb) : DE K X (.BinOp a .Mod b pos) (fun ρ P => Ta ρ fun d => Tb ρ fun e => RIc (fun _ j => 0 < j) (fun i j => .int (i % j)) d e P) := de_op op_mod od_Ic ha hb
theorem de_fdiv (ha : DE K X a Ta) (hb : DE K X b Tb) : DE K X (.BinOp a .FloorDiv b pos) (fun ρ P => Ta ρ fun d => Tb ρ fun e => RIc CDiv (fun i j => .int (i / j)) d e P) := de_op op_fdiv od_Ic ha hb
theorem de_pow (ha : DE K X a Ta) (hb : DE K X b Tb) : DE K X (.BinOp a .Pow b pos) (fun ρ P => Ta ρ fun d => Tb ρ fun e => RIc CPow (fun i j => .int (i ^ j.toNat)) d e P) := de_op op_pow od_Ic ha hb
/-! * -/
theorem ow_rep : OpOwn K rRep (fun d e P => ∃ ds k, d = .list ds ∧ e = .int k ∧ -(2 ^ 63) ≤ k ∧ k < 2 ^ 63 ∧ ds.length * k.toNat ≤ sizeLine ∧ P (.lst ((List.replicate k.toNat ds).flatten.map .dat))) := by
  intro B G H d e x y P Q s dx dy p k
  obtain ⟨ds, i, rfl, rfl, h1, h2, h3, p⟩ := p
  cases dy
  cases dx with
  | @lst l xs _ h5 h6 =>
    refine ⟨_, i, xs, rfl, rfl, s _ _ h5, h1, h2, by rw [h6.length]; exact h3, fun q nq => new_own s nq ?_ p k⟩
    generalize i.toNat = n
    induction n with
    | zero => exact .nil
    | succ n ih =>
      rw [List.replicate_succ, List.flatten_cons, List.replicate_succ, List.flatten_cons]
      exact h6.append ih
def mulR : PyData → PyData → (O → Prop) → Prop := fun d e P => (∃ i j, d = .int i ∧ e = .int j ∧ CMul i j ∧ P (.dat (.int (i * j)))) ∨ (∃ (z : Str) (n : Int), d = .str z ∧ e = .int n ∧ 0 ≤ n ∧ n ≤ 1000 ∧ z.length ≤ 1000 ∧ P (.dat (.str (Txt.mul z n)))) ∨
  ∃ ds k, d = .list ds ∧ e = .int k ∧ -(2 ^ 63) ≤ k ∧ k < 2 ^ 63 ∧ ds.length * k.toNat ≤ sizeLine ∧ P (.lst ((List.replicate k.toNat ds).flatten.map .dat))
theorem do_mul (ha : DE K X a Ta) (hb : DE K X b Tb) : DO K X (.BinOp a .Mult b pos) (fun ρ P => Ta ρ fun d => Tb ρ fun e => mulR d e P) :=
  do_op (op_mul.or (op_mul_str.or op_rep)) ((OpOwn.of od_Ic).or ((OpOwn.of od_mulS).or ow_rep)) ha hb
/-! -x -/
theorem de_neg (ha : DE K X a Ta) : DE K X (.UnaryOp .USub a pos) (fun ρ P => Ta ρ fun d => ∃ i, d = .int i ∧ P (.int (-i))) := by
  refine ⟨PE.weak (pe_un un_neg ha.pe) fun σ H Q h => ?_⟩
  obtain ⟨G0, H0, B, G, ρ, F, P, w, t, k⟩ := h
  refine ⟨G0, H0, B, G, ρ, F, _, w, t, fun d G' H' v p s r => ?_⟩
  obtain ⟨i, rfl, p⟩ := p
  exact ⟨i, r.tInt, k _ G' H' _ p s (.int _)⟩
/-! comparisons -/
section
variable (hu : X.A.units + 64 < cLine)
theorem eq_rule (e1 : X.K = K) (hu : X.A.units + 64 < cLine) : OpR X (compareOp .Eq) (fun x y H Q => rEq x y H Q ∨ rEqD K x y H Q) := by
  subst e1
  exact op_eq.or (op_eqD hu)
theorem ne_rule (e1 : X.K = K) (hu : X.A.units + 64 < cLine) : OpR X (compareOp .NotEq) (fun x y H Q => rNe x y H Q ∨ rNeD K x y H Q) := by
  subst e1
  exact op_ne.or (op_neD hu)
def eqR (n : Bool) : PyData → PyData → (PyData → Prop) → Prop := fun d e P => RS n d e P ∨ RD n d e P
theorem de_eq (e1 : X.K = K) (hu : X.A.units + 64 < cLine) (ha : DE K X a Ta) (hb : DE K X b Tb) : DE K X (.Compare a [.Eq] [b] pos) (fun ρ P => Ta ρ fun d => Tb ρ fun e => eqR false d e P) := de_cmp (eq_rule e1 hu) (od_eq.or od_eqD) ha hb (nomark _)
theorem de_ne (e1 : X.K = K) (hu : X.A.units + 64 < cLine) (ha : DE K X a Ta) (hb : DE K X b Tb) : DE K X (.Compare a [.NotEq] [b] pos) (fun ρ P => Ta ρ fun d => Tb ρ fun e => eqR true d e P) := de_cmp (ne_rule e1 hu) (od_ne.or od_neD) ha hb (nomark _)
theorem db_eq (e1 : X.K = K) (hu : X.A.units + 64 < cLine) (ha : DE K X a Ta) (hb : DE K X b Tb) : DB K X (.Compare a [.Eq] [b] pos) (fun ρ P => Ta ρ fun d => Tb ρ fun e => eqR false d e fun x => ∃ k, x = .bool k ∧ P k) := db_cmp (eq_rule e1 hu) (od_eq.or od_eqD) ha hb (nomark _)
theorem db_ne (e1 : X.K = K) (hu : X.A.units + 64 < cLine) (ha : DE K X a Ta) (hb : DE K X b Tb) : DB K X (.Compare a [.NotEq] [b] pos) (fun ρ P => Ta ρ fun d => Tb ρ fun e => eqR true d e fun x => ∃ k, x = .bool k ∧ P k) := db_cmp (ne_rule e1 hu) (od_ne.or od_neD) ha hb (nomark _)
end
theorem od_leS : OpData K (fun x y H Q => ∃ i j, x = .str i ∧ y = .str j ∧ Q (.bl (!decide (j.cps.toList < i.cps.toList))) H) (fun d e P => ∃ i j, d = .str i ∧ e = .str j ∧ P (.bool (!decide (j.cps.toList < i.cps.toList)))) := flat_data fun G H d e x y P Q s dx dy p k => by
  obtain ⟨i, j, rfl, rfl, p⟩ := p
  cases dx
  cases dy
  exact ⟨i, j, rfl, rfl, k _ _ p (.bl _)⟩
/-! in, not in -/
def flatD4 : PyData → Bool
  | .none => true
  | .bool _ => true
  | .int _ => true
  | .str _ => true
  | _ => false
theorem flat_v {G : Hp} {v : V} {d : PyData} (r : Dr K G v d) (h : flatD4 d = true) : flatV v = true := by cases r <;> first | rfl | cases h
theorem eqV_d {G : Hp} {v u : V} {d e : PyData} (r : Dr K G v d) (r' : Dr K G u e) (h : flatD4 d = true) (h' : flatD4 e = true) : eqV v u = PyData.eqv d e := by
  cases r <;> cases r' <;> first | rfl | cases h | cases h' | (simp [eqV, PyData.eqv])
theorem flat_all {G : Hp} : ∀ {vs : List V} {ds : List PyData}, DrAll K G vs ds → ds.all flatD4 = true → vs.all flatV = true
  | _, _, .nil, _ => rfl
  | _, _, .cons r t, h => by
    rw [List.all_cons, Bool.and_eq_true] at h ⊢
    exact ⟨flat_v r h.1, flat_all t h.2⟩
theorem inV_d {G : Hp} {x : V} {d : PyData} (r : Dr K G x d) (h : flatD4 d = true) : ∀ {vs : List V} {ds : List PyData}, DrAll K G vs ds → ds.all flatD4 = true → inV x vs = ds.any fun e => PyData.eqv e d
  | _, _, .nil, _ => rfl
  | _, _, .cons r1 t, h1 => by
    rw [List.all_cons, Bool.and_eq_true] at h1
    show (eqV _ x || inV x _) = _
    rw [List.any_cons, eqV_d r1 r h1.1 h, inV_d r h t h1.2]
theorem od_in (n : Bool) : OpData K (rIn K n) (fun d e P => ∃ ds, items e = some ds ∧ flatD4 d = true ∧ ds.all flatD4 = true ∧ P (.bool ((ds.any fun x => PyData.eqv x d) ^^ n))) := flat_data fun G H d e x y P Q s dx dy p k => by
  obtain ⟨ds, h, f, fs, p⟩ := p
  obtain ⟨q, vs, rfl, h1, h2⟩ := dy.items h
  refine ⟨q, vs, rfl, sq_same s h1, flat_v dx f, flat_all h2 fs, ?_⟩
  rw [inV_d dx f h2 fs]
  cases n
  · rw [Bool.xor_false] at p
    exact k _ _ p (.bl _)
  · rw [Bool.xor_true] at p
    exact k _ _ p (.bl _)
theorem od_inS : OpData K (fun x y H Q => ∃ (c : Nat) (z : Str), x = .str ⟨#[c]⟩ ∧ y = .str z ∧ Q (.bl (decide (c ∈ z.cps.toList))) H) (fun d e P => ∃ (c : Nat) (z : Str), d = .str ⟨#[c]⟩ ∧ e = .str z ∧ P (.bool (decide (c ∈ z.cps.toList)))) := flat_data fun G H d e x y P Q s dx dy p k => by
  obtain ⟨c, z, rfl, rfl, p⟩ := p
  cases dx
  cases dy
  exact ⟨c, z, rfl, rfl, k _ _ p (.bl _)⟩
theorem od_ninS : OpData K (fun x y H Q => ∃ (c : Nat) (z : Str), x = .str ⟨#[c]⟩ ∧ y = .str z ∧ Q (.bl (!decide (c ∈ z.cps.toList))) H) (fun d e P => ∃ (c : Nat) (z : Str), d = .str ⟨#[c]⟩ ∧ e = .str z ∧ P (.bool (!decide (c ∈ z.cps.toList)))) := flat_data fun G H d e x y P Q s dx dy p k => by
  obtain ⟨c, z, rfl, rfl, p⟩ := p
  cases dx
  cases dy
  exact ⟨c, z, rfl, rfl, k _ _ p (.bl _)⟩
theorem od_int1 : CallData K (fun xs H Q => (∃ i, xs = [.int i] ∧ Q (.int i) H) ∨ ∃ k, xs = [.bl k] ∧ Q (.int (if k then 1 else 0)) H) (fun ds P => ∃ d i, ds = [d] ∧ intOf d = some i ∧ P (.int i)) := flat_call fun G H ds vs P Q s dx p k => by
  obtain ⟨d, i, rfl, h, p⟩ := p
  obtain ⟨v, rfl, r⟩ := dx.one
  cases r with
  | int j => cases h; exact .inl ⟨_, rfl, k _ _ p (.int _)⟩
  | bl b => cases h; exact .inr ⟨_, rfl, k _ _ p (.int _)⟩
  | _ => cases h
/-! slices of anything -/
def slD : PyData → Option Int → Option Int → Option O
  | .list ds, i, j => some (.lst ((cutD ds i j).map .dat))
  | .tuple ds, i, j => some (.dat (.tuple (cutD ds i j)))
  | .str z, i, j => if z.length ≤ sizeLine then some (.dat (.str (cutS z i j))) else none
  | _, _, _ => none
theorem do_sl {Tl Th : Env' → (Option Int → Prop) → Prop} {lo hi : Option Expr} {p2 : Pos} (e1 : X.K = K) (h : DE K X e Ta) (hl : IntO Tl K X lo) (hh : IntO Th K X hi) :
    DO K X (.Subscript e (.Slice lo hi none p2) pos) (fun ρ P => Ta ρ fun d => Tl ρ fun i => Th ρ fun j => ∃ o, slD d i j = some o ∧ P o) := by
  subst e1
  refine ⟨PE.weak (pe_slice (sl_list.or (sl_tupA.or sl_str)) h.pe hl hh) fun σ H Q h => ?_⟩
  obtain ⟨G0, H0, B, G, ρ, F, P, w, t, k⟩ := h
  refine slice3 w t fun d i j G' H' v p s r => ?_
  obtain ⟨o, h, p⟩ := p
  cases r with
  | lst h1 h2 =>
    cases h
    refine .inl ⟨_, _, rfl, .inl (.inl (s.sGH _ _ h1)), fun q nq => ?_⟩
    exact new_own s.sGH nq (cut_dr h2 i j) p fun o G2 H2 v2 Fv p2 s2 r2 n2 => k o G2 H2 v2 Fv p2 (s.trans s2 w.bags) r2 fun a m => s.none_back w.bags (n2 a m)
  | @tup a xs ds h1 h2 =>
    cases h
    refine .inr (.inl ⟨_, _, rfl, Same.seqT s.sGH h1, fun z => ?_, fun z q nq => ?_⟩)
    · have e : cutD ds i j = ds := by
        unfold cutD
        rw [← h2.length, z.1, z.2, List.drop_zero, Nat.sub_zero, h2.length, List.take_length]
      rw [e] at p
      exact k _ G' H' _ [] p s (.dat (.tup h1 h2)) fun _ m => nomatch m
    · have s2 := Stp.lay (B := B) (o := .tup (cutV xs i j)) s.sGH nq
      exact k _ _ _ _ [] p (s.trans s2 w.bags) (.dat (.tup (.inl (.inl upd_same)) ((cut_dr h2 i j).same s2.sG))) fun _ m => nomatch m
  | str z =>
    simp only [slD] at h
    split at h
    · rename_i hz
      cases h
      exact .inr (.inr ⟨z, rfl, hz, k _ G' H' _ [] p s (.dat (.str _)) fun _ m => nomatch m⟩)
    · cases h
  | _ => cases h
/-! walks over anything -/
def iterD : PyData → Option (List PyData)
  | .list ds => some ds
  | .tuple ds => some ds
  | .str z => some (signsD z)
  | _ => none
theorem pi_any {t : TE} (hl : PE X e t) : PI X tg e (fun σ H R => t σ H fun x H1 => (∃ a, x = .ref a ∧ (((∃ xs, SqL X.K H1 a xs) ∧ R (Itl X.K a) H1) ∨ ((∃ xs, SqT X.K H1 a xs) ∧ R (Itt X.K a) H1))) ∨ ∃ z, x = .str z ∧ R (Its z) H1) := by
  refine ⟨fun pins s σ H R I h => ?_⟩
  refine thn (hl.run pins s σ H _ I h) fun v s1 ⟨x, H1, I1, r1, q1⟩ => ?_
  rcases q1 with ⟨a, rfl, q⟩ | ⟨z, rfl, q⟩
  · cases r1
    rcases q with ⟨⟨xs, hq⟩, q⟩ | ⟨⟨xs, hq⟩, q⟩
    · obtain ⟨its, rv, p, hz⟩ := I1.list hq
      refine wpAny_pyIter_list p.isList ?_
      refine ⟨s1.heap.objs.size, [s1.heap.objs.size], _, _, H1, rfl, I1.kept (t' := s1.toks) fun b o e => Heap.get?_push_of_some _ e, turn_list a _, ⟨_, Heap.get?_push_size _ rfl, rfl, rfl⟩, fun b hb => ?_, q⟩
      have e : b = s1.heap.objs.size := by simpa using hb
      subst e
      exact I1.fpOk (Nat.le_refl _) (I1.hok.fresh (Nat.le_refl _))
    · obtain ⟨its, rv, p, hz⟩ := I1.tuple hq
      refine wpAny_pyIter_tuple (show s1.heap.IsTuple a its.toArray from p) ?_
      refine ⟨s1.heap.objs.size, [s1.heap.objs.size], _, _, H1, rfl, I1.kept (t' := s1.toks) fun b o e => Heap.get?_push_of_some _ e, turn_tuple a _, ⟨_, Heap.get?_push_size _ rfl, rfl, rfl⟩, fun b hb => ?_, q⟩
      have e : b = s1.heap.objs.size := by simpa using hb
      subst e
      exact I1.fpOk (Nat.le_refl _) (I1.hok.fresh (Nat.le_refl _))
  · obtain ⟨t, rfl⟩ := r1
    cases ha : z.cps.all (· < 128)
    · exact wpAny_pyIter_wide ha (pi_one (tk := s1.toks) I1 _ (turn_str _ z t "str_iterator" (.inr rfl)) ⟨_, Heap.get?_push_size _ rfl, rfl, rfl⟩ q)
    · exact wpAny_pyIter_ascii ha (pi_one (tk := s1.toks) I1 _ (turn_str _ z t "str_ascii_iterator" (.inl rfl)) ⟨_, Heap.get?_push_size _ rfl, rfl, rfl⟩ q)
theorem iter_str {G : Hp} {z : Str} : IterOf K (Its z) G (signsD z) := by
  have w := walk_str (z := z)
  rw [show z.cps.size = (signsD z).length by simp [signsD]] at w
  refine ⟨_, _, w, fun _ _ => trivial, fun i H x H' hi y B G1 s1 s2 => ?_⟩
  obtain ⟨rfl, c, h1, rfl⟩ := y
  refine ⟨G1, _, .refl s2, .str _, ?_⟩
  unfold signsD
  rw [List.getElem?_map, Array.getElem?_toList, h1]
  rfl
theorem di_any (e1 : X.K = K) (h : DE K X e Ta) : DI K X tg e (fun ρ P => Ta ρ fun d => ∃ ds, iterD d = some ds ∧ P ds) := by
  subst e1
  refine ⟨PI.weak (pi_any h.pe) fun σ H R h => ?_⟩
  obtain ⟨G0, H0, B, G, ρ, F, P, w, t, k⟩ := h
  refine ⟨G0, H0, B, G, ρ, F, _, w, t, fun d G' H' v p s r => ?_⟩
  obtain ⟨ds, h, p⟩ := p
  cases r with
  | lst h1 h2 => cases h; exact .inl ⟨_, rfl, .inl ⟨⟨_, .inl (.inl (s.sGH _ _ h1))⟩, k _ G' H' _ p s (iter_list (.inl (.inl h1)) h2)⟩⟩
  | tup h1 h2 => cases h; exact .inl ⟨_, rfl, .inr ⟨⟨_, Same.seqT s.sGH h1⟩, k _ G' H' _ p s (iter_tup h1 h2)⟩⟩
  | str z => cases h; exact .inr ⟨z, rfl, k _ G' H' _ p s iter_str⟩
  | _ => cases h
/-! one's own lists: an item, a store -/
theorem RepOs.get {G H : Hp} : ∀ {xs : List O} {vs : List V} {F : List Addr} {i : Nat} {d : PyData}, RepOs K G H vs xs F → xs[i]? = some (.dat d) → ∃ v, vs[i]? = some v ∧ Dr K G v d
  | _, _, _, _, _, .nil, e => by simp at e
  | _, _, _, 0, _, .cons r _ _, e => by
    simp at e
    subst e
    cases r with
    | dat r => exact ⟨_, rfl, r⟩
  | _, _, _, i + 1, _, .cons _ t _, e => by
    obtain ⟨v, h1, h2⟩ := RepOs.get (i := i) t (by simpa using e)
    exact ⟨v, by simpa using h1, h2⟩
theorem de_ixOwn {i : Nat} (e1 : X.K = K) (ha : PE X a (tVar i)) (hb : DE K X b Tb) (hs : PlainIx b := by exact fun _ _ => rfl) : DE K X (.Subscript a b pos) (fun ρ P => ∃ xs, ρ[i]? = some (some (.l xs)) ∧ Tb ρ fun e => ∃ k d, e = .int k ∧ atI xs k = some (.dat d) ∧ P d) := by
  subst e1
  refine ⟨PE.weak (pe_ix ix_list ha hb.pe hs) fun σ H Q h => ?_⟩
  obtain ⟨G0, H0, B, G, ρ, F, P, w, ⟨xs, e1, t⟩, k⟩ := h
  obtain ⟨v, F1, e2, _, _⟩ := w.env.get e1
  refine ⟨v, e2, G0, H0, B, G, ρ, F, _, w, t, fun d G' H' u p s r => ?_⟩
  obtain ⟨j, d', rfl, h1, p⟩ := p
  cases r
  obtain ⟨v', F1', e2', r', _⟩ := (w.step s).env.get e1
  rw [e2] at e2'
  cases e2'
  cases r' with
  | l r' =>
    cases r' with
    | @lst q us _ F2 g h r1 nq =>
      unfold atI at h1
      cases q1 : ixN xs.length j with
      | none => rw [q1] at h1; cases h1
      | some n =>
        rw [q1] at h1
        obtain ⟨v, h3, h4⟩ := r1.get h1
        refine ⟨q, us, j, v, rfl, rfl, .inl (.inl h), ?_, k _ G' H' _ p s h4⟩
        unfold atI
        rw [r1.length, q1]
        exact h3
/-- xs[k] = e, xs one's own, of data -/
theorem RepOs.setAt {G H : Hp} {v : V} {o : O} {Fv : List Addr} (ro : RepO K G H v o Fv) : ∀ {xs : List O} {vs : List V} {F : List Addr} (i : Nat), RepOs K G H vs xs F → (∀ a ∈ Fv, a ∉ F) → ∃ F', RepOs K G H (vs.set i v) (xs.set i o) F' ∧ ∀ a ∈ F', a ∈ F ∨ a ∈ Fv
  | _, _, _, _, .nil, _ => ⟨[], .nil, fun _ m => nomatch m⟩
  | _, _, _, 0, .cons (F1 := F1) (F2 := F2) r t n, d => ⟨Fv ++ F2, .cons ro t (fun a m z => d a m (List.mem_append_right _ z)), fun a m => (List.mem_append.mp m).elim .inr fun m => .inl (List.mem_append_right _ m)⟩
  | _, _, _, i + 1, .cons (F1 := F1) (F2 := F2) r t n, d => by
    obtain ⟨F', r', c⟩ := RepOs.setAt ro i t (fun a m z => d a m (List.mem_append_right _ z))
    refine ⟨F1 ++ F', .cons r r' (fun a m z => ?_), fun a m => ?_⟩
    · exact (c a z).elim (n a m) fun z => d a z (List.mem_append_left _ m)
    · rcases List.mem_append.mp m with m | m
      · exact .inl (List.mem_append_left _ m)
      · exact (c a m).imp (List.mem_append_right _) id
theorem Wd.store {G0 H0 : Hp} {B : Option (Addr × Addr)} {G H : Hp} {σ : L2.St} {ρ : Env'} {F : List Addr} (w : Wd K G0 H0 B G H σ ρ F) {i : Nat} {xs : List O} (e : ρ[i]? = some (some (.l xs))) {v : V} {o : O} {Fv : List Addr} (ro : RepO K G H v o Fv) (dj : ∀ a ∈ Fv, a ∉ F) (nw : ∀ a ∈ Fv, H0 a = none) (j : Nat) :
    ∃ p us, σ[i]? = some (some (.ref p)) ∧ H p = some (.lst us) ∧ us.length = xs.length ∧ ∃ F', Wd K G0 H0 B G (upd H p (.lst (us.set j v))) σ (ρ.set i (some (.l (xs.set j o)))) F' := by
  obtain ⟨v0, F1, e1, r, sub, go⟩ := w.env.change e
  cases r with
  | l r =>
    cases r with
    | @lst p us _ F2 g h r1 np =>
      obtain ⟨F3, r3, c3⟩ := RepOs.setAt ro j r1 (fun a m z => dj a m (sub a (List.mem_cons_of_mem _ z)))
      have pv : p ∉ Fv := fun m => dj p m (sub p List.mem_cons_self)
      have p3 : p ∉ F3 := fun m => (c3 p m).elim np pv
      have oth : ∀ a, a ≠ p → ∀ u, H a = some u → upd H p (.lst (us.set j v)) a = some u := fun a z u q => by rw [upd_ne z]; exact q
      have r3' : RepOs K G (upd H p (.lst (us.set j v))) (us.set j v) (xs.set j o) F3 := r3.mono (Same.refl _) (fun a m => (r3.dom a m).1) (fun a m => oth a fun z => by subst z; exact p3 m)
      obtain ⟨F', env', c⟩ := go G (upd H p (.lst (us.set j v))) (.l (xs.set j o)) (p :: F3) (Same.refl _) (fun a m z => ⟨(w.env.dom a m).1, oth a fun q => z (by rw [q]; exact List.mem_cons_self)⟩)
        (.l (.lst g upd_same r3' p3)) (fun a m => by
          rcases List.mem_cons.mp m with rfl | m
          · exact .inl List.mem_cons_self
          · exact (c3 a m).elim (fun m => .inl (List.mem_cons_of_mem _ m)) fun m => .inr (dj a m))
      have nbp : NotB B p := fun c z => (w.bag _ z).2.2 (w.own p (sub p List.mem_cons_self))
      refine ⟨p, us, e1, h, r1.length, F', ⟨fun a u q => ?_, w.sG, w.fr, fun a u q nb => ?_, fun a m => ?_, fun b z => ?_, env'⟩⟩
      · have : a ≠ p := fun z => by rw [z, g] at q; cases q
        rw [upd_ne this]
        exact w.sGH _ _ q
      · have : a ≠ p := fun z => by rw [z, w.own p (sub p List.mem_cons_self)] at q; cases q
        rw [upd_ne this]
        exact w.keep a u q nb
      · rcases c a m with m | m
        · exact w.own a m
        · rcases List.mem_cons.mp m with rfl | m
          · exact w.own _ (sub _ List.mem_cons_self)
          · rcases c3 a m with m | m
            · exact w.own a (sub a (List.mem_cons_of_mem _ m))
            · exact nw a m
      · obtain ⟨⟨g', s', i', ns, q1, q2, q3⟩, q4, q5⟩ := w.bag b z
        have : b.1 ≠ p := fun y => nbp b.2 (by rw [← y]; exact z)
        exact ⟨⟨g', s', i', ns, by rw [upd_ne this]; exact q1, q2, q3⟩, q4, q5⟩
/-- xs[k] = e -/
theorem ds_store {i : Nat} {o k : Expr} {p2 : Pos} (ho : PE X o (tVar i)) (he : DO K X e To) (hk : DE K X k Ta)
    (ha : ∀ v, assign (.Subscript o k p2) X.env v = (do
      let ov ← holding [v] (eval o X.env)
      let iv ← holding [v, ov] (eval k X.env)
      standAt p2
      holding [v, ov, iv] (setItem ov iv v)
      release [v, ov, iv] []) := by intro _; rfl)
    (hs : swapsWithSole [.Subscript o k p2] e pos.line X.env = pure false := by rfl) (hw : swappedStores [.Subscript o k p2] e X.env = pure none := by rfl)
    (h1 : (assignEach [.Subscript o k p2] X.env).map (·.2) = [assign (.Subscript o k p2) X.env] := by rfl) :
    DS K X (.Assign [.Subscript o k p2] e pos) (fun P ρ => ∃ xs, ρ[i]? = some (some (.l xs)) ∧ To ρ fun o => Ta ρ fun d => ∃ n j, d = .int n ∧ ixN xs.length n = some j ∧ P.nx (ρ.set i (some (.l (xs.set j o))))) := by
  refine ⟨PS.weak (ps_asg he.pe (pg_sub ho hk.pe set_list ha) hs hw h1) fun D σ H h => ?_⟩
  obtain ⟨G0, H0, B, G, ρ, F, P, w, ⟨xs, e1, t⟩, k1, _⟩ := h
  obtain ⟨v0, F1, e2, _, _⟩ := w.env.get e1
  refine ⟨G0, H0, B, G, ρ, F, _, w, t, fun o G1 H1 v Fv p1 s1 r1 n1 => ⟨v0, e2, G0, H0, B, G1, ρ, F, _, w.step s1, p1, fun d G2 H2 u p2 s2 r2 => ?_⟩⟩
  obtain ⟨n, j, rfl, hj, p⟩ := p2
  cases r2
  have s12 := s1.trans s2 w.bags
  have w2 := w.step s12
  have r1' := r1.step s2 fun a m => notB_new w.bags (n1 a m)
  obtain ⟨q, us, e3, h3, l3, F', w3⟩ := w2.store e1 r1' (fun a m z => (w.env.dom a z).2 (n1 a m)) (fun a m => w.old (n1 a m)) j
  rw [e2] at e3
  cases e3
  exact ⟨q, us, n, j, rfl, rfl, h3, by rw [l3]; exact hj, k1 _ σ G2 _ F' p w3⟩
/-! a dict that is data: d[k], k a text -/
def dictD : List (PyData × PyData) → Str → Option PyData
  | [], _ => none
  | p :: r, x => match p.1 with
    | .str y => if y = x then some p.2 else dictD r x
    | _ => dictD r x
theorem valV_d {G : Hp} {x : Str} : ∀ {kvs : List (Key × V)} {ds : List PyData} {d : PyData}, DrAll K G (kvs.map (·.2)) ds → dictD ((kvs.map fun p => kD p.1).zip ds) x = some d → ∃ v, valV kvs (.inr x) = some v ∧ Dr K G v d
  | [], _, _, h, e => by
    cases h
    cases e
  | (.inl i, u) :: kvs, _, d, h, e => by
    cases h with
    | @cons _ _ d1 ds h1 h2 =>
      obtain ⟨v, h3, h4⟩ := valV_d h2 (show dictD ((kvs.map fun p => kD p.1).zip ds) x = some d from e)
      exact ⟨v, by rw [valV_neg (k := (.inr x : Key)) (p := (.inl i, u)) (fun z : (Sum.inl i : Key) = Sum.inr x => nomatch z)]; exact h3, h4⟩
  | (.inr y, u) :: kvs, _, d, h, e => by
    cases h with
    | @cons _ _ d1 ds h1 h2 =>
      have e' : (if y = x then some d1 else dictD ((kvs.map fun p => kD p.1).zip ds) x) = some d := e
      by_cases q : y = x
      · rw [if_pos q] at e'
        cases e'
        exact ⟨u, valV_pos (by rw [q]), h1⟩
      · rw [if_neg q] at e'
        obtain ⟨v, h3, h4⟩ := valV_d h2 e'
        exact ⟨v, by rw [valV_neg (k := (.inr x : Key)) (p := (.inr y, u)) (fun z : (Sum.inr y : Key) = Sum.inr x => q (by injection z))]; exact h3, h4⟩
theorem de_dget {x : Str} {p2 : Pos} {j} (hu : X.A.units + 1 < cLine) (ha : DE K X a Ta) (hs : NoSl (.Constant (.str x) j p2) := by exact fun _ _ => rfl) : DE K X (.Subscript a (.Constant (.str x) j p2) pos) (fun ρ P => Ta ρ fun d => ∃ kvs d', d = .dict kvs ∧ tyOf (.dict kvs) = "dict" ∧ dictD kvs x = some d' ∧ P d') := by
  refine ⟨PE.weak (pe_dget hu ha.pe pe_str hs) fun σ H Q h => ?_⟩
  obtain ⟨G0, H0, B, G, ρ, F, P, w, t, k⟩ := h
  refine ⟨G0, H0, B, G, ρ, F, _, w, t, fun d G' H' v p s r => ?_⟩
  obtain ⟨kvs, d', rfl, ty, h, p⟩ := p
  cases r with
  | ins _ _ _ _ => simp [tyOf] at ty
  | dct h1 h2 =>
    obtain ⟨v, h3, h4⟩ := valV_d h2 h
    exact ⟨_, v, rfl, .inl ⟨_, .inr x, .inl (s.sGH _ _ h1), rfl, h3.symm⟩, k _ G' H' _ p s h4⟩
/-! {} -/
theorem de_dnew : DE K X (.Dict [] [] pos) (fun _ P => P (.dict [])) := by
  refine ⟨PE.weak pe_dnewK fun σ H Q h => ?_⟩
  obtain ⟨G0, H0, B, G, ρ, F, P, w, t, k⟩ := h
  exact fun d nd => k _ _ _ _ t (Stp.lay w.sGH nd) (Dr.dct (kvs := []) (ds := []) upd_same .nil)
end
end DL
set_option Elab.async false
set_option linter.all false
set_option maxRecDepth 100000
set_option maxHeartbeats 1000000
/-! DL7: built-ins in short; the module's constants and tables; a law's start and end -/
namespace DL
open PySem PySem.Spec PyProof.Rows L2 GL
section
variable {K : PySem.W.Frag} {X : Cx} {e a b c tg : Expr} {es rest : List Expr} {Ta Tb Tc : DT} {To Tp : OT} {Tt Tu : BT} {Tl : LT} {pos p : Pos}
theorem de_len (e1 : X.K = K) (hm : X.mg "len" = none) (h : DE K X e Ta) (hg : Gl X "len" := by rfl) (hs : starEach [e] X.env = (false, eval e X.env) :: starEach [] X.env := by rfl) (hpl : (backTo pos (starEach [] X.env)).any (·.1) = false := by rfl) :
    DE K X (.Call (.Name "len" p) [e] [] pos) (fun ρ P => Ta ρ fun d => ∃ d' n, [d] = [d'] ∧ lenOf d' = some n ∧ n ≤ sizeLine ∧ P (.int n)) := by
  subst e1
  exact de_callB call_len cd_len hg hm (by decide +kernel) (da_cons h da_nil hs) (by decide) (by decide) hs hpl
theorem de_abs (hm : X.mg "abs" = none) (h : DE K X e Ta) (hg : Gl X "abs" := by rfl) (hs : starEach [e] X.env = (false, eval e X.env) :: starEach [] X.env := by rfl) (hpl : (backTo pos (starEach [] X.env)).any (·.1) = false := by rfl) :
    DE K X (.Call (.Name "abs" p) [e] [] pos) (fun ρ P => Ta ρ fun d => ∃ i : Int, [d] = [.int i] ∧ P (.int (if i < 0 then -i else i))) :=
  de_callB call_abs cd_abs hg hm (by decide +kernel) (da_cons h da_nil hs) (by decide) (by decide) hs hpl
theorem de_repr (e1 : X.K = K) (hG : Gd X.A) (hu : X.A.units + 66 < cLine) (hm : X.mg "repr" = none) (h : DE K X e Ta) (hg : Gl X "repr" := by rfl) (hs : starEach [e] X.env = (false, eval e X.env) :: starEach [] X.env := by rfl) (hpl : (backTo pos (starEach [] X.env)).any (·.1) = false := by rfl) :
    DE K X (.Call (.Name "repr" p) [e] [] pos) (fun ρ P => Ta ρ fun d => ∃ d', [d] = [d'] ∧ d'.hasDict = false ∧ d'.showable = true ∧ d'.depth ≤ 64 ∧ d'.shown.length ≤ sizeLine ∧ P (.str d'.shown)) := by
  subst e1
  exact de_callB (call_reprD hG hu) cd_repr hg hm (by decide +kernel) (da_cons h da_nil hs) (by decide) (by decide) hs hpl
theorem de_all (e1 : X.K = K) (hc : X.calm = true) (hm : X.mg "all" = none) (h : DE K X e Ta) (hg : Gl X "all" := by rfl) (hs : starEach [e] X.env = (false, eval e X.env) :: starEach [] X.env := by rfl) (hpl : (backTo pos (starEach [] X.env)).any (·.1) = false := by rfl) :
    DE K X (.Call (.Name "all" p) [e] [] pos) (fun ρ P => Ta ρ fun d => ∃ bs : List Bool, [d] = [.list (bs.map .bool)] ∧ P (.bool (bs.all id))) := by
  subst e1
  exact de_callB (cr_all hc) cd_all hg hm (by decide +kernel) (da_cons h da_nil hs) (by decide) (by decide) hs hpl
theorem do_list (e1 : X.K = K) (hm : X.mg "list" = none) (h : DE K X e Ta) (hg : Gl X "list" := by rfl) (hs : starEach [e] X.env = (false, eval e X.env) :: starEach [] X.env := by rfl) (hpl : (backTo pos (starEach [] X.env)).any (·.1) = false := by rfl) :
    DO K X (.Call (.Name "list" p) [e] [] pos) (fun ρ P => Ta ρ fun d => ∃ d' is, [d] = [d'] ∧ items d' = some is ∧ P (.lst (is.map .dat))) := by
  subst e1
  exact do_callTy call_list_of co_list hg hm (by decide +kernel) (da_cons h da_nil hs) (by decide) (by decide) hs hpl
theorem de_tuple (e1 : X.K = K) (hm : X.mg "tuple" = none) (h : DE K X e Ta) (hg : Gl X "tuple" := by rfl) (hs : starEach [e] X.env = (false, eval e X.env) :: starEach [] X.env := by rfl) (hpl : (backTo pos (starEach [] X.env)).any (·.1) = false := by rfl) :
    DE K X (.Call (.Name "tuple" p) [e] [] pos) (fun ρ P => Ta ρ fun d => ∃ d' is, [d] = [d'] ∧ items d' = some is ∧ P (.tuple is)) := by
  subst e1
  exact de_callTy call_tuple_of cd_tuple hg hm (by decide +kernel) (da_cons h da_nil hs) (by decide) (by decide) hs hpl
theorem de_intC (hm : X.mg "int" = none) (h : DE K X e Ta) (hg : Gl X "int" := by rfl) (hs : starEach [e] X.env = (false, eval e X.env) :: starEach [] X.env := by rfl) (hpl : (backTo pos (starEach [] X.env)).any (·.1) = false := by rfl) :
    DE K X (.Call (.Name "int" p) [e] [] pos) (fun ρ P => Ta ρ fun d => ∃ d' i, [d] = [d'] ∧ intOf d' = some i ∧ P (.int i)) :=
  de_callTy call_int1 od_int1 hg hm (by decide +kernel) (da_cons h da_nil hs) (by decide) (by decide) hs hpl
/-! the module's constants -/
theorem de_gInt {x : Str} {i : Int} (hg : Gl X x) (h : ∃ t, X.mg x = some (.int i t)) (hd : (x == ("__debug__" : Str)) = false := by decide) : DE K X (.Name x pos) (fun _ P => P (.int i)) := by
  obtain ⟨t, h⟩ := h
  exact de_c (pe_glob (v := .int i) hg h ⟨t, rfl⟩ hd) fun _ => .int i
theorem de_gRef {x : Str} {d : PyData} (hg : Gl X x) (h : ∃ a, X.mg x = some (.ref a) ∧ ∀ G, Dr K G (.ref a) d) (hd : (x == ("__debug__" : Str)) = false := by decide) : DE K X (.Name x pos) (fun _ P => P d) := by
  obtain ⟨a, h, k⟩ := h
  exact de_c (pe_glob (v := .ref a) hg h rfl hd) k
/-- a table of tuples of texts -/
inductive TabT (K : PySem.W.Frag) : List DictEntry → List (Str × List Str) → Prop
  | nil : TabT K [] []
  | cons {h : Int} {x : Str} {t : Tok} {a : Addr} {o : Obj} {us : Array Value} {n : Nat} {ys : List Str} {es : List DictEntry} {ts : List (Str × List Str)} :
      K.lookup a = some o → o.cls = .type "tuple" → o.data = .seq us n → us.size ≤ sizeLine → Vals (ys.map V.str) us.toList → TabT K es ts → TabT K (⟨h, .str x t, .ref a⟩ :: es) ((x, ys) :: ts)
def tabGet : List (Str × List Str) → Str → Option (List Str)
  | [], _ => none
  | p :: r, x => if p.1 = x then some p.2 else tabGet r x
theorem TabT.get {x : Str} : ∀ {es : List DictEntry} {ts : List (Str × List Str)}, TabT K es ts → (∃ a ys, es.find? (·.key.isStr x) = some a ∧ tabGet ts x = some ys ∧ ∃ p, a.val = .ref p ∧ ∀ G, Dr K G (.ref p) (.tuple (ys.map .str))) ∨
    (es.find? (·.key.isStr x) = none ∧ tabGet ts x = none ∧ es.any (·.refKey) = false)
  | _, _, .nil => .inr ⟨rfl, rfl, rfl⟩
  | _, _, .cons (h := h) (x := y) (t := t) (a := a) (ys := ys) (es := es) (ts := ts) l c d z v r => by
    have e1 : (Value.str y t).isStr x = decide (y = x) := by
      show (y == x) = decide (y = x)
      rw [Bool.eq_iff_iff, beq_iff_eq, decide_eq_true_eq]
    by_cases q : y = x
    · refine .inl ⟨⟨h, .str y t, .ref a⟩, ys, ?_, ?_, a, rfl, fun G => .tup (.inr ⟨_, _, _, l, c, d, z, v⟩) (.strs ys)⟩
      · exact List.find?_cons_of_pos (by show (Value.str y t).isStr x = true; rw [e1, decide_eq_true_eq]; exact q)
      · show (if y = x then some ys else _) = _
        rw [if_pos q]
    · rcases TabT.get (x := x) r with ⟨a', ys', k1, k2, k3⟩ | ⟨k1, k2, k3⟩
      · refine .inl ⟨a', ys', ?_, ?_, k3⟩
        · rw [List.find?_cons_of_neg (by show ¬ (Value.str y t).isStr x = true; rw [e1, decide_eq_true_eq]; exact q)]
          exact k1
        · show (if y = x then some ys else _) = _
          rw [if_neg q]
          exact k2
      · refine .inr ⟨?_, ?_, ?_⟩
        · rw [List.find?_cons_of_neg (by show ¬ (Value.str y t).isStr x = true; rw [e1, decide_eq_true_eq]; exact q)]
          exact k1
        · show (if y = x then some ys else _) = _
          rw [if_neg q]
          exact k2
        · rw [List.any_cons, k3]
          rfl
structure KTab (K : PySem.W.Frag) (w : World) (d : Addr) (ts : List (Str × List Str)) : Prop where
  ex : ∃ es n, K.lookup d = some ⟨.type "dict", none, .dict es n, #[]⟩ ∧ PySem.W.KeysLit w.params es.toList ∧ TabT K es.toList ts ∧ (d == sysModules) = false
theorem KTab.ns {w : World} {d : Addr} {ts : List (Str × List Str)} (h : KTab K w d ts) (x : Str) : (∃ p ys, PySem.W.nsIn K d x = some (some (.ref p)) ∧ tabGet ts x = some ys ∧ ∀ G, Dr K G (.ref p) (.tuple (ys.map .str))) ∨ (PySem.W.nsIn K d x = some none ∧ tabGet ts x = none) := by
  obtain ⟨es, n, l, _, t, _⟩ := h.ex
  rcases t.get (x := x) with ⟨a, ys, k1, k2, p, k3, k4⟩ | ⟨k1, k2, k3⟩
  · refine .inl ⟨p, ys, ?_, k2, k4⟩
    unfold PySem.W.nsIn
    rw [l]
    simp only [k1, k3]
  · refine .inr ⟨?_, k2⟩
    unfold PySem.W.nsIn
    rw [l]
    simp only [k1, k3]
    rfl
/-- TAB.get(e) -/
theorem de_kget {x : Str} {ts : List (Str × List Str)} {apos cpos : Pos} (hg : Gl X x) (h : ∃ d, X.mg x = some (.ref d) ∧ KTab X.K X.w d ts) (e1 : X.K = K) (he : DE K X e Ta)
    (m : M1 X (.Name x p) "get" apos e cpos := by exact ⟨rfl, rfl, rfl, rfl⟩) (hd : (x == ("__debug__" : Str)) = false := by decide) :
    DE K X (.Call (.Attribute (.Name x p) "get" apos) [e] [] cpos) (fun ρ P => Ta ρ fun d => ∃ z, d = .str z ∧ P (match tabGet ts z with | some ys => .tuple (ys.map .str) | none => .none)) := by
  subst e1
  obtain ⟨d, hx, D⟩ := h
  have base : PE X (.Call (.Attribute (.Name x p) "get" apos) [e] [] cpos) (fun σ H Q => liftE X.K Ta σ H fun y H2 => ∃ z, y = .str z ∧ ∀ r, PySem.W.nsIn X.K d z = some r → ∃ v, RelV v (r.getD .none) ∧ Q v H2) := by
    refine ⟨fun pins s σ H Q I h => ?_⟩
    obtain ⟨es, n, l, kl, _, lo⟩ := D.ex
    refine wpAny_Call_method m.base m.few m.line PySem.F.plainAttrs_dict PySem.F.slot_dict_get PySem.F.type_dict_get (thn ((pe_glob (v := .ref d) hg hx rfl hd).run pins s σ H (fun y H' => y = .ref d ∧ H' = H) I ⟨rfl, rfl⟩) fun u s1 ⟨y, H1, I1, rx, ey, eH⟩ => ?_)
    subst ey eH
    obtain rfl : u = Value.ref d := rx
    have hm := PySem.W.mapOf_K (prog := X.prog) (w := X.w) I1.kIn l kl
    refine ⟨hm.typeIs, fun a e => by cases e; exact ⟨_, I1.kIn _ _ l, rfl⟩, ?_⟩
    rw [m.trees]
    refine Calls.callWith_builtin rfl (Calls.evalArgs_plain (Calls.spliced_cons (thn (he.pe.run pins s1 σ _ _ I1 h) fun iv s2 ⟨y, H2, I2, ry, z, ez, q2⟩ => Calls.spliced_nil ?_)))
    subst ez
    obtain ⟨t, rfl⟩ := (show ∃ t, iv = Value.str z t from ry)
    have hm2 := PySem.W.mapOf_K (prog := X.prog) (w := X.w) I2.kIn l kl
    have go : ∀ r, PySem.W.nsIn X.K d z = some r → wpAny (model X.prog X.w) X.A (call (.builtin "dict.get") [.ref d, .str z t]) (EP X pins σ Q) X.xe s2 := fun r hr => by
      obtain ⟨v, rv, qv⟩ := q2 r hr
      refine call_meetsIn PySem.F.slot_dict_get hm2.typeIs PySem.F.entry_dict_get (PySem.F.args_dict_get_2 _ _) (meets_dict_get (strKind X.prog X.w) d (strKind_is X.prog X.w z t) lo) ⟨_, hm2, ?_⟩
      rw [PySem.W.find_K l hr]
      exact ⟨v, H2, I2.tok _, rv, qv⟩
    rcases D.ns z with ⟨p', ys, k1, _, _⟩ | ⟨k1, _⟩
    · exact go _ k1
    · exact go _ k1
  refine ⟨PE.weak base fun σ H Q h => ?_⟩
  obtain ⟨G0, H0, B, G, ρ, F, P, w, t, k⟩ := h
  refine ⟨G0, H0, B, G, ρ, F, _, w, t, fun d' G' H' v p s r => ?_⟩
  obtain ⟨z, rfl, p⟩ := p
  refine ⟨z, r.tStr, fun r' hr => ?_⟩
  rcases D.ns z with ⟨p', ys, k1, k2, k3⟩ | ⟨k1, k2⟩
  · rw [k1] at hr
    cases hr
    rw [k2] at p
    exact ⟨.ref p', rfl, k _ G' H' _ p s (k3 G')⟩
  · rw [k1] at hr
    cases hr
    rw [k2] at p
    exact ⟨.non, rfl, k _ G' H' _ p s .non⟩
/-- TAB[e] -/
theorem de_kix {x : Str} {ts : List (Str × List Str)} (hg : Gl X x) (h : ∃ d, X.mg x = some (.ref d) ∧ KTab X.K X.w d ts) (e1 : X.K = K) (he : DE K X e Ta) (hs : PlainIx e := by exact fun _ _ => rfl) (hd : (x == ("__debug__" : Str)) = false := by decide) :
    DE K X (.Subscript (.Name x p) e pos) (fun ρ P => Ta ρ fun d => ∃ z ys, d = .str z ∧ tabGet ts z = some ys ∧ P (.tuple (ys.map .str))) := by
  subst e1
  obtain ⟨d, hx, D⟩ := h
  refine ⟨PE.weak (pe_ix ix_kdict (pe_glob (v := .ref d) hg hx rfl hd) he.pe hs) fun σ H Q h => ?_⟩
  obtain ⟨G0, H0, B, G, ρ, F, P, w, t, k⟩ := h
  refine ⟨G0, H0, B, G, ρ, F, _, w, t, fun d' G' H' v p s r => ?_⟩
  obtain ⟨z, ys, rfl, hz, p⟩ := p
  obtain ⟨es, n, l, kl, _, lo⟩ := D.ex
  rcases D.ns z with ⟨p', ys', k1, k2, k3⟩ | ⟨k1, k2⟩
  · rw [k2] at hz
    cases hz
    exact ⟨d, z, .ref p', rfl, r.tStr, ⟨es, n, _, l, kl, k1, rfl⟩, k _ G' H' _ p s (k3 G')⟩
  · rw [k2] at hz
    cases hz
end
/-! ### the bag as the law's first statement -/
section
variable {K : PySem.W.Frag} {X : Cx} {T : ST} {sts : List Stmt}
/-- from the bag's making on -/
theorem law_from {i : Nat} {ρ : Env'} {D : Ends} {σ : L2.St} {H H' : Hp} {b c : Addr} {g s j : Int} {ns : List Int} (hb : H' b = some (.lst [.int g, .int s, .int j, .ref c])) (hc : H' c = some (.lst (ns.map V.int))) (hj : 0 ≤ j) (cb : c ≠ b)
    (env : RepE K (some (b, c)) (fun a => if a = c then H' a else none) H' σ ρ []) {P : DEnds} (t : T P ρ) (h1 : ∀ ρ', ¬ P.nx ρ') (h2 : ∀ o, P.rt o → o = .dat (.bool true)) (h3 : ∀ H2, D.rt (.bl true) H2) (h4 : ∀ ρ', ¬ P.bk ρ') (h5 : ∀ ρ', ¬ P.ct ρ') :
    liftS K T D σ H' := by
  refine ⟨_, H', some (b, c), _, ρ, [], P, ⟨fun a u h => ?_, Same.refl _, fun a h => .inl h, fun a u h _ => h, (fun _ m => nomatch m), fun b' e => ?_, env⟩, t, fun ρ' _ _ _ _ p => absurd p (h1 ρ'), fun o G' H2 v Fv p f => ?_, fun ρ' _ _ _ _ p => absurd p (h4 ρ'), fun ρ' _ _ _ _ p => absurd p (h5 ρ')⟩
  · by_cases z : a = c
    · exact (if_pos z).symm.trans h
    · cases (if_neg z).symm.trans h
  · cases e
    exact ⟨⟨g, s, j, ns, hb, (if_pos rfl).trans hc, hj⟩, if_neg (Ne.symm cb), by rw [hb]; exact nofun⟩
  · have e := h2 o p
    subst e
    have r := f.rep
    cases r with
    | dat r =>
      cases r
      exact h3 H2
end
end DL
set_option Elab.async false
set_option linter.all false
set_option maxRecDepth 100000
set_option maxHeartbeats 1000000
/-! DL8: lemmas about data: kinds, parts, letters; comprehensions over mapped lists -/
namespace DL
open PySem PySem.Spec PyProof.Rows L2 GL
def boolD : PyData → Bool
  | .bool _ => true
  | _ => false
def intD : PyData → Bool
  | .int _ => true
  | _ => false
def strD : PyData → Bool
  | .str _ => true
  | _ => false
def tupD : PyData → Bool
  | .tuple _ => true
  | _ => false
def lstD : PyData → Bool
  | .list _ => true
  | _ => false
theorem isTy_int (d : PyData) : isTy "int" d = (intD d || boolD d) := by
  cases d with
  | dict kvs => exact isTy_dk kvs "int" (by simp)
  | _ => rfl
theorem isTy_bool (d : PyData) : isTy "bool" d = boolD d := by
  cases d with
  | dict kvs => exact isTy_dk kvs "bool" (by simp)
  | _ => rfl
theorem isTy_str (d : PyData) : isTy "str" d = strD d := by
  cases d with
  | dict kvs => exact isTy_dk kvs "str" (by simp)
  | _ => rfl
theorem isTy_list (d : PyData) : isTy "list" d = lstD d := by
  cases d with
  | dict kvs => exact isTy_dk kvs "list" (by simp)
  | _ => rfl
theorem isTy_tuple (d : PyData) : isTy "tuple" d = tupD d := by
  cases d with
  | dict kvs => exact isTy_dk kvs "tuple" (by simp)
  | _ => rfl
theorem wt_all : ∀ {ds : List PyData}, ds.length ≤ PyData.weightAll ds ∧ ∀ x ∈ ds, x.weight < PyData.weightAll ds
  | [] => ⟨Nat.le_refl _, fun _ m => nomatch m⟩
  | d :: ds => by
    obtain ⟨h1, h2⟩ := wt_all (ds := ds)
    simp only [PyData.weightAll, List.length_cons]
    refine ⟨by omega, fun x m => ?_⟩
    rcases List.mem_cons.mp m with rfl | m
    · omega
    · have := h2 x m
      omega
theorem dp_all : ∀ {ds : List PyData}, ∀ x ∈ ds, x.depth ≤ PyData.depthAll ds
  | [], _, m => nomatch m
  | d :: ds, x, m => by
    simp only [PyData.depthAll]
    rcases List.mem_cons.mp m with rfl | m
    · omega
    · have := dp_all x m
      omega
theorem lay_all : ∀ {ds : List PyData}, PyData.canLayAll0 ds = true → ∀ x ∈ ds, x.canLay0 = true
  | [], _, _, m => nomatch m
  | d :: ds, h, x, m => by
    simp only [PyData.canLayAll0, Bool.and_eq_true] at h
    rcases List.mem_cons.mp m with rfl | m
    · exact h.1
    · exact lay_all h.2 x m
theorem short_all : ∀ {ds : List PyData}, PyData.leavesShortAll 8 ds = true → ∀ x ∈ ds, x.leavesShort 8 = true
  | [], _, _, m => nomatch m
  | d :: ds, h, x, m => by
    simp only [PyData.leavesShortAll, Bool.and_eq_true] at h
    rcases List.mem_cons.mp m with rfl | m
    · exact h.1
    · exact short_all h.2 x m
theorem show_all : ∀ {ds : List PyData}, PyData.showableAll ds = true → ∀ x ∈ ds, x.showable = true
  | [], _, _, m => nomatch m
  | d :: ds, h, x, m => by
    simp only [PyData.showableAll, Bool.and_eq_true] at h
    rcases List.mem_cons.mp m with rfl | m
    · exact h.1
    · exact show_all h.2 x m
theorem dok_parts {ds : List PyData} (h1 : PyData.canLayAll0 ds = true) (h2 : PyData.leavesShortAll 8 ds = true) (h3 : PyData.weightAll ds ≤ 100000) (h4 : PyData.depthAll ds + 1 ≤ 60) (h5 : PyData.showableAll ds = true) : ∀ x ∈ ds, DOk x := fun x m =>
  ⟨lay_all h1 x m, short_all h2 x m, by have := wt_all.2 x m; omega, by have := dp_all x m; omega, show_all h5 x m⟩
theorem _root_.GL.DOk.tup {ds : List PyData} (h : DOk (.tuple ds)) : ∀ x ∈ ds, DOk x := by
  obtain ⟨h1, h2, h3, h4, h5⟩ := h
  simp only [PyData.canLay0, PyData.leavesShort, PyData.weight, PyData.depth, PyData.showable] at h1 h2 h3 h4 h5
  exact dok_parts h1 h2 h3 h4 h5
theorem _root_.GL.DOk.lst {ds : List PyData} (h : DOk (.list ds)) : ∀ x ∈ ds, DOk x := by
  obtain ⟨h1, h2, h3, h4, h5⟩ := h
  simp only [PyData.canLay0, PyData.leavesShort, PyData.weight, PyData.depth, PyData.showable] at h1 h2 h3 h4 h5
  exact dok_parts h1 h2 h3 h4 h5
theorem _root_.GL.DOk.tupLen {ds : List PyData} (h : DOk (.tuple ds)) : ds.length ≤ 100000 := by
  have h3 := h.weighs
  simp only [PyData.weight] at h3
  have := (wt_all (ds := ds)).1
  omega
theorem _root_.GL.DOk.lstLen {ds : List PyData} (h : DOk (.list ds)) : ds.length ≤ 100000 := by
  have h3 := h.weighs
  simp only [PyData.weight] at h3
  have := (wt_all (ds := ds)).1
  omega
theorem _root_.GL.DOk.strLen {z : Str} (h : DOk (.str z)) : z.length ≤ 100000 := by
  have h3 := h.weighs
  simp only [PyData.weight] at h3
  exact h3
theorem big {n : Nat} (h : n ≤ 100000) : n ≤ sizeLine := by rw [sizeLine_eq]; omega
theorem big' {n : Nat} (h : n ≤ 100000) : n < sizeLine := by rw [sizeLine_eq]; omega
theorem dok_bool (b : Bool) : DOk (.bool b) := ⟨rfl, by cases b <;> decide +kernel, by cases b <;> decide +kernel, by cases b <;> decide +kernel, rfl⟩
theorem dok_none : DOk .none := ⟨rfl, by decide +kernel, by decide +kernel, by decide +kernel, rfl⟩
/-- lists, tuples of what is fine -/
theorem dok_all {ds : List PyData} {n m : Nat} (h : ∀ x ∈ ds, DOk x ∧ x.weight ≤ n ∧ x.depth ≤ m) (hm : m < 60) (hn : ds.length * (n + 1) ≤ 100000) : DOk (.list ds) ∧ DOk (.tuple ds) ∧ PyData.weightAll ds ≤ ds.length * (n + 1) ∧ PyData.depthAll ds ≤ m := by
  have e : PyData.canLayAll0 ds = true ∧ PyData.leavesShortAll 8 ds = true ∧ PyData.showableAll ds = true ∧ PyData.weightAll ds ≤ ds.length * (n + 1) ∧ PyData.depthAll ds ≤ m := by
    clear hn
    induction ds with
    | nil => exact ⟨rfl, rfl, rfl, by simp [PyData.weightAll], by simp [PyData.depthAll]⟩
    | cons d ds ih =>
      obtain ⟨h1, h2, h3, h4, h5⟩ := ih fun x m => h x (List.mem_cons_of_mem _ m)
      obtain ⟨g1, g2, g3⟩ := h d List.mem_cons_self
      simp only [PyData.canLayAll0, PyData.leavesShortAll, PyData.showableAll, PyData.weightAll, PyData.depthAll, List.length_cons, Nat.succ_mul, g1.lay, g1.short, g1.shows, h1, h2, h3, Bool.and_self, true_and]
      omega
  obtain ⟨h1, h2, h3, h4, h5⟩ := e
  refine ⟨⟨by simp only [PyData.canLay0]; exact h1, by simp only [PyData.leavesShort]; exact h2, by simp only [PyData.weight]; omega, by simp only [PyData.depth]; omega, by simp only [PyData.showable]; exact h3⟩,
    ⟨by simp only [PyData.canLay0]; exact h1, by simp only [PyData.leavesShort]; exact h2, by simp only [PyData.weight]; omega, by simp only [PyData.depth]; omega, by simp only [PyData.showable]; exact h3⟩, h4, h5⟩
theorem _root_.GL.DOk.shaped {d : PyData} (h : DOk d) : SeqAt.shaped d = true := by
  unfold SeqAt.shaped
  rw [h.lay, Bool.true_and]
  exact decide_eq_true (Nat.le_trans h.deep (by decide))
/-! letters -/
def letD (c : Nat) : Bool := decide (97 ≤ c) && decide (c ≤ 122)
def signS (c : Nat) : Str := ⟨#[c]⟩
theorem le_a (c : Nat) : (!decide ((signS c).cps.toList < (Str.ofString "a").cps.toList)) = decide (97 ≤ c) := by
  have e : (Str.ofString "a").cps.toList = [97] := by decide +kernel
  rw [e]
  show (!decide ([c] < [97])) = _
  rw [Bool.eq_iff_iff, Bool.not_eq_true', decide_eq_false_iff_not, decide_eq_true_eq]
  have : ([c] < [97]) ↔ c < 97 := by
    rw [List.cons_lt_cons_iff]
    simp
  rw [this]
  omega
theorem le_z (c : Nat) : (!decide ((Str.ofString "z").cps.toList < (signS c).cps.toList)) = decide (c ≤ 122) := by
  have e : (Str.ofString "z").cps.toList = [122] := by decide +kernel
  rw [e]
  show (!decide ([122] < [c])) = _
  rw [Bool.eq_iff_iff, Bool.not_eq_true', decide_eq_false_iff_not, decide_eq_true_eq]
  have : ([122] < [c]) ↔ 122 < c := by
    rw [List.cons_lt_cons_iff]
    simp
  rw [this]
  omega
theorem mem_letters (c : Nat) : decide (c ∈ (Str.ofString "abcdefghijklmnopqrstuvwxyz").cps.toList) = letD c := by
  have e : (Str.ofString "abcdefghijklmnopqrstuvwxyz").cps.toList = (List.range 26).map (97 + ·) := by decide +kernel
  rw [e, Bool.eq_iff_iff, decide_eq_true_eq]
  unfold letD
  rw [Bool.and_eq_true, decide_eq_true_eq, decide_eq_true_eq, List.mem_map]
  constructor
  · rintro ⟨i, hi, rfl⟩
    rw [List.mem_range] at hi
    omega
  · rintro ⟨h1, h2⟩
    exact ⟨c - 97, by rw [List.mem_range]; omega, by omega⟩
theorem signsD_eq (z : Str) : signsD z = z.cps.toList.map fun c => PyData.str (signS c) := rfl
theorem len_signs (z : Str) : (signsD z).length = z.length := by simp [signsD]; rfl
/-! comprehensions over what is mapped -/
theorem erase_dat (ds : List PyData) : (O.lst (ds.map .dat)).erase = .list ds := by
  show PyData.list (eraseAll (ds.map O.dat)) = _
  rw [eraseAll_dat]
theorem erase_map {α : Type} (f : α → PyData) (xs : List α) : (O.lst (xs.map fun a => O.dat (f a))).erase = .list (xs.map f) := by
  have e : (xs.map fun a => O.dat (f a)) = (xs.map f).map O.dat := by rw [List.map_map]; rfl
  rw [e, erase_dat]
theorem lc_maps {α : Type} {g : GT} {Tt : BT} {To : OT} {ρ : Env'} {P : List O → Prop} (e : α → PyData) (xs : List α) (p : α → Bool) (f : α → O) (hl : xs.length < sizeLine)
    (h : ∀ a ∈ xs, ∀ (yes : O → Prop) (no : Prop), (p a = true → yes (f a)) → (p a = false → no) → lcTurn g Tt To ρ (e a) yes no) (hp : P ((xs.filter p).map f)) :
    (xs.map e).length < sizeLine ∧ ∃ I : Nat → List O → Prop, I 0 [] ∧ (∀ i d acc, (xs.map e)[i]? = some d → I i acc → lcTurn g Tt To ρ d (fun o => I (i + 1) (acc ++ [o])) (I (i + 1) acc)) ∧ ∀ acc, I (xs.map e).length acc → P acc := by
  refine ⟨by rw [List.length_map]; exact hl, fun i acc => acc = ((xs.take i).filter p).map f, rfl, fun i d acc hd hI => ?_, fun acc hI => ?_⟩
  · have hI : acc = ((xs.take i).filter p).map f := hI
    rw [List.getElem?_map] at hd
    obtain ⟨a, ha, rfl⟩ := Option.map_eq_some_iff.mp hd
    have et : xs.take (i + 1) = xs.take i ++ [a] := by rw [List.take_add_one, ha]; rfl
    refine h a (List.mem_of_getElem? ha) _ _ (fun hp => ?_) (fun hp => ?_)
    · show acc ++ [f a] = ((xs.take (i + 1)).filter p).map f
      rw [et, List.filter_append, List.map_append, hI]
      simp [hp]
    · show acc = ((xs.take (i + 1)).filter p).map f
      rw [et, List.filter_append, List.map_append, hI]
      simp [hp]
  · have hI : acc = ((xs.take (xs.map e).length).filter p).map f := hI
    rw [List.length_map, List.take_length] at hI
    rw [hI]
    exact hp
/-- no test: a map -/
theorem lc_map {g : GT} {To : OT} {ρ : Env'} {ds : List PyData} {P : List O → Prop} (f : PyData → O) (hl : ds.length < sizeLine)
    (h : ∀ d ∈ ds, ∀ (yes : O → Prop) (no : Prop), yes (f d) → lcTurn g (fun _ P => P true) To ρ d yes no) (hp : P (ds.map f)) :
    ds.length < sizeLine ∧ ∃ I : Nat → List O → Prop, I 0 [] ∧ (∀ i d acc, ds[i]? = some d → I i acc → lcTurn g (fun _ P => P true) To ρ d (fun o => I (i + 1) (acc ++ [o])) (I (i + 1) acc)) ∧ ∀ acc, I ds.length acc → P acc :=
  lc_fun (P := fun o => match o with | .lst acc => P acc | _ => False) (fun _ => true) f hl (fun d m yes no h1 _ => h d m yes no (h1 rfl)) (by rw [List.filter_eq_self.mpr fun _ _ => rfl]; exact hp)
/-- a test alone: what is kept -/
theorem dec_and {b c : Bool} {P : PyData → Prop} (h : P (.bool (b && c))) : ∃ k, PyData.bool b = .bool k ∧ if k = true then P (.bool c) else P (.bool false) := ⟨b, rfl, by cases b <;> exact h⟩
/-! drawing from lists -/
theorem at_mem {α : Type} {xs : List α} {i : Int} (h0 : 0 ≤ i) (h1 : i < xs.length) : ∃ v, atI xs i = some v ∧ v ∈ xs := by
  have hi : i.toNat < xs.length := by omega
  exact ⟨xs[i.toNat], atI_int h0 (List.getElem?_eq_getElem hi), List.getElem_mem hi⟩
end DL
set_option Elab.async false
set_option linter.all false
set_option maxRecDepth 100000
set_option maxHeartbeats 1000000
/-! DL9: a reading is walked -/
namespace DL
open PySem PySem.Spec PyProof.Rows L2 GL
theorem eqR_str {x y : Str} {P : PyData → Prop} (h : P (.bool (decide (x = y)))) : eqR false (.str x) (.str y) P := .inl ⟨_, rfl, by rw [Bool.xor_false]; exact h⟩
theorem eqR_int {x y : Int} {P : PyData → Prop} (h : P (.bool (decide (x = y)))) : eqR false (.int x) (.int y) P := .inl ⟨_, rfl, by rw [Bool.xor_false]; exact h⟩
theorem neR_str {x y : Str} {P : PyData → Prop} (h : P (.bool (!decide (x = y)))) : eqR true (.str x) (.str y) P := .inl ⟨_, rfl, by rw [Bool.xor_true]; exact h⟩
theorem neR_int {x y : Int} {P : PyData → Prop} (h : P (.bool (!decide (x = y)))) : eqR true (.int x) (.int y) P := .inl ⟨_, rfl, by rw [Bool.xor_true]; exact h⟩
theorem eqR_dat {d e : PyData} {P : PyData → Prop} (h1 : d.hasDict = false) (h2 : e.hasDict = false) (h3 : SeqAt.shaped d = true) (h4 : SeqAt.shaped e = true) (h : P (.bool (PyData.eqv d e))) : eqR false d e P := .inr ⟨h1, h2, h3, h4, by rw [Bool.xor_false]; exact h⟩
theorem neR_dat {d e : PyData} {P : PyData → Prop} (h1 : d.hasDict = false) (h2 : e.hasDict = false) (h3 : SeqAt.shaped d = true) (h4 : SeqAt.shaped e = true) (h : P (.bool (!PyData.eqv d e))) : eqR true d e P := .inr ⟨h1, h2, h3, h4, by rw [Bool.xor_true]; exact h⟩
/-- l == [] -/
theorem eqR_nil {ds : List PyData} {P : PyData → Prop} (h : DOk (.list ds)) (p : P (.bool (decide (ds = [])))) : eqR false (.list ds) (.list []) P := by
  refine eqR_dat h.nodict rfl h.shaped (by decide +kernel) ?_
  cases ds <;> exact p
theorem neR_nil {ds : List PyData} {P : PyData → Prop} (h : DOk (.list ds)) (p : P (.bool (!decide (ds = [])))) : eqR true (.list ds) (.list []) P := by
  refine neR_dat h.nodict rfl h.shaped (by decide +kernel) ?_
  cases ds <;> exact p
theorem eqR_nilT {ds : List PyData} {P : PyData → Prop} (h : DOk (.tuple ds)) (p : P (.bool (decide (ds = [])))) : eqR false (.tuple ds) (.tuple []) P := by
  refine eqR_dat h.nodict rfl h.shaped (by decide +kernel) ?_
  cases ds <;> exact p
theorem neR_nilT {ds : List PyData} {P : PyData → Prop} (h : DOk (.tuple ds)) (p : P (.bool (!decide (ds = [])))) : eqR true (.tuple ds) (.tuple []) P := by
  refine neR_dat h.nodict rfl h.shaped (by decide +kernel) ?_
  cases ds <;> exact p
theorem at0 {α : Type} {x : α} {xs : List α} : atI (x :: xs) 0 = some x := atI_int (by decide) rfl
theorem at1 {α : Type} {x y : α} {xs : List α} : atI (x :: y :: xs) 1 = some y := atI_int (by decide) rfl
theorem at2 {α : Type} {x y z : α} {xs : List α} : atI (x :: y :: z :: xs) 2 = some z := atI_int (by decide) rfl
theorem ix0T {x : PyData} {xs : List PyData} {P : PyData → Prop} (h : P x) : ∃ d', ixD (.tuple (x :: xs)) (.int 0) = some d' ∧ P d' := ⟨x, at0, h⟩
theorem ix1T {x y : PyData} {xs : List PyData} {P : PyData → Prop} (h : P y) : ∃ d', ixD (.tuple (x :: y :: xs)) (.int 1) = some d' ∧ P d' := ⟨y, at1, h⟩
theorem ix2T {x y z : PyData} {xs : List PyData} {P : PyData → Prop} (h : P z) : ∃ d', ixD (.tuple (x :: y :: z :: xs)) (.int 2) = some d' ∧ P d' := ⟨z, at2, h⟩
theorem ix0L {x : PyData} {xs : List PyData} {P : PyData → Prop} (h : P x) : ∃ d', ixD (.list (x :: xs)) (.int 0) = some d' ∧ P d' := ⟨x, at0, h⟩
theorem ix1L {x y : PyData} {xs : List PyData} {P : PyData → Prop} (h : P y) : ∃ d', ixD (.list (x :: y :: xs)) (.int 1) = some d' ∧ P d' := ⟨y, at1, h⟩
theorem ix2L {x y z : PyData} {xs : List PyData} {P : PyData → Prop} (h : P z) : ∃ d', ixD (.list (x :: y :: z :: xs)) (.int 2) = some d' ∧ P d' := ⟨z, at2, h⟩
theorem iteB {b : Bool} {p q : Prop} (h1 : b = true → p) (h2 : b = false → q) : if b = true then p else q := by
  cases b
  · exact h2 rfl
  · exact h1 rfl
theorem eqv_str (x y : Str) : PyData.eqv (.str x) (.str y) = decide (x = y) := by
  show (x == y) = _
  rw [Bool.eq_iff_iff, beq_iff_eq, decide_eq_true_eq]
theorem tab_mem {x : Str} {ys : List Str} : ∀ {ts : List (Str × List Str)}, tabGet ts x = some ys → (x, ys) ∈ ts
  | [], h => nomatch h
  | p :: r, h => by
    unfold tabGet at h
    by_cases e : p.1 = x
    · rw [if_pos e] at h
      cases h
      subst e
      exact List.mem_cons_self
    · rw [if_neg e] at h
      exact List.mem_cons_of_mem _ (tab_mem h)
theorem cut1 {x : PyData} {ds : List PyData} : cutD (x :: ds) (some 1) none = ds := by
  unfold cutD HT.sIx
  simp
theorem zip_str (ys : List Str) (ds : List PyData) : ((ys.map PyData.str).zip ds).map pairD = (ys.zip ds).map fun p => pairD (.str p.1, p.2) := by
  rw [List.zip_map_left, List.map_map]
  rfl
theorem units_of {k : Nat} {A : Around} (hr : Room k A) : A.units + 66 < cLine := by
  have := hr.un
  omega
theorem units_ofx {k : Nat} {A : Around} (hr : Room k A) : A.units + 64 < cLine := by
  have := hr.un
  omega
end DL
set_option Elab.async false
set_option linter.all false
set_option maxRecDepth 100000
set_option maxHeartbeats 1000000
/-! DL10: a written dict of ints by texts, looked up at once; lists of what is fine against [] -/
namespace DL
open PySem PySem.Spec PyProof.Rows L2 GL
def look : List (Str × Int) → Str → Option Int
  | [], _ => none
  | c :: r, x => if c.1 = x then some c.2 else look r x
theorem pairs_const {σ : L2.St} {H : Hp} {Q : List (V × V) → Hp → Prop} : ∀ {cs : List (Str × Int)}, Q (cs.map fun c => (V.str c.1, V.int c.2)) H → tPairs (cs.map fun c => (tC (.str c.1), tC (.int c.2))) σ H Q
  | [], h => h
  | c :: r, h => pairs_const (cs := r) (Q := fun ps H3 => Q ((V.str c.1, V.int c.2) :: ps) H3) h
theorem look_val {x : Str} {n : Int} : ∀ {cs : List (Str × Int)}, look cs x = some n → valV (cs.map fun c => ((Sum.inr c.1 : Key), V.int c.2)) (.inr x) = some (.int n)
  | [], h => nomatch h
  | c :: r, h => by
    unfold look at h
    by_cases e : c.1 = x
    · rw [if_pos e] at h
      cases h
      exact valV_pos (show (Sum.inr c.1 : Key) = Sum.inr x from by rw [e])
    · rw [if_neg e] at h
      rw [List.map_cons, valV_neg (p := ((Sum.inr c.1 : Key), V.int c.2)) (fun z : (Sum.inr c.1 : Key) = Sum.inr x => e (by injection z))]
      exact look_val h
section
variable {K : PySem.W.Frag} {X : Cx} {e : Expr} {Ta : DT} {pos p2 : Pos}
theorem de_dlit {cs : List (Str × Int)} {keys : List (Option Expr)} {values : List Expr} (hp : PPs X p2 keys values (cs.map fun c => (tC (.str c.1), tC (.int c.2))))
    (hm : mergeK [] (cs.map fun c => ((Sum.inr c.1 : Key), V.int c.2)) = cs.map fun c => ((Sum.inr c.1 : Key), V.int c.2)) (hn : cs.length ≤ 15) (hu : X.A.units + 64 < cLine) (he : DE K X e Ta)
    (hall : keys.all (·.isSome) = true := by rfl) (hl : keys.length = values.length := by rfl) (h0 : keys ≠ [] := by nofun) (h15 : keys.length ≤ 15 := by decide) (hs : NoSl e := by exact fun _ _ => rfl) :
    DE K X (.Subscript (.Dict keys values p2) e pos) (fun ρ P => Ta ρ fun d => ∃ z n, d = .str z ∧ look cs z = some n ∧ P (.int n)) := by
  refine ⟨PE.weak (pe_dget (by omega) (pe_disp hp hall hl h0 h15) he.pe hs) fun σ H Q h => ?_⟩
  obtain ⟨G0, H0, B, G, ρ, F, P, w, t, k⟩ := h
  intro p np
  refine pairs_const ⟨upd_same, cs.map fun c => ((Sum.inr c.1 : Key), V.int c.2), by rw [List.map_map]; rfl, by rw [List.length_map]; exact hn, ?_⟩
  rw [upd_upd, hm]
  have s := Stp.new (B := B) (o := .dK (cs.map fun c => ((Sum.inr c.1 : Key), V.int c.2))) w.sGH np
  refine ⟨G0, H0, B, G, ρ, F, _, w.step s, t, fun d G' H' v q s' r => ?_⟩
  obtain ⟨z, n, rfl, hz, q⟩ := q
  cases r
  have hH := s'.keep p _ upd_same (notB_new w.bags np)
  exact ⟨p, .int n, rfl, .inl ⟨_, .inr z, .inl hH, rfl, (look_val hz).symm⟩, k _ G' H' _ q (s.trans s' w.bags) (.int n)⟩
/-- repr of what is fine, or of {} -/
theorem cd_reprQ : CallData K (fun xs H Q => ∃ v d, xs = [v] ∧ Is K H v d ∧ Q (.str d.shown) H) (fun ds P => ∃ d, ds = [d] ∧ (DOk d ∨ d = .dict []) ∧ P (.str d.shown)) := flat_call fun G H ds vs P Q s dx p k => by
  obtain ⟨d, rfl, h, p⟩ := p
  obtain ⟨v, rfl, r⟩ := dx.one
  refine ⟨v, d, rfl, ?_, k _ _ p (.str _)⟩
  rcases h with h | h
  · exact .dp (Dp.same s (r.dp h.nodict)) h.nodict h.shows h.deep h.fits
  · generalize e : d = d' at r
    cases r with
    | @dct a kvs ds h1 h2 =>
      rw [h] at e
      have e2 : [] = (kvs.map fun p => kD p.1).zip ds := by injection e
      have e3 : kvs = [] := by
        cases kvs with
        | nil => rfl
        | cons q r =>
          cases h2 with
          | cons h3 h4 => cases e2
      subst e3
      exact .dct (s _ _ h1)
    | _ =>
      rw [h] at e
      cases e
theorem de_reprQ {p : Pos} (e1 : X.K = K) (hG : Gd X.A) (hu : X.A.units + 66 < cLine) (hm : X.mg "repr" = none) (h : DE K X e Ta) (hg : Gl X "repr" := by rfl) (hs : starEach [e] X.env = (false, eval e X.env) :: starEach [] X.env := by rfl) (hpl : (backTo pos (starEach [] X.env)).any (·.1) = false := by rfl) :
    DE K X (.Call (.Name "repr" p) [e] [] pos) (fun ρ P => Ta ρ fun d => ∃ d', [d] = [d'] ∧ (DOk d' ∨ d' = .dict []) ∧ P (.str d'.shown)) := by
  subst e1
  exact de_callB (call_reprQ hG hu) cd_reprQ hg hm (by decide +kernel) (da_cons h da_nil hs) (by decide) (by decide) hs hpl
end
theorem dok_hd {ds : List PyData} (h : ∀ d ∈ ds, DOk d) : PyData.hasDictAll ds = false ∧ PyData.canLayAll0 ds = true ∧ PyData.depthAll ds ≤ 60 := by
  induction ds with
  | nil => exact ⟨rfl, rfl, by simp [PyData.depthAll]⟩
  | cons d ds ih =>
    obtain ⟨h1, h2, h3⟩ := ih fun x m => h x (List.mem_cons_of_mem _ m)
    have g := h d List.mem_cons_self
    have := g.deep
    refine ⟨?_, ?_, ?_⟩
    · simp only [PyData.hasDictAll, g.nodict, h1, Bool.or_false]
    · simp only [PyData.canLayAll0, g.lay, h2, Bool.and_self]
    · simp only [PyData.depthAll]
      omega
theorem shaped_all {ds : List PyData} (h : ∀ d ∈ ds, DOk d) : (PyData.list ds).hasDict = false ∧ SeqAt.shaped (.list ds) = true := by
  obtain ⟨h1, h2, h3⟩ := dok_hd h
  refine ⟨by simp only [PyData.hasDict]; exact h1, ?_⟩
  unfold SeqAt.shaped
  simp only [PyData.canLay0, h2, Bool.true_and, PyData.depth]
  exact decide_eq_true (Nat.le_trans (Nat.succ_le_succ h3) (by decide))
theorem eqR_nilA {ds : List PyData} {P : PyData → Prop} (h : ∀ d ∈ ds, DOk d) (p : P (.bool (decide (ds = [])))) : eqR false (.list ds) (.list []) P := by
  obtain ⟨h1, h2⟩ := shaped_all h
  refine eqR_dat h1 rfl h2 (by decide +kernel) ?_
  cases ds <;> exact p
theorem neR_nilA {ds : List PyData} {P : PyData → Prop} (h : ∀ d ∈ ds, DOk d) (p : P (.bool (!decide (ds = [])))) : eqR true (.list ds) (.list []) P := by
  obtain ⟨h1, h2⟩ := shaped_all h
  refine neR_dat h1 rfl h2 (by decide +kernel) ?_
  cases ds <;> exact p
/-- small parts -/
structure Pt (d : PyData) : Prop where
  ok : DOk d
  wt : d.weight ≤ 16
  dp : d.depth ≤ 2
theorem pt_list {ds : List PyData} (h : ∀ d ∈ ds, Pt d) (hn : ds.length ≤ 1000) : DOk (.list ds) ∧ DOk (.tuple ds) ∧ PyData.weightAll ds ≤ ds.length * 17 ∧ PyData.depthAll ds ≤ 2 :=
  dok_all (fun d m => ⟨(h d m).ok, (h d m).wt, (h d m).dp⟩) (by decide) (by omega)
theorem dok_low {z : Str} (h1 : z.length ≤ 8) (h : ∀ c ∈ z.cps.toList, 97 ≤ c ∧ c ≤ 122) : DOk (.str z) ∧ (PyData.str z).weight ≤ 8 := by
  have e : z.cps.size ≤ 8 := h1
  refine ⟨⟨?_, ?_, ?_, ?_, rfl⟩, ?_⟩
  · show z.cps.all (· < 0x110000) = true
    rw [← Array.all_toList, List.all_eq_true]
    intro c m
    have := h c m
    exact decide_eq_true (by omega)
  · simp only [PyData.leavesShort, List.all_eq_true, decide_eq_true_eq]
    intro c m
    have := h c m
    have e : (16 : Nat) ^ 8 = 4294967296 := by decide
    omega
  · simp only [PyData.weight]
    omega
  · simp only [PyData.depth]
    omega
  · simp only [PyData.weight]
    exact e
theorem pt_low {z : Str} (h1 : z.length ≤ 8) (h : ∀ c ∈ z.cps.toList, 97 ≤ c ∧ c ≤ 122) : Pt (.str z) := by
  obtain ⟨a, b⟩ := dok_low h1 h
  exact ⟨a, by omega, by simp only [PyData.depth]; omega⟩
theorem dok_sign {z : Str} {c : Nat} (h : DOk (.str z)) (m : c ∈ z.cps.toList) : DOk (.str (signS c)) := by
  obtain ⟨h1, h2, _, _, _⟩ := h
  refine ⟨?_, ?_, ?_, ?_, rfl⟩
  · have h1 : z.cps.all (· < 0x110000) = true := h1
    rw [← Array.all_toList, List.all_eq_true] at h1
    show #[c].all (· < 0x110000) = true
    rw [← Array.all_toList, List.all_eq_true]
    intro d md
    rw [List.mem_singleton.mp md]
    exact h1 c m
  · simp only [PyData.leavesShort, List.all_eq_true] at h2 ⊢
    intro d md
    rw [List.mem_singleton.mp md]
    exact h2 c m
  · show 1 ≤ 100000
    decide
  · simp only [PyData.depth]
    omega
end DL
set_option Elab.async false
set_option linter.all false
set_option maxRecDepth 100000
set_option maxHeartbeats 1000000
/-! DL11: which values are written 0, 1, 2, 3 -/
namespace DL
open PySem PySem.Spec PyProof.Rows L2 GL
/-- a, b, .. = a list -/
theorem dg_lst {K : PySem.W.Frag} {X : Cx} {pos : Pos} {ts : List Expr} {k : Nat} {ws : List Nat} {gs : List PyData → Env' → (Env' → Prop) → Prop} {n : Nat} (e1 : X.K = K) (hc : X.calm = true) (h : DGs K X ts ws gs)
    (hn : (assignEach ts X.env).length = n := by rfl) (hst : (assignEach ts X.env).findIdx? (·.1) = none := by rfl) : DG K X (.Tuple ts k pos) ws (fun d ρ P => ∃ ds, d = .list ds ∧ ds.length = n ∧ gs ds ρ P) := by
  subst e1
  refine ⟨PG.weak (pg_lst hc h.pg hn hst) fun v σ H Q h => ?_⟩
  obtain ⟨G0, H0, B, G, ρ, F, P, d, w, r, ⟨ds, rfl, hl, p⟩, k⟩ := h
  cases r with
  | lst h2 h3 => exact ⟨_, _, rfl, .inl (.inl (w.sGH _ _ h2)), by rw [h3.length]; exact hl, G0, H0, B, G, ρ, F, P, ds, w, h3, p, k⟩
section
variable {g : GT} {Tt : BT} {To : OT} {ρ : Env'} {ds : List PyData} {P : List O → Prop}
theorem lc_flt (p : PyData → Bool) (f : PyData → O) (hl : ds.length < sizeLine)
    (h : ∀ d ∈ ds, ∀ (yes : O → Prop) (no : Prop), (p d = true → yes (f d)) → (p d = false → no) → lcTurn g Tt To ρ d yes no) (hp : P ((ds.filter p).map f)) :
    ds.length < sizeLine ∧ ∃ I : Nat → List O → Prop, I 0 [] ∧ (∀ i d acc, ds[i]? = some d → I i acc → lcTurn g Tt To ρ d (fun o => I (i + 1) (acc ++ [o])) (I (i + 1) acc)) ∧ ∀ acc, I ds.length acc → P acc :=
  lc_fun (P := fun o => match o with | .lst acc => P acc | _ => False) p f hl h hp
/-- no test: each item is of a kind -/
theorem lc_each (R : O → Prop) (hl : ds.length < sizeLine) (h : ∀ d ∈ ds, ∀ (yes : O → Prop) (no : Prop), (∀ o, R o → yes o) → lcTurn g (fun _ P => P true) To ρ d yes no)
    (hp : ∀ acc, acc.length = ds.length → (∀ o ∈ acc, R o) → P acc) :
    ds.length < sizeLine ∧ ∃ I : Nat → List O → Prop, I 0 [] ∧ (∀ i d acc, ds[i]? = some d → I i acc → lcTurn g (fun _ P => P true) To ρ d (fun o => I (i + 1) (acc ++ [o])) (I (i + 1) acc)) ∧ ∀ acc, I ds.length acc → P acc := by
  refine ⟨hl, fun i acc => acc.length = i ∧ ∀ o ∈ acc, R o, ⟨rfl, fun _ m => nomatch m⟩, fun i d acc hd hI => ?_, fun acc hI => hp acc hI.1 hI.2⟩
  refine h d (List.mem_of_getElem? hd) _ _ fun o ho => ⟨?_, fun u m => ?_⟩
  · show (acc ++ [o]).length = i + 1
    rw [List.length_append, hI.1]
    rfl
  · rcases List.mem_append.mp m with m | m
    · exact hI.2 u m
    · rw [List.mem_singleton.mp m]
      exact ho
end
theorem len_range (lo : Int) (n : Nat) : (rangeD lo n).length = n := by simp [rangeD]
theorem addL {ds es : List PyData} {P : O → Prop} (h : ds.length + es.length ≤ sizeLine) (p : P (.lst ((ds ++ es).map .dat))) : ∃ o, addD (.list ds) (.list es) = some o ∧ P o := ⟨_, if_pos h, p⟩
theorem addT {ds es : List PyData} {P : O → Prop} (h : ds.length + es.length ≤ sizeLine) (p : P (.dat (.tuple (ds ++ es)))) : ∃ o, addD (.tuple ds) (.tuple es) = some o ∧ P o := ⟨_, if_pos h, p⟩
theorem ixMem {ds : List PyData} {i : Int} {P : PyData → Prop} (h0 : 0 ≤ i) (h1 : i < ds.length) (h : ∀ d ∈ ds, P d) : ∃ d', ixD (.list ds) (.int i) = some d' ∧ P d' := by
  obtain ⟨v, hv, hm⟩ := at_mem h0 h1
  exact ⟨v, hv, h v hm⟩
theorem cut_few (ds : List PyData) (i j : Option Int) : (cutD ds i j).length ≤ ds.length ∧ ∀ x ∈ cutD ds i j, x ∈ ds := by
  unfold cutD
  constructor
  · rw [List.length_take, List.length_drop]
    omega
  · intro x m
    exact List.mem_of_mem_drop (List.mem_of_mem_take m)
def ptB (d : PyData) : Bool := d.canLay0 && (d.leavesShort 8 && (decide (d.weight ≤ 100000) && (decide (d.depth ≤ 60) && (d.showable && (decide (d.weight ≤ 16) && decide (d.depth ≤ 2))))))
theorem pt_of {d : PyData} (h : ptB d = true) : Pt d := by
  unfold ptB at h
  simp only [Bool.and_eq_true, decide_eq_true_eq] at h
  obtain ⟨h1, h2, h3, h4, h5, h6, h7⟩ := h
  exact ⟨⟨h1, h2, h3, h4, h5⟩, h6, h7⟩
theorem pts_of {ds : List PyData} (h : ds.all ptB = true) : ∀ d ∈ ds, Pt d := fun d m => pt_of (List.all_eq_true.mp h d m)
theorem len_of_eq {x y : Str} (h : x = y) : x.length = y.length := by rw [h]
theorem cps_of {x y : String} (h : Str.ofString x = Str.ofString y) : x = y := by
  have e : x.toList.map Char.toNat = y.toList.map Char.toNat := by
    rw [Str.ofString_eq_toList, Str.ofString_eq_toList] at h
    simpa using h
  exact String.toList_inj.mp ((List.map_inj_right (fun a b hab => Char.toNat_inj.mp hab)).mp e)
theorem shown_int {i j : Int} (h : (PyData.int i).shown = (PyData.int j).shown) : i = j := Int.repr_injective (cps_of h)
theorem long_str (z : Str) : 2 ≤ (PyData.str z).shown.length := by
  show 2 ≤ (reprText z).cps.size
  unfold reprText
  rw [Array.size_push, ← Array.foldl_toList]
  have := foldl_repr_eq (reprQuote z) z.cps.toList #[reprQuote z] 0
  have e : (#[reprQuote z] : Array Nat).size = 1 := rfl
  omega
theorem long_list (ds : List PyData) : 2 ≤ (PyData.list ds).shown.length := by
  show 2 ≤ (textFrom 0 "[" (PyData.shownAll ds) ++ "]").length
  rw [Str.length_append]
  have h := (textFrom_len (PyData.shownAll ds) 0 "[").2.2
  have e : ("[" : Str).length = 1 := by decide +kernel
  have e2 : ("]" : Str).length = 1 := by decide +kernel
  omega
theorem long_tuple (ds : List PyData) : 2 ≤ (PyData.tuple ds).shown.length := by
  show 2 ≤ (("(" : Str) ++ Str.join ", " (PyData.shownAll ds) ++ ((if (PyData.shownAll ds).length == 1 then ",)" else ")" : String) : Str)).length
  rw [Str.length_append, Str.length_append]
  have e : ("(" : Str).length = 1 := by decide +kernel
  have e2 : 1 ≤ ((if (PyData.shownAll ds).length == 1 then ",)" else ")" : String) : Str).length := by
    split <;> decide +kernel
  omega
theorem shown_digit {d : PyData} {j : Int} (hd : d.hasDict = false) (h : d.shown = (PyData.int j).shown) (h1 : (PyData.int j).shown.length = 1) : d = .int j := by
  have hl := len_of_eq h
  rw [h1] at hl
  cases d with
  | none => exact absurd hl (by decide +kernel)
  | bool b => cases b <;> exact absurd hl (by decide +kernel)
  | int i => rw [shown_int h]
  | str z => have := long_str z; omega
  | list ds => have := long_list ds; omega
  | tuple ds => have := long_tuple ds; omega
  | dict kvs => simp [PyData.hasDict] at hd
def isI (j : Int) : PyData → Bool
  | .int i => decide (i = j)
  | _ => false
theorem isI_iff {j : Int} {d : PyData} : isI j d = true ↔ d = .int j := by
  cases d with
  | int i => exact ⟨fun h => by rw [of_decide_eq_true h], fun h => by cases h; exact decide_eq_true rfl⟩
  | _ => exact Iff.intro (fun h => by cases h) (fun h => by cases h)
theorem shown_is {d : PyData} {j : Int} {x : Str} (hd : d.hasDict = false) (hx : x = (PyData.int j).shown) (h1 : (PyData.int j).shown.length = 1) : decide (x = d.shown) = isI j d := by
  rw [Bool.eq_iff_iff, decide_eq_true_eq, isI_iff]
  constructor
  · intro e
    exact shown_digit hd (by rw [← e, hx]) h1
  · rintro rfl
    exact hx
end DL
set_option Elab.async false
set_option linter.all false
set_option maxRecDepth 100000
set_option maxHeartbeats 1000000
/-! DL12: comprehensions of two walks -/
namespace DL
open PySem PySem.Spec PyProof.Rows L2 GL
/-- a walk with any body, from any heap -/
theorem loop_it {J : It} {n : Nat} {Gp : Hp → Prop} {Y : Nat → Hp → V → Hp → Prop} (wk : Walk J n Gp Y) {Body : V → Hp → (Hp → Prop) → Prop} {Start : Hp} {Fin : Hp → Prop} (Inva : Nat → Hp → Prop) (b0 : Inva 0 Start)
    (okG : ∀ j h, j ≤ n → Inva j h → Gp h) (turn : ∀ j v h h', j < n → Inva j h → Y j h v h' → Body v h' (Inva (j + 1))) (last : ∀ h, Inva n h → Fin h) :
    ∃ Q : Nat → Nat → Hp → Prop, (∃ m, Q 0 m Start) ∧ ∀ j m h, Q j m h → (J.stop j h ∧ Fin h) ∨ (J.go j h ∧ ∃ Nx : Hp → Prop, (∀ h', Nx h' → ∃ m', m' < m ∧ Q (j + 1) m' h') ∧ ∀ v h', J.yld j h v h' → Body v h' Nx) := by
  refine ⟨fun j m h => j + m = n ∧ Inva j h, ⟨n, Nat.zero_add n, b0⟩, fun j m h z => ?_⟩
  obtain ⟨e, i0⟩ := z
  have g := okG j h (by omega) i0
  cases m with
  | zero =>
    have e : j = n := e
    subst e
    exact .inl ⟨wk.stops h g, last h i0⟩
  | succ m => exact .inr ⟨wk.goes j h (by omega) g, Inva (j + 1), fun h' z => ⟨m, Nat.lt_succ_self m, by omega, z⟩, fun v h' y => turn j v h h' (by omega) i0 (wk.yields j h v h' (by omega) g y)⟩
section
variable {K : PySem.W.Frag} {B : Option (Addr × Addr)} {G1 H1 G H G' H' : Hp} {D : Addr} {acc : List O}
/-- the new list of a comprehension that began at (G1, H1) -/
structure LcS (K : PySem.W.Frag) (B : Option (Addr × Addr)) (G1 H1 : Hp) (D : Addr) (acc : List O) (us : List V) (Fa : List Addr) (G H : Hp) : Prop where
  hD : H D = some (.lst us)
  rep : RepOs K G H us acc Fa
  nD : D ∉ Fa
  new : ∀ a ∈ Fa, H1 a = none
  stp : Stp B G1 H1 G H
  gD : G D = none
theorem LcS.step {us : List V} {Fa : List Addr} (L : LcS K B G1 H1 D acc us Fa G H) (b1 : ∀ b, B = some b → BagAt G1 H1 b) (nD : H1 D = none) (s : Stp B G H G' H') : LcS K B G1 H1 D acc us Fa G' H' :=
  ⟨s.keep _ _ L.hD (notB_new b1 nD), L.rep.step s fun a m => notB_new b1 (L.new a m), L.nD, L.new, L.stp.trans s b1, s.g_none L.gD (by rw [L.hD]; exact nofun)⟩
theorem LcS.app {us : List V} {Fa Fv : List Addr} {v : V} {o : O} (L : LcS K B G1 H1 D acc us Fa G H) (b1 : ∀ b, B = some b → BagAt G1 H1 b) (nD : H1 D = none) (r : RepO K G H v o Fv) (nv : ∀ a ∈ Fv, H1 a = none ∧ a ∉ Fa ∧ a ≠ D) :
    LcS K B G1 H1 D (acc ++ [o]) (us ++ [v]) (Fa ++ Fv) G (upd H D (.lst (us ++ [v]))) where
  hD := upd_same
  rep := by
    have ra := RepOs.append (RepOs.cons (F1 := Fv) (F2 := []) r .nil fun _ _ m => nomatch m) L.rep (fun a m z => by
      rw [List.append_nil] at z
      exact (nv a z).2.1 m)
    rw [List.append_nil] at ra
    refine ra.mono (Same.refl _) (fun a m => (ra.dom a m).1) (fun a m u h => ?_)
    have : a ≠ D := fun z => by
      subst z
      rcases List.mem_append.mp m with m | m
      · exact L.nD m
      · exact (nv a m).2.2 rfl
    rw [upd_ne this]
    exact h
  nD m := by
    rcases List.mem_append.mp m with m | m
    · exact L.nD m
    · exact (nv D m).2.2 rfl
  new a m := by
    rcases List.mem_append.mp m with m | m
    · exact L.new a m
    · exact (nv a m).1
  stp := L.stp.updNew b1 nD L.gD
  gD := L.gD
/-- the environment does not see the new list grow -/
theorem Wd.growD {G0 H0 : Hp} {σ : L2.St} {ρ : Env'} {F : List Addr} {o : HO} (w : Wd K G0 H0 B G H σ ρ F) (h0 : H0 D = none) (gD : G D = none) (nF : D ∉ F) (nb : ∀ b, B = some b → b.1 ≠ D) : Wd K G0 H0 B G (upd H D o) σ ρ F where
  sGH a u h := by
    have : a ≠ D := fun z => by rw [z, gD] at h; cases h
    rw [upd_ne this]
    exact w.sGH a u h
  sG := w.sG
  fr := w.fr
  keep a u h n := by
    have : a ≠ D := fun z => by rw [z, h0] at h; cases h
    rw [upd_ne this]
    exact w.keep a u h n
  own := w.own
  bag b e := by
    obtain ⟨⟨g, s, i, ns, q1, q2, q3⟩, q4, q5⟩ := w.bag b e
    exact ⟨⟨g, s, i, ns, by rw [upd_ne (nb b e)]; exact q1, q2, q3⟩, q4, q5⟩
  env := w.env.mono (Same.refl _) (fun a m => (w.env.dom a m).1) fun a m u h => by
    have : a ≠ D := fun z => by subst z; exact nF m
    rw [upd_ne this]
    exact h
end
section
variable {K : PySem.W.Frag} {X : Cx} {tg iter elt tg1 iter1 : Expr} {ifs ifs1 : List Expr} {scope : Scope} {own : List (Str × Nat)} {ws ws1 : List Nat} {g g1 : GT} {Ti Ti1 : LT} {Tt Tt1 : BT} {To : OT} {pos : Pos}
/-- what a comprehension of two walks asks, over data -/
abbrev lcT2 (g : GT) (Tt : BT) (Ti1 : LT) (g1 : GT) (Tt1 : BT) (To : OT) (Ti : LT) (vs vs1 : List Nat) : OT := fun ρ P => Ti ρ fun ds => ∃ I : Nat → List O → Prop, I 0 [] ∧
  (∀ i d acc, ds[i]? = some d → I i acc → g d (wipeE ρ vs) fun ρ2 => Tt ρ2 fun b => if b = true then Ti1 ρ2 fun es => ∃ I1 : Nat → List O → Prop, I1 0 acc ∧
    (∀ j e acc1, es[j]? = some e → I1 j acc1 → lcTurn g1 Tt1 To (wipeE ρ2 vs1) e (fun o => acc1.length < sizeLine ∧ I1 (j + 1) (acc1 ++ [o])) (I1 (j + 1) acc1)) ∧ (∀ acc1, I1 es.length acc1 → I (i + 1) acc1) else I (i + 1) acc) ∧
  ∀ acc, I ds.length acc → P (.lst acc)
theorem lift_lc2 {vs vs1 : List Nat} (hw : ∀ i ∈ ws, i ∈ vs) (hw1 : ∀ i ∈ ws1, i ∈ vs1) (σ : L2.St) (H : Hp) (Q : VK) (h : liftO K (lcT2 g Tt Ti1 g1 Tt1 To Ti vs vs1) σ H Q) :
    tLc2 (liftI K Ti) (liftG K ws g) (liftB K Tt) (liftI K Ti1) (liftG K ws1 g1) (liftB K Tt1) (liftO K To) vs vs1 σ H Q := by
  obtain ⟨G0, H0, B, G, ρ, F, P, w, t, k⟩ := h
  refine ⟨G0, H0, B, G, ρ, F, _, w, t, fun ds G1 H1 J p1 s1 it D nD => ?_⟩
  obtain ⟨I, i0, step, fin⟩ := p1
  obtain ⟨Gp, Y, wk, hGp, hY⟩ := it
  have w1 := w.step s1
  have b1 := w1.bags
  have n0 : H0 D = none := by
    cases e : H0 D with
    | none => rfl
    | some u =>
      exfalso
      by_cases n : NotB B D
      · have := w1.keep D u e n
        rw [nD] at this
        cases this
      · obtain ⟨c, n⟩ := isB n
        exact (b1 _ n).some nD
  have nbD : ∀ b, B = some b → b.1 ≠ D := fun b e z => (b1 b e).some (by rw [z]; exact nD)
  refine loop_it wk (fun i H' => ∃ G' us acc Fa, I i acc ∧ LcS K B G1 H1 D acc us Fa G' H') ?h0 ?hG ?hs ?hd
  case h0 => exact ⟨G1, [], [], [], i0, upd_same, .nil, (fun m => nomatch m), (fun _ m => nomatch m), Stp.new s1.sGH nD, s1.gnone nD⟩
  case hG =>
    rintro i H' _ ⟨G', us, acc, Fa, _, L⟩
    exact hGp H' (L.stp.sG.trans L.stp.sGH)
  case hd =>
    rintro H' ⟨G', us, acc, Fa, hI, L⟩
    refine k (.lst acc) G' H' (.ref D) (D :: Fa) (fin acc hI) (s1.trans L.stp w.bags) (.lst L.gD L.hD L.rep L.nD) fun a m => s1.none_back w.bags ?_
    rcases List.mem_cons.mp m with rfl | m
    · exact nD
    · exact L.new a m
  case hs =>
    rintro i x H' H'' hi ⟨G', us, acc, Fa, hI, L⟩ y
    obtain ⟨G2, d, s2, rd, hd⟩ := hY i H' x H'' hi y B G' L.stp.sG L.stp.sGH
    have L2 := L.step b1 nD s2
    obtain ⟨Fw, ww, cw⟩ := (w1.step L2.stp).wipe vs
    refine ⟨G0, H0, B, G2, _, Fw, _, d, ww, rd, step i d acc hd hI, fun ρ' σ' F' p w' c z => ⟨(z _ hw).trans (wipe_wipe _ fun _ m => m), ?_⟩⟩
    have nF' : D ∉ F' := fun m => (w1.env.dom D (cw D (c D m))).2 nD
    refine ⟨G0, H0, B, G2, ρ', F', _, w', p, fun b G3 H3 p3 s3 => ?_⟩
    have L3 := L2.step b1 nD s3
    cases b with
    | false => exact ⟨G3, us, acc, Fa, by simpa using p3, L3⟩
    | true =>
      refine ⟨G0, H0, B, G3, ρ', F', _, w'.step s3, (by simpa using p3), fun es G4 H4 J1 p4 s4 it1 => ?_⟩
      obtain ⟨I1, i1, step1, fin1⟩ := p4
      obtain ⟨Gp1, Y1, wk1, hGp1, hY1⟩ := it1
      have L4 := L3.step b1 nD s4
      have w4 := (w'.step s3).step s4
      refine loop_it wk1 (fun j h => ∃ G5 us5 acc5 Fa5, I1 j acc5 ∧ LcS K B G1 H1 D acc5 us5 Fa5 G5 h ∧ Wd K G0 H0 B G5 h σ' ρ' F' ∧ Same G4 G5) ?b0 ?bG ?bs ?bd
      case b0 => exact ⟨G4, us, acc, Fa, i1, L4, w4, .refl _⟩
      case bG =>
        rintro j h _ ⟨G5, us5, acc5, Fa5, _, L5, w5, s45⟩
        exact hGp1 h (s45.trans L5.stp.sGH)
      case bd =>
        rintro h ⟨G5, us5, acc5, Fa5, hI1, L5, _, _⟩
        exact ⟨G5, us5, acc5, Fa5, fin1 acc5 hI1, L5⟩
      case bs =>
        rintro j v h h' hj ⟨G5, us5, acc5, Fa5, hI1, L5, w5, s45⟩ y1
        obtain ⟨G6, e, s6, re, he⟩ := hY1 j h v h' hj y1 B G5 s45 L5.stp.sGH
        have L6 := L5.step b1 nD s6
        have w6 := w5.step s6
        obtain ⟨Fx, wx, cx⟩ := w6.wipe vs1
        refine ⟨G0, H0, B, G6, _, Fx, _, e, wx, re, step1 j e acc5 he hI1, fun ρ3 σ3 F3 p5 w7 c3 z3 => ⟨(z3 _ hw1).trans (wipe_wipe _ fun _ m => m), ?_⟩⟩
        refine ⟨G0, H0, B, G6, ρ3, F3, _, w7, p5, fun b G7 H7 p7 s7 => ?_⟩
        have L7 := L6.step b1 nD s7
        have w8 := w6.step s7
        have s47 := s45.trans (s6.sG.trans s7.sG)
        cases b with
        | false => exact ⟨G7, us5, acc5, Fa5, by simpa using p7, L7, w8, s47⟩
        | true =>
          refine ⟨G0, H0, B, G7, ρ3, F3, _, w7.step s7, (by simpa using p7), fun o G8 H8 u Fv p8 s8 r8 n8 => ?_⟩
          have L8 := L7.step b1 nD s8
          have w9 := w8.step s8
          have nv : ∀ a ∈ Fv, H1 a = none ∧ a ∉ Fa5 ∧ a ≠ D := fun a m => by
            have nn := n8 a m
            refine ⟨L7.stp.none_back b1 nn, fun z => (L7.rep.dom a z).2 nn, fun z => ?_⟩
            subst z
            rw [L7.hD] at nn
            cases nn
          refine ⟨us5, L8.hD, ?_, G8, us5 ++ [u], acc5 ++ [o], Fa5 ++ Fv, p8.2, L8.app b1 nD r8 nv, w9.growD n0 L8.gD nF' nbD, s47.trans s8.sG⟩
          rw [L8.rep.length]
          exact p8.1
theorem do_lc2 {vs1 : List Nat} (hc : X.calm = true) (hN : X.N.Nodup) (hi : DI K X tg iter Ti) (ok : BlkOk X.N X.env.scope scope own) (hv : ∀ i ∈ vs1, i ∈ own.map (·.2))
    (hg : ∀ (s : Shared) (H : Hp) (C : Addr) (cl : List (Str × Addr)) (fp : List Addr), DG K (X.blk s H scope (compEnvC scope cl C X.env) fp) tg ws g)
    (ht : ∀ (s : Shared) (H : Hp) (C : Addr) (cl : List (Str × Addr)) (fp : List Addr), DTs K (X.blk s H scope (compEnvC scope cl C X.env) fp) ifs Tt)
    (hi1 : ∀ (s : Shared) (H : Hp) (C : Addr) (cl : List (Str × Addr)) (fp : List Addr), DI K (X.blk s H scope (compEnvC scope cl C X.env) fp) tg1 iter1 Ti1)
    (hg1 : ∀ (s : Shared) (H : Hp) (C : Addr) (cl : List (Str × Addr)) (fp : List Addr), DG K (X.blk s H scope (compEnvC scope cl C X.env) fp) tg1 ws1 g1)
    (ht1 : ∀ (s : Shared) (H : Hp) (C : Addr) (cl : List (Str × Addr)) (fp : List Addr), DTs K (X.blk s H scope (compEnvC scope cl C X.env) fp) ifs1 Tt1)
    (he : ∀ (s : Shared) (H : Hp) (C : Addr) (cl : List (Str × Addr)) (fp : List Addr), DO K (X.blk s H scope (compEnvC scope cl C X.env) fp) elt To) (hw : ∀ i ∈ ws, i ∈ own.map (·.2) := by decide) (hw1 : ∀ i ∈ ws1, i ∈ vs1 := by decide)
    (hs : ∀ x, foldedSetIterable iter X.env x = pure x := by intro _; rfl) (hs1 : ∀ env x, foldedSetIterable iter1 env x = pure x := by intro _ _; rfl) :
    DO K X (.ListComp elt [⟨tg, iter, ifs, 0⟩, ⟨tg1, iter1, ifs1, 0⟩] scope pos) (lcT2 g Tt Ti1 g1 Tt1 To Ti (own.map (·.2)) vs1) :=
  ⟨PE.weak (pe_lc2 hc hN hi.pi ok hv (fun s H C cl fp => (hg s H C cl fp).pg) (fun s H C cl fp => (ht s H C cl fp).pts) (fun s H C cl fp => (hi1 s H C cl fp).pi) (fun s H C cl fp => (hg1 s H C cl fp).pg) (fun s H C cl fp => (ht1 s H C cl fp).pts) (fun s H C cl fp => (he s H C cl fp).pe) hs hs1) (lift_lc2 hw hw1)⟩
end
end DL
set_option Elab.async false
set_option linter.all false
set_option maxRecDepth 100000
set_option maxHeartbeats 1000000
/-! DL13: written dicts of data, by texts; .get with a second argument -/
namespace DL
open PySem PySem.Spec PyProof.Rows L2 GL
def keyVs (ks : List Str) (vs : List V) : List (Key × V) := (ks.zip vs).map fun p => ((Sum.inr p.1 : Key), p.2)
def liftP (K : PySem.W.Frag) (ks : List Str) (T : LT) : L2.St → Hp → (List (V × V) → Hp → Prop) → Prop := fun σ H Q => ∃ G0 H0 B G ρ F P, Wd K G0 H0 B G H σ ρ F ∧ T ρ P ∧
  ∀ ds G' H' vs, P ds → ds.length = ks.length → Stp B G H G' H' → DrAll K G' vs ds → Q ((keyVs ks vs).map fun kv => (kV kv.1, kv.2)) H'
structure DPs (K : PySem.W.Frag) (X : Cx) (pos : Pos) (keys : List (Option Expr)) (values : List Expr) (ks : List Str) (T : LT) : Prop where
  ex : ∃ trs, PPs X pos keys values trs ∧ ∀ σ H Q, liftP K ks T σ H Q → tPairs trs σ H Q
section
variable {K : PySem.W.Frag} {X : Cx} {e v : Expr} {Ta Tb Tc : DT} {Tl : LT} {pos p2 : Pos} {keys : List (Option Expr)} {values : List Expr} {ks : List Str}
theorem dps_nil : DPs K X pos [] [] [] (fun _ P => P []) := by
  refine ⟨[], pps_nil, fun σ H Q h => ?_⟩
  obtain ⟨G0, H0, B, G, ρ, F, P, w, t, k⟩ := h
  exact k [] G H [] t rfl (.refl w.sGH) .nil
theorem dps_cons {x : Str} {j} {kp : Pos} (hv : DE K X v Ta) (hr : DPs K X pos keys values ks Tl) : DPs K X pos (some (.Constant (.str x) j kp) :: keys) (v :: values) (x :: ks) (fun ρ P => Ta ρ fun d => Tl ρ fun ds => P (d :: ds)) := by
  obtain ⟨trs, h1, h2⟩ := hr.ex
  refine ⟨(tC (.str x), liftE K Ta) :: trs, pps_cons pe_str hv.pe h1, fun σ H Q h => ?_⟩
  obtain ⟨G0, H0, B, G, ρ, F, P, w, t, k⟩ := h
  refine ⟨G0, H0, B, G, ρ, F, _, w, t, fun d G1 H1 u p1 s1 r1 => h2 _ _ _ ⟨G0, H0, B, G1, ρ, F, _, w.step s1, p1, fun ds G2 H2 vs p2 l2 s2 r2 => ?_⟩⟩
  exact k (d :: ds) G2 H2 (u :: vs) p2 (by rw [List.length_cons, List.length_cons, l2]) (s1.trans s2 w.bags) (.cons (r1.same s2.sG) r2)
theorem putK_new {kvs : List (Key × V)} {k : Key} {u : V} (h : k ∉ kvs.map (·.1)) : putK kvs k u = kvs ++ [(k, u)] := by
  unfold putK
  rw [if_neg]
  intro z
  obtain ⟨q, m, e⟩ := List.any_eq_true.mp z
  exact h (List.mem_map.mpr ⟨q, m, of_decide_eq_true e⟩)
theorem merge_new : ∀ {more kvs : List (Key × V)}, ((kvs ++ more).map (·.1)).Nodup → mergeK kvs more = kvs ++ more
  | [], kvs, _ => (List.append_nil kvs).symm
  | q :: more, kvs, h => by
    show mergeK (putK kvs q.1 q.2) more = _
    have hk : q.1 ∉ kvs.map (·.1) := by
      rw [List.map_append, List.map_cons] at h
      intro m
      exact (List.nodup_append.mp h).2.2 _ m _ List.mem_cons_self rfl
    rw [putK_new hk, merge_new (by rw [List.append_assoc]; exact h), List.append_assoc]
    rfl
theorem keys_of : ∀ {ks : List Str} {vs : List V}, vs.length = ks.length → (keyVs ks vs).map (·.1) = ks.map Sum.inr ∧ (keyVs ks vs).map (·.2) = vs
  | [], [], _ => ⟨rfl, rfl⟩
  | [], _ :: _, h => nomatch h
  | _ :: _, [], h => nomatch h
  | k :: ks, u :: vs, h => by
    obtain ⟨a, b⟩ := keys_of (ks := ks) (vs := vs) (by simpa using h)
    exact ⟨congrArg ((Sum.inr k : Key) :: ·) a, congrArg (u :: ·) b⟩
theorem Stp.layAt {B : Option (Addr × Addr)} {G H G' H' : Hp} {p : Addr} {o : HO} (s : Stp B G H G' H') (b1 : ∀ b, B = some b → BagAt G H b) (e : Same G H) (np : H p = none) (gp : G' p = none) : Stp B G H (upd G' p o) (upd H' p o) where
  keep a u h n := by
    rw [upd_ne (ne_of_none h np)]
    exact s.keep a u h n
  sG a u h := by
    rw [upd_ne (ne_of_none (e _ _ h) np)]
    exact s.sG a u h
  sGH a u h := by
    by_cases z : a = p
    · subst z
      rw [upd_same] at h ⊢
      exact h
    · rw [upd_ne z] at h ⊢
      exact s.sGH a u h
  fr a h := by
    by_cases z : a = p
    · subst z
      exact .inr np
    · rw [upd_ne z] at h
      exact s.fr a h
  bag b eb h := by
    obtain ⟨g, s0, i, ns, q1, q2, q3⟩ := s.bag b eb h
    obtain ⟨_, _, _, _, h1, h2, _⟩ := h
    have n1 : b.1 ≠ p := ne_of_none h1 np
    have n2 : b.2 ≠ p := ne_of_none (e _ _ h2) np
    exact ⟨g, s0, i, ns, by rw [upd_ne n1]; exact q1, by rw [upd_ne n2]; exact q2, q3⟩
/-- {"k": v, ..} as data -/
theorem de_dict (hp : DPs K X pos keys values ks Tl) (hd : (ks.map (Sum.inr : Str → Key)).Nodup) (hn : ks.length ≤ 15) (hall : keys.all (·.isSome) = true := by rfl) (hl : keys.length = values.length := by rfl) (h0 : keys ≠ [] := by nofun) (h15 : keys.length ≤ 15 := by decide) :
    DE K X (.Dict keys values pos) (fun ρ P => Tl ρ fun ds => P (.dict ((ks.map .str).zip ds))) := by
  obtain ⟨trs, h1, h2⟩ := hp.ex
  refine ⟨PE.weak (pe_disp h1 hall hl h0 h15) fun σ H Q h => ?_⟩
  obtain ⟨G0, H0, B, G, ρ, F, P, w, t, k⟩ := h
  intro p np
  have s0 := Stp.new (B := B) (o := .dK []) w.sGH np
  refine h2 _ _ _ ⟨G0, H0, B, G, ρ, F, _, w.step s0, t, fun ds G2 H2 vs q l s r => ?_⟩
  have s2 := s0.trans s w.bags
  have lv : vs.length = ks.length := by rw [r.length, l]
  obtain ⟨e1, e2⟩ := keys_of lv
  refine ⟨s.keep _ _ upd_same (notB_new w.bags np), keyVs ks vs, rfl, ?_, ?_⟩
  · unfold keyVs
    rw [List.length_map, List.length_zip]
    omega
  · rw [merge_new (by rw [List.nil_append, e1]; exact hd), List.nil_append]
    have gp : G2 p = none := s.g_none ((Stp.refl (B := B) w.sGH).gnone np) (by rw [upd_same]; exact nofun)
    refine k _ (upd G2 p (.dK (keyVs ks vs))) _ _ q (s2.layAt w.bags w.sGH np gp) ?_
    have hk : (keyVs ks vs).map (fun p => kD p.1) = ks.map .str := by
      have e3 : (keyVs ks vs).map (fun p => kD p.1) = ((keyVs ks vs).map (·.1)).map kD := by rw [List.map_map]; rfl
      rw [e3, e1, List.map_map]
      rfl
    rw [← hk]
    refine .dct upd_same ?_
    rw [e2]
    exact r.same fun a u h => by
      have : a ≠ p := fun z => by rw [z, gp] at h; cases h
      rw [upd_ne this]
      exact h
theorem valV_n {G : Hp} {x : Str} : ∀ {kvs : List (Key × V)} {ds : List PyData}, DrAll K G (kvs.map (·.2)) ds → dictD ((kvs.map fun p => kD p.1).zip ds) x = none → valV kvs (.inr x) = none
  | [], _, _, _ => rfl
  | (.inl i, u) :: kvs, _, h, e => by
    cases h with
    | @cons _ _ d1 ds h1 h2 =>
      rw [valV_neg (k := (.inr x : Key)) (p := (.inl i, u)) (fun z : (Sum.inl i : Key) = Sum.inr x => nomatch z)]
      exact valV_n h2 (show dictD ((kvs.map fun p => kD p.1).zip ds) x = none from e)
  | (.inr y, u) :: kvs, _, h, e => by
    cases h with
    | @cons _ _ d1 ds h1 h2 =>
      have e' : (if y = x then some d1 else dictD ((kvs.map fun p => kD p.1).zip ds) x) = none := e
      by_cases q : y = x
      · rw [if_pos q] at e'
        cases e'
      · rw [if_neg q] at e'
        rw [valV_neg (k := (.inr x : Key)) (p := (.inr y, u)) (fun z : (Sum.inr y : Key) = Sum.inr x => q (by injection z))]
        exact valV_n h2 e'
/-- d.get(k, e) of a dict that is data, k a text -/
theorem de_get2 {o i f : Expr} {apos cpos : Pos} (hu : X.A.units + 64 < cLine) (ho : DE K X o Ta) (hi : DE K X i Tb) (hf : DE K X f Tc) (m : M2 X o "get" apos i f cpos := by exact ⟨rfl, rfl, rfl, rfl⟩) :
    DE K X (.Call (.Attribute o "get" apos) [i, f] [] cpos) (fun ρ P => Ta ρ fun d => ∃ kvs, d = .dict kvs ∧ tyOf (.dict kvs) = "dict" ∧ Tb ρ fun z => ∃ x, z = .str x ∧ Tc ρ fun e => P ((dictD kvs x).getD e)) := by
  refine ⟨PE.weak (pe_dget2 (by omega) ho.pe hi.pe hf.pe m) fun σ H Q h => ?_⟩
  obtain ⟨G0, H0, B, G, ρ, F, P, w, t, k⟩ := h
  refine ⟨G0, H0, B, G, ρ, F, _, w, t, fun d G1 H1 v p1 s1 r1 => ?_⟩
  obtain ⟨kvs, rfl, ty, p1⟩ := p1
  cases r1 with
  | ins _ _ _ _ => simp [tyOf] at ty
  | @dct a kv ds h1 h2 =>
    refine ⟨a, rfl, .inl ⟨kv, .inl (s1.sGH _ _ h1)⟩, G0, H0, B, G1, ρ, F, _, w.step s1, p1, fun z G2 H2 u p2 s2 r2 => ?_⟩
    obtain ⟨x, rfl, p2⟩ := p2
    cases r2
    have s12 := s1.trans s2 w.bags
    refine ⟨G0, H0, B, G2, ρ, F, _, w.step s12, p2, fun e G3 H3 y p3 s3 r3 => ?_⟩
    have s13 := s12.trans s3 w.bags
    have hH : H3 a = some (.dK kv) := s3.sGH _ _ (s3.sG _ _ (s2.sG _ _ h1))
    have h23 : DrAll K G3 (kv.map (·.2)) ds := (h2.same s2.sG).same s3.sG
    cases q : dictD ((kv.map fun p => kD p.1).zip ds) x with
    | none =>
      rw [q] at p3
      exact ⟨none, .inl ⟨kv, .inr x, .inl hH, rfl, (valV_n h23 q).symm⟩, k _ G3 H3 _ p3 s13 r3⟩
    | some d' =>
      rw [q] at p3
      obtain ⟨v', h4, h5⟩ := valV_d h23 q
      exact ⟨some v', .inl ⟨kv, .inr x, .inl hH, rfl, h4.symm⟩, k _ G3 H3 _ p3 s13 h5⟩
end
end DL
set_option Elab.async false
set_option linter.all false
set_option maxRecDepth 100000
set_option maxHeartbeats 1000000
/-! DW: data with ints of up to 48 signs -/
namespace DL
open PySem PySem.Spec PyProof.Rows L2 GL
structure DOw (d : PyData) : Prop where
  lay : d.canLay0 = true
  short : d.leavesShort 48 = true
  weighs : d.weight ≤ 100000
  deep : d.depth ≤ 60
  shows : d.showable = true
theorem DOw.fits {d : PyData} (h : DOw d) : d.shown.length ≤ sizeLine := by
  have k := PyData.shown_le 48 (by decide) d h.short
  have k2 := h.weighs
  rw [sizeLine_eq]
  omega
theorem DOw.nodict {d : PyData} (h : DOw d) : d.hasDict = false := PyData.hasDict_of_canLay d h.lay
theorem DOw.shaped {d : PyData} (h : DOw d) : SeqAt.shaped d = true := by
  unfold SeqAt.shaped
  rw [h.lay, Bool.true_and]
  exact decide_eq_true (Nat.le_trans h.deep (by decide))
theorem short_allW : ∀ {ds : List PyData}, PyData.leavesShortAll 48 ds = true → ∀ x ∈ ds, x.leavesShort 48 = true
  | [], _, _, m => nomatch m
  | d :: ds, h, x, m => by
    simp only [PyData.leavesShortAll, Bool.and_eq_true] at h
    rcases List.mem_cons.mp m with rfl | m
    · exact h.1
    · exact short_allW h.2 x m
theorem dow_parts {ds : List PyData} (h1 : PyData.canLayAll0 ds = true) (h2 : PyData.leavesShortAll 48 ds = true) (h3 : PyData.weightAll ds ≤ 100000) (h4 : PyData.depthAll ds + 1 ≤ 60) (h5 : PyData.showableAll ds = true) : ∀ x ∈ ds, DOw x := fun x m =>
  ⟨lay_all h1 x m, short_allW h2 x m, by have := wt_all.2 x m; omega, by have := dp_all x m; omega, show_all h5 x m⟩
theorem DOw.tup {ds : List PyData} (h : DOw (.tuple ds)) : ∀ x ∈ ds, DOw x := by
  obtain ⟨h1, h2, h3, h4, h5⟩ := h
  simp only [PyData.canLay0, PyData.leavesShort, PyData.weight, PyData.depth, PyData.showable] at h1 h2 h3 h4 h5
  exact dow_parts h1 h2 h3 h4 h5
theorem DOw.lst {ds : List PyData} (h : DOw (.list ds)) : ∀ x ∈ ds, DOw x := by
  obtain ⟨h1, h2, h3, h4, h5⟩ := h
  simp only [PyData.canLay0, PyData.leavesShort, PyData.weight, PyData.depth, PyData.showable] at h1 h2 h3 h4 h5
  exact dow_parts h1 h2 h3 h4 h5
theorem DOw.tupLen {ds : List PyData} (h : DOw (.tuple ds)) : ds.length ≤ 100000 := by
  have h3 := h.weighs
  simp only [PyData.weight] at h3
  have := (wt_all (ds := ds)).1
  omega
theorem DOw.lstLen {ds : List PyData} (h : DOw (.list ds)) : ds.length ≤ 100000 := by
  have h3 := h.weighs
  simp only [PyData.weight] at h3
  have := (wt_all (ds := ds)).1
  omega
theorem DOw.strLen {z : Str} (h : DOw (.str z)) : z.length ≤ 100000 := by
  have h3 := h.weighs
  simp only [PyData.weight] at h3
  exact h3
theorem DOw.toShort {z : Str} (h : DOw (.str z)) : DOk (.str z) := ⟨h.lay, by have := h.short; simpa only [PyData.leavesShort] using this, h.weighs, h.deep, h.shows⟩
theorem dow_bool (b : Bool) : DOw (.bool b) := ⟨rfl, by cases b <;> decide +kernel, by cases b <;> decide +kernel, by cases b <;> decide +kernel, rfl⟩
theorem dow_all {ds : List PyData} {n m : Nat} (h : ∀ x ∈ ds, DOw x ∧ x.weight ≤ n ∧ x.depth ≤ m) (hm : m < 60) (hn : ds.length * (n + 1) ≤ 100000) : DOw (.list ds) ∧ DOw (.tuple ds) ∧ PyData.weightAll ds ≤ ds.length * (n + 1) ∧ PyData.depthAll ds ≤ m := by
  have e : PyData.canLayAll0 ds = true ∧ PyData.leavesShortAll 48 ds = true ∧ PyData.showableAll ds = true ∧ PyData.weightAll ds ≤ ds.length * (n + 1) ∧ PyData.depthAll ds ≤ m := by
    clear hn
    induction ds with
    | nil => exact ⟨rfl, rfl, rfl, by simp [PyData.weightAll], by simp [PyData.depthAll]⟩
    | cons d ds ih =>
      obtain ⟨h1, h2, h3, h4, h5⟩ := ih fun x m => h x (List.mem_cons_of_mem _ m)
      obtain ⟨g1, g2, g3⟩ := h d List.mem_cons_self
      simp only [PyData.canLayAll0, PyData.leavesShortAll, PyData.showableAll, PyData.weightAll, PyData.depthAll, List.length_cons, Nat.succ_mul, g1.lay, g1.short, g1.shows, h1, h2, h3, Bool.and_self, true_and]
      omega
  obtain ⟨h1, h2, h3, h4, h5⟩ := e
  refine ⟨⟨by simp only [PyData.canLay0]; exact h1, by simp only [PyData.leavesShort]; exact h2, by simp only [PyData.weight]; omega, by simp only [PyData.depth]; omega, by simp only [PyData.showable]; exact h3⟩,
    ⟨by simp only [PyData.canLay0]; exact h1, by simp only [PyData.leavesShort]; exact h2, by simp only [PyData.weight]; omega, by simp only [PyData.depth]; omega, by simp only [PyData.showable]; exact h3⟩, h4, h5⟩
theorem dow_hd {ds : List PyData} (h : ∀ d ∈ ds, DOw d) : PyData.hasDictAll ds = false ∧ PyData.canLayAll0 ds = true ∧ PyData.depthAll ds ≤ 60 := by
  induction ds with
  | nil => exact ⟨rfl, rfl, by simp [PyData.depthAll]⟩
  | cons d ds ih =>
    obtain ⟨h1, h2, h3⟩ := ih fun x m => h x (List.mem_cons_of_mem _ m)
    have g := h d List.mem_cons_self
    have := g.deep
    refine ⟨?_, ?_, ?_⟩
    · simp only [PyData.hasDictAll, g.nodict, h1, Bool.or_false]
    · simp only [PyData.canLayAll0, g.lay, h2, Bool.and_self]
    · simp only [PyData.depthAll]
      omega
theorem eqR_nilW {ds : List PyData} {P : PyData → Prop} (h : ∀ d ∈ ds, DOw d) (p : P (.bool (decide (ds = [])))) : eqR false (.list ds) (.list []) P := by
  obtain ⟨h1, h2, h3⟩ := dow_hd h
  refine eqR_dat (by simp only [PyData.hasDict]; exact h1) rfl ?_ (by decide +kernel) ?_
  · unfold SeqAt.shaped
    simp only [PyData.canLay0, h2, Bool.true_and, PyData.depth]
    exact decide_eq_true (Nat.le_trans (Nat.succ_le_succ h3) (by decide))
  · cases ds <;> exact p
end DL
set_option Elab.async false
set_option linter.all false
set_option maxRecDepth 100000
set_option maxHeartbeats 1000000
/-! OB: objects of own classes as data: their fields, their methods, how they are made -/
namespace GL
open PySem PySem.Spec PyProof.Rows L2
theorem Gd.made {A : Around} (g : Gd A) (C : Addr) (us : List Value) : Gd (A.under (.builtin "type.__call__" ⟨.ref C :: us, []⟩)) := by
  unfold Gd at *
  have e : (Code.builtin "type.__call__" ⟨.ref C :: us, []⟩).isGuard = false := by
    first | rfl | decide | simp [Code.isGuard, guardIds]
  simp [Around.under, g, Code.guards, e, pushGuards]
section
variable {X : Cx} {k : Nat} {f C : Addr} {fd : FuncData} {ps : List Str} {sp : Sp} {x m : Str} {p pos apos : Pos} {e o : Expr} {es : List Expr} {ta : TE} {t : TA}
/-- the callee runs where nothing is being shown around -/
theorem run_fnG {pins : List (Addr × Obj)} {σ : L2.St} {H : Hp} {s : Shared} {Q : VK} {us : List Value} {vs : List V} (F : FnG X.prog X.w X.K X.mg X.base k f fd ps sp) (hG : Gd X.A) (hr : Room k X.A) (hb : Binds X.K fd ps [])
    (I : Inv X pins σ H s) (r : Vals vs us) (h : sp vs H Q E0) : wpAny (model X.prog X.w) X.A (call (.ref f) us) (EP X pins σ Q) X.xe s := by
  have hl : (us ++ []).length = ps.length := by
    rw [List.append_nil, ← r.length]
    exact F.many _ _ _ _ h
  have hbd := hb s us I.kIn hl
  rw [List.append_nil] at hbd
  apply wpAny_call
  apply codeAny_mono (F.does X.A X.stack s H ⟨us, []⟩ us vs Q E0 hG hr I.env0 hbd r h)
  intro res s' hq
  match res, hq with
  | .ok (.ret u), hq => exact I.after hq
/-- o.m(e, ..) -/
theorem pe_methG {pl : Sem Bool} (he : PE X o ta) (c : Cls X.K C) (hm : Meth X.K C m f) (F : FnG X.prog X.w X.K X.mg X.base k f fd ps sp) (hG : Gd X.A) (hr : Room k X.A) (hb : Binds X.K fd ps []) (ha : PA X (e :: es) t)
    (hst : starEach (e :: es) X.env = (false, eval e X.env) :: starEach es X.env := by rfl) (hpl : (backTo pos (starEach es X.env)).any (·.1) = false := by rfl)
    (ht : eval (.Call (.Attribute o m apos) (e :: es) [] pos) X.env = (do
      let ov ← eval o X.env
      standAt apos.atName
      let (f, first) ← holding [ov] (getMethod ov m pl)
      callWith pos f first (backTo pos (starEach (e :: es) X.env)) (backToKw pos (keywordEach [] X.env))) := by rfl) :
    PE X (.Call (.Attribute o m apos) (e :: es) [] pos) (fun σ H Q => ta σ H fun x H1 => ∃ a dx fs, x = .ref a ∧ H1 a = some (.ins C dx fs) ∧ fs.lookup m = none ∧ t σ H1 fun vs H2 => sp (x :: vs) H2 Q E0) := by
  refine ⟨fun pins s σ H Q I h => ?_⟩
  refine PySem.W.methodCall_KW (pl := pl) (thn (he.run pins s σ H _ I h) fun u s1 ⟨x, H1, I1, rx, a, dx, fs, ex, ea, l, q⟩ => ?_) ht
  subst ex
  obtain rfl : u = Value.ref a := rx
  refine getmeth_ok I1 ea c hm l ?_
  refine PySem.W.callWith_K (first := [.ref a]) (h₀ := X.base) I.ok.mod.kin hm.kp (thn (ha.run pos pins s1 σ H1 _ I1 q) fun us s2 ⟨vs, H2, I2, r, q2⟩ => ⟨I2.kIn, ?_⟩) hst hpl
  exact run_fnG (us := .ref a :: us) (vs := .ref a :: vs) F hG hr hb I2 (.cons rfl r) q2
/-- o.m() -/
theorem pe_methG0 {pl : Sem Bool} (he : PE X o ta) (c : Cls X.K C) (hm : Meth X.K C m f) (F : FnG X.prog X.w X.K X.mg X.base k f fd ps sp) (hG : Gd X.A) (hr : Room k X.A) (hb : Binds X.K fd ps [])
    (ht : eval (.Call (.Attribute o m apos) [] [] pos) X.env = (do
      let ov ← eval o X.env
      standAt apos.atName
      let (f, first) ← holding [ov] (getMethod ov m pl)
      callWith pos f first (backTo pos (starEach [] X.env)) (backToKw pos (keywordEach [] X.env))) := by rfl) :
    PE X (.Call (.Attribute o m apos) [] [] pos) (fun σ H Q => ta σ H fun x H1 => ∃ a dx fs, x = .ref a ∧ H1 a = some (.ins C dx fs) ∧ fs.lookup m = none ∧ sp [x] H1 Q E0) := by
  refine ⟨fun pins s σ H Q I h => ?_⟩
  refine PySem.W.methodCall_KW (pl := pl) (thn (he.run pins s σ H _ I h) fun u s1 ⟨x, H1, I1, rx, a, dx, fs, ex, ea, l, q⟩ => ?_) ht
  subst ex
  obtain rfl : u = Value.ref a := rx
  refine getmeth_ok I1 ea c hm l ?_
  exact PySem.W.callWith_K0 (first := [.ref a]) I1.kIn hm.kp (run_fnG (us := [.ref a]) (vs := [.ref a]) F hG hr hb I1 (.cons rfl .nil) q)
theorem run_makeG {pins : List (Addr × Obj)} {σ : L2.St} {H : Hp} {s : Shared} {Q : VK} {us : List Value} {vs : List V} (M : Mk X.K C f) (F : FnG X.prog X.w X.K X.mg X.base k f fd ps sp) (hG : Gd X.A) (hr : Room (k + 1) X.A) (hb : Binds X.K fd ps [])
    (I : Inv X pins σ H s) (r : Vals vs us)
    (h : ∀ x dx, H x = none → H dx = none → dx ≠ x → sp (.ref x :: vs) (upd (upd H dx (.own x)) x (.ins C dx [])) (fun v H2 => v = .non ∧ Q (.ref x) H2) E0) :
    wpAny (model X.prog X.w) X.A (call (.ref C) us) (EP X pins σ Q) X.xe s := by
  have hq := h (s.heap.objs.size + 1) s.heap.objs.size (I.hok.fresh (Nat.le_succ _)) (I.hok.fresh (Nat.le_refl _)) (Nat.ne_of_lt (Nat.lt_succ_self _))
  have I2 := Inv.made (C := C) I
  have r2 : Vals (V.ref (s.heap.objs.size + 1) :: vs) (Value.ref (s.heap.objs.size + 1) :: us) := .cons rfl r
  have hl : (Value.ref (s.heap.objs.size + 1) :: us ++ []).length = ps.length := by
    rw [List.append_nil, ← r2.length]
    exact F.many _ _ _ _ hq
  have hbd := hb { s with heap := (s.heap.push PySem.W.emptyDict).push (PySem.W.instObj C s.heap.objs.size) } (Value.ref (s.heap.objs.size + 1) :: us) I2.kIn hl
  rw [List.append_nil] at hbd
  refine wpAny_call (make_map (f := f) I.kIn M.makes M.init (beq_iff_eq.mp M.fn) (codeAny_mono (F.does _ X.stack _ _ ⟨Value.ref (s.heap.objs.size + 1) :: us, []⟩ (Value.ref (s.heap.objs.size + 1) :: us) _ _ E0 (hG.made _ _) (hr.make C us [])
    (I2.env0.make C us []) hbd r2 hq) fun r s' hq' => ?_))
  match r, hq' with
  | .ok (.ret u), hq' =>
    obtain ⟨v, H', I3, rv, ev, q3⟩ := I2.after hq'
    subst ev
    exact ⟨rv, ⟨V.ref (s.heap.objs.size + 1), H', I3, rfl, q3⟩⟩
/-- C(e, ..) -/
theorem pe_makeG (M : Mk X.K C f) (F : FnG X.prog X.w X.K X.mg X.base k f fd ps sp) (hG : Gd X.A) (hr : Room (k + 1) X.A) (hg : Gl X x) (hm : X.mg x = some (.ref C)) (hb : Binds X.K fd ps [])
    (ha : PA X (e :: es) t) (hdb : (x == ("__debug__" : Str)) = false := by decide) (he : starEach (e :: es) X.env = (false, eval e X.env) :: starEach es X.env := by rfl) (hpl : (backTo pos (starEach es X.env)).any (·.1) = false := by rfl) :
    PE X (.Call (.Name x p) (e :: es) [] pos) (fun σ H Q => t σ H fun vs H1 => ∀ x dx, H1 x = none → H1 dx = none → dx ≠ x →
      sp (.ref x :: vs) (upd (upd H1 dx (.own x)) x (.ins C dx [])) (fun v H2 => v = .non ∧ Q (.ref x) H2) E0) := by
  refine ⟨fun pins s σ H Q I h => ?_⟩
  refine wpAny_Call_Name_kw (ld_glob I hg hm ?_ hdb)
  refine PySem.W.callWith_K (h₀ := X.base) I.ok.mod.kin M.kp (thn (ha.run pos pins s σ H _ I h) fun us s1 ⟨vs, H1, I1, r, q⟩ => ⟨I1.kIn, ?_⟩) he hpl
  exact run_makeG M F hG hr hb I1 r q
end
end GL
namespace DL
open PySem PySem.Spec PyProof.Rows L2 GL
section
variable {K : PySem.W.Frag} {G H : Hp} {f : Str}
theorem lk_some : ∀ {vs : List (Str × V)} {fs : List (Str × PyData)} {d : PyData}, vs.map (·.1) = fs.map (·.1) → DrAll K G (vs.map (·.2)) (fs.map (·.2)) → fs.lookup f = some d → ∃ v, vs.lookup f = some v ∧ Dr K G v d
  | [], [], _, _, _, h => by cases h
  | [], _ :: _, _, e, _, _ => by cases e
  | _ :: _, [], _, e, _, _ => by cases e
  | (g, u) :: vs, (g', d') :: fs, d, e, r, h => by
    rw [List.map_cons, List.map_cons, List.cons.injEq] at e
    have eg : g = g' := e.1
    subst eg
    rw [List.map_cons, List.map_cons] at r
    cases r with
    | cons r1 r2 =>
      rw [List.lookup_cons] at h ⊢
      cases q : f == g with
      | true =>
        rw [q] at h
        cases h
        exact ⟨u, rfl, r1⟩
      | false =>
        rw [q] at h
        exact lk_some e.2 r2 h
theorem lk_none : ∀ {vs : List (Str × V)} {fs : List (Str × PyData)}, vs.map (·.1) = fs.map (·.1) → fs.lookup f = none → vs.lookup f = none
  | [], _, _, _ => rfl
  | _ :: _, [], e, _ => by cases e
  | (g, u) :: vs, (g', d') :: fs, e, h => by
    rw [List.map_cons, List.map_cons, List.cons.injEq] at e
    have eg : g = g' := e.1
    subst eg
    rw [List.lookup_cons] at h ⊢
    cases q : f == g with
    | true =>
      rw [q] at h
      cases h
    | false =>
      rw [q] at h
      exact lk_none e.2 h
/-- a field put -/
def putD (f : Str) (d : PyData) : List (Str × PyData) → List (Str × PyData)
  | [] => [(f, d)]
  | (g, x) :: r => if g = f then (g, d) :: r else (g, x) :: putD f d r
theorem putD_ok {v : V} {d : PyData} (hv : Dr K G v d) : ∀ {vs : List (Str × V)} {fs : List (Str × PyData)}, vs.map (·.1) = fs.map (·.1) → DrAll K G (vs.map (·.2)) (fs.map (·.2)) →
    (putF f v vs).map (·.1) = (putD f d fs).map (·.1) ∧ DrAll K G ((putF f v vs).map (·.2)) ((putD f d fs).map (·.2))
  | [], [], _, _ => ⟨rfl, .cons hv .nil⟩
  | [], _ :: _, e, _ => by cases e
  | _ :: _, [], e, _ => by cases e
  | (g, u) :: vs, (g', d') :: fs, e, r => by
    rw [List.map_cons, List.map_cons, List.cons.injEq] at e
    have eg : g = g' := e.1
    subst eg
    rw [List.map_cons, List.map_cons] at r
    cases r with
    | cons r1 r2 =>
      unfold putF putD
      by_cases q : g = f
      · rw [if_pos q, if_pos q]
        exact ⟨by rw [List.map_cons, List.map_cons, e.2], .cons hv r2⟩
      · rw [if_neg q, if_neg q]
        obtain ⟨h1, h2⟩ := putD_ok hv e.2 r2
        exact ⟨by rw [List.map_cons, List.map_cons, h1], .cons r1 h2⟩
end
section
variable {K : PySem.W.Frag} {X : Cx} {e o : Expr} {es : List Expr} {f m : Str} {C : Addr} {Ta Tb : DT} {To : OT} {pos apos p pos' : Pos}
/-- e.f of an object that is data -/
theorem de_fld (e1 : X.K = K) (n : NoAttr K C f) (h : DE K X e Ta) (hb : attributeBase e f X.env (eval e X.env) = eval e X.env := by rfl) :
    DE K X (.Attribute e f pos) (fun ρ P => Ta ρ fun d => ∃ fs d', d = obD C fs ∧ fs.lookup f = some d' ∧ P d') := by
  subst e1
  refine ⟨PE.weak (pe_fld h.pe hb) fun σ H Q h => ?_⟩
  obtain ⟨G0, H0, B, G, ρ, F, P, w, t, k⟩ := h
  refine ⟨G0, H0, B, G, ρ, F, _, w, t, fun d G' H' v p s r => ?_⟩
  obtain ⟨fs, d', rfl, l, p⟩ := p
  obtain ⟨a, dx, vs, rfl, c, h1, h2, en, h3⟩ := r.ob
  obtain ⟨v, l2, rv⟩ := lk_some en h3 l
  exact ⟨a, C, dx, vs, v, rfl, s.sGH _ _ h1, c.cl, n, l2, k _ G' H' _ p s rv⟩
/-- x.f of an object of one's own -/
theorem de_fldO {i : Nat} (e1 : X.K = K) (n : NoAttr K C f) (h : PE X e (tVar i)) (hb : attributeBase e f X.env (eval e X.env) = eval e X.env := by rfl) :
    DE K X (.Attribute e f pos) (fun ρ P => ∃ a fs d', ρ[i]? = some (some (.o a C fs)) ∧ fs.lookup f = some d' ∧ P d') := by
  subst e1
  refine ⟨PE.weak (pe_fld h hb) fun σ H Q h => ?_⟩
  obtain ⟨G0, H0, B, G, ρ, F, P, w, ⟨a, fs, d', e1, l, p⟩, k⟩ := h
  obtain ⟨v, F1, e2, r, _⟩ := w.env.get e1
  cases r with
  | o r =>
    cases r with
    | mk ob _ _ _ =>
      obtain ⟨c, h1, h2, en, h3⟩ := ob
      obtain ⟨v, l2, rv⟩ := lk_some en h3 l
      exact ⟨_, e2, _, _, _, _, v, rfl, h1, c.cl, n, l2, k _ G H _ p (.refl w.sGH) rv⟩
/-- a method that may be called -/
structure MtG (P : Program) (w : World) (K : PySem.W.Frag) (mg : Str → Option Value) (base : Heap) (k : Nat) (C : Addr) (m : Str) (sp : Sp) : Prop where
  ex : ∃ (f : Addr) (fd : FuncData) (ps : List Str), FnG P w K mg base k f fd ps sp ∧ Meth K C m f ∧ Binds K fd ps []
/-- o.m(e, ..) -/
theorem do_meth {j k : Nat} {S : DSp} {T : Env' → (List En → Prop) → Prop} {pl : Sem Bool} (e1 : X.K = K) (c : Cls K C) (M : MtG X.prog X.w X.K X.mg X.base k C m (spF K S)) (hG : Gd X.A) (hr : Room j X.A) (hk : k ≤ j) (ho : DE K X o Ta)
    (ha : DR K X (e :: es) T) (hst : starEach (e :: es) X.env = (false, eval e X.env) :: starEach es X.env := by rfl) (hpl : (backTo pos (starEach es X.env)).any (·.1) = false := by rfl)
    (ht : eval (.Call (.Attribute o m apos) (e :: es) [] pos) X.env = (do
      let ov ← eval o X.env
      standAt apos.atName
      let (f, first) ← holding [ov] (getMethod ov m pl)
      callWith pos f first (backTo pos (starEach (e :: es) X.env)) (backToKw pos (keywordEach [] X.env))) := by rfl) :
    DO K X (.Call (.Attribute o m apos) (e :: es) [] pos) (fun ρ P => Ta ρ fun d => ∃ fs, d = obD C fs ∧ fs.lookup m = none ∧ T ρ fun as => S (.d d :: as) P) := by
  subst e1
  obtain ⟨f, fd, ps, F, hm, b⟩ := M.ex
  refine ⟨PE.weak (pe_methG ho.pe c hm F hG (hr.mono hk) b ha.pa hst hpl ht) fun σ H Q h => ?_⟩
  obtain ⟨G0, H0, B, G, ρ, F, P, w, t, k⟩ := h
  refine ⟨G0, H0, B, G, ρ, F, _, w, t, fun d G1 H1 v p1 s1 r1 => ?_⟩
  obtain ⟨fs, rfl, l, p1⟩ := p1
  obtain ⟨a, dx, vs, rfl, c, h1, h2, en, h3⟩ := r1.ob
  refine ⟨a, dx, vs, rfl, s1.sGH _ _ h1, lk_none en l, G0, H0, B, G1, ρ, F, _, w.step s1, p1, fun as G2 H2 ws p2 s2 r2 => ?_⟩
  have s12 := s1.trans s2 w.bags
  have w' := w.step s12
  exact ⟨B, G2, _, P, s2.sGH, fun b e => ⟨(w'.bag b e).1, (w'.bag b e).2.1⟩, .d (r1.same s2.sG) r2, p2, fun o G3 H3 v Fv p3 s3 r3 n3 => k o G3 H3 v Fv p3 (s12.trans s3 w.bags) r3 fun a m => s12.none_back w.bags (n3 a m)⟩
/-- o.m() -/
theorem do_meth0 {j k : Nat} {S : DSp} {pl : Sem Bool} (e1 : X.K = K) (c : Cls K C) (M : MtG X.prog X.w X.K X.mg X.base k C m (spF K S)) (hG : Gd X.A) (hr : Room j X.A) (hk : k ≤ j) (ho : DE K X o Ta)
    (ht : eval (.Call (.Attribute o m apos) [] [] pos) X.env = (do
      let ov ← eval o X.env
      standAt apos.atName
      let (f, first) ← holding [ov] (getMethod ov m pl)
      callWith pos f first (backTo pos (starEach [] X.env)) (backToKw pos (keywordEach [] X.env))) := by rfl) :
    DO K X (.Call (.Attribute o m apos) [] [] pos) (fun ρ P => Ta ρ fun d => ∃ fs, d = obD C fs ∧ fs.lookup m = none ∧ S [.d d] P) := by
  subst e1
  obtain ⟨f, fd, ps, F, hm, b⟩ := M.ex
  refine ⟨PE.weak (pe_methG0 ho.pe c hm F hG (hr.mono hk) b ht) fun σ H Q h => ?_⟩
  obtain ⟨G0, H0, B, G, ρ, F, P, w, t, k⟩ := h
  refine ⟨G0, H0, B, G, ρ, F, _, w, t, fun d G1 H1 v p1 s1 r1 => ?_⟩
  obtain ⟨fs, rfl, l, p1⟩ := p1
  obtain ⟨a, dx, vs, rfl, c, h1, h2, en, h3⟩ := r1.ob
  have w' := w.step s1
  exact ⟨a, dx, vs, rfl, s1.sGH _ _ h1, lk_none en l, B, G1, _, P, s1.sGH, fun b e => ⟨(w'.bag b e).1, (w'.bag b e).2.1⟩, .d r1 .nil, p1, fun o G3 H3 v Fv p3 s3 r3 n3 => k o G3 H3 v Fv p3 (s1.trans s3 w.bags) r3 fun a m => s1.none_back w.bags (n3 a m)⟩
end
end DL
set_option Elab.async false
set_option linter.all false
set_option maxRecDepth 100000
set_option maxHeartbeats 1000000
/-! OB2: objects of own classes: how they are made, their fields put, isinstance -/
namespace DL
open PySem PySem.Spec PyProof.Rows L2 GL
theorem RepB.ex {K : PySem.W.Frag} {G H : Hp} {a C : Addr} {fs : List (Str × PyData)} {F : List Addr} (h : RepB K G H a C fs F) : ∃ dx vs, F = [a, dx] ∧ ObAt K G H a C dx vs fs ∧ G a = none ∧ G dx = none ∧ a ≠ dx := by
  cases h with
  | mk h1 h2 h3 h4 => exact ⟨_, _, rfl, h1, h2, h3, h4⟩
section
variable {K : PySem.W.Frag} {X : Cx} {e o : Expr} {es : List Expr} {f m : Str} {C : Addr} {Ta Tb : DT} {To : OT} {pos apos p pos' : Pos}
/-- x.f = e, x an object of one's own -/
theorem ds_fld {i : Nat} (e1 : X.K = K) (n : NoAttr K C f) (ho : PE X o (tVar i)) (h : DE K X e Ta) (hs : swapsWith e (some (.Attribute o f pos')) pos.line X.env = pure false := by rfl) :
    DS K X (.Assign [.Attribute o f pos'] e pos) (fun P ρ => Ta ρ fun d => ∃ a fs, ρ[i]? = some (some (.o a C fs)) ∧ fs.length < 1000 ∧ P.nx (ρ.set i (some (.o a C (putD f d fs))))) := by
  subst e1
  refine ⟨PS.weak (ps_fld ho h.pe hs) fun D σ H h => ?_⟩
  obtain ⟨G0, H0, B, G, ρ, F, P, w, t, k, _⟩ := h
  refine ⟨G0, H0, B, G, ρ, F, _, w, t, fun d G' H' v p s r => ?_⟩
  obtain ⟨a, fs, e2, hl, p⟩ := p
  have w' := w.step s
  obtain ⟨u, F1, e3, rn, sub, go⟩ := w'.env.change e2
  cases rn with
  | o rb =>
    obtain ⟨dx, vs, eF, ob, g1, g2, ne⟩ := rb.ex
    subst eF
    obtain ⟨c, h1, h2, en, h3⟩ := ob
    have hlen : vs.length = fs.length := by
      have := congrArg List.length en
      simpa using this
    obtain ⟨q1, q2⟩ := putD_ok (f := f) r en h3
    have n0 : H0 a = none := w'.own a (sub a (by simp))
    have oth : ∀ {x : Addr}, x ≠ a → ∀ u, H' x = some u → upd H' a (.ins C dx (putF f v vs)) x = some u := fun hx u z => by rw [upd_ne hx]; exact z
    obtain ⟨F', env', cc⟩ := go G' (upd H' a (.ins C dx (putF f v vs))) (.o a C (putD f d fs)) [a, dx] (Same.refl _)
      (fun x m z => ⟨(w'.env.dom x m).1, oth fun y => z (by rw [y]; simp)⟩)
      (.o (.mk ⟨c, upd_same, by rw [upd_ne (Ne.symm ne)]; exact h2, q1, q2⟩ g1 g2 ne)) (fun _ m => .inl m)
    refine ⟨_, e3, a, C, dx, vs, rfl, h1, c.cl, n, by omega, k _ _ G' _ F' p ⟨fun x u q => ?_, w'.sG, w'.fr, fun x u q nb => ?_, fun x m => ?_, fun b z => ?_, env'⟩⟩
    · have : x ≠ a := fun z => by rw [z, g1] at q; cases q
      rw [upd_ne this]
      exact w'.sGH _ _ q
    · have : x ≠ a := fun z => by rw [z, n0] at q; cases q
      rw [upd_ne this]
      exact w'.keep x u q nb
    · exact (cc x m).elim (w'.own x) fun m => w'.own x (sub x m)
    · obtain ⟨⟨g', s', i', ns, z1, z2, z3⟩, z4, z5⟩ := w'.bag b z
      have : b.1 ≠ a := fun y => z5 (by rw [y]; exact n0)
      exact ⟨⟨g', s', i', ns, by rw [upd_ne this]; exact z1, z2, z3⟩, z4, z5⟩
end
/-! ### __init__ -/
abbrev ISp := List En → (List (Str × PyData) → Prop) → Prop
def spI (K : PySem.W.Frag) (C : Addr) (S : ISp) : Sp := fun vs H Q _ => ∃ a dx ws H0 B G as P, vs = .ref a :: ws ∧ OwnC K C ∧ H0 a = none ∧ H0 dx = none ∧ dx ≠ a ∧ H = upd (upd H0 dx (.own a)) a (.ins C dx []) ∧
  Same G H0 ∧ (∀ b, B = some b → BagAt G H0 b ∧ G b.1 = none) ∧ RepA K B G ws as ∧ S as P ∧
  ∀ fs G' H', P fs → Stp B G H0 G' H' → Dr K G' (.ref a) (obD C fs) → Q .non H'
/-- the slots at an __init__'s start -/
def startI (N : List Str) (a C : Addr) (as : List En) : Env' := some (.o a C []) :: (as.map some ++ List.replicate (N.length - (as.length + 1)) none)
section
variable {P : Program} {w : World} {K : PySem.W.Frag} {mg : Str → Option Value} {base : Heap} {x qual : Str} {st : Stmt} {f C : Addr} {fd : FuncData} {N ps : List Str} {k : Nat} {S : ISp}
theorem okI (F : Fun K x qual st f fd) (Sc : FnScope N ps (defScope st)) (many : ∀ as Q, S as Q → as.length + 1 = ps.length)
    (body : ∀ (a : Addr) (cdv : Value) (A : Around) (out : List Env) (s : Shared) (H : Hp) (E : XK),
      Gd (A.deeper (envOfC qual (defScope st) s.heap.objs.size f cdv)) → Room k (A.deeper (envOfC qual (defScope st) s.heap.objs.size f cdv)) →
      ∃ T, DSs K (cxOf CX0 P w K mg base N qual (defScope st) f cdv A out s H E).nox (defBody st) T ∧
        ∀ as Q, S as Q → T { nx := fun ρ => ∃ fs, ρ[0]? = some (some (.o a C fs)) ∧ Q fs, rt := fun _ => False } (startI N a C as)) :
    FnG P w K mg base (k + 1) f fd ps (spI K C S) := by
  refine okG F Sc (fun vs H Q E h => ?_) (fun cdv A out s H vs Q E hG hr h => ?_)
  · obtain ⟨a, dx, ws, H0, B, G, as, P', rfl, _, _, _, _, _, _, _, r, h, _⟩ := h
    rw [List.length_cons, r.length]
    exact many as P' h
  · obtain ⟨a, dx, ws, H0, B, G, as, P', rfl, c, n1, n2, ne, rfl, sm, hb, r, h, go⟩ := h
    obtain ⟨T, d, t⟩ := body a cdv A out s _ E hG hr
    have none_of : ∀ {y : Addr}, H0 y = none → G y = none := fun {y} hy => by
      cases q : G y with
      | none => rfl
      | some u => rw [sm _ _ q] at hy; cases hy
    have ho : ∀ {y : Addr} {u : HO}, H0 y = some u → upd (upd H0 dx (.own a)) a (.ins C dx []) y = some u := fun {y u} hy => by
      rw [upd_ne (ne_of_none hy n1), upd_ne (ne_of_none hy n2)]
      exact hy
    have en : RepE K B G (upd (upd H0 dx (.own a)) a (.ins C dx [])) (L2.start N (.ref a :: ws)) (startI N a C as) ([a, dx] ++ []) := by
      unfold L2.start startI
      rw [List.map_cons, List.cons_append, List.length_cons, r.length]
      exact .o (.mk ⟨c, upd_same, by rw [upd_ne ne, upd_same], rfl, .nil⟩ (none_of n1) (none_of n2) (Ne.symm ne)) r.env (fun _ _ m => nomatch m)
    refine ⟨_, d.pss, G, H0, B, G, startI N a C as, _, _, ⟨fun y u q => ho (sm _ _ q), Same.refl _, fun _ z => .inl z, fun y u z _ => ho z, fun y m => ?_, fun b e => ?_, en⟩, t as P' h, fun ρ' σ' G' H' F' p w' => ?_, fun _ _ _ _ _ z => z.elim, fun _ _ _ _ _ z => z.elim, fun _ _ _ _ _ z => z.elim⟩
    · simp only [List.append_nil, List.mem_cons, List.mem_nil_iff, or_false] at m
      rcases m with rfl | rfl
      · exact n1
      · exact n2
    · obtain ⟨⟨g, si, i, ns, z1, z2, z3⟩, z4⟩ := hb b e
      exact ⟨⟨g, si, i, ns, ho z1, z2, z3⟩, z4, by rw [z1]; exact nofun⟩
    · obtain ⟨fs, e0, q⟩ := p
      obtain ⟨v, F1, e2, rn, sub⟩ := w'.env.get e0
      cases rn with
      | o rb =>
        have h1 : ∀ y ∈ F1, G' y = none := fun y m => (rb.dom y m).1
        refine go fs (addF G' H' F1) H' q ⟨w'.keep, w'.sG.trans (addF_ext h1), addF_sub w'.sGH, fun y z => ?_, fun b e hz => ?_⟩ (rb.freeze (addF_ext h1) fun y m u z => by rw [addF_in m]; exact z)
        · by_cases m : y ∈ F1
          · exact .inr (w'.own y (sub y m))
          · rw [addF_out m] at z
            exact w'.fr y z
        · obtain ⟨⟨g, si, i, ns, z1, z2, z3⟩, z4, z5⟩ := w'.bag b e
          exact ⟨g, si, i, ns, z1, addF_ext h1 _ _ z2, z3⟩
/-- a class that may be called -/
structure MkG (P : Program) (w : World) (K : PySem.W.Frag) (mg : Str → Option Value) (base : Heap) (k : Nat) (x : Str) (C : Addr) (S : ISp) : Prop where
  ex : ∃ (f : Addr) (fd : FuncData) (ps : List Str), FnG P w K mg base k f fd ps (spI K C S) ∧ Mk K C f ∧ Binds K fd ps []
  own : OwnC K C
  mg : mg x = some (.ref C)
end
section
variable {K : PySem.W.Frag} {X : Cx} {e o : Expr} {es : List Expr} {x : Str} {C : Addr} {Ta : DT} {pos p : Pos}
/-- C(e, ..) -/
theorem de_make {j k : Nat} {S : ISp} {T : Env' → (List En → Prop) → Prop} (e1 : X.K = K) (M : MkG X.prog X.w X.K X.mg X.base k x C S) (hG : Gd X.A) (hr : Room j X.A) (hk : k + 1 ≤ j) (hg : Gl X x)
    (ha : DR K X (e :: es) T) (hdb : (x == ("__debug__" : Str)) = false := by decide) (he : starEach (e :: es) X.env = (false, eval e X.env) :: starEach es X.env := by rfl) (hpl : (backTo pos (starEach es X.env)).any (·.1) = false := by rfl) :
    DE K X (.Call (.Name x p) (e :: es) [] pos) (fun ρ P => T ρ fun as => S as fun fs => P (obD C fs)) := by
  subst e1
  obtain ⟨f, fd, ps, F, mk, b⟩ := M.ex
  refine ⟨PE.weak (pe_makeG mk F hG (hr.mono hk) hg M.mg b ha.pa hdb he hpl) fun σ H Q h => ?_⟩
  obtain ⟨G0, H0, B, G, ρ, F, P, w, t, k⟩ := h
  refine ⟨G0, H0, B, G, ρ, F, _, w, t, fun as G' H' vs p s r => ?_⟩
  intro a dx na ndx ne
  have w' := w.step s
  exact ⟨a, dx, vs, H', B, G', as, _, rfl, M.own, na, ndx, ne, rfl, s.sGH, fun b e => ⟨(w'.bag b e).1, (w'.bag b e).2.1⟩, r, p, fun fs G2 H2 p2 s2 r2 => ⟨rfl, k _ G2 H2 _ p2 (s.trans s2 w.bags) r2⟩⟩
/-- whether data is an object of the class at C -/
def isOb (C : Addr) : PyData → Bool
  | .dict ((.none, .int c) :: _) => c == (C : Int)
  | _ => false
/-- data, or an object of the class at C -/
def okOb (C : Addr) : PyData → Bool
  | .dict ((.none, .int c) :: _) => c == (C : Int)
  | _ => true
/-- a class that no built-in one is below -/
def TopC (K : PySem.W.Frag) (C : Addr) : Prop := ∀ T ∈ ["NoneType", "bool", "int", "str", "list", "tuple", "dict"], PySem.W.kitOne K (.type T) (.ref C) = some false
theorem Dr.tyc {G H : Hp} {v : V} {d : PyData} (c : TopC K C) (r : Dr K G v d) (s : Same G H) (ok : okOb C d = true) : ∃ t, TyX K H v t ∧ PySem.W.kitOne K t (.ref C) = some (isOb C d) := by
  cases r with
  | @ins a C' dx fs ds oc h _ _ =>
    have e : C' = C := by
      unfold okOb at ok
      exact Int.ofNat.inj (eq_of_beq ok)
    subst e
    refine ⟨.ref C', .base (.ins (s _ _ h) oc.cl oc.ha oc.hn oc.ht oc.hm), ?_⟩
    unfold PySem.W.kitOne isOb
    simp
  | @dct a kvs ds h _ =>
    refine ⟨_, .base (.dK (s _ _ h)), ?_⟩
    rw [c "dict" (by simp)]
    cases kvs with
    | nil => rfl
    | cons p r =>
      obtain ⟨k, x⟩ := p
      cases ds with
      | nil => rfl
      | cons d ds => cases k <;> rfl
  | non => exact ⟨_, .base .non, c "NoneType" (by simp)⟩
  | bl b => exact ⟨_, .base (.bl b), c "bool" (by simp)⟩
  | int i => exact ⟨_, .base (.int i), c "int" (by simp)⟩
  | str x => exact ⟨_, .base (.str x), c "str" (by simp)⟩
  | lst h _ => exact ⟨_, .base (.lst (s _ _ h)), c "list" (by simp)⟩
  | tup h _ =>
    refine ⟨.type "tuple", ?_, c "tuple" (by simp)⟩
    rcases h with (h | ⟨o, h⟩) | ⟨o, its, n, h, c, _⟩
    · exact .base (.tup (s _ _ h))
    · exact .fTuple (s _ _ h)
    · exact .kTuple h c
/-- isinstance(e, C), C an own class -/
theorem de_isiC {p3 : Pos} (e1 : X.K = K) (c : TopC K C) (hC : ClsV (.ref C) (.ref C)) (h : DE K X e Ta) (hg : Gl X "isinstance") (hm : X.mg "isinstance" = none) (hgx : PE X (.Name x p3) (tC (.ref C)))
    (hs : starEach [e, .Name x p3] X.env = (false, eval e X.env) :: starEach [.Name x p3] X.env := by rfl) (hs2 : starEach [.Name x p3] X.env = (false, eval (.Name x p3) X.env) :: starEach [] X.env := by rfl)
    (hpl : (backTo pos (starEach [.Name x p3] X.env)).any (·.1) = false := by rfl) :
    DE K X (.Call (.Name "isinstance" p) [e, .Name x p3] [] pos) (fun ρ P => Ta ρ fun d => okOb C d = true ∧ P (.bool (isOb C d))) := by
  subst e1
  refine ⟨PE.weak (pe_callB call_isi hg hm (by decide +kernel) (pa_cons h.pe (pa_cons hgx pa_nil hs2) hs) (by decide) (by decide) hs hpl) fun σ H Q h => ?_⟩
  obtain ⟨G0, H0, B, G, ρ, F, P, w, t, k⟩ := h
  refine ⟨G0, H0, B, G, ρ, F, _, w, t, fun d G' H' v p s r => ?_⟩
  obtain ⟨t, ty, ki⟩ := r.tyc c s.sGH p.1
  exact ⟨v, .ref C, t, .ref C, isOb C d, rfl, hC, ty, ki, k _ G' H' _ p.2 s (.bl _)⟩
end
end DL
set_option Elab.async false
set_option linter.all false
set_option maxRecDepth 100000
set_option maxHeartbeats 1000000
/-! OB3: == and != of an object whose class has its own __eq__ -/
namespace GL
open PySem PySem.Spec PyProof.Rows L2
section
variable {X : Cx} {C f : Addr} {k : Nat} {fd : FuncData} {ps : List Str} {sp : Sp}
/-- an object of a class with its own __eq__, and another value, whose class is not below it -/
def rEqI (K : PySem.W.Frag) (C : Addr) (sp : Sp) (g : Bool → Bool) : R2 := fun x y H Q => ∃ a dx fs t, x = .ref a ∧ H a = some (.ins C dx fs) ∧ TyX K H y t ∧ PySem.W.notFirst K C t = true ∧
  sp [x, y] H (fun v H' => ∃ b, v = .bl b ∧ Q (.bl (g b)) H') E0
theorem ins_at {pins : List (Addr × Obj)} {σ : L2.St} {H : Hp} {s : Shared} {a C dx : Addr} {fs : List (Str × V)} (I : Inv X pins σ H s) (h : H a = some (.ins C dx fs)) : ∃ ox od, PySem.W.InstAt s.heap a ox C od := by
  obtain ⟨mA, O, _⟩ := ins_get I.hok h
  obtain ⟨od, J, _⟩ := O.look
  exact ⟨_, _, J⟩
theorem op_eqI (hs : PySem.W.findIn X.K (.ref C) "__eq__" = some (some (.ref f))) (hf : PySem.W.isFn X.K (.ref f) = true) (F : FnG X.prog X.w X.K X.mg X.base k f fd ps sp) (hG : Gd X.A) (hr : Room k X.A) (hb : Binds X.K fd ps []) :
    OpR X (compareOp .Eq) (rEqI X.K C sp id) := by
  intro pins s σ H x y v u Q I rx ry h
  obtain ⟨a, dx, fs, t, rfl, ha, ty, hn, q⟩ := h
  cases (show v = Value.ref a from rx)
  obtain ⟨ox, od, J⟩ := ins_at I ha
  obtain ⟨P, Z, hp, _⟩ := kit_of I ry ty
  obtain ⟨m, hF⟩ := I.fr
  show wpAny (model X.prog X.w) X.A (richCompare .Eq (.ref a) u) _ _ _
  refine PySem.W.cmp_K (op := .Eq) (tb := t) hr.units0 hF I.ok.mod.kin J (Z.ty _ _ I.kIn hp) hn hs hf ?_
  refine wpAny_mono (run_fnG (us := [.ref a, u]) (vs := [.ref a, y]) F hG hr hb I (.cons rfl (.cons ry .nil)) q) (fun w s' z => ?_) fun _ _ x => x
  obtain ⟨z', H', I', rz, b, rfl, qz⟩ := z
  cases (show w = Value.bool b from rz)
  exact ⟨.bl b, H', I', rfl, qz⟩
theorem Gd.in1 {A : Around} (g : Gd A) : Gd A.in1 := by
  unfold Gd at *
  first | exact g | simpa [Around.in1] using g
theorem ifBound_ne {M : Model} {A : Around} {E : Value → Shared → Prop} {s : Shared} {K : PySem.W.Frag} {x C : Addr} {ox : Obj} {od : Option Obj} {args : List Value} {Q : Option Value → Shared → Prop} (hX : K.In s.heap) (I : PySem.W.InstAt s.heap x ox C od)
    (hs : PySem.W.findIn K (.ref C) "__ne__" = some (some (.builtin "object.__ne__")))
    (h : wpAny M A (call (.builtin "object.__ne__") (.ref x :: args)) (fun v => Q (some v)) E s) : wpAny M A (callSpecialIfBound? (.ref x) "__ne__" args) Q E s := by
  simp only [callSpecialIfBound?, bindSpecialIfBound?]
  refine wpAny_holding (wpAny_bind (wpAny_bind (wpAny_bind (I.type.here ((PySem.W.looks_findIn hX hs).here ?_)))))
  simp only [PySem.F.cmp_object.ne.bind]
  refine wpAny_bind (wpAny_askSetting (wpAny_ite ?_))
  have fin : wpAny M A (call (.builtin "object.__ne__") ([.ref x] ++ args) >>= fun v => pure (some v)) Q E s := wpAny_bind (wpAny_mono h (fun v s' h' => wpAny_pure h') fun _ _ h' => h')
  split
  · exact wpAny_bind (wpAny_pure (wpAny_pure fin))
  · exact wpAny_tryCatch (wpAny_bind (wpAny_pure (wpAny_pure fin)))
theorem op_neI (c : PySem.W.mroIn X.K C (.type "object") = some true) (hs : PySem.W.findIn X.K (.ref C) "__eq__" = some (some (.ref f))) (hs2 : PySem.W.findIn X.K (.ref C) "__ne__" = some (some (.builtin "object.__ne__"))) (hf : PySem.W.isFn X.K (.ref f) = true)
    (F : FnG X.prog X.w X.K X.mg X.base k f fd ps sp) (hG : Gd X.A) (hr : Room (k + 1) X.A) (hb : Binds X.K fd ps []) : OpR X (compareOp .NotEq) (rEqI X.K C sp (!·)) := by
  intro pins s σ H x y v u Q I rx ry h
  obtain ⟨a, dx, fs, t, rfl, ha, ty, hn, q⟩ := h
  cases (show v = Value.ref a from rx)
  obtain ⟨ox, od, J⟩ := ins_at I ha
  obtain ⟨P, Z, hp, _⟩ := kit_of I ry ty
  show wpAny (model X.prog X.w) X.A (richCompare .NotEq (.ref a) u) _ _ _
  have hb2 := Z.ty (model X.prog X.w) _ I.kIn hp
  have body : wpAny (model X.prog X.w) X.A.in1 (call (.ref f) [.ref a, u]) (fun v s' => ∃ b, v = .bool b ∧ EP X pins σ Q (.bool (!b)) s') X.xe s := by
    refine wpAny_call (codeAny_mono (F.does X.A.in1 X.stack s H ⟨[.ref a, u], []⟩ [.ref a, u] [.ref a, y] _ E0 hG.in1 hr.in1 I.env0.in1 ?_ (.cons rfl (.cons ry .nil)) q) fun r s' hq => ?_)
    · have hl : ([Value.ref a, u] ++ []).length = ps.length := F.many _ _ _ _ q
      exact hb s [.ref a, u] I.kIn hl
    · match r, hq with
      | .ok (.ret w), hq =>
        obtain ⟨z', H', I', rz, b, rfl, qz⟩ := I.after hq
        exact ⟨b, rz, .bl (!b), H', I', rfl, qz⟩
  have sub : PySem.W.Looks (model X.prog X.w) s.heap (isInstance (.ref a) (.type "object")) true := J.type.andThen (PySem.W.looks_mroIn I.kIn c)
  have one : wpAny (model X.prog X.w) X.A (tryCompare (.ref a) "__ne__" u) (fun r s' => ∃ v, r = some v ∧ EP X pins σ Q v s') X.xe s := by
    unfold tryCompare
    refine wpAny_bind (ifBound_ne I.kIn J hs2 (wpAny_call (codeAny_call_builtin PySem.F.cmp_object.ne.plain PySem.F.cmpEntry_ne (@PySem.W.check_slot (model X.prog X.w) _ _ s "object.__ne__" "object" "__ne__" (.ref a) [u] [] _ PySem.F.cmpKind_ne PySem.F.cmpSplit_ne sub (PySem.F.cmpArgs_ne _ _) ?_))))
    unfold Builtin.«object.__ne__»
    repeat (first
      | with_reducible refine wpAny_cRoomFor hr.in1.units0 ?_
      | (refine wpAny_bind (m := callSpecialIfBound? (.ref a) (Str.ofString "__eq__") [u]) (PySem.W.ifBound_K I.kIn J hs hf (wpAny_mono body (fun r s' hr => by
          obtain ⟨b, rfl, hq⟩ := hr
          repeat (first | exact wpAny_pure (wpAny_pure ⟨_, rfl, hq⟩) | exact wpAny_pure ⟨_, rfl, hq⟩ | exact ⟨_, rfl, hq⟩ | (refine wpAny_bind (m := truthy (.bool _)) (wpAny_truthy_bool ?_)) | wp_step)) fun _ _ e => e)))
      | wp_step)
  unfold richCompare
  simp only [oneThing_ref]
  refine wpAny_holding (wpAny_bind (wpAny_cRoomFor hr.units0 ?_))
  refine wpAny_bind (J.type.here (wpAny_bind (hb2.here ?_)))
  split
  · rename_i q
    have e : PySem.W.subIn X.K t (.ref C) = some false := by
      rcases Bool.or_eq_true_iff.mp hn with e | e
      · rw [beq_iff_eq.mp e] at q; simp at q
      · exact beq_iff_eq.mp e
    refine wpAny_bind ((PySem.W.looks_subIn I.kIn e).here ?_)
    simp only [Bool.false_eq_true, if_false]
    refine wpAny_bind (wpAny_mono one (fun r s' z => ?_) fun _ _ e => e)
    obtain ⟨v, rfl, hq⟩ := z
    exact wpAny_pure hq
  · refine wpAny_bind (wpAny_pure ?_)
    simp only [Bool.false_eq_true, if_false]
    refine wpAny_bind (wpAny_mono one (fun r s' z => ?_) fun _ _ e => e)
    obtain ⟨v, rfl, hq⟩ := z
    exact wpAny_pure hq
end
end GL
set_option Elab.async false
set_option linter.all false
set_option maxRecDepth 100000
set_option maxHeartbeats 1000000
/-! OB4: == and != of objects over data -/
namespace DL
open PySem PySem.Spec PyProof.Rows L2 GL
/-- no built-in class is below the class at C -/
def TopN (K : PySem.W.Frag) (C : Addr) : Prop := ∀ T ∈ ["NoneType", "bool", "int", "str", "list", "tuple", "dict"], PySem.W.notFirst K C (.type T) = true
theorem Dr.tyn {K : PySem.W.Frag} {C : Addr} {G H : Hp} {v : V} {d : PyData} (c : TopN K C) (r : Dr K G v d) (s : Same G H) (ok : okOb C d = true) : ∃ t, TyX K H v t ∧ PySem.W.notFirst K C t = true := by
  cases r with
  | @ins a C' dx fs ds oc h _ _ =>
    have e : C' = C := by
      unfold okOb at ok
      exact Int.ofNat.inj (eq_of_beq ok)
    subst e
    refine ⟨.ref C', .base (.ins (s _ _ h) oc.cl oc.ha oc.hn oc.ht oc.hm), ?_⟩
    unfold PySem.W.notFirst
    simp
  | dct h _ => exact ⟨_, .base (.dK (s _ _ h)), c "dict" (by simp)⟩
  | non => exact ⟨_, .base .non, c "NoneType" (by simp)⟩
  | bl b => exact ⟨_, .base (.bl b), c "bool" (by simp)⟩
  | int i => exact ⟨_, .base (.int i), c "int" (by simp)⟩
  | str x => exact ⟨_, .base (.str x), c "str" (by simp)⟩
  | lst h _ => exact ⟨_, .base (.lst (s _ _ h)), c "list" (by simp)⟩
  | tup h _ =>
    refine ⟨.type "tuple", ?_, c "tuple" (by simp)⟩
    rcases h with (h | ⟨o, h⟩) | ⟨o, its, n, h, c, _⟩
    · exact .base (.tup (s _ _ h))
    · exact .fTuple (s _ _ h)
    · exact .kTuple h c
/-- what a class with its own __eq__ has -/
structure EqG (P : Program) (w : World) (K : PySem.W.Frag) (mg : Str → Option Value) (base : Heap) (k : Nat) (C : Addr) (S : DSp) : Prop where
  ex : ∃ (f : Addr) (fd : FuncData) (ps : List Str), FnG P w K mg base k f fd ps (spF K S) ∧ PySem.W.findIn K (.ref C) "__eq__" = some (some (.ref f)) ∧ PySem.W.isFn K (.ref f) = true ∧ Binds K fd ps []
  ne : PySem.W.findIn K (.ref C) "__ne__" = some (some (.builtin "object.__ne__"))
  top : PySem.W.mroIn K C (.type "object") = some true
  tn : TopN K C
/-- what == of an object asks and tells -/
def eqI (C : Addr) (S : DSp) (g : Bool → Bool) (d e : PyData) (P : PyData → Prop) : Prop := ∃ fs, d = obD C fs ∧ okOb C e = true ∧ S [.d d, .d e] (fun o => ∃ b, o = .dat (.bool b) ∧ P (.bool (g b)))
section
variable {K : PySem.W.Frag} {X : Cx} {a b : Expr} {C : Addr} {Ta Tb : DT} {S : DSp} {pos : Pos}
theorem od_eqI {g : Bool → Bool} (c : TopN K C) : OpData K (rEqI K C (spF K S) g) (eqI C S g) := by
  intro B G H d e x y P Q s rx ry p k
  obtain ⟨fs, rfl, ok, p⟩ := p
  obtain ⟨t, ty, hn⟩ := ry.tyn c s ok
  obtain ⟨a, dx, vs, rfl, oc, h1, h2, _, _⟩ := id rx.ob
  refine ⟨a, dx, vs, t, rfl, s _ _ h1, ty, hn, ?_⟩
  refine ⟨none, G, _, _, s, (fun b e => nomatch e), .d rx (.d ry .nil), p, fun o G' H' v Fv p2 s2 r2 n2 => ?_⟩
  obtain ⟨b, rfl, p2⟩ := p2
  cases r2 with
  | dat r =>
    cases r
    refine ⟨b, rfl, k _ G' H' _ p2 ⟨fun a u q _ => s2.keep a u q (fun c e => nomatch e), s2.sG, s2.sGH, s2.fr, fun b _ h => ?_⟩ (.bl _)⟩
    obtain ⟨g', si, i, ns, e1, e2, e3⟩ := h
    exact ⟨g', si, i, ns, s2.keep _ _ e1 (fun c e => nomatch e), s2.sG _ _ e2, e3⟩
theorem de_eqI {j k : Nat} (e1 : X.K = K) (E : EqG X.prog X.w X.K X.mg X.base k C S) (hG : Gd X.A) (hr : Room j X.A) (hk : k ≤ j) (ha : DE K X a Ta) (hb : DE K X b Tb) (hm : behindInMarks .Eq b = false := by rfl) :
    DE K X (.Compare a [.Eq] [b] pos) (fun ρ P => Ta ρ fun d => Tb ρ fun e => eqI C S id d e P) := by
  subst e1
  have tn := E.tn
  obtain ⟨f, fd, ps, F, h1, h2, h3⟩ := E.ex
  rw [show (eqI C S id : PyData → PyData → (PyData → Prop) → Prop) = eqI C S id from rfl]
  exact de_cmp (op_eqI h1 h2 F hG (hr.mono hk) h3) (od_eqI tn) ha hb hm
theorem de_neI {j k : Nat} (e1 : X.K = K) (E : EqG X.prog X.w X.K X.mg X.base k C S) (hG : Gd X.A) (hr : Room j X.A) (hk : k + 1 ≤ j) (ha : DE K X a Ta) (hb : DE K X b Tb) (hm : behindInMarks .NotEq b = false := by rfl) :
    DE K X (.Compare a [.NotEq] [b] pos) (fun ρ P => Ta ρ fun d => Tb ρ fun e => eqI C S (!·) d e P) := by
  subst e1
  obtain ⟨f, fd, ps, F, h1, h2, h3⟩ := E.ex
  exact de_cmp (op_neI E.top h1 E.ne h2 F hG (hr.mono hk) h3) (od_eqI E.tn) ha hb hm
end
end DL
set_option Elab.async false
set_option linter.all false
set_option maxRecDepth 100000
set_option maxHeartbeats 1000000
/-! EN: for i, x in enumerate(xs) -/
namespace DL
open PySem PySem.Spec PyProof.Rows L2 GL
def enumD (ds : List PyData) : List PyData := (((List.range ds.length).map fun i : Nat => PyData.int (i : Int)).zip ds).map pairD
theorem enum_len (ds : List PyData) : (enumD ds).length = ds.length := by
  unfold enumD
  rw [List.length_map, List.length_zip, List.length_map, List.length_range]
  omega
theorem enum_at {ds : List PyData} {i : Nat} {d : PyData} (h : ds[i]? = some d) : (enumD ds)[i]? = some (.tuple [.int (i : Int), d]) := by
  have hi : i < ds.length := (List.getElem?_eq_some_iff.mp h).1
  unfold enumD
  rw [List.getElem?_map, List.getElem?_zip_eq_some (z := (.int (i : Int), d)).mpr ⟨by rw [List.getElem?_map, List.getElem?_range hi]; rfl, h⟩]
  rfl
section
variable {K : PySem.W.Frag} {X : Cx} {e : Expr} {Ta : DT} {pos : Pos}
theorem enum_step {G : Hp} {vs : List V} {ds : List PyData} (r : DrAll K G vs ds) : ∀ i H x H', i < (enumD ds).length → YPair (fun i => some (.int (i : Nat))) (fun i => vs[i]?) i H x H' →
    ∀ B G1, Same G G1 → Same G1 H → ∃ G2 d, Stp B G1 H G2 H' ∧ Dr K G2 x d ∧ (enumD ds)[i]? = some d := by
  intro i H x H' hi y B G1 s1 s2
  obtain ⟨T, x1, x2, rfl, nT, rfl, e1, e2⟩ := y
  cases e1
  obtain ⟨e, h3, h4⟩ := r.getV e2
  have s := Stp.lay (B := B) (o := .tup [.int (i : Int), x2]) s2 nT
  exact ⟨_, _, s, .tup (.inl (.inl upd_same)) (.cons (.int _) (.cons ((h4.same s1).same s.sG) .nil)), enum_at h3⟩
theorem di_enum {elts : List Expr} {kk : Nat} {p tpos : Pos} (e1 : X.K = K) (hg : Gl X "enumerate") (hm : X.mg "enumerate" = none) (h : DE K X e Ta)
    (hs : starEach [e] X.env = (false, eval e X.env) :: starEach [] X.env := by rfl) (hpl : (backTo pos (starEach [] X.env)).any (·.1) = false := by rfl) :
    DI K X (.Tuple elts kk tpos) (.Call (.Name "enumerate" p) [e] [] pos) (fun ρ P => Ta ρ fun d => ∃ ds, d = .list ds ∧ P (enumD ds)) := by
  subst e1
  refine ⟨PI.weak (pi_enum hg hm (pa_cons h.pe pa_nil hs) hs) fun σ H R h => ?_⟩
  obtain ⟨G0, H0, B, G, ρ, F, P, w, t, k⟩ := h
  refine ⟨G0, H0, B, G, ρ, F, _, w, t, fun d G' H' v p s r => ?_⟩
  obtain ⟨ds, rfl, p⟩ := p
  cases r with
  | @lst a vs _ h1 h2 =>
    refine ⟨a, vs, rfl, .inl (.inl (s.sGH _ _ h1)), k _ G' H' _ p s ⟨_, _, ?_, fun H q => (.inl (.inl (q _ _ h1)) : SqL X.K H a vs), enum_step h2⟩⟩
    rw [enum_len, ← h2.length]
    exact walk_enum
end
end DL
set_option Elab.async false
set_option linter.all false
set_option maxRecDepth 100000
set_option maxHeartbeats 1000000
/-! RV: xs[::-1] -/
namespace DL
open PySem PySem.Spec PyProof.Rows L2 GL
theorem DrAll.rev {K : PySem.W.Frag} {G : Hp} : ∀ {vs : List V} {ds : List PyData}, DrAll K G vs ds → DrAll K G vs.reverse ds.reverse
  | _, _, .nil => .nil
  | _, _, .cons h t => by
    rw [List.reverse_cons, List.reverse_cons]
    exact DrAll.append (DrAll.rev t) (.cons h .nil)
/-- xs[::-1] of a list -/
theorem do_rev {K : PySem.W.Frag} {X : Cx} {e : Expr} {Ta : DT} {k} {p1 p2 p3 pos : Pos} (e1 : X.K = K) (h : DE K X e Ta) :
    DO K X (.Subscript e (.Slice none none (some (.UnaryOp .USub (.Constant (.int 1) k p1) p2)) p3) pos) (fun ρ P => Ta ρ fun d => ∃ ds, d = .list ds ∧ P (.lst (ds.reverse.map .dat))) := by
  subst e1
  refine ⟨PE.weak (pe_revL h.pe) fun σ H Q h => ?_⟩
  obtain ⟨G0, H0, B, G, ρ, F, P, w, t, k⟩ := h
  refine ⟨G0, H0, B, G, ρ, F, _, w, t, fun d G' H' v p s r => ?_⟩
  obtain ⟨ds, rfl, p⟩ := p
  cases r with
  | @lst a vs _ h1 h2 =>
    exact ⟨a, vs, rfl, .inl (.inl (s.sGH _ _ h1)), fun q nq => new_own s.sGH nq h2.rev p fun o G2 H2 v2 Fv p2 s2 r2 n2 => k o G2 H2 v2 Fv p2 (s.trans s2 w.bags) r2 fun a m => s.none_back w.bags (n2 a m)⟩
end DL
set_option Elab.async false
set_option linter.all false
set_option maxRecDepth 100000
set_option maxHeartbeats 2000000
/-! EX: defs that may raise, where nothing is being shown around; what a suite asks of the error it holds -/
namespace GL
open PySem PySem.Spec PyProof.Rows L2
structure FnX (CX : CXT) (P : Program) (w : World) (K : PySem.W.Frag) (mg : Str → Option Value) (base : Heap)
    (k : Nat) (f : Addr) (fd : FuncData) (ps : List Str) (sp : Sp) : Prop where
  many : ∀ vs H Q E, sp vs H Q E → vs.length = ps.length
  does : ∀ (A : Around) (out : List Env) (s : Shared) (H : Hp) (ar : Args) (us : List Value) (vs : List V) (Q : VK) (E : XK),
    Gd A → Room k A → Env0 P w K mg base A out s H → BindsTo s fd ar (ps.zip us) → Vals vs us →
    sp vs H Q E → codeAny (model P w) A (.call (.ref f) ar) (CR CX out P w H s Q E) s
theorem okX {P : Program} {w : World} {K : PySem.W.Frag} {mg : Str → Option Value} {base : Heap} {x qual : Str} {st : Stmt} {f : Addr}
    {fd : FuncData} {N ps : List Str} {k : Nat} {sp : Sp} (F : Fun K x qual st f fd) (S : FnScope N ps (defScope st))
    (many : ∀ vs H Q E, sp vs H Q E → vs.length = ps.length)
    (body : ∀ (cdv : Value) (A : Around) (out : List Env) (s : Shared) (H : Hp) (vs : List V) (Q : VK) (E : XK),
      Gd (A.deeper (envOfC qual (defScope st) s.heap.objs.size f cdv)) →
      Room k (A.deeper (envOfC qual (defScope st) s.heap.objs.size f cdv)) → sp vs H Q E →
      ∃ t, PSs (cxOf (L2.CX P w) P w K mg base N qual (defScope st) f cdv A out s H E) (defBody st) t ∧
        t { nx := fun _ H' => Q .non H', rt := Q } (start N vs) H) :
    FnX (L2.CX P w) P w K mg base (k + 1) f fd ps sp := by
  obtain ⟨oc, od, kV, doc, pm, an, cdv, ct, osl, rfl, lk, hcd⟩ := F.ex
  refine ⟨many, fun A out s H ar us vs Q E hG hr e0 hb r hsp => ?_⟩
  have hlen := many _ _ _ _ hsp
  have inK : K.In s.heap := e0.mod.kin.keeps (fun b o e => (e0.bs b o e).1)
  have lim := (e0.mod.nolimit.keeps (h' := s.heap) (fun b o e => (e0.bs b o e).1))
  have kinds : ∀ y ∈ ps.zip us, (defScope st).names.lookup y.1 = some .local ∨ ((defScope st).names.lookup y.1 = some .cell ∧
      ((cellsFrom (s.heap.objs.size + 1) (defScope st).names []).lookup y.1).isSome = true) := by
    rintro ⟨n, v⟩ hy
    cases S.par n (List.of_mem_zip hy).1 with
    | inl q => exact Or.inl q
    | inr q => exact Or.inr ⟨q, PySem.W.cellsFrom_some _ _ _ (Or.inl q)⟩
  refine codeAny_call_function hr.depth (inK _ _ lk) rfl S.co S.gen rfl
    (PySem.W.codeRec_of inK hcd) (hb _ _ _ _ ?_)
  refine wpAny_newFunctionEnv_cells S.kind kinds (fun env he s1 entered => ?_)
  subst he
  refine ⟨lim.keeps entered.toInCall.keep, codeAny_func ?_⟩
  obtain ⟨t, ht, hq⟩ := body cdv A out s H vs Q E (hG.deep _) (hr.deeper _) hsp
  have I0 := inv_start (E := E) (mg := mg) (P := P) (CX := L2.CX P w) S hr.hd e0 hlen r entered
  refine wpAny_mono (ht.run [] s1 (start N vs) H _ I0 hq) (fun fl s' hs => ?_) (fun e s' hs => hs)
  cases fl with
  | next =>
    obtain ⟨σ', H', J, q⟩ := hs
    exact ⟨.non, H', J.os, J.bare, J.base, J.hok, rfl, q⟩
  | ret u =>
    obtain ⟨v, σ', H', J, rv, q⟩ := hs
    exact ⟨v, H', J.os, J.bare, J.base, J.hok, rv, q⟩
  | brk => obtain ⟨_, _, _, q⟩ := hs; exact q.elim
  | cont => obtain ⟨_, _, _, q⟩ := hs; exact q.elim
section
variable {X : Cx} {CX : CXT} {k : Nat} {f C : Addr} {fd : FuncData} {ps : List Str} {sp : Sp} {x m : Str} {p pos apos : Pos} {e o : Expr} {es : List Expr} {ta : TE} {t : TA} {E : L2.St → XK}
/-- f(e, ..), f may raise -/
theorem pe_callX (F : FnX CX X.prog X.w X.K X.mg X.base k f fd ps sp) (hG : Gd X.A) (hr : Room k X.A) (hg : Gl X x)
    (hm : X.mg x = some (.ref f)) (hk : PySem.W.keepIn X.K (.ref f) = true) (hb : Binds X.K fd ps []) (hx : ∀ σ, PassesAt CX X σ (E σ))
    (ha : PA X (e :: es) t) (hdb : (x == ("__debug__" : Str)) = false := by decide)
    (he : starEach (e :: es) X.env = (false, eval e X.env) :: starEach es X.env := by rfl)
    (hpl : (backTo pos (starEach es X.env)).any (·.1) = false := by rfl) :
    PE X (.Call (.Name x p) (e :: es) [] pos) (fun σ H Q => t σ H fun vs H1 => sp vs H1 Q (E σ)) := by
  constructor
  intro pins s σ H Q I h
  apply wpAny_Call_Name_kw
  apply ld_glob I hg hm ?_ hdb
  apply PySem.W.callWith_K (h₀ := X.base) I.ok.mod.kin hk ?_ he hpl
  apply thn (ha.run pos pins s σ H _ I h)
  rintro us s1 ⟨vs, H1, I1, r, q⟩
  refine ⟨I1.kIn, ?_⟩
  have hl : (us ++ []).length = ps.length := by
    rw [List.append_nil, ← r.length]
    exact F.many _ _ _ _ q
  have hbd := hb s1 us I1.kIn hl
  rw [List.append_nil] at hbd
  apply wpAny_call
  apply codeAny_mono (F.does X.A X.stack s1 H1 ⟨us, []⟩ us vs Q (E σ) hG hr I1.env0 hbd r q)
  intro res s' hq
  cases res with
  | error er => exact hx σ pins _ _ er s' I1 hq
  | ok fl =>
    cases fl with
    | ret u => exact I1.after hq
    | next => exact False.elim hq
    | brk => exact False.elim hq
    | cont => exact False.elim hq
theorem run_makeX {pins : List (Addr × Obj)} {σ : L2.St} {H : Hp} {s : Shared} {Q : VK} {us : List Value} {vs : List V} (M : Mk X.K C f) (F : FnX CX X.prog X.w X.K X.mg X.base k f fd ps sp) (hG : Gd X.A) (hr : Room (k + 1) X.A) (hb : Binds X.K fd ps []) (hx : ∀ σ, PassesAt CX X σ (E σ))
    (I : Inv X pins σ H s) (r : Vals vs us)
    (h : ∀ x dx, H x = none → H dx = none → dx ≠ x → sp (.ref x :: vs) (upd (upd H dx (.own x)) x (.ins C dx [])) (fun v H2 => v = .non ∧ Q (.ref x) H2) (E σ)) :
    wpAny (model X.prog X.w) X.A (call (.ref C) us) (EP X pins σ Q) X.xe s := by
  have hq := h (s.heap.objs.size + 1) s.heap.objs.size (I.hok.fresh (Nat.le_succ _)) (I.hok.fresh (Nat.le_refl _)) (Nat.ne_of_lt (Nat.lt_succ_self _))
  have I2 := Inv.made (C := C) I
  have r2 : Vals (V.ref (s.heap.objs.size + 1) :: vs) (Value.ref (s.heap.objs.size + 1) :: us) := .cons rfl r
  have hl : (Value.ref (s.heap.objs.size + 1) :: us ++ []).length = ps.length := by
    rw [List.append_nil, ← r2.length]
    exact F.many _ _ _ _ hq
  have hbd := hb { s with heap := (s.heap.push PySem.W.emptyDict).push (PySem.W.instObj C s.heap.objs.size) } (Value.ref (s.heap.objs.size + 1) :: us) I2.kIn hl
  rw [List.append_nil] at hbd
  refine wpAny_call (make_map (f := f) I.kIn M.makes M.init (beq_iff_eq.mp M.fn) (codeAny_mono (F.does _ X.stack _ _ ⟨Value.ref (s.heap.objs.size + 1) :: us, []⟩ (Value.ref (s.heap.objs.size + 1) :: us) _ _ (E σ) (hG.made _ _) (hr.make C us [])
    (I2.env0.make C us []) hbd r2 hq) fun r s' hq' => ?_))
  cases r with
  | error e => exact hx σ pins _ _ e s' I2 hq'
  | ok fl =>
    cases fl with
    | ret u =>
      obtain ⟨v, H', I3, rv, ev, q3⟩ := I2.after hq'
      subst ev
      exact ⟨rv, ⟨V.ref (s.heap.objs.size + 1), H', I3, rfl, q3⟩⟩
    | next => exact False.elim hq'
    | brk => exact False.elim hq'
    | cont => exact False.elim hq'
/-- C(e, ..), __init__ may raise -/
theorem pe_makeX (M : Mk X.K C f) (F : FnX CX X.prog X.w X.K X.mg X.base k f fd ps sp) (hG : Gd X.A) (hr : Room (k + 1) X.A) (hg : Gl X x) (hm : X.mg x = some (.ref C)) (hb : Binds X.K fd ps []) (hx : ∀ σ, PassesAt CX X σ (E σ))
    (ha : PA X (e :: es) t) (hdb : (x == ("__debug__" : Str)) = false := by decide) (he : starEach (e :: es) X.env = (false, eval e X.env) :: starEach es X.env := by rfl) (hpl : (backTo pos (starEach es X.env)).any (·.1) = false := by rfl) :
    PE X (.Call (.Name x p) (e :: es) [] pos) (fun σ H Q => t σ H fun vs H1 => ∀ x dx, H1 x = none → H1 dx = none → dx ≠ x →
      sp (.ref x :: vs) (upd (upd H1 dx (.own x)) x (.ins C dx [])) (fun v H2 => v = .non ∧ Q (.ref x) H2) (E σ)) := by
  refine ⟨fun pins s σ H Q I h => ?_⟩
  refine wpAny_Call_Name_kw (ld_glob I hg hm ?_ hdb)
  refine PySem.W.callWith_K (h₀ := X.base) I.ok.mod.kin M.kp (thn (ha.run pos pins s σ H _ I h) fun us s1 ⟨vs, H1, I1, r, q⟩ => ⟨I1.kIn, ?_⟩) he hpl
  exact run_makeX M F hG hr hb hx I1 r q
end
/-- isinstance(e, c), e the error that the suite holds, with its own dict -/
theorem call_isS {X : Cx} {a D : Addr} {cls : Value} {d : Option Addr} {oe : Obj} {pn : List (Addr × Obj)} (C : ExcC X.K D) (hz : Zc cls d oe) (hf : ∃ vs, oe.data = .fields vs) :
    CallR (X.suite a ((a, oe) :: pn)) (.builtin "isinstance") (fun xs H Q => ∃ (c : V) (cv : Value) (b : Bool) (dd : Addr) (fs : List (Str × V)), xs = [.ref a, c] ∧ ClsV c cv ∧ cls = .ref D ∧ d = some dd ∧ H dd = some (.xd fs) ∧ PySem.W.kitOne X.K (.ref D) cv = some b ∧ Q (.bl b) H) := by
  intro pins s σ H xs us Q I r h
  obtain ⟨c, cv, b, dd, fs, rfl, hcv, rfl, rfl, ea, e, q⟩ := h
  cases r with
  | cons rx rr =>
    cases rr with
    | cons rt rr =>
      cases rr
      cases rx
      have ec := hcv.eq rt
      subst ec
      obtain ⟨hget, _⟩ := I.pin (a, oe) (List.mem_append.mpr (.inl List.mem_cons_self))
      obtain ⟨vs, hv⟩ := hf
      have hx : ObjOk X.prog X.w H s.heap dd (.xd fs) := I.hok dd _ ea
      obtain ⟨mA, hns, hr⟩ := hx
      obtain ⟨od, ho, hl⟩ := lookIn_ns hns
      have J : PySem.W.InstAt s.heap a oe D (some od) := ⟨hget, hz.1, by unfold PySem.W.notCls; rw [hv] <;> rfl, by rw [hz.2]; exact ho⟩
      have hcl : (PySem.W.clsIn X.K D).isSome = true := by
        have := C.hd
        unfold PySem.W.hasDictIn at this
        cases k : PySem.W.clsIn X.K D with
        | none => rw [k] at this; cases this
        | some _ => rfl
      exact PySem.W.kia_one (PySem.W.kitx_exc hcl C.hg C.hk C.hs C.ha C.hn C.ht C.hm) I.kIn J e (fun z => nomatch z) fun tk => ⟨.bl b, H, I.kept (t' := tk) fun _ _ z => z, rfl, q⟩
end GL
set_option Elab.async false
set_option linter.all false
set_option maxRecDepth 100000
set_option maxHeartbeats 1000000
/-! OC: a written list of own things, one of them taken; a class called with a list of one's own that stays one's own -/
namespace DL
open PySem PySem.Spec PyProof.Rows L2 GL
theorem RepOs.getO {K : PySem.W.Frag} {G H : Hp} : ∀ {i : Nat} {os : List O} {vs : List V} {F : List Addr} {o : O}, RepOs K G H vs os F → os[i]? = some o → ∃ v F', vs[i]? = some v ∧ RepO K G H v o F' ∧ ∀ a ∈ F', a ∈ F
  | _, _, _, _, _, .nil, e => by simp at e
  | 0, _, _, _, _, .cons r t _, e => by
    have e : _ = _ := Option.some.inj (by simpa using e)
    subst e
    exact ⟨_, _, rfl, r, fun a m => List.mem_append_left _ m⟩
  | i + 1, _, _, _, _, .cons r t _, e => by
    obtain ⟨v, F', h1, h2, h3⟩ := RepOs.getO (i := i) t (by simpa using e)
    exact ⟨v, F', by simpa using h1, h2, fun a m => List.mem_append_right _ (h3 a m)⟩
section
variable {K : PySem.W.Frag} {X : Cx} {es : List Expr} {e b : Expr} {Ta Tb : DT} {pos p1 : Pos}
theorem DE.or (h : DE K X e Ta) (k : DE K X e Tb) : DE K X e (fun ρ P => Ta ρ P ∨ Tb ρ P) := by
  refine ⟨⟨fun pins s σ H Q I q => ?_⟩⟩
  obtain ⟨G0, H0, B, G, ρ, F, P, w, t, q⟩ := q
  rcases t with t | t
  · exact h.pe.run pins s σ H Q I ⟨G0, H0, B, G, ρ, F, P, w, t, q⟩
  · exact k.pe.run pins s σ H Q I ⟨G0, H0, B, G, ρ, F, P, w, t, q⟩
/-- [x, ..][e], x, .. one's own -/
theorem do_ixO {Ts : Env' → (List O → Prop) → Prop} (e1 : X.K = K) (h : DOA K X es Ts) (hb : DE K X b Tb) (hs : PlainIx b := by exact fun _ _ => rfl) :
    DO K X (.Subscript (.List es p1) b pos) (fun ρ P => Ts ρ fun os => os.length ≤ 1000 ∧ Tb ρ fun e => ∃ k o, e = .int k ∧ atI os k = some o ∧ P o) := by
  subst e1
  refine ⟨PE.weak (pe_ix ix_list (pe_lst h.pa) hb.pe hs) fun σ H Q h => ?_⟩
  obtain ⟨G0, H0, B, G, ρ, F, P, w, t, k⟩ := h
  refine ⟨G0, H0, B, G, ρ, F, _, w, t, fun os G1 H1 vs Fv p s r n => ⟨by rw [r.length]; have := p.1; rw [sizeLine_eq]; omega, fun p' np => ?_⟩⟩
  have pf : p' ∉ Fv := fun m => (r.dom p' m).2 np
  have s1 : Stp B G H G1 (upd H1 p' (.lst vs)) := s.trans (Stp.new s.sGH np) w.bags
  have w1 := w.step s1
  have r1 : RepOs X.K G1 (upd H1 p' (.lst vs)) vs os Fv := r.mono (Same.refl _) (fun a m => (r.dom a m).1) fun a m u e => by rw [upd_ne (fun z => pf (by rw [← z]; exact m))]; exact e
  refine ⟨G0, H0, B, G1, ρ, F, _, w1, p.2, fun d G2 H2 u p2 s2 r2 => ?_⟩
  obtain ⟨j, o, rfl, h1, q⟩ := p2
  cases r2
  have n0 : H p' = none := s.none_back w.bags np
  have r3 := r1.step s2 fun a m => notB_new w.bags (n a m)
  have hl : H2 p' = some (.lst vs) := s2.keep _ _ upd_same (notB_new w.bags n0)
  unfold atI at h1
  cases q1 : ixN os.length j with
  | none => rw [q1] at h1; cases h1
  | some m =>
    rw [q1] at h1
    obtain ⟨v, F', h3, h4, h5⟩ := r3.getO h1
    refine ⟨p', vs, j, v, rfl, rfl, .inl (.inl hl), ?_, k _ G2 H2 _ F' q (s1.trans s2 w.bags) h4 fun a m => n a (h5 a m)⟩
    unfold atI
    rw [r.length, q1]
    exact h3
end
/-! C(x), x a list of one's own: what is made holds nothing of it -/
abbrev IoSp := List PyData → (List (Str × PyData) → Prop) → Prop
def spIo (K : PySem.W.Frag) (C : Addr) (S : IoSp) : Sp := fun vs H Q _ => ∃ a dx b ws H0 B G ds P, vs = [.ref a, .ref b] ∧ OwnC K C ∧ H0 a = none ∧ H0 dx = none ∧ dx ≠ a ∧ H = upd (upd H0 dx (.own a)) a (.ins C dx []) ∧
  Same G H0 ∧ (∀ c, B = some c → BagAt G H0 c ∧ G c.1 = none) ∧ NotB B b ∧ G b = none ∧ H0 b = some (.lst ws) ∧ DrAll K G ws ds ∧ S ds P ∧
  ∀ fs G' H', P fs → Stp B G H0 G' H' → Dr K G' (.ref a) (obD C fs) → Q .non H'
structure MkO (P : Program) (w : World) (K : PySem.W.Frag) (mg : Str → Option Value) (base : Heap) (k : Nat) (x : Str) (C : Addr) (S : IoSp) : Prop where
  ex : ∃ (f : Addr) (fd : FuncData) (ps : List Str), FnG P w K mg base k f fd ps (spIo K C S) ∧ Mk K C f ∧ Binds K fd ps []
  own : OwnC K C
  mg : mg x = some (.ref C)
section
variable {K : PySem.W.Frag} {X : Cx} {e : Expr} {x : Str} {C : Addr} {pos p : Pos}
theorem de_makeO {i j k : Nat} {S : IoSp} (e1 : X.K = K) (M : MkO X.prog X.w X.K X.mg X.base k x C S) (hG : Gd X.A) (hr : Room j X.A) (hk : k + 1 ≤ j) (hg : Gl X x)
    (he : PE X e (tVar i)) (hdb : (x == ("__debug__" : Str)) = false := by decide) (hs : starEach [e] X.env = (false, eval e X.env) :: starEach [] X.env := by rfl) (hpl : (backTo pos (starEach [] X.env)).any (·.1) = false := by rfl) :
    DE K X (.Call (.Name x p) [e] [] pos) (fun ρ P => ∃ ds, ρ[i]? = some (some (.l (ds.map .dat))) ∧ S ds fun fs => P (obD C fs)) := by
  subst e1
  obtain ⟨f, fd, ps, F, mk, b⟩ := M.ex
  refine ⟨PE.weak (pe_makeG mk F hG (hr.mono hk) hg M.mg b (pa_cons he pa_nil hs) hdb hs hpl) fun σ H Q h => ?_⟩
  obtain ⟨G0, H0, B, G, ρ, F, P, w, ⟨ds, e0, t⟩, k⟩ := h
  obtain ⟨v, F1, e2, rn, sub⟩ := w.env.get e0
  cases rn with
  | l r =>
    cases r with
    | @lst q us _ F2 g h r1 nq =>
      obtain ⟨rfl, dr⟩ := r1.dats
      have n0 : H0 q = none := w.own q (sub q (by simp))
      have nb : NotB B q := fun c e => (w.bag _ e).2.2 n0
      refine ⟨_, e2, ?_⟩
      intro a dx na ndx ne
      exact ⟨a, dx, q, us, H, B, G, ds, _, rfl, M.own, na, ndx, ne, rfl, w.sGH, fun b e => ⟨(w.bag b e).1, (w.bag b e).2.1⟩, nb, g, h, dr, t, fun fs G2 H2 p2 s2 r2 => ⟨rfl, k _ G2 H2 _ p2 s2 r2⟩⟩
end
end DL
set_option Elab.async false
set_option linter.all false
set_option maxRecDepth 100000
set_option maxHeartbeats 1000000
/-! NE: a dict != a list -/
namespace DL
open PySem PySem.Spec PyProof.Rows L2 GL
theorem list_ne_dict (l b : Addr) (items : Array Value) (n : Nat) (dd : Option Addr) (sl : Array (Option Value)) (ob : Obj) (hc : ob.cls = .type "dict") :
    PySem.Meets (Builtin.«list.__ne__» ⟨[.ref l, .ref b], []⟩) (fun _ R s => s.heap.get? l = some { cls := .type "list", dict := dd, data := .seq items n, slots := sl } ∧ s.heap.get? b = some ob ∧ R (.ok (.ret .notImplemented)) s) :=
  .of_wp fun prog w A R s h => by
    obtain ⟨hp, g, d, tk, os⟩ := s; obtain ⟨hl, hb, h⟩ := h
    have f1 := PySem.F.sub_dict_list
    obtain ⟨cls2, dd2, data2, sl2⟩ := ob
    simp only at hc
    subst hc
    wp_walk using wpAny_loadPart' hl, wpAny_loadPart' hb
    exact ⟨_, rfl, h⟩
section
variable {X : Cx}
def rNeDL (K : PySem.W.Frag) : R2 := fun x y H Q => ∃ p q kvs xs, x = .ref p ∧ y = .ref q ∧ H p = some (.dK kvs) ∧ SqL K H q xs ∧ Q (.bl true) H
theorem op_neDL (hu : X.A.units + 64 < cLine) : OpR X (compareOp .NotEq) (rNeDL X.K) := by
  intro pins s σ H x y v u Q I rx ry h
  obtain ⟨p, q, kvs, xs, rfl, rfl, hp, hq, qq⟩ := h
  cases rx
  cases ry
  obtain ⟨_, hsm, vs, kv, ob, es, ep, h1, h2, h3, _⟩ := I.hok _ _ hp
  obtain ⟨its, r, l1, _⟩ := I.list hq
  obtain ⟨⟨cls, dd, data, sl⟩, ho, hc, n, hd⟩ := id l1.isList
  simp only at hc hd
  subst hc hd
  have ne : p ≠ q := fun z => by
    subst z
    rw [h1] at ho
    cases ho
    exact absurd (show Value.type "list" = Value.type "dict" from h2.1) (by decide)
  have ht : s.TypeIs (.ref p) "dict" := ⟨_, h1, h2.1⟩
  show wpAny (model X.prog X.w) X.A (richCompare .NotEq (.ref p) (.ref q)) _ _ _
  refine PySem.SeqAt.rc_ne_decline_or (k := false) ht ⟨_, ho, rfl⟩ (by decide) PySem.F.sub_list_dict PySem.F.slot_dict_ne PySem.F.slot_list_ne_refl (fun Q' hq' => ?_)
    (fun Q' hq' => call_meets PySem.F.slot_list_ne_refl ⟨_, ho, rfl⟩ PySem.F.entry_list_ne (PySem.F.args_list_ne_2 _ _) (list_ne_dict q p _ n dd sl ob h2.1) ⟨ho, h1, hq'⟩) (fun Q' hq' => ?_) (.inr (by omega)) ⟨.bl true, H, I, rfl, qq⟩
  · refine wpAny_call_entry PySem.F.slot_dict_ne ht PySem.F.entry_dict_ne ?_ (PySem.F.args_dict_ne_2 _ _)
    show wpAny _ _ (Builtin.Dict.dictSlotArgs "__ne__" ⟨[.ref p, .ref q], []⟩ >>= _) _ _ s
    refine wpAny_bind ?_
    unfold Builtin.Dict.dictSlotArgs
    refine wpAny_bind (PySem.wpAny_notOrdered_dict ht ?_)
    show wpAny _ _ (pure (Value.ref p, Value.ref q)) _ _ s
    refine wpAny_pure ?_
    refine wpAny_bind (wpAny_isInstance (T := "list") ⟨_, ho, rfl⟩ PySem.F.sub_list_dict ?_)
    simp only [Bool.not_false, if_true]
    refine wpAny_bind (wpAny_rule (wpAny_bind (wpAny_pure (wpAny_pure ⟨_, rfl, ?_⟩))))
    exact hq'
  · exact wpAny_isSame_ref_other ne h1 ho (by rw [h2.1]; decide) hq'
end
/-- != of data; of a dict and a list too -/
def neX (d e : PyData) (P : PyData → Prop) : Prop := eqR true d e P ∨ ∃ kvs xs, d = .dict kvs ∧ e = .list xs ∧ (∀ c r, kvs ≠ (.none, .int c) :: r) ∧ P (.bool true)
section
variable {K : PySem.W.Frag} {X : Cx} {a b : Expr} {Ta Tb : DT} {pos : Pos}
theorem od_neDL : OpData K (rNeDL K) (fun d e P => ∃ kvs xs, d = .dict kvs ∧ e = .list xs ∧ (∀ c r, kvs ≠ (.none, .int c) :: r) ∧ P (.bool true)) := flat_data fun G H d e x y P Q s dx dy p k => by
  obtain ⟨kvs, xs, rfl, rfl, no, p⟩ := p
  generalize ed : PyData.dict kvs = d at dx
  cases dx with
  | dct h1 _ =>
    cases dy with
    | lst h3 h4 => exact ⟨_, _, _, _, rfl, rfl, s _ _ h1, .inl (.inl (s _ _ h3)), k _ _ p (.bl _)⟩
  | ins _ _ _ _ =>
    injection ed with ed
    exact absurd ed (no _ _)
  | _ => cases ed
theorem de_neX (e1 : X.K = K) (hu : X.A.units + 64 < cLine) (ha : DE K X a Ta) (hb : DE K X b Tb) : DE K X (.Compare a [.NotEq] [b] pos) (fun ρ P => Ta ρ fun d => Tb ρ fun e => neX d e P) := by
  subst e1
  exact de_cmp ((ne_rule rfl hu).or (op_neDL hu)) ((od_ne.or od_neD).or od_neDL) ha hb (nomark _)
theorem db_neX (e1 : X.K = K) (hu : X.A.units + 64 < cLine) (ha : DE K X a Ta) (hb : DE K X b Tb) : DB K X (.Compare a [.NotEq] [b] pos) (fun ρ P => Ta ρ fun d => Tb ρ fun e => neX d e fun x => ∃ k, x = .bool k ∧ P k) := by
  subst e1
  exact db_cmp ((ne_rule rfl hu).or (op_neDL hu)) ((od_ne.or od_neD).or od_neDL) ha hb (nomark _)
end
end DL
set_option Elab.async false
set_option linter.all false
set_option maxRecDepth 100000
set_option maxHeartbeats 4000000
/-! XC: what the classes' objects say -/
namespace GL
open PySem PySem.Spec PyProof.Rows L2 GL DL
section
variable {K : PySem.W.Frag} {C A : Addr} {nm q : Str} {N : Addr} {bs bm : List Value} {sn : List Str} {sub : List Value} {ab : Bool} {col : Option Bool} {dd : Option Addr} {k0 k1 k2 k3 k5 : Option Value}
theorem x_cls (x : K.lookup C = some (excClassObj nm q C N bs bm true sn sub ab col dd k0 k1 k2 k3 k5 "ValueError.__new__")) : ∃ cd, PySem.W.clsIn K C = some cd ∧ cd.mro = .ref C :: bm ∧ cd.hasDict = true := by
  unfold PySem.W.clsIn
  rw [x]
  exact ⟨_, rfl, rfl, rfl⟩
theorem x_ty (x : K.lookup C = some (excClassObj nm q C N bs bm true sn sub ab col dd k0 k1 k2 k3 k5 "ValueError.__new__")) : PySem.W.typeIn K (.ref C) = some (.type "type") := by
  show Option.map (fun x => x.cls) (List.lookup C K) = _
  rw [x]
  rfl
theorem x_keep (x : K.lookup C = some (excClassObj nm q C N bs bm true sn sub ab col dd k0 k1 k2 k3 k5 "ValueError.__new__")) : PySem.W.keepIn K (.ref C) = true := by
  have t := x_ty x
  have k : PySem.W.specialIn K (.ref C) "__call__" = some (some (.builtin "type.__call__")) := by
    unfold PySem.W.specialIn
    rw [t]
    exact (by decide +kernel : PySem.fastLookup "type" "__call__" = some (some (.builtin "type.__call__")))
  unfold PySem.W.keepIn
  simp only [x]
  show (PySem.W.specialIn K (.ref C) "__call__" == some (some (.builtin "type.__call__"))) = true
  rw [k]
  decide +kernel
theorem x_sub (x : K.lookup C = some (excClassObj nm q C N bs bm true sn sub ab col dd k0 k1 k2 k3 k5 "ValueError.__new__")) (b : Value) : PySem.W.subIn K (.ref C) b = some ((Value.ref C :: bm).contains b) := by
  obtain ⟨cd, e1, e2, _⟩ := x_cls x
  show PySem.W.mroIn K C b = _
  unfold PySem.W.mroIn
  rw [e1]
  show (if cd.mro.isEmpty = true then none else some (cd.mro.contains b)) = _
  rw [e2]
  rfl
theorem x_dict (x : K.lookup C = some (excClassObj nm q C N bs bm true sn sub ab col dd k0 k1 k2 k3 k5 "ValueError.__new__")) : PySem.W.hasDictIn K C = true := by
  obtain ⟨cd, e1, _, e3⟩ := x_cls x
  unfold PySem.W.hasDictIn
  rw [e1]
  exact e3
variable {D : Addr} {nm' q' : Str} {N' : Addr} {bs' bm' : List Value} {sn' : List Str} {sub' : List Value} {ab' : Bool} {col' : Option Bool} {dd' : Option Addr} {k0' k1' k2' k3' k5' : Option Value}
/-- isinstance by classes of exceptions -/
theorem x_kit (x : K.lookup C = some (excClassObj nm q C N bs bm true sn sub ab col dd k0 k1 k2 k3 k5 "ValueError.__new__")) (y : K.lookup D = some (excClassObj nm' q' D N' bs' bm' true sn' sub' ab' col' dd' k0' k1' k2' k3' k5' "ValueError.__new__")) :
    PySem.W.kitOne K (.ref C) (.ref D) = some ((Value.ref C :: bm).contains (.ref D)) := by
  unfold PySem.W.kitOne
  by_cases e : (Value.ref C == Value.ref D) = true
  · rw [if_pos e]
    have e' : Value.ref C = Value.ref D := beq_iff_eq.mp e
    rw [e', List.contains_cons, beq_self_eq_true, Bool.true_or]
  · rw [if_neg e]
    obtain ⟨cd, e1, _, _⟩ := x_cls y
    show (if ((PySem.W.clsIn K D).isSome && PySem.W.typeIn K (.ref D) == some (.type "type")) = true then PySem.W.subIn K (.ref C) (.ref D) else none) = _
    have t : ((PySem.W.clsIn K D).isSome && PySem.W.typeIn K (.ref D) == some (.type "type")) = true := by
      rw [e1, x_ty y]
      exact (by decide +kernel : (true && (some (Value.type "type") == some (Value.type "type"))) = true)
    rw [if_pos t]
    exact x_sub x _
theorem x_kitV (x : K.lookup C = some (excClassObj nm q C N bs bm true sn sub ab col dd k0 k1 k2 k3 k5 "ValueError.__new__")) : PySem.W.kitOne K (.ref C) (.type "ValueError") = some (bm.contains (.type "ValueError")) := by
  have e : (Value.ref C == Value.type "ValueError") = false := rfl
  unfold PySem.W.kitOne
  rw [e, if_neg Bool.false_ne_true]
  show (if PySem.W.kitMeta "ValueError" = true then PySem.W.subIn K (.ref C) (.type "ValueError") else none) = _
  have m : PySem.W.kitMeta "ValueError" = true := by decide +kernel
  rw [if_pos m, x_sub x, List.contains_cons]
  have e2 : (Value.type "ValueError" == Value.ref C) = false := rfl
  rw [e2, Bool.false_or]
theorem x_exc (x : K.lookup C = some (excClassObj nm q C N bs bm true sn sub ab col dd k0 k1 k2 k3 k5 "ValueError.__new__")) (hB : bm.contains (.type "BaseException") = true) (hO : bm.contains (.type "object") = true)
    (g : PySem.W.findIn K (.ref C) "__getattribute__" = some (some (.builtin "BaseException.__getattribute__"))) (h : PySem.W.findIn K (.ref C) "__getattr__" = some none) (c : PySem.W.findIn K (.ref C) "__class__" = some (some (.builtin "object.__class__")))
    (hn : PySem.W.specialIn K (.builtin "object.__class__") "__get__" = some (some (.builtin "getset_descriptor.__get__"))) (ht : PySem.W.takesIn K (.builtin "object.__class__") = some true) : ExcC K C := by
  refine ⟨g, h, ?_, x_dict x, c, hn, ht, ?_⟩
  · rw [x_sub x, List.contains_cons, hB, Bool.or_true]
  · have e := x_sub x (.type "object")
    rw [List.contains_cons, hO, Bool.or_true] at e
    exact e
theorem x_xf (x : K.lookup C = some (excClassObj nm q C N bs bm true sn sub ab col dd k0 k1 k2 k3 k5 "ValueError.__new__")) (hB : bm.contains (.type "BaseException") = true)
    (g : PySem.W.findIn K (.ref C) "__getattribute__" = some (some (.builtin "BaseException.__getattribute__"))) (h : PySem.W.findIn K (.ref C) "__getattr__" = some none) : XfC K C :=
  ⟨g, h, by rw [x_sub x, List.contains_cons, hB, Bool.or_true], x_dict x⟩
theorem x_oex (x : K.lookup C = some (excClassObj nm q C N bs bm true sn sub ab col dd k0 k1 k2 k3 k5 "ValueError.__new__")) (hB : bm.contains (.type "BaseException") = true) (hr : PySem.HandSPX.refsVE bm = true)
    (s : PySem.W.findIn K (.ref C) "__setattr__" = some (some (.builtin "object.__setattr__"))) : OexC K C :=
  ⟨⟨nm, q, N, bs, bm, sn, sub, ab, col, dd, k0, k1, k2, k3, k5, x, hr⟩, s, by rw [x_sub x, List.contains_cons, hB, Bool.or_true], x_ty x, x_keep x⟩
theorem f_ty {f : Addr} {oc : Value} {od : Option Addr} {fd : FuncData} {sl : Array (Option Value)} (l : K.lookup f = some ⟨.type "function", od, .func fd, sl⟩) : PySem.W.typeIn K (.ref f) = some (.type "function") := by
  show Option.map (fun x => x.cls) (List.lookup f K) = _
  rw [l]
  rfl
theorem f_keep {f : Addr} {oc : Value} {od : Option Addr} {fd : FuncData} {sl : Array (Option Value)} (l : K.lookup f = some ⟨oc, od, .func fd, sl⟩) : PySem.W.keepIn K (.ref f) = true := by
  unfold PySem.W.keepIn
  simp only [l]
abbrev veA (A : Addr) : List Value := [.ref A, .type "ValueError", .type "Exception", .type "BaseException", .type "object"]
theorem ve_B (A : Addr) : (veA A).contains (.type "BaseException") = true := rfl
theorem ve_O (A : Addr) : (veA A).contains (.type "object") = true := rfl
theorem ve_V (A : Addr) : (veA A).contains (.type "ValueError") = true := rfl
theorem ve_r (A : Addr) : PySem.HandSPX.refsVE (veA A) = true := by
  show PySem.HandSPX.refsVE [.type "ValueError", .type "Exception", .type "BaseException", .type "object"] = true
  decide +kernel
theorem ve_A {C A : Addr} : (Value.ref C :: veA A).contains (.ref A) = true := by simp
theorem ve_no {C A D : Addr} (h : D ≠ C) (k : D ≠ A) : (Value.ref C :: veA A).contains (.ref D) = false := by simp [h, k]
theorem ve_self {C A : Addr} : (Value.ref C :: veA A).contains (.ref C) = true := by simp
end
end GL
set_option Elab.async false
set_option linter.all false
set_option maxRecDepth 100000
set_option maxHeartbeats 2000000
/-! K58a: the text; bag, take, alike -/
namespace K58
open PySem PySem.Spec PyProof.Rows L2 GL DL
def topS (i : Nat) : Stmt := PySem.Challenge.pw_askless_k58_promises_told.main.body.getD i (.Pass ⟨0, 0, 0, 0⟩)
abbrev s_is_integer : Stmt := topS 7
abbrev s_is_name : Stmt := topS 8
abbrev s_is_mark : Stmt := topS 9
abbrev s_is_number : Stmt := topS 10
abbrev s_is_list : Stmt := topS 11
abbrev s_fits_read : Stmt := topS 15
abbrev s_has_read_form : Stmt := topS 16
abbrev s_is_promise_row : Stmt := topS 19
abbrev s_is_like : Stmt := topS 20
abbrev s_never : Stmt := topS 22
abbrev s_bag : Stmt := topS 24
abbrev s_take : Stmt := topS 25
abbrev s_alike : Stmt := topS 26
abbrev s_pick : Stmt := topS 27
abbrev s_names : Stmt := topS 28
abbrev s_promise_rows : Stmt := topS 29
abbrev s_promised : Stmt := topS 30
abbrev s_drawn_reads : Stmt := topS 31
abbrev s_made : Stmt := topS 32
abbrev s_odd_row : Stmt := topS 33
abbrev s_right : Stmt := topS 34
abbrev s_equal_right : Stmt := topS 35
abbrev s_law : Stmt := topS 36
structure Txt0 (mg : Str → Option Value) : Prop where
  m_abs : mg "abs" = none
  m_all : mg "all" = none
  m_bool : mg "bool" = none
  m_enumerate : mg "enumerate" = none
  m_int : mg "int" = none
  m_isinstance : mg "isinstance" = none
  m_len : mg "len" = none
  m_list : mg "list" = none
  m_range : mg "range" = none
  m_repr : mg "repr" = none
  m_str : mg "str" = none
  m_tuple : mg "tuple" = none
  m_zip : mg "zip" = none
  g_LONGEST_NAME : ∃ t, mg "LONGEST_NAME" = some (.int 8 t)
  g_HIGHEST_MARK : ∃ t, mg "HIGHEST_MARK" = some (.int 3 t)
  g_NONE : ∃ t, mg "NONE" = some (.int (-1) t)
  g_MANY_STATES : ∃ t, mg "MANY_STATES" = some (.int 100 t)
abbrev t_READ_FORMS : List (Str × List Str) := [("root", ["name", "told"]), ("field", ["number", "name", "told"]), ("mark", ["number", "mark"])]
/-- the module's tables -/
structure TxtK (K : PySem.W.Frag) (w : World) (mg : Str → Option Value) : Prop where
  g_READ_FORMS : ∃ d, mg "READ_FORMS" = some (.ref d) ∧ KTab K w d t_READ_FORMS
theorem pos31 : (0 : Int) < 2147483647 := by decide
/-- a bag of drawn numbers: its four items at b, the numbers at c -/
def Bg (H : Hp) (b c : Addr) : Prop := ∃ (g s i : Int) (ns : List Int), H b = some (.lst [.int g, .int s, .int i, .ref c]) ∧
  H c = some (.lst (ns.map V.int)) ∧ 0 ≤ i
theorem Bg.ne {H : Hp} {b c : Addr} {g s i : Int} {ns : List Int} (h : H b = some (.lst [.int g, .int s, .int i, .ref c])) (k : H c = some (.lst (ns.map V.int))) : c ≠ b := by
  intro e
  subst e
  rw [h] at k
  have k2 : [V.int g, V.int s, V.int i, V.ref c] = ns.map V.int := by injection (Option.some.inj k)
  match ns, k2 with
  | [_, _, _, d], k2 => simp at k2
theorem Bg.same {H H' : Hp} {b c : Addr} (h : Bg H b c) (e : Same H H') : Bg H' b c := by
  obtain ⟨g, s, i, ns, h1, h2, h3⟩ := h
  exact ⟨g, s, i, ns, e _ _ h1, e _ _ h2, h3⟩
theorem Bg.new {H : Hp} {b c p : Addr} {o : HO} (h : Bg H b c) (n : H p = none) : Bg (upd H p o) b c := h.same (same_new n)
theorem Bg.nb {H : Hp} {b c p : Addr} (h : Bg H b c) (n : H p = none) : p ≠ b := by
  obtain ⟨g, s, i, ns, h1, _⟩ := h
  exact (ne_of_none h1 n).symm
theorem Bg.nc {H : Hp} {b c p : Addr} (h : Bg H b c) (n : H p = none) : p ≠ c := by
  obtain ⟨g, s, i, ns, _, h2, _⟩ := h
  exact (ne_of_none h2 n).symm
theorem Bg.at {H : Hp} {b c D : Addr} {o : HO} (h : Bg H b c) (n1 : D ≠ b) (n2 : D ≠ c) : Bg (upd H D o) b c := by
  obtain ⟨g, s, i, ns, h1, h2, h3⟩ := h
  exact ⟨g, s, i, ns, by rw [upd_ne n1.symm]; exact h1, by rw [upd_ne n2.symm]; exact h2, h3⟩
def BagI (H : Hp) (b : Addr) : Prop := ∃ c, Bg H b c

section
variable {P : Program} {w : World} {K : PySem.W.Frag} {mg : Str → Option Value} {base : Heap}
theorem sc_take : FnScope ["_law_bag", "_law_many", "_law_cell", "_law_more", "_law_drawn"] ["_law_bag", "_law_many"] (defScope s_take) := ⟨rfl, rfl, rfl, by decide +kernel, rfl, by decide +kernel, by decide +kernel⟩
def spTake : Sp := fun vs H Q _ => ∃ (b c : Addr) (m : Int), vs = [.ref b, .int m] ∧ Bg H b c ∧ 0 < m ∧ m < 1073741824 ∧
  ∀ (r : Int) (xs : List V), 0 ≤ r → r < m → Bg (upd H b (.lst xs)) b c → Q (.int r) (upd H b (.lst xs))
theorem ok_take {f : Addr} {fd : FuncData} (F : Fun K "_law_take" "_law_take" s_take f fd) (T : Txt0 mg) : FnOk P w K mg base CX0 1 f fd ["_law_bag", "_law_many"] spTake := by
  refine F.ok sc_take (fun vs H Q E h => ?_) (fun cdv A outer s H vs Q E hr h => ?_)
  · obtain ⟨b, c, m, rfl, _⟩ := h
    rfl
  · obtain ⟨b, c, m, rfl, ⟨g, s0, i, ns, hb, hc, hi⟩, hm, hm2, q⟩ := h
    have hcb := Bg.ne hb hc
    refine ⟨_, (C8.pss_cut (ps_if (pt_cmpR op_eq (pe_ix ix_list (pv 0) pe_int (fun _ _ => rfl)) pe_int (nomark _))
        (pss_cons (ps_set (i := 2) sc_take.nd rfl (.inl rfl) pe_int)
        (C8.pss_cut (ps_if (pt_cmpR op_lt (pe_ix ix_list (pv 0) pe_int (fun _ _ => rfl)) (pe_callB call_len_seq (by rfl) T.m_len PySem.boot_len (pa_cons (pe_ix ix_list (pv 0) pe_int (fun _ _ => rfl)) pa_nil)) (nomark _))
          (pss_one (ps_set (i := 2) sc_take.nd rfl (.inl rfl) (pe_ix ix_list (pe_ix ix_list (pv 0) pe_int (fun _ _ => rfl)) (pe_ix ix_list (pv 0) pe_int (fun _ _ => rfl)) (fun _ _ => rfl))))
          pss_nil)
        (pss_cons (ps_augS (pv 0) pe_int get_list pe_int ip_add set_list)
        (C8.pss_cut (ps_if (pt_cmpR op_ge (pv 2) pe_int (nomark _))
          (pss_one (ps_asg (pv 2) (pg_sub (pv 0) pe_int set_list)))
          pss_nil)
        (pss_cons (ps_set (i := 3) sc_take.nd rfl (.inl rfl) (pe_op op_add (pe_op op_mod (pe_callTy call_int1 (by rfl) T.m_int (by decide +kernel) (pa_cons (pv 2) pa_nil)) pe_int) (pe_op op_mul pe_int (pe_ix ix_list (pv 0) pe_int (fun _ _ => rfl)))))
        (pss_one (ps_asg (pe_op op_mod (pe_callTy call_int1 (by rfl) T.m_int (by decide +kernel) (pa_cons (pe_op op_add (pe_op op_mul (pe_ix ix_list (pv 0) pe_int (fun _ _ => rfl)) pe_int) (pv 3)) pa_nil)) pe_int) (pg_sub (pv 0) pe_int set_list))))))))
        pss_nil)
      (pss_cons (ps_if (pt_cmpR op_gt (pe_ix ix_list (pv 0) pe_int (fun _ _ => rfl)) pe_int (nomark _))
        (pss_cons (ps_set (i := 4) sc_take.nd rfl (.inl rfl) (pe_op op_mod (pe_callTy call_int1 (by rfl) T.m_int (by decide +kernel) (pa_cons (pe_ix ix_list (pv 0) pe_int (fun _ _ => rfl)) pa_nil)) (pv 1)))
        (pss_cons (ps_asg (pe_op op_fdiv (pe_ix ix_list (pv 0) pe_int (fun _ _ => rfl)) (pv 1)) (pg_sub (pv 0) pe_int set_list))
        (pss_one (ps_ret (pv 4)))))
        pss_nil)
      (pss_cons (ps_asg (pe_op op_mod (pe_callTy call_int1 (by rfl) T.m_int (by decide +kernel) (pa_cons (pe_op op_add (pe_op op_mul (pe_ix ix_list (pv 0) pe_int (fun _ _ => rfl)) pe_int) pe_int) pa_nil)) pe_int) (pg_sub (pv 0) pe_int set_list))
      (pss_one (ps_ret (pe_op op_mod (pe_callTy call_int1 (by rfl) T.m_int (by decide +kernel) (pa_cons (pe_op op_fdiv (pe_ix ix_list (pv 0) pe_int (fun _ _ => rfl)) pe_int) pa_nil)) (pv 1))))))), ?_⟩
    -- what stands behind the first if
    refine ⟨fun σ H' => ∃ (g s0 i : Int) (y2 y3 : Option V), σ = [some (.ref b), some (.int m), y2, y3, none] ∧ H' = upd H b (.lst [.int g, .int s0, .int i, .ref c]) ∧ 0 ≤ i, ?_, ?_⟩
    · refine ⟨.ref b, rfl, b, _, 0, .int g, rfl, rfl, .inl (.inl hb), rfl, rfl, _, rfl, ite2 (fun e => ?_) (fun e => ?_)⟩
      · -- the cell
        refine ⟨fun σ H' => H' = H ∧ ∃ n : Int, σ = [some (.ref b), some (.int m), some (.int n), none, none], ?_, ?_⟩
        · refine ⟨.ref b, rfl, b, _, 2, .int i, rfl, rfl, .inl (.inl hb), rfl, .ref b, rfl, b, _, 3, .ref c, rfl, rfl, .inl (.inl hb), rfl, c, _, rfl, .inl (.inl (.inl hc)), i, _, rfl, rfl, _, rfl, ite2 (fun e2 => ?_) (fun e2 => ?_)⟩
          · have hlt : i < ((ns.map V.int).length : Int) := of_decide_eq_true e2
            have hn : i.toNat < ns.length := by rw [List.length_map] at hlt; omega
            refine ⟨.ref b, rfl, b, _, 3, .ref c, rfl, rfl, .inl (.inl hb), rfl, .ref b, rfl, b, _, 2, .int i, rfl, rfl, .inl (.inl hb), rfl, c, _, i, .int ns[i.toNat], rfl, rfl, .inl (.inl hc), ?_, rfl, ns[i.toNat], rfl⟩
            refine atI_int hi ?_
            rw [List.getElem?_map, List.getElem?_eq_getElem hn]
            rfl
          · exact ⟨rfl, 0, rfl⟩
        · rintro σ H' ⟨rfl, n, rfl⟩
          -- bag[2] += 1
          refine ⟨.ref b, rfl, b, _, 2, .int i, rfl, rfl, hb, rfl, i, 1, rfl, rfl, b, _, 2, 2, rfl, rfl, hb, rfl, ?_⟩
          refine ⟨fun σ H'' => ∃ g : Int, σ = [some (.ref b), some (.int m), some (.int n), none, none] ∧ H'' = upd H' b (.lst [.int g, .int s0, .int (i + 1), .ref c]), ?_, ?_⟩
          · refine ⟨_, rfl, n, _, rfl, rfl, _, rfl, ite2 (fun e2 => ?_) (fun e2 => ?_)⟩
            · refine ⟨_, rfl, .ref b, rfl, b, _, 0, 0, rfl, rfl, upd_same, rfl, n, rfl, ?_⟩
              rw [upd_upd]
              rfl
            · exact ⟨g, rfl, rfl⟩
          · rintro σ H'' ⟨g2, rfl, rfl⟩
            have h2 : (upd H' b (.lst [.int g2, .int s0, .int (i + 1), .ref c])) b = some (.lst [.int g2, .int s0, .int (i + 1), .ref c]) := upd_same
            refine ⟨_, rfl, .inl ⟨n, rfl, n, _, rfl, rfl, pos31, .ref b, rfl, b, _, 2, .int (i + 1), rfl, rfl, .inl (.inl h2), rfl, _, _, rfl, rfl, .inl (by decide), _, _, rfl, rfl, ?_⟩⟩
            refine ⟨.ref b, rfl, b, _, 1, .int s0, rfl, rfl, .inl (.inl h2), rfl, _, _, rfl, rfl, .inr (by decide), _, rfl, _, _, rfl, rfl, .inl ⟨_, rfl, _, _, rfl, rfl, pos31, .ref b, rfl, b, _, 1, 1, rfl, rfl, h2, rfl, ?_⟩⟩
            exact ⟨g2, (s0 * 48271 + (n % 2147483647 + 7919 * (i + 1))) % 2147483647, i + 1, _, _, rfl, upd_upd, by omega⟩
      · exact ⟨g, s0, i, none, none, rfl, (upd_self hb).symm, hi⟩
    · rintro σ H' ⟨g, s0, i, y2, y3, rfl, rfl, hi⟩
      have h2 : (upd H b (.lst [.int g, .int s0, .int i, .ref c])) b = some (.lst [.int g, .int s0, .int i, .ref c]) := upd_same
      have bag : ∀ (g s0 : Int), Bg (upd H b (.lst [.int g, .int s0, .int i, .ref c])) b c := fun g s0 => ⟨g, s0, i, ns, upd_same, by rw [upd_ne hcb]; exact hc, hi⟩
      refine ⟨.ref b, rfl, b, _, 0, .int g, rfl, rfl, .inl (.inl h2), rfl, _, _, rfl, rfl, _, rfl, ite2 (fun e => ?_) (fun e => ?_)⟩
      · refine ⟨.ref b, rfl, b, _, 0, .int g, rfl, rfl, .inl (.inl h2), rfl, .inl ⟨g, rfl, .int m, rfl, g, m, rfl, rfl, hm, ?_⟩⟩
        refine ⟨.ref b, rfl, b, _, 0, .int g, rfl, rfl, .inl (.inl h2), rfl, .int m, rfl, g, m, rfl, rfl, ⟨hm, hm2⟩, .ref b, rfl, b, _, 0, 0, rfl, rfl, h2, rfl, ?_⟩
        refine ⟨.int (g % m), rfl, ?_⟩
        rw [upd_upd]
        exact q _ _ (Int.emod_nonneg _ (by omega)) (Int.emod_lt_of_pos _ hm) (bag _ _)
      · refine ⟨.ref b, rfl, b, _, 1, .int s0, rfl, rfl, .inl (.inl h2), rfl, _, _, rfl, rfl, .inr (by decide), _, _, rfl, rfl, .inl ⟨_, rfl, _, _, rfl, rfl, pos31, .ref b, rfl, b, _, 1, 1, rfl, rfl, h2, rfl, ?_⟩⟩
        refine ⟨.ref b, rfl, b, _, 1, _, rfl, rfl, .inl (.inl upd_same), rfl, _, _, rfl, rfl, ⟨by decide, by decide⟩, .inl ⟨_, rfl, .int m, rfl, _, m, rfl, rfl, hm, ?_⟩⟩
        rw [upd_upd]
        exact q _ _ (Int.emod_nonneg _ (by omega)) (Int.emod_lt_of_pos _ hm) (bag _ _)
end

theorem walk_ints {K : PySem.W.Frag} {a : Addr} {ns : List Int} : Walk (Itl K a) ns.length (fun H => SqL K H a (ns.map V.int)) (fun i H x H' => H' = H ∧ ∃ n, ns[i]? = some n ∧ x = V.int n) := by
  have w := walk_list (K := K) (a := a) (xs := ns.map V.int)
  rw [List.length_map] at w
  refine w.mono (fun _ h => h) (fun i H x H' _ _ y => ⟨y.1, ?_⟩)
  have e := y.2
  rw [List.getElem?_map] at e
  cases h : ns[i]? with
  | none => rw [h] at e; cases e
  | some n =>
    rw [h] at e
    exact ⟨n, rfl, (Option.some.inj e).symm⟩
theorem cut_map {α : Type} (f : α → V) (ns : List α) (lo hi : Option Int) : ∃ ms : List α, cutV (ns.map f) lo hi = ms.map f ∧ ms.length ≤ ns.length ∧ ∀ m ∈ ms, m ∈ ns := by
  refine ⟨(ns.drop (HT.sIx (ns.map f).length 0 lo)).take (HT.sIx (ns.map f).length (ns.map f).length hi - HT.sIx (ns.map f).length 0 lo), ?_, ?_, ?_⟩
  · unfold cutV
    rw [List.map_take, List.map_drop]
  · rw [List.length_take, List.length_drop]
    omega
  · intro m hm
    exact List.mem_of_mem_drop (List.mem_of_mem_take hm)
theorem upd_none {H : Hp} {p b : Addr} {o : HO} (h : upd H p o b = none) : b ≠ p ∧ H b = none := by
  by_cases e : b = p
  · rw [e, upd_same] at h
    cases h
  · rw [upd_ne e] at h
    exact ⟨e, h⟩

section
variable {P : Program} {w : World} {K : PySem.W.Frag} {mg : Str → Option Value} {base : Heap}
theorem sc_bag : FnScope ["_law_script", "_law_cell"] ["_law_script"] (defScope s_bag) := ⟨rfl, rfl, rfl, by decide +kernel, rfl, by decide +kernel, by decide +kernel⟩
def spBag (K : PySem.W.Frag) : Sp := fun vs H Q _ => ∃ (a : Addr) (ns : List Int), vs = [.ref a] ∧ SqL K H a (ns.map V.int) ∧ ns.length ≤ 63 ∧
  ∀ (b : Addr) (H' : Hp), Same H H' → H b = none → BagI H' b → Q (.ref b) H'
theorem ok_bag {f : Addr} {fd : FuncData} (F : Fun K "_law_new_bag" "_law_new_bag" s_bag f fd) (T : Txt0 mg) : FnOk P w K mg base CX0 1 f fd ["_law_script"] (spBag K) := by
  refine F.ok sc_bag (fun vs H Q E h => ?_) (fun cdv A outer s H vs Q E hr h => ?_)
  · obtain ⟨a, ns, rfl, _⟩ := h
    rfl
  · obtain ⟨a, ns, rfl, hS, hl, q⟩ := h
    refine ⟨_, (pss_one (ps_ret (pe_lst (pa_cons pe_int (pa_cons pe_int (pa_cons pe_int (pa_cons (pe_lc (own := [("_law_cell", 1)]) (g := (gName 1)) (tt := tYes) rfl sc_bag.nd (pi_list (pe_slice sl_list (pv 0) po_none (po_some pe_int))) (blkOk_by (N := ["_law_script", "_law_cell"]) (sc := defScope s_bag) (by decide +kernel)) (fun _ _ _ _ _ => pg_name (i := 1) sc_bag.nd rfl (.inl rfl)) (fun _ _ _ _ _ => pts_nil) (fun _ _ _ _ _ => (pe_callB call_abs (by rfl) T.m_abs (by decide +kernel) (pa_cons (pv 1) pa_nil)))) pa_nil))))))), ?_⟩
    obtain ⟨ms, hms, hlen, _⟩ := cut_map V.int ns none (some 63)
    refine ⟨.ref a, rfl, 63, rfl, a, _, rfl, hS, fun c nc => ?_⟩
    rw [hms]
    refine ⟨c, rfl, ⟨_, .inl (.inl upd_same)⟩, fun D nD => ?_⟩
    have hcD : c ≠ D := ne_of_none upd_same nD
    refine lc_pure (as := ms) (emb := V.int) walk_ints (fun i H x H' h => h) (fun l => ?_) (small1000 (by omega)) (fun _ => true) (fun n => .int (if n < 0 then -n else n)) (fun n hn l R S hR _ => ?_) ?_
    · exact .inl (.inl (by rw [upd_ne hcD]; exact upd_same))
    · exact ⟨rfl, _, rfl, n, rfl, hR rfl⟩
    · refine ⟨by show 4 ≤ sizeLine; rw [sizeLine_eq]; decide, fun b nb => ?_⟩
      have hDb : D ≠ b := ne_of_none upd_same nb
      refine q b _ ?_ ?_ ⟨D, 0, 1234567891, 0, ms.map fun n => if n < 0 then -n else n, upd_same, ?_, by omega⟩
      · exact ((same_new nc).trans (same_new nD)).trans (same_new nb)
      · exact (upd_none (upd_none nb).2).2
      · rw [upd_ne hDb, upd_same, List.filter_eq_self.mpr (fun _ _ => rfl), List.map_map]
        rfl
end
section
variable {P : Program} {w : World} {K : PySem.W.Frag} {mg : Str → Option Value} {base : Heap}
theorem sc_alike : FnScope ["_law_found", "_law_right_here"] ["_law_found", "_law_right_here"] (defScope s_alike) := ⟨rfl, rfl, rfl, by decide +kernel, rfl, by decide +kernel, by decide +kernel⟩
def spAlike (K : PySem.W.Frag) : Sp := fun vs H Q _ => ∃ x y d, vs = [x, y] ∧ Dp K H x d ∧ Dp K H y d ∧ DOk d ∧ Q (.bl true) H
theorem ok_alike {f : Addr} {fd : FuncData} (F : Fun K "_law_alike" "_law_alike" s_alike f fd) (T : Txt0 mg) : FnG P w K mg base 1 f fd ["_law_found", "_law_right_here"] (spAlike K) := by
  refine okG F sc_alike (fun vs H Q E h => ?_) (fun cdv A outer s H vs Q E hG hr h => ?_)
  · obtain ⟨x, y, d, rfl, _⟩ := h
    rfl
  · obtain ⟨x, y, d, rfl, hx, hy, o, q⟩ := h
    have hu : (A.deeper (envOfC "_law_alike" (defScope s_alike) s.heap.objs.size f cdv)).units + 66 < cLine := by
      have := hr.un
      omega
    refine ⟨_, (pss_one (ps_ret (pe_and (pe_cmpR (op_eqD hr.units) (pv 0) (pv 1) (nomark _)) (pe_one (pe_cmpR op_eq (pe_callB (call_reprD hG hu) (by rfl) T.m_repr (by decide +kernel) (pa_cons (pv 0) pa_nil)) (pe_callB (call_reprD hG hu) (by rfl) T.m_repr (by decide +kernel) (pa_cons (pv 1) pa_nil)) (nomark _)))))), ?_⟩
    have sh : SeqAt.shaped d = true := by
      unfold SeqAt.shaped
      rw [o.lay, Bool.true_and]
      exact decide_eq_true (Nat.le_trans o.deep (by decide))
    refine ⟨x, rfl, y, rfl, d, d, hx, hy, sh, sh, _, rfl, ?_⟩
    rw [SeqAt.eqv_refl d o.lay]
    refine iteT ⟨x, rfl, x, d, rfl, hx, o.shows, o.nodict, Nat.le_trans o.deep (by decide), o.fits, y, rfl, y, d, rfl, hy, o.shows, o.nodict, Nat.le_trans o.deep (by decide), o.fits, rfl, ?_⟩
    rw [decide_eq_true rfl]
    exact q
end
end K58
set_option Elab.async false
set_option linter.all false
set_option maxRecDepth 100000
set_option maxHeartbeats 1000000
set_option pp.maxSteps 500
/-! K58c: reads, logs -/
namespace K58
open PySem PySem.Spec PyProof.Rows L2 GL DL
theorem dict_no {kvs : List (PyData × PyData)} (ok : DOw (.dict kvs)) : False := by
  have := ok.nodict
  simp [PyData.hasDict] at this
theorem dict_no1 {kvs : List (PyData × PyData)} {ds : List PyData} (ok : DOw (.tuple (.dict kvs :: ds))) : False := by
  have := ok.nodict
  simp [PyData.hasDict, PyData.hasDictAll] at this
def nameS (z : Str) : Bool := decide (1 ≤ z.length) && (decide (z.length ≤ 8) && z.cps.toList.all letD)
def nameD : PyData → Bool
  | .str z => nameS z
  | _ => false
def markD : PyData → Bool
  | .int i => decide (0 ≤ i) && decide (i ≤ 3)
  | _ => false
def lowD (lo : Int) : PyData → Bool
  | .int i => decide (lo ≤ i)
  | _ => false
def fitsD (k : Str) (d : PyData) : Bool := if k = "name" then nameD d else if k = "mark" then markD d else lowD (if k = "told" then -1 else 0) d
def noneD : PyData → Bool
  | .none => true
  | _ => false
/-- a part of a pattern -/
def wishD (k : Str) (d : PyData) : Bool := noneD d || fitsD k d
def fitsAll : List Str → List PyData → Bool
  | [], [] => true
  | k :: ks, d :: ds => wishD k d && fitsAll ks ds
  | _, _ => false
def numD (n : Int) : PyData → Bool
  | .int i => decide (0 ≤ i) && decide (i < n)
  | _ => false
def readD : PyData → Bool
  | .tuple (.str z :: ds) => match tabGet t_READ_FORMS z with
    | some ys => fitsAll ys ds
    | none => false
  | _ => false
theorem forms_few {z : Str} {ys : List Str} (h : tabGet t_READ_FORMS z = some ys) : ys.length ≤ 3 := by
  have e : ∀ p ∈ t_READ_FORMS, p.2.length ≤ 3 := by decide +kernel
  exact e _ (tab_mem h)
theorem fits_len : ∀ {ks : List Str} {ds : List PyData}, fitsAll ks ds = true → ks.length = ds.length
  | [], [], _ => rfl
  | [], _ :: _, h => nomatch h
  | _ :: _, [], h => nomatch h
  | k :: ks, d :: ds, h => by
    unfold fitsAll at h
    rw [Bool.and_eq_true] at h
    rw [List.length_cons, List.length_cons, fits_len h.2]
theorem fits_zip : ∀ {ks : List Str} {ds : List PyData}, ds.length = ks.length → fitsAll ks ds = (ks.zip ds).all fun p => wishD p.1 p.2
  | [], [], _ => rfl
  | [], _ :: _, h => nomatch h
  | _ :: _, [], h => nomatch h
  | k :: ks, d :: ds, h => by
    show (wishD k d && fitsAll ks ds) = _
    rw [fits_zip (by simpa using h)]
    rfl
/-- a predicate of a value -/
def spP (f : PyData → Bool) : DSp := fun as P => ∃ d, as = [.d d] ∧ DOw d ∧ P (.dat (.bool (f d)))
def spPx (f : PyData → Bool) : DSp := fun as P => ∃ d, as = [.d d] ∧ (DOw d ∨ d = .dict []) ∧ P (.dat (.bool (f d)))
def spFits : DSp := fun as P => ∃ z d, as = [.d (.str z), .d d] ∧ DOw d ∧ P (.dat (.bool (fitsD z d)))
def spNum : DSp := fun as P => ∃ n d, as = [.d (.int n), .d d] ∧ DOw d ∧ P (.dat (.bool (numD n d)))
/-- a row of a promise -/
def rowP : PyData → Bool
  | .tuple [s, p, n] => numD 100 s && (readD p && (noneD n || numD 100 n))
  | _ => false
def listD (d : PyData) : Bool := isTy "list" d || isTy "tuple" d
def spList : DSp := fun as P => ∃ d, as = [.d d] ∧ P (.dat (.bool (listD d)))
/-- data, or {} -/
def DOq (d : PyData) : Prop := DOw d ∨ d = .dict []
theorem _root_.DL.DOw.q {d : PyData} (h : DOw d) : DOq d := .inl h
def spQ (f : PyData → Bool) : DSp := fun as P => ∃ d, as = [.d d] ∧ DOq d ∧ P (.dat (.bool (f d)))
def spForm : DSp := fun as P => ∃ d, as = [.d d, .d (.bool true)] ∧ DOq d ∧ P (.dat (.bool (readD d)))
section
variable {P : Program} {w : World} {K : PySem.W.Frag} {mg : Str → Option Value} {base : Heap} {f : Addr} {fd : FuncData}
theorem sc_is_integer : FnScope ["thing"] ["thing"] (defScope s_is_integer) := ⟨rfl, rfl, rfl, by decide +kernel, rfl, by decide +kernel, by decide +kernel⟩
theorem ok_is_integer (F : Fun K "is_integer" "is_integer" s_is_integer f fd) (T : Txt0 mg) : FnG P w K mg base 1 f fd ["thing"] (spF K (spP intD)) := by
  refine okD F sc_is_integer (fun as Q h => by obtain ⟨d, rfl, _⟩ := h; rfl) fun cdv A out s H E hG hr => have hu := units_ofx hr; ⟨_, (dss_one (ds_ret (DE.o (de_and (de_isi (T := "int") rfl (de_v (pv 0)) (by rfl) T.m_isinstance (by rfl) T.m_int (by decide +kernel) (by decide)) (de_one (de_not (de_isi (T := "bool") rfl (de_v (pv 0)) (by rfl) T.m_isinstance (by rfl) T.m_bool (by decide +kernel) (by decide)))))))), fun as Q h => ?_⟩
  obtain ⟨d, rfl, ok, q⟩ := h
  refine ⟨d, rfl, _, rfl, ?_⟩
  rw [isTy_int]
  cases d <;> first | exact q | exact ⟨_, rfl, _, rfl, q⟩
theorem sc_is_name : FnScope ["thing", "letter"] ["thing"] (defScope s_is_name) := ⟨rfl, rfl, rfl, by decide +kernel, rfl, by decide +kernel, by decide +kernel⟩
theorem ok_is_name (F : Fun K "is_name" "is_name" s_is_name f fd) (T : Txt0 mg) : FnG P w K mg base 1 f fd ["thing"] (spF K (spP nameD)) := by
  refine okD F sc_is_name (fun as Q h => by obtain ⟨d, rfl, _⟩ := h; rfl) fun cdv A out s H E hG hr => have hu := units_ofx hr; ⟨_, (dss_cons (ds_if (DW.db (dw_or (db_not (db_val (de_isi (T := "str") rfl (de_v (pv 0)) (by rfl) T.m_isinstance (by rfl) T.m_str (by decide +kernel) (by decide)))) (dw_or1 (db_not (db_chain op_le op_le od_Ib od_Ib de_int (de_len rfl T.m_len (de_v (pv 0))) (de_gInt (by rfl) T.g_LONGEST_NAME))))))
(dss_one (ds_ret (DE.o de_bl)))
dss_nil)
(dss_one (ds_ret (DE.o (de_all rfl rfl T.m_all (DO.d (do_lc (own := [("letter", 1)]) rfl sc_is_name.nd (di_any rfl (de_v (pv 0))) (blkOk_by (N := ["thing", "letter"]) (sc := defScope s_is_name) (by decide +kernel)) (fun _ _ _ _ _ => (dg_name (pg_name (i := 1) sc_is_name.nd rfl (.inl rfl)))) (fun _ _ _ _ _ => dts_nil) (fun _ _ _ _ _ => (DE.o (de_chain op_le_str op_le_str od_leS od_leS de_str (de_v (pv 1)) de_str)))))))))), fun as Q h => ?_⟩
  obtain ⟨d, rfl, ok, q⟩ := h
  cases d <;> (first | exact (dict_no ok).elim | skip) <;> (repeat' (first | refine ix0T ?_ | refine ix1T ?_ | refine ix2T ?_ | refine ix0L ?_ | refine ix1L ?_ | refine ix2L ?_ | refine ⟨_, rfl, ?_⟩ | refine ⟨_, _, rfl, rfl, (by show (_ : Nat) ≤ sizeLine; first | assumption | exact big (DOk.strLen (by assumption)) | exact big (DOk.tupLen (by assumption)) | exact big (DOk.lstLen (by assumption)) | exact big (DOw.strLen (by assumption)) | exact big (DOw.tupLen (by assumption)) | exact big (DOw.lstLen (by assumption)) | exact big (DOz.strLen (by assumption)) | exact big (DOz.tupLen (by assumption)) | exact big (DOz.lstLen (by assumption))), ?_⟩ | refine ⟨_, _, rfl, rfl, (by first | decide | (show (0 : Int) < _; decide)), ?_⟩ | refine ⟨_, _, rfl, rfl, ?_⟩ | refine eqR_str ?_ | refine eqR_int ?_ | refine neR_str ?_ | refine neR_int ?_ | refine And.intro rfl ?_ | refine addL (by first | assumption | (rw [sizeLine_eq]; omega) | (rw [sizeLine_eq]; simp; done) | (rw [sizeLine_eq]; simp only [List.length_append, List.length_cons, List.length_nil]; omega)) ?_ | refine addT (by first | assumption | (rw [sizeLine_eq]; omega) | (rw [sizeLine_eq]; simp; done) | (rw [sizeLine_eq]; simp only [List.length_append, List.length_cons, List.length_nil]; omega)) ?_ | refine And.intro (by assumption) ?_ | refine And.intro (by decide) ?_ | refine ⟨_, _, rfl, ?_⟩ | refine iteT rfl ?_ | refine iteF Bool.false_ne_true ?_)) <;> (try exact q)
  rename_i z
  refine iteB (fun e => ?_) (fun e => ?_)
  · have h1 : 1 ≤ z.length := by have := of_decide_eq_true e; omega
    repeat' (first | refine ix0T ?_ | refine ix1T ?_ | refine ix2T ?_ | refine ix0L ?_ | refine ix1L ?_ | refine ix2L ?_ | refine ⟨_, rfl, ?_⟩ | refine ⟨_, _, rfl, rfl, (by show (_ : Nat) ≤ sizeLine; first | assumption | exact big (DOk.strLen (by assumption)) | exact big (DOk.tupLen (by assumption)) | exact big (DOk.lstLen (by assumption)) | exact big (DOw.strLen (by assumption)) | exact big (DOw.tupLen (by assumption)) | exact big (DOw.lstLen (by assumption)) | exact big (DOz.strLen (by assumption)) | exact big (DOz.tupLen (by assumption)) | exact big (DOz.lstLen (by assumption))), ?_⟩ | refine ⟨_, _, rfl, rfl, (by first | decide | (show (0 : Int) < _; decide)), ?_⟩ | refine ⟨_, _, rfl, rfl, ?_⟩ | refine eqR_str ?_ | refine eqR_int ?_ | refine neR_str ?_ | refine neR_int ?_ | refine And.intro rfl ?_ | refine addL (by first | assumption | (rw [sizeLine_eq]; omega) | (rw [sizeLine_eq]; simp; done) | (rw [sizeLine_eq]; simp only [List.length_append, List.length_cons, List.length_nil]; omega)) ?_ | refine addT (by first | assumption | (rw [sizeLine_eq]; omega) | (rw [sizeLine_eq]; simp; done) | (rw [sizeLine_eq]; simp only [List.length_append, List.length_cons, List.length_nil]; omega)) ?_ | refine And.intro (by assumption) ?_ | refine And.intro (by decide) ?_ | refine ⟨_, _, rfl, ?_⟩ | refine iteT rfl ?_ | refine iteF Bool.false_ne_true ?_)
    refine iteB (fun e2 => ?_) (fun e2 => ?_)
    · have h2 : ¬ z.length ≤ 8 := by simp at e2; omega
      have e3 : nameD (.str z) = false := by
        show nameS z = false
        unfold nameS
        rw [decide_eq_false h2, Bool.false_and, Bool.and_false]
      rw [e3] at q
      exact q
    · have h2 : z.length ≤ 8 := by simp at e2; omega
      have e3 : nameD (.str z) = z.cps.toList.all letD := by
        show nameS z = _
        unfold nameS
        rw [decide_eq_true h1, decide_eq_true h2, Bool.true_and, Bool.true_and]
      rw [e3] at q
      repeat' (first | refine ix0T ?_ | refine ix1T ?_ | refine ix2T ?_ | refine ix0L ?_ | refine ix1L ?_ | refine ix2L ?_ | refine ⟨_, rfl, ?_⟩ | refine ⟨_, _, rfl, rfl, (by show (_ : Nat) ≤ sizeLine; first | assumption | exact big (DOk.strLen (by assumption)) | exact big (DOk.tupLen (by assumption)) | exact big (DOk.lstLen (by assumption)) | exact big (DOw.strLen (by assumption)) | exact big (DOw.tupLen (by assumption)) | exact big (DOw.lstLen (by assumption)) | exact big (DOz.strLen (by assumption)) | exact big (DOz.tupLen (by assumption)) | exact big (DOz.lstLen (by assumption))), ?_⟩ | refine ⟨_, _, rfl, rfl, (by first | decide | (show (0 : Int) < _; decide)), ?_⟩ | refine ⟨_, _, rfl, rfl, ?_⟩ | refine eqR_str ?_ | refine eqR_int ?_ | refine neR_str ?_ | refine neR_int ?_ | refine And.intro rfl ?_ | refine addL (by first | assumption | (rw [sizeLine_eq]; omega) | (rw [sizeLine_eq]; simp; done) | (rw [sizeLine_eq]; simp only [List.length_append, List.length_cons, List.length_nil]; omega)) ?_ | refine addT (by first | assumption | (rw [sizeLine_eq]; omega) | (rw [sizeLine_eq]; simp; done) | (rw [sizeLine_eq]; simp only [List.length_append, List.length_cons, List.length_nil]; omega)) ?_ | refine And.intro (by assumption) ?_ | refine And.intro (by decide) ?_ | refine ⟨_, _, rfl, ?_⟩ | refine iteT rfl ?_ | refine iteF Bool.false_ne_true ?_)
      refine lc_maps (fun c => PyData.str (signS c)) z.cps.toList (fun _ => true) (fun c => .dat (.bool (letD c))) (big' ok.strLen) (fun c hc yes no y1 y2 => ?_) ?_
      · have y := y1 rfl
        repeat' (first | refine ix0T ?_ | refine ix1T ?_ | refine ix2T ?_ | refine ix0L ?_ | refine ix1L ?_ | refine ix2L ?_ | refine ⟨_, rfl, ?_⟩ | refine ⟨_, _, rfl, rfl, (by show (_ : Nat) ≤ sizeLine; first | assumption | exact big (DOk.strLen (by assumption)) | exact big (DOk.tupLen (by assumption)) | exact big (DOk.lstLen (by assumption)) | exact big (DOw.strLen (by assumption)) | exact big (DOw.tupLen (by assumption)) | exact big (DOw.lstLen (by assumption)) | exact big (DOz.strLen (by assumption)) | exact big (DOz.tupLen (by assumption)) | exact big (DOz.lstLen (by assumption))), ?_⟩ | refine ⟨_, _, rfl, rfl, (by first | decide | (show (0 : Int) < _; decide)), ?_⟩ | refine ⟨_, _, rfl, rfl, ?_⟩ | refine eqR_str ?_ | refine eqR_int ?_ | refine neR_str ?_ | refine neR_int ?_ | refine And.intro rfl ?_ | refine addL (by first | assumption | (rw [sizeLine_eq]; omega) | (rw [sizeLine_eq]; simp; done) | (rw [sizeLine_eq]; simp only [List.length_append, List.length_cons, List.length_nil]; omega)) ?_ | refine addT (by first | assumption | (rw [sizeLine_eq]; omega) | (rw [sizeLine_eq]; simp; done) | (rw [sizeLine_eq]; simp only [List.length_append, List.length_cons, List.length_nil]; omega)) ?_ | refine And.intro (by assumption) ?_ | refine And.intro (by decide) ?_ | refine ⟨_, _, rfl, ?_⟩ | refine iteT rfl ?_ | refine iteF Bool.false_ne_true ?_)
        rw [le_a]
        refine iteB (fun e4 => ?_) (fun e4 => ?_)
        · repeat' (first | refine ix0T ?_ | refine ix1T ?_ | refine ix2T ?_ | refine ix0L ?_ | refine ix1L ?_ | refine ix2L ?_ | refine ⟨_, rfl, ?_⟩ | refine ⟨_, _, rfl, rfl, (by show (_ : Nat) ≤ sizeLine; first | assumption | exact big (DOk.strLen (by assumption)) | exact big (DOk.tupLen (by assumption)) | exact big (DOk.lstLen (by assumption)) | exact big (DOw.strLen (by assumption)) | exact big (DOw.tupLen (by assumption)) | exact big (DOw.lstLen (by assumption)) | exact big (DOz.strLen (by assumption)) | exact big (DOz.tupLen (by assumption)) | exact big (DOz.lstLen (by assumption))), ?_⟩ | refine ⟨_, _, rfl, rfl, (by first | decide | (show (0 : Int) < _; decide)), ?_⟩ | refine ⟨_, _, rfl, rfl, ?_⟩ | refine eqR_str ?_ | refine eqR_int ?_ | refine neR_str ?_ | refine neR_int ?_ | refine And.intro rfl ?_ | refine addL (by first | assumption | (rw [sizeLine_eq]; omega) | (rw [sizeLine_eq]; simp; done) | (rw [sizeLine_eq]; simp only [List.length_append, List.length_cons, List.length_nil]; omega)) ?_ | refine addT (by first | assumption | (rw [sizeLine_eq]; omega) | (rw [sizeLine_eq]; simp; done) | (rw [sizeLine_eq]; simp only [List.length_append, List.length_cons, List.length_nil]; omega)) ?_ | refine And.intro (by assumption) ?_ | refine And.intro (by decide) ?_ | refine ⟨_, _, rfl, ?_⟩ | refine iteT rfl ?_ | refine iteF Bool.false_ne_true ?_)
          rw [le_z]
          unfold letD at y
          rw [e4, Bool.true_and] at y
          exact y
        · unfold letD at y
          rw [e4, Bool.false_and] at y
          exact y
      · rw [List.filter_eq_self.mpr fun _ _ => rfl]
        refine ⟨z.cps.toList.map letD, ?_, ?_⟩
        · rw [erase_map, List.map_map]
          rfl
        · have e5 : (z.cps.toList.map letD).all id = z.cps.toList.all letD := by rw [List.all_map]; rfl
          rw [e5]
          exact q
  · have e3 : nameD (.str z) = false := by
      have h1 : ¬ 1 ≤ z.length := by have := of_decide_eq_false e; omega
      show nameS z = false
      unfold nameS
      rw [decide_eq_false h1, Bool.false_and]
    rw [e3] at q
    exact q
theorem sc_is_mark : FnScope ["thing"] ["thing"] (defScope s_is_mark) := ⟨rfl, rfl, rfl, by decide +kernel, rfl, by decide +kernel, by decide +kernel⟩
theorem ok_is_mark (F : Fun K "is_mark" "is_mark" s_is_mark f fd) (T : Txt0 mg) (c_int : ClG P w K mg base 1 "is_integer" (spF K (spP intD))) : FnG P w K mg base 2 f fd ["thing"] (spF K (spP markD)) := by
  refine okD F sc_is_mark (fun as Q h => by obtain ⟨d, rfl, _⟩ := h; rfl) fun cdv A out s H E hG hr => have hu := units_ofx hr; ⟨_, (dss_one (ds_ret (DE.o (de_and (DO.d (do_call rfl c_int hG hr (by omega) (by rfl) (dr_cons (de_v (pv 0)) dr_nil))) (de_one (de_chain op_le op_le od_Ib od_Ib de_int (de_v (pv 0)) (de_gInt (by rfl) T.g_HIGHEST_MARK))))))), fun as Q h => ?_⟩
  obtain ⟨d, rfl, ok, q⟩ := h
  cases d <;> (first | exact (dict_no ok).elim | skip) <;> (repeat' (first | refine ix0T ?_ | refine ix1T ?_ | refine ix2T ?_ | refine ix0L ?_ | refine ix1L ?_ | refine ix2L ?_ | refine ⟨_, rfl, ?_⟩ | refine ⟨_, _, rfl, rfl, (by show (_ : Nat) ≤ sizeLine; first | assumption | exact big (DOk.strLen (by assumption)) | exact big (DOk.tupLen (by assumption)) | exact big (DOk.lstLen (by assumption)) | exact big (DOw.strLen (by assumption)) | exact big (DOw.tupLen (by assumption)) | exact big (DOw.lstLen (by assumption)) | exact big (DOz.strLen (by assumption)) | exact big (DOz.tupLen (by assumption)) | exact big (DOz.lstLen (by assumption))), ?_⟩ | refine ⟨_, _, rfl, rfl, (by first | decide | (show (0 : Int) < _; decide)), ?_⟩ | refine ⟨_, _, rfl, rfl, ?_⟩ | refine eqR_str ?_ | refine eqR_int ?_ | refine neR_str ?_ | refine neR_int ?_ | refine And.intro rfl ?_ | refine addL (by first | assumption | (rw [sizeLine_eq]; omega) | (rw [sizeLine_eq]; simp; done) | (rw [sizeLine_eq]; simp only [List.length_append, List.length_cons, List.length_nil]; omega)) ?_ | refine addT (by first | assumption | (rw [sizeLine_eq]; omega) | (rw [sizeLine_eq]; simp; done) | (rw [sizeLine_eq]; simp only [List.length_append, List.length_cons, List.length_nil]; omega)) ?_ | refine And.intro (by assumption) ?_ | refine And.intro (by decide) ?_ | refine ⟨_, _, rfl, ?_⟩ | refine iteT rfl ?_ | refine iteF Bool.false_ne_true ?_)) <;> (try exact q)
  rename_i i
  have q2 : Q (O.dat (.bool (decide (0 ≤ i) && decide (i ≤ 3)))) := q
  refine iteB (fun e => ?_) (fun e => ?_)
  · rw [e, Bool.true_and] at q2
    repeat' (first | refine ix0T ?_ | refine ix1T ?_ | refine ix2T ?_ | refine ix0L ?_ | refine ix1L ?_ | refine ix2L ?_ | refine ⟨_, rfl, ?_⟩ | refine ⟨_, _, rfl, rfl, (by show (_ : Nat) ≤ sizeLine; first | assumption | exact big (DOk.strLen (by assumption)) | exact big (DOk.tupLen (by assumption)) | exact big (DOk.lstLen (by assumption)) | exact big (DOw.strLen (by assumption)) | exact big (DOw.tupLen (by assumption)) | exact big (DOw.lstLen (by assumption)) | exact big (DOz.strLen (by assumption)) | exact big (DOz.tupLen (by assumption)) | exact big (DOz.lstLen (by assumption))), ?_⟩ | refine ⟨_, _, rfl, rfl, (by first | decide | (show (0 : Int) < _; decide)), ?_⟩ | refine ⟨_, _, rfl, rfl, ?_⟩ | refine eqR_str ?_ | refine eqR_int ?_ | refine neR_str ?_ | refine neR_int ?_ | refine And.intro rfl ?_ | refine addL (by first | assumption | (rw [sizeLine_eq]; omega) | (rw [sizeLine_eq]; simp; done) | (rw [sizeLine_eq]; simp only [List.length_append, List.length_cons, List.length_nil]; omega)) ?_ | refine addT (by first | assumption | (rw [sizeLine_eq]; omega) | (rw [sizeLine_eq]; simp; done) | (rw [sizeLine_eq]; simp only [List.length_append, List.length_cons, List.length_nil]; omega)) ?_ | refine And.intro (by assumption) ?_ | refine And.intro (by decide) ?_ | refine ⟨_, _, rfl, ?_⟩ | refine iteT rfl ?_ | refine iteF Bool.false_ne_true ?_)
    exact q2
  · rw [e, Bool.false_and] at q2
    exact q2
theorem sc_fits_read : FnScope ["kind", "thing"] ["kind", "thing"] (defScope s_fits_read) := ⟨rfl, rfl, rfl, by decide +kernel, rfl, by decide +kernel, by decide +kernel⟩
theorem ok_fits_read (F : Fun K "fits_read" "fits_read" s_fits_read f fd) (T : Txt0 mg) (c_name : ClG P w K mg base 1 "is_name" (spF K (spP nameD))) (c_mark : ClG P w K mg base 2 "is_mark" (spF K (spP markD))) (c_int : ClG P w K mg base 1 "is_integer" (spF K (spP intD))) : FnG P w K mg base 3 f fd ["kind", "thing"] (spF K (spFits)) := by
  refine okD F sc_fits_read (fun as Q h => by obtain ⟨z, d, rfl, _⟩ := h; rfl) fun cdv A out s H E hG hr => have hu := units_ofx hr; ⟨_, (dss_cons (ds_if (db_eq rfl hu (de_v (pv 0)) de_str)
(dss_one (ds_ret (do_call rfl c_name hG hr (by omega) (by rfl) (dr_cons (de_v (pv 1)) dr_nil))))
dss_nil)
(dss_cons (ds_if (db_eq rfl hu (de_v (pv 0)) de_str)
(dss_one (ds_ret (do_call rfl c_mark hG hr (by omega) (by rfl) (dr_cons (de_v (pv 1)) dr_nil))))
dss_nil)
(dss_one (ds_ret (DE.o (de_and (DO.d (do_call rfl c_int hG hr (by omega) (by rfl) (dr_cons (de_v (pv 1)) dr_nil))) (de_one (de_cmp op_ge od_Ib (de_v (pv 1)) (de_if (db_eq rfl hu (de_v (pv 0)) de_str) (de_gInt (by rfl) T.g_NONE) de_int) (nomark _))))))))), fun as Q h => ?_⟩
  obtain ⟨z, d, rfl, ok, q⟩ := h
  unfold fitsD at q
  repeat' (first | refine ix0T ?_ | refine ix1T ?_ | refine ix2T ?_ | refine ix0L ?_ | refine ix1L ?_ | refine ix2L ?_ | refine ⟨_, rfl, ?_⟩ | refine ⟨_, _, rfl, rfl, (by show (_ : Nat) ≤ sizeLine; first | assumption | exact big (DOk.strLen (by assumption)) | exact big (DOk.tupLen (by assumption)) | exact big (DOk.lstLen (by assumption)) | exact big (DOw.strLen (by assumption)) | exact big (DOw.tupLen (by assumption)) | exact big (DOw.lstLen (by assumption)) | exact big (DOz.strLen (by assumption)) | exact big (DOz.tupLen (by assumption)) | exact big (DOz.lstLen (by assumption))), ?_⟩ | refine ⟨_, _, rfl, rfl, (by first | decide | (show (0 : Int) < _; decide)), ?_⟩ | refine ⟨_, _, rfl, rfl, ?_⟩ | refine eqR_str ?_ | refine eqR_int ?_ | refine neR_str ?_ | refine neR_int ?_ | refine And.intro rfl ?_ | refine addL (by first | assumption | (rw [sizeLine_eq]; omega) | (rw [sizeLine_eq]; simp; done) | (rw [sizeLine_eq]; simp only [List.length_append, List.length_cons, List.length_nil]; omega)) ?_ | refine addT (by first | assumption | (rw [sizeLine_eq]; omega) | (rw [sizeLine_eq]; simp; done) | (rw [sizeLine_eq]; simp only [List.length_append, List.length_cons, List.length_nil]; omega)) ?_ | refine And.intro (by assumption) ?_ | refine And.intro (by decide) ?_ | refine ⟨_, _, rfl, ?_⟩ | refine iteT rfl ?_ | refine iteF Bool.false_ne_true ?_)
  refine iteB (fun e => ?_) (fun e => ?_)
  · rw [if_pos (of_decide_eq_true e)] at q
    repeat' (first | refine ix0T ?_ | refine ix1T ?_ | refine ix2T ?_ | refine ix0L ?_ | refine ix1L ?_ | refine ix2L ?_ | refine ⟨_, rfl, ?_⟩ | refine ⟨_, _, rfl, rfl, (by show (_ : Nat) ≤ sizeLine; first | assumption | exact big (DOk.strLen (by assumption)) | exact big (DOk.tupLen (by assumption)) | exact big (DOk.lstLen (by assumption)) | exact big (DOw.strLen (by assumption)) | exact big (DOw.tupLen (by assumption)) | exact big (DOw.lstLen (by assumption)) | exact big (DOz.strLen (by assumption)) | exact big (DOz.tupLen (by assumption)) | exact big (DOz.lstLen (by assumption))), ?_⟩ | refine ⟨_, _, rfl, rfl, (by first | decide | (show (0 : Int) < _; decide)), ?_⟩ | refine ⟨_, _, rfl, rfl, ?_⟩ | refine eqR_str ?_ | refine eqR_int ?_ | refine neR_str ?_ | refine neR_int ?_ | refine And.intro rfl ?_ | refine addL (by first | assumption | (rw [sizeLine_eq]; omega) | (rw [sizeLine_eq]; simp; done) | (rw [sizeLine_eq]; simp only [List.length_append, List.length_cons, List.length_nil]; omega)) ?_ | refine addT (by first | assumption | (rw [sizeLine_eq]; omega) | (rw [sizeLine_eq]; simp; done) | (rw [sizeLine_eq]; simp only [List.length_append, List.length_cons, List.length_nil]; omega)) ?_ | refine And.intro (by assumption) ?_ | refine And.intro (by decide) ?_ | refine ⟨_, _, rfl, ?_⟩ | refine iteT rfl ?_ | refine iteF Bool.false_ne_true ?_)
    exact q
  rw [if_neg (of_decide_eq_false e)] at q
  repeat' (first | refine ix0T ?_ | refine ix1T ?_ | refine ix2T ?_ | refine ix0L ?_ | refine ix1L ?_ | refine ix2L ?_ | refine ⟨_, rfl, ?_⟩ | refine ⟨_, _, rfl, rfl, (by show (_ : Nat) ≤ sizeLine; first | assumption | exact big (DOk.strLen (by assumption)) | exact big (DOk.tupLen (by assumption)) | exact big (DOk.lstLen (by assumption)) | exact big (DOw.strLen (by assumption)) | exact big (DOw.tupLen (by assumption)) | exact big (DOw.lstLen (by assumption)) | exact big (DOz.strLen (by assumption)) | exact big (DOz.tupLen (by assumption)) | exact big (DOz.lstLen (by assumption))), ?_⟩ | refine ⟨_, _, rfl, rfl, (by first | decide | (show (0 : Int) < _; decide)), ?_⟩ | refine ⟨_, _, rfl, rfl, ?_⟩ | refine eqR_str ?_ | refine eqR_int ?_ | refine neR_str ?_ | refine neR_int ?_ | refine And.intro rfl ?_ | refine addL (by first | assumption | (rw [sizeLine_eq]; omega) | (rw [sizeLine_eq]; simp; done) | (rw [sizeLine_eq]; simp only [List.length_append, List.length_cons, List.length_nil]; omega)) ?_ | refine addT (by first | assumption | (rw [sizeLine_eq]; omega) | (rw [sizeLine_eq]; simp; done) | (rw [sizeLine_eq]; simp only [List.length_append, List.length_cons, List.length_nil]; omega)) ?_ | refine And.intro (by assumption) ?_ | refine And.intro (by decide) ?_ | refine ⟨_, _, rfl, ?_⟩ | refine iteT rfl ?_ | refine iteF Bool.false_ne_true ?_)
  refine iteB (fun e => ?_) (fun e => ?_)
  · rw [if_pos (of_decide_eq_true e)] at q
    repeat' (first | refine ix0T ?_ | refine ix1T ?_ | refine ix2T ?_ | refine ix0L ?_ | refine ix1L ?_ | refine ix2L ?_ | refine ⟨_, rfl, ?_⟩ | refine ⟨_, _, rfl, rfl, (by show (_ : Nat) ≤ sizeLine; first | assumption | exact big (DOk.strLen (by assumption)) | exact big (DOk.tupLen (by assumption)) | exact big (DOk.lstLen (by assumption)) | exact big (DOw.strLen (by assumption)) | exact big (DOw.tupLen (by assumption)) | exact big (DOw.lstLen (by assumption)) | exact big (DOz.strLen (by assumption)) | exact big (DOz.tupLen (by assumption)) | exact big (DOz.lstLen (by assumption))), ?_⟩ | refine ⟨_, _, rfl, rfl, (by first | decide | (show (0 : Int) < _; decide)), ?_⟩ | refine ⟨_, _, rfl, rfl, ?_⟩ | refine eqR_str ?_ | refine eqR_int ?_ | refine neR_str ?_ | refine neR_int ?_ | refine And.intro rfl ?_ | refine addL (by first | assumption | (rw [sizeLine_eq]; omega) | (rw [sizeLine_eq]; simp; done) | (rw [sizeLine_eq]; simp only [List.length_append, List.length_cons, List.length_nil]; omega)) ?_ | refine addT (by first | assumption | (rw [sizeLine_eq]; omega) | (rw [sizeLine_eq]; simp; done) | (rw [sizeLine_eq]; simp only [List.length_append, List.length_cons, List.length_nil]; omega)) ?_ | refine And.intro (by assumption) ?_ | refine And.intro (by decide) ?_ | refine ⟨_, _, rfl, ?_⟩ | refine iteT rfl ?_ | refine iteF Bool.false_ne_true ?_)
    exact q
  rw [if_neg (of_decide_eq_false e)] at q
  repeat' (first | refine ix0T ?_ | refine ix1T ?_ | refine ix2T ?_ | refine ix0L ?_ | refine ix1L ?_ | refine ix2L ?_ | refine ⟨_, rfl, ?_⟩ | refine ⟨_, _, rfl, rfl, (by show (_ : Nat) ≤ sizeLine; first | assumption | exact big (DOk.strLen (by assumption)) | exact big (DOk.tupLen (by assumption)) | exact big (DOk.lstLen (by assumption)) | exact big (DOw.strLen (by assumption)) | exact big (DOw.tupLen (by assumption)) | exact big (DOw.lstLen (by assumption)) | exact big (DOz.strLen (by assumption)) | exact big (DOz.tupLen (by assumption)) | exact big (DOz.lstLen (by assumption))), ?_⟩ | refine ⟨_, _, rfl, rfl, (by first | decide | (show (0 : Int) < _; decide)), ?_⟩ | refine ⟨_, _, rfl, rfl, ?_⟩ | refine eqR_str ?_ | refine eqR_int ?_ | refine neR_str ?_ | refine neR_int ?_ | refine And.intro rfl ?_ | refine addL (by first | assumption | (rw [sizeLine_eq]; omega) | (rw [sizeLine_eq]; simp; done) | (rw [sizeLine_eq]; simp only [List.length_append, List.length_cons, List.length_nil]; omega)) ?_ | refine addT (by first | assumption | (rw [sizeLine_eq]; omega) | (rw [sizeLine_eq]; simp; done) | (rw [sizeLine_eq]; simp only [List.length_append, List.length_cons, List.length_nil]; omega)) ?_ | refine And.intro (by assumption) ?_ | refine And.intro (by decide) ?_ | refine ⟨_, _, rfl, ?_⟩ | refine iteT rfl ?_ | refine iteF Bool.false_ne_true ?_)
  cases d <;> (first | exact (dict_no ok).elim | skip) <;> (repeat' (first | refine ix0T ?_ | refine ix1T ?_ | refine ix2T ?_ | refine ix0L ?_ | refine ix1L ?_ | refine ix2L ?_ | refine ⟨_, rfl, ?_⟩ | refine ⟨_, _, rfl, rfl, (by show (_ : Nat) ≤ sizeLine; first | assumption | exact big (DOk.strLen (by assumption)) | exact big (DOk.tupLen (by assumption)) | exact big (DOk.lstLen (by assumption)) | exact big (DOw.strLen (by assumption)) | exact big (DOw.tupLen (by assumption)) | exact big (DOw.lstLen (by assumption)) | exact big (DOz.strLen (by assumption)) | exact big (DOz.tupLen (by assumption)) | exact big (DOz.lstLen (by assumption))), ?_⟩ | refine ⟨_, _, rfl, rfl, (by first | decide | (show (0 : Int) < _; decide)), ?_⟩ | refine ⟨_, _, rfl, rfl, ?_⟩ | refine eqR_str ?_ | refine eqR_int ?_ | refine neR_str ?_ | refine neR_int ?_ | refine And.intro rfl ?_ | refine addL (by first | assumption | (rw [sizeLine_eq]; omega) | (rw [sizeLine_eq]; simp; done) | (rw [sizeLine_eq]; simp only [List.length_append, List.length_cons, List.length_nil]; omega)) ?_ | refine addT (by first | assumption | (rw [sizeLine_eq]; omega) | (rw [sizeLine_eq]; simp; done) | (rw [sizeLine_eq]; simp only [List.length_append, List.length_cons, List.length_nil]; omega)) ?_ | refine And.intro (by assumption) ?_ | refine And.intro (by decide) ?_ | refine ⟨_, _, rfl, ?_⟩ | refine iteT rfl ?_ | refine iteF Bool.false_ne_true ?_)) <;> (try exact q)
  rename_i i
  refine iteB (fun e => ?_) (fun e => ?_)
  · rw [if_pos (of_decide_eq_true e)] at q
    repeat' (first | refine ix0T ?_ | refine ix1T ?_ | refine ix2T ?_ | refine ix0L ?_ | refine ix1L ?_ | refine ix2L ?_ | refine ⟨_, rfl, ?_⟩ | refine ⟨_, _, rfl, rfl, (by show (_ : Nat) ≤ sizeLine; first | assumption | exact big (DOk.strLen (by assumption)) | exact big (DOk.tupLen (by assumption)) | exact big (DOk.lstLen (by assumption)) | exact big (DOw.strLen (by assumption)) | exact big (DOw.tupLen (by assumption)) | exact big (DOw.lstLen (by assumption)) | exact big (DOz.strLen (by assumption)) | exact big (DOz.tupLen (by assumption)) | exact big (DOz.lstLen (by assumption))), ?_⟩ | refine ⟨_, _, rfl, rfl, (by first | decide | (show (0 : Int) < _; decide)), ?_⟩ | refine ⟨_, _, rfl, rfl, ?_⟩ | refine eqR_str ?_ | refine eqR_int ?_ | refine neR_str ?_ | refine neR_int ?_ | refine And.intro rfl ?_ | refine addL (by first | assumption | (rw [sizeLine_eq]; omega) | (rw [sizeLine_eq]; simp; done) | (rw [sizeLine_eq]; simp only [List.length_append, List.length_cons, List.length_nil]; omega)) ?_ | refine addT (by first | assumption | (rw [sizeLine_eq]; omega) | (rw [sizeLine_eq]; simp; done) | (rw [sizeLine_eq]; simp only [List.length_append, List.length_cons, List.length_nil]; omega)) ?_ | refine And.intro (by assumption) ?_ | refine And.intro (by decide) ?_ | refine ⟨_, _, rfl, ?_⟩ | refine iteT rfl ?_ | refine iteF Bool.false_ne_true ?_)
    exact q
  · rw [if_neg (of_decide_eq_false e)] at q
    repeat' (first | refine ix0T ?_ | refine ix1T ?_ | refine ix2T ?_ | refine ix0L ?_ | refine ix1L ?_ | refine ix2L ?_ | refine ⟨_, rfl, ?_⟩ | refine ⟨_, _, rfl, rfl, (by show (_ : Nat) ≤ sizeLine; first | assumption | exact big (DOk.strLen (by assumption)) | exact big (DOk.tupLen (by assumption)) | exact big (DOk.lstLen (by assumption)) | exact big (DOw.strLen (by assumption)) | exact big (DOw.tupLen (by assumption)) | exact big (DOw.lstLen (by assumption)) | exact big (DOz.strLen (by assumption)) | exact big (DOz.tupLen (by assumption)) | exact big (DOz.lstLen (by assumption))), ?_⟩ | refine ⟨_, _, rfl, rfl, (by first | decide | (show (0 : Int) < _; decide)), ?_⟩ | refine ⟨_, _, rfl, rfl, ?_⟩ | refine eqR_str ?_ | refine eqR_int ?_ | refine neR_str ?_ | refine neR_int ?_ | refine And.intro rfl ?_ | refine addL (by first | assumption | (rw [sizeLine_eq]; omega) | (rw [sizeLine_eq]; simp; done) | (rw [sizeLine_eq]; simp only [List.length_append, List.length_cons, List.length_nil]; omega)) ?_ | refine addT (by first | assumption | (rw [sizeLine_eq]; omega) | (rw [sizeLine_eq]; simp; done) | (rw [sizeLine_eq]; simp only [List.length_append, List.length_cons, List.length_nil]; omega)) ?_ | refine And.intro (by assumption) ?_ | refine And.intro (by decide) ?_ | refine ⟨_, _, rfl, ?_⟩ | refine iteT rfl ?_ | refine iteF Bool.false_ne_true ?_)
    exact q
theorem sc_has_read_form : FnScope ["thing", "free", "kinds", "kind", "part"] ["thing", "free"] (defScope s_has_read_form) := ⟨rfl, rfl, rfl, by decide +kernel, rfl, by decide +kernel, by decide +kernel⟩
theorem ok_has_read_form (F : Fun K "has_read_form" "has_read_form" s_has_read_form f fd) (T : Txt0 mg) (TK : TxtK K w mg) (c_fits : ClG P w K mg base 3 "fits_read" (spF K (spFits))) : FnG P w K mg base 4 f fd ["thing", "free"] (spF K (spForm)) := by
  refine okD F sc_has_read_form (fun as Q h => by obtain ⟨d, rfl, _⟩ := h; rfl) fun cdv A out s H E hG hr => have hu := units_ofx hr; ⟨_, (dss_cons (ds_if (DW.db (dw_or (db_not (db_val (de_isi (T := "tuple") rfl (de_v (pv 0)) (by rfl) T.m_isinstance (by rfl) T.m_tuple (by decide +kernel) (by decide)))) (dw_or (db_eq rfl hu (de_len rfl T.m_len (de_v (pv 0))) de_int) (dw_or1 (db_not (db_val (de_isi (T := "str") rfl (de_ixA rfl (de_v (pv 0)) de_int) (by rfl) T.m_isinstance (by rfl) T.m_str (by decide +kernel) (by decide))))))))
(dss_one (ds_ret (DE.o de_bl)))
dss_nil)
(dss_cons (ds_set (i := 2) sc_has_read_form.nd rfl (.inl rfl) (DE.o (de_kget (by rfl) TK.g_READ_FORMS rfl (de_ixA rfl (de_v (pv 0)) de_int))))
(dss_cons (ds_if (DW.db (dw_or (db_cmp op_isN od_isN (de_v (pv 2)) de_non (nomark _)) (dw_or1 (db_ne rfl hu (de_len rfl T.m_len (de_v (pv 0))) (DO.d (do_add rfl (de_len rfl T.m_len (de_v (pv 2))) de_int))))))
(dss_one (ds_ret (DE.o de_bl)))
dss_nil)
(dss_one (ds_ret (DE.o (de_all rfl rfl T.m_all (DO.d (do_lc (own := [("kind", 3), ("part", 4)]) rfl sc_has_read_form.nd (di_zip rfl (by rfl) T.m_zip (da_cons (de_v (pv 2)) (da_cons (DO.d (do_sl rfl (de_v (pv 0)) (io_some de_int) io_none)) da_nil))) (blkOk_by (N := ["thing", "free", "kinds", "kind", "part"]) (sc := defScope s_has_read_form) (by decide +kernel)) (fun _ _ _ _ _ => (dg_tup (n := 2) rfl rfl (dgs_cons (dg_name (pg_name (i := 3) sc_has_read_form.nd rfl (.inl rfl))) (dgs_cons (dg_name (pg_name (i := 4) sc_has_read_form.nd rfl (.inl rfl))) dgs_nil)))) (fun _ _ _ _ _ => dts_nil) (fun _ _ _ _ _ => (DE.o (de_or (de_and (de_v (pv 1)) (de_one (de_cmp op_isN od_isN (de_v (pv 4)) de_non (nomark _)))) (de_one (DO.d (do_call rfl c_fits hG hr (by omega) (by rfl) (dr_cons (de_v (pv 3)) (dr_cons (de_v (pv 4)) dr_nil))))))))))))))))), fun as Q h => ?_⟩
  obtain ⟨d, rfl, ok, q⟩ := h
  rcases ok with ok | rfl
  rotate_left
  · repeat' (first | refine ix0T ?_ | refine ix1T ?_ | refine ix2T ?_ | refine ix0L ?_ | refine ix1L ?_ | refine ix2L ?_ | refine ⟨_, rfl, ?_⟩ | refine ⟨_, _, rfl, rfl, (by show (_ : Nat) ≤ sizeLine; first | assumption | exact big (DOk.strLen (by assumption)) | exact big (DOk.tupLen (by assumption)) | exact big (DOk.lstLen (by assumption)) | exact big (DOw.strLen (by assumption)) | exact big (DOw.tupLen (by assumption)) | exact big (DOw.lstLen (by assumption)) | exact big (DOz.strLen (by assumption)) | exact big (DOz.tupLen (by assumption)) | exact big (DOz.lstLen (by assumption))), ?_⟩ | refine ⟨_, _, rfl, rfl, (by first | decide | (show (0 : Int) < _; decide)), ?_⟩ | refine ⟨_, _, rfl, rfl, ?_⟩ | refine eqR_str ?_ | refine eqR_int ?_ | refine neR_str ?_ | refine neR_int ?_ | refine And.intro rfl ?_ | refine addL (by first | assumption | (rw [sizeLine_eq]; omega) | (rw [sizeLine_eq]; simp; done) | (rw [sizeLine_eq]; simp only [List.length_append, List.length_cons, List.length_nil]; omega)) ?_ | refine addT (by first | assumption | (rw [sizeLine_eq]; omega) | (rw [sizeLine_eq]; simp; done) | (rw [sizeLine_eq]; simp only [List.length_append, List.length_cons, List.length_nil]; omega)) ?_ | refine And.intro (by assumption) ?_ | refine And.intro (by decide) ?_ | refine ⟨_, _, rfl, ?_⟩ | refine iteT rfl ?_ | refine iteF Bool.false_ne_true ?_)
    exact q
  cases d <;> (first | exact (dict_no ok).elim | exact (dict_no1 ok).elim | skip) <;> (repeat' (first | refine ix0T ?_ | refine ix1T ?_ | refine ix2T ?_ | refine ix0L ?_ | refine ix1L ?_ | refine ix2L ?_ | refine ⟨_, rfl, ?_⟩ | refine ⟨_, _, rfl, rfl, (by show (_ : Nat) ≤ sizeLine; first | assumption | exact big (DOk.strLen (by assumption)) | exact big (DOk.tupLen (by assumption)) | exact big (DOk.lstLen (by assumption)) | exact big (DOw.strLen (by assumption)) | exact big (DOw.tupLen (by assumption)) | exact big (DOw.lstLen (by assumption)) | exact big (DOz.strLen (by assumption)) | exact big (DOz.tupLen (by assumption)) | exact big (DOz.lstLen (by assumption))), ?_⟩ | refine ⟨_, _, rfl, rfl, (by first | decide | (show (0 : Int) < _; decide)), ?_⟩ | refine ⟨_, _, rfl, rfl, ?_⟩ | refine eqR_str ?_ | refine eqR_int ?_ | refine neR_str ?_ | refine neR_int ?_ | refine And.intro rfl ?_ | refine addL (by first | assumption | (rw [sizeLine_eq]; omega) | (rw [sizeLine_eq]; simp; done) | (rw [sizeLine_eq]; simp only [List.length_append, List.length_cons, List.length_nil]; omega)) ?_ | refine addT (by first | assumption | (rw [sizeLine_eq]; omega) | (rw [sizeLine_eq]; simp; done) | (rw [sizeLine_eq]; simp only [List.length_append, List.length_cons, List.length_nil]; omega)) ?_ | refine And.intro (by assumption) ?_ | refine And.intro (by decide) ?_ | refine ⟨_, _, rfl, ?_⟩ | refine iteT rfl ?_ | refine iteF Bool.false_ne_true ?_)) <;> (try exact q)
  rename_i ds
  cases ds with
  | nil =>
    repeat' (first | refine ix0T ?_ | refine ix1T ?_ | refine ix2T ?_ | refine ix0L ?_ | refine ix1L ?_ | refine ix2L ?_ | refine ⟨_, rfl, ?_⟩ | refine ⟨_, _, rfl, rfl, (by show (_ : Nat) ≤ sizeLine; first | assumption | exact big (DOk.strLen (by assumption)) | exact big (DOk.tupLen (by assumption)) | exact big (DOk.lstLen (by assumption)) | exact big (DOw.strLen (by assumption)) | exact big (DOw.tupLen (by assumption)) | exact big (DOw.lstLen (by assumption)) | exact big (DOz.strLen (by assumption)) | exact big (DOz.tupLen (by assumption)) | exact big (DOz.lstLen (by assumption))), ?_⟩ | refine ⟨_, _, rfl, rfl, (by first | decide | (show (0 : Int) < _; decide)), ?_⟩ | refine ⟨_, _, rfl, rfl, ?_⟩ | refine eqR_str ?_ | refine eqR_int ?_ | refine neR_str ?_ | refine neR_int ?_ | refine And.intro rfl ?_ | refine addL (by first | assumption | (rw [sizeLine_eq]; omega) | (rw [sizeLine_eq]; simp; done) | (rw [sizeLine_eq]; simp only [List.length_append, List.length_cons, List.length_nil]; omega)) ?_ | refine addT (by first | assumption | (rw [sizeLine_eq]; omega) | (rw [sizeLine_eq]; simp; done) | (rw [sizeLine_eq]; simp only [List.length_append, List.length_cons, List.length_nil]; omega)) ?_ | refine And.intro (by assumption) ?_ | refine And.intro (by decide) ?_ | refine ⟨_, _, rfl, ?_⟩ | refine iteT rfl ?_ | refine iteF Bool.false_ne_true ?_)
    exact q
  | cons d ds =>
    repeat' (first | refine ix0T ?_ | refine ix1T ?_ | refine ix2T ?_ | refine ix0L ?_ | refine ix1L ?_ | refine ix2L ?_ | refine ⟨_, rfl, ?_⟩ | refine ⟨_, _, rfl, rfl, (by show (_ : Nat) ≤ sizeLine; first | assumption | exact big (DOk.strLen (by assumption)) | exact big (DOk.tupLen (by assumption)) | exact big (DOk.lstLen (by assumption)) | exact big (DOw.strLen (by assumption)) | exact big (DOw.tupLen (by assumption)) | exact big (DOw.lstLen (by assumption)) | exact big (DOz.strLen (by assumption)) | exact big (DOz.tupLen (by assumption)) | exact big (DOz.lstLen (by assumption))), ?_⟩ | refine ⟨_, _, rfl, rfl, (by first | decide | (show (0 : Int) < _; decide)), ?_⟩ | refine ⟨_, _, rfl, rfl, ?_⟩ | refine eqR_str ?_ | refine eqR_int ?_ | refine neR_str ?_ | refine neR_int ?_ | refine And.intro rfl ?_ | refine addL (by first | assumption | (rw [sizeLine_eq]; omega) | (rw [sizeLine_eq]; simp; done) | (rw [sizeLine_eq]; simp only [List.length_append, List.length_cons, List.length_nil]; omega)) ?_ | refine addT (by first | assumption | (rw [sizeLine_eq]; omega) | (rw [sizeLine_eq]; simp; done) | (rw [sizeLine_eq]; simp only [List.length_append, List.length_cons, List.length_nil]; omega)) ?_ | refine And.intro (by assumption) ?_ | refine And.intro (by decide) ?_ | refine ⟨_, _, rfl, ?_⟩ | refine iteT rfl ?_ | refine iteF Bool.false_ne_true ?_)
    cases d <;> (first | exact (dict_no ok).elim | exact (dict_no1 ok).elim | skip) <;> (repeat' (first | refine ix0T ?_ | refine ix1T ?_ | refine ix2T ?_ | refine ix0L ?_ | refine ix1L ?_ | refine ix2L ?_ | refine ⟨_, rfl, ?_⟩ | refine ⟨_, _, rfl, rfl, (by show (_ : Nat) ≤ sizeLine; first | assumption | exact big (DOk.strLen (by assumption)) | exact big (DOk.tupLen (by assumption)) | exact big (DOk.lstLen (by assumption)) | exact big (DOw.strLen (by assumption)) | exact big (DOw.tupLen (by assumption)) | exact big (DOw.lstLen (by assumption)) | exact big (DOz.strLen (by assumption)) | exact big (DOz.tupLen (by assumption)) | exact big (DOz.lstLen (by assumption))), ?_⟩ | refine ⟨_, _, rfl, rfl, (by first | decide | (show (0 : Int) < _; decide)), ?_⟩ | refine ⟨_, _, rfl, rfl, ?_⟩ | refine eqR_str ?_ | refine eqR_int ?_ | refine neR_str ?_ | refine neR_int ?_ | refine And.intro rfl ?_ | refine addL (by first | assumption | (rw [sizeLine_eq]; omega) | (rw [sizeLine_eq]; simp; done) | (rw [sizeLine_eq]; simp only [List.length_append, List.length_cons, List.length_nil]; omega)) ?_ | refine addT (by first | assumption | (rw [sizeLine_eq]; omega) | (rw [sizeLine_eq]; simp; done) | (rw [sizeLine_eq]; simp only [List.length_append, List.length_cons, List.length_nil]; omega)) ?_ | refine And.intro (by assumption) ?_ | refine And.intro (by decide) ?_ | refine ⟨_, _, rfl, ?_⟩ | refine iteT rfl ?_ | refine iteF Bool.false_ne_true ?_)) <;> (try exact q)
    rename_i z
    have q2 : Q (O.dat (.bool (match tabGet t_READ_FORMS z with | some ys => fitsAll ys ds | none => false))) := q
    cases ht : tabGet t_READ_FORMS z with
    | none =>
      rw [ht] at q2
      repeat' (first | refine ix0T ?_ | refine ix1T ?_ | refine ix2T ?_ | refine ix0L ?_ | refine ix1L ?_ | refine ix2L ?_ | refine ⟨_, rfl, ?_⟩ | refine ⟨_, _, rfl, rfl, (by show (_ : Nat) ≤ sizeLine; first | assumption | exact big (DOk.strLen (by assumption)) | exact big (DOk.tupLen (by assumption)) | exact big (DOk.lstLen (by assumption)) | exact big (DOw.strLen (by assumption)) | exact big (DOw.tupLen (by assumption)) | exact big (DOw.lstLen (by assumption)) | exact big (DOz.strLen (by assumption)) | exact big (DOz.tupLen (by assumption)) | exact big (DOz.lstLen (by assumption))), ?_⟩ | refine ⟨_, _, rfl, rfl, (by first | decide | (show (0 : Int) < _; decide)), ?_⟩ | refine ⟨_, _, rfl, rfl, ?_⟩ | refine eqR_str ?_ | refine eqR_int ?_ | refine neR_str ?_ | refine neR_int ?_ | refine And.intro rfl ?_ | refine addL (by first | assumption | (rw [sizeLine_eq]; omega) | (rw [sizeLine_eq]; simp; done) | (rw [sizeLine_eq]; simp only [List.length_append, List.length_cons, List.length_nil]; omega)) ?_ | refine addT (by first | assumption | (rw [sizeLine_eq]; omega) | (rw [sizeLine_eq]; simp; done) | (rw [sizeLine_eq]; simp only [List.length_append, List.length_cons, List.length_nil]; omega)) ?_ | refine And.intro (by assumption) ?_ | refine And.intro (by decide) ?_ | refine ⟨_, _, rfl, ?_⟩ | refine iteT rfl ?_ | refine iteF Bool.false_ne_true ?_)
      exact q2
    | some ys =>
      rw [ht] at q2
      have q3 : Q (O.dat (.bool (fitsAll ys ds))) := q2
      have hy : (ys.map PyData.str).length ≤ sizeLine := by
        have := forms_few ht
        rw [List.length_map, sizeLine_eq]
        omega
      repeat' (first | refine ix0T ?_ | refine ix1T ?_ | refine ix2T ?_ | refine ix0L ?_ | refine ix1L ?_ | refine ix2L ?_ | refine ⟨_, rfl, ?_⟩ | refine ⟨_, _, rfl, rfl, (by show (_ : Nat) ≤ sizeLine; first | assumption | exact big (DOk.strLen (by assumption)) | exact big (DOk.tupLen (by assumption)) | exact big (DOk.lstLen (by assumption)) | exact big (DOw.strLen (by assumption)) | exact big (DOw.tupLen (by assumption)) | exact big (DOw.lstLen (by assumption)) | exact big (DOz.strLen (by assumption)) | exact big (DOz.tupLen (by assumption)) | exact big (DOz.lstLen (by assumption))), ?_⟩ | refine ⟨_, _, rfl, rfl, (by first | decide | (show (0 : Int) < _; decide)), ?_⟩ | refine ⟨_, _, rfl, rfl, ?_⟩ | refine eqR_str ?_ | refine eqR_int ?_ | refine neR_str ?_ | refine neR_int ?_ | refine And.intro rfl ?_ | refine addL (by first | assumption | (rw [sizeLine_eq]; omega) | (rw [sizeLine_eq]; simp; done) | (rw [sizeLine_eq]; simp only [List.length_append, List.length_cons, List.length_nil]; omega)) ?_ | refine addT (by first | assumption | (rw [sizeLine_eq]; omega) | (rw [sizeLine_eq]; simp; done) | (rw [sizeLine_eq]; simp only [List.length_append, List.length_cons, List.length_nil]; omega)) ?_ | refine And.intro (by assumption) ?_ | refine And.intro (by decide) ?_ | refine ⟨_, _, rfl, ?_⟩ | refine iteT rfl ?_ | refine iteF Bool.false_ne_true ?_)
      refine iteB (fun e => ?_) (fun e => ?_)
      · have e2 : fitsAll ys ds = false := by
          cases e3 : fitsAll ys ds with
          | false => rfl
          | true =>
            have := fits_len e3
            simp at e
            omega
        rw [e2] at q3
        exact q3
      · have hl : ds.length = ys.length := by
          simp at e
          omega
        repeat' (first | refine ix0T ?_ | refine ix1T ?_ | refine ix2T ?_ | refine ix0L ?_ | refine ix1L ?_ | refine ix2L ?_ | refine ⟨_, rfl, ?_⟩ | refine ⟨_, _, rfl, rfl, (by show (_ : Nat) ≤ sizeLine; first | assumption | exact big (DOk.strLen (by assumption)) | exact big (DOk.tupLen (by assumption)) | exact big (DOk.lstLen (by assumption)) | exact big (DOw.strLen (by assumption)) | exact big (DOw.tupLen (by assumption)) | exact big (DOw.lstLen (by assumption)) | exact big (DOz.strLen (by assumption)) | exact big (DOz.tupLen (by assumption)) | exact big (DOz.lstLen (by assumption))), ?_⟩ | refine ⟨_, _, rfl, rfl, (by first | decide | (show (0 : Int) < _; decide)), ?_⟩ | refine ⟨_, _, rfl, rfl, ?_⟩ | refine eqR_str ?_ | refine eqR_int ?_ | refine neR_str ?_ | refine neR_int ?_ | refine And.intro rfl ?_ | refine addL (by first | assumption | (rw [sizeLine_eq]; omega) | (rw [sizeLine_eq]; simp; done) | (rw [sizeLine_eq]; simp only [List.length_append, List.length_cons, List.length_nil]; omega)) ?_ | refine addT (by first | assumption | (rw [sizeLine_eq]; omega) | (rw [sizeLine_eq]; simp; done) | (rw [sizeLine_eq]; simp only [List.length_append, List.length_cons, List.length_nil]; omega)) ?_ | refine And.intro (by assumption) ?_ | refine And.intro (by decide) ?_ | refine ⟨_, _, rfl, ?_⟩ | refine iteT rfl ?_ | refine iteF Bool.false_ne_true ?_)
        refine ⟨_, _, _, _, rfl, .inr ⟨rfl, rfl⟩, ?_⟩
        rw [cut1, zip_str]
        rw [fits_zip hl] at q3
        refine lc_maps (fun p : Str × PyData => pairD (.str p.1, p.2)) (ys.zip ds) (fun _ => true) (fun p => .dat (.bool (wishD p.1 p.2))) ?_ (fun p hp yes no y1 y2 => ?_) ?_
        · rw [List.length_zip]
          have := forms_few ht
          rw [sizeLine_eq]
          omega
        · have y := y1 rfl
          have okp := ok.tup _ (List.mem_cons_of_mem _ (List.of_mem_zip hp).2)
          refine ⟨_, rfl, ⟨_, rfl⟩, rfl, _, _, rfl, _, _, rfl, rfl, ?_⟩
          obtain ⟨pk, pd⟩ := p
          cases pd <;> (repeat' (first | refine ix0T ?_ | refine ix1T ?_ | refine ix2T ?_ | refine ix0L ?_ | refine ix1L ?_ | refine ix2L ?_ | refine ⟨_, rfl, ?_⟩ | refine ⟨_, _, rfl, rfl, (by show (_ : Nat) ≤ sizeLine; first | assumption | exact big (DOk.strLen (by assumption)) | exact big (DOk.tupLen (by assumption)) | exact big (DOk.lstLen (by assumption)) | exact big (DOw.strLen (by assumption)) | exact big (DOw.tupLen (by assumption)) | exact big (DOw.lstLen (by assumption)) | exact big (DOz.strLen (by assumption)) | exact big (DOz.tupLen (by assumption)) | exact big (DOz.lstLen (by assumption))), ?_⟩ | refine ⟨_, _, rfl, rfl, (by first | decide | (show (0 : Int) < _; decide)), ?_⟩ | refine ⟨_, _, rfl, rfl, ?_⟩ | refine eqR_str ?_ | refine eqR_int ?_ | refine neR_str ?_ | refine neR_int ?_ | refine And.intro rfl ?_ | refine addL (by first | assumption | (rw [sizeLine_eq]; omega) | (rw [sizeLine_eq]; simp; done) | (rw [sizeLine_eq]; simp only [List.length_append, List.length_cons, List.length_nil]; omega)) ?_ | refine addT (by first | assumption | (rw [sizeLine_eq]; omega) | (rw [sizeLine_eq]; simp; done) | (rw [sizeLine_eq]; simp only [List.length_append, List.length_cons, List.length_nil]; omega)) ?_ | refine And.intro (by assumption) ?_ | refine And.intro (by decide) ?_ | refine ⟨_, _, rfl, ?_⟩ | refine iteT rfl ?_ | refine iteF Bool.false_ne_true ?_)) <;> (try exact y)
        · rw [List.filter_eq_self.mpr fun _ _ => rfl]
          refine ⟨(ys.zip ds).map fun p => wishD p.1 p.2, ?_, ?_⟩
          · rw [erase_map, List.map_map]
            rfl
          · have e5 : ((ys.zip ds).map fun p => wishD p.1 p.2).all id = (ys.zip ds).all fun p => wishD p.1 p.2 := by rw [List.all_map]; rfl
            rw [e5]
            exact q3
theorem sc_is_number : FnScope ["many", "thing"] ["many", "thing"] (defScope s_is_number) := ⟨rfl, rfl, rfl, by decide +kernel, rfl, by decide +kernel, by decide +kernel⟩
theorem ok_is_number (F : Fun K "is_number" "is_number" s_is_number f fd) (T : Txt0 mg) (c_int : ClG P w K mg base 1 "is_integer" (spF K (spP intD))) : FnG P w K mg base 2 f fd ["many", "thing"] (spF K spNum) := by
  refine okD F sc_is_number (fun as Q h => by obtain ⟨n, d, rfl, _⟩ := h; rfl) fun cdv A out s H E hG hr => have hu := units_ofx hr; ⟨_, (dss_one (ds_ret (DE.o (de_and (DO.d (do_call rfl c_int hG hr (by omega) (by rfl) (dr_cons (de_v (pv 1)) dr_nil))) (de_one (de_chain op_le op_lt od_Ib od_Ib de_int (de_v (pv 1)) (de_v (pv 0)))))))), fun as Q h => ?_⟩
  obtain ⟨n, d, rfl, ok, q⟩ := h
  cases d <;> (first | exact (dict_no ok).elim | exact (dict_no1 ok).elim | skip) <;> (repeat' (first | refine ix0T ?_ | refine ix1T ?_ | refine ix2T ?_ | refine ix0L ?_ | refine ix1L ?_ | refine ix2L ?_ | refine ⟨_, rfl, ?_⟩ | refine ⟨_, _, rfl, rfl, (by show (_ : Nat) ≤ sizeLine; first | assumption | exact big (DOk.strLen (by assumption)) | exact big (DOk.tupLen (by assumption)) | exact big (DOk.lstLen (by assumption)) | exact big (DOw.strLen (by assumption)) | exact big (DOw.tupLen (by assumption)) | exact big (DOw.lstLen (by assumption)) | exact big (DOz.strLen (by assumption)) | exact big (DOz.tupLen (by assumption)) | exact big (DOz.lstLen (by assumption))), ?_⟩ | refine ⟨_, _, rfl, rfl, (by first | decide | (show (0 : Int) < _; decide)), ?_⟩ | refine ⟨_, _, rfl, rfl, ?_⟩ | refine eqR_str ?_ | refine eqR_int ?_ | refine neR_str ?_ | refine neR_int ?_ | refine And.intro rfl ?_ | refine addL (by first | assumption | (rw [sizeLine_eq]; omega) | (rw [sizeLine_eq]; simp; done) | (rw [sizeLine_eq]; simp only [List.length_append, List.length_cons, List.length_nil]; omega)) ?_ | refine addT (by first | assumption | (rw [sizeLine_eq]; omega) | (rw [sizeLine_eq]; simp; done) | (rw [sizeLine_eq]; simp only [List.length_append, List.length_cons, List.length_nil]; omega)) ?_ | refine And.intro (by assumption) ?_ | refine And.intro (by decide) ?_ | refine ⟨_, _, rfl, ?_⟩ | refine iteT rfl ?_ | refine iteF Bool.false_ne_true ?_)) <;> (try exact q)
  rename_i i
  have q2 : Q (O.dat (.bool (decide (0 ≤ i) && decide (i < n)))) := q
  refine iteB (fun e => ?_) (fun e => ?_)
  · rw [e, Bool.true_and] at q2
    repeat' (first | refine ix0T ?_ | refine ix1T ?_ | refine ix2T ?_ | refine ix0L ?_ | refine ix1L ?_ | refine ix2L ?_ | refine ⟨_, rfl, ?_⟩ | refine ⟨_, _, rfl, rfl, (by show (_ : Nat) ≤ sizeLine; first | assumption | exact big (DOk.strLen (by assumption)) | exact big (DOk.tupLen (by assumption)) | exact big (DOk.lstLen (by assumption)) | exact big (DOw.strLen (by assumption)) | exact big (DOw.tupLen (by assumption)) | exact big (DOw.lstLen (by assumption)) | exact big (DOz.strLen (by assumption)) | exact big (DOz.tupLen (by assumption)) | exact big (DOz.lstLen (by assumption))), ?_⟩ | refine ⟨_, _, rfl, rfl, (by first | decide | (show (0 : Int) < _; decide)), ?_⟩ | refine ⟨_, _, rfl, rfl, ?_⟩ | refine eqR_str ?_ | refine eqR_int ?_ | refine neR_str ?_ | refine neR_int ?_ | refine And.intro rfl ?_ | refine addL (by first | assumption | (rw [sizeLine_eq]; omega) | (rw [sizeLine_eq]; simp; done) | (rw [sizeLine_eq]; simp only [List.length_append, List.length_cons, List.length_nil]; omega)) ?_ | refine addT (by first | assumption | (rw [sizeLine_eq]; omega) | (rw [sizeLine_eq]; simp; done) | (rw [sizeLine_eq]; simp only [List.length_append, List.length_cons, List.length_nil]; omega)) ?_ | refine And.intro (by assumption) ?_ | refine And.intro (by decide) ?_ | refine ⟨_, _, rfl, ?_⟩ | refine iteT rfl ?_ | refine iteF Bool.false_ne_true ?_)
    exact q2
  · rw [e, Bool.false_and] at q2
    exact q2
theorem sc_is_list : FnScope ["thing"] ["thing"] (defScope s_is_list) := ⟨rfl, rfl, rfl, by decide +kernel, rfl, by decide +kernel, by decide +kernel⟩
theorem ok_is_list (F : Fun K "is_list" "is_list" s_is_list f fd) (T : Txt0 mg) : FnG P w K mg base 1 f fd ["thing"] (spF K spList) := by
  refine okD F sc_is_list (fun as Q h => by obtain ⟨d, rfl, _⟩ := h; rfl) fun cdv A out s H E hG hr => have hu := units_ofx hr; ⟨_, (dss_one (ds_ret (DE.o (de_isi2 (T := "list") (U := "tuple") rfl (de_v (pv 0)) (by rfl) T.m_isinstance (by rfl) T.m_list (by decide +kernel) (by rfl) T.m_tuple (by decide +kernel) (by decide) (by decide))))), fun as Q h => ?_⟩
  obtain ⟨d, rfl, q⟩ := h
  exact ⟨d, rfl, q⟩
theorem sc_is_promise_row : FnScope ["thing"] ["thing"] (defScope s_is_promise_row) := ⟨rfl, rfl, rfl, by decide +kernel, rfl, by decide +kernel, by decide +kernel⟩
theorem ok_is_promise_row (F : Fun K "is_promise_row" "is_promise_row" s_is_promise_row f fd) (T : Txt0 mg) (c_number : ClG P w K mg base 2 "is_number" (spF K spNum)) (c_form : ClG P w K mg base 4 "has_read_form" (spF K spForm)) : FnG P w K mg base 5 f fd ["thing"] (spF K (spP rowP)) := by
  refine okD F sc_is_promise_row (fun as Q h => by obtain ⟨d, rfl, _⟩ := h; rfl) fun cdv A out s H E hG hr => have hu := units_ofx hr; ⟨_, (dss_cons (ds_if (DW.db (dw_or (db_not (db_val (de_isi (T := "tuple") rfl (de_v (pv 0)) (by rfl) T.m_isinstance (by rfl) T.m_tuple (by decide +kernel) (by decide)))) (dw_or (db_ne rfl hu (de_len rfl T.m_len (de_v (pv 0))) de_int) (dw_or1 (db_not (db_val (DO.d (do_call rfl c_number hG hr (by omega) (by rfl) (dr_cons (de_gInt (by rfl) T.g_MANY_STATES) (dr_cons (de_ixA rfl (de_v (pv 0)) de_int) dr_nil))))))))))
(dss_one (ds_ret (DE.o de_bl)))
dss_nil)
(dss_one (ds_ret (DE.o (de_and (DO.d (do_call rfl c_form hG hr (by omega) (by rfl) (dr_cons (de_ixA rfl (de_v (pv 0)) de_int) (dr_cons de_bl dr_nil)))) (de_one (de_or (de_cmp op_isN od_isN (de_ixA rfl (de_v (pv 0)) de_int) de_non (nomark _)) (de_one (DO.d (do_call rfl c_number hG hr (by omega) (by rfl) (dr_cons (de_gInt (by rfl) T.g_MANY_STATES) (dr_cons (de_ixA rfl (de_v (pv 0)) de_int) dr_nil)))))))))))), fun as Q h => ?_⟩
  obtain ⟨d, rfl, ok, q⟩ := h
  cases d <;> (first | exact (dict_no ok).elim | exact (dict_no1 ok).elim | skip) <;> (repeat' (first | refine ix0T ?_ | refine ix1T ?_ | refine ix2T ?_ | refine ix0L ?_ | refine ix1L ?_ | refine ix2L ?_ | refine ⟨_, rfl, ?_⟩ | refine ⟨_, _, rfl, rfl, (by show (_ : Nat) ≤ sizeLine; first | assumption | exact big (DOk.strLen (by assumption)) | exact big (DOk.tupLen (by assumption)) | exact big (DOk.lstLen (by assumption)) | exact big (DOw.strLen (by assumption)) | exact big (DOw.tupLen (by assumption)) | exact big (DOw.lstLen (by assumption)) | exact big (DOz.strLen (by assumption)) | exact big (DOz.tupLen (by assumption)) | exact big (DOz.lstLen (by assumption))), ?_⟩ | refine ⟨_, _, rfl, rfl, (by first | decide | (show (0 : Int) < _; decide)), ?_⟩ | refine ⟨_, _, rfl, rfl, ?_⟩ | refine eqR_str ?_ | refine eqR_int ?_ | refine neR_str ?_ | refine neR_int ?_ | refine And.intro rfl ?_ | refine addL (by first | assumption | (rw [sizeLine_eq]; omega) | (rw [sizeLine_eq]; simp; done) | (rw [sizeLine_eq]; simp only [List.length_append, List.length_cons, List.length_nil]; omega)) ?_ | refine addT (by first | assumption | (rw [sizeLine_eq]; omega) | (rw [sizeLine_eq]; simp; done) | (rw [sizeLine_eq]; simp only [List.length_append, List.length_cons, List.length_nil]; omega)) ?_ | refine And.intro (by assumption) ?_ | refine And.intro (by decide) ?_ | refine ⟨_, _, rfl, ?_⟩ | refine iteT rfl ?_ | refine iteF Bool.false_ne_true ?_)) <;> (try exact q)
  rename_i xs
  rcases xs with _ | ⟨a, _ | ⟨b, _ | ⟨c, _ | ⟨e, r⟩⟩⟩⟩
  · repeat' (first | refine ix0T ?_ | refine ix1T ?_ | refine ix2T ?_ | refine ix0L ?_ | refine ix1L ?_ | refine ix2L ?_ | refine ⟨_, rfl, ?_⟩ | refine ⟨_, _, rfl, rfl, (by show (_ : Nat) ≤ sizeLine; first | assumption | exact big (DOk.strLen (by assumption)) | exact big (DOk.tupLen (by assumption)) | exact big (DOk.lstLen (by assumption)) | exact big (DOw.strLen (by assumption)) | exact big (DOw.tupLen (by assumption)) | exact big (DOw.lstLen (by assumption)) | exact big (DOz.strLen (by assumption)) | exact big (DOz.tupLen (by assumption)) | exact big (DOz.lstLen (by assumption))), ?_⟩ | refine ⟨_, _, rfl, rfl, (by first | decide | (show (0 : Int) < _; decide)), ?_⟩ | refine ⟨_, _, rfl, rfl, ?_⟩ | refine eqR_str ?_ | refine eqR_int ?_ | refine neR_str ?_ | refine neR_int ?_ | refine And.intro rfl ?_ | refine addL (by first | assumption | (rw [sizeLine_eq]; omega) | (rw [sizeLine_eq]; simp; done) | (rw [sizeLine_eq]; simp only [List.length_append, List.length_cons, List.length_nil]; omega)) ?_ | refine addT (by first | assumption | (rw [sizeLine_eq]; omega) | (rw [sizeLine_eq]; simp; done) | (rw [sizeLine_eq]; simp only [List.length_append, List.length_cons, List.length_nil]; omega)) ?_ | refine And.intro (by assumption) ?_ | refine And.intro (by decide) ?_ | refine ⟨_, _, rfl, ?_⟩ | refine iteT rfl ?_ | refine iteF Bool.false_ne_true ?_)
    exact q
  · repeat' (first | refine ix0T ?_ | refine ix1T ?_ | refine ix2T ?_ | refine ix0L ?_ | refine ix1L ?_ | refine ix2L ?_ | refine ⟨_, rfl, ?_⟩ | refine ⟨_, _, rfl, rfl, (by show (_ : Nat) ≤ sizeLine; first | assumption | exact big (DOk.strLen (by assumption)) | exact big (DOk.tupLen (by assumption)) | exact big (DOk.lstLen (by assumption)) | exact big (DOw.strLen (by assumption)) | exact big (DOw.tupLen (by assumption)) | exact big (DOw.lstLen (by assumption)) | exact big (DOz.strLen (by assumption)) | exact big (DOz.tupLen (by assumption)) | exact big (DOz.lstLen (by assumption))), ?_⟩ | refine ⟨_, _, rfl, rfl, (by first | decide | (show (0 : Int) < _; decide)), ?_⟩ | refine ⟨_, _, rfl, rfl, ?_⟩ | refine eqR_str ?_ | refine eqR_int ?_ | refine neR_str ?_ | refine neR_int ?_ | refine And.intro rfl ?_ | refine addL (by first | assumption | (rw [sizeLine_eq]; omega) | (rw [sizeLine_eq]; simp; done) | (rw [sizeLine_eq]; simp only [List.length_append, List.length_cons, List.length_nil]; omega)) ?_ | refine addT (by first | assumption | (rw [sizeLine_eq]; omega) | (rw [sizeLine_eq]; simp; done) | (rw [sizeLine_eq]; simp only [List.length_append, List.length_cons, List.length_nil]; omega)) ?_ | refine And.intro (by assumption) ?_ | refine And.intro (by decide) ?_ | refine ⟨_, _, rfl, ?_⟩ | refine iteT rfl ?_ | refine iteF Bool.false_ne_true ?_)
    exact q
  · repeat' (first | refine ix0T ?_ | refine ix1T ?_ | refine ix2T ?_ | refine ix0L ?_ | refine ix1L ?_ | refine ix2L ?_ | refine ⟨_, rfl, ?_⟩ | refine ⟨_, _, rfl, rfl, (by show (_ : Nat) ≤ sizeLine; first | assumption | exact big (DOk.strLen (by assumption)) | exact big (DOk.tupLen (by assumption)) | exact big (DOk.lstLen (by assumption)) | exact big (DOw.strLen (by assumption)) | exact big (DOw.tupLen (by assumption)) | exact big (DOw.lstLen (by assumption)) | exact big (DOz.strLen (by assumption)) | exact big (DOz.tupLen (by assumption)) | exact big (DOz.lstLen (by assumption))), ?_⟩ | refine ⟨_, _, rfl, rfl, (by first | decide | (show (0 : Int) < _; decide)), ?_⟩ | refine ⟨_, _, rfl, rfl, ?_⟩ | refine eqR_str ?_ | refine eqR_int ?_ | refine neR_str ?_ | refine neR_int ?_ | refine And.intro rfl ?_ | refine addL (by first | assumption | (rw [sizeLine_eq]; omega) | (rw [sizeLine_eq]; simp; done) | (rw [sizeLine_eq]; simp only [List.length_append, List.length_cons, List.length_nil]; omega)) ?_ | refine addT (by first | assumption | (rw [sizeLine_eq]; omega) | (rw [sizeLine_eq]; simp; done) | (rw [sizeLine_eq]; simp only [List.length_append, List.length_cons, List.length_nil]; omega)) ?_ | refine And.intro (by assumption) ?_ | refine And.intro (by decide) ?_ | refine ⟨_, _, rfl, ?_⟩ | refine iteT rfl ?_ | refine iteF Bool.false_ne_true ?_)
    exact q
  · have oka := ok.tup a (by simp)
    have okb := ok.tup b (by simp)
    have okc := ok.tup c (by simp)
    have q2 : Q (O.dat (.bool (numD 100 a && (readD b && (noneD c || numD 100 c))))) := q
    repeat' (first | refine ix0T ?_ | refine ix1T ?_ | refine ix2T ?_ | refine ix0L ?_ | refine ix1L ?_ | refine ix2L ?_ | refine ⟨_, rfl, ?_⟩ | refine ⟨_, _, rfl, rfl, (by show (_ : Nat) ≤ sizeLine; first | assumption | exact big (DOk.strLen (by assumption)) | exact big (DOk.tupLen (by assumption)) | exact big (DOk.lstLen (by assumption)) | exact big (DOw.strLen (by assumption)) | exact big (DOw.tupLen (by assumption)) | exact big (DOw.lstLen (by assumption)) | exact big (DOz.strLen (by assumption)) | exact big (DOz.tupLen (by assumption)) | exact big (DOz.lstLen (by assumption))), ?_⟩ | refine ⟨_, _, rfl, rfl, (by first | decide | (show (0 : Int) < _; decide)), ?_⟩ | refine ⟨_, _, rfl, rfl, ?_⟩ | refine eqR_str ?_ | refine eqR_int ?_ | refine neR_str ?_ | refine neR_int ?_ | refine And.intro rfl ?_ | refine addL (by first | assumption | (rw [sizeLine_eq]; omega) | (rw [sizeLine_eq]; simp; done) | (rw [sizeLine_eq]; simp only [List.length_append, List.length_cons, List.length_nil]; omega)) ?_ | refine addT (by first | assumption | (rw [sizeLine_eq]; omega) | (rw [sizeLine_eq]; simp; done) | (rw [sizeLine_eq]; simp only [List.length_append, List.length_cons, List.length_nil]; omega)) ?_ | refine And.intro (by assumption) ?_ | refine And.intro (by decide) ?_ | refine ⟨_, _, rfl, ?_⟩ | refine iteT rfl ?_ | refine iteF Bool.false_ne_true ?_)
    refine iteB (fun e => ?_) (fun e => ?_)
    · have e1 : numD 100 a = false := by simpa using e
      rw [e1, Bool.false_and] at q2
      repeat' (first | refine ix0T ?_ | refine ix1T ?_ | refine ix2T ?_ | refine ix0L ?_ | refine ix1L ?_ | refine ix2L ?_ | refine ⟨_, rfl, ?_⟩ | refine ⟨_, _, rfl, rfl, (by show (_ : Nat) ≤ sizeLine; first | assumption | exact big (DOk.strLen (by assumption)) | exact big (DOk.tupLen (by assumption)) | exact big (DOk.lstLen (by assumption)) | exact big (DOw.strLen (by assumption)) | exact big (DOw.tupLen (by assumption)) | exact big (DOw.lstLen (by assumption)) | exact big (DOz.strLen (by assumption)) | exact big (DOz.tupLen (by assumption)) | exact big (DOz.lstLen (by assumption))), ?_⟩ | refine ⟨_, _, rfl, rfl, (by first | decide | (show (0 : Int) < _; decide)), ?_⟩ | refine ⟨_, _, rfl, rfl, ?_⟩ | refine eqR_str ?_ | refine eqR_int ?_ | refine neR_str ?_ | refine neR_int ?_ | refine And.intro rfl ?_ | refine addL (by first | assumption | (rw [sizeLine_eq]; omega) | (rw [sizeLine_eq]; simp; done) | (rw [sizeLine_eq]; simp only [List.length_append, List.length_cons, List.length_nil]; omega)) ?_ | refine addT (by first | assumption | (rw [sizeLine_eq]; omega) | (rw [sizeLine_eq]; simp; done) | (rw [sizeLine_eq]; simp only [List.length_append, List.length_cons, List.length_nil]; omega)) ?_ | refine And.intro (by assumption) ?_ | refine And.intro (by decide) ?_ | refine ⟨_, _, rfl, ?_⟩ | refine iteT rfl ?_ | refine iteF Bool.false_ne_true ?_)
      exact q2
    · have e1 : numD 100 a = true := by simpa using e
      rw [e1, Bool.true_and] at q2
      repeat' (first | refine ix0T ?_ | refine ix1T ?_ | refine ix2T ?_ | refine ix0L ?_ | refine ix1L ?_ | refine ix2L ?_ | refine ⟨_, rfl, ?_⟩ | refine ⟨_, _, rfl, rfl, (by show (_ : Nat) ≤ sizeLine; first | assumption | exact big (DOk.strLen (by assumption)) | exact big (DOk.tupLen (by assumption)) | exact big (DOk.lstLen (by assumption)) | exact big (DOw.strLen (by assumption)) | exact big (DOw.tupLen (by assumption)) | exact big (DOw.lstLen (by assumption)) | exact big (DOz.strLen (by assumption)) | exact big (DOz.tupLen (by assumption)) | exact big (DOz.lstLen (by assumption))), ?_⟩ | refine ⟨_, _, rfl, rfl, (by first | decide | (show (0 : Int) < _; decide)), ?_⟩ | refine ⟨_, _, rfl, rfl, ?_⟩ | refine eqR_str ?_ | refine eqR_int ?_ | refine neR_str ?_ | refine neR_int ?_ | refine And.intro rfl ?_ | refine addL (by first | assumption | (rw [sizeLine_eq]; omega) | (rw [sizeLine_eq]; simp; done) | (rw [sizeLine_eq]; simp only [List.length_append, List.length_cons, List.length_nil]; omega)) ?_ | refine addT (by first | assumption | (rw [sizeLine_eq]; omega) | (rw [sizeLine_eq]; simp; done) | (rw [sizeLine_eq]; simp only [List.length_append, List.length_cons, List.length_nil]; omega)) ?_ | refine And.intro (by assumption) ?_ | refine And.intro (by decide) ?_ | refine ⟨_, _, rfl, ?_⟩ | refine iteT rfl ?_ | refine iteF Bool.false_ne_true ?_)
      refine ⟨okb.q, ?_⟩
      repeat' (first | refine ix0T ?_ | refine ix1T ?_ | refine ix2T ?_ | refine ix0L ?_ | refine ix1L ?_ | refine ix2L ?_ | refine ⟨_, rfl, ?_⟩ | refine ⟨_, _, rfl, rfl, (by show (_ : Nat) ≤ sizeLine; first | assumption | exact big (DOk.strLen (by assumption)) | exact big (DOk.tupLen (by assumption)) | exact big (DOk.lstLen (by assumption)) | exact big (DOw.strLen (by assumption)) | exact big (DOw.tupLen (by assumption)) | exact big (DOw.lstLen (by assumption)) | exact big (DOz.strLen (by assumption)) | exact big (DOz.tupLen (by assumption)) | exact big (DOz.lstLen (by assumption))), ?_⟩ | refine ⟨_, _, rfl, rfl, (by first | decide | (show (0 : Int) < _; decide)), ?_⟩ | refine ⟨_, _, rfl, rfl, ?_⟩ | refine eqR_str ?_ | refine eqR_int ?_ | refine neR_str ?_ | refine neR_int ?_ | refine And.intro rfl ?_ | refine addL (by first | assumption | (rw [sizeLine_eq]; omega) | (rw [sizeLine_eq]; simp; done) | (rw [sizeLine_eq]; simp only [List.length_append, List.length_cons, List.length_nil]; omega)) ?_ | refine addT (by first | assumption | (rw [sizeLine_eq]; omega) | (rw [sizeLine_eq]; simp; done) | (rw [sizeLine_eq]; simp only [List.length_append, List.length_cons, List.length_nil]; omega)) ?_ | refine And.intro (by assumption) ?_ | refine And.intro (by decide) ?_ | refine ⟨_, _, rfl, ?_⟩ | refine iteT rfl ?_ | refine iteF Bool.false_ne_true ?_)
      refine iteB (fun e => ?_) (fun e => ?_)
      · rw [e, Bool.true_and] at q2
        cases c <;> (first | exact (dict_no okc).elim | skip) <;> (repeat' (first | refine ix0T ?_ | refine ix1T ?_ | refine ix2T ?_ | refine ix0L ?_ | refine ix1L ?_ | refine ix2L ?_ | refine ⟨_, rfl, ?_⟩ | refine ⟨_, _, rfl, rfl, (by show (_ : Nat) ≤ sizeLine; first | assumption | exact big (DOk.strLen (by assumption)) | exact big (DOk.tupLen (by assumption)) | exact big (DOk.lstLen (by assumption)) | exact big (DOw.strLen (by assumption)) | exact big (DOw.tupLen (by assumption)) | exact big (DOw.lstLen (by assumption)) | exact big (DOz.strLen (by assumption)) | exact big (DOz.tupLen (by assumption)) | exact big (DOz.lstLen (by assumption))), ?_⟩ | refine ⟨_, _, rfl, rfl, (by first | decide | (show (0 : Int) < _; decide)), ?_⟩ | refine ⟨_, _, rfl, rfl, ?_⟩ | refine eqR_str ?_ | refine eqR_int ?_ | refine neR_str ?_ | refine neR_int ?_ | refine And.intro rfl ?_ | refine addL (by first | assumption | (rw [sizeLine_eq]; omega) | (rw [sizeLine_eq]; simp; done) | (rw [sizeLine_eq]; simp only [List.length_append, List.length_cons, List.length_nil]; omega)) ?_ | refine addT (by first | assumption | (rw [sizeLine_eq]; omega) | (rw [sizeLine_eq]; simp; done) | (rw [sizeLine_eq]; simp only [List.length_append, List.length_cons, List.length_nil]; omega)) ?_ | refine And.intro (by assumption) ?_ | refine And.intro (by decide) ?_ | refine ⟨_, _, rfl, ?_⟩ | refine iteT rfl ?_ | refine iteF Bool.false_ne_true ?_)) <;> (try exact q2)
      · rw [e, Bool.false_and] at q2
        exact q2
  · repeat' (first | refine ix0T ?_ | refine ix1T ?_ | refine ix2T ?_ | refine ix0L ?_ | refine ix1L ?_ | refine ix2L ?_ | refine ⟨_, rfl, ?_⟩ | refine ⟨_, _, rfl, rfl, (by show (_ : Nat) ≤ sizeLine; first | assumption | exact big (DOk.strLen (by assumption)) | exact big (DOk.tupLen (by assumption)) | exact big (DOk.lstLen (by assumption)) | exact big (DOw.strLen (by assumption)) | exact big (DOw.tupLen (by assumption)) | exact big (DOw.lstLen (by assumption)) | exact big (DOz.strLen (by assumption)) | exact big (DOz.tupLen (by assumption)) | exact big (DOz.lstLen (by assumption))), ?_⟩ | refine ⟨_, _, rfl, rfl, (by first | decide | (show (0 : Int) < _; decide)), ?_⟩ | refine ⟨_, _, rfl, rfl, ?_⟩ | refine eqR_str ?_ | refine eqR_int ?_ | refine neR_str ?_ | refine neR_int ?_ | refine And.intro rfl ?_ | refine addL (by first | assumption | (rw [sizeLine_eq]; omega) | (rw [sizeLine_eq]; simp; done) | (rw [sizeLine_eq]; simp only [List.length_append, List.length_cons, List.length_nil]; omega)) ?_ | refine addT (by first | assumption | (rw [sizeLine_eq]; omega) | (rw [sizeLine_eq]; simp; done) | (rw [sizeLine_eq]; simp only [List.length_append, List.length_cons, List.length_nil]; omega)) ?_ | refine And.intro (by assumption) ?_ | refine And.intro (by decide) ?_ | refine ⟨_, _, rfl, ?_⟩ | refine iteT rfl ?_ | refine iteF Bool.false_ne_true ?_)
    refine iteB (fun e => ?_) (fun e => ?_)
    · repeat' (first | refine ix0T ?_ | refine ix1T ?_ | refine ix2T ?_ | refine ix0L ?_ | refine ix1L ?_ | refine ix2L ?_ | refine ⟨_, rfl, ?_⟩ | refine ⟨_, _, rfl, rfl, (by show (_ : Nat) ≤ sizeLine; first | assumption | exact big (DOk.strLen (by assumption)) | exact big (DOk.tupLen (by assumption)) | exact big (DOk.lstLen (by assumption)) | exact big (DOw.strLen (by assumption)) | exact big (DOw.tupLen (by assumption)) | exact big (DOw.lstLen (by assumption)) | exact big (DOz.strLen (by assumption)) | exact big (DOz.tupLen (by assumption)) | exact big (DOz.lstLen (by assumption))), ?_⟩ | refine ⟨_, _, rfl, rfl, (by first | decide | (show (0 : Int) < _; decide)), ?_⟩ | refine ⟨_, _, rfl, rfl, ?_⟩ | refine eqR_str ?_ | refine eqR_int ?_ | refine neR_str ?_ | refine neR_int ?_ | refine And.intro rfl ?_ | refine addL (by first | assumption | (rw [sizeLine_eq]; omega) | (rw [sizeLine_eq]; simp; done) | (rw [sizeLine_eq]; simp only [List.length_append, List.length_cons, List.length_nil]; omega)) ?_ | refine addT (by first | assumption | (rw [sizeLine_eq]; omega) | (rw [sizeLine_eq]; simp; done) | (rw [sizeLine_eq]; simp only [List.length_append, List.length_cons, List.length_nil]; omega)) ?_ | refine And.intro (by assumption) ?_ | refine And.intro (by decide) ?_ | refine ⟨_, _, rfl, ?_⟩ | refine iteT rfl ?_ | refine iteF Bool.false_ne_true ?_)
      exact q
    · simp at e
      omega
end
end K58
set_option Elab.async false
set_option linter.all false
set_option maxRecDepth 100000
set_option maxHeartbeats 1000000
set_option pp.maxSteps 500
/-! K58d: promises -/
namespace K58
open PySem PySem.Spec PyProof.Rows L2 GL DL
theorem ds_never {K : PySem.W.Frag} {X : Cx} {st : Stmt} : DS K X st (fun _ _ => False) := ⟨⟨fun pins s σ H D I h => by
  obtain ⟨_, _, _, _, _, _, _, _, h, _⟩ := h
  exact h.elim⟩⟩
/-- what the class Promise says -/
structure CP (K : PySem.W.Frag) (mg : Str → Option Value) (C : Addr) : Prop where
  own : OwnC K C
  nC : NoAttr K C "clauses"
  top : TopC K C
  mg : mg "Promise" = some (.ref C)
abbrev objP (C : Addr) (rows : List PyData) : PyData := obD C [("clauses", .list rows)]
def likeD : List PyData → List PyData → Bool
  | p :: ps, r :: rs => (noneD p || PyData.eqv p r) && likeD ps rs
  | _, _ => true
theorem like_zip : ∀ {ps rs : List PyData}, ((ps.zip rs).map fun p => noneD p.1 || PyData.eqv p.1 p.2).all id = likeD ps rs
  | [], _ => by simp [likeD]
  | _ :: _, [] => by simp [likeD]
  | p :: ps, r :: rs => by
    show ((noneD p || PyData.eqv p r) && ((ps.zip rs).map fun p => noneD p.1 || PyData.eqv p.1 p.2).all id) = _
    rw [like_zip]
    rfl
def itemsT : PyData → List PyData
  | .tuple xs => xs
  | _ => []
/-- what a promise does with a read, in a state -/
def stepP : List PyData → Int → List PyData → PyData
  | [], s, _ => .int s
  | .tuple [.int p, .tuple ps, n] :: r, s, rs => if (decide (p = s) && likeD ps rs) = true then n else stepP r s rs
  | _ :: r, s, rs => stepP r s rs
def runP (rows : List PyData) : Int → List PyData → PyData
  | s, [] => .int s
  | s, r :: l => match stepP rows s (itemsT r) with
    | .int t => runP rows t l
    | _ => .none
def brkP (rows : List PyData) : Int → Int → List PyData → PyData
  | _, _, [] => .none
  | s, i, r :: l => match stepP rows s (itemsT r) with
    | .int t => brkP rows t (i + 1) l
    | _ => .int i
structure RowsOk (rows : List PyData) : Prop where
  ok : DOw (.list rows)
  all : ∀ r ∈ rows, rowP r = true
theorem row_is {r : PyData} (ok : DOw r) (h : rowP r = true) : ∃ (p : Int) (ps : List PyData) (n : PyData), r = .tuple [.int p, .tuple ps, n] ∧ DOw (.tuple ps) ∧ (n = .none ∨ ∃ i, n = .int i) := by
  unfold rowP at h
  split at h
  · rename_i s p n
    rw [Bool.and_eq_true, Bool.and_eq_true] at h
    obtain ⟨h1, h2, h3⟩ := h
    have okp := ok.tup p (by simp)
    cases s <;> simp [numD] at h1
    rename_i i
    cases p <;> simp [readD] at h2
    rename_i ps
    refine ⟨i, ps, n, rfl, okp, ?_⟩
    cases n <;> simp [noneD, numD] at h3 ⊢
  · cases h
theorem step_is {rows : List PyData} {rs : List PyData} (h : ∀ r ∈ rows, DOw r ∧ rowP r = true) (s : Int) : stepP rows s rs = .none ∨ ∃ t, stepP rows s rs = .int t := by
  induction rows with
  | nil => exact .inr ⟨s, rfl⟩
  | cons r rows ih =>
    obtain ⟨p, ps, n, rfl, _, hn⟩ := row_is (h r (by simp)).1 (h r (by simp)).2
    unfold stepP
    split
    · rcases hn with rfl | ⟨i, rfl⟩
      · exact .inl rfl
      · exact .inr ⟨i, rfl⟩
    · exact ih fun r m => h r (List.mem_cons_of_mem _ m)
def S_like : DSp := fun as P => ∃ ps rs, as = [.d (.tuple ps), .d (.tuple rs)] ∧ DOw (.tuple ps) ∧ DOw (.tuple rs) ∧ P (.dat (.bool (likeD ps rs)))
def S_sb (C : Addr) : DSp := fun as P => ∃ rows s rs, as = [.d (objP C rows), .d (.int s), .d (.tuple rs)] ∧ RowsOk rows ∧ DOw (.tuple rs) ∧ P (.dat (stepP rows s rs))
def S_rows (C : Addr) : DSp := fun as P => ∃ rows, as = [.d (objP C rows)] ∧ P (.lst (rows.map .dat))
def LogOk (log : List PyData) : Prop := DOw (.list log) ∧ ∀ r ∈ log, ∃ rs, r = .tuple rs
def S_after (C : Addr) : DSp := fun as P => ∃ rows log, as = [.d (objP C rows), .d (.list log)] ∧ RowsOk rows ∧ LogOk log ∧ P (.dat (runP rows 0 log))
def S_brk (C : Addr) : DSp := fun as P => ∃ rows log, as = [.d (objP C rows), .d (.list log)] ∧ RowsOk rows ∧ LogOk log ∧ P (.dat (brkP rows 0 0 log))
def S_eq (C : Addr) : DSp := fun as P => ∃ rows e, as = [.d (objP C rows), .d e] ∧ RowsOk rows ∧ okOb C e = true ∧
  ((∃ r2, e = objP C r2 ∧ RowsOk r2 ∧ P (.dat (.bool (PyData.eqv (.list rows) (.list r2))))) ∨ (isOb C e = false ∧ P (.dat (.bool false))))
def S_init : ISp := fun as P => ∃ d rows, as = [.d d] ∧ items d = some rows ∧ RowsOk rows ∧ P [("clauses", .list rows)]
def S_never (C : Addr) : DSp := fun as P => ∃ ps, as = [.d (.list ps)] ∧ RowsOk (ps.map fun p => .tuple [.int 0, p, .none]) ∧ P (.dat (objP C (ps.map fun p => .tuple [.int 0, p, .none])))
theorem drop_at {ds : List PyData} {i : Nat} {d : PyData} (hd : ds[i]? = some d) : ds.drop i = d :: ds.drop (i + 1) := by
  have hi := (List.getElem?_eq_some_iff.mp hd).1
  rw [List.drop_eq_getElem_cons hi]
  rw [(List.getElem?_eq_some_iff.mp hd).2]
section
variable {P : Program} {w : World} {K : PySem.W.Frag} {mg : Str → Option Value} {base : Heap} {f C : Addr} {fd : FuncData}
abbrev inC (m : Nat) : Stmt := inClass (topS 21) m
abbrev s___init__ : Stmt := inC 0
abbrev s___eq__ : Stmt := inC 1
abbrev s_rows : Stmt := inC 2
abbrev s_state_after : Stmt := inC 3
abbrev s_broken_at : Stmt := inC 4
abbrev s_state_behind : Stmt := inC 5
theorem sc_is_like : FnScope ["pattern", "read", "wish", "part"] ["pattern", "read"] (defScope s_is_like) := ⟨rfl, rfl, rfl, by decide +kernel, rfl, by decide +kernel, by decide +kernel⟩
theorem ok_is_like (F : Fun K "is_like" "is_like" s_is_like f fd) (T : Txt0 mg) : FnG P w K mg base 1 f fd ["pattern", "read"] (spF K S_like) := by
  refine okD F sc_is_like (fun as Q h => by obtain ⟨_, _, rfl, _⟩ := h; rfl) fun cdv A out s H E hG hr => have hu := units_ofx hr; ⟨_, (dss_one (ds_ret (DE.o (de_all rfl rfl T.m_all (DO.d (do_lc (own := [("wish", 2), ("part", 3)]) rfl sc_is_like.nd (di_zip rfl (by rfl) T.m_zip (da_cons (de_v (pv 0)) (da_cons (de_v (pv 1)) da_nil))) (blkOk_by (N := ["pattern", "read", "wish", "part"]) (sc := defScope s_is_like) (by decide +kernel)) (fun _ _ _ _ _ => (dg_tup (n := 2) rfl rfl (dgs_cons (dg_name (pg_name (i := 2) sc_is_like.nd rfl (.inl rfl))) (dgs_cons (dg_name (pg_name (i := 3) sc_is_like.nd rfl (.inl rfl))) dgs_nil)))) (fun _ _ _ _ _ => dts_nil) (fun _ _ _ _ _ => (DE.o (de_or (de_cmp op_isN od_isN (de_v (pv 2)) de_non (nomark _)) (de_one (de_eq rfl hu (de_v (pv 2)) (de_v (pv 3))))))))))))), fun as Q h => ?_⟩
  obtain ⟨ps, rs, rfl, okp, okr, q⟩ := h
  repeat' (first | refine ix0T ?_ | refine ix1T ?_ | refine ix2T ?_ | refine ix0L ?_ | refine ix1L ?_ | refine ix2L ?_ | refine ⟨_, rfl, ?_⟩ | refine ⟨_, _, rfl, rfl, (by show (_ : Nat) ≤ sizeLine; first | assumption | exact big (DOk.strLen (by assumption)) | exact big (DOk.tupLen (by assumption)) | exact big (DOk.lstLen (by assumption)) | exact big (DOw.strLen (by assumption)) | exact big (DOw.tupLen (by assumption)) | exact big (DOw.lstLen (by assumption)) | exact big (DOz.strLen (by assumption)) | exact big (DOz.tupLen (by assumption)) | exact big (DOz.lstLen (by assumption))), ?_⟩ | refine ⟨_, _, rfl, rfl, (by first | decide | (show (0 : Int) < _; decide)), ?_⟩ | refine ⟨_, _, rfl, rfl, ?_⟩ | refine eqR_str ?_ | refine eqR_int ?_ | refine neR_str ?_ | refine neR_int ?_ | refine And.intro rfl ?_ | refine addL (by first | assumption | (rw [sizeLine_eq]; omega) | (rw [sizeLine_eq]; simp; done) | (rw [sizeLine_eq]; simp only [List.length_append, List.length_cons, List.length_nil]; omega)) ?_ | refine addT (by first | assumption | (rw [sizeLine_eq]; omega) | (rw [sizeLine_eq]; simp; done) | (rw [sizeLine_eq]; simp only [List.length_append, List.length_cons, List.length_nil]; omega)) ?_ | refine And.intro (by assumption) ?_ | refine And.intro (by decide) ?_ | refine ⟨_, _, rfl, ?_⟩ | refine iteT rfl ?_ | refine iteF Bool.false_ne_true ?_)
  refine ⟨_, _, _, _, rfl, .inr ⟨rfl, rfl⟩, ?_⟩
  refine lc_maps (fun p : PyData × PyData => pairD p) (ps.zip rs) (fun _ => true) (fun p => .dat (.bool (noneD p.1 || PyData.eqv p.1 p.2))) ?_ (fun p hp yes no y1 y2 => ?_) ?_
  · have h1 := big okp.tupLen
    rw [List.length_zip]
    exact Nat.lt_of_le_of_lt (Nat.min_le_left _ _) (big' okp.tupLen)
  · have y := y1 rfl
    obtain ⟨p1, p2⟩ := p
    have ok1 := okp.tup _ (List.of_mem_zip hp).1
    have ok2 := okr.tup _ (List.of_mem_zip hp).2
    refine ⟨_, rfl, ⟨_, rfl⟩, rfl, _, _, rfl, _, _, rfl, rfl, ?_⟩
    cases hn : noneD p1 with
    | true =>
      have e : p1 = .none := by cases p1 <;> first | rfl | cases hn
      subst e
      repeat' (first | refine ix0T ?_ | refine ix1T ?_ | refine ix2T ?_ | refine ix0L ?_ | refine ix1L ?_ | refine ix2L ?_ | refine ⟨_, rfl, ?_⟩ | refine ⟨_, _, rfl, rfl, (by show (_ : Nat) ≤ sizeLine; first | assumption | exact big (DOk.strLen (by assumption)) | exact big (DOk.tupLen (by assumption)) | exact big (DOk.lstLen (by assumption)) | exact big (DOw.strLen (by assumption)) | exact big (DOw.tupLen (by assumption)) | exact big (DOw.lstLen (by assumption)) | exact big (DOz.strLen (by assumption)) | exact big (DOz.tupLen (by assumption)) | exact big (DOz.lstLen (by assumption))), ?_⟩ | refine ⟨_, _, rfl, rfl, (by first | decide | (show (0 : Int) < _; decide)), ?_⟩ | refine ⟨_, _, rfl, rfl, ?_⟩ | refine eqR_str ?_ | refine eqR_int ?_ | refine neR_str ?_ | refine neR_int ?_ | refine And.intro rfl ?_ | refine addL (by first | assumption | (rw [sizeLine_eq]; omega) | (rw [sizeLine_eq]; simp; done) | (rw [sizeLine_eq]; simp only [List.length_append, List.length_cons, List.length_nil]; omega)) ?_ | refine addT (by first | assumption | (rw [sizeLine_eq]; omega) | (rw [sizeLine_eq]; simp; done) | (rw [sizeLine_eq]; simp only [List.length_append, List.length_cons, List.length_nil]; omega)) ?_ | refine And.intro (by assumption) ?_ | refine And.intro (by decide) ?_ | refine ⟨_, _, rfl, ?_⟩ | refine iteT rfl ?_ | refine iteF Bool.false_ne_true ?_)
      exact y
    | false =>
      have e3 : (noneD p1 || PyData.eqv p1 p2) = PyData.eqv p1 p2 := by rw [hn, Bool.false_or]
      have y3 : _ := y
      rw [e3] at y3
      cases p1 <;> (first | exact absurd hn (by decide) | exact (dict_no ok1).elim | skip) <;> (repeat' (first | refine ix0T ?_ | refine ix1T ?_ | refine ix2T ?_ | refine ix0L ?_ | refine ix1L ?_ | refine ix2L ?_ | refine ⟨_, rfl, ?_⟩ | refine ⟨_, _, rfl, rfl, (by show (_ : Nat) ≤ sizeLine; first | assumption | exact big (DOk.strLen (by assumption)) | exact big (DOk.tupLen (by assumption)) | exact big (DOk.lstLen (by assumption)) | exact big (DOw.strLen (by assumption)) | exact big (DOw.tupLen (by assumption)) | exact big (DOw.lstLen (by assumption)) | exact big (DOz.strLen (by assumption)) | exact big (DOz.tupLen (by assumption)) | exact big (DOz.lstLen (by assumption))), ?_⟩ | refine ⟨_, _, rfl, rfl, (by first | decide | (show (0 : Int) < _; decide)), ?_⟩ | refine ⟨_, _, rfl, rfl, ?_⟩ | refine eqR_str ?_ | refine eqR_int ?_ | refine neR_str ?_ | refine neR_int ?_ | refine And.intro rfl ?_ | refine addL (by first | assumption | (rw [sizeLine_eq]; omega) | (rw [sizeLine_eq]; simp; done) | (rw [sizeLine_eq]; simp only [List.length_append, List.length_cons, List.length_nil]; omega)) ?_ | refine addT (by first | assumption | (rw [sizeLine_eq]; omega) | (rw [sizeLine_eq]; simp; done) | (rw [sizeLine_eq]; simp only [List.length_append, List.length_cons, List.length_nil]; omega)) ?_ | refine And.intro (by assumption) ?_ | refine And.intro (by decide) ?_ | refine ⟨_, _, rfl, ?_⟩ | refine iteT rfl ?_ | refine iteF Bool.false_ne_true ?_))
      all_goals
        refine eqR_dat ok1.nodict ok2.nodict ok1.shaped ok2.shaped ?_
        exact y3
  · rw [List.filter_eq_self.mpr fun _ _ => rfl]
    refine ⟨(ps.zip rs).map fun p => noneD p.1 || PyData.eqv p.1 p.2, ?_, ?_⟩
    · rw [erase_map, List.map_map]
      rfl
    · rw [like_zip]
      exact q
theorem sc_state_behind : FnScope ["self", "state", "read", "present", "pattern", "onward"] ["self", "state", "read"] (defScope s_state_behind) := ⟨rfl, rfl, rfl, by decide +kernel, rfl, by decide +kernel, by decide +kernel⟩
theorem ok_state_behind (F : Fun K "state_behind" "Promise.state_behind" s_state_behind f fd) (T : Txt0 mg) (N : CP K mg C) (c_like : ClG P w K mg base 1 "is_like" (spF K S_like)) : FnG P w K mg base 2 f fd ["self", "state", "read"] (spF K (S_sb C)) := by
  refine okD F sc_state_behind (fun as Q h => by obtain ⟨_, _, _, rfl, _⟩ := h; rfl) fun cdv A out s H E hG hr => have hu := units_ofx hr; ⟨_, (dss_cons (ds_for PassesOwn.never rfl (di_any rfl (de_fld rfl N.nC (de_v (pv 0)))) (dg_tup (n := 3) rfl rfl (dgs_cons (dg_name (pg_name (i := 3) sc_state_behind.nd rfl (.inl rfl))) (dgs_cons (dg_name (pg_name (i := 4) sc_state_behind.nd rfl (.inl rfl))) (dgs_cons (dg_name (pg_name (i := 5) sc_state_behind.nd rfl (.inl rfl))) dgs_nil))))
(dss_one (ds_if (DW.db (dw_and (db_eq rfl hu (de_v (pv 3)) (de_v (pv 1))) (dw_and1 (db_val (DO.d (do_call rfl c_like hG hr (by omega) (by rfl) (dr_cons (de_v (pv 4)) (dr_cons (de_v (pv 2)) dr_nil))))))))
(dss_one (ds_ret (DE.o (de_v (pv 5)))))
dss_nil)))
(dss_one (ds_ret (DE.o (de_v (pv 1)))))), fun as Q h => ?_⟩
  obtain ⟨rows, st, rs, rfl, ok, okr, q⟩ := h
  repeat' (first | refine ix0T ?_ | refine ix1T ?_ | refine ix2T ?_ | refine ix0L ?_ | refine ix1L ?_ | refine ix2L ?_ | refine ⟨_, rfl, ?_⟩ | refine ⟨_, _, rfl, rfl, (by show (_ : Nat) ≤ sizeLine; first | assumption | exact big (DOk.strLen (by assumption)) | exact big (DOk.tupLen (by assumption)) | exact big (DOk.lstLen (by assumption)) | exact big (DOw.strLen (by assumption)) | exact big (DOw.tupLen (by assumption)) | exact big (DOw.lstLen (by assumption)) | exact big (DOz.strLen (by assumption)) | exact big (DOz.tupLen (by assumption)) | exact big (DOz.lstLen (by assumption))), ?_⟩ | refine ⟨_, _, rfl, rfl, (by first | decide | (show (0 : Int) < _; decide)), ?_⟩ | refine ⟨_, _, rfl, rfl, ?_⟩ | refine eqR_str ?_ | refine eqR_int ?_ | refine neR_str ?_ | refine neR_int ?_ | refine And.intro rfl ?_ | refine addL (by first | assumption | (rw [sizeLine_eq]; omega) | (rw [sizeLine_eq]; simp; done) | (rw [sizeLine_eq]; simp only [List.length_append, List.length_cons, List.length_nil]; omega)) ?_ | refine addT (by first | assumption | (rw [sizeLine_eq]; omega) | (rw [sizeLine_eq]; simp; done) | (rw [sizeLine_eq]; simp only [List.length_append, List.length_cons, List.length_nil]; omega)) ?_ | refine And.intro (by assumption) ?_ | refine And.intro (by decide) ?_ | refine ⟨_, _, rfl, ?_⟩ | refine iteT rfl ?_ | refine iteF Bool.false_ne_true ?_)
  refine ⟨fun i ρ' => ∃ x y z, ρ' = [some (.d (objP C rows)), some (.d (.int st)), some (.d (.tuple rs)), x, y, z] ∧ stepP rows st rs = stepP (rows.drop i) st rs, ?_, ?_, ?_⟩
  · exact ⟨_, _, _, rfl, rfl⟩
  · rintro i d ρ' hd ⟨x, y, z, rfl, hm⟩
    rw [drop_at hd] at hm
    have md := List.mem_of_getElem? hd
    obtain ⟨p, ps, n, rfl, okp, hn⟩ := row_is (ok.ok.lst d md) (ok.all d md)
    have hm2 : stepP rows st rs = if (decide (p = st) && likeD ps rs) = true then n else stepP (rows.drop (i + 1)) st rs := hm
    refine ⟨_, rfl, ⟨_, rfl⟩, rfl, _, _, rfl, _, _, rfl, _, _, rfl, rfl, ?_⟩
    repeat' (first | refine ix0T ?_ | refine ix1T ?_ | refine ix2T ?_ | refine ix0L ?_ | refine ix1L ?_ | refine ix2L ?_ | refine ⟨_, rfl, ?_⟩ | refine ⟨_, _, rfl, rfl, (by show (_ : Nat) ≤ sizeLine; first | assumption | exact big (DOk.strLen (by assumption)) | exact big (DOk.tupLen (by assumption)) | exact big (DOk.lstLen (by assumption)) | exact big (DOw.strLen (by assumption)) | exact big (DOw.tupLen (by assumption)) | exact big (DOw.lstLen (by assumption)) | exact big (DOz.strLen (by assumption)) | exact big (DOz.tupLen (by assumption)) | exact big (DOz.lstLen (by assumption))), ?_⟩ | refine ⟨_, _, rfl, rfl, (by first | decide | (show (0 : Int) < _; decide)), ?_⟩ | refine ⟨_, _, rfl, rfl, ?_⟩ | refine eqR_str ?_ | refine eqR_int ?_ | refine neR_str ?_ | refine neR_int ?_ | refine And.intro rfl ?_ | refine addL (by first | assumption | (rw [sizeLine_eq]; omega) | (rw [sizeLine_eq]; simp; done) | (rw [sizeLine_eq]; simp only [List.length_append, List.length_cons, List.length_nil]; omega)) ?_ | refine addT (by first | assumption | (rw [sizeLine_eq]; omega) | (rw [sizeLine_eq]; simp; done) | (rw [sizeLine_eq]; simp only [List.length_append, List.length_cons, List.length_nil]; omega)) ?_ | refine And.intro (by assumption) ?_ | refine And.intro (by decide) ?_ | refine ⟨_, _, rfl, ?_⟩ | refine iteT rfl ?_ | refine iteF Bool.false_ne_true ?_)
    refine iteB (fun e => ?_) (fun e => ?_)
    · rw [e, Bool.true_and] at hm2
      repeat' (first | refine ix0T ?_ | refine ix1T ?_ | refine ix2T ?_ | refine ix0L ?_ | refine ix1L ?_ | refine ix2L ?_ | refine ⟨_, rfl, ?_⟩ | refine ⟨_, _, rfl, rfl, (by show (_ : Nat) ≤ sizeLine; first | assumption | exact big (DOk.strLen (by assumption)) | exact big (DOk.tupLen (by assumption)) | exact big (DOk.lstLen (by assumption)) | exact big (DOw.strLen (by assumption)) | exact big (DOw.tupLen (by assumption)) | exact big (DOw.lstLen (by assumption)) | exact big (DOz.strLen (by assumption)) | exact big (DOz.tupLen (by assumption)) | exact big (DOz.lstLen (by assumption))), ?_⟩ | refine ⟨_, _, rfl, rfl, (by first | decide | (show (0 : Int) < _; decide)), ?_⟩ | refine ⟨_, _, rfl, rfl, ?_⟩ | refine eqR_str ?_ | refine eqR_int ?_ | refine neR_str ?_ | refine neR_int ?_ | refine And.intro rfl ?_ | refine addL (by first | assumption | (rw [sizeLine_eq]; omega) | (rw [sizeLine_eq]; simp; done) | (rw [sizeLine_eq]; simp only [List.length_append, List.length_cons, List.length_nil]; omega)) ?_ | refine addT (by first | assumption | (rw [sizeLine_eq]; omega) | (rw [sizeLine_eq]; simp; done) | (rw [sizeLine_eq]; simp only [List.length_append, List.length_cons, List.length_nil]; omega)) ?_ | refine And.intro (by assumption) ?_ | refine And.intro (by decide) ?_ | refine ⟨_, _, rfl, ?_⟩ | refine iteT rfl ?_ | refine iteF Bool.false_ne_true ?_)
      refine iteB (fun e => ?_) (fun e => ?_)
      · rw [if_pos e] at hm2
        rw [hm2] at q
        repeat' (first | refine ix0T ?_ | refine ix1T ?_ | refine ix2T ?_ | refine ix0L ?_ | refine ix1L ?_ | refine ix2L ?_ | refine ⟨_, rfl, ?_⟩ | refine ⟨_, _, rfl, rfl, (by show (_ : Nat) ≤ sizeLine; first | assumption | exact big (DOk.strLen (by assumption)) | exact big (DOk.tupLen (by assumption)) | exact big (DOk.lstLen (by assumption)) | exact big (DOw.strLen (by assumption)) | exact big (DOw.tupLen (by assumption)) | exact big (DOw.lstLen (by assumption)) | exact big (DOz.strLen (by assumption)) | exact big (DOz.tupLen (by assumption)) | exact big (DOz.lstLen (by assumption))), ?_⟩ | refine ⟨_, _, rfl, rfl, (by first | decide | (show (0 : Int) < _; decide)), ?_⟩ | refine ⟨_, _, rfl, rfl, ?_⟩ | refine eqR_str ?_ | refine eqR_int ?_ | refine neR_str ?_ | refine neR_int ?_ | refine And.intro rfl ?_ | refine addL (by first | assumption | (rw [sizeLine_eq]; omega) | (rw [sizeLine_eq]; simp; done) | (rw [sizeLine_eq]; simp only [List.length_append, List.length_cons, List.length_nil]; omega)) ?_ | refine addT (by first | assumption | (rw [sizeLine_eq]; omega) | (rw [sizeLine_eq]; simp; done) | (rw [sizeLine_eq]; simp only [List.length_append, List.length_cons, List.length_nil]; omega)) ?_ | refine And.intro (by assumption) ?_ | refine And.intro (by decide) ?_ | refine ⟨_, _, rfl, ?_⟩ | refine iteT rfl ?_ | refine iteF Bool.false_ne_true ?_)
        exact q
      · rw [if_neg (by rw [e]; exact Bool.false_ne_true)] at hm2
        repeat' (first | refine ix0T ?_ | refine ix1T ?_ | refine ix2T ?_ | refine ix0L ?_ | refine ix1L ?_ | refine ix2L ?_ | refine ⟨_, rfl, ?_⟩ | refine ⟨_, _, rfl, rfl, (by show (_ : Nat) ≤ sizeLine; first | assumption | exact big (DOk.strLen (by assumption)) | exact big (DOk.tupLen (by assumption)) | exact big (DOk.lstLen (by assumption)) | exact big (DOw.strLen (by assumption)) | exact big (DOw.tupLen (by assumption)) | exact big (DOw.lstLen (by assumption)) | exact big (DOz.strLen (by assumption)) | exact big (DOz.tupLen (by assumption)) | exact big (DOz.lstLen (by assumption))), ?_⟩ | refine ⟨_, _, rfl, rfl, (by first | decide | (show (0 : Int) < _; decide)), ?_⟩ | refine ⟨_, _, rfl, rfl, ?_⟩ | refine eqR_str ?_ | refine eqR_int ?_ | refine neR_str ?_ | refine neR_int ?_ | refine And.intro rfl ?_ | refine addL (by first | assumption | (rw [sizeLine_eq]; omega) | (rw [sizeLine_eq]; simp; done) | (rw [sizeLine_eq]; simp only [List.length_append, List.length_cons, List.length_nil]; omega)) ?_ | refine addT (by first | assumption | (rw [sizeLine_eq]; omega) | (rw [sizeLine_eq]; simp; done) | (rw [sizeLine_eq]; simp only [List.length_append, List.length_cons, List.length_nil]; omega)) ?_ | refine And.intro (by assumption) ?_ | refine And.intro (by decide) ?_ | refine ⟨_, _, rfl, ?_⟩ | refine iteT rfl ?_ | refine iteF Bool.false_ne_true ?_)
        exact ⟨_, _, _, rfl, hm2⟩
    · rw [e, Bool.false_and, if_neg Bool.false_ne_true] at hm2
      repeat' (first | refine ix0T ?_ | refine ix1T ?_ | refine ix2T ?_ | refine ix0L ?_ | refine ix1L ?_ | refine ix2L ?_ | refine ⟨_, rfl, ?_⟩ | refine ⟨_, _, rfl, rfl, (by show (_ : Nat) ≤ sizeLine; first | assumption | exact big (DOk.strLen (by assumption)) | exact big (DOk.tupLen (by assumption)) | exact big (DOk.lstLen (by assumption)) | exact big (DOw.strLen (by assumption)) | exact big (DOw.tupLen (by assumption)) | exact big (DOw.lstLen (by assumption)) | exact big (DOz.strLen (by assumption)) | exact big (DOz.tupLen (by assumption)) | exact big (DOz.lstLen (by assumption))), ?_⟩ | refine ⟨_, _, rfl, rfl, (by first | decide | (show (0 : Int) < _; decide)), ?_⟩ | refine ⟨_, _, rfl, rfl, ?_⟩ | refine eqR_str ?_ | refine eqR_int ?_ | refine neR_str ?_ | refine neR_int ?_ | refine And.intro rfl ?_ | refine addL (by first | assumption | (rw [sizeLine_eq]; omega) | (rw [sizeLine_eq]; simp; done) | (rw [sizeLine_eq]; simp only [List.length_append, List.length_cons, List.length_nil]; omega)) ?_ | refine addT (by first | assumption | (rw [sizeLine_eq]; omega) | (rw [sizeLine_eq]; simp; done) | (rw [sizeLine_eq]; simp only [List.length_append, List.length_cons, List.length_nil]; omega)) ?_ | refine And.intro (by assumption) ?_ | refine And.intro (by decide) ?_ | refine ⟨_, _, rfl, ?_⟩ | refine iteT rfl ?_ | refine iteF Bool.false_ne_true ?_)
      exact ⟨_, _, _, rfl, hm2⟩
  · rintro ρ' ⟨x, y, z, rfl, hm⟩
    rw [List.drop_length] at hm
    rw [hm] at q
    repeat' (first | refine ix0T ?_ | refine ix1T ?_ | refine ix2T ?_ | refine ix0L ?_ | refine ix1L ?_ | refine ix2L ?_ | refine ⟨_, rfl, ?_⟩ | refine ⟨_, _, rfl, rfl, (by show (_ : Nat) ≤ sizeLine; first | assumption | exact big (DOk.strLen (by assumption)) | exact big (DOk.tupLen (by assumption)) | exact big (DOk.lstLen (by assumption)) | exact big (DOw.strLen (by assumption)) | exact big (DOw.tupLen (by assumption)) | exact big (DOw.lstLen (by assumption)) | exact big (DOz.strLen (by assumption)) | exact big (DOz.tupLen (by assumption)) | exact big (DOz.lstLen (by assumption))), ?_⟩ | refine ⟨_, _, rfl, rfl, (by first | decide | (show (0 : Int) < _; decide)), ?_⟩ | refine ⟨_, _, rfl, rfl, ?_⟩ | refine eqR_str ?_ | refine eqR_int ?_ | refine neR_str ?_ | refine neR_int ?_ | refine And.intro rfl ?_ | refine addL (by first | assumption | (rw [sizeLine_eq]; omega) | (rw [sizeLine_eq]; simp; done) | (rw [sizeLine_eq]; simp only [List.length_append, List.length_cons, List.length_nil]; omega)) ?_ | refine addT (by first | assumption | (rw [sizeLine_eq]; omega) | (rw [sizeLine_eq]; simp; done) | (rw [sizeLine_eq]; simp only [List.length_append, List.length_cons, List.length_nil]; omega)) ?_ | refine And.intro (by assumption) ?_ | refine And.intro (by decide) ?_ | refine ⟨_, _, rfl, ?_⟩ | refine iteT rfl ?_ | refine iteF Bool.false_ne_true ?_)
    exact q
theorem sc_rows : FnScope ["self"] ["self"] (defScope s_rows) := ⟨rfl, rfl, rfl, by decide +kernel, rfl, by decide +kernel, by decide +kernel⟩
theorem ok_rows (F : Fun K "rows" "Promise.rows" s_rows f fd) (T : Txt0 mg) (N : CP K mg C) : FnG P w K mg base 1 f fd ["self"] (spF K (S_rows C)) := by
  refine okD F sc_rows (fun as Q h => by obtain ⟨_, rfl, _⟩ := h; rfl) fun cdv A out s H E hG hr => have hu := units_ofx hr; ⟨_, (dss_one (ds_ret (do_list rfl T.m_list (de_fld rfl N.nC (de_v (pv 0)))))), fun as Q h => ?_⟩
  obtain ⟨rows, rfl, q⟩ := h
  repeat' (first | refine ix0T ?_ | refine ix1T ?_ | refine ix2T ?_ | refine ix0L ?_ | refine ix1L ?_ | refine ix2L ?_ | refine ⟨_, rfl, ?_⟩ | refine ⟨_, _, rfl, rfl, (by show (_ : Nat) ≤ sizeLine; first | assumption | exact big (DOk.strLen (by assumption)) | exact big (DOk.tupLen (by assumption)) | exact big (DOk.lstLen (by assumption)) | exact big (DOw.strLen (by assumption)) | exact big (DOw.tupLen (by assumption)) | exact big (DOw.lstLen (by assumption)) | exact big (DOz.strLen (by assumption)) | exact big (DOz.tupLen (by assumption)) | exact big (DOz.lstLen (by assumption))), ?_⟩ | refine ⟨_, _, rfl, rfl, (by first | decide | (show (0 : Int) < _; decide)), ?_⟩ | refine ⟨_, _, rfl, rfl, ?_⟩ | refine eqR_str ?_ | refine eqR_int ?_ | refine neR_str ?_ | refine neR_int ?_ | refine And.intro rfl ?_ | refine addL (by first | assumption | (rw [sizeLine_eq]; omega) | (rw [sizeLine_eq]; simp; done) | (rw [sizeLine_eq]; simp only [List.length_append, List.length_cons, List.length_nil]; omega)) ?_ | refine addT (by first | assumption | (rw [sizeLine_eq]; omega) | (rw [sizeLine_eq]; simp; done) | (rw [sizeLine_eq]; simp only [List.length_append, List.length_cons, List.length_nil]; omega)) ?_ | refine And.intro (by assumption) ?_ | refine And.intro (by decide) ?_ | refine ⟨_, _, rfl, ?_⟩ | refine iteT rfl ?_ | refine iteF Bool.false_ne_true ?_)
  exact q
theorem sc_state_after : FnScope ["self", "log", "state", "read"] ["self", "log"] (defScope s_state_after) := ⟨rfl, rfl, rfl, by decide +kernel, rfl, by decide +kernel, by decide +kernel⟩
theorem ok_state_after (F : Fun K "state_after" "Promise.state_after" s_state_after f fd) (T : Txt0 mg) (N : CP K mg C) (c_sb : MtG P w K mg base 2 C "state_behind" (spF K (S_sb C))) : FnG P w K mg base 3 f fd ["self", "log"] (spF K (S_after C)) := by
  refine okD F sc_state_after (fun as Q h => by obtain ⟨_, _, rfl, _⟩ := h; rfl) fun cdv A out s H E hG hr => have hu := units_ofx hr; ⟨_, (dss_cons (ds_set (i := 2) sc_state_after.nd rfl (.inl rfl) (DE.o de_int))
(dss_cons (ds_for PassesOwn.never rfl (di_any rfl (de_v (pv 1))) (dg_name (pg_name (i := 3) sc_state_after.nd rfl (.inl rfl)))
(dss_cons (ds_set (i := 2) sc_state_after.nd rfl (.inl rfl) (do_meth rfl N.own.cl c_sb hG hr (by omega) (de_v (pv 0)) (dr_cons (de_v (pv 2)) (dr_cons (de_v (pv 3)) dr_nil))))
(dss_one (ds_if (db_cmp op_isN od_isN (de_v (pv 2)) de_non (nomark _))
(dss_one (ds_ret (DE.o de_non)))
dss_nil))))
(dss_one (ds_ret (DE.o (de_v (pv 2))))))), fun as Q h => ?_⟩
  obtain ⟨rows, log, rfl, ok, okl, q⟩ := h
  repeat' (first | refine ix0T ?_ | refine ix1T ?_ | refine ix2T ?_ | refine ix0L ?_ | refine ix1L ?_ | refine ix2L ?_ | refine ⟨_, rfl, ?_⟩ | refine ⟨_, _, rfl, rfl, (by show (_ : Nat) ≤ sizeLine; first | assumption | exact big (DOk.strLen (by assumption)) | exact big (DOk.tupLen (by assumption)) | exact big (DOk.lstLen (by assumption)) | exact big (DOw.strLen (by assumption)) | exact big (DOw.tupLen (by assumption)) | exact big (DOw.lstLen (by assumption)) | exact big (DOz.strLen (by assumption)) | exact big (DOz.tupLen (by assumption)) | exact big (DOz.lstLen (by assumption))), ?_⟩ | refine ⟨_, _, rfl, rfl, (by first | decide | (show (0 : Int) < _; decide)), ?_⟩ | refine ⟨_, _, rfl, rfl, ?_⟩ | refine eqR_str ?_ | refine eqR_int ?_ | refine neR_str ?_ | refine neR_int ?_ | refine And.intro rfl ?_ | refine addL (by first | assumption | (rw [sizeLine_eq]; omega) | (rw [sizeLine_eq]; simp; done) | (rw [sizeLine_eq]; simp only [List.length_append, List.length_cons, List.length_nil]; omega)) ?_ | refine addT (by first | assumption | (rw [sizeLine_eq]; omega) | (rw [sizeLine_eq]; simp; done) | (rw [sizeLine_eq]; simp only [List.length_append, List.length_cons, List.length_nil]; omega)) ?_ | refine And.intro (by assumption) ?_ | refine And.intro (by decide) ?_ | refine ⟨_, _, rfl, ?_⟩ | refine iteT rfl ?_ | refine iteF Bool.false_ne_true ?_)
  refine ⟨fun i ρ' => ∃ t x, ρ' = [some (.d (objP C rows)), some (.d (.list log)), some (.d (.int t)), x] ∧ runP rows 0 log = runP rows t (log.drop i), ?_, ?_, ?_⟩
  · exact ⟨_, _, rfl, rfl⟩
  · rintro i d ρ' hd ⟨t, x, rfl, hm⟩
    rw [drop_at hd] at hm
    have md := List.mem_of_getElem? hd
    obtain ⟨rs, rfl⟩ := okl.2 d md
    have okr := okl.1.lst _ md
    have hm2 : runP rows 0 log = match stepP rows t rs with | .int t => runP rows t (log.drop (i + 1)) | _ => .none := hm
    repeat' (first | refine ix0T ?_ | refine ix1T ?_ | refine ix2T ?_ | refine ix0L ?_ | refine ix1L ?_ | refine ix2L ?_ | refine ⟨_, rfl, ?_⟩ | refine ⟨_, _, rfl, rfl, (by show (_ : Nat) ≤ sizeLine; first | assumption | exact big (DOk.strLen (by assumption)) | exact big (DOk.tupLen (by assumption)) | exact big (DOk.lstLen (by assumption)) | exact big (DOw.strLen (by assumption)) | exact big (DOw.tupLen (by assumption)) | exact big (DOw.lstLen (by assumption)) | exact big (DOz.strLen (by assumption)) | exact big (DOz.tupLen (by assumption)) | exact big (DOz.lstLen (by assumption))), ?_⟩ | refine ⟨_, _, rfl, rfl, (by first | decide | (show (0 : Int) < _; decide)), ?_⟩ | refine ⟨_, _, rfl, rfl, ?_⟩ | refine eqR_str ?_ | refine eqR_int ?_ | refine neR_str ?_ | refine neR_int ?_ | refine And.intro rfl ?_ | refine addL (by first | assumption | (rw [sizeLine_eq]; omega) | (rw [sizeLine_eq]; simp; done) | (rw [sizeLine_eq]; simp only [List.length_append, List.length_cons, List.length_nil]; omega)) ?_ | refine addT (by first | assumption | (rw [sizeLine_eq]; omega) | (rw [sizeLine_eq]; simp; done) | (rw [sizeLine_eq]; simp only [List.length_append, List.length_cons, List.length_nil]; omega)) ?_ | refine And.intro (by assumption) ?_ | refine And.intro (by decide) ?_ | refine ⟨_, _, rfl, ?_⟩ | refine iteT rfl ?_ | refine iteF Bool.false_ne_true ?_)
    refine ⟨_, _, _, rfl, ok, okr, ?_⟩
    rcases step_is (rs := rs) (fun r m => ⟨ok.ok.lst r m, ok.all r m⟩) t with e | ⟨t2, e⟩
    · rw [e] at hm2
      rw [e]
      rw [hm2] at q
      repeat' (first | refine ix0T ?_ | refine ix1T ?_ | refine ix2T ?_ | refine ix0L ?_ | refine ix1L ?_ | refine ix2L ?_ | refine ⟨_, rfl, ?_⟩ | refine ⟨_, _, rfl, rfl, (by show (_ : Nat) ≤ sizeLine; first | assumption | exact big (DOk.strLen (by assumption)) | exact big (DOk.tupLen (by assumption)) | exact big (DOk.lstLen (by assumption)) | exact big (DOw.strLen (by assumption)) | exact big (DOw.tupLen (by assumption)) | exact big (DOw.lstLen (by assumption)) | exact big (DOz.strLen (by assumption)) | exact big (DOz.tupLen (by assumption)) | exact big (DOz.lstLen (by assumption))), ?_⟩ | refine ⟨_, _, rfl, rfl, (by first | decide | (show (0 : Int) < _; decide)), ?_⟩ | refine ⟨_, _, rfl, rfl, ?_⟩ | refine eqR_str ?_ | refine eqR_int ?_ | refine neR_str ?_ | refine neR_int ?_ | refine And.intro rfl ?_ | refine addL (by first | assumption | (rw [sizeLine_eq]; omega) | (rw [sizeLine_eq]; simp; done) | (rw [sizeLine_eq]; simp only [List.length_append, List.length_cons, List.length_nil]; omega)) ?_ | refine addT (by first | assumption | (rw [sizeLine_eq]; omega) | (rw [sizeLine_eq]; simp; done) | (rw [sizeLine_eq]; simp only [List.length_append, List.length_cons, List.length_nil]; omega)) ?_ | refine And.intro (by assumption) ?_ | refine And.intro (by decide) ?_ | refine ⟨_, _, rfl, ?_⟩ | refine iteT rfl ?_ | refine iteF Bool.false_ne_true ?_)
      exact q
    · rw [e] at hm2
      rw [e]
      repeat' (first | refine ix0T ?_ | refine ix1T ?_ | refine ix2T ?_ | refine ix0L ?_ | refine ix1L ?_ | refine ix2L ?_ | refine ⟨_, rfl, ?_⟩ | refine ⟨_, _, rfl, rfl, (by show (_ : Nat) ≤ sizeLine; first | assumption | exact big (DOk.strLen (by assumption)) | exact big (DOk.tupLen (by assumption)) | exact big (DOk.lstLen (by assumption)) | exact big (DOw.strLen (by assumption)) | exact big (DOw.tupLen (by assumption)) | exact big (DOw.lstLen (by assumption)) | exact big (DOz.strLen (by assumption)) | exact big (DOz.tupLen (by assumption)) | exact big (DOz.lstLen (by assumption))), ?_⟩ | refine ⟨_, _, rfl, rfl, (by first | decide | (show (0 : Int) < _; decide)), ?_⟩ | refine ⟨_, _, rfl, rfl, ?_⟩ | refine eqR_str ?_ | refine eqR_int ?_ | refine neR_str ?_ | refine neR_int ?_ | refine And.intro rfl ?_ | refine addL (by first | assumption | (rw [sizeLine_eq]; omega) | (rw [sizeLine_eq]; simp; done) | (rw [sizeLine_eq]; simp only [List.length_append, List.length_cons, List.length_nil]; omega)) ?_ | refine addT (by first | assumption | (rw [sizeLine_eq]; omega) | (rw [sizeLine_eq]; simp; done) | (rw [sizeLine_eq]; simp only [List.length_append, List.length_cons, List.length_nil]; omega)) ?_ | refine And.intro (by assumption) ?_ | refine And.intro (by decide) ?_ | refine ⟨_, _, rfl, ?_⟩ | refine iteT rfl ?_ | refine iteF Bool.false_ne_true ?_)
      exact hm2
  · rintro ρ' ⟨t, x, rfl, hm⟩
    rw [List.drop_length] at hm
    rw [hm] at q
    repeat' (first | refine ix0T ?_ | refine ix1T ?_ | refine ix2T ?_ | refine ix0L ?_ | refine ix1L ?_ | refine ix2L ?_ | refine ⟨_, rfl, ?_⟩ | refine ⟨_, _, rfl, rfl, (by show (_ : Nat) ≤ sizeLine; first | assumption | exact big (DOk.strLen (by assumption)) | exact big (DOk.tupLen (by assumption)) | exact big (DOk.lstLen (by assumption)) | exact big (DOw.strLen (by assumption)) | exact big (DOw.tupLen (by assumption)) | exact big (DOw.lstLen (by assumption)) | exact big (DOz.strLen (by assumption)) | exact big (DOz.tupLen (by assumption)) | exact big (DOz.lstLen (by assumption))), ?_⟩ | refine ⟨_, _, rfl, rfl, (by first | decide | (show (0 : Int) < _; decide)), ?_⟩ | refine ⟨_, _, rfl, rfl, ?_⟩ | refine eqR_str ?_ | refine eqR_int ?_ | refine neR_str ?_ | refine neR_int ?_ | refine And.intro rfl ?_ | refine addL (by first | assumption | (rw [sizeLine_eq]; omega) | (rw [sizeLine_eq]; simp; done) | (rw [sizeLine_eq]; simp only [List.length_append, List.length_cons, List.length_nil]; omega)) ?_ | refine addT (by first | assumption | (rw [sizeLine_eq]; omega) | (rw [sizeLine_eq]; simp; done) | (rw [sizeLine_eq]; simp only [List.length_append, List.length_cons, List.length_nil]; omega)) ?_ | refine And.intro (by assumption) ?_ | refine And.intro (by decide) ?_ | refine ⟨_, _, rfl, ?_⟩ | refine iteT rfl ?_ | refine iteF Bool.false_ne_true ?_)
    exact q
theorem sc_broken_at : FnScope ["self", "log", "state", "at", "read"] ["self", "log"] (defScope s_broken_at) := ⟨rfl, rfl, rfl, by decide +kernel, rfl, by decide +kernel, by decide +kernel⟩
theorem ok_broken_at (F : Fun K "broken_at" "Promise.broken_at" s_broken_at f fd) (T : Txt0 mg) (N : CP K mg C) (c_sb : MtG P w K mg base 2 C "state_behind" (spF K (S_sb C))) : FnG P w K mg base 3 f fd ["self", "log"] (spF K (S_brk C)) := by
  refine okD F sc_broken_at (fun as Q h => by obtain ⟨_, _, rfl, _⟩ := h; rfl) fun cdv A out s H E hG hr => have hu := units_ofx hr; ⟨_, (dss_cons (ds_set (i := 2) sc_broken_at.nd rfl (.inl rfl) (DE.o de_int))
(dss_cons (ds_for PassesOwn.never rfl (di_enum rfl (by rfl) T.m_enumerate (de_v (pv 1))) (dg_tup (n := 2) rfl rfl (dgs_cons (dg_name (pg_name (i := 3) sc_broken_at.nd rfl (.inl rfl))) (dgs_cons (dg_name (pg_name (i := 4) sc_broken_at.nd rfl (.inl rfl))) dgs_nil)))
(dss_cons (ds_set (i := 2) sc_broken_at.nd rfl (.inl rfl) (do_meth rfl N.own.cl c_sb hG hr (by omega) (de_v (pv 0)) (dr_cons (de_v (pv 2)) (dr_cons (de_v (pv 4)) dr_nil))))
(dss_one (ds_if (db_cmp op_isN od_isN (de_v (pv 2)) de_non (nomark _))
(dss_one (ds_ret (DE.o (de_v (pv 3)))))
dss_nil))))
(dss_one (ds_ret (DE.o de_non))))), fun as Q h => ?_⟩
  obtain ⟨rows, log, rfl, ok, okl, q⟩ := h
  repeat' (first | refine ix0T ?_ | refine ix1T ?_ | refine ix2T ?_ | refine ix0L ?_ | refine ix1L ?_ | refine ix2L ?_ | refine ⟨_, rfl, ?_⟩ | refine ⟨_, _, rfl, rfl, (by show (_ : Nat) ≤ sizeLine; first | assumption | exact big (DOk.strLen (by assumption)) | exact big (DOk.tupLen (by assumption)) | exact big (DOk.lstLen (by assumption)) | exact big (DOw.strLen (by assumption)) | exact big (DOw.tupLen (by assumption)) | exact big (DOw.lstLen (by assumption)) | exact big (DOz.strLen (by assumption)) | exact big (DOz.tupLen (by assumption)) | exact big (DOz.lstLen (by assumption))), ?_⟩ | refine ⟨_, _, rfl, rfl, (by first | decide | (show (0 : Int) < _; decide)), ?_⟩ | refine ⟨_, _, rfl, rfl, ?_⟩ | refine eqR_str ?_ | refine eqR_int ?_ | refine neR_str ?_ | refine neR_int ?_ | refine And.intro rfl ?_ | refine addL (by first | assumption | (rw [sizeLine_eq]; omega) | (rw [sizeLine_eq]; simp; done) | (rw [sizeLine_eq]; simp only [List.length_append, List.length_cons, List.length_nil]; omega)) ?_ | refine addT (by first | assumption | (rw [sizeLine_eq]; omega) | (rw [sizeLine_eq]; simp; done) | (rw [sizeLine_eq]; simp only [List.length_append, List.length_cons, List.length_nil]; omega)) ?_ | refine And.intro (by assumption) ?_ | refine And.intro (by decide) ?_ | refine ⟨_, _, rfl, ?_⟩ | refine iteT rfl ?_ | refine iteF Bool.false_ne_true ?_)
  refine ⟨fun i ρ' => ∃ t x y, ρ' = [some (.d (objP C rows)), some (.d (.list log)), some (.d (.int t)), x, y] ∧ brkP rows 0 0 log = brkP rows t i (log.drop i), ?_, ?_, ?_⟩
  · exact ⟨_, _, _, rfl, rfl⟩
  · rintro i d ρ' hd ⟨t, x, y, rfl, hm⟩
    obtain ⟨r, hr2⟩ : ∃ r, log[i]? = some r := by
      have := (List.getElem?_eq_some_iff.mp hd).1
      rw [enum_len] at this
      exact ⟨_, List.getElem?_eq_getElem this⟩
    rw [enum_at hr2] at hd
    cases hd
    rw [drop_at hr2] at hm
    have md := List.mem_of_getElem? hr2
    obtain ⟨rs, rfl⟩ := okl.2 r md
    have okr := okl.1.lst _ md
    have hm2 : brkP rows 0 0 log = match stepP rows t rs with | .int t => brkP rows t ((i : Int) + 1) (log.drop (i + 1)) | _ => .int i := hm
    refine ⟨_, rfl, ⟨_, rfl⟩, rfl, _, _, rfl, _, _, rfl, rfl, ?_⟩
    repeat' (first | refine ix0T ?_ | refine ix1T ?_ | refine ix2T ?_ | refine ix0L ?_ | refine ix1L ?_ | refine ix2L ?_ | refine ⟨_, rfl, ?_⟩ | refine ⟨_, _, rfl, rfl, (by show (_ : Nat) ≤ sizeLine; first | assumption | exact big (DOk.strLen (by assumption)) | exact big (DOk.tupLen (by assumption)) | exact big (DOk.lstLen (by assumption)) | exact big (DOw.strLen (by assumption)) | exact big (DOw.tupLen (by assumption)) | exact big (DOw.lstLen (by assumption)) | exact big (DOz.strLen (by assumption)) | exact big (DOz.tupLen (by assumption)) | exact big (DOz.lstLen (by assumption))), ?_⟩ | refine ⟨_, _, rfl, rfl, (by first | decide | (show (0 : Int) < _; decide)), ?_⟩ | refine ⟨_, _, rfl, rfl, ?_⟩ | refine eqR_str ?_ | refine eqR_int ?_ | refine neR_str ?_ | refine neR_int ?_ | refine And.intro rfl ?_ | refine addL (by first | assumption | (rw [sizeLine_eq]; omega) | (rw [sizeLine_eq]; simp; done) | (rw [sizeLine_eq]; simp only [List.length_append, List.length_cons, List.length_nil]; omega)) ?_ | refine addT (by first | assumption | (rw [sizeLine_eq]; omega) | (rw [sizeLine_eq]; simp; done) | (rw [sizeLine_eq]; simp only [List.length_append, List.length_cons, List.length_nil]; omega)) ?_ | refine And.intro (by assumption) ?_ | refine And.intro (by decide) ?_ | refine ⟨_, _, rfl, ?_⟩ | refine iteT rfl ?_ | refine iteF Bool.false_ne_true ?_)
    refine ⟨_, _, _, rfl, ok, okr, ?_⟩
    rcases step_is (rs := rs) (fun r m => ⟨ok.ok.lst r m, ok.all r m⟩) t with e | ⟨t2, e⟩
    · rw [e] at hm2
      rw [e]
      rw [hm2] at q
      repeat' (first | refine ix0T ?_ | refine ix1T ?_ | refine ix2T ?_ | refine ix0L ?_ | refine ix1L ?_ | refine ix2L ?_ | refine ⟨_, rfl, ?_⟩ | refine ⟨_, _, rfl, rfl, (by show (_ : Nat) ≤ sizeLine; first | assumption | exact big (DOk.strLen (by assumption)) | exact big (DOk.tupLen (by assumption)) | exact big (DOk.lstLen (by assumption)) | exact big (DOw.strLen (by assumption)) | exact big (DOw.tupLen (by assumption)) | exact big (DOw.lstLen (by assumption)) | exact big (DOz.strLen (by assumption)) | exact big (DOz.tupLen (by assumption)) | exact big (DOz.lstLen (by assumption))), ?_⟩ | refine ⟨_, _, rfl, rfl, (by first | decide | (show (0 : Int) < _; decide)), ?_⟩ | refine ⟨_, _, rfl, rfl, ?_⟩ | refine eqR_str ?_ | refine eqR_int ?_ | refine neR_str ?_ | refine neR_int ?_ | refine And.intro rfl ?_ | refine addL (by first | assumption | (rw [sizeLine_eq]; omega) | (rw [sizeLine_eq]; simp; done) | (rw [sizeLine_eq]; simp only [List.length_append, List.length_cons, List.length_nil]; omega)) ?_ | refine addT (by first | assumption | (rw [sizeLine_eq]; omega) | (rw [sizeLine_eq]; simp; done) | (rw [sizeLine_eq]; simp only [List.length_append, List.length_cons, List.length_nil]; omega)) ?_ | refine And.intro (by assumption) ?_ | refine And.intro (by decide) ?_ | refine ⟨_, _, rfl, ?_⟩ | refine iteT rfl ?_ | refine iteF Bool.false_ne_true ?_)
      exact q
    · rw [e] at hm2
      rw [e]
      repeat' (first | refine ix0T ?_ | refine ix1T ?_ | refine ix2T ?_ | refine ix0L ?_ | refine ix1L ?_ | refine ix2L ?_ | refine ⟨_, rfl, ?_⟩ | refine ⟨_, _, rfl, rfl, (by show (_ : Nat) ≤ sizeLine; first | assumption | exact big (DOk.strLen (by assumption)) | exact big (DOk.tupLen (by assumption)) | exact big (DOk.lstLen (by assumption)) | exact big (DOw.strLen (by assumption)) | exact big (DOw.tupLen (by assumption)) | exact big (DOw.lstLen (by assumption)) | exact big (DOz.strLen (by assumption)) | exact big (DOz.tupLen (by assumption)) | exact big (DOz.lstLen (by assumption))), ?_⟩ | refine ⟨_, _, rfl, rfl, (by first | decide | (show (0 : Int) < _; decide)), ?_⟩ | refine ⟨_, _, rfl, rfl, ?_⟩ | refine eqR_str ?_ | refine eqR_int ?_ | refine neR_str ?_ | refine neR_int ?_ | refine And.intro rfl ?_ | refine addL (by first | assumption | (rw [sizeLine_eq]; omega) | (rw [sizeLine_eq]; simp; done) | (rw [sizeLine_eq]; simp only [List.length_append, List.length_cons, List.length_nil]; omega)) ?_ | refine addT (by first | assumption | (rw [sizeLine_eq]; omega) | (rw [sizeLine_eq]; simp; done) | (rw [sizeLine_eq]; simp only [List.length_append, List.length_cons, List.length_nil]; omega)) ?_ | refine And.intro (by assumption) ?_ | refine And.intro (by decide) ?_ | refine ⟨_, _, rfl, ?_⟩ | refine iteT rfl ?_ | refine iteF Bool.false_ne_true ?_)
      exact ⟨_, _, _, rfl, hm2⟩
  · rintro ρ' ⟨t, x, y, rfl, hm⟩
    rw [enum_len, List.drop_length] at hm
    rw [hm] at q
    repeat' (first | refine ix0T ?_ | refine ix1T ?_ | refine ix2T ?_ | refine ix0L ?_ | refine ix1L ?_ | refine ix2L ?_ | refine ⟨_, rfl, ?_⟩ | refine ⟨_, _, rfl, rfl, (by show (_ : Nat) ≤ sizeLine; first | assumption | exact big (DOk.strLen (by assumption)) | exact big (DOk.tupLen (by assumption)) | exact big (DOk.lstLen (by assumption)) | exact big (DOw.strLen (by assumption)) | exact big (DOw.tupLen (by assumption)) | exact big (DOw.lstLen (by assumption)) | exact big (DOz.strLen (by assumption)) | exact big (DOz.tupLen (by assumption)) | exact big (DOz.lstLen (by assumption))), ?_⟩ | refine ⟨_, _, rfl, rfl, (by first | decide | (show (0 : Int) < _; decide)), ?_⟩ | refine ⟨_, _, rfl, rfl, ?_⟩ | refine eqR_str ?_ | refine eqR_int ?_ | refine neR_str ?_ | refine neR_int ?_ | refine And.intro rfl ?_ | refine addL (by first | assumption | (rw [sizeLine_eq]; omega) | (rw [sizeLine_eq]; simp; done) | (rw [sizeLine_eq]; simp only [List.length_append, List.length_cons, List.length_nil]; omega)) ?_ | refine addT (by first | assumption | (rw [sizeLine_eq]; omega) | (rw [sizeLine_eq]; simp; done) | (rw [sizeLine_eq]; simp only [List.length_append, List.length_cons, List.length_nil]; omega)) ?_ | refine And.intro (by assumption) ?_ | refine And.intro (by decide) ?_ | refine ⟨_, _, rfl, ?_⟩ | refine iteT rfl ?_ | refine iteF Bool.false_ne_true ?_)
    exact q
end
end K58
set_option Elab.async false
set_option linter.all false
set_option maxRecDepth 100000
set_option maxHeartbeats 1000000
set_option pp.maxSteps 500
/-! K58e: promises made, compared -/
namespace K58
open PySem PySem.Spec PyProof.Rows L2 GL DL
theorem isOb_obj {C : Addr} {fs : List (Str × PyData)} : isOb C (obD C fs) = true := by
  unfold obD isOb
  simp
section
variable {P : Program} {w : World} {K : PySem.W.Frag} {mg : Str → Option Value} {base : Heap} {f C : Addr} {fd : FuncData}
theorem sc___eq__ : FnScope ["self", "other"] ["self", "other"] (defScope s___eq__) := ⟨rfl, rfl, rfl, by decide +kernel, rfl, by decide +kernel, by decide +kernel⟩
theorem ok___eq__ (F : Fun K "__eq__" "Promise.__eq__" s___eq__ f fd) (T : Txt0 mg) (N : CP K mg C) : FnG P w K mg base 1 f fd ["self", "other"] (spF K (S_eq C)) := by
  refine okD F sc___eq__ (fun as Q h => by obtain ⟨_, _, rfl, _⟩ := h; rfl) fun cdv A out s H E hG hr => have hu := units_ofx hr; ⟨_, (dss_one (ds_ret (DE.o (de_and (de_isiC rfl N.top (.own _) (de_v (pv 1)) (by rfl) T.m_isinstance (pe_glob (by rfl) N.mg rfl)) (de_one (de_eq rfl hu (de_fld rfl N.nC (de_v (pv 0))) (de_fld rfl N.nC (de_v (pv 1))))))))), fun as Q h => ?_⟩
  obtain ⟨rows, e, rfl, ok, oke, q⟩ := h
  repeat' (first | refine ix0T ?_ | refine ix1T ?_ | refine ix2T ?_ | refine ix0L ?_ | refine ix1L ?_ | refine ix2L ?_ | refine ⟨_, rfl, ?_⟩ | refine ⟨_, _, rfl, rfl, (by show (_ : Nat) ≤ sizeLine; first | assumption | exact big (DOk.strLen (by assumption)) | exact big (DOk.tupLen (by assumption)) | exact big (DOk.lstLen (by assumption)) | exact big (DOw.strLen (by assumption)) | exact big (DOw.tupLen (by assumption)) | exact big (DOw.lstLen (by assumption)) | exact big (DOz.strLen (by assumption)) | exact big (DOz.tupLen (by assumption)) | exact big (DOz.lstLen (by assumption))), ?_⟩ | refine ⟨_, _, rfl, rfl, (by first | decide | (show (0 : Int) < _; decide)), ?_⟩ | refine ⟨_, _, rfl, rfl, ?_⟩ | refine eqR_str ?_ | refine eqR_int ?_ | refine neR_str ?_ | refine neR_int ?_ | refine And.intro rfl ?_ | refine addL (by first | assumption | (rw [sizeLine_eq]; omega) | (rw [sizeLine_eq]; simp; done) | (rw [sizeLine_eq]; simp only [List.length_append, List.length_cons, List.length_nil]; omega)) ?_ | refine addT (by first | assumption | (rw [sizeLine_eq]; omega) | (rw [sizeLine_eq]; simp; done) | (rw [sizeLine_eq]; simp only [List.length_append, List.length_cons, List.length_nil]; omega)) ?_ | refine And.intro (by assumption) ?_ | refine And.intro (by decide) ?_ | refine ⟨_, _, rfl, ?_⟩ | refine iteT rfl ?_ | refine iteF Bool.false_ne_true ?_)
  rcases q with ⟨r2, rfl, ok2, q⟩ | ⟨no, q⟩
  · rw [isOb_obj]
    repeat' (first | refine ix0T ?_ | refine ix1T ?_ | refine ix2T ?_ | refine ix0L ?_ | refine ix1L ?_ | refine ix2L ?_ | refine ⟨_, rfl, ?_⟩ | refine ⟨_, _, rfl, rfl, (by show (_ : Nat) ≤ sizeLine; first | assumption | exact big (DOk.strLen (by assumption)) | exact big (DOk.tupLen (by assumption)) | exact big (DOk.lstLen (by assumption)) | exact big (DOw.strLen (by assumption)) | exact big (DOw.tupLen (by assumption)) | exact big (DOw.lstLen (by assumption)) | exact big (DOz.strLen (by assumption)) | exact big (DOz.tupLen (by assumption)) | exact big (DOz.lstLen (by assumption))), ?_⟩ | refine ⟨_, _, rfl, rfl, (by first | decide | (show (0 : Int) < _; decide)), ?_⟩ | refine ⟨_, _, rfl, rfl, ?_⟩ | refine eqR_str ?_ | refine eqR_int ?_ | refine neR_str ?_ | refine neR_int ?_ | refine And.intro rfl ?_ | refine addL (by first | assumption | (rw [sizeLine_eq]; omega) | (rw [sizeLine_eq]; simp; done) | (rw [sizeLine_eq]; simp only [List.length_append, List.length_cons, List.length_nil]; omega)) ?_ | refine addT (by first | assumption | (rw [sizeLine_eq]; omega) | (rw [sizeLine_eq]; simp; done) | (rw [sizeLine_eq]; simp only [List.length_append, List.length_cons, List.length_nil]; omega)) ?_ | refine And.intro (by assumption) ?_ | refine And.intro (by decide) ?_ | refine ⟨_, _, rfl, ?_⟩ | refine iteT rfl ?_ | refine iteF Bool.false_ne_true ?_)
    refine eqR_dat ok.ok.nodict ok2.ok.nodict ok.ok.shaped ok2.ok.shaped ?_
    exact q
  · rw [no]
    repeat' (first | refine ix0T ?_ | refine ix1T ?_ | refine ix2T ?_ | refine ix0L ?_ | refine ix1L ?_ | refine ix2L ?_ | refine ⟨_, rfl, ?_⟩ | refine ⟨_, _, rfl, rfl, (by show (_ : Nat) ≤ sizeLine; first | assumption | exact big (DOk.strLen (by assumption)) | exact big (DOk.tupLen (by assumption)) | exact big (DOk.lstLen (by assumption)) | exact big (DOw.strLen (by assumption)) | exact big (DOw.tupLen (by assumption)) | exact big (DOw.lstLen (by assumption)) | exact big (DOz.strLen (by assumption)) | exact big (DOz.tupLen (by assumption)) | exact big (DOz.lstLen (by assumption))), ?_⟩ | refine ⟨_, _, rfl, rfl, (by first | decide | (show (0 : Int) < _; decide)), ?_⟩ | refine ⟨_, _, rfl, rfl, ?_⟩ | refine eqR_str ?_ | refine eqR_int ?_ | refine neR_str ?_ | refine neR_int ?_ | refine And.intro rfl ?_ | refine addL (by first | assumption | (rw [sizeLine_eq]; omega) | (rw [sizeLine_eq]; simp; done) | (rw [sizeLine_eq]; simp only [List.length_append, List.length_cons, List.length_nil]; omega)) ?_ | refine addT (by first | assumption | (rw [sizeLine_eq]; omega) | (rw [sizeLine_eq]; simp; done) | (rw [sizeLine_eq]; simp only [List.length_append, List.length_cons, List.length_nil]; omega)) ?_ | refine And.intro (by assumption) ?_ | refine And.intro (by decide) ?_ | refine ⟨_, _, rfl, ?_⟩ | refine iteT rfl ?_ | refine iteF Bool.false_ne_true ?_)
    exact q
theorem sc___init__ : FnScope ["self", "rows", "row"] ["self", "rows"] (defScope s___init__) := ⟨rfl, rfl, rfl, by decide +kernel, rfl, by decide +kernel, by decide +kernel⟩
theorem ok___init__ (F : Fun K "__init__" "Promise.__init__" s___init__ f fd) (T : Txt0 mg) (N : CP K mg C) (c_list : ClG P w K mg base 1 "is_list" (spF K spList)) (c_row : ClG P w K mg base 5 "is_promise_row" (spF K (spP rowP))) : FnG P w K mg base 6 f fd ["self", "rows"] (spI K C S_init) := by
  refine okI F sc___init__ (fun as Q h => by obtain ⟨_, _, rfl, _⟩ := h; rfl) fun a cdv A out s H E hG hr => have hu := units_ofx hr; ⟨_, (dss_cons (ds_if (DW.db (dw_or (db_not (db_val (DO.d (do_call rfl c_list hG hr (by omega) (by rfl) (dr_cons (de_v (pv 1)) dr_nil))))) (dw_or1 (db_not (db_val (de_all rfl rfl T.m_all (DO.d (do_lc (own := [("row", 2)]) rfl sc___init__.nd (di_any rfl (de_v (pv 1))) (blkOk_by (N := ["self", "rows", "row"]) (sc := defScope s___init__) (by decide +kernel)) (fun _ _ _ _ _ => (dg_name (pg_name (i := 2) sc___init__.nd rfl (.inl rfl)))) (fun _ _ _ _ _ => dts_nil) (fun _ _ _ _ _ => (do_call rfl c_row hG hr (by omega) (by rfl) (dr_cons (de_v (pv 2)) dr_nil)))))))))))
(dss_one ds_never)
dss_nil)
(dss_one (ds_fld rfl N.nC (pv 0) (DO.d (do_list rfl T.m_list (de_v (pv 1))))))), fun as Q h => ?_⟩
  obtain ⟨d, rows, rfl, hi, ok, q⟩ := h
  have hl : listD d = true := by
    cases d <;> first | rfl | cases hi
  have hall : (rows.map rowP).all id = true := by
    rw [List.all_map, List.all_eq_true]
    exact fun r m => ok.all r m
  repeat' (first | refine ix0T ?_ | refine ix1T ?_ | refine ix2T ?_ | refine ix0L ?_ | refine ix1L ?_ | refine ix2L ?_ | refine ⟨_, rfl, ?_⟩ | refine ⟨_, _, rfl, rfl, (by show (_ : Nat) ≤ sizeLine; first | assumption | exact big (DOk.strLen (by assumption)) | exact big (DOk.tupLen (by assumption)) | exact big (DOk.lstLen (by assumption)) | exact big (DOw.strLen (by assumption)) | exact big (DOw.tupLen (by assumption)) | exact big (DOw.lstLen (by assumption)) | exact big (DOz.strLen (by assumption)) | exact big (DOz.tupLen (by assumption)) | exact big (DOz.lstLen (by assumption))), ?_⟩ | refine ⟨_, _, rfl, rfl, (by first | decide | (show (0 : Int) < _; decide)), ?_⟩ | refine ⟨_, _, rfl, rfl, ?_⟩ | refine eqR_str ?_ | refine eqR_int ?_ | refine neR_str ?_ | refine neR_int ?_ | refine And.intro rfl ?_ | refine addL (by first | assumption | (rw [sizeLine_eq]; omega) | (rw [sizeLine_eq]; simp; done) | (rw [sizeLine_eq]; simp only [List.length_append, List.length_cons, List.length_nil]; omega)) ?_ | refine addT (by first | assumption | (rw [sizeLine_eq]; omega) | (rw [sizeLine_eq]; simp; done) | (rw [sizeLine_eq]; simp only [List.length_append, List.length_cons, List.length_nil]; omega)) ?_ | refine And.intro (by assumption) ?_ | refine And.intro (by decide) ?_ | refine ⟨_, _, rfl, ?_⟩ | refine iteT rfl ?_ | refine iteF Bool.false_ne_true ?_)
  rw [hl]
  repeat' (first | refine ix0T ?_ | refine ix1T ?_ | refine ix2T ?_ | refine ix0L ?_ | refine ix1L ?_ | refine ix2L ?_ | refine ⟨_, rfl, ?_⟩ | refine ⟨_, _, rfl, rfl, (by show (_ : Nat) ≤ sizeLine; first | assumption | exact big (DOk.strLen (by assumption)) | exact big (DOk.tupLen (by assumption)) | exact big (DOk.lstLen (by assumption)) | exact big (DOw.strLen (by assumption)) | exact big (DOw.tupLen (by assumption)) | exact big (DOw.lstLen (by assumption)) | exact big (DOz.strLen (by assumption)) | exact big (DOz.tupLen (by assumption)) | exact big (DOz.lstLen (by assumption))), ?_⟩ | refine ⟨_, _, rfl, rfl, (by first | decide | (show (0 : Int) < _; decide)), ?_⟩ | refine ⟨_, _, rfl, rfl, ?_⟩ | refine eqR_str ?_ | refine eqR_int ?_ | refine neR_str ?_ | refine neR_int ?_ | refine And.intro rfl ?_ | refine addL (by first | assumption | (rw [sizeLine_eq]; omega) | (rw [sizeLine_eq]; simp; done) | (rw [sizeLine_eq]; simp only [List.length_append, List.length_cons, List.length_nil]; omega)) ?_ | refine addT (by first | assumption | (rw [sizeLine_eq]; omega) | (rw [sizeLine_eq]; simp; done) | (rw [sizeLine_eq]; simp only [List.length_append, List.length_cons, List.length_nil]; omega)) ?_ | refine And.intro (by assumption) ?_ | refine And.intro (by decide) ?_ | refine ⟨_, _, rfl, ?_⟩ | refine iteT rfl ?_ | refine iteF Bool.false_ne_true ?_)
  have hit : iterD d = some rows := by
    cases d <;> first | exact hi | cases hi
  refine ⟨rows, hit, ?_⟩
  refine lc_map (fun d => .dat (.bool (rowP d))) (big' ok.ok.lstLen) (fun d hd yes no y => ?_) ?_
  · have okd := ok.ok.lst d hd
    repeat' (first | refine ix0T ?_ | refine ix1T ?_ | refine ix2T ?_ | refine ix0L ?_ | refine ix1L ?_ | refine ix2L ?_ | refine ⟨_, rfl, ?_⟩ | refine ⟨_, _, rfl, rfl, (by show (_ : Nat) ≤ sizeLine; first | assumption | exact big (DOk.strLen (by assumption)) | exact big (DOk.tupLen (by assumption)) | exact big (DOk.lstLen (by assumption)) | exact big (DOw.strLen (by assumption)) | exact big (DOw.tupLen (by assumption)) | exact big (DOw.lstLen (by assumption)) | exact big (DOz.strLen (by assumption)) | exact big (DOz.tupLen (by assumption)) | exact big (DOz.lstLen (by assumption))), ?_⟩ | refine ⟨_, _, rfl, rfl, (by first | decide | (show (0 : Int) < _; decide)), ?_⟩ | refine ⟨_, _, rfl, rfl, ?_⟩ | refine eqR_str ?_ | refine eqR_int ?_ | refine neR_str ?_ | refine neR_int ?_ | refine And.intro rfl ?_ | refine addL (by first | assumption | (rw [sizeLine_eq]; omega) | (rw [sizeLine_eq]; simp; done) | (rw [sizeLine_eq]; simp only [List.length_append, List.length_cons, List.length_nil]; omega)) ?_ | refine addT (by first | assumption | (rw [sizeLine_eq]; omega) | (rw [sizeLine_eq]; simp; done) | (rw [sizeLine_eq]; simp only [List.length_append, List.length_cons, List.length_nil]; omega)) ?_ | refine And.intro (by assumption) ?_ | refine And.intro (by decide) ?_ | refine ⟨_, _, rfl, ?_⟩ | refine iteT rfl ?_ | refine iteF Bool.false_ne_true ?_)
    exact y
  · refine ⟨rows.map rowP, ?_, ?_⟩
    · rw [erase_map]
      simp
    · rw [hall]
      repeat' (first | refine ix0T ?_ | refine ix1T ?_ | refine ix2T ?_ | refine ix0L ?_ | refine ix1L ?_ | refine ix2L ?_ | refine ⟨_, rfl, ?_⟩ | refine ⟨_, _, rfl, rfl, (by show (_ : Nat) ≤ sizeLine; first | assumption | exact big (DOk.strLen (by assumption)) | exact big (DOk.tupLen (by assumption)) | exact big (DOk.lstLen (by assumption)) | exact big (DOw.strLen (by assumption)) | exact big (DOw.tupLen (by assumption)) | exact big (DOw.lstLen (by assumption)) | exact big (DOz.strLen (by assumption)) | exact big (DOz.tupLen (by assumption)) | exact big (DOz.lstLen (by assumption))), ?_⟩ | refine ⟨_, _, rfl, rfl, (by first | decide | (show (0 : Int) < _; decide)), ?_⟩ | refine ⟨_, _, rfl, rfl, ?_⟩ | refine eqR_str ?_ | refine eqR_int ?_ | refine neR_str ?_ | refine neR_int ?_ | refine And.intro rfl ?_ | refine addL (by first | assumption | (rw [sizeLine_eq]; omega) | (rw [sizeLine_eq]; simp; done) | (rw [sizeLine_eq]; simp only [List.length_append, List.length_cons, List.length_nil]; omega)) ?_ | refine addT (by first | assumption | (rw [sizeLine_eq]; omega) | (rw [sizeLine_eq]; simp; done) | (rw [sizeLine_eq]; simp only [List.length_append, List.length_cons, List.length_nil]; omega)) ?_ | refine And.intro (by assumption) ?_ | refine And.intro (by decide) ?_ | refine ⟨_, _, rfl, ?_⟩ | refine iteT rfl ?_ | refine iteF Bool.false_ne_true ?_)
      refine ⟨d, rows, rfl, hi, ?_⟩
      have e : (O.lst (rows.map O.dat)).erase = .list rows := congrArg PyData.list (eraseAll_dat rows)
      refine ⟨a, [], rfl, by decide, [("clauses", (O.lst (rows.map O.dat)).erase)], rfl, ?_⟩
      rw [e]
      exact q
theorem sc_never : FnScope ["patterns", "pattern"] ["patterns"] (defScope s_never) := ⟨rfl, rfl, rfl, by decide +kernel, rfl, by decide +kernel, by decide +kernel⟩
theorem ok_never (F : Fun K "never" "never" s_never f fd) (T : Txt0 mg) (N : CP K mg C) (m_promise : MkG P w K mg base 6 "Promise" C S_init) : FnG P w K mg base 8 f fd ["patterns"] (spF K (S_never C)) := by
  refine okD F sc_never (fun as Q h => by obtain ⟨_, rfl, _⟩ := h; rfl) fun cdv A out s H E hG hr => have hu := units_ofx hr; ⟨_, (dss_one (ds_ret (DE.o (de_make rfl m_promise hG hr (by omega) (by rfl) (dr_cons (DO.d (do_lc (own := [("pattern", 1)]) rfl sc_never.nd (di_any rfl (de_v (pv 0))) (blkOk_by (N := ["patterns", "pattern"]) (sc := defScope s_never) (by decide +kernel)) (fun _ _ _ _ _ => (dg_name (pg_name (i := 1) sc_never.nd rfl (.inl rfl)))) (fun _ _ _ _ _ => dts_nil) (fun _ _ _ _ _ => (DE.o (de_tup (da_cons de_int (da_cons (de_v (pv 1)) (da_cons de_non da_nil)))))))) dr_nil))))), fun as Q h => ?_⟩
  obtain ⟨ps, rfl, ok, q⟩ := h
  repeat' (first | refine ix0T ?_ | refine ix1T ?_ | refine ix2T ?_ | refine ix0L ?_ | refine ix1L ?_ | refine ix2L ?_ | refine ⟨_, rfl, ?_⟩ | refine ⟨_, _, rfl, rfl, (by show (_ : Nat) ≤ sizeLine; first | assumption | exact big (DOk.strLen (by assumption)) | exact big (DOk.tupLen (by assumption)) | exact big (DOk.lstLen (by assumption)) | exact big (DOw.strLen (by assumption)) | exact big (DOw.tupLen (by assumption)) | exact big (DOw.lstLen (by assumption)) | exact big (DOz.strLen (by assumption)) | exact big (DOz.tupLen (by assumption)) | exact big (DOz.lstLen (by assumption))), ?_⟩ | refine ⟨_, _, rfl, rfl, (by first | decide | (show (0 : Int) < _; decide)), ?_⟩ | refine ⟨_, _, rfl, rfl, ?_⟩ | refine eqR_str ?_ | refine eqR_int ?_ | refine neR_str ?_ | refine neR_int ?_ | refine And.intro rfl ?_ | refine addL (by first | assumption | (rw [sizeLine_eq]; omega) | (rw [sizeLine_eq]; simp; done) | (rw [sizeLine_eq]; simp only [List.length_append, List.length_cons, List.length_nil]; omega)) ?_ | refine addT (by first | assumption | (rw [sizeLine_eq]; omega) | (rw [sizeLine_eq]; simp; done) | (rw [sizeLine_eq]; simp only [List.length_append, List.length_cons, List.length_nil]; omega)) ?_ | refine And.intro (by assumption) ?_ | refine And.intro (by decide) ?_ | refine ⟨_, _, rfl, ?_⟩ | refine iteT rfl ?_ | refine iteF Bool.false_ne_true ?_)
  have hl : ps.length ≤ 1000000 := by
    have := ok.ok.lstLen
    rw [List.length_map] at this
    omega
  refine lc_map (fun p => .dat (.tuple [.int 0, p, .none])) ?_ (fun d hd yes no y => ?_) ?_
  · rw [sizeLine_eq]
    omega
  · repeat' (first | refine ix0T ?_ | refine ix1T ?_ | refine ix2T ?_ | refine ix0L ?_ | refine ix1L ?_ | refine ix2L ?_ | refine ⟨_, rfl, ?_⟩ | refine ⟨_, _, rfl, rfl, (by show (_ : Nat) ≤ sizeLine; first | assumption | exact big (DOk.strLen (by assumption)) | exact big (DOk.tupLen (by assumption)) | exact big (DOk.lstLen (by assumption)) | exact big (DOw.strLen (by assumption)) | exact big (DOw.tupLen (by assumption)) | exact big (DOw.lstLen (by assumption)) | exact big (DOz.strLen (by assumption)) | exact big (DOz.tupLen (by assumption)) | exact big (DOz.lstLen (by assumption))), ?_⟩ | refine ⟨_, _, rfl, rfl, (by first | decide | (show (0 : Int) < _; decide)), ?_⟩ | refine ⟨_, _, rfl, rfl, ?_⟩ | refine eqR_str ?_ | refine eqR_int ?_ | refine neR_str ?_ | refine neR_int ?_ | refine And.intro rfl ?_ | refine addL (by first | assumption | (rw [sizeLine_eq]; omega) | (rw [sizeLine_eq]; simp; done) | (rw [sizeLine_eq]; simp only [List.length_append, List.length_cons, List.length_nil]; omega)) ?_ | refine addT (by first | assumption | (rw [sizeLine_eq]; omega) | (rw [sizeLine_eq]; simp; done) | (rw [sizeLine_eq]; simp only [List.length_append, List.length_cons, List.length_nil]; omega)) ?_ | refine And.intro (by assumption) ?_ | refine And.intro (by decide) ?_ | refine ⟨_, _, rfl, ?_⟩ | refine iteT rfl ?_ | refine iteF Bool.false_ne_true ?_)
    exact y
  · refine ⟨(O.lst (ps.map fun p => .dat (.tuple [.int 0, p, .none]))).erase, ps.map (fun p => .tuple [.int 0, p, .none]), rfl, ?_, ok, q⟩
    rw [erase_map]
    simp [items]
end
end K58
set_option Elab.async false
set_option linter.all false
set_option maxRecDepth 100000
set_option maxHeartbeats 1000000
set_option pp.maxSteps 500
/-! K58f: promises that are none -/
namespace K58
open PySem PySem.Spec PyProof.Rows L2 GL DL
/-- what Wrong(place) makes -/
def spW (C : Addr) : Sp := fun vs H Q _ => ∃ (a : Addr) (y : V), vs = [.ref a, y] ∧ H a = some (exo a C none) ∧
  ∀ dx, H dx = none → dx ≠ a → Q .non (upd (upd H dx (exd dx [("place", y)])) a (exo a C (some dx)))
structure Ini (K : PySem.W.Frag) (C f : Addr) : Prop where
  oex : OexC K C
  no : PySem.W.findIn K (.ref C) "place" = some none
abbrev s_wrong : Stmt := inClass (topS 2) 0
/-- what the class Wrong says -/
structure CW (P : Program) (w : World) (K : PySem.W.Frag) (mg : Str → Option Value) (base : Heap) (C : Addr) : Prop where
  ex : ∃ (f : Addr) (fd : FuncData), FnOk P w K mg base CX0 1 f fd ["self", "place"] (spW C) ∧ PySem.W.findIn K (.ref C) "__init__" = some (some (.ref f)) ∧ PySem.W.typeIn K (.ref f) = some (.type "function") ∧ Binds K fd ["self", "place"] []
  oex : OexC K C
  mg : mg "Wrong" = some (.ref C)
theorem sc_wrong : FnScope ["self", "place"] ["self", "place"] (defScope s_wrong) := ⟨rfl, rfl, rfl, by decide +kernel, rfl, by decide +kernel, by decide +kernel⟩
/-- what is no list of rows of a promise -/
def Bad (d : PyData) : Prop := listD d = false ∨ ∃ rows, items d = some rows ∧ rows.length < sizeLine ∧ (∀ r ∈ rows, DOw r) ∧ rows.all rowP = false
/-- Promise(v), v none -/
def spBad (C CW : Addr) (K : PySem.W.Frag) : Sp := fun vs H _ E => ∃ a v G d, vs = [.ref a, v] ∧ Same G H ∧ Dr K G v d ∧ Bad d ∧
  ∀ H' e, Same H H' → H e = none → H' e = some (.xd [("place", .int 0)]) → E (.ref CW) (some e) H'
theorem pss_never {X : Cx} {sts : List Stmt} : PSs X sts (fun _ _ _ => False) := ⟨fun _ _ _ _ _ _ h => h.elim⟩
section
variable {P : Program} {w : World} {K : PySem.W.Frag} {mg : Str → Option Value} {base : Heap} {f C W : Addr} {fd : FuncData}
theorem ok_wrong (F : Fun K "__init__" "Wrong.__init__" s_wrong f fd) (T : Ini K C f) : FnOk P w K mg base CX0 1 f fd ["self", "place"] (spW C) := by
  refine F.ok sc_wrong (fun vs H Q E h => ?_) (fun cdv A outer s H vs Q E hr h => ?_)
  · obtain ⟨a, y, rfl, _⟩ := h
    rfl
  · obtain ⟨a, y, rfl, ha, q⟩ := h
    refine ⟨_, (pss_one (ps_ost (pv 0) (pv 1))), ?_⟩
    exact ⟨y, rfl, .ref a, rfl, a, C, rfl, T.oex, T.no, .inl ⟨ha, fun dx hd n => q dx hd n⟩⟩
theorem ok_bad (F : Fun K "__init__" "Promise.__init__" s___init__ f fd) (T : Txt0 mg) (N : CP K mg C) (c_list : ClG P w K mg base 1 "is_list" (spF K spList)) (c_row : ClG P w K mg base 5 "is_promise_row" (spF K (spP rowP))) (R : CW P w K mg base W) :
    FnX (L2.CX P w) P w K mg base 6 f fd ["self", "rows"] (spBad C W K) := by
  obtain ⟨fW, fdW, FW, iW, tW, bW⟩ := R.ex
  refine okX F sc___init__ (fun vs H Q E h => by obtain ⟨_, _, _, _, rfl, _⟩ := h; rfl) fun cdv A out s H vs Q E hG hr h => ?_
  have hu := units_ofx hr
  obtain ⟨a, v, G, d, rfl, sGH, rv, bad, q⟩ := h
  refine ⟨_, pss_cons (ps_if (DB.pt (K := K) (DW.db (dw_or (db_not (db_val (DO.d (do_call rfl c_list hG hr (by omega) (by rfl) (dr_cons (de_v (pv 1)) dr_nil))))) (dw_or1 (db_not (db_val (de_all rfl rfl T.m_all (DO.d (do_lc (own := [("row", 2)]) rfl sc___init__.nd (di_any rfl (de_v (pv 1))) (blkOk_by (N := ["self", "rows", "row"]) (sc := defScope s___init__) (by decide +kernel)) (fun _ _ _ _ _ => (dg_name (pg_name (i := 2) sc___init__.nd rfl (.inl rfl)))) (fun _ _ _ _ _ => dts_nil) (fun _ _ _ _ _ => (do_call rfl c_row hG hr (by omega) (by rfl) (dr_cons (de_v (pv 2)) dr_nil)))))))))))) (pss_one (ps_raise rfl (takes_of rfl rfl rfl rfl) (pmk_oex R.oex iW tW FW (hr.mono (by decide)) bW .nil pass0 (by rfl) R.mg (pa_cons pe_int pa_nil)))) pss_nil) pss_never, ?_⟩
  refine ⟨G, H, none, G, [none, some (.d d), none], [], fun b => b = true, ⟨sGH, Same.refl _, fun _ h => .inl h, fun _ _ h _ => h, (fun _ m => nomatch m), (fun _ e => nomatch e), .non (.d rv (.non .nil))⟩, ?_, fun b G' H' hb s => ?_⟩
  · rcases bad with hl | ⟨rows, hi, hz, okr, hf⟩
    · repeat' (first | refine ix0T ?_ | refine ix1T ?_ | refine ix2T ?_ | refine ix0L ?_ | refine ix1L ?_ | refine ix2L ?_ | refine ⟨_, rfl, ?_⟩ | refine ⟨_, _, rfl, rfl, (by show (_ : Nat) ≤ sizeLine; first | assumption | exact big (DOk.strLen (by assumption)) | exact big (DOk.tupLen (by assumption)) | exact big (DOk.lstLen (by assumption)) | exact big (DOw.strLen (by assumption)) | exact big (DOw.tupLen (by assumption)) | exact big (DOw.lstLen (by assumption)) | exact big (DOz.strLen (by assumption)) | exact big (DOz.tupLen (by assumption)) | exact big (DOz.lstLen (by assumption))), ?_⟩ | refine ⟨_, _, rfl, rfl, (by first | decide | (show (0 : Int) < _; decide)), ?_⟩ | refine ⟨_, _, rfl, rfl, ?_⟩ | refine eqR_str ?_ | refine eqR_int ?_ | refine neR_str ?_ | refine neR_int ?_ | refine And.intro rfl ?_ | refine addL (by first | assumption | (rw [sizeLine_eq]; omega) | (rw [sizeLine_eq]; simp; done) | (rw [sizeLine_eq]; simp only [List.length_append, List.length_cons, List.length_nil]; omega)) ?_ | refine addT (by first | assumption | (rw [sizeLine_eq]; omega) | (rw [sizeLine_eq]; simp; done) | (rw [sizeLine_eq]; simp only [List.length_append, List.length_cons, List.length_nil]; omega)) ?_ | refine And.intro (by assumption) ?_ | refine And.intro (by decide) ?_ | refine ⟨_, _, rfl, ?_⟩ | refine iteT rfl ?_ | refine iteF Bool.false_ne_true ?_)
      rw [hl]
      exact iteT rfl
    · have hl : listD d = true := by
        cases d <;> first | rfl | cases hi
      have hit : iterD d = some rows := by
        cases d <;> first | exact hi | cases hi
      repeat' (first | refine ix0T ?_ | refine ix1T ?_ | refine ix2T ?_ | refine ix0L ?_ | refine ix1L ?_ | refine ix2L ?_ | refine ⟨_, rfl, ?_⟩ | refine ⟨_, _, rfl, rfl, (by show (_ : Nat) ≤ sizeLine; first | assumption | exact big (DOk.strLen (by assumption)) | exact big (DOk.tupLen (by assumption)) | exact big (DOk.lstLen (by assumption)) | exact big (DOw.strLen (by assumption)) | exact big (DOw.tupLen (by assumption)) | exact big (DOw.lstLen (by assumption)) | exact big (DOz.strLen (by assumption)) | exact big (DOz.tupLen (by assumption)) | exact big (DOz.lstLen (by assumption))), ?_⟩ | refine ⟨_, _, rfl, rfl, (by first | decide | (show (0 : Int) < _; decide)), ?_⟩ | refine ⟨_, _, rfl, rfl, ?_⟩ | refine eqR_str ?_ | refine eqR_int ?_ | refine neR_str ?_ | refine neR_int ?_ | refine And.intro rfl ?_ | refine addL (by first | assumption | (rw [sizeLine_eq]; omega) | (rw [sizeLine_eq]; simp; done) | (rw [sizeLine_eq]; simp only [List.length_append, List.length_cons, List.length_nil]; omega)) ?_ | refine addT (by first | assumption | (rw [sizeLine_eq]; omega) | (rw [sizeLine_eq]; simp; done) | (rw [sizeLine_eq]; simp only [List.length_append, List.length_cons, List.length_nil]; omega)) ?_ | refine And.intro (by assumption) ?_ | refine And.intro (by decide) ?_ | refine ⟨_, _, rfl, ?_⟩ | refine iteT rfl ?_ | refine iteF Bool.false_ne_true ?_)
      rw [hl]
      repeat' (first | refine ix0T ?_ | refine ix1T ?_ | refine ix2T ?_ | refine ix0L ?_ | refine ix1L ?_ | refine ix2L ?_ | refine ⟨_, rfl, ?_⟩ | refine ⟨_, _, rfl, rfl, (by show (_ : Nat) ≤ sizeLine; first | assumption | exact big (DOk.strLen (by assumption)) | exact big (DOk.tupLen (by assumption)) | exact big (DOk.lstLen (by assumption)) | exact big (DOw.strLen (by assumption)) | exact big (DOw.tupLen (by assumption)) | exact big (DOw.lstLen (by assumption)) | exact big (DOz.strLen (by assumption)) | exact big (DOz.tupLen (by assumption)) | exact big (DOz.lstLen (by assumption))), ?_⟩ | refine ⟨_, _, rfl, rfl, (by first | decide | (show (0 : Int) < _; decide)), ?_⟩ | refine ⟨_, _, rfl, rfl, ?_⟩ | refine eqR_str ?_ | refine eqR_int ?_ | refine neR_str ?_ | refine neR_int ?_ | refine And.intro rfl ?_ | refine addL (by first | assumption | (rw [sizeLine_eq]; omega) | (rw [sizeLine_eq]; simp; done) | (rw [sizeLine_eq]; simp only [List.length_append, List.length_cons, List.length_nil]; omega)) ?_ | refine addT (by first | assumption | (rw [sizeLine_eq]; omega) | (rw [sizeLine_eq]; simp; done) | (rw [sizeLine_eq]; simp only [List.length_append, List.length_cons, List.length_nil]; omega)) ?_ | refine And.intro (by assumption) ?_ | refine And.intro (by decide) ?_ | refine ⟨_, _, rfl, ?_⟩ | refine iteT rfl ?_ | refine iteF Bool.false_ne_true ?_)
      refine ⟨rows, hit, ?_⟩
      refine lc_map (fun d => .dat (.bool (rowP d))) hz (fun d hd yes no y => ?_) ?_
      · have okd := okr d hd
        repeat' (first | refine ix0T ?_ | refine ix1T ?_ | refine ix2T ?_ | refine ix0L ?_ | refine ix1L ?_ | refine ix2L ?_ | refine ⟨_, rfl, ?_⟩ | refine ⟨_, _, rfl, rfl, (by show (_ : Nat) ≤ sizeLine; first | assumption | exact big (DOk.strLen (by assumption)) | exact big (DOk.tupLen (by assumption)) | exact big (DOk.lstLen (by assumption)) | exact big (DOw.strLen (by assumption)) | exact big (DOw.tupLen (by assumption)) | exact big (DOw.lstLen (by assumption)) | exact big (DOz.strLen (by assumption)) | exact big (DOz.tupLen (by assumption)) | exact big (DOz.lstLen (by assumption))), ?_⟩ | refine ⟨_, _, rfl, rfl, (by first | decide | (show (0 : Int) < _; decide)), ?_⟩ | refine ⟨_, _, rfl, rfl, ?_⟩ | refine eqR_str ?_ | refine eqR_int ?_ | refine neR_str ?_ | refine neR_int ?_ | refine And.intro rfl ?_ | refine addL (by first | assumption | (rw [sizeLine_eq]; omega) | (rw [sizeLine_eq]; simp; done) | (rw [sizeLine_eq]; simp only [List.length_append, List.length_cons, List.length_nil]; omega)) ?_ | refine addT (by first | assumption | (rw [sizeLine_eq]; omega) | (rw [sizeLine_eq]; simp; done) | (rw [sizeLine_eq]; simp only [List.length_append, List.length_cons, List.length_nil]; omega)) ?_ | refine And.intro (by assumption) ?_ | refine And.intro (by decide) ?_ | refine ⟨_, _, rfl, ?_⟩ | refine iteT rfl ?_ | refine iteF Bool.false_ne_true ?_)
        exact y
      · refine ⟨rows.map rowP, ?_, ?_⟩
        · rw [erase_map]
          simp
        · have hall : (rows.map rowP).all id = false := by
            rw [List.all_map]
            exact hf
          rw [hall]
          repeat' (first | refine ix0T ?_ | refine ix1T ?_ | refine ix2T ?_ | refine ix0L ?_ | refine ix1L ?_ | refine ix2L ?_ | refine ⟨_, rfl, ?_⟩ | refine ⟨_, _, rfl, rfl, (by show (_ : Nat) ≤ sizeLine; first | assumption | exact big (DOk.strLen (by assumption)) | exact big (DOk.tupLen (by assumption)) | exact big (DOk.lstLen (by assumption)) | exact big (DOw.strLen (by assumption)) | exact big (DOw.tupLen (by assumption)) | exact big (DOw.lstLen (by assumption)) | exact big (DOz.strLen (by assumption)) | exact big (DOz.tupLen (by assumption)) | exact big (DOz.lstLen (by assumption))), ?_⟩ | refine ⟨_, _, rfl, rfl, (by first | decide | (show (0 : Int) < _; decide)), ?_⟩ | refine ⟨_, _, rfl, rfl, ?_⟩ | refine eqR_str ?_ | refine eqR_int ?_ | refine neR_str ?_ | refine neR_int ?_ | refine And.intro rfl ?_ | refine addL (by first | assumption | (rw [sizeLine_eq]; omega) | (rw [sizeLine_eq]; simp; done) | (rw [sizeLine_eq]; simp only [List.length_append, List.length_cons, List.length_nil]; omega)) ?_ | refine addT (by first | assumption | (rw [sizeLine_eq]; omega) | (rw [sizeLine_eq]; simp; done) | (rw [sizeLine_eq]; simp only [List.length_append, List.length_cons, List.length_nil]; omega)) ?_ | refine And.intro (by assumption) ?_ | refine And.intro (by decide) ?_ | refine ⟨_, _, rfl, ?_⟩ | refine iteT rfl ?_ | refine iteF Bool.false_ne_true ?_)
          exact (rfl : (!false) = true)
  · subst hb
    have keep : ∀ {b : Addr} {u : HO}, H b = some u → H' b = some u := fun {b u} h => s.keep b u h (fun c e => nomatch e)
    show if true = true then _ else _
    rw [if_pos rfl]
    refine ⟨by decide, fun e he => ⟨e, .int 0, rfl, upd_same, fun dx hd ne => ⟨rfl, dx, _, upd_same, by rw [upd_ne ne]; exact upd_same, ?_, ?_⟩⟩⟩
    · rw [upd_ne ne] at hd
      exact hd
    · rw [upd_ne ne] at hd
      refine q _ dx (fun b u h => ?_) ?_ upd_same
      · have h1 := keep h
        have n1 : b ≠ dx := fun z => by rw [z, hd] at h1; cases h1
        have n2 : b ≠ e := fun z => by rw [z, he] at h1; cases h1
        rw [upd_ne n1, del_ne n2, upd_ne n2, upd_ne n1, upd_ne n2]
        exact h1
      · cases z : H dx with
        | none => rfl
        | some u => rw [keep z] at hd; cases hd
end
end K58
set_option Elab.async false
set_option linter.all false
set_option maxRecDepth 100000
set_option maxHeartbeats 1000000
set_option pp.maxSteps 500
/-! K58m: what the law says of a promise that is none -/
namespace K58
open PySem PySem.Spec PyProof.Rows L2 GL DL
structure CA (K : PySem.W.Frag) (mg : Str → Option Value) (A B W : Addr) : Prop where
  gA : mg "AskError" = some (.ref A)
  gB : mg "NoPlace" = some (.ref B)
  gW : mg "Wrong" = some (.ref W)
  exm : PySem.W.exmOne K (.ref W) (.ref A) = some true
  exc : ExcC K W
  kB : PySem.W.kitOne K (.ref W) (.ref B) = some false
  xf : XfC K W
  no : PySem.W.findIn K (.ref W) "place" = some none
def S_made : DSp := fun as P => ∃ d, as = [.d d] ∧ ((∃ rows, items d = some rows ∧ RowsOk rows ∧ P (.dat (.str "made"))) ∨ (Bad d ∧ P (.dat (.str "wrong"))))
/-- a promise's maker, of what is none -/
structure MkB (P : Program) (w : World) (K : PySem.W.Frag) (mg : Str → Option Value) (base : Heap) (k : Nat) (C W : Addr) : Prop where
  ex : ∃ (f : Addr) (fd : FuncData) (ps : List Str), FnX (L2.CX P w) P w K mg base k f fd ps (spBad C W K) ∧ Mk K C f ∧ Binds K fd ps []
section
variable {P : Program} {w : World} {K : PySem.W.Frag} {mg : Str → Option Value} {base : Heap} {f C A B W : Addr} {fd : FuncData}
theorem sc_made : FnScope ["_law_rows", "e"] ["_law_rows"] (defScope s_made) := ⟨rfl, rfl, rfl, by decide +kernel, rfl, by decide +kernel, by decide +kernel⟩
theorem ok_made (F : Fun K "_law_made" "_law_made" s_made f fd) (T : Txt0 mg) (N : CP K mg C) (R : CA K mg A B W) (m1 : MkG P w K mg base 6 "Promise" C S_init) (m2 : MkB P w K mg base 6 C W) : FnG P w K mg base 8 f fd ["_law_rows"] (spF K S_made) := by
  obtain ⟨f1, fd1, ps1, F1, M1, b1⟩ := m1.ex
  obtain ⟨f2, fd2, ps2, F2, M2, b2⟩ := m2.ex
  refine okG F sc_made (fun vs H Q E h => ?_) (fun cdv A' out s H vs Q E hG hr h => ?_)
  · obtain ⟨B', G, as, P', _, _, r, ⟨d, rfl, _⟩, _⟩ := h
    rw [r.length]
    rfl
  · have hu6 := units_of hr
    obtain ⟨B', G, as, P', sm, hb, r, ⟨d, rfl, h⟩, go⟩ := h
    cases r with
    | d rv r =>
    cases r
    rcases h with ⟨rows, hi, ok, q⟩ | ⟨bad, q⟩
    · refine ⟨_, pss_cons (ps_try_as (i := 1) rfl rfl sc_made.nd rfl rfl ⟨rfl, by decide, .inl R.gA⟩ takes0 (fun W' pn xe tk _ => pss_one (ps_expr (pe_makeG M1 F1 hG (hr.mono (by decide)) (by rfl) N.mg b1 (pa_cons (pv 0) pa_nil))))
        (fun a oe cls d pn hz hf => pss_never)) (pss_one (ps_ret pe_str)), ?_⟩
      refine ⟨_, rfl, fun x dx nx ndx ne => ?_⟩
      refine ⟨x, dx, _, H, B', G, _, fun fs => fs = [((Str.ofString "clauses"), PyData.list rows)], rfl, N.own, nx, ndx, ne, rfl, sm, hb, .d rv .nil, ⟨d, rows, rfl, hi, ok, rfl⟩, fun fs G' H' p s rr => ⟨rfl, ?_⟩⟩
      exact go _ G' H' (.str "made") [] q s (.dat (.str _)) (fun _ m => nomatch m)
    · refine ⟨_, pss_cons (ps_try_as (i := 1) rfl rfl sc_made.nd rfl rfl ⟨rfl, by decide, .inl R.gA⟩ takes0 (fun W' pn xe tk _ => pss_one (ps_expr (pe_makeX M2 F2 hG (hr.mono (by decide)) (by rfl) N.mg b2 (fun σ => passAt tk σ) (pa_cons (pv 0) pa_nil))))
        (fun a oe cls d pn hz hf => pss_one (ps_ret (pe_ifExp (PW.pt (pw_and (pt_val (pe_callB (call_isS R.exc hz hf) (by rfl) T.m_isinstance (by decide +kernel) (pa_cons (pv 1) (pa_cons (pe_glob (v := .ref W) (by rfl) R.gW rfl) pa_nil)) (by decide) (by decide)))
          (pw_and (pt_not (pt_val (pe_callB (call_isS R.exc hz hf) (by rfl) T.m_isinstance (by decide +kernel) (pa_cons (pv 1) (pa_cons (pe_glob (v := .ref B) (by rfl) R.gB rfl) pa_nil)) (by decide) (by decide))))
            (pw_and1 (pt_cmpR op_eq (pe_callB (show CallR (Cx.suite (Cx.nox (cxOf CX0 P w K mg base ["_law_rows", "e"] "_law_made" (defScope s_made) f cdv A' out s H E)) a ((a, oe) :: pn)) (.builtin "repr") (rRepr K) from call_reprD hG hu6) (by rfl) T.m_repr (by decide +kernel) (pa_cons (pe_xf R.xf R.no hz hf (pv 1)) pa_nil) (by decide) (by decide)) pe_str (nomark _)))))) pe_str pe_str)))) (pss_one (ps_ret pe_str)), ?_⟩
      refine ⟨_, rfl, fun x dx nx ndx ne => ?_⟩
      refine ⟨x, _, G, d, rfl, fun b u h => ?_, rv, bad, fun H' e sm2 he hx => ?_⟩
      · have h1 := sm _ _ h
        rw [upd_ne (ne_of_none h1 nx), upd_ne (ne_of_none h1 ndx)]
        exact h1
      have hWW : PySem.W.kitOne K (.ref W) (.ref W) = some true := by
        unfold PySem.W.kitOne
        simp
      refine ⟨true, R.exm, fun _ a ha => ?_, fun z => nomatch z⟩
      refine ⟨_, rfl, .ref W, .ref W, true, e, _, rfl, .own W, rfl, rfl, hx, hWW, true, rfl, ?_⟩
      refine iteT ?_
      refine ⟨_, rfl, .ref B, .ref B, false, e, _, rfl, .own B, rfl, rfl, hx, R.kB, false, rfl, ?_⟩
      refine iteT ?_
      refine ⟨_, rfl, rfl, rfl, e, _, .int 0, rfl, hx, rfl, ?_⟩
      refine ⟨_, .int 0, rfl, .int 0, rfl, rfl, by decide, by rw [sizeLine_eq]; decide +kernel, ?_⟩
      refine ⟨rfl, _, rfl, ?_⟩
      rw [show decide (V.str (PyData.int 0).shown = V.str "0") = true from decide_eq_true (congrArg V.str (by decide +kernel))]
      refine iteT ?_
      have keep : ∀ {b : Addr} {u : HO}, H b = some u → H' b = some u := fun {b u} h => sm2 _ _ (by
        rw [upd_ne (ne_of_none h nx), upd_ne (ne_of_none h ndx)]
        exact h)
      refine go _ G H' (.str "wrong") [] q ⟨fun b u h _ => keep h, Same.refl _, fun b u h => keep (sm _ _ h), fun _ h => .inl h, fun b _ h => ?_⟩ (.dat (.str _)) (fun _ m => nomatch m)
      obtain ⟨g', si, i, ns, e1, e2, e3⟩ := h
      exact ⟨g', si, i, ns, keep e1, e2, e3⟩
end
end K58
set_option Elab.async false
set_option linter.all false
set_option maxRecDepth 100000
set_option maxHeartbeats 1000000
set_option pp.maxSteps 500
/-! K58g: what is drawn: numbers, names -/
namespace K58
open PySem PySem.Spec PyProof.Rows L2 GL DL
def S_take : DSp := fun as P => ∃ m : Int, as = [.bag, .d (.int m)] ∧ 0 < m ∧ m < 1073741824 ∧ ∀ r : Int, 0 ≤ r → r < m → P (.dat (.int r))
def S_alike : DSp := fun as P => ∃ d, as = [.d d, .d d] ∧ DOw d ∧ P (.dat (.bool true))
theorem bag_of {G H : Hp} {b : Addr × Addr} (s : Same G H) (h : BagAt G H b) : Bg H b.1 b.2 := by
  obtain ⟨g, s', i, ns, h1, h2, h3⟩ := h
  exact ⟨g, s', i, ns, h1, s _ _ h2, h3⟩
theorem bag_to {G H H' : Hp} {b : Addr × Addr} (h0 : BagAt G H b) (s : Same G H') (h : Bg H' b.1 b.2) : BagAt G H' b := by
  obtain ⟨_, _, _, ns0, _, h2, _⟩ := h0
  obtain ⟨g, s', i, ns, k1, k2, k3⟩ := h
  have e := s _ _ h2
  rw [k2] at e
  injection e with e
  exact ⟨g, s', i, ns, k1, by rw [h2, e], k3⟩
theorem take_of {K : PySem.W.Frag} (vs : List V) (H : Hp) (Q : VK) (E : XK) (h : spF K S_take vs H Q E) : spTake vs H Q E := by
  obtain ⟨B, G, as, P, sGH, bag, rep, ⟨m, rfl, h0, h1, h2⟩, k⟩ := h
  cases rep with
  | @bag b _ _ eb r =>
    cases r with
    | d r1 r2 =>
      cases r1
      cases r2
      obtain ⟨ba, gb⟩ := bag b eb
      refine ⟨b.1, b.2, m, rfl, bag_of sGH ba, h0, h1, fun r xs hr0 hr1 hb => ?_⟩
      have s2 : Same G (upd H b.1 (.lst xs)) := fun a u e => by
        have ne : a ≠ b.1 := fun z => by rw [z, gb] at e; cases e
        rw [upd_ne ne]
        exact sGH _ _ e
      refine k (.dat (.int r)) G _ _ [] (h2 r hr0 hr1) ⟨fun a u e nb => ?_, Same.refl _, s2, fun a e => .inl e, fun b' e h => ?_⟩ (.dat (.int r)) (fun _ m => nomatch m)
      · have ne : a ≠ b.1 := fun z => nb b.2 (by rw [z]; exact eb)
        rw [upd_ne ne]
        exact e
      · rw [eb] at e
        cases e
        exact bag_to h s2 hb
def S_one : DSp := fun as P => ∃ ds, as = [.bag, .d (.list ds)] ∧ ds ≠ [] ∧ ds.length ≤ 1000 ∧ ∀ d ∈ ds, P (.dat d)
def NmS (z : Str) : Prop := nameS z = true
def S_names : DSp := fun as P => as = [.bag, .d (.int 3)] ∧ ∀ zs : List Str, zs.length = 3 → (∀ z ∈ zs, NmS z) → P (.lst ((zs.map PyData.str).map .dat))
theorem ixSign {r : Int} {P : PyData → Prop} (h0 : 0 ≤ r) (h1 : r < 26) (h : ∀ c, letD c = true → P (.str (signS c))) : ∃ d', ixD (.str "abcdefghijklmnopqrstuvwxyz") (.int r) = some d' ∧ P d' := by
  have hl : ("abcdefghijklmnopqrstuvwxyz" : Str).length ≤ sizeLine := by
    rw [sizeLine_eq]
    decide +kernel
  obtain ⟨c, hc, hm⟩ := at_mem (xs := ("abcdefghijklmnopqrstuvwxyz" : Str).cps.toList) h0 (by
    have : ("abcdefghijklmnopqrstuvwxyz" : Str).cps.toList.length = 26 := by decide +kernel
    omega)
  refine ⟨.str (signS c), ?_, h c (by rw [← mem_letters]; exact decide_eq_true hm)⟩
  show (if ("abcdefghijklmnopqrstuvwxyz" : Str).length ≤ sizeLine then (atI ("abcdefghijklmnopqrstuvwxyz" : Str).cps.toList r).map fun c => PyData.str ⟨#[c]⟩ else none) = _
  rw [if_pos hl, hc]
  rfl
/-- letters, n at most -/
def StB (z : Str) (n : Nat) : Prop := z.length ≤ n ∧ ∀ c ∈ z.cps.toList, letD c = true
theorem stb_mul {c : Nat} {k : Int} (h : letD c = true) (h0 : 0 ≤ k) (h4 : k ≤ 4) : StB (Txt.mul (signS c) k) 4 := by
  have : k = 0 ∨ k = 1 ∨ k = 2 ∨ k = 3 ∨ k = 4 := by omega
  have e : ∀ n : Int, (n = 0 ∨ n = 1 ∨ n = 2 ∨ n = 3 ∨ n = 4) → Txt.mul (signS c) n = ⟨(List.replicate n.toNat c).toArray⟩ := by
    rintro n (rfl | rfl | rfl | rfl | rfl) <;> rfl
  rw [e k this]
  refine ⟨?_, fun x m => ?_⟩
  · show (List.replicate k.toNat c).toArray.size ≤ 4
    simp
    omega
  · have z : 0 < k ∧ x = c := by simpa using m
    rw [z.2]
    exact h
theorem stb_add {x y : Str} {n m : Nat} (h : StB x n) (k : StB y m) : StB (x ++ y) (n + m) := by
  refine ⟨?_, fun c hc => ?_⟩
  · rw [Str.length_append]
    have := h.1
    have := k.1
    omega
  · have e : (x ++ y).cps.toList = x.cps.toList ++ y.cps.toList := by
      show (x.cps ++ y.cps).toList = _
      simp
    rw [e] at hc
    rcases List.mem_append.mp hc with z | z
    · exact h.2 c z
    · exact k.2 c z
theorem stb_name {z : Str} (h : StB z (4 + 1)) (h1 : 1 ≤ z.length) : NmS z := by
  show nameS z = true
  unfold nameS
  rw [decide_eq_true h1, decide_eq_true (show z.length ≤ 8 by have := h.1; omega), Bool.true_and, Bool.true_and, List.all_eq_true]
  exact h.2
theorem strs_of {R : Str → Prop} : ∀ {acc : List O}, (∀ o ∈ acc, ∃ z, R z ∧ o = .dat (.str z)) → ∃ zs : List Str, acc = (zs.map PyData.str).map .dat ∧ ∀ z ∈ zs, R z
  | [], _ => ⟨[], rfl, fun _ m => nomatch m⟩
  | o :: acc, h => by
    obtain ⟨zs, h1, h2⟩ := strs_of (acc := acc) fun o m => h o (List.mem_cons_of_mem _ m)
    obtain ⟨z, h3, h4⟩ := h o List.mem_cons_self
    refine ⟨z :: zs, by rw [h4, h1]; rfl, fun x m => ?_⟩
    rcases List.mem_cons.mp m with rfl | m
    · exact h3
    · exact h2 x m
section
variable {P : Program} {w : World} {K : PySem.W.Frag} {mg : Str → Option Value} {base : Heap} {f : Addr} {fd : FuncData}
theorem sc_alikeD : FnScope ["_law_found", "_law_right_here"] ["_law_found", "_law_right_here"] (defScope s_alike) := ⟨rfl, rfl, rfl, by decide +kernel, rfl, by decide +kernel, by decide +kernel⟩
theorem ok_alikeD (F : Fun K "_law_alike" "_law_alike" s_alike f fd) (T : Txt0 mg) : FnG P w K mg base 1 f fd ["_law_found", "_law_right_here"] (spF K S_alike) := by
  refine okD F sc_alikeD (fun as Q h => by obtain ⟨d, rfl, _⟩ := h; rfl) fun cdv A out s H E hG hr => have hu := units_ofx hr; have hu6 := units_of hr; ⟨_, (dss_one (ds_ret (DE.o (de_and (de_eq rfl hu (de_v (pv 0)) (de_v (pv 1))) (de_one (de_eq rfl hu (de_repr rfl hG hu6 T.m_repr (de_v (pv 0))) (de_repr rfl hG hu6 T.m_repr (de_v (pv 1))))))))), fun as Q h => ?_⟩
  obtain ⟨d, rfl, ok, q⟩ := h
  refine ⟨_, rfl, _, rfl, eqR_dat ok.nodict ok.nodict ok.shaped ok.shaped ?_⟩
  rw [SeqAt.eqv_refl d ok.lay]
  repeat' (first | refine ix0T ?_ | refine ix1T ?_ | refine ix2T ?_ | refine ix0L ?_ | refine ix1L ?_ | refine ix2L ?_ | refine ⟨_, rfl, ?_⟩ | refine ⟨_, _, rfl, rfl, (by show (_ : Nat) ≤ sizeLine; first | assumption | exact big (DOk.strLen (by assumption)) | exact big (DOk.tupLen (by assumption)) | exact big (DOk.lstLen (by assumption)) | exact big (DOw.strLen (by assumption)) | exact big (DOw.tupLen (by assumption)) | exact big (DOw.lstLen (by assumption)) | exact big (DOz.strLen (by assumption)) | exact big (DOz.tupLen (by assumption)) | exact big (DOz.lstLen (by assumption))), ?_⟩ | refine ⟨_, _, rfl, rfl, (by first | decide | (show (0 : Int) < _; decide)), ?_⟩ | refine ⟨_, _, rfl, rfl, ?_⟩ | refine eqR_str ?_ | refine eqR_int ?_ | refine neR_str ?_ | refine neR_int ?_ | refine And.intro rfl ?_ | refine addL (by first | assumption | (rw [sizeLine_eq]; omega) | (rw [sizeLine_eq]; simp; done) | (rw [sizeLine_eq]; simp only [List.length_append, List.length_cons, List.length_nil]; omega)) ?_ | refine addT (by first | assumption | (rw [sizeLine_eq]; omega) | (rw [sizeLine_eq]; simp; done) | (rw [sizeLine_eq]; simp only [List.length_append, List.length_cons, List.length_nil]; omega)) ?_ | refine And.intro (by assumption) ?_ | refine And.intro (by decide) ?_ | refine ⟨_, _, rfl, ?_⟩ | refine iteT rfl ?_ | refine iteF Bool.false_ne_true ?_)
  refine ⟨ok.nodict, ok.shows, Nat.le_trans ok.deep (by decide), ok.fits, ?_⟩
  repeat' (first | refine ix0T ?_ | refine ix1T ?_ | refine ix2T ?_ | refine ix0L ?_ | refine ix1L ?_ | refine ix2L ?_ | refine ⟨_, rfl, ?_⟩ | refine ⟨_, _, rfl, rfl, (by show (_ : Nat) ≤ sizeLine; first | assumption | exact big (DOk.strLen (by assumption)) | exact big (DOk.tupLen (by assumption)) | exact big (DOk.lstLen (by assumption)) | exact big (DOw.strLen (by assumption)) | exact big (DOw.tupLen (by assumption)) | exact big (DOw.lstLen (by assumption)) | exact big (DOz.strLen (by assumption)) | exact big (DOz.tupLen (by assumption)) | exact big (DOz.lstLen (by assumption))), ?_⟩ | refine ⟨_, _, rfl, rfl, (by first | decide | (show (0 : Int) < _; decide)), ?_⟩ | refine ⟨_, _, rfl, rfl, ?_⟩ | refine eqR_str ?_ | refine eqR_int ?_ | refine neR_str ?_ | refine neR_int ?_ | refine And.intro rfl ?_ | refine addL (by first | assumption | (rw [sizeLine_eq]; omega) | (rw [sizeLine_eq]; simp; done) | (rw [sizeLine_eq]; simp only [List.length_append, List.length_cons, List.length_nil]; omega)) ?_ | refine addT (by first | assumption | (rw [sizeLine_eq]; omega) | (rw [sizeLine_eq]; simp; done) | (rw [sizeLine_eq]; simp only [List.length_append, List.length_cons, List.length_nil]; omega)) ?_ | refine And.intro (by assumption) ?_ | refine And.intro (by decide) ?_ | refine ⟨_, _, rfl, ?_⟩ | refine iteT rfl ?_ | refine iteF Bool.false_ne_true ?_)
  refine ⟨ok.nodict, ok.shows, Nat.le_trans ok.deep (by decide), ok.fits, ?_⟩
  repeat' (first | refine ix0T ?_ | refine ix1T ?_ | refine ix2T ?_ | refine ix0L ?_ | refine ix1L ?_ | refine ix2L ?_ | refine ⟨_, rfl, ?_⟩ | refine ⟨_, _, rfl, rfl, (by show (_ : Nat) ≤ sizeLine; first | assumption | exact big (DOk.strLen (by assumption)) | exact big (DOk.tupLen (by assumption)) | exact big (DOk.lstLen (by assumption)) | exact big (DOw.strLen (by assumption)) | exact big (DOw.tupLen (by assumption)) | exact big (DOw.lstLen (by assumption)) | exact big (DOz.strLen (by assumption)) | exact big (DOz.tupLen (by assumption)) | exact big (DOz.lstLen (by assumption))), ?_⟩ | refine ⟨_, _, rfl, rfl, (by first | decide | (show (0 : Int) < _; decide)), ?_⟩ | refine ⟨_, _, rfl, rfl, ?_⟩ | refine eqR_str ?_ | refine eqR_int ?_ | refine neR_str ?_ | refine neR_int ?_ | refine And.intro rfl ?_ | refine addL (by first | assumption | (rw [sizeLine_eq]; omega) | (rw [sizeLine_eq]; simp; done) | (rw [sizeLine_eq]; simp only [List.length_append, List.length_cons, List.length_nil]; omega)) ?_ | refine addT (by first | assumption | (rw [sizeLine_eq]; omega) | (rw [sizeLine_eq]; simp; done) | (rw [sizeLine_eq]; simp only [List.length_append, List.length_cons, List.length_nil]; omega)) ?_ | refine And.intro (by assumption) ?_ | refine And.intro (by decide) ?_ | refine ⟨_, _, rfl, ?_⟩ | refine iteT rfl ?_ | refine iteF Bool.false_ne_true ?_)
  rw [decide_eq_true rfl]
  exact q
theorem sc_pick : FnScope ["_law_bag", "_law_some"] ["_law_bag", "_law_some"] (defScope s_pick) := ⟨rfl, rfl, rfl, by decide +kernel, rfl, by decide +kernel, by decide +kernel⟩
theorem ok_pick (F : Fun K "_law_pick" "_law_pick" s_pick f fd) (T : Txt0 mg) (c_take : ClG P w K mg base 1 "_law_take" (spF K S_take)) : FnG P w K mg base 2 f fd ["_law_bag", "_law_some"] (spF K S_one) := by
  refine okD F sc_pick (fun as Q h => by obtain ⟨ds, rfl, _⟩ := h; rfl) fun cdv A out s H E hG hr => have hu := units_ofx hr; have hu6 := units_of hr; ⟨_, (dss_one (ds_ret (DE.o (de_ixA rfl (de_v (pv 1)) (DO.d (do_call rfl c_take hG hr (by omega) (by rfl) (dr_bag (pv 0) (dr_cons (de_len rfl T.m_len (de_v (pv 1))) dr_nil)))))))), fun as Q h => ?_⟩
  obtain ⟨ds, rfl, h1, h2, q⟩ := h
  have hl : 0 < ds.length := List.length_pos_iff.mpr h1
  have hs : ds.length ≤ sizeLine := by rw [sizeLine_eq]; omega
  repeat' (first | refine ix0T ?_ | refine ix1T ?_ | refine ix2T ?_ | refine ix0L ?_ | refine ix1L ?_ | refine ix2L ?_ | refine ⟨_, rfl, ?_⟩ | refine ⟨_, _, rfl, rfl, (by show (_ : Nat) ≤ sizeLine; first | assumption | exact big (DOk.strLen (by assumption)) | exact big (DOk.tupLen (by assumption)) | exact big (DOk.lstLen (by assumption)) | exact big (DOw.strLen (by assumption)) | exact big (DOw.tupLen (by assumption)) | exact big (DOw.lstLen (by assumption)) | exact big (DOz.strLen (by assumption)) | exact big (DOz.tupLen (by assumption)) | exact big (DOz.lstLen (by assumption))), ?_⟩ | refine ⟨_, _, rfl, rfl, (by first | decide | (show (0 : Int) < _; decide)), ?_⟩ | refine ⟨_, _, rfl, rfl, ?_⟩ | refine eqR_str ?_ | refine eqR_int ?_ | refine neR_str ?_ | refine neR_int ?_ | refine And.intro rfl ?_ | refine addL (by first | assumption | (rw [sizeLine_eq]; omega) | (rw [sizeLine_eq]; simp; done) | (rw [sizeLine_eq]; simp only [List.length_append, List.length_cons, List.length_nil]; omega)) ?_ | refine addT (by first | assumption | (rw [sizeLine_eq]; omega) | (rw [sizeLine_eq]; simp; done) | (rw [sizeLine_eq]; simp only [List.length_append, List.length_cons, List.length_nil]; omega)) ?_ | refine And.intro (by assumption) ?_ | refine And.intro (by decide) ?_ | refine ⟨_, _, rfl, ?_⟩ | refine iteT rfl ?_ | refine iteF Bool.false_ne_true ?_)
  refine ⟨by omega, by omega, fun r hr0 hr1 => ?_⟩
  obtain ⟨v, hv, hm⟩ := at_mem hr0 hr1
  exact ⟨v, hv, q v hm⟩
theorem sc_names : FnScope ["_law_bag", "_law_many", "_law_letters", "_law_turn", "_law_far", "_law_stem", "_law_k"] ["_law_bag", "_law_many"] (defScope s_names) := ⟨rfl, rfl, rfl, by decide +kernel, rfl, by decide +kernel, by decide +kernel⟩
theorem ok_names (F : Fun K "_law_names" "_law_names" s_names f fd) (T : Txt0 mg) (c_take : ClG P w K mg base 1 "_law_take" (spF K S_take)) : FnG P w K mg base 2 f fd ["_law_bag", "_law_many"] (spF K S_names) := by
  refine okD F sc_names (fun as Q h => by obtain ⟨rfl, _⟩ := h; rfl) fun cdv A out s H E hG hr => have hu := units_ofx hr; have hu6 := units_of hr; ⟨_, (dss_cons (ds_asg (de_tup (da_cons de_str (da_cons (DO.d (do_call rfl c_take hG hr (by omega) (by rfl) (dr_bag (pv 0) (dr_cons de_int dr_nil)))) (da_cons (DO.d (do_call rfl c_take hG hr (by omega) (by rfl) (dr_bag (pv 0) (dr_cons de_int dr_nil)))) da_nil)))) (dg_tup (n := 3) rfl rfl (dgs_cons (dg_name (pg_name (i := 2) sc_names.nd rfl (.inr rfl))) (dgs_cons (dg_name (pg_name (i := 3) sc_names.nd rfl (.inr rfl))) (dgs_cons (dg_name (pg_name (i := 4) sc_names.nd rfl (.inl rfl))) dgs_nil)))))
(dss_cons (ds_set (i := 5) sc_names.nd rfl (.inr rfl) (do_mul (de_ixA rfl (de_v (pv 2)) (DO.d (do_call rfl c_take hG hr (by omega) (by rfl) (dr_bag (pv 0) (dr_cons de_int dr_nil))))) (DO.d (do_mul (de_v (pv 4)) (de_v (pv 4))))))
(dss_one (ds_ret (do_lc (own := [("_law_k", 6)]) rfl sc_names.nd (di_range1 (by rfl) T.m_range (da_cons (de_v (pv 1)) da_nil)) (blkOk_by (N := ["_law_bag", "_law_many", "_law_letters", "_law_turn", "_law_far", "_law_stem", "_law_k"]) (sc := defScope s_names) (by decide +kernel)) (fun _ _ _ _ _ => (dg_name (pg_name (i := 6) sc_names.nd rfl (.inl rfl)))) (fun _ _ _ _ _ => dts_nil) (fun _ _ _ _ _ => (do_add rfl (DO.d (do_mul (de_v (pv 5)) (de_intC T.m_int (de_mod (de_intC T.m_int (de_v (pv 6))) de_int)))) (de_ixA rfl (de_v (pv 2)) (de_mod (de_intC T.m_int (DO.d (do_add rfl (de_v (pv 3)) (DO.d (do_mul de_int (de_v (pv 6))))))) de_int))))))))), fun as Q h => ?_⟩
  obtain ⟨rfl, q⟩ := h
  repeat' (first | refine ix0T ?_ | refine ix1T ?_ | refine ix2T ?_ | refine ix0L ?_ | refine ix1L ?_ | refine ix2L ?_ | refine ⟨_, rfl, ?_⟩ | refine ⟨_, _, rfl, rfl, (by show (_ : Nat) ≤ sizeLine; first | assumption | exact big (DOk.strLen (by assumption)) | exact big (DOk.tupLen (by assumption)) | exact big (DOk.lstLen (by assumption)) | exact big (DOw.strLen (by assumption)) | exact big (DOw.tupLen (by assumption)) | exact big (DOw.lstLen (by assumption)) | exact big (DOz.strLen (by assumption)) | exact big (DOz.tupLen (by assumption)) | exact big (DOz.lstLen (by assumption))), ?_⟩ | refine ⟨_, _, rfl, rfl, (by first | decide | (show (0 : Int) < _; decide)), ?_⟩ | refine ⟨_, _, rfl, rfl, ?_⟩ | refine eqR_str ?_ | refine eqR_int ?_ | refine neR_str ?_ | refine neR_int ?_ | refine And.intro rfl ?_ | refine addL (by first | assumption | (rw [sizeLine_eq]; omega) | (rw [sizeLine_eq]; simp; done) | (rw [sizeLine_eq]; simp only [List.length_append, List.length_cons, List.length_nil]; omega)) ?_ | refine addT (by first | assumption | (rw [sizeLine_eq]; omega) | (rw [sizeLine_eq]; simp; done) | (rw [sizeLine_eq]; simp only [List.length_append, List.length_cons, List.length_nil]; omega)) ?_ | refine And.intro (by assumption) ?_ | refine And.intro (by decide) ?_ | refine ⟨_, _, rfl, ?_⟩ | refine iteT rfl ?_ | refine iteF Bool.false_ne_true ?_)
  intro turn ht0 ht1
  repeat' (first | refine ix0T ?_ | refine ix1T ?_ | refine ix2T ?_ | refine ix0L ?_ | refine ix1L ?_ | refine ix2L ?_ | refine ⟨_, rfl, ?_⟩ | refine ⟨_, _, rfl, rfl, (by show (_ : Nat) ≤ sizeLine; first | assumption | exact big (DOk.strLen (by assumption)) | exact big (DOk.tupLen (by assumption)) | exact big (DOk.lstLen (by assumption)) | exact big (DOw.strLen (by assumption)) | exact big (DOw.tupLen (by assumption)) | exact big (DOw.lstLen (by assumption)) | exact big (DOz.strLen (by assumption)) | exact big (DOz.tupLen (by assumption)) | exact big (DOz.lstLen (by assumption))), ?_⟩ | refine ⟨_, _, rfl, rfl, (by first | decide | (show (0 : Int) < _; decide)), ?_⟩ | refine ⟨_, _, rfl, rfl, ?_⟩ | refine eqR_str ?_ | refine eqR_int ?_ | refine neR_str ?_ | refine neR_int ?_ | refine And.intro rfl ?_ | refine addL (by first | assumption | (rw [sizeLine_eq]; omega) | (rw [sizeLine_eq]; simp; done) | (rw [sizeLine_eq]; simp only [List.length_append, List.length_cons, List.length_nil]; omega)) ?_ | refine addT (by first | assumption | (rw [sizeLine_eq]; omega) | (rw [sizeLine_eq]; simp; done) | (rw [sizeLine_eq]; simp only [List.length_append, List.length_cons, List.length_nil]; omega)) ?_ | refine And.intro (by assumption) ?_ | refine And.intro (by decide) ?_ | refine ⟨_, _, rfl, ?_⟩ | refine iteT rfl ?_ | refine iteF Bool.false_ne_true ?_)
  intro far hf0 hf1
  repeat' (first | refine ix0T ?_ | refine ix1T ?_ | refine ix2T ?_ | refine ix0L ?_ | refine ix1L ?_ | refine ix2L ?_ | refine ⟨_, rfl, ?_⟩ | refine ⟨_, _, rfl, rfl, (by show (_ : Nat) ≤ sizeLine; first | assumption | exact big (DOk.strLen (by assumption)) | exact big (DOk.tupLen (by assumption)) | exact big (DOk.lstLen (by assumption)) | exact big (DOw.strLen (by assumption)) | exact big (DOw.tupLen (by assumption)) | exact big (DOw.lstLen (by assumption)) | exact big (DOz.strLen (by assumption)) | exact big (DOz.tupLen (by assumption)) | exact big (DOz.lstLen (by assumption))), ?_⟩ | refine ⟨_, _, rfl, rfl, (by first | decide | (show (0 : Int) < _; decide)), ?_⟩ | refine ⟨_, _, rfl, rfl, ?_⟩ | refine eqR_str ?_ | refine eqR_int ?_ | refine neR_str ?_ | refine neR_int ?_ | refine And.intro rfl ?_ | refine addL (by first | assumption | (rw [sizeLine_eq]; omega) | (rw [sizeLine_eq]; simp; done) | (rw [sizeLine_eq]; simp only [List.length_append, List.length_cons, List.length_nil]; omega)) ?_ | refine addT (by first | assumption | (rw [sizeLine_eq]; omega) | (rw [sizeLine_eq]; simp; done) | (rw [sizeLine_eq]; simp only [List.length_append, List.length_cons, List.length_nil]; omega)) ?_ | refine And.intro (by assumption) ?_ | refine And.intro (by decide) ?_ | refine ⟨_, _, rfl, ?_⟩ | refine iteT rfl ?_ | refine iteF Bool.false_ne_true ?_)
  refine ⟨⟨_, rfl⟩, rfl, _, _, rfl, _, _, rfl, _, _, rfl, rfl, ?_⟩
  repeat' (first | refine ix0T ?_ | refine ix1T ?_ | refine ix2T ?_ | refine ix0L ?_ | refine ix1L ?_ | refine ix2L ?_ | refine ⟨_, rfl, ?_⟩ | refine ⟨_, _, rfl, rfl, (by show (_ : Nat) ≤ sizeLine; first | assumption | exact big (DOk.strLen (by assumption)) | exact big (DOk.tupLen (by assumption)) | exact big (DOk.lstLen (by assumption)) | exact big (DOw.strLen (by assumption)) | exact big (DOw.tupLen (by assumption)) | exact big (DOw.lstLen (by assumption)) | exact big (DOz.strLen (by assumption)) | exact big (DOz.tupLen (by assumption)) | exact big (DOz.lstLen (by assumption))), ?_⟩ | refine ⟨_, _, rfl, rfl, (by first | decide | (show (0 : Int) < _; decide)), ?_⟩ | refine ⟨_, _, rfl, rfl, ?_⟩ | refine eqR_str ?_ | refine eqR_int ?_ | refine neR_str ?_ | refine neR_int ?_ | refine And.intro rfl ?_ | refine addL (by first | assumption | (rw [sizeLine_eq]; omega) | (rw [sizeLine_eq]; simp; done) | (rw [sizeLine_eq]; simp only [List.length_append, List.length_cons, List.length_nil]; omega)) ?_ | refine addT (by first | assumption | (rw [sizeLine_eq]; omega) | (rw [sizeLine_eq]; simp; done) | (rw [sizeLine_eq]; simp only [List.length_append, List.length_cons, List.length_nil]; omega)) ?_ | refine And.intro (by assumption) ?_ | refine And.intro (by decide) ?_ | refine ⟨_, _, rfl, ?_⟩ | refine iteT rfl ?_ | refine iteF Bool.false_ne_true ?_)
  intro s hs0 hs1
  refine ixSign hs0 hs1 fun c hc => ?_
  repeat' (first | refine ix0T ?_ | refine ix1T ?_ | refine ix2T ?_ | refine ix0L ?_ | refine ix1L ?_ | refine ix2L ?_ | refine ⟨_, rfl, ?_⟩ | refine ⟨_, _, rfl, rfl, (by show (_ : Nat) ≤ sizeLine; first | assumption | exact big (DOk.strLen (by assumption)) | exact big (DOk.tupLen (by assumption)) | exact big (DOk.lstLen (by assumption)) | exact big (DOw.strLen (by assumption)) | exact big (DOw.tupLen (by assumption)) | exact big (DOw.lstLen (by assumption)) | exact big (DOz.strLen (by assumption)) | exact big (DOz.tupLen (by assumption)) | exact big (DOz.lstLen (by assumption))), ?_⟩ | refine ⟨_, _, rfl, rfl, (by first | decide | (show (0 : Int) < _; decide)), ?_⟩ | refine ⟨_, _, rfl, rfl, ?_⟩ | refine eqR_str ?_ | refine eqR_int ?_ | refine neR_str ?_ | refine neR_int ?_ | refine And.intro rfl ?_ | refine addL (by first | assumption | (rw [sizeLine_eq]; omega) | (rw [sizeLine_eq]; simp; done) | (rw [sizeLine_eq]; simp only [List.length_append, List.length_cons, List.length_nil]; omega)) ?_ | refine addT (by first | assumption | (rw [sizeLine_eq]; omega) | (rw [sizeLine_eq]; simp; done) | (rw [sizeLine_eq]; simp only [List.length_append, List.length_cons, List.length_nil]; omega)) ?_ | refine And.intro (by assumption) ?_ | refine And.intro (by decide) ?_ | refine ⟨_, _, rfl, ?_⟩ | refine iteT rfl ?_ | refine iteF Bool.false_ne_true ?_)
  have f4 : 0 ≤ far * far ∧ far * far ≤ 4 := by
    have : far = 0 ∨ far = 1 ∨ far = 2 := by omega
    rcases this with rfl | rfl | rfl <;> decide
  refine .inl ⟨far, far, rfl, rfl, ?_, ?_⟩
  · exact .inl ⟨by omega, by omega⟩
  refine .inr (.inl ⟨signS c, far * far, rfl, rfl, f4.1, by omega, by show (1 : Nat) ≤ 1000; decide, ?_⟩)
  have hst : StB (Txt.mul (signS c) (far * far)) 4 := stb_mul hc f4.1 f4.2
  generalize Txt.mul (signS c) (far * far) = st at hst ⊢
  repeat' (first | refine ix0T ?_ | refine ix1T ?_ | refine ix2T ?_ | refine ix0L ?_ | refine ix1L ?_ | refine ix2L ?_ | refine ⟨_, rfl, ?_⟩ | refine ⟨_, _, rfl, rfl, (by show (_ : Nat) ≤ sizeLine; first | assumption | exact big (DOk.strLen (by assumption)) | exact big (DOk.tupLen (by assumption)) | exact big (DOk.lstLen (by assumption)) | exact big (DOw.strLen (by assumption)) | exact big (DOw.tupLen (by assumption)) | exact big (DOw.lstLen (by assumption)) | exact big (DOz.strLen (by assumption)) | exact big (DOz.tupLen (by assumption)) | exact big (DOz.lstLen (by assumption))), ?_⟩ | refine ⟨_, _, rfl, rfl, (by first | decide | (show (0 : Int) < _; decide)), ?_⟩ | refine ⟨_, _, rfl, rfl, ?_⟩ | refine eqR_str ?_ | refine eqR_int ?_ | refine neR_str ?_ | refine neR_int ?_ | refine And.intro rfl ?_ | refine addL (by first | assumption | (rw [sizeLine_eq]; omega) | (rw [sizeLine_eq]; simp; done) | (rw [sizeLine_eq]; simp only [List.length_append, List.length_cons, List.length_nil]; omega)) ?_ | refine addT (by first | assumption | (rw [sizeLine_eq]; omega) | (rw [sizeLine_eq]; simp; done) | (rw [sizeLine_eq]; simp only [List.length_append, List.length_cons, List.length_nil]; omega)) ?_ | refine And.intro (by assumption) ?_ | refine And.intro (by decide) ?_ | refine ⟨_, _, rfl, ?_⟩ | refine iteT rfl ?_ | refine iteF Bool.false_ne_true ?_)
  refine (lc_each (ds := rangeD 0 (Int.toNat 3)) (fun o => ∃ z, NmS z ∧ o = .dat (.str z)) ?_ (fun d hd yes no y => ?_) (fun acc ha hR => ?_)).2
  · rw [len_range, sizeLine_eq]
    decide
  · obtain ⟨i, hi, rfl⟩ := List.mem_map.mp hd
    have hi : i < 3 := by simpa using hi
    refine ⟨_, rfl, _, rfl, ?_⟩
    refine ⟨_, _, rfl, rfl, ?_⟩
    refine ⟨_, _, rfl, rfl, (by show (0 : Int) < 2; decide), ?_⟩
    refine ⟨_, _, rfl, rfl, ?_⟩
    have hk : (0 + (i : Int)) % 2 = 0 ∨ (0 + (i : Int)) % 2 = 1 := by omega
    generalize (0 + (i : Int)) % 2 = kk at hk ⊢
    refine .inr (.inl ⟨st, kk, rfl, rfl, by omega, by omega, by have := hst.1; omega, ?_⟩)
    have hst2 : StB (Txt.mul st kk) 4 := by
      rcases hk with rfl | rfl
      · exact ⟨Nat.zero_le _, fun _ m => nomatch m⟩
      · exact hst
    generalize Txt.mul st kk = st2 at hst2 ⊢
    refine ⟨_, rfl, _, rfl, _, rfl, ?_⟩
    refine .inl ⟨3, 0 + (i : Int), rfl, rfl, .inl ⟨by decide, by decide⟩, ?_⟩
    refine ⟨_, rfl, ?_⟩
    refine ⟨_, _, rfl, rfl, ?_⟩
    refine ⟨_, _, rfl, rfl, (by show (0 : Int) < 26; decide), ?_⟩
    refine ixSign (Int.emod_nonneg _ (by decide)) (Int.emod_lt_of_pos _ (by decide)) fun c2 hc2 => ?_
    have one : StB (signS c2) 1 := ⟨Nat.le_refl _, fun x m => by rw [List.mem_singleton.mp m]; exact hc2⟩
    have all := stb_add hst2 one
    refine ⟨_, if_pos ?_, y _ ⟨_, stb_name all ?_, rfl⟩⟩
    · have := hst2.1
      have := one.1
      rw [sizeLine_eq]
      omega
    · rw [Str.length_append]
      have : (signS c2).length = 1 := rfl
      omega
  · rw [len_range] at ha
    obtain ⟨zs, rfl, hzs⟩ := strs_of hR
    rw [List.length_map, List.length_map] at ha
    exact q zs ha hzs
end
end K58
set_option Elab.async false
set_option linter.all false
set_option maxRecDepth 100000
set_option maxHeartbeats 1000000
set_option pp.maxSteps 500
/-! K58h: the law's own steps of a promise -/
namespace K58
open PySem PySem.Spec PyProof.Rows L2 GL DL
/-- a pattern's parts -/
def PatOk (ps : List PyData) : Prop := ∃ z ds, ps = .str z :: ds ∧ ((z = "root" ∧ ds.length = 2) ∨ (z = "field" ∧ ds.length = 3) ∨ (z = "mark" ∧ ds.length = 2))
/-- a read's parts -/
def ReadOk (rs : List PyData) : Prop := (∃ z n, rs = [.str "root", .str z, .int n]) ∨ (∃ a z n, rs = [.str "field", .int a, .str z, .int n]) ∨ (∃ a b, rs = [.str "mark", .int a, .int b])
theorem pat_of {ps : List PyData} (h : readD (.tuple ps) = true) : PatOk ps := by
  unfold readD at h
  split at h
  · rename_i z ds e
    cases e
    split at h
    · rename_i ys ht
      have hl := fits_len h
      have hm := tab_mem ht
      refine ⟨z, ds, rfl, ?_⟩
      simp only [List.mem_cons, List.mem_nil_iff, or_false, Prod.mk.injEq] at hm
      rcases hm with ⟨rfl, rfl⟩ | ⟨rfl, rfl⟩ | ⟨rfl, rfl⟩
      · exact .inl ⟨rfl, by simpa using hl.symm⟩
      · exact .inr (.inl ⟨rfl, by simpa using hl.symm⟩)
      · exact .inr (.inr ⟨rfl, by simpa using hl.symm⟩)
    · cases h
  · cases h
theorem like_str {x y : Str} {ps rs : List PyData} (h : x ≠ y) : likeD (.str x :: ps) (.str y :: rs) = false := by
  unfold likeD
  rw [eqv_str, decide_eq_false h]
  rfl
theorem like_len {ps rs : List PyData} (h : PatOk ps) (k : ReadOk rs) (hl : ps.length ≠ rs.length) : likeD ps rs = false := by
  obtain ⟨z, ds, rfl, h⟩ := h
  rcases k with ⟨y, n, rfl⟩ | ⟨a, y, n, rfl⟩ | ⟨a, b, rfl⟩ <;> rcases h with ⟨rfl, h⟩ | ⟨rfl, h⟩ | ⟨rfl, h⟩
  all_goals first
    | (apply like_str; decide)
    | (exfalso; apply hl; simp [h])
/-- what the law's own step tells -/
def numOf : PyData → Int
  | .int t => t
  | _ => -1
def S_promised : DSp := fun as P => ∃ rows s rs, as = [.d (.list rows), .d (.int s), .d (.tuple rs)] ∧ RowsOk rows ∧ DOw (.tuple rs) ∧ ReadOk rs ∧ P (.dat (.int (numOf (stepP rows s rs))))
theorem row_is2 {r : PyData} (ok : DOw r) (h : rowP r = true) : ∃ (p : Int) (ps : List PyData) (n : PyData), r = .tuple [.int p, .tuple ps, n] ∧ DOw (.tuple ps) ∧ PatOk ps ∧ (n = .none ∨ ∃ i, n = .int i) := by
  obtain ⟨p, ps, n, rfl, h1, h2⟩ := row_is ok h
  refine ⟨p, ps, n, rfl, h1, pat_of ?_, h2⟩
  unfold rowP at h
  rw [Bool.and_eq_true, Bool.and_eq_true] at h
  exact h.2.1
theorem like_flt : ∀ {ps rs : List PyData}, decide ((((ps.zip rs).filter fun p => !noneD p.1 && !PyData.eqv p.1 p.2).map fun _ => PyData.int 1) = []) = likeD ps rs
  | [], _ => by simp [likeD]
  | _ :: _, [] => by simp [likeD]
  | p :: ps, r :: rs => by
    rw [List.zip_cons_cons, List.filter_cons]
    unfold likeD
    have ih := like_flt (ps := ps) (rs := rs)
    cases h1 : noneD p <;> cases h2 : PyData.eqv p r
    · simp [h1, h2]
    · simpa [h1, h2] using ih
    · simpa [h1, h2] using ih
    · simpa [h1, h2] using ih
section
variable {P : Program} {w : World} {K : PySem.W.Frag} {mg : Str → Option Value} {base : Heap} {f C : Addr} {fd : FuncData}
theorem sc_promised : FnScope ["_law_rows", "_law_state", "_law_read", "_law_begin", "_law_pattern", "_law_later", "_law_part", "_law_told"] ["_law_rows", "_law_state", "_law_read"] (defScope s_promised) := ⟨rfl, rfl, rfl, by decide +kernel, rfl, by decide +kernel, by decide +kernel⟩
theorem ok_promised (F : Fun K "_law_promised" "_law_promised" s_promised f fd) (T : Txt0 mg) : FnG P w K mg base 1 f fd ["_law_rows", "_law_state", "_law_read"] (spF K S_promised) := by
  refine okD F sc_promised (fun as Q h => by obtain ⟨_, _, _, rfl, _⟩ := h; rfl) fun cdv A out s H E hG hr => have hu := units_ofx hr; have hu6 := units_of hr; ⟨_, (dss_cons (ds_for PassesOwn.never rfl (di_any rfl (de_v (pv 0))) (dg_tup (n := 3) rfl rfl (dgs_cons (dg_name (pg_name (i := 3) sc_promised.nd rfl (.inl rfl))) (dgs_cons (dg_name (pg_name (i := 4) sc_promised.nd rfl (.inl rfl))) (dgs_cons (dg_name (pg_name (i := 5) sc_promised.nd rfl (.inl rfl))) dgs_nil))))
(dss_one (ds_if (DW.db (dw_and (db_eq rfl hu (de_v (pv 3)) (de_v (pv 1))) (dw_and1 (db_eq rfl hu (de_len rfl T.m_len (de_v (pv 4))) (de_len rfl T.m_len (de_v (pv 2)))))))
(dss_one (ds_if (db_eq rfl hu (DO.d (do_lc (own := [("_law_part", 6), ("_law_told", 7)]) rfl sc_promised.nd (di_zip rfl (by rfl) T.m_zip (da_cons (de_v (pv 4)) (da_cons (de_v (pv 2)) da_nil))) (blkOk_by (N := ["_law_rows", "_law_state", "_law_read", "_law_begin", "_law_pattern", "_law_later", "_law_part", "_law_told"]) (sc := defScope s_promised) (by decide +kernel)) (fun _ _ _ _ _ => (dg_tup (n := 2) rfl rfl (dgs_cons (dg_name (pg_name (i := 6) sc_promised.nd rfl (.inl rfl))) (dgs_cons (dg_name (pg_name (i := 7) sc_promised.nd rfl (.inl rfl))) dgs_nil)))) (fun _ _ _ _ _ => (dts_one (DW.db (dw_and (db_cmp op_notN od_notN (de_v (pv 6)) de_non (nomark _)) (dw_and1 (db_ne rfl hu (de_v (pv 6)) (de_v (pv 7)))))))) (fun _ _ _ _ _ => (DE.o de_int)))) (DO.d (do_lst da_nil)))
(dss_one (ds_ret (DE.o (de_if (db_cmp op_isN od_isN (de_v (pv 5)) de_non (nomark _)) (de_neg de_int) (de_v (pv 5))))))
dss_nil))
dss_nil)))
(dss_one (ds_ret (DE.o (de_v (pv 1)))))), fun as Q h => ?_⟩
  obtain ⟨rows, st, rs, rfl, ok, okr, hrd, q⟩ := h
  repeat' (first | refine ix0T ?_ | refine ix1T ?_ | refine ix2T ?_ | refine ix0L ?_ | refine ix1L ?_ | refine ix2L ?_ | refine ⟨_, rfl, ?_⟩ | refine ⟨_, _, rfl, rfl, (by show (_ : Nat) ≤ sizeLine; first | assumption | exact big (DOk.strLen (by assumption)) | exact big (DOk.tupLen (by assumption)) | exact big (DOk.lstLen (by assumption)) | exact big (DOw.strLen (by assumption)) | exact big (DOw.tupLen (by assumption)) | exact big (DOw.lstLen (by assumption)) | exact big (DOz.strLen (by assumption)) | exact big (DOz.tupLen (by assumption)) | exact big (DOz.lstLen (by assumption))), ?_⟩ | refine ⟨_, _, rfl, rfl, (by first | decide | (show (0 : Int) < _; decide)), ?_⟩ | refine ⟨_, _, rfl, rfl, ?_⟩ | refine eqR_str ?_ | refine eqR_int ?_ | refine neR_str ?_ | refine neR_int ?_ | refine And.intro rfl ?_ | refine addL (by first | assumption | (rw [sizeLine_eq]; omega) | (rw [sizeLine_eq]; simp; done) | (rw [sizeLine_eq]; simp only [List.length_append, List.length_cons, List.length_nil]; omega)) ?_ | refine addT (by first | assumption | (rw [sizeLine_eq]; omega) | (rw [sizeLine_eq]; simp; done) | (rw [sizeLine_eq]; simp only [List.length_append, List.length_cons, List.length_nil]; omega)) ?_ | refine And.intro (by assumption) ?_ | refine And.intro (by decide) ?_ | refine ⟨_, _, rfl, ?_⟩ | refine iteT rfl ?_ | refine iteF Bool.false_ne_true ?_)
  refine ⟨fun i ρ' => ∃ x y z u v, ρ' = [some (.d (.list rows)), some (.d (.int st)), some (.d (.tuple rs)), x, y, z, u, v] ∧ stepP rows st rs = stepP (rows.drop i) st rs, ?_, ?_, ?_⟩
  · exact ⟨_, _, _, _, _, rfl, rfl⟩
  · rintro i d ρ' hd ⟨x, y, z, u, v, rfl, hm⟩
    rw [drop_at hd] at hm
    have md := List.mem_of_getElem? hd
    obtain ⟨p, ps, n, rfl, okp, hpat, hn⟩ := row_is2 (ok.ok.lst d md) (ok.all d md)
    have hm2 : stepP rows st rs = if (decide (p = st) && likeD ps rs) = true then n else stepP (rows.drop (i + 1)) st rs := hm
    refine ⟨_, rfl, ⟨_, rfl⟩, rfl, _, _, rfl, _, _, rfl, _, _, rfl, rfl, ?_⟩
    repeat' (first | refine ix0T ?_ | refine ix1T ?_ | refine ix2T ?_ | refine ix0L ?_ | refine ix1L ?_ | refine ix2L ?_ | refine ⟨_, rfl, ?_⟩ | refine ⟨_, _, rfl, rfl, (by show (_ : Nat) ≤ sizeLine; first | assumption | exact big (DOk.strLen (by assumption)) | exact big (DOk.tupLen (by assumption)) | exact big (DOk.lstLen (by assumption)) | exact big (DOw.strLen (by assumption)) | exact big (DOw.tupLen (by assumption)) | exact big (DOw.lstLen (by assumption)) | exact big (DOz.strLen (by assumption)) | exact big (DOz.tupLen (by assumption)) | exact big (DOz.lstLen (by assumption))), ?_⟩ | refine ⟨_, _, rfl, rfl, (by first | decide | (show (0 : Int) < _; decide)), ?_⟩ | refine ⟨_, _, rfl, rfl, ?_⟩ | refine eqR_str ?_ | refine eqR_int ?_ | refine neR_str ?_ | refine neR_int ?_ | refine And.intro rfl ?_ | refine addL (by first | assumption | (rw [sizeLine_eq]; omega) | (rw [sizeLine_eq]; simp; done) | (rw [sizeLine_eq]; simp only [List.length_append, List.length_cons, List.length_nil]; omega)) ?_ | refine addT (by first | assumption | (rw [sizeLine_eq]; omega) | (rw [sizeLine_eq]; simp; done) | (rw [sizeLine_eq]; simp only [List.length_append, List.length_cons, List.length_nil]; omega)) ?_ | refine And.intro (by assumption) ?_ | refine And.intro (by decide) ?_ | refine ⟨_, _, rfl, ?_⟩ | refine iteT rfl ?_ | refine iteF Bool.false_ne_true ?_)
    refine iteB (fun e => ?_) (fun e => ?_)
    · rw [e, Bool.true_and] at hm2
      repeat' (first | refine ix0T ?_ | refine ix1T ?_ | refine ix2T ?_ | refine ix0L ?_ | refine ix1L ?_ | refine ix2L ?_ | refine ⟨_, rfl, ?_⟩ | refine ⟨_, _, rfl, rfl, (by show (_ : Nat) ≤ sizeLine; first | assumption | exact big (DOk.strLen (by assumption)) | exact big (DOk.tupLen (by assumption)) | exact big (DOk.lstLen (by assumption)) | exact big (DOw.strLen (by assumption)) | exact big (DOw.tupLen (by assumption)) | exact big (DOw.lstLen (by assumption)) | exact big (DOz.strLen (by assumption)) | exact big (DOz.tupLen (by assumption)) | exact big (DOz.lstLen (by assumption))), ?_⟩ | refine ⟨_, _, rfl, rfl, (by first | decide | (show (0 : Int) < _; decide)), ?_⟩ | refine ⟨_, _, rfl, rfl, ?_⟩ | refine eqR_str ?_ | refine eqR_int ?_ | refine neR_str ?_ | refine neR_int ?_ | refine And.intro rfl ?_ | refine addL (by first | assumption | (rw [sizeLine_eq]; omega) | (rw [sizeLine_eq]; simp; done) | (rw [sizeLine_eq]; simp only [List.length_append, List.length_cons, List.length_nil]; omega)) ?_ | refine addT (by first | assumption | (rw [sizeLine_eq]; omega) | (rw [sizeLine_eq]; simp; done) | (rw [sizeLine_eq]; simp only [List.length_append, List.length_cons, List.length_nil]; omega)) ?_ | refine And.intro (by assumption) ?_ | refine And.intro (by decide) ?_ | refine ⟨_, _, rfl, ?_⟩ | refine iteT rfl ?_ | refine iteF Bool.false_ne_true ?_)
      refine iteB (fun e2 => ?_) (fun e2 => ?_)
      · repeat' (first | refine ix0T ?_ | refine ix1T ?_ | refine ix2T ?_ | refine ix0L ?_ | refine ix1L ?_ | refine ix2L ?_ | refine ⟨_, rfl, ?_⟩ | refine ⟨_, _, rfl, rfl, (by show (_ : Nat) ≤ sizeLine; first | assumption | exact big (DOk.strLen (by assumption)) | exact big (DOk.tupLen (by assumption)) | exact big (DOk.lstLen (by assumption)) | exact big (DOw.strLen (by assumption)) | exact big (DOw.tupLen (by assumption)) | exact big (DOw.lstLen (by assumption)) | exact big (DOz.strLen (by assumption)) | exact big (DOz.tupLen (by assumption)) | exact big (DOz.lstLen (by assumption))), ?_⟩ | refine ⟨_, _, rfl, rfl, (by first | decide | (show (0 : Int) < _; decide)), ?_⟩ | refine ⟨_, _, rfl, rfl, ?_⟩ | refine eqR_str ?_ | refine eqR_int ?_ | refine neR_str ?_ | refine neR_int ?_ | refine And.intro rfl ?_ | refine addL (by first | assumption | (rw [sizeLine_eq]; omega) | (rw [sizeLine_eq]; simp; done) | (rw [sizeLine_eq]; simp only [List.length_append, List.length_cons, List.length_nil]; omega)) ?_ | refine addT (by first | assumption | (rw [sizeLine_eq]; omega) | (rw [sizeLine_eq]; simp; done) | (rw [sizeLine_eq]; simp only [List.length_append, List.length_cons, List.length_nil]; omega)) ?_ | refine And.intro (by assumption) ?_ | refine And.intro (by decide) ?_ | refine ⟨_, _, rfl, ?_⟩ | refine iteT rfl ?_ | refine iteF Bool.false_ne_true ?_)
        refine ⟨_, _, _, _, rfl, .inr ⟨rfl, rfl⟩, ?_⟩
        refine lc_maps (fun p : PyData × PyData => pairD p) (ps.zip rs) (fun p => !noneD p.1 && !PyData.eqv p.1 p.2) (fun _ => .dat (.int 1)) ?_ (fun p hp yes no y1 y2 => ?_) ?_
        · rw [List.length_zip]
          exact Nat.lt_of_le_of_lt (Nat.min_le_left _ _) (big' okp.tupLen)
        · obtain ⟨p1, p2⟩ := p
          have ok1 := okp.tup _ (List.of_mem_zip hp).1
          have ok2 := okr.tup _ (List.of_mem_zip hp).2
          refine ⟨_, rfl, ⟨_, rfl⟩, rfl, _, _, rfl, _, _, rfl, rfl, ?_⟩
          cases hn2 : noneD p1 with
          | true =>
            have e5 : p1 = .none := by cases p1 <;> first | rfl | cases hn2
            subst e5
            have y2 := y2 rfl
            repeat' (first | refine ix0T ?_ | refine ix1T ?_ | refine ix2T ?_ | refine ix0L ?_ | refine ix1L ?_ | refine ix2L ?_ | refine ⟨_, rfl, ?_⟩ | refine ⟨_, _, rfl, rfl, (by show (_ : Nat) ≤ sizeLine; first | assumption | exact big (DOk.strLen (by assumption)) | exact big (DOk.tupLen (by assumption)) | exact big (DOk.lstLen (by assumption)) | exact big (DOw.strLen (by assumption)) | exact big (DOw.tupLen (by assumption)) | exact big (DOw.lstLen (by assumption)) | exact big (DOz.strLen (by assumption)) | exact big (DOz.tupLen (by assumption)) | exact big (DOz.lstLen (by assumption))), ?_⟩ | refine ⟨_, _, rfl, rfl, (by first | decide | (show (0 : Int) < _; decide)), ?_⟩ | refine ⟨_, _, rfl, rfl, ?_⟩ | refine eqR_str ?_ | refine eqR_int ?_ | refine neR_str ?_ | refine neR_int ?_ | refine And.intro rfl ?_ | refine addL (by first | assumption | (rw [sizeLine_eq]; omega) | (rw [sizeLine_eq]; simp; done) | (rw [sizeLine_eq]; simp only [List.length_append, List.length_cons, List.length_nil]; omega)) ?_ | refine addT (by first | assumption | (rw [sizeLine_eq]; omega) | (rw [sizeLine_eq]; simp; done) | (rw [sizeLine_eq]; simp only [List.length_append, List.length_cons, List.length_nil]; omega)) ?_ | refine And.intro (by assumption) ?_ | refine And.intro (by decide) ?_ | refine ⟨_, _, rfl, ?_⟩ | refine iteT rfl ?_ | refine iteF Bool.false_ne_true ?_)
            exact y2
          | false =>
            have h1 : PyData.eqv p1 p2 = false → yes (.dat (.int 1)) := fun z => y1 (by rw [hn2, z]; rfl)
            have h2 : PyData.eqv p1 p2 = true → no := fun z => y2 (by rw [hn2, z]; rfl)
            cases p1 <;> (first | exact absurd hn2 (by decide) | exact (dict_no ok1).elim | skip) <;> (repeat' (first | refine ix0T ?_ | refine ix1T ?_ | refine ix2T ?_ | refine ix0L ?_ | refine ix1L ?_ | refine ix2L ?_ | refine ⟨_, rfl, ?_⟩ | refine ⟨_, _, rfl, rfl, (by show (_ : Nat) ≤ sizeLine; first | assumption | exact big (DOk.strLen (by assumption)) | exact big (DOk.tupLen (by assumption)) | exact big (DOk.lstLen (by assumption)) | exact big (DOw.strLen (by assumption)) | exact big (DOw.tupLen (by assumption)) | exact big (DOw.lstLen (by assumption)) | exact big (DOz.strLen (by assumption)) | exact big (DOz.tupLen (by assumption)) | exact big (DOz.lstLen (by assumption))), ?_⟩ | refine ⟨_, _, rfl, rfl, (by first | decide | (show (0 : Int) < _; decide)), ?_⟩ | refine ⟨_, _, rfl, rfl, ?_⟩ | refine eqR_str ?_ | refine eqR_int ?_ | refine neR_str ?_ | refine neR_int ?_ | refine And.intro rfl ?_ | refine addL (by first | assumption | (rw [sizeLine_eq]; omega) | (rw [sizeLine_eq]; simp; done) | (rw [sizeLine_eq]; simp only [List.length_append, List.length_cons, List.length_nil]; omega)) ?_ | refine addT (by first | assumption | (rw [sizeLine_eq]; omega) | (rw [sizeLine_eq]; simp; done) | (rw [sizeLine_eq]; simp only [List.length_append, List.length_cons, List.length_nil]; omega)) ?_ | refine And.intro (by assumption) ?_ | refine And.intro (by decide) ?_ | refine ⟨_, _, rfl, ?_⟩ | refine iteT rfl ?_ | refine iteF Bool.false_ne_true ?_))
            all_goals
              refine neR_dat ok1.nodict ok2.nodict ok1.shaped ok2.shaped ?_
              refine ⟨_, rfl, ?_⟩
              refine iteB (fun e6 => ?_) (fun e6 => ?_)
              · exact h1 (by simpa using e6)
              · exact h2 (by simpa using e6)
        · have er : (O.lst (((ps.zip rs).filter fun p => !noneD p.1 && !PyData.eqv p.1 p.2).map fun _ => O.dat (.int 1))).erase = .list (((ps.zip rs).filter fun p => !noneD p.1 && !PyData.eqv p.1 p.2).map fun _ => .int 1) := by
            rw [erase_map]
          show eqR false (O.lst (((ps.zip rs).filter fun p => !noneD p.1 && !PyData.eqv p.1 p.2).map fun _ => O.dat (.int 1))).erase (.list []) _
          rw [er]
          refine eqR_nilA (fun d hd => ?_) ?_
          · obtain ⟨c, hc, rfl⟩ := List.mem_map.mp hd
            exact (pt_of (by decide +kernel)).ok
          · rw [like_flt]
            refine ⟨_, rfl, ?_⟩
            refine iteB (fun e3 => ?_) (fun e3 => ?_)
            · rw [if_pos e3] at hm2
              rw [hm2] at q
              rcases hn with rfl | ⟨i2, rfl⟩
              · repeat' (first | refine ix0T ?_ | refine ix1T ?_ | refine ix2T ?_ | refine ix0L ?_ | refine ix1L ?_ | refine ix2L ?_ | refine ⟨_, rfl, ?_⟩ | refine ⟨_, _, rfl, rfl, (by show (_ : Nat) ≤ sizeLine; first | assumption | exact big (DOk.strLen (by assumption)) | exact big (DOk.tupLen (by assumption)) | exact big (DOk.lstLen (by assumption)) | exact big (DOw.strLen (by assumption)) | exact big (DOw.tupLen (by assumption)) | exact big (DOw.lstLen (by assumption)) | exact big (DOz.strLen (by assumption)) | exact big (DOz.tupLen (by assumption)) | exact big (DOz.lstLen (by assumption))), ?_⟩ | refine ⟨_, _, rfl, rfl, (by first | decide | (show (0 : Int) < _; decide)), ?_⟩ | refine ⟨_, _, rfl, rfl, ?_⟩ | refine eqR_str ?_ | refine eqR_int ?_ | refine neR_str ?_ | refine neR_int ?_ | refine And.intro rfl ?_ | refine addL (by first | assumption | (rw [sizeLine_eq]; omega) | (rw [sizeLine_eq]; simp; done) | (rw [sizeLine_eq]; simp only [List.length_append, List.length_cons, List.length_nil]; omega)) ?_ | refine addT (by first | assumption | (rw [sizeLine_eq]; omega) | (rw [sizeLine_eq]; simp; done) | (rw [sizeLine_eq]; simp only [List.length_append, List.length_cons, List.length_nil]; omega)) ?_ | refine And.intro (by assumption) ?_ | refine And.intro (by decide) ?_ | refine ⟨_, _, rfl, ?_⟩ | refine iteT rfl ?_ | refine iteF Bool.false_ne_true ?_)
                exact q
              · repeat' (first | refine ix0T ?_ | refine ix1T ?_ | refine ix2T ?_ | refine ix0L ?_ | refine ix1L ?_ | refine ix2L ?_ | refine ⟨_, rfl, ?_⟩ | refine ⟨_, _, rfl, rfl, (by show (_ : Nat) ≤ sizeLine; first | assumption | exact big (DOk.strLen (by assumption)) | exact big (DOk.tupLen (by assumption)) | exact big (DOk.lstLen (by assumption)) | exact big (DOw.strLen (by assumption)) | exact big (DOw.tupLen (by assumption)) | exact big (DOw.lstLen (by assumption)) | exact big (DOz.strLen (by assumption)) | exact big (DOz.tupLen (by assumption)) | exact big (DOz.lstLen (by assumption))), ?_⟩ | refine ⟨_, _, rfl, rfl, (by first | decide | (show (0 : Int) < _; decide)), ?_⟩ | refine ⟨_, _, rfl, rfl, ?_⟩ | refine eqR_str ?_ | refine eqR_int ?_ | refine neR_str ?_ | refine neR_int ?_ | refine And.intro rfl ?_ | refine addL (by first | assumption | (rw [sizeLine_eq]; omega) | (rw [sizeLine_eq]; simp; done) | (rw [sizeLine_eq]; simp only [List.length_append, List.length_cons, List.length_nil]; omega)) ?_ | refine addT (by first | assumption | (rw [sizeLine_eq]; omega) | (rw [sizeLine_eq]; simp; done) | (rw [sizeLine_eq]; simp only [List.length_append, List.length_cons, List.length_nil]; omega)) ?_ | refine And.intro (by assumption) ?_ | refine And.intro (by decide) ?_ | refine ⟨_, _, rfl, ?_⟩ | refine iteT rfl ?_ | refine iteF Bool.false_ne_true ?_)
                exact q
            · rw [if_neg (by rw [e3]; exact Bool.false_ne_true)] at hm2
              repeat' (first | refine ix0T ?_ | refine ix1T ?_ | refine ix2T ?_ | refine ix0L ?_ | refine ix1L ?_ | refine ix2L ?_ | refine ⟨_, rfl, ?_⟩ | refine ⟨_, _, rfl, rfl, (by show (_ : Nat) ≤ sizeLine; first | assumption | exact big (DOk.strLen (by assumption)) | exact big (DOk.tupLen (by assumption)) | exact big (DOk.lstLen (by assumption)) | exact big (DOw.strLen (by assumption)) | exact big (DOw.tupLen (by assumption)) | exact big (DOw.lstLen (by assumption)) | exact big (DOz.strLen (by assumption)) | exact big (DOz.tupLen (by assumption)) | exact big (DOz.lstLen (by assumption))), ?_⟩ | refine ⟨_, _, rfl, rfl, (by first | decide | (show (0 : Int) < _; decide)), ?_⟩ | refine ⟨_, _, rfl, rfl, ?_⟩ | refine eqR_str ?_ | refine eqR_int ?_ | refine neR_str ?_ | refine neR_int ?_ | refine And.intro rfl ?_ | refine addL (by first | assumption | (rw [sizeLine_eq]; omega) | (rw [sizeLine_eq]; simp; done) | (rw [sizeLine_eq]; simp only [List.length_append, List.length_cons, List.length_nil]; omega)) ?_ | refine addT (by first | assumption | (rw [sizeLine_eq]; omega) | (rw [sizeLine_eq]; simp; done) | (rw [sizeLine_eq]; simp only [List.length_append, List.length_cons, List.length_nil]; omega)) ?_ | refine And.intro (by assumption) ?_ | refine And.intro (by decide) ?_ | refine ⟨_, _, rfl, ?_⟩ | refine iteT rfl ?_ | refine iteF Bool.false_ne_true ?_)
              exact ⟨_, _, _, _, _, rfl, hm2⟩
      · have hl : ps.length ≠ rs.length := by
          intro z
          have := of_decide_eq_false e2
          rw [z] at this
          exact this rfl
        rw [like_len hpat hrd hl, if_neg Bool.false_ne_true] at hm2
        repeat' (first | refine ix0T ?_ | refine ix1T ?_ | refine ix2T ?_ | refine ix0L ?_ | refine ix1L ?_ | refine ix2L ?_ | refine ⟨_, rfl, ?_⟩ | refine ⟨_, _, rfl, rfl, (by show (_ : Nat) ≤ sizeLine; first | assumption | exact big (DOk.strLen (by assumption)) | exact big (DOk.tupLen (by assumption)) | exact big (DOk.lstLen (by assumption)) | exact big (DOw.strLen (by assumption)) | exact big (DOw.tupLen (by assumption)) | exact big (DOw.lstLen (by assumption)) | exact big (DOz.strLen (by assumption)) | exact big (DOz.tupLen (by assumption)) | exact big (DOz.lstLen (by assumption))), ?_⟩ | refine ⟨_, _, rfl, rfl, (by first | decide | (show (0 : Int) < _; decide)), ?_⟩ | refine ⟨_, _, rfl, rfl, ?_⟩ | refine eqR_str ?_ | refine eqR_int ?_ | refine neR_str ?_ | refine neR_int ?_ | refine And.intro rfl ?_ | refine addL (by first | assumption | (rw [sizeLine_eq]; omega) | (rw [sizeLine_eq]; simp; done) | (rw [sizeLine_eq]; simp only [List.length_append, List.length_cons, List.length_nil]; omega)) ?_ | refine addT (by first | assumption | (rw [sizeLine_eq]; omega) | (rw [sizeLine_eq]; simp; done) | (rw [sizeLine_eq]; simp only [List.length_append, List.length_cons, List.length_nil]; omega)) ?_ | refine And.intro (by assumption) ?_ | refine And.intro (by decide) ?_ | refine ⟨_, _, rfl, ?_⟩ | refine iteT rfl ?_ | refine iteF Bool.false_ne_true ?_)
        exact ⟨_, _, _, _, _, rfl, hm2⟩
    · rw [e, Bool.false_and, if_neg Bool.false_ne_true] at hm2
      repeat' (first | refine ix0T ?_ | refine ix1T ?_ | refine ix2T ?_ | refine ix0L ?_ | refine ix1L ?_ | refine ix2L ?_ | refine ⟨_, rfl, ?_⟩ | refine ⟨_, _, rfl, rfl, (by show (_ : Nat) ≤ sizeLine; first | assumption | exact big (DOk.strLen (by assumption)) | exact big (DOk.tupLen (by assumption)) | exact big (DOk.lstLen (by assumption)) | exact big (DOw.strLen (by assumption)) | exact big (DOw.tupLen (by assumption)) | exact big (DOw.lstLen (by assumption)) | exact big (DOz.strLen (by assumption)) | exact big (DOz.tupLen (by assumption)) | exact big (DOz.lstLen (by assumption))), ?_⟩ | refine ⟨_, _, rfl, rfl, (by first | decide | (show (0 : Int) < _; decide)), ?_⟩ | refine ⟨_, _, rfl, rfl, ?_⟩ | refine eqR_str ?_ | refine eqR_int ?_ | refine neR_str ?_ | refine neR_int ?_ | refine And.intro rfl ?_ | refine addL (by first | assumption | (rw [sizeLine_eq]; omega) | (rw [sizeLine_eq]; simp; done) | (rw [sizeLine_eq]; simp only [List.length_append, List.length_cons, List.length_nil]; omega)) ?_ | refine addT (by first | assumption | (rw [sizeLine_eq]; omega) | (rw [sizeLine_eq]; simp; done) | (rw [sizeLine_eq]; simp only [List.length_append, List.length_cons, List.length_nil]; omega)) ?_ | refine And.intro (by assumption) ?_ | refine And.intro (by decide) ?_ | refine ⟨_, _, rfl, ?_⟩ | refine iteT rfl ?_ | refine iteF Bool.false_ne_true ?_)
      exact ⟨_, _, _, _, _, rfl, hm2⟩
  · rintro ρ' ⟨x, y, z, u, v, rfl, hm⟩
    rw [List.drop_length] at hm
    rw [hm] at q
    repeat' (first | refine ix0T ?_ | refine ix1T ?_ | refine ix2T ?_ | refine ix0L ?_ | refine ix1L ?_ | refine ix2L ?_ | refine ⟨_, rfl, ?_⟩ | refine ⟨_, _, rfl, rfl, (by show (_ : Nat) ≤ sizeLine; first | assumption | exact big (DOk.strLen (by assumption)) | exact big (DOk.tupLen (by assumption)) | exact big (DOk.lstLen (by assumption)) | exact big (DOw.strLen (by assumption)) | exact big (DOw.tupLen (by assumption)) | exact big (DOw.lstLen (by assumption)) | exact big (DOz.strLen (by assumption)) | exact big (DOz.tupLen (by assumption)) | exact big (DOz.lstLen (by assumption))), ?_⟩ | refine ⟨_, _, rfl, rfl, (by first | decide | (show (0 : Int) < _; decide)), ?_⟩ | refine ⟨_, _, rfl, rfl, ?_⟩ | refine eqR_str ?_ | refine eqR_int ?_ | refine neR_str ?_ | refine neR_int ?_ | refine And.intro rfl ?_ | refine addL (by first | assumption | (rw [sizeLine_eq]; omega) | (rw [sizeLine_eq]; simp; done) | (rw [sizeLine_eq]; simp only [List.length_append, List.length_cons, List.length_nil]; omega)) ?_ | refine addT (by first | assumption | (rw [sizeLine_eq]; omega) | (rw [sizeLine_eq]; simp; done) | (rw [sizeLine_eq]; simp only [List.length_append, List.length_cons, List.length_nil]; omega)) ?_ | refine And.intro (by assumption) ?_ | refine And.intro (by decide) ?_ | refine ⟨_, _, rfl, ?_⟩ | refine iteT rfl ?_ | refine iteF Bool.false_ne_true ?_)
    exact q
end
end K58
set_option Elab.async false
set_option linter.all false
set_option maxRecDepth 100000
set_option maxHeartbeats 1000000
set_option pp.maxSteps 500
/-! K58i: what a promise tells of a log -/
namespace K58
open PySem PySem.Spec PyProof.Rows L2 GL DL
/-- small data -/
def dwB (d : PyData) : Bool := d.canLay0 && (d.leavesShort 48 && (decide (d.weight ≤ 140) && (decide (d.depth ≤ 2) && d.showable)))
def Sm (d : PyData) : Prop := DOw d ∧ d.weight ≤ 140 ∧ d.depth ≤ 2
theorem sm_of {d : PyData} (h : dwB d = true) : Sm d := by
  unfold dwB at h
  simp only [Bool.and_eq_true, decide_eq_true_eq] at h
  obtain ⟨h1, h2, h3, h4, h5⟩ := h
  exact ⟨⟨h1, h2, by omega, by omega, h5⟩, h3, h4⟩
theorem sm_num {t : Int} (h0 : 0 ≤ t) (h1 : t < 100) : Sm (.int t) := by
  have e : ∀ n : Fin 100, dwB (.int (n.val : Int)) = true := by decide +kernel
  obtain ⟨n, rfl⟩ := Int.eq_ofNat_of_zero_le h0
  exact sm_of (e ⟨n, by omega⟩)
theorem sm_none : Sm .none := sm_of (by decide +kernel)
theorem sm_list {ds : List PyData} (h : ∀ d ∈ ds, Sm d) (hn : ds.length ≤ 600) : DOw (.list ds) ∧ DOw (.tuple ds) ∧ PyData.weightAll ds ≤ ds.length * 141 ∧ PyData.depthAll ds ≤ 2 :=
  dow_all (n := 140) (m := 2) h (by decide) (by omega)
theorem step_num {rows : List PyData} {rs : List PyData} (h : ∀ r ∈ rows, DOw r ∧ rowP r = true) {s : Int} (h0 : 0 ≤ s) (h1 : s < 100) : stepP rows s rs = .none ∨ ∃ t, stepP rows s rs = .int t ∧ 0 ≤ t ∧ t < 100 := by
  induction rows with
  | nil => exact .inr ⟨s, rfl, h0, h1⟩
  | cons r rows ih =>
    have hr := (h r (by simp)).2
    obtain ⟨p, ps, n, rfl, _, hn⟩ := row_is (h r (by simp)).1 hr
    unfold stepP
    split
    · rcases hn with rfl | ⟨i, rfl⟩
      · exact .inl rfl
      · unfold rowP at hr
        simp [noneD, numD] at hr
        exact .inr ⟨i, rfl, hr.2.2.1, hr.2.2.2⟩
    · exact ih fun r m => h r (List.mem_cons_of_mem _ m)
def S_right (C : Addr) : DSp := fun as P => ∃ rows log, as = [.bag, .d (objP C rows), .d (.list rows), .d (.list log)] ∧ RowsOk rows ∧ DOw (.list log) ∧ log.length ≤ 99 ∧ (∀ r ∈ log, ∃ rs, r = .tuple rs ∧ ReadOk rs) ∧ P (.dat (.bool true))
section
variable {P : Program} {w : World} {K : PySem.W.Frag} {mg : Str → Option Value} {base : Heap} {f C : Addr} {fd : FuncData}
theorem sc_right : FnScope ["_law_bag", "_law_promise", "_law_rows", "_law_log", "_law_state", "_law_end", "_law_at", "_law_read", "_law_again", "_law_told"] ["_law_bag", "_law_promise", "_law_rows", "_law_log"] (defScope s_right) := ⟨rfl, rfl, rfl, by decide +kernel, rfl, by decide +kernel, by decide +kernel⟩
theorem ok_right (F : Fun K "_law_right" "_law_right" s_right f fd) (T : Txt0 mg) (N : CP K mg C) (c_alike : ClG P w K mg base 1 "_law_alike" (spF K S_alike)) (c_promised : ClG P w K mg base 1 "_law_promised" (spF K S_promised))
    (c_after : MtG P w K mg base 3 C "state_after" (spF K (S_after C))) (c_brk : MtG P w K mg base 3 C "broken_at" (spF K (S_brk C))) : FnG P w K mg base 4 f fd ["_law_bag", "_law_promise", "_law_rows", "_law_log"] (spF K (S_right C)) := by
  refine okD F sc_right (fun as Q h => by obtain ⟨_, _, rfl, _⟩ := h; rfl) fun cdv A out s H E hG hr => have hu := units_ofx hr; have hu6 := units_of hr; ⟨_, (dss_cons (ds_asg (de_tup (da_cons de_int (da_cons de_non da_nil))) (dg_tup (n := 2) rfl rfl (dgs_cons (dg_name (pg_name (i := 4) sc_right.nd rfl (.inl rfl))) (dgs_cons (dg_name (pg_name (i := 5) sc_right.nd rfl (.inl rfl))) dgs_nil))))
(dss_cons (ds_for PassesOwn.never rfl (di_enum rfl (by rfl) T.m_enumerate (de_v (pv 3))) (dg_tup (n := 2) rfl rfl (dgs_cons (dg_name (pg_name (i := 6) sc_right.nd rfl (.inl rfl))) (dgs_cons (dg_name (pg_name (i := 7) sc_right.nd rfl (.inl rfl))) dgs_nil)))
(dss_one (ds_if (db_cmp op_isN od_isN (de_v (pv 5)) de_non (nomark _))
(dss_cons (ds_set (i := 4) sc_right.nd rfl (.inl rfl) (do_call rfl c_promised hG hr (by omega) (by rfl) (dr_cons (de_v (pv 2)) (dr_cons (de_v (pv 4)) (dr_cons (de_v (pv 7)) dr_nil)))))
(dss_one (ds_set (i := 5) sc_right.nd rfl (.inl rfl) (DE.o (de_if (db_cmp op_lt od_Ib (de_v (pv 4)) de_int (nomark _)) (de_v (pv 6)) de_non)))))
dss_nil)))
(dss_cons (ds_for PassesOwn.never rfl (di_range1 (by rfl) T.m_range (da_cons de_int da_nil)) (dg_name (pg_name (i := 8) sc_right.nd rfl (.inl rfl)))
(dss_cons (ds_set (i := 9) sc_right.nd rfl (.inl rfl) (do_lst (da_cons (DO.d (do_meth rfl N.own.cl c_after hG hr (by omega) (de_v (pv 1)) (dr_cons (de_v (pv 3)) dr_nil))) (da_cons (DO.d (do_meth rfl N.own.cl c_brk hG hr (by omega) (de_v (pv 1)) (dr_cons (de_v (pv 3)) dr_nil))) da_nil))))
(dss_one (ds_if (db_not (db_val (de_flat (DO.d (do_call rfl c_alike hG hr (by omega) (by rfl) (dr_cons (de_v (pv 9)) (dr_cons (DO.d (do_lst (da_cons (de_if (db_cmp op_notN od_notN (de_v (pv 5)) de_non (nomark _)) de_non (de_v (pv 4))) (da_cons (de_v (pv 5)) da_nil)))) dr_nil)))))))
(dss_one (ds_ret (DE.o de_bl)))
dss_nil))))
(dss_one (ds_ret (DE.o de_bl)))))), fun as Q h => ?_⟩
  obtain ⟨rows, log, rfl, ok, okl, hlen, hrd, q⟩ := h
  repeat' (first | refine ix0T ?_ | refine ix1T ?_ | refine ix2T ?_ | refine ix0L ?_ | refine ix1L ?_ | refine ix2L ?_ | refine ⟨_, rfl, ?_⟩ | refine ⟨_, _, rfl, rfl, (by show (_ : Nat) ≤ sizeLine; first | assumption | exact big (DOk.strLen (by assumption)) | exact big (DOk.tupLen (by assumption)) | exact big (DOk.lstLen (by assumption)) | exact big (DOw.strLen (by assumption)) | exact big (DOw.tupLen (by assumption)) | exact big (DOw.lstLen (by assumption)) | exact big (DOz.strLen (by assumption)) | exact big (DOz.tupLen (by assumption)) | exact big (DOz.lstLen (by assumption))), ?_⟩ | refine ⟨_, _, rfl, rfl, (by first | decide | (show (0 : Int) < _; decide)), ?_⟩ | refine ⟨_, _, rfl, rfl, ?_⟩ | refine eqR_str ?_ | refine eqR_int ?_ | refine neR_str ?_ | refine neR_int ?_ | refine And.intro rfl ?_ | refine addL (by first | assumption | (rw [sizeLine_eq]; omega) | (rw [sizeLine_eq]; simp; done) | (rw [sizeLine_eq]; simp only [List.length_append, List.length_cons, List.length_nil]; omega)) ?_ | refine addT (by first | assumption | (rw [sizeLine_eq]; omega) | (rw [sizeLine_eq]; simp; done) | (rw [sizeLine_eq]; simp only [List.length_append, List.length_cons, List.length_nil]; omega)) ?_ | refine And.intro (by assumption) ?_ | refine And.intro (by decide) ?_ | refine ⟨_, _, rfl, ?_⟩ | refine iteT rfl ?_ | refine iteF Bool.false_ne_true ?_)
  refine ⟨⟨_, rfl⟩, rfl, _, _, rfl, _, _, rfl, rfl, ?_⟩
  repeat' (first | refine ix0T ?_ | refine ix1T ?_ | refine ix2T ?_ | refine ix0L ?_ | refine ix1L ?_ | refine ix2L ?_ | refine ⟨_, rfl, ?_⟩ | refine ⟨_, _, rfl, rfl, (by show (_ : Nat) ≤ sizeLine; first | assumption | exact big (DOk.strLen (by assumption)) | exact big (DOk.tupLen (by assumption)) | exact big (DOk.lstLen (by assumption)) | exact big (DOw.strLen (by assumption)) | exact big (DOw.tupLen (by assumption)) | exact big (DOw.lstLen (by assumption)) | exact big (DOz.strLen (by assumption)) | exact big (DOz.tupLen (by assumption)) | exact big (DOz.lstLen (by assumption))), ?_⟩ | refine ⟨_, _, rfl, rfl, (by first | decide | (show (0 : Int) < _; decide)), ?_⟩ | refine ⟨_, _, rfl, rfl, ?_⟩ | refine eqR_str ?_ | refine eqR_int ?_ | refine neR_str ?_ | refine neR_int ?_ | refine And.intro rfl ?_ | refine addL (by first | assumption | (rw [sizeLine_eq]; omega) | (rw [sizeLine_eq]; simp; done) | (rw [sizeLine_eq]; simp only [List.length_append, List.length_cons, List.length_nil]; omega)) ?_ | refine addT (by first | assumption | (rw [sizeLine_eq]; omega) | (rw [sizeLine_eq]; simp; done) | (rw [sizeLine_eq]; simp only [List.length_append, List.length_cons, List.length_nil]; omega)) ?_ | refine And.intro (by assumption) ?_ | refine And.intro (by decide) ?_ | refine ⟨_, _, rfl, ?_⟩ | refine iteT rfl ?_ | refine iteF Bool.false_ne_true ?_)
  refine ⟨fun i ρ' => ∃ (t : Int) (e : PyData) (x y z u : Option En), ρ' = [some .bag, some (.d (objP C rows)), some (.d (.list rows)), some (.d (.list log)), some (.d (.int t)), some (.d e), x, y, z, u] ∧
    ((e = .none ∧ 0 ≤ t ∧ t < 100 ∧ runP rows 0 log = runP rows t (log.drop i) ∧ brkP rows 0 0 log = brkP rows t i (log.drop i)) ∨ (∃ j : Int, e = .int j ∧ 0 ≤ j ∧ j < 100 ∧ runP rows 0 log = .none ∧ brkP rows 0 0 log = .int j)), ?_, ?_, ?_⟩
  · exact ⟨0, .none, _, _, _, _, rfl, .inl ⟨rfl, by decide, by decide, rfl, rfl⟩⟩
  · rintro i d ρ' hd ⟨t, e, x, y, z, u, rfl, inv⟩
    obtain ⟨r, hr2⟩ : ∃ r, log[i]? = some r := by
      have := (List.getElem?_eq_some_iff.mp hd).1
      rw [enum_len] at this
      exact ⟨_, List.getElem?_eq_getElem this⟩
    have hi : i < log.length := (List.getElem?_eq_some_iff.mp hr2).1
    rw [enum_at hr2] at hd
    cases hd
    rw [drop_at hr2] at inv
    have md := List.mem_of_getElem? hr2
    obtain ⟨rs, rfl, hrs⟩ := hrd r md
    have okr := okl.lst _ md
    refine ⟨_, rfl, ⟨_, rfl⟩, rfl, _, _, rfl, _, _, rfl, rfl, ?_⟩
    rcases inv with ⟨rfl, t0, t1, h1, h2⟩ | ⟨j, rfl, j0, j1, h1, h2⟩
    · have h1 : runP rows 0 log = match stepP rows t rs with | .int t => runP rows t (log.drop (i + 1)) | _ => .none := h1
      have h2 : brkP rows 0 0 log = match stepP rows t rs with | .int t => brkP rows t ((i : Int) + 1) (log.drop (i + 1)) | _ => .int i := h2
      repeat' (first | refine ix0T ?_ | refine ix1T ?_ | refine ix2T ?_ | refine ix0L ?_ | refine ix1L ?_ | refine ix2L ?_ | refine ⟨_, rfl, ?_⟩ | refine ⟨_, _, rfl, rfl, (by show (_ : Nat) ≤ sizeLine; first | assumption | exact big (DOk.strLen (by assumption)) | exact big (DOk.tupLen (by assumption)) | exact big (DOk.lstLen (by assumption)) | exact big (DOw.strLen (by assumption)) | exact big (DOw.tupLen (by assumption)) | exact big (DOw.lstLen (by assumption)) | exact big (DOz.strLen (by assumption)) | exact big (DOz.tupLen (by assumption)) | exact big (DOz.lstLen (by assumption))), ?_⟩ | refine ⟨_, _, rfl, rfl, (by first | decide | (show (0 : Int) < _; decide)), ?_⟩ | refine ⟨_, _, rfl, rfl, ?_⟩ | refine eqR_str ?_ | refine eqR_int ?_ | refine neR_str ?_ | refine neR_int ?_ | refine And.intro rfl ?_ | refine addL (by first | assumption | (rw [sizeLine_eq]; omega) | (rw [sizeLine_eq]; simp; done) | (rw [sizeLine_eq]; simp only [List.length_append, List.length_cons, List.length_nil]; omega)) ?_ | refine addT (by first | assumption | (rw [sizeLine_eq]; omega) | (rw [sizeLine_eq]; simp; done) | (rw [sizeLine_eq]; simp only [List.length_append, List.length_cons, List.length_nil]; omega)) ?_ | refine And.intro (by assumption) ?_ | refine And.intro (by decide) ?_ | refine ⟨_, _, rfl, ?_⟩ | refine iteT rfl ?_ | refine iteF Bool.false_ne_true ?_)
      refine ⟨_, _, _, rfl, ok, okr, hrs, ?_⟩
      rcases step_num (rs := rs) (fun r m => ⟨ok.ok.lst r m, ok.all r m⟩) t0 t1 with e | ⟨t2, e, t3, t4⟩
      · rw [e] at h1 h2
        rw [e]
        repeat' (first | refine ix0T ?_ | refine ix1T ?_ | refine ix2T ?_ | refine ix0L ?_ | refine ix1L ?_ | refine ix2L ?_ | refine ⟨_, rfl, ?_⟩ | refine ⟨_, _, rfl, rfl, (by show (_ : Nat) ≤ sizeLine; first | assumption | exact big (DOk.strLen (by assumption)) | exact big (DOk.tupLen (by assumption)) | exact big (DOk.lstLen (by assumption)) | exact big (DOw.strLen (by assumption)) | exact big (DOw.tupLen (by assumption)) | exact big (DOw.lstLen (by assumption)) | exact big (DOz.strLen (by assumption)) | exact big (DOz.tupLen (by assumption)) | exact big (DOz.lstLen (by assumption))), ?_⟩ | refine ⟨_, _, rfl, rfl, (by first | decide | (show (0 : Int) < _; decide)), ?_⟩ | refine ⟨_, _, rfl, rfl, ?_⟩ | refine eqR_str ?_ | refine eqR_int ?_ | refine neR_str ?_ | refine neR_int ?_ | refine And.intro rfl ?_ | refine addL (by first | assumption | (rw [sizeLine_eq]; omega) | (rw [sizeLine_eq]; simp; done) | (rw [sizeLine_eq]; simp only [List.length_append, List.length_cons, List.length_nil]; omega)) ?_ | refine addT (by first | assumption | (rw [sizeLine_eq]; omega) | (rw [sizeLine_eq]; simp; done) | (rw [sizeLine_eq]; simp only [List.length_append, List.length_cons, List.length_nil]; omega)) ?_ | refine And.intro (by assumption) ?_ | refine And.intro (by decide) ?_ | refine ⟨_, _, rfl, ?_⟩ | refine iteT rfl ?_ | refine iteF Bool.false_ne_true ?_)
        exact ⟨-1, .int i, _, _, _, _, rfl, .inr ⟨i, rfl, by omega, by omega, h1, h2⟩⟩
      · rw [e] at h1 h2
        rw [e]
        repeat' (first | refine ix0T ?_ | refine ix1T ?_ | refine ix2T ?_ | refine ix0L ?_ | refine ix1L ?_ | refine ix2L ?_ | refine ⟨_, rfl, ?_⟩ | refine ⟨_, _, rfl, rfl, (by show (_ : Nat) ≤ sizeLine; first | assumption | exact big (DOk.strLen (by assumption)) | exact big (DOk.tupLen (by assumption)) | exact big (DOk.lstLen (by assumption)) | exact big (DOw.strLen (by assumption)) | exact big (DOw.tupLen (by assumption)) | exact big (DOw.lstLen (by assumption)) | exact big (DOz.strLen (by assumption)) | exact big (DOz.tupLen (by assumption)) | exact big (DOz.lstLen (by assumption))), ?_⟩ | refine ⟨_, _, rfl, rfl, (by first | decide | (show (0 : Int) < _; decide)), ?_⟩ | refine ⟨_, _, rfl, rfl, ?_⟩ | refine eqR_str ?_ | refine eqR_int ?_ | refine neR_str ?_ | refine neR_int ?_ | refine And.intro rfl ?_ | refine addL (by first | assumption | (rw [sizeLine_eq]; omega) | (rw [sizeLine_eq]; simp; done) | (rw [sizeLine_eq]; simp only [List.length_append, List.length_cons, List.length_nil]; omega)) ?_ | refine addT (by first | assumption | (rw [sizeLine_eq]; omega) | (rw [sizeLine_eq]; simp; done) | (rw [sizeLine_eq]; simp only [List.length_append, List.length_cons, List.length_nil]; omega)) ?_ | refine And.intro (by assumption) ?_ | refine And.intro (by decide) ?_ | refine ⟨_, _, rfl, ?_⟩ | refine iteT rfl ?_ | refine iteF Bool.false_ne_true ?_)
        refine iteB (fun e2 => ?_) (fun e2 => ?_)
        · have : t2 < 0 := of_decide_eq_true e2
          omega
        · repeat' (first | refine ix0T ?_ | refine ix1T ?_ | refine ix2T ?_ | refine ix0L ?_ | refine ix1L ?_ | refine ix2L ?_ | refine ⟨_, rfl, ?_⟩ | refine ⟨_, _, rfl, rfl, (by show (_ : Nat) ≤ sizeLine; first | assumption | exact big (DOk.strLen (by assumption)) | exact big (DOk.tupLen (by assumption)) | exact big (DOk.lstLen (by assumption)) | exact big (DOw.strLen (by assumption)) | exact big (DOw.tupLen (by assumption)) | exact big (DOw.lstLen (by assumption)) | exact big (DOz.strLen (by assumption)) | exact big (DOz.tupLen (by assumption)) | exact big (DOz.lstLen (by assumption))), ?_⟩ | refine ⟨_, _, rfl, rfl, (by first | decide | (show (0 : Int) < _; decide)), ?_⟩ | refine ⟨_, _, rfl, rfl, ?_⟩ | refine eqR_str ?_ | refine eqR_int ?_ | refine neR_str ?_ | refine neR_int ?_ | refine And.intro rfl ?_ | refine addL (by first | assumption | (rw [sizeLine_eq]; omega) | (rw [sizeLine_eq]; simp; done) | (rw [sizeLine_eq]; simp only [List.length_append, List.length_cons, List.length_nil]; omega)) ?_ | refine addT (by first | assumption | (rw [sizeLine_eq]; omega) | (rw [sizeLine_eq]; simp; done) | (rw [sizeLine_eq]; simp only [List.length_append, List.length_cons, List.length_nil]; omega)) ?_ | refine And.intro (by assumption) ?_ | refine And.intro (by decide) ?_ | refine ⟨_, _, rfl, ?_⟩ | refine iteT rfl ?_ | refine iteF Bool.false_ne_true ?_)
          exact ⟨t2, .none, _, _, _, _, rfl, .inl ⟨rfl, t3, t4, h1, h2⟩⟩
    · repeat' (first | refine ix0T ?_ | refine ix1T ?_ | refine ix2T ?_ | refine ix0L ?_ | refine ix1L ?_ | refine ix2L ?_ | refine ⟨_, rfl, ?_⟩ | refine ⟨_, _, rfl, rfl, (by show (_ : Nat) ≤ sizeLine; first | assumption | exact big (DOk.strLen (by assumption)) | exact big (DOk.tupLen (by assumption)) | exact big (DOk.lstLen (by assumption)) | exact big (DOw.strLen (by assumption)) | exact big (DOw.tupLen (by assumption)) | exact big (DOw.lstLen (by assumption)) | exact big (DOz.strLen (by assumption)) | exact big (DOz.tupLen (by assumption)) | exact big (DOz.lstLen (by assumption))), ?_⟩ | refine ⟨_, _, rfl, rfl, (by first | decide | (show (0 : Int) < _; decide)), ?_⟩ | refine ⟨_, _, rfl, rfl, ?_⟩ | refine eqR_str ?_ | refine eqR_int ?_ | refine neR_str ?_ | refine neR_int ?_ | refine And.intro rfl ?_ | refine addL (by first | assumption | (rw [sizeLine_eq]; omega) | (rw [sizeLine_eq]; simp; done) | (rw [sizeLine_eq]; simp only [List.length_append, List.length_cons, List.length_nil]; omega)) ?_ | refine addT (by first | assumption | (rw [sizeLine_eq]; omega) | (rw [sizeLine_eq]; simp; done) | (rw [sizeLine_eq]; simp only [List.length_append, List.length_cons, List.length_nil]; omega)) ?_ | refine And.intro (by assumption) ?_ | refine And.intro (by decide) ?_ | refine ⟨_, _, rfl, ?_⟩ | refine iteT rfl ?_ | refine iteF Bool.false_ne_true ?_)
      exact ⟨t, _, _, _, _, _, rfl, .inr ⟨j, rfl, j0, j1, h1, h2⟩⟩
  · rintro ρ' ⟨t, e, x, y, z, u, rfl, inv⟩
    rw [enum_len, List.drop_length] at inv
    have lg : LogOk log := ⟨okl, fun r m => (hrd r m).imp fun rs h => h.1⟩
    have told : ∃ v w : PyData, runP rows 0 log = v ∧ brkP rows 0 0 log = w ∧ Sm v ∧ Sm w ∧ ((e = .none ∧ v = .int t ∧ w = .none) ∨ (∃ j, e = .int j ∧ v = .none ∧ w = .int j)) := by
      rcases inv with ⟨rfl, t0, t1, h1, h2⟩ | ⟨j, rfl, j0, j1, h1, h2⟩
      · exact ⟨_, _, h1, h2, sm_num t0 t1, sm_none, .inl ⟨rfl, rfl, rfl⟩⟩
      · exact ⟨_, _, h1, h2, sm_none, sm_num j0 j1, .inr ⟨j, rfl, rfl, rfl⟩⟩
    obtain ⟨v, w, hv, hw, sv, sw, cs⟩ := told
    repeat' (first | refine ix0T ?_ | refine ix1T ?_ | refine ix2T ?_ | refine ix0L ?_ | refine ix1L ?_ | refine ix2L ?_ | refine ⟨_, rfl, ?_⟩ | refine ⟨_, _, rfl, rfl, (by show (_ : Nat) ≤ sizeLine; first | assumption | exact big (DOk.strLen (by assumption)) | exact big (DOk.tupLen (by assumption)) | exact big (DOk.lstLen (by assumption)) | exact big (DOw.strLen (by assumption)) | exact big (DOw.tupLen (by assumption)) | exact big (DOw.lstLen (by assumption)) | exact big (DOz.strLen (by assumption)) | exact big (DOz.tupLen (by assumption)) | exact big (DOz.lstLen (by assumption))), ?_⟩ | refine ⟨_, _, rfl, rfl, (by first | decide | (show (0 : Int) < _; decide)), ?_⟩ | refine ⟨_, _, rfl, rfl, ?_⟩ | refine eqR_str ?_ | refine eqR_int ?_ | refine neR_str ?_ | refine neR_int ?_ | refine And.intro rfl ?_ | refine addL (by first | assumption | (rw [sizeLine_eq]; omega) | (rw [sizeLine_eq]; simp; done) | (rw [sizeLine_eq]; simp only [List.length_append, List.length_cons, List.length_nil]; omega)) ?_ | refine addT (by first | assumption | (rw [sizeLine_eq]; omega) | (rw [sizeLine_eq]; simp; done) | (rw [sizeLine_eq]; simp only [List.length_append, List.length_cons, List.length_nil]; omega)) ?_ | refine And.intro (by assumption) ?_ | refine And.intro (by decide) ?_ | refine ⟨_, _, rfl, ?_⟩ | refine iteT rfl ?_ | refine iteF Bool.false_ne_true ?_)
    refine ⟨fun i ρ' => ∃ x y z u, ρ' = [some .bag, some (.d (objP C rows)), some (.d (.list rows)), some (.d (.list log)), some (.d (.int t)), some (.d e), x, y, z, u], ⟨_, _, _, _, rfl⟩, ?_, ?_⟩
    · rintro i d ρ' hd ⟨x, y, z, u, rfl⟩
      have okv : DOw (.list [v, w]) := (sm_list (ds := [v, w]) (fun d m => by
        rcases List.mem_cons.mp m with rfl | m
        · exact sv
        · rw [List.mem_singleton.mp m]
          exact sw) (by show 2 ≤ 600; decide)).1
      repeat' (first | refine ix0T ?_ | refine ix1T ?_ | refine ix2T ?_ | refine ix0L ?_ | refine ix1L ?_ | refine ix2L ?_ | refine ⟨_, rfl, ?_⟩ | refine ⟨_, _, rfl, rfl, (by show (_ : Nat) ≤ sizeLine; first | assumption | exact big (DOk.strLen (by assumption)) | exact big (DOk.tupLen (by assumption)) | exact big (DOk.lstLen (by assumption)) | exact big (DOw.strLen (by assumption)) | exact big (DOw.tupLen (by assumption)) | exact big (DOw.lstLen (by assumption)) | exact big (DOz.strLen (by assumption)) | exact big (DOz.tupLen (by assumption)) | exact big (DOz.lstLen (by assumption))), ?_⟩ | refine ⟨_, _, rfl, rfl, (by first | decide | (show (0 : Int) < _; decide)), ?_⟩ | refine ⟨_, _, rfl, rfl, ?_⟩ | refine eqR_str ?_ | refine eqR_int ?_ | refine neR_str ?_ | refine neR_int ?_ | refine And.intro rfl ?_ | refine addL (by first | assumption | (rw [sizeLine_eq]; omega) | (rw [sizeLine_eq]; simp; done) | (rw [sizeLine_eq]; simp only [List.length_append, List.length_cons, List.length_nil]; omega)) ?_ | refine addT (by first | assumption | (rw [sizeLine_eq]; omega) | (rw [sizeLine_eq]; simp; done) | (rw [sizeLine_eq]; simp only [List.length_append, List.length_cons, List.length_nil]; omega)) ?_ | refine And.intro (by assumption) ?_ | refine And.intro (by decide) ?_ | refine ⟨_, _, rfl, ?_⟩ | refine iteT rfl ?_ | refine iteF Bool.false_ne_true ?_)
      rw [hv, hw]
      rcases cs with ⟨rfl, rfl, rfl⟩ | ⟨j, rfl, rfl, rfl⟩
      · repeat' (first | refine ix0T ?_ | refine ix1T ?_ | refine ix2T ?_ | refine ix0L ?_ | refine ix1L ?_ | refine ix2L ?_ | refine ⟨_, rfl, ?_⟩ | refine ⟨_, _, rfl, rfl, (by show (_ : Nat) ≤ sizeLine; first | assumption | exact big (DOk.strLen (by assumption)) | exact big (DOk.tupLen (by assumption)) | exact big (DOk.lstLen (by assumption)) | exact big (DOw.strLen (by assumption)) | exact big (DOw.tupLen (by assumption)) | exact big (DOw.lstLen (by assumption)) | exact big (DOz.strLen (by assumption)) | exact big (DOz.tupLen (by assumption)) | exact big (DOz.lstLen (by assumption))), ?_⟩ | refine ⟨_, _, rfl, rfl, (by first | decide | (show (0 : Int) < _; decide)), ?_⟩ | refine ⟨_, _, rfl, rfl, ?_⟩ | refine eqR_str ?_ | refine eqR_int ?_ | refine neR_str ?_ | refine neR_int ?_ | refine And.intro rfl ?_ | refine addL (by first | assumption | (rw [sizeLine_eq]; omega) | (rw [sizeLine_eq]; simp; done) | (rw [sizeLine_eq]; simp only [List.length_append, List.length_cons, List.length_nil]; omega)) ?_ | refine addT (by first | assumption | (rw [sizeLine_eq]; omega) | (rw [sizeLine_eq]; simp; done) | (rw [sizeLine_eq]; simp only [List.length_append, List.length_cons, List.length_nil]; omega)) ?_ | refine And.intro (by assumption) ?_ | refine And.intro (by decide) ?_ | refine ⟨_, _, rfl, ?_⟩ | refine iteT rfl ?_ | refine iteF Bool.false_ne_true ?_)
        exact iteF ⟨_, _, _, _, rfl⟩
      · repeat' (first | refine ix0T ?_ | refine ix1T ?_ | refine ix2T ?_ | refine ix0L ?_ | refine ix1L ?_ | refine ix2L ?_ | refine ⟨_, rfl, ?_⟩ | refine ⟨_, _, rfl, rfl, (by show (_ : Nat) ≤ sizeLine; first | assumption | exact big (DOk.strLen (by assumption)) | exact big (DOk.tupLen (by assumption)) | exact big (DOk.lstLen (by assumption)) | exact big (DOw.strLen (by assumption)) | exact big (DOw.tupLen (by assumption)) | exact big (DOw.lstLen (by assumption)) | exact big (DOz.strLen (by assumption)) | exact big (DOz.tupLen (by assumption)) | exact big (DOz.lstLen (by assumption))), ?_⟩ | refine ⟨_, _, rfl, rfl, (by first | decide | (show (0 : Int) < _; decide)), ?_⟩ | refine ⟨_, _, rfl, rfl, ?_⟩ | refine eqR_str ?_ | refine eqR_int ?_ | refine neR_str ?_ | refine neR_int ?_ | refine And.intro rfl ?_ | refine addL (by first | assumption | (rw [sizeLine_eq]; omega) | (rw [sizeLine_eq]; simp; done) | (rw [sizeLine_eq]; simp only [List.length_append, List.length_cons, List.length_nil]; omega)) ?_ | refine addT (by first | assumption | (rw [sizeLine_eq]; omega) | (rw [sizeLine_eq]; simp; done) | (rw [sizeLine_eq]; simp only [List.length_append, List.length_cons, List.length_nil]; omega)) ?_ | refine And.intro (by assumption) ?_ | refine And.intro (by decide) ?_ | refine ⟨_, _, rfl, ?_⟩ | refine iteT rfl ?_ | refine iteF Bool.false_ne_true ?_)
        exact iteF ⟨_, _, _, _, rfl⟩
    · rintro ρ' ⟨x, y, z, u, rfl⟩
      repeat' (first | refine ix0T ?_ | refine ix1T ?_ | refine ix2T ?_ | refine ix0L ?_ | refine ix1L ?_ | refine ix2L ?_ | refine ⟨_, rfl, ?_⟩ | refine ⟨_, _, rfl, rfl, (by show (_ : Nat) ≤ sizeLine; first | assumption | exact big (DOk.strLen (by assumption)) | exact big (DOk.tupLen (by assumption)) | exact big (DOk.lstLen (by assumption)) | exact big (DOw.strLen (by assumption)) | exact big (DOw.tupLen (by assumption)) | exact big (DOw.lstLen (by assumption)) | exact big (DOz.strLen (by assumption)) | exact big (DOz.tupLen (by assumption)) | exact big (DOz.lstLen (by assumption))), ?_⟩ | refine ⟨_, _, rfl, rfl, (by first | decide | (show (0 : Int) < _; decide)), ?_⟩ | refine ⟨_, _, rfl, rfl, ?_⟩ | refine eqR_str ?_ | refine eqR_int ?_ | refine neR_str ?_ | refine neR_int ?_ | refine And.intro rfl ?_ | refine addL (by first | assumption | (rw [sizeLine_eq]; omega) | (rw [sizeLine_eq]; simp; done) | (rw [sizeLine_eq]; simp only [List.length_append, List.length_cons, List.length_nil]; omega)) ?_ | refine addT (by first | assumption | (rw [sizeLine_eq]; omega) | (rw [sizeLine_eq]; simp; done) | (rw [sizeLine_eq]; simp only [List.length_append, List.length_cons, List.length_nil]; omega)) ?_ | refine And.intro (by assumption) ?_ | refine And.intro (by decide) ?_ | refine ⟨_, _, rfl, ?_⟩ | refine iteT rfl ?_ | refine iteF Bool.false_ne_true ?_)
      exact q
end
end K58
set_option Elab.async false
set_option linter.all false
set_option maxRecDepth 100000
set_option maxHeartbeats 1000000
set_option pp.maxSteps 500
/-! K58j: logs, rows of promises, drawn -/
namespace K58
open PySem PySem.Spec PyProof.Rows L2 GL DL
def Pw (d : PyData) : Prop := DOw d ∧ d.weight ≤ 140 ∧ d.depth ≤ 2
def pwB (d : PyData) : Bool := d.canLay0 && (d.leavesShort 48 && (decide (d.weight ≤ 140) && (decide (d.depth ≤ 2) && d.showable)))
theorem pw_of {d : PyData} (h : pwB d = true) : Pw d := by
  unfold pwB at h
  simp only [Bool.and_eq_true, decide_eq_true_eq] at h
  obtain ⟨h1, h2, h3, h4, h5⟩ := h
  exact ⟨⟨h1, h2, by omega, by omega, h5⟩, h3, h4⟩
theorem pws_of {ds : List PyData} (h : ds.all pwB = true) : ∀ d ∈ ds, Pw d := fun d m => pw_of (List.all_eq_true.mp h d m)
theorem pw_int {n : Int} (h : -2 ≤ n) (k : n ≤ 9) : Pw (.int n) := by
  have : n = -2 ∨ n = -1 ∨ n = 0 ∨ n = 1 ∨ n = 2 ∨ n = 3 ∨ n = 4 ∨ n = 5 ∨ n = 6 ∨ n = 7 ∨ n = 8 ∨ n = 9 := by omega
  rcases this with rfl | rfl | rfl | rfl | rfl | rfl | rfl | rfl | rfl | rfl | rfl | rfl <;> exact pw_of (by decide +kernel)
theorem pw_str {z : Str} (h : NmS z) : Pw (.str z) := by
  have h : nameS z = true := h
  unfold nameS at h
  simp only [Bool.and_eq_true, decide_eq_true_eq] at h
  obtain ⟨h1, h2, h3⟩ := h
  rw [List.all_eq_true] at h3
  have p := pt_low h2 (fun c m => by
    have := h3 c m
    unfold letD at this
    simpa using this)
  refine ⟨⟨p.ok.lay, ?_, p.ok.weighs, p.ok.deep, p.ok.shows⟩, by have := p.wt; omega, p.dp⟩
  have := p.ok.short
  simpa only [PyData.leavesShort] using this
/-- a read of a log, bent or not -/
def Rd1 (d : PyData) : Prop := ∃ ds, d = .tuple ds ∧ ds ≠ [] ∧ ds.length ≤ 4 ∧ ∀ x ∈ ds, Pw x
/-- an item of a log, bent or not -/
def It1 (d : PyData) : Prop := DOw d ∧ d.weight ≤ 600 ∧ d.depth ≤ 3
theorem Pw.it {d : PyData} (h : Pw d) : It1 d := ⟨h.1, by have := h.2.1; omega, by have := h.2.2; omega⟩
theorem parts_it {ds : List PyData} (hl : ds.length ≤ 4) (h : ∀ x ∈ ds, Pw x) : It1 (.tuple ds) := by
  obtain ⟨_, b, c, e⟩ := dow_all h (by decide) (show ds.length * (140 + 1) ≤ 100000 by omega)
  refine ⟨b, ?_, ?_⟩
  · simp only [PyData.weight]
    omega
  · simp only [PyData.depth]
    omega
theorem Rd1.it {d : PyData} (h : Rd1 d) : It1 d := by
  obtain ⟨ds, rfl, _, hl, hp⟩ := h
  exact parts_it hl hp
theorem its_list {ds : List PyData} (h : ∀ x ∈ ds, It1 x) (hl : ds.length ≤ 16) : DOw (.list ds) ∧ DOw (.tuple ds) ∧ (PyData.list ds).weight ≤ 10000 ∧ (PyData.list ds).depth ≤ 4 ∧ DOw (.list [.list ds]) ∧ (PyData.list [.list ds]).weight ≤ 10001 ∧ (PyData.list [.list ds]).depth ≤ 5 := by
  obtain ⟨a, b, c, e⟩ := dow_all h (by decide) (show ds.length * (600 + 1) ≤ 100000 by omega)
  have w1 : (PyData.list ds).weight ≤ 10000 := by
    simp only [PyData.weight]
    omega
  have d1 : (PyData.list ds).depth ≤ 4 := by
    simp only [PyData.depth]
    omega
  refine ⟨a, b, w1, d1, (dow_all (n := 10000) (m := 4) (fun x m => ?_) (by decide) (by simp)).1, ?_, ?_⟩
  · rw [List.mem_singleton.mp m]
    exact ⟨a, w1, d1⟩
  · simp only [PyData.weight, PyData.weightAll] at w1 ⊢
    omega
  · simp only [PyData.depth, PyData.depthAll] at d1 ⊢
    omega
/-- what is asked for a log -/
def R3 (d : PyData) : Prop := (∃ z n, d = .tuple [.str "root", .str z, .int n] ∧ NmS z ∧ Pw (.int n)) ∨ (∃ a z n, d = .tuple [.str "field", .int a, .str z, .int n] ∧ Pw (.int a) ∧ NmS z ∧ Pw (.int n)) ∨ ∃ a b, d = .tuple [.str "mark", .int a, .int b] ∧ Pw (.int a) ∧ Pw (.int b)
theorem R3.mark {a b : Int} (h : Pw (.int a)) (k : Pw (.int b)) : R3 (.tuple [.str "mark", .int a, .int b]) := .inr (.inr ⟨_, _, rfl, h, k⟩)
theorem R3.field {a n : Int} {z : Str} (h : Pw (.int a)) (hz : NmS z) (k : Pw (.int n)) : R3 (.tuple [.str "field", .int a, .str z, .int n]) := .inr (.inl ⟨_, _, _, rfl, h, hz, k⟩)
theorem R3.rd {d : PyData} (h : R3 d) : Rd1 d := by
  rcases h with ⟨z, n, rfl, h1, h2⟩ | ⟨a, z, n, rfl, h1, h2, h3⟩ | ⟨a, b, rfl, h1, h2⟩
  · exact ⟨_, rfl, nofun, by simp, by simpa using ⟨pw_of (by decide +kernel), pw_str h1, h2⟩⟩
  · exact ⟨_, rfl, nofun, by simp, by simpa using ⟨pw_of (by decide +kernel), h1, pw_str h2, h3⟩⟩
  · exact ⟨_, rfl, nofun, by simp, by simpa using ⟨pw_of (by decide +kernel), h1, h2⟩⟩
/-- what is asked for a log -/
def S_dreads : DSp := fun as P => ∃ zs : List Str, as = [.bag, .d (.list (zs.map .str))] ∧ zs ≠ [] ∧ zs.length ≤ 10 ∧ (∀ z ∈ zs, NmS z) ∧ ∀ ds : List PyData, ds.length ≤ 6 → (∀ d ∈ ds, R3 d) → P (.lst (ds.map .dat))
section
variable {P : Program} {w : World} {K : PySem.W.Frag} {mg : Str → Option Value} {base : Heap} {f C : Addr} {fd : FuncData}
theorem sc_drawn_reads : FnScope ["_law_bag", "_law_names_here", "_law_found", "_law_many", "_law_k", "_law_way", "_law_name", "_law_n", "_law_read", "_law_at"] ["_law_bag", "_law_names_here"] (defScope s_drawn_reads) := ⟨rfl, rfl, rfl, by decide +kernel, rfl, by decide +kernel, by decide +kernel⟩
theorem ok_drawn_reads (F : Fun K "_law_drawn_reads" "_law_drawn_reads" s_drawn_reads f fd) (T : Txt0 mg) (c_take : ClG P w K mg base 1 "_law_take" (spF K S_take)) (c_pick : ClG P w K mg base 2 "_law_pick" (spF K S_one)) : FnG P w K mg base 3 f fd ["_law_bag", "_law_names_here"] (spF K S_dreads) := by
  refine okD F sc_drawn_reads (fun as Q h => by obtain ⟨d, rfl, _⟩ := h; rfl) fun cdv A out s H E hG hr => have hu := units_ofx hr; have hu6 := units_of hr; ⟨_, (dss_cons (ds_par (i := 2) (j := 3) rfl sc_drawn_reads.nd rfl rfl (by decide) rfl rfl (doa_cons (do_lst da_nil) (doa_cons (DE.o de_int) doa_nil)) (by rfl))
(dss_cons (ds_for PassesOwn.never rfl (di_range1 (by rfl) T.m_range (da_cons (DO.d (do_call rfl c_take hG hr (by omega) (by rfl) (dr_bag (pv 0) (dr_cons de_int dr_nil)))) da_nil)) (dg_name (pg_name (i := 4) sc_drawn_reads.nd rfl (.inl rfl)))
(dss_cons (ds_par3 (i := 5) (j := 6) (l := 7) rfl sc_drawn_reads.nd rfl rfl rfl (by decide) (by decide) (by decide) rfl rfl rfl (doa_cons (do_call rfl c_take hG hr (by omega) (by rfl) (dr_bag (pv 0) (dr_cons de_int dr_nil))) (doa_cons (do_call rfl c_pick hG hr (by omega) (by rfl) (dr_bag (pv 0) (dr_cons (de_v (pv 1)) dr_nil))) (doa_cons (DE.o (de_sub (DO.d (do_call rfl c_take hG hr (by omega) (by rfl) (dr_bag (pv 0) (dr_cons (DO.d (do_add rfl (de_v (pv 3)) de_int)) dr_nil)))) de_int)) doa_nil))) (by rfl))
(dss_cons (ds_set (i := 8) sc_drawn_reads.nd rfl (.inl rfl) (DE.o (de_tup (da_cons de_str (da_cons (de_v (pv 6)) (da_cons (de_v (pv 7)) da_nil))))))
(dss_cut (ds_if (DW.db (dw_and (db_cmp op_gt od_Ib (de_v (pv 3)) de_int (nomark _)) (dw_and1 (db_cmp op_gt od_Ib (de_v (pv 5)) de_int (nomark _)))))
(dss_cons (ds_set (i := 9) sc_drawn_reads.nd rfl (.inl rfl) (do_call rfl c_take hG hr (by omega) (by rfl) (dr_bag (pv 0) (dr_cons (de_v (pv 3)) dr_nil))))
(dss_one (ds_set (i := 8) sc_drawn_reads.nd rfl (.inl rfl) (DE.o (de_ixA rfl (DO.d (do_lst (da_cons (de_tup (da_cons de_str (da_cons (de_v (pv 9)) (da_cons (DO.d (do_call rfl c_take hG hr (by omega) (by rfl) (dr_bag (pv 0) (dr_cons de_int dr_nil)))) da_nil)))) (da_cons (de_tup (da_cons de_str (da_cons (de_v (pv 9)) (da_cons (de_v (pv 6)) (da_cons (de_v (pv 7)) da_nil))))) da_nil)))) (de_sub (de_v (pv 5)) de_int))))))
dss_nil)
(dss_cons (ds_append rfl (pv 2) (DE.o (de_v (pv 8))))
(dss_one (ds_set (i := 3) sc_drawn_reads.nd rfl (.inl rfl) (do_add rfl (de_v (pv 3)) (de_intC T.m_int (de_and (de_ne rfl hu (de_ixA rfl (de_v (pv 8)) de_int) de_str) (de_one (de_eq rfl hu (de_ixA rfl (de_v (pv 8)) (de_neg de_int)) (de_v (pv 3))))))))))))))
(dss_one (ds_retOwn (pv 2))))), fun as Q h => ?_⟩
  obtain ⟨zs, rfl, hne, hzl, hzn, q⟩ := h
  repeat' (first | refine ix0T ?_ | refine ix1T ?_ | refine ix2T ?_ | refine ix0L ?_ | refine ix1L ?_ | refine ix2L ?_ | refine ⟨_, rfl, ?_⟩ | refine ⟨_, _, rfl, rfl, (by show (_ : Nat) ≤ sizeLine; first | assumption | exact big (DOk.strLen (by assumption)) | exact big (DOk.tupLen (by assumption)) | exact big (DOk.lstLen (by assumption)) | exact big (DOw.strLen (by assumption)) | exact big (DOw.tupLen (by assumption)) | exact big (DOw.lstLen (by assumption)) | exact big (DOz.strLen (by assumption)) | exact big (DOz.tupLen (by assumption)) | exact big (DOz.lstLen (by assumption))), ?_⟩ | refine ⟨_, _, rfl, rfl, (by first | decide | (show (0 : Int) < _; decide)), ?_⟩ | refine ⟨_, _, rfl, rfl, ?_⟩ | refine eqR_str ?_ | refine eqR_int ?_ | refine neR_str ?_ | refine neR_int ?_ | refine And.intro rfl ?_ | refine addL (by first | assumption | (rw [sizeLine_eq]; omega) | (rw [sizeLine_eq]; simp; done) | (rw [sizeLine_eq]; simp only [List.length_append, List.length_cons, List.length_nil]; omega)) ?_ | refine addT (by first | assumption | (rw [sizeLine_eq]; omega) | (rw [sizeLine_eq]; simp; done) | (rw [sizeLine_eq]; simp only [List.length_append, List.length_cons, List.length_nil]; omega)) ?_ | refine And.intro (by assumption) ?_ | refine And.intro (by decide) ?_ | refine ⟨_, _, rfl, ?_⟩ | refine iteT rfl ?_ | refine iteF Bool.false_ne_true ?_)
  intro rr hr0 hr1
  repeat' (first | refine ix0T ?_ | refine ix1T ?_ | refine ix2T ?_ | refine ix0L ?_ | refine ix1L ?_ | refine ix2L ?_ | refine ⟨_, rfl, ?_⟩ | refine ⟨_, _, rfl, rfl, (by show (_ : Nat) ≤ sizeLine; first | assumption | exact big (DOk.strLen (by assumption)) | exact big (DOk.tupLen (by assumption)) | exact big (DOk.lstLen (by assumption)) | exact big (DOw.strLen (by assumption)) | exact big (DOw.tupLen (by assumption)) | exact big (DOw.lstLen (by assumption)) | exact big (DOz.strLen (by assumption)) | exact big (DOz.tupLen (by assumption)) | exact big (DOz.lstLen (by assumption))), ?_⟩ | refine ⟨_, _, rfl, rfl, (by first | decide | (show (0 : Int) < _; decide)), ?_⟩ | refine ⟨_, _, rfl, rfl, ?_⟩ | refine eqR_str ?_ | refine eqR_int ?_ | refine neR_str ?_ | refine neR_int ?_ | refine And.intro rfl ?_ | refine addL (by first | assumption | (rw [sizeLine_eq]; omega) | (rw [sizeLine_eq]; simp; done) | (rw [sizeLine_eq]; simp only [List.length_append, List.length_cons, List.length_nil]; omega)) ?_ | refine addT (by first | assumption | (rw [sizeLine_eq]; omega) | (rw [sizeLine_eq]; simp; done) | (rw [sizeLine_eq]; simp only [List.length_append, List.length_cons, List.length_nil]; omega)) ?_ | refine And.intro (by assumption) ?_ | refine And.intro (by decide) ?_ | refine ⟨_, _, rfl, ?_⟩ | refine iteT rfl ?_ | refine iteF Bool.false_ne_true ?_)
  refine ⟨by omega, by omega, ?_⟩
  refine ⟨fun i ρ' => ∃ (ds : List PyData) (many : Int) (x4 x5 x6 x7 x8 x9 : Option En), ρ' = [some .bag, some (.d (.list (zs.map .str))), some (.l (ds.map .dat)), some (.d (.int many)), x4, x5, x6, x7, x8, x9] ∧ ds.length ≤ i ∧ 0 ≤ many ∧ many ≤ i ∧ ∀ d ∈ ds, R3 d, ?_, ?_, ?_⟩
  · exact ⟨[], 0, _, _, _, _, _, _, rfl, by simp, by decide, by decide, fun _ m => nomatch m⟩
  · rintro i k ρ' hk ⟨ds, many, x4, x5, x6, x7, x8, x9, rfl, hdl, hm0, hm1, hds⟩
    have hi : i < 6 := by
      have := (List.getElem?_eq_some_iff.mp hk).1
      rw [len_range] at this
      omega
    repeat' (first | refine ix0T ?_ | refine ix1T ?_ | refine ix2T ?_ | refine ix0L ?_ | refine ix1L ?_ | refine ix2L ?_ | refine ⟨_, rfl, ?_⟩ | refine ⟨_, _, rfl, rfl, (by show (_ : Nat) ≤ sizeLine; first | assumption | exact big (DOk.strLen (by assumption)) | exact big (DOk.tupLen (by assumption)) | exact big (DOk.lstLen (by assumption)) | exact big (DOw.strLen (by assumption)) | exact big (DOw.tupLen (by assumption)) | exact big (DOw.lstLen (by assumption)) | exact big (DOz.strLen (by assumption)) | exact big (DOz.tupLen (by assumption)) | exact big (DOz.lstLen (by assumption))), ?_⟩ | refine ⟨_, _, rfl, rfl, (by first | decide | (show (0 : Int) < _; decide)), ?_⟩ | refine ⟨_, _, rfl, rfl, ?_⟩ | refine eqR_str ?_ | refine eqR_int ?_ | refine neR_str ?_ | refine neR_int ?_ | refine And.intro rfl ?_ | refine addL (by first | assumption | (rw [sizeLine_eq]; omega) | (rw [sizeLine_eq]; simp; done) | (rw [sizeLine_eq]; simp only [List.length_append, List.length_cons, List.length_nil]; omega)) ?_ | refine addT (by first | assumption | (rw [sizeLine_eq]; omega) | (rw [sizeLine_eq]; simp; done) | (rw [sizeLine_eq]; simp only [List.length_append, List.length_cons, List.length_nil]; omega)) ?_ | refine And.intro (by assumption) ?_ | refine And.intro (by decide) ?_ | refine ⟨_, _, rfl, ?_⟩ | refine iteT rfl ?_ | refine iteF Bool.false_ne_true ?_)
    intro way hw0 hw1
    repeat' (first | refine ix0T ?_ | refine ix1T ?_ | refine ix2T ?_ | refine ix0L ?_ | refine ix1L ?_ | refine ix2L ?_ | refine ⟨_, rfl, ?_⟩ | refine ⟨_, _, rfl, rfl, (by show (_ : Nat) ≤ sizeLine; first | assumption | exact big (DOk.strLen (by assumption)) | exact big (DOk.tupLen (by assumption)) | exact big (DOk.lstLen (by assumption)) | exact big (DOw.strLen (by assumption)) | exact big (DOw.tupLen (by assumption)) | exact big (DOw.lstLen (by assumption)) | exact big (DOz.strLen (by assumption)) | exact big (DOz.tupLen (by assumption)) | exact big (DOz.lstLen (by assumption))), ?_⟩ | refine ⟨_, _, rfl, rfl, (by first | decide | (show (0 : Int) < _; decide)), ?_⟩ | refine ⟨_, _, rfl, rfl, ?_⟩ | refine eqR_str ?_ | refine eqR_int ?_ | refine neR_str ?_ | refine neR_int ?_ | refine And.intro rfl ?_ | refine addL (by first | assumption | (rw [sizeLine_eq]; omega) | (rw [sizeLine_eq]; simp; done) | (rw [sizeLine_eq]; simp only [List.length_append, List.length_cons, List.length_nil]; omega)) ?_ | refine addT (by first | assumption | (rw [sizeLine_eq]; omega) | (rw [sizeLine_eq]; simp; done) | (rw [sizeLine_eq]; simp only [List.length_append, List.length_cons, List.length_nil]; omega)) ?_ | refine And.intro (by assumption) ?_ | refine And.intro (by decide) ?_ | refine ⟨_, _, rfl, ?_⟩ | refine iteT rfl ?_ | refine iteF Bool.false_ne_true ?_)
    refine ⟨by simpa using hne, by rw [List.length_map]; omega, fun nm hnm => ?_⟩
    obtain ⟨z, hz, rfl⟩ := List.mem_map.mp hnm
    have hzz := hzn z hz
    repeat' (first | refine ix0T ?_ | refine ix1T ?_ | refine ix2T ?_ | refine ix0L ?_ | refine ix1L ?_ | refine ix2L ?_ | refine ⟨_, rfl, ?_⟩ | refine ⟨_, _, rfl, rfl, (by show (_ : Nat) ≤ sizeLine; first | assumption | exact big (DOk.strLen (by assumption)) | exact big (DOk.tupLen (by assumption)) | exact big (DOk.lstLen (by assumption)) | exact big (DOw.strLen (by assumption)) | exact big (DOw.tupLen (by assumption)) | exact big (DOw.lstLen (by assumption)) | exact big (DOz.strLen (by assumption)) | exact big (DOz.tupLen (by assumption)) | exact big (DOz.lstLen (by assumption))), ?_⟩ | refine ⟨_, _, rfl, rfl, (by first | decide | (show (0 : Int) < _; decide)), ?_⟩ | refine ⟨_, _, rfl, rfl, ?_⟩ | refine eqR_str ?_ | refine eqR_int ?_ | refine neR_str ?_ | refine neR_int ?_ | refine And.intro rfl ?_ | refine addL (by first | assumption | (rw [sizeLine_eq]; omega) | (rw [sizeLine_eq]; simp; done) | (rw [sizeLine_eq]; simp only [List.length_append, List.length_cons, List.length_nil]; omega)) ?_ | refine addT (by first | assumption | (rw [sizeLine_eq]; omega) | (rw [sizeLine_eq]; simp; done) | (rw [sizeLine_eq]; simp only [List.length_append, List.length_cons, List.length_nil]; omega)) ?_ | refine And.intro (by assumption) ?_ | refine And.intro (by decide) ?_ | refine ⟨_, _, rfl, ?_⟩ | refine iteT rfl ?_ | refine iteF Bool.false_ne_true ?_)
    refine ⟨by omega, by omega, fun r hr0' hr1' => ?_⟩
    repeat' (first | refine ix0T ?_ | refine ix1T ?_ | refine ix2T ?_ | refine ix0L ?_ | refine ix1L ?_ | refine ix2L ?_ | refine ⟨_, rfl, ?_⟩ | refine ⟨_, _, rfl, rfl, (by show (_ : Nat) ≤ sizeLine; first | assumption | exact big (DOk.strLen (by assumption)) | exact big (DOk.tupLen (by assumption)) | exact big (DOk.lstLen (by assumption)) | exact big (DOw.strLen (by assumption)) | exact big (DOw.tupLen (by assumption)) | exact big (DOw.lstLen (by assumption)) | exact big (DOz.strLen (by assumption)) | exact big (DOz.tupLen (by assumption)) | exact big (DOz.lstLen (by assumption))), ?_⟩ | refine ⟨_, _, rfl, rfl, (by first | decide | (show (0 : Int) < _; decide)), ?_⟩ | refine ⟨_, _, rfl, rfl, ?_⟩ | refine eqR_str ?_ | refine eqR_int ?_ | refine neR_str ?_ | refine neR_int ?_ | refine And.intro rfl ?_ | refine addL (by first | assumption | (rw [sizeLine_eq]; omega) | (rw [sizeLine_eq]; simp; done) | (rw [sizeLine_eq]; simp only [List.length_append, List.length_cons, List.length_nil]; omega)) ?_ | refine addT (by first | assumption | (rw [sizeLine_eq]; omega) | (rw [sizeLine_eq]; simp; done) | (rw [sizeLine_eq]; simp only [List.length_append, List.length_cons, List.length_nil]; omega)) ?_ | refine And.intro (by assumption) ?_ | refine And.intro (by decide) ?_ | refine ⟨_, _, rfl, ?_⟩ | refine iteT rfl ?_ | refine iteF Bool.false_ne_true ?_)
    refine ⟨_, _, _, rfl, ?_⟩
    repeat' (first | refine ix0T ?_ | refine ix1T ?_ | refine ix2T ?_ | refine ix0L ?_ | refine ix1L ?_ | refine ix2L ?_ | refine ⟨_, rfl, ?_⟩ | refine ⟨_, _, rfl, rfl, (by show (_ : Nat) ≤ sizeLine; first | assumption | exact big (DOk.strLen (by assumption)) | exact big (DOk.tupLen (by assumption)) | exact big (DOk.lstLen (by assumption)) | exact big (DOw.strLen (by assumption)) | exact big (DOw.tupLen (by assumption)) | exact big (DOw.lstLen (by assumption)) | exact big (DOz.strLen (by assumption)) | exact big (DOz.tupLen (by assumption)) | exact big (DOz.lstLen (by assumption))), ?_⟩ | refine ⟨_, _, rfl, rfl, (by first | decide | (show (0 : Int) < _; decide)), ?_⟩ | refine ⟨_, _, rfl, rfl, ?_⟩ | refine eqR_str ?_ | refine eqR_int ?_ | refine neR_str ?_ | refine neR_int ?_ | refine And.intro rfl ?_ | refine addL (by first | assumption | (rw [sizeLine_eq]; omega) | (rw [sizeLine_eq]; simp; done) | (rw [sizeLine_eq]; simp only [List.length_append, List.length_cons, List.length_nil]; omega)) ?_ | refine addT (by first | assumption | (rw [sizeLine_eq]; omega) | (rw [sizeLine_eq]; simp; done) | (rw [sizeLine_eq]; simp only [List.length_append, List.length_cons, List.length_nil]; omega)) ?_ | refine And.intro (by assumption) ?_ | refine And.intro (by decide) ?_ | refine ⟨_, _, rfl, ?_⟩ | refine iteT rfl ?_ | refine iteF Bool.false_ne_true ?_)
    refine ⟨fun ρ2 => ∃ (rd : PyData) (y9 : Option En), ρ2 = [some .bag, some (.d (.list (zs.map .str))), some (.l (ds.map .dat)), some (.d (.int many)), some (.d k), some (.d (.int way)), some (.d (.str z)), some (.d (.int (r - 1))), some (.d rd), y9] ∧ R3 rd, ?_, ?_⟩
    · repeat' (first | refine ix0T ?_ | refine ix1T ?_ | refine ix2T ?_ | refine ix0L ?_ | refine ix1L ?_ | refine ix2L ?_ | refine ⟨_, rfl, ?_⟩ | refine ⟨_, _, rfl, rfl, (by show (_ : Nat) ≤ sizeLine; first | assumption | exact big (DOk.strLen (by assumption)) | exact big (DOk.tupLen (by assumption)) | exact big (DOk.lstLen (by assumption)) | exact big (DOw.strLen (by assumption)) | exact big (DOw.tupLen (by assumption)) | exact big (DOw.lstLen (by assumption)) | exact big (DOz.strLen (by assumption)) | exact big (DOz.tupLen (by assumption)) | exact big (DOz.lstLen (by assumption))), ?_⟩ | refine ⟨_, _, rfl, rfl, (by first | decide | (show (0 : Int) < _; decide)), ?_⟩ | refine ⟨_, _, rfl, rfl, ?_⟩ | refine eqR_str ?_ | refine eqR_int ?_ | refine neR_str ?_ | refine neR_int ?_ | refine And.intro rfl ?_ | refine addL (by first | assumption | (rw [sizeLine_eq]; omega) | (rw [sizeLine_eq]; simp; done) | (rw [sizeLine_eq]; simp only [List.length_append, List.length_cons, List.length_nil]; omega)) ?_ | refine addT (by first | assumption | (rw [sizeLine_eq]; omega) | (rw [sizeLine_eq]; simp; done) | (rw [sizeLine_eq]; simp only [List.length_append, List.length_cons, List.length_nil]; omega)) ?_ | refine And.intro (by assumption) ?_ | refine And.intro (by decide) ?_ | refine ⟨_, _, rfl, ?_⟩ | refine iteT rfl ?_ | refine iteF Bool.false_ne_true ?_)
      refine iteB (fun e1 => ?_) (fun e1 => ?_)
      · have e1 := of_decide_eq_true e1
        repeat' (first | refine ix0T ?_ | refine ix1T ?_ | refine ix2T ?_ | refine ix0L ?_ | refine ix1L ?_ | refine ix2L ?_ | refine ⟨_, rfl, ?_⟩ | refine ⟨_, _, rfl, rfl, (by show (_ : Nat) ≤ sizeLine; first | assumption | exact big (DOk.strLen (by assumption)) | exact big (DOk.tupLen (by assumption)) | exact big (DOk.lstLen (by assumption)) | exact big (DOw.strLen (by assumption)) | exact big (DOw.tupLen (by assumption)) | exact big (DOw.lstLen (by assumption)) | exact big (DOz.strLen (by assumption)) | exact big (DOz.tupLen (by assumption)) | exact big (DOz.lstLen (by assumption))), ?_⟩ | refine ⟨_, _, rfl, rfl, (by first | decide | (show (0 : Int) < _; decide)), ?_⟩ | refine ⟨_, _, rfl, rfl, ?_⟩ | refine eqR_str ?_ | refine eqR_int ?_ | refine neR_str ?_ | refine neR_int ?_ | refine And.intro rfl ?_ | refine addL (by first | assumption | (rw [sizeLine_eq]; omega) | (rw [sizeLine_eq]; simp; done) | (rw [sizeLine_eq]; simp only [List.length_append, List.length_cons, List.length_nil]; omega)) ?_ | refine addT (by first | assumption | (rw [sizeLine_eq]; omega) | (rw [sizeLine_eq]; simp; done) | (rw [sizeLine_eq]; simp only [List.length_append, List.length_cons, List.length_nil]; omega)) ?_ | refine And.intro (by assumption) ?_ | refine And.intro (by decide) ?_ | refine ⟨_, _, rfl, ?_⟩ | refine iteT rfl ?_ | refine iteF Bool.false_ne_true ?_)
        refine iteB (fun e2 => ?_) (fun e2 => ?_)
        · have e2 := of_decide_eq_true e2
          repeat' (first | refine ix0T ?_ | refine ix1T ?_ | refine ix2T ?_ | refine ix0L ?_ | refine ix1L ?_ | refine ix2L ?_ | refine ⟨_, rfl, ?_⟩ | refine ⟨_, _, rfl, rfl, (by show (_ : Nat) ≤ sizeLine; first | assumption | exact big (DOk.strLen (by assumption)) | exact big (DOk.tupLen (by assumption)) | exact big (DOk.lstLen (by assumption)) | exact big (DOw.strLen (by assumption)) | exact big (DOw.tupLen (by assumption)) | exact big (DOw.lstLen (by assumption)) | exact big (DOz.strLen (by assumption)) | exact big (DOz.tupLen (by assumption)) | exact big (DOz.lstLen (by assumption))), ?_⟩ | refine ⟨_, _, rfl, rfl, (by first | decide | (show (0 : Int) < _; decide)), ?_⟩ | refine ⟨_, _, rfl, rfl, ?_⟩ | refine eqR_str ?_ | refine eqR_int ?_ | refine neR_str ?_ | refine neR_int ?_ | refine And.intro rfl ?_ | refine addL (by first | assumption | (rw [sizeLine_eq]; omega) | (rw [sizeLine_eq]; simp; done) | (rw [sizeLine_eq]; simp only [List.length_append, List.length_cons, List.length_nil]; omega)) ?_ | refine addT (by first | assumption | (rw [sizeLine_eq]; omega) | (rw [sizeLine_eq]; simp; done) | (rw [sizeLine_eq]; simp only [List.length_append, List.length_cons, List.length_nil]; omega)) ?_ | refine And.intro (by assumption) ?_ | refine And.intro (by decide) ?_ | refine ⟨_, _, rfl, ?_⟩ | refine iteT rfl ?_ | refine iteF Bool.false_ne_true ?_)
          refine ⟨by omega, fun at' ha0 ha1 => ?_⟩
          repeat' (first | refine ix0T ?_ | refine ix1T ?_ | refine ix2T ?_ | refine ix0L ?_ | refine ix1L ?_ | refine ix2L ?_ | refine ⟨_, rfl, ?_⟩ | refine ⟨_, _, rfl, rfl, (by show (_ : Nat) ≤ sizeLine; first | assumption | exact big (DOk.strLen (by assumption)) | exact big (DOk.tupLen (by assumption)) | exact big (DOk.lstLen (by assumption)) | exact big (DOw.strLen (by assumption)) | exact big (DOw.tupLen (by assumption)) | exact big (DOw.lstLen (by assumption)) | exact big (DOz.strLen (by assumption)) | exact big (DOz.tupLen (by assumption)) | exact big (DOz.lstLen (by assumption))), ?_⟩ | refine ⟨_, _, rfl, rfl, (by first | decide | (show (0 : Int) < _; decide)), ?_⟩ | refine ⟨_, _, rfl, rfl, ?_⟩ | refine eqR_str ?_ | refine eqR_int ?_ | refine neR_str ?_ | refine neR_int ?_ | refine And.intro rfl ?_ | refine addL (by first | assumption | (rw [sizeLine_eq]; omega) | (rw [sizeLine_eq]; simp; done) | (rw [sizeLine_eq]; simp only [List.length_append, List.length_cons, List.length_nil]; omega)) ?_ | refine addT (by first | assumption | (rw [sizeLine_eq]; omega) | (rw [sizeLine_eq]; simp; done) | (rw [sizeLine_eq]; simp only [List.length_append, List.length_cons, List.length_nil]; omega)) ?_ | refine And.intro (by assumption) ?_ | refine And.intro (by decide) ?_ | refine ⟨_, _, rfl, ?_⟩ | refine iteT rfl ?_ | refine iteF Bool.false_ne_true ?_)
          intro mk hm0' hm1'
          have hw : way = 2 ∨ way = 3 := by omega
          rcases hw with rfl | rfl
          · repeat' (first | refine ix0T ?_ | refine ix1T ?_ | refine ix2T ?_ | refine ix0L ?_ | refine ix1L ?_ | refine ix2L ?_ | refine ⟨_, rfl, ?_⟩ | refine ⟨_, _, rfl, rfl, (by show (_ : Nat) ≤ sizeLine; first | assumption | exact big (DOk.strLen (by assumption)) | exact big (DOk.tupLen (by assumption)) | exact big (DOk.lstLen (by assumption)) | exact big (DOw.strLen (by assumption)) | exact big (DOw.tupLen (by assumption)) | exact big (DOw.lstLen (by assumption)) | exact big (DOz.strLen (by assumption)) | exact big (DOz.tupLen (by assumption)) | exact big (DOz.lstLen (by assumption))), ?_⟩ | refine ⟨_, _, rfl, rfl, (by first | decide | (show (0 : Int) < _; decide)), ?_⟩ | refine ⟨_, _, rfl, rfl, ?_⟩ | refine eqR_str ?_ | refine eqR_int ?_ | refine neR_str ?_ | refine neR_int ?_ | refine And.intro rfl ?_ | refine addL (by first | assumption | (rw [sizeLine_eq]; omega) | (rw [sizeLine_eq]; simp; done) | (rw [sizeLine_eq]; simp only [List.length_append, List.length_cons, List.length_nil]; omega)) ?_ | refine addT (by first | assumption | (rw [sizeLine_eq]; omega) | (rw [sizeLine_eq]; simp; done) | (rw [sizeLine_eq]; simp only [List.length_append, List.length_cons, List.length_nil]; omega)) ?_ | refine And.intro (by assumption) ?_ | refine And.intro (by decide) ?_ | refine ⟨_, _, rfl, ?_⟩ | refine iteT rfl ?_ | refine iteF Bool.false_ne_true ?_)
            exact R3.mark (a := at') (b := mk) (pw_int (by omega) (by omega)) (pw_int (by omega) (by omega))
          · repeat' (first | refine ix0T ?_ | refine ix1T ?_ | refine ix2T ?_ | refine ix0L ?_ | refine ix1L ?_ | refine ix2L ?_ | refine ⟨_, rfl, ?_⟩ | refine ⟨_, _, rfl, rfl, (by show (_ : Nat) ≤ sizeLine; first | assumption | exact big (DOk.strLen (by assumption)) | exact big (DOk.tupLen (by assumption)) | exact big (DOk.lstLen (by assumption)) | exact big (DOw.strLen (by assumption)) | exact big (DOw.tupLen (by assumption)) | exact big (DOw.lstLen (by assumption)) | exact big (DOz.strLen (by assumption)) | exact big (DOz.tupLen (by assumption)) | exact big (DOz.lstLen (by assumption))), ?_⟩ | refine ⟨_, _, rfl, rfl, (by first | decide | (show (0 : Int) < _; decide)), ?_⟩ | refine ⟨_, _, rfl, rfl, ?_⟩ | refine eqR_str ?_ | refine eqR_int ?_ | refine neR_str ?_ | refine neR_int ?_ | refine And.intro rfl ?_ | refine addL (by first | assumption | (rw [sizeLine_eq]; omega) | (rw [sizeLine_eq]; simp; done) | (rw [sizeLine_eq]; simp only [List.length_append, List.length_cons, List.length_nil]; omega)) ?_ | refine addT (by first | assumption | (rw [sizeLine_eq]; omega) | (rw [sizeLine_eq]; simp; done) | (rw [sizeLine_eq]; simp only [List.length_append, List.length_cons, List.length_nil]; omega)) ?_ | refine And.intro (by assumption) ?_ | refine And.intro (by decide) ?_ | refine ⟨_, _, rfl, ?_⟩ | refine iteT rfl ?_ | refine iteF Bool.false_ne_true ?_)
            exact R3.field (a := at') (z := z) (n := r - 1) (pw_int (by omega) (by omega)) hzz (pw_int (by omega) (by omega))
        · repeat' (first | refine ix0T ?_ | refine ix1T ?_ | refine ix2T ?_ | refine ix0L ?_ | refine ix1L ?_ | refine ix2L ?_ | refine ⟨_, rfl, ?_⟩ | refine ⟨_, _, rfl, rfl, (by show (_ : Nat) ≤ sizeLine; first | assumption | exact big (DOk.strLen (by assumption)) | exact big (DOk.tupLen (by assumption)) | exact big (DOk.lstLen (by assumption)) | exact big (DOw.strLen (by assumption)) | exact big (DOw.tupLen (by assumption)) | exact big (DOw.lstLen (by assumption)) | exact big (DOz.strLen (by assumption)) | exact big (DOz.tupLen (by assumption)) | exact big (DOz.lstLen (by assumption))), ?_⟩ | refine ⟨_, _, rfl, rfl, (by first | decide | (show (0 : Int) < _; decide)), ?_⟩ | refine ⟨_, _, rfl, rfl, ?_⟩ | refine eqR_str ?_ | refine eqR_int ?_ | refine neR_str ?_ | refine neR_int ?_ | refine And.intro rfl ?_ | refine addL (by first | assumption | (rw [sizeLine_eq]; omega) | (rw [sizeLine_eq]; simp; done) | (rw [sizeLine_eq]; simp only [List.length_append, List.length_cons, List.length_nil]; omega)) ?_ | refine addT (by first | assumption | (rw [sizeLine_eq]; omega) | (rw [sizeLine_eq]; simp; done) | (rw [sizeLine_eq]; simp only [List.length_append, List.length_cons, List.length_nil]; omega)) ?_ | refine And.intro (by assumption) ?_ | refine And.intro (by decide) ?_ | refine ⟨_, _, rfl, ?_⟩ | refine iteT rfl ?_ | refine iteF Bool.false_ne_true ?_)
          exact .inl ⟨_, _, rfl, hzz, pw_int (by omega) (by omega)⟩
      · repeat' (first | refine ix0T ?_ | refine ix1T ?_ | refine ix2T ?_ | refine ix0L ?_ | refine ix1L ?_ | refine ix2L ?_ | refine ⟨_, rfl, ?_⟩ | refine ⟨_, _, rfl, rfl, (by show (_ : Nat) ≤ sizeLine; first | assumption | exact big (DOk.strLen (by assumption)) | exact big (DOk.tupLen (by assumption)) | exact big (DOk.lstLen (by assumption)) | exact big (DOw.strLen (by assumption)) | exact big (DOw.tupLen (by assumption)) | exact big (DOw.lstLen (by assumption)) | exact big (DOz.strLen (by assumption)) | exact big (DOz.tupLen (by assumption)) | exact big (DOz.lstLen (by assumption))), ?_⟩ | refine ⟨_, _, rfl, rfl, (by first | decide | (show (0 : Int) < _; decide)), ?_⟩ | refine ⟨_, _, rfl, rfl, ?_⟩ | refine eqR_str ?_ | refine eqR_int ?_ | refine neR_str ?_ | refine neR_int ?_ | refine And.intro rfl ?_ | refine addL (by first | assumption | (rw [sizeLine_eq]; omega) | (rw [sizeLine_eq]; simp; done) | (rw [sizeLine_eq]; simp only [List.length_append, List.length_cons, List.length_nil]; omega)) ?_ | refine addT (by first | assumption | (rw [sizeLine_eq]; omega) | (rw [sizeLine_eq]; simp; done) | (rw [sizeLine_eq]; simp only [List.length_append, List.length_cons, List.length_nil]; omega)) ?_ | refine And.intro (by assumption) ?_ | refine And.intro (by decide) ?_ | refine ⟨_, _, rfl, ?_⟩ | refine iteT rfl ?_ | refine iteF Bool.false_ne_true ?_)
        exact .inl ⟨_, _, rfl, hzz, pw_int (by omega) (by omega)⟩
    · rintro ρ2 ⟨rd, y9, rfl, hrd⟩
      have hs : (ds.map O.dat).length < sizeLine := by
        rw [List.length_map, sizeLine_eq]
        omega
      rcases id hrd with ⟨z', n', rfl, h1, h2⟩ | ⟨a, z', n', rfl, h1, h2, h3⟩ | ⟨a, b, rfl, h1, h2⟩
      · repeat' (first | refine ix0T ?_ | refine ix1T ?_ | refine ix2T ?_ | refine ix0L ?_ | refine ix1L ?_ | refine ix2L ?_ | refine ⟨_, rfl, ?_⟩ | refine ⟨_, _, rfl, rfl, (by show (_ : Nat) ≤ sizeLine; first | assumption | exact big (DOk.strLen (by assumption)) | exact big (DOk.tupLen (by assumption)) | exact big (DOk.lstLen (by assumption)) | exact big (DOw.strLen (by assumption)) | exact big (DOw.tupLen (by assumption)) | exact big (DOw.lstLen (by assumption)) | exact big (DOz.strLen (by assumption)) | exact big (DOz.tupLen (by assumption)) | exact big (DOz.lstLen (by assumption))), ?_⟩ | refine ⟨_, _, rfl, rfl, (by first | decide | (show (0 : Int) < _; decide)), ?_⟩ | refine ⟨_, _, rfl, rfl, ?_⟩ | refine eqR_str ?_ | refine eqR_int ?_ | refine neR_str ?_ | refine neR_int ?_ | refine And.intro rfl ?_ | refine addL (by first | assumption | (rw [sizeLine_eq]; omega) | (rw [sizeLine_eq]; simp; done) | (rw [sizeLine_eq]; simp only [List.length_append, List.length_cons, List.length_nil]; omega)) ?_ | refine addT (by first | assumption | (rw [sizeLine_eq]; omega) | (rw [sizeLine_eq]; simp; done) | (rw [sizeLine_eq]; simp only [List.length_append, List.length_cons, List.length_nil]; omega)) ?_ | refine And.intro (by assumption) ?_ | refine And.intro (by decide) ?_ | refine ⟨_, _, rfl, ?_⟩ | refine iteT rfl ?_ | refine iteF Bool.false_ne_true ?_)
        refine ⟨ds ++ [_], _, _, _, _, _, _, _, by rw [List.map_append]; rfl, by rw [List.length_append]; simp; omega, ?_, ?_, fun d m => ?_⟩
        · split <;> omega
        · split <;> omega
        · rcases List.mem_append.mp m with m | m
          · exact hds d m
          · rw [List.mem_singleton.mp m]
            exact hrd
      · repeat' (first | refine ix0T ?_ | refine ix1T ?_ | refine ix2T ?_ | refine ix0L ?_ | refine ix1L ?_ | refine ix2L ?_ | refine ⟨_, rfl, ?_⟩ | refine ⟨_, _, rfl, rfl, (by show (_ : Nat) ≤ sizeLine; first | assumption | exact big (DOk.strLen (by assumption)) | exact big (DOk.tupLen (by assumption)) | exact big (DOk.lstLen (by assumption)) | exact big (DOw.strLen (by assumption)) | exact big (DOw.tupLen (by assumption)) | exact big (DOw.lstLen (by assumption)) | exact big (DOz.strLen (by assumption)) | exact big (DOz.tupLen (by assumption)) | exact big (DOz.lstLen (by assumption))), ?_⟩ | refine ⟨_, _, rfl, rfl, (by first | decide | (show (0 : Int) < _; decide)), ?_⟩ | refine ⟨_, _, rfl, rfl, ?_⟩ | refine eqR_str ?_ | refine eqR_int ?_ | refine neR_str ?_ | refine neR_int ?_ | refine And.intro rfl ?_ | refine addL (by first | assumption | (rw [sizeLine_eq]; omega) | (rw [sizeLine_eq]; simp; done) | (rw [sizeLine_eq]; simp only [List.length_append, List.length_cons, List.length_nil]; omega)) ?_ | refine addT (by first | assumption | (rw [sizeLine_eq]; omega) | (rw [sizeLine_eq]; simp; done) | (rw [sizeLine_eq]; simp only [List.length_append, List.length_cons, List.length_nil]; omega)) ?_ | refine And.intro (by assumption) ?_ | refine And.intro (by decide) ?_ | refine ⟨_, _, rfl, ?_⟩ | refine iteT rfl ?_ | refine iteF Bool.false_ne_true ?_)
        refine ⟨ds ++ [_], _, _, _, _, _, _, _, by rw [List.map_append]; rfl, by rw [List.length_append]; simp; omega, ?_, ?_, fun d m => ?_⟩
        · split <;> omega
        · split <;> omega
        · rcases List.mem_append.mp m with m | m
          · exact hds d m
          · rw [List.mem_singleton.mp m]
            exact hrd
      · repeat' (first | refine ix0T ?_ | refine ix1T ?_ | refine ix2T ?_ | refine ix0L ?_ | refine ix1L ?_ | refine ix2L ?_ | refine ⟨_, rfl, ?_⟩ | refine ⟨_, _, rfl, rfl, (by show (_ : Nat) ≤ sizeLine; first | assumption | exact big (DOk.strLen (by assumption)) | exact big (DOk.tupLen (by assumption)) | exact big (DOk.lstLen (by assumption)) | exact big (DOw.strLen (by assumption)) | exact big (DOw.tupLen (by assumption)) | exact big (DOw.lstLen (by assumption)) | exact big (DOz.strLen (by assumption)) | exact big (DOz.tupLen (by assumption)) | exact big (DOz.lstLen (by assumption))), ?_⟩ | refine ⟨_, _, rfl, rfl, (by first | decide | (show (0 : Int) < _; decide)), ?_⟩ | refine ⟨_, _, rfl, rfl, ?_⟩ | refine eqR_str ?_ | refine eqR_int ?_ | refine neR_str ?_ | refine neR_int ?_ | refine And.intro rfl ?_ | refine addL (by first | assumption | (rw [sizeLine_eq]; omega) | (rw [sizeLine_eq]; simp; done) | (rw [sizeLine_eq]; simp only [List.length_append, List.length_cons, List.length_nil]; omega)) ?_ | refine addT (by first | assumption | (rw [sizeLine_eq]; omega) | (rw [sizeLine_eq]; simp; done) | (rw [sizeLine_eq]; simp only [List.length_append, List.length_cons, List.length_nil]; omega)) ?_ | refine And.intro (by assumption) ?_ | refine And.intro (by decide) ?_ | refine ⟨_, _, rfl, ?_⟩ | refine iteT rfl ?_ | refine iteF Bool.false_ne_true ?_)
        refine ⟨ds ++ [_], _, _, _, _, _, _, _, by rw [List.map_append]; rfl, by rw [List.length_append]; simp; omega, ?_, ?_, fun d m => ?_⟩
        · split <;> omega
        · split <;> omega
        · rcases List.mem_append.mp m with m | m
          · exact hds d m
          · rw [List.mem_singleton.mp m]
            exact hrd
  · rintro ρ' ⟨ds, many, x4, x5, x6, x7, x8, x9, rfl, hdl, hm0, hm1, hds⟩
    repeat' (first | refine ix0T ?_ | refine ix1T ?_ | refine ix2T ?_ | refine ix0L ?_ | refine ix1L ?_ | refine ix2L ?_ | refine ⟨_, rfl, ?_⟩ | refine ⟨_, _, rfl, rfl, (by show (_ : Nat) ≤ sizeLine; first | assumption | exact big (DOk.strLen (by assumption)) | exact big (DOk.tupLen (by assumption)) | exact big (DOk.lstLen (by assumption)) | exact big (DOw.strLen (by assumption)) | exact big (DOw.tupLen (by assumption)) | exact big (DOw.lstLen (by assumption)) | exact big (DOz.strLen (by assumption)) | exact big (DOz.tupLen (by assumption)) | exact big (DOz.lstLen (by assumption))), ?_⟩ | refine ⟨_, _, rfl, rfl, (by first | decide | (show (0 : Int) < _; decide)), ?_⟩ | refine ⟨_, _, rfl, rfl, ?_⟩ | refine eqR_str ?_ | refine eqR_int ?_ | refine neR_str ?_ | refine neR_int ?_ | refine And.intro rfl ?_ | refine addL (by first | assumption | (rw [sizeLine_eq]; omega) | (rw [sizeLine_eq]; simp; done) | (rw [sizeLine_eq]; simp only [List.length_append, List.length_cons, List.length_nil]; omega)) ?_ | refine addT (by first | assumption | (rw [sizeLine_eq]; omega) | (rw [sizeLine_eq]; simp; done) | (rw [sizeLine_eq]; simp only [List.length_append, List.length_cons, List.length_nil]; omega)) ?_ | refine And.intro (by assumption) ?_ | refine And.intro (by decide) ?_ | refine ⟨_, _, rfl, ?_⟩ | refine iteT rfl ?_ | refine iteF Bool.false_ne_true ?_)
    refine q ds ?_ hds
    rw [len_range] at hdl
    omega
end
end K58
set_option Elab.async false
set_option linter.all false
set_option maxRecDepth 100000
set_option maxHeartbeats 1000000
set_option pp.maxSteps 500
/-! K58k: rows of promises, drawn -/
namespace K58
open PySem PySem.Spec PyProof.Rows L2 GL DL
def worldD (rs fs : List Str) : PyData := .dict [(.str "roots", .list (rs.map .str)), (.str "fields", .list (fs.map .str))]
/-- a pattern -/
def PatG (d : PyData) : Prop := ∃ ps, d = .tuple ps ∧ readD (.tuple ps) = true ∧ ps.length ≤ 4 ∧ ∀ x ∈ ps, Pw x
def NumN (n : PyData) : Prop := n = .none ∨ ∃ i, n = .int i ∧ 0 ≤ i ∧ i < 100
/-- a row -/
def RowG (r : PyData) : Prop := ∃ p d n, r = .tuple [.int p, d, n] ∧ 0 ≤ p ∧ p < 100 ∧ PatG d ∧ NumN n
def S_prows : DSp := fun as P => ∃ rs fs, as = [.bag, .d (worldD rs fs)] ∧ rs.length ≤ 3 ∧ fs.length ≤ 3 ∧ fs ≠ [] ∧ (∀ z ∈ rs, NmS z) ∧ (∀ z ∈ fs, NmS z) ∧ ∀ rows : List PyData, rows.length ≤ 6 → (∀ r ∈ rows, RowG r) → P (.lst (rows.map .dat))
theorem frz3 {a b c e f' g h i : Option En} {ds : List PyData} : frzAt [a, b, c, some (.l (ds.map .dat)), e, f', g, h, i] 3 = [a, b, c, some (.d (.list ds)), e, f', g, h, i] := by
  show [a, b, c, some (.d (.list (eraseAll (ds.map O.dat)))), e, f', g, h, i] = _
  rw [eraseAll_dat]
theorem pw_nm {z : Str} (h : NmS z) : Pw (.str z) := pw_str h
theorem nm_fits {z : Str} (h : NmS z) : fitsD "name" (.str z) = true := h
theorem read_mark (a b : PyData) : readD (.tuple [.str "mark", a, b]) = (wishD "number" a && (wishD "mark" b && true)) := by rfl
theorem read_root (a b : PyData) : readD (.tuple [.str "root", a, b]) = (wishD "name" a && (wishD "told" b && true)) := by rfl
theorem read_field (a b c : PyData) : readD (.tuple [.str "field", a, b, c]) = (wishD "number" a && (wishD "name" b && (wishD "told" c && true))) := by rfl
theorem wish_none (k : Str) : wishD k .none = true := rfl
theorem wish_num {i : Int} (h : 0 ≤ i) : wishD "number" (.int i) = true := by
  show decide (0 ≤ i) = true
  exact decide_eq_true h
theorem wish_told {i : Int} (h : -1 ≤ i) : wishD "told" (.int i) = true := by
  show decide (-1 ≤ i) = true
  exact decide_eq_true h
theorem wish_mark {i : Int} (h : 0 ≤ i) (k : i ≤ 3) : wishD "mark" (.int i) = true := by
  show (decide (0 ≤ i) && decide (i ≤ 3)) = true
  rw [decide_eq_true h, decide_eq_true k]
  rfl
theorem wish_name {z : Str} (h : NmS z) : wishD "name" (.str z) = true := h
theorem pw_none : Pw .none := pw_of (by decide +kernel)
theorem pw_word {z : Str} (h : dwB (.str z) = true) : Pw (.str z) := sm_of h
theorem pat3 {z : Str} {a b : PyData} (hz : dwB (.str z) = true) (h : readD (.tuple [.str z, a, b]) = true) (ha : Pw a) (hb : Pw b) : PatG (.tuple [.str z, a, b]) := by
  refine ⟨_, rfl, h, by simp, fun x m => ?_⟩
  simp only [List.mem_cons, List.not_mem_nil, or_false] at m
  rcases m with rfl | rfl | rfl
  · exact sm_of hz
  · exact ha
  · exact hb
theorem pat4 {z : Str} {a b c : PyData} (hz : dwB (.str z) = true) (h : readD (.tuple [.str z, a, b, c]) = true) (ha : Pw a) (hb : Pw b) (hc : Pw c) : PatG (.tuple [.str z, a, b, c]) := by
  refine ⟨_, rfl, h, by simp, fun x m => ?_⟩
  simp only [List.mem_cons, List.not_mem_nil, or_false] at m
  rcases m with rfl | rfl | rfl | rfl
  · exact sm_of hz
  · exact ha
  · exact hb
  · exact hc
section
variable {P : Program} {w : World} {K : PySem.W.Frag} {mg : Str → Option Value} {base : Heap} {f C : Addr} {fd : FuncData}
theorem sc_promise_rows : FnScope ["_law_bag", "_law_world", "_law_found", "_law_states", "_law_k", "_law_n", "_law_way", "_law_pattern", "_law_root"] ["_law_bag", "_law_world"] (defScope s_promise_rows) := ⟨rfl, rfl, rfl, by decide +kernel, rfl, by decide +kernel, by decide +kernel⟩
theorem ok_promise_rows (F : Fun K "_law_promise_rows" "_law_promise_rows" s_promise_rows f fd) (T : Txt0 mg) (c_take : ClG P w K mg base 1 "_law_take" (spF K S_take)) (c_pick : ClG P w K mg base 2 "_law_pick" (spF K S_one)) : FnG P w K mg base 3 f fd ["_law_bag", "_law_world"] (spF K S_prows) := by
  refine okD F sc_promise_rows (fun as Q h => by obtain ⟨_, _, rfl, _⟩ := h; rfl) fun cdv A out s H E hG hr => have hu := units_ofx hr; have hu1 := Nat.lt_of_le_of_lt (Nat.add_le_add_left (by decide : 1 ≤ 64) _) hu; have hu6 := units_of hr; ⟨_, (dss_cons (ds_par (i := 2) (j := 3) rfl sc_promise_rows.nd rfl rfl (by decide) rfl rfl (doa_cons (do_lst da_nil) (doa_cons (do_lst (da_cons de_int (da_cons (DO.d (do_add rfl de_int (DO.d (do_call rfl c_take hG hr (by omega) (by rfl) (dr_bag (pv 0) (dr_cons de_int dr_nil)))))) (da_cons de_int da_nil)))) doa_nil)) (by rfl))
(dss_cons (ds_frzAt 3 (ds_for PassesOwn.never rfl (di_range1 (by rfl) T.m_range (da_cons (DO.d (do_call rfl c_take hG hr (by omega) (by rfl) (dr_bag (pv 0) (dr_cons de_int dr_nil)))) da_nil)) (dg_name (pg_name (i := 4) sc_promise_rows.nd rfl (.inl rfl)))
(dss_cons (ds_par (i := 5) (j := 6) rfl sc_promise_rows.nd rfl rfl (by decide) rfl rfl (doa_cons (do_call rfl c_take hG hr (by omega) (by rfl) (dr_bag (pv 0) (dr_cons de_int dr_nil))) (doa_cons (do_call rfl c_take hG hr (by omega) (by rfl) (dr_bag (pv 0) (dr_cons de_int dr_nil))) doa_nil)) (by rfl))
(dss_cons (ds_set (i := 7) sc_promise_rows.nd rfl (.inl rfl) (DE.o (de_tup (da_cons de_str (da_cons (de_ixA rfl (DO.d (do_lst (da_cons de_non (da_cons de_int da_nil)))) (DO.d (do_call rfl c_take hG hr (by omega) (by rfl) (dr_bag (pv 0) (dr_cons de_int dr_nil))))) (da_cons (de_ixA rfl (DO.d (do_lst (da_cons de_non (da_cons (de_v (pv 5)) da_nil)))) (de_intC T.m_int (de_cmp op_gt od_Ib (de_v (pv 6)) de_int (nomark _)))) da_nil))))))
(dss_cut (ds_if (DW.db (dw_or (db_eq rfl hu (de_v (pv 6)) de_int) (dw_or1 (DW.db (dw_and (db_eq rfl hu (de_dget hu1 (de_v (pv 1))) (DO.d (do_lst da_nil))) (dw_and1 (db_eq rfl hu (de_v (pv 6)) de_int)))))))
(dss_cons (ds_set (i := 8) sc_promise_rows.nd rfl (.inl rfl) (do_call rfl c_pick hG hr (by omega) (by rfl) (dr_bag (pv 0) (dr_cons (DO.d (do_add rfl (de_dget hu1 (de_v (pv 1))) (DO.d (do_lst (da_cons de_non da_nil))))) dr_nil))))
(dss_one (ds_set (i := 7) sc_promise_rows.nd rfl (.inl rfl) (DE.o (de_tup (da_cons de_str (da_cons (de_v (pv 8)) (da_cons (de_ixA rfl (DO.d (do_lst (da_cons de_non (da_cons (de_sub (de_v (pv 5)) de_int) da_nil)))) (DO.d (do_call rfl c_take hG hr (by omega) (by rfl) (dr_bag (pv 0) (dr_cons de_int dr_nil))))) da_nil))))))))
(dss_one (ds_if (db_eq rfl hu (de_v (pv 6)) de_int)
(dss_one (ds_set (i := 7) sc_promise_rows.nd rfl (.inl rfl) (DE.o (de_tup (da_cons de_str (da_cons (de_ixA rfl (DO.d (do_lst (da_cons de_non (da_cons de_int (da_cons de_int da_nil))))) (DO.d (do_call rfl c_take hG hr (by omega) (by rfl) (dr_bag (pv 0) (dr_cons de_int dr_nil))))) (da_cons (DO.d (do_call rfl c_pick hG hr (by omega) (by rfl) (dr_bag (pv 0) (dr_cons (DO.d (do_add rfl (de_dget hu1 (de_v (pv 1))) (DO.d (do_lst (da_cons de_non da_nil))))) dr_nil)))) (da_cons (de_sub (de_v (pv 5)) de_int) da_nil))))))))
dss_nil)))
(dss_one (ds_append rfl (pv 2) (DE.o (de_tup (da_cons (DO.d (do_call rfl c_pick hG hr (by omega) (by rfl) (dr_bag (pv 0) (dr_cons (de_v (pv 3)) dr_nil)))) (da_cons (de_v (pv 7)) (da_cons (DO.d (do_call rfl c_pick hG hr (by omega) (by rfl) (dr_bag (pv 0) (dr_cons (DO.d (do_add rfl (de_v (pv 3)) (DO.d (do_lst (da_cons de_non da_nil))))) dr_nil)))) da_nil))))))))))))
(dss_one (ds_retOwn (pv 2))))), fun as Q h => ?_⟩
  obtain ⟨rs, fs, rfl, hrl, hfl, hfn, hrs, hfs, q⟩ := h
  repeat' (first | refine ix0T ?_ | refine ix1T ?_ | refine ix2T ?_ | refine ix0L ?_ | refine ix1L ?_ | refine ix2L ?_ | refine ⟨_, rfl, ?_⟩ | refine ⟨_, _, rfl, rfl, (by show (_ : Nat) ≤ sizeLine; first | assumption | exact big (DOk.strLen (by assumption)) | exact big (DOk.tupLen (by assumption)) | exact big (DOk.lstLen (by assumption)) | exact big (DOw.strLen (by assumption)) | exact big (DOw.tupLen (by assumption)) | exact big (DOw.lstLen (by assumption)) | exact big (DOz.strLen (by assumption)) | exact big (DOz.tupLen (by assumption)) | exact big (DOz.lstLen (by assumption))), ?_⟩ | refine ⟨_, _, rfl, rfl, (by first | decide | (show (0 : Int) < _; decide)), ?_⟩ | refine ⟨_, _, rfl, rfl, ?_⟩ | refine eqR_str ?_ | refine eqR_int ?_ | refine neR_str ?_ | refine neR_int ?_ | refine And.intro rfl ?_ | refine addL (by first | assumption | (rw [sizeLine_eq]; omega) | (rw [sizeLine_eq]; simp; done) | (rw [sizeLine_eq]; simp only [List.length_append, List.length_cons, List.length_nil]; omega)) ?_ | refine addT (by first | assumption | (rw [sizeLine_eq]; omega) | (rw [sizeLine_eq]; simp; done) | (rw [sizeLine_eq]; simp only [List.length_append, List.length_cons, List.length_nil]; omega)) ?_ | refine And.intro (by assumption) ?_ | refine And.intro (by decide) ?_ | refine ⟨_, _, rfl, ?_⟩ | refine iteT rfl ?_ | refine iteF Bool.false_ne_true ?_)
  intro st h0 h1
  repeat' (first | refine ix0T ?_ | refine ix1T ?_ | refine ix2T ?_ | refine ix0L ?_ | refine ix1L ?_ | refine ix2L ?_ | refine ⟨_, rfl, ?_⟩ | refine ⟨_, _, rfl, rfl, (by show (_ : Nat) ≤ sizeLine; first | assumption | exact big (DOk.strLen (by assumption)) | exact big (DOk.tupLen (by assumption)) | exact big (DOk.lstLen (by assumption)) | exact big (DOw.strLen (by assumption)) | exact big (DOw.tupLen (by assumption)) | exact big (DOw.lstLen (by assumption)) | exact big (DOz.strLen (by assumption)) | exact big (DOz.tupLen (by assumption)) | exact big (DOz.lstLen (by assumption))), ?_⟩ | refine ⟨_, _, rfl, rfl, (by first | decide | (show (0 : Int) < _; decide)), ?_⟩ | refine ⟨_, _, rfl, rfl, ?_⟩ | refine eqR_str ?_ | refine eqR_int ?_ | refine neR_str ?_ | refine neR_int ?_ | refine And.intro rfl ?_ | refine addL (by first | assumption | (rw [sizeLine_eq]; omega) | (rw [sizeLine_eq]; simp; done) | (rw [sizeLine_eq]; simp only [List.length_append, List.length_cons, List.length_nil]; omega)) ?_ | refine addT (by first | assumption | (rw [sizeLine_eq]; omega) | (rw [sizeLine_eq]; simp; done) | (rw [sizeLine_eq]; simp only [List.length_append, List.length_cons, List.length_nil]; omega)) ?_ | refine And.intro (by assumption) ?_ | refine And.intro (by decide) ?_ | refine ⟨_, _, rfl, ?_⟩ | refine iteT rfl ?_ | refine iteF Bool.false_ne_true ?_)
  intro many hm0 hm1
  repeat' (first | refine ix0T ?_ | refine ix1T ?_ | refine ix2T ?_ | refine ix0L ?_ | refine ix1L ?_ | refine ix2L ?_ | refine ⟨_, rfl, ?_⟩ | refine ⟨_, _, rfl, rfl, (by show (_ : Nat) ≤ sizeLine; first | assumption | exact big (DOk.strLen (by assumption)) | exact big (DOk.tupLen (by assumption)) | exact big (DOk.lstLen (by assumption)) | exact big (DOw.strLen (by assumption)) | exact big (DOw.tupLen (by assumption)) | exact big (DOw.lstLen (by assumption)) | exact big (DOz.strLen (by assumption)) | exact big (DOz.tupLen (by assumption)) | exact big (DOz.lstLen (by assumption))), ?_⟩ | refine ⟨_, _, rfl, rfl, (by first | decide | (show (0 : Int) < _; decide)), ?_⟩ | refine ⟨_, _, rfl, rfl, ?_⟩ | refine eqR_str ?_ | refine eqR_int ?_ | refine neR_str ?_ | refine neR_int ?_ | refine And.intro rfl ?_ | refine addL (by first | assumption | (rw [sizeLine_eq]; omega) | (rw [sizeLine_eq]; simp; done) | (rw [sizeLine_eq]; simp only [List.length_append, List.length_cons, List.length_nil]; omega)) ?_ | refine addT (by first | assumption | (rw [sizeLine_eq]; omega) | (rw [sizeLine_eq]; simp; done) | (rw [sizeLine_eq]; simp only [List.length_append, List.length_cons, List.length_nil]; omega)) ?_ | refine And.intro (by assumption) ?_ | refine And.intro (by decide) ?_ | refine ⟨_, _, rfl, ?_⟩ | refine iteT rfl ?_ | refine iteF Bool.false_ne_true ?_)
  refine ⟨by omega, by omega, ?_⟩
  refine ⟨fun i ρ' => ∃ (rows : List PyData) (x4 x5 x6 x7 x8 : Option En), ρ' = [some .bag, some (.d (worldD rs fs)), some (.l (rows.map .dat)), some (.d (.list [.int 0, .int (1 + st), .int 99])), x4, x5, x6, x7, x8] ∧ rows.length ≤ i ∧ ∀ r ∈ rows, RowG r, ?_, ?_, ?_⟩
  · exact ⟨[], _, _, _, _, _, rfl, by simp, fun _ m => nomatch m⟩
  · rintro i k ρ' hk ⟨rows, x4, x5, x6, x7, x8, rfl, hl, hg⟩
    have hi : i < 6 := by
      have := (List.getElem?_eq_some_iff.mp hk).1
      rw [len_range] at this
      omega
    repeat' (first | refine ix0T ?_ | refine ix1T ?_ | refine ix2T ?_ | refine ix0L ?_ | refine ix1L ?_ | refine ix2L ?_ | refine ⟨_, rfl, ?_⟩ | refine ⟨_, _, rfl, rfl, (by show (_ : Nat) ≤ sizeLine; first | assumption | exact big (DOk.strLen (by assumption)) | exact big (DOk.tupLen (by assumption)) | exact big (DOk.lstLen (by assumption)) | exact big (DOw.strLen (by assumption)) | exact big (DOw.tupLen (by assumption)) | exact big (DOw.lstLen (by assumption)) | exact big (DOz.strLen (by assumption)) | exact big (DOz.tupLen (by assumption)) | exact big (DOz.lstLen (by assumption))), ?_⟩ | refine ⟨_, _, rfl, rfl, (by first | decide | (show (0 : Int) < _; decide)), ?_⟩ | refine ⟨_, _, rfl, rfl, ?_⟩ | refine eqR_str ?_ | refine eqR_int ?_ | refine neR_str ?_ | refine neR_int ?_ | refine And.intro rfl ?_ | refine addL (by first | assumption | (rw [sizeLine_eq]; omega) | (rw [sizeLine_eq]; simp; done) | (rw [sizeLine_eq]; simp only [List.length_append, List.length_cons, List.length_nil]; omega)) ?_ | refine addT (by first | assumption | (rw [sizeLine_eq]; omega) | (rw [sizeLine_eq]; simp; done) | (rw [sizeLine_eq]; simp only [List.length_append, List.length_cons, List.length_nil]; omega)) ?_ | refine And.intro (by assumption) ?_ | refine And.intro (by decide) ?_ | refine ⟨_, _, rfl, ?_⟩ | refine iteT rfl ?_ | refine iteF Bool.false_ne_true ?_)
    intro n hn0 hn1
    repeat' (first | refine ix0T ?_ | refine ix1T ?_ | refine ix2T ?_ | refine ix0L ?_ | refine ix1L ?_ | refine ix2L ?_ | refine ⟨_, rfl, ?_⟩ | refine ⟨_, _, rfl, rfl, (by show (_ : Nat) ≤ sizeLine; first | assumption | exact big (DOk.strLen (by assumption)) | exact big (DOk.tupLen (by assumption)) | exact big (DOk.lstLen (by assumption)) | exact big (DOw.strLen (by assumption)) | exact big (DOw.tupLen (by assumption)) | exact big (DOw.lstLen (by assumption)) | exact big (DOz.strLen (by assumption)) | exact big (DOz.tupLen (by assumption)) | exact big (DOz.lstLen (by assumption))), ?_⟩ | refine ⟨_, _, rfl, rfl, (by first | decide | (show (0 : Int) < _; decide)), ?_⟩ | refine ⟨_, _, rfl, rfl, ?_⟩ | refine eqR_str ?_ | refine eqR_int ?_ | refine neR_str ?_ | refine neR_int ?_ | refine And.intro rfl ?_ | refine addL (by first | assumption | (rw [sizeLine_eq]; omega) | (rw [sizeLine_eq]; simp; done) | (rw [sizeLine_eq]; simp only [List.length_append, List.length_cons, List.length_nil]; omega)) ?_ | refine addT (by first | assumption | (rw [sizeLine_eq]; omega) | (rw [sizeLine_eq]; simp; done) | (rw [sizeLine_eq]; simp only [List.length_append, List.length_cons, List.length_nil]; omega)) ?_ | refine And.intro (by assumption) ?_ | refine And.intro (by decide) ?_ | refine ⟨_, _, rfl, ?_⟩ | refine iteT rfl ?_ | refine iteF Bool.false_ne_true ?_)
    intro way hw0 hw1
    repeat' (first | refine ix0T ?_ | refine ix1T ?_ | refine ix2T ?_ | refine ix0L ?_ | refine ix1L ?_ | refine ix2L ?_ | refine ⟨_, rfl, ?_⟩ | refine ⟨_, _, rfl, rfl, (by show (_ : Nat) ≤ sizeLine; first | assumption | exact big (DOk.strLen (by assumption)) | exact big (DOk.tupLen (by assumption)) | exact big (DOk.lstLen (by assumption)) | exact big (DOw.strLen (by assumption)) | exact big (DOw.tupLen (by assumption)) | exact big (DOw.lstLen (by assumption)) | exact big (DOz.strLen (by assumption)) | exact big (DOz.tupLen (by assumption)) | exact big (DOz.lstLen (by assumption))), ?_⟩ | refine ⟨_, _, rfl, rfl, (by first | decide | (show (0 : Int) < _; decide)), ?_⟩ | refine ⟨_, _, rfl, rfl, ?_⟩ | refine eqR_str ?_ | refine eqR_int ?_ | refine neR_str ?_ | refine neR_int ?_ | refine And.intro rfl ?_ | refine addL (by first | assumption | (rw [sizeLine_eq]; omega) | (rw [sizeLine_eq]; simp; done) | (rw [sizeLine_eq]; simp only [List.length_append, List.length_cons, List.length_nil]; omega)) ?_ | refine addT (by first | assumption | (rw [sizeLine_eq]; omega) | (rw [sizeLine_eq]; simp; done) | (rw [sizeLine_eq]; simp only [List.length_append, List.length_cons, List.length_nil]; omega)) ?_ | refine And.intro (by assumption) ?_ | refine And.intro (by decide) ?_ | refine ⟨_, _, rfl, ?_⟩ | refine iteT rfl ?_ | refine iteF Bool.false_ne_true ?_)
    intro t2 ht0 ht1
    refine ixMem ht0 (show t2 < ((2 : Nat) : Int) from ht1) fun a ha => ?_
    rw [eraseAll_dat] at ha
    repeat' (first | refine ix0T ?_ | refine ix1T ?_ | refine ix2T ?_ | refine ix0L ?_ | refine ix1L ?_ | refine ix2L ?_ | refine ⟨_, rfl, ?_⟩ | refine ⟨_, _, rfl, rfl, (by show (_ : Nat) ≤ sizeLine; first | assumption | exact big (DOk.strLen (by assumption)) | exact big (DOk.tupLen (by assumption)) | exact big (DOk.lstLen (by assumption)) | exact big (DOw.strLen (by assumption)) | exact big (DOw.tupLen (by assumption)) | exact big (DOw.lstLen (by assumption)) | exact big (DOz.strLen (by assumption)) | exact big (DOz.tupLen (by assumption)) | exact big (DOz.lstLen (by assumption))), ?_⟩ | refine ⟨_, _, rfl, rfl, (by first | decide | (show (0 : Int) < _; decide)), ?_⟩ | refine ⟨_, _, rfl, rfl, ?_⟩ | refine eqR_str ?_ | refine eqR_int ?_ | refine neR_str ?_ | refine neR_int ?_ | refine And.intro rfl ?_ | refine addL (by first | assumption | (rw [sizeLine_eq]; omega) | (rw [sizeLine_eq]; simp; done) | (rw [sizeLine_eq]; simp only [List.length_append, List.length_cons, List.length_nil]; omega)) ?_ | refine addT (by first | assumption | (rw [sizeLine_eq]; omega) | (rw [sizeLine_eq]; simp; done) | (rw [sizeLine_eq]; simp only [List.length_append, List.length_cons, List.length_nil]; omega)) ?_ | refine And.intro (by assumption) ?_ | refine And.intro (by decide) ?_ | refine ⟨_, _, rfl, ?_⟩ | refine iteT rfl ?_ | refine iteF Bool.false_ne_true ?_)
    refine ixMem (by split <;> decide) (by show _ < ((2 : Nat) : Int); split <;> decide) fun b hb => ?_
    rw [eraseAll_dat] at hb
    repeat' (first | refine ix0T ?_ | refine ix1T ?_ | refine ix2T ?_ | refine ix0L ?_ | refine ix1L ?_ | refine ix2L ?_ | refine ⟨_, rfl, ?_⟩ | refine ⟨_, _, rfl, rfl, (by show (_ : Nat) ≤ sizeLine; first | assumption | exact big (DOk.strLen (by assumption)) | exact big (DOk.tupLen (by assumption)) | exact big (DOk.lstLen (by assumption)) | exact big (DOw.strLen (by assumption)) | exact big (DOw.tupLen (by assumption)) | exact big (DOw.lstLen (by assumption)) | exact big (DOz.strLen (by assumption)) | exact big (DOz.tupLen (by assumption)) | exact big (DOz.lstLen (by assumption))), ?_⟩ | refine ⟨_, _, rfl, rfl, (by first | decide | (show (0 : Int) < _; decide)), ?_⟩ | refine ⟨_, _, rfl, rfl, ?_⟩ | refine eqR_str ?_ | refine eqR_int ?_ | refine neR_str ?_ | refine neR_int ?_ | refine And.intro rfl ?_ | refine addL (by first | assumption | (rw [sizeLine_eq]; omega) | (rw [sizeLine_eq]; simp; done) | (rw [sizeLine_eq]; simp only [List.length_append, List.length_cons, List.length_nil]; omega)) ?_ | refine addT (by first | assumption | (rw [sizeLine_eq]; omega) | (rw [sizeLine_eq]; simp; done) | (rw [sizeLine_eq]; simp only [List.length_append, List.length_cons, List.length_nil]; omega)) ?_ | refine And.intro (by assumption) ?_ | refine And.intro (by decide) ?_ | refine ⟨_, _, rfl, ?_⟩ | refine iteT rfl ?_ | refine iteF Bool.false_ne_true ?_)
    have ha2 : Pw a ∧ wishD "number" a = true := by
      simp only [List.mem_cons, List.not_mem_nil, or_false] at ha
      rcases ha with rfl | rfl
      · exact ⟨pw_none, rfl⟩
      · exact ⟨pw_int (by decide) (by decide), wish_num (by decide)⟩
    have hb2 : Pw b ∧ wishD "mark" b = true := by
      simp only [List.mem_cons, List.not_mem_nil, or_false] at hb
      rcases hb with rfl | rfl
      · exact ⟨pw_none, rfl⟩
      · exact ⟨pw_int (by omega) (by omega), wish_mark (by omega) (by omega)⟩
    have hmark : PatG (.tuple [.str "mark", a, b]) := pat3 (by decide +kernel) (by rw [read_mark, ha2.2, hb2.2]; rfl) ha2.1 hb2.1
    refine ⟨fun ρ2 => ∃ (pt : PyData) (y8 : Option En), ρ2 = [some .bag, some (.d (worldD rs fs)), some (.l (rows.map .dat)), some (.d (.list [.int 0, .int (1 + st), .int 99])), some (.d k), some (.d (.int n)), some (.d (.int way)), some (.d pt), y8] ∧ PatG pt, ?_, ?_⟩
    · repeat' (first | refine ix0T ?_ | refine ix1T ?_ | refine ix2T ?_ | refine ix0L ?_ | refine ix1L ?_ | refine ix2L ?_ | refine ⟨_, rfl, ?_⟩ | refine ⟨_, _, rfl, rfl, (by show (_ : Nat) ≤ sizeLine; first | assumption | exact big (DOk.strLen (by assumption)) | exact big (DOk.tupLen (by assumption)) | exact big (DOk.lstLen (by assumption)) | exact big (DOw.strLen (by assumption)) | exact big (DOw.tupLen (by assumption)) | exact big (DOw.lstLen (by assumption)) | exact big (DOz.strLen (by assumption)) | exact big (DOz.tupLen (by assumption)) | exact big (DOz.lstLen (by assumption))), ?_⟩ | refine ⟨_, _, rfl, rfl, (by first | decide | (show (0 : Int) < _; decide)), ?_⟩ | refine ⟨_, _, rfl, rfl, ?_⟩ | refine eqR_str ?_ | refine eqR_int ?_ | refine neR_str ?_ | refine neR_int ?_ | refine And.intro rfl ?_ | refine addL (by first | assumption | (rw [sizeLine_eq]; omega) | (rw [sizeLine_eq]; simp; done) | (rw [sizeLine_eq]; simp only [List.length_append, List.length_cons, List.length_nil]; omega)) ?_ | refine addT (by first | assumption | (rw [sizeLine_eq]; omega) | (rw [sizeLine_eq]; simp; done) | (rw [sizeLine_eq]; simp only [List.length_append, List.length_cons, List.length_nil]; omega)) ?_ | refine And.intro (by assumption) ?_ | refine And.intro (by decide) ?_ | refine ⟨_, _, rfl, ?_⟩ | refine iteT rfl ?_ | refine iteF Bool.false_ne_true ?_)
      refine iteB (fun e1 => ?_) (fun e1 => ?_)
      · repeat' (first | refine ix0T ?_ | refine ix1T ?_ | refine ix2T ?_ | refine ix0L ?_ | refine ix1L ?_ | refine ix2L ?_ | refine ⟨_, rfl, ?_⟩ | refine ⟨_, _, rfl, rfl, (by show (_ : Nat) ≤ sizeLine; first | assumption | exact big (DOk.strLen (by assumption)) | exact big (DOk.tupLen (by assumption)) | exact big (DOk.lstLen (by assumption)) | exact big (DOw.strLen (by assumption)) | exact big (DOw.tupLen (by assumption)) | exact big (DOw.lstLen (by assumption)) | exact big (DOz.strLen (by assumption)) | exact big (DOz.tupLen (by assumption)) | exact big (DOz.lstLen (by assumption))), ?_⟩ | refine ⟨_, _, rfl, rfl, (by first | decide | (show (0 : Int) < _; decide)), ?_⟩ | refine ⟨_, _, rfl, rfl, ?_⟩ | refine eqR_str ?_ | refine eqR_int ?_ | refine neR_str ?_ | refine neR_int ?_ | refine And.intro rfl ?_ | refine addL (by first | assumption | (rw [sizeLine_eq]; omega) | (rw [sizeLine_eq]; simp; done) | (rw [sizeLine_eq]; simp only [List.length_append, List.length_cons, List.length_nil]; omega)) ?_ | refine addT (by first | assumption | (rw [sizeLine_eq]; omega) | (rw [sizeLine_eq]; simp; done) | (rw [sizeLine_eq]; simp only [List.length_append, List.length_cons, List.length_nil]; omega)) ?_ | refine And.intro (by assumption) ?_ | refine And.intro (by decide) ?_ | refine ⟨_, _, rfl, ?_⟩ | refine iteT rfl ?_ | refine iteF Bool.false_ne_true ?_)
        refine ⟨_, _, rfl, rfl, rfl, ?_⟩
        have eN : eraseAll [O.dat PyData.none] = [PyData.none] := rfl
        refine addL (by show (rs.map PyData.str).length + 1 ≤ sizeLine; rw [List.length_map, sizeLine_eq]; omega) ?_
        repeat' (first | refine ix0T ?_ | refine ix1T ?_ | refine ix2T ?_ | refine ix0L ?_ | refine ix1L ?_ | refine ix2L ?_ | refine ⟨_, rfl, ?_⟩ | refine ⟨_, _, rfl, rfl, (by show (_ : Nat) ≤ sizeLine; first | assumption | exact big (DOk.strLen (by assumption)) | exact big (DOk.tupLen (by assumption)) | exact big (DOk.lstLen (by assumption)) | exact big (DOw.strLen (by assumption)) | exact big (DOw.tupLen (by assumption)) | exact big (DOw.lstLen (by assumption)) | exact big (DOz.strLen (by assumption)) | exact big (DOz.tupLen (by assumption)) | exact big (DOz.lstLen (by assumption))), ?_⟩ | refine ⟨_, _, rfl, rfl, (by first | decide | (show (0 : Int) < _; decide)), ?_⟩ | refine ⟨_, _, rfl, rfl, ?_⟩ | refine eqR_str ?_ | refine eqR_int ?_ | refine neR_str ?_ | refine neR_int ?_ | refine And.intro rfl ?_ | refine addL (by first | assumption | (rw [sizeLine_eq]; omega) | (rw [sizeLine_eq]; simp; done) | (rw [sizeLine_eq]; simp only [List.length_append, List.length_cons, List.length_nil]; omega)) ?_ | refine addT (by first | assumption | (rw [sizeLine_eq]; omega) | (rw [sizeLine_eq]; simp; done) | (rw [sizeLine_eq]; simp only [List.length_append, List.length_cons, List.length_nil]; omega)) ?_ | refine And.intro (by assumption) ?_ | refine And.intro (by decide) ?_ | refine ⟨_, _, rfl, ?_⟩ | refine iteT rfl ?_ | refine iteF Bool.false_ne_true ?_)
        refine ⟨by rw [eraseAll_dat]; simp [eN], by rw [eraseAll_dat]; simp [eN]; omega, fun d hd => ?_⟩
        have hd2 : Pw d ∧ wishD "name" d = true := by
          rw [eraseAll_dat] at hd
          rcases List.mem_append.mp hd with m | m
          · obtain ⟨z, hz, rfl⟩ := List.mem_map.mp m
            exact ⟨pw_nm (hrs z hz), wish_name (hrs z hz)⟩
          · rw [List.mem_singleton.mp m]
            exact ⟨pw_none, rfl⟩
        repeat' (first | refine ix0T ?_ | refine ix1T ?_ | refine ix2T ?_ | refine ix0L ?_ | refine ix1L ?_ | refine ix2L ?_ | refine ⟨_, rfl, ?_⟩ | refine ⟨_, _, rfl, rfl, (by show (_ : Nat) ≤ sizeLine; first | assumption | exact big (DOk.strLen (by assumption)) | exact big (DOk.tupLen (by assumption)) | exact big (DOk.lstLen (by assumption)) | exact big (DOw.strLen (by assumption)) | exact big (DOw.tupLen (by assumption)) | exact big (DOw.lstLen (by assumption)) | exact big (DOz.strLen (by assumption)) | exact big (DOz.tupLen (by assumption)) | exact big (DOz.lstLen (by assumption))), ?_⟩ | refine ⟨_, _, rfl, rfl, (by first | decide | (show (0 : Int) < _; decide)), ?_⟩ | refine ⟨_, _, rfl, rfl, ?_⟩ | refine eqR_str ?_ | refine eqR_int ?_ | refine neR_str ?_ | refine neR_int ?_ | refine And.intro rfl ?_ | refine addL (by first | assumption | (rw [sizeLine_eq]; omega) | (rw [sizeLine_eq]; simp; done) | (rw [sizeLine_eq]; simp only [List.length_append, List.length_cons, List.length_nil]; omega)) ?_ | refine addT (by first | assumption | (rw [sizeLine_eq]; omega) | (rw [sizeLine_eq]; simp; done) | (rw [sizeLine_eq]; simp only [List.length_append, List.length_cons, List.length_nil]; omega)) ?_ | refine And.intro (by assumption) ?_ | refine And.intro (by decide) ?_ | refine ⟨_, _, rfl, ?_⟩ | refine iteT rfl ?_ | refine iteF Bool.false_ne_true ?_)
        intro t3 h30 h31
        refine ixMem h30 (show t3 < ((2 : Nat) : Int) from h31) fun c hc => ?_
        rw [eraseAll_dat] at hc
        have hc2 : Pw c ∧ wishD "told" c = true := by
          simp only [List.mem_cons, List.not_mem_nil, or_false] at hc
          rcases hc with rfl | rfl
          · exact ⟨pw_none, rfl⟩
          · exact ⟨pw_int (by omega) (by omega), wish_told (by omega)⟩
        have hp : PatG (.tuple [.str "root", d, c]) := pat3 (by decide +kernel) (by rw [read_root, hd2.2, hc2.2]; rfl) hd2.1 hc2.1
        exact ⟨_, _, rfl, hp⟩
      · repeat' (first | refine ix0T ?_ | refine ix1T ?_ | refine ix2T ?_ | refine ix0L ?_ | refine ix1L ?_ | refine ix2L ?_ | refine ⟨_, rfl, ?_⟩ | refine ⟨_, _, rfl, rfl, (by show (_ : Nat) ≤ sizeLine; first | assumption | exact big (DOk.strLen (by assumption)) | exact big (DOk.tupLen (by assumption)) | exact big (DOk.lstLen (by assumption)) | exact big (DOw.strLen (by assumption)) | exact big (DOw.tupLen (by assumption)) | exact big (DOw.lstLen (by assumption)) | exact big (DOz.strLen (by assumption)) | exact big (DOz.tupLen (by assumption)) | exact big (DOz.lstLen (by assumption))), ?_⟩ | refine ⟨_, _, rfl, rfl, (by first | decide | (show (0 : Int) < _; decide)), ?_⟩ | refine ⟨_, _, rfl, rfl, ?_⟩ | refine eqR_str ?_ | refine eqR_int ?_ | refine neR_str ?_ | refine neR_int ?_ | refine And.intro rfl ?_ | refine addL (by first | assumption | (rw [sizeLine_eq]; omega) | (rw [sizeLine_eq]; simp; done) | (rw [sizeLine_eq]; simp only [List.length_append, List.length_cons, List.length_nil]; omega)) ?_ | refine addT (by first | assumption | (rw [sizeLine_eq]; omega) | (rw [sizeLine_eq]; simp; done) | (rw [sizeLine_eq]; simp only [List.length_append, List.length_cons, List.length_nil]; omega)) ?_ | refine And.intro (by assumption) ?_ | refine And.intro (by decide) ?_ | refine ⟨_, _, rfl, ?_⟩ | refine iteT rfl ?_ | refine iteF Bool.false_ne_true ?_)
        refine ⟨_, _, rfl, rfl, rfl, ?_⟩
        refine eqR_nilW (fun d hd => ?_) ?_
        · obtain ⟨z, hz, rfl⟩ := List.mem_map.mp hd
          exact (pw_nm (hfs z hz)).1
        · rw [decide_eq_false (by simpa using hfn)]
          repeat' (first | refine ix0T ?_ | refine ix1T ?_ | refine ix2T ?_ | refine ix0L ?_ | refine ix1L ?_ | refine ix2L ?_ | refine ⟨_, rfl, ?_⟩ | refine ⟨_, _, rfl, rfl, (by show (_ : Nat) ≤ sizeLine; first | assumption | exact big (DOk.strLen (by assumption)) | exact big (DOk.tupLen (by assumption)) | exact big (DOk.lstLen (by assumption)) | exact big (DOw.strLen (by assumption)) | exact big (DOw.tupLen (by assumption)) | exact big (DOw.lstLen (by assumption)) | exact big (DOz.strLen (by assumption)) | exact big (DOz.tupLen (by assumption)) | exact big (DOz.lstLen (by assumption))), ?_⟩ | refine ⟨_, _, rfl, rfl, (by first | decide | (show (0 : Int) < _; decide)), ?_⟩ | refine ⟨_, _, rfl, rfl, ?_⟩ | refine eqR_str ?_ | refine eqR_int ?_ | refine neR_str ?_ | refine neR_int ?_ | refine And.intro rfl ?_ | refine addL (by first | assumption | (rw [sizeLine_eq]; omega) | (rw [sizeLine_eq]; simp; done) | (rw [sizeLine_eq]; simp only [List.length_append, List.length_cons, List.length_nil]; omega)) ?_ | refine addT (by first | assumption | (rw [sizeLine_eq]; omega) | (rw [sizeLine_eq]; simp; done) | (rw [sizeLine_eq]; simp only [List.length_append, List.length_cons, List.length_nil]; omega)) ?_ | refine And.intro (by assumption) ?_ | refine And.intro (by decide) ?_ | refine ⟨_, _, rfl, ?_⟩ | refine iteT rfl ?_ | refine iteF Bool.false_ne_true ?_)
          refine iteB (fun e2 => ?_) (fun e2 => ?_)
          · repeat' (first | refine ix0T ?_ | refine ix1T ?_ | refine ix2T ?_ | refine ix0L ?_ | refine ix1L ?_ | refine ix2L ?_ | refine ⟨_, rfl, ?_⟩ | refine ⟨_, _, rfl, rfl, (by show (_ : Nat) ≤ sizeLine; first | assumption | exact big (DOk.strLen (by assumption)) | exact big (DOk.tupLen (by assumption)) | exact big (DOk.lstLen (by assumption)) | exact big (DOw.strLen (by assumption)) | exact big (DOw.tupLen (by assumption)) | exact big (DOw.lstLen (by assumption)) | exact big (DOz.strLen (by assumption)) | exact big (DOz.tupLen (by assumption)) | exact big (DOz.lstLen (by assumption))), ?_⟩ | refine ⟨_, _, rfl, rfl, (by first | decide | (show (0 : Int) < _; decide)), ?_⟩ | refine ⟨_, _, rfl, rfl, ?_⟩ | refine eqR_str ?_ | refine eqR_int ?_ | refine neR_str ?_ | refine neR_int ?_ | refine And.intro rfl ?_ | refine addL (by first | assumption | (rw [sizeLine_eq]; omega) | (rw [sizeLine_eq]; simp; done) | (rw [sizeLine_eq]; simp only [List.length_append, List.length_cons, List.length_nil]; omega)) ?_ | refine addT (by first | assumption | (rw [sizeLine_eq]; omega) | (rw [sizeLine_eq]; simp; done) | (rw [sizeLine_eq]; simp only [List.length_append, List.length_cons, List.length_nil]; omega)) ?_ | refine And.intro (by assumption) ?_ | refine And.intro (by decide) ?_ | refine ⟨_, _, rfl, ?_⟩ | refine iteT rfl ?_ | refine iteF Bool.false_ne_true ?_)
            intro t3 h30 h31
            refine ixMem h30 (show t3 < ((3 : Nat) : Int) from h31) fun c hc => ?_
            rw [eraseAll_dat] at hc
            have hc2 : Pw c ∧ wishD "number" c = true := by
              simp only [List.mem_cons, List.not_mem_nil, or_false] at hc
              rcases hc with rfl | rfl | rfl
              · exact ⟨pw_none, rfl⟩
              · exact ⟨pw_int (by decide) (by decide), wish_num (by decide)⟩
              · exact ⟨pw_int (by decide) (by decide), wish_num (by decide)⟩
            repeat' (first | refine ix0T ?_ | refine ix1T ?_ | refine ix2T ?_ | refine ix0L ?_ | refine ix1L ?_ | refine ix2L ?_ | refine ⟨_, rfl, ?_⟩ | refine ⟨_, _, rfl, rfl, (by show (_ : Nat) ≤ sizeLine; first | assumption | exact big (DOk.strLen (by assumption)) | exact big (DOk.tupLen (by assumption)) | exact big (DOk.lstLen (by assumption)) | exact big (DOw.strLen (by assumption)) | exact big (DOw.tupLen (by assumption)) | exact big (DOw.lstLen (by assumption)) | exact big (DOz.strLen (by assumption)) | exact big (DOz.tupLen (by assumption)) | exact big (DOz.lstLen (by assumption))), ?_⟩ | refine ⟨_, _, rfl, rfl, (by first | decide | (show (0 : Int) < _; decide)), ?_⟩ | refine ⟨_, _, rfl, rfl, ?_⟩ | refine eqR_str ?_ | refine eqR_int ?_ | refine neR_str ?_ | refine neR_int ?_ | refine And.intro rfl ?_ | refine addL (by first | assumption | (rw [sizeLine_eq]; omega) | (rw [sizeLine_eq]; simp; done) | (rw [sizeLine_eq]; simp only [List.length_append, List.length_cons, List.length_nil]; omega)) ?_ | refine addT (by first | assumption | (rw [sizeLine_eq]; omega) | (rw [sizeLine_eq]; simp; done) | (rw [sizeLine_eq]; simp only [List.length_append, List.length_cons, List.length_nil]; omega)) ?_ | refine And.intro (by assumption) ?_ | refine And.intro (by decide) ?_ | refine ⟨_, _, rfl, ?_⟩ | refine iteT rfl ?_ | refine iteF Bool.false_ne_true ?_)
            refine ⟨_, _, rfl, rfl, rfl, ?_⟩
            have eN : eraseAll [O.dat PyData.none] = [PyData.none] := rfl
            refine addL (by show (fs.map PyData.str).length + 1 ≤ sizeLine; rw [List.length_map, sizeLine_eq]; omega) ?_
            repeat' (first | refine ix0T ?_ | refine ix1T ?_ | refine ix2T ?_ | refine ix0L ?_ | refine ix1L ?_ | refine ix2L ?_ | refine ⟨_, rfl, ?_⟩ | refine ⟨_, _, rfl, rfl, (by show (_ : Nat) ≤ sizeLine; first | assumption | exact big (DOk.strLen (by assumption)) | exact big (DOk.tupLen (by assumption)) | exact big (DOk.lstLen (by assumption)) | exact big (DOw.strLen (by assumption)) | exact big (DOw.tupLen (by assumption)) | exact big (DOw.lstLen (by assumption)) | exact big (DOz.strLen (by assumption)) | exact big (DOz.tupLen (by assumption)) | exact big (DOz.lstLen (by assumption))), ?_⟩ | refine ⟨_, _, rfl, rfl, (by first | decide | (show (0 : Int) < _; decide)), ?_⟩ | refine ⟨_, _, rfl, rfl, ?_⟩ | refine eqR_str ?_ | refine eqR_int ?_ | refine neR_str ?_ | refine neR_int ?_ | refine And.intro rfl ?_ | refine addL (by first | assumption | (rw [sizeLine_eq]; omega) | (rw [sizeLine_eq]; simp; done) | (rw [sizeLine_eq]; simp only [List.length_append, List.length_cons, List.length_nil]; omega)) ?_ | refine addT (by first | assumption | (rw [sizeLine_eq]; omega) | (rw [sizeLine_eq]; simp; done) | (rw [sizeLine_eq]; simp only [List.length_append, List.length_cons, List.length_nil]; omega)) ?_ | refine And.intro (by assumption) ?_ | refine And.intro (by decide) ?_ | refine ⟨_, _, rfl, ?_⟩ | refine iteT rfl ?_ | refine iteF Bool.false_ne_true ?_)
            refine ⟨by rw [eraseAll_dat]; simp [eN], by rw [eraseAll_dat]; simp [eN]; omega, fun d hd => ?_⟩
            have hd2 : Pw d ∧ wishD "name" d = true := by
              rw [eraseAll_dat] at hd
              rcases List.mem_append.mp hd with m | m
              · obtain ⟨z, hz, rfl⟩ := List.mem_map.mp m
                exact ⟨pw_nm (hfs z hz), wish_name (hfs z hz)⟩
              · rw [List.mem_singleton.mp m]
                exact ⟨pw_none, rfl⟩
            have hp : PatG (.tuple [.str "field", c, d, .int (n - 1)]) := pat4 (by decide +kernel) (by rw [read_field, hc2.2, hd2.2, wish_told (show -1 ≤ n - 1 by omega)]; rfl) hc2.1 hd2.1 (pw_int (by omega) (by omega))
            repeat' (first | refine ix0T ?_ | refine ix1T ?_ | refine ix2T ?_ | refine ix0L ?_ | refine ix1L ?_ | refine ix2L ?_ | refine ⟨_, rfl, ?_⟩ | refine ⟨_, _, rfl, rfl, (by show (_ : Nat) ≤ sizeLine; first | assumption | exact big (DOk.strLen (by assumption)) | exact big (DOk.tupLen (by assumption)) | exact big (DOk.lstLen (by assumption)) | exact big (DOw.strLen (by assumption)) | exact big (DOw.tupLen (by assumption)) | exact big (DOw.lstLen (by assumption)) | exact big (DOz.strLen (by assumption)) | exact big (DOz.tupLen (by assumption)) | exact big (DOz.lstLen (by assumption))), ?_⟩ | refine ⟨_, _, rfl, rfl, (by first | decide | (show (0 : Int) < _; decide)), ?_⟩ | refine ⟨_, _, rfl, rfl, ?_⟩ | refine eqR_str ?_ | refine eqR_int ?_ | refine neR_str ?_ | refine neR_int ?_ | refine And.intro rfl ?_ | refine addL (by first | assumption | (rw [sizeLine_eq]; omega) | (rw [sizeLine_eq]; simp; done) | (rw [sizeLine_eq]; simp only [List.length_append, List.length_cons, List.length_nil]; omega)) ?_ | refine addT (by first | assumption | (rw [sizeLine_eq]; omega) | (rw [sizeLine_eq]; simp; done) | (rw [sizeLine_eq]; simp only [List.length_append, List.length_cons, List.length_nil]; omega)) ?_ | refine And.intro (by assumption) ?_ | refine And.intro (by decide) ?_ | refine ⟨_, _, rfl, ?_⟩ | refine iteT rfl ?_ | refine iteF Bool.false_ne_true ?_)
            obtain ⟨ps, e5, h5⟩ := hp
            cases e5
            exact h5
          · exact ⟨_, _, rfl, hmark⟩
    · rintro ρ2 ⟨pt, y8, rfl, hpt⟩
      repeat' (first | refine ix0T ?_ | refine ix1T ?_ | refine ix2T ?_ | refine ix0L ?_ | refine ix1L ?_ | refine ix2L ?_ | refine ⟨_, rfl, ?_⟩ | refine ⟨_, _, rfl, rfl, (by show (_ : Nat) ≤ sizeLine; first | assumption | exact big (DOk.strLen (by assumption)) | exact big (DOk.tupLen (by assumption)) | exact big (DOk.lstLen (by assumption)) | exact big (DOw.strLen (by assumption)) | exact big (DOw.tupLen (by assumption)) | exact big (DOw.lstLen (by assumption)) | exact big (DOz.strLen (by assumption)) | exact big (DOz.tupLen (by assumption)) | exact big (DOz.lstLen (by assumption))), ?_⟩ | refine ⟨_, _, rfl, rfl, (by first | decide | (show (0 : Int) < _; decide)), ?_⟩ | refine ⟨_, _, rfl, rfl, ?_⟩ | refine eqR_str ?_ | refine eqR_int ?_ | refine neR_str ?_ | refine neR_int ?_ | refine And.intro rfl ?_ | refine addL (by first | assumption | (rw [sizeLine_eq]; omega) | (rw [sizeLine_eq]; simp; done) | (rw [sizeLine_eq]; simp only [List.length_append, List.length_cons, List.length_nil]; omega)) ?_ | refine addT (by first | assumption | (rw [sizeLine_eq]; omega) | (rw [sizeLine_eq]; simp; done) | (rw [sizeLine_eq]; simp only [List.length_append, List.length_cons, List.length_nil]; omega)) ?_ | refine And.intro (by assumption) ?_ | refine And.intro (by decide) ?_ | refine ⟨_, _, rfl, ?_⟩ | refine iteT rfl ?_ | refine iteF Bool.false_ne_true ?_)
      refine ⟨by rw [List.length_map, sizeLine_eq]; omega, ?_⟩
      repeat' (first | refine ix0T ?_ | refine ix1T ?_ | refine ix2T ?_ | refine ix0L ?_ | refine ix1L ?_ | refine ix2L ?_ | refine ⟨_, rfl, ?_⟩ | refine ⟨_, _, rfl, rfl, (by show (_ : Nat) ≤ sizeLine; first | assumption | exact big (DOk.strLen (by assumption)) | exact big (DOk.tupLen (by assumption)) | exact big (DOk.lstLen (by assumption)) | exact big (DOw.strLen (by assumption)) | exact big (DOw.tupLen (by assumption)) | exact big (DOw.lstLen (by assumption)) | exact big (DOz.strLen (by assumption)) | exact big (DOz.tupLen (by assumption)) | exact big (DOz.lstLen (by assumption))), ?_⟩ | refine ⟨_, _, rfl, rfl, (by first | decide | (show (0 : Int) < _; decide)), ?_⟩ | refine ⟨_, _, rfl, rfl, ?_⟩ | refine eqR_str ?_ | refine eqR_int ?_ | refine neR_str ?_ | refine neR_int ?_ | refine And.intro rfl ?_ | refine addL (by first | assumption | (rw [sizeLine_eq]; omega) | (rw [sizeLine_eq]; simp; done) | (rw [sizeLine_eq]; simp only [List.length_append, List.length_cons, List.length_nil]; omega)) ?_ | refine addT (by first | assumption | (rw [sizeLine_eq]; omega) | (rw [sizeLine_eq]; simp; done) | (rw [sizeLine_eq]; simp only [List.length_append, List.length_cons, List.length_nil]; omega)) ?_ | refine And.intro (by assumption) ?_ | refine And.intro (by decide) ?_ | refine ⟨_, _, rfl, ?_⟩ | refine iteT rfl ?_ | refine iteF Bool.false_ne_true ?_)
      refine ⟨by simp, by show 3 ≤ 1000; decide, fun d1 hd1 => ?_⟩
      have hp1 : ∃ p, d1 = .int p ∧ 0 ≤ p ∧ p < 100 := by
        simp only [List.mem_cons, List.not_mem_nil, or_false] at hd1
        rcases hd1 with rfl | rfl | rfl
        · exact ⟨_, rfl, by decide, by decide⟩
        · exact ⟨_, rfl, by omega, by omega⟩
        · exact ⟨_, rfl, by decide, by decide⟩
      obtain ⟨p, rfl, p0, p1⟩ := hp1
      repeat' (first | refine ix0T ?_ | refine ix1T ?_ | refine ix2T ?_ | refine ix0L ?_ | refine ix1L ?_ | refine ix2L ?_ | refine ⟨_, rfl, ?_⟩ | refine ⟨_, _, rfl, rfl, (by show (_ : Nat) ≤ sizeLine; first | assumption | exact big (DOk.strLen (by assumption)) | exact big (DOk.tupLen (by assumption)) | exact big (DOk.lstLen (by assumption)) | exact big (DOw.strLen (by assumption)) | exact big (DOw.tupLen (by assumption)) | exact big (DOw.lstLen (by assumption)) | exact big (DOz.strLen (by assumption)) | exact big (DOz.tupLen (by assumption)) | exact big (DOz.lstLen (by assumption))), ?_⟩ | refine ⟨_, _, rfl, rfl, (by first | decide | (show (0 : Int) < _; decide)), ?_⟩ | refine ⟨_, _, rfl, rfl, ?_⟩ | refine eqR_str ?_ | refine eqR_int ?_ | refine neR_str ?_ | refine neR_int ?_ | refine And.intro rfl ?_ | refine addL (by first | assumption | (rw [sizeLine_eq]; omega) | (rw [sizeLine_eq]; simp; done) | (rw [sizeLine_eq]; simp only [List.length_append, List.length_cons, List.length_nil]; omega)) ?_ | refine addT (by first | assumption | (rw [sizeLine_eq]; omega) | (rw [sizeLine_eq]; simp; done) | (rw [sizeLine_eq]; simp only [List.length_append, List.length_cons, List.length_nil]; omega)) ?_ | refine And.intro (by assumption) ?_ | refine And.intro (by decide) ?_ | refine ⟨_, _, rfl, ?_⟩ | refine iteT rfl ?_ | refine iteF Bool.false_ne_true ?_)
      have eS : eraseAll (List.map O.dat ([PyData.int 0, PyData.int (1 + st), PyData.int 99] ++ eraseAll (List.map O.dat [PyData.none]))) = [.int 0, .int (1 + st), .int 99, .none] := rfl
      rw [eS]
      refine ⟨by simp, by show 4 ≤ 1000; decide, fun d2 hd2 => ?_⟩
      have hp2 : NumN d2 := by
        simp only [List.mem_cons, List.not_mem_nil, or_false] at hd2
        rcases hd2 with rfl | rfl | rfl | rfl
        · exact .inr ⟨_, rfl, by decide, by decide⟩
        · exact .inr ⟨_, rfl, by omega, by omega⟩
        · exact .inr ⟨_, rfl, by decide, by decide⟩
        · exact .inl rfl
      have hrow : RowG (.tuple [.int p, pt, d2]) := ⟨p, pt, d2, rfl, p0, p1, hpt, hp2⟩
      refine ⟨rows ++ [.tuple [.int p, pt, d2]], _, _, _, _, _, by rw [List.map_append]; rfl, by rw [List.length_append]; simp; omega, fun r m => ?_⟩
      rcases List.mem_append.mp m with m | m
      · exact hg r m
      · rw [List.mem_singleton.mp m]
        exact hrow
  · rintro ρ' ⟨rows, x4, x5, x6, x7, x8, rfl, hl, hg⟩
    repeat' (first | refine ix0T ?_ | refine ix1T ?_ | refine ix2T ?_ | refine ix0L ?_ | refine ix1L ?_ | refine ix2L ?_ | refine ⟨_, rfl, ?_⟩ | refine ⟨_, _, rfl, rfl, (by show (_ : Nat) ≤ sizeLine; first | assumption | exact big (DOk.strLen (by assumption)) | exact big (DOk.tupLen (by assumption)) | exact big (DOk.lstLen (by assumption)) | exact big (DOw.strLen (by assumption)) | exact big (DOw.tupLen (by assumption)) | exact big (DOw.lstLen (by assumption)) | exact big (DOz.strLen (by assumption)) | exact big (DOz.tupLen (by assumption)) | exact big (DOz.lstLen (by assumption))), ?_⟩ | refine ⟨_, _, rfl, rfl, (by first | decide | (show (0 : Int) < _; decide)), ?_⟩ | refine ⟨_, _, rfl, rfl, ?_⟩ | refine eqR_str ?_ | refine eqR_int ?_ | refine neR_str ?_ | refine neR_int ?_ | refine And.intro rfl ?_ | refine addL (by first | assumption | (rw [sizeLine_eq]; omega) | (rw [sizeLine_eq]; simp; done) | (rw [sizeLine_eq]; simp only [List.length_append, List.length_cons, List.length_nil]; omega)) ?_ | refine addT (by first | assumption | (rw [sizeLine_eq]; omega) | (rw [sizeLine_eq]; simp; done) | (rw [sizeLine_eq]; simp only [List.length_append, List.length_cons, List.length_nil]; omega)) ?_ | refine And.intro (by assumption) ?_ | refine And.intro (by decide) ?_ | refine ⟨_, _, rfl, ?_⟩ | refine iteT rfl ?_ | refine iteF Bool.false_ne_true ?_)
    refine q rows ?_ hg
    rw [len_range] at hl
    omega
end
end K58
set_option Elab.async false
set_option linter.all false
set_option maxRecDepth 100000
set_option maxHeartbeats 1000000
set_option pp.maxSteps 500
/-! K58l: rows that are none -/
namespace K58
open PySem PySem.Spec PyProof.Rows L2 GL DL
/-- what is no row, small -/
def OddG (d : PyData) : Prop := DOw d ∧ d.weight ≤ 9000 ∧ d.depth ≤ 6 ∧ rowP d = false
/-- a part, small -/
def PartG (d : PyData) : Prop := DOw d ∧ d.weight ≤ 2000 ∧ d.depth ≤ 4
theorem _root_.K58.Pw.part {d : PyData} (h : Pw d) : PartG d := ⟨h.1, Nat.le_trans h.2.1 (by decide), Nat.le_trans h.2.2 (by decide)⟩
theorem part_tup {ps : List PyData} (h : ∀ x ∈ ps, Pw x) (hl : ps.length ≤ 5) : PartG (.tuple ps) ∧ PartG (.list ps) := by
  obtain ⟨a, b, c, e⟩ := dow_all h (by decide) (show ps.length * (140 + 1) ≤ 100000 by omega)
  refine ⟨⟨b, ?_, ?_⟩, a, ?_, ?_⟩
  all_goals
    simp only [PyData.weight, PyData.depth]
    omega
theorem odd_tup {ds : List PyData} (h : ∀ x ∈ ds, PartG x) (hl : ds.length ≤ 4) (n : rowP (.tuple ds) = false) : OddG (.tuple ds) := by
  obtain ⟨a, b, c, e⟩ := dow_all h (by decide) (show ds.length * (2000 + 1) ≤ 100000 by omega)
  refine ⟨b, ?_, ?_, n⟩
  all_goals
    simp only [PyData.weight, PyData.depth]
    omega
theorem odd_lst {ds : List PyData} (h : ∀ x ∈ ds, PartG x) (hl : ds.length ≤ 4) : OddG (.list ds) := by
  obtain ⟨a, b, c, e⟩ := dow_all h (by decide) (show ds.length * (2000 + 1) ≤ 100000 by omega)
  refine ⟨a, ?_, ?_, rfl⟩
  all_goals
    simp only [PyData.weight, PyData.depth]
    omega
theorem all3 {a b c : PyData} (h1 : PartG a) (h2 : PartG b) (h3 : PartG c) : ∀ x ∈ [a, b, c], PartG x := fun x m => by
  simp only [List.mem_cons, List.not_mem_nil, or_false] at m
  rcases m with rfl | rfl | rfl <;> assumption
theorem all4 {a b c e : PyData} (h1 : PartG a) (h2 : PartG b) (h3 : PartG c) (h4 : PartG e) : ∀ x ∈ [a, b, c, e], PartG x := fun x m => by
  simp only [List.mem_cons, List.not_mem_nil, or_false] at m
  rcases m with rfl | rfl | rfl | rfl <;> assumption
theorem row_no1 {s d n : PyData} (h : numD 100 s = false) : rowP (.tuple [s, d, n]) = false := by
  show (numD 100 s && (readD d && (noneD n || numD 100 n))) = false
  rw [h, Bool.false_and]
theorem row_no2 {s d n : PyData} (h : readD d = false) : rowP (.tuple [s, d, n]) = false := by
  show (numD 100 s && (readD d && (noneD n || numD 100 n))) = false
  rw [h, Bool.false_and, Bool.and_false]
theorem row_no3 {s d n : PyData} (h : (noneD n || numD 100 n) = false) : rowP (.tuple [s, d, n]) = false := by
  show (numD 100 s && (readD d && (noneD n || numD 100 n))) = false
  rw [h, Bool.and_false, Bool.and_false]
theorem odd_small {d : PyData} (h : dwB d = true) (n : rowP d = false) : OddG d := ⟨(sm_of h).1, Nat.le_trans (sm_of h).2.1 (by decide), Nat.le_trans (sm_of h).2.2 (by decide), n⟩
/-- another number of parts than the word has -/
theorem read_few {z : Str} {xs ys : List PyData} (h : readD (.tuple (.str z :: xs)) = true) (hl : ys.length ≠ xs.length) : readD (.tuple (.str z :: ys)) = false := by
  have h2 : (match tabGet t_READ_FORMS z with | some ks => fitsAll ks xs | none => false) = true := h
  show (match tabGet t_READ_FORMS z with | some ks => fitsAll ks ys | none => false) = false
  cases ht : tabGet t_READ_FORMS z with
  | none => rfl
  | some ks =>
    rw [ht] at h2
    have e1 := fits_len (show fitsAll ks xs = true from h2)
    show fitsAll ks ys = false
    cases e : fitsAll ks ys with
    | false => rfl
    | true =>
      have e2 := fits_len e
      exact absurd (e2.symm.trans e1) hl
def S_odd : DSp := fun as P => ∃ r, as = [.bag, .d r] ∧ RowG r ∧ ∀ d, OddG d → P (.dat d)
end K58
set_option Elab.async false
set_option linter.all false
set_option maxRecDepth 100000
set_option maxHeartbeats 1000000
set_option pp.maxSteps 500
/-! K58n: rows that are none, drawn -/
namespace K58
open PySem PySem.Spec PyProof.Rows L2 GL DL
/-- the slots of `_law_odd_row` -/
def envO (p : Int) (ps : List PyData) (n : PyData) (xs : List PyData) : Env' := [some .bag, some (.d (.tuple [.int p, .tuple ps, n])), some (.d (.int p)), some (.d (.tuple ps)), some (.d n), some (.l (xs.map .dat))]
theorem frz_envO {p : Int} {ps : List PyData} {n : PyData} {xs : List PyData} : frzAt (envO p ps n xs) 5 = [some .bag, some (.d (.tuple [.int p, .tuple ps, n])), some (.d (.int p)), some (.d (.tuple ps)), some (.d n), some (.d (.list xs))] := by
  show [some En.bag, some (En.d (.tuple [.int p, .tuple ps, n])), some (En.d (.int p)), some (En.d (.tuple ps)), some (En.d n), some (En.d (.list (eraseAll (xs.map O.dat))))] = _
  rw [eraseAll_dat]
def Odds (xs : List PyData) (k : Nat) : Prop := 0 < xs.length ∧ xs.length ≤ k ∧ ∀ d ∈ xs, OddG d
theorem odds_add {xs es : List PyData} {k j : Nat} (h : Odds xs k) (hl : es.length ≤ j) (he : ∀ d ∈ es, OddG d) : Odds (xs ++ es) (k + j) := by
  refine ⟨by rw [List.length_append]; have := h.1; omega, by rw [List.length_append]; have := h.2.1; omega, fun d m => ?_⟩
  rcases List.mem_append.mp m with m | m
  · exact h.2.2 d m
  · exact he d m
section
variable {P : Program} {w : World} {K : PySem.W.Frag} {mg : Str → Option Value} {base : Heap} {f C : Addr} {fd : FuncData}
theorem sc_odd_row : FnScope ["_law_bag", "_law_row", "_law_state", "_law_pattern", "_law_later", "_law_some"] ["_law_bag", "_law_row"] (defScope s_odd_row) := ⟨rfl, rfl, rfl, by decide +kernel, rfl, by decide +kernel, by decide +kernel⟩
theorem ok_odd_row (F : Fun K "_law_odd_row" "_law_odd_row" s_odd_row f fd) (T : Txt0 mg) (c_take : ClG P w K mg base 1 "_law_take" (spF K S_take)) : FnG P w K mg base 2 f fd ["_law_bag", "_law_row"] (spF K S_odd) := by
  refine okD F sc_odd_row (fun as Q h => by obtain ⟨_, rfl, _⟩ := h; rfl) fun cdv A out s H E hG hr => have hu := units_ofx hr; have hu6 := units_of hr; ⟨_, (dss_cut (ds_asg (de_v (pv 1)) (dg_tup (n := 3) rfl rfl (dgs_cons (dg_name (pg_name (i := 2) sc_odd_row.nd rfl (.inl rfl))) (dgs_cons (dg_name (pg_name (i := 3) sc_odd_row.nd rfl (.inl rfl))) (dgs_cons (dg_name (pg_name (i := 4) sc_odd_row.nd rfl (.inl rfl))) dgs_nil)))))
(dss_cut (ds_set (i := 5) sc_odd_row.nd rfl (.inl rfl) (do_lst (da_cons (de_tup (da_cons (de_neg de_int) (da_cons (de_v (pv 3)) (da_cons (de_v (pv 4)) da_nil)))) (da_cons (de_tup (da_cons de_int (da_cons (de_v (pv 3)) (da_cons (de_v (pv 4)) da_nil)))) (da_cons (de_tup (da_cons de_bl (da_cons (de_v (pv 3)) (da_cons (de_v (pv 4)) da_nil)))) (da_cons (de_tup (da_cons (de_v (pv 2)) (da_cons (de_v (pv 3)) (da_cons (de_neg de_int) da_nil)))) (da_cons (DO.d (do_list rfl T.m_list (de_v (pv 1)))) (da_cons de_non da_nil))))))))
(dss_cut (ds_frzAt 5 (ds_set (i := 5) sc_odd_row.nd rfl (.inl rfl) (do_add rfl (de_v (pv 5)) (DO.d (do_lst (da_cons (de_tup (da_cons (de_v (pv 2)) (da_cons (de_v (pv 3)) (da_cons de_int da_nil)))) (da_cons (de_tup (da_cons (de_v (pv 2)) (da_cons (de_v (pv 3)) da_nil))) (da_cons (DO.d (do_add rfl (de_v (pv 1)) (de_tup (da_cons de_int da_nil)))) (da_cons (de_tup (da_cons (de_v (pv 2)) (da_cons (DO.d (do_list rfl T.m_list (de_v (pv 3)))) (da_cons (de_v (pv 4)) da_nil)))) da_nil)))))))))
(dss_cut (ds_append rfl (pv 5) (DE.o (de_tup (da_cons de_non (da_cons (de_v (pv 3)) (da_cons de_int da_nil))))))
(dss_cut (ds_frzAt 5 (ds_set (i := 5) sc_odd_row.nd rfl (.inl rfl) (do_add rfl (de_v (pv 5)) (DO.d (do_lst (da_cons (de_tup (da_cons (de_v (pv 2)) (da_cons (DO.d (do_sl rfl (de_v (pv 3)) io_none (io_some de_int))) (da_cons (de_v (pv 4)) da_nil)))) (da_cons (de_tup (da_cons (de_v (pv 2)) (da_cons (DO.d (do_add rfl (de_v (pv 3)) (de_tup (da_cons de_int da_nil)))) (da_cons (de_v (pv 4)) da_nil)))) (da_cons (de_tup (da_cons (de_v (pv 2)) (da_cons (DO.d (do_add rfl (de_tup (da_cons de_str da_nil)) (DO.d (do_sl rfl (de_v (pv 3)) (io_some de_int) io_none)))) (da_cons (de_v (pv 4)) da_nil)))) da_nil))))))))
(dss_cut (ds_frzAt 5 (ds_set (i := 5) sc_odd_row.nd rfl (.inl rfl) (do_add rfl (de_v (pv 5)) (DO.d (do_lst (da_cons (de_tup (da_cons (de_v (pv 2)) (da_cons (DO.d (do_add rfl (de_tup (da_cons de_non da_nil)) (DO.d (do_sl rfl (de_v (pv 3)) (io_some de_int) io_none)))) (da_cons (de_v (pv 4)) da_nil)))) (da_cons (de_tup (da_cons (de_v (pv 2)) (da_cons (de_tup (da_cons de_str (da_cons de_str (da_cons de_int da_nil)))) (da_cons (de_v (pv 4)) da_nil)))) (da_cons (de_tup (da_cons (de_v (pv 2)) (da_cons (de_tup (da_cons de_str (da_cons de_int (da_cons de_int da_nil)))) (da_cons de_int da_nil)))) da_nil))))))))
(dss_cut (ds_frzAt 5 (ds_set (i := 5) sc_odd_row.nd rfl (.inl rfl) (do_add rfl (de_v (pv 5)) (DO.d (do_lst (da_cons (de_tup (da_cons (de_v (pv 2)) (da_cons (de_tup (da_cons de_str (da_cons (de_neg de_int) (da_cons de_int da_nil)))) (da_cons de_int da_nil)))) (da_cons (de_tup (da_cons (de_v (pv 2)) (da_cons (de_tup (da_cons de_str (da_cons de_str (da_cons (de_neg de_int) da_nil)))) (da_cons de_int da_nil)))) (da_cons (de_tup (da_cons (de_v (pv 2)) (da_cons (de_tup (da_cons de_str (da_cons de_int (da_cons de_int (da_cons de_int da_nil))))) (da_cons de_int da_nil)))) (da_cons de_int (da_cons de_str da_nil))))))))))
(dss_cut (ds_frzAt 5 (ds_set (i := 5) sc_odd_row.nd rfl (.inl rfl) (do_add rfl (de_v (pv 5)) (DO.d (do_lst (da_cons (de_tup (da_cons (de_v (pv 2)) (da_cons (de_tup (da_cons de_str (da_cons (DO.d (do_lst (da_cons de_str da_nil))) (da_cons de_int da_nil)))) (da_cons de_int da_nil)))) (da_cons (de_tup (da_cons (de_v (pv 2)) (da_cons (de_tup (da_cons de_str (da_cons (DO.d (do_lst (da_cons de_int da_nil))) (da_cons de_int da_nil)))) (da_cons de_int da_nil)))) (da_cons (de_tup (da_cons (de_v (pv 2)) (da_cons (de_tup (da_cons de_str (da_cons de_int (da_cons (DO.d (do_lst (da_cons de_str da_nil))) (da_cons de_int da_nil))))) (da_cons de_int da_nil)))) da_nil))))))))
(dss_cut (ds_frzAt 5 (ds_set (i := 5) sc_odd_row.nd rfl (.inl rfl) (do_add rfl (de_v (pv 5)) (DO.d (do_lst (da_cons (de_tup (da_cons (de_v (pv 2)) (da_cons (de_tup (da_cons de_str (da_cons de_bl (da_cons de_int da_nil)))) (da_cons de_int da_nil)))) (da_cons (de_tup (da_cons (de_v (pv 2)) (da_cons (de_tup (da_cons de_str (da_cons de_non (da_cons de_bl da_nil)))) (da_cons de_int da_nil)))) (da_cons (de_tup (da_cons (de_v (pv 2)) (da_cons (de_tup da_nil) (da_cons de_int da_nil)))) (da_cons (de_tup (da_cons (de_v (pv 2)) (da_cons de_non (da_cons de_int da_nil)))) da_nil)))))))))
(dss_one (ds_frzAt 5 (ds_ret (DE.o (de_ixA rfl (de_v (pv 5)) (DO.d (do_call rfl c_take hG hr (by omega) (by rfl) (dr_bag (pv 0) (dr_cons (de_len rfl T.m_len (de_v (pv 5))) dr_nil)))))))))))))))))), fun as Q h => ?_⟩
  obtain ⟨r, rfl, ⟨p, d, n, rfl, p0, p1, ⟨ps, rfl, hrd, hpl, hps⟩, hn⟩, q⟩ := h
  obtain ⟨z, ys, rfl, hz⟩ := pat_of hrd
  have gp : PartG (.int p) := Pw.part (sm_num p0 p1)
  have gn : PartG n := by
    rcases hn with rfl | ⟨i, rfl, i0, i1⟩
    · exact Pw.part sm_none
    · exact Pw.part (sm_num i0 i1)
  have gd := (part_tup hps (by omega)).1
  have gl := (part_tup hps (by omega)).2
  refine ⟨fun ρ => ρ = [some .bag, some (.d (.tuple [.int p, .tuple (.str z :: ys), n])), some (.d (.int p)), some (.d (.tuple (.str z :: ys))), some (.d n), none], ?_, ?_⟩
  · repeat' (first | refine ix0T ?_ | refine ix1T ?_ | refine ix2T ?_ | refine ix0L ?_ | refine ix1L ?_ | refine ix2L ?_ | refine ⟨_, rfl, ?_⟩ | refine ⟨_, _, rfl, rfl, (by show (_ : Nat) ≤ sizeLine; first | assumption | exact big (DOk.strLen (by assumption)) | exact big (DOk.tupLen (by assumption)) | exact big (DOk.lstLen (by assumption)) | exact big (DOw.strLen (by assumption)) | exact big (DOw.tupLen (by assumption)) | exact big (DOw.lstLen (by assumption)) | exact big (DOz.strLen (by assumption)) | exact big (DOz.tupLen (by assumption)) | exact big (DOz.lstLen (by assumption))), ?_⟩ | refine ⟨_, _, rfl, rfl, (by first | decide | (show (0 : Int) < _; decide)), ?_⟩ | refine ⟨_, _, rfl, rfl, ?_⟩ | refine eqR_str ?_ | refine eqR_int ?_ | refine neR_str ?_ | refine neR_int ?_ | refine And.intro rfl ?_ | refine addL (by first | assumption | (rw [sizeLine_eq]; omega) | (rw [sizeLine_eq]; simp; done) | (rw [sizeLine_eq]; simp only [List.length_append, List.length_cons, List.length_nil]; omega)) ?_ | refine addT (by first | assumption | (rw [sizeLine_eq]; omega) | (rw [sizeLine_eq]; simp; done) | (rw [sizeLine_eq]; simp only [List.length_append, List.length_cons, List.length_nil]; omega)) ?_ | refine And.intro (by assumption) ?_ | refine And.intro (by decide) ?_ | refine ⟨_, _, rfl, ?_⟩ | refine iteT rfl ?_ | refine iteF Bool.false_ne_true ?_)
    refine ⟨⟨_, rfl⟩, rfl, _, _, rfl, _, _, rfl, _, _, rfl, rfl, ?_⟩
    rfl
  rintro _ rfl
  refine ⟨fun ρ => ∃ xs, ρ = envO p (.str z :: ys) n xs ∧ Odds xs 6, ?_, ?_⟩
  · repeat' (first | refine ix0T ?_ | refine ix1T ?_ | refine ix2T ?_ | refine ix0L ?_ | refine ix1L ?_ | refine ix2L ?_ | refine ⟨_, rfl, ?_⟩ | refine ⟨_, _, rfl, rfl, (by show (_ : Nat) ≤ sizeLine; first | assumption | exact big (DOk.strLen (by assumption)) | exact big (DOk.tupLen (by assumption)) | exact big (DOk.lstLen (by assumption)) | exact big (DOw.strLen (by assumption)) | exact big (DOw.tupLen (by assumption)) | exact big (DOw.lstLen (by assumption)) | exact big (DOz.strLen (by assumption)) | exact big (DOz.tupLen (by assumption)) | exact big (DOz.lstLen (by assumption))), ?_⟩ | refine ⟨_, _, rfl, rfl, (by first | decide | (show (0 : Int) < _; decide)), ?_⟩ | refine ⟨_, _, rfl, rfl, ?_⟩ | refine eqR_str ?_ | refine eqR_int ?_ | refine neR_str ?_ | refine neR_int ?_ | refine And.intro rfl ?_ | refine addL (by first | assumption | (rw [sizeLine_eq]; omega) | (rw [sizeLine_eq]; simp; done) | (rw [sizeLine_eq]; simp only [List.length_append, List.length_cons, List.length_nil]; omega)) ?_ | refine addT (by first | assumption | (rw [sizeLine_eq]; omega) | (rw [sizeLine_eq]; simp; done) | (rw [sizeLine_eq]; simp only [List.length_append, List.length_cons, List.length_nil]; omega)) ?_ | refine And.intro (by assumption) ?_ | refine And.intro (by decide) ?_ | refine ⟨_, _, rfl, ?_⟩ | refine iteT rfl ?_ | refine iteF Bool.false_ne_true ?_)
    refine ⟨by simp, by simp, fun d m => ?_⟩
    simp only [List.mem_cons, List.not_mem_nil, or_false] at m
    rcases m with rfl | rfl | rfl | rfl | rfl | rfl
    · exact odd_tup (all3 (Pw.part (pw_of (by decide +kernel))) gd gn) (by simp) (row_no1 rfl)
    · exact odd_tup (all3 (Pw.part (pw_of (by decide +kernel))) gd gn) (by simp) (row_no1 rfl)
    · exact odd_tup (all3 (Pw.part (pw_of (by decide +kernel))) gd gn) (by simp) (row_no1 rfl)
    · exact odd_tup (all3 gp gd (Pw.part (pw_of (by decide +kernel)))) (by simp) (row_no3 rfl)
    · exact odd_lst (all3 gp gd gn) (by show 3 ≤ 4; decide)
    · exact odd_small (by decide +kernel) rfl
  rintro _ ⟨xs, rfl, ox⟩
  rw [frz_envO]
  have hx := ox.2.1
  refine ⟨fun ρ => ∃ xs, ρ = envO p (.str z :: ys) n xs ∧ Odds xs 10, ?_, ?_⟩
  · repeat' (first | refine ix0T ?_ | refine ix1T ?_ | refine ix2T ?_ | refine ix0L ?_ | refine ix1L ?_ | refine ix2L ?_ | refine ⟨_, rfl, ?_⟩ | refine ⟨_, _, rfl, rfl, (by show (_ : Nat) ≤ sizeLine; first | assumption | exact big (DOk.strLen (by assumption)) | exact big (DOk.tupLen (by assumption)) | exact big (DOk.lstLen (by assumption)) | exact big (DOw.strLen (by assumption)) | exact big (DOw.tupLen (by assumption)) | exact big (DOw.lstLen (by assumption)) | exact big (DOz.strLen (by assumption)) | exact big (DOz.tupLen (by assumption)) | exact big (DOz.lstLen (by assumption))), ?_⟩ | refine ⟨_, _, rfl, rfl, (by first | decide | (show (0 : Int) < _; decide)), ?_⟩ | refine ⟨_, _, rfl, rfl, ?_⟩ | refine eqR_str ?_ | refine eqR_int ?_ | refine neR_str ?_ | refine neR_int ?_ | refine And.intro rfl ?_ | refine addL (by first | assumption | (rw [sizeLine_eq]; omega) | (rw [sizeLine_eq]; simp; done) | (rw [sizeLine_eq]; simp only [List.length_append, List.length_cons, List.length_nil]; omega)) ?_ | refine addT (by first | assumption | (rw [sizeLine_eq]; omega) | (rw [sizeLine_eq]; simp; done) | (rw [sizeLine_eq]; simp only [List.length_append, List.length_cons, List.length_nil]; omega)) ?_ | refine And.intro (by assumption) ?_ | refine And.intro (by decide) ?_ | refine ⟨_, _, rfl, ?_⟩ | refine iteT rfl ?_ | refine iteF Bool.false_ne_true ?_)
    refine addL (by rw [sizeLine_eq]; show xs.length + 4 ≤ _; omega) ?_
    repeat' (first | refine ix0T ?_ | refine ix1T ?_ | refine ix2T ?_ | refine ix0L ?_ | refine ix1L ?_ | refine ix2L ?_ | refine ⟨_, rfl, ?_⟩ | refine ⟨_, _, rfl, rfl, (by show (_ : Nat) ≤ sizeLine; first | assumption | exact big (DOk.strLen (by assumption)) | exact big (DOk.tupLen (by assumption)) | exact big (DOk.lstLen (by assumption)) | exact big (DOw.strLen (by assumption)) | exact big (DOw.tupLen (by assumption)) | exact big (DOw.lstLen (by assumption)) | exact big (DOz.strLen (by assumption)) | exact big (DOz.tupLen (by assumption)) | exact big (DOz.lstLen (by assumption))), ?_⟩ | refine ⟨_, _, rfl, rfl, (by first | decide | (show (0 : Int) < _; decide)), ?_⟩ | refine ⟨_, _, rfl, rfl, ?_⟩ | refine eqR_str ?_ | refine eqR_int ?_ | refine neR_str ?_ | refine neR_int ?_ | refine And.intro rfl ?_ | refine addL (by first | assumption | (rw [sizeLine_eq]; omega) | (rw [sizeLine_eq]; simp; done) | (rw [sizeLine_eq]; simp only [List.length_append, List.length_cons, List.length_nil]; omega)) ?_ | refine addT (by first | assumption | (rw [sizeLine_eq]; omega) | (rw [sizeLine_eq]; simp; done) | (rw [sizeLine_eq]; simp only [List.length_append, List.length_cons, List.length_nil]; omega)) ?_ | refine And.intro (by assumption) ?_ | refine And.intro (by decide) ?_ | refine ⟨_, _, rfl, ?_⟩ | refine iteT rfl ?_ | refine iteF Bool.false_ne_true ?_)
    refine odds_add (k := 6) (j := 4) ox (by simp [eraseAll]) (fun d m => ?_)
    have m2 : d ∈ [PyData.tuple [.int p, .tuple (.str z :: ys), .int 100], .tuple [.int p, .tuple (.str z :: ys)], .tuple [.int p, .tuple (.str z :: ys), n, .int 0], .tuple [.int p, .list (eraseAll ((PyData.str z :: ys).map O.dat)), n]] := m
    rw [eraseAll_dat] at m2
    simp only [List.mem_cons, List.not_mem_nil, or_false] at m2
    rcases m2 with rfl | rfl | rfl | rfl
    · exact odd_tup (all3 gp gd (Pw.part (pw_of (by decide +kernel)))) (by show 3 ≤ 4; decide) (row_no3 rfl)
    · exact odd_tup (fun x m => all3 gp gd gn x (by simp at m ⊢; rcases m with h | h <;> simp [h])) (by show 2 ≤ 4; decide) rfl
    · exact odd_tup (all4 gp gd gn (Pw.part (pw_of (by decide +kernel)))) (by show 4 ≤ 4; decide) rfl
    · exact odd_tup (all3 gp gl gn) (by show 3 ≤ 4; decide) (row_no2 rfl)
  rintro _ ⟨xs, rfl, ox⟩
  have hx := ox.2.1
  refine ⟨fun ρ => ∃ xs, ρ = envO p (.str z :: ys) n xs ∧ Odds xs 11, ?_, ?_⟩
  · refine ⟨xs.map .dat, rfl, by rw [List.length_map, sizeLine_eq]; omega, ?_⟩
    repeat' (first | refine ix0T ?_ | refine ix1T ?_ | refine ix2T ?_ | refine ix0L ?_ | refine ix1L ?_ | refine ix2L ?_ | refine ⟨_, rfl, ?_⟩ | refine ⟨_, _, rfl, rfl, (by show (_ : Nat) ≤ sizeLine; first | assumption | exact big (DOk.strLen (by assumption)) | exact big (DOk.tupLen (by assumption)) | exact big (DOk.lstLen (by assumption)) | exact big (DOw.strLen (by assumption)) | exact big (DOw.tupLen (by assumption)) | exact big (DOw.lstLen (by assumption)) | exact big (DOz.strLen (by assumption)) | exact big (DOz.tupLen (by assumption)) | exact big (DOz.lstLen (by assumption))), ?_⟩ | refine ⟨_, _, rfl, rfl, (by first | decide | (show (0 : Int) < _; decide)), ?_⟩ | refine ⟨_, _, rfl, rfl, ?_⟩ | refine eqR_str ?_ | refine eqR_int ?_ | refine neR_str ?_ | refine neR_int ?_ | refine And.intro rfl ?_ | refine addL (by first | assumption | (rw [sizeLine_eq]; omega) | (rw [sizeLine_eq]; simp; done) | (rw [sizeLine_eq]; simp only [List.length_append, List.length_cons, List.length_nil]; omega)) ?_ | refine addT (by first | assumption | (rw [sizeLine_eq]; omega) | (rw [sizeLine_eq]; simp; done) | (rw [sizeLine_eq]; simp only [List.length_append, List.length_cons, List.length_nil]; omega)) ?_ | refine And.intro (by assumption) ?_ | refine And.intro (by decide) ?_ | refine ⟨_, _, rfl, ?_⟩ | refine iteT rfl ?_ | refine iteF Bool.false_ne_true ?_)
    refine ⟨xs ++ [.tuple [.none, .tuple (.str z :: ys), .int 0]], ?_, odds_add (k := 10) (j := 1) ox (by simp) fun d m => ?_⟩
    · unfold envO
      rw [List.map_append]
      rfl
    · rw [List.mem_singleton.mp m]
      exact odd_tup (all3 (Pw.part sm_none) gd (Pw.part (pw_of (by decide +kernel)))) (by show 3 ≤ 4; decide) (row_no1 rfl)
  rintro _ ⟨xs, rfl, ox⟩
  have hx := ox.2.1
  rw [frz_envO]
  have hz1 : Pw (.str z) := hps _ (by simp)
  have hys : ∀ x ∈ ys, Pw x := fun x m => hps x (by simp [m])
  have g0 : PartG (.int 0) := Pw.part (pw_of (by decide +kernel))
  have gt : ∀ {w : PyData} {l : List PyData}, Pw w → (∀ x ∈ l, Pw x) → l.length ≤ 4 → PartG (.tuple (w :: l)) := fun h k hl => (part_tup (fun x m => by
    rcases List.mem_cons.mp m with rfl | m
    · exact h
    · exact k x m) (by rw [List.length_cons]; omega)).1
  have hy : ys.length = 2 ∨ ys.length = 3 := by
    rcases hz with ⟨_, h⟩ | ⟨_, h⟩ | ⟨_, h⟩
    · exact .inl h
    · exact .inr h
    · exact .inl h
  have cut2 : cutD (.str z :: ys) none (some 2) = .str z :: ys.take 1 := by
    rcases hy with h | h
    · match ys, h with
      | [a, b], _ => rfl
    · match ys, h with
      | [a, b, c], _ => rfl
  refine ⟨fun ρ => ∃ xs, ρ = envO p (.str z :: ys) n xs ∧ Odds xs 14, ?_, ?_⟩
  · repeat' (first | refine ix0T ?_ | refine ix1T ?_ | refine ix2T ?_ | refine ix0L ?_ | refine ix1L ?_ | refine ix2L ?_ | refine ⟨_, rfl, ?_⟩ | refine ⟨_, _, rfl, rfl, (by show (_ : Nat) ≤ sizeLine; first | assumption | exact big (DOk.strLen (by assumption)) | exact big (DOk.tupLen (by assumption)) | exact big (DOk.lstLen (by assumption)) | exact big (DOw.strLen (by assumption)) | exact big (DOw.tupLen (by assumption)) | exact big (DOw.lstLen (by assumption)) | exact big (DOz.strLen (by assumption)) | exact big (DOz.tupLen (by assumption)) | exact big (DOz.lstLen (by assumption))), ?_⟩ | refine ⟨_, _, rfl, rfl, (by first | decide | (show (0 : Int) < _; decide)), ?_⟩ | refine ⟨_, _, rfl, rfl, ?_⟩ | refine eqR_str ?_ | refine eqR_int ?_ | refine neR_str ?_ | refine neR_int ?_ | refine And.intro rfl ?_ | refine addL (by first | assumption | (rw [sizeLine_eq]; omega) | (rw [sizeLine_eq]; simp; done) | (rw [sizeLine_eq]; simp only [List.length_append, List.length_cons, List.length_nil]; omega)) ?_ | refine addT (by first | assumption | (rw [sizeLine_eq]; omega) | (rw [sizeLine_eq]; simp; done) | (rw [sizeLine_eq]; simp only [List.length_append, List.length_cons, List.length_nil]; omega)) ?_ | refine And.intro (by assumption) ?_ | refine And.intro (by decide) ?_ | refine ⟨_, _, rfl, ?_⟩ | refine iteT rfl ?_ | refine iteF Bool.false_ne_true ?_)
    rw [cut1]
    refine addT (ds := [.str "look"]) (es := ys) (by rw [sizeLine_eq]; show 1 + ys.length ≤ _; omega) ?_
    repeat' (first | refine ix0T ?_ | refine ix1T ?_ | refine ix2T ?_ | refine ix0L ?_ | refine ix1L ?_ | refine ix2L ?_ | refine ⟨_, rfl, ?_⟩ | refine ⟨_, _, rfl, rfl, (by show (_ : Nat) ≤ sizeLine; first | assumption | exact big (DOk.strLen (by assumption)) | exact big (DOk.tupLen (by assumption)) | exact big (DOk.lstLen (by assumption)) | exact big (DOw.strLen (by assumption)) | exact big (DOw.tupLen (by assumption)) | exact big (DOw.lstLen (by assumption)) | exact big (DOz.strLen (by assumption)) | exact big (DOz.tupLen (by assumption)) | exact big (DOz.lstLen (by assumption))), ?_⟩ | refine ⟨_, _, rfl, rfl, (by first | decide | (show (0 : Int) < _; decide)), ?_⟩ | refine ⟨_, _, rfl, rfl, ?_⟩ | refine eqR_str ?_ | refine eqR_int ?_ | refine neR_str ?_ | refine neR_int ?_ | refine And.intro rfl ?_ | refine addL (by first | assumption | (rw [sizeLine_eq]; omega) | (rw [sizeLine_eq]; simp; done) | (rw [sizeLine_eq]; simp only [List.length_append, List.length_cons, List.length_nil]; omega)) ?_ | refine addT (by first | assumption | (rw [sizeLine_eq]; omega) | (rw [sizeLine_eq]; simp; done) | (rw [sizeLine_eq]; simp only [List.length_append, List.length_cons, List.length_nil]; omega)) ?_ | refine And.intro (by assumption) ?_ | refine And.intro (by decide) ?_ | refine ⟨_, _, rfl, ?_⟩ | refine iteT rfl ?_ | refine iteF Bool.false_ne_true ?_)
    refine addL (by rw [sizeLine_eq]; show xs.length + 3 ≤ _; omega) ?_
    repeat' (first | refine ix0T ?_ | refine ix1T ?_ | refine ix2T ?_ | refine ix0L ?_ | refine ix1L ?_ | refine ix2L ?_ | refine ⟨_, rfl, ?_⟩ | refine ⟨_, _, rfl, rfl, (by show (_ : Nat) ≤ sizeLine; first | assumption | exact big (DOk.strLen (by assumption)) | exact big (DOk.tupLen (by assumption)) | exact big (DOk.lstLen (by assumption)) | exact big (DOw.strLen (by assumption)) | exact big (DOw.tupLen (by assumption)) | exact big (DOw.lstLen (by assumption)) | exact big (DOz.strLen (by assumption)) | exact big (DOz.tupLen (by assumption)) | exact big (DOz.lstLen (by assumption))), ?_⟩ | refine ⟨_, _, rfl, rfl, (by first | decide | (show (0 : Int) < _; decide)), ?_⟩ | refine ⟨_, _, rfl, rfl, ?_⟩ | refine eqR_str ?_ | refine eqR_int ?_ | refine neR_str ?_ | refine neR_int ?_ | refine And.intro rfl ?_ | refine addL (by first | assumption | (rw [sizeLine_eq]; omega) | (rw [sizeLine_eq]; simp; done) | (rw [sizeLine_eq]; simp only [List.length_append, List.length_cons, List.length_nil]; omega)) ?_ | refine addT (by first | assumption | (rw [sizeLine_eq]; omega) | (rw [sizeLine_eq]; simp; done) | (rw [sizeLine_eq]; simp only [List.length_append, List.length_cons, List.length_nil]; omega)) ?_ | refine And.intro (by assumption) ?_ | refine And.intro (by decide) ?_ | refine ⟨_, _, rfl, ?_⟩ | refine iteT rfl ?_ | refine iteF Bool.false_ne_true ?_)
    refine odds_add (k := 11) (j := 3) ox (by simp [eraseAll]) (fun d m => ?_)
    have m2 : d ∈ [PyData.tuple [.int p, .tuple (cutD (.str z :: ys) none (some 2)), n], .tuple [.int p, .tuple (.str z :: (ys ++ [.int 0])), n], .tuple [.int p, .tuple (.str "look" :: ys), n]] := m
    rw [cut2] at m2
    simp only [List.mem_cons, List.not_mem_nil, or_false] at m2
    rcases m2 with rfl | rfl | rfl
    · exact odd_tup (all3 gp (gt hz1 (fun x m => hys x (List.mem_of_mem_take m)) (by rw [List.length_take]; omega)) gn) (by show 3 ≤ 4; decide) (row_no2 (read_few hrd (by rw [List.length_take]; omega)))
    · exact odd_tup (all3 gp (gt hz1 (fun x m => by
        rcases List.mem_append.mp m with m | m
        · exact hys x m
        · rw [List.mem_singleton.mp m]
          exact pw_of (by decide +kernel)) (by rw [List.length_append, List.length_singleton]; omega)) gn) (by show 3 ≤ 4; decide) (row_no2 (read_few hrd (by rw [List.length_append, List.length_singleton]; omega)))
    · exact odd_tup (all3 gp (gt (pw_of (by decide +kernel)) hys (by omega)) gn) (by show 3 ≤ 4; decide) (row_no2 rfl)
  rintro _ ⟨xs, rfl, ox⟩
  have hx := ox.2.1
  rw [frz_envO]
  refine ⟨fun ρ => ∃ xs, ρ = envO p (.str z :: ys) n xs ∧ Odds xs 17, ?_, ?_⟩
  · repeat' (first | refine ix0T ?_ | refine ix1T ?_ | refine ix2T ?_ | refine ix0L ?_ | refine ix1L ?_ | refine ix2L ?_ | refine ⟨_, rfl, ?_⟩ | refine ⟨_, _, rfl, rfl, (by show (_ : Nat) ≤ sizeLine; first | assumption | exact big (DOk.strLen (by assumption)) | exact big (DOk.tupLen (by assumption)) | exact big (DOk.lstLen (by assumption)) | exact big (DOw.strLen (by assumption)) | exact big (DOw.tupLen (by assumption)) | exact big (DOw.lstLen (by assumption)) | exact big (DOz.strLen (by assumption)) | exact big (DOz.tupLen (by assumption)) | exact big (DOz.lstLen (by assumption))), ?_⟩ | refine ⟨_, _, rfl, rfl, (by first | decide | (show (0 : Int) < _; decide)), ?_⟩ | refine ⟨_, _, rfl, rfl, ?_⟩ | refine eqR_str ?_ | refine eqR_int ?_ | refine neR_str ?_ | refine neR_int ?_ | refine And.intro rfl ?_ | refine addL (by first | assumption | (rw [sizeLine_eq]; omega) | (rw [sizeLine_eq]; simp; done) | (rw [sizeLine_eq]; simp only [List.length_append, List.length_cons, List.length_nil]; omega)) ?_ | refine addT (by first | assumption | (rw [sizeLine_eq]; omega) | (rw [sizeLine_eq]; simp; done) | (rw [sizeLine_eq]; simp only [List.length_append, List.length_cons, List.length_nil]; omega)) ?_ | refine And.intro (by assumption) ?_ | refine And.intro (by decide) ?_ | refine ⟨_, _, rfl, ?_⟩ | refine iteT rfl ?_ | refine iteF Bool.false_ne_true ?_)
    rw [cut1]
    refine addT (ds := [.none]) (es := ys) (by rw [sizeLine_eq]; show 1 + ys.length ≤ _; omega) ?_
    repeat' (first | refine ix0T ?_ | refine ix1T ?_ | refine ix2T ?_ | refine ix0L ?_ | refine ix1L ?_ | refine ix2L ?_ | refine ⟨_, rfl, ?_⟩ | refine ⟨_, _, rfl, rfl, (by show (_ : Nat) ≤ sizeLine; first | assumption | exact big (DOk.strLen (by assumption)) | exact big (DOk.tupLen (by assumption)) | exact big (DOk.lstLen (by assumption)) | exact big (DOw.strLen (by assumption)) | exact big (DOw.tupLen (by assumption)) | exact big (DOw.lstLen (by assumption)) | exact big (DOz.strLen (by assumption)) | exact big (DOz.tupLen (by assumption)) | exact big (DOz.lstLen (by assumption))), ?_⟩ | refine ⟨_, _, rfl, rfl, (by first | decide | (show (0 : Int) < _; decide)), ?_⟩ | refine ⟨_, _, rfl, rfl, ?_⟩ | refine eqR_str ?_ | refine eqR_int ?_ | refine neR_str ?_ | refine neR_int ?_ | refine And.intro rfl ?_ | refine addL (by first | assumption | (rw [sizeLine_eq]; omega) | (rw [sizeLine_eq]; simp; done) | (rw [sizeLine_eq]; simp only [List.length_append, List.length_cons, List.length_nil]; omega)) ?_ | refine addT (by first | assumption | (rw [sizeLine_eq]; omega) | (rw [sizeLine_eq]; simp; done) | (rw [sizeLine_eq]; simp only [List.length_append, List.length_cons, List.length_nil]; omega)) ?_ | refine And.intro (by assumption) ?_ | refine And.intro (by decide) ?_ | refine ⟨_, _, rfl, ?_⟩ | refine iteT rfl ?_ | refine iteF Bool.false_ne_true ?_)
    refine addL (by rw [sizeLine_eq]; show xs.length + 3 ≤ _; omega) ?_
    repeat' (first | refine ix0T ?_ | refine ix1T ?_ | refine ix2T ?_ | refine ix0L ?_ | refine ix1L ?_ | refine ix2L ?_ | refine ⟨_, rfl, ?_⟩ | refine ⟨_, _, rfl, rfl, (by show (_ : Nat) ≤ sizeLine; first | assumption | exact big (DOk.strLen (by assumption)) | exact big (DOk.tupLen (by assumption)) | exact big (DOk.lstLen (by assumption)) | exact big (DOw.strLen (by assumption)) | exact big (DOw.tupLen (by assumption)) | exact big (DOw.lstLen (by assumption)) | exact big (DOz.strLen (by assumption)) | exact big (DOz.tupLen (by assumption)) | exact big (DOz.lstLen (by assumption))), ?_⟩ | refine ⟨_, _, rfl, rfl, (by first | decide | (show (0 : Int) < _; decide)), ?_⟩ | refine ⟨_, _, rfl, rfl, ?_⟩ | refine eqR_str ?_ | refine eqR_int ?_ | refine neR_str ?_ | refine neR_int ?_ | refine And.intro rfl ?_ | refine addL (by first | assumption | (rw [sizeLine_eq]; omega) | (rw [sizeLine_eq]; simp; done) | (rw [sizeLine_eq]; simp only [List.length_append, List.length_cons, List.length_nil]; omega)) ?_ | refine addT (by first | assumption | (rw [sizeLine_eq]; omega) | (rw [sizeLine_eq]; simp; done) | (rw [sizeLine_eq]; simp only [List.length_append, List.length_cons, List.length_nil]; omega)) ?_ | refine And.intro (by assumption) ?_ | refine And.intro (by decide) ?_ | refine ⟨_, _, rfl, ?_⟩ | refine iteT rfl ?_ | refine iteF Bool.false_ne_true ?_)
    refine odds_add (k := 14) (j := 3) ox (by simp [eraseAll]) (fun d m => ?_)
    have m2 : d ∈ [PyData.tuple [.int p, .tuple (.none :: ys), n], .tuple [.int p, .tuple [.str "root", .str "A", .int 0], n], .tuple [.int p, .tuple [.str "mark", .int 0, .int 4], .int 0]] := m
    simp only [List.mem_cons, List.not_mem_nil, or_false] at m2
    rcases m2 with rfl | rfl | rfl
    · exact odd_tup (all3 gp (gt pw_none hys (by omega)) gn) (by show 3 ≤ 4; decide) (row_no2 rfl)
    · exact odd_tup (all3 gp (part_tup (pws_of (by decide +kernel)) (by show 3 ≤ 5; decide)).1 gn) (by show 3 ≤ 4; decide) (row_no2 (by decide +kernel))
    · exact odd_tup (all3 gp (part_tup (pws_of (by decide +kernel)) (by show 3 ≤ 5; decide)).1 g0) (by show 3 ≤ 4; decide) (row_no2 (by decide +kernel))
  rintro _ ⟨xs, rfl, ox⟩
  have hx := ox.2.1
  rw [frz_envO]
  refine ⟨fun ρ => ∃ xs, ρ = envO p (.str z :: ys) n xs ∧ Odds xs 22, ?_, ?_⟩
  · repeat' (first | refine ix0T ?_ | refine ix1T ?_ | refine ix2T ?_ | refine ix0L ?_ | refine ix1L ?_ | refine ix2L ?_ | refine ⟨_, rfl, ?_⟩ | refine ⟨_, _, rfl, rfl, (by show (_ : Nat) ≤ sizeLine; first | assumption | exact big (DOk.strLen (by assumption)) | exact big (DOk.tupLen (by assumption)) | exact big (DOk.lstLen (by assumption)) | exact big (DOw.strLen (by assumption)) | exact big (DOw.tupLen (by assumption)) | exact big (DOw.lstLen (by assumption)) | exact big (DOz.strLen (by assumption)) | exact big (DOz.tupLen (by assumption)) | exact big (DOz.lstLen (by assumption))), ?_⟩ | refine ⟨_, _, rfl, rfl, (by first | decide | (show (0 : Int) < _; decide)), ?_⟩ | refine ⟨_, _, rfl, rfl, ?_⟩ | refine eqR_str ?_ | refine eqR_int ?_ | refine neR_str ?_ | refine neR_int ?_ | refine And.intro rfl ?_ | refine addL (by first | assumption | (rw [sizeLine_eq]; omega) | (rw [sizeLine_eq]; simp; done) | (rw [sizeLine_eq]; simp only [List.length_append, List.length_cons, List.length_nil]; omega)) ?_ | refine addT (by first | assumption | (rw [sizeLine_eq]; omega) | (rw [sizeLine_eq]; simp; done) | (rw [sizeLine_eq]; simp only [List.length_append, List.length_cons, List.length_nil]; omega)) ?_ | refine And.intro (by assumption) ?_ | refine And.intro (by decide) ?_ | refine ⟨_, _, rfl, ?_⟩ | refine iteT rfl ?_ | refine iteF Bool.false_ne_true ?_)
    refine addL (by rw [sizeLine_eq]; show xs.length + 5 ≤ _; omega) ?_
    repeat' (first | refine ix0T ?_ | refine ix1T ?_ | refine ix2T ?_ | refine ix0L ?_ | refine ix1L ?_ | refine ix2L ?_ | refine ⟨_, rfl, ?_⟩ | refine ⟨_, _, rfl, rfl, (by show (_ : Nat) ≤ sizeLine; first | assumption | exact big (DOk.strLen (by assumption)) | exact big (DOk.tupLen (by assumption)) | exact big (DOk.lstLen (by assumption)) | exact big (DOw.strLen (by assumption)) | exact big (DOw.tupLen (by assumption)) | exact big (DOw.lstLen (by assumption)) | exact big (DOz.strLen (by assumption)) | exact big (DOz.tupLen (by assumption)) | exact big (DOz.lstLen (by assumption))), ?_⟩ | refine ⟨_, _, rfl, rfl, (by first | decide | (show (0 : Int) < _; decide)), ?_⟩ | refine ⟨_, _, rfl, rfl, ?_⟩ | refine eqR_str ?_ | refine eqR_int ?_ | refine neR_str ?_ | refine neR_int ?_ | refine And.intro rfl ?_ | refine addL (by first | assumption | (rw [sizeLine_eq]; omega) | (rw [sizeLine_eq]; simp; done) | (rw [sizeLine_eq]; simp only [List.length_append, List.length_cons, List.length_nil]; omega)) ?_ | refine addT (by first | assumption | (rw [sizeLine_eq]; omega) | (rw [sizeLine_eq]; simp; done) | (rw [sizeLine_eq]; simp only [List.length_append, List.length_cons, List.length_nil]; omega)) ?_ | refine And.intro (by assumption) ?_ | refine And.intro (by decide) ?_ | refine ⟨_, _, rfl, ?_⟩ | refine iteT rfl ?_ | refine iteF Bool.false_ne_true ?_)
    refine odds_add (k := 17) (j := 5) ox (by simp [eraseAll]) (fun d m => ?_)
    have m2 : d ∈ [PyData.tuple [.int p, .tuple [.str "mark", .int (-1), .int 0], .int 0], .tuple [.int p, .tuple [.str "root", .str "a", .int (-2)], .int 0], .tuple [.int p, .tuple [.str "field", .int 0, .int 5, .int 0], .int 0], .int 5, .str "row"] := m
    simp only [List.mem_cons, List.not_mem_nil, or_false] at m2
    rcases m2 with rfl | rfl | rfl | rfl | rfl
    · exact odd_tup (all3 gp (part_tup (pws_of (by decide +kernel)) (by show 3 ≤ 5; decide)).1 g0) (by show 3 ≤ 4; decide) (row_no2 (by decide +kernel))
    · exact odd_tup (all3 gp (part_tup (pws_of (by decide +kernel)) (by show 3 ≤ 5; decide)).1 g0) (by show 3 ≤ 4; decide) (row_no2 (by decide +kernel))
    · exact odd_tup (all3 gp (part_tup (pws_of (by decide +kernel)) (by show 4 ≤ 5; decide)).1 g0) (by show 3 ≤ 4; decide) (row_no2 (by decide +kernel))
    · exact odd_small (by decide +kernel) rfl
    · exact odd_small (by decide +kernel) rfl
  rintro _ ⟨xs, rfl, ox⟩
  have hx := ox.2.1
  rw [frz_envO]
  refine ⟨fun ρ => ∃ xs, ρ = envO p (.str z :: ys) n xs ∧ Odds xs 25, ?_, ?_⟩
  · repeat' (first | refine ix0T ?_ | refine ix1T ?_ | refine ix2T ?_ | refine ix0L ?_ | refine ix1L ?_ | refine ix2L ?_ | refine ⟨_, rfl, ?_⟩ | refine ⟨_, _, rfl, rfl, (by show (_ : Nat) ≤ sizeLine; first | assumption | exact big (DOk.strLen (by assumption)) | exact big (DOk.tupLen (by assumption)) | exact big (DOk.lstLen (by assumption)) | exact big (DOw.strLen (by assumption)) | exact big (DOw.tupLen (by assumption)) | exact big (DOw.lstLen (by assumption)) | exact big (DOz.strLen (by assumption)) | exact big (DOz.tupLen (by assumption)) | exact big (DOz.lstLen (by assumption))), ?_⟩ | refine ⟨_, _, rfl, rfl, (by first | decide | (show (0 : Int) < _; decide)), ?_⟩ | refine ⟨_, _, rfl, rfl, ?_⟩ | refine eqR_str ?_ | refine eqR_int ?_ | refine neR_str ?_ | refine neR_int ?_ | refine And.intro rfl ?_ | refine addL (by first | assumption | (rw [sizeLine_eq]; omega) | (rw [sizeLine_eq]; simp; done) | (rw [sizeLine_eq]; simp only [List.length_append, List.length_cons, List.length_nil]; omega)) ?_ | refine addT (by first | assumption | (rw [sizeLine_eq]; omega) | (rw [sizeLine_eq]; simp; done) | (rw [sizeLine_eq]; simp only [List.length_append, List.length_cons, List.length_nil]; omega)) ?_ | refine And.intro (by assumption) ?_ | refine And.intro (by decide) ?_ | refine ⟨_, _, rfl, ?_⟩ | refine iteT rfl ?_ | refine iteF Bool.false_ne_true ?_)
    refine addL (by rw [sizeLine_eq]; show xs.length + 3 ≤ _; omega) ?_
    repeat' (first | refine ix0T ?_ | refine ix1T ?_ | refine ix2T ?_ | refine ix0L ?_ | refine ix1L ?_ | refine ix2L ?_ | refine ⟨_, rfl, ?_⟩ | refine ⟨_, _, rfl, rfl, (by show (_ : Nat) ≤ sizeLine; first | assumption | exact big (DOk.strLen (by assumption)) | exact big (DOk.tupLen (by assumption)) | exact big (DOk.lstLen (by assumption)) | exact big (DOw.strLen (by assumption)) | exact big (DOw.tupLen (by assumption)) | exact big (DOw.lstLen (by assumption)) | exact big (DOz.strLen (by assumption)) | exact big (DOz.tupLen (by assumption)) | exact big (DOz.lstLen (by assumption))), ?_⟩ | refine ⟨_, _, rfl, rfl, (by first | decide | (show (0 : Int) < _; decide)), ?_⟩ | refine ⟨_, _, rfl, rfl, ?_⟩ | refine eqR_str ?_ | refine eqR_int ?_ | refine neR_str ?_ | refine neR_int ?_ | refine And.intro rfl ?_ | refine addL (by first | assumption | (rw [sizeLine_eq]; omega) | (rw [sizeLine_eq]; simp; done) | (rw [sizeLine_eq]; simp only [List.length_append, List.length_cons, List.length_nil]; omega)) ?_ | refine addT (by first | assumption | (rw [sizeLine_eq]; omega) | (rw [sizeLine_eq]; simp; done) | (rw [sizeLine_eq]; simp only [List.length_append, List.length_cons, List.length_nil]; omega)) ?_ | refine And.intro (by assumption) ?_ | refine And.intro (by decide) ?_ | refine ⟨_, _, rfl, ?_⟩ | refine iteT rfl ?_ | refine iteF Bool.false_ne_true ?_)
    refine odds_add (k := 22) (j := 3) ox (by simp [eraseAll]) (fun d m => ?_)
    have m2 : d ∈ [PyData.tuple [.int p, .tuple [.str "root", .list [.str "a"], .int 0], .int 0], .tuple [.int p, .tuple [.str "mark", .list [.int 0], .int 0], .int 0], .tuple [.int p, .tuple [.str "field", .int 0, .list [.str "a"], .int 0], .int 0]] := m
    simp only [List.mem_cons, List.not_mem_nil, or_false] at m2
    rcases m2 with rfl | rfl | rfl
    · exact odd_tup (all3 gp (part_tup (pws_of (by decide +kernel)) (by show 3 ≤ 5; decide)).1 g0) (by show 3 ≤ 4; decide) (row_no2 (by decide +kernel))
    · exact odd_tup (all3 gp (part_tup (pws_of (by decide +kernel)) (by show 3 ≤ 5; decide)).1 g0) (by show 3 ≤ 4; decide) (row_no2 (by decide +kernel))
    · exact odd_tup (all3 gp (part_tup (pws_of (by decide +kernel)) (by show 4 ≤ 5; decide)).1 g0) (by show 3 ≤ 4; decide) (row_no2 (by decide +kernel))
  rintro _ ⟨xs, rfl, ox⟩
  have hx := ox.2.1
  rw [frz_envO]
  refine ⟨fun ρ => ∃ xs, ρ = envO p (.str z :: ys) n xs ∧ Odds xs 29, ?_, ?_⟩
  · repeat' (first | refine ix0T ?_ | refine ix1T ?_ | refine ix2T ?_ | refine ix0L ?_ | refine ix1L ?_ | refine ix2L ?_ | refine ⟨_, rfl, ?_⟩ | refine ⟨_, _, rfl, rfl, (by show (_ : Nat) ≤ sizeLine; first | assumption | exact big (DOk.strLen (by assumption)) | exact big (DOk.tupLen (by assumption)) | exact big (DOk.lstLen (by assumption)) | exact big (DOw.strLen (by assumption)) | exact big (DOw.tupLen (by assumption)) | exact big (DOw.lstLen (by assumption)) | exact big (DOz.strLen (by assumption)) | exact big (DOz.tupLen (by assumption)) | exact big (DOz.lstLen (by assumption))), ?_⟩ | refine ⟨_, _, rfl, rfl, (by first | decide | (show (0 : Int) < _; decide)), ?_⟩ | refine ⟨_, _, rfl, rfl, ?_⟩ | refine eqR_str ?_ | refine eqR_int ?_ | refine neR_str ?_ | refine neR_int ?_ | refine And.intro rfl ?_ | refine addL (by first | assumption | (rw [sizeLine_eq]; omega) | (rw [sizeLine_eq]; simp; done) | (rw [sizeLine_eq]; simp only [List.length_append, List.length_cons, List.length_nil]; omega)) ?_ | refine addT (by first | assumption | (rw [sizeLine_eq]; omega) | (rw [sizeLine_eq]; simp; done) | (rw [sizeLine_eq]; simp only [List.length_append, List.length_cons, List.length_nil]; omega)) ?_ | refine And.intro (by assumption) ?_ | refine And.intro (by decide) ?_ | refine ⟨_, _, rfl, ?_⟩ | refine iteT rfl ?_ | refine iteF Bool.false_ne_true ?_)
    refine addL (by rw [sizeLine_eq]; show xs.length + 4 ≤ _; omega) ?_
    repeat' (first | refine ix0T ?_ | refine ix1T ?_ | refine ix2T ?_ | refine ix0L ?_ | refine ix1L ?_ | refine ix2L ?_ | refine ⟨_, rfl, ?_⟩ | refine ⟨_, _, rfl, rfl, (by show (_ : Nat) ≤ sizeLine; first | assumption | exact big (DOk.strLen (by assumption)) | exact big (DOk.tupLen (by assumption)) | exact big (DOk.lstLen (by assumption)) | exact big (DOw.strLen (by assumption)) | exact big (DOw.tupLen (by assumption)) | exact big (DOw.lstLen (by assumption)) | exact big (DOz.strLen (by assumption)) | exact big (DOz.tupLen (by assumption)) | exact big (DOz.lstLen (by assumption))), ?_⟩ | refine ⟨_, _, rfl, rfl, (by first | decide | (show (0 : Int) < _; decide)), ?_⟩ | refine ⟨_, _, rfl, rfl, ?_⟩ | refine eqR_str ?_ | refine eqR_int ?_ | refine neR_str ?_ | refine neR_int ?_ | refine And.intro rfl ?_ | refine addL (by first | assumption | (rw [sizeLine_eq]; omega) | (rw [sizeLine_eq]; simp; done) | (rw [sizeLine_eq]; simp only [List.length_append, List.length_cons, List.length_nil]; omega)) ?_ | refine addT (by first | assumption | (rw [sizeLine_eq]; omega) | (rw [sizeLine_eq]; simp; done) | (rw [sizeLine_eq]; simp only [List.length_append, List.length_cons, List.length_nil]; omega)) ?_ | refine And.intro (by assumption) ?_ | refine And.intro (by decide) ?_ | refine ⟨_, _, rfl, ?_⟩ | refine iteT rfl ?_ | refine iteF Bool.false_ne_true ?_)
    refine odds_add (k := 25) (j := 4) ox (by simp [eraseAll]) (fun d m => ?_)
    have m2 : d ∈ [PyData.tuple [.int p, .tuple [.str "mark", .bool true, .int 0], .int 0], .tuple [.int p, .tuple [.str "root", .none, .bool false], .int 0], .tuple [.int p, .tuple [], .int 0], .tuple [.int p, .none, .int 0]] := m
    simp only [List.mem_cons, List.not_mem_nil, or_false] at m2
    rcases m2 with rfl | rfl | rfl | rfl
    · exact odd_tup (all3 gp (part_tup (pws_of (by decide +kernel)) (by show 3 ≤ 5; decide)).1 g0) (by show 3 ≤ 4; decide) (row_no2 (by decide +kernel))
    · exact odd_tup (all3 gp (part_tup (pws_of (by decide +kernel)) (by show 3 ≤ 5; decide)).1 g0) (by show 3 ≤ 4; decide) (row_no2 (by decide +kernel))
    · exact odd_tup (all3 gp (Pw.part (pw_of (by decide +kernel))) g0) (by show 3 ≤ 4; decide) (row_no2 rfl)
    · exact odd_tup (all3 gp (Pw.part sm_none) g0) (by show 3 ≤ 4; decide) (row_no2 rfl)
  rintro _ ⟨xs, rfl, ox⟩
  have hx := ox.2.1
  have hx0 := ox.1
  rw [frz_envO]
  repeat' (first | refine ix0T ?_ | refine ix1T ?_ | refine ix2T ?_ | refine ix0L ?_ | refine ix1L ?_ | refine ix2L ?_ | refine ⟨_, rfl, ?_⟩ | refine ⟨_, _, rfl, rfl, (by show (_ : Nat) ≤ sizeLine; first | assumption | exact big (DOk.strLen (by assumption)) | exact big (DOk.tupLen (by assumption)) | exact big (DOk.lstLen (by assumption)) | exact big (DOw.strLen (by assumption)) | exact big (DOw.tupLen (by assumption)) | exact big (DOw.lstLen (by assumption)) | exact big (DOz.strLen (by assumption)) | exact big (DOz.tupLen (by assumption)) | exact big (DOz.lstLen (by assumption))), ?_⟩ | refine ⟨_, _, rfl, rfl, (by first | decide | (show (0 : Int) < _; decide)), ?_⟩ | refine ⟨_, _, rfl, rfl, ?_⟩ | refine eqR_str ?_ | refine eqR_int ?_ | refine neR_str ?_ | refine neR_int ?_ | refine And.intro rfl ?_ | refine addL (by first | assumption | (rw [sizeLine_eq]; omega) | (rw [sizeLine_eq]; simp; done) | (rw [sizeLine_eq]; simp only [List.length_append, List.length_cons, List.length_nil]; omega)) ?_ | refine addT (by first | assumption | (rw [sizeLine_eq]; omega) | (rw [sizeLine_eq]; simp; done) | (rw [sizeLine_eq]; simp only [List.length_append, List.length_cons, List.length_nil]; omega)) ?_ | refine And.intro (by assumption) ?_ | refine And.intro (by decide) ?_ | refine ⟨_, _, rfl, ?_⟩ | refine iteT rfl ?_ | refine iteF Bool.false_ne_true ?_)
  refine ⟨by rw [sizeLine_eq]; omega, ?_⟩
  repeat' (first | refine ix0T ?_ | refine ix1T ?_ | refine ix2T ?_ | refine ix0L ?_ | refine ix1L ?_ | refine ix2L ?_ | refine ⟨_, rfl, ?_⟩ | refine ⟨_, _, rfl, rfl, (by show (_ : Nat) ≤ sizeLine; first | assumption | exact big (DOk.strLen (by assumption)) | exact big (DOk.tupLen (by assumption)) | exact big (DOk.lstLen (by assumption)) | exact big (DOw.strLen (by assumption)) | exact big (DOw.tupLen (by assumption)) | exact big (DOw.lstLen (by assumption)) | exact big (DOz.strLen (by assumption)) | exact big (DOz.tupLen (by assumption)) | exact big (DOz.lstLen (by assumption))), ?_⟩ | refine ⟨_, _, rfl, rfl, (by first | decide | (show (0 : Int) < _; decide)), ?_⟩ | refine ⟨_, _, rfl, rfl, ?_⟩ | refine eqR_str ?_ | refine eqR_int ?_ | refine neR_str ?_ | refine neR_int ?_ | refine And.intro rfl ?_ | refine addL (by first | assumption | (rw [sizeLine_eq]; omega) | (rw [sizeLine_eq]; simp; done) | (rw [sizeLine_eq]; simp only [List.length_append, List.length_cons, List.length_nil]; omega)) ?_ | refine addT (by first | assumption | (rw [sizeLine_eq]; omega) | (rw [sizeLine_eq]; simp; done) | (rw [sizeLine_eq]; simp only [List.length_append, List.length_cons, List.length_nil]; omega)) ?_ | refine And.intro (by assumption) ?_ | refine And.intro (by decide) ?_ | refine ⟨_, _, rfl, ?_⟩ | refine iteT rfl ?_ | refine iteF Bool.false_ne_true ?_)
  refine ⟨by omega, by omega, fun r h0 h1 => ?_⟩
  exact ixMem h0 h1 fun d m => q d (ox.2.2 d m)
end
end K58
set_option Elab.async false
set_option linter.all false
set_option maxRecDepth 100000
set_option maxHeartbeats 1000000
set_option pp.maxSteps 500
/-! K58p: lists of rows -/
namespace K58
open PySem PySem.Spec PyProof.Rows L2 GL DL
theorem rowg_ok {r : PyData} (h : RowG r) : (DOw r ∧ r.weight ≤ 9000 ∧ r.depth ≤ 6) ∧ rowP r = true := by
  obtain ⟨p, d, n, rfl, p0, p1, ⟨ps, rfl, hrd, hpl, hps⟩, hn⟩ := h
  have gn : PartG n := by
    rcases hn with rfl | ⟨i, rfl, i0, i1⟩
    · exact Pw.part sm_none
    · exact Pw.part (sm_num i0 i1)
  have all := all3 (Pw.part (sm_num p0 p1)) (part_tup hps (by omega)).1 gn
  obtain ⟨a, b, c, e⟩ := dow_all all (by decide) (show 3 * (2000 + 1) ≤ 100000 by decide)
  refine ⟨⟨b, ?_, ?_⟩, ?_⟩
  · simp only [PyData.weight]
    have : ([PyData.int p, PyData.tuple ps, n] : List PyData).length = 3 := rfl
    omega
  · simp only [PyData.depth]
    omega
  · show (numD 100 (.int p) && (readD (.tuple ps) && (noneD n || numD 100 n))) = true
    rw [hrd, show numD 100 (.int p) = true from by
      show (decide (0 ≤ p) && decide (p < 100)) = true
      rw [decide_eq_true p0, decide_eq_true p1]
      rfl]
    rcases hn with rfl | ⟨i, rfl, i0, i1⟩
    · rfl
    · show (false || (decide (0 ≤ i) && decide (i < 100))) = true
      rw [decide_eq_true i0, decide_eq_true i1]
      rfl
theorem rows_ok {rows : List PyData} (hl : rows.length ≤ 10) (h : ∀ r ∈ rows, RowG r) : RowsOk rows :=
  ⟨(dow_all (n := 9000) (m := 6) (fun r m => (rowg_ok (h r m)).1) (by decide) (by omega)).1, fun r m => (rowg_ok (h r m)).2⟩
theorem acc_of {R : PyData → Prop} : ∀ {acc : List O}, (∀ o ∈ acc, ∃ r, R r ∧ o = .dat r) → ∃ s : List PyData, acc = s.map .dat ∧ ∀ r ∈ s, R r
  | [], _ => ⟨[], rfl, fun _ m => nomatch m⟩
  | o :: acc, h => by
    obtain ⟨s, h1, h2⟩ := acc_of (acc := acc) fun o m => h o (List.mem_cons_of_mem _ m)
    obtain ⟨r, h3, h4⟩ := h o List.mem_cons_self
    refine ⟨r :: s, by rw [h4, h1]; rfl, fun x m => ?_⟩
    rcases List.mem_cons.mp m with rfl | m
    · exact h3
    · exact h2 x m
theorem cutH (ds : List PyData) : (DL.cutD ds none (some 1)).length ≤ 1 := by
  unfold DL.cutD HT.sIx
  simp
  omega
theorem mem_add {R : PyData → Prop} {xs ys : List PyData} (h : ∀ x ∈ xs, R x) (k : ∀ x ∈ ys, R x) : ∀ x ∈ xs ++ ys, R x := fun x m => (List.mem_append.mp m).elim (h x) (k x)
theorem okOb_obj {C : Addr} {fs : List (Str × PyData)} : okOb C (obD C fs) = true := by
  unfold obD okOb
  simp
theorem sm_bool (b : Bool) : Sm (.bool b) := by cases b <;> exact sm_of (by decide +kernel)
theorem frzE2 {a b d e f' g h i j : Option En} {s : List PyData} : frzAt [a, b, some (.l (s.map .dat)), d, e, f', g, h, i, j] 2 = [a, b, some (.d (.list s)), d, e, f', g, h, i, j] := by
  show [a, b, some (.d (.list (eraseAll (s.map O.dat)))), d, e, f', g, h, i, j] = _
  rw [eraseAll_dat]
theorem frzE3 {a b d e f' g h i j : Option En} {s : List PyData} : frzAt [a, b, d, some (.l (s.map .dat)), e, f', g, h, i, j] 3 = [a, b, d, some (.d (.list s)), e, f', g, h, i, j] := by
  show [a, b, d, some (.d (.list (eraseAll (s.map O.dat)))), e, f', g, h, i, j] = _
  rw [eraseAll_dat]
end K58
set_option Elab.async false
set_option linter.all false
set_option maxRecDepth 100000
set_option maxHeartbeats 1000000
set_option pp.maxSteps 300
/-! K58o: promises that are equal -/
namespace K58
open PySem PySem.Spec PyProof.Rows L2 GL DL
def S_equal (C : Addr) : DSp := fun as P => ∃ rows, as = [.d (objP C rows), .d (.list rows)] ∧ rows.length ≤ 6 ∧ (∀ r ∈ rows, RowG r) ∧ P (.dat (.bool true))
section
variable {P : Program} {w : World} {K : PySem.W.Frag} {mg : Str → Option Value} {base : Heap} {f C : Addr} {fd : FuncData}
theorem sc_equal_right : FnScope ["_law_promise", "_law_rows", "_law_some", "_law_others", "_law_thing", "_law_due", "_law_at", "_law_pattern", "_law_goal", "_law_one"] ["_law_promise", "_law_rows"] (defScope s_equal_right) := ⟨rfl, rfl, rfl, by decide +kernel, rfl, by decide +kernel, by decide +kernel⟩
theorem ok_equal_right (F : Fun K "_law_equal_right" "_law_equal_right" s_equal_right f fd) (T : Txt0 mg) (N : CP K mg C) (c_alike : ClG P w K mg base 1 "_law_alike" (spF K S_alike)) (m_promise : MkG P w K mg base 6 "Promise" C S_init) (c_rows : MtG P w K mg base 1 C "rows" (spF K (S_rows C))) (c_eq : EqG P w K mg base 1 C (S_eq C)) : FnG P w K mg base 8 f fd ["_law_promise", "_law_rows"] (spF K (S_equal C)) := by
  refine okD F sc_equal_right (fun as Q h => by obtain ⟨_, rfl, _⟩ := h; rfl) fun cdv A out s H E hG hr => have hu := units_ofx hr; have hu6 := units_of hr; ⟨_, (dss_cut (ds_set (i := 2) sc_equal_right.nd rfl (.inl rfl) (do_add rfl (DO.d (do_lc (own := [("_law_at", 6), ("_law_pattern", 7), ("_law_goal", 8)]) rfl sc_equal_right.nd (di_any rfl (DO.d (do_sl rfl (de_v (pv 1)) io_none (io_some de_int)))) (blkOk_by (N := ["_law_promise", "_law_rows", "_law_some", "_law_others", "_law_thing", "_law_due", "_law_at", "_law_pattern", "_law_goal", "_law_one"]) (sc := defScope s_equal_right) (by decide +kernel)) (fun _ _ _ _ _ => (dg_tup (n := 3) rfl rfl (dgs_cons (dg_name (pg_name (i := 6) sc_equal_right.nd rfl (.inl rfl))) (dgs_cons (dg_name (pg_name (i := 7) sc_equal_right.nd rfl (.inl rfl))) (dgs_cons (dg_name (pg_name (i := 8) sc_equal_right.nd rfl (.inl rfl))) dgs_nil))))) (fun _ _ _ _ _ => dts_nil) (fun _ _ _ _ _ => (DE.o (de_tup (da_cons (de_v (pv 6)) (da_cons (de_v (pv 7)) (da_cons (de_if (db_cmp op_isN od_isN (de_v (pv 8)) de_non (nomark _)) de_int de_non) da_nil)))))))) (DO.d (do_sl rfl (de_v (pv 1)) (io_some de_int) io_none))))
(dss_cut (ds_frzAt 2 (ds_set (i := 3) sc_equal_right.nd rfl (.inl rfl) (do_lst (da_cons (DO.d (do_rev rfl (de_v (pv 1)))) (da_cons (de_v (pv 2)) (da_cons (DO.d (do_add rfl (DO.d (do_lc (own := [("_law_at", 6), ("_law_pattern", 7), ("_law_goal", 8)]) rfl sc_equal_right.nd (di_any rfl (DO.d (do_sl rfl (de_v (pv 1)) io_none (io_some de_int)))) (blkOk_by (N := ["_law_promise", "_law_rows", "_law_some", "_law_others", "_law_thing", "_law_due", "_law_at", "_law_pattern", "_law_goal", "_law_one"]) (sc := defScope s_equal_right) (by decide +kernel)) (fun _ _ _ _ _ => (dg_tup (n := 3) rfl rfl (dgs_cons (dg_name (pg_name (i := 6) sc_equal_right.nd rfl (.inl rfl))) (dgs_cons (dg_name (pg_name (i := 7) sc_equal_right.nd rfl (.inl rfl))) (dgs_cons (dg_name (pg_name (i := 8) sc_equal_right.nd rfl (.inl rfl))) dgs_nil))))) (fun _ _ _ _ _ => dts_nil) (fun _ _ _ _ _ => (DE.o (de_tup (da_cons (de_v (pv 6)) (da_cons (de_tup (da_cons de_str (da_cons de_non (da_cons de_int da_nil)))) (da_cons (de_v (pv 8)) da_nil)))))))) (DO.d (do_sl rfl (de_v (pv 1)) (io_some de_int) io_none)))) (da_cons (DO.d (do_lst da_nil)) da_nil)))))))
(dss_cut (ds_frzAt 3 (ds_setLc (i := 3) (own := [("_law_one", 9)]) rfl sc_equal_right.nd rfl rfl (sw_true rfl rfl rfl (by decide +kernel)) (di_any rfl (DO.d (do_add rfl (de_v (pv 3)) (DO.d (do_lst (da_cons (DO.d (do_list rfl T.m_list (de_v (pv 1)))) (da_cons (DO.d (do_add rfl (de_v (pv 1)) (DO.d (do_lst (da_cons (de_tup (da_cons de_int (da_cons (de_tup (da_cons de_str (da_cons de_non (da_cons de_non da_nil)))) (da_cons de_int da_nil)))) da_nil))))) da_nil))))))) (blkOk_by (N := ["_law_promise", "_law_rows", "_law_some", "_law_others", "_law_thing", "_law_due", "_law_at", "_law_pattern", "_law_goal", "_law_one"]) (sc := defScope s_equal_right) (by decide +kernel)) (fun _ _ _ _ _ => (dg_name (pg_name (i := 9) sc_equal_right.nd rfl (.inl rfl)))) (fun _ _ _ _ _ => dts_nil) (fun _ _ _ _ _ => (DE.o (de_make rfl m_promise hG hr (by omega) (by rfl) (dr_cons (de_v (pv 9)) dr_nil))))))
(dss_cons (ds_frzAt 3 (ds_for PassesOwn.never rfl (di_any rfl (DO.d (do_add rfl (de_v (pv 3)) (DO.d (do_lst (da_cons (de_v (pv 1)) (da_cons de_non da_nil))))))) (dg_name (pg_name (i := 4) sc_equal_right.nd rfl (.inl rfl)))
(dss_cons (ds_set (i := 5) sc_equal_right.nd rfl (.inl rfl) (DE.o (de_and (de_isiC rfl N.top (.own _) (de_v (pv 4)) (by rfl) T.m_isinstance (pe_glob (by rfl) N.mg rfl)) (de_one (de_eq rfl hu (DO.d (do_meth0 rfl N.own.cl c_rows hG hr (by omega) (de_v (pv 4)))) (de_v (pv 1)))))))
(dss_one (ds_if (db_not (db_val (DO.d (do_call rfl c_alike hG hr (by omega) (by rfl) (dr_cons (DO.d (do_lst (da_cons (de_eqI rfl c_eq hG hr (by omega) (de_v (pv 0)) (de_v (pv 4))) (da_cons (de_neI rfl c_eq hG hr (by omega) (de_v (pv 0)) (de_v (pv 4))) da_nil)))) (dr_cons (DO.d (do_lst (da_cons (de_v (pv 5)) (da_cons (de_not (de_v (pv 5))) da_nil)))) dr_nil))))))
(dss_one (ds_ret (DE.o de_bl)))
dss_nil)))))
(dss_one (ds_ret (DE.o de_bl))))))), fun as Q h => ?_⟩
  obtain ⟨rows, rfl, hl, hg, q⟩ := h
  have c1 := cut_few rows none (some 1)
  have c2 := cut_few rows (some 1) none
  have g1 : ∀ r ∈ cutD rows (some 1) none, RowG r := fun r m => hg r (c2.2 r m)
  have okr : RowsOk rows := rows_ok (by omega) hg
  refine ⟨fun ρ => ∃ (s : List PyData) (x3 x4 x5 x6 x7 x8 x9 : Option En), ρ = [some (.d (objP C rows)), some (.d (.list rows)), some (.l (s.map .dat)), x3, x4, x5, x6, x7, x8, x9] ∧ s.length ≤ 7 ∧ ∀ r ∈ s, RowG r, ?_, ?_⟩
  · repeat' (first | refine ix0T ?_ | refine ix1T ?_ | refine ix2T ?_ | refine ix0L ?_ | refine ix1L ?_ | refine ix2L ?_ | refine ⟨_, rfl, ?_⟩ | refine ⟨_, _, rfl, rfl, (by show (_ : Nat) ≤ sizeLine; first | assumption | exact big (DOk.strLen (by assumption)) | exact big (DOk.tupLen (by assumption)) | exact big (DOk.lstLen (by assumption)) | exact big (DOw.strLen (by assumption)) | exact big (DOw.tupLen (by assumption)) | exact big (DOw.lstLen (by assumption)) | exact big (DOz.strLen (by assumption)) | exact big (DOz.tupLen (by assumption)) | exact big (DOz.lstLen (by assumption))), ?_⟩ | refine ⟨_, _, rfl, rfl, (by first | decide | (show (0 : Int) < _; decide)), ?_⟩ | refine ⟨_, _, rfl, rfl, ?_⟩ | refine eqR_str ?_ | refine eqR_int ?_ | refine neR_str ?_ | refine neR_int ?_ | refine And.intro rfl ?_ | refine addL (by first | assumption | (rw [sizeLine_eq]; omega) | (rw [sizeLine_eq]; simp; done) | (rw [sizeLine_eq]; simp only [List.length_append, List.length_cons, List.length_nil]; omega)) ?_ | refine addT (by first | assumption | (rw [sizeLine_eq]; omega) | (rw [sizeLine_eq]; simp; done) | (rw [sizeLine_eq]; simp only [List.length_append, List.length_cons, List.length_nil]; omega)) ?_ | refine And.intro (by assumption) ?_ | refine And.intro (by decide) ?_ | refine ⟨_, _, rfl, ?_⟩ | refine iteT rfl ?_ | refine iteF Bool.false_ne_true ?_)
    refine lc_each (fun o => ∃ r, RowG r ∧ o = .dat r) (by rw [eraseAll_dat, sizeLine_eq]; have := c1.1; omega) (fun d hd yes no y => ?_) (fun acc ha hR => ?_)
    · rw [eraseAll_dat] at hd
      obtain ⟨p, dd, n, rfl, p0, p1, hp, hn⟩ := hg d (c1.2 d hd)
      refine ⟨_, rfl, ⟨_, rfl⟩, rfl, _, _, rfl, _, _, rfl, _, _, rfl, rfl, ?_⟩
      rcases hn with rfl | ⟨i, rfl, i0, i1⟩
      · repeat' (first | refine ix0T ?_ | refine ix1T ?_ | refine ix2T ?_ | refine ix0L ?_ | refine ix1L ?_ | refine ix2L ?_ | refine ⟨_, rfl, ?_⟩ | refine ⟨_, _, rfl, rfl, (by show (_ : Nat) ≤ sizeLine; first | assumption | exact big (DOk.strLen (by assumption)) | exact big (DOk.tupLen (by assumption)) | exact big (DOk.lstLen (by assumption)) | exact big (DOw.strLen (by assumption)) | exact big (DOw.tupLen (by assumption)) | exact big (DOw.lstLen (by assumption)) | exact big (DOz.strLen (by assumption)) | exact big (DOz.tupLen (by assumption)) | exact big (DOz.lstLen (by assumption))), ?_⟩ | refine ⟨_, _, rfl, rfl, (by first | decide | (show (0 : Int) < _; decide)), ?_⟩ | refine ⟨_, _, rfl, rfl, ?_⟩ | refine eqR_str ?_ | refine eqR_int ?_ | refine neR_str ?_ | refine neR_int ?_ | refine And.intro rfl ?_ | refine addL (by first | assumption | (rw [sizeLine_eq]; omega) | (rw [sizeLine_eq]; simp; done) | (rw [sizeLine_eq]; simp only [List.length_append, List.length_cons, List.length_nil]; omega)) ?_ | refine addT (by first | assumption | (rw [sizeLine_eq]; omega) | (rw [sizeLine_eq]; simp; done) | (rw [sizeLine_eq]; simp only [List.length_append, List.length_cons, List.length_nil]; omega)) ?_ | refine And.intro (by assumption) ?_ | refine And.intro (by decide) ?_ | refine ⟨_, _, rfl, ?_⟩ | refine iteT rfl ?_ | refine iteF Bool.false_ne_true ?_)
        exact y _ ⟨_, ⟨p, dd, _, rfl, p0, p1, hp, .inr ⟨5, rfl, by decide, by decide⟩⟩, rfl⟩
      · repeat' (first | refine ix0T ?_ | refine ix1T ?_ | refine ix2T ?_ | refine ix0L ?_ | refine ix1L ?_ | refine ix2L ?_ | refine ⟨_, rfl, ?_⟩ | refine ⟨_, _, rfl, rfl, (by show (_ : Nat) ≤ sizeLine; first | assumption | exact big (DOk.strLen (by assumption)) | exact big (DOk.tupLen (by assumption)) | exact big (DOk.lstLen (by assumption)) | exact big (DOw.strLen (by assumption)) | exact big (DOw.tupLen (by assumption)) | exact big (DOw.lstLen (by assumption)) | exact big (DOz.strLen (by assumption)) | exact big (DOz.tupLen (by assumption)) | exact big (DOz.lstLen (by assumption))), ?_⟩ | refine ⟨_, _, rfl, rfl, (by first | decide | (show (0 : Int) < _; decide)), ?_⟩ | refine ⟨_, _, rfl, rfl, ?_⟩ | refine eqR_str ?_ | refine eqR_int ?_ | refine neR_str ?_ | refine neR_int ?_ | refine And.intro rfl ?_ | refine addL (by first | assumption | (rw [sizeLine_eq]; omega) | (rw [sizeLine_eq]; simp; done) | (rw [sizeLine_eq]; simp only [List.length_append, List.length_cons, List.length_nil]; omega)) ?_ | refine addT (by first | assumption | (rw [sizeLine_eq]; omega) | (rw [sizeLine_eq]; simp; done) | (rw [sizeLine_eq]; simp only [List.length_append, List.length_cons, List.length_nil]; omega)) ?_ | refine And.intro (by assumption) ?_ | refine And.intro (by decide) ?_ | refine ⟨_, _, rfl, ?_⟩ | refine iteT rfl ?_ | refine iteF Bool.false_ne_true ?_)
        exact y _ ⟨_, ⟨p, dd, _, rfl, p0, p1, hp, .inl rfl⟩, rfl⟩
    · obtain ⟨s1, rfl, h1⟩ := acc_of hR
      rw [eraseAll_dat, List.length_map] at ha
      have h7 : s1.length ≤ 1 := by have := cutH rows; omega
      repeat' (first | refine ix0T ?_ | refine ix1T ?_ | refine ix2T ?_ | refine ix0L ?_ | refine ix1L ?_ | refine ix2L ?_ | refine ⟨_, rfl, ?_⟩ | refine ⟨_, _, rfl, rfl, (by show (_ : Nat) ≤ sizeLine; first | assumption | exact big (DOk.strLen (by assumption)) | exact big (DOk.tupLen (by assumption)) | exact big (DOk.lstLen (by assumption)) | exact big (DOw.strLen (by assumption)) | exact big (DOw.tupLen (by assumption)) | exact big (DOw.lstLen (by assumption)) | exact big (DOz.strLen (by assumption)) | exact big (DOz.tupLen (by assumption)) | exact big (DOz.lstLen (by assumption))), ?_⟩ | refine ⟨_, _, rfl, rfl, (by first | decide | (show (0 : Int) < _; decide)), ?_⟩ | refine ⟨_, _, rfl, rfl, ?_⟩ | refine eqR_str ?_ | refine eqR_int ?_ | refine neR_str ?_ | refine neR_int ?_ | refine And.intro rfl ?_ | refine addL (by first | assumption | (rw [sizeLine_eq]; omega) | (rw [sizeLine_eq]; simp; done) | (rw [sizeLine_eq]; simp only [List.length_append, List.length_cons, List.length_nil]; omega)) ?_ | refine addT (by first | assumption | (rw [sizeLine_eq]; omega) | (rw [sizeLine_eq]; simp; done) | (rw [sizeLine_eq]; simp only [List.length_append, List.length_cons, List.length_nil]; omega)) ?_ | refine And.intro (by assumption) ?_ | refine And.intro (by decide) ?_ | refine ⟨_, _, rfl, ?_⟩ | refine iteT rfl ?_ | refine iteF Bool.false_ne_true ?_)
      rw [erase_dat s1]
      dsimp only
      rw [erase_dat (DL.cutD rows (some 1) none)]
      refine addL (by rw [sizeLine_eq]; have := c2.1; omega) ?_
      exact ⟨_, _, _, _, _, _, _, _, rfl, by rw [List.length_append]; have := c2.1; omega, mem_add h1 g1⟩
  rintro _ ⟨s, x3, x4, x5, x6, x7, x8, x9, rfl, hs, gs⟩
  rw [frzE2]
  refine ⟨fun ρ => ∃ (ds : List PyData) (x2 x4 x5 x6 x7 x8 x9 : Option En), ρ = [some (.d (objP C rows)), some (.d (.list rows)), x2, some (.l (ds.map .dat)), x4, x5, x6, x7, x8, x9] ∧ ds.length ≤ 4 ∧ ∀ d ∈ ds, ∃ r, d = .list r ∧ r.length ≤ 7 ∧ ∀ x ∈ r, RowG x, ?_, ?_⟩
  · repeat' (first | refine ix0T ?_ | refine ix1T ?_ | refine ix2T ?_ | refine ix0L ?_ | refine ix1L ?_ | refine ix2L ?_ | refine ⟨_, rfl, ?_⟩ | refine ⟨_, _, rfl, rfl, (by show (_ : Nat) ≤ sizeLine; first | assumption | exact big (DOk.strLen (by assumption)) | exact big (DOk.tupLen (by assumption)) | exact big (DOk.lstLen (by assumption)) | exact big (DOw.strLen (by assumption)) | exact big (DOw.tupLen (by assumption)) | exact big (DOw.lstLen (by assumption)) | exact big (DOz.strLen (by assumption)) | exact big (DOz.tupLen (by assumption)) | exact big (DOz.lstLen (by assumption))), ?_⟩ | refine ⟨_, _, rfl, rfl, (by first | decide | (show (0 : Int) < _; decide)), ?_⟩ | refine ⟨_, _, rfl, rfl, ?_⟩ | refine eqR_str ?_ | refine eqR_int ?_ | refine neR_str ?_ | refine neR_int ?_ | refine And.intro rfl ?_ | refine addL (by first | assumption | (rw [sizeLine_eq]; omega) | (rw [sizeLine_eq]; simp; done) | (rw [sizeLine_eq]; simp only [List.length_append, List.length_cons, List.length_nil]; omega)) ?_ | refine addT (by first | assumption | (rw [sizeLine_eq]; omega) | (rw [sizeLine_eq]; simp; done) | (rw [sizeLine_eq]; simp only [List.length_append, List.length_cons, List.length_nil]; omega)) ?_ | refine And.intro (by assumption) ?_ | refine And.intro (by decide) ?_ | refine ⟨_, _, rfl, ?_⟩ | refine iteT rfl ?_ | refine iteF Bool.false_ne_true ?_)
    refine lc_each (fun o => ∃ r, RowG r ∧ o = .dat r) (by rw [eraseAll_dat, sizeLine_eq]; have := c1.1; omega) (fun d hd yes no y => ?_) (fun acc ha hR => ?_)
    · rw [eraseAll_dat] at hd
      obtain ⟨p, dd, n, rfl, p0, p1, hp, hn⟩ := hg d (c1.2 d hd)
      refine ⟨_, rfl, ⟨_, rfl⟩, rfl, _, _, rfl, _, _, rfl, _, _, rfl, rfl, ?_⟩
      repeat' (first | refine ix0T ?_ | refine ix1T ?_ | refine ix2T ?_ | refine ix0L ?_ | refine ix1L ?_ | refine ix2L ?_ | refine ⟨_, rfl, ?_⟩ | refine ⟨_, _, rfl, rfl, (by show (_ : Nat) ≤ sizeLine; first | assumption | exact big (DOk.strLen (by assumption)) | exact big (DOk.tupLen (by assumption)) | exact big (DOk.lstLen (by assumption)) | exact big (DOw.strLen (by assumption)) | exact big (DOw.tupLen (by assumption)) | exact big (DOw.lstLen (by assumption)) | exact big (DOz.strLen (by assumption)) | exact big (DOz.tupLen (by assumption)) | exact big (DOz.lstLen (by assumption))), ?_⟩ | refine ⟨_, _, rfl, rfl, (by first | decide | (show (0 : Int) < _; decide)), ?_⟩ | refine ⟨_, _, rfl, rfl, ?_⟩ | refine eqR_str ?_ | refine eqR_int ?_ | refine neR_str ?_ | refine neR_int ?_ | refine And.intro rfl ?_ | refine addL (by first | assumption | (rw [sizeLine_eq]; omega) | (rw [sizeLine_eq]; simp; done) | (rw [sizeLine_eq]; simp only [List.length_append, List.length_cons, List.length_nil]; omega)) ?_ | refine addT (by first | assumption | (rw [sizeLine_eq]; omega) | (rw [sizeLine_eq]; simp; done) | (rw [sizeLine_eq]; simp only [List.length_append, List.length_cons, List.length_nil]; omega)) ?_ | refine And.intro (by assumption) ?_ | refine And.intro (by decide) ?_ | refine ⟨_, _, rfl, ?_⟩ | refine iteT rfl ?_ | refine iteF Bool.false_ne_true ?_)
      exact y _ ⟨_, ⟨p, _, n, rfl, p0, p1, pat3 (by decide +kernel) (by decide +kernel) pw_none (pw_int (by decide) (by decide)), hn⟩, rfl⟩
    · obtain ⟨s1, rfl, h1⟩ := acc_of hR
      rw [eraseAll_dat, List.length_map] at ha
      have h7 : s1.length ≤ 1 := by have := cutH rows; omega
      repeat' (first | refine ix0T ?_ | refine ix1T ?_ | refine ix2T ?_ | refine ix0L ?_ | refine ix1L ?_ | refine ix2L ?_ | refine ⟨_, rfl, ?_⟩ | refine ⟨_, _, rfl, rfl, (by show (_ : Nat) ≤ sizeLine; first | assumption | exact big (DOk.strLen (by assumption)) | exact big (DOk.tupLen (by assumption)) | exact big (DOk.lstLen (by assumption)) | exact big (DOw.strLen (by assumption)) | exact big (DOw.tupLen (by assumption)) | exact big (DOw.lstLen (by assumption)) | exact big (DOz.strLen (by assumption)) | exact big (DOz.tupLen (by assumption)) | exact big (DOz.lstLen (by assumption))), ?_⟩ | refine ⟨_, _, rfl, rfl, (by first | decide | (show (0 : Int) < _; decide)), ?_⟩ | refine ⟨_, _, rfl, rfl, ?_⟩ | refine eqR_str ?_ | refine eqR_int ?_ | refine neR_str ?_ | refine neR_int ?_ | refine And.intro rfl ?_ | refine addL (by first | assumption | (rw [sizeLine_eq]; omega) | (rw [sizeLine_eq]; simp; done) | (rw [sizeLine_eq]; simp only [List.length_append, List.length_cons, List.length_nil]; omega)) ?_ | refine addT (by first | assumption | (rw [sizeLine_eq]; omega) | (rw [sizeLine_eq]; simp; done) | (rw [sizeLine_eq]; simp only [List.length_append, List.length_cons, List.length_nil]; omega)) ?_ | refine And.intro (by assumption) ?_ | refine And.intro (by decide) ?_ | refine ⟨_, _, rfl, ?_⟩ | refine iteT rfl ?_ | refine iteF Bool.false_ne_true ?_)
      rw [erase_dat s1]
      dsimp only
      rw [erase_dat (DL.cutD rows (some 1) none)]
      refine addL (by rw [sizeLine_eq]; have := c2.1; omega) ?_
      repeat' (first | refine ix0T ?_ | refine ix1T ?_ | refine ix2T ?_ | refine ix0L ?_ | refine ix1L ?_ | refine ix2L ?_ | refine ⟨_, rfl, ?_⟩ | refine ⟨_, _, rfl, rfl, (by show (_ : Nat) ≤ sizeLine; first | assumption | exact big (DOk.strLen (by assumption)) | exact big (DOk.tupLen (by assumption)) | exact big (DOk.lstLen (by assumption)) | exact big (DOw.strLen (by assumption)) | exact big (DOw.tupLen (by assumption)) | exact big (DOw.lstLen (by assumption)) | exact big (DOz.strLen (by assumption)) | exact big (DOz.tupLen (by assumption)) | exact big (DOz.lstLen (by assumption))), ?_⟩ | refine ⟨_, _, rfl, rfl, (by first | decide | (show (0 : Int) < _; decide)), ?_⟩ | refine ⟨_, _, rfl, rfl, ?_⟩ | refine eqR_str ?_ | refine eqR_int ?_ | refine neR_str ?_ | refine neR_int ?_ | refine And.intro rfl ?_ | refine addL (by first | assumption | (rw [sizeLine_eq]; omega) | (rw [sizeLine_eq]; simp; done) | (rw [sizeLine_eq]; simp only [List.length_append, List.length_cons, List.length_nil]; omega)) ?_ | refine addT (by first | assumption | (rw [sizeLine_eq]; omega) | (rw [sizeLine_eq]; simp; done) | (rw [sizeLine_eq]; simp only [List.length_append, List.length_cons, List.length_nil]; omega)) ?_ | refine And.intro (by assumption) ?_ | refine And.intro (by decide) ?_ | refine ⟨_, _, rfl, ?_⟩ | refine iteT rfl ?_ | refine iteF Bool.false_ne_true ?_)
      refine ⟨[.list rows.reverse, .list s, .list (s1 ++ cutD rows (some 1) none), .list []], some (.d (.list s)), x4, x5, x6, x7, x8, x9, ?_, by simp, fun d m => ?_⟩
      · rw [erase_dat rows.reverse, erase_dat (s1 ++ DL.cutD rows (some 1) none)]
        rfl
      · simp only [List.mem_cons, List.not_mem_nil, or_false] at m
        rcases m with rfl | rfl | rfl | rfl
        · exact ⟨_, rfl, by rw [List.length_reverse]; omega, fun x m => hg x (List.mem_reverse.mp m)⟩
        · exact ⟨_, rfl, hs, gs⟩
        · exact ⟨_, rfl, by rw [List.length_append]; have := c2.1; omega, mem_add h1 g1⟩
        · exact ⟨_, rfl, by simp, fun _ m => nomatch m⟩
  rintro _ ⟨ds, x2, x4, x5, x6, x7, x8, x9, rfl, hds, gds⟩
  rw [frzE3]
  refine ⟨fun ρ => ∃ (qs : List PyData) (x2 x4 x5 x6 x7 x8 x9 : Option En), ρ = [some (.d (objP C rows)), some (.d (.list rows)), x2, some (.l (qs.map .dat)), x4, x5, x6, x7, x8, x9] ∧ qs.length ≤ 6 ∧ ∀ d ∈ qs, ∃ r, d = objP C r ∧ RowsOk r, ?_, ?_⟩
  · repeat' (first | refine ix0T ?_ | refine ix1T ?_ | refine ix2T ?_ | refine ix0L ?_ | refine ix1L ?_ | refine ix2L ?_ | refine ⟨_, rfl, ?_⟩ | refine ⟨_, _, rfl, rfl, (by show (_ : Nat) ≤ sizeLine; first | assumption | exact big (DOk.strLen (by assumption)) | exact big (DOk.tupLen (by assumption)) | exact big (DOk.lstLen (by assumption)) | exact big (DOw.strLen (by assumption)) | exact big (DOw.tupLen (by assumption)) | exact big (DOw.lstLen (by assumption)) | exact big (DOz.strLen (by assumption)) | exact big (DOz.tupLen (by assumption)) | exact big (DOz.lstLen (by assumption))), ?_⟩ | refine ⟨_, _, rfl, rfl, (by first | decide | (show (0 : Int) < _; decide)), ?_⟩ | refine ⟨_, _, rfl, rfl, ?_⟩ | refine eqR_str ?_ | refine eqR_int ?_ | refine neR_str ?_ | refine neR_int ?_ | refine And.intro rfl ?_ | refine addL (by first | assumption | (rw [sizeLine_eq]; omega) | (rw [sizeLine_eq]; simp; done) | (rw [sizeLine_eq]; simp only [List.length_append, List.length_cons, List.length_nil]; omega)) ?_ | refine addT (by first | assumption | (rw [sizeLine_eq]; omega) | (rw [sizeLine_eq]; simp; done) | (rw [sizeLine_eq]; simp only [List.length_append, List.length_cons, List.length_nil]; omega)) ?_ | refine And.intro (by assumption) ?_ | refine And.intro (by decide) ?_ | refine ⟨_, _, rfl, ?_⟩ | refine iteT rfl ?_ | refine iteF Bool.false_ne_true ?_)
    rw [erase_dat]
    refine addL (by rw [sizeLine_eq]; show rows.length + 1 ≤ _; omega) ?_
    repeat' (first | refine ix0T ?_ | refine ix1T ?_ | refine ix2T ?_ | refine ix0L ?_ | refine ix1L ?_ | refine ix2L ?_ | refine ⟨_, rfl, ?_⟩ | refine ⟨_, _, rfl, rfl, (by show (_ : Nat) ≤ sizeLine; first | assumption | exact big (DOk.strLen (by assumption)) | exact big (DOk.tupLen (by assumption)) | exact big (DOk.lstLen (by assumption)) | exact big (DOw.strLen (by assumption)) | exact big (DOw.tupLen (by assumption)) | exact big (DOw.lstLen (by assumption)) | exact big (DOz.strLen (by assumption)) | exact big (DOz.tupLen (by assumption)) | exact big (DOz.lstLen (by assumption))), ?_⟩ | refine ⟨_, _, rfl, rfl, (by first | decide | (show (0 : Int) < _; decide)), ?_⟩ | refine ⟨_, _, rfl, rfl, ?_⟩ | refine eqR_str ?_ | refine eqR_int ?_ | refine neR_str ?_ | refine neR_int ?_ | refine And.intro rfl ?_ | refine addL (by first | assumption | (rw [sizeLine_eq]; omega) | (rw [sizeLine_eq]; simp; done) | (rw [sizeLine_eq]; simp only [List.length_append, List.length_cons, List.length_nil]; omega)) ?_ | refine addT (by first | assumption | (rw [sizeLine_eq]; omega) | (rw [sizeLine_eq]; simp; done) | (rw [sizeLine_eq]; simp only [List.length_append, List.length_cons, List.length_nil]; omega)) ?_ | refine And.intro (by assumption) ?_ | refine And.intro (by decide) ?_ | refine ⟨_, _, rfl, ?_⟩ | refine iteT rfl ?_ | refine iteF Bool.false_ne_true ?_)
    refine addL (by rw [sizeLine_eq]; show ds.length + 2 ≤ _; omega) ?_
    repeat' (first | refine ix0T ?_ | refine ix1T ?_ | refine ix2T ?_ | refine ix0L ?_ | refine ix1L ?_ | refine ix2L ?_ | refine ⟨_, rfl, ?_⟩ | refine ⟨_, _, rfl, rfl, (by show (_ : Nat) ≤ sizeLine; first | assumption | exact big (DOk.strLen (by assumption)) | exact big (DOk.tupLen (by assumption)) | exact big (DOk.lstLen (by assumption)) | exact big (DOw.strLen (by assumption)) | exact big (DOw.tupLen (by assumption)) | exact big (DOw.lstLen (by assumption)) | exact big (DOz.strLen (by assumption)) | exact big (DOz.tupLen (by assumption)) | exact big (DOz.lstLen (by assumption))), ?_⟩ | refine ⟨_, _, rfl, rfl, (by first | decide | (show (0 : Int) < _; decide)), ?_⟩ | refine ⟨_, _, rfl, rfl, ?_⟩ | refine eqR_str ?_ | refine eqR_int ?_ | refine neR_str ?_ | refine neR_int ?_ | refine And.intro rfl ?_ | refine addL (by first | assumption | (rw [sizeLine_eq]; omega) | (rw [sizeLine_eq]; simp; done) | (rw [sizeLine_eq]; simp only [List.length_append, List.length_cons, List.length_nil]; omega)) ?_ | refine addT (by first | assumption | (rw [sizeLine_eq]; omega) | (rw [sizeLine_eq]; simp; done) | (rw [sizeLine_eq]; simp only [List.length_append, List.length_cons, List.length_nil]; omega)) ?_ | refine And.intro (by assumption) ?_ | refine And.intro (by decide) ?_ | refine ⟨_, _, rfl, ?_⟩ | refine iteT rfl ?_ | refine iteF Bool.false_ne_true ?_)
    refine lc_each (fun o => ∃ q, (∃ r, q = objP C r ∧ RowsOk r) ∧ o = .dat q) (by rw [eraseAll_dat, sizeLine_eq]; show (ds ++ [_, _]).length < _; rw [List.length_append]; show ds.length + 2 < _; omega) (fun d hd yes no y => ?_) (fun acc ha hR => ?_)
    · rw [eraseAll_dat] at hd
      obtain ⟨r, rfl, hr7, hrg⟩ : ∃ r, d = .list r ∧ r.length ≤ 7 ∧ ∀ x ∈ r, RowG x := by
        rcases List.mem_append.mp hd with m | m
        · exact gds d m
        · have m2 : d ∈ [PyData.list rows, PyData.list (eraseAll ((rows ++ [PyData.tuple [.int 0, .tuple [.str "mark", .none, .none], .int 1]]).map O.dat))] := m
          rw [eraseAll_dat] at m2
          simp only [List.mem_cons, List.not_mem_nil, or_false] at m2
          rcases m2 with rfl | rfl
          · exact ⟨_, rfl, by omega, hg⟩
          · refine ⟨_, rfl, by rw [List.length_append]; show rows.length + 1 ≤ 7; omega, mem_add hg fun x m => ?_⟩
            rw [List.mem_singleton.mp m]
            exact ⟨0, _, .int 1, rfl, by decide, by decide, pat3 (by decide +kernel) (by decide +kernel) pw_none pw_none, .inr ⟨1, rfl, by decide, by decide⟩⟩
      repeat' (first | refine ix0T ?_ | refine ix1T ?_ | refine ix2T ?_ | refine ix0L ?_ | refine ix1L ?_ | refine ix2L ?_ | refine ⟨_, rfl, ?_⟩ | refine ⟨_, _, rfl, rfl, (by show (_ : Nat) ≤ sizeLine; first | assumption | exact big (DOk.strLen (by assumption)) | exact big (DOk.tupLen (by assumption)) | exact big (DOk.lstLen (by assumption)) | exact big (DOw.strLen (by assumption)) | exact big (DOw.tupLen (by assumption)) | exact big (DOw.lstLen (by assumption)) | exact big (DOz.strLen (by assumption)) | exact big (DOz.tupLen (by assumption)) | exact big (DOz.lstLen (by assumption))), ?_⟩ | refine ⟨_, _, rfl, rfl, (by first | decide | (show (0 : Int) < _; decide)), ?_⟩ | refine ⟨_, _, rfl, rfl, ?_⟩ | refine eqR_str ?_ | refine eqR_int ?_ | refine neR_str ?_ | refine neR_int ?_ | refine And.intro rfl ?_ | refine addL (by first | assumption | (rw [sizeLine_eq]; omega) | (rw [sizeLine_eq]; simp; done) | (rw [sizeLine_eq]; simp only [List.length_append, List.length_cons, List.length_nil]; omega)) ?_ | refine addT (by first | assumption | (rw [sizeLine_eq]; omega) | (rw [sizeLine_eq]; simp; done) | (rw [sizeLine_eq]; simp only [List.length_append, List.length_cons, List.length_nil]; omega)) ?_ | refine And.intro (by assumption) ?_ | refine And.intro (by decide) ?_ | refine ⟨_, _, rfl, ?_⟩ | refine iteT rfl ?_ | refine iteF Bool.false_ne_true ?_)
      exact ⟨rows_ok (by omega) hrg, y _ ⟨_, ⟨r, rfl, rows_ok (by omega) hrg⟩, rfl⟩⟩
    · obtain ⟨qs, rfl, h1⟩ := acc_of hR
      rw [eraseAll_dat, List.length_map, List.length_append] at ha
      repeat' (first | refine ix0T ?_ | refine ix1T ?_ | refine ix2T ?_ | refine ix0L ?_ | refine ix1L ?_ | refine ix2L ?_ | refine ⟨_, rfl, ?_⟩ | refine ⟨_, _, rfl, rfl, (by show (_ : Nat) ≤ sizeLine; first | assumption | exact big (DOk.strLen (by assumption)) | exact big (DOk.tupLen (by assumption)) | exact big (DOk.lstLen (by assumption)) | exact big (DOw.strLen (by assumption)) | exact big (DOw.tupLen (by assumption)) | exact big (DOw.lstLen (by assumption)) | exact big (DOz.strLen (by assumption)) | exact big (DOz.tupLen (by assumption)) | exact big (DOz.lstLen (by assumption))), ?_⟩ | refine ⟨_, _, rfl, rfl, (by first | decide | (show (0 : Int) < _; decide)), ?_⟩ | refine ⟨_, _, rfl, rfl, ?_⟩ | refine eqR_str ?_ | refine eqR_int ?_ | refine neR_str ?_ | refine neR_int ?_ | refine And.intro rfl ?_ | refine addL (by first | assumption | (rw [sizeLine_eq]; omega) | (rw [sizeLine_eq]; simp; done) | (rw [sizeLine_eq]; simp only [List.length_append, List.length_cons, List.length_nil]; omega)) ?_ | refine addT (by first | assumption | (rw [sizeLine_eq]; omega) | (rw [sizeLine_eq]; simp; done) | (rw [sizeLine_eq]; simp only [List.length_append, List.length_cons, List.length_nil]; omega)) ?_ | refine And.intro (by assumption) ?_ | refine And.intro (by decide) ?_ | refine ⟨_, _, rfl, ?_⟩ | refine iteT rfl ?_ | refine iteF Bool.false_ne_true ?_)
      exact ⟨qs, _, _, _, _, _, _, _, rfl, by have ha2 : qs.length = ds.length + 2 := ha; omega, h1⟩
  rintro _ ⟨qs, x2, x4, x5, x6, x7, x8, x9, rfl, hqs, gqs⟩
  rw [frzE3]
  repeat' (first | refine ix0T ?_ | refine ix1T ?_ | refine ix2T ?_ | refine ix0L ?_ | refine ix1L ?_ | refine ix2L ?_ | refine ⟨_, rfl, ?_⟩ | refine ⟨_, _, rfl, rfl, (by show (_ : Nat) ≤ sizeLine; first | assumption | exact big (DOk.strLen (by assumption)) | exact big (DOk.tupLen (by assumption)) | exact big (DOk.lstLen (by assumption)) | exact big (DOw.strLen (by assumption)) | exact big (DOw.tupLen (by assumption)) | exact big (DOw.lstLen (by assumption)) | exact big (DOz.strLen (by assumption)) | exact big (DOz.tupLen (by assumption)) | exact big (DOz.lstLen (by assumption))), ?_⟩ | refine ⟨_, _, rfl, rfl, (by first | decide | (show (0 : Int) < _; decide)), ?_⟩ | refine ⟨_, _, rfl, rfl, ?_⟩ | refine eqR_str ?_ | refine eqR_int ?_ | refine neR_str ?_ | refine neR_int ?_ | refine And.intro rfl ?_ | refine addL (by first | assumption | (rw [sizeLine_eq]; omega) | (rw [sizeLine_eq]; simp; done) | (rw [sizeLine_eq]; simp only [List.length_append, List.length_cons, List.length_nil]; omega)) ?_ | refine addT (by first | assumption | (rw [sizeLine_eq]; omega) | (rw [sizeLine_eq]; simp; done) | (rw [sizeLine_eq]; simp only [List.length_append, List.length_cons, List.length_nil]; omega)) ?_ | refine And.intro (by assumption) ?_ | refine And.intro (by decide) ?_ | refine ⟨_, _, rfl, ?_⟩ | refine iteT rfl ?_ | refine iteF Bool.false_ne_true ?_)
  refine addL (by rw [sizeLine_eq]; show qs.length + 2 ≤ _; omega) ?_
  repeat' (first | refine ix0T ?_ | refine ix1T ?_ | refine ix2T ?_ | refine ix0L ?_ | refine ix1L ?_ | refine ix2L ?_ | refine ⟨_, rfl, ?_⟩ | refine ⟨_, _, rfl, rfl, (by show (_ : Nat) ≤ sizeLine; first | assumption | exact big (DOk.strLen (by assumption)) | exact big (DOk.tupLen (by assumption)) | exact big (DOk.lstLen (by assumption)) | exact big (DOw.strLen (by assumption)) | exact big (DOw.tupLen (by assumption)) | exact big (DOw.lstLen (by assumption)) | exact big (DOz.strLen (by assumption)) | exact big (DOz.tupLen (by assumption)) | exact big (DOz.lstLen (by assumption))), ?_⟩ | refine ⟨_, _, rfl, rfl, (by first | decide | (show (0 : Int) < _; decide)), ?_⟩ | refine ⟨_, _, rfl, rfl, ?_⟩ | refine eqR_str ?_ | refine eqR_int ?_ | refine neR_str ?_ | refine neR_int ?_ | refine And.intro rfl ?_ | refine addL (by first | assumption | (rw [sizeLine_eq]; omega) | (rw [sizeLine_eq]; simp; done) | (rw [sizeLine_eq]; simp only [List.length_append, List.length_cons, List.length_nil]; omega)) ?_ | refine addT (by first | assumption | (rw [sizeLine_eq]; omega) | (rw [sizeLine_eq]; simp; done) | (rw [sizeLine_eq]; simp only [List.length_append, List.length_cons, List.length_nil]; omega)) ?_ | refine And.intro (by assumption) ?_ | refine And.intro (by decide) ?_ | refine ⟨_, _, rfl, ?_⟩ | refine iteT rfl ?_ | refine iteF Bool.false_ne_true ?_)
  refine ⟨fun i ρ' => ∃ (x2 x4 x5 x6 x7 x8 x9 : Option En), ρ' = [some (.d (objP C rows)), some (.d (.list rows)), x2, some (.d (.list qs)), x4, x5, x6, x7, x8, x9], ⟨_, _, _, _, _, _, _, rfl⟩, ?_, ?_⟩
  · rintro i d ρ' hd ⟨x2, x4, x5, x6, x7, x8, x9, rfl⟩
    have md := List.mem_of_getElem? hd
    rw [eraseAll_dat] at md
    have cs : (∃ r, d = objP C r ∧ RowsOk r) ∨ (isOb C d = false ∧ okOb C d = true) := by
      rcases List.mem_append.mp md with m | m
      · exact .inl (gqs d m)
      · have m2 : d ∈ [PyData.list rows, .none] := m
        simp only [List.mem_cons, List.not_mem_nil, or_false] at m2
        rcases m2 with rfl | rfl
        · exact .inr ⟨rfl, rfl⟩
        · exact .inr ⟨rfl, rfl⟩
    rcases cs with ⟨r, rfl, hr⟩ | ⟨no, ok⟩
    · have ok : okOb C (objP C r) = true := okOb_obj
      have okv : DOw (.list [.bool (PyData.eqv (.list rows) (.list r)), .bool (!PyData.eqv (.list rows) (.list r))]) := (sm_list (fun d m => by
        simp only [List.mem_cons, List.not_mem_nil, or_false] at m
        rcases m with rfl | rfl
        · exact sm_bool _
        · exact sm_bool _) (by show 2 ≤ 600; decide)).1
      repeat' (first | refine ix0T ?_ | refine ix1T ?_ | refine ix2T ?_ | refine ix0L ?_ | refine ix1L ?_ | refine ix2L ?_ | refine ⟨_, rfl, ?_⟩ | refine ⟨_, _, rfl, rfl, (by show (_ : Nat) ≤ sizeLine; first | assumption | exact big (DOk.strLen (by assumption)) | exact big (DOk.tupLen (by assumption)) | exact big (DOk.lstLen (by assumption)) | exact big (DOw.strLen (by assumption)) | exact big (DOw.tupLen (by assumption)) | exact big (DOw.lstLen (by assumption)) | exact big (DOz.strLen (by assumption)) | exact big (DOz.tupLen (by assumption)) | exact big (DOz.lstLen (by assumption))), ?_⟩ | refine ⟨_, _, rfl, rfl, (by first | decide | (show (0 : Int) < _; decide)), ?_⟩ | refine ⟨_, _, rfl, rfl, ?_⟩ | refine eqR_str ?_ | refine eqR_int ?_ | refine neR_str ?_ | refine neR_int ?_ | refine And.intro rfl ?_ | refine addL (by first | assumption | (rw [sizeLine_eq]; omega) | (rw [sizeLine_eq]; simp; done) | (rw [sizeLine_eq]; simp only [List.length_append, List.length_cons, List.length_nil]; omega)) ?_ | refine addT (by first | assumption | (rw [sizeLine_eq]; omega) | (rw [sizeLine_eq]; simp; done) | (rw [sizeLine_eq]; simp only [List.length_append, List.length_cons, List.length_nil]; omega)) ?_ | refine And.intro (by assumption) ?_ | refine And.intro (by decide) ?_ | refine ⟨_, _, rfl, ?_⟩ | refine iteT rfl ?_ | refine iteF Bool.false_ne_true ?_)
      rw [isOb_obj]
      repeat' (first | refine ix0T ?_ | refine ix1T ?_ | refine ix2T ?_ | refine ix0L ?_ | refine ix1L ?_ | refine ix2L ?_ | refine ⟨_, rfl, ?_⟩ | refine ⟨_, _, rfl, rfl, (by show (_ : Nat) ≤ sizeLine; first | assumption | exact big (DOk.strLen (by assumption)) | exact big (DOk.tupLen (by assumption)) | exact big (DOk.lstLen (by assumption)) | exact big (DOw.strLen (by assumption)) | exact big (DOw.tupLen (by assumption)) | exact big (DOw.lstLen (by assumption)) | exact big (DOz.strLen (by assumption)) | exact big (DOz.tupLen (by assumption)) | exact big (DOz.lstLen (by assumption))), ?_⟩ | refine ⟨_, _, rfl, rfl, (by first | decide | (show (0 : Int) < _; decide)), ?_⟩ | refine ⟨_, _, rfl, rfl, ?_⟩ | refine eqR_str ?_ | refine eqR_int ?_ | refine neR_str ?_ | refine neR_int ?_ | refine And.intro rfl ?_ | refine addL (by first | assumption | (rw [sizeLine_eq]; omega) | (rw [sizeLine_eq]; simp; done) | (rw [sizeLine_eq]; simp only [List.length_append, List.length_cons, List.length_nil]; omega)) ?_ | refine addT (by first | assumption | (rw [sizeLine_eq]; omega) | (rw [sizeLine_eq]; simp; done) | (rw [sizeLine_eq]; simp only [List.length_append, List.length_cons, List.length_nil]; omega)) ?_ | refine And.intro (by assumption) ?_ | refine And.intro (by decide) ?_ | refine ⟨_, _, rfl, ?_⟩ | refine iteT rfl ?_ | refine iteF Bool.false_ne_true ?_)
      rw [erase_dat]
      refine eqR_dat hr.ok.nodict okr.ok.nodict hr.ok.shaped okr.ok.shaped ?_
      rw [PySem.W.eqv_comm (.list r)]
      repeat' (first | refine ix0T ?_ | refine ix1T ?_ | refine ix2T ?_ | refine ix0L ?_ | refine ix1L ?_ | refine ix2L ?_ | refine ⟨_, rfl, ?_⟩ | refine ⟨_, _, rfl, rfl, (by show (_ : Nat) ≤ sizeLine; first | assumption | exact big (DOk.strLen (by assumption)) | exact big (DOk.tupLen (by assumption)) | exact big (DOk.lstLen (by assumption)) | exact big (DOw.strLen (by assumption)) | exact big (DOw.tupLen (by assumption)) | exact big (DOw.lstLen (by assumption)) | exact big (DOz.strLen (by assumption)) | exact big (DOz.tupLen (by assumption)) | exact big (DOz.lstLen (by assumption))), ?_⟩ | refine ⟨_, _, rfl, rfl, (by first | decide | (show (0 : Int) < _; decide)), ?_⟩ | refine ⟨_, _, rfl, rfl, ?_⟩ | refine eqR_str ?_ | refine eqR_int ?_ | refine neR_str ?_ | refine neR_int ?_ | refine And.intro rfl ?_ | refine addL (by first | assumption | (rw [sizeLine_eq]; omega) | (rw [sizeLine_eq]; simp; done) | (rw [sizeLine_eq]; simp only [List.length_append, List.length_cons, List.length_nil]; omega)) ?_ | refine addT (by first | assumption | (rw [sizeLine_eq]; omega) | (rw [sizeLine_eq]; simp; done) | (rw [sizeLine_eq]; simp only [List.length_append, List.length_cons, List.length_nil]; omega)) ?_ | refine And.intro (by assumption) ?_ | refine And.intro (by decide) ?_ | refine ⟨_, _, rfl, ?_⟩ | refine iteT rfl ?_ | refine iteF Bool.false_ne_true ?_)
      first | refine ⟨_, _, rfl, okr, ok, .inl ⟨r, rfl, hr, _, rfl, ?_⟩⟩ | refine .inl ⟨r, rfl, hr, _, rfl, ?_⟩
      repeat' (first | refine ix0T ?_ | refine ix1T ?_ | refine ix2T ?_ | refine ix0L ?_ | refine ix1L ?_ | refine ix2L ?_ | refine ⟨_, rfl, ?_⟩ | refine ⟨_, _, rfl, rfl, (by show (_ : Nat) ≤ sizeLine; first | assumption | exact big (DOk.strLen (by assumption)) | exact big (DOk.tupLen (by assumption)) | exact big (DOk.lstLen (by assumption)) | exact big (DOw.strLen (by assumption)) | exact big (DOw.tupLen (by assumption)) | exact big (DOw.lstLen (by assumption)) | exact big (DOz.strLen (by assumption)) | exact big (DOz.tupLen (by assumption)) | exact big (DOz.lstLen (by assumption))), ?_⟩ | refine ⟨_, _, rfl, rfl, (by first | decide | (show (0 : Int) < _; decide)), ?_⟩ | refine ⟨_, _, rfl, rfl, ?_⟩ | refine eqR_str ?_ | refine eqR_int ?_ | refine neR_str ?_ | refine neR_int ?_ | refine And.intro rfl ?_ | refine addL (by first | assumption | (rw [sizeLine_eq]; omega) | (rw [sizeLine_eq]; simp; done) | (rw [sizeLine_eq]; simp only [List.length_append, List.length_cons, List.length_nil]; omega)) ?_ | refine addT (by first | assumption | (rw [sizeLine_eq]; omega) | (rw [sizeLine_eq]; simp; done) | (rw [sizeLine_eq]; simp only [List.length_append, List.length_cons, List.length_nil]; omega)) ?_ | refine And.intro (by assumption) ?_ | refine And.intro (by decide) ?_ | refine ⟨_, _, rfl, ?_⟩ | refine iteT rfl ?_ | refine iteF Bool.false_ne_true ?_)
      first | refine ⟨_, _, rfl, okr, ok, .inl ⟨r, rfl, hr, _, rfl, ?_⟩⟩ | refine .inl ⟨r, rfl, hr, _, rfl, ?_⟩
      repeat' (first | refine ix0T ?_ | refine ix1T ?_ | refine ix2T ?_ | refine ix0L ?_ | refine ix1L ?_ | refine ix2L ?_ | refine ⟨_, rfl, ?_⟩ | refine ⟨_, _, rfl, rfl, (by show (_ : Nat) ≤ sizeLine; first | assumption | exact big (DOk.strLen (by assumption)) | exact big (DOk.tupLen (by assumption)) | exact big (DOk.lstLen (by assumption)) | exact big (DOw.strLen (by assumption)) | exact big (DOw.tupLen (by assumption)) | exact big (DOw.lstLen (by assumption)) | exact big (DOz.strLen (by assumption)) | exact big (DOz.tupLen (by assumption)) | exact big (DOz.lstLen (by assumption))), ?_⟩ | refine ⟨_, _, rfl, rfl, (by first | decide | (show (0 : Int) < _; decide)), ?_⟩ | refine ⟨_, _, rfl, rfl, ?_⟩ | refine eqR_str ?_ | refine eqR_int ?_ | refine neR_str ?_ | refine neR_int ?_ | refine And.intro rfl ?_ | refine addL (by first | assumption | (rw [sizeLine_eq]; omega) | (rw [sizeLine_eq]; simp; done) | (rw [sizeLine_eq]; simp only [List.length_append, List.length_cons, List.length_nil]; omega)) ?_ | refine addT (by first | assumption | (rw [sizeLine_eq]; omega) | (rw [sizeLine_eq]; simp; done) | (rw [sizeLine_eq]; simp only [List.length_append, List.length_cons, List.length_nil]; omega)) ?_ | refine And.intro (by assumption) ?_ | refine And.intro (by decide) ?_ | refine ⟨_, _, rfl, ?_⟩ | refine iteT rfl ?_ | refine iteF Bool.false_ne_true ?_)
      exact iteF ⟨_, _, _, _, _, _, _, rfl⟩
    · have okv : DOw (.list [.bool false, .bool true]) := (sm_of (by decide +kernel)).1
      repeat' (first | refine ix0T ?_ | refine ix1T ?_ | refine ix2T ?_ | refine ix0L ?_ | refine ix1L ?_ | refine ix2L ?_ | refine ⟨_, rfl, ?_⟩ | refine ⟨_, _, rfl, rfl, (by show (_ : Nat) ≤ sizeLine; first | assumption | exact big (DOk.strLen (by assumption)) | exact big (DOk.tupLen (by assumption)) | exact big (DOk.lstLen (by assumption)) | exact big (DOw.strLen (by assumption)) | exact big (DOw.tupLen (by assumption)) | exact big (DOw.lstLen (by assumption)) | exact big (DOz.strLen (by assumption)) | exact big (DOz.tupLen (by assumption)) | exact big (DOz.lstLen (by assumption))), ?_⟩ | refine ⟨_, _, rfl, rfl, (by first | decide | (show (0 : Int) < _; decide)), ?_⟩ | refine ⟨_, _, rfl, rfl, ?_⟩ | refine eqR_str ?_ | refine eqR_int ?_ | refine neR_str ?_ | refine neR_int ?_ | refine And.intro rfl ?_ | refine addL (by first | assumption | (rw [sizeLine_eq]; omega) | (rw [sizeLine_eq]; simp; done) | (rw [sizeLine_eq]; simp only [List.length_append, List.length_cons, List.length_nil]; omega)) ?_ | refine addT (by first | assumption | (rw [sizeLine_eq]; omega) | (rw [sizeLine_eq]; simp; done) | (rw [sizeLine_eq]; simp only [List.length_append, List.length_cons, List.length_nil]; omega)) ?_ | refine And.intro (by assumption) ?_ | refine And.intro (by decide) ?_ | refine ⟨_, _, rfl, ?_⟩ | refine iteT rfl ?_ | refine iteF Bool.false_ne_true ?_)
      rw [no]
      repeat' (first | refine ix0T ?_ | refine ix1T ?_ | refine ix2T ?_ | refine ix0L ?_ | refine ix1L ?_ | refine ix2L ?_ | refine ⟨_, rfl, ?_⟩ | refine ⟨_, _, rfl, rfl, (by show (_ : Nat) ≤ sizeLine; first | assumption | exact big (DOk.strLen (by assumption)) | exact big (DOk.tupLen (by assumption)) | exact big (DOk.lstLen (by assumption)) | exact big (DOw.strLen (by assumption)) | exact big (DOw.tupLen (by assumption)) | exact big (DOw.lstLen (by assumption)) | exact big (DOz.strLen (by assumption)) | exact big (DOz.tupLen (by assumption)) | exact big (DOz.lstLen (by assumption))), ?_⟩ | refine ⟨_, _, rfl, rfl, (by first | decide | (show (0 : Int) < _; decide)), ?_⟩ | refine ⟨_, _, rfl, rfl, ?_⟩ | refine eqR_str ?_ | refine eqR_int ?_ | refine neR_str ?_ | refine neR_int ?_ | refine And.intro rfl ?_ | refine addL (by first | assumption | (rw [sizeLine_eq]; omega) | (rw [sizeLine_eq]; simp; done) | (rw [sizeLine_eq]; simp only [List.length_append, List.length_cons, List.length_nil]; omega)) ?_ | refine addT (by first | assumption | (rw [sizeLine_eq]; omega) | (rw [sizeLine_eq]; simp; done) | (rw [sizeLine_eq]; simp only [List.length_append, List.length_cons, List.length_nil]; omega)) ?_ | refine And.intro (by assumption) ?_ | refine And.intro (by decide) ?_ | refine ⟨_, _, rfl, ?_⟩ | refine iteT rfl ?_ | refine iteF Bool.false_ne_true ?_)
      first | refine ⟨_, _, rfl, okr, ok, .inr ⟨no, _, rfl, ?_⟩⟩ | refine .inr ⟨no, _, rfl, ?_⟩
      repeat' (first | refine ix0T ?_ | refine ix1T ?_ | refine ix2T ?_ | refine ix0L ?_ | refine ix1L ?_ | refine ix2L ?_ | refine ⟨_, rfl, ?_⟩ | refine ⟨_, _, rfl, rfl, (by show (_ : Nat) ≤ sizeLine; first | assumption | exact big (DOk.strLen (by assumption)) | exact big (DOk.tupLen (by assumption)) | exact big (DOk.lstLen (by assumption)) | exact big (DOw.strLen (by assumption)) | exact big (DOw.tupLen (by assumption)) | exact big (DOw.lstLen (by assumption)) | exact big (DOz.strLen (by assumption)) | exact big (DOz.tupLen (by assumption)) | exact big (DOz.lstLen (by assumption))), ?_⟩ | refine ⟨_, _, rfl, rfl, (by first | decide | (show (0 : Int) < _; decide)), ?_⟩ | refine ⟨_, _, rfl, rfl, ?_⟩ | refine eqR_str ?_ | refine eqR_int ?_ | refine neR_str ?_ | refine neR_int ?_ | refine And.intro rfl ?_ | refine addL (by first | assumption | (rw [sizeLine_eq]; omega) | (rw [sizeLine_eq]; simp; done) | (rw [sizeLine_eq]; simp only [List.length_append, List.length_cons, List.length_nil]; omega)) ?_ | refine addT (by first | assumption | (rw [sizeLine_eq]; omega) | (rw [sizeLine_eq]; simp; done) | (rw [sizeLine_eq]; simp only [List.length_append, List.length_cons, List.length_nil]; omega)) ?_ | refine And.intro (by assumption) ?_ | refine And.intro (by decide) ?_ | refine ⟨_, _, rfl, ?_⟩ | refine iteT rfl ?_ | refine iteF Bool.false_ne_true ?_)
      first | refine ⟨_, _, rfl, okr, ok, .inr ⟨no, _, rfl, ?_⟩⟩ | refine .inr ⟨no, _, rfl, ?_⟩
      repeat' (first | refine ix0T ?_ | refine ix1T ?_ | refine ix2T ?_ | refine ix0L ?_ | refine ix1L ?_ | refine ix2L ?_ | refine ⟨_, rfl, ?_⟩ | refine ⟨_, _, rfl, rfl, (by show (_ : Nat) ≤ sizeLine; first | assumption | exact big (DOk.strLen (by assumption)) | exact big (DOk.tupLen (by assumption)) | exact big (DOk.lstLen (by assumption)) | exact big (DOw.strLen (by assumption)) | exact big (DOw.tupLen (by assumption)) | exact big (DOw.lstLen (by assumption)) | exact big (DOz.strLen (by assumption)) | exact big (DOz.tupLen (by assumption)) | exact big (DOz.lstLen (by assumption))), ?_⟩ | refine ⟨_, _, rfl, rfl, (by first | decide | (show (0 : Int) < _; decide)), ?_⟩ | refine ⟨_, _, rfl, rfl, ?_⟩ | refine eqR_str ?_ | refine eqR_int ?_ | refine neR_str ?_ | refine neR_int ?_ | refine And.intro rfl ?_ | refine addL (by first | assumption | (rw [sizeLine_eq]; omega) | (rw [sizeLine_eq]; simp; done) | (rw [sizeLine_eq]; simp only [List.length_append, List.length_cons, List.length_nil]; omega)) ?_ | refine addT (by first | assumption | (rw [sizeLine_eq]; omega) | (rw [sizeLine_eq]; simp; done) | (rw [sizeLine_eq]; simp only [List.length_append, List.length_cons, List.length_nil]; omega)) ?_ | refine And.intro (by assumption) ?_ | refine And.intro (by decide) ?_ | refine ⟨_, _, rfl, ?_⟩ | refine iteT rfl ?_ | refine iteF Bool.false_ne_true ?_)
      exact iteF ⟨_, _, _, _, _, _, _, rfl⟩
  · rintro ρ' ⟨x2, x4, x5, x6, x7, x8, x9, rfl⟩
    repeat' (first | refine ix0T ?_ | refine ix1T ?_ | refine ix2T ?_ | refine ix0L ?_ | refine ix1L ?_ | refine ix2L ?_ | refine ⟨_, rfl, ?_⟩ | refine ⟨_, _, rfl, rfl, (by show (_ : Nat) ≤ sizeLine; first | assumption | exact big (DOk.strLen (by assumption)) | exact big (DOk.tupLen (by assumption)) | exact big (DOk.lstLen (by assumption)) | exact big (DOw.strLen (by assumption)) | exact big (DOw.tupLen (by assumption)) | exact big (DOw.lstLen (by assumption)) | exact big (DOz.strLen (by assumption)) | exact big (DOz.tupLen (by assumption)) | exact big (DOz.lstLen (by assumption))), ?_⟩ | refine ⟨_, _, rfl, rfl, (by first | decide | (show (0 : Int) < _; decide)), ?_⟩ | refine ⟨_, _, rfl, rfl, ?_⟩ | refine eqR_str ?_ | refine eqR_int ?_ | refine neR_str ?_ | refine neR_int ?_ | refine And.intro rfl ?_ | refine addL (by first | assumption | (rw [sizeLine_eq]; omega) | (rw [sizeLine_eq]; simp; done) | (rw [sizeLine_eq]; simp only [List.length_append, List.length_cons, List.length_nil]; omega)) ?_ | refine addT (by first | assumption | (rw [sizeLine_eq]; omega) | (rw [sizeLine_eq]; simp; done) | (rw [sizeLine_eq]; simp only [List.length_append, List.length_cons, List.length_nil]; omega)) ?_ | refine And.intro (by assumption) ?_ | refine And.intro (by decide) ?_ | refine ⟨_, _, rfl, ?_⟩ | refine iteT rfl ?_ | refine iteF Bool.false_ne_true ?_)
    exact q
end
end K58
set_option Elab.async false
set_option linter.all false
set_option maxRecDepth 100000
set_option maxHeartbeats 1000000
set_option pp.maxSteps 300
/-! K58q: a promise made of a list of one's own -/
namespace K58
open PySem PySem.Spec PyProof.Rows L2 GL DL
def S_initO : IoSp := fun ds P => RowsOk ds ∧ P [("clauses", .list ds)]
section
variable {P : Program} {w : World} {K : PySem.W.Frag} {mg : Str → Option Value} {base : Heap} {f C : Addr} {fd : FuncData}
theorem ok_initO (F : Fun K "__init__" "Promise.__init__" s___init__ f fd) (T : Txt0 mg) (N : CP K mg C) (c_list : ClG P w K mg base 1 "is_list" (spF K spList)) (c_row : ClG P w K mg base 5 "is_promise_row" (spF K (spP rowP))) :
    FnG P w K mg base 6 f fd ["self", "rows"] (spIo K C S_initO) := by
  refine okG F sc___init__ (fun vs H Q E h => by obtain ⟨_, _, _, _, _, _, _, _, _, rfl, _⟩ := h; rfl) fun cdv A out s H vs Q E hG hr h => ?_
  have hu := units_ofx hr
  obtain ⟨a, dx, b, ws, H0, B, G, ds, P', rfl, oc, na, ndx, ne, rfl, sm, hb, nb, gb, hb0, dr, ⟨ok, q⟩, go⟩ := h
  refine ⟨_, pss_cons (ps_if (DB.pt (K := K) (DW.db (dw_or (db_not (db_val (DO.d (do_call rfl c_list hG hr (by omega) (by rfl) (dr_cons (de_v (pv 1)) dr_nil))))) (dw_or1 (db_not (db_val (de_all rfl rfl T.m_all (DO.d (do_lc (own := [("row", 2)]) rfl sc___init__.nd (di_any rfl (de_v (pv 1))) (blkOk_by (N := ["self", "rows", "row"]) (sc := defScope s___init__) (by decide +kernel)) (fun _ _ _ _ _ => (dg_name (pg_name (i := 2) sc___init__.nd rfl (.inl rfl)))) (fun _ _ _ _ _ => dts_nil) (fun _ _ _ _ _ => (do_call rfl c_row hG hr (by omega) (by rfl) (dr_cons (de_v (pv 2)) dr_nil)))))))))))) pss_never pss_nil) (pss_one (ps_fld (pv 0) (pe_callTy call_list_of (by rfl) T.m_list (by decide +kernel) (pa_cons (pv 1) pa_nil)) (by rfl))), ?_⟩
  have nab : b ≠ a := fun z => by rw [z, na] at hb0; cases hb0
  have ndb : b ≠ dx := fun z => by rw [z, ndx] at hb0; cases hb0
  have up : ∀ {c : Addr} {u : HO}, H0 c = some u → upd (upd H0 dx (.own a)) a (.ins C dx []) c = some u := fun {c u} h => by
    rw [upd_ne (ne_of_none h na), upd_ne (ne_of_none h ndx)]
    exact h
  have sG1 : Same G (upd G b (.lst ws)) := fun c u h => by
    rw [upd_ne (fun z => by rw [z, gb] at h; cases h)]
    exact h
  have sG1H : Same (upd G b (.lst ws)) (upd (upd H0 dx (.own a)) a (.ins C dx [])) := fun c u h => by
    by_cases z : c = b
    · subst z
      rw [upd_same] at h
      rw [← h]
      exact up hb0
    · rw [upd_ne z] at h
      exact up (sm _ _ h)
  refine ⟨upd G b (.lst ws), upd (upd H0 dx (.own a)) a (.ins C dx []), none, upd G b (.lst ws), [none, some (.d (.list ds)), none], [], fun b => b = false, ⟨sG1H, Same.refl _, fun _ h => .inl h, fun _ _ h _ => h, (fun _ m => nomatch m), (fun _ e => nomatch e), .non (.d (.lst upd_same (dr.same sG1)) (.non .nil))⟩, ?_, fun b2 G' H' hb2 s2 => ?_⟩
  · have hl : listD (.list ds) = true := rfl
    have hall : (ds.map rowP).all id = true := by
      rw [List.all_map, List.all_eq_true]
      exact fun r m => ok.all r m
    repeat' (first | refine ix0T ?_ | refine ix1T ?_ | refine ix2T ?_ | refine ix0L ?_ | refine ix1L ?_ | refine ix2L ?_ | refine ⟨_, rfl, ?_⟩ | refine ⟨_, _, rfl, rfl, (by show (_ : Nat) ≤ sizeLine; first | assumption | exact big (DOk.strLen (by assumption)) | exact big (DOk.tupLen (by assumption)) | exact big (DOk.lstLen (by assumption)) | exact big (DOw.strLen (by assumption)) | exact big (DOw.tupLen (by assumption)) | exact big (DOw.lstLen (by assumption)) | exact big (DOz.strLen (by assumption)) | exact big (DOz.tupLen (by assumption)) | exact big (DOz.lstLen (by assumption))), ?_⟩ | refine ⟨_, _, rfl, rfl, (by first | decide | (show (0 : Int) < _; decide)), ?_⟩ | refine ⟨_, _, rfl, rfl, ?_⟩ | refine eqR_str ?_ | refine eqR_int ?_ | refine neR_str ?_ | refine neR_int ?_ | refine And.intro rfl ?_ | refine addL (by first | assumption | (rw [sizeLine_eq]; omega) | (rw [sizeLine_eq]; simp; done) | (rw [sizeLine_eq]; simp only [List.length_append, List.length_cons, List.length_nil]; omega)) ?_ | refine addT (by first | assumption | (rw [sizeLine_eq]; omega) | (rw [sizeLine_eq]; simp; done) | (rw [sizeLine_eq]; simp only [List.length_append, List.length_cons, List.length_nil]; omega)) ?_ | refine And.intro (by assumption) ?_ | refine And.intro (by decide) ?_ | refine ⟨_, _, rfl, ?_⟩ | refine iteT rfl ?_ | refine iteF Bool.false_ne_true ?_)
    refine lc_map (fun d => .dat (.bool (rowP d))) (big' ok.ok.lstLen) (fun d hd yes no y => ?_) ?_
    · have okd := ok.ok.lst d hd
      repeat' (first | refine ix0T ?_ | refine ix1T ?_ | refine ix2T ?_ | refine ix0L ?_ | refine ix1L ?_ | refine ix2L ?_ | refine ⟨_, rfl, ?_⟩ | refine ⟨_, _, rfl, rfl, (by show (_ : Nat) ≤ sizeLine; first | assumption | exact big (DOk.strLen (by assumption)) | exact big (DOk.tupLen (by assumption)) | exact big (DOk.lstLen (by assumption)) | exact big (DOw.strLen (by assumption)) | exact big (DOw.tupLen (by assumption)) | exact big (DOw.lstLen (by assumption)) | exact big (DOz.strLen (by assumption)) | exact big (DOz.tupLen (by assumption)) | exact big (DOz.lstLen (by assumption))), ?_⟩ | refine ⟨_, _, rfl, rfl, (by first | decide | (show (0 : Int) < _; decide)), ?_⟩ | refine ⟨_, _, rfl, rfl, ?_⟩ | refine eqR_str ?_ | refine eqR_int ?_ | refine neR_str ?_ | refine neR_int ?_ | refine And.intro rfl ?_ | refine addL (by first | assumption | (rw [sizeLine_eq]; omega) | (rw [sizeLine_eq]; simp; done) | (rw [sizeLine_eq]; simp only [List.length_append, List.length_cons, List.length_nil]; omega)) ?_ | refine addT (by first | assumption | (rw [sizeLine_eq]; omega) | (rw [sizeLine_eq]; simp; done) | (rw [sizeLine_eq]; simp only [List.length_append, List.length_cons, List.length_nil]; omega)) ?_ | refine And.intro (by assumption) ?_ | refine And.intro (by decide) ?_ | refine ⟨_, _, rfl, ?_⟩ | refine iteT rfl ?_ | refine iteF Bool.false_ne_true ?_)
      exact y
    · refine ⟨ds.map rowP, ?_, ?_⟩
      · rw [erase_map]
        simp
      · rw [hall]
        repeat' (first | refine ix0T ?_ | refine ix1T ?_ | refine ix2T ?_ | refine ix0L ?_ | refine ix1L ?_ | refine ix2L ?_ | refine ⟨_, rfl, ?_⟩ | refine ⟨_, _, rfl, rfl, (by show (_ : Nat) ≤ sizeLine; first | assumption | exact big (DOk.strLen (by assumption)) | exact big (DOk.tupLen (by assumption)) | exact big (DOk.lstLen (by assumption)) | exact big (DOw.strLen (by assumption)) | exact big (DOw.tupLen (by assumption)) | exact big (DOw.lstLen (by assumption)) | exact big (DOz.strLen (by assumption)) | exact big (DOz.tupLen (by assumption)) | exact big (DOz.lstLen (by assumption))), ?_⟩ | refine ⟨_, _, rfl, rfl, (by first | decide | (show (0 : Int) < _; decide)), ?_⟩ | refine ⟨_, _, rfl, rfl, ?_⟩ | refine eqR_str ?_ | refine eqR_int ?_ | refine neR_str ?_ | refine neR_int ?_ | refine And.intro rfl ?_ | refine addL (by first | assumption | (rw [sizeLine_eq]; omega) | (rw [sizeLine_eq]; simp; done) | (rw [sizeLine_eq]; simp only [List.length_append, List.length_cons, List.length_nil]; omega)) ?_ | refine addT (by first | assumption | (rw [sizeLine_eq]; omega) | (rw [sizeLine_eq]; simp; done) | (rw [sizeLine_eq]; simp only [List.length_append, List.length_cons, List.length_nil]; omega)) ?_ | refine And.intro (by assumption) ?_ | refine And.intro (by decide) ?_ | refine ⟨_, _, rfl, ?_⟩ | refine iteT rfl ?_ | refine iteF Bool.false_ne_true ?_)
        exact (rfl : (!true) = false)
  · subst hb2
    have keep : ∀ {c : Addr} {u : HO}, H0 c = some u → H' c = some u := fun {c u} h => s2.keep c u (up h) (fun d e => nomatch e)
    have ka : H' a = some (.ins C dx []) := s2.keep a _ upd_same (fun d e => nomatch e)
    have kd : H' dx = some (.own a) := s2.keep dx _ (by rw [upd_ne ne, upd_same]) (fun d e => nomatch e)
    show if false = true then _ else _
    rw [if_neg Bool.false_ne_true]
    refine ⟨.ref b, rfl, b, ws, rfl, .inl (.inl (.inl (keep hb0))), fun l nl => ?_⟩
    have nla : a ≠ l := fun z => by rw [← z, ka] at nl; cases nl
    have nld : dx ≠ l := fun z => by rw [← z, kd] at nl; cases nl
    have n0l : H0 l = none := by
      cases z : H0 l with
      | none => rfl
      | some u => rw [keep z] at nl; cases nl
    refine ⟨.ref a, rfl, a, C, dx, [], rfl, by rw [upd_ne nla]; exact ka, oc.cl, N.nC, by decide, ?_⟩
    have hGf : ∀ {c : Addr} {u : HO}, G c = some u → upd (upd (upd G l (.lst ws)) dx (.own a)) a (.ins C dx [("clauses", .ref l)]) c = some u := fun {c u} h => by
      have h0 := sm _ _ h
      rw [upd_ne (ne_of_none h0 na), upd_ne (ne_of_none h0 ndx), upd_ne (ne_of_none h0 n0l)]
      exact h
    have hHf : ∀ {c : Addr} {u : HO}, H' c = some u → c ≠ a → upd (upd H' l (.lst ws)) a (.ins C dx [("clauses", .ref l)]) c = some u := fun {c u} h hc => by
      rw [upd_ne hc, upd_ne (ne_of_none h nl)]
      exact h
    refine go [("clauses", .list ds)] (upd (upd (upd G l (.lst ws)) dx (.own a)) a (.ins C dx [("clauses", .ref l)])) _ q ⟨fun c u h _ => hHf (keep h) (ne_of_none h na), fun c u h => hGf h, fun c u h => ?_, fun c h => ?_, fun d e h => ?_⟩ ?_
    · by_cases z : c = a
      · subst z
        rw [upd_same] at h
        rw [← h]
        exact upd_same
      · rw [upd_ne z] at h
        show upd (upd H' l (.lst ws)) a (.ins C dx [("clauses", .ref l)]) c = some u
        by_cases z2 : c = dx
        · subst z2
          rw [upd_same] at h
          rw [← h]
          exact hHf kd z
        · rw [upd_ne z2] at h
          by_cases z3 : c = l
          · subst z3
            rw [upd_same] at h
            rw [upd_ne z, upd_same, ← h]
          · rw [upd_ne z3] at h
            exact hHf (keep (sm _ _ h)) z
    · by_cases z : c = a
      · subst z
        exact .inr na
      · rw [upd_ne z] at h
        by_cases z2 : c = dx
        · subst z2
          exact .inr ndx
        · rw [upd_ne z2] at h
          by_cases z3 : c = l
          · subst z3
            exact .inr n0l
          · rw [upd_ne z3] at h
            exact .inl h
    · obtain ⟨g, s', i, ns, h1, h2, h3⟩ := h
      exact ⟨g, s', i, ns, hHf (keep h1) (ne_of_none h1 na), hGf h2, h3⟩
    · refine Dr.mkOb (dx := dx) (vs := [("clauses", .ref l)]) ⟨oc, upd_same, by rw [upd_ne ne, upd_same], rfl, .cons (.lst (xs := ws) ?_ (dr.same fun c u h => hGf h)) .nil⟩
      rw [upd_ne nla.symm, upd_ne nld.symm, upd_same]
end
end K58
set_option Elab.async false
set_option linter.all false
set_option maxRecDepth 100000
set_option maxHeartbeats 4000000
set_option pp.maxSteps 300
/-! K58r: the law -/
namespace K58
open PySem PySem.Spec PyProof.Rows L2 GL DL
/-- a list of rows, and of one that is none -/
structure BadL (bad : List PyData) : Prop where
  ok : DOw (.list bad) ∧ DOw (.tuple bad)
  each : ∀ r ∈ bad, DOw r
  no : bad.all rowP = false
  ne : bad ≠ []
  few : bad.length ≤ 9
theorem badL_of {a b : List PyData} {d : PyData} (h : a.length + b.length ≤ 8) (ha : ∀ r ∈ a, RowG r) (hb : ∀ r ∈ b, RowG r) (hd : OddG d) : BadL (a ++ [d] ++ b) := by
  have e : ∀ r ∈ a ++ [d] ++ b, DOw r ∧ r.weight ≤ 9000 ∧ r.depth ≤ 6 := fun r m => by
    rcases List.mem_append.mp m with m | m
    · rcases List.mem_append.mp m with m | m
      · exact (rowg_ok (ha r m)).1
      · rw [List.mem_singleton.mp m]
        exact ⟨hd.1, hd.2.1, hd.2.2.1⟩
    · exact (rowg_ok (hb r m)).1
  have hl : (a ++ [d] ++ b).length ≤ 9 := by
    rw [List.length_append, List.length_append, List.length_singleton]
    omega
  have k := dow_all e (by decide) (by omega)
  refine ⟨⟨k.1, k.2.1⟩, fun r m => (e r m).1, ?_, by simp, hl⟩
  rw [List.all_eq_false]
  exact ⟨d, by simp, by rw [hd.2.2.2]; exact Bool.false_ne_true⟩
theorem cutLen {rows : List PyData} {i : Int} (h0 : 0 ≤ i) : (DL.cutD rows none (some i)).length + (DL.cutD rows (some i) none).length ≤ rows.length := by
  unfold DL.cutD HT.sIx
  simp
  rw [if_neg (by omega)]
  omega
theorem thing_ok {bad rows : List PyData} (hb : BadL bad) (hl : rows.length ≤ 6) (hg : ∀ r ∈ rows, RowG r) {d : PyData} (h : d ∈ [PyData.list bad, .none, .dict [], .str "rows", .int 5, .list [.list rows], .tuple bad]) :
    ∃ b : Bool, (∀ P : PyData → Prop, P (.bool b) → neX d (.list [.list []]) P) ∧ (b = true → Bad d) := by
  have z : bad.length < sizeLine := by have := hb.few; rw [sizeLine_eq]; omega
  simp only [List.mem_cons, List.not_mem_nil, or_false] at h
  rcases h with rfl | rfl | rfl | rfl | rfl | rfl | rfl
  · exact ⟨_, fun P p => .inl (neR_dat hb.ok.1.nodict rfl hb.ok.1.shaped (by decide +kernel) p), fun _ => .inr ⟨bad, rfl, z, hb.each, hb.no⟩⟩
  · exact ⟨_, fun P p => .inl (neR_dat rfl rfl (by decide +kernel) (by decide +kernel) p), fun _ => .inl rfl⟩
  · exact ⟨true, fun P p => .inr ⟨[], _, rfl, rfl, (fun _ _ e => nomatch e), p⟩, fun _ => .inl rfl⟩
  · exact ⟨_, fun P p => .inl (neR_dat rfl rfl (by decide +kernel) (by decide +kernel) p), fun _ => .inl rfl⟩
  · exact ⟨_, fun P p => .inl (neR_dat rfl rfl (by decide +kernel) (by decide +kernel) p), fun _ => .inl rfl⟩
  · have k := dow_all (n := 9000) (m := 6) (fun r m => (rowg_ok (hg r m)).1) (by decide) (by omega)
    have k2 := dow_all (ds := [.list rows]) (n := 60000) (m := 7) (fun r m => by
      rw [List.mem_singleton.mp m]
      refine ⟨k.1, ?_, ?_⟩
      · have := k.2.2.1
        simp only [PyData.weight]
        omega
      · have := k.2.2.2
        simp only [PyData.depth]
        omega) (by decide) (by show 1 * (60000 + 1) ≤ 100000; decide)
    exact ⟨_, fun P p => .inl (neR_dat k2.1.nodict rfl k2.1.shaped (by decide +kernel) p), fun _ => .inr ⟨[.list rows], rfl, by rw [sizeLine_eq]; show 1 < _; decide, fun r m => by rw [List.mem_singleton.mp m]; exact k.1, rfl⟩⟩
  · exact ⟨_, fun P p => .inl (neR_dat hb.ok.2.nodict rfl hb.ok.2.shaped (by decide +kernel) p), fun _ => .inr ⟨bad, rfl, z, hb.each, hb.no⟩⟩
def spLaw (K : PySem.W.Frag) : Sp := fun vs H Q _ => ∃ (a : Addr) (ns : List Int), vs = [.ref a] ∧ SqL K H a (ns.map V.int) ∧ ns.length ≤ 63 ∧ ∀ H', Q (.bl true) H'
section
variable {P : Program} {w : World} {K : PySem.W.Frag} {mg : Str → Option Value} {base : Heap} {C : Addr}
theorem sc_law : FnScope ["_law_script", "_law_bag", "_law_names_here", "_law_turn", "_law_rows", "_law_handed", "_law_shown", "_law_promise", "_law_told", "_law_k", "_law_patterns", "_law_due", "_law_at", "_law_bad", "_law_thing", "_law_state", "_law_pattern", "_law_later"] ["_law_script"] (defScope s_law) := ⟨rfl, rfl, rfl, by decide +kernel, rfl, by decide +kernel, by decide +kernel⟩
theorem ok_law {f : Addr} {fd : FuncData} (F : Fun K "law" "law" s_law f fd) (T : Txt0 mg) (N : CP K mg C) (GB : Cl P w K mg base 1 "_law_new_bag" (spBag K))
    (c_take : ClG P w K mg base 1 "_law_take" (spF K S_take)) (c_names : ClG P w K mg base 2 "_law_names" (spF K S_names)) (c_prows : ClG P w K mg base 3 "_law_promise_rows" (spF K S_prows))
    (c_alike : ClG P w K mg base 1 "_law_alike" (spF K S_alike)) (c_right : ClG P w K mg base 4 "_law_right" (spF K (S_right C))) (c_dreads : ClG P w K mg base 3 "_law_drawn_reads" (spF K S_dreads))
    (c_equal : ClG P w K mg base 8 "_law_equal_right" (spF K (S_equal C))) (c_never : ClG P w K mg base 8 "never" (spF K (S_never C))) (c_odd : ClG P w K mg base 2 "_law_odd_row" (spF K S_odd)) (c_made : ClG P w K mg base 8 "_law_made" (spF K S_made))
    (m_promise : MkG P w K mg base 6 "Promise" C S_init) (m_own : MkO P w K mg base 6 "Promise" C S_initO) (c_rows : MtG P w K mg base 1 C "rows" (spF K (S_rows C))) :
    FnG P w K mg base 9 f fd ["_law_script"] (spLaw K) := by
  refine okG F sc_law (fun vs H Q E h => ?_) (fun cdv A out s H vs Q E hG hr h => ?_)
  · obtain ⟨a, ns, rfl, _⟩ := h
    rfl
  · obtain ⟨a, ns, rfl, hS, hlen, q⟩ := h
    have hu := units_ofx hr
    have hu6 := units_of hr
    refine ⟨_, C8.pss_cut (ps_set (i := 1) sc_law.nd rfl (.inl rfl) (pe_cl GB hr (by decide) (by rfl) (pa_cons (pv 0) pa_nil))) (DSs.pss (dss_cons (ds_set (i := 2) sc_law.nd rfl (.inl rfl) (do_call rfl c_names hG hr (by omega) (by rfl) (dr_bag (pv 1) (dr_cons de_int dr_nil))))
(dss_cons (ds_frzAt 2 (ds_for PassesOwn.never rfl (di_range1 (by rfl) T.m_range (da_cons de_int da_nil)) (dg_name (pg_name (i := 3) sc_law.nd rfl (.inl rfl)))
(dss_cons (ds_set (i := 4) sc_law.nd rfl (.inl rfl) (do_call rfl c_prows hG hr (by omega) (by rfl) (dr_bag (pv 1) (dr_cons (de_dict (dps_cons (DO.d (do_sl rfl (de_v (pv 2)) io_none (io_some de_int))) (dps_cons (DO.d (do_sl rfl (de_v (pv 2)) (io_some de_int) io_none)) dps_nil)) (by decide +kernel) (by decide)) dr_nil))))
(dss_cut (ds_frzAt 4 (ds_set (i := 5) sc_law.nd rfl (.inl rfl) (do_ixO rfl (doa_cons (do_list rfl T.m_list (de_v (pv 4))) (doa_cons (DE.o (de_tuple rfl T.m_tuple (de_v (pv 4)))) doa_nil)) (DO.d (do_call rfl c_take hG hr (by omega) (by rfl) (dr_bag (pv 1) (dr_cons de_int dr_nil)))))))
(dss_cut (ds_par (i := 6) (j := 7) rfl sc_law.nd rfl rfl (by decide) rfl rfl (doa_cons (DE.o (de_flat (de_repr rfl hG hu6 T.m_repr (de_v (pv 5))))) (doa_cons (DE.o (DE.or (de_makeO rfl m_own hG hr (by omega) (by rfl) (pv 5)) (de_make rfl m_promise hG hr (by omega) (by rfl) (dr_cons (de_v (pv 5)) dr_nil)))) doa_nil)) (by rfl))
(dss_cut (ds_if (db_ne rfl hu (de_flat (de_repr rfl hG hu6 T.m_repr (de_v (pv 5)))) (de_v (pv 6)))
(dss_one (ds_ret (DE.o de_bl)))
dss_nil)
(dss_cut (ds_if (db_val (de_flat (de_isi (T := "list") rfl (de_v (pv 5)) (by rfl) T.m_isinstance (by rfl) T.m_list (by decide +kernel) (by decide))))
(dss_one (ds_append rfl (pv 5) (DE.o de_non)))
dss_nil)
(dss_cons (ds_set (i := 8) sc_law.nd rfl (.inl rfl) (do_meth0 rfl N.own.cl c_rows hG hr (by omega) (de_v (pv 7))))
(dss_cons (ds_if (db_not (db_val (de_flat (DO.d (do_call rfl c_alike hG hr (by omega) (by rfl) (dr_cons (de_v (pv 8)) (dr_cons (de_v (pv 4)) dr_nil)))))))
(dss_one (ds_ret (DE.o de_bl)))
dss_nil)
(dss_cut (ds_append rfl (pv 8) (DE.o de_non))
(dss_cut (ds_for PassesOwn.never rfl (di_range1 (by rfl) T.m_range (da_cons de_int da_nil)) (dg_name (pg_name (i := 9) sc_law.nd rfl (.inl rfl)))
(dss_one (ds_if (db_not (db_val (DO.d (do_call rfl c_right hG hr (by omega) (by rfl) (dr_bag (pv 1) (dr_cons (de_v (pv 7)) (dr_cons (de_v (pv 4)) (dr_cons (DO.d (do_call rfl c_dreads hG hr (by omega) (by rfl) (dr_bag (pv 1) (dr_cons (de_v (pv 2)) dr_nil)))) dr_nil))))))))
(dss_one (ds_ret (DE.o de_bl)))
dss_nil)))
(dss_cons (ds_if (db_not (db_val (DO.d (do_call rfl c_equal hG hr (by omega) (by rfl) (dr_cons (de_v (pv 7)) (dr_cons (de_v (pv 4)) dr_nil))))))
(dss_one (ds_ret (DE.o de_bl)))
dss_nil)
(dss_cut (ds_setLc (i := 10) (own := [("_law_state", 15), ("_law_pattern", 16), ("_law_later", 17)]) rfl sc_law.nd rfl rfl (sw_true rfl rfl rfl (by decide +kernel)) (di_any rfl (de_v (pv 4))) (blkOk_by (N := ["_law_script", "_law_bag", "_law_names_here", "_law_turn", "_law_rows", "_law_handed", "_law_shown", "_law_promise", "_law_told", "_law_k", "_law_patterns", "_law_due", "_law_at", "_law_bad", "_law_thing", "_law_state", "_law_pattern", "_law_later"]) (sc := defScope s_law) (by decide +kernel)) (fun _ _ _ _ _ => (dg_tup (n := 3) rfl rfl (dgs_cons (dg_name (pg_name (i := 15) sc_law.nd rfl (.inl rfl))) (dgs_cons (dg_name (pg_name (i := 16) sc_law.nd rfl (.inl rfl))) (dgs_cons (dg_name (pg_name (i := 17) sc_law.nd rfl (.inl rfl))) dgs_nil))))) (fun _ _ _ _ _ => dts_nil) (fun _ _ _ _ _ => (DE.o (de_v (pv 16)))))
(dss_cons (ds_frzAt 10 (ds_par (i := 11) (j := 6) rfl sc_law.nd rfl rfl (by decide) rfl rfl (doa_cons (do_lc (own := [("_law_pattern", 16)]) rfl sc_law.nd (di_any rfl (de_v (pv 10))) (blkOk_by (N := ["_law_script", "_law_bag", "_law_names_here", "_law_turn", "_law_rows", "_law_handed", "_law_shown", "_law_promise", "_law_told", "_law_k", "_law_patterns", "_law_due", "_law_at", "_law_bad", "_law_thing", "_law_state", "_law_pattern", "_law_later"]) (sc := defScope s_law) (by decide +kernel)) (fun _ _ _ _ _ => (dg_name (pg_name (i := 16) sc_law.nd rfl (.inl rfl)))) (fun _ _ _ _ _ => dts_nil) (fun _ _ _ _ _ => (DE.o (de_tup (da_cons de_int (da_cons (de_v (pv 16)) (da_cons de_non da_nil))))))) (doa_cons (DE.o (de_repr rfl hG hu6 T.m_repr (de_v (pv 10)))) doa_nil)) (by rfl)))
(dss_cut (ds_if (DW.db (dw_or (db_not (db_val (de_flat (DO.d (do_call rfl c_alike hG hr (by omega) (by rfl) (dr_cons (DO.d (do_meth0 rfl N.own.cl c_rows hG hr (by omega) (DO.d (do_call rfl c_never hG hr (by omega) (by rfl) (dr_cons (de_v (pv 10)) dr_nil))))) (dr_cons (de_v (pv 11)) dr_nil))))))) (dw_or1 (db_ne rfl hu (de_repr rfl hG hu6 T.m_repr (de_v (pv 10))) (de_v (pv 6))))))
(dss_one (ds_ret (DE.o de_bl)))
dss_nil)
(dss_cons (ds_set (i := 12) sc_law.nd rfl (.inl rfl) (do_call rfl c_take hG hr (by omega) (by rfl) (dr_bag (pv 1) (dr_cons (DO.d (do_add rfl (de_len rfl T.m_len (de_v (pv 4))) de_int)) dr_nil))))
(dss_cut (ds_set (i := 13) sc_law.nd rfl (.inl rfl) (do_add rfl (DO.d (do_add rfl (DO.d (do_sl rfl (de_v (pv 4)) io_none (io_some (de_v (pv 12))))) (DO.d (do_lst (da_cons (DO.d (do_call rfl c_odd hG hr (by omega) (by rfl) (dr_bag (pv 1) (dr_cons (de_ixA rfl (DO.d (do_add rfl (de_v (pv 4)) (DO.d (do_lst (da_cons (de_tup (da_cons de_int (da_cons (de_tup (da_cons de_str (da_cons de_int (da_cons de_int da_nil)))) (da_cons de_int da_nil)))) da_nil))))) (de_v (pv 12))) dr_nil)))) da_nil))))) (DO.d (do_sl rfl (de_v (pv 4)) (io_some (de_v (pv 12))) io_none))))
(dss_cut (ds_frzAt 13 (ds_for PassesOwn.never rfl (di_any rfl (DO.d (do_lst (da_cons (de_v (pv 13)) (da_cons de_non (da_cons de_dnew (da_cons de_str (da_cons de_int (da_cons (DO.d (do_lst (da_cons (de_v (pv 4)) da_nil))) (da_cons (de_tuple rfl T.m_tuple (de_v (pv 13))) da_nil)))))))))) (dg_name (pg_name (i := 14) sc_law.nd rfl (.inl rfl)))
(dss_one (ds_if (DW.db (dw_and (db_neX rfl hu (de_v (pv 14)) (DO.d (do_lst (da_cons (DO.d (do_lst da_nil)) da_nil)))) (dw_and1 (db_ne rfl hu (DO.d (do_call rfl c_made hG hr (by omega) (by rfl) (dr_cons (de_v (pv 14)) dr_nil))) de_str))))
(dss_one (ds_ret (DE.o de_bl)))
dss_nil))))
(dss_one (ds_if (DW.db (dw_or (db_ne rfl hu (DO.d (do_call rfl c_made hG hr (by omega) (by rfl) (dr_cons (DO.d (do_lst da_nil)) dr_nil))) de_str) (dw_or (db_ne rfl hu (DO.d (do_call rfl c_made hG hr (by omega) (by rfl) (dr_cons (de_tup da_nil) dr_nil))) de_str) (dw_or1 (db_ne rfl hu (de_repr rfl hG hu6 T.m_repr (de_v (pv 4))) (de_repr rfl hG hu6 T.m_repr (DO.d (do_meth0 rfl N.own.cl c_rows hG hr (by omega) (de_v (pv 7))))))))))
(dss_one (ds_ret (DE.o de_bl)))
dss_nil))))))))))))))))))))
(dss_one (ds_ret (DE.o de_bl)))))), ?_⟩
    refine ⟨fun σ H' => ∃ b c, σ = [some (.ref a), some (.ref b), none, none, none, none, none, none, none, none, none, none, none, none, none, none, none, none] ∧ Bg H' b c, ?_, ?_⟩
    · exact ⟨.ref a, rfl, a, ns, rfl, hS, hlen, fun b H' _ _ ⟨c, bag⟩ => ⟨b, c, rfl, bag⟩⟩
    · rintro σ H0 ⟨b, c, rfl, g, s0, j, ms, hb, hc, hj⟩
      refine law_from (i := 0) (H := H0) (ρ := [none, some .bag, none, none, none, none, none, none, none, none, none, none, none, none, none, none, none, none]) (P := { nx := fun _ => False, rt := fun o => o = .dat (.bool true) }) hb hc hj (Bg.ne hb hc)
        (.non (.bag rfl (.non (.non (.non (.non (.non (.non (.non (.non (.non (.non (.non (.non (.non (.non (.non (.non .nil)))))))))))))))))) ?_ (fun _ h => h) (fun _ h => h) (fun H2 => q H2) (fun _ h => h) (fun _ h => h)
      clear q hb hc hj hS hlen
      repeat' (first | refine ix0T ?_ | refine ix1T ?_ | refine ix2T ?_ | refine ix0L ?_ | refine ix1L ?_ | refine ix2L ?_ | refine ⟨_, rfl, ?_⟩ | refine ⟨_, _, rfl, rfl, (by show (_ : Nat) ≤ sizeLine; first | assumption | exact big (DOk.strLen (by assumption)) | exact big (DOk.tupLen (by assumption)) | exact big (DOk.lstLen (by assumption)) | exact big (DOw.strLen (by assumption)) | exact big (DOw.tupLen (by assumption)) | exact big (DOw.lstLen (by assumption)) | exact big (DOz.strLen (by assumption)) | exact big (DOz.tupLen (by assumption)) | exact big (DOz.lstLen (by assumption))), ?_⟩ | refine ⟨_, _, rfl, rfl, (by first | decide | (show (0 : Int) < _; decide)), ?_⟩ | refine ⟨_, _, rfl, rfl, ?_⟩ | refine eqR_str ?_ | refine eqR_int ?_ | refine neR_str ?_ | refine neR_int ?_ | refine And.intro rfl ?_ | refine addL (by first | assumption | (rw [sizeLine_eq]; omega) | (rw [sizeLine_eq]; simp; done) | (rw [sizeLine_eq]; simp only [List.length_append, List.length_cons, List.length_nil]; omega)) ?_ | refine addT (by first | assumption | (rw [sizeLine_eq]; omega) | (rw [sizeLine_eq]; simp; done) | (rw [sizeLine_eq]; simp only [List.length_append, List.length_cons, List.length_nil]; omega)) ?_ | refine And.intro (by assumption) ?_ | refine And.intro (by decide) ?_ | refine ⟨_, _, rfl, ?_⟩ | refine iteT rfl ?_ | refine iteF Bool.false_ne_true ?_)
      intro zs hz3 hzn
      have hz10 : zs.length ≤ 10 := by omega
      have hzne : zs ≠ [] := fun z => by rw [z] at hz3; cases hz3
      have hc1 := cut_few (zs.map PyData.str) none (some 2)
      have hc2 := cut_few (zs.map PyData.str) (some 1) none
      obtain ⟨z0, z1, z2, rfl⟩ : ∃ z0 z1 z2, zs = [z0, z1, z2] := by
        match zs, hz3 with
        | [a, b, c], _ => exact ⟨a, b, c, rfl⟩
      have hn0 := hzn z0 (by simp)
      have hn1 := hzn z1 (by simp)
      have hn2 := hzn z2 (by simp)
      obtain ⟨zs, ezs⟩ : ∃ zs, zs = [z0, z1, z2] := ⟨_, rfl⟩
      rw [← ezs] at hz10 hzne hzn hc1 hc2 ⊢
      have hcut1 : DL.cutD (zs.map PyData.str) none (some 2) = [z0, z1].map PyData.str := by rw [ezs]; rfl
      have hcut2 : DL.cutD (zs.map PyData.str) (some 1) none = [z1, z2].map PyData.str := by rw [ezs]; rfl
      clear hc1 hc2
      repeat' (first | refine ix0T ?_ | refine ix1T ?_ | refine ix2T ?_ | refine ix0L ?_ | refine ix1L ?_ | refine ix2L ?_ | refine ⟨_, rfl, ?_⟩ | refine ⟨_, _, rfl, rfl, (by show (_ : Nat) ≤ sizeLine; first | assumption | exact big (DOk.strLen (by assumption)) | exact big (DOk.tupLen (by assumption)) | exact big (DOk.lstLen (by assumption)) | exact big (DOw.strLen (by assumption)) | exact big (DOw.tupLen (by assumption)) | exact big (DOw.lstLen (by assumption)) | exact big (DOz.strLen (by assumption)) | exact big (DOz.tupLen (by assumption)) | exact big (DOz.lstLen (by assumption))), ?_⟩ | refine ⟨_, _, rfl, rfl, (by first | decide | (show (0 : Int) < _; decide)), ?_⟩ | refine ⟨_, _, rfl, rfl, ?_⟩ | refine eqR_str ?_ | refine eqR_int ?_ | refine neR_str ?_ | refine neR_int ?_ | refine And.intro rfl ?_ | refine addL (by first | assumption | (rw [sizeLine_eq]; omega) | (rw [sizeLine_eq]; simp; done) | (rw [sizeLine_eq]; simp only [List.length_append, List.length_cons, List.length_nil]; omega)) ?_ | refine addT (by first | assumption | (rw [sizeLine_eq]; omega) | (rw [sizeLine_eq]; simp; done) | (rw [sizeLine_eq]; simp only [List.length_append, List.length_cons, List.length_nil]; omega)) ?_ | refine And.intro (by assumption) ?_ | refine And.intro (by decide) ?_ | refine ⟨_, _, rfl, ?_⟩ | refine iteT rfl ?_ | refine iteF Bool.false_ne_true ?_)
      refine ⟨fun i ρ' => ∃ (x3 x4 x5 x6 x7 x8 x9 x10 x11 x12 x13 x14 x15 x16 x17 : Option En), ρ' = [none, some En.bag, some (En.d (.list (zs.map .str))), x3, x4, x5, x6, x7, x8, x9, x10, x11, x12, x13, x14, x15, x16, x17], ?_, ?_, ?_⟩
      · refine ⟨none, none, none, none, none, none, none, none, none, none, none, none, none, none, none, ?_⟩
        show [none, some En.bag, some (En.d (O.lst ((zs.map PyData.str).map O.dat)).erase), none, none, none, none, none, none, none, none, none, none, none, none, none, none, none] = _
        rw [erase_dat (zs.map PyData.str)]
      · rintro i tn ρ' htn ⟨x3, x4, x5, x6, x7, x8, x9, x10, x11, x12, x13, x14, x15, x16, x17, rfl⟩
        clear htn
        repeat' (first | refine ix0T ?_ | refine ix1T ?_ | refine ix2T ?_ | refine ix0L ?_ | refine ix1L ?_ | refine ix2L ?_ | refine ⟨_, rfl, ?_⟩ | refine ⟨_, _, rfl, rfl, (by show (_ : Nat) ≤ sizeLine; first | assumption | exact big (DOk.strLen (by assumption)) | exact big (DOk.tupLen (by assumption)) | exact big (DOk.lstLen (by assumption)) | exact big (DOw.strLen (by assumption)) | exact big (DOw.tupLen (by assumption)) | exact big (DOw.lstLen (by assumption)) | exact big (DOz.strLen (by assumption)) | exact big (DOz.tupLen (by assumption)) | exact big (DOz.lstLen (by assumption))), ?_⟩ | refine ⟨_, _, rfl, rfl, (by first | decide | (show (0 : Int) < _; decide)), ?_⟩ | refine ⟨_, _, rfl, rfl, ?_⟩ | refine eqR_str ?_ | refine eqR_int ?_ | refine neR_str ?_ | refine neR_int ?_ | refine And.intro rfl ?_ | refine addL (by first | assumption | (rw [sizeLine_eq]; omega) | (rw [sizeLine_eq]; simp; done) | (rw [sizeLine_eq]; simp only [List.length_append, List.length_cons, List.length_nil]; omega)) ?_ | refine addT (by first | assumption | (rw [sizeLine_eq]; omega) | (rw [sizeLine_eq]; simp; done) | (rw [sizeLine_eq]; simp only [List.length_append, List.length_cons, List.length_nil]; omega)) ?_ | refine And.intro (by assumption) ?_ | refine And.intro (by decide) ?_ | refine ⟨_, _, rfl, ?_⟩ | refine iteT rfl ?_ | refine iteF Bool.false_ne_true ?_)
        refine ⟨[z0, z1], [z1, z2], ?_, by simp, by simp, by simp, by simp [hn0, hn1], by simp [hn1, hn2], fun rows hrl hrg => ?_⟩
        · rw [erase_dat (DL.cutD (zs.map PyData.str) none (some 2)), erase_dat (DL.cutD (zs.map PyData.str) (some 1) none), hcut1, hcut2]
          rfl
        have okr : RowsOk rows := rows_ok (by omega) hrg
        have e4 : frzAt (([none, some En.bag, some (En.d (.list (zs.map .str))), x3, x4, x5, x6, x7, x8, x9, x10, x11, x12, x13, x14, x15, x16, x17].set 3 (some (En.d tn))).set 4 (some (En.of (O.lst (rows.map O.dat))))) 4 = [none, some En.bag, some (En.d (.list (zs.map .str))), some (En.d tn), some (En.d (.list rows)), x5, x6, x7, x8, x9, x10, x11, x12, x13, x14, x15, x16, x17] := by
          show [none, some En.bag, some (En.d (.list (zs.map .str))), some (En.d tn), some (En.d (.list (eraseAll (rows.map O.dat)))), x5, x6, x7, x8, x9, x10, x11, x12, x13, x14, x15, x16, x17] = _
          rw [eraseAll_dat]
        dsimp only
        refine ⟨fun ρ' => ∃ (h : En) (x6 x7 x8 x9 x10 x11 x12 x13 x14 x15 x16 x17 : Option En), ρ' = [none, some En.bag, some (En.d (.list (zs.map .str))), some (En.d tn), some (En.d (.list rows)), some h, x6, x7, x8, x9, x10, x11, x12, x13, x14, x15, x16, x17] ∧ (h = .l (rows.map .dat) ∨ h = .d (.tuple rows)), ?_, ?_⟩
        · rw [e4]
          repeat' (first | refine ix0T ?_ | refine ix1T ?_ | refine ix2T ?_ | refine ix0L ?_ | refine ix1L ?_ | refine ix2L ?_ | refine ⟨_, rfl, ?_⟩ | refine ⟨_, _, rfl, rfl, (by show (_ : Nat) ≤ sizeLine; first | assumption | exact big (DOk.strLen (by assumption)) | exact big (DOk.tupLen (by assumption)) | exact big (DOk.lstLen (by assumption)) | exact big (DOw.strLen (by assumption)) | exact big (DOw.tupLen (by assumption)) | exact big (DOw.lstLen (by assumption)) | exact big (DOz.strLen (by assumption)) | exact big (DOz.tupLen (by assumption)) | exact big (DOz.lstLen (by assumption))), ?_⟩ | refine ⟨_, _, rfl, rfl, (by first | decide | (show (0 : Int) < _; decide)), ?_⟩ | refine ⟨_, _, rfl, rfl, ?_⟩ | refine eqR_str ?_ | refine eqR_int ?_ | refine neR_str ?_ | refine neR_int ?_ | refine And.intro rfl ?_ | refine addL (by first | assumption | (rw [sizeLine_eq]; omega) | (rw [sizeLine_eq]; simp; done) | (rw [sizeLine_eq]; simp only [List.length_append, List.length_cons, List.length_nil]; omega)) ?_ | refine addT (by first | assumption | (rw [sizeLine_eq]; omega) | (rw [sizeLine_eq]; simp; done) | (rw [sizeLine_eq]; simp only [List.length_append, List.length_cons, List.length_nil]; omega)) ?_ | refine And.intro (by assumption) ?_ | refine And.intro (by decide) ?_ | refine ⟨_, _, rfl, ?_⟩ | refine iteT rfl ?_ | refine iteF Bool.false_ne_true ?_)
          refine ⟨by show 2 ≤ 1000; decide, ?_⟩
          repeat' (first | refine ix0T ?_ | refine ix1T ?_ | refine ix2T ?_ | refine ix0L ?_ | refine ix1L ?_ | refine ix2L ?_ | refine ⟨_, rfl, ?_⟩ | refine ⟨_, _, rfl, rfl, (by show (_ : Nat) ≤ sizeLine; first | assumption | exact big (DOk.strLen (by assumption)) | exact big (DOk.tupLen (by assumption)) | exact big (DOk.lstLen (by assumption)) | exact big (DOw.strLen (by assumption)) | exact big (DOw.tupLen (by assumption)) | exact big (DOw.lstLen (by assumption)) | exact big (DOz.strLen (by assumption)) | exact big (DOz.tupLen (by assumption)) | exact big (DOz.lstLen (by assumption))), ?_⟩ | refine ⟨_, _, rfl, rfl, (by first | decide | (show (0 : Int) < _; decide)), ?_⟩ | refine ⟨_, _, rfl, rfl, ?_⟩ | refine eqR_str ?_ | refine eqR_int ?_ | refine neR_str ?_ | refine neR_int ?_ | refine And.intro rfl ?_ | refine addL (by first | assumption | (rw [sizeLine_eq]; omega) | (rw [sizeLine_eq]; simp; done) | (rw [sizeLine_eq]; simp only [List.length_append, List.length_cons, List.length_nil]; omega)) ?_ | refine addT (by first | assumption | (rw [sizeLine_eq]; omega) | (rw [sizeLine_eq]; simp; done) | (rw [sizeLine_eq]; simp only [List.length_append, List.length_cons, List.length_nil]; omega)) ?_ | refine And.intro (by assumption) ?_ | refine And.intro (by decide) ?_ | refine ⟨_, _, rfl, ?_⟩ | refine iteT rfl ?_ | refine iteF Bool.false_ne_true ?_)
          intro r hr0 hr1
          have hr : r = 0 ∨ r = 1 := by omega
          rcases hr with rfl | rfl
          · refine ⟨0, _, rfl, at0, ?_⟩
            exact ⟨_, _, _, _, _, _, _, _, _, _, _, _, _, rfl, .inl rfl⟩
          · refine ⟨1, _, rfl, at1, ?_⟩
            exact ⟨_, _, _, _, _, _, _, _, _, _, _, _, _, rfl, .inr rfl⟩
        · rintro ρ' ⟨h, x6, x7, x8, x9, x10, x11, x12, x13, x14, x15, x16, x17, rfl, hh⟩
          have okl := okr.ok
          have okt : DOw (.tuple rows) := (dow_all (n := 9000) (m := 6) (fun r m => (rowg_ok (hrg r m)).1) (by decide) (by omega)).2.1
          have hn1 := okl.nodict
          have hn2 := okt.nodict
          have hs1 := okl.shows
          have hs2 := okt.shows
          have hd1 : (PyData.list rows).depth ≤ 64 := Nat.le_trans okl.deep (by decide)
          have hd2 : (PyData.tuple rows).depth ≤ 64 := Nat.le_trans okt.deep (by decide)
          have hf1 := okl.fits
          have hf2 := okt.fits
          obtain ⟨J3, hJ3⟩ : ∃ J : Env' → Prop, J = fun ρ' => ∃ (h : En) (d : PyData) (x8 x9 x10 x11 x12 x13 x14 x15 x16 x17 : Option En), ρ' = [none, some En.bag, some (En.d (.list (zs.map .str))), some (En.d tn), some (En.d (.list rows)), some h, some (En.d (.str d.shown)), some (En.d (objP C rows)), x8, x9, x10, x11, x12, x13, x14, x15, x16, x17] ∧ ((h = .l (rows.map .dat) ∧ d = .list rows) ∨ (h = .d (.tuple rows) ∧ d = .tuple rows)) := ⟨_, rfl⟩
          have hfz : ∀ (x6 x7 x8 x9 x10 x11 x12 x13 x14 x15 x16 x17 : Option En), frz [none, some En.bag, some (En.d (.list (zs.map .str))), some (En.d tn), some (En.d (.list rows)), some (En.l (rows.map O.dat)), x6, x7, x8, x9, x10, x11, x12, x13, x14, x15, x16, x17] = frz [none, some En.bag, some (En.d (.list (zs.map .str))), some (En.d tn), some (En.d (.list rows)), some (En.d (.list rows)), x6, x7, x8, x9, x10, x11, x12, x13, x14, x15, x16, x17] := fun x6 x7 x8 x9 x10 x11 x12 x13 x14 x15 x16 x17 => by
            show (_ :: _ :: _ :: _ :: _ :: some (En.d (.list (eraseAll (rows.map O.dat)))) :: _) = _
            rw [eraseAll_dat]
            rfl
          have hsz : (rows.map O.dat).length < sizeLine := by rw [List.length_map, sizeLine_eq]; omega
          obtain ⟨J, hJ⟩ : ∃ J : Env' → Prop, J = fun ρ' => ∃ (x5 x6 x8 x9 x10 x11 x12 x13 x14 x15 x16 x17 : Option En), ρ' = [none, some En.bag, some (En.d (.list (zs.map .str))), some (En.d tn), some (En.d (.list rows)), x5, x6, some (En.d (objP C rows)), x8, x9, x10, x11, x12, x13, x14, x15, x16, x17] := ⟨_, rfl⟩
          have jj : ∀ (x5 x6 x8 x9 x10 x11 x12 x13 x14 x15 x16 x17 : Option En), J [none, some En.bag, some (En.d (.list (zs.map .str))), some (En.d tn), some (En.d (.list rows)), x5, x6, some (En.d (objP C rows)), x8, x9, x10, x11, x12, x13, x14, x15, x16, x17] := fun x5 x6 x8 x9 x10 x11 x12 x13 x14 x15 x16 x17 => by rw [hJ]; exact ⟨_, _, _, _, _, _, _, _, _, _, _, _, rfl⟩
          have j3a : ∀ (x8 x9 x10 x11 x12 x13 x14 x15 x16 x17 : Option En), J3 [none, some En.bag, some (En.d (.list (zs.map .str))), some (En.d tn), some (En.d (.list rows)), some (.l (rows.map .dat)), some (En.d (.str (PyData.list rows).shown)), some (En.d (objP C rows)), x8, x9, x10, x11, x12, x13, x14, x15, x16, x17] := fun x8 x9 x10 x11 x12 x13 x14 x15 x16 x17 => by rw [hJ3]; exact ⟨_, _, _, _, _, _, _, _, _, _, _, _, rfl, .inl ⟨rfl, rfl⟩⟩
          have j3b : ∀ (x8 x9 x10 x11 x12 x13 x14 x15 x16 x17 : Option En), J3 [none, some En.bag, some (En.d (.list (zs.map .str))), some (En.d tn), some (En.d (.list rows)), some (.d (.tuple rows)), some (En.d (.str (PyData.tuple rows).shown)), some (En.d (objP C rows)), x8, x9, x10, x11, x12, x13, x14, x15, x16, x17] := fun x8 x9 x10 x11 x12 x13 x14 x15 x16 x17 => by rw [hJ3]; exact ⟨_, _, _, _, _, _, _, _, _, _, _, _, rfl, .inr ⟨rfl, rfl⟩⟩
          refine ⟨J3, ?_, ?_⟩
          · rcases hh with rfl | rfl
            · rw [hfz]
              repeat' (first | refine ix0T ?_ | refine ix1T ?_ | refine ix2T ?_ | refine ix0L ?_ | refine ix1L ?_ | refine ix2L ?_ | refine ⟨_, rfl, ?_⟩ | refine ⟨_, _, rfl, rfl, (by show (_ : Nat) ≤ sizeLine; first | assumption | exact big (DOk.strLen (by assumption)) | exact big (DOk.tupLen (by assumption)) | exact big (DOk.lstLen (by assumption)) | exact big (DOw.strLen (by assumption)) | exact big (DOw.tupLen (by assumption)) | exact big (DOw.lstLen (by assumption)) | exact big (DOz.strLen (by assumption)) | exact big (DOz.tupLen (by assumption)) | exact big (DOz.lstLen (by assumption))), ?_⟩ | refine ⟨_, _, rfl, rfl, (by first | decide | (show (0 : Int) < _; decide)), ?_⟩ | refine ⟨_, _, rfl, rfl, ?_⟩ | refine eqR_str ?_ | refine eqR_int ?_ | refine neR_str ?_ | refine neR_int ?_ | refine And.intro rfl ?_ | refine addL (by first | assumption | (rw [sizeLine_eq]; omega) | (rw [sizeLine_eq]; simp; done) | (rw [sizeLine_eq]; simp only [List.length_append, List.length_cons, List.length_nil]; omega)) ?_ | refine addT (by first | assumption | (rw [sizeLine_eq]; omega) | (rw [sizeLine_eq]; simp; done) | (rw [sizeLine_eq]; simp only [List.length_append, List.length_cons, List.length_nil]; omega)) ?_ | refine And.intro (by assumption) ?_ | refine And.intro (by decide) ?_ | refine ⟨_, _, rfl, ?_⟩ | refine iteT rfl ?_ | refine iteF Bool.false_ne_true ?_)
              exact .inl ⟨rows, rfl, okr, _, _, rfl, j3a _ _ _ _ _ _ _ _ _ _⟩
            · repeat' (first | refine ix0T ?_ | refine ix1T ?_ | refine ix2T ?_ | refine ix0L ?_ | refine ix1L ?_ | refine ix2L ?_ | refine ⟨_, rfl, ?_⟩ | refine ⟨_, _, rfl, rfl, (by show (_ : Nat) ≤ sizeLine; first | assumption | exact big (DOk.strLen (by assumption)) | exact big (DOk.tupLen (by assumption)) | exact big (DOk.lstLen (by assumption)) | exact big (DOw.strLen (by assumption)) | exact big (DOw.tupLen (by assumption)) | exact big (DOw.lstLen (by assumption)) | exact big (DOz.strLen (by assumption)) | exact big (DOz.tupLen (by assumption)) | exact big (DOz.lstLen (by assumption))), ?_⟩ | refine ⟨_, _, rfl, rfl, (by first | decide | (show (0 : Int) < _; decide)), ?_⟩ | refine ⟨_, _, rfl, rfl, ?_⟩ | refine eqR_str ?_ | refine eqR_int ?_ | refine neR_str ?_ | refine neR_int ?_ | refine And.intro rfl ?_ | refine addL (by first | assumption | (rw [sizeLine_eq]; omega) | (rw [sizeLine_eq]; simp; done) | (rw [sizeLine_eq]; simp only [List.length_append, List.length_cons, List.length_nil]; omega)) ?_ | refine addT (by first | assumption | (rw [sizeLine_eq]; omega) | (rw [sizeLine_eq]; simp; done) | (rw [sizeLine_eq]; simp only [List.length_append, List.length_cons, List.length_nil]; omega)) ?_ | refine And.intro (by assumption) ?_ | refine And.intro (by decide) ?_ | refine ⟨_, _, rfl, ?_⟩ | refine iteT rfl ?_ | refine iteF Bool.false_ne_true ?_)
              exact .inr ⟨_, rfl, _, rows, rfl, rfl, okr, _, _, rfl, j3b _ _ _ _ _ _ _ _ _ _⟩
          rw [hJ3]
          rintro ρ' ⟨h, d, x8, x9, x10, x11, x12, x13, x14, x15, x16, x17, rfl, hh⟩
          refine ⟨J3, ?_, ?_⟩
          · rcases hh with ⟨rfl, rfl⟩ | ⟨rfl, rfl⟩
            · rw [hfz]
              repeat' (first | refine ix0T ?_ | refine ix1T ?_ | refine ix2T ?_ | refine ix0L ?_ | refine ix1L ?_ | refine ix2L ?_ | refine ⟨_, rfl, ?_⟩ | refine ⟨_, _, rfl, rfl, (by show (_ : Nat) ≤ sizeLine; first | assumption | exact big (DOk.strLen (by assumption)) | exact big (DOk.tupLen (by assumption)) | exact big (DOk.lstLen (by assumption)) | exact big (DOw.strLen (by assumption)) | exact big (DOw.tupLen (by assumption)) | exact big (DOw.lstLen (by assumption)) | exact big (DOz.strLen (by assumption)) | exact big (DOz.tupLen (by assumption)) | exact big (DOz.lstLen (by assumption))), ?_⟩ | refine ⟨_, _, rfl, rfl, (by first | decide | (show (0 : Int) < _; decide)), ?_⟩ | refine ⟨_, _, rfl, rfl, ?_⟩ | refine eqR_str ?_ | refine eqR_int ?_ | refine neR_str ?_ | refine neR_int ?_ | refine And.intro rfl ?_ | refine addL (by first | assumption | (rw [sizeLine_eq]; omega) | (rw [sizeLine_eq]; simp; done) | (rw [sizeLine_eq]; simp only [List.length_append, List.length_cons, List.length_nil]; omega)) ?_ | refine addT (by first | assumption | (rw [sizeLine_eq]; omega) | (rw [sizeLine_eq]; simp; done) | (rw [sizeLine_eq]; simp only [List.length_append, List.length_cons, List.length_nil]; omega)) ?_ | refine And.intro (by assumption) ?_ | refine And.intro (by decide) ?_ | refine ⟨_, _, rfl, ?_⟩ | refine iteT rfl ?_ | refine iteF Bool.false_ne_true ?_)
              rw [decide_eq_true rfl]
              exact iteF (j3a _ _ _ _ _ _ _ _ _ _)
            · repeat' (first | refine ix0T ?_ | refine ix1T ?_ | refine ix2T ?_ | refine ix0L ?_ | refine ix1L ?_ | refine ix2L ?_ | refine ⟨_, rfl, ?_⟩ | refine ⟨_, _, rfl, rfl, (by show (_ : Nat) ≤ sizeLine; first | assumption | exact big (DOk.strLen (by assumption)) | exact big (DOk.tupLen (by assumption)) | exact big (DOk.lstLen (by assumption)) | exact big (DOw.strLen (by assumption)) | exact big (DOw.tupLen (by assumption)) | exact big (DOw.lstLen (by assumption)) | exact big (DOz.strLen (by assumption)) | exact big (DOz.tupLen (by assumption)) | exact big (DOz.lstLen (by assumption))), ?_⟩ | refine ⟨_, _, rfl, rfl, (by first | decide | (show (0 : Int) < _; decide)), ?_⟩ | refine ⟨_, _, rfl, rfl, ?_⟩ | refine eqR_str ?_ | refine eqR_int ?_ | refine neR_str ?_ | refine neR_int ?_ | refine And.intro rfl ?_ | refine addL (by first | assumption | (rw [sizeLine_eq]; omega) | (rw [sizeLine_eq]; simp; done) | (rw [sizeLine_eq]; simp only [List.length_append, List.length_cons, List.length_nil]; omega)) ?_ | refine addT (by first | assumption | (rw [sizeLine_eq]; omega) | (rw [sizeLine_eq]; simp; done) | (rw [sizeLine_eq]; simp only [List.length_append, List.length_cons, List.length_nil]; omega)) ?_ | refine And.intro (by assumption) ?_ | refine And.intro (by decide) ?_ | refine ⟨_, _, rfl, ?_⟩ | refine iteT rfl ?_ | refine iteF Bool.false_ne_true ?_)
              rw [decide_eq_true rfl]
              exact iteF (j3b _ _ _ _ _ _ _ _ _ _)
          rw [hJ3]
          rintro ρ' ⟨h, d, x8, x9, x10, x11, x12, x13, x14, x15, x16, x17, rfl, hh⟩
          refine ⟨J, ?_, ?_⟩
          · rcases hh with ⟨rfl, rfl⟩ | ⟨rfl, rfl⟩
            · rw [hfz]
              repeat' (first | refine ix0T ?_ | refine ix1T ?_ | refine ix2T ?_ | refine ix0L ?_ | refine ix1L ?_ | refine ix2L ?_ | refine ⟨_, rfl, ?_⟩ | refine ⟨_, _, rfl, rfl, (by show (_ : Nat) ≤ sizeLine; first | assumption | exact big (DOk.strLen (by assumption)) | exact big (DOk.tupLen (by assumption)) | exact big (DOk.lstLen (by assumption)) | exact big (DOw.strLen (by assumption)) | exact big (DOw.tupLen (by assumption)) | exact big (DOw.lstLen (by assumption)) | exact big (DOz.strLen (by assumption)) | exact big (DOz.tupLen (by assumption)) | exact big (DOz.lstLen (by assumption))), ?_⟩ | refine ⟨_, _, rfl, rfl, (by first | decide | (show (0 : Int) < _; decide)), ?_⟩ | refine ⟨_, _, rfl, rfl, ?_⟩ | refine eqR_str ?_ | refine eqR_int ?_ | refine neR_str ?_ | refine neR_int ?_ | refine And.intro rfl ?_ | refine addL (by first | assumption | (rw [sizeLine_eq]; omega) | (rw [sizeLine_eq]; simp; done) | (rw [sizeLine_eq]; simp only [List.length_append, List.length_cons, List.length_nil]; omega)) ?_ | refine addT (by first | assumption | (rw [sizeLine_eq]; omega) | (rw [sizeLine_eq]; simp; done) | (rw [sizeLine_eq]; simp only [List.length_append, List.length_cons, List.length_nil]; omega)) ?_ | refine And.intro (by assumption) ?_ | refine And.intro (by decide) ?_ | refine ⟨_, _, rfl, ?_⟩ | refine iteT rfl ?_ | refine iteF Bool.false_ne_true ?_)
              exact jj _ _ _ _ _ _ _ _ _ _ _ _
            · repeat' (first | refine ix0T ?_ | refine ix1T ?_ | refine ix2T ?_ | refine ix0L ?_ | refine ix1L ?_ | refine ix2L ?_ | refine ⟨_, rfl, ?_⟩ | refine ⟨_, _, rfl, rfl, (by show (_ : Nat) ≤ sizeLine; first | assumption | exact big (DOk.strLen (by assumption)) | exact big (DOk.tupLen (by assumption)) | exact big (DOk.lstLen (by assumption)) | exact big (DOw.strLen (by assumption)) | exact big (DOw.tupLen (by assumption)) | exact big (DOw.lstLen (by assumption)) | exact big (DOz.strLen (by assumption)) | exact big (DOz.tupLen (by assumption)) | exact big (DOz.lstLen (by assumption))), ?_⟩ | refine ⟨_, _, rfl, rfl, (by first | decide | (show (0 : Int) < _; decide)), ?_⟩ | refine ⟨_, _, rfl, rfl, ?_⟩ | refine eqR_str ?_ | refine eqR_int ?_ | refine neR_str ?_ | refine neR_int ?_ | refine And.intro rfl ?_ | refine addL (by first | assumption | (rw [sizeLine_eq]; omega) | (rw [sizeLine_eq]; simp; done) | (rw [sizeLine_eq]; simp only [List.length_append, List.length_cons, List.length_nil]; omega)) ?_ | refine addT (by first | assumption | (rw [sizeLine_eq]; omega) | (rw [sizeLine_eq]; simp; done) | (rw [sizeLine_eq]; simp only [List.length_append, List.length_cons, List.length_nil]; omega)) ?_ | refine And.intro (by assumption) ?_ | refine And.intro (by decide) ?_ | refine ⟨_, _, rfl, ?_⟩ | refine iteT rfl ?_ | refine iteF Bool.false_ne_true ?_)
              exact jj _ _ _ _ _ _ _ _ _ _ _ _
          clear hfz j3a j3b hJ3 hh
          rw [hJ]
          rintro ρ' ⟨x5, x6, x8, x9, x10, x11, x12, x13, x14, x15, x16, x17, rfl⟩
          repeat' (first | refine ix0T ?_ | refine ix1T ?_ | refine ix2T ?_ | refine ix0L ?_ | refine ix1L ?_ | refine ix2L ?_ | refine ⟨_, rfl, ?_⟩ | refine ⟨_, _, rfl, rfl, (by show (_ : Nat) ≤ sizeLine; first | assumption | exact big (DOk.strLen (by assumption)) | exact big (DOk.tupLen (by assumption)) | exact big (DOk.lstLen (by assumption)) | exact big (DOw.strLen (by assumption)) | exact big (DOw.tupLen (by assumption)) | exact big (DOw.lstLen (by assumption)) | exact big (DOz.strLen (by assumption)) | exact big (DOz.tupLen (by assumption)) | exact big (DOz.lstLen (by assumption))), ?_⟩ | refine ⟨_, _, rfl, rfl, (by first | decide | (show (0 : Int) < _; decide)), ?_⟩ | refine ⟨_, _, rfl, rfl, ?_⟩ | refine eqR_str ?_ | refine eqR_int ?_ | refine neR_str ?_ | refine neR_int ?_ | refine And.intro rfl ?_ | refine addL (by first | assumption | (rw [sizeLine_eq]; omega) | (rw [sizeLine_eq]; simp; done) | (rw [sizeLine_eq]; simp only [List.length_append, List.length_cons, List.length_nil]; omega)) ?_ | refine addT (by first | assumption | (rw [sizeLine_eq]; omega) | (rw [sizeLine_eq]; simp; done) | (rw [sizeLine_eq]; simp only [List.length_append, List.length_cons, List.length_nil]; omega)) ?_ | refine And.intro (by assumption) ?_ | refine And.intro (by decide) ?_ | refine ⟨_, _, rfl, ?_⟩ | refine iteT rfl ?_ | refine iteF Bool.false_ne_true ?_)
          rw [eraseAll_dat]
          repeat' (first | refine ix0T ?_ | refine ix1T ?_ | refine ix2T ?_ | refine ix0L ?_ | refine ix1L ?_ | refine ix2L ?_ | refine ⟨_, rfl, ?_⟩ | refine ⟨_, _, rfl, rfl, (by show (_ : Nat) ≤ sizeLine; first | assumption | exact big (DOk.strLen (by assumption)) | exact big (DOk.tupLen (by assumption)) | exact big (DOk.lstLen (by assumption)) | exact big (DOw.strLen (by assumption)) | exact big (DOw.tupLen (by assumption)) | exact big (DOw.lstLen (by assumption)) | exact big (DOz.strLen (by assumption)) | exact big (DOz.tupLen (by assumption)) | exact big (DOz.lstLen (by assumption))), ?_⟩ | refine ⟨_, _, rfl, rfl, (by first | decide | (show (0 : Int) < _; decide)), ?_⟩ | refine ⟨_, _, rfl, rfl, ?_⟩ | refine eqR_str ?_ | refine eqR_int ?_ | refine neR_str ?_ | refine neR_int ?_ | refine And.intro rfl ?_ | refine addL (by first | assumption | (rw [sizeLine_eq]; omega) | (rw [sizeLine_eq]; simp; done) | (rw [sizeLine_eq]; simp only [List.length_append, List.length_cons, List.length_nil]; omega)) ?_ | refine addT (by first | assumption | (rw [sizeLine_eq]; omega) | (rw [sizeLine_eq]; simp; done) | (rw [sizeLine_eq]; simp only [List.length_append, List.length_cons, List.length_nil]; omega)) ?_ | refine And.intro (by assumption) ?_ | refine And.intro (by decide) ?_ | refine ⟨_, _, rfl, ?_⟩ | refine iteT rfl ?_ | refine iteF Bool.false_ne_true ?_)
          refine iteF ⟨J, ?_, ?_⟩
          · repeat' (first | refine ix0T ?_ | refine ix1T ?_ | refine ix2T ?_ | refine ix0L ?_ | refine ix1L ?_ | refine ix2L ?_ | refine ⟨_, rfl, ?_⟩ | refine ⟨_, _, rfl, rfl, (by show (_ : Nat) ≤ sizeLine; first | assumption | exact big (DOk.strLen (by assumption)) | exact big (DOk.tupLen (by assumption)) | exact big (DOk.lstLen (by assumption)) | exact big (DOw.strLen (by assumption)) | exact big (DOw.tupLen (by assumption)) | exact big (DOw.lstLen (by assumption)) | exact big (DOz.strLen (by assumption)) | exact big (DOz.tupLen (by assumption)) | exact big (DOz.lstLen (by assumption))), ?_⟩ | refine ⟨_, _, rfl, rfl, (by first | decide | (show (0 : Int) < _; decide)), ?_⟩ | refine ⟨_, _, rfl, rfl, ?_⟩ | refine eqR_str ?_ | refine eqR_int ?_ | refine neR_str ?_ | refine neR_int ?_ | refine And.intro rfl ?_ | refine addL (by first | assumption | (rw [sizeLine_eq]; omega) | (rw [sizeLine_eq]; simp; done) | (rw [sizeLine_eq]; simp only [List.length_append, List.length_cons, List.length_nil]; omega)) ?_ | refine addT (by first | assumption | (rw [sizeLine_eq]; omega) | (rw [sizeLine_eq]; simp; done) | (rw [sizeLine_eq]; simp only [List.length_append, List.length_cons, List.length_nil]; omega)) ?_ | refine And.intro (by assumption) ?_ | refine And.intro (by decide) ?_ | refine ⟨_, _, rfl, ?_⟩ | refine iteT rfl ?_ | refine iteF Bool.false_ne_true ?_)
            exact jj _ _ _ _ _ _ _ _ _ _ _ _
          rw [hJ]
          rintro ρ' ⟨x5, x6, x8, x9, x10, x11, x12, x13, x14, x15, x16, x17, rfl⟩
          refine ⟨J, ?_, ?_⟩
          · repeat' (first | refine ix0T ?_ | refine ix1T ?_ | refine ix2T ?_ | refine ix0L ?_ | refine ix1L ?_ | refine ix2L ?_ | refine ⟨_, rfl, ?_⟩ | refine ⟨_, _, rfl, rfl, (by show (_ : Nat) ≤ sizeLine; first | assumption | exact big (DOk.strLen (by assumption)) | exact big (DOk.tupLen (by assumption)) | exact big (DOk.lstLen (by assumption)) | exact big (DOw.strLen (by assumption)) | exact big (DOw.tupLen (by assumption)) | exact big (DOw.lstLen (by assumption)) | exact big (DOz.strLen (by assumption)) | exact big (DOz.tupLen (by assumption)) | exact big (DOz.lstLen (by assumption))), ?_⟩ | refine ⟨_, _, rfl, rfl, (by first | decide | (show (0 : Int) < _; decide)), ?_⟩ | refine ⟨_, _, rfl, rfl, ?_⟩ | refine eqR_str ?_ | refine eqR_int ?_ | refine neR_str ?_ | refine neR_int ?_ | refine And.intro rfl ?_ | refine addL (by first | assumption | (rw [sizeLine_eq]; omega) | (rw [sizeLine_eq]; simp; done) | (rw [sizeLine_eq]; simp only [List.length_append, List.length_cons, List.length_nil]; omega)) ?_ | refine addT (by first | assumption | (rw [sizeLine_eq]; omega) | (rw [sizeLine_eq]; simp; done) | (rw [sizeLine_eq]; simp only [List.length_append, List.length_cons, List.length_nil]; omega)) ?_ | refine And.intro (by assumption) ?_ | refine And.intro (by decide) ?_ | refine ⟨_, _, rfl, ?_⟩ | refine iteT rfl ?_ | refine iteF Bool.false_ne_true ?_)
            refine ⟨fun _ => J, jj _ _ _ _ _ _ _ _ _ _ _ _, ?_, fun ρ' h => h⟩
            intro i k ρ' hk
            rw [hJ]
            rintro ⟨x5, x6, x8, x9, x10, x11, x12, x13, x14, x15, x16, x17, rfl⟩
            clear hk
            repeat' (first | refine ix0T ?_ | refine ix1T ?_ | refine ix2T ?_ | refine ix0L ?_ | refine ix1L ?_ | refine ix2L ?_ | refine ⟨_, rfl, ?_⟩ | refine ⟨_, _, rfl, rfl, (by show (_ : Nat) ≤ sizeLine; first | assumption | exact big (DOk.strLen (by assumption)) | exact big (DOk.tupLen (by assumption)) | exact big (DOk.lstLen (by assumption)) | exact big (DOw.strLen (by assumption)) | exact big (DOw.tupLen (by assumption)) | exact big (DOw.lstLen (by assumption)) | exact big (DOz.strLen (by assumption)) | exact big (DOz.tupLen (by assumption)) | exact big (DOz.lstLen (by assumption))), ?_⟩ | refine ⟨_, _, rfl, rfl, (by first | decide | (show (0 : Int) < _; decide)), ?_⟩ | refine ⟨_, _, rfl, rfl, ?_⟩ | refine eqR_str ?_ | refine eqR_int ?_ | refine neR_str ?_ | refine neR_int ?_ | refine And.intro rfl ?_ | refine addL (by first | assumption | (rw [sizeLine_eq]; omega) | (rw [sizeLine_eq]; simp; done) | (rw [sizeLine_eq]; simp only [List.length_append, List.length_cons, List.length_nil]; omega)) ?_ | refine addT (by first | assumption | (rw [sizeLine_eq]; omega) | (rw [sizeLine_eq]; simp; done) | (rw [sizeLine_eq]; simp only [List.length_append, List.length_cons, List.length_nil]; omega)) ?_ | refine And.intro (by assumption) ?_ | refine And.intro (by decide) ?_ | refine ⟨_, _, rfl, ?_⟩ | refine iteT rfl ?_ | refine iteF Bool.false_ne_true ?_)
            intro ds hdl hds
            have okd : DOw (.list ds) := (its_list (fun x m => (hds x m).rd.it) (by omega)).1
            rw [erase_dat ds]
            have hl99 : ds.length ≤ 99 := by omega
            have hrd : ∀ r ∈ ds, ∃ rs, r = .tuple rs ∧ ReadOk rs := fun r m => by
              rcases hds r m with ⟨z, n, rfl, _⟩ | ⟨a, z, n, rfl, _⟩ | ⟨a, b, rfl, _⟩
              · exact ⟨_, rfl, .inl ⟨_, _, rfl⟩⟩
              · exact ⟨_, rfl, .inr (.inl ⟨_, _, _, rfl⟩)⟩
              · exact ⟨_, rfl, .inr (.inr ⟨_, _, rfl⟩)⟩
            repeat' (first | refine ix0T ?_ | refine ix1T ?_ | refine ix2T ?_ | refine ix0L ?_ | refine ix1L ?_ | refine ix2L ?_ | refine ⟨_, rfl, ?_⟩ | refine ⟨_, _, rfl, rfl, (by show (_ : Nat) ≤ sizeLine; first | assumption | exact big (DOk.strLen (by assumption)) | exact big (DOk.tupLen (by assumption)) | exact big (DOk.lstLen (by assumption)) | exact big (DOw.strLen (by assumption)) | exact big (DOw.tupLen (by assumption)) | exact big (DOw.lstLen (by assumption)) | exact big (DOz.strLen (by assumption)) | exact big (DOz.tupLen (by assumption)) | exact big (DOz.lstLen (by assumption))), ?_⟩ | refine ⟨_, _, rfl, rfl, (by first | decide | (show (0 : Int) < _; decide)), ?_⟩ | refine ⟨_, _, rfl, rfl, ?_⟩ | refine eqR_str ?_ | refine eqR_int ?_ | refine neR_str ?_ | refine neR_int ?_ | refine And.intro rfl ?_ | refine addL (by first | assumption | (rw [sizeLine_eq]; omega) | (rw [sizeLine_eq]; simp; done) | (rw [sizeLine_eq]; simp only [List.length_append, List.length_cons, List.length_nil]; omega)) ?_ | refine addT (by first | assumption | (rw [sizeLine_eq]; omega) | (rw [sizeLine_eq]; simp; done) | (rw [sizeLine_eq]; simp only [List.length_append, List.length_cons, List.length_nil]; omega)) ?_ | refine And.intro (by assumption) ?_ | refine And.intro (by decide) ?_ | refine ⟨_, _, rfl, ?_⟩ | refine iteT rfl ?_ | refine iteF Bool.false_ne_true ?_)
            exact iteF ⟨_, _, _, _, _, _, _, _, _, _, _, _, rfl⟩
          rw [hJ]
          rintro ρ' ⟨x5, x6, x8, x9, x10, x11, x12, x13, x14, x15, x16, x17, rfl⟩
          repeat' (first | refine ix0T ?_ | refine ix1T ?_ | refine ix2T ?_ | refine ix0L ?_ | refine ix1L ?_ | refine ix2L ?_ | refine ⟨_, rfl, ?_⟩ | refine ⟨_, _, rfl, rfl, (by show (_ : Nat) ≤ sizeLine; first | assumption | exact big (DOk.strLen (by assumption)) | exact big (DOk.tupLen (by assumption)) | exact big (DOk.lstLen (by assumption)) | exact big (DOw.strLen (by assumption)) | exact big (DOw.tupLen (by assumption)) | exact big (DOw.lstLen (by assumption)) | exact big (DOz.strLen (by assumption)) | exact big (DOz.tupLen (by assumption)) | exact big (DOz.lstLen (by assumption))), ?_⟩ | refine ⟨_, _, rfl, rfl, (by first | decide | (show (0 : Int) < _; decide)), ?_⟩ | refine ⟨_, _, rfl, rfl, ?_⟩ | refine eqR_str ?_ | refine eqR_int ?_ | refine neR_str ?_ | refine neR_int ?_ | refine And.intro rfl ?_ | refine addL (by first | assumption | (rw [sizeLine_eq]; omega) | (rw [sizeLine_eq]; simp; done) | (rw [sizeLine_eq]; simp only [List.length_append, List.length_cons, List.length_nil]; omega)) ?_ | refine addT (by first | assumption | (rw [sizeLine_eq]; omega) | (rw [sizeLine_eq]; simp; done) | (rw [sizeLine_eq]; simp only [List.length_append, List.length_cons, List.length_nil]; omega)) ?_ | refine And.intro (by assumption) ?_ | refine And.intro (by decide) ?_ | refine ⟨_, _, rfl, ?_⟩ | refine iteT rfl ?_ | refine iteF Bool.false_ne_true ?_)
          refine iteF ?_
          refine ⟨fun ρ' => ∃ (ps : List PyData) (x5 x6 x8 x9 x11 x12 x13 x14 x15 x16 x17 : Option En), ρ' = [none, some En.bag, some (En.d (.list (zs.map .str))), some (En.d tn), some (En.d (.list rows)), x5, x6, some (En.d (objP C rows)), x8, x9, some (.l (ps.map .dat)), x11, x12, x13, x14, x15, x16, x17] ∧ ps.length ≤ 6 ∧ ∀ p ∈ ps, PatG p, ?_, ?_⟩
          · repeat' (first | refine ix0T ?_ | refine ix1T ?_ | refine ix2T ?_ | refine ix0L ?_ | refine ix1L ?_ | refine ix2L ?_ | refine ⟨_, rfl, ?_⟩ | refine ⟨_, _, rfl, rfl, (by show (_ : Nat) ≤ sizeLine; first | assumption | exact big (DOk.strLen (by assumption)) | exact big (DOk.tupLen (by assumption)) | exact big (DOk.lstLen (by assumption)) | exact big (DOw.strLen (by assumption)) | exact big (DOw.tupLen (by assumption)) | exact big (DOw.lstLen (by assumption)) | exact big (DOz.strLen (by assumption)) | exact big (DOz.tupLen (by assumption)) | exact big (DOz.lstLen (by assumption))), ?_⟩ | refine ⟨_, _, rfl, rfl, (by first | decide | (show (0 : Int) < _; decide)), ?_⟩ | refine ⟨_, _, rfl, rfl, ?_⟩ | refine eqR_str ?_ | refine eqR_int ?_ | refine neR_str ?_ | refine neR_int ?_ | refine And.intro rfl ?_ | refine addL (by first | assumption | (rw [sizeLine_eq]; omega) | (rw [sizeLine_eq]; simp; done) | (rw [sizeLine_eq]; simp only [List.length_append, List.length_cons, List.length_nil]; omega)) ?_ | refine addT (by first | assumption | (rw [sizeLine_eq]; omega) | (rw [sizeLine_eq]; simp; done) | (rw [sizeLine_eq]; simp only [List.length_append, List.length_cons, List.length_nil]; omega)) ?_ | refine And.intro (by assumption) ?_ | refine And.intro (by decide) ?_ | refine ⟨_, _, rfl, ?_⟩ | refine iteT rfl ?_ | refine iteF Bool.false_ne_true ?_)
            refine lc_each (fun o => ∃ p, PatG p ∧ o = .dat p) (by rw [sizeLine_eq]; omega) (fun d hd yes no y => ?_) (fun acc ha hR => ?_)
            · obtain ⟨p, dd, n, rfl, p0, p1, hp, hn⟩ := hrg d hd
              refine ⟨_, rfl, ⟨_, rfl⟩, rfl, _, _, rfl, _, _, rfl, _, _, rfl, rfl, ?_⟩
              repeat' (first | refine ix0T ?_ | refine ix1T ?_ | refine ix2T ?_ | refine ix0L ?_ | refine ix1L ?_ | refine ix2L ?_ | refine ⟨_, rfl, ?_⟩ | refine ⟨_, _, rfl, rfl, (by show (_ : Nat) ≤ sizeLine; first | assumption | exact big (DOk.strLen (by assumption)) | exact big (DOk.tupLen (by assumption)) | exact big (DOk.lstLen (by assumption)) | exact big (DOw.strLen (by assumption)) | exact big (DOw.tupLen (by assumption)) | exact big (DOw.lstLen (by assumption)) | exact big (DOz.strLen (by assumption)) | exact big (DOz.tupLen (by assumption)) | exact big (DOz.lstLen (by assumption))), ?_⟩ | refine ⟨_, _, rfl, rfl, (by first | decide | (show (0 : Int) < _; decide)), ?_⟩ | refine ⟨_, _, rfl, rfl, ?_⟩ | refine eqR_str ?_ | refine eqR_int ?_ | refine neR_str ?_ | refine neR_int ?_ | refine And.intro rfl ?_ | refine addL (by first | assumption | (rw [sizeLine_eq]; omega) | (rw [sizeLine_eq]; simp; done) | (rw [sizeLine_eq]; simp only [List.length_append, List.length_cons, List.length_nil]; omega)) ?_ | refine addT (by first | assumption | (rw [sizeLine_eq]; omega) | (rw [sizeLine_eq]; simp; done) | (rw [sizeLine_eq]; simp only [List.length_append, List.length_cons, List.length_nil]; omega)) ?_ | refine And.intro (by assumption) ?_ | refine And.intro (by decide) ?_ | refine ⟨_, _, rfl, ?_⟩ | refine iteT rfl ?_ | refine iteF Bool.false_ne_true ?_)
              exact y _ ⟨_, hp, rfl⟩
            · obtain ⟨ps, rfl, hps⟩ := acc_of hR
              rw [List.length_map] at ha
              exact ⟨ps, _, _, _, _, _, _, _, _, _, _, _, rfl, by omega, hps⟩
          rintro ρ' ⟨ps, x5, x6, x8, x9, x11, x12, x13, x14, x15, x16, x17, rfl, hpl, hpg⟩
          have okp : DOw (.list ps) := (dow_all (n := 2000) (m := 4) (fun p m => by
            obtain ⟨qs, rfl, _, h4, h5⟩ := hpg p m
            exact (part_tup h5 (by omega)).1) (by decide) (by omega)).1
          have hpr : ∀ r ∈ ps.map (fun p => PyData.tuple [.int 0, p, .none]), RowG r := fun r m => by
            obtain ⟨p, hp, rfl⟩ := List.mem_map.mp m
            exact ⟨0, p, .none, rfl, by decide, by decide, hpg p hp, .inl rfl⟩
          have okn : RowsOk (ps.map fun p => PyData.tuple [.int 0, p, .none]) := rows_ok (by rw [List.length_map]; omega) hpr
          have e10 : frzAt [none, some En.bag, some (En.d (.list (zs.map .str))), some (En.d tn), some (En.d (.list rows)), x5, x6, some (En.d (objP C rows)), x8, x9, some (.l (ps.map .dat)), x11, x12, x13, x14, x15, x16, x17] 10 = [none, some En.bag, some (En.d (.list (zs.map .str))), some (En.d tn), some (En.d (.list rows)), x5, x6, some (En.d (objP C rows)), x8, x9, some (En.d (.list ps)), x11, x12, x13, x14, x15, x16, x17] := by
            show [none, some En.bag, some (En.d (.list (zs.map .str))), some (En.d tn), some (En.d (.list rows)), x5, x6, some (En.d (objP C rows)), x8, x9, some (En.d (.list (eraseAll (ps.map O.dat)))), x11, x12, x13, x14, x15, x16, x17] = _
            rw [eraseAll_dat]
          rw [e10]
          have pn := okp.nodict
          have psh := okp.shows
          have pd : (PyData.list ps).depth ≤ 64 := Nat.le_trans okp.deep (by decide)
          have pf := okp.fits
          have nok := okn.ok
          have eg : (ps.map fun d => O.dat (PyData.tuple [.int 0, d, .none])) = (ps.map fun d => PyData.tuple [.int 0, d, .none]).map O.dat := by
            rw [List.map_map]
            rfl
          repeat' (first | refine ix0T ?_ | refine ix1T ?_ | refine ix2T ?_ | refine ix0L ?_ | refine ix1L ?_ | refine ix2L ?_ | refine ⟨_, rfl, ?_⟩ | refine ⟨_, _, rfl, rfl, (by show (_ : Nat) ≤ sizeLine; first | assumption | exact big (DOk.strLen (by assumption)) | exact big (DOk.tupLen (by assumption)) | exact big (DOk.lstLen (by assumption)) | exact big (DOw.strLen (by assumption)) | exact big (DOw.tupLen (by assumption)) | exact big (DOw.lstLen (by assumption)) | exact big (DOz.strLen (by assumption)) | exact big (DOz.tupLen (by assumption)) | exact big (DOz.lstLen (by assumption))), ?_⟩ | refine ⟨_, _, rfl, rfl, (by first | decide | (show (0 : Int) < _; decide)), ?_⟩ | refine ⟨_, _, rfl, rfl, ?_⟩ | refine eqR_str ?_ | refine eqR_int ?_ | refine neR_str ?_ | refine neR_int ?_ | refine And.intro rfl ?_ | refine addL (by first | assumption | (rw [sizeLine_eq]; omega) | (rw [sizeLine_eq]; simp; done) | (rw [sizeLine_eq]; simp only [List.length_append, List.length_cons, List.length_nil]; omega)) ?_ | refine addT (by first | assumption | (rw [sizeLine_eq]; omega) | (rw [sizeLine_eq]; simp; done) | (rw [sizeLine_eq]; simp only [List.length_append, List.length_cons, List.length_nil]; omega)) ?_ | refine And.intro (by assumption) ?_ | refine And.intro (by decide) ?_ | refine ⟨_, _, rfl, ?_⟩ | refine iteT rfl ?_ | refine iteF Bool.false_ne_true ?_)
          refine lc_map (fun d => O.dat (PyData.tuple [.int 0, d, .none])) (by rw [sizeLine_eq]; omega) (fun d hd yes no y => ?_) ?_
          · repeat' (first | refine ix0T ?_ | refine ix1T ?_ | refine ix2T ?_ | refine ix0L ?_ | refine ix1L ?_ | refine ix2L ?_ | refine ⟨_, rfl, ?_⟩ | refine ⟨_, _, rfl, rfl, (by show (_ : Nat) ≤ sizeLine; first | assumption | exact big (DOk.strLen (by assumption)) | exact big (DOk.tupLen (by assumption)) | exact big (DOk.lstLen (by assumption)) | exact big (DOw.strLen (by assumption)) | exact big (DOw.tupLen (by assumption)) | exact big (DOw.lstLen (by assumption)) | exact big (DOz.strLen (by assumption)) | exact big (DOz.tupLen (by assumption)) | exact big (DOz.lstLen (by assumption))), ?_⟩ | refine ⟨_, _, rfl, rfl, (by first | decide | (show (0 : Int) < _; decide)), ?_⟩ | refine ⟨_, _, rfl, rfl, ?_⟩ | refine eqR_str ?_ | refine eqR_int ?_ | refine neR_str ?_ | refine neR_int ?_ | refine And.intro rfl ?_ | refine addL (by first | assumption | (rw [sizeLine_eq]; omega) | (rw [sizeLine_eq]; simp; done) | (rw [sizeLine_eq]; simp only [List.length_append, List.length_cons, List.length_nil]; omega)) ?_ | refine addT (by first | assumption | (rw [sizeLine_eq]; omega) | (rw [sizeLine_eq]; simp; done) | (rw [sizeLine_eq]; simp only [List.length_append, List.length_cons, List.length_nil]; omega)) ?_ | refine And.intro (by assumption) ?_ | refine And.intro (by decide) ?_ | refine ⟨_, _, rfl, ?_⟩ | refine iteT rfl ?_ | refine iteF Bool.false_ne_true ?_)
            exact y
          rw [eg]
          repeat' (first | refine ix0T ?_ | refine ix1T ?_ | refine ix2T ?_ | refine ix0L ?_ | refine ix1L ?_ | refine ix2L ?_ | refine ⟨_, rfl, ?_⟩ | refine ⟨_, _, rfl, rfl, (by show (_ : Nat) ≤ sizeLine; first | assumption | exact big (DOk.strLen (by assumption)) | exact big (DOk.tupLen (by assumption)) | exact big (DOk.lstLen (by assumption)) | exact big (DOw.strLen (by assumption)) | exact big (DOw.tupLen (by assumption)) | exact big (DOw.lstLen (by assumption)) | exact big (DOz.strLen (by assumption)) | exact big (DOz.tupLen (by assumption)) | exact big (DOz.lstLen (by assumption))), ?_⟩ | refine ⟨_, _, rfl, rfl, (by first | decide | (show (0 : Int) < _; decide)), ?_⟩ | refine ⟨_, _, rfl, rfl, ?_⟩ | refine eqR_str ?_ | refine eqR_int ?_ | refine neR_str ?_ | refine neR_int ?_ | refine And.intro rfl ?_ | refine addL (by first | assumption | (rw [sizeLine_eq]; omega) | (rw [sizeLine_eq]; simp; done) | (rw [sizeLine_eq]; simp only [List.length_append, List.length_cons, List.length_nil]; omega)) ?_ | refine addT (by first | assumption | (rw [sizeLine_eq]; omega) | (rw [sizeLine_eq]; simp; done) | (rw [sizeLine_eq]; simp only [List.length_append, List.length_cons, List.length_nil]; omega)) ?_ | refine And.intro (by assumption) ?_ | refine And.intro (by decide) ?_ | refine ⟨_, _, rfl, ?_⟩ | refine iteT rfl ?_ | refine iteF Bool.false_ne_true ?_)
          refine ⟨J, ?_, ?_⟩
          · repeat' (first | refine ix0T ?_ | refine ix1T ?_ | refine ix2T ?_ | refine ix0L ?_ | refine ix1L ?_ | refine ix2L ?_ | refine ⟨_, rfl, ?_⟩ | refine ⟨_, _, rfl, rfl, (by show (_ : Nat) ≤ sizeLine; first | assumption | exact big (DOk.strLen (by assumption)) | exact big (DOk.tupLen (by assumption)) | exact big (DOk.lstLen (by assumption)) | exact big (DOw.strLen (by assumption)) | exact big (DOw.tupLen (by assumption)) | exact big (DOw.lstLen (by assumption)) | exact big (DOz.strLen (by assumption)) | exact big (DOz.tupLen (by assumption)) | exact big (DOz.lstLen (by assumption))), ?_⟩ | refine ⟨_, _, rfl, rfl, (by first | decide | (show (0 : Int) < _; decide)), ?_⟩ | refine ⟨_, _, rfl, rfl, ?_⟩ | refine eqR_str ?_ | refine eqR_int ?_ | refine neR_str ?_ | refine neR_int ?_ | refine And.intro rfl ?_ | refine addL (by first | assumption | (rw [sizeLine_eq]; omega) | (rw [sizeLine_eq]; simp; done) | (rw [sizeLine_eq]; simp only [List.length_append, List.length_cons, List.length_nil]; omega)) ?_ | refine addT (by first | assumption | (rw [sizeLine_eq]; omega) | (rw [sizeLine_eq]; simp; done) | (rw [sizeLine_eq]; simp only [List.length_append, List.length_cons, List.length_nil]; omega)) ?_ | refine And.intro (by assumption) ?_ | refine And.intro (by decide) ?_ | refine ⟨_, _, rfl, ?_⟩ | refine iteT rfl ?_ | refine iteF Bool.false_ne_true ?_)
            refine ⟨by rw [erase_dat]; exact nok, ?_⟩
            repeat' (first | refine ix0T ?_ | refine ix1T ?_ | refine ix2T ?_ | refine ix0L ?_ | refine ix1L ?_ | refine ix2L ?_ | refine ⟨_, rfl, ?_⟩ | refine ⟨_, _, rfl, rfl, (by show (_ : Nat) ≤ sizeLine; first | assumption | exact big (DOk.strLen (by assumption)) | exact big (DOk.tupLen (by assumption)) | exact big (DOk.lstLen (by assumption)) | exact big (DOw.strLen (by assumption)) | exact big (DOw.tupLen (by assumption)) | exact big (DOw.lstLen (by assumption)) | exact big (DOz.strLen (by assumption)) | exact big (DOz.tupLen (by assumption)) | exact big (DOz.lstLen (by assumption))), ?_⟩ | refine ⟨_, _, rfl, rfl, (by first | decide | (show (0 : Int) < _; decide)), ?_⟩ | refine ⟨_, _, rfl, rfl, ?_⟩ | refine eqR_str ?_ | refine eqR_int ?_ | refine neR_str ?_ | refine neR_int ?_ | refine And.intro rfl ?_ | refine addL (by first | assumption | (rw [sizeLine_eq]; omega) | (rw [sizeLine_eq]; simp; done) | (rw [sizeLine_eq]; simp only [List.length_append, List.length_cons, List.length_nil]; omega)) ?_ | refine addT (by first | assumption | (rw [sizeLine_eq]; omega) | (rw [sizeLine_eq]; simp; done) | (rw [sizeLine_eq]; simp only [List.length_append, List.length_cons, List.length_nil]; omega)) ?_ | refine And.intro (by assumption) ?_ | refine And.intro (by decide) ?_ | refine ⟨_, _, rfl, ?_⟩ | refine iteT rfl ?_ | refine iteF Bool.false_ne_true ?_)
            rw [decide_eq_true rfl]
            exact iteF (jj _ _ _ _ _ _ _ _ _ _ _ _)
          rw [hJ]
          rintro ρ' ⟨x5, x6, x8, x9, x10, x11, x12, x13, x14, x15, x16, x17, rfl⟩
          repeat' (first | refine ix0T ?_ | refine ix1T ?_ | refine ix2T ?_ | refine ix0L ?_ | refine ix1L ?_ | refine ix2L ?_ | refine ⟨_, rfl, ?_⟩ | refine ⟨_, _, rfl, rfl, (by show (_ : Nat) ≤ sizeLine; first | assumption | exact big (DOk.strLen (by assumption)) | exact big (DOk.tupLen (by assumption)) | exact big (DOk.lstLen (by assumption)) | exact big (DOw.strLen (by assumption)) | exact big (DOw.tupLen (by assumption)) | exact big (DOw.lstLen (by assumption)) | exact big (DOz.strLen (by assumption)) | exact big (DOz.tupLen (by assumption)) | exact big (DOz.lstLen (by assumption))), ?_⟩ | refine ⟨_, _, rfl, rfl, (by first | decide | (show (0 : Int) < _; decide)), ?_⟩ | refine ⟨_, _, rfl, rfl, ?_⟩ | refine eqR_str ?_ | refine eqR_int ?_ | refine neR_str ?_ | refine neR_int ?_ | refine And.intro rfl ?_ | refine addL (by first | assumption | (rw [sizeLine_eq]; omega) | (rw [sizeLine_eq]; simp; done) | (rw [sizeLine_eq]; simp only [List.length_append, List.length_cons, List.length_nil]; omega)) ?_ | refine addT (by first | assumption | (rw [sizeLine_eq]; omega) | (rw [sizeLine_eq]; simp; done) | (rw [sizeLine_eq]; simp only [List.length_append, List.length_cons, List.length_nil]; omega)) ?_ | refine And.intro (by assumption) ?_ | refine And.intro (by decide) ?_ | refine ⟨_, _, rfl, ?_⟩ | refine iteT rfl ?_ | refine iteF Bool.false_ne_true ?_)
          refine ⟨by omega, by omega, fun at' h0 h1 => ?_⟩
          have c1 := cut_few rows none (some at')
          have c2 := cut_few rows (some at') none
          refine ⟨fun ρ' => ∃ (bad : List PyData) (x5 x6 x8 x9 x10 x11 x12 x14 x15 x16 x17 : Option En), ρ' = [none, some En.bag, some (En.d (.list (zs.map .str))), some (En.d tn), some (En.d (.list rows)), x5, x6, some (En.d (objP C rows)), x8, x9, x10, x11, x12, some (.l (bad.map .dat)), x14, x15, x16, x17] ∧ bad.length ≤ 13 ∧ BadL bad, ?_, ?_⟩
          · repeat' (first | refine ix0T ?_ | refine ix1T ?_ | refine ix2T ?_ | refine ix0L ?_ | refine ix1L ?_ | refine ix2L ?_ | refine ⟨_, rfl, ?_⟩ | refine ⟨_, _, rfl, rfl, (by show (_ : Nat) ≤ sizeLine; first | assumption | exact big (DOk.strLen (by assumption)) | exact big (DOk.tupLen (by assumption)) | exact big (DOk.lstLen (by assumption)) | exact big (DOw.strLen (by assumption)) | exact big (DOw.tupLen (by assumption)) | exact big (DOw.lstLen (by assumption)) | exact big (DOz.strLen (by assumption)) | exact big (DOz.tupLen (by assumption)) | exact big (DOz.lstLen (by assumption))), ?_⟩ | refine ⟨_, _, rfl, rfl, (by first | decide | (show (0 : Int) < _; decide)), ?_⟩ | refine ⟨_, _, rfl, rfl, ?_⟩ | refine eqR_str ?_ | refine eqR_int ?_ | refine neR_str ?_ | refine neR_int ?_ | refine And.intro rfl ?_ | refine addL (by first | assumption | (rw [sizeLine_eq]; omega) | (rw [sizeLine_eq]; simp; done) | (rw [sizeLine_eq]; simp only [List.length_append, List.length_cons, List.length_nil]; omega)) ?_ | refine addT (by first | assumption | (rw [sizeLine_eq]; omega) | (rw [sizeLine_eq]; simp; done) | (rw [sizeLine_eq]; simp only [List.length_append, List.length_cons, List.length_nil]; omega)) ?_ | refine And.intro (by assumption) ?_ | refine And.intro (by decide) ?_ | refine ⟨_, _, rfl, ?_⟩ | refine iteT rfl ?_ | refine iteF Bool.false_ne_true ?_)
            rw [erase_dat [PyData.tuple [.int 0, .tuple [.str "mark", .int 0, .int 0], .int 1]]]
            refine addL (by rw [sizeLine_eq]; show rows.length + 1 ≤ _; omega) ?_
            repeat' (first | refine ix0T ?_ | refine ix1T ?_ | refine ix2T ?_ | refine ix0L ?_ | refine ix1L ?_ | refine ix2L ?_ | refine ⟨_, rfl, ?_⟩ | refine ⟨_, _, rfl, rfl, (by show (_ : Nat) ≤ sizeLine; first | assumption | exact big (DOk.strLen (by assumption)) | exact big (DOk.tupLen (by assumption)) | exact big (DOk.lstLen (by assumption)) | exact big (DOw.strLen (by assumption)) | exact big (DOw.tupLen (by assumption)) | exact big (DOw.lstLen (by assumption)) | exact big (DOz.strLen (by assumption)) | exact big (DOz.tupLen (by assumption)) | exact big (DOz.lstLen (by assumption))), ?_⟩ | refine ⟨_, _, rfl, rfl, (by first | decide | (show (0 : Int) < _; decide)), ?_⟩ | refine ⟨_, _, rfl, rfl, ?_⟩ | refine eqR_str ?_ | refine eqR_int ?_ | refine neR_str ?_ | refine neR_int ?_ | refine And.intro rfl ?_ | refine addL (by first | assumption | (rw [sizeLine_eq]; omega) | (rw [sizeLine_eq]; simp; done) | (rw [sizeLine_eq]; simp only [List.length_append, List.length_cons, List.length_nil]; omega)) ?_ | refine addT (by first | assumption | (rw [sizeLine_eq]; omega) | (rw [sizeLine_eq]; simp; done) | (rw [sizeLine_eq]; simp only [List.length_append, List.length_cons, List.length_nil]; omega)) ?_ | refine And.intro (by assumption) ?_ | refine And.intro (by decide) ?_ | refine ⟨_, _, rfl, ?_⟩ | refine iteT rfl ?_ | refine iteF Bool.false_ne_true ?_)
            rw [erase_dat]
            refine ixMem h0 (by rw [List.length_append]; show at' < ((rows.length + 1 : Nat) : Int); omega) fun d hd => ?_
            have hdr : RowG d := by
              rcases List.mem_append.mp hd with m | m
              · exact hrg d m
              · rw [List.mem_singleton.mp m]
                exact ⟨0, _, .int 1, rfl, by decide, by decide, pat3 (by decide +kernel) (by decide +kernel) (pw_int (by decide) (by decide)) (pw_int (by decide) (by decide)), .inr ⟨1, rfl, by decide, by decide⟩⟩
            refine ⟨d, rfl, hdr, fun o ho => ?_⟩
            dsimp only
            rw [erase_dat (DL.cutD rows none (some at'))]
            refine addL (es := [o]) (by rw [sizeLine_eq]; show (DL.cutD rows none (some at')).length + 1 ≤ _; omega) ?_
            repeat' (first | refine ix0T ?_ | refine ix1T ?_ | refine ix2T ?_ | refine ix0L ?_ | refine ix1L ?_ | refine ix2L ?_ | refine ⟨_, rfl, ?_⟩ | refine ⟨_, _, rfl, rfl, (by show (_ : Nat) ≤ sizeLine; first | assumption | exact big (DOk.strLen (by assumption)) | exact big (DOk.tupLen (by assumption)) | exact big (DOk.lstLen (by assumption)) | exact big (DOw.strLen (by assumption)) | exact big (DOw.tupLen (by assumption)) | exact big (DOw.lstLen (by assumption)) | exact big (DOz.strLen (by assumption)) | exact big (DOz.tupLen (by assumption)) | exact big (DOz.lstLen (by assumption))), ?_⟩ | refine ⟨_, _, rfl, rfl, (by first | decide | (show (0 : Int) < _; decide)), ?_⟩ | refine ⟨_, _, rfl, rfl, ?_⟩ | refine eqR_str ?_ | refine eqR_int ?_ | refine neR_str ?_ | refine neR_int ?_ | refine And.intro rfl ?_ | refine addL (by first | assumption | (rw [sizeLine_eq]; omega) | (rw [sizeLine_eq]; simp; done) | (rw [sizeLine_eq]; simp only [List.length_append, List.length_cons, List.length_nil]; omega)) ?_ | refine addT (by first | assumption | (rw [sizeLine_eq]; omega) | (rw [sizeLine_eq]; simp; done) | (rw [sizeLine_eq]; simp only [List.length_append, List.length_cons, List.length_nil]; omega)) ?_ | refine And.intro (by assumption) ?_ | refine And.intro (by decide) ?_ | refine ⟨_, _, rfl, ?_⟩ | refine iteT rfl ?_ | refine iteF Bool.false_ne_true ?_)
            rw [erase_dat (DL.cutD rows (some at') none)]
            have bl : BadL (DL.cutD rows none (some at') ++ [o] ++ DL.cutD rows (some at') none) := badL_of (by have := cutLen (rows := rows) h0; omega) (fun r m => hrg r (c1.2 r m)) (fun r m => hrg r (c2.2 r m)) ho
            rw [erase_dat (DL.cutD rows none (some at') ++ [o])]
            refine addL (ds := DL.cutD rows none (some at') ++ [o]) (es := DL.cutD rows (some at') none) (by rw [sizeLine_eq, List.length_append, List.length_singleton]; omega) ?_
            exact ⟨_, _, _, _, _, _, _, _, _, _, _, _, rfl, by have := bl.few; omega, bl⟩
          rintro ρ' ⟨bad, x5, x6, x8, x9, x10, x11, x12, x14, x15, x16, x17, rfl, hbl, hbg⟩
          have e13 : frzAt [none, some En.bag, some (En.d (.list (zs.map .str))), some (En.d tn), some (En.d (.list rows)), x5, x6, some (En.d (objP C rows)), x8, x9, x10, x11, x12, some (.l (bad.map .dat)), x14, x15, x16, x17] 13 = [none, some En.bag, some (En.d (.list (zs.map .str))), some (En.d tn), some (En.d (.list rows)), x5, x6, some (En.d (objP C rows)), x8, x9, x10, x11, x12, some (.d (.list bad)), x14, x15, x16, x17] := by
            show [none, some En.bag, some (En.d (.list (zs.map .str))), some (En.d tn), some (En.d (.list rows)), x5, x6, some (En.d (objP C rows)), x8, x9, x10, x11, x12, some (En.d (.list (eraseAll (bad.map O.dat)))), x14, x15, x16, x17] = _
            rw [eraseAll_dat]
          rw [e13]
          clear e13 c1 c2 h0 h1
          refine ⟨J, ?_, ?_⟩
          · repeat' (first | refine ix0T ?_ | refine ix1T ?_ | refine ix2T ?_ | refine ix0L ?_ | refine ix1L ?_ | refine ix2L ?_ | refine ⟨_, rfl, ?_⟩ | refine ⟨_, _, rfl, rfl, (by show (_ : Nat) ≤ sizeLine; first | assumption | exact big (DOk.strLen (by assumption)) | exact big (DOk.tupLen (by assumption)) | exact big (DOk.lstLen (by assumption)) | exact big (DOw.strLen (by assumption)) | exact big (DOw.tupLen (by assumption)) | exact big (DOw.lstLen (by assumption)) | exact big (DOz.strLen (by assumption)) | exact big (DOz.tupLen (by assumption)) | exact big (DOz.lstLen (by assumption))), ?_⟩ | refine ⟨_, _, rfl, rfl, (by first | decide | (show (0 : Int) < _; decide)), ?_⟩ | refine ⟨_, _, rfl, rfl, ?_⟩ | refine eqR_str ?_ | refine eqR_int ?_ | refine neR_str ?_ | refine neR_int ?_ | refine And.intro rfl ?_ | refine addL (by first | assumption | (rw [sizeLine_eq]; omega) | (rw [sizeLine_eq]; simp; done) | (rw [sizeLine_eq]; simp only [List.length_append, List.length_cons, List.length_nil]; omega)) ?_ | refine addT (by first | assumption | (rw [sizeLine_eq]; omega) | (rw [sizeLine_eq]; simp; done) | (rw [sizeLine_eq]; simp only [List.length_append, List.length_cons, List.length_nil]; omega)) ?_ | refine And.intro (by assumption) ?_ | refine And.intro (by decide) ?_ | refine ⟨_, _, rfl, ?_⟩ | refine iteT rfl ?_ | refine iteF Bool.false_ne_true ?_)
            refine ⟨fun _ ρ' => ∃ (x5 x6 x8 x9 x10 x11 x12 x14 x15 x16 x17 : Option En), ρ' = [none, some En.bag, some (En.d (.list (zs.map .str))), some (En.d tn), some (En.d (.list rows)), x5, x6, some (En.d (objP C rows)), x8, x9, x10, x11, x12, some (.d (.list bad)), x14, x15, x16, x17], ⟨_, _, _, _, _, _, _, _, _, _, _, rfl⟩, ?_, ?_⟩
            · rintro i d ρ' hd ⟨x5, x6, x8, x9, x10, x11, x12, x14, x15, x16, x17, rfl⟩
              have md := List.mem_of_getElem? hd
              obtain ⟨b, kb, kbad⟩ := thing_ok hbg hrl hrg (d := d) md
              clear hd md
              refine ⟨d, rfl, kb _ ⟨b, rfl, iteB (fun e => ?_) (fun e => ?_)⟩⟩
              · refine ⟨d, rfl, d, rfl, .inr ⟨kbad e, ?_⟩⟩
                repeat' (first | refine ix0T ?_ | refine ix1T ?_ | refine ix2T ?_ | refine ix0L ?_ | refine ix1L ?_ | refine ix2L ?_ | refine ⟨_, rfl, ?_⟩ | refine ⟨_, _, rfl, rfl, (by show (_ : Nat) ≤ sizeLine; first | assumption | exact big (DOk.strLen (by assumption)) | exact big (DOk.tupLen (by assumption)) | exact big (DOk.lstLen (by assumption)) | exact big (DOw.strLen (by assumption)) | exact big (DOw.tupLen (by assumption)) | exact big (DOw.lstLen (by assumption)) | exact big (DOz.strLen (by assumption)) | exact big (DOz.tupLen (by assumption)) | exact big (DOz.lstLen (by assumption))), ?_⟩ | refine ⟨_, _, rfl, rfl, (by first | decide | (show (0 : Int) < _; decide)), ?_⟩ | refine ⟨_, _, rfl, rfl, ?_⟩ | refine eqR_str ?_ | refine eqR_int ?_ | refine neR_str ?_ | refine neR_int ?_ | refine And.intro rfl ?_ | refine addL (by first | assumption | (rw [sizeLine_eq]; omega) | (rw [sizeLine_eq]; simp; done) | (rw [sizeLine_eq]; simp only [List.length_append, List.length_cons, List.length_nil]; omega)) ?_ | refine addT (by first | assumption | (rw [sizeLine_eq]; omega) | (rw [sizeLine_eq]; simp; done) | (rw [sizeLine_eq]; simp only [List.length_append, List.length_cons, List.length_nil]; omega)) ?_ | refine And.intro (by assumption) ?_ | refine And.intro (by decide) ?_ | refine ⟨_, _, rfl, ?_⟩ | refine iteT rfl ?_ | refine iteF Bool.false_ne_true ?_)
                rw [decide_eq_true rfl]
                exact iteF ⟨_, _, _, _, _, _, _, _, _, _, _, rfl⟩
              · exact iteF ⟨_, _, _, _, _, _, _, _, _, _, _, rfl⟩
            · rintro ρ' ⟨x5, x6, x8, x9, x10, x11, x12, x14, x15, x16, x17, rfl⟩
              exact jj _ _ _ _ _ _ _ _ _ _ _ _
          rw [hJ]
          rintro ρ' ⟨x5, x6, x8, x9, x10, x11, x12, x13, x14, x15, x16, x17, rfl⟩
          have ok0 : RowsOk [] := rows_ok (by decide) (fun _ m => nomatch m)
          repeat' (first | refine ix0T ?_ | refine ix1T ?_ | refine ix2T ?_ | refine ix0L ?_ | refine ix1L ?_ | refine ix2L ?_ | refine ⟨_, rfl, ?_⟩ | refine ⟨_, _, rfl, rfl, (by show (_ : Nat) ≤ sizeLine; first | assumption | exact big (DOk.strLen (by assumption)) | exact big (DOk.tupLen (by assumption)) | exact big (DOk.lstLen (by assumption)) | exact big (DOw.strLen (by assumption)) | exact big (DOw.tupLen (by assumption)) | exact big (DOw.lstLen (by assumption)) | exact big (DOz.strLen (by assumption)) | exact big (DOz.tupLen (by assumption)) | exact big (DOz.lstLen (by assumption))), ?_⟩ | refine ⟨_, _, rfl, rfl, (by first | decide | (show (0 : Int) < _; decide)), ?_⟩ | refine ⟨_, _, rfl, rfl, ?_⟩ | refine eqR_str ?_ | refine eqR_int ?_ | refine neR_str ?_ | refine neR_int ?_ | refine And.intro rfl ?_ | refine addL (by first | assumption | (rw [sizeLine_eq]; omega) | (rw [sizeLine_eq]; simp; done) | (rw [sizeLine_eq]; simp only [List.length_append, List.length_cons, List.length_nil]; omega)) ?_ | refine addT (by first | assumption | (rw [sizeLine_eq]; omega) | (rw [sizeLine_eq]; simp; done) | (rw [sizeLine_eq]; simp only [List.length_append, List.length_cons, List.length_nil]; omega)) ?_ | refine And.intro (by assumption) ?_ | refine And.intro (by decide) ?_ | refine ⟨_, _, rfl, ?_⟩ | refine iteT rfl ?_ | refine iteF Bool.false_ne_true ?_)
          refine .inl ⟨[], rfl, ok0, ?_⟩
          repeat' (first | refine ix0T ?_ | refine ix1T ?_ | refine ix2T ?_ | refine ix0L ?_ | refine ix1L ?_ | refine ix2L ?_ | refine ⟨_, rfl, ?_⟩ | refine ⟨_, _, rfl, rfl, (by show (_ : Nat) ≤ sizeLine; first | assumption | exact big (DOk.strLen (by assumption)) | exact big (DOk.tupLen (by assumption)) | exact big (DOk.lstLen (by assumption)) | exact big (DOw.strLen (by assumption)) | exact big (DOw.tupLen (by assumption)) | exact big (DOw.lstLen (by assumption)) | exact big (DOz.strLen (by assumption)) | exact big (DOz.tupLen (by assumption)) | exact big (DOz.lstLen (by assumption))), ?_⟩ | refine ⟨_, _, rfl, rfl, (by first | decide | (show (0 : Int) < _; decide)), ?_⟩ | refine ⟨_, _, rfl, rfl, ?_⟩ | refine eqR_str ?_ | refine eqR_int ?_ | refine neR_str ?_ | refine neR_int ?_ | refine And.intro rfl ?_ | refine addL (by first | assumption | (rw [sizeLine_eq]; omega) | (rw [sizeLine_eq]; simp; done) | (rw [sizeLine_eq]; simp only [List.length_append, List.length_cons, List.length_nil]; omega)) ?_ | refine addT (by first | assumption | (rw [sizeLine_eq]; omega) | (rw [sizeLine_eq]; simp; done) | (rw [sizeLine_eq]; simp only [List.length_append, List.length_cons, List.length_nil]; omega)) ?_ | refine And.intro (by assumption) ?_ | refine And.intro (by decide) ?_ | refine ⟨_, _, rfl, ?_⟩ | refine iteT rfl ?_ | refine iteF Bool.false_ne_true ?_)
          refine .inl ⟨[], rfl, ok0, ?_⟩
          repeat' (first | refine ix0T ?_ | refine ix1T ?_ | refine ix2T ?_ | refine ix0L ?_ | refine ix1L ?_ | refine ix2L ?_ | refine ⟨_, rfl, ?_⟩ | refine ⟨_, _, rfl, rfl, (by show (_ : Nat) ≤ sizeLine; first | assumption | exact big (DOk.strLen (by assumption)) | exact big (DOk.tupLen (by assumption)) | exact big (DOk.lstLen (by assumption)) | exact big (DOw.strLen (by assumption)) | exact big (DOw.tupLen (by assumption)) | exact big (DOw.lstLen (by assumption)) | exact big (DOz.strLen (by assumption)) | exact big (DOz.tupLen (by assumption)) | exact big (DOz.lstLen (by assumption))), ?_⟩ | refine ⟨_, _, rfl, rfl, (by first | decide | (show (0 : Int) < _; decide)), ?_⟩ | refine ⟨_, _, rfl, rfl, ?_⟩ | refine eqR_str ?_ | refine eqR_int ?_ | refine neR_str ?_ | refine neR_int ?_ | refine And.intro rfl ?_ | refine addL (by first | assumption | (rw [sizeLine_eq]; omega) | (rw [sizeLine_eq]; simp; done) | (rw [sizeLine_eq]; simp only [List.length_append, List.length_cons, List.length_nil]; omega)) ?_ | refine addT (by first | assumption | (rw [sizeLine_eq]; omega) | (rw [sizeLine_eq]; simp; done) | (rw [sizeLine_eq]; simp only [List.length_append, List.length_cons, List.length_nil]; omega)) ?_ | refine And.intro (by assumption) ?_ | refine And.intro (by decide) ?_ | refine ⟨_, _, rfl, ?_⟩ | refine iteT rfl ?_ | refine iteF Bool.false_ne_true ?_)
          rw [erase_dat]
          repeat' (first | refine ix0T ?_ | refine ix1T ?_ | refine ix2T ?_ | refine ix0L ?_ | refine ix1L ?_ | refine ix2L ?_ | refine ⟨_, rfl, ?_⟩ | refine ⟨_, _, rfl, rfl, (by show (_ : Nat) ≤ sizeLine; first | assumption | exact big (DOk.strLen (by assumption)) | exact big (DOk.tupLen (by assumption)) | exact big (DOk.lstLen (by assumption)) | exact big (DOw.strLen (by assumption)) | exact big (DOw.tupLen (by assumption)) | exact big (DOw.lstLen (by assumption)) | exact big (DOz.strLen (by assumption)) | exact big (DOz.tupLen (by assumption)) | exact big (DOz.lstLen (by assumption))), ?_⟩ | refine ⟨_, _, rfl, rfl, (by first | decide | (show (0 : Int) < _; decide)), ?_⟩ | refine ⟨_, _, rfl, rfl, ?_⟩ | refine eqR_str ?_ | refine eqR_int ?_ | refine neR_str ?_ | refine neR_int ?_ | refine And.intro rfl ?_ | refine addL (by first | assumption | (rw [sizeLine_eq]; omega) | (rw [sizeLine_eq]; simp; done) | (rw [sizeLine_eq]; simp only [List.length_append, List.length_cons, List.length_nil]; omega)) ?_ | refine addT (by first | assumption | (rw [sizeLine_eq]; omega) | (rw [sizeLine_eq]; simp; done) | (rw [sizeLine_eq]; simp only [List.length_append, List.length_cons, List.length_nil]; omega)) ?_ | refine And.intro (by assumption) ?_ | refine And.intro (by decide) ?_ | refine ⟨_, _, rfl, ?_⟩ | refine iteT rfl ?_ | refine iteF Bool.false_ne_true ?_)
          rw [decide_eq_true rfl]
          exact iteF ⟨_, _, _, _, _, _, _, _, _, _, _, _, _, _, _, rfl⟩
      · rintro ρ' ⟨x3, x4, x5, x6, x7, x8, x9, x10, x11, x12, x13, x14, x15, x16, x17, rfl⟩
        repeat' (first | refine ix0T ?_ | refine ix1T ?_ | refine ix2T ?_ | refine ix0L ?_ | refine ix1L ?_ | refine ix2L ?_ | refine ⟨_, rfl, ?_⟩ | refine ⟨_, _, rfl, rfl, (by show (_ : Nat) ≤ sizeLine; first | assumption | exact big (DOk.strLen (by assumption)) | exact big (DOk.tupLen (by assumption)) | exact big (DOk.lstLen (by assumption)) | exact big (DOw.strLen (by assumption)) | exact big (DOw.tupLen (by assumption)) | exact big (DOw.lstLen (by assumption)) | exact big (DOz.strLen (by assumption)) | exact big (DOz.tupLen (by assumption)) | exact big (DOz.lstLen (by assumption))), ?_⟩ | refine ⟨_, _, rfl, rfl, (by first | decide | (show (0 : Int) < _; decide)), ?_⟩ | refine ⟨_, _, rfl, rfl, ?_⟩ | refine eqR_str ?_ | refine eqR_int ?_ | refine neR_str ?_ | refine neR_int ?_ | refine And.intro rfl ?_ | refine addL (by first | assumption | (rw [sizeLine_eq]; omega) | (rw [sizeLine_eq]; simp; done) | (rw [sizeLine_eq]; simp only [List.length_append, List.length_cons, List.length_nil]; omega)) ?_ | refine addT (by first | assumption | (rw [sizeLine_eq]; omega) | (rw [sizeLine_eq]; simp; done) | (rw [sizeLine_eq]; simp only [List.length_append, List.length_cons, List.length_nil]; omega)) ?_ | refine And.intro (by assumption) ?_ | refine And.intro (by decide) ?_ | refine ⟨_, _, rfl, ?_⟩ | refine iteT rfl ?_ | refine iteF Bool.false_ne_true ?_)
        rfl
end
end K58
set_option Elab.async false
set_option linter.all false
set_option maxRecDepth 100000
set_option maxHeartbeats 4000000
/-! the last: from what the top has left to the law -/
namespace K58
open PySem PySem.Spec PyProof.Rows L2 GL DL
theorem clG_of {P : Program} {w : World} {K : PySem.W.Frag} {mg : Str → Option Value} {base : Heap} {k : Nat} {x : Str} {sp sp' : Sp} (c : Cl P w K mg base k x sp) (h : ∀ vs H Q E, sp' vs H Q E → sp vs H Q E) : ClG P w K mg base k x sp' := by
  obtain ⟨f, fd, ps, F, hm, kp, b⟩ := c.ex
  exact ⟨f, fd, ps, DL.FnG.mono (FnG.of F) h, hm, kp, b⟩
theorem all_mk {l : PySem.W.OpenLaw} {w : World} {K : PySem.W.Frag} {h : Heap} {mg : Str → Option Value} {fa : Addr} (X : K.In h) (G : h.Ns mainGlobals mg) (hfa : mg "law" = some (.ref fa))
    {fC : Addr} (afC : PySem.W.nsIn K mainGlobals "Promise" = some (some (.ref fC)))
    {fA : Addr} (afA : PySem.W.nsIn K mainGlobals "AskError" = some (some (.ref fA)))
    {fW : Addr} (afW : PySem.W.nsIn K mainGlobals "Wrong" = some (some (.ref fW)))
    {fB : Addr} (afB : PySem.W.nsIn K mainGlobals "NoPlace" = some (some (.ref fB)))
    (hnG : PySem.W.specialIn K (.builtin "object.__class__") "__get__" = some (some (.builtin "getset_descriptor.__get__")))
    (htG : PySem.W.takesIn K (.builtin "object.__class__") = some true)
    (pgfC : PySem.W.plainGet K fC Str.empty = true)
    (hdfC : PySem.W.hasDictIn K fC = true)
    (pofC : PySem.W.plainOver K fC = true)
    (safC : PySem.W.findIn K (.ref fC) "__setattr__" = some (some (.builtin "object.__setattr__")))
    (hafC : PySem.W.findIn K (.ref fC) "__class__" = some (some (.builtin "object.__class__")))
    (hmfC : PySem.W.mroIn K fC (.type "object") = some true)
    (kifCbool : PySem.W.kitOne K (.ref fC) (.type "bool") = some false)
    (kifCint : PySem.W.kitOne K (.ref fC) (.type "int") = some false)
    (kifCstr : PySem.W.kitOne K (.ref fC) (.type "str") = some false)
    (kifClist : PySem.W.kitOne K (.ref fC) (.type "list") = some false)
    (kifCtuple : PySem.W.kitOne K (.ref fC) (.type "tuple") = some false)
    (kifCdict : PySem.W.kitOne K (.ref fC) (.type "dict") = some false)
    (tofCNoneType : PySem.W.kitOne K (.type "NoneType") (.ref fC) = some false)
    (tnfCNoneType : PySem.W.notFirst K fC (.type "NoneType") = true)
    (tofCbool : PySem.W.kitOne K (.type "bool") (.ref fC) = some false)
    (tnfCbool : PySem.W.notFirst K fC (.type "bool") = true)
    (tofCint : PySem.W.kitOne K (.type "int") (.ref fC) = some false)
    (tnfCint : PySem.W.notFirst K fC (.type "int") = true)
    (tofCstr : PySem.W.kitOne K (.type "str") (.ref fC) = some false)
    (tnfCstr : PySem.W.notFirst K fC (.type "str") = true)
    (tofClist : PySem.W.kitOne K (.type "list") (.ref fC) = some false)
    (tnfClist : PySem.W.notFirst K fC (.type "list") = true)
    (tofCtuple : PySem.W.kitOne K (.type "tuple") (.ref fC) = some false)
    (tnfCtuple : PySem.W.notFirst K fC (.type "tuple") = true)
    (tofCdict : PySem.W.kitOne K (.type "dict") (.ref fC) = some false)
    (tnfCdict : PySem.W.notFirst K fC (.type "dict") = true)
    (mkfC : PySem.W.makesIn K fC = true)
    (kpfC : PySem.W.keepIn K (.ref fC) = true)
    (nefC : PySem.W.findIn K (.ref fC) "__ne__" = some (some (.builtin "object.__ne__")))
    (nofCclauses : PySem.W.findIn K (.ref fC) "clauses" = some none)
    {nmW qW : Str} {NW : Addr} {bsW : List Value} {snW : List Str} {subW : List Value} {abW : Bool} {colW : Option Bool} {ddW : Option Addr} {k0W k1W k2W k3W k5W : Option Value} (xW : K.lookup fW = some (excClassObj nmW qW fW NW bsW [.ref fA, .type "ValueError", .type "Exception", .type "BaseException", .type "object"] true snW subW abW colW ddW k0W k1W k2W k3W k5W "ValueError.__new__"))
    (sW : PySem.W.findIn K (.ref fW) "__setattr__" = some (some (.builtin "object.__setattr__")))
    (gW : PySem.W.findIn K (.ref fW) "__getattribute__" = some (some (.builtin "BaseException.__getattribute__")))
    (hW : PySem.W.findIn K (.ref fW) "__getattr__" = some none)
    (yW : PySem.W.findIn K (.ref fW) "__class__" = some (some (.builtin "object.__class__")))
    (noW : PySem.W.findIn K (.ref fW) "place" = some none)
    (exmW : PySem.W.exmOne K (.ref fW) (.ref fA) = some true)
    (kBW : PySem.W.kitOne K (.ref fW) (.ref fB) = some false)
    {f0 f1 f2 f3 f4 f5 f6 f7 f8 f9 f10 f11 f12 f13 f14 f15 f16 f17 f18 f19 f20 f21 f22 f23 f24 f25 f26 f27 f28 f29 : Addr} {od0 an0 od1 an1 od2 an2 od3 an3 od4 an4 od5 an5 od6 an6 od7 an7 od8 an8 od9 an9 od10 an10 od11 an11 od12 an12 od13 an13 od14 an14 od15 an15 od16 an16 od17 an17 od18 an18 od19 an19 od20 an20 od21 an21 od22 an22 od23 an23 od24 an24 od25 an25 od26 an26 od27 an27 od28 an28 od29 an29 : Option Addr} {sl0 sl1 sl2 sl3 sl4 sl5 sl6 sl7 sl8 sl9 sl10 sl11 sl12 sl13 sl14 sl15 sl16 sl17 sl18 sl19 sl20 sl21 sl22 sl23 sl24 sl25 sl26 sl27 sl28 sl29 : Array (Option Value)} {oc0 kV0 dc0 pm0 cd0 ct0 oc1 kV1 dc1 pm1 cd1 ct1 oc2 kV2 dc2 pm2 cd2 ct2 oc3 kV3 dc3 pm3 cd3 ct3 oc4 kV4 dc4 pm4 cd4 ct4 oc5 kV5 dc5 pm5 cd5 ct5 oc6 kV6 dc6 pm6 cd6 ct6 oc7 kV7 dc7 pm7 cd7 ct7 oc8 kV8 dc8 pm8 cd8 ct8 oc9 kV9 dc9 pm9 cd9 ct9 oc10 kV10 dc10 pm10 cd10 ct10 oc11 kV11 dc11 pm11 cd11 ct11 oc12 kV12 dc12 pm12 cd12 ct12 oc13 kV13 dc13 pm13 cd13 ct13 oc14 kV14 dc14 pm14 cd14 ct14 oc15 kV15 dc15 pm15 cd15 ct15 oc16 kV16 dc16 pm16 cd16 ct16 oc17 kV17 dc17 pm17 cd17 ct17 oc18 kV18 dc18 pm18 cd18 ct18 oc19 kV19 dc19 pm19 cd19 ct19 oc20 kV20 dc20 pm20 cd20 ct20 oc21 kV21 dc21 pm21 cd21 ct21 oc22 kV22 dc22 pm22 cd22 ct22 oc23 kV23 dc23 pm23 cd23 ct23 oc24 kV24 dc24 pm24 cd24 ct24 oc25 kV25 dc25 pm25 cd25 ct25 oc26 kV26 dc26 pm26 cd26 ct26 oc27 kV27 dc27 pm27 cd27 ct27 oc28 kV28 dc28 pm28 cd28 ct28 oc29 kV29 dc29 pm29 cd29 ct29 : Value}
    (a0 : PySem.W.nsIn K mainGlobals "is_integer" = some (some (.ref f0))) (l0 : K.lookup f0 = some ⟨oc0, od0, .func (PySem.W.fnOf "is_integer" "is_integer" (defArgs s_is_integer) (defBody s_is_integer) (defScope s_is_integer) .none kV0 dc0 pm0 an0 cd0 ct0), sl0⟩) (c0 : PySem.W.codeIn K cd0 "is_integer" = true) (k0 : PySem.W.keepIn K (.ref f0) = true)
    (a1 : PySem.W.nsIn K mainGlobals "is_name" = some (some (.ref f1))) (l1 : K.lookup f1 = some ⟨oc1, od1, .func (PySem.W.fnOf "is_name" "is_name" (defArgs s_is_name) (defBody s_is_name) (defScope s_is_name) .none kV1 dc1 pm1 an1 cd1 ct1), sl1⟩) (c1 : PySem.W.codeIn K cd1 "is_name" = true) (k1 : PySem.W.keepIn K (.ref f1) = true)
    (a2 : PySem.W.nsIn K mainGlobals "is_mark" = some (some (.ref f2))) (l2 : K.lookup f2 = some ⟨oc2, od2, .func (PySem.W.fnOf "is_mark" "is_mark" (defArgs s_is_mark) (defBody s_is_mark) (defScope s_is_mark) .none kV2 dc2 pm2 an2 cd2 ct2), sl2⟩) (c2 : PySem.W.codeIn K cd2 "is_mark" = true) (k2 : PySem.W.keepIn K (.ref f2) = true)
    (a3 : PySem.W.nsIn K mainGlobals "is_number" = some (some (.ref f3))) (l3 : K.lookup f3 = some ⟨oc3, od3, .func (PySem.W.fnOf "is_number" "is_number" (defArgs s_is_number) (defBody s_is_number) (defScope s_is_number) .none kV3 dc3 pm3 an3 cd3 ct3), sl3⟩) (c3 : PySem.W.codeIn K cd3 "is_number" = true) (k3 : PySem.W.keepIn K (.ref f3) = true)
    (a4 : PySem.W.nsIn K mainGlobals "is_list" = some (some (.ref f4))) (l4 : K.lookup f4 = some ⟨oc4, od4, .func (PySem.W.fnOf "is_list" "is_list" (defArgs s_is_list) (defBody s_is_list) (defScope s_is_list) .none kV4 dc4 pm4 an4 cd4 ct4), sl4⟩) (c4 : PySem.W.codeIn K cd4 "is_list" = true) (k4 : PySem.W.keepIn K (.ref f4) = true)
    (a5 : PySem.W.nsIn K mainGlobals "fits_read" = some (some (.ref f5))) (l5 : K.lookup f5 = some ⟨oc5, od5, .func (PySem.W.fnOf "fits_read" "fits_read" (defArgs s_fits_read) (defBody s_fits_read) (defScope s_fits_read) .none kV5 dc5 pm5 an5 cd5 ct5), sl5⟩) (c5 : PySem.W.codeIn K cd5 "fits_read" = true) (k5 : PySem.W.keepIn K (.ref f5) = true)
    (a6 : PySem.W.nsIn K mainGlobals "has_read_form" = some (some (.ref f6))) (l6 : K.lookup f6 = some ⟨oc6, od6, .func (PySem.W.fnOf "has_read_form" "has_read_form" (defArgs s_has_read_form) (defBody s_has_read_form) (defScope s_has_read_form) .none kV6 dc6 pm6 an6 cd6 ct6), sl6⟩) (c6 : PySem.W.codeIn K cd6 "has_read_form" = true) (k6 : PySem.W.keepIn K (.ref f6) = true)
    (a7 : PySem.W.nsIn K mainGlobals "is_promise_row" = some (some (.ref f7))) (l7 : K.lookup f7 = some ⟨oc7, od7, .func (PySem.W.fnOf "is_promise_row" "is_promise_row" (defArgs s_is_promise_row) (defBody s_is_promise_row) (defScope s_is_promise_row) .none kV7 dc7 pm7 an7 cd7 ct7), sl7⟩) (c7 : PySem.W.codeIn K cd7 "is_promise_row" = true) (k7 : PySem.W.keepIn K (.ref f7) = true)
    (a8 : PySem.W.nsIn K mainGlobals "is_like" = some (some (.ref f8))) (l8 : K.lookup f8 = some ⟨oc8, od8, .func (PySem.W.fnOf "is_like" "is_like" (defArgs s_is_like) (defBody s_is_like) (defScope s_is_like) .none kV8 dc8 pm8 an8 cd8 ct8), sl8⟩) (c8 : PySem.W.codeIn K cd8 "is_like" = true) (k8 : PySem.W.keepIn K (.ref f8) = true)
    (a9 : PySem.W.findIn K (.ref fW) "__init__" = some (some (.ref f9))) (l9 : K.lookup f9 = some ⟨oc9, od9, .func (PySem.W.fnOf "__init__" "Wrong.__init__" (defArgs s_wrong) (defBody s_wrong) (defScope s_wrong) .none kV9 dc9 pm9 an9 cd9 ct9), sl9⟩) (c9 : PySem.W.codeIn K cd9 "Wrong.__init__" = true) (k9 : PySem.W.keepIn K (.ref f9) = true)
    (n9 : PySem.W.isFn K (.ref f9) = true)
    (y9 : PySem.W.typeIn K (.ref f9) = some (.type "function"))
    (a10 : PySem.W.findIn K (.ref fC) "__init__" = some (some (.ref f10))) (l10 : K.lookup f10 = some ⟨oc10, od10, .func (PySem.W.fnOf "__init__" "Promise.__init__" (defArgs s___init__) (defBody s___init__) (defScope s___init__) .none kV10 dc10 pm10 an10 cd10 ct10), sl10⟩) (c10 : PySem.W.codeIn K cd10 "Promise.__init__" = true) (k10 : PySem.W.keepIn K (.ref f10) = true)
    (n10 : PySem.W.isFn K (.ref f10) = true)
    (y10 : PySem.W.typeIn K (.ref f10) = some (.type "function"))
    (a11 : PySem.W.findIn K (.ref fC) "__eq__" = some (some (.ref f11))) (l11 : K.lookup f11 = some ⟨oc11, od11, .func (PySem.W.fnOf "__eq__" "Promise.__eq__" (defArgs s___eq__) (defBody s___eq__) (defScope s___eq__) .none kV11 dc11 pm11 an11 cd11 ct11), sl11⟩) (c11 : PySem.W.codeIn K cd11 "Promise.__eq__" = true) (k11 : PySem.W.keepIn K (.ref f11) = true)
    (n11 : PySem.W.isFn K (.ref f11) = true)
    (y11 : PySem.W.typeIn K (.ref f11) = some (.type "function"))
    (a12 : PySem.W.findIn K (.ref fC) "rows" = some (some (.ref f12))) (l12 : K.lookup f12 = some ⟨oc12, od12, .func (PySem.W.fnOf "rows" "Promise.rows" (defArgs s_rows) (defBody s_rows) (defScope s_rows) .none kV12 dc12 pm12 an12 cd12 ct12), sl12⟩) (c12 : PySem.W.codeIn K cd12 "Promise.rows" = true) (k12 : PySem.W.keepIn K (.ref f12) = true)
    (n12 : PySem.W.isFn K (.ref f12) = true)
    (y12 : PySem.W.typeIn K (.ref f12) = some (.type "function"))
    (a13 : PySem.W.findIn K (.ref fC) "state_after" = some (some (.ref f13))) (l13 : K.lookup f13 = some ⟨oc13, od13, .func (PySem.W.fnOf "state_after" "Promise.state_after" (defArgs s_state_after) (defBody s_state_after) (defScope s_state_after) .none kV13 dc13 pm13 an13 cd13 ct13), sl13⟩) (c13 : PySem.W.codeIn K cd13 "Promise.state_after" = true) (k13 : PySem.W.keepIn K (.ref f13) = true)
    (n13 : PySem.W.isFn K (.ref f13) = true)
    (y13 : PySem.W.typeIn K (.ref f13) = some (.type "function"))
    (a14 : PySem.W.findIn K (.ref fC) "broken_at" = some (some (.ref f14))) (l14 : K.lookup f14 = some ⟨oc14, od14, .func (PySem.W.fnOf "broken_at" "Promise.broken_at" (defArgs s_broken_at) (defBody s_broken_at) (defScope s_broken_at) .none kV14 dc14 pm14 an14 cd14 ct14), sl14⟩) (c14 : PySem.W.codeIn K cd14 "Promise.broken_at" = true) (k14 : PySem.W.keepIn K (.ref f14) = true)
    (n14 : PySem.W.isFn K (.ref f14) = true)
    (y14 : PySem.W.typeIn K (.ref f14) = some (.type "function"))
    (a15 : PySem.W.findIn K (.ref fC) "state_behind" = some (some (.ref f15))) (l15 : K.lookup f15 = some ⟨oc15, od15, .func (PySem.W.fnOf "state_behind" "Promise.state_behind" (defArgs s_state_behind) (defBody s_state_behind) (defScope s_state_behind) .none kV15 dc15 pm15 an15 cd15 ct15), sl15⟩) (c15 : PySem.W.codeIn K cd15 "Promise.state_behind" = true) (k15 : PySem.W.keepIn K (.ref f15) = true)
    (n15 : PySem.W.isFn K (.ref f15) = true)
    (y15 : PySem.W.typeIn K (.ref f15) = some (.type "function"))
    (a16 : PySem.W.nsIn K mainGlobals "never" = some (some (.ref f16))) (l16 : K.lookup f16 = some ⟨oc16, od16, .func (PySem.W.fnOf "never" "never" (defArgs s_never) (defBody s_never) (defScope s_never) .none kV16 dc16 pm16 an16 cd16 ct16), sl16⟩) (c16 : PySem.W.codeIn K cd16 "never" = true) (k16 : PySem.W.keepIn K (.ref f16) = true)
    (a17 : PySem.W.nsIn K mainGlobals "_law_new_bag" = some (some (.ref f17))) (l17 : K.lookup f17 = some ⟨oc17, od17, .func (PySem.W.fnOf "_law_new_bag" "_law_new_bag" (defArgs s_bag) (defBody s_bag) (defScope s_bag) .none kV17 dc17 pm17 an17 cd17 ct17), sl17⟩) (c17 : PySem.W.codeIn K cd17 "_law_new_bag" = true) (k17 : PySem.W.keepIn K (.ref f17) = true)
    (a18 : PySem.W.nsIn K mainGlobals "_law_take" = some (some (.ref f18))) (l18 : K.lookup f18 = some ⟨oc18, od18, .func (PySem.W.fnOf "_law_take" "_law_take" (defArgs s_take) (defBody s_take) (defScope s_take) .none kV18 dc18 pm18 an18 cd18 ct18), sl18⟩) (c18 : PySem.W.codeIn K cd18 "_law_take" = true) (k18 : PySem.W.keepIn K (.ref f18) = true)
    (a19 : PySem.W.nsIn K mainGlobals "_law_alike" = some (some (.ref f19))) (l19 : K.lookup f19 = some ⟨oc19, od19, .func (PySem.W.fnOf "_law_alike" "_law_alike" (defArgs s_alike) (defBody s_alike) (defScope s_alike) .none kV19 dc19 pm19 an19 cd19 ct19), sl19⟩) (c19 : PySem.W.codeIn K cd19 "_law_alike" = true) (k19 : PySem.W.keepIn K (.ref f19) = true)
    (a20 : PySem.W.nsIn K mainGlobals "_law_pick" = some (some (.ref f20))) (l20 : K.lookup f20 = some ⟨oc20, od20, .func (PySem.W.fnOf "_law_pick" "_law_pick" (defArgs s_pick) (defBody s_pick) (defScope s_pick) .none kV20 dc20 pm20 an20 cd20 ct20), sl20⟩) (c20 : PySem.W.codeIn K cd20 "_law_pick" = true) (k20 : PySem.W.keepIn K (.ref f20) = true)
    (a21 : PySem.W.nsIn K mainGlobals "_law_names" = some (some (.ref f21))) (l21 : K.lookup f21 = some ⟨oc21, od21, .func (PySem.W.fnOf "_law_names" "_law_names" (defArgs s_names) (defBody s_names) (defScope s_names) .none kV21 dc21 pm21 an21 cd21 ct21), sl21⟩) (c21 : PySem.W.codeIn K cd21 "_law_names" = true) (k21 : PySem.W.keepIn K (.ref f21) = true)
    (a22 : PySem.W.nsIn K mainGlobals "_law_promise_rows" = some (some (.ref f22))) (l22 : K.lookup f22 = some ⟨oc22, od22, .func (PySem.W.fnOf "_law_promise_rows" "_law_promise_rows" (defArgs s_promise_rows) (defBody s_promise_rows) (defScope s_promise_rows) .none kV22 dc22 pm22 an22 cd22 ct22), sl22⟩) (c22 : PySem.W.codeIn K cd22 "_law_promise_rows" = true) (k22 : PySem.W.keepIn K (.ref f22) = true)
    (a23 : PySem.W.nsIn K mainGlobals "_law_promised" = some (some (.ref f23))) (l23 : K.lookup f23 = some ⟨oc23, od23, .func (PySem.W.fnOf "_law_promised" "_law_promised" (defArgs s_promised) (defBody s_promised) (defScope s_promised) .none kV23 dc23 pm23 an23 cd23 ct23), sl23⟩) (c23 : PySem.W.codeIn K cd23 "_law_promised" = true) (k23 : PySem.W.keepIn K (.ref f23) = true)
    (a24 : PySem.W.nsIn K mainGlobals "_law_drawn_reads" = some (some (.ref f24))) (l24 : K.lookup f24 = some ⟨oc24, od24, .func (PySem.W.fnOf "_law_drawn_reads" "_law_drawn_reads" (defArgs s_drawn_reads) (defBody s_drawn_reads) (defScope s_drawn_reads) .none kV24 dc24 pm24 an24 cd24 ct24), sl24⟩) (c24 : PySem.W.codeIn K cd24 "_law_drawn_reads" = true) (k24 : PySem.W.keepIn K (.ref f24) = true)
    (a25 : PySem.W.nsIn K mainGlobals "_law_made" = some (some (.ref f25))) (l25 : K.lookup f25 = some ⟨oc25, od25, .func (PySem.W.fnOf "_law_made" "_law_made" (defArgs s_made) (defBody s_made) (defScope s_made) .none kV25 dc25 pm25 an25 cd25 ct25), sl25⟩) (c25 : PySem.W.codeIn K cd25 "_law_made" = true) (k25 : PySem.W.keepIn K (.ref f25) = true)
    (a26 : PySem.W.nsIn K mainGlobals "_law_odd_row" = some (some (.ref f26))) (l26 : K.lookup f26 = some ⟨oc26, od26, .func (PySem.W.fnOf "_law_odd_row" "_law_odd_row" (defArgs s_odd_row) (defBody s_odd_row) (defScope s_odd_row) .none kV26 dc26 pm26 an26 cd26 ct26), sl26⟩) (c26 : PySem.W.codeIn K cd26 "_law_odd_row" = true) (k26 : PySem.W.keepIn K (.ref f26) = true)
    (a27 : PySem.W.nsIn K mainGlobals "_law_right" = some (some (.ref f27))) (l27 : K.lookup f27 = some ⟨oc27, od27, .func (PySem.W.fnOf "_law_right" "_law_right" (defArgs s_right) (defBody s_right) (defScope s_right) .none kV27 dc27 pm27 an27 cd27 ct27), sl27⟩) (c27 : PySem.W.codeIn K cd27 "_law_right" = true) (k27 : PySem.W.keepIn K (.ref f27) = true)
    (a28 : PySem.W.nsIn K mainGlobals "_law_equal_right" = some (some (.ref f28))) (l28 : K.lookup f28 = some ⟨oc28, od28, .func (PySem.W.fnOf "_law_equal_right" "_law_equal_right" (defArgs s_equal_right) (defBody s_equal_right) (defScope s_equal_right) .none kV28 dc28 pm28 an28 cd28 ct28), sl28⟩) (c28 : PySem.W.codeIn K cd28 "_law_equal_right" = true) (k28 : PySem.W.keepIn K (.ref f28) = true)
    (a29 : PySem.W.nsIn K mainGlobals "law" = some (some (.ref f29))) (l29 : K.lookup f29 = some ⟨oc29, od29, .func (PySem.W.fnOf "law" "law" (defArgs s_law) (defBody s_law) (defScope s_law) .none kV29 dc29 pm29 an29 cd29 ct29), sl29⟩) (c29 : PySem.W.codeIn K cd29 "law" = true) (k29 : PySem.W.keepIn K (.ref f29) = true)
    {t_LONGEST_NAME : Tok} (g_LONGEST_NAME : PySem.W.nsIn K mainGlobals "LONGEST_NAME" = some (some (.int 8 t_LONGEST_NAME)))
    {t_HIGHEST_MARK : Tok} (g_HIGHEST_MARK : PySem.W.nsIn K mainGlobals "HIGHEST_MARK" = some (some (.int 3 t_HIGHEST_MARK)))
    {t_NONE : Tok} (g_NONE : PySem.W.nsIn K mainGlobals "NONE" = some (some (.int (-1) t_NONE)))
    {t_MANY_STATES : Tok} (g_MANY_STATES : PySem.W.nsIn K mainGlobals "MANY_STATES" = some (some (.int 100 t_MANY_STATES)))
    (z_abs : PySem.W.nsIn K mainGlobals "abs" = some none)
    (z_all : PySem.W.nsIn K mainGlobals "all" = some none)
    (z_bool : PySem.W.nsIn K mainGlobals "bool" = some none)
    (z_enumerate : PySem.W.nsIn K mainGlobals "enumerate" = some none)
    (z_int : PySem.W.nsIn K mainGlobals "int" = some none)
    (z_isinstance : PySem.W.nsIn K mainGlobals "isinstance" = some none)
    (z_len : PySem.W.nsIn K mainGlobals "len" = some none)
    (z_list : PySem.W.nsIn K mainGlobals "list" = some none)
    (z_range : PySem.W.nsIn K mainGlobals "range" = some none)
    (z_repr : PySem.W.nsIn K mainGlobals "repr" = some none)
    (z_str : PySem.W.nsIn K mainGlobals "str" = some none)
    (z_tuple : PySem.W.nsIn K mainGlobals "tuple" = some none)
    (z_zip : PySem.W.nsIn K mainGlobals "zip" = some none)
    {fREAD_FORMS : Addr} {esREAD_FORMS : Array DictEntry} {nREAD_FORMS : Nat} (aREAD_FORMS : PySem.W.nsIn K mainGlobals "READ_FORMS" = some (some (.ref fREAD_FORMS))) (lREAD_FORMS : K.lookup fREAD_FORMS = some ⟨.type "dict", none, .dict esREAD_FORMS nREAD_FORMS, #[]⟩) (kREAD_FORMS : PySem.W.KeysLit w.params esREAD_FORMS.toList) (tREAD_FORMS : TabT K esREAD_FORMS.toList t_READ_FORMS) (sREAD_FORMS : (fREAD_FORMS == sysModules) = false)
    : ∃ fd : FuncData, (∀ (s : Shared) (v : Value), BindsTo s fd ⟨[v], []⟩ [("_law_script", v)]) ∧ ∀ base : Heap, K.In base → base.Ns mainGlobals mg → FnG l.prog w K mg base 9 fa fd ["_law_script"] (spLaw K) := by
  have e := hfa.symm.trans (PySem.W.mg_of X G a29)
  cases e
  have F0 := fun_mk (st := s_is_integer) l0 c0 k0
  have b0 := F0.binds (ps := ["thing"]) fun _ _ _ _ _ _ us hl => match us, hl with | [_], _ => rfl
  have F1 := fun_mk (st := s_is_name) l1 c1 k1
  have b1 := F1.binds (ps := ["thing"]) fun _ _ _ _ _ _ us hl => match us, hl with | [_], _ => rfl
  have F2 := fun_mk (st := s_is_mark) l2 c2 k2
  have b2 := F2.binds (ps := ["thing"]) fun _ _ _ _ _ _ us hl => match us, hl with | [_], _ => rfl
  have F3 := fun_mk (st := s_is_number) l3 c3 k3
  have b3 := F3.binds (ps := ["many", "thing"]) fun _ _ _ _ _ _ us hl => match us, hl with | [_, _], _ => rfl
  have F4 := fun_mk (st := s_is_list) l4 c4 k4
  have b4 := F4.binds (ps := ["thing"]) fun _ _ _ _ _ _ us hl => match us, hl with | [_], _ => rfl
  have F5 := fun_mk (st := s_fits_read) l5 c5 k5
  have b5 := F5.binds (ps := ["kind", "thing"]) fun _ _ _ _ _ _ us hl => match us, hl with | [_, _], _ => rfl
  have F6 := fun_mk (st := s_has_read_form) l6 c6 k6
  have b6 := F6.binds (ps := ["thing", "free"]) fun _ _ _ _ _ _ us hl => match us, hl with | [_, _], _ => rfl
  have F7 := fun_mk (st := s_is_promise_row) l7 c7 k7
  have b7 := F7.binds (ps := ["thing"]) fun _ _ _ _ _ _ us hl => match us, hl with | [_], _ => rfl
  have F8 := fun_mk (st := s_is_like) l8 c8 k8
  have b8 := F8.binds (ps := ["pattern", "read"]) fun _ _ _ _ _ _ us hl => match us, hl with | [_, _], _ => rfl
  have F9 := fun_mk (st := s_wrong) l9 c9 k9
  have b9 := F9.binds (ps := ["self", "place"]) fun _ _ _ _ _ _ us hl => match us, hl with | [_, _], _ => rfl
  have F10 := fun_mk (st := s___init__) l10 c10 k10
  have b10 := F10.binds (ps := ["self", "rows"]) fun _ _ _ _ _ _ us hl => match us, hl with | [_, _], _ => rfl
  have F11 := fun_mk (st := s___eq__) l11 c11 k11
  have b11 := F11.binds (ps := ["self", "other"]) fun _ _ _ _ _ _ us hl => match us, hl with | [_, _], _ => rfl
  have F12 := fun_mk (st := s_rows) l12 c12 k12
  have b12 := F12.binds (ps := ["self"]) fun _ _ _ _ _ _ us hl => match us, hl with | [_], _ => rfl
  have F13 := fun_mk (st := s_state_after) l13 c13 k13
  have b13 := F13.binds (ps := ["self", "log"]) fun _ _ _ _ _ _ us hl => match us, hl with | [_, _], _ => rfl
  have F14 := fun_mk (st := s_broken_at) l14 c14 k14
  have b14 := F14.binds (ps := ["self", "log"]) fun _ _ _ _ _ _ us hl => match us, hl with | [_, _], _ => rfl
  have F15 := fun_mk (st := s_state_behind) l15 c15 k15
  have b15 := F15.binds (ps := ["self", "state", "read"]) fun _ _ _ _ _ _ us hl => match us, hl with | [_, _, _], _ => rfl
  have F16 := fun_mk (st := s_never) l16 c16 k16
  have b16 := F16.binds (ps := ["patterns"]) fun _ _ _ _ _ _ us hl => match us, hl with | [_], _ => rfl
  have F17 := fun_mk (st := s_bag) l17 c17 k17
  have b17 := F17.binds (ps := ["_law_script"]) fun _ _ _ _ _ _ us hl => match us, hl with | [_], _ => rfl
  have F18 := fun_mk (st := s_take) l18 c18 k18
  have b18 := F18.binds (ps := ["_law_bag", "_law_many"]) fun _ _ _ _ _ _ us hl => match us, hl with | [_, _], _ => rfl
  have F19 := fun_mk (st := s_alike) l19 c19 k19
  have b19 := F19.binds (ps := ["_law_found", "_law_right_here"]) fun _ _ _ _ _ _ us hl => match us, hl with | [_, _], _ => rfl
  have F20 := fun_mk (st := s_pick) l20 c20 k20
  have b20 := F20.binds (ps := ["_law_bag", "_law_some"]) fun _ _ _ _ _ _ us hl => match us, hl with | [_, _], _ => rfl
  have F21 := fun_mk (st := s_names) l21 c21 k21
  have b21 := F21.binds (ps := ["_law_bag", "_law_many"]) fun _ _ _ _ _ _ us hl => match us, hl with | [_, _], _ => rfl
  have F22 := fun_mk (st := s_promise_rows) l22 c22 k22
  have b22 := F22.binds (ps := ["_law_bag", "_law_world"]) fun _ _ _ _ _ _ us hl => match us, hl with | [_, _], _ => rfl
  have F23 := fun_mk (st := s_promised) l23 c23 k23
  have b23 := F23.binds (ps := ["_law_rows", "_law_state", "_law_read"]) fun _ _ _ _ _ _ us hl => match us, hl with | [_, _, _], _ => rfl
  have F24 := fun_mk (st := s_drawn_reads) l24 c24 k24
  have b24 := F24.binds (ps := ["_law_bag", "_law_names_here"]) fun _ _ _ _ _ _ us hl => match us, hl with | [_, _], _ => rfl
  have F25 := fun_mk (st := s_made) l25 c25 k25
  have b25 := F25.binds (ps := ["_law_rows"]) fun _ _ _ _ _ _ us hl => match us, hl with | [_], _ => rfl
  have F26 := fun_mk (st := s_odd_row) l26 c26 k26
  have b26 := F26.binds (ps := ["_law_bag", "_law_row"]) fun _ _ _ _ _ _ us hl => match us, hl with | [_, _], _ => rfl
  have F27 := fun_mk (st := s_right) l27 c27 k27
  have b27 := F27.binds (ps := ["_law_bag", "_law_promise", "_law_rows", "_law_log"]) fun _ _ _ _ _ _ us hl => match us, hl with | [_, _, _, _], _ => rfl
  have F28 := fun_mk (st := s_equal_right) l28 c28 k28
  have b28 := F28.binds (ps := ["_law_promise", "_law_rows"]) fun _ _ _ _ _ _ us hl => match us, hl with | [_, _], _ => rfl
  have F29 := fun_mk (st := s_law) l29 c29 k29
  have T : Txt0 mg := ⟨PySem.W.mg_none_of X G z_abs, PySem.W.mg_none_of X G z_all, PySem.W.mg_none_of X G z_bool, PySem.W.mg_none_of X G z_enumerate, PySem.W.mg_none_of X G z_int, PySem.W.mg_none_of X G z_isinstance, PySem.W.mg_none_of X G z_len, PySem.W.mg_none_of X G z_list, PySem.W.mg_none_of X G z_range, PySem.W.mg_none_of X G z_repr, PySem.W.mg_none_of X G z_str, PySem.W.mg_none_of X G z_tuple, PySem.W.mg_none_of X G z_zip, ⟨_, PySem.W.mg_of X G g_LONGEST_NAME⟩, ⟨_, PySem.W.mg_of X G g_HIGHEST_MARK⟩, ⟨_, PySem.W.mg_of X G g_NONE⟩, ⟨_, PySem.W.mg_of X G g_MANY_STATES⟩⟩
  have TK : TxtK K w mg := ⟨⟨_, PySem.W.mg_of X G aREAD_FORMS, ⟨esREAD_FORMS, nREAD_FORMS, lREAD_FORMS, kREAD_FORMS, tREAD_FORMS, sREAD_FORMS⟩⟩⟩
  have OC : OwnC K fC := ⟨⟨pgfC, hdfC, pofC, safC⟩, hafC, hnG, htG, hmfC, (fun T m => by simp only [List.mem_cons, List.not_mem_nil, or_false] at m; rcases m with rfl | rfl | rfl | rfl | rfl | rfl <;> assumption)⟩
  have TC : TopC K fC := (fun T m => by simp only [List.mem_cons, List.not_mem_nil, or_false] at m; rcases m with rfl | rfl | rfl | rfl | rfl | rfl | rfl <;> assumption)
  have TN : TopN K fC := (fun T m => by simp only [List.mem_cons, List.not_mem_nil, or_false] at m; rcases m with rfl | rfl | rfl | rfl | rfl | rfl | rfl <;> assumption)
  have N : CP K mg fC := ⟨OC, nofCclauses, TC, PySem.W.mg_of X G afC⟩
  have MKC : Mk K fC f10 := ⟨mkfC, a10, n10, kpfC⟩
  have OX : OexC K fW := x_oex xW (ve_B fA) (ve_r fA) sW
  have R : CA K mg fA fB fW := ⟨PySem.W.mg_of X G afA, PySem.W.mg_of X G afB, PySem.W.mg_of X G afW, exmW, x_exc xW (ve_B fA) (ve_O fA) gW hW yW hnG htG, kBW, x_xf xW (ve_B fA) gW hW, noW⟩
  refine ⟨PySem.W.fnOf "law" "law" (defArgs s_law) (defBody s_law) (defScope s_law) .none kV29 dc29 pm29 an29 cd29 ct29, fun s v => .of_eq rfl, fun base _ _ => ?_⟩
  have c_int : ClG l.prog w K mg base 1 "is_integer" (spF K (spP intD)) := ⟨_, _, _, ok_is_integer F0 T, PySem.W.mg_of X G a0, k0, b0⟩
  have c_name : ClG l.prog w K mg base 1 "is_name" (spF K (spP nameD)) := ⟨_, _, _, ok_is_name F1 T, PySem.W.mg_of X G a1, k1, b1⟩
  have c_mark : ClG l.prog w K mg base 2 "is_mark" (spF K (spP markD)) := ⟨_, _, _, ok_is_mark F2 T c_int, PySem.W.mg_of X G a2, k2, b2⟩
  have c_number : ClG l.prog w K mg base 2 "is_number" (spF K spNum) := ⟨_, _, _, ok_is_number F3 T c_int, PySem.W.mg_of X G a3, k3, b3⟩
  have c_list : ClG l.prog w K mg base 1 "is_list" (spF K spList) := ⟨_, _, _, ok_is_list F4 T, PySem.W.mg_of X G a4, k4, b4⟩
  have c_fits : ClG l.prog w K mg base 3 "fits_read" (spF K spFits) := ⟨_, _, _, ok_fits_read F5 T c_name c_mark c_int, PySem.W.mg_of X G a5, k5, b5⟩
  have c_form : ClG l.prog w K mg base 4 "has_read_form" (spF K spForm) := ⟨_, _, _, ok_has_read_form F6 T TK c_fits, PySem.W.mg_of X G a6, k6, b6⟩
  have c_row : ClG l.prog w K mg base 5 "is_promise_row" (spF K (spP rowP)) := ⟨_, _, _, ok_is_promise_row F7 T c_number c_form, PySem.W.mg_of X G a7, k7, b7⟩
  have c_like : ClG l.prog w K mg base 1 "is_like" (spF K S_like) := ⟨_, _, _, ok_is_like F8 T, PySem.W.mg_of X G a8, k8, b8⟩
  have RW : CW l.prog w K mg base fW := ⟨⟨_, _, ok_wrong F9 ⟨OX, noW⟩, a9, y9, b9⟩, OX, PySem.W.mg_of X G afW⟩
  have m_promise : MkG l.prog w K mg base 6 "Promise" fC S_init := ⟨⟨_, _, _, ok___init__ F10 T N c_list c_row, MKC, b10⟩, OC, PySem.W.mg_of X G afC⟩
  have m_own : MkO l.prog w K mg base 6 "Promise" fC S_initO := ⟨⟨_, _, _, ok_initO F10 T N c_list c_row, MKC, b10⟩, OC, PySem.W.mg_of X G afC⟩
  have m_bad : MkB l.prog w K mg base 6 fC fW := ⟨⟨_, _, _, ok_bad F10 T N c_list c_row RW, MKC, b10⟩⟩
  have c_eq : EqG l.prog w K mg base 1 fC (S_eq fC) := ⟨⟨_, _, _, ok___eq__ F11 T N, a11, n11, b11⟩, nefC, hmfC, TN⟩
  have c_rows : MtG l.prog w K mg base 1 fC "rows" (spF K (S_rows fC)) := ⟨_, _, _, ok_rows F12 T N, ⟨a12, n12, k12⟩, b12⟩
  have c_sb : MtG l.prog w K mg base 2 fC "state_behind" (spF K (S_sb fC)) := ⟨_, _, _, ok_state_behind F15 T N c_like, ⟨a15, n15, k15⟩, b15⟩
  have c_after : MtG l.prog w K mg base 3 fC "state_after" (spF K (S_after fC)) := ⟨_, _, _, ok_state_after F13 T N c_sb, ⟨a13, n13, k13⟩, b13⟩
  have c_brk : MtG l.prog w K mg base 3 fC "broken_at" (spF K (S_brk fC)) := ⟨_, _, _, ok_broken_at F14 T N c_sb, ⟨a14, n14, k14⟩, b14⟩
  have c_never : ClG l.prog w K mg base 8 "never" (spF K (S_never fC)) := ⟨_, _, _, ok_never F16 T N m_promise, PySem.W.mg_of X G a16, k16, b16⟩
  have c_bag : Cl l.prog w K mg base 1 "_law_new_bag" (spBag K) := ⟨_, _, _, ok_bag F17 T, PySem.W.mg_of X G a17, k17, b17⟩
  have h_take : Cl l.prog w K mg base 1 "_law_take" (spTake) := ⟨_, _, _, ok_take F18 T, PySem.W.mg_of X G a18, k18, b18⟩
  have c_take : ClG l.prog w K mg base 1 "_law_take" (spF K S_take) := clG_of h_take take_of
  have c_alike : ClG l.prog w K mg base 1 "_law_alike" (spF K S_alike) := ⟨_, _, _, ok_alikeD F19 T, PySem.W.mg_of X G a19, k19, b19⟩
  have c_pick : ClG l.prog w K mg base 2 "_law_pick" (spF K S_one) := ⟨_, _, _, ok_pick F20 T c_take, PySem.W.mg_of X G a20, k20, b20⟩
  have c_names : ClG l.prog w K mg base 2 "_law_names" (spF K S_names) := ⟨_, _, _, ok_names F21 T c_take, PySem.W.mg_of X G a21, k21, b21⟩
  have c_prows : ClG l.prog w K mg base 3 "_law_promise_rows" (spF K S_prows) := ⟨_, _, _, ok_promise_rows F22 T c_take c_pick, PySem.W.mg_of X G a22, k22, b22⟩
  have c_promised : ClG l.prog w K mg base 1 "_law_promised" (spF K S_promised) := ⟨_, _, _, ok_promised F23 T, PySem.W.mg_of X G a23, k23, b23⟩
  have c_dreads : ClG l.prog w K mg base 3 "_law_drawn_reads" (spF K S_dreads) := ⟨_, _, _, ok_drawn_reads F24 T c_take c_pick, PySem.W.mg_of X G a24, k24, b24⟩
  have c_made : ClG l.prog w K mg base 8 "_law_made" (spF K S_made) := ⟨_, _, _, ok_made F25 T N R m_promise m_bad, PySem.W.mg_of X G a25, k25, b25⟩
  have c_odd : ClG l.prog w K mg base 2 "_law_odd_row" (spF K S_odd) := ⟨_, _, _, ok_odd_row F26 T c_take, PySem.W.mg_of X G a26, k26, b26⟩
  have c_right : ClG l.prog w K mg base 4 "_law_right" (spF K (S_right fC)) := ⟨_, _, _, ok_right F27 T N c_alike c_promised c_after c_brk, PySem.W.mg_of X G a27, k27, b27⟩
  have c_equal : ClG l.prog w K mg base 8 "_law_equal_right" (spF K (S_equal fC)) := ⟨_, _, _, ok_equal_right F28 T N c_alike m_promise c_rows c_eq, PySem.W.mg_of X G a28, k28, b28⟩
  exact ok_law F29 T N c_bag c_take c_names c_prows c_alike c_right c_dreads c_equal c_never c_odd c_made m_promise m_own c_rows
end K58
open PySem PySem.W PyProof.Rows
set_option maxHeartbeats 0 in
theorem PySem.Challenge.cw_askless_k58_promises_told_holds : PySem.Challenge.rw_askless_k58_promises_told.Holds := by
  w_on; o_law; k_head; (case hw => w_witness2)
  k_fill
  refine GL.walkG (l := PySem.Challenge.rw_askless_k58_promises_told) (n := 63) (k := 9) (x := "_law_script") (sp := fun w => K58.spLaw _) rfl (by decide) rfl ⟨rfl, by decide, by decide⟩ (fun w h Y => PySem.W.kIn_of Y) ?F (fun _ _ a ns hl _ hS => ⟨a, ns, rfl, hS, hl, fun _ => rfl⟩)
  case F =>
    intro w mg fa h KX G hmg
    refine' K58.all_mk (w := w) KX G hmg ?xafC ?xafA ?xafW ?xafB ?xhnG ?xhtG ?xpgfC ?xhdfC ?xpofC ?xsafC ?xhafC ?xhmfC ?xkifCbool ?xkifCint ?xkifCstr ?xkifClist ?xkifCtuple ?xkifCdict ?xtofCNoneType ?xtnfCNoneType ?xtofCbool ?xtnfCbool ?xtofCint ?xtnfCint ?xtofCstr ?xtnfCstr ?xtofClist ?xtnfClist ?xtofCtuple ?xtnfCtuple ?xtofCdict ?xtnfCdict ?xmkfC ?xkpfC ?xnefC ?xnofCclauses ?xxW ?xsW ?xgW ?xhW ?xyW ?xnoW ?xexmW ?xkBW ?xa0 ?xl0 ?xc0 ?xk0 ?xa1 ?xl1 ?xc1 ?xk1 ?xa2 ?xl2 ?xc2 ?xk2 ?xa3 ?xl3 ?xc3 ?xk3 ?xa4 ?xl4 ?xc4 ?xk4 ?xa5 ?xl5 ?xc5 ?xk5 ?xa6 ?xl6 ?xc6 ?xk6 ?xa7 ?xl7 ?xc7 ?xk7 ?xa8 ?xl8 ?xc8 ?xk8 ?xa9 ?xl9 ?xc9 ?xk9 ?xn9 ?xy9 ?xa10 ?xl10 ?xc10 ?xk10 ?xn10 ?xy10 ?xa11 ?xl11 ?xc11 ?xk11 ?xn11 ?xy11 ?xa12 ?xl12 ?xc12 ?xk12 ?xn12 ?xy12 ?xa13 ?xl13 ?xc13 ?xk13 ?xn13 ?xy13 ?xa14 ?xl14 ?xc14 ?xk14 ?xn14 ?xy14 ?xa15 ?xl15 ?xc15 ?xk15 ?xn15 ?xy15 ?xa16 ?xl16 ?xc16 ?xk16 ?xa17 ?xl17 ?xc17 ?xk17 ?xa18 ?xl18 ?xc18 ?xk18 ?xa19 ?xl19 ?xc19 ?xk19 ?xa20 ?xl20 ?xc20 ?xk20 ?xa21 ?xl21 ?xc21 ?xk21 ?xa22 ?xl22 ?xc22 ?xk22 ?xa23 ?xl23 ?xc23 ?xk23 ?xa24 ?xl24 ?xc24 ?xk24 ?xa25 ?xl25 ?xc25 ?xk25 ?xa26 ?xl26 ?xc26 ?xk26 ?xa27 ?xl27 ?xc27 ?xk27 ?xa28 ?xl28 ?xc28 ?xk28 ?xa29 ?xl29 ?xc29 ?xk29 ?xg_LONGEST_NAME ?xg_HIGHEST_MARK ?xg_NONE ?xg_MANY_STATES ?xz_abs ?xz_all ?xz_bool ?xz_enumerate ?xz_int ?xz_isinstance ?xz_len ?xz_list ?xz_range ?xz_repr ?xz_str ?xz_tuple ?xz_zip ?xaREAD_FORMS ?xlREAD_FORMS ?xkREAD_FORMS ?xtREAD_FORMS ?xsREAD_FORMS
    (case xafC => first | rfl | k_is)
    (case xafA => first | rfl | k_is)
    (case xafW => first | rfl | k_is)
    (case xafB => first | rfl | k_is)
    (case xhnG => first | rfl | k_is)
    (case xhtG => first | rfl | k_is)
    (case xpgfC => first | rfl | k_is)
    (case xhdfC => first | rfl | k_is)
    (case xpofC => first | rfl | k_is)
    (case xsafC => first | rfl | k_is)
    (case xhafC => first | rfl | k_is)
    (case xhmfC => first | rfl | k_is)
    (case xkifCbool => first | rfl | k_is)
    (case xkifCint => first | rfl | k_is)
    (case xkifCstr => first | rfl | k_is)
    (case xkifClist => first | rfl | k_is)
    (case xkifCtuple => first | rfl | k_is)
    (case xkifCdict => first | rfl | k_is)
    (case xtofCNoneType => first | rfl | k_is)
    (case xtnfCNoneType => first | rfl | k_is)
    (case xtofCbool => first | rfl | k_is)
    (case xtnfCbool => first | rfl | k_is)
    (case xtofCint => first | rfl | k_is)
    (case xtnfCint => first | rfl | k_is)
    (case xtofCstr => first | rfl | k_is)
    (case xtnfCstr => first | rfl | k_is)
    (case xtofClist => first | rfl | k_is)
    (case xtnfClist => first | rfl | k_is)
    (case xtofCtuple => first | rfl | k_is)
    (case xtnfCtuple => first | rfl | k_is)
    (case xtofCdict => first | rfl | k_is)
    (case xtnfCdict => first | rfl | k_is)
    (case xmkfC => first | rfl | k_is)
    (case xkpfC => first | rfl | k_is)
    (case xnefC => first | rfl | k_is)
    (case xnofCclauses => first | rfl | k_is)
    (case xxW => first | rfl | k_is)
    (case xsW => first | rfl | k_is)
    (case xgW => first | rfl | k_is)
    (case xhW => first | rfl | k_is)
    (case xyW => first | rfl | k_is)
    (case xnoW => first | rfl | k_is)
    (case xexmW => first | rfl | k_is)
    (case xkBW => first | rfl | k_is)
    (case xa0 => first | rfl | k_is)
    (case xl0 => first | rfl | k_is)
    (case xc0 => first | rfl | k_is)
    (case xk0 => first | rfl | k_is)
    (case xa1 => first | rfl | k_is)
    (case xl1 => first | rfl | k_is)
    (case xc1 => first | rfl | k_is)
    (case xk1 => first | rfl | k_is)
    (case xa2 => first | rfl | k_is)
    (case xl2 => first | rfl | k_is)
    (case xc2 => first | rfl | k_is)
    (case xk2 => first | rfl | k_is)
    (case xa3 => first | rfl | k_is)
    (case xl3 => first | rfl | k_is)
    (case xc3 => first | rfl | k_is)
    (case xk3 => first | rfl | k_is)
    (case xa4 => first | rfl | k_is)
    (case xl4 => first | rfl | k_is)
    (case xc4 => first | rfl | k_is)
    (case xk4 => first | rfl | k_is)
    (case xa5 => first | rfl | k_is)
    (case xl5 => first | rfl | k_is)
    (case xc5 => first | rfl | k_is)
    (case xk5 => first | rfl | k_is)
    (case xa6 => first | rfl | k_is)
    (case xl6 => first | rfl | k_is)
    (case xc6 => first | rfl | k_is)
    (case xk6 => first | rfl | k_is)
    (case xa7 => first | rfl | k_is)
    (case xl7 => first | rfl | k_is)
    (case xc7 => first | rfl | k_is)
    (case xk7 => first | rfl | k_is)
    (case xa8 => first | rfl | k_is)
    (case xl8 => first | rfl | k_is)
    (case xc8 => first | rfl | k_is)
    (case xk8 => first | rfl | k_is)
    (case xa9 => first | rfl | k_is)
    (case xl9 => first | rfl | k_is)
    (case xc9 => first | rfl | k_is)
    (case xk9 => first | rfl | k_is)
    (case xn9 => first | rfl | k_is)
    (case xy9 => first | rfl | k_is)
    (case xa10 => first | rfl | k_is)
    (case xl10 => first | rfl | k_is)
    (case xc10 => first | rfl | k_is)
    (case xk10 => first | rfl | k_is)
    (case xn10 => first | rfl | k_is)
    (case xy10 => first | rfl | k_is)
    (case xa11 => first | rfl | k_is)
    (case xl11 => first | rfl | k_is)
    (case xc11 => first | rfl | k_is)
    (case xk11 => first | rfl | k_is)
    (case xn11 => first | rfl | k_is)
    (case xy11 => first | rfl | k_is)
    (case xa12 => first | rfl | k_is)
    (case xl12 => first | rfl | k_is)
    (case xc12 => first | rfl | k_is)
    (case xk12 => first | rfl | k_is)
    (case xn12 => first | rfl | k_is)
    (case xy12 => first | rfl | k_is)
    (case xa13 => first | rfl | k_is)
    (case xl13 => first | rfl | k_is)
    (case xc13 => first | rfl | k_is)
    (case xk13 => first | rfl | k_is)
    (case xn13 => first | rfl | k_is)
    (case xy13 => first | rfl | k_is)
    (case xa14 => first | rfl | k_is)
    (case xl14 => first | rfl | k_is)
    (case xc14 => first | rfl | k_is)
    (case xk14 => first | rfl | k_is)
    (case xn14 => first | rfl | k_is)
    (case xy14 => first | rfl | k_is)
    (case xa15 => first | rfl | k_is)
    (case xl15 => first | rfl | k_is)
    (case xc15 => first | rfl | k_is)
    (case xk15 => first | rfl | k_is)
    (case xn15 => first | rfl | k_is)
    (case xy15 => first | rfl | k_is)
    (case xa16 => first | rfl | k_is)
    (case xl16 => first | rfl | k_is)
    (case xc16 => first | rfl | k_is)
    (case xk16 => first | rfl | k_is)
    (case xa17 => first | rfl | k_is)
    (case xl17 => first | rfl | k_is)
    (case xc17 => first | rfl | k_is)
    (case xk17 => first | rfl | k_is)
    (case xa18 => first | rfl | k_is)
    (case xl18 => first | rfl | k_is)
    (case xc18 => first | rfl | k_is)
    (case xk18 => first | rfl | k_is)
    (case xa19 => first | rfl | k_is)
    (case xl19 => first | rfl | k_is)
    (case xc19 => first | rfl | k_is)
    (case xk19 => first | rfl | k_is)
    (case xa20 => first | rfl | k_is)
    (case xl20 => first | rfl | k_is)
    (case xc20 => first | rfl | k_is)
    (case xk20 => first | rfl | k_is)
    (case xa21 => first | rfl | k_is)
    (case xl21 => first | rfl | k_is)
    (case xc21 => first | rfl | k_is)
    (case xk21 => first | rfl | k_is)
    (case xa22 => first | rfl | k_is)
    (case xl22 => first | rfl | k_is)
    (case xc22 => first | rfl | k_is)
    (case xk22 => first | rfl | k_is)
    (case xa23 => first | rfl | k_is)
    (case xl23 => first | rfl | k_is)
    (case xc23 => first | rfl | k_is)
    (case xk23 => first | rfl | k_is)
    (case xa24 => first | rfl | k_is)
    (case xl24 => first | rfl | k_is)
    (case xc24 => first | rfl | k_is)
    (case xk24 => first | rfl | k_is)
    (case xa25 => first | rfl | k_is)
    (case xl25 => first | rfl | k_is)
    (case xc25 => first | rfl | k_is)
    (case xk25 => first | rfl | k_is)
    (case xa26 => first | rfl | k_is)
    (case xl26 => first | rfl | k_is)
    (case xc26 => first | rfl | k_is)
    (case xk26 => first | rfl | k_is)
    (case xa27 => first | rfl | k_is)
    (case xl27 => first | rfl | k_is)
    (case xc27 => first | rfl | k_is)
    (case xk27 => first | rfl | k_is)
    (case xa28 => first | rfl | k_is)
    (case xl28 => first | rfl | k_is)
    (case xc28 => first | rfl | k_is)
    (case xk28 => first | rfl | k_is)
    (case xa29 => first | rfl | k_is)
    (case xl29 => first | rfl | k_is)
    (case xc29 => first | rfl | k_is)
    (case xk29 => first | rfl | k_is)
    (case xg_LONGEST_NAME => first | rfl | k_is)
    (case xg_HIGHEST_MARK => first | rfl | k_is)
    (case xg_NONE => first | rfl | k_is)
    (case xg_MANY_STATES => first | rfl | k_is)
    (case xz_abs => first | rfl | k_is)
    (case xz_all => first | rfl | k_is)
    (case xz_bool => first | rfl | k_is)
    (case xz_enumerate => first | rfl | k_is)
    (case xz_int => first | rfl | k_is)
    (case xz_isinstance => first | rfl | k_is)
    (case xz_len => first | rfl | k_is)
    (case xz_list => first | rfl | k_is)
    (case xz_range => first | rfl | k_is)
    (case xz_repr => first | rfl | k_is)
    (case xz_str => first | rfl | k_is)
    (case xz_tuple => first | rfl | k_is)
    (case xz_zip => first | rfl | k_is)
    (case xaREAD_FORMS => first | rfl | k_is)
    (case xlREAD_FORMS => first | rfl | k_is)
    (case xkREAD_FORMS => exact ⟨⟨_, _, rfl, rfl⟩, ⟨_, _, rfl, rfl⟩, ⟨_, _, rfl, rfl⟩, trivial⟩)
    (case xtREAD_FORMS =>
      refine DL.TabT.cons (by first | rfl | k_is) rfl rfl (by rw [sizeLine_eq]; decide) (.cons ⟨_, rfl⟩ (.cons ⟨_, rfl⟩ .nil)) ?_
      refine DL.TabT.cons (by first | rfl | k_is) rfl rfl (by rw [sizeLine_eq]; decide) (.cons ⟨_, rfl⟩ (.cons ⟨_, rfl⟩ (.cons ⟨_, rfl⟩ .nil))) ?_
      refine DL.TabT.cons (by first | rfl | k_is) rfl rfl (by rw [sizeLine_eq]; decide) (.cons ⟨_, rfl⟩ (.cons ⟨_, rfl⟩ .nil)) ?_
      exact .nil)
    (case xsREAD_FORMS => rfl)
