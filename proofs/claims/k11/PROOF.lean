import PyProof.Rows.All
import Wide.All
import OpenK.AllK
import Wide.FinOn
import PySem.Challenge.RW_askless_k11_errors_kept
import HandS.ForMost
import HandS.Flow
import HandS.IsInst
import HandS.ExcValue
import HandS.ExcOwn
import HandS.Wide
import HandS.Steps
import HandS.Codes
import HandS.ExcIs
import PyProof.ReprLen
import HandS.Walk
import HandS.ExcInit
import HandS.ExcField
import KE.KExcIs
import HandS.OwnEq
import HandS.Dict
import HandS.WordsDict
import HandS.Style
set_option Elab.async false
set_option linter.all false
set_option maxRecDepth 100000
/-! GLay: defs that are called where no text of a list is being made (so that repr of a list is told), their rules. -/
namespace GL
open PySem PySem.Spec PyProof.Rows L2

/-- nothing is being shown around -/
abbrev Gd (A : Around) : Prop := A.guards = some []
theorem Gd.deep {A : Around} (g : Gd A) (env : Env) : Gd (A.deeper env) := by
  unfold Gd at *
  simp [Around.deeper, g]

/-- a def's promise, given that nothing is being shown around the call -/
structure FnG (P : Program) (w : World) (K : PySem.W.Frag) (mg : Str → Option Value) (base : Heap)
    (k : Nat) (f : Addr) (fd : FuncData) (ps : List Str) (sp : Sp) : Prop where
  many : ∀ vs H Q E, sp vs H Q E → vs.length = ps.length
  does : ∀ (A : Around) (out : List Env) (s : Shared) (H : Hp) (ar : Args) (us : List Value) (vs : List V) (Q : VK) (E : XK),
    Gd A → Room k A → Env0 P w K mg base A out s H → BindsTo s fd ar (ps.zip us) → Vals vs us →
    sp vs H Q E → codeAny (model P w) A (.call (.ref f) ar) (CR CX0 out P w H s Q E) s
theorem FnG.of {P : Program} {w : World} {K : PySem.W.Frag} {mg : Str → Option Value} {base : Heap} {k : Nat} {f : Addr}
    {fd : FuncData} {ps : List Str} {sp : Sp} (F : FnOk P w K mg base CX0 k f fd ps sp) : FnG P w K mg base k f fd ps sp :=
  ⟨F.len, fun A out s H ar us vs Q E _ hr e b r h => F.run A out s H ar us vs Q E hr e b r h⟩

/-- a def by its body -/
theorem okG {P : Program} {w : World} {K : PySem.W.Frag} {mg : Str → Option Value} {base : Heap} {x qual : Str} {st : Stmt} {f : Addr}
    {fd : FuncData} {N ps : List Str} {k : Nat} {sp : Sp} (F : Fun K x qual st f fd) (S : FnScope N ps (defScope st))
    (many : ∀ vs H Q E, sp vs H Q E → vs.length = ps.length)
    (body : ∀ (cdv : Value) (A : Around) (out : List Env) (s : Shared) (H : Hp) (vs : List V) (Q : VK) (E : XK),
      Gd (A.deeper (envOfC qual (defScope st) s.heap.objs.size f cdv)) →
      Room k (A.deeper (envOfC qual (defScope st) s.heap.objs.size f cdv)) → sp vs H Q E →
      ∃ t, PSs (cxOf CX0 P w K mg base N qual (defScope st) f cdv A out s H E).nox (defBody st) t ∧
        t { nx := fun _ H' => Q .non H', rt := Q } (start N vs) H) :
    FnG P w K mg base (k + 1) f fd ps sp := by
  obtain ⟨oc, od, kV, doc, pm, an, cdv, ct, osl, rfl, lk, hcd⟩ := F.ex
  refine ⟨many, fun A out s H ar us vs Q E hG hr e0 hb r hsp => ?_⟩
  have hlen := many _ _ _ _ hsp
  have inK : K.In s.heap := e0.mod.kin.keeps (fun b o e => (e0.bs b o e).1)
  have lim := (e0.mod.nolimit.keeps (h' := s.heap) (fun b o e => (e0.bs b o e).1))
  have kinds : ∀ y ∈ ps.zip us, (defScope st).names.lookup y.1 = some .local ∨ ((defScope st).names.lookup y.1 = some .cell ∧
      ((cellsFrom (s.heap.objs.size + 1) (defScope st).names []).lookup y.1).isSome = true) := by
    rintro ⟨n, v⟩ hy
    cases S.par n (List.of_mem_zip hy).1 with
    | inl q => exact Or.inl q
    | inr q => exact Or.inr ⟨q, PySem.W.cellsFrom_some _ _ _ (Or.inl q)⟩
  refine codeAny_call_function hr.depth (inK _ _ lk) rfl S.co S.gen rfl
    (PySem.W.codeRec_of inK hcd) (hb _ _ _ _ ?_)
  refine wpAny_newFunctionEnv_cells S.kind kinds (fun env he s1 entered => ?_)
  subst he
  refine ⟨lim.keeps entered.toInCall.keep, codeAny_func ?_⟩
  obtain ⟨t, ht, hq⟩ := body cdv A out s H vs Q E (hG.deep _) (hr.deeper _) hsp
  have I0 := inv_start (E := E) (mg := mg) (P := P) (CX := CX0) S hr.hd e0 hlen r entered
  refine wpAny_mono (ht.nox.run [] s1 (start N vs) H _ I0 hq) (fun fl s' hs => ?_) (fun e s' hs => hs)
  cases fl with
  | next =>
    obtain ⟨σ', H', J, q⟩ := hs
    exact ⟨.non, H', J.os, J.bare, J.base, J.hok, rfl, q⟩
  | ret u =>
    obtain ⟨v, σ', H', J, rv, q⟩ := hs
    exact ⟨v, H', J.os, J.bare, J.base, J.hok, rv, q⟩
  | brk => obtain ⟨_, _, _, q⟩ := hs; exact q.elim
  | cont => obtain ⟨_, _, _, q⟩ := hs; exact q.elim

section
variable {X : Cx} {k : Nat} {f : Addr} {fd : FuncData} {ps : List Str} {sp : Sp} {x : Str} {p pos : Pos} {e : Expr} {es : List Expr} {t : TA}
/-- f(e, ..) where nothing is being shown around -/
theorem pe_callG (F : FnG X.prog X.w X.K X.mg X.base k f fd ps sp) (hG : Gd X.A) (hr : Room k X.A) (hg : Gl X x)
    (hm : X.mg x = some (.ref f)) (hk : PySem.W.keepIn X.K (.ref f) = true) (hb : Binds X.K fd ps [])
    (ha : PA X (e :: es) t) (hdb : (x == ("__debug__" : Str)) = false := by decide)
    (he : starEach (e :: es) X.env = (false, eval e X.env) :: starEach es X.env := by rfl)
    (hpl : (backTo pos (starEach es X.env)).any (·.1) = false := by rfl) :
    PE X (.Call (.Name x p) (e :: es) [] pos) (tCall sp [] E0 t) := by
  constructor
  intro pins s σ H Q I h
  apply wpAny_Call_Name_kw
  apply ld_glob I hg hm ?_ hdb
  apply PySem.W.callWith_K (h₀ := X.base) I.ok.mod.kin hk ?_ he hpl
  apply thn (ha.run pos pins s σ H _ I h)
  rintro us s1 ⟨vs, H1, I1, r, q⟩
  refine ⟨I1.kIn, ?_⟩
  have q' : sp vs H1 Q E0 := by
    have q0 : sp (vs ++ []) H1 Q E0 := q
    rwa [List.append_nil] at q0
  have hl : (us ++ []).length = ps.length := by
    rw [List.append_nil, ← r.length]
    exact F.many _ _ _ _ q'
  have hbd := hb s1 us I1.kIn hl
  rw [List.append_nil] at hbd
  apply wpAny_call
  apply codeAny_mono (F.does X.A X.stack s1 H1 ⟨us, []⟩ us vs Q E0 hG hr I1.env0 hbd r q')
  intro res s' hq
  match res, hq with
  | .ok (.ret u), hq => exact I1.after hq
end

/-- a def of the module that may be called by its name -/
structure Cl (P : Program) (w : World) (K : PySem.W.Frag) (mg : Str → Option Value) (base : Heap) (k : Nat) (x : Str) (sp : Sp) : Prop where
  ex : ∃ (f : Addr) (fd : FuncData) (ps : List Str), FnOk P w K mg base CX0 k f fd ps sp ∧
    mg x = some (.ref f) ∧ PySem.W.keepIn K (.ref f) = true ∧ Binds K fd ps []
structure ClG (P : Program) (w : World) (K : PySem.W.Frag) (mg : Str → Option Value) (base : Heap) (k : Nat) (x : Str) (sp : Sp) : Prop where
  ex : ∃ (f : Addr) (fd : FuncData) (ps : List Str), FnG P w K mg base k f fd ps sp ∧
    mg x = some (.ref f) ∧ PySem.W.keepIn K (.ref f) = true ∧ Binds K fd ps []
section
variable {X : Cx} {j k : Nat} {sp : Sp} {x : Str} {p pos : Pos} {e : Expr} {es : List Expr} {t : TA}
theorem pe_cl (c : Cl X.prog X.w X.K X.mg X.base k x sp) (hr : Room j X.A) (hk : k ≤ j) (hg : Gl X x)
    (ha : PA X (e :: es) t) (hdb : (x == ("__debug__" : Str)) = false := by decide)
    (he : starEach (e :: es) X.env = (false, eval e X.env) :: starEach es X.env := by rfl)
    (hpl : (backTo pos (starEach es X.env)).any (·.1) = false := by rfl) :
    PE X (.Call (.Name x p) (e :: es) [] pos) (tCall sp [] E0 t) := by
  obtain ⟨f, fd, ps, F, hm, kp, b⟩ := c.ex
  exact pe_call F (hr.mono hk) hg hm kp b .nil pass0 ha hdb he hpl
theorem pe_clG (c : ClG X.prog X.w X.K X.mg X.base k x sp) (hG : Gd X.A) (hr : Room j X.A) (hk : k ≤ j) (hg : Gl X x)
    (ha : PA X (e :: es) t) (hdb : (x == ("__debug__" : Str)) = false := by decide)
    (he : starEach (e :: es) X.env = (false, eval e X.env) :: starEach es X.env := by rfl)
    (hpl : (backTo pos (starEach es X.env)).any (·.1) = false := by rfl) :
    PE X (.Call (.Name x p) (e :: es) [] pos) (tCall sp [] E0 t) := by
  obtain ⟨f, fd, ps, F, hm, kp, b⟩ := c.ex
  exact pe_callG F hG (hr.mono hk) hg hm kp b ha hdb he hpl
end

section
variable {X : Cx}
/-- repr of data: none, bools, ints, texts, lists, tuples -/
def rRepr (K : PySem.W.Frag) : List V → Hp → VK → Prop := fun xs H Q => ∃ v d, xs = [v] ∧ Dp K H v d ∧ d.showable = true ∧
  d.hasDict = false ∧ d.depth ≤ 64 ∧ d.shown.length ≤ sizeLine ∧ Q (.str d.shown) H
theorem call_reprD (hG : Gd X.A) (hu : X.A.units + 66 < cLine) : CallR X (.builtin "repr") (rRepr X.K) := by
  intro pins s σ H xs us Q I r h
  obtain ⟨v, d, rfl, hd, hs, hn, hz, hl, q⟩ := h
  obtain ⟨u, rfl, rv⟩ := vals1 r
  obtain ⟨as, rd⟩ := Dp.reads I d v u hd rv
  cases rd with
  | none => exact PySem.P.repr_of_none ⟨.str _, H, I.tok _, ⟨_, rfl⟩, q⟩
  | bool b => exact PySem.P.repr_of_bool ⟨.str _, H, I.tok _, ⟨_, rfl⟩, by cases b <;> exact q⟩
  | int i t => exact PySem.P.repr_of_int (of_decide_eq_true hs) ⟨.str _, H, I.tok _, ⟨_, rfl⟩, q⟩
  | str y t => exact PySem.P.repr_of_str ⟨.str _, H, I.tok _, ⟨_, rfl⟩, q⟩ hl
  | list h1 h2 h3 h4 =>
    exact repr_of_reads' (.list h1 h2 h3 h4) hs (PyData.noDict_hsm hn) hG (by omega) (fun _ _ e => e)
      (fun h' u tk hk => ⟨.str _, H, I.kept hk, ⟨_, rfl⟩, q⟩) hl
  | tuple h1 h2 h3 h4 =>
    exact repr_of_reads' (.tuple h1 h2 h3 h4) hs (PyData.noDict_hsm hn) hG (by omega) (fun _ _ e => e)
      (fun h' u tk hk => ⟨.str _, H, I.kept hk, ⟨_, rfl⟩, q⟩) hl
  | dict h1 h2 h3 h4 h5 => cases hd
end
end GL
set_option Elab.async false
set_option linter.all false
set_option maxRecDepth 100000
/-! GLay2: a few more rules by values, and words about heaps -/
namespace GL
open PySem PySem.Spec PyProof.Rows L2
section
variable {X : Cx}
/-- x op= of a list's item: the item is read -/
theorem get_list : PGet X (fun o i H Q => ∃ p xs k v, o = .ref p ∧ i = .int (k : Nat) ∧ H p = some (.lst xs) ∧ xs[k]? = some v ∧ Q v H) := by
  intro pins s σ H o i ov iv Q I ro ri h
  obtain ⟨p, xs, k, v, rfl, rfl, hp, he, q⟩ := h
  cases ro
  obtain ⟨t, rfl⟩ := ri
  obtain ⟨its, r, pl, hz⟩ := I.list (.inl (.inl hp))
  obtain ⟨w, ew, rw'⟩ := r.get he
  have hk : k < xs.length := (List.getElem?_eq_some_iff.mp he).1
  have h63 := line63
  exact getItem_listL pl.isList (Int.natCast_nonneg k) (by omega) (by simpa using ew) ⟨v, H, I, rw', q⟩
/-- a text a few times -/
theorem op_mul_str : OpR X (binaryOp .Mult) (fun x y H Q => ∃ (z : Str) (n : Int), x = .str z ∧ y = .int n ∧ 0 ≤ n ∧ n ≤ 1000 ∧ z.length ≤ 1000 ∧ Q (.str (Txt.mul z n)) H) := by
  intro pins s σ H x y v u Q I rx ry h
  obtain ⟨z, n, rfl, rfl, h0, h1, hz, q⟩ := h
  obtain ⟨t, rfl⟩ := rx
  obtain ⟨t', rfl⟩ := ry
  have hn : n.toNat ≤ 1000 := by omega
  have hm : z.length * n.toNat ≤ 1000 * 1000 := Nat.mul_le_mul hz hn
  refine SB.mul (n := n) ⟨?_, fun h2 _ => ?_, fun h2 _ => ?_⟩ fun t2 k => ⟨.str (Txt.mul z n), H, I.tok k, ⟨t2, rfl⟩, q⟩
  · rw [decide_eq_false (by omega), decide_eq_false (by omega)]
    rfl
  · have h3 : (2 ^ 63 - 1 : Int) / 1000 ≤ (2 ^ 63 - 1) / n := by
      rcases Int.lt_or_le 0 n with hp | hp
      · rw [Int.le_ediv_iff_mul_le hp]
        have h4 : (2 ^ 63 - 1 : Int) / 1000 * n ≤ (2 ^ 63 - 1 : Int) / 1000 * 1000 := Int.mul_le_mul_of_nonneg_left h1 (by decide)
        have h5 : (2 ^ 63 - 1 : Int) / 1000 * 1000 ≤ 2 ^ 63 - 1 := by decide
        omega
      · omega
    have h6 : (1000 : Int) ≤ (2 ^ 63 - 1 : Int) / 1000 := by decide
    omega
  · have h7 : 1000 * 1000 ≤ sizeLine := by rw [sizeLine_eq]; decide
    unfold Builtin.Str.tooLong
    exact decide_eq_false (by omega)
end

theorem atI_int {α : Type} {xs : List α} {i : Int} {v : α} (h0 : 0 ≤ i) (h : xs[i.toNat]? = some v) : atI xs i = some v := by
  have e := atI_nat h
  rwa [Int.toNat_of_nonneg h0] at e

/-! ### heaps: all but one object stays -/
/-- the heap without b -/
def wo (b : Addr) (H : Hp) : Hp := fun a => if a = b then none else H a
theorem wo_ne {b a : Addr} {H : Hp} (h : a ≠ b) : wo b H a = H a := by unfold wo; rw [if_neg h]
theorem wo_some {b a : Addr} {H : Hp} {o : HO} (h : wo b H a = some o) : a ≠ b ∧ H a = some o := by
  unfold wo at h
  by_cases e : a = b
  · rw [if_pos e] at h; cases h
  · rw [if_neg e] at h; exact ⟨e, h⟩
theorem wo_same {b : Addr} {H : Hp} : Same (wo b H) H := fun _ _ h => (wo_some h).2
/-- all that is tracked in H but b is so in H' -/
def But (b : Addr) (H H' : Hp) : Prop := Same (wo b H) (wo b H')
theorem But.refl {b : Addr} {H : Hp} : But b H H := Same.refl _
theorem But.trans {b : Addr} {H H1 H2 : Hp} (h : But b H H1) (k : But b H1 H2) : But b H H2 := Same.trans h k
theorem But.of {b : Addr} {H H' : Hp} (h : Same H H') : But b H H' := fun a o e => by
  obtain ⟨n, e'⟩ := wo_some e
  rw [wo_ne n]; exact h _ _ e'
theorem But.upd {b : Addr} {H : Hp} {o : HO} : But b H (upd H b o) := fun a u e => by
  obtain ⟨n, e'⟩ := wo_some e
  rw [wo_ne n, upd_ne n]; exact e'
theorem But.new {b p : Addr} {H : Hp} {o : HO} (h : H p = none) : But b H (L2.upd H p o) := But.of fun a u e => by
  rw [upd_ne (ne_of_none e h)]; exact e
theorem But.at {b a : Addr} {H H' : Hp} {o : HO} (h : But b H H') (n : a ≠ b) (e : H a = some o) : H' a = some o := by
  have := h a o (by rw [wo_ne n]; exact e)
  rw [wo_ne n] at this; exact this
theorem same_new {p : Addr} {H : Hp} {o : HO} (h : H p = none) : Same H (upd H p o) := fun a u e => by
  rw [upd_ne (ne_of_none e h)]; exact e
theorem upd_self {a : Addr} {H : Hp} {o : HO} (h : H a = some o) : upd H a o = H := by
  funext b
  by_cases e : b = a
  · rw [e, upd_same, h]
  · rw [upd_ne e]
theorem Same.seqT {K : PySem.W.Frag} {H H' : Hp} {a : Addr} {xs : List V} (e : Same H H') (h : SqT K H a xs) : SqT K H' a xs := by
  rcases h with (h | ⟨o, h⟩) | h
  · exact .inl (.inl (e _ _ h))
  · exact .inl (.inr ⟨o, e _ _ h⟩)
  · exact .inr h
mutual
theorem Dp.same {K : PySem.W.Frag} {H H' : Hp} (e : Same H H') : ∀ {d : PyData} {v : V}, Dp K H v d → Dp K H' v d
  | .none, _, .non => .non
  | .bool _, _, .bl b => .bl b
  | .int _, _, .int i => .int i
  | .str _, _, .str x => .str x
  | .list _, _, .lst h a => .lst (e.seq h) (DpAll.same e a)
  | .tuple _, _, .tup h a => .tup (Same.seqT e h) (DpAll.same e a)
theorem DpAll.same {K : PySem.W.Frag} {H H' : Hp} (e : Same H H') : ∀ {ds : List PyData} {vs : List V}, DpAll K H vs ds → DpAll K H' vs ds
  | [], _, .nil => .nil
  | _ :: _, _, .cons h t => .cons (Dp.same e h) (DpAll.same e t)
end
end GL
set_option Elab.async false
set_option linter.all false
set_option maxRecDepth 100000
/-! GLay3: any values: what a law may be handed -/
namespace GL
open PySem PySem.Spec PyProof.Rows L2

/-- a short text of plain signs -/
def TxOk (x : Str) : Prop := x.length ≤ 10000 ∧ ∀ c ∈ x.cps.toList, c < 128
/-- data whose text may be told -/
structure DOk (d : PyData) : Prop where
  lay : d.canLay0 = true
  short : d.leavesShort 8 = true
  weighs : d.weight ≤ 100000
  deep : d.depth ≤ 60
  shows : d.showable = true
theorem DOk.fits {d : PyData} (h : DOk d) : d.shown.length ≤ sizeLine := by
  have k := PyData.shown_le 8 (by decide) d h.short
  have k2 := h.weighs
  rw [sizeLine_eq]
  omega
theorem DOk.nodict {d : PyData} (h : DOk d) : d.hasDict = false := PyData.hasDict_of_canLay d h.lay
theorem TxOk.size {x : Str} (h : TxOk x) : x.length ≤ sizeLine := by
  have := h.1
  rw [sizeLine_eq]
  omega
theorem TxOk.strOk {x : Str} (h : TxOk x) : PyData.strOk x = true := by
  unfold PyData.strOk
  rw [Array.all_eq_true_iff_forall_mem]
  intro c hc
  have := h.2 c (Array.mem_toList_iff.mpr hc)
  simp
  omega
theorem TxOk.data {x : Str} (h : TxOk x) : DOk (.str x) where
  lay := by simp only [PyData.canLay0]; exact h.strOk
  short := by
    simp only [PyData.leavesShort, List.all_eq_true, decide_eq_true_eq]
    intro c hc
    have := h.2 c hc
    have e : (16 : Nat) ^ 8 = 4294967296 := by decide
    omega
  weighs := by
    have := h.1
    have e : x.length = x.cps.size := rfl
    simp only [PyData.weight]
    omega
  deep := by simp only [PyData.depth]; omega
  shows := by simp only [PyData.showable]

/-- a value that is no exception, in H -/
inductive ThN (K : PySem.W.Frag) (H : Hp) : V → Prop where
  | int (i : Int) (h : i.natAbs < 10 ^ 41) : ThN K H (.int i)
  | str (x : Str) (h : TxOk x) : ThN K H (.str x)
  | bl (b : Bool) : ThN K H (.bl b)
  | non : ThN K H .non
  | lst {a : Addr} {xs : List V} {ds : List PyData} (e : H a = some (.lst xs)) (d : DpAll K H xs ds) (o : DOk (.list ds)) : ThN K H (.ref a)
  | tup {a : Addr} {xs : List V} {ds : List PyData} (e : H a = some (.tup xs)) (d : DpAll K H xs ds) (o : DOk (.tuple ds)) : ThN K H (.ref a)
  | dct {a : Addr} (e : H a = some (.dK [])) : ThN K H (.ref a)
theorem ThN.same {K : PySem.W.Frag} {H H' : Hp} {v : V} (t : ThN K H v) (e : Same H H') : ThN K H' v := by
  cases t with
  | int i h => exact .int i h
  | str x h => exact .str x h
  | bl b => exact .bl b
  | non => exact .non
  | lst h d o => exact .lst (e _ _ h) (DpAll.same e d) o
  | tup h d o => exact .tup (e _ _ h) (DpAll.same e d) o
  | dct h => exact .dct (e _ _ h)
/-- an exception of the class C -/
def ThE (C : Addr) (H : Hp) (v : V) : Prop := ∃ a, v = .ref a ∧ H a = some (ExO (.ref C) a)
def Th (K : PySem.W.Frag) (C : Addr) (H : Hp) (v : V) : Prop := ThN K H v ∨ ThE C H v
theorem Th.same {K : PySem.W.Frag} {C : Addr} {H H' : Hp} {v : V} (t : Th K C H v) (e : Same H H') : Th K C H' v := by
  rcases t with t | ⟨a, rfl, h⟩
  · exact .inl (t.same e)
  · exact .inr ⟨a, rfl, e _ _ h⟩

/-- isinstance of a built-in class that no reference is of -/
inductive Ty3 where
  | i | b | s
def Ty3.name : Ty3 → String
  | .i => "int"
  | .b => "bool"
  | .s => "str"
def isB : Ty3 → V → Bool
  | .i, .int _ => true
  | .i, .bl _ => true
  | .b, .bl _ => true
  | .s, .str _ => true
  | _, _ => false
section
variable {X : Cx}
theorem isi_run {pins : List (Addr × Obj)} {σ : L2.St} {H : Hp} {s : Shared} {v : V} {u : Value} {T : String} {b : Bool} {Q : VK} (t : Value) (I : Inv X pins σ H s) (rx : RelV v u)
    (ty : TyX X.K H v t) (e : PySem.W.kitOne X.K t (.type T) = some b) (q : Q (.bl b) H) :
    wpAny (model X.prog X.w) X.A (call (.builtin "isinstance") [u, .type T]) (EP X pins σ Q) X.xe s := by
  obtain ⟨Z, k, p, hx⟩ := kit_of I rx ty
  exact PySem.W.kia_one k I.kIn p e hx fun tk => ⟨.bl b, H, I.tok tk, rfl, q⟩
theorem exc_inst {pins : List (Addr × Obj)} {σ : L2.St} {H : Hp} {s : Shared} {C a : Addr} (I : Inv X pins σ H s) (h : H a = some (ExO (.ref C) a)) :
    ∃ oe, PySem.W.InstAt s.heap a oe C none := by
  obtain ⟨⟨oe, vs, ho, hz, hd, _⟩, _, _⟩ := I.hok a _ h
  obtain ⟨oc, od, oda, osl⟩ := oe
  obtain ⟨h1, h2⟩ := hz
  dsimp only at h1 h2 hd
  subst h1 h2 hd
  exact ⟨_, ho, rfl, rfl, trivial⟩
/-- the answers for the exceptions of the class C -/
structure ExcK (K : PySem.W.Frag) (C : Addr) : Prop where
  c : ExcC K C
  i : PySem.W.kitOne K (.ref C) (.type "int") = some false
  b : PySem.W.kitOne K (.ref C) (.type "bool") = some false
  s : PySem.W.kitOne K (.ref C) (.type "str") = some false
  own : PySem.W.kitOne K (.ref C) (.ref C) = some true
  int : PySem.W.kitOne K (.type "int") (.ref C) = some false
  bool : PySem.W.kitOne K (.type "bool") (.ref C) = some false
  str : PySem.W.kitOne K (.type "str") (.ref C) = some false
  non : PySem.W.kitOne K (.type "NoneType") (.ref C) = some false
  lst : PySem.W.kitOne K (.type "list") (.ref C) = some false
  tup : PySem.W.kitOne K (.type "tuple") (.ref C) = some false
  dct : PySem.W.kitOne K (.type "dict") (.ref C) = some false
theorem isi_exc {pins : List (Addr × Obj)} {σ : L2.St} {H : Hp} {s : Shared} {C a : Addr} {c : Value} {b : Bool} {Q : VK} (E : ExcC X.K C) (I : Inv X pins σ H s) (h : H a = some (ExO (.ref C) a))
    (e : PySem.W.kitOne X.K (.ref C) c = some b) (q : Q (.bl b) H) :
    wpAny (model X.prog X.w) X.A (call (.builtin "isinstance") [.ref a, c]) (EP X pins σ Q) X.xe s := by
  obtain ⟨oe, J⟩ := exc_inst I h
  exact PySem.W.kia_one (PySem.W.handS_kitx_exc E.hg E.hk E.hs E.hd E.ha E.hn E.ht E.hm) I.kIn J e (fun z => nomatch z)
    fun tk => ⟨.bl b, H, I.tok tk, rfl, q⟩
theorem call_isiTh {C : Addr} (EK : ExcK X.K C) : CallR X (.builtin "isinstance") (fun xs H Q => ∃ v T, xs = [v, .ty T.name] ∧ Th X.K C H v ∧ Q (.bl (isB T v)) H) := by
  intro pins s σ H xs us Q I r h
  obtain ⟨v, T, rfl, t, q⟩ := h
  obtain ⟨u, u2, rfl, rv, r2⟩ := vals2 r
  cases (show u2 = Value.type T.name from r2)
  have go : ∀ (t : String) (b : Bool), TyX X.K H v (.type t) → kitB t T.name = some b → isB T v = b →
      wpAny (model X.prog X.w) X.A (call (.builtin "isinstance") [u, .type T.name]) (EP X pins σ Q) X.xe s :=
    fun t b ty e eb => isi_run _ I rv ty (kit_ty e) (eb ▸ q)
  rcases t with t | ⟨a, rfl, h⟩
  · cases t with
    | int i h =>
      cases T
      · exact go "int" true (.base (.int i)) (by decide +kernel) rfl
      · exact go "int" false (.base (.int i)) (by decide +kernel) rfl
      · exact go "int" false (.base (.int i)) (by decide +kernel) rfl
    | str x h =>
      cases T
      · exact go "str" false (.base (.str x)) (by decide +kernel) rfl
      · exact go "str" false (.base (.str x)) (by decide +kernel) rfl
      · exact go "str" true (.base (.str x)) (by decide +kernel) rfl
    | bl b =>
      cases T
      · exact go "bool" true (.base (.bl b)) (by decide +kernel) rfl
      · exact go "bool" true (.base (.bl b)) (by decide +kernel) rfl
      · exact go "bool" false (.base (.bl b)) (by decide +kernel) rfl
    | non => cases T <;> exact go "NoneType" false (.base .non) (by decide +kernel) rfl
    | lst e d o => cases T <;> exact go "list" false (.base (.lst e)) (by decide +kernel) rfl
    | tup e d o => cases T <;> exact go "tuple" false (.base (.tup e)) (by decide +kernel) rfl
    | dct e => cases T <;> exact go "dict" false (.base (.dK e)) (by decide +kernel) rfl
  · cases (show u = Value.ref a from rv)
    cases T
    · exact isi_exc EK.c I h EK.i q
    · exact isi_exc EK.c I h EK.b q
    · exact isi_exc EK.c I h EK.s q
/-- isinstance(x, C), C the class of exceptions -/
theorem call_isiC {C : Addr} (EK : ExcK X.K C) : CallR X (.builtin "isinstance") (fun xs H Q => ∃ v, xs = [v, .ref C] ∧ ((ThN X.K H v ∧ Q (.bl false) H) ∨ (ThE C H v ∧ Q (.bl true) H))) := by
  intro pins s σ H xs us Q I r h
  obtain ⟨v, rfl, h⟩ := h
  obtain ⟨u, u2, rfl, rv, r2⟩ := vals2 r
  cases (show u2 = Value.ref C from r2)
  have go : ∀ {t : Value}, TyX X.K H v t → PySem.W.kitOne X.K t (.ref C) = some false → Q (.bl false) H →
      wpAny (model X.prog X.w) X.A (call (.builtin "isinstance") [u, .ref C]) (EP X pins σ Q) X.xe s := by
    intro t ty e q
    obtain ⟨Z, k, p, hx⟩ := kit_of I rv ty
    exact PySem.W.kia_one k I.kIn p e hx fun tk => ⟨.bl false, H, I.tok tk, rfl, q⟩
  rcases h with ⟨t, q⟩ | ⟨⟨a, rfl, h⟩, q⟩
  · cases t with
    | int i h => exact go (.base (.int i)) EK.int q
    | str x h => exact go (.base (.str x)) EK.str q
    | bl b => exact go (.base (.bl b)) EK.bool q
    | non => exact go (.base .non) EK.non q
    | lst e d o => exact go (.base (.lst e)) EK.lst q
    | tup e d o => exact go (.base (.tup e)) EK.tup q
    | dct e => exact go (.base (.dK e)) EK.dct q
  · cases (show u = Value.ref a from rv)
    exact isi_exc EK.c I h EK.own q

/-- the data that v is in H -/
inductive Is (K : PySem.W.Frag) (H : Hp) : V → PyData → Prop where
  | dp {v : V} {d : PyData} (h : Dp K H v d) (o : d.hasDict = false) (s : d.showable = true) (z : d.depth ≤ 60) (l : d.shown.length ≤ sizeLine) : Is K H v d
  | dct {a : Addr} (h : H a = some (.dK [])) : Is K H (.ref a) (.dict [])
theorem ThN.is {K : PySem.W.Frag} {H : Hp} {v : V} (t : ThN K H v) : ∃ d, Is K H v d := by
  cases t with
  | int i h =>
    refine ⟨_, .dp (.int i) rfl (decide_eq_true ?_) (by simp only [PyData.depth]; omega) ?_⟩
    · exact PySem.Flt.log2_lt_of (by decide) (Nat.lt_trans h (by decide))
    · have e := int_text_length_le10 (k := 41) (by decide) h
      show (Str.ofString (toString i)).length ≤ sizeLine
      rw [PyProof.Rows.ofString_length, sizeLine_eq]
      have e2 : (toString i).toList.length ≤ 42 := e
      omega
  | str x h => exact ⟨_, .dp (.str x) rfl rfl (by simp only [PyData.depth]; omega) h.data.fits⟩
  | bl b => exact ⟨_, .dp (.bl b) rfl rfl (by simp only [PyData.depth]; omega) (by rw [sizeLine_eq]; cases b <;> decide)⟩
  | non => exact ⟨_, .dp .non rfl rfl (by simp only [PyData.depth]; omega) (by rw [sizeLine_eq]; decide)⟩
  | lst e d o => exact ⟨_, .dp (.lst (.inl (.inl e)) d) o.nodict o.shows o.deep o.fits⟩
  | tup e d o => exact ⟨_, .dp (.tup (.inl (.inl e)) d) o.nodict o.shows o.deep o.fits⟩
  | dct e => exact ⟨_, .dct e⟩
theorem Is.same {K : PySem.W.Frag} {H H' : Hp} {v : V} {d : PyData} (t : Is K H v d) (e : Same H H') : Is K H' v d := by
  cases t with
  | dp h o s z l => exact .dp (Dp.same e h) o s z l
  | dct h => exact .dct (e _ _ h)
theorem call_reprQ (hG : Gd X.A) (hu : X.A.units + 66 < cLine) : CallR X (.builtin "repr") (fun xs H Q => ∃ v d, xs = [v] ∧ Is X.K H v d ∧ Q (.str d.shown) H) := by
  intro pins s σ H xs us Q I r h
  obtain ⟨v, d, rfl, hd, q⟩ := h
  cases hd with
  | dp h o sh z l => exact call_reprD hG hu pins s σ H [v] us Q I r ⟨v, d, rfl, h, sh, o, by omega, l, q⟩
  | @dct a h =>
    obtain ⟨u, rfl, rv⟩ := vals1 r
    cases (show u = Value.ref a from rv)
    obtain ⟨_, hsm, vs, kv, ob, es, ep, h1, h2, h3, h4⟩ := (show ObjOk X.prog X.w H s.heap a (.dK []) from I.hok a _ h)
    have e0 : vs = [] := by
      cases kv
      rfl
    subst e0
    have e1 : es.toList = [] := by
      obtain ⟨l, el⟩ : ∃ l, es.toList = l := ⟨_, rfl⟩
      have p := h4.2.1
      rw [el] at p
      cases p
      exact el
    obtain ⟨as, bs, hr⟩ : ∃ as bs, Reads s.heap (.ref a) (.dict []) (a :: as ++ bs) ∧ as = [] ∧ bs = [] :=
      ⟨[], [], .dict h1 h2.1 h3 (by rw [e1]; exact .nil) (by rw [e1]; exact .nil), rfl, rfl⟩
    obtain ⟨rd, rfl, rfl⟩ := hr
    refine repr_of_reads' rd rfl (fun _ hm => ?_) hG (by simp only [PyData.depth, PyData.depthKv]; omega) (fun _ _ e => e)
      (fun h' u tk hk => ⟨.str _, H, I.kept hk, ⟨_, rfl⟩, q⟩) (by rw [sizeLine_eq]; decide +kernel)
    rcases List.mem_cons.mp hm with e | e
    · rw [← e] at hsm
      simp at hsm
    · cases e
end
end GL
set_option Elab.async false
set_option linter.all false
set_option maxRecDepth 100000
/-! GLay4: comprehensions that change nothing -/
namespace GL
open PySem PySem.Spec PyProof.Rows L2
theorem lc_pure {α : Type} {J : It} {G : Hp → Prop} {Y : Nat → Hp → V → Hp → Prop} {as : List α} {emb : α → V} (w : Walk J as.length G Y)
    (hY : ∀ i H x H', Y i H x H' → H' = H ∧ ∃ a, as[i]? = some a ∧ x = emb a)
    {g : TG} {tt : TT} {te : TE} {vs : List Nat} {σ : L2.St} {H1 : Hp} {D : Addr} {Qd : Hp → Prop} (hG : ∀ l, G (upd H1 D (.lst l))) (hn : as.length < sizeLine) (p : α → Bool) (f : α → V)
    (hs : ∀ a, a ∈ as → ∀ (l : List V) (R : VK) (S : Hp → Prop), (p a = true → R (f a) (upd H1 D (.lst l))) → (p a = false → S (upd H1 D (.lst l))) →
      g (emb a) (wipe σ vs) (upd H1 D (.lst l)) fun σ2 H2 => wipe σ2 vs = wipe σ vs ∧ tt σ2 H2 fun b H3 => if b = true then te σ2 H3 R else S H3)
    (hd : Qd (upd H1 D (.lst ((as.filter p).map f)))) :
    ∃ W : Nat → Nat → Hp → Prop, (∃ m, W 0 m (upd H1 D (.lst []))) ∧ ∀ i m H, W i m H →
      (J.stop i H ∧ Qd H) ∨ (J.go i H ∧ ∃ Nx : Hp → Prop, (∀ H', Nx H' → ∃ m', m' < m ∧ W (i + 1) m' H') ∧ ∀ x H', J.yld i H x H' → g x (wipe σ vs) H' fun σ2 H2 => wipe σ2 vs = wipe σ vs ∧ tt σ2 H2 fun b H3 =>
        if b = true then te σ2 H3 fun y H4 => ∃ acc, H4 D = some (.lst acc) ∧ acc.length < sizeLine ∧ Nx (upd H4 D (.lst (acc ++ [y]))) else Nx H3) := by
  refine lc_it w (fun i H => H = upd H1 D (.lst (((as.take i).filter p).map f))) rfl (fun i H _ h => by subst h; exact hG _) (fun i x H H' hi h y => ?_) (fun H h => ?_)
  · subst h
    obtain ⟨rfl, a, ha, rfl⟩ := hY _ _ _ _ y
    have hm : a ∈ as := List.mem_of_getElem? ha
    have et : as.take (i + 1) = as.take i ++ [a] := by rw [List.take_add_one, ha]; rfl
    refine hs a hm _ _ _ (fun hp => ?_) (fun hp => ?_)
    · refine ⟨_, upd_same, ?_, ?_⟩
      · rw [List.length_map]
        exact Nat.lt_of_le_of_lt (Nat.le_trans (List.length_filter_le _ _) (List.length_take_le _ _)) (Nat.lt_of_le_of_lt (Nat.le_of_lt hi) hn)
      · rw [upd_upd, et, List.filter_append, List.map_append]
        simp [hp]
    · rw [et, List.filter_append, List.map_append]
      simp [hp]
  · rw [List.take_length] at h
    subst h
    exact hd
theorem walk_signs {z : Str} : Walk (Its z) z.cps.toList.length (fun _ => True) (fun i H v H' => H' = H ∧ ∃ c, z.cps[i]? = some c ∧ v = .str ⟨#[c]⟩) := by
  have h : z.cps.toList.length = z.cps.size := by simp
  rw [h]
  exact walk_str
theorem signs_y {z : Str} (i : Nat) (H : Hp) (x : V) (H' : Hp) (h : H' = H ∧ ∃ c, z.cps[i]? = some c ∧ x = .str ⟨#[c]⟩) : H' = H ∧ ∃ c, z.cps.toList[i]? = some c ∧ x = (fun c => V.str ⟨#[c]⟩) c := by
  obtain ⟨e, c, h1, h2⟩ := h
  exact ⟨e, c, by simpa using h1, h2⟩
theorem list_y {xs : List V} (i : Nat) (H : Hp) (x : V) (H' : Hp) (h : YAt xs i H x H') : H' = H ∧ ∃ c, xs[i]? = some c ∧ x = id c := ⟨h.1, x, h.2, rfl⟩
theorem Dp.strs {K : PySem.W.Frag} {H : Hp} : ∀ cs : List Str, DpAll K H (cs.map V.str) (cs.map PyData.str)
  | [] => .nil
  | c :: r => .cons (.str c) (Dp.strs r)
theorem Dp.bools {K : PySem.W.Frag} {H : Hp} : ∀ cs : List Bool, DpAll K H (cs.map V.bl) (cs.map PyData.bool)
  | [] => .nil
  | c :: r => .cons (.bl c) (Dp.bools r)
section
variable {X : Cx} {p : Pos}
theorem pe_tInt (hm : X.mg "int" = none) (hg : Gl X "int" := by rfl) : PE X (.Name "int" p) (tC (.ty Ty3.i.name)) :=
  pe_bltn (u := .type "int") hg hm (by decide +kernel) (show RelV (.ty "int") (.type "int") from rfl)
theorem pe_tBool (hm : X.mg "bool" = none) (hg : Gl X "bool" := by rfl) : PE X (.Name "bool" p) (tC (.ty Ty3.b.name)) :=
  pe_bltn (u := .type "bool") hg hm (by decide +kernel) (show RelV (.ty "bool") (.type "bool") from rfl)
theorem pe_tStr (hm : X.mg "str" = none) (hg : Gl X "str" := by rfl) : PE X (.Name "str" p) (tC (.ty Ty3.s.name)) :=
  pe_bltn (u := .type "str") hg hm (by decide +kernel) (show RelV (.ty "str") (.type "str") from rfl)
end
end GL
set_option Elab.async false
set_option linter.all false
set_option maxRecDepth 100000
/-! GLay5: texts of plain signs, by their greatest length -/
namespace GL
open PySem PySem.Spec PyProof.Rows L2
/-- what is new in H' -/
def fr (H H' : Hp) : Hp := fun a => match H a with
  | none => H' a
  | some _ => none
theorem fr_at {H H' : Hp} {a : Addr} {o : HO} (h : H a = none) (k : H' a = some o) : fr H H' a = some o := by
  unfold fr
  rw [h]
  exact k
theorem fr_some {H H' : Hp} {a : Addr} {o : HO} (h : fr H H' a = some o) : H a = none ∧ H' a = some o := by
  unfold fr at h
  cases e : H a with
  | none => rw [e] at h; exact ⟨rfl, h⟩
  | some u => rw [e] at h; cases h
theorem fr_same {H H' : Hp} : Same (fr H H') H' := fun _ _ h => (fr_some h).2
theorem fr_but {b : Addr} {H0 H H' : Hp} (hb : H0 b ≠ none) (h : But b H H') : Same (fr H0 H) (fr H0 H') := fun a o e => by
  obtain ⟨e1, e2⟩ := fr_some e
  have n : a ≠ b := fun z => hb (z ▸ e1)
  exact fr_at e1 (h.at n e2)
theorem fr_grow {H0 H H' : Hp} (h : Same H H') : Same (fr H0 H) (fr H0 H') := fun a o e => by
  obtain ⟨e1, e2⟩ := fr_some e
  exact fr_at e1 (h _ _ e2)
theorem fr_less {H0 H H' : Hp} (h : ∀ a, H a = none → H0 a = none) : Same (fr H H') (fr H0 H') := fun a o e => by
  obtain ⟨e1, e2⟩ := fr_some e
  exact fr_at (h a e1) e2
theorem But.none_back {b a : Addr} {H H' : Hp} (h : But b H H') (n : a ≠ b) (e : H' a = none) : H a = none := by
  cases k : H a with
  | none => rfl
  | some o =>
    have := h.at n k
    rw [e] at this
    cases this
theorem Same.none_back {a : Addr} {H H' : Hp} (h : Same H H') (e : H' a = none) : H a = none := by
  cases k : H a with
  | none => rfl
  | some o =>
    have := h _ _ k
    rw [e] at this
    cases this
/-- at most n signs, all plain -/
def TxB (n : Nat) (x : Str) : Prop := x.length ≤ n ∧ ∀ c ∈ x.cps.toList, c < 128
theorem TxB.ok {n : Nat} {x : Str} (h : TxB n x) (hn : n ≤ 10000) : TxOk x := ⟨Nat.le_trans h.1 hn, h.2⟩
theorem TxB.mono {n m : Nat} {x : Str} (h : TxB n x) (hn : n ≤ m) : TxB m x := ⟨Nat.le_trans h.1 hn, h.2⟩
theorem TxB.size {n : Nat} {x : Str} (h : TxB n x) (hn : n ≤ 10000) : x.length ≤ sizeLine := (h.ok hn).size
theorem TxB.add {n m : Nat} {x y : Str} (h : TxB n x) (k : TxB m y) : TxB (n + m) (x ++ y) := by
  refine ⟨?_, fun c hc => ?_⟩
  · rw [Str.length_append]
    have := h.1
    have := k.1
    omega
  · have e : (x ++ y).cps.toList = x.cps.toList ++ y.cps.toList := by
      show (x.cps ++ y.cps).toList = _
      rw [Array.toList_append]
    rw [e] at hc
    rcases List.mem_append.mp hc with z | z
    · exact h.2 c z
    · exact k.2 c z
theorem TxB.cut {n : Nat} {x : Str} (h : TxB n x) (lo hi : Option Int) : TxB n (cutS x lo hi) := by
  refine ⟨Nat.le_trans (cutS_length x lo hi) h.1, fun c hc => h.2 c ?_⟩
  have hc' : c ∈ ((x.cps.toList.drop (HT.sIx x.length 0 lo)).take (HT.sIx x.length x.length hi - HT.sIx x.length 0 lo)) := by simpa [cutS] using hc
  exact List.mem_of_mem_drop (List.mem_of_mem_take hc')
theorem TxB.one {c : Nat} (h : c < 128) : TxB 1 ⟨#[c]⟩ := ⟨Nat.le_refl _, fun d hd => by
  have e : d = c := by simpa using hd
  rw [e]
  exact h⟩
theorem TxB.at {n : Nat} {x : Str} (h : TxB n x) {i : Int} {c : Nat} (e : atI x.cps.toList i = some c) : TxB 1 ⟨#[c]⟩ := by
  refine .one (h.2 c ?_)
  unfold atI at e
  cases k : ixN x.cps.toList.length i with
  | none => rw [k] at e; cases e
  | some j =>
    rw [k] at e
    exact List.mem_of_getElem? e
theorem reps_len (x : Array Nat) : ∀ (k : Nat) (acc : Array Nat), ((List.replicate k x).foldl (· ++ ·) acc).size = acc.size + k * x.size
  | 0, acc => by simp
  | k + 1, acc => by
    rw [List.replicate_succ, List.foldl_cons, reps_len x k, Array.size_append, Nat.succ_mul]
    omega
theorem reps_mem (x : Array Nat) : ∀ (k : Nat) (acc : Array Nat) (c : Nat), c ∈ ((List.replicate k x).foldl (· ++ ·) acc).toList → c ∈ acc.toList ∨ c ∈ x.toList
  | 0, acc, c, h => .inl h
  | k + 1, acc, c, h => by
    rw [List.replicate_succ, List.foldl_cons] at h
    rcases reps_mem x k (acc ++ x) c h with z | z
    · rw [Array.toList_append] at z
      exact List.mem_append.mp z
    · exact .inr z
theorem TxB.mul {n m : Nat} {x : Str} (h : TxB n x) {k : Int} (hk : k ≤ m) (hm : 1 ≤ m) : TxB (n * m) (Txt.mul x k) := by
  have h1 := h.1
  unfold Txt.mul
  by_cases k1 : k < 1
  · rw [if_pos k1]
    exact ⟨Nat.zero_le _, fun c hc => nomatch hc⟩
  · rw [if_neg k1]
    by_cases k2 : (k == 1 || x.length == 0) = true
    · rw [if_pos k2]
      exact h.mono (Nat.le_mul_of_pos_right _ hm)
    · rw [if_neg k2]
      refine ⟨?_, fun c hc => ?_⟩
      · show ((List.replicate k.toNat x.cps).foldl (· ++ ·) #[]).size ≤ n * m
        rw [reps_len]
        have e : x.cps.size ≤ n := h1
        have e2 : k.toNat * x.cps.size ≤ m * n := Nat.mul_le_mul (by omega) e
        rw [Nat.mul_comm m n] at e2
        simpa using e2
      · rcases reps_mem x.cps k.toNat #[] c hc with z | z
        · cases z
        · exact h.2 c z
theorem TxB.glue {n : Nat} : ∀ {ys : List Str}, (∀ y ∈ ys, TxB n y) → TxB (n * ys.length) (Txt.join Str.empty ys)
  | [], _ => by
    show TxB _ (Builtin.Str.glued Str.empty [])
    rw [StrLaws.glued_eq_join]
    exact ⟨Nat.zero_le _, fun c hc => nomatch hc⟩
  | [y], h => by
    show TxB _ (Builtin.Str.glued Str.empty [y])
    rw [StrLaws.glued_eq_join]
    exact (h y List.mem_cons_self).mono (by simp)
  | y :: z :: r, h => by
    have k := TxB.glue (ys := z :: r) fun u hu => h u (List.mem_cons_of_mem _ hu)
    have k' : TxB (n * (z :: r).length) (Str.join Str.empty (z :: r)) := by
      have e : Txt.join Str.empty (z :: r) = Str.join Str.empty (z :: r) := StrLaws.glued_eq_join _ _
      rw [← e]
      exact k
    show TxB _ (Builtin.Str.glued Str.empty (y :: z :: r))
    rw [StrLaws.glued_eq_join]
    show TxB _ (y ++ Str.empty ++ Str.join Str.empty (z :: r))
    have e0 : TxB 0 Str.empty := ⟨Nat.le_refl _, fun c hc => nomatch hc⟩
    refine (((h y List.mem_cons_self).add e0).add k').mono ?_
    rw [List.length_cons (a := y), Nat.mul_succ]
    omega
end GL
set_option Elab.async false
set_option linter.all false
set_option maxRecDepth 100000
/-! GLay6: the end of a law whose def is promised where nothing is being shown -/
namespace GL
open PySem PySem.Spec PyProof.Rows L2
/-- the law called by nobody but the claim: from its promise -/
theorem law_callG {P : Program} {w : World} {K : PySem.W.Frag} {mg mb : Str → Option Value} {k : Nat} {fa a : Addr} {fd : FuncData} {x : Str} {sp : Sp} {s1 : Shared} {vs : List Value} {ns : List Int}
    (inK : K.In s1.heap) (gl : s1.heap.Ns mainGlobals mg) (bl : s1.heap.Ns builtinsNs mb) (bb : ∀ x : Str, x ≠ "__name__" → mb x = bootBuiltins x) (lim : s1.heap.NoLimit) (gens : s1.gens = #[])
    (ha : s1.heap.get? a = some { cls := .type "list", data := .seq vs.toArray }) (hin : IntsAre vs ns) (short : ns.length ≤ sizeLine) (room : Room k callerA)
    (F : ∀ base : Heap, K.In base → base.Ns mainGlobals mg → FnG P w K mg base k fa fd [x] sp) (binds : ∀ (s : Shared) (u : Value), BindsTo s fd ⟨[u], []⟩ [(x, u)])
    (says : ∀ H : Hp, Only H → SqL K H a (ns.map V.int) → sp [.ref a] H (fun v _ => v = .bl true) (fun _ _ _ => False)) :
    codeAny (model P w) callerA (.call (.ref fa) ⟨[.ref a], []⟩)
      (fun r s' => r = .ok (.ret (.bool true)) ∧ OldK s1.heap s'.heap ∧ s'.os = s1.os ∧ AllBare s'.gens) s1 := by
  have rv := vals_ints hin
  have nv := hin.length
  have main : ∀ H : Hp, Only H → SqL K H a (ns.map V.int) → HOk P w H s1.heap → (∀ b, H b ≠ none → b = a) → (H a ≠ none → K.lookup a = none) →
      codeAny (model P w) callerA (.call (.ref fa) ⟨[.ref a], []⟩)
        (fun r s' => r = .ok (.ret (.bool true)) ∧ OldK s1.heap s'.heap ∧ s'.os = s1.os ∧ AllBare s'.gens) s1 := by
    intro H only hS ok atA notK
    have keep : ∀ {b : Addr} {o : Obj}, s1.heap.get? b = some o → H b = none → (hidT s1.heap H).get? b = some o := fun e n => hidT_get e n
    have untracked : ∀ {b : Addr} {o : Obj} {es : Array DictEntry} {ep : Nat}, s1.heap.get? b = some o → o.data = .dict es ep → H b = none := by
      intro b o es ep e d
      cases q : H b with
      | none => rfl
      | some u =>
        obtain rfl : b = a := atA b (by simp [q])
        cases ha.symm.trans e
        cases d
    have nsp : ∀ {b : Addr} {m : Str → Option Value}, s1.heap.Ns b m → (hidT s1.heap H).Ns b m := by
      rintro b m ⟨o, es, ep, e, d, r⟩
      exact ⟨o, es, ep, keep e (untracked e d), d, r⟩
    have inB : K.In (hidT s1.heap H) := by
      intro b o e
      refine keep (inK b o e) ?_
      cases q : H b with
      | none => rfl
      | some u =>
        obtain rfl : b = a := atA b (by simp [q])
        have z := notK (by simp [q])
        rw [z] at e
        cases e
    have mod : Mod K mg (hidT s1.heap H) := ⟨inB, nsp gl, ⟨mb, nsp bl, bb⟩, by obtain ⟨mc, h1, h2⟩ := lim; exact ⟨mc, nsp h1, h2⟩⟩
    have e0 : Env0 P w K mg (hidT s1.heap H) callerA [] s1 H :=
      ⟨rfl, mod, fun b o e => of_hidT e, by rw [hidT_size]; exact Nat.le_refl _, trivial, fun b hb => (by cases hb), ok, .of_eq gens⟩
    have run := (F _ inB (nsp gl)).does callerA [] s1 H ⟨[.ref a], []⟩ [.ref a] [.ref a] _ _ rfl room e0 (binds s1 (.ref a)) (.cons rfl .nil) (says H only hS)
    refine codeAny_mono run fun r s' h => ?_
    match r, h with
    | .ok (.ret u), ⟨v, H', os, bare, un, ok', r', q⟩ =>
      obtain rfl : v = .bl true := q
      obtain rfl : u = Value.bool true := r'
      refine ⟨rfl, OldK.of_keep (fun b o e => ?_), os, bare⟩
      cases q : H b with
      | none => exact un.keep b o e q (fun z => by cases z) (fun z => by cases z)
      | some u =>
        rcases only b with z | ⟨ob, xs, z⟩
        · rw [q] at z; cases z
        · obtain ⟨e1, _⟩ := ok b _ z
          obtain ⟨e2, _⟩ := ok' b _ (un.frzs b ob _ z)
          cases e.symm.trans e1
          exact e2
  cases hk : K.lookup a with
  | some o =>
    cases ha.symm.trans (inK a o hk)
    refine main (fun _ => none) (fun _ => Or.inl rfl) (Or.inr ⟨_, vs.toArray, _, hk, rfl, rfl, rfl, ?_, by simpa using rv⟩)
      (fun b u z => (by cases z)) (fun b z => absurd rfl z) (fun z => absurd rfl z)
    rw [List.size_toArray, nv]
    exact short
  | none =>
    let frozen : HO := .frz { cls := .type "list", data := .seq vs.toArray } (.lst (ns.map V.int))
    refine main (fun b => if b = a then some frozen else none) (fun b => ?_) (Or.inl (Or.inr ⟨_, if_pos rfl⟩)) (fun b u z => ?_) (fun b z => ?_) (fun _ => hk)
    · by_cases e : b = a
      · exact Or.inr ⟨_, _, if_pos e⟩
      · exact Or.inl (if_neg e)
    · by_cases e : b = a
      · have zz : some frozen = some u := (if_pos e).symm.trans z
        cases zz
        subst e
        exact ⟨ha, by rw [List.length_map]; exact short, vs, _, rv, ha⟩
      · cases (if_neg e).symm.trans z
    · by_cases e : b = a
      · exact e
      · exact absurd (if_neg e) z
theorem walkG {l : PySem.W.OpenLaw} {n k : Nat} {q : Program} {loose : List Str} {XP : (Str → Option Value) → Heap → Prop} {YP : World → Heap → Prop} {d : DefRec} {K : Params → PySem.W.Frag} {sp : World → Sp} {x : Str}
    (hn : l.most = some n) (hn2 : n ≤ sizeLine) (hdf : d.params.defaults = []) (room : Room k callerA)
    (hY : ∀ (w : World) (h : Heap), YP w h → (K w.params).In h)
    (F : ∀ (w : World) (mg : Str → Option Value) (fa : Addr) (h : Heap), (K w.params).In h → h.Ns mainGlobals mg → mg d.name = some (.ref fa) →
      ∃ fd : FuncData, (∀ (s : Shared) (u : Value), BindsTo s fd ⟨[u], []⟩ [(x, u)]) ∧
        ∀ base : Heap, (K w.params).In base → base.Ns mainGlobals mg → FnG l.prog w (K w.params) mg base k fa fd [x] (sp w))
    (says : ∀ (w : World) (H : Hp) (a : Addr) (ns : List Int), ns.length ≤ n → Only H → SqL (K w.params) H a (ns.map V.int) → sp w [.ref a] H (fun v _ => v = .bl true) (fun _ _ _ => False)) :
    PySem.W.WalkO q loose XP YP l.row.toRowW d [] (fun f vs => PySem.call f vs) := by
  refine Att.attach_call hn hdf ?_
  intro w s0 s1 mg mb fa o pm cd doc a vs ns G Y ho hd hcd hmg hobj hints hlen hg
  have inK := hY w _ Y
  obtain ⟨fd, hb, hF⟩ := F w mg fa _ inK G.T.g hmg
  exact law_callG inK G.T.g G.T.b G.T.builtins G.T.nolimit hg hobj hints (Nat.le_trans hlen hn2) room hF hb (fun H hO hS => says w H a ns hlen hO hS)
end GL
set_option Elab.async false
set_option linter.all false
set_option maxRecDepth 100000
set_option maxHeartbeats 2000000
/-! GLay7: exceptions of own classes with their own __init__, as values -/
namespace GL
open PySem PySem.Spec PyProof.Rows L2
/-- at a an exception of the class at C with such fields -/
def Err (H : Hp) (a C : Addr) (fs : List (Str × V)) : Prop :=
  (fs = [] ∧ H a = some (exo a C none)) ∨
    ∃ (dx : Addr) (gs : List (Str × V)), H a = some (exo a C (some dx)) ∧ H dx = some (exd dx gs) ∧ ∀ p ∈ fs, gs.lookup p.1 = some p.2
theorem Err.same {H H' : Hp} {a C : Addr} {fs : List (Str × V)} (h : Err H a C fs) (e : Same H H') : Err H' a C fs := by
  rcases h with ⟨h1, h2⟩ | ⟨dx, gs, h1, h2, h3⟩
  · exact .inl ⟨h1, e _ _ h2⟩
  · exact .inr ⟨dx, gs, e _ _ h1, e _ _ h2, h3⟩
section
variable {X : Cx} {o e : Expr} {es : List Expr} {to te : TE} {ta : TA} {f : Str} {p p' p1 p2 pos : Pos}
/-- C(e, ..): a new exception, from the promise of its __init__ -/
theorem pe_oexV {x : Str} {C fI : Addr} {k : Nat} {fd : FuncData} {ps : List Str} {sp : Sp} (T : OexC X.K C) (iC : PySem.W.findIn X.K (.ref C) "__init__" = some (some (.ref fI))) (tI : PySem.W.typeIn X.K (.ref fI) = some (.type "function"))
    (F1 : FnOk X.prog X.w X.K X.mg X.base CX0 k fI fd ps sp) (hr : Room (k + 1) X.A) (hb : Binds X.K fd ps []) (hg : Gl X x) (hm : X.mg x = some (.ref C)) (ha : PA X (e :: es) ta)
    (hdb : (x == ("__debug__" : Str)) = false := by decide) (he : starEach (e :: es) X.env = (false, eval e X.env) :: starEach es X.env := by rfl) (hpl : (backTo pos (starEach es X.env)).any (·.1) = false := by rfl) :
    PE X (.Call (.Name x p) (e :: es) [] pos) (fun σ H Q => ta σ H fun vs H1 => vs.length ≤ 1000 ∧ ∀ a, H1 a = none → sp (.ref a :: vs) (upd H1 a (exo a C none)) (fun v H2 => v = .non ∧ Q (.ref a) H2) (fun _ _ _ => False)) := by
  constructor
  intro pins s σ H Q I h
  obtain ⟨nm, q, N, bs, bm, sn, sub, ab, col, dd, k0, k1, k2, k3, k5, hC, hbm⟩ := T.cls
  apply wpAny_Call_Name_kw
  apply ld_glob I hg hm ?_ hdb
  apply PySem.W.callWith_K (h₀ := X.base) I.ok.mod.kin T.kC ?_ he hpl
  apply thn (ha.run pos pins s σ H _ I h)
  rintro us s1 ⟨vs, H1, I1, r1, hz, q1⟩
  refine ⟨I1.kIn, ?_⟩
  show wpAny _ _ (call (.ref C) us) _ _ _
  obtain ⟨hp, g, dr, tk, os⟩ := s1
  have up := Nat.le_succ hp.objs.size
  have q2 := q1 (hp.objs.size + 1) (I1.hok.fresh up)
  have keeps : ∀ b o, hp.get? b = some o → ((hp.push (PySem.W.kdv_tup us)).push (PySem.HandSPX.excO C hp.objs.size)).get? b = some o :=
    fun b o z => Heap.get?_push_of_some _ (Heap.get?_push_of_some _ z)
  have there : ((hp.push (PySem.W.kdv_tup us)).push (PySem.HandSPX.excO C hp.objs.size)).get? (hp.objs.size + 1) = some (PySem.HandSPX.excO C hp.objs.size) := by heap_get
  have I2 : Inv X pins σ (upd H1 (hp.objs.size + 1) (exo (hp.objs.size + 1) C none)) ⟨(hp.push (PySem.W.kdv_tup us)).push (PySem.HandSPX.excO C hp.objs.size), g, dr, tk, os⟩ :=
    I1.laid (t' := tk) keeps up (exo_ok there)
  have r2 : Vals (V.ref (hp.objs.size + 1) :: vs) (Value.ref (hp.objs.size + 1) :: us) := .cons rfl r1
  have many : (Value.ref (hp.objs.size + 1) :: us ++ []).length = ps.length := by
    rw [List.append_nil, ← r2.length]
    exact F1.len _ _ _ _ q2
  have bound := hb _ (Value.ref (hp.objs.size + 1) :: us) I2.kIn many
  rw [List.append_nil] at bound
  have room : us.length ≤ sizeLine := by
    rw [← Paired.length r1, sizeLine_eq]
    omega
  refine wpAny_call (PySem.HandSPX.call_own F.excBase_ValueError (fun Y => PySem.HandSPX.refsVE_contains Y bm hbm) (I1.kIn _ _ hC)
    (PySem.W.looks_findIn I1.kIn iC) (fun self => PySem.W.bind_fn I1.kIn self tI) room ?_)
  refine codeAny_mono (F1.run _ X.stack _ _ ⟨Value.ref (hp.objs.size + 1) :: us, []⟩ _ _ _ (fun _ _ _ => False) (hr.make C us []) (I2.env0.make C us []) bound r2 q2) ?_
  intro r s' hq
  match r, hq with
  | .ok (.ret u), hq =>
    obtain ⟨v, H2, I3, rv, ev, q3⟩ := I2.after hq
    subst ev
    exact ⟨rv, .ref (hp.objs.size + 1), H2, I3, rfl, q3⟩
/-- C() -/
theorem pe_oexV0 {x : Str} {C fI : Addr} {k : Nat} {fd : FuncData} {ps : List Str} {sp : Sp} (T : OexC X.K C) (iC : PySem.W.findIn X.K (.ref C) "__init__" = some (some (.ref fI))) (tI : PySem.W.typeIn X.K (.ref fI) = some (.type "function"))
    (F1 : FnOk X.prog X.w X.K X.mg X.base CX0 k fI fd ps sp) (hr : Room (k + 1) X.A) (hb : Binds X.K fd ps []) (hg : Gl X x) (hm : X.mg x = some (.ref C))
    (hdb : (x == ("__debug__" : Str)) = false := by decide) :
    PE X (.Call (.Name x p) [] [] pos) (fun σ H Q => ∀ a, H a = none → sp [.ref a] (upd H a (exo a C none)) (fun v H2 => v = .non ∧ Q (.ref a) H2) (fun _ _ _ => False)) := by
  constructor
  intro pins s σ H Q I h
  obtain ⟨nm, q, N, bs, bm, sn, sub, ab, col, dd, k0, k1, k2, k3, k5, hC, hbm⟩ := T.cls
  apply wpAny_Call_Name_kw
  apply ld_glob I hg hm ?_ hdb
  apply PySem.W.callWith_K0 I.kIn T.kC
  obtain ⟨hp, g, dr, tk, os⟩ := s
  have up := Nat.le_succ hp.objs.size
  have q2 := h (hp.objs.size + 1) (I.hok.fresh up)
  have keeps : ∀ b o, hp.get? b = some o → ((hp.push (PySem.W.kdv_tup [])).push (PySem.HandSPX.excO C hp.objs.size)).get? b = some o :=
    fun b o z => Heap.get?_push_of_some _ (Heap.get?_push_of_some _ z)
  have there : ((hp.push (PySem.W.kdv_tup [])).push (PySem.HandSPX.excO C hp.objs.size)).get? (hp.objs.size + 1) = some (PySem.HandSPX.excO C hp.objs.size) := by heap_get
  have I2 : Inv X pins σ (upd H (hp.objs.size + 1) (exo (hp.objs.size + 1) C none)) ⟨(hp.push (PySem.W.kdv_tup [])).push (PySem.HandSPX.excO C hp.objs.size), g, dr, tk, os⟩ :=
    I.laid (t' := tk) keeps up (exo_ok there)
  have r2 : Vals [V.ref (hp.objs.size + 1)] [Value.ref (hp.objs.size + 1)] := .cons rfl .nil
  have bound := hb _ [Value.ref (hp.objs.size + 1)] I2.kIn (by rw [List.append_nil, ← r2.length]; exact F1.len _ _ _ _ q2)
  rw [List.append_nil] at bound
  refine wpAny_call (PySem.HandSPX.call_own F.excBase_ValueError (fun Y => PySem.HandSPX.refsVE_contains Y bm hbm) (I.kIn _ _ hC)
    (PySem.W.looks_findIn I.kIn iC) (fun self => PySem.W.bind_fn I.kIn self tI) (by rw [sizeLine_eq]; decide) ?_)
  refine codeAny_mono (F1.run _ X.stack _ _ ⟨[Value.ref (hp.objs.size + 1)], []⟩ _ _ _ (fun _ _ _ => False) (hr.make C [] []) (I2.env0.make C [] []) bound r2 q2) ?_
  intro r s' hq
  match r, hq with
  | .ok (.ret u), hq =>
    obtain ⟨v, H2, I3, rv, ev, q3⟩ := I2.after hq
    subst ev
    exact ⟨rv, .ref (hp.objs.size + 1), H2, I3, rfl, q3⟩
/-- an exception's object and its dict -/
theorem exo_inst {pins : List (Addr × Obj)} {σ : L2.St} {H : Hp} {s : Shared} {a C dx : Addr} {gs : List (Str × V)} (I : Inv X pins σ H s) (h1 : H a = some (exo a C (some dx))) (h2 : H dx = some (exd dx gs)) :
    ∃ oe od mA, PySem.W.InstAt s.heap a oe C (some od) ∧ s.heap.get? dx = some od ∧ s.heap.Ns1 dx mA ∧ ∀ f, RelO (gs.lookup f) (mA f) := by
  obtain ⟨t1, ho⟩ := exo_at I.hok h1
  obtain ⟨mA, hns, rel⟩ := exd_at I.hok h2
  obtain ⟨od, es, ep, hod, hr⟩ := id hns
  exact ⟨_, od, mA, ⟨ho, rfl, rfl, hod⟩, hod, hns, rel⟩
/-- e.f -/
theorem pe_fldE (he : PE X e te) (hb : attributeBase e f X.env (eval e X.env) = eval e X.env := by rfl) :
    PE X (.Attribute e f pos) (fun σ H Q => te σ H fun x H1 => ∃ (a C : Addr) (fs : List (Str × V)) (v : V), x = .ref a ∧ XfC X.K C ∧ PySem.W.findIn X.K (.ref C) f = some none ∧ Err H1 a C fs ∧ (f, v) ∈ fs ∧ Q v H1) := by
  constructor
  intro pins s σ H Q I h
  refine attr_of hb (thn (he.run pins s σ H _ I h) ?_)
  rintro u s1 ⟨x, H1, I1, rx, a, C, fs, v, ex, T, hno, er, hm, q⟩
  subst ex
  cases (show u = Value.ref a from rx)
  rcases er with ⟨e0, _⟩ | ⟨dx, gs, h1, h2, h3⟩
  · subst e0
    cases hm
  · obtain ⟨t1, ho⟩ := exo_at I1.hok h1
    obtain ⟨mA, hns, rel⟩ := exd_at I1.hok h2
    obtain ⟨od, hod, hl⟩ := lookIn_ns hns
    have el : gs.lookup f = some v := h3 _ hm
    obtain ⟨u, hu, ru⟩ := RelO.some_of (v := v) (o := mA f) (by rw [← el]; exact rel f)
    have J : PySem.W.InstAt s1.heap a _ C (some od) := ⟨ho, rfl, rfl, hod⟩
    exact HandSPX.exc_get I1.kIn J T.ga T.gg T.exC (PySem.W.findObj_own T.hdC hno rfl (by rw [hl, hu])) (handed_of ru) ⟨v, H1, I1.tok _, ru, q⟩
/-- any exception of an own class: with its own __init__, or without -/
def IsErr (H : Hp) (a C : Addr) : Prop := (∃ fs, Err H a C fs) ∨ H a = some (ExO (.ref C) a)
/-- isinstance(e, c) -/
theorem call_isX : CallR X (.builtin "isinstance") (fun xs H Q => ∃ (a C : Addr) (c : V) (cv : Value) (b : Bool), xs = [.ref a, c] ∧ ClsV c cv ∧ IsErr H a C ∧ ExcC X.K C ∧ PySem.W.kitOne X.K (.ref C) cv = some b ∧ Q (.bl b) H) := by
  intro pins s σ H xs us Q I r h
  obtain ⟨a, C, c, cv, b, rfl, hc, he, E, e, q⟩ := h
  obtain ⟨u, u2, rfl, r1, r2⟩ := vals2 r
  cases (show u = Value.ref a from r1)
  have e2 := hc.eq r2
  subst e2
  rcases he with ⟨fs, ⟨_, h1⟩ | ⟨dx, gs, h1, h2, _⟩⟩ | h
  · obtain ⟨t1, ho⟩ := exo_at I.hok h1
    exact PySem.W.kia_one (PySem.W.handS_kitx_exc E.hg E.hk E.hs E.hd E.ha E.hn E.ht E.hm) I.kIn ⟨ho, rfl, rfl, trivial⟩ e (fun z => nomatch z)
      fun tk => ⟨.bl b, H, I.tok tk, rfl, q⟩
  · obtain ⟨oe, od, mA, J, _⟩ := exo_inst I h1 h2
    have hcl : (PySem.W.clsIn X.K C).isSome = true := by
      have := E.hd
      unfold PySem.W.hasDictIn at this
      cases k : PySem.W.clsIn X.K C with
      | none => rw [k] at this; cases this
      | some _ => rfl
    exact PySem.W.kia_one (PySem.W.kitx_exc hcl E.hg E.hk E.hs E.ha E.hn E.ht E.hm) I.kIn J e (fun z => nomatch z)
      fun tk => ⟨.bl b, H, I.tok tk, rfl, q⟩
  · exact isi_exc E I h e q
/-- X(e, ..), X without an __init__ of its own -/
theorem pe_excA {C : Addr} {bmB : List Value} {B newId initId : String} {x : Str} (F : ExcBaseFacts B newId initId bmB) (q : PySem.W.excIn X.K C bmB newId = true) (gC : X.mg x = some (.ref C)) (kC : PySem.W.keepIn X.K (.ref C) = true) (hg : Gl X x)
    (ha : PA X (e :: es) ta) (hdb : (x == ("__debug__" : Str)) = false := by decide) (he : starEach (e :: es) X.env = (false, eval e X.env) :: starEach es X.env := by rfl) (hpl : (backTo pos (starEach es X.env)).any (·.1) = false := by rfl) :
    PE X (.Call (.Name x p) (e :: es) [] pos) (fun σ H Q => ta σ H fun vs H1 => vs.length ≤ 1000 ∧ ∀ a, H1 a = none → Q (.ref a) (upd H1 a (ExO (.ref C) a))) := by
  constructor
  intro pins s σ H Q I h
  apply wpAny_Call_Name_kw
  apply ld_glob I hg gC ?_ hdb
  apply PySem.W.callWith_K (h₀ := X.base) I.ok.mod.kin kC ?_ he hpl
  apply thn (ha.run pos pins s σ H _ I h)
  rintro us s1 ⟨vs, H1, I1, r1, hz, q1⟩
  refine ⟨I1.kIn, ?_⟩
  show wpAny _ _ (call (.ref C) us) _ _ _
  obtain ⟨bm, N, nm, qn, bs, hdct, sn, sub, ab, col, dd, k0, k1, k2, k3, k5, mN, hC, hN, hni, T⟩ := exc_obj I1.kIn q
  refine wpAny_call_exc_subT F T hC hN hni (fun h' a hm => ?_) (by rw [← Paired.length r1, sizeLine_eq]; omega)
  obtain ⟨t, ht, _, _⟩ := hm.there
  have fresh := I1.hok.gone hm.new
  exact ⟨.ref a, _, I1.laidN hm.keeps hm.new fresh (exO_ok ht ⟨rfl, rfl⟩ rfl rfl rfl (by decide : 4 < 6)), rfl, q1 a fresh⟩
theorem pe_excA0 {C : Addr} {bmB : List Value} {B newId initId : String} {x : Str} (F : ExcBaseFacts B newId initId bmB) (q : PySem.W.excIn X.K C bmB newId = true) (gC : X.mg x = some (.ref C)) (kC : PySem.W.keepIn X.K (.ref C) = true) (hg : Gl X x)
    (hdb : (x == ("__debug__" : Str)) = false := by decide) :
    PE X (.Call (.Name x p) [] [] pos) (fun σ H Q => ∀ a, H a = none → Q (.ref a) (upd H a (ExO (.ref C) a))) := by
  constructor
  intro pins s σ H Q I h
  apply wpAny_Call_Name_kw
  apply ld_glob I hg gC ?_ hdb
  apply PySem.W.callWith_K0 I.kIn kC
  obtain ⟨bm, N, nm, qn, bs, hdct, sn, sub, ab, col, dd, k0, k1, k2, k3, k5, mN, hC, hN, hni, T⟩ := exc_obj I.kIn q
  refine wpAny_call_exc_subT F T hC hN hni (fun h' a hm => ?_) (by rw [sizeLine_eq]; decide)
  obtain ⟨t, ht, _, _⟩ := hm.there
  have fresh := I.hok.gone hm.new
  exact ⟨.ref a, _, I.laidN hm.keeps hm.new fresh (exO_ok ht ⟨rfl, rfl⟩ rfl rfl rfl (by decide : 4 < 6)), rfl, h a fresh⟩
end
end GL
set_option Elab.async false
set_option linter.all false
set_option maxRecDepth 100000
set_option maxHeartbeats 2000000
/-! GLay8: data with dicts in it; lists that are not the table of modules -/
namespace GL
open PySem PySem.Spec PyProof.Rows L2
/-- not the interpreter's own table of modules -/
def Own (a : Addr) : Prop := a ≠ sysModules
theorem own_new {X : Cx} {pins : List (Addr × Obj)} {σ : L2.St} {H : Hp} {s : Shared} (I : Inv X pins σ H s) : Own s.heap.objs.size := Nat.ne_of_gt I.big
section
variable {X : Cx} {es : List Expr} {t : TA} {pos : Pos}
theorem pe_lstS (h : PA X es t) : PE X (.List es pos) (fun σ H Q => t σ H fun xs H1 => xs.length ≤ sizeLine ∧ ∀ p, H1 p = none → Own p → Q (.ref p) (upd H1 p (.lst xs))) := by
  constructor
  intro pins s σ H Q I hq
  apply wpAny_List_spliced
  apply thn (h.run pos pins s σ H _ I hq)
  rintro us s1 ⟨xs, H1, I1, r, z, q⟩
  exact ⟨by rw [← r.length]; exact z, .ref s1.heap.objs.size, _, I1.lnew (t' := s1.toks) r z, rfl, q _ I1.fresh (own_new I1)⟩
theorem op_catS : OpR X (binaryOp .Add) (fun x y H Q => ∃ l b xs zs, x = .ref l ∧ y = .ref b ∧ H l = some (.lst xs) ∧ H b = some (.lst zs) ∧ xs.length + zs.length ≤ sizeLine ∧ ∀ p, H p = none → Own p → Q (.ref p) (upd H p (.lst (xs ++ zs)))) := by
  intro pins s σ H x y v u Q I rx ry h
  obtain ⟨l, b, xs, zs, rfl, rfl, h1, h2, room, q⟩ := h
  cases rx
  cases ry
  obtain ⟨_, its, _, r, e3, e⟩ := I.lstM h1
  obtain ⟨_, its2, _, r2, e4, e2⟩ := I.lstM h2
  refine PySem.P.add_list e e2 ?_ (by rw [List.size_toArray, List.size_toArray]; omega)
  rw [show its.toArray ++ its2.toArray = (its ++ its2).toArray by simp]
  exact ⟨.ref _, _, I.lnew (t' := s.toks) (r.append r2) (by rw [List.length_append]; exact room), rfl, q _ I.fresh (own_new I)⟩
end
section
variable {X : Cx}
theorem fold_rep (its : List Value) : ∀ (m : Nat) (acc : List Value), List.foldl (fun a b => a ++ b) acc.toArray (List.replicate m its.toArray) = (acc ++ (List.replicate m its).flatten).toArray
  | 0, acc => by simp
  | m + 1, acc => by
    rw [List.replicate_succ, List.foldl_cons, List.replicate_succ, List.flatten_cons]
    have e : acc.toArray ++ its.toArray = (acc ++ its).toArray := by simp
    rw [e, fold_rep its m, List.append_assoc]
theorem vals_rep {xs : List V} {its : List Value} (r : Vals xs its) : ∀ m : Nat, Vals (List.replicate m xs).flatten (List.replicate m its).flatten
  | 0 => .nil
  | m + 1 => by
    rw [List.replicate_succ, List.replicate_succ, List.flatten_cons, List.flatten_cons]
    exact r.append (vals_rep r m)
theorem len_rep (xs : List V) : ∀ m : Nat, (List.replicate m xs).flatten.length = m * xs.length
  | 0 => by simp
  | m + 1 => by
    rw [List.replicate_succ, List.flatten_cons, List.length_append, len_rep xs m, Nat.succ_mul]
    omega
/-- a list a few times -/
theorem op_repS : OpR X (binaryOp .Mult) (fun x y H Q => ∃ (l : Addr) (k : Int) (xs : List V), x = .ref l ∧ y = .int k ∧ H l = some (.lst xs) ∧ 0 ≤ k ∧ k ≤ 100 ∧ xs.length ≤ 100 ∧
    ∀ p, H p = none → Own p → Q (.ref p) (upd H p (.lst (List.replicate k.toNat xs).flatten))) := by
  intro pins s σ H x y v u Q I rx ry h
  obtain ⟨l, k, xs, rfl, rfl, hl, k0, k1, hx, q⟩ := h
  cases rx
  obtain ⟨t, rfl⟩ := ry
  obtain ⟨_, its, n, r, en, e⟩ := I.lstM hl
  have small : its.toArray.size * k.toNat ≤ 100 * 100 := Nat.mul_le_mul (by rw [List.size_toArray, ← en]; exact hx) (by omega)
  have fits : ¬ (!Builtin.List.listFitsIndex k) = true := by
    rw [fitsIndex_both (by omega) (by omega)]
    exact Bool.false_ne_true
  have caps : ¬ its.toArray.size * k.toNat > (2 ^ 63 - 1) / 8 := by omega
  have longs : ¬ Builtin.List.listTooLong (its.toArray.size * k.toNat) = true := by
    rw [notLongL (by rw [sizeLine_eq]; omega)]
    exact Bool.false_ne_true
  have made : List.foldl (fun a b => a ++ b) #[] (List.replicate (if its.toArray.isEmpty = true then 0 else k.toNat) its.toArray) = (List.replicate k.toNat its).flatten.toArray := by
    have z := fun m => fold_rep its m []
    simp only [List.nil_append] at z
    rw [show (#[] : Array Value) = ([] : List Value).toArray from rfl, z]
    cases its with
    | nil => simp
    | cons a r' => rw [if_neg (by simp)]
  have isl : s.TypeIs (.ref l) "list" := ⟨_, e, rfl⟩
  refine wpAny_binaryOp_repeat_ref (T := "list") (U := "int") (by decide) isl (fun s' => typeIs_int s' k t) noFill_list_mul F.fills_int_mul
    F.slot_int_rmul repeat_list F.slot_int_index.lookup ?_
  refine call_meets F.slot_int_rmul (typeIs_int s k t) F.entry_int_rmul (F.args_int_rmul_2 _ _) (int___rmul___int_list k t l its.toArray n) ⟨e, rfl, isl, ?_⟩
  refine call_meets F.slot_list_mul isl F.entry_list_mul (F.args_list_mul_2 _ _) (AutoListH.list___mul___list_int_3 l its.toArray n k t fits caps longs) ⟨e, ?_⟩
  rw [made]
  refine ⟨.ref _, _, I.lnew (t' := s.toks) (vals_rep r k.toNat) ?_, rfl, q _ I.fresh (own_new I)⟩
  rw [len_rep, en, sizeLine_eq]
  have : k.toNat * its.length ≤ 100 * 100 := by
    have s2 := small
    rw [List.size_toArray, Nat.mul_comm] at s2
    exact s2
  omega
end
/-- the data of a key -/
def kD : Key → PyData
  | .inl i => .int i
  | .inr x => .str x
mutual
inductive Dq (K : PySem.W.Frag) (H : Hp) : V → PyData → Prop
  | non : Dq K H .non .none
  | bl (b : Bool) : Dq K H (.bl b) (.bool b)
  | int (i : Int) : Dq K H (.int i) (.int i)
  | str (x : Str) : Dq K H (.str x) (.str x)
  | lst {a : Addr} {xs : List V} {ds : List PyData} : H a = some (.lst xs) → Own a → DqAll K H xs ds → Dq K H (.ref a) (.list ds)
  | tup {a : Addr} {xs : List V} {ds : List PyData} : H a = some (.tup xs) → DqAll K H xs ds → Dq K H (.ref a) (.tuple ds)
  | dct {a : Addr} {kvs : List (Key × V)} {ds : List PyData} : H a = some (.dK kvs) → DqAll K H (kvs.map (·.2)) ds → Dq K H (.ref a) (.dict ((kvs.map fun p => kD p.1).zip ds))
inductive DqAll (K : PySem.W.Frag) (H : Hp) : List V → List PyData → Prop
  | nil : DqAll K H [] []
  | cons {v : V} {vs : List V} {d : PyData} {ds : List PyData} : Dq K H v d → DqAll K H vs ds → DqAll K H (v :: vs) (d :: ds)
end
theorem DqAll.length {K : PySem.W.Frag} {H : Hp} : ∀ {vs : List V} {ds : List PyData}, DqAll K H vs ds → vs.length = ds.length
  | _, _, .nil => rfl
  | _, _, .cons _ t => by rw [List.length_cons, List.length_cons, DqAll.length t]
section
variable {X : Cx} {pins : List (Addr × Obj)} {σ : L2.St} {H : Hp} {s : Shared}
theorem keys_read {P : Program} {w : World} : ∀ {es : List DictEntry} {kvs : List (Key × V)} {vs : List (Key × Value)}, Pairs (mixKind P w) es vs → KV kvs vs →
    ReadsAll s.heap (es.map (·.key)) (kvs.map fun p => kD p.1) [] := by
  intro es kvs vs p
  induction p generalizing kvs with
  | nil =>
    intro k
    cases k
    exact .nil
  | @cons e kv es vs h1 h2 _ ih =>
    intro k
    cases k with
    | @cons p _ ps _ k1 k2 =>
      obtain ⟨ek, _⟩ := k1
      have e1 : kv.1 = p.1 := ek.symm
      have e2 : keyIs p.1 e.key = true := by rw [← e1]; exact h1
      have rd : Reads s.heap e.key (kD p.1) [] := by
        rcases keyIs_shape e2 with ⟨i, t, e3, e4⟩ | ⟨x, t, e3, e4⟩
        · rw [e3, e4]
          exact .int i t
        · rw [e3, e4]
          exact .str x t
      exact ReadsAll.cons (as := []) (bs := []) rd (ih k2)
theorem vals_of {P : Program} {w : World} : ∀ {es : List DictEntry} {kvs : List (Key × V)} {vs : List (Key × Value)}, Pairs (mixKind P w) es vs → KV kvs vs → Vals (kvs.map (·.2)) (es.map (·.val)) := by
  intro es kvs vs p
  induction p generalizing kvs with
  | nil =>
    intro k
    cases k
    exact .nil
  | @cons e kv es vs h1 h2 _ ih =>
    intro k
    cases k with
    | @cons p _ ps _ k1 k2 =>
      obtain ⟨_, ev⟩ := k1
      refine .cons ?_ (ih k2)
      show RelV p.2 e.val
      rw [h2]
      exact ev
theorem fst_zip {α β : Type} : ∀ {l : List α} {m : List β}, l.length = m.length → (l.zip m).map (·.1) = l
  | [], [], _ => rfl
  | a :: l, b :: m, h => by
    rw [List.zip_cons_cons, List.map_cons, fst_zip (by simpa using h)]
theorem snd_zip {α β : Type} : ∀ {l : List α} {m : List β}, l.length = m.length → (l.zip m).map (·.2) = m
  | [], [], _ => rfl
  | a :: l, b :: m, h => by
    rw [List.zip_cons_cons, List.map_cons, snd_zip (by simpa using h)]
mutual
theorem Dq.reads (I : Inv X pins σ H s) : ∀ {d : PyData} {v : V} {u : Value}, Dq X.K H v d → RelV v u → ∃ as, Reads s.heap u d as ∧ sysModules ∉ as
  | _, _, _, .non, r => by
    cases r
    exact ⟨_, .none, by simp⟩
  | _, _, _, .bl b, r => by
    cases r
    exact ⟨_, .bool b, by simp⟩
  | _, _, _, .int i, r => by
    obtain ⟨t, rfl⟩ := r
    exact ⟨_, .int i t, by simp⟩
  | _, _, _, .str x, r => by
    obtain ⟨t, rfl⟩ := r
    exact ⟨_, .str x t, by simp⟩
  | _, _, _, .lst h n t, r => by
    cases r
    obtain ⟨its, rv, ⟨o, n2, ho, hc, _, hd⟩, _⟩ := I.list (.inl (.inl h))
    obtain ⟨as, rd, hn⟩ := DqAll.reads I t rv
    refine ⟨_, .list ho hc hd rd, fun z => ?_⟩
    rcases List.mem_cons.mp z with z | z
    · exact n z.symm
    · exact hn z
  | _, _, _, .tup h t, r => by
    cases r
    obtain ⟨its, rv, ⟨o, ho, hc, n2, hd⟩, _⟩ := I.tuple (.inl (.inl h))
    obtain ⟨as, rd, hn⟩ := DqAll.reads I t rv
    exact ⟨_, .tuple ho hc hd rd, hn⟩
  | _, _, _, .dct (kvs := kvs) (ds := ds) h t, r => by
    cases r
    obtain ⟨_, hsm, vs, kv, ob, es, ep, h1, h2, h3, _, h5, _⟩ := I.hok _ _ h
    have rv := vals_of h5 kv
    obtain ⟨bs, rd, hn⟩ := DqAll.reads I t rv
    have hl : (kvs.map fun p => kD p.1).length = ds.length := by
      have := DqAll.length t
      rw [List.length_map] at this ⊢
      exact this
    refine ⟨_, .dict h1 h2.1 h3 (as := []) (bs := bs) (by rw [fst_zip hl]; exact keys_read h5 kv) (by rw [snd_zip hl]; exact rd), fun z => ?_⟩
    rcases List.mem_append.mp z with z | z
    · rcases List.mem_cons.mp z with z | z
      · rw [← z] at hsm
        simp at hsm
      · cases z
    · exact hn z
theorem DqAll.reads (I : Inv X pins σ H s) : ∀ {ds : List PyData} {vs : List V} {us : List Value}, DqAll X.K H vs ds → Vals vs us → ∃ as, ReadsAll s.heap us ds as ∧ sysModules ∉ as
  | _, _, _, .nil, r => by
    cases r
    exact ⟨_, .nil, by simp⟩
  | _, _, _, .cons h t, r => by
    cases r with
    | cons r1 r2 =>
      obtain ⟨as, q1, n1⟩ := Dq.reads I h r1
      obtain ⟨bs, q2, n2⟩ := DqAll.reads I t r2
      refine ⟨_, .cons q1 q2, fun z => ?_⟩
      rcases List.mem_append.mp z with z | z
      · exact n1 z
      · exact n2 z
end
end
mutual
theorem Dq.same {K : PySem.W.Frag} {H H' : Hp} (e : Same H H') : ∀ {d : PyData} {v : V}, Dq K H v d → Dq K H' v d
  | _, _, .non => .non
  | _, _, .bl b => .bl b
  | _, _, .int i => .int i
  | _, _, .str x => .str x
  | _, _, .lst h n a => .lst (e _ _ h) n (DqAll.same e a)
  | _, _, .tup h a => .tup (e _ _ h) (DqAll.same e a)
  | _, _, .dct h a => .dct (e _ _ h) (DqAll.same e a)
theorem DqAll.same {K : PySem.W.Frag} {H H' : Hp} (e : Same H H') : ∀ {ds : List PyData} {vs : List V}, DqAll K H vs ds → DqAll K H' vs ds
  | _, _, .nil => .nil
  | _, _, .cons h t => .cons (Dq.same e h) (DqAll.same e t)
end
section
variable {X : Cx}
/-- repr of data, dicts in it too -/
theorem call_reprDq (hG : Gd X.A) (hu : X.A.units + 66 < cLine) : CallR X (.builtin "repr") (fun xs H Q => ∃ a d, xs = [.ref a] ∧ Dq X.K H (.ref a) d ∧ d.showable = true ∧ d.depth ≤ 64 ∧ d.shown.length ≤ sizeLine ∧ Q (.str d.shown) H) := by
  intro pins s σ H xs us Q I r h
  obtain ⟨a, d, rfl, hd, hs, hz, hl, q⟩ := h
  obtain ⟨u, rfl, rv⟩ := vals1 r
  cases (show u = Value.ref a from rv)
  obtain ⟨as, rd, hn⟩ := Dq.reads I hd rfl
  exact repr_of_reads' rd hs (fun _ => hn) hG (by omega) (fun _ _ e => e) (fun h' u tk hk => ⟨.str _, H, I.kept hk, ⟨_, rfl⟩, q⟩) hl

/-- the same value -/
def okS : V → Bool
  | .ref _ => true
  | v => flatV v
def DSame : Eqv := fun x y _ => x = y ∧ okS x = true
theorem mon_same : Mon DSame := fun _ _ _ _ _ d => d
theorem eqG_same : EqG X 0 DSame := by
  intro A pins s σ H x y u v sb I rx ry d
  obtain ⟨rfl, o⟩ := d
  cases x with
  | ref a =>
    cases rx
    cases ry
    exact SeqAt.EqAt.same (A := A) (s := s) (.ref a) X.prog X.w X.xe _ ⟨rfl, H, I, Ext.rfl'⟩
  | byt b => exact nomatch o
  | flt b => exact nomatch o
  | ty n => exact nomatch o
  | non => exact eqG_flat A pins s σ H .non .non u v sb I rx ry ⟨rfl, rfl, rfl⟩
  | bl b => exact eqG_flat A pins s σ H (.bl b) (.bl b) u v sb I rx ry ⟨rfl, rfl, by show (b == b) = true; exact beq_self_eq_true b⟩
  | int i => exact eqG_flat A pins s σ H (.int i) (.int i) u v sb I rx ry ⟨rfl, rfl, by show (i == i) = true; exact beq_self_eq_true i⟩
  | str z => exact eqG_flat A pins s σ H (.str z) (.str z) u v sb I rx ry ⟨rfl, rfl, by show (z == z) = true; exact beq_self_eq_true z⟩
/-- == of two tuples of lists of the same values -/
theorem op_eqTL (hr : Room 2 X.A) : OpR X (compareOp .Eq) (rEqG (DTup X.K (DList DSame))) :=
  op_eqG (rcG_tup (mon_list mon_same) (eqG_list mon_same eqG_same)) hr
end
end GL
set_option Elab.async false
set_option linter.all false
set_option maxRecDepth 100000
set_option maxHeartbeats 2000000
/-! K11a: the text; the errors' makers -/
namespace K11
open PySem PySem.Spec PyProof.Rows L2 GL
def topS (i : Nat) : Stmt := PySem.Challenge.pw_askless_k11_errors_kept.main.body.getD i (.Pass ⟨0, 0, 0, 0⟩)
abbrev s_bag : Stmt := topS 31
abbrev s_take : Stmt := topS 32
abbrev s_alike : Stmt := topS 33
abbrev s_thing : Stmt := topS 34
abbrev s_errors : Stmt := topS 35
abbrev s_kinds : Stmt := topS 36
abbrev s_fields : Stmt := topS 37
abbrev s_law : Stmt := topS 38
/-- what an __init__ that keeps its arguments promises -/
def spErr (C : Addr) (fs : List Str) : Sp := fun vs H Q _ => ∃ (a : Addr) (args : List V), vs = .ref a :: args ∧ args.length = fs.length ∧ H a = some (exo a C none) ∧
  ∀ H', (∀ b o, b ≠ a → H b = some o → H' b = some o) → Err H' a C (fs.zip args) → Q .non H'
structure Ini (K : PySem.W.Frag) (C f : Addr) (fs : List Str) : Prop where
  oex : OexC K C
  no : ∀ g ∈ fs, PySem.W.findIn K (.ref C) g = some none
section
variable {P : Program} {w : World} {K : PySem.W.Frag} {mg : Str → Option Value} {base : Heap}
theorem err1 {H : Hp} {a C dx : Addr} {f : Str} {y : V} (hd : H dx = none) (n : dx ≠ a) :
    (∀ b o, b ≠ a → H b = some o → (upd (upd H dx (exd dx [(f, y)])) a (exo a C (some dx))) b = some o) ∧ Err (upd (upd H dx (exd dx [(f, y)])) a (exo a C (some dx))) a C [(f, y)] := by
  refine ⟨fun b o h e => ?_, .inr ⟨dx, _, upd_same, by rw [upd_ne n]; exact upd_same, fun p hp => ?_⟩⟩
  · rw [upd_ne h, upd_ne (ne_of_none e hd)]
    exact e
  · rw [List.mem_singleton.mp hp]
    simp [List.lookup]

abbrev s_i0 : Stmt := inClass (topS 2) 0
theorem sc_i0 : FnScope ["self", "place"] ["self", "place"] (defScope s_i0) := ⟨rfl, rfl, rfl, by decide +kernel, rfl, by decide +kernel, by decide +kernel⟩
theorem ok_i0 {C f : Addr} {fd : FuncData} (F : Fun K "__init__" "Wrong.__init__" s_i0 f fd) (T : Ini K C f ["place"]) : FnOk P w K mg base CX0 1 f fd ["self", "place"] (spErr C ["place"]) := by
  refine F.ok sc_i0 (fun vs H Q E h => ?_) (fun cdv A outer s H vs Q E hr h => ?_)
  · obtain ⟨a, args, rfl, hl, _⟩ := h
    rw [List.length_cons, hl]
    rfl
  · obtain ⟨a, args, rfl, hl, ha, q⟩ := h
    match args, hl with
    | [y], _ =>
      refine ⟨_, (pss_one (ps_ost (pv 0) (pv 1))), ?_⟩
      refine ⟨y, rfl, .ref a, rfl, a, C, rfl, T.oex, T.no _ (by simp), .inl ⟨ha, fun dx hd n => ?_⟩⟩
      exact q _ (err1 hd n).1 (err1 hd n).2
abbrev s_i1 : Stmt := inClass (topS 3) 0
theorem sc_i1 : FnScope ["self", "writer", "address"] ["self", "writer", "address"] (defScope s_i1) := ⟨rfl, rfl, rfl, by decide +kernel, rfl, by decide +kernel, by decide +kernel⟩
theorem ok_i1 {C f : Addr} {fd : FuncData} (F : Fun K "__init__" "BadStatement.__init__" s_i1 f fd) (T : Ini K C f ["writer", "address"]) : FnOk P w K mg base CX0 1 f fd ["self", "writer", "address"] (spErr C ["writer", "address"]) := by
  refine F.ok sc_i1 (fun vs H Q E h => ?_) (fun cdv A outer s H vs Q E hr h => ?_)
  · obtain ⟨a, args, rfl, hl, _⟩ := h
    rw [List.length_cons, hl]
    rfl
  · obtain ⟨a, args, rfl, hl, ha, q⟩ := h
    match args, hl with
    | [y, z], _ =>
      refine ⟨_, (pss_cons (ps_ost (pv 0) (pv 1)) (pss_one (ps_ost (pv 0) (pv 2)))), ?_⟩
      refine ⟨y, rfl, .ref a, rfl, a, C, rfl, T.oex, T.no _ (by simp), .inl ⟨ha, fun dx hd n => ?_⟩⟩
      refine ⟨z, rfl, .ref a, rfl, a, C, rfl, T.oex, T.no _ (by simp), .inr ⟨dx, _, upd_same, by rw [upd_ne n]; exact upd_same, by show 1 ≤ 900; decide, ?_⟩⟩
      refine q _ (fun b o h e => ?_) (.inr ⟨dx, _, by rw [upd_ne n.symm]; exact upd_same, upd_same, fun p hp => ?_⟩)
      · rw [upd_ne (ne_of_none e hd)]
        exact (err1 hd n).1 b o h e
      · rcases List.mem_cons.mp hp with rfl | hp
        · rfl
        · rw [List.mem_singleton.mp hp]
          rfl
abbrev s_i2 : Stmt := inClass (topS 4) 0
theorem sc_i2 : FnScope ["self", "writer"] ["self", "writer"] (defScope s_i2) := ⟨rfl, rfl, rfl, by decide +kernel, rfl, by decide +kernel, by decide +kernel⟩
theorem ok_i2 {C f : Addr} {fd : FuncData} (F : Fun K "__init__" "NoWriter.__init__" s_i2 f fd) (T : Ini K C f ["writer"]) : FnOk P w K mg base CX0 1 f fd ["self", "writer"] (spErr C ["writer"]) := by
  refine F.ok sc_i2 (fun vs H Q E h => ?_) (fun cdv A outer s H vs Q E hr h => ?_)
  · obtain ⟨a, args, rfl, hl, _⟩ := h
    rw [List.length_cons, hl]
    rfl
  · obtain ⟨a, args, rfl, hl, ha, q⟩ := h
    match args, hl with
    | [y], _ =>
      refine ⟨_, (pss_one (ps_ost (pv 0) (pv 1))), ?_⟩
      refine ⟨y, rfl, .ref a, rfl, a, C, rfl, T.oex, T.no _ (by simp), .inl ⟨ha, fun dx hd n => ?_⟩⟩
      exact q _ (err1 hd n).1 (err1 hd n).2
abbrev s_i3 : Stmt := inClass (topS 5) 0
theorem sc_i3 : FnScope ["self", "place"] ["self", "place"] (defScope s_i3) := ⟨rfl, rfl, rfl, by decide +kernel, rfl, by decide +kernel, by decide +kernel⟩
theorem ok_i3 {C f : Addr} {fd : FuncData} (F : Fun K "__init__" "NoPlace.__init__" s_i3 f fd) (T : Ini K C f ["place"]) : FnOk P w K mg base CX0 1 f fd ["self", "place"] (spErr C ["place"]) := by
  refine F.ok sc_i3 (fun vs H Q E h => ?_) (fun cdv A outer s H vs Q E hr h => ?_)
  · obtain ⟨a, args, rfl, hl, _⟩ := h
    rw [List.length_cons, hl]
    rfl
  · obtain ⟨a, args, rfl, hl, ha, q⟩ := h
    match args, hl with
    | [y], _ =>
      refine ⟨_, (pss_one (ps_ost (pv 0) (pv 1))), ?_⟩
      refine ⟨y, rfl, .ref a, rfl, a, C, rfl, T.oex, T.no _ (by simp), .inl ⟨ha, fun dx hd n => ?_⟩⟩
      exact q _ (err1 hd n).1 (err1 hd n).2
abbrev s_i4 : Stmt := inClass (topS 6) 0
theorem sc_i4 : FnScope ["self", "limit"] ["self", "limit"] (defScope s_i4) := ⟨rfl, rfl, rfl, by decide +kernel, rfl, by decide +kernel, by decide +kernel⟩
theorem ok_i4 {C f : Addr} {fd : FuncData} (F : Fun K "__init__" "TooMany.__init__" s_i4 f fd) (T : Ini K C f ["limit"]) : FnOk P w K mg base CX0 1 f fd ["self", "limit"] (spErr C ["limit"]) := by
  refine F.ok sc_i4 (fun vs H Q E h => ?_) (fun cdv A outer s H vs Q E hr h => ?_)
  · obtain ⟨a, args, rfl, hl, _⟩ := h
    rw [List.length_cons, hl]
    rfl
  · obtain ⟨a, args, rfl, hl, ha, q⟩ := h
    match args, hl with
    | [y], _ =>
      refine ⟨_, (pss_one (ps_ost (pv 0) (pv 1))), ?_⟩
      refine ⟨y, rfl, .ref a, rfl, a, C, rfl, T.oex, T.no _ (by simp), .inl ⟨ha, fun dx hd n => ?_⟩⟩
      exact q _ (err1 hd n).1 (err1 hd n).2
abbrev s_i5 : Stmt := inClass (topS 7) 0
theorem sc_i5 : FnScope ["self"] ["self"] (defScope s_i5) := ⟨rfl, rfl, rfl, by decide +kernel, rfl, by decide +kernel, by decide +kernel⟩
theorem ok_i5 {C f : Addr} {fd : FuncData} (F : Fun K "__init__" "NoStep.__init__" s_i5 f fd) (T : Ini K C f []) : FnOk P w K mg base CX0 1 f fd ["self"] (spErr C []) := by
  refine F.ok sc_i5 (fun vs H Q E h => ?_) (fun cdv A outer s H vs Q E hr h => ?_)
  · obtain ⟨a, args, rfl, hl, _⟩ := h
    rw [List.length_cons, hl]
    rfl
  · obtain ⟨a, args, rfl, hl, ha, q⟩ := h
    match args, hl with
    | [], _ =>
      refine ⟨_, (pss_one ps_pass), ?_⟩
      exact q H (fun _ _ _ e => e) (.inl ⟨rfl, ha⟩)
abbrev s_i6 : Stmt := inClass (topS 8) 0
theorem sc_i6 : FnScope ["self", "writer", "address", "name"] ["self", "writer", "address", "name"] (defScope s_i6) := ⟨rfl, rfl, rfl, by decide +kernel, rfl, by decide +kernel, by decide +kernel⟩
theorem ok_i6 {C f : Addr} {fd : FuncData} (F : Fun K "__init__" "Fault.__init__" s_i6 f fd) (T : Ini K C f ["writer", "address", "name"]) : FnOk P w K mg base CX0 1 f fd ["self", "writer", "address", "name"] (spErr C ["writer", "address", "name"]) := by
  refine F.ok sc_i6 (fun vs H Q E h => ?_) (fun cdv A outer s H vs Q E hr h => ?_)
  · obtain ⟨a, args, rfl, hl, _⟩ := h
    rw [List.length_cons, hl]
    rfl
  · obtain ⟨a, args, rfl, hl, ha, q⟩ := h
    match args, hl with
    | [y, z, u], _ =>
      refine ⟨_, (pss_cons (ps_ost (pv 0) (pv 1)) (pss_cons (ps_ost (pv 0) (pv 2)) (pss_one (ps_ost (pv 0) (pv 3))))), ?_⟩
      refine ⟨y, rfl, .ref a, rfl, a, C, rfl, T.oex, T.no _ (by simp), .inl ⟨ha, fun dx hd n => ?_⟩⟩
      refine ⟨z, rfl, .ref a, rfl, a, C, rfl, T.oex, T.no _ (by simp), .inr ⟨dx, _, upd_same, by rw [upd_ne n]; exact upd_same, by show 1 ≤ 900; decide, ?_⟩⟩
      refine ⟨u, rfl, .ref a, rfl, a, C, rfl, T.oex, T.no _ (by simp), .inr ⟨dx, _, by rw [upd_ne n.symm]; exact upd_same, upd_same, by show 2 ≤ 900; decide, ?_⟩⟩
      refine q _ (fun b o h e => ?_) (.inr ⟨dx, _, by rw [upd_ne n.symm, upd_ne n.symm]; exact upd_same, upd_same, fun p hp => ?_⟩)
      · rw [upd_ne (ne_of_none e hd), upd_ne (ne_of_none e hd)]
        exact (err1 hd n).1 b o h e
      · rcases List.mem_cons.mp hp with rfl | hp
        · rfl
        · rcases List.mem_cons.mp hp with rfl | hp
          · rfl
          · rw [List.mem_singleton.mp hp]
            rfl
abbrev s_i7 : Stmt := inClass (topS 9) 0
theorem sc_i7 : FnScope ["self", "cell"] ["self", "cell"] (defScope s_i7) := ⟨rfl, rfl, rfl, by decide +kernel, rfl, by decide +kernel, by decide +kernel⟩
theorem ok_i7 {C f : Addr} {fd : FuncData} (F : Fun K "__init__" "Freed.__init__" s_i7 f fd) (T : Ini K C f ["cell"]) : FnOk P w K mg base CX0 1 f fd ["self", "cell"] (spErr C ["cell"]) := by
  refine F.ok sc_i7 (fun vs H Q E h => ?_) (fun cdv A outer s H vs Q E hr h => ?_)
  · obtain ⟨a, args, rfl, hl, _⟩ := h
    rw [List.length_cons, hl]
    rfl
  · obtain ⟨a, args, rfl, hl, ha, q⟩ := h
    match args, hl with
    | [y], _ =>
      refine ⟨_, (pss_one (ps_ost (pv 0) (pv 1))), ?_⟩
      refine ⟨y, rfl, .ref a, rfl, a, C, rfl, T.oex, T.no _ (by simp), .inl ⟨ha, fun dx hd n => ?_⟩⟩
      exact q _ (err1 hd n).1 (err1 hd n).2
abbrev s_i8 : Stmt := inClass (topS 10) 0
theorem sc_i8 : FnScope ["self", "walker"] ["self", "walker"] (defScope s_i8) := ⟨rfl, rfl, rfl, by decide +kernel, rfl, by decide +kernel, by decide +kernel⟩
theorem ok_i8 {C f : Addr} {fd : FuncData} (F : Fun K "__init__" "Gone.__init__" s_i8 f fd) (T : Ini K C f ["walker"]) : FnOk P w K mg base CX0 1 f fd ["self", "walker"] (spErr C ["walker"]) := by
  refine F.ok sc_i8 (fun vs H Q E h => ?_) (fun cdv A outer s H vs Q E hr h => ?_)
  · obtain ⟨a, args, rfl, hl, _⟩ := h
    rw [List.length_cons, hl]
    rfl
  · obtain ⟨a, args, rfl, hl, ha, q⟩ := h
    match args, hl with
    | [y], _ =>
      refine ⟨_, (pss_one (ps_ost (pv 0) (pv 1))), ?_⟩
      refine ⟨y, rfl, .ref a, rfl, a, C, rfl, T.oex, T.no _ (by simp), .inl ⟨ha, fun dx hd n => ?_⟩⟩
      exact q _ (err1 hd n).1 (err1 hd n).2
abbrev s_i9 : Stmt := inClass (topS 11) 0
theorem sc_i9 : FnScope ["self"] ["self"] (defScope s_i9) := ⟨rfl, rfl, rfl, by decide +kernel, rfl, by decide +kernel, by decide +kernel⟩
theorem ok_i9 {C f : Addr} {fd : FuncData} (F : Fun K "__init__" "Nothing.__init__" s_i9 f fd) (T : Ini K C f []) : FnOk P w K mg base CX0 1 f fd ["self"] (spErr C []) := by
  refine F.ok sc_i9 (fun vs H Q E h => ?_) (fun cdv A outer s H vs Q E hr h => ?_)
  · obtain ⟨a, args, rfl, hl, _⟩ := h
    rw [List.length_cons, hl]
    rfl
  · obtain ⟨a, args, rfl, hl, ha, q⟩ := h
    match args, hl with
    | [], _ =>
      refine ⟨_, (pss_one ps_pass), ?_⟩
      exact q H (fun _ _ _ e => e) (.inl ⟨rfl, ha⟩)
abbrev s_i10 : Stmt := inClass (topS 12) 0
theorem sc_i10 : FnScope ["self", "walker"] ["self", "walker"] (defScope s_i10) := ⟨rfl, rfl, rfl, by decide +kernel, rfl, by decide +kernel, by decide +kernel⟩
theorem ok_i10 {C f : Addr} {fd : FuncData} (F : Fun K "__init__" "NoWalker.__init__" s_i10 f fd) (T : Ini K C f ["walker"]) : FnOk P w K mg base CX0 1 f fd ["self", "walker"] (spErr C ["walker"]) := by
  refine F.ok sc_i10 (fun vs H Q E h => ?_) (fun cdv A outer s H vs Q E hr h => ?_)
  · obtain ⟨a, args, rfl, hl, _⟩ := h
    rw [List.length_cons, hl]
    rfl
  · obtain ⟨a, args, rfl, hl, ha, q⟩ := h
    match args, hl with
    | [y], _ =>
      refine ⟨_, (pss_one (ps_ost (pv 0) (pv 1))), ?_⟩
      refine ⟨y, rfl, .ref a, rfl, a, C, rfl, T.oex, T.no _ (by simp), .inl ⟨ha, fun dx hd n => ?_⟩⟩
      exact q _ (err1 hd n).1 (err1 hd n).2
abbrev s_i11 : Stmt := inClass (topS 13) 0
theorem sc_i11 : FnScope ["self", "at"] ["self", "at"] (defScope s_i11) := ⟨rfl, rfl, rfl, by decide +kernel, rfl, by decide +kernel, by decide +kernel⟩
theorem ok_i11 {C f : Addr} {fd : FuncData} (F : Fun K "__init__" "Broken.__init__" s_i11 f fd) (T : Ini K C f ["at"]) : FnOk P w K mg base CX0 1 f fd ["self", "at"] (spErr C ["at"]) := by
  refine F.ok sc_i11 (fun vs H Q E h => ?_) (fun cdv A outer s H vs Q E hr h => ?_)
  · obtain ⟨a, args, rfl, hl, _⟩ := h
    rw [List.length_cons, hl]
    rfl
  · obtain ⟨a, args, rfl, hl, ha, q⟩ := h
    match args, hl with
    | [y], _ =>
      refine ⟨_, (pss_one (ps_ost (pv 0) (pv 1))), ?_⟩
      refine ⟨y, rfl, .ref a, rfl, a, C, rfl, T.oex, T.no _ (by simp), .inl ⟨ha, fun dx hd n => ?_⟩⟩
      exact q _ (err1 hd n).1 (err1 hd n).2
abbrev s_i12 : Stmt := inClass (topS 14) 0
theorem sc_i12 : FnScope ["self", "place"] ["self", "place"] (defScope s_i12) := ⟨rfl, rfl, rfl, by decide +kernel, rfl, by decide +kernel, by decide +kernel⟩
theorem ok_i12 {C f : Addr} {fd : FuncData} (F : Fun K "__init__" "BadTarget.__init__" s_i12 f fd) (T : Ini K C f ["place"]) : FnOk P w K mg base CX0 1 f fd ["self", "place"] (spErr C ["place"]) := by
  refine F.ok sc_i12 (fun vs H Q E h => ?_) (fun cdv A outer s H vs Q E hr h => ?_)
  · obtain ⟨a, args, rfl, hl, _⟩ := h
    rw [List.length_cons, hl]
    rfl
  · obtain ⟨a, args, rfl, hl, ha, q⟩ := h
    match args, hl with
    | [y], _ =>
      refine ⟨_, (pss_one (ps_ost (pv 0) (pv 1))), ?_⟩
      refine ⟨y, rfl, .ref a, rfl, a, C, rfl, T.oex, T.no _ (by simp), .inl ⟨ha, fun dx hd n => ?_⟩⟩
      exact q _ (err1 hd n).1 (err1 hd n).2
abbrev s_i13 : Stmt := inClass (topS 15) 0
theorem sc_i13 : FnScope ["self", "name"] ["self", "name"] (defScope s_i13) := ⟨rfl, rfl, rfl, by decide +kernel, rfl, by decide +kernel, by decide +kernel⟩
theorem ok_i13 {C f : Addr} {fd : FuncData} (F : Fun K "__init__" "Unknown.__init__" s_i13 f fd) (T : Ini K C f ["name"]) : FnOk P w K mg base CX0 1 f fd ["self", "name"] (spErr C ["name"]) := by
  refine F.ok sc_i13 (fun vs H Q E h => ?_) (fun cdv A outer s H vs Q E hr h => ?_)
  · obtain ⟨a, args, rfl, hl, _⟩ := h
    rw [List.length_cons, hl]
    rfl
  · obtain ⟨a, args, rfl, hl, ha, q⟩ := h
    match args, hl with
    | [y], _ =>
      refine ⟨_, (pss_one (ps_ost (pv 0) (pv 1))), ?_⟩
      refine ⟨y, rfl, .ref a, rfl, a, C, rfl, T.oex, T.no _ (by simp), .inl ⟨ha, fun dx hd n => ?_⟩⟩
      exact q _ (err1 hd n).1 (err1 hd n).2
abbrev s_i14 : Stmt := inClass (topS 16) 0
theorem sc_i14 : FnScope ["self", "at"] ["self", "at"] (defScope s_i14) := ⟨rfl, rfl, rfl, by decide +kernel, rfl, by decide +kernel, by decide +kernel⟩
theorem ok_i14 {C f : Addr} {fd : FuncData} (F : Fun K "__init__" "NotBare.__init__" s_i14 f fd) (T : Ini K C f ["at"]) : FnOk P w K mg base CX0 1 f fd ["self", "at"] (spErr C ["at"]) := by
  refine F.ok sc_i14 (fun vs H Q E h => ?_) (fun cdv A outer s H vs Q E hr h => ?_)
  · obtain ⟨a, args, rfl, hl, _⟩ := h
    rw [List.length_cons, hl]
    rfl
  · obtain ⟨a, args, rfl, hl, ha, q⟩ := h
    match args, hl with
    | [y], _ =>
      refine ⟨_, (pss_one (ps_ost (pv 0) (pv 1))), ?_⟩
      refine ⟨y, rfl, .ref a, rfl, a, C, rfl, T.oex, T.no _ (by simp), .inl ⟨ha, fun dx hd n => ?_⟩⟩
      exact q _ (err1 hd n).1 (err1 hd n).2
abbrev s_i15 : Stmt := inClass (topS 17) 0
theorem sc_i15 : FnScope ["self", "at"] ["self", "at"] (defScope s_i15) := ⟨rfl, rfl, rfl, by decide +kernel, rfl, by decide +kernel, by decide +kernel⟩
theorem ok_i15 {C f : Addr} {fd : FuncData} (F : Fun K "__init__" "Hopeless.__init__" s_i15 f fd) (T : Ini K C f ["at"]) : FnOk P w K mg base CX0 1 f fd ["self", "at"] (spErr C ["at"]) := by
  refine F.ok sc_i15 (fun vs H Q E h => ?_) (fun cdv A outer s H vs Q E hr h => ?_)
  · obtain ⟨a, args, rfl, hl, _⟩ := h
    rw [List.length_cons, hl]
    rfl
  · obtain ⟨a, args, rfl, hl, ha, q⟩ := h
    match args, hl with
    | [y], _ =>
      refine ⟨_, (pss_one (ps_ost (pv 0) (pv 1))), ?_⟩
      refine ⟨y, rfl, .ref a, rfl, a, C, rfl, T.oex, T.no _ (by simp), .inl ⟨ha, fun dx hd n => ?_⟩⟩
      exact q _ (err1 hd n).1 (err1 hd n).2
abbrev s_i16 : Stmt := inClass (topS 18) 0
theorem sc_i16 : FnScope ["self"] ["self"] (defScope s_i16) := ⟨rfl, rfl, rfl, by decide +kernel, rfl, by decide +kernel, by decide +kernel⟩
theorem ok_i16 {C f : Addr} {fd : FuncData} (F : Fun K "__init__" "NotRight.__init__" s_i16 f fd) (T : Ini K C f []) : FnOk P w K mg base CX0 1 f fd ["self"] (spErr C []) := by
  refine F.ok sc_i16 (fun vs H Q E h => ?_) (fun cdv A outer s H vs Q E hr h => ?_)
  · obtain ⟨a, args, rfl, hl, _⟩ := h
    rw [List.length_cons, hl]
    rfl
  · obtain ⟨a, args, rfl, hl, ha, q⟩ := h
    match args, hl with
    | [], _ =>
      refine ⟨_, (pss_one ps_pass), ?_⟩
      exact q H (fun _ _ _ e => e) (.inl ⟨rfl, ha⟩)
abbrev s_i17 : Stmt := inClass (topS 19) 0
theorem sc_i17 : FnScope ["self", "root", "field"] ["self", "root", "field"] (defScope s_i17) := ⟨rfl, rfl, rfl, by decide +kernel, rfl, by decide +kernel, by decide +kernel⟩
theorem ok_i17 {C f : Addr} {fd : FuncData} (F : Fun K "__init__" "NoChain.__init__" s_i17 f fd) (T : Ini K C f ["root", "field"]) : FnOk P w K mg base CX0 1 f fd ["self", "root", "field"] (spErr C ["root", "field"]) := by
  refine F.ok sc_i17 (fun vs H Q E h => ?_) (fun cdv A outer s H vs Q E hr h => ?_)
  · obtain ⟨a, args, rfl, hl, _⟩ := h
    rw [List.length_cons, hl]
    rfl
  · obtain ⟨a, args, rfl, hl, ha, q⟩ := h
    match args, hl with
    | [y, z], _ =>
      refine ⟨_, (pss_cons (ps_ost (pv 0) (pv 1)) (pss_one (ps_ost (pv 0) (pv 2)))), ?_⟩
      refine ⟨y, rfl, .ref a, rfl, a, C, rfl, T.oex, T.no _ (by simp), .inl ⟨ha, fun dx hd n => ?_⟩⟩
      refine ⟨z, rfl, .ref a, rfl, a, C, rfl, T.oex, T.no _ (by simp), .inr ⟨dx, _, upd_same, by rw [upd_ne n]; exact upd_same, by show 1 ≤ 900; decide, ?_⟩⟩
      refine q _ (fun b o h e => ?_) (.inr ⟨dx, _, by rw [upd_ne n.symm]; exact upd_same, upd_same, fun p hp => ?_⟩)
      · rw [upd_ne (ne_of_none e hd)]
        exact (err1 hd n).1 b o h e
      · rcases List.mem_cons.mp hp with rfl | hp
        · rfl
        · rw [List.mem_singleton.mp hp]
          rfl
abbrev s_i18 : Stmt := inClass (topS 20) 0
theorem sc_i18 : FnScope ["self"] ["self"] (defScope s_i18) := ⟨rfl, rfl, rfl, by decide +kernel, rfl, by decide +kernel, by decide +kernel⟩
theorem ok_i18 {C f : Addr} {fd : FuncData} (F : Fun K "__init__" "Unlike.__init__" s_i18 f fd) (T : Ini K C f []) : FnOk P w K mg base CX0 1 f fd ["self"] (spErr C []) := by
  refine F.ok sc_i18 (fun vs H Q E h => ?_) (fun cdv A outer s H vs Q E hr h => ?_)
  · obtain ⟨a, args, rfl, hl, _⟩ := h
    rw [List.length_cons, hl]
    rfl
  · obtain ⟨a, args, rfl, hl, ha, q⟩ := h
    match args, hl with
    | [], _ =>
      refine ⟨_, (pss_one ps_pass), ?_⟩
      exact q H (fun _ _ _ e => e) (.inl ⟨rfl, ha⟩)
abbrev s_i19 : Stmt := inClass (topS 21) 0
theorem sc_i19 : FnScope ["self", "which"] ["self", "which"] (defScope s_i19) := ⟨rfl, rfl, rfl, by decide +kernel, rfl, by decide +kernel, by decide +kernel⟩
theorem ok_i19 {C f : Addr} {fd : FuncData} (F : Fun K "__init__" "NotPlain.__init__" s_i19 f fd) (T : Ini K C f ["which"]) : FnOk P w K mg base CX0 1 f fd ["self", "which"] (spErr C ["which"]) := by
  refine F.ok sc_i19 (fun vs H Q E h => ?_) (fun cdv A outer s H vs Q E hr h => ?_)
  · obtain ⟨a, args, rfl, hl, _⟩ := h
    rw [List.length_cons, hl]
    rfl
  · obtain ⟨a, args, rfl, hl, ha, q⟩ := h
    match args, hl with
    | [y], _ =>
      refine ⟨_, (pss_one (ps_ost (pv 0) (pv 1))), ?_⟩
      refine ⟨y, rfl, .ref a, rfl, a, C, rfl, T.oex, T.no _ (by simp), .inl ⟨ha, fun dx hd n => ?_⟩⟩
      exact q _ (err1 hd n).1 (err1 hd n).2
abbrev s_i20 : Stmt := inClass (topS 22) 0
theorem sc_i20 : FnScope ["self", "at"] ["self", "at"] (defScope s_i20) := ⟨rfl, rfl, rfl, by decide +kernel, rfl, by decide +kernel, by decide +kernel⟩
theorem ok_i20 {C f : Addr} {fd : FuncData} (F : Fun K "__init__" "NoRead.__init__" s_i20 f fd) (T : Ini K C f ["at"]) : FnOk P w K mg base CX0 1 f fd ["self", "at"] (spErr C ["at"]) := by
  refine F.ok sc_i20 (fun vs H Q E h => ?_) (fun cdv A outer s H vs Q E hr h => ?_)
  · obtain ⟨a, args, rfl, hl, _⟩ := h
    rw [List.length_cons, hl]
    rfl
  · obtain ⟨a, args, rfl, hl, ha, q⟩ := h
    match args, hl with
    | [y], _ =>
      refine ⟨_, (pss_one (ps_ost (pv 0) (pv 1))), ?_⟩
      refine ⟨y, rfl, .ref a, rfl, a, C, rfl, T.oex, T.no _ (by simp), .inl ⟨ha, fun dx hd n => ?_⟩⟩
      exact q _ (err1 hd n).1 (err1 hd n).2
abbrev s_i21 : Stmt := inClass (topS 23) 0
theorem sc_i21 : FnScope ["self", "place"] ["self", "place"] (defScope s_i21) := ⟨rfl, rfl, rfl, by decide +kernel, rfl, by decide +kernel, by decide +kernel⟩
theorem ok_i21 {C f : Addr} {fd : FuncData} (F : Fun K "__init__" "NoSwitch.__init__" s_i21 f fd) (T : Ini K C f ["place"]) : FnOk P w K mg base CX0 1 f fd ["self", "place"] (spErr C ["place"]) := by
  refine F.ok sc_i21 (fun vs H Q E h => ?_) (fun cdv A outer s H vs Q E hr h => ?_)
  · obtain ⟨a, args, rfl, hl, _⟩ := h
    rw [List.length_cons, hl]
    rfl
  · obtain ⟨a, args, rfl, hl, ha, q⟩ := h
    match args, hl with
    | [y], _ =>
      refine ⟨_, (pss_one (ps_ost (pv 0) (pv 1))), ?_⟩
      refine ⟨y, rfl, .ref a, rfl, a, C, rfl, T.oex, T.no _ (by simp), .inl ⟨ha, fun dx hd n => ?_⟩⟩
      exact q _ (err1 hd n).1 (err1 hd n).2
abbrev s_i22 : Stmt := inClass (topS 24) 0
theorem sc_i22 : FnScope ["self", "many"] ["self", "many"] (defScope s_i22) := ⟨rfl, rfl, rfl, by decide +kernel, rfl, by decide +kernel, by decide +kernel⟩
theorem ok_i22 {C f : Addr} {fd : FuncData} (F : Fun K "__init__" "TooFew.__init__" s_i22 f fd) (T : Ini K C f ["many"]) : FnOk P w K mg base CX0 1 f fd ["self", "many"] (spErr C ["many"]) := by
  refine F.ok sc_i22 (fun vs H Q E h => ?_) (fun cdv A outer s H vs Q E hr h => ?_)
  · obtain ⟨a, args, rfl, hl, _⟩ := h
    rw [List.length_cons, hl]
    rfl
  · obtain ⟨a, args, rfl, hl, ha, q⟩ := h
    match args, hl with
    | [y], _ =>
      refine ⟨_, (pss_one (ps_ost (pv 0) (pv 1))), ?_⟩
      refine ⟨y, rfl, .ref a, rfl, a, C, rfl, T.oex, T.no _ (by simp), .inl ⟨ha, fun dx hd n => ?_⟩⟩
      exact q _ (err1 hd n).1 (err1 hd n).2
abbrev s_i23 : Stmt := inClass (topS 25) 0
theorem sc_i23 : FnScope ["self"] ["self"] (defScope s_i23) := ⟨rfl, rfl, rfl, by decide +kernel, rfl, by decide +kernel, by decide +kernel⟩
theorem ok_i23 {C f : Addr} {fd : FuncData} (F : Fun K "__init__" "NoDeed.__init__" s_i23 f fd) (T : Ini K C f []) : FnOk P w K mg base CX0 1 f fd ["self"] (spErr C []) := by
  refine F.ok sc_i23 (fun vs H Q E h => ?_) (fun cdv A outer s H vs Q E hr h => ?_)
  · obtain ⟨a, args, rfl, hl, _⟩ := h
    rw [List.length_cons, hl]
    rfl
  · obtain ⟨a, args, rfl, hl, ha, q⟩ := h
    match args, hl with
    | [], _ =>
      refine ⟨_, (pss_one ps_pass), ?_⟩
      exact q H (fun _ _ _ e => e) (.inl ⟨rfl, ha⟩)
abbrev s_i24 : Stmt := inClass (topS 26) 0
theorem sc_i24 : FnScope ["self", "limit"] ["self", "limit"] (defScope s_i24) := ⟨rfl, rfl, rfl, by decide +kernel, rfl, by decide +kernel, by decide +kernel⟩
theorem ok_i24 {C f : Addr} {fd : FuncData} (F : Fun K "__init__" "Full.__init__" s_i24 f fd) (T : Ini K C f ["limit"]) : FnOk P w K mg base CX0 1 f fd ["self", "limit"] (spErr C ["limit"]) := by
  refine F.ok sc_i24 (fun vs H Q E h => ?_) (fun cdv A outer s H vs Q E hr h => ?_)
  · obtain ⟨a, args, rfl, hl, _⟩ := h
    rw [List.length_cons, hl]
    rfl
  · obtain ⟨a, args, rfl, hl, ha, q⟩ := h
    match args, hl with
    | [y], _ =>
      refine ⟨_, (pss_one (ps_ost (pv 0) (pv 1))), ?_⟩
      refine ⟨y, rfl, .ref a, rfl, a, C, rfl, T.oex, T.no _ (by simp), .inl ⟨ha, fun dx hd n => ?_⟩⟩
      exact q _ (err1 hd n).1 (err1 hd n).2
abbrev s_i25 : Stmt := inClass (topS 27) 0
theorem sc_i25 : FnScope ["self", "many"] ["self", "many"] (defScope s_i25) := ⟨rfl, rfl, rfl, by decide +kernel, rfl, by decide +kernel, by decide +kernel⟩
theorem ok_i25 {C f : Addr} {fd : FuncData} (F : Fun K "__init__" "NoEntry.__init__" s_i25 f fd) (T : Ini K C f ["many"]) : FnOk P w K mg base CX0 1 f fd ["self", "many"] (spErr C ["many"]) := by
  refine F.ok sc_i25 (fun vs H Q E h => ?_) (fun cdv A outer s H vs Q E hr h => ?_)
  · obtain ⟨a, args, rfl, hl, _⟩ := h
    rw [List.length_cons, hl]
    rfl
  · obtain ⟨a, args, rfl, hl, ha, q⟩ := h
    match args, hl with
    | [y], _ =>
      refine ⟨_, (pss_one (ps_ost (pv 0) (pv 1))), ?_⟩
      refine ⟨y, rfl, .ref a, rfl, a, C, rfl, T.oex, T.no _ (by simp), .inl ⟨ha, fun dx hd n => ?_⟩⟩
      exact q _ (err1 hd n).1 (err1 hd n).2
abbrev s_i26 : Stmt := inClass (topS 28) 0
theorem sc_i26 : FnScope ["self"] ["self"] (defScope s_i26) := ⟨rfl, rfl, rfl, by decide +kernel, rfl, by decide +kernel, by decide +kernel⟩
theorem ok_i26 {C f : Addr} {fd : FuncData} (F : Fun K "__init__" "NoText.__init__" s_i26 f fd) (T : Ini K C f []) : FnOk P w K mg base CX0 1 f fd ["self"] (spErr C []) := by
  refine F.ok sc_i26 (fun vs H Q E h => ?_) (fun cdv A outer s H vs Q E hr h => ?_)
  · obtain ⟨a, args, rfl, hl, _⟩ := h
    rw [List.length_cons, hl]
    rfl
  · obtain ⟨a, args, rfl, hl, ha, q⟩ := h
    match args, hl with
    | [], _ =>
      refine ⟨_, (pss_one ps_pass), ?_⟩
      exact q H (fun _ _ _ e => e) (.inl ⟨rfl, ha⟩)
abbrev s_i27 : Stmt := inClass (topS 29) 0
theorem sc_i27 : FnScope ["self"] ["self"] (defScope s_i27) := ⟨rfl, rfl, rfl, by decide +kernel, rfl, by decide +kernel, by decide +kernel⟩
theorem ok_i27 {C f : Addr} {fd : FuncData} (F : Fun K "__init__" "NoCommand.__init__" s_i27 f fd) (T : Ini K C f []) : FnOk P w K mg base CX0 1 f fd ["self"] (spErr C []) := by
  refine F.ok sc_i27 (fun vs H Q E h => ?_) (fun cdv A outer s H vs Q E hr h => ?_)
  · obtain ⟨a, args, rfl, hl, _⟩ := h
    rw [List.length_cons, hl]
    rfl
  · obtain ⟨a, args, rfl, hl, ha, q⟩ := h
    match args, hl with
    | [], _ =>
      refine ⟨_, (pss_one ps_pass), ?_⟩
      exact q H (fun _ _ _ e => e) (.inl ⟨rfl, ha⟩)
end
end K11
set_option Elab.async false
set_option linter.all false
set_option maxRecDepth 100000
set_option maxHeartbeats 2000000
/-! K11b: the bag; makers; all errors -/
namespace K11
open PySem PySem.Spec PyProof.Rows L2 GL
structure Txt0 (mg : Str → Option Value) : Prop where
  m_isinstance : mg "isinstance" = none
  m_int : mg "int" = none
  m_len : mg "len" = none
  m_abs : mg "abs" = none
  m_range : mg "range" = none
  m_repr : mg "repr" = none
  m_enumerate : mg "enumerate" = none
  m_list : mg "list" = none
  m_dict : mg "dict" = none
  m_ValueError : mg "ValueError" = none

theorem pos31 : (0 : Int) < 2147483647 := by decide
/-- a bag of drawn numbers: its four items at b, the numbers at c -/
def Bg (H : Hp) (b c : Addr) : Prop := ∃ (g s i : Int) (ns : List Int), H b = some (.lst [.int g, .int s, .int i, .ref c]) ∧
  H c = some (.lst (ns.map V.int)) ∧ 0 ≤ i
theorem Bg.ne {H : Hp} {b c : Addr} {g s i : Int} {ns : List Int} (h : H b = some (.lst [.int g, .int s, .int i, .ref c])) (k : H c = some (.lst (ns.map V.int))) : c ≠ b := by
  intro e
  subst e
  rw [h] at k
  have k2 : [V.int g, V.int s, V.int i, V.ref c] = ns.map V.int := by injection (Option.some.inj k)
  match ns, k2 with
  | [_, _, _, d], k2 => simp at k2
theorem Bg.same {H H' : Hp} {b c : Addr} (h : Bg H b c) (e : Same H H') : Bg H' b c := by
  obtain ⟨g, s, i, ns, h1, h2, h3⟩ := h
  exact ⟨g, s, i, ns, e _ _ h1, e _ _ h2, h3⟩
theorem Bg.new {H : Hp} {b c p : Addr} {o : HO} (h : Bg H b c) (n : H p = none) : Bg (upd H p o) b c := h.same (same_new n)
theorem Bg.nb {H : Hp} {b c p : Addr} (h : Bg H b c) (n : H p = none) : p ≠ b := by
  obtain ⟨g, s, i, ns, h1, _⟩ := h
  exact (ne_of_none h1 n).symm
theorem Bg.nc {H : Hp} {b c p : Addr} (h : Bg H b c) (n : H p = none) : p ≠ c := by
  obtain ⟨g, s, i, ns, _, h2, _⟩ := h
  exact (ne_of_none h2 n).symm
theorem Bg.at {H : Hp} {b c D : Addr} {o : HO} (h : Bg H b c) (n1 : D ≠ b) (n2 : D ≠ c) : Bg (upd H D o) b c := by
  obtain ⟨g, s, i, ns, h1, h2, h3⟩ := h
  exact ⟨g, s, i, ns, by rw [upd_ne n1.symm]; exact h1, by rw [upd_ne n2.symm]; exact h2, h3⟩
def BagI (H : Hp) (b : Addr) : Prop := ∃ c, Bg H b c

section
variable {P : Program} {w : World} {K : PySem.W.Frag} {mg : Str → Option Value} {base : Heap}
theorem sc_take : FnScope ["_law_bag_here", "_law_many", "_law_cell", "_law_more", "_law_drawn"] ["_law_bag_here", "_law_many"] (defScope s_take) := ⟨rfl, rfl, rfl, by decide +kernel, rfl, by decide +kernel, by decide +kernel⟩
def spTake : Sp := fun vs H Q _ => ∃ (b c : Addr) (m : Int), vs = [.ref b, .int m] ∧ Bg H b c ∧ 0 < m ∧ m < 1073741824 ∧
  ∀ (r : Int) (xs : List V), 0 ≤ r → r < m → Bg (upd H b (.lst xs)) b c → Q (.int r) (upd H b (.lst xs))
theorem ok_take {f : Addr} {fd : FuncData} (F : Fun K "_law_take" "_law_take" s_take f fd) (T : Txt0 mg) : FnOk P w K mg base CX0 1 f fd ["_law_bag_here", "_law_many"] spTake := by
  refine F.ok sc_take (fun vs H Q E h => ?_) (fun cdv A outer s H vs Q E hr h => ?_)
  · obtain ⟨b, c, m, rfl, _⟩ := h
    rfl
  · obtain ⟨b, c, m, rfl, ⟨g, s0, i, ns, hb, hc, hi⟩, hm, hm2, q⟩ := h
    have hcb := Bg.ne hb hc
    refine ⟨_, (C8.pss_cut (ps_if (pt_cmpR op_eq (pe_ix ix_list (pv 0) pe_int (fun _ _ => rfl)) pe_int (nomark _))
        (pss_cons (ps_set (i := 2) sc_take.nd rfl (.inl rfl) pe_int)
        (C8.pss_cut (ps_if (pt_cmpR op_lt (pe_ix ix_list (pv 0) pe_int (fun _ _ => rfl)) (pe_callB call_len_seq (by rfl) T.m_len PySem.boot_len (pa_cons (pe_ix ix_list (pv 0) pe_int (fun _ _ => rfl)) pa_nil)) (nomark _))
          (pss_one (ps_set (i := 2) sc_take.nd rfl (.inl rfl) (pe_ix ix_list (pe_ix ix_list (pv 0) pe_int (fun _ _ => rfl)) (pe_ix ix_list (pv 0) pe_int (fun _ _ => rfl)) (fun _ _ => rfl))))
          pss_nil)
        (pss_cons (ps_augS (pv 0) pe_int get_list pe_int ip_add set_list)
        (C8.pss_cut (ps_if (pt_cmpR op_ge (pv 2) pe_int (nomark _))
          (pss_one (ps_asg (pv 2) (pg_sub (pv 0) pe_int set_list)))
          pss_nil)
        (pss_cons (ps_set (i := 3) sc_take.nd rfl (.inl rfl) (pe_op op_add (pe_op op_mod (pe_callTy call_int1 (by rfl) T.m_int (by decide +kernel) (pa_cons (pv 2) pa_nil)) pe_int) (pe_op op_mul pe_int (pe_ix ix_list (pv 0) pe_int (fun _ _ => rfl)))))
        (pss_one (ps_asg (pe_op op_mod (pe_callTy call_int1 (by rfl) T.m_int (by decide +kernel) (pa_cons (pe_op op_add (pe_op op_mul (pe_ix ix_list (pv 0) pe_int (fun _ _ => rfl)) pe_int) (pv 3)) pa_nil)) pe_int) (pg_sub (pv 0) pe_int set_list))))))))
        pss_nil)
      (pss_cons (ps_if (pt_cmpR op_gt (pe_ix ix_list (pv 0) pe_int (fun _ _ => rfl)) pe_int (nomark _))
        (pss_cons (ps_set (i := 4) sc_take.nd rfl (.inl rfl) (pe_op op_mod (pe_callTy call_int1 (by rfl) T.m_int (by decide +kernel) (pa_cons (pe_ix ix_list (pv 0) pe_int (fun _ _ => rfl)) pa_nil)) (pv 1)))
        (pss_cons (ps_asg (pe_op op_fdiv (pe_ix ix_list (pv 0) pe_int (fun _ _ => rfl)) (pv 1)) (pg_sub (pv 0) pe_int set_list))
        (pss_one (ps_ret (pv 4)))))
        pss_nil)
      (pss_cons (ps_asg (pe_op op_mod (pe_callTy call_int1 (by rfl) T.m_int (by decide +kernel) (pa_cons (pe_op op_add (pe_op op_mul (pe_ix ix_list (pv 0) pe_int (fun _ _ => rfl)) pe_int) pe_int) pa_nil)) pe_int) (pg_sub (pv 0) pe_int set_list))
      (pss_one (ps_ret (pe_op op_mod (pe_callTy call_int1 (by rfl) T.m_int (by decide +kernel) (pa_cons (pe_op op_fdiv (pe_ix ix_list (pv 0) pe_int (fun _ _ => rfl)) pe_int) pa_nil)) (pv 1))))))), ?_⟩
    -- what stands behind the first if
    refine ⟨fun σ H' => ∃ (g s0 i : Int) (y2 y3 : Option V), σ = [some (.ref b), some (.int m), y2, y3, none] ∧ H' = upd H b (.lst [.int g, .int s0, .int i, .ref c]) ∧ 0 ≤ i, ?_, ?_⟩
    · refine ⟨.ref b, rfl, b, _, 0, .int g, rfl, rfl, .inl (.inl hb), rfl, rfl, _, rfl, ite2 (fun e => ?_) (fun e => ?_)⟩
      · -- the cell
        refine ⟨fun σ H' => H' = H ∧ ∃ n : Int, σ = [some (.ref b), some (.int m), some (.int n), none, none], ?_, ?_⟩
        · refine ⟨.ref b, rfl, b, _, 2, .int i, rfl, rfl, .inl (.inl hb), rfl, .ref b, rfl, b, _, 3, .ref c, rfl, rfl, .inl (.inl hb), rfl, c, _, rfl, .inl (.inl (.inl hc)), i, _, rfl, rfl, _, rfl, ite2 (fun e2 => ?_) (fun e2 => ?_)⟩
          · have hlt : i < ((ns.map V.int).length : Int) := of_decide_eq_true e2
            have hn : i.toNat < ns.length := by rw [List.length_map] at hlt; omega
            refine ⟨.ref b, rfl, b, _, 3, .ref c, rfl, rfl, .inl (.inl hb), rfl, .ref b, rfl, b, _, 2, .int i, rfl, rfl, .inl (.inl hb), rfl, c, _, i, .int ns[i.toNat], rfl, rfl, .inl (.inl hc), ?_, rfl, ns[i.toNat], rfl⟩
            refine atI_int hi ?_
            rw [List.getElem?_map, List.getElem?_eq_getElem hn]
            rfl
          · exact ⟨rfl, 0, rfl⟩
        · rintro σ H' ⟨rfl, n, rfl⟩
          -- bag[2] += 1
          refine ⟨.ref b, rfl, b, _, 2, .int i, rfl, rfl, hb, rfl, i, 1, rfl, rfl, b, _, 2, 2, rfl, rfl, hb, rfl, ?_⟩
          refine ⟨fun σ H'' => ∃ g : Int, σ = [some (.ref b), some (.int m), some (.int n), none, none] ∧ H'' = upd H' b (.lst [.int g, .int s0, .int (i + 1), .ref c]), ?_, ?_⟩
          · refine ⟨_, rfl, n, _, rfl, rfl, _, rfl, ite2 (fun e2 => ?_) (fun e2 => ?_)⟩
            · refine ⟨_, rfl, .ref b, rfl, b, _, 0, 0, rfl, rfl, upd_same, rfl, n, rfl, ?_⟩
              rw [upd_upd]
              rfl
            · exact ⟨g, rfl, rfl⟩
          · rintro σ H'' ⟨g2, rfl, rfl⟩
            have h2 : (upd H' b (.lst [.int g2, .int s0, .int (i + 1), .ref c])) b = some (.lst [.int g2, .int s0, .int (i + 1), .ref c]) := upd_same
            refine ⟨_, rfl, .inl ⟨n, rfl, n, _, rfl, rfl, pos31, .ref b, rfl, b, _, 2, .int (i + 1), rfl, rfl, .inl (.inl h2), rfl, _, _, rfl, rfl, .inl (by decide), _, _, rfl, rfl, ?_⟩⟩
            refine ⟨.ref b, rfl, b, _, 1, .int s0, rfl, rfl, .inl (.inl h2), rfl, _, _, rfl, rfl, .inr (by decide), _, rfl, _, _, rfl, rfl, .inl ⟨_, rfl, _, _, rfl, rfl, pos31, .ref b, rfl, b, _, 1, 1, rfl, rfl, h2, rfl, ?_⟩⟩
            exact ⟨g2, (s0 * 48271 + (n % 2147483647 + 7919 * (i + 1))) % 2147483647, i + 1, _, _, rfl, upd_upd, by omega⟩
      · exact ⟨g, s0, i, none, none, rfl, (upd_self hb).symm, hi⟩
    · rintro σ H' ⟨g, s0, i, y2, y3, rfl, rfl, hi⟩
      have h2 : (upd H b (.lst [.int g, .int s0, .int i, .ref c])) b = some (.lst [.int g, .int s0, .int i, .ref c]) := upd_same
      have bag : ∀ (g s0 : Int), Bg (upd H b (.lst [.int g, .int s0, .int i, .ref c])) b c := fun g s0 => ⟨g, s0, i, ns, upd_same, by rw [upd_ne hcb]; exact hc, hi⟩
      refine ⟨.ref b, rfl, b, _, 0, .int g, rfl, rfl, .inl (.inl h2), rfl, _, _, rfl, rfl, _, rfl, ite2 (fun e => ?_) (fun e => ?_)⟩
      · refine ⟨.ref b, rfl, b, _, 0, .int g, rfl, rfl, .inl (.inl h2), rfl, .inl ⟨g, rfl, .int m, rfl, g, m, rfl, rfl, hm, ?_⟩⟩
        refine ⟨.ref b, rfl, b, _, 0, .int g, rfl, rfl, .inl (.inl h2), rfl, .int m, rfl, g, m, rfl, rfl, ⟨hm, hm2⟩, .ref b, rfl, b, _, 0, 0, rfl, rfl, h2, rfl, ?_⟩
        refine ⟨.int (g % m), rfl, ?_⟩
        rw [upd_upd]
        exact q _ _ (Int.emod_nonneg _ (by omega)) (Int.emod_lt_of_pos _ hm) (bag _ _)
      · refine ⟨.ref b, rfl, b, _, 1, .int s0, rfl, rfl, .inl (.inl h2), rfl, _, _, rfl, rfl, .inr (by decide), _, _, rfl, rfl, .inl ⟨_, rfl, _, _, rfl, rfl, pos31, .ref b, rfl, b, _, 1, 1, rfl, rfl, h2, rfl, ?_⟩⟩
        refine ⟨.ref b, rfl, b, _, 1, _, rfl, rfl, .inl (.inl upd_same), rfl, _, _, rfl, rfl, ⟨by decide, by decide⟩, .inl ⟨_, rfl, .int m, rfl, _, m, rfl, rfl, hm, ?_⟩⟩
        rw [upd_upd]
        exact q _ _ (Int.emod_nonneg _ (by omega)) (Int.emod_lt_of_pos _ hm) (bag _ _)
end

theorem walk_ints {K : PySem.W.Frag} {a : Addr} {ns : List Int} : Walk (Itl K a) ns.length (fun H => SqL K H a (ns.map V.int)) (fun i H x H' => H' = H ∧ ∃ n, ns[i]? = some n ∧ x = V.int n) := by
  have w := walk_list (K := K) (a := a) (xs := ns.map V.int)
  rw [List.length_map] at w
  refine w.mono (fun _ h => h) (fun i H x H' _ _ y => ⟨y.1, ?_⟩)
  have e := y.2
  rw [List.getElem?_map] at e
  cases h : ns[i]? with
  | none => rw [h] at e; cases e
  | some n =>
    rw [h] at e
    exact ⟨n, rfl, (Option.some.inj e).symm⟩
theorem cut_map {α : Type} (f : α → V) (ns : List α) (lo hi : Option Int) : ∃ ms : List α, cutV (ns.map f) lo hi = ms.map f ∧ ms.length ≤ ns.length ∧ ∀ m ∈ ms, m ∈ ns := by
  refine ⟨(ns.drop (HT.sIx (ns.map f).length 0 lo)).take (HT.sIx (ns.map f).length (ns.map f).length hi - HT.sIx (ns.map f).length 0 lo), ?_, ?_, ?_⟩
  · unfold cutV
    rw [List.map_take, List.map_drop]
  · rw [List.length_take, List.length_drop]
    omega
  · intro m hm
    exact List.mem_of_mem_drop (List.mem_of_mem_take hm)
theorem upd_none {H : Hp} {p b : Addr} {o : HO} (h : upd H p o b = none) : b ≠ p ∧ H b = none := by
  by_cases e : b = p
  · rw [e, upd_same] at h
    cases h
  · rw [upd_ne e] at h
    exact ⟨e, h⟩

section
variable {P : Program} {w : World} {K : PySem.W.Frag} {mg : Str → Option Value} {base : Heap}
theorem sc_bag : FnScope ["_law_script", "_law_cell"] ["_law_script"] (defScope s_bag) := ⟨rfl, rfl, rfl, by decide +kernel, rfl, by decide +kernel, by decide +kernel⟩
def spBag (K : PySem.W.Frag) : Sp := fun vs H Q _ => ∃ (a : Addr) (ns : List Int), vs = [.ref a] ∧ SqL K H a (ns.map V.int) ∧ ns.length ≤ 63 ∧
  ∀ (b : Addr) (H' : Hp), Same H H' → H b = none → BagI H' b → Q (.ref b) H'
theorem ok_bag {f : Addr} {fd : FuncData} (F : Fun K "_law_bag" "_law_bag" s_bag f fd) (T : Txt0 mg) : FnOk P w K mg base CX0 1 f fd ["_law_script"] (spBag K) := by
  refine F.ok sc_bag (fun vs H Q E h => ?_) (fun cdv A outer s H vs Q E hr h => ?_)
  · obtain ⟨a, ns, rfl, _⟩ := h
    rfl
  · obtain ⟨a, ns, rfl, hS, hl, q⟩ := h
    refine ⟨_, (pss_one (ps_ret (pe_lst (pa_cons pe_int (pa_cons pe_int (pa_cons pe_int (pa_cons (pe_lc (own := [("_law_cell", 1)]) (g := (gName 1)) (tt := tYes) rfl sc_bag.nd (pi_list (pe_slice sl_list (pv 0) po_none (po_some pe_int))) (blkOk_by (N := ["_law_script", "_law_cell"]) (sc := defScope s_bag) (by decide +kernel)) (fun _ _ _ _ _ => pg_name (i := 1) sc_bag.nd rfl (.inl rfl)) (fun _ _ _ _ _ => pts_nil) (fun _ _ _ _ _ => (pe_callB call_abs (by rfl) T.m_abs (by decide +kernel) (pa_cons (pv 1) pa_nil)))) pa_nil))))))), ?_⟩
    obtain ⟨ms, hms, hlen, _⟩ := cut_map V.int ns none (some 63)
    refine ⟨.ref a, rfl, 63, rfl, a, _, rfl, hS, fun c nc => ?_⟩
    rw [hms]
    refine ⟨c, rfl, ⟨_, .inl (.inl upd_same)⟩, fun D nD => ?_⟩
    have hcD : c ≠ D := ne_of_none upd_same nD
    refine lc_pure (as := ms) (emb := V.int) walk_ints (fun i H x H' h => h) (fun l => ?_) (small1000 (by omega)) (fun _ => true) (fun n => .int (if n < 0 then -n else n)) (fun n hn l R S hR _ => ?_) ?_
    · exact .inl (.inl (by rw [upd_ne hcD]; exact upd_same))
    · exact ⟨rfl, _, rfl, n, rfl, hR rfl⟩
    · refine ⟨by show 4 ≤ sizeLine; rw [sizeLine_eq]; decide, fun b nb => ?_⟩
      have hDb : D ≠ b := ne_of_none upd_same nb
      refine q b _ ?_ ?_ ⟨D, 0, 1234567891, 0, ms.map fun n => if n < 0 then -n else n, upd_same, ?_, by omega⟩
      · exact ((same_new nc).trans (same_new nD)).trans (same_new nb)
      · exact (upd_none (upd_none nb).2).2
      · rw [upd_ne hDb, upd_same, List.filter_eq_self.mpr (fun _ _ => rfl), List.map_map]
        rfl
end
abbrev FL : List (List Str) := [["place"], ["writer", "address"], ["writer"], ["place"], ["limit"], [], ["writer", "address", "name"], ["cell"], ["walker"], [], ["walker"], ["at"], ["place"], ["name"], ["at"], ["at"], [], ["root", "field"], [], ["which"], ["at"], ["place"], ["many"], [], ["limit"], ["many"], [], []]
/-- a class of errors that may be made by its name -/
structure Mkr (P : Program) (w : World) (K : PySem.W.Frag) (mg : Str → Option Value) (base : Heap) (x : Str) (C : Addr) (fs : List Str) : Prop where
  ex : ∃ (fI : Addr) (fd : FuncData) (ps : List Str), OexC K C ∧ PySem.W.findIn K (.ref C) "__init__" = some (some (.ref fI)) ∧ PySem.W.typeIn K (.ref fI) = some (.type "function") ∧
    FnOk P w K mg base CX0 1 fI fd ps (spErr C fs) ∧ Binds K fd ps [] ∧ mg x = some (.ref C)
theorem up_same {H H' : Hp} {a : Addr} {o : HO} (n : H a = none) (h : ∀ b u, b ≠ a → (upd H a o) b = some u → H' b = some u) : Same H H' := fun b u e => by
  have nb : b ≠ a := ne_of_none e n
  exact h b u nb (by rw [upd_ne nb]; exact e)
section
variable {X : Cx} {j : Nat} {x : Str} {C : Addr} {fs : List Str} {p pos : Pos} {e : Expr} {es : List Expr} {t : TA}
theorem pe_err (M : Mkr X.prog X.w X.K X.mg X.base x C fs) (hr : Room j X.A) (hk : 2 ≤ j) (hg : Gl X x) (ha : PA X (e :: es) t)
    (hdb : (x == ("__debug__" : Str)) = false := by decide) (he : starEach (e :: es) X.env = (false, eval e X.env) :: starEach es X.env := by rfl) (hpl : (backTo pos (starEach es X.env)).any (·.1) = false := by rfl) :
    PE X (.Call (.Name x p) (e :: es) [] pos) (fun σ H Q => t σ H fun vs H1 => vs.length ≤ 1000 ∧ ∀ a, H1 a = none → spErr C fs (.ref a :: vs) (upd H1 a (exo a C none)) (fun v H2 => v = .non ∧ Q (.ref a) H2) (fun _ _ _ => False)) := by
  obtain ⟨fI, fd, ps, T, iC, tI, F, b, hm⟩ := M.ex
  exact pe_oexV T iC tI F (hr.mono hk) b hg hm ha hdb he hpl
theorem pe_err0 (M : Mkr X.prog X.w X.K X.mg X.base x C fs) (hr : Room j X.A) (hk : 2 ≤ j) (hg : Gl X x) (hdb : (x == ("__debug__" : Str)) = false := by decide) :
    PE X (.Call (.Name x p) [] [] pos) (fun σ H Q => ∀ a, H a = none → spErr C fs [.ref a] (upd H a (exo a C none)) (fun v H2 => v = .non ∧ Q (.ref a) H2) (fun _ _ _ => False)) := by
  obtain ⟨fI, fd, ps, T, iC, tI, F, b, hm⟩ := M.ex
  exact pe_oexV0 T iC tI F (hr.mono hk) b hg hm hdb
end
theorem mk_use {H1 : Hp} {a C : Addr} {fs : List Str} {vs : List V} {R : Hp → Prop} (hl : vs.length = fs.length) (n : H1 a = none) (q : ∀ H', Same H1 H' → Err H' a C (fs.zip vs) → R H') :
    spErr C fs (.ref a :: vs) (upd H1 a (exo a C none)) (fun v H2 => v = .non ∧ R H2) (fun _ _ _ => False) :=
  ⟨a, vs, rfl, hl, upd_same, fun H' h er => ⟨rfl, q H' (up_same n h) er⟩⟩
/-- the errors at such addresses, from the k-th class on, made of the things v -/
def ErrN (H : Hp) (C : Nat → Addr) (v : List V) (k : Nat) (as : List Addr) : Prop := ∀ (i : Nat) (a : Addr), as[i]? = some a → Err H a (C (k + i)) ((FL.getD (k + i) []).zip v)
theorem ErrN.nil {H : Hp} {C : Nat → Addr} {v : List V} {k : Nat} : ErrN H C v k [] := fun i a h => by simp at h
theorem ErrN.cons {H : Hp} {C : Nat → Addr} {v : List V} {k : Nat} {a : Addr} {as : List Addr} (h : Err H a (C k) ((FL.getD k []).zip v)) (t : ErrN H C v (k + 1) as) : ErrN H C v k (a :: as) := fun i b e => by
  cases i with
  | zero =>
    cases (show some a = some b from e)
    exact h
  | succ i =>
    have z := t i b (by simpa using e)
    have ek : k + 1 + i = k + (i + 1) := by omega
    rw [ek] at z
    exact z
theorem ErrN.app {H : Hp} {C : Nat → Addr} {v : List V} : ∀ {as bs : List Addr} {k : Nat}, ErrN H C v k as → ErrN H C v (k + as.length) bs → ErrN H C v k (as ++ bs)
  | [], bs, k, _, h => h
  | a :: as, bs, k, h, g => by
    refine ErrN.cons (by have z := h 0 a rfl; exact z) (ErrN.app (fun i b e => ?_) ?_)
    · have z := h (i + 1) b (by simpa using e)
      have ek : k + (i + 1) = k + 1 + i := by omega
      rw [ek] at z
      exact z
    · have ek : k + (a :: as).length = k + 1 + as.length := by rw [List.length_cons]; omega
      rw [ek] at g
      exact g
theorem ErrN.same {H H' : Hp} {C : Nat → Addr} {v : List V} {k : Nat} {as : List Addr} (h : ErrN H C v k as) (e : Same H H') : ErrN H' C v k as := fun i a ha => (h i a ha).same e
end K11
set_option Elab.async false
set_option linter.all false
set_option maxRecDepth 100000
set_option maxHeartbeats 4000000
/-! K11c: all errors -/
namespace K11
open PySem PySem.Spec PyProof.Rows L2 GL
theorem le_line {n : Nat} (h : n ≤ 100000) : n ≤ sizeLine := by
  rw [sizeLine_eq]
  omega
section
variable {P : Program} {w : World} {K : PySem.W.Frag} {mg : Str → Option Value} {base : Heap}
theorem sc_errors : FnScope ["_law_one", "_law_two", "_law_three", "_law_found"] ["_law_one", "_law_two", "_law_three"] (defScope s_errors) := ⟨rfl, rfl, rfl, by decide +kernel, rfl, by decide +kernel, by decide +kernel⟩
def spErrors (C : Nat → Addr) : Sp := fun vs H Q _ => ∃ one two three, vs = [one, two, three] ∧ ∀ H' p as, Same H H' → H p = none → H' p = some (.lst (as.map V.ref)) → as.length = 28 → ErrN H' C [one, two, three] 0 as → Q (.ref p) H'
theorem ok_errors {f : Addr} {fd : FuncData} {C : Nat → Addr} (F : Fun K "_law_errors" "_law_errors" s_errors f fd)
    (M0 : Mkr P w K mg base "Wrong" (C 0) ["place"])
    (M1 : Mkr P w K mg base "BadStatement" (C 1) ["writer", "address"])
    (M2 : Mkr P w K mg base "NoWriter" (C 2) ["writer"])
    (M3 : Mkr P w K mg base "NoPlace" (C 3) ["place"])
    (M4 : Mkr P w K mg base "TooMany" (C 4) ["limit"])
    (M5 : Mkr P w K mg base "NoStep" (C 5) [])
    (M6 : Mkr P w K mg base "Fault" (C 6) ["writer", "address", "name"])
    (M7 : Mkr P w K mg base "Freed" (C 7) ["cell"])
    (M8 : Mkr P w K mg base "Gone" (C 8) ["walker"])
    (M9 : Mkr P w K mg base "Nothing" (C 9) [])
    (M10 : Mkr P w K mg base "NoWalker" (C 10) ["walker"])
    (M11 : Mkr P w K mg base "Broken" (C 11) ["at"])
    (M12 : Mkr P w K mg base "BadTarget" (C 12) ["place"])
    (M13 : Mkr P w K mg base "Unknown" (C 13) ["name"])
    (M14 : Mkr P w K mg base "NotBare" (C 14) ["at"])
    (M15 : Mkr P w K mg base "Hopeless" (C 15) ["at"])
    (M16 : Mkr P w K mg base "NotRight" (C 16) [])
    (M17 : Mkr P w K mg base "NoChain" (C 17) ["root", "field"])
    (M18 : Mkr P w K mg base "Unlike" (C 18) [])
    (M19 : Mkr P w K mg base "NotPlain" (C 19) ["which"])
    (M20 : Mkr P w K mg base "NoRead" (C 20) ["at"])
    (M21 : Mkr P w K mg base "NoSwitch" (C 21) ["place"])
    (M22 : Mkr P w K mg base "TooFew" (C 22) ["many"])
    (M23 : Mkr P w K mg base "NoDeed" (C 23) [])
    (M24 : Mkr P w K mg base "Full" (C 24) ["limit"])
    (M25 : Mkr P w K mg base "NoEntry" (C 25) ["many"])
    (M26 : Mkr P w K mg base "NoText" (C 26) [])
    (M27 : Mkr P w K mg base "NoCommand" (C 27) [])
    : FnOk P w K mg base CX0 3 f fd ["_law_one", "_law_two", "_law_three"] (spErrors C) := by
  refine F.ok sc_errors (fun vs H Q E h => ?_) (fun cdv A outer s H vs Q E hr h => ?_)
  · obtain ⟨one, two, three, rfl, _⟩ := h
    rfl
  · obtain ⟨one, two, three, rfl, q⟩ := h
    refine ⟨_, (C8.pss_cut (ps_set (i := 3) sc_errors.nd rfl (.inl rfl) (pe_lst (pa_cons (pe_err M0 hr (by decide) (by rfl) (pa_cons (pv 0) pa_nil)) (pa_cons (pe_err M1 hr (by decide) (by rfl) (pa_cons (pv 0) (pa_cons (pv 1) pa_nil))) (pa_cons (pe_err M2 hr (by decide) (by rfl) (pa_cons (pv 0) pa_nil)) (pa_cons (pe_err M3 hr (by decide) (by rfl) (pa_cons (pv 0) pa_nil)) (pa_cons (pe_err M4 hr (by decide) (by rfl) (pa_cons (pv 0) pa_nil)) (pa_cons (pe_err0 M5 hr (by decide) (by rfl)) pa_nil))))))))
      (C8.pss_cut (ps_set (i := 3) sc_errors.nd rfl (.inl rfl) (pe_op op_cat (pv 3) (pe_lst (pa_cons (pe_err M6 hr (by decide) (by rfl) (pa_cons (pv 0) (pa_cons (pv 1) (pa_cons (pv 2) pa_nil)))) (pa_cons (pe_err M7 hr (by decide) (by rfl) (pa_cons (pv 0) pa_nil)) (pa_cons (pe_err M8 hr (by decide) (by rfl) (pa_cons (pv 0) pa_nil)) (pa_cons (pe_err0 M9 hr (by decide) (by rfl)) (pa_cons (pe_err M10 hr (by decide) (by rfl) (pa_cons (pv 0) pa_nil)) (pa_cons (pe_err M11 hr (by decide) (by rfl) (pa_cons (pv 0) pa_nil)) pa_nil)))))))))
      (C8.pss_cut (ps_set (i := 3) sc_errors.nd rfl (.inl rfl) (pe_op op_cat (pv 3) (pe_lst (pa_cons (pe_err M12 hr (by decide) (by rfl) (pa_cons (pv 0) pa_nil)) (pa_cons (pe_err M13 hr (by decide) (by rfl) (pa_cons (pv 0) pa_nil)) (pa_cons (pe_err M14 hr (by decide) (by rfl) (pa_cons (pv 0) pa_nil)) (pa_cons (pe_err M15 hr (by decide) (by rfl) (pa_cons (pv 0) pa_nil)) (pa_cons (pe_err0 M16 hr (by decide) (by rfl)) (pa_cons (pe_err M17 hr (by decide) (by rfl) (pa_cons (pv 0) (pa_cons (pv 1) pa_nil))) pa_nil)))))))))
      (C8.pss_cut (ps_set (i := 3) sc_errors.nd rfl (.inl rfl) (pe_op op_cat (pv 3) (pe_lst (pa_cons (pe_err0 M18 hr (by decide) (by rfl)) (pa_cons (pe_err M19 hr (by decide) (by rfl) (pa_cons (pv 0) pa_nil)) (pa_cons (pe_err M20 hr (by decide) (by rfl) (pa_cons (pv 0) pa_nil)) (pa_cons (pe_err M21 hr (by decide) (by rfl) (pa_cons (pv 0) pa_nil)) (pa_cons (pe_err M22 hr (by decide) (by rfl) (pa_cons (pv 0) pa_nil)) (pa_cons (pe_err0 M23 hr (by decide) (by rfl)) (pa_cons (pe_err M24 hr (by decide) (by rfl) (pa_cons (pv 0) pa_nil)) pa_nil))))))))))
      (pss_one (ps_ret (pe_op op_cat (pv 3) (pe_lst (pa_cons (pe_err M25 hr (by decide) (by rfl) (pa_cons (pv 0) pa_nil)) (pa_cons (pe_err0 M26 hr (by decide) (by rfl)) (pa_cons (pe_err0 M27 hr (by decide) (by rfl)) pa_nil))))))))))), ?_⟩
    refine ⟨fun σ H' => ∃ (p : Addr) (as : List Addr), σ = [some one, some two, some three, some (.ref p)] ∧ Same H H' ∧ H p = none ∧ H' p = some (.lst (as.map V.ref)) ∧ as.length = 6 ∧ ErrN H' C [one, two, three] 0 as, ?_, ?_⟩
    · refine ⟨one, rfl, by show 1 ≤ 1000; decide, fun a0 n0 => mk_use rfl n0 fun G0 s0 e0 => ⟨one, rfl, two, rfl, by show 2 ≤ 1000; decide, fun a1 n1 => mk_use rfl n1 fun G1 s1 e1 => ⟨one, rfl, by show 1 ≤ 1000; decide, fun a2 n2 => mk_use rfl n2 fun G2 s2 e2 => ⟨one, rfl, by show 1 ≤ 1000; decide, fun a3 n3 => mk_use rfl n3 fun G3 s3 e3 => ⟨one, rfl, by show 1 ≤ 1000; decide, fun a4 n4 => mk_use rfl n4 fun G4 s4 e4 => (fun a5 n5 => mk_use (vs := []) rfl n5 fun G5 s5 e5 => (?_))⟩⟩⟩⟩⟩
      refine ⟨le_line (by show 6 ≤ 100000; decide), fun p np => ?_⟩
      have f0 := (((((e0).same s1).same s2).same s3).same s4).same s5
      have f1 := ((((e1).same s2).same s3).same s4).same s5
      have f2 := (((e2).same s3).same s4).same s5
      have f3 := ((e3).same s4).same s5
      have f4 := (e4).same s5
      have f5 := e5
      have sA : Same H G5 := (((((s0).trans s1).trans s2).trans s3).trans s4).trans s5
      have eA : ErrN G5 C [one, two, three] 0 [a0, a1, a2, a3, a4, a5] := (.cons f0 (.cons f1 (.cons f2 (.cons f3 (.cons f4 (.cons f5 ErrN.nil))))))
      exact ⟨p, [a0, a1, a2, a3, a4, a5], rfl, sA.trans (same_new np), sA.free np, upd_same, rfl, eA.same (same_new np)⟩
    · rintro σ H1 ⟨p1, as1, rfl, t1, np1, hp1, hl1, er1⟩
      refine ⟨fun σ H' => ∃ (p : Addr) (as : List Addr), σ = [some one, some two, some three, some (.ref p)] ∧ Same H H' ∧ H p = none ∧ H' p = some (.lst (as.map V.ref)) ∧ as.length = 12 ∧ ErrN H' C [one, two, three] 0 as, ?_, ?_⟩
      · refine ⟨.ref p1, rfl, ⟨one, rfl, two, rfl, three, rfl, by show 3 ≤ 1000; decide, fun a6 n6 => mk_use rfl n6 fun G6 s6 e6 => ⟨one, rfl, by show 1 ≤ 1000; decide, fun a7 n7 => mk_use rfl n7 fun G7 s7 e7 => ⟨one, rfl, by show 1 ≤ 1000; decide, fun a8 n8 => mk_use rfl n8 fun G8 s8 e8 => (fun a9 n9 => mk_use (vs := []) rfl n9 fun G9 s9 e9 => ⟨one, rfl, by show 1 ≤ 1000; decide, fun a10 n10 => mk_use rfl n10 fun G10 s10 e10 => ⟨one, rfl, by show 1 ≤ 1000; decide, fun a11 n11 => mk_use rfl n11 fun G11 s11 e11 => (?_)⟩⟩)⟩⟩⟩⟩
        refine ⟨le_line (by show 6 ≤ 100000; decide), fun l nl => ?_⟩
        have f6 := (((((e6).same s7).same s8).same s9).same s10).same s11
        have f7 := ((((e7).same s8).same s9).same s10).same s11
        have f8 := (((e8).same s9).same s10).same s11
        have f9 := ((e9).same s10).same s11
        have f10 := (e10).same s11
        have f11 := e11
        have sA : Same H1 G11 := (((((s6).trans s7).trans s8).trans s9).trans s10).trans s11
        have eA : ErrN G11 C [one, two, three] (0 + as1.length) [a6, a7, a8, a9, a10, a11] := by
          rw [hl1]
          exact (.cons f6 (.cons f7 (.cons f8 (.cons f9 (.cons f10 (.cons f11 ErrN.nil))))))
        refine ⟨p1, l, as1.map V.ref, [a6, a7, a8, a9, a10, a11].map V.ref, rfl, rfl, (sA.trans (same_new nl)) _ _ hp1, upd_same, ?_, fun p np => ?_⟩
        · rw [List.length_map, hl1]
          exact le_line (by show 6 + 6 ≤ 100000; decide)
        · have sB := (sA.trans (same_new nl)).trans (same_new (o := .lst (as1.map V.ref ++ [a6, a7, a8, a9, a10, a11].map V.ref)) np)
          exact ⟨p, as1 ++ [a6, a7, a8, a9, a10, a11], rfl, (t1.trans sB), t1.free ((sA.trans (same_new nl)).free np), by rw [upd_same, List.map_append], by rw [List.length_append, hl1]; rfl, ErrN.app (er1.same sB) (eA.same ((same_new nl).trans (same_new np)))⟩
      · rintro σ H2 ⟨p2, as2, rfl, t2, np2, hp2, hl2, er2⟩
        refine ⟨fun σ H' => ∃ (p : Addr) (as : List Addr), σ = [some one, some two, some three, some (.ref p)] ∧ Same H H' ∧ H p = none ∧ H' p = some (.lst (as.map V.ref)) ∧ as.length = 18 ∧ ErrN H' C [one, two, three] 0 as, ?_, ?_⟩
        · refine ⟨.ref p2, rfl, ⟨one, rfl, by show 1 ≤ 1000; decide, fun a12 n12 => mk_use rfl n12 fun G12 s12 e12 => ⟨one, rfl, by show 1 ≤ 1000; decide, fun a13 n13 => mk_use rfl n13 fun G13 s13 e13 => ⟨one, rfl, by show 1 ≤ 1000; decide, fun a14 n14 => mk_use rfl n14 fun G14 s14 e14 => ⟨one, rfl, by show 1 ≤ 1000; decide, fun a15 n15 => mk_use rfl n15 fun G15 s15 e15 => (fun a16 n16 => mk_use (vs := []) rfl n16 fun G16 s16 e16 => ⟨one, rfl, two, rfl, by show 2 ≤ 1000; decide, fun a17 n17 => mk_use rfl n17 fun G17 s17 e17 => (?_)⟩)⟩⟩⟩⟩⟩
          refine ⟨le_line (by show 6 ≤ 100000; decide), fun l nl => ?_⟩
          have f12 := (((((e12).same s13).same s14).same s15).same s16).same s17
          have f13 := ((((e13).same s14).same s15).same s16).same s17
          have f14 := (((e14).same s15).same s16).same s17
          have f15 := ((e15).same s16).same s17
          have f16 := (e16).same s17
          have f17 := e17
          have sA : Same H2 G17 := (((((s12).trans s13).trans s14).trans s15).trans s16).trans s17
          have eA : ErrN G17 C [one, two, three] (0 + as2.length) [a12, a13, a14, a15, a16, a17] := by
            rw [hl2]
            exact (.cons f12 (.cons f13 (.cons f14 (.cons f15 (.cons f16 (.cons f17 ErrN.nil))))))
          refine ⟨p2, l, as2.map V.ref, [a12, a13, a14, a15, a16, a17].map V.ref, rfl, rfl, (sA.trans (same_new nl)) _ _ hp2, upd_same, ?_, fun p np => ?_⟩
          · rw [List.length_map, hl2]
            exact le_line (by show 12 + 6 ≤ 100000; decide)
          · have sB := (sA.trans (same_new nl)).trans (same_new (o := .lst (as2.map V.ref ++ [a12, a13, a14, a15, a16, a17].map V.ref)) np)
            exact ⟨p, as2 ++ [a12, a13, a14, a15, a16, a17], rfl, (t2.trans sB), t2.free ((sA.trans (same_new nl)).free np), by rw [upd_same, List.map_append], by rw [List.length_append, hl2]; rfl, ErrN.app (er2.same sB) (eA.same ((same_new nl).trans (same_new np)))⟩
        · rintro σ H3 ⟨p3, as3, rfl, t3, np3, hp3, hl3, er3⟩
          refine ⟨fun σ H' => ∃ (p : Addr) (as : List Addr), σ = [some one, some two, some three, some (.ref p)] ∧ Same H H' ∧ H p = none ∧ H' p = some (.lst (as.map V.ref)) ∧ as.length = 25 ∧ ErrN H' C [one, two, three] 0 as, ?_, ?_⟩
          · refine ⟨.ref p3, rfl, (fun a18 n18 => mk_use (vs := []) rfl n18 fun G18 s18 e18 => ⟨one, rfl, by show 1 ≤ 1000; decide, fun a19 n19 => mk_use rfl n19 fun G19 s19 e19 => ⟨one, rfl, by show 1 ≤ 1000; decide, fun a20 n20 => mk_use rfl n20 fun G20 s20 e20 => ⟨one, rfl, by show 1 ≤ 1000; decide, fun a21 n21 => mk_use rfl n21 fun G21 s21 e21 => ⟨one, rfl, by show 1 ≤ 1000; decide, fun a22 n22 => mk_use rfl n22 fun G22 s22 e22 => (fun a23 n23 => mk_use (vs := []) rfl n23 fun G23 s23 e23 => ⟨one, rfl, by show 1 ≤ 1000; decide, fun a24 n24 => mk_use rfl n24 fun G24 s24 e24 => (?_)⟩)⟩⟩⟩⟩)⟩
            refine ⟨le_line (by show 7 ≤ 100000; decide), fun l nl => ?_⟩
            have f18 := ((((((e18).same s19).same s20).same s21).same s22).same s23).same s24
            have f19 := (((((e19).same s20).same s21).same s22).same s23).same s24
            have f20 := ((((e20).same s21).same s22).same s23).same s24
            have f21 := (((e21).same s22).same s23).same s24
            have f22 := ((e22).same s23).same s24
            have f23 := (e23).same s24
            have f24 := e24
            have sA : Same H3 G24 := ((((((s18).trans s19).trans s20).trans s21).trans s22).trans s23).trans s24
            have eA : ErrN G24 C [one, two, three] (0 + as3.length) [a18, a19, a20, a21, a22, a23, a24] := by
              rw [hl3]
              exact (.cons f18 (.cons f19 (.cons f20 (.cons f21 (.cons f22 (.cons f23 (.cons f24 ErrN.nil)))))))
            refine ⟨p3, l, as3.map V.ref, [a18, a19, a20, a21, a22, a23, a24].map V.ref, rfl, rfl, (sA.trans (same_new nl)) _ _ hp3, upd_same, ?_, fun p np => ?_⟩
            · rw [List.length_map, hl3]
              exact le_line (by show 18 + 7 ≤ 100000; decide)
            · have sB := (sA.trans (same_new nl)).trans (same_new (o := .lst (as3.map V.ref ++ [a18, a19, a20, a21, a22, a23, a24].map V.ref)) np)
              exact ⟨p, as3 ++ [a18, a19, a20, a21, a22, a23, a24], rfl, (t3.trans sB), t3.free ((sA.trans (same_new nl)).free np), by rw [upd_same, List.map_append], by rw [List.length_append, hl3]; rfl, ErrN.app (er3.same sB) (eA.same ((same_new nl).trans (same_new np)))⟩
          · rintro σ H4 ⟨p4, as4, rfl, t4, np4, hp4, hl4, er4⟩
            refine ⟨.ref p4, rfl, ⟨one, rfl, by show 1 ≤ 1000; decide, fun a25 n25 => mk_use rfl n25 fun G25 s25 e25 => (fun a26 n26 => mk_use (vs := []) rfl n26 fun G26 s26 e26 => (fun a27 n27 => mk_use (vs := []) rfl n27 fun G27 s27 e27 => (?_)))⟩⟩
            refine ⟨le_line (by show 3 ≤ 100000; decide), fun l nl => ?_⟩
            have f25 := ((e25).same s26).same s27
            have f26 := (e26).same s27
            have f27 := e27
            have sA : Same H4 G27 := ((s25).trans s26).trans s27
            have eA : ErrN G27 C [one, two, three] (0 + as4.length) [a25, a26, a27] := by
              rw [hl4]
              exact (.cons f25 (.cons f26 (.cons f27 ErrN.nil)))
            refine ⟨p4, l, as4.map V.ref, [a25, a26, a27].map V.ref, rfl, rfl, (sA.trans (same_new nl)) _ _ hp4, upd_same, ?_, fun p np => ?_⟩
            · rw [List.length_map, hl4]
              exact le_line (by show 25 + 3 ≤ 100000; decide)
            · have sB := (sA.trans (same_new nl)).trans (same_new (o := .lst (as4.map V.ref ++ [a25, a26, a27].map V.ref)) np)
              exact q _ p (as4 ++ [a25, a26, a27]) (t4.trans sB) (t4.free ((sA.trans (same_new nl)).free np)) (by rw [upd_same, List.map_append]) (by rw [List.length_append, hl4]; rfl) (ErrN.app (er4.same sB) (eA.same ((same_new nl).trans (same_new np))))
end
end K11
set_option Elab.async false
set_option linter.all false
set_option maxRecDepth 100000
set_option maxHeartbeats 4000000
/-! K11d: kinds, fields -/
namespace K11
open PySem PySem.Spec PyProof.Rows L2 GL
/-- what the top says of the classes -/
structure TxtE (K : PySem.W.Frag) (mg : Str → Option Value) (C : Nat → Addr) (A : Addr) : Prop where
  t : Txt0 mg
  xf : ∀ i, i < 28 → XfC K (C i)
  ex : ∀ i, i < 28 → ExcC K (C i)
  no : ∀ i, i < 28 → ∀ f, f ∈ FL.getD i [] → PySem.W.findIn K (.ref (C i)) f = some none
  kit : ∀ i j, i < 28 → j < 28 → PySem.W.kitOne K (.ref (C i)) (.ref (C j)) = some (decide (j = i))
  kitA : ∀ i, i < 28 → PySem.W.kitOne K (.ref (C i)) (.ref A) = some true
  kitV : ∀ i, i < 28 → PySem.W.kitOne K (.ref (C i)) (.type "ValueError") = some true
  exA : ExcC K A
  kitAj : ∀ j, j < 28 → PySem.W.kitOne K (.ref A) (.ref (C j)) = some false
  kitAV : PySem.W.kitOne K (.ref A) (.type "ValueError") = some true
  gA : mg "AskError" = some (.ref A)
  keep : PySem.W.keepIn K (.ref A) = true
  exc : PySem.W.excIn K A [.type "ValueError", .type "Exception", .type "BaseException", .type "object"] "ValueError.__new__" = true
  g0 : mg "Wrong" = some (.ref (C 0))
  g1 : mg "BadStatement" = some (.ref (C 1))
  g2 : mg "NoWriter" = some (.ref (C 2))
  g3 : mg "NoPlace" = some (.ref (C 3))
  g4 : mg "TooMany" = some (.ref (C 4))
  g5 : mg "NoStep" = some (.ref (C 5))
  g6 : mg "Fault" = some (.ref (C 6))
  g7 : mg "Freed" = some (.ref (C 7))
  g8 : mg "Gone" = some (.ref (C 8))
  g9 : mg "Nothing" = some (.ref (C 9))
  g10 : mg "NoWalker" = some (.ref (C 10))
  g11 : mg "Broken" = some (.ref (C 11))
  g12 : mg "BadTarget" = some (.ref (C 12))
  g13 : mg "Unknown" = some (.ref (C 13))
  g14 : mg "NotBare" = some (.ref (C 14))
  g15 : mg "Hopeless" = some (.ref (C 15))
  g16 : mg "NotRight" = some (.ref (C 16))
  g17 : mg "NoChain" = some (.ref (C 17))
  g18 : mg "Unlike" = some (.ref (C 18))
  g19 : mg "NotPlain" = some (.ref (C 19))
  g20 : mg "NoRead" = some (.ref (C 20))
  g21 : mg "NoSwitch" = some (.ref (C 21))
  g22 : mg "TooFew" = some (.ref (C 22))
  g23 : mg "NoDeed" = some (.ref (C 23))
  g24 : mg "Full" = some (.ref (C 24))
  g25 : mg "NoEntry" = some (.ref (C 25))
  g26 : mg "NoText" = some (.ref (C 26))
  g27 : mg "NoCommand" = some (.ref (C 27))
theorem IsErr.same {H H' : Hp} {a C : Addr} (h : IsErr H a C) (e : Same H H') : IsErr H' a C := by
  rcases h with ⟨fs, h⟩ | h
  · exact .inl ⟨fs, h.same e⟩
  · exact .inr (e _ _ h)
section
variable {P : Program} {w : World} {K : PySem.W.Frag} {mg : Str → Option Value} {base : Heap} {C : Nat → Addr} {A0 : Addr}
theorem sc_kinds : FnScope ["_law_e", "_law_found"] ["_law_e"] (defScope s_kinds) := ⟨rfl, rfl, rfl, by decide +kernel, rfl, by decide +kernel, by decide +kernel⟩
def spKinds (K : PySem.W.Frag) (C : Nat → Addr) : Sp := fun vs H Q _ => ∃ (a D : Addr) (bs : Nat → Bool), vs = [.ref a] ∧ IsErr H a D ∧ ExcC K D ∧ (∀ j, j < 28 → PySem.W.kitOne K (.ref D) (.ref (C j)) = some (bs j)) ∧
  ∀ H' p, Same H H' → H p = none → H' p = some (.lst ((List.range 28).map fun j => V.bl (bs j))) → Q (.ref p) H'
theorem ok_kinds {f : Addr} {fd : FuncData} (F : Fun K "_law_kinds" "_law_kinds" s_kinds f fd) (T : TxtE K mg C A0) : FnOk P w K mg base CX0 1 f fd ["_law_e"] (spKinds K C) := by
  refine F.ok sc_kinds (fun vs H Q E h => ?_) (fun cdv A outer s H vs Q E hr h => ?_)
  · obtain ⟨a, D, bs, rfl, _⟩ := h
    rfl
  · obtain ⟨a, D, bs, rfl, er, ex, kit, q⟩ := h
    refine ⟨_, (pss_cons (ps_set (i := 1) sc_kinds.nd rfl (.inl rfl) (pe_lst pa_nil))
      (C8.pss_cut (ps_set (i := 1) sc_kinds.nd rfl (.inl rfl) (pe_op op_cat (pv 1) (pe_lst (pa_cons (pe_callB call_isX (by rfl) T.t.m_isinstance (by decide +kernel) (pa_cons (pv 0) (pa_cons (pe_glob (by rfl) T.g0 (show RelV (.ref (C 0)) _ from rfl)) pa_nil))) (pa_cons (pe_callB call_isX (by rfl) T.t.m_isinstance (by decide +kernel) (pa_cons (pv 0) (pa_cons (pe_glob (by rfl) T.g1 (show RelV (.ref (C 1)) _ from rfl)) pa_nil))) (pa_cons (pe_callB call_isX (by rfl) T.t.m_isinstance (by decide +kernel) (pa_cons (pv 0) (pa_cons (pe_glob (by rfl) T.g2 (show RelV (.ref (C 2)) _ from rfl)) pa_nil))) (pa_cons (pe_callB call_isX (by rfl) T.t.m_isinstance (by decide +kernel) (pa_cons (pv 0) (pa_cons (pe_glob (by rfl) T.g3 (show RelV (.ref (C 3)) _ from rfl)) pa_nil))) pa_nil)))))))
      (C8.pss_cut (ps_set (i := 1) sc_kinds.nd rfl (.inl rfl) (pe_op op_cat (pv 1) (pe_lst (pa_cons (pe_callB call_isX (by rfl) T.t.m_isinstance (by decide +kernel) (pa_cons (pv 0) (pa_cons (pe_glob (by rfl) T.g4 (show RelV (.ref (C 4)) _ from rfl)) pa_nil))) (pa_cons (pe_callB call_isX (by rfl) T.t.m_isinstance (by decide +kernel) (pa_cons (pv 0) (pa_cons (pe_glob (by rfl) T.g5 (show RelV (.ref (C 5)) _ from rfl)) pa_nil))) (pa_cons (pe_callB call_isX (by rfl) T.t.m_isinstance (by decide +kernel) (pa_cons (pv 0) (pa_cons (pe_glob (by rfl) T.g6 (show RelV (.ref (C 6)) _ from rfl)) pa_nil))) (pa_cons (pe_callB call_isX (by rfl) T.t.m_isinstance (by decide +kernel) (pa_cons (pv 0) (pa_cons (pe_glob (by rfl) T.g7 (show RelV (.ref (C 7)) _ from rfl)) pa_nil))) pa_nil)))))))
      (C8.pss_cut (ps_set (i := 1) sc_kinds.nd rfl (.inl rfl) (pe_op op_cat (pv 1) (pe_lst (pa_cons (pe_callB call_isX (by rfl) T.t.m_isinstance (by decide +kernel) (pa_cons (pv 0) (pa_cons (pe_glob (by rfl) T.g8 (show RelV (.ref (C 8)) _ from rfl)) pa_nil))) (pa_cons (pe_callB call_isX (by rfl) T.t.m_isinstance (by decide +kernel) (pa_cons (pv 0) (pa_cons (pe_glob (by rfl) T.g9 (show RelV (.ref (C 9)) _ from rfl)) pa_nil))) (pa_cons (pe_callB call_isX (by rfl) T.t.m_isinstance (by decide +kernel) (pa_cons (pv 0) (pa_cons (pe_glob (by rfl) T.g10 (show RelV (.ref (C 10)) _ from rfl)) pa_nil))) (pa_cons (pe_callB call_isX (by rfl) T.t.m_isinstance (by decide +kernel) (pa_cons (pv 0) (pa_cons (pe_glob (by rfl) T.g11 (show RelV (.ref (C 11)) _ from rfl)) pa_nil))) pa_nil)))))))
      (C8.pss_cut (ps_set (i := 1) sc_kinds.nd rfl (.inl rfl) (pe_op op_cat (pv 1) (pe_lst (pa_cons (pe_callB call_isX (by rfl) T.t.m_isinstance (by decide +kernel) (pa_cons (pv 0) (pa_cons (pe_glob (by rfl) T.g12 (show RelV (.ref (C 12)) _ from rfl)) pa_nil))) (pa_cons (pe_callB call_isX (by rfl) T.t.m_isinstance (by decide +kernel) (pa_cons (pv 0) (pa_cons (pe_glob (by rfl) T.g13 (show RelV (.ref (C 13)) _ from rfl)) pa_nil))) (pa_cons (pe_callB call_isX (by rfl) T.t.m_isinstance (by decide +kernel) (pa_cons (pv 0) (pa_cons (pe_glob (by rfl) T.g14 (show RelV (.ref (C 14)) _ from rfl)) pa_nil))) (pa_cons (pe_callB call_isX (by rfl) T.t.m_isinstance (by decide +kernel) (pa_cons (pv 0) (pa_cons (pe_glob (by rfl) T.g15 (show RelV (.ref (C 15)) _ from rfl)) pa_nil))) pa_nil)))))))
      (C8.pss_cut (ps_set (i := 1) sc_kinds.nd rfl (.inl rfl) (pe_op op_cat (pv 1) (pe_lst (pa_cons (pe_callB call_isX (by rfl) T.t.m_isinstance (by decide +kernel) (pa_cons (pv 0) (pa_cons (pe_glob (by rfl) T.g16 (show RelV (.ref (C 16)) _ from rfl)) pa_nil))) (pa_cons (pe_callB call_isX (by rfl) T.t.m_isinstance (by decide +kernel) (pa_cons (pv 0) (pa_cons (pe_glob (by rfl) T.g17 (show RelV (.ref (C 17)) _ from rfl)) pa_nil))) (pa_cons (pe_callB call_isX (by rfl) T.t.m_isinstance (by decide +kernel) (pa_cons (pv 0) (pa_cons (pe_glob (by rfl) T.g18 (show RelV (.ref (C 18)) _ from rfl)) pa_nil))) (pa_cons (pe_callB call_isX (by rfl) T.t.m_isinstance (by decide +kernel) (pa_cons (pv 0) (pa_cons (pe_glob (by rfl) T.g19 (show RelV (.ref (C 19)) _ from rfl)) pa_nil))) pa_nil)))))))
      (C8.pss_cut (ps_set (i := 1) sc_kinds.nd rfl (.inl rfl) (pe_op op_cat (pv 1) (pe_lst (pa_cons (pe_callB call_isX (by rfl) T.t.m_isinstance (by decide +kernel) (pa_cons (pv 0) (pa_cons (pe_glob (by rfl) T.g20 (show RelV (.ref (C 20)) _ from rfl)) pa_nil))) (pa_cons (pe_callB call_isX (by rfl) T.t.m_isinstance (by decide +kernel) (pa_cons (pv 0) (pa_cons (pe_glob (by rfl) T.g21 (show RelV (.ref (C 21)) _ from rfl)) pa_nil))) (pa_cons (pe_callB call_isX (by rfl) T.t.m_isinstance (by decide +kernel) (pa_cons (pv 0) (pa_cons (pe_glob (by rfl) T.g22 (show RelV (.ref (C 22)) _ from rfl)) pa_nil))) (pa_cons (pe_callB call_isX (by rfl) T.t.m_isinstance (by decide +kernel) (pa_cons (pv 0) (pa_cons (pe_glob (by rfl) T.g23 (show RelV (.ref (C 23)) _ from rfl)) pa_nil))) pa_nil)))))))
      (C8.pss_cut (ps_set (i := 1) sc_kinds.nd rfl (.inl rfl) (pe_op op_cat (pv 1) (pe_lst (pa_cons (pe_callB call_isX (by rfl) T.t.m_isinstance (by decide +kernel) (pa_cons (pv 0) (pa_cons (pe_glob (by rfl) T.g24 (show RelV (.ref (C 24)) _ from rfl)) pa_nil))) (pa_cons (pe_callB call_isX (by rfl) T.t.m_isinstance (by decide +kernel) (pa_cons (pv 0) (pa_cons (pe_glob (by rfl) T.g25 (show RelV (.ref (C 25)) _ from rfl)) pa_nil))) (pa_cons (pe_callB call_isX (by rfl) T.t.m_isinstance (by decide +kernel) (pa_cons (pv 0) (pa_cons (pe_glob (by rfl) T.g26 (show RelV (.ref (C 26)) _ from rfl)) pa_nil))) (pa_cons (pe_callB call_isX (by rfl) T.t.m_isinstance (by decide +kernel) (pa_cons (pv 0) (pa_cons (pe_glob (by rfl) T.g27 (show RelV (.ref (C 27)) _ from rfl)) pa_nil))) pa_nil)))))))
      (pss_one (ps_ret (pv 1))))))))))), ?_⟩
    refine ⟨Nat.zero_le _, fun p0 n0 => ?_⟩
    have t0 : Same H (upd H p0 (.lst [])) := same_new n0
    have h0 : (upd H p0 (.lst [])) p0 = some (.lst ((List.range 0).map fun j => V.bl (bs j))) := upd_same
    have z0 : H p0 = none := n0
    revert t0 h0
    generalize upd H p0 (.lst []) = H0
    intro t0 h0
    have e0 := IsErr.same er t0
    refine ⟨fun σ H' => ∃ p, σ = [some (.ref a), some (.ref p)] ∧ Same H H' ∧ H p = none ∧ H' p = some (.lst ((List.range 4).map fun j => V.bl (bs j))), ?_, ?_⟩
    · refine ⟨.ref p0, rfl, .ref a, rfl, a, D, .ref (C 0), .ref (C 0), bs 0, rfl, .own _, e0, ex, kit 0 (by decide), .ref a, rfl, a, D, .ref (C 1), .ref (C 1), bs 1, rfl, .own _, e0, ex, kit 1 (by decide), .ref a, rfl, a, D, .ref (C 2), .ref (C 2), bs 2, rfl, .own _, e0, ex, kit 2 (by decide), .ref a, rfl, a, D, .ref (C 3), .ref (C 3), bs 3, rfl, .own _, e0, ex, kit 3 (by decide), le_line (by show 4 ≤ 100000; decide), fun l nl => ?_⟩
      refine ⟨p0, l, _, _, rfl, rfl, (same_new nl) _ _ h0, upd_same, ?_, fun p np => ?_⟩
      · rw [List.length_map, List.length_range]
        exact le_line (by show 0 + 4 ≤ 100000; decide)
      · exact ⟨p, rfl, (t0.trans (same_new nl)).trans (same_new np), t0.free ((same_new nl).free np), upd_same⟩
    · rintro σ H1 ⟨p1, rfl, t1, z1, h1⟩
      have e1 := IsErr.same er t1
      refine ⟨fun σ H' => ∃ p, σ = [some (.ref a), some (.ref p)] ∧ Same H H' ∧ H p = none ∧ H' p = some (.lst ((List.range 8).map fun j => V.bl (bs j))), ?_, ?_⟩
      · refine ⟨.ref p1, rfl, .ref a, rfl, a, D, .ref (C 4), .ref (C 4), bs 4, rfl, .own _, e1, ex, kit 4 (by decide), .ref a, rfl, a, D, .ref (C 5), .ref (C 5), bs 5, rfl, .own _, e1, ex, kit 5 (by decide), .ref a, rfl, a, D, .ref (C 6), .ref (C 6), bs 6, rfl, .own _, e1, ex, kit 6 (by decide), .ref a, rfl, a, D, .ref (C 7), .ref (C 7), bs 7, rfl, .own _, e1, ex, kit 7 (by decide), le_line (by show 4 ≤ 100000; decide), fun l nl => ?_⟩
        refine ⟨p1, l, _, _, rfl, rfl, (same_new nl) _ _ h1, upd_same, ?_, fun p np => ?_⟩
        · rw [List.length_map, List.length_range]
          exact le_line (by show 4 + 4 ≤ 100000; decide)
        · exact ⟨p, rfl, (t1.trans (same_new nl)).trans (same_new np), t1.free ((same_new nl).free np), upd_same⟩
      · rintro σ H2 ⟨p2, rfl, t2, z2, h2⟩
        have e2 := IsErr.same er t2
        refine ⟨fun σ H' => ∃ p, σ = [some (.ref a), some (.ref p)] ∧ Same H H' ∧ H p = none ∧ H' p = some (.lst ((List.range 12).map fun j => V.bl (bs j))), ?_, ?_⟩
        · refine ⟨.ref p2, rfl, .ref a, rfl, a, D, .ref (C 8), .ref (C 8), bs 8, rfl, .own _, e2, ex, kit 8 (by decide), .ref a, rfl, a, D, .ref (C 9), .ref (C 9), bs 9, rfl, .own _, e2, ex, kit 9 (by decide), .ref a, rfl, a, D, .ref (C 10), .ref (C 10), bs 10, rfl, .own _, e2, ex, kit 10 (by decide), .ref a, rfl, a, D, .ref (C 11), .ref (C 11), bs 11, rfl, .own _, e2, ex, kit 11 (by decide), le_line (by show 4 ≤ 100000; decide), fun l nl => ?_⟩
          refine ⟨p2, l, _, _, rfl, rfl, (same_new nl) _ _ h2, upd_same, ?_, fun p np => ?_⟩
          · rw [List.length_map, List.length_range]
            exact le_line (by show 8 + 4 ≤ 100000; decide)
          · exact ⟨p, rfl, (t2.trans (same_new nl)).trans (same_new np), t2.free ((same_new nl).free np), upd_same⟩
        · rintro σ H3 ⟨p3, rfl, t3, z3, h3⟩
          have e3 := IsErr.same er t3
          refine ⟨fun σ H' => ∃ p, σ = [some (.ref a), some (.ref p)] ∧ Same H H' ∧ H p = none ∧ H' p = some (.lst ((List.range 16).map fun j => V.bl (bs j))), ?_, ?_⟩
          · refine ⟨.ref p3, rfl, .ref a, rfl, a, D, .ref (C 12), .ref (C 12), bs 12, rfl, .own _, e3, ex, kit 12 (by decide), .ref a, rfl, a, D, .ref (C 13), .ref (C 13), bs 13, rfl, .own _, e3, ex, kit 13 (by decide), .ref a, rfl, a, D, .ref (C 14), .ref (C 14), bs 14, rfl, .own _, e3, ex, kit 14 (by decide), .ref a, rfl, a, D, .ref (C 15), .ref (C 15), bs 15, rfl, .own _, e3, ex, kit 15 (by decide), le_line (by show 4 ≤ 100000; decide), fun l nl => ?_⟩
            refine ⟨p3, l, _, _, rfl, rfl, (same_new nl) _ _ h3, upd_same, ?_, fun p np => ?_⟩
            · rw [List.length_map, List.length_range]
              exact le_line (by show 12 + 4 ≤ 100000; decide)
            · exact ⟨p, rfl, (t3.trans (same_new nl)).trans (same_new np), t3.free ((same_new nl).free np), upd_same⟩
          · rintro σ H4 ⟨p4, rfl, t4, z4, h4⟩
            have e4 := IsErr.same er t4
            refine ⟨fun σ H' => ∃ p, σ = [some (.ref a), some (.ref p)] ∧ Same H H' ∧ H p = none ∧ H' p = some (.lst ((List.range 20).map fun j => V.bl (bs j))), ?_, ?_⟩
            · refine ⟨.ref p4, rfl, .ref a, rfl, a, D, .ref (C 16), .ref (C 16), bs 16, rfl, .own _, e4, ex, kit 16 (by decide), .ref a, rfl, a, D, .ref (C 17), .ref (C 17), bs 17, rfl, .own _, e4, ex, kit 17 (by decide), .ref a, rfl, a, D, .ref (C 18), .ref (C 18), bs 18, rfl, .own _, e4, ex, kit 18 (by decide), .ref a, rfl, a, D, .ref (C 19), .ref (C 19), bs 19, rfl, .own _, e4, ex, kit 19 (by decide), le_line (by show 4 ≤ 100000; decide), fun l nl => ?_⟩
              refine ⟨p4, l, _, _, rfl, rfl, (same_new nl) _ _ h4, upd_same, ?_, fun p np => ?_⟩
              · rw [List.length_map, List.length_range]
                exact le_line (by show 16 + 4 ≤ 100000; decide)
              · exact ⟨p, rfl, (t4.trans (same_new nl)).trans (same_new np), t4.free ((same_new nl).free np), upd_same⟩
            · rintro σ H5 ⟨p5, rfl, t5, z5, h5⟩
              have e5 := IsErr.same er t5
              refine ⟨fun σ H' => ∃ p, σ = [some (.ref a), some (.ref p)] ∧ Same H H' ∧ H p = none ∧ H' p = some (.lst ((List.range 24).map fun j => V.bl (bs j))), ?_, ?_⟩
              · refine ⟨.ref p5, rfl, .ref a, rfl, a, D, .ref (C 20), .ref (C 20), bs 20, rfl, .own _, e5, ex, kit 20 (by decide), .ref a, rfl, a, D, .ref (C 21), .ref (C 21), bs 21, rfl, .own _, e5, ex, kit 21 (by decide), .ref a, rfl, a, D, .ref (C 22), .ref (C 22), bs 22, rfl, .own _, e5, ex, kit 22 (by decide), .ref a, rfl, a, D, .ref (C 23), .ref (C 23), bs 23, rfl, .own _, e5, ex, kit 23 (by decide), le_line (by show 4 ≤ 100000; decide), fun l nl => ?_⟩
                refine ⟨p5, l, _, _, rfl, rfl, (same_new nl) _ _ h5, upd_same, ?_, fun p np => ?_⟩
                · rw [List.length_map, List.length_range]
                  exact le_line (by show 20 + 4 ≤ 100000; decide)
                · exact ⟨p, rfl, (t5.trans (same_new nl)).trans (same_new np), t5.free ((same_new nl).free np), upd_same⟩
              · rintro σ H6 ⟨p6, rfl, t6, z6, h6⟩
                have e6 := IsErr.same er t6
                refine ⟨fun σ H' => ∃ p, σ = [some (.ref a), some (.ref p)] ∧ Same H H' ∧ H p = none ∧ H' p = some (.lst ((List.range 28).map fun j => V.bl (bs j))), ?_, ?_⟩
                · refine ⟨.ref p6, rfl, .ref a, rfl, a, D, .ref (C 24), .ref (C 24), bs 24, rfl, .own _, e6, ex, kit 24 (by decide), .ref a, rfl, a, D, .ref (C 25), .ref (C 25), bs 25, rfl, .own _, e6, ex, kit 25 (by decide), .ref a, rfl, a, D, .ref (C 26), .ref (C 26), bs 26, rfl, .own _, e6, ex, kit 26 (by decide), .ref a, rfl, a, D, .ref (C 27), .ref (C 27), bs 27, rfl, .own _, e6, ex, kit 27 (by decide), le_line (by show 4 ≤ 100000; decide), fun l nl => ?_⟩
                  refine ⟨p6, l, _, _, rfl, rfl, (same_new nl) _ _ h6, upd_same, ?_, fun p np => ?_⟩
                  · rw [List.length_map, List.length_range]
                    exact le_line (by show 24 + 4 ≤ 100000; decide)
                  · exact ⟨p, rfl, (t6.trans (same_new nl)).trans (same_new np), t6.free ((same_new nl).free np), upd_same⟩
                · rintro σ H7 ⟨p7, rfl, t7, z7, h7⟩
                  exact ⟨_, rfl, q H7 p7 t7 z7 h7⟩
theorem sc_fields : FnScope ["_law_some", "_law_found"] ["_law_some"] (defScope s_fields) := ⟨rfl, rfl, rfl, by decide +kernel, rfl, by decide +kernel, by decide +kernel⟩
theorem fld_at {as : List Addr} (hl : as.length = 28) (i : Nat) (hi : i < 28) : atI (as.map V.ref) ((i : Nat) : Int) = some (.ref (as[i]'(by omega))) :=
  atI_nat (by rw [List.getElem?_map, List.getElem?_eq_getElem (by omega)]; rfl)
theorem fld_er {H : Hp} {as : List Addr} {vs : List V} (hl : as.length = 28) (he : ErrN H C vs 0 as) (i : Nat) (hi : i < 28) : Err H (as[i]'(by omega)) (C i) ((FL.getD i []).zip vs) := by
  have e := he i (as[i]'(by omega)) (List.getElem?_eq_getElem (by omega))
  rw [Nat.zero_add] at e
  exact e
def spFields (C : Nat → Addr) : Sp := fun vs H Q _ => ∃ (p : Addr) (as : List Addr) (one two three : V), vs = [.ref p] ∧ H p = some (.lst (as.map V.ref)) ∧ as.length = 28 ∧ ErrN H C [one, two, three] 0 as ∧
  ∀ H' t l1 l2 l3, Same H H' → H t = none → Own l1 → Own l2 → Own l3 → H' t = some (.tup [.ref l1, .ref l2, .ref l3]) → H' l1 = some (.lst (List.replicate 21 one)) → H' l2 = some (.lst (List.replicate 3 two)) → H' l3 = some (.lst [three]) → Q (.ref t) H'
theorem ok_fields {f : Addr} {fd : FuncData} (F : Fun K "_law_fields" "_law_fields" s_fields f fd) (T : TxtE K mg C A0) : FnOk P w K mg base CX0 1 f fd ["_law_some"] (spFields C) := by
  refine F.ok sc_fields (fun vs H Q E h => ?_) (fun cdv A outer s H vs Q E hr h => ?_)
  · obtain ⟨p, as, one, two, three, rfl, _⟩ := h
    rfl
  · obtain ⟨p, as, one, two, three, rfl, hp, hl, er, q⟩ := h
    refine ⟨_, (C8.pss_cut (ps_set (i := 1) sc_fields.nd rfl (.inl rfl) (pe_lstS (pa_cons (pe_fldE (pe_ix ix_list (pv 0) pe_int (fun _ _ => rfl))) (pa_cons (pe_fldE (pe_ix ix_list (pv 0) pe_int (fun _ _ => rfl))) (pa_cons (pe_fldE (pe_ix ix_list (pv 0) pe_int (fun _ _ => rfl))) (pa_cons (pe_fldE (pe_ix ix_list (pv 0) pe_int (fun _ _ => rfl))) (pa_cons (pe_fldE (pe_ix ix_list (pv 0) pe_int (fun _ _ => rfl))) (pa_cons (pe_fldE (pe_ix ix_list (pv 0) pe_int (fun _ _ => rfl))) pa_nil))))))))
      (C8.pss_cut (ps_set (i := 1) sc_fields.nd rfl (.inl rfl) (pe_op op_catS (pv 1) (pe_lstS (pa_cons (pe_fldE (pe_ix ix_list (pv 0) pe_int (fun _ _ => rfl))) (pa_cons (pe_fldE (pe_ix ix_list (pv 0) pe_int (fun _ _ => rfl))) (pa_cons (pe_fldE (pe_ix ix_list (pv 0) pe_int (fun _ _ => rfl))) (pa_cons (pe_fldE (pe_ix ix_list (pv 0) pe_int (fun _ _ => rfl))) (pa_cons (pe_fldE (pe_ix ix_list (pv 0) pe_int (fun _ _ => rfl))) (pa_cons (pe_fldE (pe_ix ix_list (pv 0) pe_int (fun _ _ => rfl))) pa_nil)))))))))
      (C8.pss_cut (ps_set (i := 1) sc_fields.nd rfl (.inl rfl) (pe_op op_catS (pv 1) (pe_lstS (pa_cons (pe_fldE (pe_ix ix_list (pv 0) pe_int (fun _ _ => rfl))) (pa_cons (pe_fldE (pe_ix ix_list (pv 0) pe_int (fun _ _ => rfl))) (pa_cons (pe_fldE (pe_ix ix_list (pv 0) pe_int (fun _ _ => rfl))) (pa_cons (pe_fldE (pe_ix ix_list (pv 0) pe_int (fun _ _ => rfl))) (pa_cons (pe_fldE (pe_ix ix_list (pv 0) pe_int (fun _ _ => rfl))) (pa_cons (pe_fldE (pe_ix ix_list (pv 0) pe_int (fun _ _ => rfl))) pa_nil)))))))))
      (C8.pss_cut (ps_set (i := 1) sc_fields.nd rfl (.inl rfl) (pe_op op_catS (pv 1) (pe_lstS (pa_cons (pe_fldE (pe_ix ix_list (pv 0) pe_int (fun _ _ => rfl))) (pa_cons (pe_fldE (pe_ix ix_list (pv 0) pe_int (fun _ _ => rfl))) (pa_cons (pe_fldE (pe_ix ix_list (pv 0) pe_int (fun _ _ => rfl))) pa_nil))))))
      (pss_one (ps_ret (pe_tup (pa_cons (pv 1) (pa_cons (pe_lstS (pa_cons (pe_fldE (pe_ix ix_list (pv 0) pe_int (fun _ _ => rfl))) (pa_cons (pe_fldE (pe_ix ix_list (pv 0) pe_int (fun _ _ => rfl))) (pa_cons (pe_fldE (pe_ix ix_list (pv 0) pe_int (fun _ _ => rfl))) pa_nil)))) (pa_cons (pe_lstS (pa_cons (pe_fldE (pe_ix ix_list (pv 0) pe_int (fun _ _ => rfl))) pa_nil)) pa_nil)))))))))), ?_⟩
    refine ⟨fun σ H' => ∃ l, σ = [some (.ref p), some (.ref l)] ∧ Same H H' ∧ H l = none ∧ Own l ∧ H' l = some (.lst (List.replicate 6 one)), ?_, ?_⟩
    · refine ⟨.ref p, rfl, p, _, ((0 : Nat) : Int), _, rfl, rfl, .inl (.inl hp), fld_at hl 0 (by decide), _, C 0, _, one, rfl, T.xf 0 (by decide), T.no 0 (by decide) "place" (by decide +kernel), fld_er hl er 0 (by decide), (List.Mem.head _), ⟨.ref p, rfl, p, _, ((1 : Nat) : Int), _, rfl, rfl, .inl (.inl hp), fld_at hl 1 (by decide), _, C 1, _, one, rfl, T.xf 1 (by decide), T.no 1 (by decide) "writer" (by decide +kernel), fld_er hl er 1 (by decide), (List.Mem.head _), ⟨.ref p, rfl, p, _, ((2 : Nat) : Int), _, rfl, rfl, .inl (.inl hp), fld_at hl 2 (by decide), _, C 2, _, one, rfl, T.xf 2 (by decide), T.no 2 (by decide) "writer" (by decide +kernel), fld_er hl er 2 (by decide), (List.Mem.head _), ⟨.ref p, rfl, p, _, ((3 : Nat) : Int), _, rfl, rfl, .inl (.inl hp), fld_at hl 3 (by decide), _, C 3, _, one, rfl, T.xf 3 (by decide), T.no 3 (by decide) "place" (by decide +kernel), fld_er hl er 3 (by decide), (List.Mem.head _), ⟨.ref p, rfl, p, _, ((4 : Nat) : Int), _, rfl, rfl, .inl (.inl hp), fld_at hl 4 (by decide), _, C 4, _, one, rfl, T.xf 4 (by decide), T.no 4 (by decide) "limit" (by decide +kernel), fld_er hl er 4 (by decide), (List.Mem.head _), ⟨.ref p, rfl, p, _, ((6 : Nat) : Int), _, rfl, rfl, .inl (.inl hp), fld_at hl 6 (by decide), _, C 6, _, one, rfl, T.xf 6 (by decide), T.no 6 (by decide) "writer" (by decide +kernel), fld_er hl er 6 (by decide), (List.Mem.head _), (?_)⟩⟩⟩⟩⟩⟩
      exact ⟨le_line (by show 6 ≤ 100000; decide), fun l nl ol => ⟨l, rfl, same_new nl, nl, ol, upd_same⟩⟩
    · rintro σ H1 ⟨l1, rfl, t1, z1, o1, h1⟩
      have hp1 := t1 _ _ hp
      have er1 := er.same t1
      refine ⟨fun σ H' => ∃ l, σ = [some (.ref p), some (.ref l)] ∧ Same H H' ∧ H l = none ∧ Own l ∧ H' l = some (.lst (List.replicate 12 one)), ?_, ?_⟩
      · refine ⟨.ref l1, rfl, ⟨.ref p, rfl, p, _, ((7 : Nat) : Int), _, rfl, rfl, .inl (.inl hp1), fld_at hl 7 (by decide), _, C 7, _, one, rfl, T.xf 7 (by decide), T.no 7 (by decide) "cell" (by decide +kernel), fld_er hl er1 7 (by decide), (List.Mem.head _), ⟨.ref p, rfl, p, _, ((8 : Nat) : Int), _, rfl, rfl, .inl (.inl hp1), fld_at hl 8 (by decide), _, C 8, _, one, rfl, T.xf 8 (by decide), T.no 8 (by decide) "walker" (by decide +kernel), fld_er hl er1 8 (by decide), (List.Mem.head _), ⟨.ref p, rfl, p, _, ((10 : Nat) : Int), _, rfl, rfl, .inl (.inl hp1), fld_at hl 10 (by decide), _, C 10, _, one, rfl, T.xf 10 (by decide), T.no 10 (by decide) "walker" (by decide +kernel), fld_er hl er1 10 (by decide), (List.Mem.head _), ⟨.ref p, rfl, p, _, ((11 : Nat) : Int), _, rfl, rfl, .inl (.inl hp1), fld_at hl 11 (by decide), _, C 11, _, one, rfl, T.xf 11 (by decide), T.no 11 (by decide) "at" (by decide +kernel), fld_er hl er1 11 (by decide), (List.Mem.head _), ⟨.ref p, rfl, p, _, ((12 : Nat) : Int), _, rfl, rfl, .inl (.inl hp1), fld_at hl 12 (by decide), _, C 12, _, one, rfl, T.xf 12 (by decide), T.no 12 (by decide) "place" (by decide +kernel), fld_er hl er1 12 (by decide), (List.Mem.head _), ⟨.ref p, rfl, p, _, ((13 : Nat) : Int), _, rfl, rfl, .inl (.inl hp1), fld_at hl 13 (by decide), _, C 13, _, one, rfl, T.xf 13 (by decide), T.no 13 (by decide) "name" (by decide +kernel), fld_er hl er1 13 (by decide), (List.Mem.head _), (?_)⟩⟩⟩⟩⟩⟩⟩
        refine ⟨le_line (by show 6 ≤ 100000; decide), fun l nl _ => ?_⟩
        refine ⟨l1, l, _, _, rfl, rfl, (same_new nl) _ _ h1, upd_same, ?_, fun l' np op => ?_⟩
        · rw [List.length_replicate]
          exact le_line (by show 6 + 6 ≤ 100000; decide)
        · exact ⟨l', rfl, (t1.trans (same_new nl)).trans (same_new np), t1.free ((same_new nl).free np), op, upd_same⟩
      · rintro σ H2 ⟨l2, rfl, t2, z2, o2, h2⟩
        have hp2 := t2 _ _ hp
        have er2 := er.same t2
        refine ⟨fun σ H' => ∃ l, σ = [some (.ref p), some (.ref l)] ∧ Same H H' ∧ H l = none ∧ Own l ∧ H' l = some (.lst (List.replicate 18 one)), ?_, ?_⟩
        · refine ⟨.ref l2, rfl, ⟨.ref p, rfl, p, _, ((14 : Nat) : Int), _, rfl, rfl, .inl (.inl hp2), fld_at hl 14 (by decide), _, C 14, _, one, rfl, T.xf 14 (by decide), T.no 14 (by decide) "at" (by decide +kernel), fld_er hl er2 14 (by decide), (List.Mem.head _), ⟨.ref p, rfl, p, _, ((15 : Nat) : Int), _, rfl, rfl, .inl (.inl hp2), fld_at hl 15 (by decide), _, C 15, _, one, rfl, T.xf 15 (by decide), T.no 15 (by decide) "at" (by decide +kernel), fld_er hl er2 15 (by decide), (List.Mem.head _), ⟨.ref p, rfl, p, _, ((17 : Nat) : Int), _, rfl, rfl, .inl (.inl hp2), fld_at hl 17 (by decide), _, C 17, _, one, rfl, T.xf 17 (by decide), T.no 17 (by decide) "root" (by decide +kernel), fld_er hl er2 17 (by decide), (List.Mem.head _), ⟨.ref p, rfl, p, _, ((19 : Nat) : Int), _, rfl, rfl, .inl (.inl hp2), fld_at hl 19 (by decide), _, C 19, _, one, rfl, T.xf 19 (by decide), T.no 19 (by decide) "which" (by decide +kernel), fld_er hl er2 19 (by decide), (List.Mem.head _), ⟨.ref p, rfl, p, _, ((20 : Nat) : Int), _, rfl, rfl, .inl (.inl hp2), fld_at hl 20 (by decide), _, C 20, _, one, rfl, T.xf 20 (by decide), T.no 20 (by decide) "at" (by decide +kernel), fld_er hl er2 20 (by decide), (List.Mem.head _), ⟨.ref p, rfl, p, _, ((21 : Nat) : Int), _, rfl, rfl, .inl (.inl hp2), fld_at hl 21 (by decide), _, C 21, _, one, rfl, T.xf 21 (by decide), T.no 21 (by decide) "place" (by decide +kernel), fld_er hl er2 21 (by decide), (List.Mem.head _), (?_)⟩⟩⟩⟩⟩⟩⟩
          refine ⟨le_line (by show 6 ≤ 100000; decide), fun l nl _ => ?_⟩
          refine ⟨l2, l, _, _, rfl, rfl, (same_new nl) _ _ h2, upd_same, ?_, fun l' np op => ?_⟩
          · rw [List.length_replicate]
            exact le_line (by show 12 + 6 ≤ 100000; decide)
          · exact ⟨l', rfl, (t2.trans (same_new nl)).trans (same_new np), t2.free ((same_new nl).free np), op, upd_same⟩
        · rintro σ H3 ⟨l3, rfl, t3, z3, o3, h3⟩
          have hp3 := t3 _ _ hp
          have er3 := er.same t3
          refine ⟨fun σ H' => ∃ l, σ = [some (.ref p), some (.ref l)] ∧ Same H H' ∧ H l = none ∧ Own l ∧ H' l = some (.lst (List.replicate 21 one)), ?_, ?_⟩
          · refine ⟨.ref l3, rfl, ⟨.ref p, rfl, p, _, ((22 : Nat) : Int), _, rfl, rfl, .inl (.inl hp3), fld_at hl 22 (by decide), _, C 22, _, one, rfl, T.xf 22 (by decide), T.no 22 (by decide) "many" (by decide +kernel), fld_er hl er3 22 (by decide), (List.Mem.head _), ⟨.ref p, rfl, p, _, ((24 : Nat) : Int), _, rfl, rfl, .inl (.inl hp3), fld_at hl 24 (by decide), _, C 24, _, one, rfl, T.xf 24 (by decide), T.no 24 (by decide) "limit" (by decide +kernel), fld_er hl er3 24 (by decide), (List.Mem.head _), ⟨.ref p, rfl, p, _, ((25 : Nat) : Int), _, rfl, rfl, .inl (.inl hp3), fld_at hl 25 (by decide), _, C 25, _, one, rfl, T.xf 25 (by decide), T.no 25 (by decide) "many" (by decide +kernel), fld_er hl er3 25 (by decide), (List.Mem.head _), (?_)⟩⟩⟩⟩
            refine ⟨le_line (by show 3 ≤ 100000; decide), fun l nl _ => ?_⟩
            refine ⟨l3, l, _, _, rfl, rfl, (same_new nl) _ _ h3, upd_same, ?_, fun l' np op => ?_⟩
            · rw [List.length_replicate]
              exact le_line (by show 18 + 3 ≤ 100000; decide)
            · exact ⟨l', rfl, (t3.trans (same_new nl)).trans (same_new np), t3.free ((same_new nl).free np), op, upd_same⟩
          · rintro σ H4 ⟨l4, rfl, t4, z4, o4, h4⟩
            have hp4 := t4 _ _ hp
            have er4 := er.same t4
            refine ⟨.ref l4, rfl, ⟨.ref p, rfl, p, _, ((1 : Nat) : Int), _, rfl, rfl, .inl (.inl hp4), fld_at hl 1 (by decide), _, C 1, _, two, rfl, T.xf 1 (by decide), T.no 1 (by decide) "address" (by decide +kernel), fld_er hl er4 1 (by decide), (List.Mem.tail _ (List.Mem.head _)), ⟨.ref p, rfl, p, _, ((6 : Nat) : Int), _, rfl, rfl, .inl (.inl hp4), fld_at hl 6 (by decide), _, C 6, _, two, rfl, T.xf 6 (by decide), T.no 6 (by decide) "address" (by decide +kernel), fld_er hl er4 6 (by decide), (List.Mem.tail _ (List.Mem.head _)), ⟨.ref p, rfl, p, _, ((17 : Nat) : Int), _, rfl, rfl, .inl (.inl hp4), fld_at hl 17 (by decide), _, C 17, _, two, rfl, T.xf 17 (by decide), T.no 17 (by decide) "field" (by decide +kernel), fld_er hl er4 17 (by decide), (List.Mem.tail _ (List.Mem.head _)), (?_)⟩⟩⟩⟩
            refine ⟨le_line (by show 3 ≤ 100000; decide), fun m2 n2 o2 => ?_⟩
            have t5 := t4.trans (same_new (o := .lst [two, two, two]) n2)
            have hp5 := t5 _ _ hp
            have er5 := er.same t5
            refine ⟨.ref p, rfl, p, _, ((6 : Nat) : Int), _, rfl, rfl, .inl (.inl hp5), fld_at hl 6 (by decide), _, C 6, _, three, rfl, T.xf 6 (by decide), T.no 6 (by decide) "name" (by decide +kernel), fld_er hl er5 6 (by decide), (List.Mem.tail _ (List.Mem.tail _ (List.Mem.head _))), (?_)⟩
            refine ⟨le_line (by show 1 ≤ 100000; decide), fun m3 n3 o3 => ⟨le_line (by show 3 ≤ 100000; decide), fun t nt => ?_⟩⟩
            have s3 := same_new (o := .lst [three]) n3
            have s4 := same_new (o := .tup [.ref l4, .ref m2, .ref m3]) nt
            refine q _ t l4 m2 m3 ((t5.trans s3).trans s4) (t5.free (s3.free nt)) o4 o2 o3 upd_same (s4 _ _ (s3 _ _ ((same_new n2) _ _ h4))) (s4 _ _ (s3 _ _ upd_same)) (s4 _ _ upd_same)
end
end K11
set_option Elab.async false
set_option linter.all false
set_option maxRecDepth 100000
set_option maxHeartbeats 4000000
/-! K11e: things -/
namespace K11
open PySem PySem.Spec PyProof.Rows L2 GL
/-- H without what stands at l -/
def wos (l : List Addr) (H : Hp) : Hp := fun a => if a ∈ l then none else H a
theorem wos_at {l : List Addr} {H : Hp} {a : Addr} {o : HO} (n : a ∉ l) (h : H a = some o) : wos l H a = some o := by
  unfold wos
  rw [if_neg n]
  exact h
theorem wos_some {l : List Addr} {H : Hp} {a : Addr} {o : HO} (h : wos l H a = some o) : a ∉ l ∧ H a = some o := by
  unfold wos at h
  by_cases m : a ∈ l
  · rw [if_pos m] at h
    cases h
  · rw [if_neg m] at h
    exact ⟨m, h⟩
theorem wos_le {l : List Addr} {H : Hp} : Same (wos l H) H := fun _ _ h => (wos_some h).2
theorem wos_same {l : List Addr} {H H' : Hp} (e : Same H H') : Same (wos l H) (wos l H') := fun _ _ h => wos_at (wos_some h).1 (e _ _ (wos_some h).2)
theorem wos_upd {l : List Addr} {H : Hp} {a : Addr} {o : HO} (m : a ∈ l) : Same (wos l H) (wos l (upd H a o)) := fun b u h => by
  obtain ⟨n, e⟩ := wos_some h
  have z : b ≠ a := fun z => n (by rw [z]; exact m)
  exact wos_at n (by rw [upd_ne z]; exact e)
/-- good data -/
structure DG (n : Nat) (d : PyData) : Prop where
  short : d.leavesShort 50 = true
  weighs : d.weight ≤ n
  deep : d.depth ≤ 10
  shows : d.showable = true
theorem DG.mono {n m : Nat} {d : PyData} (h : DG n d) (k : n ≤ m) : DG m d := ⟨h.short, Nat.le_trans h.weighs k, h.deep, h.shows⟩
theorem DG.fits {n : Nat} {d : PyData} (h : DG n d) (k : n ≤ 100000) : d.shown.length ≤ sizeLine := by
  have k1 := PyData.shown_le 50 (by decide) d h.short
  have k2 := h.weighs
  rw [sizeLine_eq]
  omega
theorem dg_int {i : Int} (h : i.natAbs < 10 ^ 41) : DG 500 (.int i) where
  short := by
    have e := int_text_length_le10 (k := 41) (by decide) h
    have e2 : (PyData.shown (.int i)).length ≤ 50 := by
      show (Str.ofString (toString i)).length ≤ 50
      rw [PyProof.Rows.ofString_length]
      have e3 : (toString i).toList.length ≤ 42 := e
      omega
    simp only [PyData.leavesShort, decide_eq_true_eq]
    exact e2
  weighs := by
    have e : i.natAbs.log2 < 400 := PySem.Flt.log2_lt_of (by decide) (Nat.lt_trans h (by decide))
    simp only [PyData.weight]
    split
    · omega
    · omega
  deep := by simp only [PyData.depth]; omega
  shows := decide_eq_true (PySem.Flt.log2_lt_of (by decide) (Nat.lt_trans h (by decide)))
theorem leaves_app (B : Nat) : ∀ (xs ys : List PyData), PyData.leavesShortAll B (xs ++ ys) = (PyData.leavesShortAll B xs && PyData.leavesShortAll B ys)
  | [], ys => by simp [PyData.leavesShortAll]
  | x :: xs, ys => by simp [PyData.leavesShortAll, leaves_app B xs ys, Bool.and_assoc]
theorem weight_app : ∀ (xs ys : List PyData), PyData.weightAll (xs ++ ys) = PyData.weightAll xs + PyData.weightAll ys
  | [], ys => by simp [PyData.weightAll]
  | x :: xs, ys => by simp [PyData.weightAll, weight_app xs ys, Nat.add_assoc]
theorem depth_app : ∀ (xs ys : List PyData), PyData.depthAll (xs ++ ys) = max (PyData.depthAll xs) (PyData.depthAll ys)
  | [], ys => by simp [PyData.depthAll]
  | x :: xs, ys => by simp [PyData.depthAll, depth_app xs ys, Nat.max_assoc]
theorem shows_app : ∀ (xs ys : List PyData), PyData.showableAll (xs ++ ys) = (PyData.showableAll xs && PyData.showableAll ys)
  | [], ys => by simp [PyData.showableAll]
  | x :: xs, ys => by simp [PyData.showableAll, shows_app xs ys, Bool.and_assoc]
theorem dg_new : DG 3 (.str "new") := ⟨by decide +kernel, by decide +kernel, by decide +kernel, by decide +kernel⟩
theorem DG.grown {n : Nat} {ds : List PyData} (h : DG n (.list ds)) : DG (n + 10) (.list (ds ++ [.str "new"])) where
  short := by
    show PyData.leavesShortAll 50 (ds ++ [.str "new"]) = true
    rw [leaves_app, show PyData.leavesShortAll 50 ds = true from h.short]
    decide +kernel
  weighs := by
    show PyData.weightAll (ds ++ [.str "new"]) ≤ n + 10
    rw [weight_app]
    have e : PyData.weightAll [.str "new"] = 4 := by decide +kernel
    have e2 : PyData.weightAll ds ≤ n := h.weighs
    omega
  deep := by
    show PyData.depthAll (ds ++ [.str "new"]) + 1 ≤ 10
    rw [depth_app]
    have e : PyData.depthAll [.str "new"] = 0 := by decide +kernel
    have e2 : PyData.depthAll ds + 1 ≤ 10 := h.deep
    omega
  shows := by
    show PyData.showableAll (ds ++ [.str "new"]) = true
    rw [shows_app, show PyData.showableAll ds = true from h.shows]
    decide +kernel
abbrev dA : List (Key × V) := [(.inr "a", .int 1)]
abbrev dB : List (Key × V) := [(.inr "a", .int 1), (.inr "b", .int 2)]
/-- a drawn thing, with where it may be changed -/
inductive Tg (K : PySem.W.Frag) (n : Nat) (H : Hp) : V → List Addr → Prop
  | flat {v : V} {d : PyData} : flatV v = true → Dq K H v d → DG n d → Tg K n H v []
  | tup {a : Addr} {xs : List V} {ds : List PyData} : H a = some (.tup xs) → DqAll K H xs ds → DG n (.tuple ds) → Tg K n H (.ref a) []
  | lst {a : Addr} {xs : List V} {ds : List PyData} : H a = some (.lst xs) → Own a → xs.length ≤ n → DqAll K (wos [a] H) xs ds → DG n (.list ds) → Tg K n H (.ref a) [a]
  | dct {a : Addr} {kvs : List (Key × V)} : H a = some (.dK kvs) → kvs = dA ∨ kvs = dB → Tg K n H (.ref a) [a]
theorem Tg.same {K : PySem.W.Frag} {n : Nat} {H H' : Hp} {v : V} {r : List Addr} (t : Tg K n H v r) (e : Same H H') : Tg K n H' v r := by
  cases t with
  | flat f d g => exact .flat f (d.same e) g
  | tup h d g => exact .tup (e _ _ h) (DqAll.same e d) g
  | lst h o l d g => exact .lst (e _ _ h) o l (DqAll.same (wos_same e) d) g
  | dct h k => exact .dct (e _ _ h) k
theorem Tg.more {K : PySem.W.Frag} {n m : Nat} {H : Hp} {v : V} {r : List Addr} (t : Tg K n H v r) (e : n ≤ m) : Tg K m H v r := by
  cases t with
  | flat f d g => exact .flat f d (g.mono e)
  | tup h d g => exact .tup h d (g.mono e)
  | lst h o l d g => exact .lst h o (Nat.le_trans l e) d (g.mono e)
  | dct h k => exact .dct h k
theorem Tg.dq {K : PySem.W.Frag} {n : Nat} {H : Hp} {v : V} {r : List Addr} (t : Tg K n H v r) : ∃ d, Dq K H v d ∧ DG (n + 10) d := by
  cases t with
  | flat f d g => exact ⟨_, d, g.mono (by omega)⟩
  | tup h d g => exact ⟨_, .tup h d, g.mono (by omega)⟩
  | lst h o l d g => exact ⟨_, .lst h o (DqAll.same wos_le d), g.mono (by omega)⟩
  | dct h k =>
    rcases k with rfl | rfl
    · exact ⟨_, .dct h (.cons (.int 1) .nil), ⟨by decide +kernel, Nat.le_trans (show _ ≤ 10 by decide +kernel) (by omega), by decide +kernel, by decide +kernel⟩⟩
    · exact ⟨_, .dct h (.cons (.int 1) (.cons (.int 2) .nil)), ⟨by decide +kernel, Nat.le_trans (show _ ≤ 10 by decide +kernel) (by omega), by decide +kernel, by decide +kernel⟩⟩
theorem Tg.okS {K : PySem.W.Frag} {n : Nat} {H : Hp} {v : V} {r : List Addr} (t : Tg K n H v r) : okS v = true := by
  cases t with
  | flat f d g =>
    cases d with
    | non => rfl
    | bl b => rfl
    | int i => rfl
    | str x => rfl
    | lst h _ _ => rfl
    | tup h _ => rfl
    | dct h _ => rfl
  | tup h d g => rfl
  | lst h o l d g => rfl
  | dct h k => rfl
theorem at_some {xs : List V} {i : Int} (h0 : 0 ≤ i) (h1 : i < xs.length) : ∃ v, atI xs i = some v ∧ v ∈ xs := by
  have hi : i.toNat < xs.length := by omega
  exact ⟨xs[i.toNat], atI_int h0 (List.getElem?_eq_getElem hi), List.getElem_mem hi⟩
theorem Bg.some {H : Hp} {b c : Addr} (h : Bg H b c) : H b ≠ none := by
  obtain ⟨g, s0, i, ns, hb, _⟩ := h
  rw [hb]
  exact nofun
theorem fr_wos {H H' : Hp} {a : Addr} (n : H a ≠ none) : Same (fr H H') (wos [a] H') := fun b o e => by
  obtain ⟨e1, e2⟩ := fr_some e
  refine wos_at (fun z => ?_) e2
  rw [List.mem_singleton.mp z] at e1
  exact n e1
section
variable {P : Program} {w : World} {K : PySem.W.Frag} {mg : Str → Option Value} {base : Heap}
theorem sc_thing : FnScope ["_law_bag_here", "_law_some"] ["_law_bag_here"] (defScope s_thing) := ⟨rfl, rfl, rfl, by decide +kernel, rfl, by decide +kernel, by decide +kernel⟩
def spThing (K : PySem.W.Frag) : Sp := fun vs H Q _ => ∃ (b c : Addr), vs = [.ref b] ∧ Bg H b c ∧ ∀ H' v r, But b H H' → Bg H' b c → Tg K 500 (fr H H') v r → Q v H'
theorem ok_thing {f : Addr} {fd : FuncData} (F : Fun K "_law_thing" "_law_thing" s_thing f fd) (T : Txt0 mg) (GT : Cl P w K mg base 1 "_law_take" spTake) : FnOk P w K mg base CX0 2 f fd ["_law_bag_here"] (spThing K) := by
  refine F.ok sc_thing (fun vs H Q E h => ?_) (fun cdv A outer s H vs Q E hr h => ?_)
  · obtain ⟨b, c, rfl, _⟩ := h
    rfl
  · obtain ⟨b, c, rfl, bag, q⟩ := h
    refine ⟨_, (C8.pss_cut (ps_set (i := 1) sc_thing.nd rfl (.inl rfl) (pe_lstS (pa_cons (pe_op op_sub (pe_cl GT hr (by decide) (by rfl) (pa_cons (pv 0) (pa_cons pe_int pa_nil))) pe_int) (pa_cons (pe_op op_pow pe_int pe_int) (pa_cons pe_str (pa_cons pe_str (pa_cons pe_bl (pa_cons pe_non (pa_cons (pe_tup (pa_cons pe_int (pa_cons (pe_tup (pa_cons pe_int pa_nil)) pa_nil))) (pa_cons (pe_lstS (pa_cons pe_int (pa_cons (pe_lstS (pa_cons pe_int pa_nil)) pa_nil))) (pa_cons (pe_disp (pps_cons pe_str pe_int pps_nil) (by rfl) (by rfl) (fun z => by cases z) (by decide)) (pa_cons (pe_lstS pa_nil) (pa_cons (pe_lstS (pa_cons pe_str pa_nil)) pa_nil)))))))))))))
      (pss_one (ps_ret (pe_ix ix_list (pv 1) (pe_cl GT hr (by decide) (by rfl) (pa_cons (pv 0) (pa_cons pe_int pa_nil))) (fun _ _ => rfl))))), ?_⟩
    refine ⟨fun σ H' => ∃ (L : Addr) (vs : List V), σ = [some (.ref b), some (.ref L)] ∧ Bg H' b c ∧ L ≠ b ∧ But b H H' ∧ H' L = some (.lst vs) ∧ vs.length = 11 ∧ ∀ v ∈ vs, ∃ r, Tg K 500 (fr H H') v r, ?_, ?_⟩
    · refine ⟨.ref b, rfl, b, c, 1000, rfl, bag, by decide, by decide, fun i xs hi0 hi1 bag1 => ?_⟩
      refine ⟨_, _, rfl, rfl, _, _, rfl, rfl, ⟨by decide, by decide, by decide⟩, ?_⟩
      refine ⟨le_line (by show 1 ≤ 100000; decide), fun t1 n1 => ⟨le_line (by show 2 ≤ 100000; decide), fun t2 n2 => ?_⟩⟩
      refine ⟨le_line (by show 1 ≤ 100000; decide), fun q1 n3 o3 => ⟨le_line (by show 2 ≤ 100000; decide), fun q2 n4 o4 => ?_⟩⟩
      intro d0 n5
      refine ⟨upd_same, dA, rfl, by decide, ?_⟩
      rw [upd_upd]
      refine ⟨le_line (by show 0 ≤ 100000; decide), fun e1 n7 o7 => ⟨le_line (by show 1 ≤ 100000; decide), fun e2 n8 o8 => ⟨le_line (by show 11 ≤ 100000; decide), fun L n9 o9 => ?_⟩⟩⟩
      let A0 : Hp := upd H b (.lst xs)
      let A1 : Hp := upd A0 t1 (.tup [.int 2])
      let A2 : Hp := upd A1 t2 (.tup [.int 1, .ref t1])
      let A3 : Hp := upd A2 q1 (.lst [.int 4])
      let A4 : Hp := upd A3 q2 (.lst [.int 3, .ref q1])
      let A5 : Hp := upd A4 d0 (.dK dA)
      let A6 : Hp := upd A5 e1 (.lst [])
      let A7 : Hp := upd A6 e2 (.lst [.str "old"])
      let A8 : Hp := upd A7 L (.lst [.int (i - 500), .int (10 ^ (39 : Int).toNat), .str "put", .str "", .bl true, .non, .ref t2, .ref q2, .ref d0, .ref e1, .ref e2])
      have k0 : But b H A0 := But.upd
      have s1 : Same A0 A1 := same_new n1
      have s2 : Same A1 A2 := same_new n2
      have s3 : Same A2 A3 := same_new n3
      have s4 : Same A3 A4 := same_new n4
      have s5 : Same A4 A5 := same_new n5
      have s6 : Same A5 A6 := same_new n7
      have s7 : Same A6 A7 := same_new n8
      have s8 : Same A7 A8 := same_new n9
      have u7 : Same A6 A8 := s7.trans s8
      have u6 : Same A5 A8 := s6.trans u7
      have u5 : Same A4 A8 := s5.trans u6
      have u4 : Same A3 A8 := s4.trans u5
      have u3 : Same A2 A8 := s3.trans u4
      have u2 : Same A1 A8 := s2.trans u3
      have u1 : Same A0 A8 := s1.trans u2
      have bag8 : Bg A8 b c := bag1.same u1
      have z1 : A0 t1 = none := n1
      have z2 : A0 t2 = none := s1.free n2
      have z3 : A0 q1 = none := (s1.trans s2).free n3
      have z4 : A0 q2 = none := ((s1.trans s2).trans s3).free n4
      have z5 : A0 d0 = none := (((s1.trans s2).trans s3).trans s4).free n5
      have z6 : A0 e1 = none := ((((s1.trans s2).trans s3).trans s4).trans s5).free n7
      have z7 : A0 e2 = none := (((((s1.trans s2).trans s3).trans s4).trans s5).trans s6).free n8
      have z8 : A0 L = none := ((((((s1.trans s2).trans s3).trans s4).trans s5).trans s6).trans s7).free n9
      have old : ∀ {a : Addr}, A0 a = none → H a = none := fun h => (upd_none h).2
      have at_ : ∀ {a : Addr} {o : HO}, A0 a = none → A8 a = some o → fr H A8 a = some o := fun h k => fr_at (old h) k
      have hq1 : A8 q1 = some (.lst [.int 4]) := u4 _ _ upd_same
      have hq2 : A8 q2 = some (.lst [.int 3, .ref q1]) := u5 _ _ upd_same
      have ne : q1 ≠ q2 := ne_of_none (show A3 q1 = some _ from upd_same) n4
      refine ⟨L, _, rfl, bag8, bag1.nb z8, k0.trans (But.of u1), upd_same, rfl, fun v hv => ?_⟩
      simp only [List.mem_cons, List.not_mem_nil, or_false] at hv
      rcases hv with rfl | rfl | rfl | rfl | rfl | rfl | rfl | rfl | rfl | rfl | rfl
      · exact ⟨_, .flat rfl (.int _) (dg_int (by omega))⟩
      · exact ⟨_, .flat rfl (.int _) (dg_int (by decide))⟩
      · exact ⟨_, .flat rfl (.str _) ⟨by decide +kernel, by decide +kernel, by decide +kernel, by decide +kernel⟩⟩
      · exact ⟨_, .flat rfl (.str _) ⟨by decide +kernel, by decide +kernel, by decide +kernel, by decide +kernel⟩⟩
      · exact ⟨_, .flat rfl (.bl _) ⟨by decide +kernel, by decide +kernel, by decide +kernel, by decide +kernel⟩⟩
      · exact ⟨_, .flat rfl .non ⟨by decide +kernel, by decide +kernel, by decide +kernel, by decide +kernel⟩⟩
      · exact ⟨_, .tup (at_ z2 (u3 _ _ upd_same)) (.cons (.int 1) (.cons (.tup (at_ z1 (u2 _ _ upd_same)) (.cons (.int 2) .nil)) .nil)) ⟨by decide +kernel, by decide +kernel, by decide +kernel, by decide +kernel⟩⟩
      · refine ⟨_, .lst (at_ z4 hq2) o4 (by show 2 ≤ 500; decide) (.cons (.int 3) (.cons (.lst (wos_at ?_ (at_ z3 hq1)) o3 (.cons (.int 4) .nil)) .nil)) ⟨by decide +kernel, by decide +kernel, by decide +kernel, by decide +kernel⟩⟩
        exact fun z => ne (List.mem_singleton.mp z)
      · exact ⟨_, .dct (at_ z5 (u6 _ _ upd_same)) (.inl rfl)⟩
      · exact ⟨_, .lst (at_ z6 (u7 _ _ upd_same)) o7 (by decide) .nil ⟨by decide +kernel, by decide +kernel, by decide +kernel, by decide +kernel⟩⟩
      · exact ⟨_, .lst (at_ z7 (s8 _ _ upd_same)) o8 (by decide) (.cons (.str _) .nil) ⟨by decide +kernel, by decide +kernel, by decide +kernel, by decide +kernel⟩⟩
    · rintro σ H1 ⟨L, vs, rfl, bag1, Lb, but1, hL, hl, ht⟩
      refine ⟨.ref L, rfl, .ref b, rfl, b, c, 11, rfl, bag1, by decide, by decide, fun k xs hk0 hk1 bag2 => ?_⟩
      obtain ⟨v, hv, hm⟩ := at_some (xs := vs) hk0 (by rw [hl]; exact hk1)
      obtain ⟨r, t⟩ := ht v hm
      refine ⟨L, vs, k, v, rfl, rfl, .inl (.inl (by rw [upd_ne Lb]; exact hL)), hv, ?_⟩
      exact q _ v r (but1.trans But.upd) bag2 (t.same (fr_but bag.some But.upd))
end
end K11
set_option Elab.async false
set_option linter.all false
set_option maxRecDepth 100000
set_option maxHeartbeats 4000000
/-! K11f: alike -/
namespace K11
open PySem PySem.Spec PyProof.Rows L2 GL
section
variable {P : Program} {w : World} {K : PySem.W.Frag} {mg : Str → Option Value} {base : Heap}
theorem sc_alike : FnScope ["_law_found", "_law_right"] ["_law_found", "_law_right"] (defScope s_alike) := ⟨rfl, rfl, rfl, by decide +kernel, rfl, by decide +kernel, by decide +kernel⟩
def spAlike (K : PySem.W.Frag) : Sp := fun vs H Q _ => ∃ (t u : Addr) (d : PyData), vs = [.ref t, .ref u] ∧ DTup K (DList DSame) (.ref t) (.ref u) H ∧ Dq K H (.ref t) d ∧ Dq K H (.ref u) d ∧ d.showable = true ∧ d.depth ≤ 64 ∧ d.shown.length ≤ sizeLine ∧
  ∀ H', Same H H' → Q (.bl true) H'
theorem ok_alike {f : Addr} {fd : FuncData} (F : Fun K "_law_alike" "_law_alike" s_alike f fd) (T : Txt0 mg) : FnG P w K mg base 3 f fd ["_law_found", "_law_right"] (spAlike K) := by
  refine okG F sc_alike (fun vs H Q E h => ?_) (fun cdv A outer s H vs Q E hG hr h => ?_)
  · obtain ⟨t, u, d, rfl, _⟩ := h
    rfl
  · obtain ⟨t, u, d, rfl, hd, ht, hu', sh, dp, sz, q⟩ := h
    have hu : (A.deeper (envOfC "_law_alike" (defScope s_alike) s.heap.objs.size f cdv)).units + 66 < cLine := by
      have := hr.un
      omega
    refine ⟨_, (pss_one (ps_ret (pe_and (pe_cmpR (op_eqTL hr) (pv 0) (pv 1) (nomark _)) (pe_one (pe_cmpR op_eq (pe_callB (call_reprDq hG hu) (by rfl) T.m_repr (by decide +kernel) (pa_cons (pv 0) pa_nil)) (pe_callB (call_reprDq hG hu) (by rfl) T.m_repr (by decide +kernel) (pa_cons (pv 1) pa_nil)) (nomark _)))))), ?_⟩
    refine ⟨.ref t, rfl, .ref u, rfl, hd, fun H1 s1 => ⟨_, rfl, iteT ⟨.ref t, rfl, t, d, rfl, ht.same s1, sh, dp, sz, .ref u, rfl, u, d, rfl, hu'.same s1, sh, dp, sz, rfl, ?_⟩⟩⟩
    rw [decide_eq_true rfl]
    exact q _ s1
/-! the tuple of the fields, and the one that it should be -/
theorem prs_same {xs : List V} {H : Hp} (h : ∀ x ∈ xs, okS x = true) : Prs DSame xs xs H := ⟨rfl, fun i x y h1 h2 => by
  have e : x = y := Option.some.inj (h1.symm.trans h2)
  exact ⟨e, h x (List.mem_of_getElem? h1)⟩⟩
theorem dup_all {H : Hp} {v : V} {d : PyData} (h : Dq K H v d) : ∀ n : Nat, DqAll K H (List.replicate n v) (List.replicate n d)
  | 0 => .nil
  | n + 1 => .cons h (dup_all h n)
theorem dup_leaves {B : Nat} {d : PyData} (h : d.leavesShort B = true) : ∀ n : Nat, PyData.leavesShortAll B (List.replicate n d) = true
  | 0 => rfl
  | n + 1 => by
    rw [List.replicate_succ]
    simp only [PyData.leavesShortAll, h, dup_leaves h n, Bool.and_self]
theorem dup_weight {m : Nat} {d : PyData} (h : d.weight ≤ m) : ∀ n : Nat, PyData.weightAll (List.replicate n d) ≤ n * (m + 1)
  | 0 => by simp [PyData.weightAll]
  | n + 1 => by
    rw [List.replicate_succ, Nat.succ_mul]
    simp only [PyData.weightAll]
    have := dup_weight h n
    omega
theorem dup_depth {m : Nat} {d : PyData} (h : d.depth ≤ m) : ∀ n : Nat, PyData.depthAll (List.replicate n d) ≤ m
  | 0 => by simp [PyData.depthAll]
  | n + 1 => by
    rw [List.replicate_succ]
    simp only [PyData.depthAll]
    have := dup_depth h n
    omega
theorem dup_shows {d : PyData} (h : d.showable = true) : ∀ n : Nat, PyData.showableAll (List.replicate n d) = true
  | 0 => rfl
  | n + 1 => by
    rw [List.replicate_succ]
    simp only [PyData.showableAll, h, dup_shows h n, Bool.and_self]
theorem DG.dup {m : Nat} {d : PyData} (h : DG m d) (z : d.depth ≤ 10) (n : Nat) : d.leavesShort 50 = true ∧ (PyData.list (List.replicate n d)).leavesShort 50 = true ∧ (PyData.list (List.replicate n d)).weight ≤ n * (m + 1) ∧
    (PyData.list (List.replicate n d)).depth ≤ 11 ∧ (PyData.list (List.replicate n d)).showable = true := by
  refine ⟨h.short, dup_leaves h.short n, dup_weight h.weighs n, ?_, dup_shows h.shows n⟩
  show PyData.depthAll _ + 1 ≤ 11
  have := dup_depth z n
  omega
/-- at t, a tuple of three lists of the things -/
def Tri (H : Hp) (t : Addr) (one two three : V) : Prop := ∃ l1 l2 l3, Own l1 ∧ Own l2 ∧ Own l3 ∧ H t = some (.tup [.ref l1, .ref l2, .ref l3]) ∧ H l1 = some (.lst (List.replicate 21 one)) ∧ H l2 = some (.lst (List.replicate 3 two)) ∧ H l3 = some (.lst [three])
theorem Tri.same {H H' : Hp} {t : Addr} {one two three : V} (h : Tri H t one two three) (e : Same H H') : Tri H' t one two three := by
  obtain ⟨l1, l2, l3, o1, o2, o3, h0, h1, h2, h3⟩ := h
  exact ⟨l1, l2, l3, o1, o2, o3, e _ _ h0, e _ _ h1, e _ _ h2, e _ _ h3⟩
theorem Tri.dq {H : Hp} {t : Addr} {one two three : V} {d1 d2 d3 : PyData} (h : Tri H t one two three) (h1 : Dq K H one d1) (h2 : Dq K H two d2) (h3 : Dq K H three d3) :
    Dq K H (.ref t) (.tuple [.list (List.replicate 21 d1), .list (List.replicate 3 d2), .list [d3]]) := by
  obtain ⟨l1, l2, l3, o1, o2, o3, k0, k1, k2, k3⟩ := h
  exact .tup k0 (.cons (.lst k1 o1 (dup_all h1 21)) (.cons (.lst k2 o2 (dup_all h2 3)) (.cons (.lst k3 o3 (.cons h3 .nil)) .nil)))
theorem Tri.eq {H : Hp} {t u : Addr} {one two three : V} (h : Tri H t one two three) (k : Tri H u one two three) (h1 : okS one = true) (h2 : okS two = true) (h3 : okS three = true) : DTup K (DList DSame) (.ref t) (.ref u) H := by
  obtain ⟨l1, l2, l3, _, _, _, a0, a1, a2, a3⟩ := h
  obtain ⟨m1, m2, m3, _, _, _, b0, b1, b2, b3⟩ := k
  refine ⟨t, u, _, _, rfl, rfl, .inl (.inl a0), .inl (.inl b0), .cons ⟨l1, m1, _, _, rfl, rfl, a1, b1, prs_same fun x hx => ?_⟩ (.cons ⟨l2, m2, _, _, rfl, rfl, a2, b2, prs_same fun x hx => ?_⟩ (.cons ⟨l3, m3, _, _, rfl, rfl, a3, b3, prs_same fun x hx => ?_⟩ .nil))⟩
  · rw [List.eq_of_mem_replicate hx]
    exact h1
  · rw [List.eq_of_mem_replicate hx]
    exact h2
  · rw [List.mem_singleton.mp hx]
    exact h3
theorem alike_use {H : Hp} {t u : Addr} {one two three : V} {r1 r2 r3 : List Addr} {n : Nat} (hn : n ≤ 1000) (h : Tri H t one two three) (k : Tri H u one two three) (t1 : Tg K n H one r1) (t2 : Tg K n H two r2) (t3 : Tg K n H three r3) :
    ∃ d : PyData, DTup K (DList DSame) (.ref t) (.ref u) H ∧ Dq K H (.ref t) d ∧ Dq K H (.ref u) d ∧ d.showable = true ∧ d.depth ≤ 64 ∧ d.shown.length ≤ sizeLine := by
  obtain ⟨d1, h1, g1⟩ := t1.dq
  obtain ⟨d2, h2, g2⟩ := t2.dq
  obtain ⟨d3, h3, g3⟩ := t3.dq
  obtain ⟨_, a1, b1, c1, e1⟩ := g1.dup g1.deep 21
  obtain ⟨_, a2, b2, c2, e2⟩ := g2.dup g2.deep 3
  obtain ⟨_, a3, b3, c3, e3⟩ := g3.dup g3.deep 1
  have sh : (PyData.tuple [.list (List.replicate 21 d1), .list (List.replicate 3 d2), .list [d3]]).leavesShort 50 = true := by
    show (PyData.leavesShort 50 _ && (PyData.leavesShort 50 _ && (PyData.leavesShort 50 (.list (List.replicate 1 d3)) && true))) = true
    rw [a1, a2, a3]
    rfl
  have we : (PyData.tuple [.list (List.replicate 21 d1), .list (List.replicate 3 d2), .list [d3]]).weight ≤ 30000 := by
    show PyData.weight _ + 1 + (PyData.weight _ + 1 + (PyData.weight (.list (List.replicate 1 d3)) + 1 + 0)) ≤ 30000
    omega
  refine ⟨_, h.eq k t1.okS t2.okS t3.okS, h.dq h1 h2 h3, k.dq h1 h2 h3, ?_, ?_, ?_⟩
  · show (PyData.showable _ && (PyData.showable _ && (PyData.showable (.list (List.replicate 1 d3)) && true))) = true
    rw [e1, e2, e3]
    rfl
  · show max (PyData.depth _) (max (PyData.depth _) (max (PyData.depth (.list (List.replicate 1 d3))) 0)) + 1 ≤ 64
    omega
  · have k1 := PyData.shown_le 50 (by decide) _ sh
    rw [sizeLine_eq]
    omega
end
end K11
set_option Elab.async false
set_option linter.all false
set_option maxRecDepth 100000
set_option maxHeartbeats 4000000
/-! K11g: what stands while the law runs -/
namespace K11
open PySem PySem.Spec PyProof.Rows L2 GL
/-- at the roots stand lists and dicts -/
theorem Tg.root {K : PySem.W.Frag} {n : Nat} {H : Hp} {v : V} {r : List Addr} (t : Tg K n H v r) {a : Addr} (m : a ∈ r) : (∃ xs, H a = some (.lst xs)) ∨ ∃ kvs, H a = some (.dK kvs) := by
  cases t with
  | flat f d g => cases m
  | tup h d g => cases m
  | lst h o l d g =>
    rw [List.mem_singleton.mp m]
    exact .inl ⟨_, h⟩
  | dct h k =>
    rw [List.mem_singleton.mp m]
    exact .inr ⟨_, h⟩
/-- H' is H, but for what stands at r -/
inductive Grow (H : Hp) (r : List Addr) : Hp → Prop
  | same : Grow H r H
  | upd {a : Addr} {o : HO} : a ∈ r → Grow H r (upd H a o)
theorem Grow.at {H H' : Hp} {r : List Addr} (g : Grow H r H') {a : Addr} {o : HO} (n : a ∉ r) (h : H a = some o) : H' a = some o := by
  cases g with
  | same => exact h
  | @upd b o m =>
    have e : a ≠ b := fun z => n (by rw [z]; exact m)
    rw [upd_ne e]
    exact h
theorem Grow.wos {H H' : Hp} {r l : List Addr} (g : Grow H r H') (s : ∀ a ∈ r, a ∈ l) : Same (wos l H) (K11.wos l H') := by
  cases g with
  | same => exact Same.refl _
  | upd m => exact wos_upd (s _ m)
theorem Err.wos {H : Hp} {a C : Addr} {fs : List (Str × V)} {l : List Addr} (h : Err H a C fs) (r : ∀ x ∈ l, (∃ xs, H x = some (.lst xs)) ∨ ∃ kvs, H x = some (.dK kvs)) : Err (K11.wos l H) a C fs := by
  have no : ∀ (x : Addr) (f : Heap → Prop), H x = some (.ext f) → x ∉ l := fun x f e m => by
    rcases r x m with ⟨_, z⟩ | ⟨_, z⟩
    · rw [z] at e
      cases e
    · rw [z] at e
      cases e
  rcases h with ⟨h1, h2⟩ | ⟨dx, gs, h1, h2, h3⟩
  · exact .inl ⟨h1, wos_at (no _ _ h2) h2⟩
  · exact .inr ⟨dx, gs, wos_at (no _ _ h1) h1, wos_at (no _ _ h2) h2, h3⟩
/-- three things, and the errors made of them -/
structure St (K : PySem.W.Frag) (C : Nat → Addr) (n : Nat) (b c p : Addr) (as : List Addr) (one two three : V) (r1 r2 r3 : List Addr) (H : Hp) : Prop where
  bag : Bg H b c
  t1 : Tg K n (wos (r2 ++ r3) H) one r1
  t2 : Tg K n (wos (r1 ++ r3) H) two r2
  t3 : Tg K n (wos (r1 ++ r2) H) three r3
  ne : ∀ a ∈ r1 ++ (r2 ++ r3), a ≠ b ∧ a ≠ c ∧ a ≠ p
  hp : H p = some (.lst (as.map V.ref))
  hl : as.length = 28
  er : ErrN (wos (r1 ++ (r2 ++ r3)) H) C [one, two, three] 0 as
section
variable {K : PySem.W.Frag} {C : Nat → Addr} {n m : Nat} {b c p : Addr} {as : List Addr} {one two three : V} {r1 r2 r3 : List Addr} {H H' : Hp}
theorem St.same (s : St K C n b c p as one two three r1 r2 r3 H) (e : Same H H') : St K C n b c p as one two three r1 r2 r3 H' :=
  ⟨s.bag.same e, s.t1.same (wos_same e), s.t2.same (wos_same e), s.t3.same (wos_same e), s.ne, e _ _ s.hp, s.hl, s.er.same (wos_same e)⟩
theorem St.more (s : St K C n b c p as one two three r1 r2 r3 H) (e : n ≤ m) : St K C m b c p as one two three r1 r2 r3 H :=
  ⟨s.bag, s.t1.more e, s.t2.more e, s.t3.more e, s.ne, s.hp, s.hl, s.er⟩
theorem roots_at {l1 l2 l3 : List Addr} (t1 : Tg K n (wos l1 H) one r1) (t2 : Tg K n (wos l2 H) two r2) (t3 : Tg K n (wos l3 H) three r3) {a : Addr} (h : a ∈ r1 ++ (r2 ++ r3)) : (∃ xs, H a = some (.lst xs)) ∨ ∃ kvs, H a = some (.dK kvs) := by
  have go : ∀ {l r : List Addr} {v : V}, Tg K n (wos l H) v r → a ∈ r → (∃ xs, H a = some (.lst xs)) ∨ ∃ kvs, H a = some (.dK kvs) := fun t m => by
    rcases t.root m with ⟨xs, h⟩ | ⟨kvs, h⟩
    · exact .inl ⟨xs, wos_le _ _ h⟩
    · exact .inr ⟨kvs, wos_le _ _ h⟩
  rcases List.mem_append.mp h with h | h
  · exact go t1 h
  · rcases List.mem_append.mp h with h | h
    · exact go t2 h
    · exact go t3 h
theorem St.root (s : St K C n b c p as one two three r1 r2 r3 H) {a : Addr} (h : a ∈ r1 ++ (r2 ++ r3)) : (∃ xs, H a = some (.lst xs)) ∨ ∃ kvs, H a = some (.dK kvs) :=
  roots_at s.t1 s.t2 s.t3 h
theorem St.notup (s : St K C n b c p as one two three r1 r2 r3 H) {u : Addr} {xs : List V} (h : H u = some (.tup xs)) : u ∉ r1 ++ (r2 ++ r3) := fun m => by
  rcases s.root m with ⟨_, z⟩ | ⟨_, z⟩
  · rw [z] at h
    cases h
  · rw [z] at h
    cases h
theorem St.grow0 (s : St K C n b c p as one two three r1 r2 r3 H) {r : List Addr} (g : Grow H r H') (sub : ∀ a ∈ r, a ∈ r1 ++ (r2 ++ r3)) (t1 : Tg K m (wos (r2 ++ r3) H') one r1) (t2 : Tg K m (wos (r1 ++ r3) H') two r2) (t3 : Tg K m (wos (r1 ++ r2) H') three r3) :
    St K C m b c p as one two three r1 r2 r3 H' := by
  refine ⟨?_, t1, t2, t3, s.ne, g.at (fun z => (s.ne _ (sub _ z)).2.2 rfl) s.hp, s.hl, s.er.same (g.wos sub)⟩
  cases g with
  | same => exact s.bag
  | upd z => exact s.bag.at (s.ne _ (sub _ z)).1 (s.ne _ (sub _ z)).2.1
theorem St.grow1 (s : St K C n b c p as one two three r1 r2 r3 H) (g : Grow H r1 H') (k : n ≤ m) (t : Tg K m (wos (r2 ++ r3) H') one r1) : St K C m b c p as one two three r1 r2 r3 H' :=
  s.grow0 g (fun a z => List.mem_append_left _ z) t ((s.t2.more k).same (g.wos fun a z => List.mem_append_left _ z)) ((s.t3.more k).same (g.wos fun a z => List.mem_append_left _ z))
theorem St.grow2 (s : St K C n b c p as one two three r1 r2 r3 H) (g : Grow H r2 H') (k : n ≤ m) (t : Tg K m (wos (r1 ++ r3) H') two r2) : St K C m b c p as one two three r1 r2 r3 H' :=
  s.grow0 g (fun a z => List.mem_append_right _ (List.mem_append_left _ z)) ((s.t1.more k).same (g.wos fun a z => List.mem_append_left _ z)) t ((s.t3.more k).same (g.wos fun a z => List.mem_append_right _ z))
theorem St.grow3 (s : St K C n b c p as one two three r1 r2 r3 H) (g : Grow H r3 H') (k : n ≤ m) (t : Tg K m (wos (r1 ++ r2) H') three r3) : St K C m b c p as one two three r1 r2 r3 H' :=
  s.grow0 g (fun a z => List.mem_append_right _ (List.mem_append_right _ z)) ((s.t1.more k).same (g.wos fun a z => List.mem_append_right _ z)) ((s.t2.more k).same (g.wos fun a z => List.mem_append_right _ z)) t
/-- the growth of a list -/
theorem Tg.app {l : List Addr} {a : Addr} {xs : List V} {ds : List PyData} (hn : a ∉ l) (o : Own a) (z : xs.length ≤ n) (d : DqAll K (wos [a] (wos l H)) xs ds) (g : DG n (.list ds)) :
    Tg K (n + 10) (wos l (upd H a (.lst (xs ++ [.str "new"])))) (.ref a) [a] := by
  refine .lst (wos_at hn upd_same) o (by rw [List.length_append, List.length_singleton]; omega) ?_ g.grown
  have e : Same (wos [a] (wos l H)) (wos [a] (wos l (upd H a (.lst (xs ++ [.str "new"]))))) := fun x u h => by
    obtain ⟨n1, h1⟩ := wos_some h
    obtain ⟨n2, h2⟩ := wos_some h1
    have ne : x ≠ a := fun z => n1 (by rw [z]; exact List.mem_singleton.mpr rfl)
    exact wos_at n1 (wos_at n2 (by rw [upd_ne ne]; exact h2))
  have k := DqAll.same e d
  clear d g
  revert k
  generalize wos [a] (wos l (upd H a (.lst (xs ++ [.str "new"])))) = G
  intro k
  have go : ∀ {xs : List V} {ds : List PyData}, DqAll K G xs ds → DqAll K G (xs ++ [.str "new"]) (ds ++ [.str "new"]) := by
    intro xs
    induction xs with
    | nil =>
      intro ds k
      cases k
      exact .cons (.str _) .nil
    | cons x xs ih =>
      intro ds k
      cases k with
      | cons h t => exact .cons h (ih t)
  exact go k
theorem Tg.put {l : List Addr} {a : Addr} (hn : a ∉ l) : Tg K m (wos l (upd H a (.dK dB))) (.ref a) [a] := .dct (wos_at hn upd_same) (.inr rfl)
end
/-- three things drawn one behind the other -/
theorem three_draw {K : PySem.W.Frag} {n : Nat} {b c : Addr} {H0 H1 H2 H3 : Hp} {one two three : V} {r1 r2 r3 : List Addr} (bag0 : Bg H0 b c) (bag1 : Bg H1 b c) (bag2 : Bg H2 b c) (b1 : But b H0 H1) (b2 : But b H1 H2) (b3 : But b H2 H3)
    (t1 : Tg K n (fr H0 H1) one r1) (t2 : Tg K n (fr H1 H2) two r2) (t3 : Tg K n (fr H2 H3) three r3) :
    Tg K n (wos (r2 ++ r3) H3) one r1 ∧ Tg K n (wos (r1 ++ r3) H3) two r2 ∧ Tg K n (wos (r1 ++ r2) H3) three r3 ∧ (∀ a ∈ r1 ++ (r2 ++ r3), a ≠ b ∧ a ≠ c ∧ H3 a ≠ none) := by
  have rt : ∀ {G G' : Hp} {v : V} {r : List Addr} {a : Addr}, Tg K n (fr G G') v r → a ∈ r → G a = none ∧ ∃ o, G' a = some o := fun t m => by
    rcases t.root m with ⟨_, h⟩ | ⟨_, h⟩
    · exact ⟨(fr_some h).1, _, (fr_some h).2⟩
    · exact ⟨(fr_some h).1, _, (fr_some h).2⟩
  have no : ∀ {o : HO}, (none : Option HO) ≠ some o := nofun
  have i1 : ∀ {a : Addr}, a ∈ r1 → a ≠ b ∧ a ≠ c ∧ (∃ o, H1 a = some o) ∧ (∃ o, H2 a = some o) ∧ ∃ o, H3 a = some o := fun m => by
    obtain ⟨z, o, h⟩ := rt t1 m
    have k := b2.at (bag0.nb z) h
    exact ⟨bag0.nb z, bag0.nc z, ⟨o, h⟩, ⟨o, k⟩, o, b3.at (bag0.nb z) k⟩
  have i2 : ∀ {a : Addr}, a ∈ r2 → a ≠ b ∧ a ≠ c ∧ H1 a = none ∧ (∃ o, H2 a = some o) ∧ ∃ o, H3 a = some o := fun m => by
    obtain ⟨z, o, h⟩ := rt t2 m
    exact ⟨bag1.nb z, bag1.nc z, z, ⟨o, h⟩, o, b3.at (bag1.nb z) h⟩
  have i3 : ∀ {a : Addr}, a ∈ r3 → a ≠ b ∧ a ≠ c ∧ H2 a = none ∧ ∃ o, H3 a = some o := fun m => by
    obtain ⟨z, o, h⟩ := rt t3 m
    exact ⟨bag2.nb z, bag2.nc z, z, o, h⟩
  refine ⟨t1.same fun a o h => ?_, t2.same fun a o h => ?_, t3.same fun a o h => ?_, fun a m => ?_⟩
  · obtain ⟨z, h1⟩ := fr_some h
    have h2 := b2.at (bag0.nb z) h1
    refine wos_at (fun m => ?_) (b3.at (bag0.nb z) h2)
    rcases List.mem_append.mp m with m | m
    · have k := (i2 m).2.2.1
      rw [h1] at k
      cases k
    · have k := (i3 m).2.2.1
      rw [h2] at k
      cases k
  · obtain ⟨z, h2⟩ := fr_some h
    refine wos_at (fun m => ?_) (b3.at (bag1.nb z) h2)
    rcases List.mem_append.mp m with m | m
    · obtain ⟨o1, k⟩ := (i1 m).2.2.1
      rw [z] at k
      cases k
    · have k := (i3 m).2.2.1
      rw [h2] at k
      cases k
  · obtain ⟨z, h3⟩ := fr_some h
    refine wos_at (fun m => ?_) h3
    rcases List.mem_append.mp m with m | m
    · obtain ⟨o1, k⟩ := (i1 m).2.2.2.1
      rw [z] at k
      cases k
    · obtain ⟨o1, k⟩ := (i2 m).2.2.2.1
      rw [z] at k
      cases k
  · have fin : ∀ {o : HO}, H3 a = some o → H3 a ≠ none := fun h => by
      rw [h]
      exact nofun
    rcases List.mem_append.mp m with m | m
    · obtain ⟨h1, h2, _, _, o, h⟩ := i1 m
      exact ⟨h1, h2, fin h⟩
    · rcases List.mem_append.mp m with m | m
      · obtain ⟨h1, h2, _, _, o, h⟩ := i2 m
        exact ⟨h1, h2, fin h⟩
      · obtain ⟨h1, h2, _, o, h⟩ := i3 m
        exact ⟨h1, h2, fin h⟩
theorem Tg.out {K : PySem.W.Frag} {n : Nat} {l : List Addr} {H : Hp} {v : V} {r : List Addr} (t : Tg K n (wos l H) v r) {a : Addr} (m : a ∈ r) : a ∉ l := by
  rcases t.root m with ⟨_, h⟩ | ⟨_, h⟩
  · exact (wos_some h).1
  · exact (wos_some h).1
/-- the state, from things and errors -/
theorem St.of {K : PySem.W.Frag} {C : Nat → Addr} {n : Nat} {b c p : Addr} {as : List Addr} {one two three : V} {r1 r2 r3 : List Addr} {H H' : Hp} (bag : Bg H b c) (t1 : Tg K n (wos (r2 ++ r3) H) one r1) (t2 : Tg K n (wos (r1 ++ r3) H) two r2)
    (t3 : Tg K n (wos (r1 ++ r2) H) three r3) (ne : ∀ a ∈ r1 ++ (r2 ++ r3), a ≠ b ∧ a ≠ c ∧ H a ≠ none) (s : Same H H') (np : H p = none) (hp : H' p = some (.lst (as.map V.ref))) (hl : as.length = 28) (er : ErrN H' C [one, two, three] 0 as) :
    St K C n b c p as one two three r1 r2 r3 H' := by
  have t1' := t1.same (wos_same s)
  have t2' := t2.same (wos_same s)
  have t3' := t3.same (wos_same s)
  exact ⟨bag.same s, t1', t2', t3', fun x m => ⟨(ne x m).1, (ne x m).2.1, fun z => (ne x m).2.2 (by rw [z]; exact np)⟩, hp, hl, fun i x hx => Err.wos (er i x hx) fun y m => roots_at t1' t2' t3' m⟩
theorem put_a : putK dA (.inr "b") (.int 2) = dB := by rfl
theorem put_b : putK dB (.inr "b") (.int 2) = dB := by rfl
/-- the class of a thing that can't be changed -/
theorem Tg.ty {K : PySem.W.Frag} {n : Nat} {H : Hp} {v : V} (t : Tg K n H v []) : ∃ tn : String, TyX K H v (.type tn) ∧ kitB tn "list" = some false ∧ kitB tn "dict" = some false := by
  cases t with
  | flat f d g =>
    cases d with
    | non => exact ⟨"NoneType", .base .non, by decide +kernel, by decide +kernel⟩
    | bl b => exact ⟨"bool", .base (.bl b), by decide +kernel, by decide +kernel⟩
    | int i => exact ⟨"int", .base (.int i), by decide +kernel, by decide +kernel⟩
    | str x => exact ⟨"str", .base (.str x), by decide +kernel, by decide +kernel⟩
    | lst h _ _ => cases f
    | tup h _ => cases f
    | dct h _ => cases f
  | tup h d g => exact ⟨"tuple", .base (.tup h), by decide +kernel, by decide +kernel⟩
theorem walk_enum {K : PySem.W.Frag} {a : Addr} {xs : List V} : Walk (Ite K a) xs.length (fun H => H a = some (.lst xs)) (fun i H v H' => ∃ T x, v = .ref T ∧ H T = none ∧ H' = upd H T (.tup [.int (i : Nat), x]) ∧ xs[i]? = some x) :=
  ⟨fun i H hi h => ⟨xs, xs[i], .inl (.inl h), List.getElem?_eq_getElem hi⟩, fun H h => ⟨xs, .inl (.inl h), Nat.le_refl _⟩, fun i H v H' _ h ⟨T, x, e1, e2, e3, e4⟩ => ⟨T, x, e1, e2, e3, e4 xs (.inl (.inl h))⟩⟩
theorem walk_28 : Walk (Itr 0 28) (List.range 28).length (fun _ => True) (fun i H x H' => H' = H ∧ ∃ j, (List.range 28)[i]? = some j ∧ x = V.int ((j : Nat) : Int)) :=
  (walk_range (lo := 0) (n := 28)).mono (fun _ h => h) fun i H x H' hi _ y => ⟨y.1, i, by rw [List.getElem?_range hi], y.2.trans (congrArg V.int (by omega))⟩
end K11
set_option Elab.async false
set_option linter.all false
set_option maxRecDepth 100000
set_option maxHeartbeats 4000000
/-! K11h: the law -/
namespace K11
open PySem PySem.Spec PyProof.Rows L2 GL
section
variable {X : Cx} {p : Pos}
theorem pe_tL (hm : X.mg "list" = none) (hg : Gl X "list" := by rfl) : PE X (.Name "list" p) (tC (.ty "list")) := pe_bltn (u := .type "list") hg hm (by decide +kernel) (show RelV (.ty "list") (.type "list") from rfl)
theorem pe_tD (hm : X.mg "dict" = none) (hg : Gl X "dict" := by rfl) : PE X (.Name "dict" p) (tC (.ty "dict")) := pe_bltn (u := .type "dict") hg hm (by decide +kernel) (show RelV (.ty "dict") (.type "dict") from rfl)
theorem pe_tV (hm : X.mg "ValueError" = none) (hg : Gl X "ValueError" := by rfl) : PE X (.Name "ValueError" p) (tC (.ty "ValueError")) := pe_bltn (u := .type "ValueError") hg hm (by decide +kernel) (show RelV (.ty "ValueError") (.type "ValueError") from rfl)
end
abbrev N_law : List Str := ["_law_script", "_law_bag_here", "_law_turn", "_law_one", "_law_two", "_law_three", "_law_some", "_law_again", "_law_thing_here", "_law_at", "_law_e", "_law_k"]
section
variable {P : Program} {w : World} {K : PySem.W.Frag} {mg : Str → Option Value} {base : Heap} {C : Nat → Addr} {A0 : Addr}
theorem sc_law : FnScope ["_law_script", "_law_bag_here", "_law_turn", "_law_one", "_law_two", "_law_three", "_law_some", "_law_again", "_law_thing_here", "_law_at", "_law_e", "_law_k"] ["_law_script"] (defScope s_law) := ⟨rfl, rfl, rfl, by decide +kernel, rfl, by decide +kernel, by decide +kernel⟩
def spLaw (K : PySem.W.Frag) : Sp := fun vs H Q _ => ∃ (a : Addr) (ns : List Int), vs = [.ref a] ∧ SqL K H a (ns.map V.int) ∧ ns.length ≤ 63 ∧ ∀ H', Q (.bl true) H'
theorem ok_law {f : Addr} {fd : FuncData} (F : Fun K "law" "law" s_law f fd) (T : TxtE K mg C A0)
    (GB : Cl P w K mg base 1 "_law_bag" (spBag K)) (GH : Cl P w K mg base 2 "_law_thing" (spThing K)) (GE : Cl P w K mg base 3 "_law_errors" (spErrors C)) (GK : Cl P w K mg base 1 "_law_kinds" (spKinds K C))
    (GF : Cl P w K mg base 1 "_law_fields" (spFields C)) (GA : ClG P w K mg base 3 "_law_alike" (spAlike K)) :
    FnG P w K mg base 4 f fd ["_law_script"] (spLaw K) := by
  refine okG F sc_law (fun vs H Q E h => ?_) (fun cdv A outer s H vs Q E hG hr h => ?_)
  · obtain ⟨a, ns, rfl, _⟩ := h
    rfl
  · obtain ⟨a, ns, rfl, hS, hlen, q⟩ := h
    have hu : (A.deeper (envOfC "law" (defScope s_law) s.heap.objs.size f cdv)).units + 66 < cLine := by
      have := hr.un
      omega
    have hu1 : (A.deeper (envOfC "law" (defScope s_law) s.heap.objs.size f cdv)).units + 1 < cLine := by omega
    have gA := T.gA
    refine ⟨_, (C8.pss_cut (ps_set (i := 1) sc_law.nd rfl (.inl rfl) (pe_cl GB hr (by decide) (by rfl) (pa_cons (pv 0) pa_nil)))
      (pss_cons (ps_for PassesOwn.never rfl (pi_range1 (by rfl) T.t.m_range (pa_cons pe_int pa_nil)) (pg_name (i := 2) sc_law.nd rfl (.inl rfl))
        (C8.pss_cut (ps_par3 (i := 3) (j := 4) (l := 5) rfl sc_law.nd rfl rfl rfl (by decide) (by decide) (by decide) rfl rfl rfl (pa_cons (pe_cl GH hr (by decide) (by rfl) (pa_cons (pv 1) pa_nil)) (pa_cons (pe_cl GH hr (by decide) (by rfl) (pa_cons (pv 1) pa_nil)) (pa_cons (pe_cl GH hr (by decide) (by rfl) (pa_cons (pv 1) pa_nil)) pa_nil))) (by rfl))
        (C8.pss_cut (ps_set (i := 6) sc_law.nd rfl (.inl rfl) (pe_cl GE hr (by decide) (by rfl) (pa_cons (pv 3) (pa_cons (pv 4) (pa_cons (pv 5) pa_nil)))))
        (C8.pss_cut (ps_for PassesOwn.never rfl (pi_range1 (by rfl) T.t.m_range (pa_cons pe_int pa_nil)) (pg_name (i := 7) sc_law.nd rfl (.inl rfl))
          (pss_cons (ps_if (pt_not (pt_val (pe_clG GA hG hr (by decide) (by rfl) (pa_cons (pe_cl GF hr (by decide) (by rfl) (pa_cons (pv 6) pa_nil)) (pa_cons (pe_tup (pa_cons (pe_op op_repS (pe_lstS (pa_cons (pv 3) pa_nil)) pe_int) (pa_cons (pe_op op_repS (pe_lstS (pa_cons (pv 4) pa_nil)) pe_int) (pa_cons (pe_lstS (pa_cons (pv 5) pa_nil)) pa_nil)))) pa_nil)))))
            (pss_one (ps_ret pe_bl))
            pss_nil)
          (pss_one (ps_for PassesOwn.never rfl (pi_tup (pe_tup (pa_cons (pv 3) (pa_cons (pv 4) (pa_cons (pv 5) pa_nil))))) (pg_name (i := 8) sc_law.nd rfl (.inl rfl))
            (pss_cons (ps_if (pt_val (pe_callB call_isi (by rfl) T.t.m_isinstance (by decide +kernel) (pa_cons (pv 8) (pa_cons (pe_tL T.t.m_list) pa_nil))))
              (pss_one (ps_expr (pe_bm PySem.F.plainAttrs_list PySem.F.slot_list_append PySem.F.type_list_append mt_append (pv 8) (pa_cons pe_str pa_nil))))
              pss_nil)
            (pss_one (ps_if (pt_val (pe_callB call_isi (by rfl) T.t.m_isinstance (by decide +kernel) (pa_cons (pv 8) (pa_cons (pe_tD T.t.m_dict) pa_nil))))
              (pss_one (ps_dput hu1 (pv 8) pe_str pe_int rfl))
              pss_nil)))))))
        (C8.pss_cut (ps_for PassesOwn.never rfl (pi_enum (by rfl) T.t.m_enumerate (pa_cons (pv 6) pa_nil)) (pg_tup (by rfl) (pgs_cons (pg_name (i := 9) sc_law.nd rfl (.inr rfl)) (pgs_cons (pg_name (i := 10) sc_law.nd rfl (.inl rfl)) pgs_nil)))
          (pss_cons (ps_if (pt_cmpR (op_neD hr.units) (pe_cl GK hr (by decide) (by rfl) (pa_cons (pv 10) pa_nil)) (pe_lc (own := [("_law_k", 11)]) (g := (gName 11)) (tt := tYes) rfl sc_law.nd (pi_range1 (by rfl) T.t.m_range (pa_cons pe_int pa_nil)) (blkOk_by (N := N_law) (sc := defScope s_law) (by decide +kernel)) (fun _ _ _ _ _ => pg_name (i := 11) sc_law.nd rfl (.inl rfl)) (fun _ _ _ _ _ => pts_nil) (fun _ _ _ _ _ => (pe_cmpR op_eq (pv 11) (pv 9) (nomark _)))) (nomark _))
            (pss_one (ps_ret pe_bl))
            pss_nil)
          (pss_one (ps_if (PW.pt (pw_or (pt_not (pt_val (pe_callB call_isX (by rfl) T.t.m_isinstance (by decide +kernel) (pa_cons (pv 10) (pa_cons (pe_glob (by rfl) gA (show RelV (.ref A0) _ from rfl)) pa_nil))))) (pw_or1 (pt_not (pt_val (pe_callB call_isX (by rfl) T.t.m_isinstance (by decide +kernel) (pa_cons (pv 10) (pa_cons (pe_tV T.t.m_ValueError) pa_nil))))))))
            (pss_one (ps_ret pe_bl))
            pss_nil))))
        (pss_one (ps_for PassesOwn.never rfl (pi_list (pe_lst (pa_cons (pe_excA PySem.F.excBase_ValueError T.exc gA T.keep (by rfl) (pa_cons (pv 3) pa_nil)) (pa_cons (pe_excA0 PySem.F.excBase_ValueError T.exc gA T.keep (by rfl)) (pa_cons (pe_excA PySem.F.excBase_ValueError T.exc gA T.keep (by rfl) (pa_cons pe_str (pa_cons pe_int pa_nil))) pa_nil))))) (pg_name (i := 10) sc_law.nd rfl (.inl rfl))
          (pss_one (ps_if (PW.pt (pw_or (pt_cmpR op_in_seq pe_bl (pe_cl GK hr (by decide) (by rfl) (pa_cons (pv 10) pa_nil)) (by rfl)) (pw_or1 (pt_not (pt_val (pe_callB call_isX (by rfl) T.t.m_isinstance (by decide +kernel) (pa_cons (pv 10) (pa_cons (pe_tV T.t.m_ValueError) pa_nil))))))))
            (pss_one (ps_ret pe_bl))
            pss_nil)))))))))
      (pss_one (ps_ret pe_bl)))), ?_⟩
    -- the bag
    refine ⟨fun σ H' => ∃ b c, σ = [some (.ref a), some (.ref b), none, none, none, none, none, none, none, none, none, none] ∧ Bg H' b c, ?_, ?_⟩
    · refine ⟨.ref a, rfl, a, ns, rfl, hS, hlen, fun b H' _ _ ⟨c, bag⟩ => ⟨b, c, rfl, bag⟩⟩
    · rintro σ HA ⟨b, c, rfl, bagA⟩
      refine ⟨5, rfl, by decide, by decide, ?_⟩
      refine for_range (n := 5) (lo := 0) (fun i σ H => ∃ y2 y3 y4 y5 y6 y7 y8 y9 y10, σ = [some (.ref a), some (.ref b), y2, y3, y4, y5, y6, y7, y8, y9, y10, none] ∧ Bg H b c) ⟨none, none, none, none, none, none, none, none, none, rfl, bagA⟩ (fun i σ H0 _ hP => ?_) (fun σ H _ => q _)
      obtain ⟨y2, y3, y4, y5, y6, y7, y8, y9, y10, rfl, bag0⟩ := hP
      -- the three
      refine ⟨fun σ H' => ∃ one two three r1 r2 r3, σ = [some (.ref a), some (.ref b), some (.int (0 + (i : Nat))), some one, some two, some three, y6, y7, y8, y9, y10, none] ∧ Bg H' b c ∧
        Tg K 500 (wos (r2 ++ r3) H') one r1 ∧ Tg K 500 (wos (r1 ++ r3) H') two r2 ∧ Tg K 500 (wos (r1 ++ r2) H') three r3 ∧ (∀ a ∈ r1 ++ (r2 ++ r3), a ≠ b ∧ a ≠ c ∧ H' a ≠ none), ?_, ?_⟩
      · refine ⟨.ref b, rfl, b, c, rfl, bag0, fun H1 one r1 b1 bag1 t1 => ⟨.ref b, rfl, b, c, rfl, bag1, fun H2 two r2 b2 bag2 t2 => ⟨.ref b, rfl, b, c, rfl, bag2, fun H3 three r3 b3 bag3 t3 => ?_⟩⟩⟩
        obtain ⟨u1, u2, u3, ne⟩ := three_draw bag0 bag1 bag2 b1 b2 b3 t1 t2 t3
        exact ⟨one, two, three, rfl, one, two, three, r1, r2, r3, rfl, bag3, u1, u2, u3, ne⟩
      · rintro σ H1 ⟨one, two, three, r1, r2, r3, rfl, bag1, t1, t2, t3, ne⟩
        -- the errors
        refine ⟨fun σ H' => ∃ p as, σ = [some (.ref a), some (.ref b), some (.int (0 + (i : Nat))), some one, some two, some three, some (.ref p), y7, y8, y9, y10, none] ∧ K11.St K C 500 b c p as one two three r1 r2 r3 H', ?_, ?_⟩
        · refine ⟨one, rfl, two, rfl, three, rfl, one, two, three, rfl, fun H' p as s np hp hl er => ⟨p, as, rfl, ?_⟩⟩
          exact .of bag1 t1 t2 t3 ne s np hp hl er
        · rintro σ H2 ⟨p, as, rfl, st⟩
          -- twice
          refine ⟨fun σ H' => ∃ y7 y8, σ = [some (.ref a), some (.ref b), some (.int (0 + (i : Nat))), some one, some two, some three, some (.ref p), y7, y8, y9, y10, none] ∧ K11.St K C 600 b c p as one two three r1 r2 r3 H', ?_, ?_⟩
          · refine ⟨2, rfl, by decide, by decide, ?_⟩
            refine for_range (n := 2) (lo := 0) (fun j σ H => ∃ y7 y8, σ = [some (.ref a), some (.ref b), some (.int (0 + (i : Nat))), some one, some two, some three, some (.ref p), y7, y8, y9, y10, none] ∧ K11.St K C (500 + 30 * j) b c p as one two three r1 r2 r3 H)
              ⟨y7, y8, rfl, st⟩ (fun j σ H0 hj hP => ?_) (fun σ H hP => ?_)
            · obtain ⟨y7, y8, rfl, st⟩ := hP
              refine ⟨.ref p, rfl, p, as, one, two, three, rfl, st.hp, st.hl, st.er.same wos_le, fun H3 t l1 l2 l3 s3 nt o1 o2 o3 h0 h1 h2 h3 => ?_⟩
              have tri3 : Tri H3 t one two three := ⟨l1, l2, l3, o1, o2, o3, h0, h1, h2, h3⟩
              refine ⟨one, rfl, le_line (by show 1 ≤ 100000; decide), fun k1 n1 _ => ⟨k1, 21, [one], rfl, rfl, upd_same, by decide, by decide, by show 1 ≤ 100; decide, fun m1 nm1 om1 => ?_⟩⟩
              refine ⟨two, rfl, le_line (by show 1 ≤ 100000; decide), fun k2 n2 _ => ⟨k2, 3, [two], rfl, rfl, upd_same, by decide, by decide, by show 1 ≤ 100; decide, fun m2 nm2 om2 => ?_⟩⟩
              refine ⟨three, rfl, le_line (by show 1 ≤ 100000; decide), fun m3 nm3 om3 => ⟨le_line (by show 3 ≤ 100000; decide), fun u nu => ?_⟩⟩
              have e1 := same_new (o := .lst [one]) n1
              have e2 := same_new (o := .lst (List.replicate 21 one)) nm1
              have e3 := same_new (o := .lst [two]) n2
              have e4 := same_new (o := .lst (List.replicate 3 two)) nm2
              have e5 := same_new (o := .lst [three]) nm3
              have e6 := same_new (o := .tup [.ref m1, .ref m2, .ref m3]) nu
              have f5 := e5.trans e6
              have f4 := Same.trans e4 f5
              have f3 := e3.trans f4
              have f2 := Same.trans e2 f3
              have f1 := e1.trans f2
              have stu := st.same (s3.trans f1)
              have triu : Tri _ u one two three := ⟨m1, m2, m3, om1, om2, om3, upd_same, f3 _ _ upd_same, f5 _ _ upd_same, e6 _ _ upd_same⟩
              obtain ⟨d, d1, d2, d3, d4, d5, d6⟩ := alike_use (n := 500 + 30 * j) (by omega) (tri3.same f1) triu (stu.t1.same wos_le) (stu.t2.same wos_le) (stu.t3.same wos_le)
              refine ⟨t, u, d, rfl, d1, d2, d3, d4, d5, d6, fun H4 s4 => ⟨_, rfl, iteF ?_⟩⟩
              have st4 := stu.same s4
              clear d1 d2 d3 stu triu f1 f2 f3 f4 f5 e1 e2 e3 e4 e5 e6 tri3
              -- the things in turn
              refine ⟨one, rfl, two, rfl, three, rfl, le_line (by show 3 ≤ 100000; decide), fun v nv => ⟨v, rfl, ⟨_, .inl (.inl upd_same)⟩, ?_⟩⟩
              have st5 := st4.same (same_new (o := .tup [one, two, three]) nv)
              refine for_tup (xs := [one, two, three]) (fun k σ H => ∃ y8, σ = [some (.ref a), some (.ref b), some (.int (0 + (i : Nat))), some one, some two, some three, some (.ref p), some (.int (0 + (j : Nat))), y8, y9, y10, none] ∧
                K11.St K C (500 + 30 * j + 10 * k) b c p as one two three r1 r2 r3 H ∧ H v = some (.tup [one, two, three])) ⟨y8, rfl, st5, upd_same⟩ (fun k σ H _ hP => ?_) (fun k x σ H hx hP => ?_) (fun σ H hP => ?_)
              · obtain ⟨_, _, _, h⟩ := hP
                exact .inl (.inl h)
              · obtain ⟨y8, rfl, s, hv⟩ := hP
                have hk : k < 3 := (List.getElem?_eq_some_iff.mp hx).1
                have key : ∃ L r, Tg K (500 + 30 * j + 10 * k) (wos L H) x r ∧ ∀ H', Grow H r H' → Tg K (500 + 30 * j + 10 * k + 10) (wos L H') x r →
                    K11.St K C (500 + 30 * j + 10 * (k + 1)) b c p as one two three r1 r2 r3 H' ∧ H' v = some (.tup [one, two, three]) := by
                  have nv := s.notup hv
                  have en : 500 + 30 * j + 10 * (k + 1) = 500 + 30 * j + 10 * k + 10 := by omega
                  rw [en]
                  match k, hx with
                  | 0, hx =>
                    cases (show some one = some x from hx)
                    exact ⟨_, _, s.t1, fun H' g t => ⟨s.grow1 g (by omega) t, g.at (fun m => nv (List.mem_append_left _ m)) hv⟩⟩
                  | 1, hx =>
                    cases (show some two = some x from hx)
                    exact ⟨_, _, s.t2, fun H' g t => ⟨s.grow2 g (by omega) t, g.at (fun m => nv (List.mem_append_right _ (List.mem_append_left _ m))) hv⟩⟩
                  | 2, hx =>
                    cases (show some three = some x from hx)
                    exact ⟨_, _, s.t3, fun H' g t => ⟨s.grow3 g (by omega) t, g.at (fun m => nv (List.mem_append_right _ (List.mem_append_right _ m))) hv⟩⟩
                  | k + 3, hx => cases hx
                obtain ⟨L, r, t, fin⟩ := key
                have still : r = [] → ∃ y8, [some (.ref a), some (.ref b), some (.int (0 + (i : Nat))), some one, some two, some three, some (.ref p), some (.int (0 + (j : Nat))), some x, y9, y10, none] =
                    [some (.ref a), some (.ref b), some (.int (0 + (i : Nat))), some one, some two, some three, some (.ref p), some (.int (0 + (j : Nat))), y8, y9, y10, none] ∧
                    K11.St K C (500 + 30 * j + 10 * (k + 1)) b c p as one two three r1 r2 r3 H ∧ H v = some (.tup [one, two, three]) := fun _ =>
                  ⟨_, rfl, fin H .same (t.more (by omega))⟩
                have ty0 : r = [] → ∃ tn : String, TyX K H x (.type tn) ∧ kitB tn "list" = some false ∧ kitB tn "dict" = some false := fun e => by
                  subst e
                  exact (t.same wos_le).ty
                cases t with
                | flat f d g =>
                  obtain ⟨tn, ty, k1, k2⟩ := ty0 rfl
                  exact ⟨x, rfl, x, .ty "list", _, _, false, rfl, .ty _, ty, kit_ty k1, _, rfl, iteF ⟨x, rfl, x, .ty "dict", _, _, false, rfl, .ty _, ty, kit_ty k2, _, rfl, iteF (still rfl)⟩⟩
                | tup h d g =>
                  obtain ⟨tn, ty, k1, k2⟩ := ty0 rfl
                  exact ⟨_, rfl, _, .ty "list", _, _, false, rfl, .ty _, ty, kit_ty k1, _, rfl, iteF ⟨_, rfl, _, .ty "dict", _, _, false, rfl, .ty _, ty, kit_ty k2, _, rfl, iteF (still rfl)⟩⟩
                | @lst a0 xs ds h o l d g =>
                  obtain ⟨hnL, hH⟩ := wos_some h
                  refine ⟨.ref a0, rfl, .ref a0, .ty "list", .type "list", _, true, rfl, .ty _, .base (.lst hH), kit_ty (by decide +kernel), _, rfl, iteT ?_⟩
                  refine ⟨.ref a0, rfl, .inl ⟨rfl, _, .inl (.inl hH)⟩, a0, xs, .str "new", rfl, rfl, hH, le_line (by omega), ?_⟩
                  refine ⟨.ref a0, rfl, .ref a0, .ty "dict", .type "list", _, false, rfl, .ty _, .base (.lst upd_same), kit_ty (by decide +kernel), _, rfl, iteF ?_⟩
                  exact ⟨_, rfl, fin _ (.upd (List.mem_singleton.mpr rfl)) (Tg.app hnL o l d g)⟩
                | @dct a0 kvs h kk =>
                  obtain ⟨hnL, hH⟩ := wos_some h
                  refine ⟨.ref a0, rfl, .ref a0, .ty "list", .type "dict", _, false, rfl, .ty _, .base (.dK hH), kit_ty (by decide +kernel), _, rfl, iteF ?_⟩
                  refine ⟨.ref a0, rfl, .ref a0, .ty "dict", .type "dict", _, true, rfl, .ty _, .base (.dK hH), kit_ty (by decide +kernel), _, rfl, iteT ?_⟩
                  refine ⟨.ref a0, rfl, a0, _, rfl, DPut.k (k := .inr "b") hH ?_, ?_⟩
                  · rcases kk with rfl | rfl
                    · exact le_line (by show 2 ≤ 100000; decide)
                    · exact le_line (by show 3 ≤ 100000; decide)
                  · have e : putK kvs (.inr "b") (.int 2) = dB := by
                      rcases kk with rfl | rfl
                      · exact put_a
                      · exact put_b
                    rw [e]
                    exact ⟨_, rfl, fin _ (.upd (List.mem_singleton.mpr rfl)) (Tg.put hnL)⟩
              · obtain ⟨y8, rfl, s, _⟩ := hP
                exact ⟨_, _, rfl, s.more (by show 500 + 30 * j + 10 * 3 ≤ 500 + 30 * (j + 1); omega)⟩
            · obtain ⟨y7, y8, rfl, st⟩ := hP
              exact ⟨y7, y8, rfl, st.more (by decide)⟩
          · rintro σ H3 ⟨y7, y8, rfl, st⟩
            -- each error
            refine ⟨fun σ H' => ∃ y9 y10, σ = [some (.ref a), some (.ref b), some (.int (0 + (i : Nat))), some one, some two, some three, some (.ref p), y7, y8, y9, y10, none] ∧ Bg H' b c, ?_, ?_⟩
            · refine ⟨.ref p, rfl, p, _, rfl, .inl (.inl st.hp), ?_⟩
              refine for_it (K11.walk_enum (xs := as.map V.ref)) (fun k σ H => ∃ y9 y10, σ = [some (.ref a), some (.ref b), some (.int (0 + (i : Nat))), some one, some two, some three, some (.ref p), y7, y8, y9, y10, none] ∧
                K11.St K C 600 b c p as one two three r1 r2 r3 H) ⟨y9, y10, rfl, st⟩ (fun k σ H _ hP => ?_) (fun k x σ H H' hk hP hY => ?_) (fun σ H hP => ?_)
              · obtain ⟨_, _, _, s⟩ := hP
                exact s.hp
              · obtain ⟨y9, y10, rfl, s0⟩ := hP
                obtain ⟨T0, x0, rfl, nT, rfl, hx⟩ := hY
                have s := s0.same (same_new (o := .tup [.int (k : Nat), x0]) nT)
                have hk2 : k < 28 := by
                  rw [List.length_map, s.hl] at hk
                  exact hk
                have hka : k < as.length := by rw [s.hl]; exact hk2
                have ex : x0 = .ref as[k] := by
                  rw [List.getElem?_map, List.getElem?_eq_getElem hka] at hx
                  exact (Option.some.inj hx).symm
                subst ex
                have er := s.er k as[k] (List.getElem?_eq_getElem hka)
                rw [Nat.zero_add] at er
                have ie := IsErr.same (.inl ⟨_, er⟩) (wos_le)
                refine ⟨T0, _, rfl, .inl (.inl upd_same), rfl, _, _, rfl, _, _, rfl, rfl, ?_⟩
                refine ⟨.ref as[k], rfl, as[k], C k, (fun j => decide (j = k)), rfl, ie, T.ex k hk2, fun j hj => T.kit k j hk2 hj, fun H4 q4 s4 nq4 hq4 => ?_⟩
                refine ⟨28, rfl, by decide, by decide, fun D nD => ?_⟩
                refine lc_pure (as := List.range 28) (emb := fun j => .int ((j : Nat) : Int)) walk_28 (fun i H x H' h => h) (fun l => True.intro) (small1000 (by decide)) (fun _ => true) (fun j => .bl (decide (j = k))) (fun j hj l R S hR _ => ?_) ?_
                · refine ⟨rfl, .int ((j : Nat) : Int), rfl, .int ((k : Nat) : Int), rfl, rfl, ?_⟩
                  have e : decide (V.int ((j : Nat) : Int) = V.int ((k : Nat) : Int)) = decide (j = k) := decide_eq_decide.mpr ⟨fun e => by injection e with e; omega, fun e => by rw [e]⟩
                  rw [e]
                  exact hR rfl
                · rw [List.filter_eq_self.mpr (fun _ _ => rfl)]
                  have s5 := s4.trans (same_new (o := .lst ((List.range 28).map fun j => V.bl (decide (j = k)))) nD)
                  have dd : ∀ {G : Hp} {a : Addr}, G a = some (.lst ((List.range 28).map fun j => V.bl (decide (j = k)))) → Dp K G (.ref a) (.list ((List.range 28).map fun j => PyData.bool (decide (j = k)))) := fun h => by
                    refine .lst (.inl (.inl h)) ?_
                    have e1 : ((List.range 28).map fun j => V.bl (decide (j = k))) = (((List.range 28).map fun j => decide (j = k)).map V.bl) := by rw [List.map_map]; rfl
                    have e2 : ((List.range 28).map fun j => PyData.bool (decide (j = k))) = (((List.range 28).map fun j => decide (j = k)).map PyData.bool) := by rw [List.map_map]; rfl
                    rw [e1, e2]
                    exact Dp.bools _
                  have lay : (PyData.list ((List.range 28).map fun j => PyData.bool (decide (j = k)))).canLay0 = true := rfl
                  have sh : SeqAt.shaped (PyData.list ((List.range 28).map fun j => PyData.bool (decide (j = k)))) = true := rfl
                  refine ⟨_, _, dd ((same_new nD) _ _ hq4), dd upd_same, sh, sh, _, rfl, ?_⟩
                  rw [SeqAt.eqv_refl _ lay]
                  refine iteF ?_
                  have ie5 := IsErr.same ie s5
                  refine ⟨.ref as[k], rfl, as[k], C k, .ref A0, .ref A0, true, rfl, .own _, ie5, T.ex k hk2, T.kitA k hk2, _, rfl, iteF ?_⟩
                  refine ⟨.ref as[k], rfl, as[k], C k, .ty "ValueError", .type "ValueError", true, rfl, .ty _, ie5, T.ex k hk2, T.kitV k hk2, _, rfl, iteF ?_⟩
                  exact ⟨_, _, rfl, s.same s5⟩
              · obtain ⟨y9, y10, rfl, s⟩ := hP
                exact ⟨_, _, rfl, s.bag⟩
            · rintro σ H4 ⟨y9, y10, rfl, bag4⟩
              refine ⟨one, rfl, by show 1 ≤ 1000; decide, fun a1 n1 => ?_⟩
              intro a2 n2
              refine ⟨by show 2 ≤ 1000; decide, fun a3 n3 => ⟨le_line (by show 3 ≤ 100000; decide), fun L nL => ⟨L, rfl, ⟨_, .inl (.inl upd_same)⟩, ?_⟩⟩⟩
              have e1 := same_new (o := ExO (.ref A0) a1) n1
              have e2 := same_new (o := ExO (.ref A0) a2) n2
              have e3 := same_new (o := ExO (.ref A0) a3) n3
              have e4 := same_new (o := .lst [.ref a1, .ref a2, .ref a3]) nL
              have f3 := e3.trans e4
              have f2 := e2.trans f3
              have f1 := e1.trans f2
              refine for_list (xs := [.ref a1, .ref a2, .ref a3]) (fun k σ H => ∃ y10, σ = [some (.ref a), some (.ref b), some (.int (0 + (i : Nat))), some one, some two, some three, some (.ref p), y7, y8, y9, y10, none] ∧ Bg H b c ∧
                H L = some (.lst [.ref a1, .ref a2, .ref a3]) ∧ H a1 = some (ExO (.ref A0) a1) ∧ H a2 = some (ExO (.ref A0) a2) ∧ H a3 = some (ExO (.ref A0) a3))
                ⟨y10, rfl, bag4.same f1, upd_same, f2 _ _ upd_same, f3 _ _ upd_same, e4 _ _ upd_same⟩ (fun k σ H _ hP => ?_) (fun k x σ H hx hP => ?_) (fun σ H hP => ?_)
              · obtain ⟨_, _, _, h, _⟩ := hP
                exact .inl (.inl h)
              · obtain ⟨y10, rfl, bag5, hL, h1, h2, h3⟩ := hP
                have hm := List.mem_of_getElem? hx
                have key : ∃ e, x = .ref e ∧ H e = some (ExO (.ref A0) e) := by
                  simp only [List.mem_cons, List.not_mem_nil, or_false] at hm
                  rcases hm with rfl | rfl | rfl
                  · exact ⟨_, rfl, h1⟩
                  · exact ⟨_, rfl, h2⟩
                  · exact ⟨_, rfl, h3⟩
                obtain ⟨e, rfl, he⟩ := key
                refine ⟨.ref e, rfl, e, A0, (fun _ => false), rfl, .inr he, T.exA, fun j hj => T.kitAj j hj, fun H5 q5 s5 nq5 hq5 => ?_⟩
                refine ⟨q5, _, rfl, .inl (.inl (.inl hq5)), rfl, rfl, ?_⟩
                refine ⟨_, rfl, iteF ?_⟩
                refine ⟨.ref e, rfl, e, A0, .ty "ValueError", .type "ValueError", true, rfl, .ty _, .inr (s5 _ _ he), T.exA, T.kitAV, _, rfl, iteF ?_⟩
                exact ⟨_, rfl, bag5.same s5, s5 _ _ hL, s5 _ _ h1, s5 _ _ h2, s5 _ _ h3⟩
              · obtain ⟨y10, rfl, bag5, _⟩ := hP
                exact ⟨_, _, _, _, _, _, _, _, _, rfl, bag5⟩
end
end K11
set_option Elab.async false
set_option linter.all false
set_option maxRecDepth 100000
set_option maxHeartbeats 4000000
/-! K11i: what the classes' objects say -/
namespace K11
open PySem PySem.Spec PyProof.Rows L2 GL
section
variable {K : PySem.W.Frag} {C A : Addr} {nm q : Str} {N : Addr} {bs bm : List Value} {sn : List Str} {sub : List Value} {ab : Bool} {col : Option Bool} {dd : Option Addr} {k0 k1 k2 k3 k5 : Option Value}
theorem x_cls (x : K.lookup C = some (excClassObj nm q C N bs bm true sn sub ab col dd k0 k1 k2 k3 k5 "ValueError.__new__")) : ∃ cd, PySem.W.clsIn K C = some cd ∧ cd.mro = .ref C :: bm ∧ cd.hasDict = true := by
  unfold PySem.W.clsIn
  rw [x]
  exact ⟨_, rfl, rfl, rfl⟩
theorem x_ty (x : K.lookup C = some (excClassObj nm q C N bs bm true sn sub ab col dd k0 k1 k2 k3 k5 "ValueError.__new__")) : PySem.W.typeIn K (.ref C) = some (.type "type") := by
  show Option.map (fun x => x.cls) (List.lookup C K) = _
  rw [x]
  rfl
theorem x_keep (x : K.lookup C = some (excClassObj nm q C N bs bm true sn sub ab col dd k0 k1 k2 k3 k5 "ValueError.__new__")) : PySem.W.keepIn K (.ref C) = true := by
  have t := x_ty x
  have k : PySem.W.specialIn K (.ref C) "__call__" = some (some (.builtin "type.__call__")) := by
    unfold PySem.W.specialIn
    rw [t]
    exact (by decide +kernel : PySem.fastLookup "type" "__call__" = some (some (.builtin "type.__call__")))
  unfold PySem.W.keepIn
  simp only [x]
  show (PySem.W.specialIn K (.ref C) "__call__" == some (some (.builtin "type.__call__"))) = true
  rw [k]
  decide +kernel
theorem x_sub (x : K.lookup C = some (excClassObj nm q C N bs bm true sn sub ab col dd k0 k1 k2 k3 k5 "ValueError.__new__")) (b : Value) : PySem.W.subIn K (.ref C) b = some ((Value.ref C :: bm).contains b) := by
  obtain ⟨cd, e1, e2, _⟩ := x_cls x
  show PySem.W.mroIn K C b = _
  unfold PySem.W.mroIn
  rw [e1]
  show (if cd.mro.isEmpty = true then none else some (cd.mro.contains b)) = _
  rw [e2]
  rfl
theorem x_dict (x : K.lookup C = some (excClassObj nm q C N bs bm true sn sub ab col dd k0 k1 k2 k3 k5 "ValueError.__new__")) : PySem.W.hasDictIn K C = true := by
  obtain ⟨cd, e1, _, e3⟩ := x_cls x
  unfold PySem.W.hasDictIn
  rw [e1]
  exact e3
variable {D : Addr} {nm' q' : Str} {N' : Addr} {bs' bm' : List Value} {sn' : List Str} {sub' : List Value} {ab' : Bool} {col' : Option Bool} {dd' : Option Addr} {k0' k1' k2' k3' k5' : Option Value}
/-- isinstance by classes of exceptions -/
theorem x_kit (x : K.lookup C = some (excClassObj nm q C N bs bm true sn sub ab col dd k0 k1 k2 k3 k5 "ValueError.__new__")) (y : K.lookup D = some (excClassObj nm' q' D N' bs' bm' true sn' sub' ab' col' dd' k0' k1' k2' k3' k5' "ValueError.__new__")) :
    PySem.W.kitOne K (.ref C) (.ref D) = some ((Value.ref C :: bm).contains (.ref D)) := by
  unfold PySem.W.kitOne
  by_cases e : (Value.ref C == Value.ref D) = true
  · rw [if_pos e]
    have e' : Value.ref C = Value.ref D := beq_iff_eq.mp e
    rw [e', List.contains_cons, beq_self_eq_true, Bool.true_or]
  · rw [if_neg e]
    obtain ⟨cd, e1, _, _⟩ := x_cls y
    show (if ((PySem.W.clsIn K D).isSome && PySem.W.typeIn K (.ref D) == some (.type "type")) = true then PySem.W.subIn K (.ref C) (.ref D) else none) = _
    have t : ((PySem.W.clsIn K D).isSome && PySem.W.typeIn K (.ref D) == some (.type "type")) = true := by
      rw [e1, x_ty y]
      exact (by decide +kernel : (true && (some (Value.type "type") == some (Value.type "type"))) = true)
    rw [if_pos t]
    exact x_sub x _
theorem x_kitV (x : K.lookup C = some (excClassObj nm q C N bs bm true sn sub ab col dd k0 k1 k2 k3 k5 "ValueError.__new__")) : PySem.W.kitOne K (.ref C) (.type "ValueError") = some (bm.contains (.type "ValueError")) := by
  have e : (Value.ref C == Value.type "ValueError") = false := rfl
  unfold PySem.W.kitOne
  rw [e, if_neg Bool.false_ne_true]
  show (if PySem.W.kitMeta "ValueError" = true then PySem.W.subIn K (.ref C) (.type "ValueError") else none) = _
  have m : PySem.W.kitMeta "ValueError" = true := by decide +kernel
  rw [if_pos m, x_sub x, List.contains_cons]
  have e2 : (Value.type "ValueError" == Value.ref C) = false := rfl
  rw [e2, Bool.false_or]
theorem x_exc (x : K.lookup C = some (excClassObj nm q C N bs bm true sn sub ab col dd k0 k1 k2 k3 k5 "ValueError.__new__")) (hB : bm.contains (.type "BaseException") = true) (hO : bm.contains (.type "object") = true)
    (g : PySem.W.findIn K (.ref C) "__getattribute__" = some (some (.builtin "BaseException.__getattribute__"))) (h : PySem.W.findIn K (.ref C) "__getattr__" = some none) (c : PySem.W.findIn K (.ref C) "__class__" = some (some (.builtin "object.__class__")))
    (hn : PySem.W.specialIn K (.builtin "object.__class__") "__get__" = some (some (.builtin "getset_descriptor.__get__"))) (ht : PySem.W.takesIn K (.builtin "object.__class__") = some true) : ExcC K C := by
  refine ⟨g, h, ?_, x_dict x, c, hn, ht, ?_⟩
  · rw [x_sub x, List.contains_cons, hB, Bool.or_true]
  · have e := x_sub x (.type "object")
    rw [List.contains_cons, hO, Bool.or_true] at e
    exact e
theorem x_xf (x : K.lookup C = some (excClassObj nm q C N bs bm true sn sub ab col dd k0 k1 k2 k3 k5 "ValueError.__new__")) (hB : bm.contains (.type "BaseException") = true)
    (g : PySem.W.findIn K (.ref C) "__getattribute__" = some (some (.builtin "BaseException.__getattribute__"))) (h : PySem.W.findIn K (.ref C) "__getattr__" = some none) : XfC K C :=
  ⟨g, h, by rw [x_sub x, List.contains_cons, hB, Bool.or_true], x_dict x⟩
theorem x_oex (x : K.lookup C = some (excClassObj nm q C N bs bm true sn sub ab col dd k0 k1 k2 k3 k5 "ValueError.__new__")) (hB : bm.contains (.type "BaseException") = true) (hr : PySem.HandSPX.refsVE bm = true)
    (s : PySem.W.findIn K (.ref C) "__setattr__" = some (some (.builtin "object.__setattr__"))) : OexC K C :=
  ⟨⟨nm, q, N, bs, bm, sn, sub, ab, col, dd, k0, k1, k2, k3, k5, x, hr⟩, s, by rw [x_sub x, List.contains_cons, hB, Bool.or_true], x_ty x, x_keep x⟩
theorem f_ty {f : Addr} {oc : Value} {od : Option Addr} {fd : FuncData} {sl : Array (Option Value)} (l : K.lookup f = some ⟨.type "function", od, .func fd, sl⟩) : PySem.W.typeIn K (.ref f) = some (.type "function") := by
  show Option.map (fun x => x.cls) (List.lookup f K) = _
  rw [l]
  rfl
theorem f_keep {f : Addr} {oc : Value} {od : Option Addr} {fd : FuncData} {sl : Array (Option Value)} (l : K.lookup f = some ⟨oc, od, .func fd, sl⟩) : PySem.W.keepIn K (.ref f) = true := by
  unfold PySem.W.keepIn
  simp only [l]
abbrev veA (A : Addr) : List Value := [.ref A, .type "ValueError", .type "Exception", .type "BaseException", .type "object"]
theorem ve_B (A : Addr) : (veA A).contains (.type "BaseException") = true := rfl
theorem ve_O (A : Addr) : (veA A).contains (.type "object") = true := rfl
theorem ve_V (A : Addr) : (veA A).contains (.type "ValueError") = true := rfl
theorem ve_r (A : Addr) : PySem.HandSPX.refsVE (veA A) = true := by
  show PySem.HandSPX.refsVE [.type "ValueError", .type "Exception", .type "BaseException", .type "object"] = true
  decide +kernel
theorem ve_A {C A : Addr} : (Value.ref C :: veA A).contains (.ref A) = true := by simp
theorem ve_no {C A D : Addr} (h : D ≠ C) (k : D ≠ A) : (Value.ref C :: veA A).contains (.ref D) = false := by simp [h, k]
theorem ve_self {C A : Addr} : (Value.ref C :: veA A).contains (.ref C) = true := by simp
end
end K11
set_option Elab.async false
set_option linter.all false
set_option maxRecDepth 100000
set_option maxHeartbeats 4000000
/-! K11j: from what the top has left -/
namespace K11
open PySem PySem.Spec PyProof.Rows L2 GL
/-- a class of errors, as it stands -/
structure Own1 (K : PySem.W.Frag) (A C : Addr) (fs : List Str) : Prop where
  x : ∃ nm q N bs sn sub ab col dd k0 k1 k2 k3 k5, K.lookup C = some (excClassObj nm q C N bs (veA A) true sn sub ab col dd k0 k1 k2 k3 k5 "ValueError.__new__")
  ex : ExcC K C
  xf : XfC K C
  oex : OexC K C
  no : ∀ g ∈ fs, PySem.W.findIn K (.ref C) g = some none
/-- and its maker -/
structure Own2 (K : PySem.W.Frag) (A C f : Addr) (qn : Str) (st : Stmt) (fs : List Str) : Prop where
  o : Own1 K A C fs
  ini : PySem.W.findIn K (.ref C) "__init__" = some (some (.ref f))
  ty : PySem.W.typeIn K (.ref f) = some (.type "function")
  fn : ∃ fd, Fun K "__init__" qn st f fd
theorem own2 {K : PySem.W.Frag} {A C f : Addr} {qn : Str} {st : Stmt} {fs : List Str} {nm q : Str} {N : Addr} {bs : List Value} {sn : List Str} {sub : List Value} {ab : Bool} {col : Option Bool} {dd : Option Addr} {k0 k1 k2 k3 k5 : Option Value}
    {od an : Option Addr} {sl : Array (Option Value)} {kV dc pm cd ct : Value}
    (hn : PySem.W.specialIn K (.builtin "object.__class__") "__get__" = some (some (.builtin "getset_descriptor.__get__"))) (ht : PySem.W.takesIn K (.builtin "object.__class__") = some true)
    (x : K.lookup C = some (excClassObj nm q C N bs [.ref A, .type "ValueError", .type "Exception", .type "BaseException", .type "object"] true sn sub ab col dd k0 k1 k2 k3 k5 "ValueError.__new__"))
    (s : PySem.W.findIn K (.ref C) "__setattr__" = some (some (.builtin "object.__setattr__"))) (g : PySem.W.findIn K (.ref C) "__getattribute__" = some (some (.builtin "BaseException.__getattribute__"))) (h : PySem.W.findIn K (.ref C) "__getattr__" = some none) (y : PySem.W.findIn K (.ref C) "__class__" = some (some (.builtin "object.__class__")))
    (n : PySem.W.findIn K (.ref C) "__init__" = some (some (.ref f)))
    (l : K.lookup f = some ⟨.type "function", od, .func (PySem.W.fnOf "__init__" qn (defArgs st) (defBody st) (defScope st) .none kV dc pm an cd ct), sl⟩) (c : PySem.W.codeIn K cd qn = true)
    (o : ∀ g ∈ fs, PySem.W.findIn K (.ref C) g = some none) : Own2 K A C f qn st fs :=
  ⟨⟨⟨nm, q, N, bs, sn, sub, ab, col, dd, k0, k1, k2, k3, k5, x⟩, x_exc x (ve_B A) (ve_O A) g h y hn ht, x_xf x (ve_B A) g h, x_oex x (ve_B A) (ve_r A) s, o⟩, n, f_ty (oc := .none) l, _, fun_mk l c (f_keep (oc := .type "function") l)⟩
theorem all28 {p : Nat → Prop} (h0 : p 0) (h1 : p 1) (h2 : p 2) (h3 : p 3) (h4 : p 4) (h5 : p 5) (h6 : p 6) (h7 : p 7) (h8 : p 8) (h9 : p 9) (h10 : p 10) (h11 : p 11) (h12 : p 12) (h13 : p 13) (h14 : p 14) (h15 : p 15) (h16 : p 16) (h17 : p 17) (h18 : p 18) (h19 : p 19) (h20 : p 20) (h21 : p 21) (h22 : p 22) (h23 : p 23) (h24 : p 24) (h25 : p 25) (h26 : p 26) (h27 : p 27) : ∀ i, i < 28 → p i
  | 0, _ => h0
  | 1, _ => h1
  | 2, _ => h2
  | 3, _ => h3
  | 4, _ => h4
  | 5, _ => h5
  | 6, _ => h6
  | 7, _ => h7
  | 8, _ => h8
  | 9, _ => h9
  | 10, _ => h10
  | 11, _ => h11
  | 12, _ => h12
  | 13, _ => h13
  | 14, _ => h14
  | 15, _ => h15
  | 16, _ => h16
  | 17, _ => h17
  | 18, _ => h18
  | 19, _ => h19
  | 20, _ => h20
  | 21, _ => h21
  | 22, _ => h22
  | 23, _ => h23
  | 24, _ => h24
  | 25, _ => h25
  | 26, _ => h26
  | 27, _ => h27
  | n + 28, h => absurd h (by omega)

theorem mkr_0 {P : Program} {w : World} {K : PySem.W.Frag} {mg : Str → Option Value} {base : Heap} {A C f : Addr} (o : Own2 K A C f "Wrong.__init__" s_i0 ["place"]) (g : mg "Wrong" = some (.ref C)) : Mkr P w K mg base "Wrong" C ["place"] := by
  obtain ⟨fd, F⟩ := o.fn
  exact ⟨f, fd, ["self", "place"], o.o.oex, o.ini, o.ty, ok_i0 F ⟨o.o.oex, o.o.no⟩, F.binds (ps := ["self", "place"]) fun _ _ _ _ _ _ us hl => match us, hl with | [_, _], _ => rfl, g⟩
theorem mkr_1 {P : Program} {w : World} {K : PySem.W.Frag} {mg : Str → Option Value} {base : Heap} {A C f : Addr} (o : Own2 K A C f "BadStatement.__init__" s_i1 ["writer", "address"]) (g : mg "BadStatement" = some (.ref C)) : Mkr P w K mg base "BadStatement" C ["writer", "address"] := by
  obtain ⟨fd, F⟩ := o.fn
  exact ⟨f, fd, ["self", "writer", "address"], o.o.oex, o.ini, o.ty, ok_i1 F ⟨o.o.oex, o.o.no⟩, F.binds (ps := ["self", "writer", "address"]) fun _ _ _ _ _ _ us hl => match us, hl with | [_, _, _], _ => rfl, g⟩
theorem mkr_2 {P : Program} {w : World} {K : PySem.W.Frag} {mg : Str → Option Value} {base : Heap} {A C f : Addr} (o : Own2 K A C f "NoWriter.__init__" s_i2 ["writer"]) (g : mg "NoWriter" = some (.ref C)) : Mkr P w K mg base "NoWriter" C ["writer"] := by
  obtain ⟨fd, F⟩ := o.fn
  exact ⟨f, fd, ["self", "writer"], o.o.oex, o.ini, o.ty, ok_i2 F ⟨o.o.oex, o.o.no⟩, F.binds (ps := ["self", "writer"]) fun _ _ _ _ _ _ us hl => match us, hl with | [_, _], _ => rfl, g⟩
theorem mkr_3 {P : Program} {w : World} {K : PySem.W.Frag} {mg : Str → Option Value} {base : Heap} {A C f : Addr} (o : Own2 K A C f "NoPlace.__init__" s_i3 ["place"]) (g : mg "NoPlace" = some (.ref C)) : Mkr P w K mg base "NoPlace" C ["place"] := by
  obtain ⟨fd, F⟩ := o.fn
  exact ⟨f, fd, ["self", "place"], o.o.oex, o.ini, o.ty, ok_i3 F ⟨o.o.oex, o.o.no⟩, F.binds (ps := ["self", "place"]) fun _ _ _ _ _ _ us hl => match us, hl with | [_, _], _ => rfl, g⟩
theorem mkr_4 {P : Program} {w : World} {K : PySem.W.Frag} {mg : Str → Option Value} {base : Heap} {A C f : Addr} (o : Own2 K A C f "TooMany.__init__" s_i4 ["limit"]) (g : mg "TooMany" = some (.ref C)) : Mkr P w K mg base "TooMany" C ["limit"] := by
  obtain ⟨fd, F⟩ := o.fn
  exact ⟨f, fd, ["self", "limit"], o.o.oex, o.ini, o.ty, ok_i4 F ⟨o.o.oex, o.o.no⟩, F.binds (ps := ["self", "limit"]) fun _ _ _ _ _ _ us hl => match us, hl with | [_, _], _ => rfl, g⟩
theorem mkr_5 {P : Program} {w : World} {K : PySem.W.Frag} {mg : Str → Option Value} {base : Heap} {A C f : Addr} (o : Own2 K A C f "NoStep.__init__" s_i5 []) (g : mg "NoStep" = some (.ref C)) : Mkr P w K mg base "NoStep" C [] := by
  obtain ⟨fd, F⟩ := o.fn
  exact ⟨f, fd, ["self"], o.o.oex, o.ini, o.ty, ok_i5 F ⟨o.o.oex, o.o.no⟩, F.binds (ps := ["self"]) fun _ _ _ _ _ _ us hl => match us, hl with | [_], _ => rfl, g⟩
theorem mkr_6 {P : Program} {w : World} {K : PySem.W.Frag} {mg : Str → Option Value} {base : Heap} {A C f : Addr} (o : Own2 K A C f "Fault.__init__" s_i6 ["writer", "address", "name"]) (g : mg "Fault" = some (.ref C)) : Mkr P w K mg base "Fault" C ["writer", "address", "name"] := by
  obtain ⟨fd, F⟩ := o.fn
  exact ⟨f, fd, ["self", "writer", "address", "name"], o.o.oex, o.ini, o.ty, ok_i6 F ⟨o.o.oex, o.o.no⟩, F.binds (ps := ["self", "writer", "address", "name"]) fun _ _ _ _ _ _ us hl => match us, hl with | [_, _, _, _], _ => rfl, g⟩
theorem mkr_7 {P : Program} {w : World} {K : PySem.W.Frag} {mg : Str → Option Value} {base : Heap} {A C f : Addr} (o : Own2 K A C f "Freed.__init__" s_i7 ["cell"]) (g : mg "Freed" = some (.ref C)) : Mkr P w K mg base "Freed" C ["cell"] := by
  obtain ⟨fd, F⟩ := o.fn
  exact ⟨f, fd, ["self", "cell"], o.o.oex, o.ini, o.ty, ok_i7 F ⟨o.o.oex, o.o.no⟩, F.binds (ps := ["self", "cell"]) fun _ _ _ _ _ _ us hl => match us, hl with | [_, _], _ => rfl, g⟩
theorem mkr_8 {P : Program} {w : World} {K : PySem.W.Frag} {mg : Str → Option Value} {base : Heap} {A C f : Addr} (o : Own2 K A C f "Gone.__init__" s_i8 ["walker"]) (g : mg "Gone" = some (.ref C)) : Mkr P w K mg base "Gone" C ["walker"] := by
  obtain ⟨fd, F⟩ := o.fn
  exact ⟨f, fd, ["self", "walker"], o.o.oex, o.ini, o.ty, ok_i8 F ⟨o.o.oex, o.o.no⟩, F.binds (ps := ["self", "walker"]) fun _ _ _ _ _ _ us hl => match us, hl with | [_, _], _ => rfl, g⟩
theorem mkr_9 {P : Program} {w : World} {K : PySem.W.Frag} {mg : Str → Option Value} {base : Heap} {A C f : Addr} (o : Own2 K A C f "Nothing.__init__" s_i9 []) (g : mg "Nothing" = some (.ref C)) : Mkr P w K mg base "Nothing" C [] := by
  obtain ⟨fd, F⟩ := o.fn
  exact ⟨f, fd, ["self"], o.o.oex, o.ini, o.ty, ok_i9 F ⟨o.o.oex, o.o.no⟩, F.binds (ps := ["self"]) fun _ _ _ _ _ _ us hl => match us, hl with | [_], _ => rfl, g⟩
theorem mkr_10 {P : Program} {w : World} {K : PySem.W.Frag} {mg : Str → Option Value} {base : Heap} {A C f : Addr} (o : Own2 K A C f "NoWalker.__init__" s_i10 ["walker"]) (g : mg "NoWalker" = some (.ref C)) : Mkr P w K mg base "NoWalker" C ["walker"] := by
  obtain ⟨fd, F⟩ := o.fn
  exact ⟨f, fd, ["self", "walker"], o.o.oex, o.ini, o.ty, ok_i10 F ⟨o.o.oex, o.o.no⟩, F.binds (ps := ["self", "walker"]) fun _ _ _ _ _ _ us hl => match us, hl with | [_, _], _ => rfl, g⟩
theorem mkr_11 {P : Program} {w : World} {K : PySem.W.Frag} {mg : Str → Option Value} {base : Heap} {A C f : Addr} (o : Own2 K A C f "Broken.__init__" s_i11 ["at"]) (g : mg "Broken" = some (.ref C)) : Mkr P w K mg base "Broken" C ["at"] := by
  obtain ⟨fd, F⟩ := o.fn
  exact ⟨f, fd, ["self", "at"], o.o.oex, o.ini, o.ty, ok_i11 F ⟨o.o.oex, o.o.no⟩, F.binds (ps := ["self", "at"]) fun _ _ _ _ _ _ us hl => match us, hl with | [_, _], _ => rfl, g⟩
theorem mkr_12 {P : Program} {w : World} {K : PySem.W.Frag} {mg : Str → Option Value} {base : Heap} {A C f : Addr} (o : Own2 K A C f "BadTarget.__init__" s_i12 ["place"]) (g : mg "BadTarget" = some (.ref C)) : Mkr P w K mg base "BadTarget" C ["place"] := by
  obtain ⟨fd, F⟩ := o.fn
  exact ⟨f, fd, ["self", "place"], o.o.oex, o.ini, o.ty, ok_i12 F ⟨o.o.oex, o.o.no⟩, F.binds (ps := ["self", "place"]) fun _ _ _ _ _ _ us hl => match us, hl with | [_, _], _ => rfl, g⟩
theorem mkr_13 {P : Program} {w : World} {K : PySem.W.Frag} {mg : Str → Option Value} {base : Heap} {A C f : Addr} (o : Own2 K A C f "Unknown.__init__" s_i13 ["name"]) (g : mg "Unknown" = some (.ref C)) : Mkr P w K mg base "Unknown" C ["name"] := by
  obtain ⟨fd, F⟩ := o.fn
  exact ⟨f, fd, ["self", "name"], o.o.oex, o.ini, o.ty, ok_i13 F ⟨o.o.oex, o.o.no⟩, F.binds (ps := ["self", "name"]) fun _ _ _ _ _ _ us hl => match us, hl with | [_, _], _ => rfl, g⟩
theorem mkr_14 {P : Program} {w : World} {K : PySem.W.Frag} {mg : Str → Option Value} {base : Heap} {A C f : Addr} (o : Own2 K A C f "NotBare.__init__" s_i14 ["at"]) (g : mg "NotBare" = some (.ref C)) : Mkr P w K mg base "NotBare" C ["at"] := by
  obtain ⟨fd, F⟩ := o.fn
  exact ⟨f, fd, ["self", "at"], o.o.oex, o.ini, o.ty, ok_i14 F ⟨o.o.oex, o.o.no⟩, F.binds (ps := ["self", "at"]) fun _ _ _ _ _ _ us hl => match us, hl with | [_, _], _ => rfl, g⟩
theorem mkr_15 {P : Program} {w : World} {K : PySem.W.Frag} {mg : Str → Option Value} {base : Heap} {A C f : Addr} (o : Own2 K A C f "Hopeless.__init__" s_i15 ["at"]) (g : mg "Hopeless" = some (.ref C)) : Mkr P w K mg base "Hopeless" C ["at"] := by
  obtain ⟨fd, F⟩ := o.fn
  exact ⟨f, fd, ["self", "at"], o.o.oex, o.ini, o.ty, ok_i15 F ⟨o.o.oex, o.o.no⟩, F.binds (ps := ["self", "at"]) fun _ _ _ _ _ _ us hl => match us, hl with | [_, _], _ => rfl, g⟩
theorem mkr_16 {P : Program} {w : World} {K : PySem.W.Frag} {mg : Str → Option Value} {base : Heap} {A C f : Addr} (o : Own2 K A C f "NotRight.__init__" s_i16 []) (g : mg "NotRight" = some (.ref C)) : Mkr P w K mg base "NotRight" C [] := by
  obtain ⟨fd, F⟩ := o.fn
  exact ⟨f, fd, ["self"], o.o.oex, o.ini, o.ty, ok_i16 F ⟨o.o.oex, o.o.no⟩, F.binds (ps := ["self"]) fun _ _ _ _ _ _ us hl => match us, hl with | [_], _ => rfl, g⟩
theorem mkr_17 {P : Program} {w : World} {K : PySem.W.Frag} {mg : Str → Option Value} {base : Heap} {A C f : Addr} (o : Own2 K A C f "NoChain.__init__" s_i17 ["root", "field"]) (g : mg "NoChain" = some (.ref C)) : Mkr P w K mg base "NoChain" C ["root", "field"] := by
  obtain ⟨fd, F⟩ := o.fn
  exact ⟨f, fd, ["self", "root", "field"], o.o.oex, o.ini, o.ty, ok_i17 F ⟨o.o.oex, o.o.no⟩, F.binds (ps := ["self", "root", "field"]) fun _ _ _ _ _ _ us hl => match us, hl with | [_, _, _], _ => rfl, g⟩
theorem mkr_18 {P : Program} {w : World} {K : PySem.W.Frag} {mg : Str → Option Value} {base : Heap} {A C f : Addr} (o : Own2 K A C f "Unlike.__init__" s_i18 []) (g : mg "Unlike" = some (.ref C)) : Mkr P w K mg base "Unlike" C [] := by
  obtain ⟨fd, F⟩ := o.fn
  exact ⟨f, fd, ["self"], o.o.oex, o.ini, o.ty, ok_i18 F ⟨o.o.oex, o.o.no⟩, F.binds (ps := ["self"]) fun _ _ _ _ _ _ us hl => match us, hl with | [_], _ => rfl, g⟩
theorem mkr_19 {P : Program} {w : World} {K : PySem.W.Frag} {mg : Str → Option Value} {base : Heap} {A C f : Addr} (o : Own2 K A C f "NotPlain.__init__" s_i19 ["which"]) (g : mg "NotPlain" = some (.ref C)) : Mkr P w K mg base "NotPlain" C ["which"] := by
  obtain ⟨fd, F⟩ := o.fn
  exact ⟨f, fd, ["self", "which"], o.o.oex, o.ini, o.ty, ok_i19 F ⟨o.o.oex, o.o.no⟩, F.binds (ps := ["self", "which"]) fun _ _ _ _ _ _ us hl => match us, hl with | [_, _], _ => rfl, g⟩
theorem mkr_20 {P : Program} {w : World} {K : PySem.W.Frag} {mg : Str → Option Value} {base : Heap} {A C f : Addr} (o : Own2 K A C f "NoRead.__init__" s_i20 ["at"]) (g : mg "NoRead" = some (.ref C)) : Mkr P w K mg base "NoRead" C ["at"] := by
  obtain ⟨fd, F⟩ := o.fn
  exact ⟨f, fd, ["self", "at"], o.o.oex, o.ini, o.ty, ok_i20 F ⟨o.o.oex, o.o.no⟩, F.binds (ps := ["self", "at"]) fun _ _ _ _ _ _ us hl => match us, hl with | [_, _], _ => rfl, g⟩
theorem mkr_21 {P : Program} {w : World} {K : PySem.W.Frag} {mg : Str → Option Value} {base : Heap} {A C f : Addr} (o : Own2 K A C f "NoSwitch.__init__" s_i21 ["place"]) (g : mg "NoSwitch" = some (.ref C)) : Mkr P w K mg base "NoSwitch" C ["place"] := by
  obtain ⟨fd, F⟩ := o.fn
  exact ⟨f, fd, ["self", "place"], o.o.oex, o.ini, o.ty, ok_i21 F ⟨o.o.oex, o.o.no⟩, F.binds (ps := ["self", "place"]) fun _ _ _ _ _ _ us hl => match us, hl with | [_, _], _ => rfl, g⟩
theorem mkr_22 {P : Program} {w : World} {K : PySem.W.Frag} {mg : Str → Option Value} {base : Heap} {A C f : Addr} (o : Own2 K A C f "TooFew.__init__" s_i22 ["many"]) (g : mg "TooFew" = some (.ref C)) : Mkr P w K mg base "TooFew" C ["many"] := by
  obtain ⟨fd, F⟩ := o.fn
  exact ⟨f, fd, ["self", "many"], o.o.oex, o.ini, o.ty, ok_i22 F ⟨o.o.oex, o.o.no⟩, F.binds (ps := ["self", "many"]) fun _ _ _ _ _ _ us hl => match us, hl with | [_, _], _ => rfl, g⟩
theorem mkr_23 {P : Program} {w : World} {K : PySem.W.Frag} {mg : Str → Option Value} {base : Heap} {A C f : Addr} (o : Own2 K A C f "NoDeed.__init__" s_i23 []) (g : mg "NoDeed" = some (.ref C)) : Mkr P w K mg base "NoDeed" C [] := by
  obtain ⟨fd, F⟩ := o.fn
  exact ⟨f, fd, ["self"], o.o.oex, o.ini, o.ty, ok_i23 F ⟨o.o.oex, o.o.no⟩, F.binds (ps := ["self"]) fun _ _ _ _ _ _ us hl => match us, hl with | [_], _ => rfl, g⟩
theorem mkr_24 {P : Program} {w : World} {K : PySem.W.Frag} {mg : Str → Option Value} {base : Heap} {A C f : Addr} (o : Own2 K A C f "Full.__init__" s_i24 ["limit"]) (g : mg "Full" = some (.ref C)) : Mkr P w K mg base "Full" C ["limit"] := by
  obtain ⟨fd, F⟩ := o.fn
  exact ⟨f, fd, ["self", "limit"], o.o.oex, o.ini, o.ty, ok_i24 F ⟨o.o.oex, o.o.no⟩, F.binds (ps := ["self", "limit"]) fun _ _ _ _ _ _ us hl => match us, hl with | [_, _], _ => rfl, g⟩
theorem mkr_25 {P : Program} {w : World} {K : PySem.W.Frag} {mg : Str → Option Value} {base : Heap} {A C f : Addr} (o : Own2 K A C f "NoEntry.__init__" s_i25 ["many"]) (g : mg "NoEntry" = some (.ref C)) : Mkr P w K mg base "NoEntry" C ["many"] := by
  obtain ⟨fd, F⟩ := o.fn
  exact ⟨f, fd, ["self", "many"], o.o.oex, o.ini, o.ty, ok_i25 F ⟨o.o.oex, o.o.no⟩, F.binds (ps := ["self", "many"]) fun _ _ _ _ _ _ us hl => match us, hl with | [_, _], _ => rfl, g⟩
theorem mkr_26 {P : Program} {w : World} {K : PySem.W.Frag} {mg : Str → Option Value} {base : Heap} {A C f : Addr} (o : Own2 K A C f "NoText.__init__" s_i26 []) (g : mg "NoText" = some (.ref C)) : Mkr P w K mg base "NoText" C [] := by
  obtain ⟨fd, F⟩ := o.fn
  exact ⟨f, fd, ["self"], o.o.oex, o.ini, o.ty, ok_i26 F ⟨o.o.oex, o.o.no⟩, F.binds (ps := ["self"]) fun _ _ _ _ _ _ us hl => match us, hl with | [_], _ => rfl, g⟩
theorem mkr_27 {P : Program} {w : World} {K : PySem.W.Frag} {mg : Str → Option Value} {base : Heap} {A C f : Addr} (o : Own2 K A C f "NoCommand.__init__" s_i27 []) (g : mg "NoCommand" = some (.ref C)) : Mkr P w K mg base "NoCommand" C [] := by
  obtain ⟨fd, F⟩ := o.fn
  exact ⟨f, fd, ["self"], o.o.oex, o.ini, o.ty, ok_i27 F ⟨o.o.oex, o.o.no⟩, F.binds (ps := ["self"]) fun _ _ _ _ _ _ us hl => match us, hl with | [_], _ => rfl, g⟩
theorem all_mk {l : PySem.W.OpenLaw} {w : World} {K : PySem.W.Frag} {h : Heap} {mg : Str → Option Value} {fa A : Addr} (X : K.In h) (G : h.Ns mainGlobals mg) (hfa : mg "law" = some (.ref fa))
    {C0 i0 C1 i1 C2 i2 C3 i3 C4 i4 C5 i5 C6 i6 C7 i7 C8 i8 C9 i9 C10 i10 C11 i11 C12 i12 C13 i13 C14 i14 C15 i15 C16 i16 C17 i17 C18 i18 C19 i19 C20 i20 C21 i21 C22 i22 C23 i23 C24 i24 C25 i25 C26 i26 C27 i27 : Addr} {f0 f1 f2 f3 f4 f5 f6 f7 : Addr} {od0 an0 od1 an1 od2 an2 od3 an3 od4 an4 od5 an5 od6 an6 od7 an7 : Option Addr} {sl0 sl1 sl2 sl3 sl4 sl5 sl6 sl7 : Array (Option Value)} {oc0 kV0 dc0 pm0 cd0 ct0 oc1 kV1 dc1 pm1 cd1 ct1 oc2 kV2 dc2 pm2 cd2 ct2 oc3 kV3 dc3 pm3 cd3 ct3 oc4 kV4 dc4 pm4 cd4 ct4 oc5 kV5 dc5 pm5 cd5 ct5 oc6 kV6 dc6 pm6 cd6 ct6 oc7 kV7 dc7 pm7 cd7 ct7 : Value}
    {nmA qA : Str} {NA : Addr} {bsA : List Value} {snA : List Str} {subA : List Value} {abA : Bool} {colA : Option Bool} {ddA : Option Addr} {kA0 kA1 kA2 kA3 kA5 : Option Value}
    (a0 : PySem.W.nsIn K mainGlobals "Wrong" = some (some (.ref C0))) (W0 : Own2 K A C0 i0 "Wrong.__init__" s_i0 ["place"])
    (a1 : PySem.W.nsIn K mainGlobals "BadStatement" = some (some (.ref C1))) (W1 : Own2 K A C1 i1 "BadStatement.__init__" s_i1 ["writer", "address"])
    (a2 : PySem.W.nsIn K mainGlobals "NoWriter" = some (some (.ref C2))) (W2 : Own2 K A C2 i2 "NoWriter.__init__" s_i2 ["writer"])
    (a3 : PySem.W.nsIn K mainGlobals "NoPlace" = some (some (.ref C3))) (W3 : Own2 K A C3 i3 "NoPlace.__init__" s_i3 ["place"])
    (a4 : PySem.W.nsIn K mainGlobals "TooMany" = some (some (.ref C4))) (W4 : Own2 K A C4 i4 "TooMany.__init__" s_i4 ["limit"])
    (a5 : PySem.W.nsIn K mainGlobals "NoStep" = some (some (.ref C5))) (W5 : Own2 K A C5 i5 "NoStep.__init__" s_i5 [])
    (a6 : PySem.W.nsIn K mainGlobals "Fault" = some (some (.ref C6))) (W6 : Own2 K A C6 i6 "Fault.__init__" s_i6 ["writer", "address", "name"])
    (a7 : PySem.W.nsIn K mainGlobals "Freed" = some (some (.ref C7))) (W7 : Own2 K A C7 i7 "Freed.__init__" s_i7 ["cell"])
    (a8 : PySem.W.nsIn K mainGlobals "Gone" = some (some (.ref C8))) (W8 : Own2 K A C8 i8 "Gone.__init__" s_i8 ["walker"])
    (a9 : PySem.W.nsIn K mainGlobals "Nothing" = some (some (.ref C9))) (W9 : Own2 K A C9 i9 "Nothing.__init__" s_i9 [])
    (a10 : PySem.W.nsIn K mainGlobals "NoWalker" = some (some (.ref C10))) (W10 : Own2 K A C10 i10 "NoWalker.__init__" s_i10 ["walker"])
    (a11 : PySem.W.nsIn K mainGlobals "Broken" = some (some (.ref C11))) (W11 : Own2 K A C11 i11 "Broken.__init__" s_i11 ["at"])
    (a12 : PySem.W.nsIn K mainGlobals "BadTarget" = some (some (.ref C12))) (W12 : Own2 K A C12 i12 "BadTarget.__init__" s_i12 ["place"])
    (a13 : PySem.W.nsIn K mainGlobals "Unknown" = some (some (.ref C13))) (W13 : Own2 K A C13 i13 "Unknown.__init__" s_i13 ["name"])
    (a14 : PySem.W.nsIn K mainGlobals "NotBare" = some (some (.ref C14))) (W14 : Own2 K A C14 i14 "NotBare.__init__" s_i14 ["at"])
    (a15 : PySem.W.nsIn K mainGlobals "Hopeless" = some (some (.ref C15))) (W15 : Own2 K A C15 i15 "Hopeless.__init__" s_i15 ["at"])
    (a16 : PySem.W.nsIn K mainGlobals "NotRight" = some (some (.ref C16))) (W16 : Own2 K A C16 i16 "NotRight.__init__" s_i16 [])
    (a17 : PySem.W.nsIn K mainGlobals "NoChain" = some (some (.ref C17))) (W17 : Own2 K A C17 i17 "NoChain.__init__" s_i17 ["root", "field"])
    (a18 : PySem.W.nsIn K mainGlobals "Unlike" = some (some (.ref C18))) (W18 : Own2 K A C18 i18 "Unlike.__init__" s_i18 [])
    (a19 : PySem.W.nsIn K mainGlobals "NotPlain" = some (some (.ref C19))) (W19 : Own2 K A C19 i19 "NotPlain.__init__" s_i19 ["which"])
    (a20 : PySem.W.nsIn K mainGlobals "NoRead" = some (some (.ref C20))) (W20 : Own2 K A C20 i20 "NoRead.__init__" s_i20 ["at"])
    (a21 : PySem.W.nsIn K mainGlobals "NoSwitch" = some (some (.ref C21))) (W21 : Own2 K A C21 i21 "NoSwitch.__init__" s_i21 ["place"])
    (a22 : PySem.W.nsIn K mainGlobals "TooFew" = some (some (.ref C22))) (W22 : Own2 K A C22 i22 "TooFew.__init__" s_i22 ["many"])
    (a23 : PySem.W.nsIn K mainGlobals "NoDeed" = some (some (.ref C23))) (W23 : Own2 K A C23 i23 "NoDeed.__init__" s_i23 [])
    (a24 : PySem.W.nsIn K mainGlobals "Full" = some (some (.ref C24))) (W24 : Own2 K A C24 i24 "Full.__init__" s_i24 ["limit"])
    (a25 : PySem.W.nsIn K mainGlobals "NoEntry" = some (some (.ref C25))) (W25 : Own2 K A C25 i25 "NoEntry.__init__" s_i25 ["many"])
    (a26 : PySem.W.nsIn K mainGlobals "NoText" = some (some (.ref C26))) (W26 : Own2 K A C26 i26 "NoText.__init__" s_i26 [])
    (a27 : PySem.W.nsIn K mainGlobals "NoCommand" = some (some (.ref C27))) (W27 : Own2 K A C27 i27 "NoCommand.__init__" s_i27 [])
    (b0 : PySem.W.nsIn K mainGlobals "_law_bag" = some (some (.ref f0))) (l0 : K.lookup f0 = some ⟨oc0, od0, .func (PySem.W.fnOf "_law_bag" "_law_bag" (defArgs s_bag) (defBody s_bag) (defScope s_bag) .none kV0 dc0 pm0 an0 cd0 ct0), sl0⟩) (c0 : PySem.W.codeIn K cd0 "_law_bag" = true)
    (b1 : PySem.W.nsIn K mainGlobals "_law_take" = some (some (.ref f1))) (l1 : K.lookup f1 = some ⟨oc1, od1, .func (PySem.W.fnOf "_law_take" "_law_take" (defArgs s_take) (defBody s_take) (defScope s_take) .none kV1 dc1 pm1 an1 cd1 ct1), sl1⟩) (c1 : PySem.W.codeIn K cd1 "_law_take" = true)
    (b2 : PySem.W.nsIn K mainGlobals "_law_alike" = some (some (.ref f2))) (l2 : K.lookup f2 = some ⟨oc2, od2, .func (PySem.W.fnOf "_law_alike" "_law_alike" (defArgs s_alike) (defBody s_alike) (defScope s_alike) .none kV2 dc2 pm2 an2 cd2 ct2), sl2⟩) (c2 : PySem.W.codeIn K cd2 "_law_alike" = true)
    (b3 : PySem.W.nsIn K mainGlobals "_law_thing" = some (some (.ref f3))) (l3 : K.lookup f3 = some ⟨oc3, od3, .func (PySem.W.fnOf "_law_thing" "_law_thing" (defArgs s_thing) (defBody s_thing) (defScope s_thing) .none kV3 dc3 pm3 an3 cd3 ct3), sl3⟩) (c3 : PySem.W.codeIn K cd3 "_law_thing" = true)
    (b4 : PySem.W.nsIn K mainGlobals "_law_errors" = some (some (.ref f4))) (l4 : K.lookup f4 = some ⟨oc4, od4, .func (PySem.W.fnOf "_law_errors" "_law_errors" (defArgs s_errors) (defBody s_errors) (defScope s_errors) .none kV4 dc4 pm4 an4 cd4 ct4), sl4⟩) (c4 : PySem.W.codeIn K cd4 "_law_errors" = true)
    (b5 : PySem.W.nsIn K mainGlobals "_law_kinds" = some (some (.ref f5))) (l5 : K.lookup f5 = some ⟨oc5, od5, .func (PySem.W.fnOf "_law_kinds" "_law_kinds" (defArgs s_kinds) (defBody s_kinds) (defScope s_kinds) .none kV5 dc5 pm5 an5 cd5 ct5), sl5⟩) (c5 : PySem.W.codeIn K cd5 "_law_kinds" = true)
    (b6 : PySem.W.nsIn K mainGlobals "_law_fields" = some (some (.ref f6))) (l6 : K.lookup f6 = some ⟨oc6, od6, .func (PySem.W.fnOf "_law_fields" "_law_fields" (defArgs s_fields) (defBody s_fields) (defScope s_fields) .none kV6 dc6 pm6 an6 cd6 ct6), sl6⟩) (c6 : PySem.W.codeIn K cd6 "_law_fields" = true)
    (b7 : PySem.W.nsIn K mainGlobals "law" = some (some (.ref f7))) (l7 : K.lookup f7 = some ⟨oc7, od7, .func (PySem.W.fnOf "law" "law" (defArgs s_law) (defBody s_law) (defScope s_law) .none kV7 dc7 pm7 an7 cd7 ct7), sl7⟩) (c7 : PySem.W.codeIn K cd7 "law" = true)
    (z_isinstance : PySem.W.nsIn K mainGlobals "isinstance" = some none)
    (z_int : PySem.W.nsIn K mainGlobals "int" = some none)
    (z_len : PySem.W.nsIn K mainGlobals "len" = some none)
    (z_abs : PySem.W.nsIn K mainGlobals "abs" = some none)
    (z_range : PySem.W.nsIn K mainGlobals "range" = some none)
    (z_repr : PySem.W.nsIn K mainGlobals "repr" = some none)
    (z_enumerate : PySem.W.nsIn K mainGlobals "enumerate" = some none)
    (z_list : PySem.W.nsIn K mainGlobals "list" = some none)
    (z_dict : PySem.W.nsIn K mainGlobals "dict" = some none)
    (z_ValueError : PySem.W.nsIn K mainGlobals "ValueError" = some none)
    (aA : PySem.W.nsIn K mainGlobals "AskError" = some (some (.ref A))) (xA : K.lookup A = some (excClassObj nmA qA A NA bsA [.type "ValueError", .type "Exception", .type "BaseException", .type "object"] true snA subA abA colA ddA kA0 kA1 kA2 kA3 kA5 "ValueError.__new__"))
    (xE : PySem.W.excIn K A [.type "ValueError", .type "Exception", .type "BaseException", .type "object"] "ValueError.__new__" = true)
    (gA : PySem.W.findIn K (.ref A) "__getattribute__" = some (some (.builtin "BaseException.__getattribute__"))) (hA : PySem.W.findIn K (.ref A) "__getattr__" = some none) (yA : PySem.W.findIn K (.ref A) "__class__" = some (some (.builtin "object.__class__")))
    (hn : PySem.W.specialIn K (.builtin "object.__class__") "__get__" = some (some (.builtin "getset_descriptor.__get__"))) (ht : PySem.W.takesIn K (.builtin "object.__class__") = some true)
    (nd : ((List.range 28).all fun i => (List.range 28).all fun j => decide ([C0, C1, C2, C3, C4, C5, C6, C7, C8, C9, C10, C11, C12, C13, C14, C15, C16, C17, C18, C19, C20, C21, C22, C23, C24, C25, C26, C27].getD i 0 = [C0, C1, C2, C3, C4, C5, C6, C7, C8, C9, C10, C11, C12, C13, C14, C15, C16, C17, C18, C19, C20, C21, C22, C23, C24, C25, C26, C27].getD j 0) == decide (i = j)) = true)
    (na : ([C0, C1, C2, C3, C4, C5, C6, C7, C8, C9, C10, C11, C12, C13, C14, C15, C16, C17, C18, C19, C20, C21, C22, C23, C24, C25, C26, C27].all fun c => decide (c ≠ A)) = true) :
    ∃ fd : FuncData, (∀ (s : Shared) (v : Value), BindsTo s fd ⟨[v], []⟩ [("_law_script", v)]) ∧ ∀ base : Heap, K.In base → base.Ns mainGlobals mg → FnG l.prog w K mg base 4 fa fd ["_law_script"] (spLaw K) := by
  have e := hfa.symm.trans (PySem.W.mg_of X G b7)
  cases e
  let C : Nat → Addr := fun i => [C0, C1, C2, C3, C4, C5, C6, C7, C8, C9, C10, C11, C12, C13, C14, C15, C16, C17, C18, C19, C20, C21, C22, C23, C24, C25, C26, C27].getD i 0
  have F0 := fun_mk (st := s_bag) l0 c0 (f_keep l0)
  have q0 := F0.binds (ps := ["_law_script"]) fun _ _ _ _ _ _ us hl => match us, hl with | [_], _ => rfl
  have F1 := fun_mk (st := s_take) l1 c1 (f_keep l1)
  have q1 := F1.binds (ps := ["_law_bag_here", "_law_many"]) fun _ _ _ _ _ _ us hl => match us, hl with | [_, _], _ => rfl
  have F2 := fun_mk (st := s_alike) l2 c2 (f_keep l2)
  have q2 := F2.binds (ps := ["_law_found", "_law_right"]) fun _ _ _ _ _ _ us hl => match us, hl with | [_, _], _ => rfl
  have F3 := fun_mk (st := s_thing) l3 c3 (f_keep l3)
  have q3 := F3.binds (ps := ["_law_bag_here"]) fun _ _ _ _ _ _ us hl => match us, hl with | [_], _ => rfl
  have F4 := fun_mk (st := s_errors) l4 c4 (f_keep l4)
  have q4 := F4.binds (ps := ["_law_one", "_law_two", "_law_three"]) fun _ _ _ _ _ _ us hl => match us, hl with | [_, _, _], _ => rfl
  have F5 := fun_mk (st := s_kinds) l5 c5 (f_keep l5)
  have q5 := F5.binds (ps := ["_law_e"]) fun _ _ _ _ _ _ us hl => match us, hl with | [_], _ => rfl
  have F6 := fun_mk (st := s_fields) l6 c6 (f_keep l6)
  have q6 := F6.binds (ps := ["_law_some"]) fun _ _ _ _ _ _ us hl => match us, hl with | [_], _ => rfl
  have F7 := fun_mk (st := s_law) l7 c7 (f_keep l7)
  have T : Txt0 mg := ⟨PySem.W.mg_none_of X G z_isinstance, PySem.W.mg_none_of X G z_int, PySem.W.mg_none_of X G z_len, PySem.W.mg_none_of X G z_abs, PySem.W.mg_none_of X G z_range, PySem.W.mg_none_of X G z_repr, PySem.W.mg_none_of X G z_enumerate, PySem.W.mg_none_of X G z_list, PySem.W.mg_none_of X G z_dict, PySem.W.mg_none_of X G z_ValueError⟩
  have O : ∀ i, i < 28 → Own1 K A (C i) (FL.getD i []) := all28 W0.o W1.o W2.o W3.o W4.o W5.o W6.o W7.o W8.o W9.o W10.o W11.o W12.o W13.o W14.o W15.o W16.o W17.o W18.o W19.o W20.o W21.o W22.o W23.o W24.o W25.o W26.o W27.o
  have inj : ∀ i j, i < 28 → j < 28 → C i = C j → i = j := fun i j hi hj e => by
    have k := List.all_eq_true.mp (List.all_eq_true.mp nd i (List.mem_range.mpr hi)) j (List.mem_range.mpr hj)
    have k2 := beq_iff_eq.mp k
    rw [decide_eq_true (show _ = _ from e)] at k2
    exact of_decide_eq_true k2.symm
  have nA : ∀ i, i < 28 → C i ≠ A := fun i hi => by
    have m : C i ∈ [C0, C1, C2, C3, C4, C5, C6, C7, C8, C9, C10, C11, C12, C13, C14, C15, C16, C17, C18, C19, C20, C21, C22, C23, C24, C25, C26, C27] := by
      have e : C i = [C0, C1, C2, C3, C4, C5, C6, C7, C8, C9, C10, C11, C12, C13, C14, C15, C16, C17, C18, C19, C20, C21, C22, C23, C24, C25, C26, C27][i]'hi := by
        show List.getD _ i 0 = _
        rw [List.getD_eq_getElem?_getD, List.getElem?_eq_getElem hi]
        rfl
      rw [e]
      exact List.getElem_mem _
    exact of_decide_eq_true (List.all_eq_true.mp na _ m)
  have TE : TxtE K mg C A := by
    refine { t := T, xf := fun i hi => (O i hi).xf, ex := fun i hi => (O i hi).ex, no := fun i hi f hf => (O i hi).no f hf, kit := fun i j hi hj => ?_, kitA := fun i hi => ?_, kitV := fun i hi => ?_, exA := x_exc xA rfl rfl gA hA yA hn ht, kitAj := fun j hj => ?_, kitAV := ?_, gA := PySem.W.mg_of X G aA, keep := x_keep xA, exc := xE, g0 := PySem.W.mg_of X G a0, g1 := PySem.W.mg_of X G a1, g2 := PySem.W.mg_of X G a2, g3 := PySem.W.mg_of X G a3, g4 := PySem.W.mg_of X G a4, g5 := PySem.W.mg_of X G a5, g6 := PySem.W.mg_of X G a6, g7 := PySem.W.mg_of X G a7, g8 := PySem.W.mg_of X G a8, g9 := PySem.W.mg_of X G a9, g10 := PySem.W.mg_of X G a10, g11 := PySem.W.mg_of X G a11, g12 := PySem.W.mg_of X G a12, g13 := PySem.W.mg_of X G a13, g14 := PySem.W.mg_of X G a14, g15 := PySem.W.mg_of X G a15, g16 := PySem.W.mg_of X G a16, g17 := PySem.W.mg_of X G a17, g18 := PySem.W.mg_of X G a18, g19 := PySem.W.mg_of X G a19, g20 := PySem.W.mg_of X G a20, g21 := PySem.W.mg_of X G a21, g22 := PySem.W.mg_of X G a22, g23 := PySem.W.mg_of X G a23, g24 := PySem.W.mg_of X G a24, g25 := PySem.W.mg_of X G a25, g26 := PySem.W.mg_of X G a26, g27 := PySem.W.mg_of X G a27 }
    · obtain ⟨_, _, _, _, _, _, _, _, _, _, _, _, _, _, xi⟩ := (O i hi).x
      obtain ⟨_, _, _, _, _, _, _, _, _, _, _, _, _, _, xj⟩ := (O j hj).x
      rw [x_kit xi xj]
      by_cases e : j = i
      · subst e
        rw [ve_self, decide_eq_true rfl]
      · rw [ve_no (fun z => e (inj j i hj hi z)) (nA j hj), decide_eq_false e]
    · obtain ⟨_, _, _, _, _, _, _, _, _, _, _, _, _, _, xi⟩ := (O i hi).x
      rw [x_kit xi xA, ve_A]
    · obtain ⟨_, _, _, _, _, _, _, _, _, _, _, _, _, _, xi⟩ := (O i hi).x
      rw [x_kitV xi]
      rfl
    · obtain ⟨_, _, _, _, _, _, _, _, _, _, _, _, _, _, xj⟩ := (O j hj).x
      rw [x_kit xA xj]
      simp [nA j hj]
    · rw [x_kitV xA]
      rfl
  refine ⟨PySem.W.fnOf "law" "law" (defArgs s_law) (defBody s_law) (defScope s_law) .none kV7 dc7 pm7 an7 cd7 ct7, fun s v => .of_eq rfl, fun base _ _ => ?_⟩
  have GT : Cl l.prog w K mg base 1 "_law_take" spTake := ⟨_, _, _, ok_take F1 T, PySem.W.mg_of X G b1, f_keep l1, q1⟩
  have GB : Cl l.prog w K mg base 1 "_law_bag" (spBag K) := ⟨_, _, _, ok_bag F0 T, PySem.W.mg_of X G b0, f_keep l0, q0⟩
  have GH : Cl l.prog w K mg base 2 "_law_thing" (spThing K) := ⟨_, _, _, ok_thing F3 T GT, PySem.W.mg_of X G b3, f_keep l3, q3⟩
  have GE : Cl l.prog w K mg base 3 "_law_errors" (spErrors C) := ⟨_, _, _, ok_errors F4 (mkr_0 W0 (PySem.W.mg_of X G a0)) (mkr_1 W1 (PySem.W.mg_of X G a1)) (mkr_2 W2 (PySem.W.mg_of X G a2)) (mkr_3 W3 (PySem.W.mg_of X G a3)) (mkr_4 W4 (PySem.W.mg_of X G a4)) (mkr_5 W5 (PySem.W.mg_of X G a5)) (mkr_6 W6 (PySem.W.mg_of X G a6)) (mkr_7 W7 (PySem.W.mg_of X G a7)) (mkr_8 W8 (PySem.W.mg_of X G a8)) (mkr_9 W9 (PySem.W.mg_of X G a9)) (mkr_10 W10 (PySem.W.mg_of X G a10)) (mkr_11 W11 (PySem.W.mg_of X G a11)) (mkr_12 W12 (PySem.W.mg_of X G a12)) (mkr_13 W13 (PySem.W.mg_of X G a13)) (mkr_14 W14 (PySem.W.mg_of X G a14)) (mkr_15 W15 (PySem.W.mg_of X G a15)) (mkr_16 W16 (PySem.W.mg_of X G a16)) (mkr_17 W17 (PySem.W.mg_of X G a17)) (mkr_18 W18 (PySem.W.mg_of X G a18)) (mkr_19 W19 (PySem.W.mg_of X G a19)) (mkr_20 W20 (PySem.W.mg_of X G a20)) (mkr_21 W21 (PySem.W.mg_of X G a21)) (mkr_22 W22 (PySem.W.mg_of X G a22)) (mkr_23 W23 (PySem.W.mg_of X G a23)) (mkr_24 W24 (PySem.W.mg_of X G a24)) (mkr_25 W25 (PySem.W.mg_of X G a25)) (mkr_26 W26 (PySem.W.mg_of X G a26)) (mkr_27 W27 (PySem.W.mg_of X G a27)), PySem.W.mg_of X G b4, f_keep l4, q4⟩
  have GK : Cl l.prog w K mg base 1 "_law_kinds" (spKinds K C) := ⟨_, _, _, ok_kinds F5 TE, PySem.W.mg_of X G b5, f_keep l5, q5⟩
  have GF : Cl l.prog w K mg base 1 "_law_fields" (spFields C) := ⟨_, _, _, ok_fields F6 TE, PySem.W.mg_of X G b6, f_keep l6, q6⟩
  have GA : ClG l.prog w K mg base 3 "_law_alike" (spAlike K) := ⟨_, _, _, ok_alike F2 T, PySem.W.mg_of X G b2, f_keep l2, q2⟩
  exact ok_law F7 TE GB GH GE GK GF GA
end K11
set_option Elab.async false
set_option linter.all false
set_option maxRecDepth 100000
set_option maxHeartbeats 4000000
open PySem PySem.W PyProof.Rows
set_option maxHeartbeats 0 in
theorem PySem.Challenge.cw_askless_k11_errors_kept_holds : PySem.Challenge.rw_askless_k11_errors_kept.Holds := by
  w_on; o_law; k_head; (case hw => w_witness2)
  k_fill
  refine GL.walkG (l := PySem.Challenge.rw_askless_k11_errors_kept) (n := 63) (k := 4) (x := "_law_script") (sp := fun w => K11.spLaw _) rfl (by decide) rfl ⟨rfl, by decide, by decide⟩ (fun w h Y => PySem.W.kIn_of Y) ?F (fun _ _ a ns hl _ hS => ⟨a, ns, rfl, hS, hl, fun _ => rfl⟩)
  case F =>
    intro w mg fa h KX G hmg
    refine' K11.all_mk KX G hmg ?qq_a0 (K11.own2 ?qq_hn ?qq_ht ?qq_x0 ?qq_s0 ?qq_g0 ?qq_h0 ?qq_y0 ?qq_n0 ?qq_l0 ?qq_c0 (List.forall_mem_cons.mpr ⟨?qq_o0_0, (List.forall_mem_nil _)⟩)) ?qq_a1 (K11.own2 ?qq_hn ?qq_ht ?qq_x1 ?qq_s1 ?qq_g1 ?qq_h1 ?qq_y1 ?qq_n1 ?qq_l1 ?qq_c1 (List.forall_mem_cons.mpr ⟨?qq_o1_0, (List.forall_mem_cons.mpr ⟨?qq_o1_1, (List.forall_mem_nil _)⟩)⟩)) ?qq_a2 (K11.own2 ?qq_hn ?qq_ht ?qq_x2 ?qq_s2 ?qq_g2 ?qq_h2 ?qq_y2 ?qq_n2 ?qq_l2 ?qq_c2 (List.forall_mem_cons.mpr ⟨?qq_o2_0, (List.forall_mem_nil _)⟩)) ?qq_a3 (K11.own2 ?qq_hn ?qq_ht ?qq_x3 ?qq_s3 ?qq_g3 ?qq_h3 ?qq_y3 ?qq_n3 ?qq_l3 ?qq_c3 (List.forall_mem_cons.mpr ⟨?qq_o3_0, (List.forall_mem_nil _)⟩)) ?qq_a4 (K11.own2 ?qq_hn ?qq_ht ?qq_x4 ?qq_s4 ?qq_g4 ?qq_h4 ?qq_y4 ?qq_n4 ?qq_l4 ?qq_c4 (List.forall_mem_cons.mpr ⟨?qq_o4_0, (List.forall_mem_nil _)⟩)) ?qq_a5 (K11.own2 ?qq_hn ?qq_ht ?qq_x5 ?qq_s5 ?qq_g5 ?qq_h5 ?qq_y5 ?qq_n5 ?qq_l5 ?qq_c5 (List.forall_mem_nil _)) ?qq_a6 (K11.own2 ?qq_hn ?qq_ht ?qq_x6 ?qq_s6 ?qq_g6 ?qq_h6 ?qq_y6 ?qq_n6 ?qq_l6 ?qq_c6 (List.forall_mem_cons.mpr ⟨?qq_o6_0, (List.forall_mem_cons.mpr ⟨?qq_o6_1, (List.forall_mem_cons.mpr ⟨?qq_o6_2, (List.forall_mem_nil _)⟩)⟩)⟩)) ?qq_a7 (K11.own2 ?qq_hn ?qq_ht ?qq_x7 ?qq_s7 ?qq_g7 ?qq_h7 ?qq_y7 ?qq_n7 ?qq_l7 ?qq_c7 (List.forall_mem_cons.mpr ⟨?qq_o7_0, (List.forall_mem_nil _)⟩)) ?qq_a8 (K11.own2 ?qq_hn ?qq_ht ?qq_x8 ?qq_s8 ?qq_g8 ?qq_h8 ?qq_y8 ?qq_n8 ?qq_l8 ?qq_c8 (List.forall_mem_cons.mpr ⟨?qq_o8_0, (List.forall_mem_nil _)⟩)) ?qq_a9 (K11.own2 ?qq_hn ?qq_ht ?qq_x9 ?qq_s9 ?qq_g9 ?qq_h9 ?qq_y9 ?qq_n9 ?qq_l9 ?qq_c9 (List.forall_mem_nil _)) ?qq_a10 (K11.own2 ?qq_hn ?qq_ht ?qq_x10 ?qq_s10 ?qq_g10 ?qq_h10 ?qq_y10 ?qq_n10 ?qq_l10 ?qq_c10 (List.forall_mem_cons.mpr ⟨?qq_o10_0, (List.forall_mem_nil _)⟩)) ?qq_a11 (K11.own2 ?qq_hn ?qq_ht ?qq_x11 ?qq_s11 ?qq_g11 ?qq_h11 ?qq_y11 ?qq_n11 ?qq_l11 ?qq_c11 (List.forall_mem_cons.mpr ⟨?qq_o11_0, (List.forall_mem_nil _)⟩)) ?qq_a12 (K11.own2 ?qq_hn ?qq_ht ?qq_x12 ?qq_s12 ?qq_g12 ?qq_h12 ?qq_y12 ?qq_n12 ?qq_l12 ?qq_c12 (List.forall_mem_cons.mpr ⟨?qq_o12_0, (List.forall_mem_nil _)⟩)) ?qq_a13 (K11.own2 ?qq_hn ?qq_ht ?qq_x13 ?qq_s13 ?qq_g13 ?qq_h13 ?qq_y13 ?qq_n13 ?qq_l13 ?qq_c13 (List.forall_mem_cons.mpr ⟨?qq_o13_0, (List.forall_mem_nil _)⟩)) ?qq_a14 (K11.own2 ?qq_hn ?qq_ht ?qq_x14 ?qq_s14 ?qq_g14 ?qq_h14 ?qq_y14 ?qq_n14 ?qq_l14 ?qq_c14 (List.forall_mem_cons.mpr ⟨?qq_o14_0, (List.forall_mem_nil _)⟩)) ?qq_a15 (K11.own2 ?qq_hn ?qq_ht ?qq_x15 ?qq_s15 ?qq_g15 ?qq_h15 ?qq_y15 ?qq_n15 ?qq_l15 ?qq_c15 (List.forall_mem_cons.mpr ⟨?qq_o15_0, (List.forall_mem_nil _)⟩)) ?qq_a16 (K11.own2 ?qq_hn ?qq_ht ?qq_x16 ?qq_s16 ?qq_g16 ?qq_h16 ?qq_y16 ?qq_n16 ?qq_l16 ?qq_c16 (List.forall_mem_nil _)) ?qq_a17 (K11.own2 ?qq_hn ?qq_ht ?qq_x17 ?qq_s17 ?qq_g17 ?qq_h17 ?qq_y17 ?qq_n17 ?qq_l17 ?qq_c17 (List.forall_mem_cons.mpr ⟨?qq_o17_0, (List.forall_mem_cons.mpr ⟨?qq_o17_1, (List.forall_mem_nil _)⟩)⟩)) ?qq_a18 (K11.own2 ?qq_hn ?qq_ht ?qq_x18 ?qq_s18 ?qq_g18 ?qq_h18 ?qq_y18 ?qq_n18 ?qq_l18 ?qq_c18 (List.forall_mem_nil _)) ?qq_a19 (K11.own2 ?qq_hn ?qq_ht ?qq_x19 ?qq_s19 ?qq_g19 ?qq_h19 ?qq_y19 ?qq_n19 ?qq_l19 ?qq_c19 (List.forall_mem_cons.mpr ⟨?qq_o19_0, (List.forall_mem_nil _)⟩)) ?qq_a20 (K11.own2 ?qq_hn ?qq_ht ?qq_x20 ?qq_s20 ?qq_g20 ?qq_h20 ?qq_y20 ?qq_n20 ?qq_l20 ?qq_c20 (List.forall_mem_cons.mpr ⟨?qq_o20_0, (List.forall_mem_nil _)⟩)) ?qq_a21 (K11.own2 ?qq_hn ?qq_ht ?qq_x21 ?qq_s21 ?qq_g21 ?qq_h21 ?qq_y21 ?qq_n21 ?qq_l21 ?qq_c21 (List.forall_mem_cons.mpr ⟨?qq_o21_0, (List.forall_mem_nil _)⟩)) ?qq_a22 (K11.own2 ?qq_hn ?qq_ht ?qq_x22 ?qq_s22 ?qq_g22 ?qq_h22 ?qq_y22 ?qq_n22 ?qq_l22 ?qq_c22 (List.forall_mem_cons.mpr ⟨?qq_o22_0, (List.forall_mem_nil _)⟩)) ?qq_a23 (K11.own2 ?qq_hn ?qq_ht ?qq_x23 ?qq_s23 ?qq_g23 ?qq_h23 ?qq_y23 ?qq_n23 ?qq_l23 ?qq_c23 (List.forall_mem_nil _)) ?qq_a24 (K11.own2 ?qq_hn ?qq_ht ?qq_x24 ?qq_s24 ?qq_g24 ?qq_h24 ?qq_y24 ?qq_n24 ?qq_l24 ?qq_c24 (List.forall_mem_cons.mpr ⟨?qq_o24_0, (List.forall_mem_nil _)⟩)) ?qq_a25 (K11.own2 ?qq_hn ?qq_ht ?qq_x25 ?qq_s25 ?qq_g25 ?qq_h25 ?qq_y25 ?qq_n25 ?qq_l25 ?qq_c25 (List.forall_mem_cons.mpr ⟨?qq_o25_0, (List.forall_mem_nil _)⟩)) ?qq_a26 (K11.own2 ?qq_hn ?qq_ht ?qq_x26 ?qq_s26 ?qq_g26 ?qq_h26 ?qq_y26 ?qq_n26 ?qq_l26 ?qq_c26 (List.forall_mem_nil _)) ?qq_a27 (K11.own2 ?qq_hn ?qq_ht ?qq_x27 ?qq_s27 ?qq_g27 ?qq_h27 ?qq_y27 ?qq_n27 ?qq_l27 ?qq_c27 (List.forall_mem_nil _)) ?qq_b0 ?qq_m0 ?qq_d0 ?qq_b1 ?qq_m1 ?qq_d1 ?qq_b2 ?qq_m2 ?qq_d2 ?qq_b3 ?qq_m3 ?qq_d3 ?qq_b4 ?qq_m4 ?qq_d4 ?qq_b5 ?qq_m5 ?qq_d5 ?qq_b6 ?qq_m6 ?qq_d6 ?qq_b7 ?qq_m7 ?qq_d7 ?qq_z_isinstance ?qq_z_int ?qq_z_len ?qq_z_abs ?qq_z_range ?qq_z_repr ?qq_z_enumerate ?qq_z_list ?qq_z_dict ?qq_z_ValueError ?qq_aA ?qq_xA ?qq_xE ?qq_gA ?qq_hA ?qq_yA ?qq_hn ?qq_ht ?qq_nd ?qq_na
    (case qq_aA => first | rfl | k_is)
    (case qq_xA => k_is)
    (case qq_a0 => first | rfl | k_is)
    (case qq_x0 => k_is)
    (case qq_s0 => first | rfl | k_is)
    (case qq_g0 => first | rfl | k_is)
    (case qq_h0 => first | rfl | k_is)
    (case qq_y0 => first | rfl | k_is)
    (case qq_n0 => first | rfl | k_is)
    (case qq_l0 => first | rfl | k_is)
    (case qq_c0 => first | rfl | k_is)
    (case qq_o0_0 => first | rfl | k_is)
    (case qq_a1 => first | rfl | k_is)
    (case qq_x1 => k_is)
    (case qq_s1 => first | rfl | k_is)
    (case qq_g1 => first | rfl | k_is)
    (case qq_h1 => first | rfl | k_is)
    (case qq_y1 => first | rfl | k_is)
    (case qq_n1 => first | rfl | k_is)
    (case qq_l1 => first | rfl | k_is)
    (case qq_c1 => first | rfl | k_is)
    (case qq_o1_0 => first | rfl | k_is)
    (case qq_o1_1 => first | rfl | k_is)
    (case qq_a2 => first | rfl | k_is)
    (case qq_x2 => k_is)
    (case qq_s2 => first | rfl | k_is)
    (case qq_g2 => first | rfl | k_is)
    (case qq_h2 => first | rfl | k_is)
    (case qq_y2 => first | rfl | k_is)
    (case qq_n2 => first | rfl | k_is)
    (case qq_l2 => first | rfl | k_is)
    (case qq_c2 => first | rfl | k_is)
    (case qq_o2_0 => first | rfl | k_is)
    (case qq_a3 => first | rfl | k_is)
    (case qq_x3 => k_is)
    (case qq_s3 => first | rfl | k_is)
    (case qq_g3 => first | rfl | k_is)
    (case qq_h3 => first | rfl | k_is)
    (case qq_y3 => first | rfl | k_is)
    (case qq_n3 => first | rfl | k_is)
    (case qq_l3 => first | rfl | k_is)
    (case qq_c3 => first | rfl | k_is)
    (case qq_o3_0 => first | rfl | k_is)
    (case qq_a4 => first | rfl | k_is)
    (case qq_x4 => k_is)
    (case qq_s4 => first | rfl | k_is)
    (case qq_g4 => first | rfl | k_is)
    (case qq_h4 => first | rfl | k_is)
    (case qq_y4 => first | rfl | k_is)
    (case qq_n4 => first | rfl | k_is)
    (case qq_l4 => first | rfl | k_is)
    (case qq_c4 => first | rfl | k_is)
    (case qq_o4_0 => first | rfl | k_is)
    (case qq_a5 => first | rfl | k_is)
    (case qq_x5 => k_is)
    (case qq_s5 => first | rfl | k_is)
    (case qq_g5 => first | rfl | k_is)
    (case qq_h5 => first | rfl | k_is)
    (case qq_y5 => first | rfl | k_is)
    (case qq_n5 => first | rfl | k_is)
    (case qq_l5 => first | rfl | k_is)
    (case qq_c5 => first | rfl | k_is)
    (case qq_a6 => first | rfl | k_is)
    (case qq_x6 => k_is)
    (case qq_s6 => first | rfl | k_is)
    (case qq_g6 => first | rfl | k_is)
    (case qq_h6 => first | rfl | k_is)
    (case qq_y6 => first | rfl | k_is)
    (case qq_n6 => first | rfl | k_is)
    (case qq_l6 => first | rfl | k_is)
    (case qq_c6 => first | rfl | k_is)
    (case qq_o6_0 => first | rfl | k_is)
    (case qq_o6_1 => first | rfl | k_is)
    (case qq_o6_2 => first | rfl | k_is)
    (case qq_a7 => first | rfl | k_is)
    (case qq_x7 => k_is)
    (case qq_s7 => first | rfl | k_is)
    (case qq_g7 => first | rfl | k_is)
    (case qq_h7 => first | rfl | k_is)
    (case qq_y7 => first | rfl | k_is)
    (case qq_n7 => first | rfl | k_is)
    (case qq_l7 => first | rfl | k_is)
    (case qq_c7 => first | rfl | k_is)
    (case qq_o7_0 => first | rfl | k_is)
    (case qq_a8 => first | rfl | k_is)
    (case qq_x8 => k_is)
    (case qq_s8 => first | rfl | k_is)
    (case qq_g8 => first | rfl | k_is)
    (case qq_h8 => first | rfl | k_is)
    (case qq_y8 => first | rfl | k_is)
    (case qq_n8 => first | rfl | k_is)
    (case qq_l8 => first | rfl | k_is)
    (case qq_c8 => first | rfl | k_is)
    (case qq_o8_0 => first | rfl | k_is)
    (case qq_a9 => first | rfl | k_is)
    (case qq_x9 => k_is)
    (case qq_s9 => first | rfl | k_is)
    (case qq_g9 => first | rfl | k_is)
    (case qq_h9 => first | rfl | k_is)
    (case qq_y9 => first | rfl | k_is)
    (case qq_n9 => first | rfl | k_is)
    (case qq_l9 => first | rfl | k_is)
    (case qq_c9 => first | rfl | k_is)
    (case qq_a10 => first | rfl | k_is)
    (case qq_x10 => k_is)
    (case qq_s10 => first | rfl | k_is)
    (case qq_g10 => first | rfl | k_is)
    (case qq_h10 => first | rfl | k_is)
    (case qq_y10 => first | rfl | k_is)
    (case qq_n10 => first | rfl | k_is)
    (case qq_l10 => first | rfl | k_is)
    (case qq_c10 => first | rfl | k_is)
    (case qq_o10_0 => first | rfl | k_is)
    (case qq_a11 => first | rfl | k_is)
    (case qq_x11 => k_is)
    (case qq_s11 => first | rfl | k_is)
    (case qq_g11 => first | rfl | k_is)
    (case qq_h11 => first | rfl | k_is)
    (case qq_y11 => first | rfl | k_is)
    (case qq_n11 => first | rfl | k_is)
    (case qq_l11 => first | rfl | k_is)
    (case qq_c11 => first | rfl | k_is)
    (case qq_o11_0 => first | rfl | k_is)
    (case qq_a12 => first | rfl | k_is)
    (case qq_x12 => k_is)
    (case qq_s12 => first | rfl | k_is)
    (case qq_g12 => first | rfl | k_is)
    (case qq_h12 => first | rfl | k_is)
    (case qq_y12 => first | rfl | k_is)
    (case qq_n12 => first | rfl | k_is)
    (case qq_l12 => first | rfl | k_is)
    (case qq_c12 => first | rfl | k_is)
    (case qq_o12_0 => first | rfl | k_is)
    (case qq_a13 => first | rfl | k_is)
    (case qq_x13 => k_is)
    (case qq_s13 => first | rfl | k_is)
    (case qq_g13 => first | rfl | k_is)
    (case qq_h13 => first | rfl | k_is)
    (case qq_y13 => first | rfl | k_is)
    (case qq_n13 => first | rfl | k_is)
    (case qq_l13 => first | rfl | k_is)
    (case qq_c13 => first | rfl | k_is)
    (case qq_o13_0 => first | rfl | k_is)
    (case qq_a14 => first | rfl | k_is)
    (case qq_x14 => k_is)
    (case qq_s14 => first | rfl | k_is)
    (case qq_g14 => first | rfl | k_is)
    (case qq_h14 => first | rfl | k_is)
    (case qq_y14 => first | rfl | k_is)
    (case qq_n14 => first | rfl | k_is)
    (case qq_l14 => first | rfl | k_is)
    (case qq_c14 => first | rfl | k_is)
    (case qq_o14_0 => first | rfl | k_is)
    (case qq_a15 => first | rfl | k_is)
    (case qq_x15 => k_is)
    (case qq_s15 => first | rfl | k_is)
    (case qq_g15 => first | rfl | k_is)
    (case qq_h15 => first | rfl | k_is)
    (case qq_y15 => first | rfl | k_is)
    (case qq_n15 => first | rfl | k_is)
    (case qq_l15 => first | rfl | k_is)
    (case qq_c15 => first | rfl | k_is)
    (case qq_o15_0 => first | rfl | k_is)
    (case qq_a16 => first | rfl | k_is)
    (case qq_x16 => k_is)
    (case qq_s16 => first | rfl | k_is)
    (case qq_g16 => first | rfl | k_is)
    (case qq_h16 => first | rfl | k_is)
    (case qq_y16 => first | rfl | k_is)
    (case qq_n16 => first | rfl | k_is)
    (case qq_l16 => first | rfl | k_is)
    (case qq_c16 => first | rfl | k_is)
    (case qq_a17 => first | rfl | k_is)
    (case qq_x17 => k_is)
    (case qq_s17 => first | rfl | k_is)
    (case qq_g17 => first | rfl | k_is)
    (case qq_h17 => first | rfl | k_is)
    (case qq_y17 => first | rfl | k_is)
    (case qq_n17 => first | rfl | k_is)
    (case qq_l17 => first | rfl | k_is)
    (case qq_c17 => first | rfl | k_is)
    (case qq_o17_0 => first | rfl | k_is)
    (case qq_o17_1 => first | rfl | k_is)
    (case qq_a18 => first | rfl | k_is)
    (case qq_x18 => k_is)
    (case qq_s18 => first | rfl | k_is)
    (case qq_g18 => first | rfl | k_is)
    (case qq_h18 => first | rfl | k_is)
    (case qq_y18 => first | rfl | k_is)
    (case qq_n18 => first | rfl | k_is)
    (case qq_l18 => first | rfl | k_is)
    (case qq_c18 => first | rfl | k_is)
    (case qq_a19 => first | rfl | k_is)
    (case qq_x19 => k_is)
    (case qq_s19 => first | rfl | k_is)
    (case qq_g19 => first | rfl | k_is)
    (case qq_h19 => first | rfl | k_is)
    (case qq_y19 => first | rfl | k_is)
    (case qq_n19 => first | rfl | k_is)
    (case qq_l19 => first | rfl | k_is)
    (case qq_c19 => first | rfl | k_is)
    (case qq_o19_0 => first | rfl | k_is)
    (case qq_a20 => first | rfl | k_is)
    (case qq_x20 => k_is)
    (case qq_s20 => first | rfl | k_is)
    (case qq_g20 => first | rfl | k_is)
    (case qq_h20 => first | rfl | k_is)
    (case qq_y20 => first | rfl | k_is)
    (case qq_n20 => first | rfl | k_is)
    (case qq_l20 => first | rfl | k_is)
    (case qq_c20 => first | rfl | k_is)
    (case qq_o20_0 => first | rfl | k_is)
    (case qq_a21 => first | rfl | k_is)
    (case qq_x21 => k_is)
    (case qq_s21 => first | rfl | k_is)
    (case qq_g21 => first | rfl | k_is)
    (case qq_h21 => first | rfl | k_is)
    (case qq_y21 => first | rfl | k_is)
    (case qq_n21 => first | rfl | k_is)
    (case qq_l21 => first | rfl | k_is)
    (case qq_c21 => first | rfl | k_is)
    (case qq_o21_0 => first | rfl | k_is)
    (case qq_a22 => first | rfl | k_is)
    (case qq_x22 => k_is)
    (case qq_s22 => first | rfl | k_is)
    (case qq_g22 => first | rfl | k_is)
    (case qq_h22 => first | rfl | k_is)
    (case qq_y22 => first | rfl | k_is)
    (case qq_n22 => first | rfl | k_is)
    (case qq_l22 => first | rfl | k_is)
    (case qq_c22 => first | rfl | k_is)
    (case qq_o22_0 => first | rfl | k_is)
    (case qq_a23 => first | rfl | k_is)
    (case qq_x23 => k_is)
    (case qq_s23 => first | rfl | k_is)
    (case qq_g23 => first | rfl | k_is)
    (case qq_h23 => first | rfl | k_is)
    (case qq_y23 => first | rfl | k_is)
    (case qq_n23 => first | rfl | k_is)
    (case qq_l23 => first | rfl | k_is)
    (case qq_c23 => first | rfl | k_is)
    (case qq_a24 => first | rfl | k_is)
    (case qq_x24 => k_is)
    (case qq_s24 => first | rfl | k_is)
    (case qq_g24 => first | rfl | k_is)
    (case qq_h24 => first | rfl | k_is)
    (case qq_y24 => first | rfl | k_is)
    (case qq_n24 => first | rfl | k_is)
    (case qq_l24 => first | rfl | k_is)
    (case qq_c24 => first | rfl | k_is)
    (case qq_o24_0 => first | rfl | k_is)
    (case qq_a25 => first | rfl | k_is)
    (case qq_x25 => k_is)
    (case qq_s25 => first | rfl | k_is)
    (case qq_g25 => first | rfl | k_is)
    (case qq_h25 => first | rfl | k_is)
    (case qq_y25 => first | rfl | k_is)
    (case qq_n25 => first | rfl | k_is)
    (case qq_l25 => first | rfl | k_is)
    (case qq_c25 => first | rfl | k_is)
    (case qq_o25_0 => first | rfl | k_is)
    (case qq_a26 => first | rfl | k_is)
    (case qq_x26 => k_is)
    (case qq_s26 => first | rfl | k_is)
    (case qq_g26 => first | rfl | k_is)
    (case qq_h26 => first | rfl | k_is)
    (case qq_y26 => first | rfl | k_is)
    (case qq_n26 => first | rfl | k_is)
    (case qq_l26 => first | rfl | k_is)
    (case qq_c26 => first | rfl | k_is)
    (case qq_a27 => first | rfl | k_is)
    (case qq_x27 => k_is)
    (case qq_s27 => first | rfl | k_is)
    (case qq_g27 => first | rfl | k_is)
    (case qq_h27 => first | rfl | k_is)
    (case qq_y27 => first | rfl | k_is)
    (case qq_n27 => first | rfl | k_is)
    (case qq_l27 => first | rfl | k_is)
    (case qq_c27 => first | rfl | k_is)
    (case qq_b0 => first | rfl | k_is)
    (case qq_m0 => first | rfl | k_is)
    (case qq_d0 => first | rfl | k_is)
    (case qq_b1 => first | rfl | k_is)
    (case qq_m1 => first | rfl | k_is)
    (case qq_d1 => first | rfl | k_is)
    (case qq_b2 => first | rfl | k_is)
    (case qq_m2 => first | rfl | k_is)
    (case qq_d2 => first | rfl | k_is)
    (case qq_b3 => first | rfl | k_is)
    (case qq_m3 => first | rfl | k_is)
    (case qq_d3 => first | rfl | k_is)
    (case qq_b4 => first | rfl | k_is)
    (case qq_m4 => first | rfl | k_is)
    (case qq_d4 => first | rfl | k_is)
    (case qq_b5 => first | rfl | k_is)
    (case qq_m5 => first | rfl | k_is)
    (case qq_d5 => first | rfl | k_is)
    (case qq_b6 => first | rfl | k_is)
    (case qq_m6 => first | rfl | k_is)
    (case qq_d6 => first | rfl | k_is)
    (case qq_b7 => first | rfl | k_is)
    (case qq_m7 => first | rfl | k_is)
    (case qq_d7 => first | rfl | k_is)
    (case qq_z_isinstance => first | rfl | k_is)
    (case qq_z_int => first | rfl | k_is)
    (case qq_z_len => first | rfl | k_is)
    (case qq_z_abs => first | rfl | k_is)
    (case qq_z_range => first | rfl | k_is)
    (case qq_z_repr => first | rfl | k_is)
    (case qq_z_enumerate => first | rfl | k_is)
    (case qq_z_list => first | rfl | k_is)
    (case qq_z_dict => first | rfl | k_is)
    (case qq_z_ValueError => first | rfl | k_is)
    (case qq_gA => first | rfl | k_is)
    (case qq_hA => first | rfl | k_is)
    (case qq_yA => first | rfl | k_is)
    (case qq_hn => first | rfl | k_is)
    (case qq_ht => first | rfl | k_is)
    (case qq_xE => k_exc)
    (case qq_nd => decide +kernel)
    (case qq_na => decide +kernel)
