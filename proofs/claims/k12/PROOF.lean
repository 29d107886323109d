import PyProof.Rows.All
import Wide.All
import OpenK.AllK
import Wide.FinOn
import PySem.Challenge.RW_askless_k12_kinds_known
import HandS.ForMost
import HandS.Flow
import HandS.IsInst
import HandS.ExcValue
import HandS.ExcOwn
import HandS.Wide
import HandS.Steps
import HandS.Codes
import HandS.ExcIs
import PyProof.ReprLen
import HandS.Walk
import HandS.Style
set_option Elab.async false
set_option linter.all false
set_option maxRecDepth 100000
/-! GLay: defs that are called where no text of a list is being made (so that repr of a list is told), their rules. -/
namespace GL
open PySem PySem.Spec PyProof.Rows L2

/-- nothing is being shown around -/
abbrev Gd (A : Around) : Prop := A.guards = some []
theorem Gd.deep {A : Around} (g : Gd A) (env : Env) : Gd (A.deeper env) := by
  unfold Gd at *
  simp [Around.deeper, g]

/-- a def's promise, given that nothing is being shown around the call -/
structure FnG (P : Program) (w : World) (K : PySem.W.Frag) (mg : Str → Option Value) (base : Heap)
    (k : Nat) (f : Addr) (fd : FuncData) (ps : List Str) (sp : Sp) : Prop where
  many : ∀ vs H Q E, sp vs H Q E → vs.length = ps.length
  does : ∀ (A : Around) (out : List Env) (s : Shared) (H : Hp) (ar : Args) (us : List Value) (vs : List V) (Q : VK) (E : XK),
    Gd A → Room k A → Env0 P w K mg base A out s H → BindsTo s fd ar (ps.zip us) → Vals vs us →
    sp vs H Q E → codeAny (model P w) A (.call (.ref f) ar) (CR CX0 out P w H s Q E) s
theorem FnG.of {P : Program} {w : World} {K : PySem.W.Frag} {mg : Str → Option Value} {base : Heap} {k : Nat} {f : Addr}
    {fd : FuncData} {ps : List Str} {sp : Sp} (F : FnOk P w K mg base CX0 k f fd ps sp) : FnG P w K mg base k f fd ps sp :=
  ⟨F.len, fun A out s H ar us vs Q E _ hr e b r h => F.run A out s H ar us vs Q E hr e b r h⟩

/-- a def by its body -/
theorem okG {P : Program} {w : World} {K : PySem.W.Frag} {mg : Str → Option Value} {base : Heap} {x qual : Str} {st : Stmt} {f : Addr}
    {fd : FuncData} {N ps : List Str} {k : Nat} {sp : Sp} (F : Fun K x qual st f fd) (S : FnScope N ps (defScope st))
    (many : ∀ vs H Q E, sp vs H Q E → vs.length = ps.length)
    (body : ∀ (cdv : Value) (A : Around) (out : List Env) (s : Shared) (H : Hp) (vs : List V) (Q : VK) (E : XK),
      Gd (A.deeper (envOfC qual (defScope st) s.heap.objs.size f cdv)) →
      Room k (A.deeper (envOfC qual (defScope st) s.heap.objs.size f cdv)) → sp vs H Q E →
      ∃ t, PSs (cxOf CX0 P w K mg base N qual (defScope st) f cdv A out s H E).nox (defBody st) t ∧
        t { nx := fun _ H' => Q .non H', rt := Q } (start N vs) H) :
    FnG P w K mg base (k + 1) f fd ps sp := by
  obtain ⟨oc, od, kV, doc, pm, an, cdv, ct, osl, rfl, lk, hcd⟩ := F.ex
  refine ⟨many, fun A out s H ar us vs Q E hG hr e0 hb r hsp => ?_⟩
  have hlen := many _ _ _ _ hsp
  have inK : K.In s.heap := e0.mod.kin.keeps (fun b o e => (e0.bs b o e).1)
  have lim := (e0.mod.nolimit.keeps (h' := s.heap) (fun b o e => (e0.bs b o e).1))
  have kinds : ∀ y ∈ ps.zip us, (defScope st).names.lookup y.1 = some .local ∨ ((defScope st).names.lookup y.1 = some .cell ∧
      ((cellsFrom (s.heap.objs.size + 1) (defScope st).names []).lookup y.1).isSome = true) := by
    rintro ⟨n, v⟩ hy
    cases S.par n (List.of_mem_zip hy).1 with
    | inl q => exact Or.inl q
    | inr q => exact Or.inr ⟨q, PySem.W.cellsFrom_some _ _ _ (Or.inl q)⟩
  refine codeAny_call_function hr.depth (inK _ _ lk) rfl S.co S.gen rfl
    (PySem.W.codeRec_of inK hcd) (hb _ _ _ _ ?_)
  refine wpAny_newFunctionEnv_cells S.kind kinds (fun env he s1 entered => ?_)
  subst he
  refine ⟨lim.keeps entered.toInCall.keep, codeAny_func ?_⟩
  obtain ⟨t, ht, hq⟩ := body cdv A out s H vs Q E (hG.deep _) (hr.deeper _) hsp
  have I0 := inv_start (E := E) (mg := mg) (P := P) (CX := CX0) S hr.hd e0 hlen r entered
  refine wpAny_mono (ht.nox.run [] s1 (start N vs) H _ I0 hq) (fun fl s' hs => ?_) (fun e s' hs => hs)
  cases fl with
  | next =>
    obtain ⟨σ', H', J, q⟩ := hs
    exact ⟨.non, H', J.os, J.bare, J.base, J.hok, rfl, q⟩
  | ret u =>
    obtain ⟨v, σ', H', J, rv, q⟩ := hs
    exact ⟨v, H', J.os, J.bare, J.base, J.hok, rv, q⟩
  | brk => obtain ⟨_, _, _, q⟩ := hs; exact q.elim
  | cont => obtain ⟨_, _, _, q⟩ := hs; exact q.elim

section
variable {X : Cx} {k : Nat} {f : Addr} {fd : FuncData} {ps : List Str} {sp : Sp} {x : Str} {p pos : Pos} {e : Expr} {es : List Expr} {t : TA}
/-- f(e, ..) where nothing is being shown around -/
theorem pe_callG (F : FnG X.prog X.w X.K X.mg X.base k f fd ps sp) (hG : Gd X.A) (hr : Room k X.A) (hg : Gl X x)
    (hm : X.mg x = some (.ref f)) (hk : PySem.W.keepIn X.K (.ref f) = true) (hb : Binds X.K fd ps [])
    (ha : PA X (e :: es) t) (hdb : (x == ("__debug__" : Str)) = false := by decide)
    (he : starEach (e :: es) X.env = (false, eval e X.env) :: starEach es X.env := by rfl)
    (hpl : (backTo pos (starEach es X.env)).any (·.1) = false := by rfl) :
    PE X (.Call (.Name x p) (e :: es) [] pos) (tCall sp [] E0 t) := by
  constructor
  intro pins s σ H Q I h
  apply wpAny_Call_Name_kw
  apply ld_glob I hg hm ?_ hdb
  apply PySem.W.callWith_K (h₀ := X.base) I.ok.mod.kin hk ?_ he hpl
  apply thn (ha.run pos pins s σ H _ I h)
  rintro us s1 ⟨vs, H1, I1, r, q⟩
  refine ⟨I1.kIn, ?_⟩
  have q' : sp vs H1 Q E0 := by
    have q0 : sp (vs ++ []) H1 Q E0 := q
    rwa [List.append_nil] at q0
  have hl : (us ++ []).length = ps.length := by
    rw [List.append_nil, ← r.length]
    exact F.many _ _ _ _ q'
  have hbd := hb s1 us I1.kIn hl
  rw [List.append_nil] at hbd
  apply wpAny_call
  apply codeAny_mono (F.does X.A X.stack s1 H1 ⟨us, []⟩ us vs Q E0 hG hr I1.env0 hbd r q')
  intro res s' hq
  match res, hq with
  | .ok (.ret u), hq => exact I1.after hq
end

/-- a def of the module that may be called by its name -/
structure Cl (P : Program) (w : World) (K : PySem.W.Frag) (mg : Str → Option Value) (base : Heap) (k : Nat) (x : Str) (sp : Sp) : Prop where
  ex : ∃ (f : Addr) (fd : FuncData) (ps : List Str), FnOk P w K mg base CX0 k f fd ps sp ∧
    mg x = some (.ref f) ∧ PySem.W.keepIn K (.ref f) = true ∧ Binds K fd ps []
structure ClG (P : Program) (w : World) (K : PySem.W.Frag) (mg : Str → Option Value) (base : Heap) (k : Nat) (x : Str) (sp : Sp) : Prop where
  ex : ∃ (f : Addr) (fd : FuncData) (ps : List Str), FnG P w K mg base k f fd ps sp ∧
    mg x = some (.ref f) ∧ PySem.W.keepIn K (.ref f) = true ∧ Binds K fd ps []
section
variable {X : Cx} {j k : Nat} {sp : Sp} {x : Str} {p pos : Pos} {e : Expr} {es : List Expr} {t : TA}
theorem pe_cl (c : Cl X.prog X.w X.K X.mg X.base k x sp) (hr : Room j X.A) (hk : k ≤ j) (hg : Gl X x)
    (ha : PA X (e :: es) t) (hdb : (x == ("__debug__" : Str)) = false := by decide)
    (he : starEach (e :: es) X.env = (false, eval e X.env) :: starEach es X.env := by rfl)
    (hpl : (backTo pos (starEach es X.env)).any (·.1) = false := by rfl) :
    PE X (.Call (.Name x p) (e :: es) [] pos) (tCall sp [] E0 t) := by
  obtain ⟨f, fd, ps, F, hm, kp, b⟩ := c.ex
  exact pe_call F (hr.mono hk) hg hm kp b .nil pass0 ha hdb he hpl
theorem pe_clG (c : ClG X.prog X.w X.K X.mg X.base k x sp) (hG : Gd X.A) (hr : Room j X.A) (hk : k ≤ j) (hg : Gl X x)
    (ha : PA X (e :: es) t) (hdb : (x == ("__debug__" : Str)) = false := by decide)
    (he : starEach (e :: es) X.env = (false, eval e X.env) :: starEach es X.env := by rfl)
    (hpl : (backTo pos (starEach es X.env)).any (·.1) = false := by rfl) :
    PE X (.Call (.Name x p) (e :: es) [] pos) (tCall sp [] E0 t) := by
  obtain ⟨f, fd, ps, F, hm, kp, b⟩ := c.ex
  exact pe_callG F hG (hr.mono hk) hg hm kp b ha hdb he hpl
end

section
variable {X : Cx}
/-- repr of data: none, bools, ints, texts, lists, tuples -/
def rRepr (K : PySem.W.Frag) : List V → Hp → VK → Prop := fun xs H Q => ∃ v d, xs = [v] ∧ Dp K H v d ∧ d.showable = true ∧
  d.hasDict = false ∧ d.depth ≤ 64 ∧ d.shown.length ≤ sizeLine ∧ Q (.str d.shown) H
theorem call_reprD (hG : Gd X.A) (hu : X.A.units + 66 < cLine) : CallR X (.builtin "repr") (rRepr X.K) := by
  intro pins s σ H xs us Q I r h
  obtain ⟨v, d, rfl, hd, hs, hn, hz, hl, q⟩ := h
  obtain ⟨u, rfl, rv⟩ := vals1 r
  obtain ⟨as, rd⟩ := Dp.reads I d v u hd rv
  cases rd with
  | none => exact PySem.P.repr_of_none ⟨.str _, H, I.tok _, ⟨_, rfl⟩, q⟩
  | bool b => exact PySem.P.repr_of_bool ⟨.str _, H, I.tok _, ⟨_, rfl⟩, by cases b <;> exact q⟩
  | int i t => exact PySem.P.repr_of_int (of_decide_eq_true hs) ⟨.str _, H, I.tok _, ⟨_, rfl⟩, q⟩
  | str y t => exact PySem.P.repr_of_str ⟨.str _, H, I.tok _, ⟨_, rfl⟩, q⟩ hl
  | list h1 h2 h3 h4 =>
    exact repr_of_reads' (.list h1 h2 h3 h4) hs (PyData.noDict_hsm hn) hG (by omega) (fun _ _ e => e)
      (fun h' u tk hk => ⟨.str _, H, I.kept hk, ⟨_, rfl⟩, q⟩) hl
  | tuple h1 h2 h3 h4 =>
    exact repr_of_reads' (.tuple h1 h2 h3 h4) hs (PyData.noDict_hsm hn) hG (by omega) (fun _ _ e => e)
      (fun h' u tk hk => ⟨.str _, H, I.kept hk, ⟨_, rfl⟩, q⟩) hl
  | dict h1 h2 h3 h4 h5 => cases hd
end
end GL
set_option Elab.async false
set_option linter.all false
set_option maxRecDepth 100000
/-! GLay2: a few more rules by values, and words about heaps -/
namespace GL
open PySem PySem.Spec PyProof.Rows L2
section
variable {X : Cx}
/-- x op= of a list's item: the item is read -/
theorem get_list : PGet X (fun o i H Q => ∃ p xs k v, o = .ref p ∧ i = .int (k : Nat) ∧ H p = some (.lst xs) ∧ xs[k]? = some v ∧ Q v H) := by
  intro pins s σ H o i ov iv Q I ro ri h
  obtain ⟨p, xs, k, v, rfl, rfl, hp, he, q⟩ := h
  cases ro
  obtain ⟨t, rfl⟩ := ri
  obtain ⟨its, r, pl, hz⟩ := I.list (.inl (.inl hp))
  obtain ⟨w, ew, rw'⟩ := r.get he
  have hk : k < xs.length := (List.getElem?_eq_some_iff.mp he).1
  have h63 := line63
  exact getItem_listL pl.isList (Int.natCast_nonneg k) (by omega) (by simpa using ew) ⟨v, H, I, rw', q⟩
/-- a text a few times -/
theorem op_mul_str : OpR X (binaryOp .Mult) (fun x y H Q => ∃ (z : Str) (n : Int), x = .str z ∧ y = .int n ∧ 0 ≤ n ∧ n ≤ 1000 ∧ z.length ≤ 1000 ∧ Q (.str (Txt.mul z n)) H) := by
  intro pins s σ H x y v u Q I rx ry h
  obtain ⟨z, n, rfl, rfl, h0, h1, hz, q⟩ := h
  obtain ⟨t, rfl⟩ := rx
  obtain ⟨t', rfl⟩ := ry
  have hn : n.toNat ≤ 1000 := by omega
  have hm : z.length * n.toNat ≤ 1000 * 1000 := Nat.mul_le_mul hz hn
  refine SB.mul (n := n) ⟨?_, fun h2 _ => ?_, fun h2 _ => ?_⟩ fun t2 k => ⟨.str (Txt.mul z n), H, I.tok k, ⟨t2, rfl⟩, q⟩
  · rw [decide_eq_false (by omega), decide_eq_false (by omega)]
    rfl
  · have h3 : (2 ^ 63 - 1 : Int) / 1000 ≤ (2 ^ 63 - 1) / n := by
      rcases Int.lt_or_le 0 n with hp | hp
      · rw [Int.le_ediv_iff_mul_le hp]
        have h4 : (2 ^ 63 - 1 : Int) / 1000 * n ≤ (2 ^ 63 - 1 : Int) / 1000 * 1000 := Int.mul_le_mul_of_nonneg_left h1 (by decide)
        have h5 : (2 ^ 63 - 1 : Int) / 1000 * 1000 ≤ 2 ^ 63 - 1 := by decide
        omega
      · omega
    have h6 : (1000 : Int) ≤ (2 ^ 63 - 1 : Int) / 1000 := by decide
    omega
  · have h7 : 1000 * 1000 ≤ sizeLine := by rw [sizeLine_eq]; decide
    unfold Builtin.Str.tooLong
    exact decide_eq_false (by omega)
end

theorem atI_int {α : Type} {xs : List α} {i : Int} {v : α} (h0 : 0 ≤ i) (h : xs[i.toNat]? = some v) : atI xs i = some v := by
  have e := atI_nat h
  rwa [Int.toNat_of_nonneg h0] at e

/-! ### heaps: all but one object stays -/
/-- the heap without b -/
def wo (b : Addr) (H : Hp) : Hp := fun a => if a = b then none else H a
theorem wo_ne {b a : Addr} {H : Hp} (h : a ≠ b) : wo b H a = H a := by unfold wo; rw [if_neg h]
theorem wo_some {b a : Addr} {H : Hp} {o : HO} (h : wo b H a = some o) : a ≠ b ∧ H a = some o := by
  unfold wo at h
  by_cases e : a = b
  · rw [if_pos e] at h; cases h
  · rw [if_neg e] at h; exact ⟨e, h⟩
theorem wo_same {b : Addr} {H : Hp} : Same (wo b H) H := fun _ _ h => (wo_some h).2
/-- all that is tracked in H but b is so in H' -/
def But (b : Addr) (H H' : Hp) : Prop := Same (wo b H) (wo b H')
theorem But.refl {b : Addr} {H : Hp} : But b H H := Same.refl _
theorem But.trans {b : Addr} {H H1 H2 : Hp} (h : But b H H1) (k : But b H1 H2) : But b H H2 := Same.trans h k
theorem But.of {b : Addr} {H H' : Hp} (h : Same H H') : But b H H' := fun a o e => by
  obtain ⟨n, e'⟩ := wo_some e
  rw [wo_ne n]; exact h _ _ e'
theorem But.upd {b : Addr} {H : Hp} {o : HO} : But b H (upd H b o) := fun a u e => by
  obtain ⟨n, e'⟩ := wo_some e
  rw [wo_ne n, upd_ne n]; exact e'
theorem But.new {b p : Addr} {H : Hp} {o : HO} (h : H p = none) : But b H (L2.upd H p o) := But.of fun a u e => by
  rw [upd_ne (ne_of_none e h)]; exact e
theorem But.at {b a : Addr} {H H' : Hp} {o : HO} (h : But b H H') (n : a ≠ b) (e : H a = some o) : H' a = some o := by
  have := h a o (by rw [wo_ne n]; exact e)
  rw [wo_ne n] at this; exact this
theorem same_new {p : Addr} {H : Hp} {o : HO} (h : H p = none) : Same H (upd H p o) := fun a u e => by
  rw [upd_ne (ne_of_none e h)]; exact e
theorem upd_self {a : Addr} {H : Hp} {o : HO} (h : H a = some o) : upd H a o = H := by
  funext b
  by_cases e : b = a
  · rw [e, upd_same, h]
  · rw [upd_ne e]
theorem Same.seqT {K : PySem.W.Frag} {H H' : Hp} {a : Addr} {xs : List V} (e : Same H H') (h : SqT K H a xs) : SqT K H' a xs := by
  rcases h with (h | ⟨o, h⟩) | h
  · exact .inl (.inl (e _ _ h))
  · exact .inl (.inr ⟨o, e _ _ h⟩)
  · exact .inr h
mutual
theorem Dp.same {K : PySem.W.Frag} {H H' : Hp} (e : Same H H') : ∀ {d : PyData} {v : V}, Dp K H v d → Dp K H' v d
  | .none, _, .non => .non
  | .bool _, _, .bl b => .bl b
  | .int _, _, .int i => .int i
  | .str _, _, .str x => .str x
  | .list _, _, .lst h a => .lst (e.seq h) (DpAll.same e a)
  | .tuple _, _, .tup h a => .tup (Same.seqT e h) (DpAll.same e a)
theorem DpAll.same {K : PySem.W.Frag} {H H' : Hp} (e : Same H H') : ∀ {ds : List PyData} {vs : List V}, DpAll K H vs ds → DpAll K H' vs ds
  | [], _, .nil => .nil
  | _ :: _, _, .cons h t => .cons (Dp.same e h) (DpAll.same e t)
end
end GL
set_option Elab.async false
set_option linter.all false
set_option maxRecDepth 100000
/-! GLay3: any values: what a law may be handed -/
namespace GL
open PySem PySem.Spec PyProof.Rows L2

/-- a short text of plain signs -/
def TxOk (x : Str) : Prop := x.length ≤ 10000 ∧ ∀ c ∈ x.cps.toList, c < 128
/-- data whose text may be told -/
structure DOk (d : PyData) : Prop where
  lay : d.canLay0 = true
  short : d.leavesShort 8 = true
  weighs : d.weight ≤ 100000
  deep : d.depth ≤ 60
  shows : d.showable = true
theorem DOk.fits {d : PyData} (h : DOk d) : d.shown.length ≤ sizeLine := by
  have k := PyData.shown_le 8 (by decide) d h.short
  have k2 := h.weighs
  rw [sizeLine_eq]
  omega
theorem DOk.nodict {d : PyData} (h : DOk d) : d.hasDict = false := PyData.hasDict_of_canLay d h.lay
theorem TxOk.size {x : Str} (h : TxOk x) : x.length ≤ sizeLine := by
  have := h.1
  rw [sizeLine_eq]
  omega
theorem TxOk.strOk {x : Str} (h : TxOk x) : PyData.strOk x = true := by
  unfold PyData.strOk
  rw [Array.all_eq_true_iff_forall_mem]
  intro c hc
  have := h.2 c (Array.mem_toList_iff.mpr hc)
  simp
  omega
theorem TxOk.data {x : Str} (h : TxOk x) : DOk (.str x) where
  lay := by simp only [PyData.canLay0]; exact h.strOk
  short := by
    simp only [PyData.leavesShort, List.all_eq_true, decide_eq_true_eq]
    intro c hc
    have := h.2 c hc
    have e : (16 : Nat) ^ 8 = 4294967296 := by decide
    omega
  weighs := by
    have := h.1
    have e : x.length = x.cps.size := rfl
    simp only [PyData.weight]
    omega
  deep := by simp only [PyData.depth]; omega
  shows := by simp only [PyData.showable]

/-- a value that is no exception, in H -/
inductive ThN (K : PySem.W.Frag) (H : Hp) : V → Prop where
  | int (i : Int) (h : i.natAbs < 10 ^ 41) : ThN K H (.int i)
  | str (x : Str) (h : TxOk x) : ThN K H (.str x)
  | bl (b : Bool) : ThN K H (.bl b)
  | non : ThN K H .non
  | lst {a : Addr} {xs : List V} {ds : List PyData} (e : H a = some (.lst xs)) (d : DpAll K H xs ds) (o : DOk (.list ds)) : ThN K H (.ref a)
  | tup {a : Addr} {xs : List V} {ds : List PyData} (e : H a = some (.tup xs)) (d : DpAll K H xs ds) (o : DOk (.tuple ds)) : ThN K H (.ref a)
  | dct {a : Addr} (e : H a = some (.dK [])) : ThN K H (.ref a)
theorem ThN.same {K : PySem.W.Frag} {H H' : Hp} {v : V} (t : ThN K H v) (e : Same H H') : ThN K H' v := by
  cases t with
  | int i h => exact .int i h
  | str x h => exact .str x h
  | bl b => exact .bl b
  | non => exact .non
  | lst h d o => exact .lst (e _ _ h) (DpAll.same e d) o
  | tup h d o => exact .tup (e _ _ h) (DpAll.same e d) o
  | dct h => exact .dct (e _ _ h)
/-- an exception of the class C -/
def ThE (C : Addr) (H : Hp) (v : V) : Prop := ∃ a, v = .ref a ∧ H a = some (ExO (.ref C) a)
def Th (K : PySem.W.Frag) (C : Addr) (H : Hp) (v : V) : Prop := ThN K H v ∨ ThE C H v
theorem Th.same {K : PySem.W.Frag} {C : Addr} {H H' : Hp} {v : V} (t : Th K C H v) (e : Same H H') : Th K C H' v := by
  rcases t with t | ⟨a, rfl, h⟩
  · exact .inl (t.same e)
  · exact .inr ⟨a, rfl, e _ _ h⟩

/-- isinstance of a built-in class that no reference is of -/
inductive Ty3 where
  | i | b | s
def Ty3.name : Ty3 → String
  | .i => "int"
  | .b => "bool"
  | .s => "str"
def isB : Ty3 → V → Bool
  | .i, .int _ => true
  | .i, .bl _ => true
  | .b, .bl _ => true
  | .s, .str _ => true
  | _, _ => false
section
variable {X : Cx}
theorem isi_run {pins : List (Addr × Obj)} {σ : L2.St} {H : Hp} {s : Shared} {v : V} {u : Value} {T : String} {b : Bool} {Q : VK} (t : Value) (I : Inv X pins σ H s) (rx : RelV v u)
    (ty : TyX X.K H v t) (e : PySem.W.kitOne X.K t (.type T) = some b) (q : Q (.bl b) H) :
    wpAny (model X.prog X.w) X.A (call (.builtin "isinstance") [u, .type T]) (EP X pins σ Q) X.xe s := by
  obtain ⟨Z, k, p, hx⟩ := kit_of I rx ty
  exact PySem.W.kia_one k I.kIn p e hx fun tk => ⟨.bl b, H, I.tok tk, rfl, q⟩
theorem exc_inst {pins : List (Addr × Obj)} {σ : L2.St} {H : Hp} {s : Shared} {C a : Addr} (I : Inv X pins σ H s) (h : H a = some (ExO (.ref C) a)) :
    ∃ oe, PySem.W.InstAt s.heap a oe C none := by
  obtain ⟨⟨oe, vs, ho, hz, hd, _⟩, _, _⟩ := I.hok a _ h
  obtain ⟨oc, od, oda, osl⟩ := oe
  obtain ⟨h1, h2⟩ := hz
  dsimp only at h1 h2 hd
  subst h1 h2 hd
  exact ⟨_, ho, rfl, rfl, trivial⟩
/-- the answers for the exceptions of the class C -/
structure ExcK (K : PySem.W.Frag) (C : Addr) : Prop where
  c : ExcC K C
  i : PySem.W.kitOne K (.ref C) (.type "int") = some false
  b : PySem.W.kitOne K (.ref C) (.type "bool") = some false
  s : PySem.W.kitOne K (.ref C) (.type "str") = some false
  own : PySem.W.kitOne K (.ref C) (.ref C) = some true
  int : PySem.W.kitOne K (.type "int") (.ref C) = some false
  bool : PySem.W.kitOne K (.type "bool") (.ref C) = some false
  str : PySem.W.kitOne K (.type "str") (.ref C) = some false
  non : PySem.W.kitOne K (.type "NoneType") (.ref C) = some false
  lst : PySem.W.kitOne K (.type "list") (.ref C) = some false
  tup : PySem.W.kitOne K (.type "tuple") (.ref C) = some false
  dct : PySem.W.kitOne K (.type "dict") (.ref C) = some false
theorem isi_exc {pins : List (Addr × Obj)} {σ : L2.St} {H : Hp} {s : Shared} {C a : Addr} {c : Value} {b : Bool} {Q : VK} (E : ExcC X.K C) (I : Inv X pins σ H s) (h : H a = some (ExO (.ref C) a))
    (e : PySem.W.kitOne X.K (.ref C) c = some b) (q : Q (.bl b) H) :
    wpAny (model X.prog X.w) X.A (call (.builtin "isinstance") [.ref a, c]) (EP X pins σ Q) X.xe s := by
  obtain ⟨oe, J⟩ := exc_inst I h
  exact PySem.W.kia_one (PySem.W.handS_kitx_exc E.hg E.hk E.hs E.hd E.ha E.hn E.ht E.hm) I.kIn J e (fun z => nomatch z)
    fun tk => ⟨.bl b, H, I.tok tk, rfl, q⟩
theorem call_isiTh {C : Addr} (EK : ExcK X.K C) : CallR X (.builtin "isinstance") (fun xs H Q => ∃ v T, xs = [v, .ty T.name] ∧ Th X.K C H v ∧ Q (.bl (isB T v)) H) := by
  intro pins s σ H xs us Q I r h
  obtain ⟨v, T, rfl, t, q⟩ := h
  obtain ⟨u, u2, rfl, rv, r2⟩ := vals2 r
  cases (show u2 = Value.type T.name from r2)
  have go : ∀ (t : String) (b : Bool), TyX X.K H v (.type t) → kitB t T.name = some b → isB T v = b →
      wpAny (model X.prog X.w) X.A (call (.builtin "isinstance") [u, .type T.name]) (EP X pins σ Q) X.xe s :=
    fun t b ty e eb => isi_run _ I rv ty (kit_ty e) (eb ▸ q)
  rcases t with t | ⟨a, rfl, h⟩
  · cases t with
    | int i h =>
      cases T
      · exact go "int" true (.base (.int i)) (by decide +kernel) rfl
      · exact go "int" false (.base (.int i)) (by decide +kernel) rfl
      · exact go "int" false (.base (.int i)) (by decide +kernel) rfl
    | str x h =>
      cases T
      · exact go "str" false (.base (.str x)) (by decide +kernel) rfl
      · exact go "str" false (.base (.str x)) (by decide +kernel) rfl
      · exact go "str" true (.base (.str x)) (by decide +kernel) rfl
    | bl b =>
      cases T
      · exact go "bool" true (.base (.bl b)) (by decide +kernel) rfl
      · exact go "bool" true (.base (.bl b)) (by decide +kernel) rfl
      · exact go "bool" false (.base (.bl b)) (by decide +kernel) rfl
    | non => cases T <;> exact go "NoneType" false (.base .non) (by decide +kernel) rfl
    | lst e d o => cases T <;> exact go "list" false (.base (.lst e)) (by decide +kernel) rfl
    | tup e d o => cases T <;> exact go "tuple" false (.base (.tup e)) (by decide +kernel) rfl
    | dct e => cases T <;> exact go "dict" false (.base (.dK e)) (by decide +kernel) rfl
  · cases (show u = Value.ref a from rv)
    cases T
    · exact isi_exc EK.c I h EK.i q
    · exact isi_exc EK.c I h EK.b q
    · exact isi_exc EK.c I h EK.s q
/-- isinstance(x, C), C the class of exceptions -/
theorem call_isiC {C : Addr} (EK : ExcK X.K C) : CallR X (.builtin "isinstance") (fun xs H Q => ∃ v, xs = [v, .ref C] ∧ ((ThN X.K H v ∧ Q (.bl false) H) ∨ (ThE C H v ∧ Q (.bl true) H))) := by
  intro pins s σ H xs us Q I r h
  obtain ⟨v, rfl, h⟩ := h
  obtain ⟨u, u2, rfl, rv, r2⟩ := vals2 r
  cases (show u2 = Value.ref C from r2)
  have go : ∀ {t : Value}, TyX X.K H v t → PySem.W.kitOne X.K t (.ref C) = some false → Q (.bl false) H →
      wpAny (model X.prog X.w) X.A (call (.builtin "isinstance") [u, .ref C]) (EP X pins σ Q) X.xe s := by
    intro t ty e q
    obtain ⟨Z, k, p, hx⟩ := kit_of I rv ty
    exact PySem.W.kia_one k I.kIn p e hx fun tk => ⟨.bl false, H, I.tok tk, rfl, q⟩
  rcases h with ⟨t, q⟩ | ⟨⟨a, rfl, h⟩, q⟩
  · cases t with
    | int i h => exact go (.base (.int i)) EK.int q
    | str x h => exact go (.base (.str x)) EK.str q
    | bl b => exact go (.base (.bl b)) EK.bool q
    | non => exact go (.base .non) EK.non q
    | lst e d o => exact go (.base (.lst e)) EK.lst q
    | tup e d o => exact go (.base (.tup e)) EK.tup q
    | dct e => exact go (.base (.dK e)) EK.dct q
  · cases (show u = Value.ref a from rv)
    exact isi_exc EK.c I h EK.own q

/-- the data that v is in H -/
inductive Is (K : PySem.W.Frag) (H : Hp) : V → PyData → Prop where
  | dp {v : V} {d : PyData} (h : Dp K H v d) (o : d.hasDict = false) (s : d.showable = true) (z : d.depth ≤ 60) (l : d.shown.length ≤ sizeLine) : Is K H v d
  | dct {a : Addr} (h : H a = some (.dK [])) : Is K H (.ref a) (.dict [])
theorem ThN.is {K : PySem.W.Frag} {H : Hp} {v : V} (t : ThN K H v) : ∃ d, Is K H v d := by
  cases t with
  | int i h =>
    refine ⟨_, .dp (.int i) rfl (decide_eq_true ?_) (by simp only [PyData.depth]; omega) ?_⟩
    · exact PySem.Flt.log2_lt_of (by decide) (Nat.lt_trans h (by decide))
    · have e := int_text_length_le10 (k := 41) (by decide) h
      show (Str.ofString (toString i)).length ≤ sizeLine
      rw [PyProof.Rows.ofString_length, sizeLine_eq]
      have e2 : (toString i).toList.length ≤ 42 := e
      omega
  | str x h => exact ⟨_, .dp (.str x) rfl rfl (by simp only [PyData.depth]; omega) h.data.fits⟩
  | bl b => exact ⟨_, .dp (.bl b) rfl rfl (by simp only [PyData.depth]; omega) (by rw [sizeLine_eq]; cases b <;> decide)⟩
  | non => exact ⟨_, .dp .non rfl rfl (by simp only [PyData.depth]; omega) (by rw [sizeLine_eq]; decide)⟩
  | lst e d o => exact ⟨_, .dp (.lst (.inl (.inl e)) d) o.nodict o.shows o.deep o.fits⟩
  | tup e d o => exact ⟨_, .dp (.tup (.inl (.inl e)) d) o.nodict o.shows o.deep o.fits⟩
  | dct e => exact ⟨_, .dct e⟩
theorem Is.same {K : PySem.W.Frag} {H H' : Hp} {v : V} {d : PyData} (t : Is K H v d) (e : Same H H') : Is K H' v d := by
  cases t with
  | dp h o s z l => exact .dp (Dp.same e h) o s z l
  | dct h => exact .dct (e _ _ h)
theorem call_reprQ (hG : Gd X.A) (hu : X.A.units + 66 < cLine) : CallR X (.builtin "repr") (fun xs H Q => ∃ v d, xs = [v] ∧ Is X.K H v d ∧ Q (.str d.shown) H) := by
  intro pins s σ H xs us Q I r h
  obtain ⟨v, d, rfl, hd, q⟩ := h
  cases hd with
  | dp h o sh z l => exact call_reprD hG hu pins s σ H [v] us Q I r ⟨v, d, rfl, h, sh, o, by omega, l, q⟩
  | @dct a h =>
    obtain ⟨u, rfl, rv⟩ := vals1 r
    cases (show u = Value.ref a from rv)
    obtain ⟨_, hsm, vs, kv, ob, es, ep, h1, h2, h3, h4⟩ := (show ObjOk X.prog X.w H s.heap a (.dK []) from I.hok a _ h)
    have e0 : vs = [] := by
      cases kv
      rfl
    subst e0
    have e1 : es.toList = [] := by
      obtain ⟨l, el⟩ : ∃ l, es.toList = l := ⟨_, rfl⟩
      have p := h4.2.1
      rw [el] at p
      cases p
      exact el
    obtain ⟨as, bs, hr⟩ : ∃ as bs, Reads s.heap (.ref a) (.dict []) (a :: as ++ bs) ∧ as = [] ∧ bs = [] :=
      ⟨[], [], .dict h1 h2.1 h3 (by rw [e1]; exact .nil) (by rw [e1]; exact .nil), rfl, rfl⟩
    obtain ⟨rd, rfl, rfl⟩ := hr
    refine repr_of_reads' rd rfl (fun _ hm => ?_) hG (by simp only [PyData.depth, PyData.depthKv]; omega) (fun _ _ e => e)
      (fun h' u tk hk => ⟨.str _, H, I.kept hk, ⟨_, rfl⟩, q⟩) (by rw [sizeLine_eq]; decide +kernel)
    rcases List.mem_cons.mp hm with e | e
    · rw [← e] at hsm
      simp at hsm
    · cases e
end
end GL
set_option Elab.async false
set_option linter.all false
set_option maxRecDepth 100000
/-! GLay4: comprehensions that change nothing -/
namespace GL
open PySem PySem.Spec PyProof.Rows L2
theorem lc_pure {α : Type} {J : It} {G : Hp → Prop} {Y : Nat → Hp → V → Hp → Prop} {as : List α} {emb : α → V} (w : Walk J as.length G Y)
    (hY : ∀ i H x H', Y i H x H' → H' = H ∧ ∃ a, as[i]? = some a ∧ x = emb a)
    {g : TG} {tt : TT} {te : TE} {vs : List Nat} {σ : L2.St} {H1 : Hp} {D : Addr} {Qd : Hp → Prop} (hG : ∀ l, G (upd H1 D (.lst l))) (hn : as.length < sizeLine) (p : α → Bool) (f : α → V)
    (hs : ∀ a, a ∈ as → ∀ (l : List V) (R : VK) (S : Hp → Prop), (p a = true → R (f a) (upd H1 D (.lst l))) → (p a = false → S (upd H1 D (.lst l))) →
      g (emb a) (wipe σ vs) (upd H1 D (.lst l)) fun σ2 H2 => wipe σ2 vs = wipe σ vs ∧ tt σ2 H2 fun b H3 => if b = true then te σ2 H3 R else S H3)
    (hd : Qd (upd H1 D (.lst ((as.filter p).map f)))) :
    ∃ W : Nat → Nat → Hp → Prop, (∃ m, W 0 m (upd H1 D (.lst []))) ∧ ∀ i m H, W i m H →
      (J.stop i H ∧ Qd H) ∨ (J.go i H ∧ ∃ Nx : Hp → Prop, (∀ H', Nx H' → ∃ m', m' < m ∧ W (i + 1) m' H') ∧ ∀ x H', J.yld i H x H' → g x (wipe σ vs) H' fun σ2 H2 => wipe σ2 vs = wipe σ vs ∧ tt σ2 H2 fun b H3 =>
        if b = true then te σ2 H3 fun y H4 => ∃ acc, H4 D = some (.lst acc) ∧ acc.length < sizeLine ∧ Nx (upd H4 D (.lst (acc ++ [y]))) else Nx H3) := by
  refine lc_it w (fun i H => H = upd H1 D (.lst (((as.take i).filter p).map f))) rfl (fun i H _ h => by subst h; exact hG _) (fun i x H H' hi h y => ?_) (fun H h => ?_)
  · subst h
    obtain ⟨rfl, a, ha, rfl⟩ := hY _ _ _ _ y
    have hm : a ∈ as := List.mem_of_getElem? ha
    have et : as.take (i + 1) = as.take i ++ [a] := by rw [List.take_add_one, ha]; rfl
    refine hs a hm _ _ _ (fun hp => ?_) (fun hp => ?_)
    · refine ⟨_, upd_same, ?_, ?_⟩
      · rw [List.length_map]
        exact Nat.lt_of_le_of_lt (Nat.le_trans (List.length_filter_le _ _) (List.length_take_le _ _)) (Nat.lt_of_le_of_lt (Nat.le_of_lt hi) hn)
      · rw [upd_upd, et, List.filter_append, List.map_append]
        simp [hp]
    · rw [et, List.filter_append, List.map_append]
      simp [hp]
  · rw [List.take_length] at h
    subst h
    exact hd
theorem walk_signs {z : Str} : Walk (Its z) z.cps.toList.length (fun _ => True) (fun i H v H' => H' = H ∧ ∃ c, z.cps[i]? = some c ∧ v = .str ⟨#[c]⟩) := by
  have h : z.cps.toList.length = z.cps.size := by simp
  rw [h]
  exact walk_str
theorem signs_y {z : Str} (i : Nat) (H : Hp) (x : V) (H' : Hp) (h : H' = H ∧ ∃ c, z.cps[i]? = some c ∧ x = .str ⟨#[c]⟩) : H' = H ∧ ∃ c, z.cps.toList[i]? = some c ∧ x = (fun c => V.str ⟨#[c]⟩) c := by
  obtain ⟨e, c, h1, h2⟩ := h
  exact ⟨e, c, by simpa using h1, h2⟩
theorem list_y {xs : List V} (i : Nat) (H : Hp) (x : V) (H' : Hp) (h : YAt xs i H x H') : H' = H ∧ ∃ c, xs[i]? = some c ∧ x = id c := ⟨h.1, x, h.2, rfl⟩
theorem Dp.strs {K : PySem.W.Frag} {H : Hp} : ∀ cs : List Str, DpAll K H (cs.map V.str) (cs.map PyData.str)
  | [] => .nil
  | c :: r => .cons (.str c) (Dp.strs r)
theorem Dp.bools {K : PySem.W.Frag} {H : Hp} : ∀ cs : List Bool, DpAll K H (cs.map V.bl) (cs.map PyData.bool)
  | [] => .nil
  | c :: r => .cons (.bl c) (Dp.bools r)
section
variable {X : Cx} {p : Pos}
theorem pe_tInt (hm : X.mg "int" = none) (hg : Gl X "int" := by rfl) : PE X (.Name "int" p) (tC (.ty Ty3.i.name)) :=
  pe_bltn (u := .type "int") hg hm (by decide +kernel) (show RelV (.ty "int") (.type "int") from rfl)
theorem pe_tBool (hm : X.mg "bool" = none) (hg : Gl X "bool" := by rfl) : PE X (.Name "bool" p) (tC (.ty Ty3.b.name)) :=
  pe_bltn (u := .type "bool") hg hm (by decide +kernel) (show RelV (.ty "bool") (.type "bool") from rfl)
theorem pe_tStr (hm : X.mg "str" = none) (hg : Gl X "str" := by rfl) : PE X (.Name "str" p) (tC (.ty Ty3.s.name)) :=
  pe_bltn (u := .type "str") hg hm (by decide +kernel) (show RelV (.ty "str") (.type "str") from rfl)
end
end GL
set_option Elab.async false
set_option linter.all false
set_option maxRecDepth 100000
/-! GLay5: texts of plain signs, by their greatest length -/
namespace GL
open PySem PySem.Spec PyProof.Rows L2
/-- what is new in H' -/
def fr (H H' : Hp) : Hp := fun a => match H a with
  | none => H' a
  | some _ => none
theorem fr_at {H H' : Hp} {a : Addr} {o : HO} (h : H a = none) (k : H' a = some o) : fr H H' a = some o := by
  unfold fr
  rw [h]
  exact k
theorem fr_some {H H' : Hp} {a : Addr} {o : HO} (h : fr H H' a = some o) : H a = none ∧ H' a = some o := by
  unfold fr at h
  cases e : H a with
  | none => rw [e] at h; exact ⟨rfl, h⟩
  | some u => rw [e] at h; cases h
theorem fr_same {H H' : Hp} : Same (fr H H') H' := fun _ _ h => (fr_some h).2
theorem fr_but {b : Addr} {H0 H H' : Hp} (hb : H0 b ≠ none) (h : But b H H') : Same (fr H0 H) (fr H0 H') := fun a o e => by
  obtain ⟨e1, e2⟩ := fr_some e
  have n : a ≠ b := fun z => hb (z ▸ e1)
  exact fr_at e1 (h.at n e2)
theorem fr_grow {H0 H H' : Hp} (h : Same H H') : Same (fr H0 H) (fr H0 H') := fun a o e => by
  obtain ⟨e1, e2⟩ := fr_some e
  exact fr_at e1 (h _ _ e2)
theorem fr_less {H0 H H' : Hp} (h : ∀ a, H a = none → H0 a = none) : Same (fr H H') (fr H0 H') := fun a o e => by
  obtain ⟨e1, e2⟩ := fr_some e
  exact fr_at (h a e1) e2
theorem But.none_back {b a : Addr} {H H' : Hp} (h : But b H H') (n : a ≠ b) (e : H' a = none) : H a = none := by
  cases k : H a with
  | none => rfl
  | some o =>
    have := h.at n k
    rw [e] at this
    cases this
theorem Same.none_back {a : Addr} {H H' : Hp} (h : Same H H') (e : H' a = none) : H a = none := by
  cases k : H a with
  | none => rfl
  | some o =>
    have := h _ _ k
    rw [e] at this
    cases this
/-- at most n signs, all plain -/
def TxB (n : Nat) (x : Str) : Prop := x.length ≤ n ∧ ∀ c ∈ x.cps.toList, c < 128
theorem TxB.ok {n : Nat} {x : Str} (h : TxB n x) (hn : n ≤ 10000) : TxOk x := ⟨Nat.le_trans h.1 hn, h.2⟩
theorem TxB.mono {n m : Nat} {x : Str} (h : TxB n x) (hn : n ≤ m) : TxB m x := ⟨Nat.le_trans h.1 hn, h.2⟩
theorem TxB.size {n : Nat} {x : Str} (h : TxB n x) (hn : n ≤ 10000) : x.length ≤ sizeLine := (h.ok hn).size
theorem TxB.add {n m : Nat} {x y : Str} (h : TxB n x) (k : TxB m y) : TxB (n + m) (x ++ y) := by
  refine ⟨?_, fun c hc => ?_⟩
  · rw [Str.length_append]
    have := h.1
    have := k.1
    omega
  · have e : (x ++ y).cps.toList = x.cps.toList ++ y.cps.toList := by
      show (x.cps ++ y.cps).toList = _
      rw [Array.toList_append]
    rw [e] at hc
    rcases List.mem_append.mp hc with z | z
    · exact h.2 c z
    · exact k.2 c z
theorem TxB.cut {n : Nat} {x : Str} (h : TxB n x) (lo hi : Option Int) : TxB n (cutS x lo hi) := by
  refine ⟨Nat.le_trans (cutS_length x lo hi) h.1, fun c hc => h.2 c ?_⟩
  have hc' : c ∈ ((x.cps.toList.drop (HT.sIx x.length 0 lo)).take (HT.sIx x.length x.length hi - HT.sIx x.length 0 lo)) := by simpa [cutS] using hc
  exact List.mem_of_mem_drop (List.mem_of_mem_take hc')
theorem TxB.one {c : Nat} (h : c < 128) : TxB 1 ⟨#[c]⟩ := ⟨Nat.le_refl _, fun d hd => by
  have e : d = c := by simpa using hd
  rw [e]
  exact h⟩
theorem TxB.at {n : Nat} {x : Str} (h : TxB n x) {i : Int} {c : Nat} (e : atI x.cps.toList i = some c) : TxB 1 ⟨#[c]⟩ := by
  refine .one (h.2 c ?_)
  unfold atI at e
  cases k : ixN x.cps.toList.length i with
  | none => rw [k] at e; cases e
  | some j =>
    rw [k] at e
    exact List.mem_of_getElem? e
theorem reps_len (x : Array Nat) : ∀ (k : Nat) (acc : Array Nat), ((List.replicate k x).foldl (· ++ ·) acc).size = acc.size + k * x.size
  | 0, acc => by simp
  | k + 1, acc => by
    rw [List.replicate_succ, List.foldl_cons, reps_len x k, Array.size_append, Nat.succ_mul]
    omega
theorem reps_mem (x : Array Nat) : ∀ (k : Nat) (acc : Array Nat) (c : Nat), c ∈ ((List.replicate k x).foldl (· ++ ·) acc).toList → c ∈ acc.toList ∨ c ∈ x.toList
  | 0, acc, c, h => .inl h
  | k + 1, acc, c, h => by
    rw [List.replicate_succ, List.foldl_cons] at h
    rcases reps_mem x k (acc ++ x) c h with z | z
    · rw [Array.toList_append] at z
      exact List.mem_append.mp z
    · exact .inr z
theorem TxB.mul {n m : Nat} {x : Str} (h : TxB n x) {k : Int} (hk : k ≤ m) (hm : 1 ≤ m) : TxB (n * m) (Txt.mul x k) := by
  have h1 := h.1
  unfold Txt.mul
  by_cases k1 : k < 1
  · rw [if_pos k1]
    exact ⟨Nat.zero_le _, fun c hc => nomatch hc⟩
  · rw [if_neg k1]
    by_cases k2 : (k == 1 || x.length == 0) = true
    · rw [if_pos k2]
      exact h.mono (Nat.le_mul_of_pos_right _ hm)
    · rw [if_neg k2]
      refine ⟨?_, fun c hc => ?_⟩
      · show ((List.replicate k.toNat x.cps).foldl (· ++ ·) #[]).size ≤ n * m
        rw [reps_len]
        have e : x.cps.size ≤ n := h1
        have e2 : k.toNat * x.cps.size ≤ m * n := Nat.mul_le_mul (by omega) e
        rw [Nat.mul_comm m n] at e2
        simpa using e2
      · rcases reps_mem x.cps k.toNat #[] c hc with z | z
        · cases z
        · exact h.2 c z
theorem TxB.glue {n : Nat} : ∀ {ys : List Str}, (∀ y ∈ ys, TxB n y) → TxB (n * ys.length) (Txt.join Str.empty ys)
  | [], _ => by
    show TxB _ (Builtin.Str.glued Str.empty [])
    rw [StrLaws.glued_eq_join]
    exact ⟨Nat.zero_le _, fun c hc => nomatch hc⟩
  | [y], h => by
    show TxB _ (Builtin.Str.glued Str.empty [y])
    rw [StrLaws.glued_eq_join]
    exact (h y List.mem_cons_self).mono (by simp)
  | y :: z :: r, h => by
    have k := TxB.glue (ys := z :: r) fun u hu => h u (List.mem_cons_of_mem _ hu)
    have k' : TxB (n * (z :: r).length) (Str.join Str.empty (z :: r)) := by
      have e : Txt.join Str.empty (z :: r) = Str.join Str.empty (z :: r) := StrLaws.glued_eq_join _ _
      rw [← e]
      exact k
    show TxB _ (Builtin.Str.glued Str.empty (y :: z :: r))
    rw [StrLaws.glued_eq_join]
    show TxB _ (y ++ Str.empty ++ Str.join Str.empty (z :: r))
    have e0 : TxB 0 Str.empty := ⟨Nat.le_refl _, fun c hc => nomatch hc⟩
    refine (((h y List.mem_cons_self).add e0).add k').mono ?_
    rw [List.length_cons (a := y), Nat.mul_succ]
    omega
end GL
set_option Elab.async false
set_option linter.all false
set_option maxRecDepth 100000
/-! GLay6: the end of a law whose def is promised where nothing is being shown -/
namespace GL
open PySem PySem.Spec PyProof.Rows L2
/-- the law called by nobody but the claim: from its promise -/
theorem law_callG {P : Program} {w : World} {K : PySem.W.Frag} {mg mb : Str → Option Value} {k : Nat} {fa a : Addr} {fd : FuncData} {x : Str} {sp : Sp} {s1 : Shared} {vs : List Value} {ns : List Int}
    (inK : K.In s1.heap) (gl : s1.heap.Ns mainGlobals mg) (bl : s1.heap.Ns builtinsNs mb) (bb : ∀ x : Str, x ≠ "__name__" → mb x = bootBuiltins x) (lim : s1.heap.NoLimit) (gens : s1.gens = #[])
    (ha : s1.heap.get? a = some { cls := .type "list", data := .seq vs.toArray }) (hin : IntsAre vs ns) (short : ns.length ≤ sizeLine) (room : Room k callerA)
    (F : ∀ base : Heap, K.In base → base.Ns mainGlobals mg → FnG P w K mg base k fa fd [x] sp) (binds : ∀ (s : Shared) (u : Value), BindsTo s fd ⟨[u], []⟩ [(x, u)])
    (says : ∀ H : Hp, Only H → SqL K H a (ns.map V.int) → sp [.ref a] H (fun v _ => v = .bl true) (fun _ _ _ => False)) :
    codeAny (model P w) callerA (.call (.ref fa) ⟨[.ref a], []⟩)
      (fun r s' => r = .ok (.ret (.bool true)) ∧ OldK s1.heap s'.heap ∧ s'.os = s1.os ∧ AllBare s'.gens) s1 := by
  have rv := vals_ints hin
  have nv := hin.length
  have main : ∀ H : Hp, Only H → SqL K H a (ns.map V.int) → HOk P w H s1.heap → (∀ b, H b ≠ none → b = a) → (H a ≠ none → K.lookup a = none) →
      codeAny (model P w) callerA (.call (.ref fa) ⟨[.ref a], []⟩)
        (fun r s' => r = .ok (.ret (.bool true)) ∧ OldK s1.heap s'.heap ∧ s'.os = s1.os ∧ AllBare s'.gens) s1 := by
    intro H only hS ok atA notK
    have keep : ∀ {b : Addr} {o : Obj}, s1.heap.get? b = some o → H b = none → (hidT s1.heap H).get? b = some o := fun e n => hidT_get e n
    have untracked : ∀ {b : Addr} {o : Obj} {es : Array DictEntry} {ep : Nat}, s1.heap.get? b = some o → o.data = .dict es ep → H b = none := by
      intro b o es ep e d
      cases q : H b with
      | none => rfl
      | some u =>
        obtain rfl : b = a := atA b (by simp [q])
        cases ha.symm.trans e
        cases d
    have nsp : ∀ {b : Addr} {m : Str → Option Value}, s1.heap.Ns b m → (hidT s1.heap H).Ns b m := by
      rintro b m ⟨o, es, ep, e, d, r⟩
      exact ⟨o, es, ep, keep e (untracked e d), d, r⟩
    have inB : K.In (hidT s1.heap H) := by
      intro b o e
      refine keep (inK b o e) ?_
      cases q : H b with
      | none => rfl
      | some u =>
        obtain rfl : b = a := atA b (by simp [q])
        have z := notK (by simp [q])
        rw [z] at e
        cases e
    have mod : Mod K mg (hidT s1.heap H) := ⟨inB, nsp gl, ⟨mb, nsp bl, bb⟩, by obtain ⟨mc, h1, h2⟩ := lim; exact ⟨mc, nsp h1, h2⟩⟩
    have e0 : Env0 P w K mg (hidT s1.heap H) callerA [] s1 H :=
      ⟨rfl, mod, fun b o e => of_hidT e, by rw [hidT_size]; exact Nat.le_refl _, trivial, fun b hb => (by cases hb), ok, .of_eq gens⟩
    have run := (F _ inB (nsp gl)).does callerA [] s1 H ⟨[.ref a], []⟩ [.ref a] [.ref a] _ _ rfl room e0 (binds s1 (.ref a)) (.cons rfl .nil) (says H only hS)
    refine codeAny_mono run fun r s' h => ?_
    match r, h with
    | .ok (.ret u), ⟨v, H', os, bare, un, ok', r', q⟩ =>
      obtain rfl : v = .bl true := q
      obtain rfl : u = Value.bool true := r'
      refine ⟨rfl, OldK.of_keep (fun b o e => ?_), os, bare⟩
      cases q : H b with
      | none => exact un.keep b o e q (fun z => by cases z) (fun z => by cases z)
      | some u =>
        rcases only b with z | ⟨ob, xs, z⟩
        · rw [q] at z; cases z
        · obtain ⟨e1, _⟩ := ok b _ z
          obtain ⟨e2, _⟩ := ok' b _ (un.frzs b ob _ z)
          cases e.symm.trans e1
          exact e2
  cases hk : K.lookup a with
  | some o =>
    cases ha.symm.trans (inK a o hk)
    refine main (fun _ => none) (fun _ => Or.inl rfl) (Or.inr ⟨_, vs.toArray, _, hk, rfl, rfl, rfl, ?_, by simpa using rv⟩)
      (fun b u z => (by cases z)) (fun b z => absurd rfl z) (fun z => absurd rfl z)
    rw [List.size_toArray, nv]
    exact short
  | none =>
    let frozen : HO := .frz { cls := .type "list", data := .seq vs.toArray } (.lst (ns.map V.int))
    refine main (fun b => if b = a then some frozen else none) (fun b => ?_) (Or.inl (Or.inr ⟨_, if_pos rfl⟩)) (fun b u z => ?_) (fun b z => ?_) (fun _ => hk)
    · by_cases e : b = a
      · exact Or.inr ⟨_, _, if_pos e⟩
      · exact Or.inl (if_neg e)
    · by_cases e : b = a
      · have zz : some frozen = some u := (if_pos e).symm.trans z
        cases zz
        subst e
        exact ⟨ha, by rw [List.length_map]; exact short, vs, _, rv, ha⟩
      · cases (if_neg e).symm.trans z
    · by_cases e : b = a
      · exact e
      · exact absurd (if_neg e) z
theorem walkG {l : PySem.W.OpenLaw} {n k : Nat} {q : Program} {loose : List Str} {XP : (Str → Option Value) → Heap → Prop} {YP : World → Heap → Prop} {d : DefRec} {K : Params → PySem.W.Frag} {sp : World → Sp} {x : Str}
    (hn : l.most = some n) (hn2 : n ≤ sizeLine) (hdf : d.params.defaults = []) (room : Room k callerA)
    (hY : ∀ (w : World) (h : Heap), YP w h → (K w.params).In h)
    (F : ∀ (w : World) (mg : Str → Option Value) (fa : Addr) (h : Heap), (K w.params).In h → h.Ns mainGlobals mg → mg d.name = some (.ref fa) →
      ∃ fd : FuncData, (∀ (s : Shared) (u : Value), BindsTo s fd ⟨[u], []⟩ [(x, u)]) ∧
        ∀ base : Heap, (K w.params).In base → base.Ns mainGlobals mg → FnG l.prog w (K w.params) mg base k fa fd [x] (sp w))
    (says : ∀ (w : World) (H : Hp) (a : Addr) (ns : List Int), ns.length ≤ n → Only H → SqL (K w.params) H a (ns.map V.int) → sp w [.ref a] H (fun v _ => v = .bl true) (fun _ _ _ => False)) :
    PySem.W.WalkO q loose XP YP l.row.toRowW d [] (fun f vs => PySem.call f vs) := by
  refine Att.attach_call hn hdf ?_
  intro w s0 s1 mg mb fa o pm cd doc a vs ns G Y ho hd hcd hmg hobj hints hlen hg
  have inK := hY w _ Y
  obtain ⟨fd, hb, hF⟩ := F w mg fa _ inK G.T.g hmg
  exact law_callG inK G.T.g G.T.b G.T.builtins G.T.nolimit hg hobj hints (Nat.le_trans hlen hn2) room hF hb (fun H hO hS => says w H a ns hlen hO hS)
end GL
set_option Elab.async false
set_option linter.all false
set_option maxRecDepth 100000
/-! K12a: the text; drawing numbers of a bag -/
namespace K12
open PySem PySem.Spec PyProof.Rows L2 GL
def topS (i : Nat) : Stmt := PySem.Challenge.pw_askless_k12_kinds_known.main.body.getD i (.Pass ⟨0, 0, 0, 0⟩)
abbrev s_is_integer : Stmt := topS 3
abbrev s_is_name : Stmt := topS 4
abbrev s_is_mark : Stmt := topS 5
abbrev s_is_number : Stmt := topS 6
abbrev s_bag : Stmt := topS 10
abbrev s_take : Stmt := topS 11
abbrev s_alike : Stmt := topS 12
abbrev s_labels : Stmt := topS 13
abbrev s_piece : Stmt := topS 14
abbrev s_is_whole : Stmt := topS 15
abbrev s_is_spelt : Stmt := topS 16
abbrev s_law : Stmt := topS 17

/-- what the module's names hold -/
structure Txt0 (mg : Str → Option Value) : Prop where
  m_isinstance : mg "isinstance" = none
  m_int : mg "int" = none
  m_bool : mg "bool" = none
  m_str : mg "str" = none
  m_len : mg "len" = none
  m_all : mg "all" = none
  m_abs : mg "abs" = none
  m_range : mg "range" = none
  m_repr : mg "repr" = none
  g_LONGEST_NAME : ∃ t, mg "LONGEST_NAME" = some (.int 8 t)
  g_HIGHEST_MARK : ∃ t, mg "HIGHEST_MARK" = some (.int 3 t)

theorem pos31 : (0 : Int) < 2147483647 := by decide
/-- a bag of drawn numbers: its four items at b, the numbers at c -/
def Bg (H : Hp) (b c : Addr) : Prop := ∃ (g s i : Int) (ns : List Int), H b = some (.lst [.int g, .int s, .int i, .ref c]) ∧
  H c = some (.lst (ns.map V.int)) ∧ 0 ≤ i
theorem Bg.ne {H : Hp} {b c : Addr} {g s i : Int} {ns : List Int} (h : H b = some (.lst [.int g, .int s, .int i, .ref c])) (k : H c = some (.lst (ns.map V.int))) : c ≠ b := by
  intro e
  subst e
  rw [h] at k
  have k2 : [V.int g, V.int s, V.int i, V.ref c] = ns.map V.int := by injection (Option.some.inj k)
  match ns, k2 with
  | [_, _, _, d], k2 => simp at k2
theorem Bg.same {H H' : Hp} {b c : Addr} (h : Bg H b c) (e : Same H H') : Bg H' b c := by
  obtain ⟨g, s, i, ns, h1, h2, h3⟩ := h
  exact ⟨g, s, i, ns, e _ _ h1, e _ _ h2, h3⟩
theorem Bg.new {H : Hp} {b c p : Addr} {o : HO} (h : Bg H b c) (n : H p = none) : Bg (upd H p o) b c := h.same (same_new n)
theorem Bg.nb {H : Hp} {b c p : Addr} (h : Bg H b c) (n : H p = none) : p ≠ b := by
  obtain ⟨g, s, i, ns, h1, _⟩ := h
  exact (ne_of_none h1 n).symm
theorem Bg.nc {H : Hp} {b c p : Addr} (h : Bg H b c) (n : H p = none) : p ≠ c := by
  obtain ⟨g, s, i, ns, _, h2, _⟩ := h
  exact (ne_of_none h2 n).symm
theorem Bg.at {H : Hp} {b c D : Addr} {o : HO} (h : Bg H b c) (n1 : D ≠ b) (n2 : D ≠ c) : Bg (upd H D o) b c := by
  obtain ⟨g, s, i, ns, h1, h2, h3⟩ := h
  exact ⟨g, s, i, ns, by rw [upd_ne n1.symm]; exact h1, by rw [upd_ne n2.symm]; exact h2, h3⟩
def BagI (H : Hp) (b : Addr) : Prop := ∃ c, Bg H b c

section
variable {P : Program} {w : World} {K : PySem.W.Frag} {mg : Str → Option Value} {base : Heap}
theorem sc_take : FnScope ["_law_bag_here", "_law_many", "_law_cell", "_law_more", "_law_drawn"] ["_law_bag_here", "_law_many"] (defScope s_take) := ⟨rfl, rfl, rfl, by decide +kernel, rfl, by decide +kernel, by decide +kernel⟩
def spTake : Sp := fun vs H Q _ => ∃ (b c : Addr) (m : Int), vs = [.ref b, .int m] ∧ Bg H b c ∧ 0 < m ∧ m < 1073741824 ∧
  ∀ (r : Int) (xs : List V), 0 ≤ r → r < m → Bg (upd H b (.lst xs)) b c → Q (.int r) (upd H b (.lst xs))
theorem ok_take {f : Addr} {fd : FuncData} (F : Fun K "_law_take" "_law_take" s_take f fd) (T : Txt0 mg) : FnOk P w K mg base CX0 1 f fd ["_law_bag_here", "_law_many"] spTake := by
  refine F.ok sc_take (fun vs H Q E h => ?_) (fun cdv A outer s H vs Q E hr h => ?_)
  · obtain ⟨b, c, m, rfl, _⟩ := h
    rfl
  · obtain ⟨b, c, m, rfl, ⟨g, s0, i, ns, hb, hc, hi⟩, hm, hm2, q⟩ := h
    have hcb := Bg.ne hb hc
    refine ⟨_, (C8.pss_cut (ps_if (pt_cmpR op_eq (pe_ix ix_list (pv 0) pe_int (fun _ _ => rfl)) pe_int (nomark _))
        (pss_cons (ps_set (i := 2) sc_take.nd rfl (.inl rfl) pe_int)
        (C8.pss_cut (ps_if (pt_cmpR op_lt (pe_ix ix_list (pv 0) pe_int (fun _ _ => rfl)) (pe_callB call_len_seq (by rfl) T.m_len PySem.boot_len (pa_cons (pe_ix ix_list (pv 0) pe_int (fun _ _ => rfl)) pa_nil)) (nomark _))
          (pss_one (ps_set (i := 2) sc_take.nd rfl (.inl rfl) (pe_ix ix_list (pe_ix ix_list (pv 0) pe_int (fun _ _ => rfl)) (pe_ix ix_list (pv 0) pe_int (fun _ _ => rfl)) (fun _ _ => rfl))))
          pss_nil)
        (pss_cons (ps_augS (pv 0) pe_int get_list pe_int ip_add set_list)
        (C8.pss_cut (ps_if (pt_cmpR op_ge (pv 2) pe_int (nomark _))
          (pss_one (ps_asg (pv 2) (pg_sub (pv 0) pe_int set_list)))
          pss_nil)
        (pss_cons (ps_set (i := 3) sc_take.nd rfl (.inl rfl) (pe_op op_add (pe_op op_mod (pe_callTy call_int1 (by rfl) T.m_int (by decide +kernel) (pa_cons (pv 2) pa_nil)) pe_int) (pe_op op_mul pe_int (pe_ix ix_list (pv 0) pe_int (fun _ _ => rfl)))))
        (pss_one (ps_asg (pe_op op_mod (pe_callTy call_int1 (by rfl) T.m_int (by decide +kernel) (pa_cons (pe_op op_add (pe_op op_mul (pe_ix ix_list (pv 0) pe_int (fun _ _ => rfl)) pe_int) (pv 3)) pa_nil)) pe_int) (pg_sub (pv 0) pe_int set_list))))))))
        pss_nil)
      (pss_cons (ps_if (pt_cmpR op_gt (pe_ix ix_list (pv 0) pe_int (fun _ _ => rfl)) pe_int (nomark _))
        (pss_cons (ps_set (i := 4) sc_take.nd rfl (.inl rfl) (pe_op op_mod (pe_callTy call_int1 (by rfl) T.m_int (by decide +kernel) (pa_cons (pe_ix ix_list (pv 0) pe_int (fun _ _ => rfl)) pa_nil)) (pv 1)))
        (pss_cons (ps_asg (pe_op op_fdiv (pe_ix ix_list (pv 0) pe_int (fun _ _ => rfl)) (pv 1)) (pg_sub (pv 0) pe_int set_list))
        (pss_one (ps_ret (pv 4)))))
        pss_nil)
      (pss_cons (ps_asg (pe_op op_mod (pe_callTy call_int1 (by rfl) T.m_int (by decide +kernel) (pa_cons (pe_op op_add (pe_op op_mul (pe_ix ix_list (pv 0) pe_int (fun _ _ => rfl)) pe_int) pe_int) pa_nil)) pe_int) (pg_sub (pv 0) pe_int set_list))
      (pss_one (ps_ret (pe_op op_mod (pe_callTy call_int1 (by rfl) T.m_int (by decide +kernel) (pa_cons (pe_op op_fdiv (pe_ix ix_list (pv 0) pe_int (fun _ _ => rfl)) pe_int) pa_nil)) (pv 1))))))), ?_⟩
    -- what stands behind the first if
    refine ⟨fun σ H' => ∃ (g s0 i : Int) (y2 y3 : Option V), σ = [some (.ref b), some (.int m), y2, y3, none] ∧ H' = upd H b (.lst [.int g, .int s0, .int i, .ref c]) ∧ 0 ≤ i, ?_, ?_⟩
    · refine ⟨.ref b, rfl, b, _, 0, .int g, rfl, rfl, .inl (.inl hb), rfl, rfl, _, rfl, ite2 (fun e => ?_) (fun e => ?_)⟩
      · -- the cell
        refine ⟨fun σ H' => H' = H ∧ ∃ n : Int, σ = [some (.ref b), some (.int m), some (.int n), none, none], ?_, ?_⟩
        · refine ⟨.ref b, rfl, b, _, 2, .int i, rfl, rfl, .inl (.inl hb), rfl, .ref b, rfl, b, _, 3, .ref c, rfl, rfl, .inl (.inl hb), rfl, c, _, rfl, .inl (.inl (.inl hc)), i, _, rfl, rfl, _, rfl, ite2 (fun e2 => ?_) (fun e2 => ?_)⟩
          · have hlt : i < ((ns.map V.int).length : Int) := of_decide_eq_true e2
            have hn : i.toNat < ns.length := by rw [List.length_map] at hlt; omega
            refine ⟨.ref b, rfl, b, _, 3, .ref c, rfl, rfl, .inl (.inl hb), rfl, .ref b, rfl, b, _, 2, .int i, rfl, rfl, .inl (.inl hb), rfl, c, _, i, .int ns[i.toNat], rfl, rfl, .inl (.inl hc), ?_, rfl, ns[i.toNat], rfl⟩
            refine atI_int hi ?_
            rw [List.getElem?_map, List.getElem?_eq_getElem hn]
            rfl
          · exact ⟨rfl, 0, rfl⟩
        · rintro σ H' ⟨rfl, n, rfl⟩
          -- bag[2] += 1
          refine ⟨.ref b, rfl, b, _, 2, .int i, rfl, rfl, hb, rfl, i, 1, rfl, rfl, b, _, 2, 2, rfl, rfl, hb, rfl, ?_⟩
          refine ⟨fun σ H'' => ∃ g : Int, σ = [some (.ref b), some (.int m), some (.int n), none, none] ∧ H'' = upd H' b (.lst [.int g, .int s0, .int (i + 1), .ref c]), ?_, ?_⟩
          · refine ⟨_, rfl, n, _, rfl, rfl, _, rfl, ite2 (fun e2 => ?_) (fun e2 => ?_)⟩
            · refine ⟨_, rfl, .ref b, rfl, b, _, 0, 0, rfl, rfl, upd_same, rfl, n, rfl, ?_⟩
              rw [upd_upd]
              rfl
            · exact ⟨g, rfl, rfl⟩
          · rintro σ H'' ⟨g2, rfl, rfl⟩
            have h2 : (upd H' b (.lst [.int g2, .int s0, .int (i + 1), .ref c])) b = some (.lst [.int g2, .int s0, .int (i + 1), .ref c]) := upd_same
            refine ⟨_, rfl, .inl ⟨n, rfl, n, _, rfl, rfl, pos31, .ref b, rfl, b, _, 2, .int (i + 1), rfl, rfl, .inl (.inl h2), rfl, _, _, rfl, rfl, .inl (by decide), _, _, rfl, rfl, ?_⟩⟩
            refine ⟨.ref b, rfl, b, _, 1, .int s0, rfl, rfl, .inl (.inl h2), rfl, _, _, rfl, rfl, .inr (by decide), _, rfl, _, _, rfl, rfl, .inl ⟨_, rfl, _, _, rfl, rfl, pos31, .ref b, rfl, b, _, 1, 1, rfl, rfl, h2, rfl, ?_⟩⟩
            exact ⟨g2, (s0 * 48271 + (n % 2147483647 + 7919 * (i + 1))) % 2147483647, i + 1, _, _, rfl, upd_upd, by omega⟩
      · exact ⟨g, s0, i, none, none, rfl, (upd_self hb).symm, hi⟩
    · rintro σ H' ⟨g, s0, i, y2, y3, rfl, rfl, hi⟩
      have h2 : (upd H b (.lst [.int g, .int s0, .int i, .ref c])) b = some (.lst [.int g, .int s0, .int i, .ref c]) := upd_same
      have bag : ∀ (g s0 : Int), Bg (upd H b (.lst [.int g, .int s0, .int i, .ref c])) b c := fun g s0 => ⟨g, s0, i, ns, upd_same, by rw [upd_ne hcb]; exact hc, hi⟩
      refine ⟨.ref b, rfl, b, _, 0, .int g, rfl, rfl, .inl (.inl h2), rfl, _, _, rfl, rfl, _, rfl, ite2 (fun e => ?_) (fun e => ?_)⟩
      · refine ⟨.ref b, rfl, b, _, 0, .int g, rfl, rfl, .inl (.inl h2), rfl, .inl ⟨g, rfl, .int m, rfl, g, m, rfl, rfl, hm, ?_⟩⟩
        refine ⟨.ref b, rfl, b, _, 0, .int g, rfl, rfl, .inl (.inl h2), rfl, .int m, rfl, g, m, rfl, rfl, ⟨hm, hm2⟩, .ref b, rfl, b, _, 0, 0, rfl, rfl, h2, rfl, ?_⟩
        refine ⟨.int (g % m), rfl, ?_⟩
        rw [upd_upd]
        exact q _ _ (Int.emod_nonneg _ (by omega)) (Int.emod_lt_of_pos _ hm) (bag _ _)
      · refine ⟨.ref b, rfl, b, _, 1, .int s0, rfl, rfl, .inl (.inl h2), rfl, _, _, rfl, rfl, .inr (by decide), _, _, rfl, rfl, .inl ⟨_, rfl, _, _, rfl, rfl, pos31, .ref b, rfl, b, _, 1, 1, rfl, rfl, h2, rfl, ?_⟩⟩
        refine ⟨.ref b, rfl, b, _, 1, _, rfl, rfl, .inl (.inl upd_same), rfl, _, _, rfl, rfl, ⟨by decide, by decide⟩, .inl ⟨_, rfl, .int m, rfl, _, m, rfl, rfl, hm, ?_⟩⟩
        rw [upd_upd]
        exact q _ _ (Int.emod_nonneg _ (by omega)) (Int.emod_lt_of_pos _ hm) (bag _ _)
end
end K12
set_option Elab.async false
set_option linter.all false
set_option maxRecDepth 100000
/-! K12b: the small defs -/
namespace K12
open PySem PySem.Spec PyProof.Rows L2 GL
/-! ### what the functions say of a value -/
def intB : V → Bool
  | .int _ => true
  | _ => false
theorem intB_eq (v : V) : intB v = (if isB .i v = true then !isB .b v else false) := by cases v <;> rfl
/-- a small letter -/
def letB (c : Nat) : Bool := decide (97 ≤ c ∧ c ≤ 122)
def nameB : V → Bool
  | .str x => decide (1 ≤ x.length ∧ x.length ≤ 8) && x.cps.toList.all letB
  | _ => false
def upB (m : Int) : V → Bool
  | .int i => decide (0 ≤ i ∧ i < m)
  | _ => false

section
variable {P : Program} {w : World} {K : PySem.W.Frag} {mg : Str → Option Value} {base : Heap} {C : Addr}
theorem sc_is_integer : FnScope ["thing"] ["thing"] (defScope s_is_integer) := ⟨rfl, rfl, rfl, by decide +kernel, rfl, by decide +kernel, by decide +kernel⟩
def spInt (K : PySem.W.Frag) (C : Addr) : Sp := fun vs H Q _ => ∃ v, vs = [v] ∧ Th K C H v ∧ Q (.bl (intB v)) H
theorem ok_is_integer {f : Addr} {fd : FuncData} (F : Fun K "is_integer" "is_integer" s_is_integer f fd) (T : Txt0 mg) (EK : ExcK K C) : FnOk P w K mg base CX0 1 f fd ["thing"] (spInt K C) := by
  refine F.ok sc_is_integer (fun vs H Q E h => ?_) (fun cdv A outer s H vs Q E hr h => ?_)
  · obtain ⟨v, rfl, _⟩ := h
    rfl
  · obtain ⟨v, rfl, t, q⟩ := h
    refine ⟨_, (pss_one (ps_ret (pe_and (pe_callB (call_isiTh EK) (by rfl) T.m_isinstance (by decide +kernel) (pa_cons (pv 0) (pa_cons (pe_tInt T.m_int) pa_nil))) (pe_one (pe_not (pe_callB (call_isiTh EK) (by rfl) T.m_isinstance (by decide +kernel) (pa_cons (pv 0) (pa_cons (pe_tBool T.m_bool) pa_nil)))))))), ?_⟩
    refine ⟨v, rfl, v, .i, rfl, t, _, rfl, ite2 (fun e => ?_) (fun e => ?_)⟩
    · refine ⟨v, rfl, v, .b, rfl, t, _, rfl, ?_⟩
      rw [intB_eq, if_pos e] at q
      exact q
    · rw [intB_eq, if_neg e] at q
      exact q
theorem sc_is_whole : FnScope ["_law_thing"] ["_law_thing"] (defScope s_is_whole) := ⟨rfl, rfl, rfl, by decide +kernel, rfl, by decide +kernel, by decide +kernel⟩
theorem ok_is_whole {f : Addr} {fd : FuncData} (F : Fun K "_law_is_whole" "_law_is_whole" s_is_whole f fd) (T : Txt0 mg) (EK : ExcK K C) : FnOk P w K mg base CX0 1 f fd ["_law_thing"] (spInt K C) := by
  refine F.ok sc_is_whole (fun vs H Q E h => ?_) (fun cdv A outer s H vs Q E hr h => ?_)
  · obtain ⟨v, rfl, _⟩ := h
    rfl
  · obtain ⟨v, rfl, t, q⟩ := h
    refine ⟨_, (pss_one (ps_ret (pe_and (pe_callB (call_isiTh EK) (by rfl) T.m_isinstance (by decide +kernel) (pa_cons (pv 0) (pa_cons (pe_tInt T.m_int) pa_nil))) (pe_one (pe_not (pe_callB (call_isiTh EK) (by rfl) T.m_isinstance (by decide +kernel) (pa_cons (pv 0) (pa_cons (pe_tBool T.m_bool) pa_nil)))))))), ?_⟩
    refine ⟨v, rfl, v, .i, rfl, t, _, rfl, ite2 (fun e => ?_) (fun e => ?_)⟩
    · refine ⟨v, rfl, v, .b, rfl, t, _, rfl, ?_⟩
      rw [intB_eq, if_pos e] at q
      exact q
    · rw [intB_eq, if_neg e] at q
      exact q
theorem sc_is_mark : FnScope ["thing"] ["thing"] (defScope s_is_mark) := ⟨rfl, rfl, rfl, by decide +kernel, rfl, by decide +kernel, by decide +kernel⟩
def spMark (K : PySem.W.Frag) (C : Addr) : Sp := fun vs H Q _ => ∃ v, vs = [v] ∧ Th K C H v ∧ Q (.bl (upB 4 v)) H
theorem intB_of {v : V} (h : intB v = true) : ∃ i, v = .int i := by
  cases v with
  | int i => exact ⟨i, rfl⟩
  | _ => exact nomatch h
theorem upB_no {m : Int} {v : V} (h : ¬ intB v = true) : upB m v = false := by
  cases v with
  | int i => exact absurd rfl h
  | _ => rfl
theorem ok_is_mark {f : Addr} {fd : FuncData} (F : Fun K "is_mark" "is_mark" s_is_mark f fd) (T : Txt0 mg) (GI : Cl P w K mg base 1 "is_integer" (spInt K C)) : FnOk P w K mg base CX0 2 f fd ["thing"] (spMark K C) := by
  refine F.ok sc_is_mark (fun vs H Q E h => ?_) (fun cdv A outer s H vs Q E hr h => ?_)
  · obtain ⟨v, rfl, _⟩ := h
    rfl
  · obtain ⟨v, rfl, t, q⟩ := h
    obtain ⟨t3, g3⟩ := T.g_HIGHEST_MARK
    refine ⟨_, (pss_one (ps_ret (pe_and (pe_cl GI hr (Nat.le_refl _) (by rfl) (pa_cons (pv 0) pa_nil)) (pe_one (pe_chain op_le op_le pe_int (pv 0) (pe_glob (by rfl) g3 (show RelV (.int 3) _ from ⟨_, rfl⟩))))))), ?_⟩
    refine ⟨v, rfl, v, rfl, t, _, rfl, ite2 (fun e => ?_) (fun e => ?_)⟩
    · obtain ⟨i, rfl⟩ := intB_of e
      refine ⟨_, rfl, _, _, rfl, rfl, _, rfl, ite2 (fun e1 => ?_) (fun e1 => ?_)⟩
      · refine ⟨_, _, rfl, rfl, ?_⟩
        have h0 : (0 : Int) ≤ i := of_decide_eq_true e1
        have e2 : upB 4 (.int i) = decide (i ≤ 3) := by
          show decide (0 ≤ i ∧ i < 4) = decide (i ≤ 3)
          exact decide_eq_decide.mpr (by omega)
        rw [e2] at q
        exact q
      · have h0 : ¬ (0 : Int) ≤ i := fun z => e1 (decide_eq_true z)
        have e2 : upB 4 (.int i) = false := decide_eq_false (by omega)
        rw [e2] at q
        exact q
    · rw [upB_no e] at q
      exact q
theorem sc_is_number : FnScope ["many", "thing"] ["many", "thing"] (defScope s_is_number) := ⟨rfl, rfl, rfl, by decide +kernel, rfl, by decide +kernel, by decide +kernel⟩
def spNum (K : PySem.W.Frag) (C : Addr) : Sp := fun vs H Q _ => ∃ m v, vs = [.int m, v] ∧ Th K C H v ∧ Q (.bl (upB m v)) H
theorem ok_is_number {f : Addr} {fd : FuncData} (F : Fun K "is_number" "is_number" s_is_number f fd) (T : Txt0 mg) (GI : Cl P w K mg base 1 "is_integer" (spInt K C)) : FnOk P w K mg base CX0 2 f fd ["many", "thing"] (spNum K C) := by
  refine F.ok sc_is_number (fun vs H Q E h => ?_) (fun cdv A outer s H vs Q E hr h => ?_)
  · obtain ⟨m, v, rfl, _⟩ := h
    rfl
  · obtain ⟨m, v, rfl, t, q⟩ := h
    refine ⟨_, (pss_one (ps_ret (pe_and (pe_cl GI hr (Nat.le_refl _) (by rfl) (pa_cons (pv 1) pa_nil)) (pe_one (pe_chain op_le op_lt pe_int (pv 1) (pv 0)))))), ?_⟩
    refine ⟨v, rfl, v, rfl, t, _, rfl, ite2 (fun e => ?_) (fun e => ?_)⟩
    · obtain ⟨i, rfl⟩ := intB_of e
      refine ⟨_, rfl, _, _, rfl, rfl, _, rfl, ite2 (fun e1 => ?_) (fun e1 => ?_)⟩
      · refine ⟨_, rfl, _, _, rfl, rfl, ?_⟩
        have h0 : (0 : Int) ≤ i := of_decide_eq_true e1
        have e2 : upB m (.int i) = decide (i < m) := by
          show decide (0 ≤ i ∧ i < m) = decide (i < m)
          exact decide_eq_decide.mpr (by omega)
        rw [e2] at q
        exact q
      · have h0 : ¬ (0 : Int) ≤ i := fun z => e1 (decide_eq_true z)
        have e2 : upB m (.int i) = false := decide_eq_false (by omega)
        rw [e2] at q
        exact q
    · rw [upB_no e] at q
      exact q
theorem sc_alike : FnScope ["_law_found", "_law_right"] ["_law_found", "_law_right"] (defScope s_alike) := ⟨rfl, rfl, rfl, by decide +kernel, rfl, by decide +kernel, by decide +kernel⟩
def spAlike (K : PySem.W.Frag) : Sp := fun vs H Q _ => ∃ x y d, vs = [x, y] ∧ Dp K H x d ∧ Dp K H y d ∧ DOk d ∧ Q (.bl true) H
theorem ok_alike {f : Addr} {fd : FuncData} (F : Fun K "_law_alike" "_law_alike" s_alike f fd) (T : Txt0 mg) : FnG P w K mg base 1 f fd ["_law_found", "_law_right"] (spAlike K) := by
  refine okG F sc_alike (fun vs H Q E h => ?_) (fun cdv A outer s H vs Q E hG hr h => ?_)
  · obtain ⟨x, y, d, rfl, _⟩ := h
    rfl
  · obtain ⟨x, y, d, rfl, hx, hy, o, q⟩ := h
    have hu : (A.deeper (envOfC "_law_alike" (defScope s_alike) s.heap.objs.size f cdv)).units + 66 < cLine := by
      have := hr.un
      omega
    refine ⟨_, (pss_one (ps_ret (pe_and (pe_cmpR (op_eqD hr.units) (pv 0) (pv 1) (nomark _)) (pe_one (pe_cmpR op_eq (pe_callB (call_reprD hG hu) (by rfl) T.m_repr (by decide +kernel) (pa_cons (pv 0) pa_nil)) (pe_callB (call_reprD hG hu) (by rfl) T.m_repr (by decide +kernel) (pa_cons (pv 1) pa_nil)) (nomark _)))))), ?_⟩
    have sh : SeqAt.shaped d = true := by
      unfold SeqAt.shaped
      rw [o.lay, Bool.true_and]
      exact decide_eq_true (Nat.le_trans o.deep (by decide))
    refine ⟨x, rfl, y, rfl, d, d, hx, hy, sh, sh, _, rfl, ?_⟩
    rw [SeqAt.eqv_refl d o.lay]
    refine iteT ⟨x, rfl, x, d, rfl, hx, o.shows, o.nodict, Nat.le_trans o.deep (by decide), o.fits, y, rfl, y, d, rfl, hy, o.shows, o.nodict, Nat.le_trans o.deep (by decide), o.fits, rfl, ?_⟩
    rw [decide_eq_true rfl]
    exact q
end
end K12
set_option Elab.async false
set_option linter.all false
set_option maxRecDepth 100000
/-! K12c: the bag; names -/
namespace K12
open PySem PySem.Spec PyProof.Rows L2 GL
theorem walk_ints {K : PySem.W.Frag} {a : Addr} {ns : List Int} : Walk (Itl K a) ns.length (fun H => SqL K H a (ns.map V.int)) (fun i H x H' => H' = H ∧ ∃ n, ns[i]? = some n ∧ x = V.int n) := by
  have w := walk_list (K := K) (a := a) (xs := ns.map V.int)
  rw [List.length_map] at w
  refine w.mono (fun _ h => h) (fun i H x H' _ _ y => ⟨y.1, ?_⟩)
  have e := y.2
  rw [List.getElem?_map] at e
  cases h : ns[i]? with
  | none => rw [h] at e; cases e
  | some n =>
    rw [h] at e
    exact ⟨n, rfl, (Option.some.inj e).symm⟩
theorem cut_map {α : Type} (f : α → V) (ns : List α) (lo hi : Option Int) : ∃ ms : List α, cutV (ns.map f) lo hi = ms.map f ∧ ms.length ≤ ns.length ∧ ∀ m ∈ ms, m ∈ ns := by
  refine ⟨(ns.drop (HT.sIx (ns.map f).length 0 lo)).take (HT.sIx (ns.map f).length (ns.map f).length hi - HT.sIx (ns.map f).length 0 lo), ?_, ?_, ?_⟩
  · unfold cutV
    rw [List.map_take, List.map_drop]
  · rw [List.length_take, List.length_drop]
    omega
  · intro m hm
    exact List.mem_of_mem_drop (List.mem_of_mem_take hm)
theorem upd_none {H : Hp} {p b : Addr} {o : HO} (h : upd H p o b = none) : b ≠ p ∧ H b = none := by
  by_cases e : b = p
  · rw [e, upd_same] at h
    cases h
  · rw [upd_ne e] at h
    exact ⟨e, h⟩
theorem lt_one (a b : Nat) : decide (([a] : List Nat) < [b]) = decide (a < b) := by
  refine decide_eq_decide.mpr ⟨fun h => ?_, fun h => ?_⟩
  · cases h with
    | rel h => exact h
    | cons h => cases h
  · exact List.Lex.rel h

section
variable {P : Program} {w : World} {K : PySem.W.Frag} {mg : Str → Option Value} {base : Heap} {C : Addr}
theorem sc_bag : FnScope ["_law_script", "_law_cell"] ["_law_script"] (defScope s_bag) := ⟨rfl, rfl, rfl, by decide +kernel, rfl, by decide +kernel, by decide +kernel⟩
def spBag (K : PySem.W.Frag) : Sp := fun vs H Q _ => ∃ (a : Addr) (ns : List Int), vs = [.ref a] ∧ SqL K H a (ns.map V.int) ∧ ns.length ≤ 63 ∧
  ∀ (b : Addr) (H' : Hp), Same H H' → H b = none → BagI H' b → Q (.ref b) H'
theorem ok_bag {f : Addr} {fd : FuncData} (F : Fun K "_law_bag" "_law_bag" s_bag f fd) (T : Txt0 mg) : FnOk P w K mg base CX0 1 f fd ["_law_script"] (spBag K) := by
  refine F.ok sc_bag (fun vs H Q E h => ?_) (fun cdv A outer s H vs Q E hr h => ?_)
  · obtain ⟨a, ns, rfl, _⟩ := h
    rfl
  · obtain ⟨a, ns, rfl, hS, hl, q⟩ := h
    refine ⟨_, (pss_one (ps_ret (pe_lst (pa_cons pe_int (pa_cons pe_int (pa_cons pe_int (pa_cons (pe_lc (own := [("_law_cell", 1)]) (g := (gName 1)) (tt := tYes) rfl sc_bag.nd (pi_list (pe_slice sl_list (pv 0) po_none (po_some pe_int))) (blkOk_by (N := ["_law_script", "_law_cell"]) (sc := defScope s_bag) (by decide +kernel)) (fun _ _ _ _ _ => pg_name (i := 1) sc_bag.nd rfl (.inl rfl)) (fun _ _ _ _ _ => pts_nil) (fun _ _ _ _ _ => (pe_callB call_abs (by rfl) T.m_abs (by decide +kernel) (pa_cons (pv 1) pa_nil)))) pa_nil))))))), ?_⟩
    obtain ⟨ms, hms, hlen, _⟩ := cut_map V.int ns none (some 63)
    refine ⟨.ref a, rfl, 63, rfl, a, _, rfl, hS, fun c nc => ?_⟩
    rw [hms]
    refine ⟨c, rfl, ⟨_, .inl (.inl upd_same)⟩, fun D nD => ?_⟩
    have hcD : c ≠ D := ne_of_none upd_same nD
    refine lc_pure (as := ms) (emb := V.int) walk_ints (fun i H x H' h => h) (fun l => ?_) (small1000 (by omega)) (fun _ => true) (fun n => .int (if n < 0 then -n else n)) (fun n hn l R S hR _ => ?_) ?_
    · exact .inl (.inl (by rw [upd_ne hcD]; exact upd_same))
    · exact ⟨rfl, _, rfl, n, rfl, hR rfl⟩
    · refine ⟨by show 4 ≤ sizeLine; rw [sizeLine_eq]; decide, fun b nb => ?_⟩
      have hDb : D ≠ b := ne_of_none upd_same nb
      refine q b _ ?_ ?_ ⟨D, 0, 1234567891, 0, ms.map fun n => if n < 0 then -n else n, upd_same, ?_, by omega⟩
      · exact ((same_new nc).trans (same_new nD)).trans (same_new nb)
      · exact (upd_none (upd_none nb).2).2
      · rw [upd_ne hDb, upd_same, List.filter_eq_self.mpr (fun _ _ => rfl), List.map_map]
        rfl
theorem sc_is_name : FnScope ["thing", "letter"] ["thing"] (defScope s_is_name) := ⟨rfl, rfl, rfl, by decide +kernel, rfl, by decide +kernel, by decide +kernel⟩
def spName (K : PySem.W.Frag) (C : Addr) : Sp := fun vs H Q _ => ∃ v, vs = [v] ∧ Th K C H v ∧ ∀ H', Same H H' → Q (.bl (nameB v)) H'
theorem isS_of {v : V} (h : isB .s v = true) : ∃ x, v = .str x := by
  cases v with
  | str x => exact ⟨x, rfl⟩
  | _ => exact nomatch h
theorem nameB_no {v : V} (h : isB .s v = false) : nameB v = false := by
  cases v with
  | str x => exact nomatch h
  | _ => rfl
theorem Th.txt {H : Hp} {x : Str} (t : Th K C H (.str x)) : TxOk x := by
  rcases t with t | ⟨a, e, _⟩
  · cases t with
    | str _ h => exact h
  · cases e
theorem ok_is_name {f : Addr} {fd : FuncData} (F : Fun K "is_name" "is_name" s_is_name f fd) (T : Txt0 mg) (EK : ExcK K C) : FnOk P w K mg base CX0 1 f fd ["thing"] (spName K C) := by
  refine F.ok sc_is_name (fun vs H Q E h => ?_) (fun cdv A outer s H vs Q E hr h => ?_)
  · obtain ⟨v, rfl, _⟩ := h
    rfl
  · obtain ⟨v, rfl, t, q⟩ := h
    obtain ⟨t8, g8⟩ := T.g_LONGEST_NAME
    refine ⟨_, (pss_cons (ps_if (PW.pt (pw_or (pt_not (pt_val (pe_callB (call_isiTh EK) (by rfl) T.m_isinstance (by decide +kernel) (pa_cons (pv 0) (pa_cons (pe_tStr T.m_str) pa_nil))))) (pw_or1 (pt_not (pt_chain op_le op_le pe_int (pe_callB call_len_str (by rfl) T.m_len PySem.boot_len (pa_cons (pv 0) pa_nil)) (pe_glob (by rfl) g8 (show RelV (.int 8) _ from ⟨_, rfl⟩)))))))
        (pss_one (ps_ret pe_bl))
        pss_nil)
      (pss_one (ps_ret (pe_callB (cr_all rfl) (by rfl) T.m_all (by decide +kernel) (pa_cons (pe_lc (own := [("letter", 1)]) (g := (gName 1)) (tt := tYes) rfl sc_is_name.nd (pi_str (pv 0)) (blkOk_by (N := ["thing", "letter"]) (sc := defScope s_is_name) (by decide +kernel)) (fun _ _ _ _ _ => pg_name (i := 1) sc_is_name.nd rfl (.inl rfl)) (fun _ _ _ _ _ => pts_nil) (fun _ _ _ _ _ => (pe_chain op_le_str op_le_str pe_str (pv 1) pe_str))) pa_nil))))), ?_⟩
    refine ⟨v, rfl, v, .s, rfl, t, _, rfl, ?_⟩
    cases hb : isB .s v with
    | false =>
      refine iteT (iteT ?_)
      have e := q H (Same.refl H)
      rw [nameB_no hb] at e
      exact e
    | true =>
      obtain ⟨x, rfl⟩ := isS_of hb
      have tx := Th.txt t
      have no : ¬ (1 ≤ x.length ∧ x.length ≤ 8) → nameB (.str x) = false := fun z => by
        show (decide (1 ≤ x.length ∧ x.length ≤ 8) && _) = false
        rw [decide_eq_false z, Bool.false_and]
      refine iteF ⟨_, rfl, x, rfl, tx.size, _, _, rfl, rfl, _, rfl, ite2 (fun e1 => ?_) (fun e1 => ?_)⟩
      · have h1 : (1 : Int) ≤ x.length := of_decide_eq_true e1
        refine ⟨_, _, rfl, rfl, _, rfl, ite2 (fun e2 => ?_) (fun e2 => ?_)⟩
        · have h2 : ¬ (x.length : Int) ≤ 8 := fun z => by
            rw [decide_eq_true z] at e2
            cases e2
          have e := q H (Same.refl H)
          rw [no (by omega)] at e
          exact e
        · have h2 : (x.length : Int) ≤ 8 := Decidable.byContradiction fun z => e2 (by rw [decide_eq_false z]; rfl)
          refine ⟨_, rfl, x, rfl, fun D nD => ?_⟩
          refine lc_pure (as := x.cps.toList) (emb := fun c => .str ⟨#[c]⟩) walk_signs signs_y (fun _ => trivial) (small1000 (by rw [show x.cps.toList.length = x.length from by simp [Str.length]]; omega)) (fun _ => true) (fun c => .bl (letB c)) (fun c hc l R S hR _ => ?_) ?_
          · refine ⟨rfl, _, rfl, _, _, rfl, rfl, _, rfl, ?_⟩
            have k := hR rfl
            have e1 : decide (([c] : List Nat) < [97]) = decide (c < 97) := lt_one c 97
            have e2 : decide (([122] : List Nat) < [c]) = decide (122 < c) := lt_one 122 c
            show if (!decide (([c] : List Nat) < [97])) = true then _ else _
            rw [e1]
            refine ite2 (fun z => ?_) (fun z => ?_)
            · refine ⟨_, _, rfl, rfl, ?_⟩
              show R (.bl (!decide (([122] : List Nat) < [c]))) _
              rw [e2]
              have hc : letB c = (!decide (122 < c)) := by
                unfold letB
                have z1 : ¬ c < 97 := fun h => by rw [decide_eq_true h] at z; cases z
                by_cases h : 122 < c
                · rw [decide_eq_true h, decide_eq_false (by omega)]
                  rfl
                · rw [decide_eq_false h, decide_eq_true (by omega)]
                  rfl
              rw [hc] at k
              exact k
            · have hc : letB c = false := by
                unfold letB
                refine decide_eq_false fun h => z ?_
                rw [decide_eq_false (by omega)]
                rfl
              rw [hc] at k
              exact k
          · refine ⟨D, x.cps.toList.map letB, rfl, .inl (.inl ?_), ?_⟩
            · rw [upd_same, List.filter_eq_self.mpr (fun _ _ => rfl), List.map_map]
              rfl
            · have en : nameB (.str x) = (x.cps.toList.map letB).all id := by
                show (decide (1 ≤ x.length ∧ x.length ≤ 8) && _) = _
                rw [decide_eq_true (by omega), Bool.true_and, List.all_map]
                rfl
              rw [en] at q
              exact q _ (same_new nD)
      · refine ⟨_, rfl, ?_⟩
        refine iteT ?_
        have e := q H (Same.refl H)
        rw [no (fun z => e1 (decide_eq_true (by omega)))] at e
        exact e
end
end K12
set_option Elab.async false
set_option linter.all false
set_option maxRecDepth 100000
/-! K12d: spelt -/
namespace K12
open PySem PySem.Spec PyProof.Rows L2 GL
theorem one_ok {x : Str} (t : TxOk x) {c : Nat} (h : c ∈ x.cps.toList) : TxOk ⟨#[c]⟩ := ⟨by show 1 ≤ 10000; decide, fun d hd => by
  have e : d = c := by simpa using hd
  rw [e]
  exact t.2 c h⟩
theorem canLay_strs : ∀ {ys : List Str}, (∀ y ∈ ys, TxOk y) → PyData.canLayAll0 (ys.map PyData.str) = true
  | [], _ => rfl
  | y :: r, h => by
    show (PyData.canLay0 (.str y) && PyData.canLayAll0 (r.map PyData.str)) = true
    rw [canLay_strs fun z hz => h z (List.mem_cons_of_mem _ hz), Bool.and_true]
    exact (h y List.mem_cons_self).data.lay
theorem depth_strs : ∀ (ys : List Str), PyData.depthAll (ys.map PyData.str) = 0
  | [] => rfl
  | y :: r => by
    show max (PyData.depth (.str y)) (PyData.depthAll (r.map PyData.str)) = 0
    rw [depth_strs r]
    rfl
theorem shaped_strs {ys : List Str} (h : ∀ y ∈ ys, TxOk y) : SeqAt.shaped (.list (ys.map PyData.str)) = true := by
  unfold SeqAt.shaped
  rw [Bool.and_eq_true]
  refine ⟨canLay_strs h, decide_eq_true ?_⟩
  show PyData.depthAll (ys.map PyData.str) + 1 ≤ 64
  rw [depth_strs]
  decide
theorem eqv_nil (ys : List PyData) : PyData.eqv (.list ys) (.list []) = ys.isEmpty := by
  cases ys with
  | nil => rfl
  | cons y r => rfl
theorem lets_mem (c : Nat) : decide (c ∈ (Str.ofString "abcdefghijklmnopqrstuvwxyz").cps.toList) = letB c := by
  have e : (Str.ofString "abcdefghijklmnopqrstuvwxyz").cps.toList = List.range' 97 26 := by decide +kernel
  rw [e]
  unfold letB
  exact decide_eq_decide.mpr (by rw [List.mem_range'_1]; omega)
theorem filter_empty {α : Type} (p : α → Bool) : ∀ l : List α, (l.filter fun a => !p a).isEmpty = l.all p
  | [] => rfl
  | a :: r => by
    rw [List.filter_cons, List.all_cons]
    cases h : p a with
    | true => simpa using filter_empty p r
    | false => simp
section
variable {P : Program} {w : World} {K : PySem.W.Frag} {mg : Str → Option Value} {base : Heap} {C : Addr}
theorem sc_is_spelt : FnScope ["_law_thing", "_law_sign"] ["_law_thing"] (defScope s_is_spelt) := ⟨rfl, rfl, rfl, by decide +kernel, rfl, by decide +kernel, by decide +kernel⟩
theorem ok_is_spelt {f : Addr} {fd : FuncData} (F : Fun K "_law_is_spelt" "_law_is_spelt" s_is_spelt f fd) (T : Txt0 mg) (EK : ExcK K C) : FnOk P w K mg base CX0 1 f fd ["_law_thing"] (spName K C) := by
  refine F.ok sc_is_spelt (fun vs H Q E h => ?_) (fun cdv A outer s H vs Q E hr h => ?_)
  · obtain ⟨v, rfl, _⟩ := h
    rfl
  · obtain ⟨v, rfl, t, q⟩ := h
    refine ⟨_, (pss_cons (ps_if (PW.pt (pw_or (pt_not (pt_val (pe_callB (call_isiTh EK) (by rfl) T.m_isinstance (by decide +kernel) (pa_cons (pv 0) (pa_cons (pe_tStr T.m_str) pa_nil))))) (pw_or (pt_cmpR op_lt (pe_callB call_len_str (by rfl) T.m_len PySem.boot_len (pa_cons (pv 0) pa_nil)) pe_int (nomark _)) (pw_or1 (pt_cmpR op_gt (pe_callB call_len_str (by rfl) T.m_len PySem.boot_len (pa_cons (pv 0) pa_nil)) pe_int (nomark _))))))
        (pss_one (ps_ret pe_bl))
        pss_nil)
      (pss_one (ps_ret (pe_cmpR (op_eqD hr.units) (pe_lc (own := [("_law_sign", 1)]) (g := (gName 1)) rfl sc_is_spelt.nd (pi_str (pv 0)) (blkOk_by (N := ["_law_thing", "_law_sign"]) (sc := defScope s_is_spelt) (by decide +kernel)) (fun _ _ _ _ _ => pg_name (i := 1) sc_is_spelt.nd rfl (.inl rfl)) (fun _ _ _ _ _ => pts_one (pt_cmpR op_notIn_sign (pv 1) pe_str (by rfl))) (fun _ _ _ _ _ => (pv 1))) (pe_lst pa_nil) (nomark _))))), ?_⟩
    refine ⟨v, rfl, v, .s, rfl, t, _, rfl, ?_⟩
    cases hb : isB .s v with
    | false =>
      refine iteT (iteT ?_)
      have e := q H (Same.refl H)
      rw [nameB_no hb] at e
      exact e
    | true =>
      obtain ⟨x, rfl⟩ := isS_of hb
      have tx := Th.txt t
      have no : ¬ (1 ≤ x.length ∧ x.length ≤ 8) → nameB (.str x) = false := fun z => by
        show (decide (1 ≤ x.length ∧ x.length ≤ 8) && _) = false
        rw [decide_eq_false z, Bool.false_and]
      have out : ¬ (1 ≤ x.length ∧ x.length ≤ 8) → Q (.bl false) H := fun z => by
        have e := q H (Same.refl H)
        rw [no z] at e
        exact e
      refine iteF ⟨_, rfl, x, rfl, tx.size, _, _, rfl, rfl, _, rfl, ite2 (fun e1 => ?_) (fun e1 => ?_)⟩
      · have h1 : (x.length : Int) < 1 := of_decide_eq_true e1
        exact iteT (out (by omega))
      · have h1 : ¬ (x.length : Int) < 1 := fun z => e1 (decide_eq_true z)
        refine ⟨_, rfl, x, rfl, tx.size, _, _, rfl, rfl, _, rfl, ite2 (fun e2 => ?_) (fun e2 => ?_)⟩
        · have h2 : (8 : Int) < x.length := of_decide_eq_true e2
          exact out (by omega)
        · have h2 : ¬ (8 : Int) < x.length := fun z => e2 (decide_eq_true z)
          refine ⟨_, rfl, x, rfl, fun D nD => ?_⟩
          refine lc_pure (as := x.cps.toList) (emb := fun c => .str ⟨#[c]⟩) walk_signs signs_y (fun _ => trivial) (small1000 (by rw [show x.cps.toList.length = x.length from by simp [Str.length]]; omega)) (fun c => !letB c) (fun c => .str ⟨#[c]⟩) (fun c hc l R S hR hS => ?_) ?_
          · refine ⟨rfl, _, rfl, c, _, rfl, rfl, _, rfl, ?_⟩
            rw [lets_mem]
            cases hl : letB c with
            | true => exact hS (by rw [hl]; rfl)
            | false => exact ⟨_, rfl, hR (by rw [hl]; rfl)⟩
          · refine ⟨Nat.zero_le _, fun p np => ?_⟩
            have hDp : D ≠ p := ne_of_none upd_same np
            refine ⟨.list (((x.cps.toList.filter fun c => !letB c).map fun c => (⟨#[c]⟩ : Str)).map PyData.str), .list [], .lst (.inl (.inl (by rw [upd_ne hDp]; exact upd_same))) ?_, .lst (.inl (.inl upd_same)) .nil, shaped_strs ?_, rfl, ?_⟩
            · have k := Dp.strs (K := K) (H := upd (upd H D (.lst ((x.cps.toList.filter fun c => !letB c).map fun c => V.str ⟨#[c]⟩))) p (.lst [])) ((x.cps.toList.filter fun c => !letB c).map fun c => (⟨#[c]⟩ : Str))
              rw [List.map_map] at k
              exact k
            · intro y hy
              obtain ⟨c, hc, rfl⟩ := List.mem_map.mp hy
              exact one_ok tx (List.mem_filter.mp hc).1
            · rw [eqv_nil]
              have e : nameB (.str x) = (((x.cps.toList.filter fun c => !letB c).map fun c => (⟨#[c]⟩ : Str)).map PyData.str).isEmpty := by
                rw [List.isEmpty_map, List.isEmpty_map, filter_empty]
                show (decide (1 ≤ x.length ∧ x.length ≤ 8) && _) = _
                rw [decide_eq_true (by omega), Bool.true_and]
              rw [← e]
              exact q _ ((same_new nD).trans (same_new np))
end
end K12
set_option Elab.async false
set_option linter.all false
set_option maxRecDepth 100000
/-! K12e: labels -/
namespace K12
open PySem PySem.Spec PyProof.Rows L2 GL
theorem cut_lo (xs : List V) {t : Int} (h : 0 ≤ t) : cutV xs (some t) none = xs.drop t.toNat := by
  unfold cutV
  have e : HT.sIx xs.length 0 (some t) = min t.toNat xs.length := by
    have := HT.sIx_nat xs.length 0 t.toNat
    rwa [Int.toNat_of_nonneg h] at this
  rw [e, HT.sIx_none]
  by_cases k : t.toNat ≤ xs.length
  · rw [Nat.min_eq_left k]
    exact List.take_of_length_le (by rw [List.length_drop]; omega)
  · rw [Nat.min_eq_right (by omega), List.drop_of_length_le (by omega : xs.length ≤ t.toNat), List.drop_length, List.take_nil]
theorem cut_hi (xs : List V) {t : Int} (h : 0 ≤ t) : cutV xs none (some t) = xs.take t.toNat := by
  unfold cutV
  have e : HT.sIx xs.length xs.length (some t) = min t.toNat xs.length := by
    have := HT.sIx_nat xs.length xs.length t.toNat
    rwa [Int.toNat_of_nonneg h] at this
  rw [e, HT.sIx_none]
  show (xs.drop 0).take (min t.toNat xs.length - 0) = xs.take t.toNat
  rw [List.drop_zero, Nat.sub_zero]
  by_cases k : t.toNat ≤ xs.length
  · rw [Nat.min_eq_left k]
  · rw [Nat.min_eq_right (by omega), List.take_length, List.take_of_length_le (by omega)]
theorem But.at_new {b D : Addr} {H H' : Hp} {o : HO} (h : But b H H') (n : H D = none) : But b H (upd H' D o) := fun a u e => by
  obtain ⟨h1, h2⟩ := wo_some e
  have k := h a u e
  obtain ⟨_, k2⟩ := wo_some k
  rw [wo_ne h1, upd_ne (ne_of_none h2 n)]
  exact k2
theorem sum_le {n : Nat} : ∀ {ys : List Str}, (∀ y ∈ ys, TxB n y) → (ys.map (·.length)).sum ≤ n * ys.length
  | [], _ => Nat.zero_le _
  | y :: r, h => by
    have k := sum_le (ys := r) fun z hz => h z (List.mem_cons_of_mem _ hz)
    have := (h y List.mem_cons_self).1
    rw [List.map_cons, List.sum_cons, List.length_cons, Nat.mul_succ]
    omega
abbrev lets : Str := Str.ofString "abcdefghijklmnopqrstuvwxyz"
theorem lets_tx : TxB 26 lets := ⟨by decide +kernel, by decide +kernel⟩
theorem lets_at {i : Int} (h0 : 0 ≤ i) (h1 : i < 26) : ∃ c, atI lets.cps.toList i = some c := by
  have e : lets.cps.toList.length = 26 := by decide +kernel
  have hi : i.toNat < lets.cps.toList.length := by omega
  exact ⟨lets.cps.toList[i.toNat], atI_int h0 (List.getElem?_eq_getElem hi)⟩
abbrev menuA : Str := Str.ofString "x y new mark point root ask await quiet free later lock unlock either loop"
abbrev menuB : Str := Str.ofString " enter leave field writer begin end cells or show"
def menuL : List Str := Txt.split (menuA ++ menuB) (Str.ofString " ")
theorem menu_len : menuL.length = 24 := by decide +kernel
theorem menu_tx : ∀ z ∈ menuL, TxB 30 z := by
  have h : (menuL.all fun z => decide (z.length ≤ 30) && z.cps.toList.all fun c => decide (c < 128)) = true := by decide +kernel
  intro z hz
  have k := List.all_eq_true.mp h z hz
  rw [Bool.and_eq_true, decide_eq_true_eq, List.all_eq_true] at k
  exact ⟨k.1, fun c hc => of_decide_eq_true (k.2 c hc)⟩
abbrev N_labels : List Str := ["_law_bag_here", "_law_many", "_law_letters", "_law_menu", "_law_way", "_law_turn", "_law_stem", "_law_at", "_law_far", "_law_some", "_law_k"]
section
variable {P : Program} {w : World} {K : PySem.W.Frag} {mg : Str → Option Value} {base : Heap} {C : Addr}
theorem sc_labels : FnScope ["_law_bag_here", "_law_many", "_law_letters", "_law_menu", "_law_way", "_law_turn", "_law_stem", "_law_at", "_law_far", "_law_some", "_law_k"] ["_law_bag_here", "_law_many"] (defScope s_labels) := ⟨rfl, rfl, rfl, by decide +kernel, rfl, by decide +kernel, by decide +kernel⟩
def spLabels : Sp := fun vs H Q _ => ∃ (b c : Addr) (m : Int), vs = [.ref b, .int m] ∧ Bg H b c ∧ 0 ≤ m ∧ m ≤ 24 ∧
  ∀ (H' : Hp) (p : Addr) (zs : List Str), But b H H' → Bg H' b c → H p = none → p ≠ b → p ≠ c → H' p = some (.lst (zs.map V.str)) → zs.length = m.toNat → (∀ z ∈ zs, TxB 30 z) → Q (.ref p) H'
theorem ok_labels {f : Addr} {fd : FuncData} (F : Fun K "_law_labels" "_law_labels" s_labels f fd) (T : Txt0 mg) (GT : Cl P w K mg base 1 "_law_take" spTake) : FnOk P w K mg base CX0 2 f fd ["_law_bag_here", "_law_many"] spLabels := by
  refine F.ok sc_labels (fun vs H Q E h => ?_) (fun cdv A outer s H vs Q E hr h => ?_)
  · obtain ⟨b, c, m, rfl, _⟩ := h
    rfl
  · obtain ⟨b, c, m, rfl, bag, hm0, hm1, q⟩ := h
    refine ⟨_, (pss_cons (ps_set (i := 2) sc_labels.nd rfl (.inr rfl) pe_str)
      (pss_cons (ps_set (i := 3) sc_labels.nd rfl (.inl rfl) pe_str)
      (pss_cons (ps_set (i := 3) sc_labels.nd rfl (.inl rfl) (pe_split (pe_op op_add_str (pv 3) pe_str) pe_str))
      (C8.pss_cut (ps_asg (pe_tup (pa_cons (pe_cl GT hr (by decide) (by rfl) (pa_cons (pv 0) (pa_cons pe_int pa_nil))) (pa_cons (pe_cl GT hr (by decide) (by rfl) (pa_cons (pv 0) (pa_cons pe_int pa_nil))) pa_nil))) (pg_tup (by rfl) (pgs_cons (pg_name (i := 4) sc_labels.nd rfl (.inl rfl)) (pgs_cons (pg_name (i := 5) sc_labels.nd rfl (.inr rfl)) pgs_nil))))
      (C8.pss_cut (ps_set (i := 6) sc_labels.nd rfl (.inr rfl) (pe_join pe_str (pe_lc (own := [("_law_k", 10)]) (g := (gName 10)) (tt := tYes) rfl sc_labels.nd (pi_range1 (by rfl) T.m_range (pa_cons (pe_op op_add pe_int (pe_cl GT hr (by decide) (by rfl) (pa_cons (pv 0) (pa_cons pe_int pa_nil)))) pa_nil)) (blkOk_by (N := N_labels) (sc := defScope s_labels) (by decide +kernel)) (fun _ _ _ _ _ => pg_name (i := 10) sc_labels.nd rfl (.inl rfl)) (fun _ _ _ _ _ => pts_nil) (fun _ _ _ _ _ => (pe_ix ix_str (pv 2) (pe_cl GT hr (by decide) (by rfl) (pa_cons (pv 0) (pa_cons pe_int pa_nil))) (fun _ _ => rfl))))))
      (C8.pss_cut (ps_asg (pe_tup (pa_cons (pe_cl GT hr (by decide) (by rfl) (pa_cons (pv 0) (pa_cons (pe_op op_add (pe_callB call_len_str (by rfl) T.m_len PySem.boot_len (pa_cons (pv 6) pa_nil)) pe_int) pa_nil))) (pa_cons (pe_op op_fdiv (pv 4) pe_int) pa_nil))) (pg_tup (by rfl) (pgs_cons (pg_name (i := 7) sc_labels.nd rfl (.inr rfl)) (pgs_cons (pg_name (i := 8) sc_labels.nd rfl (.inr rfl)) pgs_nil))))
      (pss_cons (ps_if (pt_cmpR op_eq (pv 4) pe_int (nomark _))
        (pss_one (ps_ret (pe_slice sl_list (pe_op op_cat (pe_slice sl_list (pv 3) (po_some (pv 5)) po_none) (pe_slice sl_list (pv 3) po_none (po_some (pv 5)))) po_none (po_some (pv 1)))))
        pss_nil)
      (C8.pss_cut (ps_set (i := 9) sc_labels.nd rfl (.inr rfl) (pe_lc (own := [("_law_k", 10)]) (g := (gName 10)) (tt := tYes) rfl sc_labels.nd (pi_range1 (by rfl) T.m_range (pa_cons (pv 1) pa_nil)) (blkOk_by (N := N_labels) (sc := defScope s_labels) (by decide +kernel)) (fun _ _ _ _ _ => pg_name (i := 10) sc_labels.nd rfl (.inl rfl)) (fun _ _ _ _ _ => pts_nil) (fun _ _ _ _ _ => (pe_op op_mul_str (pe_ix ix_str (pv 2) (pe_op op_mod (pe_callTy call_int1 (by rfl) T.m_int (by decide +kernel) (pa_cons (pe_op op_add (pv 5) (pe_ix (r := rIxL K) ix_list (pe_lst (pa_cons (pe_op op_mul pe_int (pv 10)) (pa_cons (pe_op op_fdiv (pv 10) pe_int) pa_nil))) (pv 8) (fun _ _ => rfl))) pa_nil)) pe_int) (fun _ _ => rfl)) (pe_op op_add pe_int (pe_op op_mul (pe_op op_mod (pe_callTy call_int1 (by rfl) T.m_int (by decide +kernel) (pa_cons (pv 10) pa_nil)) pe_int) (pv 8)))))))
      (pss_cons (ps_set (i := 6) sc_labels.nd rfl (.inr rfl) (pe_op op_mul_str (pv 6) (pe_callTy call_int1 (by rfl) T.m_int (by decide +kernel) (pa_cons (pe_cmpR op_eq (pv 4) pe_int (nomark _)) pa_nil))))
      (pss_one (ps_ret (pe_lc (own := [("_law_k", 10)]) (g := (gName 10)) (tt := tYes) rfl sc_labels.nd (pi_range1 (by rfl) T.m_range (pa_cons (pv 1) pa_nil)) (blkOk_by (N := N_labels) (sc := defScope s_labels) (by decide +kernel)) (fun _ _ _ _ _ => pg_name (i := 10) sc_labels.nd rfl (.inl rfl)) (fun _ _ _ _ _ => pts_nil) (fun _ _ _ _ _ => (pe_op op_add_str (pe_op op_add_str (pe_slice sl_str (pv 6) po_none (po_some (pv 7))) (pe_ix (r := rIxL K) ix_list (pv 9) (pv 10) (fun _ _ => rfl))) (pe_slice sl_str (pv 6) (po_some (pv 7)) po_none))))))))))))))), ?_⟩
    -- menu
    refine ⟨.str menuA, rfl, menuA, menuB, rfl, rfl, by rw [sizeLine_eq]; decide +kernel, ⟨_, rfl⟩, menuA ++ menuB, Str.ofString " ", rfl, rfl, by decide +kernel, by rw [sizeLine_eq]; decide +kernel, fun p0 n0 => ?_⟩
    have bag0 := bag.new (o := .lst (menuL.map V.str)) n0
    have p0b := bag.nb n0
    have p0c := bag.nc n0
    -- way, turn
    refine ⟨fun σ H' => ∃ way turn : Int, σ = [some (.ref b), some (.int m), some (.str lets), some (.ref p0), some (.int way), some (.int turn), none, none, none, none, none] ∧ 0 ≤ way ∧ way < 4 ∧ 0 ≤ turn ∧ turn < 24 ∧
      But b H H' ∧ Bg H' b c ∧ H' p0 = some (.lst (menuL.map V.str)), ?_, ?_⟩
    · refine ⟨.ref b, rfl, b, c, 4, rfl, bag0, by decide, by decide, fun way xs1 hw0 hw1 bag1 => ?_⟩
      refine ⟨.ref b, rfl, b, c, 24, rfl, bag1, by decide, by decide, fun turn xs2 ht0 ht1 bag2 => ?_⟩
      rw [upd_upd] at bag2 ⊢
      refine ⟨by show 2 ≤ sizeLine; rw [sizeLine_eq]; decide, fun pt npt => ⟨pt, _, rfl, .inl (.inl upd_same), rfl, _, _, rfl, _, _, rfl, rfl, ?_⟩⟩
      refine ⟨way, turn, rfl, hw0, hw1, ht0, ht1, ?_, bag2.new npt, ?_⟩
      · exact ((But.new n0).trans But.upd).trans (But.new npt)
      · have e : (upd (upd H p0 (.lst (menuL.map V.str))) b (.lst xs2)) p0 = some (.lst (menuL.map V.str)) := by rw [upd_ne p0b]; exact upd_same
        rw [upd_ne (ne_of_none e npt)]
        exact e
    · rintro σ H1 ⟨way, turn, rfl, hw0, hw1, ht0, ht1, but1, bag1, hp1⟩
      -- stem
      refine ⟨fun σ H' => ∃ stem : Str, TxB 7 stem ∧ σ = [some (.ref b), some (.int m), some (.str lets), some (.ref p0), some (.int way), some (.int turn), some (.str stem), none, none, none, none] ∧
        But b H H' ∧ Bg H' b c ∧ H' p0 = some (.lst (menuL.map V.str)), ?_, ?_⟩
      · refine ⟨⟨_, rfl⟩, .ref b, rfl, b, c, 7, rfl, bag1, by decide, by decide, fun r xs1 hr0 hr1 bag2 => ⟨1, r, rfl, rfl, 1 + r, rfl, by omega, by omega, fun D nD => ?_⟩⟩
        have Db := bag2.nb nD
        have Dc := bag2.nc nD
        have but2 : But b H (upd H1 b (.lst xs1)) := but1.trans But.upd
        have hp2 : (upd H1 b (.lst xs1)) p0 = some (.lst (menuL.map V.str)) := by rw [upd_ne p0b]; exact hp1
        have Dp : p0 ≠ D := ne_of_none hp2 nD
        refine lc_it walk_range (fun i H' => ∃ cs : List Str, cs.length = i ∧ (∀ z ∈ cs, TxB 1 z) ∧ H' D = some (.lst (cs.map V.str)) ∧ But b (upd H1 b (.lst xs1)) H' ∧ Bg H' b c)
          ⟨[], rfl, (fun _ hz => nomatch hz), upd_same, But.new nD, bag2.new nD⟩ (fun _ _ _ _ => trivial) (fun i x H2 H3 hi hP hY => ?_) (fun H2 hP => ?_)
        · obtain ⟨cs, hl, htx, hD, but3, bag3⟩ := hP
          obtain ⟨rfl, rfl⟩ := hY
          refine ⟨rfl, .str lets, rfl, .ref b, rfl, b, c, 26, rfl, bag3, by decide, by decide, fun k xs3 hk0 hk1 bag4 => ?_⟩
          obtain ⟨l, hl2⟩ := lets_at hk0 hk1
          refine ⟨lets, k, l, rfl, rfl, lets_tx.size (by decide), hl2, cs.map V.str, by rw [upd_ne Db]; exact hD, small1000 (by rw [List.length_map]; omega), cs ++ [⟨#[l]⟩], by rw [List.length_append, hl]; rfl, fun z hz => ?_, ?_, ?_, ?_⟩
          · rcases List.mem_append.mp hz with hz | hz
            · exact htx z hz
            · rw [List.mem_singleton.mp hz]
              exact lets_tx.at hl2
          · rw [upd_same, List.map_append]
            rfl
          · exact But.at_new (but3.trans But.upd) nD
          · exact bag4.at Db Dc
        · obtain ⟨cs, hl, htx, hD, but3, bag3⟩ := hP
          have hs : (cs.map (·.length)).sum ≤ 1 * cs.length := sum_le htx
          refine ⟨_, D, cs, rfl, rfl, .inl (.inl (.inl hD)), ?_, Txt.join Str.empty cs, (TxB.glue htx).mono (by omega), rfl, but2.trans but3, bag3, but3.at p0b hp2⟩
          show _ + cs.length * 0 ≤ _
          omega
      · rintro σ H2 ⟨stem, hst, rfl, but2, bag2, hp2⟩
        -- at, far
        refine ⟨fun σ H' => ∃ at' : Int, 0 ≤ at' ∧ at' ≤ 7 ∧ σ = [some (.ref b), some (.int m), some (.str lets), some (.ref p0), some (.int way), some (.int turn), some (.str stem), some (.int at'), some (.int (way / 3)), none, none] ∧
          But b H H' ∧ Bg H' b c ∧ H' p0 = some (.lst (menuL.map V.str)), ?_, ?_⟩
        · have h7 := hst.1
          refine ⟨.ref b, rfl, .str stem, rfl, stem, rfl, hst.size (by decide), _, _, rfl, rfl, b, c, (stem.length : Int) + 1, rfl, bag2, by omega, by omega, fun r xs1 hr0 hr1 bag3 => ?_⟩
          refine ⟨_, rfl, way, 3, rfl, rfl, ⟨by decide, by decide⟩, by show 2 ≤ sizeLine; rw [sizeLine_eq]; decide, fun pt npt => ⟨pt, _, rfl, .inl (.inl upd_same), rfl, _, _, rfl, _, _, rfl, rfl, ?_⟩⟩
          refine ⟨r, hr0, by omega, rfl, (but2.trans But.upd).trans (But.new npt), bag3.new npt, ?_⟩
          have e : (upd H2 b (.lst xs1)) p0 = some (.lst (menuL.map V.str)) := by rw [upd_ne p0b]; exact hp2
          rw [upd_ne (ne_of_none e npt)]
          exact e
        · rintro σ H3 ⟨at', ha0, ha1, rfl, but3, bag3, hp3⟩
          refine ⟨_, rfl, rfl, _, rfl, ite2 (fun e => ?_) (fun e => ?_)⟩
          · -- from the menu
            refine ⟨.ref p0, rfl, _, rfl, turn, rfl, p0, _, rfl, .inl (.inl hp3), fun u1 nu1 => ?_⟩
            have hq1 : (upd H3 u1 (.lst (cutV (menuL.map V.str) (some turn) none))) p0 = some (.lst (menuL.map V.str)) := by rw [upd_ne (ne_of_none hp3 nu1)]; exact hp3
            refine ⟨.ref p0, rfl, _, rfl, turn, rfl, p0, _, rfl, .inl (.inl hq1), fun u2 nu2 => ?_⟩
            have h12 : u1 ≠ u2 := ne_of_none upd_same nu2
            refine ⟨u1, u2, _, _, rfl, rfl, by rw [upd_ne h12]; exact upd_same, upd_same, ?_, fun u3 nu3 => ?_⟩
            · have h1 := cutV_length (menuL.map V.str) (some turn) none
              have h2 := cutV_length (menuL.map V.str) none (some turn)
              rw [List.length_map, menu_len] at h1 h2
              rw [sizeLine_eq]
              omega
            · refine ⟨_, rfl, m, rfl, u3, _, rfl, .inl (.inl upd_same), fun u4 nu4 => ?_⟩
              have n4 := upd_none nu4
              have n4b := upd_none n4.2
              have n4c := upd_none n4b.2
              have n3 := upd_none nu3
              have n3b := upd_none n3.2
              have hH4 : H u4 = none := by
                cases eh : H u4 with
                | none => rfl
                | some o =>
                  have hb4 : u4 ≠ b := bag3.nb n4c.2
                  have := but3.at hb4 eh
                  rw [n4c.2] at this
                  cases this
              refine q _ u4 ((menuL.drop turn.toNat ++ menuL.take turn.toNat).take m.toNat) ?_ ?_ hH4 (bag3.nb n4c.2) (bag3.nc n4c.2) ?_ ?_ ?_
              · exact (((but3.trans (But.new nu1)).trans (But.new nu2)).trans (But.new nu3)).trans (But.new nu4)
              · exact (((bag3.new nu1).new nu2).new nu3).new nu4
              · rw [upd_same, cut_lo _ ht0, cut_hi _ ht0, cut_hi _ hm0, List.map_take, List.map_append, List.map_drop, List.map_take]
              · rw [List.length_take, List.length_append, List.length_drop, List.length_take, menu_len]
                omega
              · intro z hz
                rcases List.mem_append.mp (List.mem_of_mem_take hz) with hz | hz
                · exact menu_tx z (List.mem_of_mem_drop hz)
                · exact menu_tx z (List.mem_of_mem_take hz)
          · -- some
            have hf0 : 0 ≤ way / 3 := Int.ediv_nonneg hw0 (by decide)
            have hf1 : way / 3 ≤ 1 := by omega
            refine ⟨fun σ H' => ∃ (p1 : Addr) (cs : List Str), σ = [some (.ref b), some (.int m), some (.str lets), some (.ref p0), some (.int way), some (.int turn), some (.str stem), some (.int at'), some (.int (way / 3)), some (.ref p1), none] ∧
              cs.length = m.toNat ∧ (∀ z ∈ cs, TxB 8 z) ∧ H' p1 = some (.lst (cs.map V.str)) ∧ But b H H' ∧ Bg H' b c, ?_, ?_⟩
            · refine ⟨_, rfl, m, rfl, by omega, by omega, fun D nD => ?_⟩
              have Db := bag3.nb nD
              have Dc := bag3.nc nD
              refine lc_it walk_range (fun i H' => ∃ cs : List Str, cs.length = i ∧ (∀ z ∈ cs, TxB 8 z) ∧ H' D = some (.lst (cs.map V.str)) ∧ But b H3 H' ∧ Bg H' b c)
                ⟨[], rfl, (fun _ hz => nomatch hz), upd_same, But.new nD, bag3.new nD⟩ (fun _ _ _ _ => trivial) (fun i x H4 H5 hi hP hY => ?_) (fun H4 hP => ?_)
              · obtain ⟨cs, hl, htx, hD, but4, bag4⟩ := hP
                obtain ⟨rfl, rfl⟩ := hY
                refine ⟨rfl, .str lets, rfl, .int turn, rfl, _, rfl, 3, 0 + (i : Int), rfl, rfl, .inl (by decide), _, rfl, 0 + (i : Int), 8, rfl, rfl, ⟨by decide, by decide⟩, by show 2 ≤ sizeLine; rw [sizeLine_eq]; decide, fun l nl => ?_⟩
                have step : ∀ v : Int, atI [V.int (3 * (0 + (i : Int))), V.int ((0 + (i : Int)) / 8)] (way / 3) = some (.int v) → _ := fun v hv => hv
                have hv : ∃ v : Int, atI [V.int (3 * (0 + (i : Int))), V.int ((0 + (i : Int)) / 8)] (way / 3) = some (.int v) := by
                  rcases (by omega : way / 3 = 0 ∨ way / 3 = 1) with z | z
                  · rw [z]
                    exact ⟨_, rfl⟩
                  · rw [z]
                    exact ⟨_, rfl⟩
                obtain ⟨v, hv⟩ := hv
                have h260 : 0 ≤ (turn + v) % 26 := Int.emod_nonneg _ (by decide)
                have h261 : (turn + v) % 26 < 26 := Int.emod_lt_of_pos _ (by decide)
                obtain ⟨cc, hcc⟩ := lets_at h260 h261
                refine ⟨_, rfl, l, _, way / 3, .int v, rfl, rfl, .inl (.inl upd_same), hv, turn, v, rfl, rfl, .inl ⟨turn + v, rfl, turn + v, 26, rfl, rfl, by show (0 : Int) < 26; decide, lets, _, cc, rfl, rfl, lets_tx.size (by decide), hcc, ?_⟩⟩
                have h80 : 0 ≤ (0 + (i : Int)) % 8 := Int.emod_nonneg _ (by decide)
                have h81 : (0 + (i : Int)) % 8 < 8 := Int.emod_lt_of_pos _ (by decide)
                have hmul : (0 + (i : Int)) % 8 * (way / 3) ≤ 7 ∧ 0 ≤ (0 + (i : Int)) % 8 * (way / 3) := by
                  rcases (by omega : way / 3 = 0 ∨ way / 3 = 1) with z | z
                  · rw [z, Int.mul_zero]
                    omega
                  · rw [z, Int.mul_one]
                    omega
                have hone : TxB 1 (⟨#[cc]⟩ : Str) := lets_tx.at hcc
                refine ⟨_, rfl, .inl ⟨_, rfl, _, 8, rfl, rfl, by show (0 : Int) < 8; decide, _, rfl, _, way / 3, rfl, rfl, .inr (by omega), 1, _, rfl, rfl, _, _, rfl, rfl, by omega, by omega, by have := hone.1; omega, ?_⟩⟩
                have hDl : D ≠ l := ne_of_none hD nl
                refine ⟨cs.map V.str, by rw [upd_ne hDl]; exact hD, small1000 (by rw [List.length_map]; omega), cs ++ [Txt.mul ⟨#[cc]⟩ (1 + (0 + (i : Int)) % 8 * (way / 3))], by rw [List.length_append, hl]; rfl, fun z hz => ?_, ?_, ?_, ?_⟩
                · rcases List.mem_append.mp hz with hz | hz
                  · exact htx z hz
                  · rw [List.mem_singleton.mp hz]
                    exact (hone.mul (m := 8) (by omega) (by decide)).mono (by decide)
                · rw [upd_same, List.map_append]
                  rfl
                · exact But.at_new (but4.trans (But.new nl)) nD
                · exact (bag4.new nl).at Db Dc
              · obtain ⟨cs, hl, htx, hD, but4, bag4⟩ := hP
                exact ⟨D, cs, rfl, hl, htx, hD, but3.trans but4, bag4⟩
            · rintro σ H4 ⟨p1, cs, rfl, hl, htx, hp4, but4, bag4⟩
              have h7 := hst.1
              have key : ∀ k : Int, 0 ≤ k → k ≤ 1 → ∀ stem2 : Str, stem2 = Txt.mul stem k → TxB 7 stem2 := fun k h0 h1 stem2 e => by
                rw [e]
                exact (hst.mul (m := 1) (by omega) (by decide)).mono (by decide)
              refine ⟨_, rfl, _, rfl, rfl, .inr ⟨_, rfl, stem, _, rfl, rfl, ?_, ?_, by omega, ?_⟩⟩
              · cases decide (V.int way = V.int 2) <;> decide
              · cases decide (V.int way = V.int 2) <;> decide
              · have hst2 := key (if decide (V.int way = V.int 2) = true then 1 else 0) (by cases decide (V.int way = V.int 2) <;> decide) (by cases decide (V.int way = V.int 2) <;> decide) _ rfl
                revert hst2
                generalize Txt.mul stem (if decide (V.int way = V.int 2) = true then 1 else 0) = stem2
                intro hst2
                refine ⟨_, rfl, m, rfl, by omega, by omega, fun D nD => ?_⟩
                have Db := bag4.nb nD
                have Dc := bag4.nc nD
                have Dp1 : p1 ≠ D := ne_of_none hp4 nD
                refine lc_it walk_range (fun i H' => ∃ zs : List Str, zs.length = i ∧ (∀ z ∈ zs, TxB 30 z) ∧ H' = upd H4 D (.lst (zs.map V.str)))
                  ⟨[], rfl, (fun _ hz => nomatch hz), rfl⟩ (fun _ _ _ _ => trivial) (fun i x H5 H6 hi hP hY => ?_) (fun H5 hP => ?_)
                · obtain ⟨zs, hz1, hz2, rfl⟩ := hP
                  obtain ⟨rfl, rfl⟩ := hY
                  have hi2 : i < cs.length := by omega
                  have h5 := hst2.1
                  have t1 : TxB 7 (cutS stem2 none (some at')) := hst2.cut _ _
                  have t2 : TxB 8 cs[i] := htx _ (List.getElem_mem hi2)
                  have t3 : TxB 7 (cutS stem2 (some at') none) := hst2.cut _ _
                  refine ⟨rfl, _, rfl, _, rfl, at', rfl, stem2, rfl, hst2.size (by decide), .ref p1, rfl, _, rfl, p1, _, 0 + (i : Int), .str cs[i], rfl, rfl, .inl (.inl (by rw [upd_ne Dp1]; exact hp4)), ?_, _, _, rfl, rfl, ?_, ?_⟩
                  · rw [Int.zero_add]
                    refine atI_nat ?_
                    rw [List.getElem?_map, List.getElem?_eq_getElem hi2]
                    rfl
                  · have := t1.1
                    have := t2.1
                    rw [sizeLine_eq]
                    omega
                  · refine ⟨_, rfl, _, rfl, at', rfl, stem2, rfl, hst2.size (by decide), _, _, rfl, rfl, ?_, ?_⟩
                    · have := (t1.add t2).1
                      have := t3.1
                      rw [sizeLine_eq]
                      omega
                    · refine ⟨_, upd_same, small1000 (by rw [List.length_map]; omega), zs ++ [cutS stem2 none (some at') ++ cs[i] ++ cutS stem2 (some at') none], by rw [List.length_append, hz1]; rfl, fun z hz => ?_, ?_⟩
                      · rcases List.mem_append.mp hz with hz | hz
                        · exact hz2 z hz
                        · rw [List.mem_singleton.mp hz]
                          exact ((t1.add t2).add t3).mono (by decide)
                      · rw [upd_upd, List.map_append]
                        rfl
                · obtain ⟨zs, hz1, hz2, rfl⟩ := hP
                  have hH : H D = none := by
                    cases eh : H D with
                    | none => rfl
                    | some o =>
                      have := but4.at Db eh
                      rw [nD] at this
                      cases this
                  exact q _ D zs (but4.trans (But.new nD)) (bag4.new nD) hH Db Dc upd_same hz1 hz2
end
end K12
set_option Elab.async false
set_option linter.all false
set_option maxRecDepth 100000
/-! K12f: pieces -/
namespace K12
open PySem PySem.Spec PyProof.Rows L2 GL
theorem wo_upd {b : Addr} {H : Hp} {o : HO} : wo b (upd H b o) = wo b H := by
  funext a
  unfold wo
  by_cases e : a = b
  · rw [if_pos e, if_pos e]
  · rw [if_neg e, if_neg e, upd_ne e]
theorem dok_nil : DOk (.list []) := ⟨rfl, rfl, by decide, by decide, rfl⟩
theorem dok_tnil : DOk (.tuple []) := ⟨rfl, rfl, by decide, by decide, rfl⟩
theorem dok_one {x : Str} (h : TxB 30 x) : DOk (.list [.str x]) := by
  have d := (h.ok (by decide)).data
  have hw : (PyData.str x).weight ≤ 30 := h.1
  refine ⟨?_, ?_, ?_, ?_, rfl⟩
  · show (PyData.canLay0 (.str x) && true) = true
    rw [d.lay]
    rfl
  · show (PyData.leavesShort 8 (.str x) && true) = true
    rw [d.short]
    rfl
  · show (PyData.str x).weight + 1 + 0 ≤ 100000
    omega
  · show max 0 0 + 1 ≤ 60
    decide
theorem dok_tone {x : Str} (h : TxB 30 x) : DOk (.tuple [.str x]) := by
  have d := (h.ok (by decide)).data
  have hw : (PyData.str x).weight ≤ 30 := h.1
  refine ⟨?_, ?_, ?_, ?_, rfl⟩
  · show (PyData.canLay0 (.str x) && true) = true
    rw [d.lay]
    rfl
  · show (PyData.leavesShort 8 (.str x) && true) = true
    rw [d.short]
    rfl
  · show (PyData.str x).weight + 1 + 0 ≤ 100000
    omega
  · show max 0 0 + 1 ≤ 60
    decide
abbrev signs : Str := Str.ofString " _-!0Aa\n~{"
theorem signs_tx : TxB 10 signs := ⟨by decide +kernel, by decide +kernel⟩
theorem signs_at {i : Int} (h0 : 0 ≤ i) (h1 : i < 10) : ∃ c, atI signs.cps.toList i = some c := by
  have e : signs.cps.toList.length = 10 := by decide +kernel
  have hi : i.toNat < signs.cps.toList.length := by omega
  exact ⟨signs.cps.toList[i.toNat], atI_int h0 (List.getElem?_eq_getElem hi)⟩
theorem at_some {xs : List V} {i : Int} (h0 : 0 ≤ i) (h1 : i < xs.length) : ∃ v, atI xs i = some v ∧ v ∈ xs := by
  have hi : i.toNat < xs.length := by omega
  exact ⟨xs[i.toNat], atI_int h0 (List.getElem?_eq_getElem hi), List.getElem_mem hi⟩
theorem abcdefgh_tx : TxB 8 (Str.ofString "abcdefgh") := ⟨by decide +kernel, by decide +kernel⟩
theorem empty_tx : TxB 0 (Str.ofString "") := ⟨by decide +kernel, by decide +kernel⟩
section
variable {P : Program} {w : World} {K : PySem.W.Frag} {mg : Str → Option Value} {base : Heap} {C : Addr}
theorem sc_piece : FnScope ["_law_bag_here", "_law_label", "_law_signs", "_law_at", "_law_sign", "_law_some"] ["_law_bag_here", "_law_label"] (defScope s_piece) := ⟨rfl, rfl, rfl, by decide +kernel, rfl, by decide +kernel, by decide +kernel⟩
def spPiece (K : PySem.W.Frag) : Sp := fun vs H Q _ => ∃ (b c : Addr) (x : Str), vs = [.ref b, .str x] ∧ Bg H b c ∧ TxB 30 x ∧
  ∀ (H' : Hp) (v : V), But b H H' → Bg H' b c → ThN K (fr H H') v → Q v H'
theorem ok_piece {f : Addr} {fd : FuncData} (F : Fun K "_law_piece" "_law_piece" s_piece f fd) (T : Txt0 mg) (GT : Cl P w K mg base 1 "_law_take" spTake) : FnOk P w K mg base CX0 2 f fd ["_law_bag_here", "_law_label"] (spPiece K) := by
  refine F.ok sc_piece (fun vs H Q E h => ?_) (fun cdv A outer s H vs Q E hr h => ?_)
  · obtain ⟨b, c, x, rfl, _⟩ := h
    rfl
  · obtain ⟨b, c, x, rfl, bag, hx, q⟩ := h
    refine ⟨_, (pss_cons (ps_set (i := 2) sc_piece.nd rfl (.inl rfl) pe_str)
      (C8.pss_cut (ps_par (i := 3) (j := 4) rfl sc_piece.nd rfl rfl (by decide) rfl rfl (pa_cons (pe_cl GT hr (by decide) (by rfl) (pa_cons (pv 0) (pa_cons (pe_op op_add (pe_callB call_len_str (by rfl) T.m_len PySem.boot_len (pa_cons (pv 1) pa_nil)) pe_int) pa_nil))) (pa_cons (pe_ix ix_str (pv 2) (pe_cl GT hr (by decide) (by rfl) (pa_cons (pv 0) (pa_cons pe_int pa_nil))) (fun _ _ => rfl)) pa_nil)) (by rfl))
      (C8.pss_cut (ps_set (i := 5) sc_piece.nd rfl (.inl rfl) (pe_lst (pa_cons (pv 1) (pa_cons (pe_op op_add_str (pe_op op_add_str (pe_slice sl_str (pv 1) po_none (po_some (pv 3))) (pv 4)) (pe_slice sl_str (pv 1) (po_some (pv 3)) po_none)) (pa_cons (pe_op op_add_str (pe_slice sl_str (pv 1) po_none (po_some (pv 3))) (pe_slice sl_str (pv 1) (po_some (pe_op op_add (pv 3) pe_int)) po_none)) (pa_cons (pe_op op_mul_str (pv 1) pe_int) (pa_cons (pe_op op_add_str (pv 1) pe_str) (pa_cons pe_str pa_nil))))))))
      (C8.pss_cut (ps_set (i := 5) sc_piece.nd rfl (.inl rfl) (pe_op op_cat (pv 5) (pe_lst (pa_cons (pe_op op_sub (pe_cl GT hr (by decide) (by rfl) (pa_cons (pv 0) (pa_cons pe_int pa_nil))) pe_int) (pa_cons (pe_op op_pow pe_int pe_int) (pa_cons (pe_op op_sub pe_int (pe_op op_pow pe_int pe_int)) (pa_cons pe_bl (pa_cons pe_bl (pa_cons pe_non (pa_cons (pe_lst pa_nil) (pa_cons pe_dnewK (pa_cons (pe_tup pa_nil) (pa_cons (pe_lst (pa_cons (pv 1) pa_nil)) (pa_cons (pe_tup (pa_cons (pv 1) pa_nil)) pa_nil))))))))))))))
      (pss_one (ps_ret (pe_ix ix_list (pv 5) (pe_cl GT hr (by decide) (by rfl) (pa_cons (pv 0) (pa_cons pe_int pa_nil))) (fun _ _ => rfl)))))))), ?_⟩
    have hl := hx.1
    refine ⟨fun σ H' => ∃ (at' : Int) (sg : Str), TxB 1 sg ∧ σ = [some (.ref b), some (.str x), some (.str signs), some (.int at'), some (.str sg), none] ∧ But b H H' ∧ Bg H' b c, ?_, ?_⟩
    · refine ⟨.ref b, rfl, .str x, rfl, x, rfl, hx.size (by decide), _, _, rfl, rfl, b, c, (x.length : Int) + 1, rfl, bag, by omega, by omega, fun r xs1 hr0 hr1 bag1 => ?_⟩
      refine ⟨_, rfl, .ref b, rfl, b, c, 10, rfl, bag1, by decide, by decide, fun k xs2 hk0 hk1 bag2 => ?_⟩
      obtain ⟨l, hl2⟩ := signs_at hk0 hk1
      refine ⟨signs, k, l, rfl, rfl, signs_tx.size (by decide), hl2, _, _, rfl, r, ⟨#[l]⟩, signs_tx.at hl2, rfl, ?_, bag2⟩
      exact But.upd.trans But.upd
    · rintro σ H1 ⟨at', sg, hsg, rfl, but1, bag1⟩
      have hg := hsg.1
      refine ⟨fun σ H' => ∃ (l : Addr) (ys : List Str), ys.length = 6 ∧ (∀ y ∈ ys, TxB 300 y) ∧ σ = [some (.ref b), some (.str x), some (.str signs), some (.int at'), some (.str sg), some (.ref l)] ∧ H' l = some (.lst (ys.map V.str)) ∧ But b H H' ∧ Bg H' b c, ?_, ?_⟩
      · have t1 : TxB 30 (cutS x none (some at')) := hx.cut _ _
        have t3 : TxB 30 (cutS x (some at') none) := hx.cut _ _
        have t4 : TxB 30 (cutS x (some (at' + 1)) none) := hx.cut _ _
        have h1 := t1.1
        have h3 := t3.1
        have h4 := t4.1
        have h13 := (t1.add hsg).1
        refine ⟨.str x, rfl, .str x, rfl, _, rfl, at', rfl, x, rfl, hx.size (by decide), .str sg, rfl, _, sg, rfl, rfl, by rw [sizeLine_eq]; omega, .str x, rfl, _, rfl, at', rfl, x, rfl, hx.size (by decide), _, _, rfl, rfl, by rw [sizeLine_eq]; omega, ?_⟩
        refine ⟨.str x, rfl, _, rfl, at', rfl, x, rfl, hx.size (by decide), .str x, rfl, _, rfl, at', 1, rfl, rfl, at' + 1, rfl, x, rfl, hx.size (by decide), _, _, rfl, rfl, by rw [sizeLine_eq]; omega, ?_⟩
        refine ⟨.str x, rfl, x, 9, rfl, rfl, by decide, by decide, by omega, .str x, rfl, x, _, rfl, rfl, ?_, by show 6 ≤ sizeLine; rw [sizeLine_eq]; decide, fun l nl => ?_⟩
        · have := abcdefgh_tx.1
          rw [sizeLine_eq]
          omega
        · refine ⟨l, [x, cutS x none (some at') ++ sg ++ cutS x (some at') none, cutS x none (some at') ++ cutS x (some (at' + 1)) none, Txt.mul x 9, x ++ Str.ofString "abcdefgh", Str.ofString ""], rfl, ?_, rfl, upd_same, but1.trans (But.new nl), bag1.new nl⟩
          intro y hy
          simp only [List.mem_cons, List.not_mem_nil, or_false] at hy
          rcases hy with rfl | rfl | rfl | rfl | rfl | rfl
          · exact hx.mono (by decide)
          · exact ((t1.add hsg).add t3).mono (by decide)
          · exact (t1.add t4).mono (by decide)
          · exact (hx.mul (m := 9) (by decide) (by decide)).mono (by decide)
          · exact (hx.add abcdefgh_tx).mono (by decide)
          · exact empty_tx.mono (by decide)
      · rintro σ H2 ⟨l, ys, hys, htx, rfl, hl2, but2, bag2⟩
        refine ⟨fun σ H' => ∃ (l : Addr) (vs : List V), vs.length = 17 ∧ (∀ v ∈ vs, ThN K (fr H H') v) ∧ σ = [some (.ref b), some (.str x), some (.str signs), some (.int at'), some (.str sg), some (.ref l)] ∧ H' l = some (.lst vs) ∧ l ≠ b ∧ But b H H' ∧ Bg H' b c, ?_, ?_⟩
        · refine ⟨.ref l, rfl, .ref b, rfl, b, c, 12, rfl, bag2, by decide, by decide, fun r xs hr0 hr1 bag3 => ?_⟩
          have hlb : l ≠ b := by
            intro e
            subst e
            obtain ⟨g, s0, i, ns, hb, _, _⟩ := bag2
            rw [hb] at hl2
            have e2 : [V.int g, V.int s0, V.int i, V.ref c] = ys.map V.str := by injection (Option.some.inj hl2)
            match ys, e2 with
            | [_, _, _, d], e2 => simp at e2
          have hl3 : (upd H2 b (.lst xs)) l = some (.lst (ys.map V.str)) := by rw [upd_ne hlb]; exact hl2
          refine ⟨r, 4, rfl, rfl, 10, 39, rfl, rfl, ⟨by decide, by decide, by decide⟩, 10, 39, rfl, rfl, ⟨by decide, by decide, by decide⟩, 0, _, rfl, rfl, Nat.zero_le _, fun a1 n1 => ?_⟩
          intro a2 n2
          refine ⟨Nat.zero_le _, fun a3 n3 => ⟨.str x, rfl, by show 1 ≤ sizeLine; rw [sizeLine_eq]; decide, fun a4 n4 => ⟨.str x, rfl, by show 1 ≤ sizeLine; rw [sizeLine_eq]; decide, fun a5 n5 => ⟨by show 11 ≤ sizeLine; rw [sizeLine_eq]; decide, fun l2 nl2 => ?_⟩⟩⟩⟩
          have bA1 := bag3.new (o := .lst []) n1
          have bA2 := bA1.new (o := .dK []) n2
          have bA3 := bA2.new (o := .tup []) n3
          have bA4 := bA3.new (o := .lst [.str x]) n4
          have bA5 := bA4.new (o := .tup [.str x]) n5
          have e1 := bag3.nb n1
          have e2 := bA1.nb n2
          have e3 := bA2.nb n3
          have e4 := bA3.nb n4
          have e5 := bA4.nb n5
          let L : List V := [.int (r - 4), .int (10 ^ (39 : Int).toNat), .int (0 - 10 ^ (39 : Int).toNat), .bl true, .bl false, .non, .ref a1, .ref a2, .ref a3, .ref a4, .ref a5]
          have fresh : ∀ a, a ≠ b → (upd H2 b (.lst xs)) a = none → H a = none := fun a n e => (but2.trans But.upd).none_back n e
          have f1 := fresh a1 e1 n1
          have f2 := fresh a2 e2 (upd_none n2).2
          have f3 := fresh a3 e3 (upd_none (upd_none n3).2).2
          have f4 := fresh a4 e4 (upd_none (upd_none (upd_none n4).2).2).2
          have f5 := fresh a5 e5 (upd_none (upd_none (upd_none (upd_none n5).2).2).2).2
          have same : Same (upd H2 b (.lst xs)) (upd (upd (upd (upd (upd (upd (upd H2 b (.lst xs)) a1 (.lst [])) a2 (.dK [])) a3 (.tup [])) a4 (.lst [.str x])) a5 (.tup [.str x])) l2 (.lst L)) :=
            (((((same_new n1).trans (same_new n2)).trans (same_new n3)).trans (same_new n4)).trans (same_new n5)).trans (same_new nl2)
          refine ⟨l, l2, ys.map V.str, L, rfl, rfl, same _ _ hl3, upd_same, ?_, fun l3 nl3 => ?_⟩
          · rw [List.length_map, hys, sizeLine_eq]
            show 6 + 11 ≤ 16777216
            decide
          · have k5 : But b (upd (upd (upd (upd (upd (upd H2 b (.lst xs)) a1 (.lst [])) a2 (.dK [])) a3 (.tup [])) a4 (.lst [.str x])) a5 (.tup [.str x])) (upd (upd (upd (upd (upd (upd (upd (upd H2 b (.lst xs)) a1 (.lst [])) a2 (.dK [])) a3 (.tup [])) a4 (.lst [.str x])) a5 (.tup [.str x])) l2 (.lst L)) l3 (.lst (ys.map V.str ++ L))) := (But.new nl2).trans (But.new nl3)
            have k4 := (But.new (b := b) n5).trans k5
            have k3 := (But.new (b := b) n4).trans k4
            have k2 := (But.new (b := b) n3).trans k3
            have k1 := (But.new (b := b) n2).trans k2
            have k0 := (But.new (b := b) n1).trans k1
            refine ⟨l3, ys.map V.str ++ L, ?_, ?_, rfl, upd_same, (bA5.new nl2).nb nl3, (but2.trans But.upd).trans k0, (bA5.new nl2).new nl3⟩
            · rw [List.length_append, List.length_map, hys]
              rfl
            · intro v hv
              rcases List.mem_append.mp hv with hv | hv
              · obtain ⟨y, hy, rfl⟩ := List.mem_map.mp hv
                exact .str y ((htx y hy).ok (by decide))
              · simp only [L, List.mem_cons, List.not_mem_nil, or_false] at hv
                rcases hv with rfl | rfl | rfl | rfl | rfl | rfl | rfl | rfl | rfl | rfl | rfl
                · refine .int _ (Nat.lt_of_le_of_lt (m := 8) ?_ (by decide))
                  show (r - 4).natAbs ≤ 8
                  omega
                · exact .int _ (by decide +kernel)
                · exact .int _ (by decide +kernel)
                · exact .bl _
                · exact .bl _
                · exact .non
                · exact .lst (fr_at f1 (k1.at e1 upd_same)) .nil dok_nil
                · exact .dct (fr_at f2 (k2.at e2 upd_same))
                · exact .tup (fr_at f3 (k3.at e3 upd_same)) .nil dok_tnil
                · exact .lst (fr_at f4 (k4.at e4 upd_same)) (.cons (.str x) .nil) (dok_one hx)
                · exact .tup (fr_at f5 (k5.at e5 upd_same)) (.cons (.str x) .nil) (dok_tone hx)
        · rintro σ H3 ⟨l3, vs, hvs, hth, rfl, hl3, hlb, but3, bag3⟩
          refine ⟨.ref l3, rfl, .ref b, rfl, b, c, 17, rfl, bag3, by decide, by decide, fun r xs hr0 hr1 bag4 => ?_⟩
          obtain ⟨v, hv, hm⟩ := at_some (xs := vs) hr0 (by omega)
          refine ⟨l3, vs, r, v, rfl, rfl, .inl (.inl (by rw [upd_ne hlb]; exact hl3)), hv, q _ v (but3.trans But.upd) bag4 ?_⟩
          exact (hth v hm).same (fr_but (by obtain ⟨g, s0, i, ns, hb, _⟩ := bag; rw [hb]; exact nofun) But.upd)
end
end K12
set_option Elab.async false
set_option linter.all false
set_option maxRecDepth 100000
set_option maxHeartbeats 4000000
/-! K12g: the law -/
namespace K12
open PySem PySem.Spec PyProof.Rows L2 GL
/-! ### a deep list -/
def teN : Nat → TE
  | 0 => tLst tNil
  | n + 1 => tLst (tCons (teN n) tNil)
def dsN : Nat → List PyData
  | 0 => []
  | n + 1 => [.list (dsN n)]
theorem deep_ok {K : PySem.W.Frag} : ∀ (n : Nat) (σ : L2.St) (H : Hp) (Q : VK), (∀ H' a xs, Same H H' → H a = none → H' a = some (.lst xs) → DpAll K (fr H H') xs (dsN n) → Q (.ref a) H') → teN n σ H Q
  | 0, σ, H, Q, h => ⟨Nat.zero_le _, fun p np => h _ p [] (same_new np) np upd_same .nil⟩
  | n + 1, σ, H, Q, h => by
    refine deep_ok (K := K) n σ H _ fun H1 a xs s na ha hd => ?_
    refine ⟨by show 1 ≤ sizeLine; rw [sizeLine_eq]; decide, fun p np => ?_⟩
    have hp : H p = none := s.free np
    have ha2 : (upd H1 p (.lst [.ref a])) a = some (.lst xs) := by
      rw [upd_ne (ne_of_none ha np)]
      exact ha
    exact h _ p [.ref a] (s.trans (same_new np)) hp upd_same (.cons (.lst (.inl (.inl (fr_at na ha2))) (DpAll.same (fr_grow (same_new np)) hd)) .nil)
theorem dok_deep : DOk (.list (dsN 19)) := ⟨by decide +kernel, by decide +kernel, by decide +kernel, by decide +kernel, by decide +kernel⟩
/-! ### many Nones -/
theorem nones_dp {K : PySem.W.Frag} {H : Hp} : ∀ n : Nat, DpAll K H (List.replicate n [V.non]).flatten (List.replicate n PyData.none)
  | 0 => .nil
  | n + 1 => by
    rw [List.replicate_succ, List.replicate_succ, List.flatten_cons]
    exact .cons .non (nones_dp n)
theorem nones_ok : ∀ n : Nat, PyData.canLayAll0 (List.replicate n .none) = true ∧ PyData.leavesShortAll 8 (List.replicate n .none) = true ∧ PyData.weightAll (List.replicate n .none) = n ∧
    PyData.depthAll (List.replicate n .none) = 0 ∧ PyData.showableAll (List.replicate n .none) = true
  | 0 => ⟨rfl, rfl, rfl, rfl, rfl⟩
  | n + 1 => by
    obtain ⟨h1, h2, h3, h4, h5⟩ := nones_ok n
    rw [List.replicate_succ]
    refine ⟨?_, ?_, ?_, ?_, ?_⟩
    · show (PyData.canLay0 .none && PyData.canLayAll0 _) = true
      rw [h1]
      rfl
    · show (PyData.leavesShort 8 .none && PyData.leavesShortAll 8 _) = true
      rw [h2]
      rfl
    · show PyData.weight .none + 1 + PyData.weightAll _ = n + 1
      rw [h3]
      show 0 + 1 + n = n + 1
      omega
    · show max (PyData.depth .none) (PyData.depthAll _) = 0
      rw [h4]
      rfl
    · show (PyData.showable .none && PyData.showableAll _) = true
      rw [h5]
      rfl
theorem dok_nones {n : Nat} (h : n ≤ 100000) : DOk (.list (List.replicate n .none)) := by
  obtain ⟨h1, h2, h3, h4, h5⟩ := nones_ok n
  refine ⟨h1, h2, ?_, ?_, h5⟩
  · show PyData.weightAll _ ≤ 100000
    rw [h3]
    exact h
  · show PyData.depthAll _ + 1 ≤ 60
    rw [h4]
    decide
theorem nones_len (n : Nat) : (List.replicate n [V.non]).flatten.length = n := by
  induction n with
  | zero => rfl
  | succ n ih =>
    rw [List.replicate_succ, List.flatten_cons, List.length_append, ih]
    show 1 + n = n + 1
    omega
theorem dok_bools (a b c d : Bool) : DOk (.list [.bool a, .bool b, .bool c, .bool d]) := ⟨rfl, rfl, by show 0 + 1 + (0 + 1 + (0 + 1 + (0 + 1 + 0))) ≤ 100000; decide, by show max 0 (max 0 (max 0 (max 0 0))) + 1 ≤ 60; decide, rfl⟩

theorem fr_wo {b : Addr} {H0 H : Hp} (hb : H0 b ≠ none) : Same (fr H0 H) (wo b H) := fun a o e => by
  obtain ⟨e1, e2⟩ := fr_some e
  have n : a ≠ b := fun z => hb (z ▸ e1)
  rw [wo_ne n]
  exact e2
theorem Bg.some {H : Hp} {b c : Addr} (h : Bg H b c) : H b ≠ none := by
  obtain ⟨g, s0, i, ns, hb, _⟩ := h
  rw [hb]
  exact nofun
theorem le_line {n : Nat} (h : n ≤ 100000) : n ≤ sizeLine := by
  rw [sizeLine_eq]
  omega
structure TxtL (K : PySem.W.Frag) (mg : Str → Option Value) (C : Addr) : Prop where
  t : Txt0 mg
  g_AskError : mg "AskError" = some (.ref C)
  keep : PySem.W.keepIn K (.ref C) = true
  exc : PySem.W.excIn K C [.type "ValueError", .type "Exception", .type "BaseException", .type "object"] "ValueError.__new__" = true
abbrev N_law : List Str := ["_law_script", "_law_bag_here", "_law_labels_here", "_law_things", "_law_deep", "_law_many", "_law_thing", "_law_whole", "_law_kept", "_law_found", "_law_mine", "_law_k"]
section
variable {P : Program} {w : World} {K : PySem.W.Frag} {mg : Str → Option Value} {base : Heap} {C : Addr}
theorem sc_law : FnScope ["_law_script", "_law_bag_here", "_law_labels_here", "_law_things", "_law_deep", "_law_many", "_law_thing", "_law_whole", "_law_kept", "_law_found", "_law_mine", "_law_k"] ["_law_script"] (defScope s_law) := ⟨rfl, rfl, rfl, by decide +kernel, rfl, by decide +kernel, by decide +kernel⟩
def spLaw (K : PySem.W.Frag) : Sp := fun vs H Q _ => ∃ (a : Addr) (ns : List Int), vs = [.ref a] ∧ SqL K H a (ns.map V.int) ∧ ns.length ≤ 63 ∧ ∀ H', Q (.bl true) H'
theorem ok_law {f : Addr} {fd : FuncData} (F : Fun K "law" "law" s_law f fd) (T : TxtL K mg C) (EK : ExcK K C)
    (GT : Cl P w K mg base 1 "_law_take" spTake) (GB : Cl P w K mg base 1 "_law_bag" (spBag K)) (GL' : Cl P w K mg base 2 "_law_labels" spLabels) (GP : Cl P w K mg base 2 "_law_piece" (spPiece K))
    (GW : Cl P w K mg base 1 "_law_is_whole" (spInt K C)) (GS : Cl P w K mg base 1 "_law_is_spelt" (spName K C)) (GI : Cl P w K mg base 1 "is_integer" (spInt K C)) (GN : Cl P w K mg base 1 "is_name" (spName K C))
    (GM : Cl P w K mg base 2 "is_mark" (spMark K C)) (GU : Cl P w K mg base 2 "is_number" (spNum K C)) (GA : ClG P w K mg base 1 "_law_alike" (spAlike K)) :
    FnG P w K mg base 3 f fd ["_law_script"] (spLaw K) := by
  refine okG F sc_law (fun vs H Q E h => ?_) (fun cdv A outer s H vs Q E hG hr h => ?_)
  · obtain ⟨a, ns, rfl, _⟩ := h
    rfl
  · obtain ⟨a, ns, rfl, hS, hlen, q⟩ := h
    have hu : (A.deeper (envOfC "law" (defScope s_law) s.heap.objs.size f cdv)).units + 66 < cLine := by
      have := hr.un
      omega
    have gC := T.g_AskError
    refine ⟨_, (C8.pss_cut (ps_set (i := 1) sc_law.nd rfl (.inr rfl) (pe_cl GB hr (by decide) (by rfl) (pa_cons (pv 0) pa_nil)))
      (C8.pss_cut (ps_set (i := 2) sc_law.nd rfl (.inr rfl) (pe_cl GL' hr (by decide) (by rfl) (pa_cons (pv 1) (pa_cons pe_int pa_nil))))
      (C8.pss_cut (ps_setLc (i := 3) (own := [("_law_k", 11)]) (g := (gName 11)) (tt := tYes) rfl sc_law.nd rfl rfl (sw_true rfl rfl rfl (by decide +kernel)) (pi_range1 (by rfl) T.t.m_range (pa_cons pe_int pa_nil)) (blkOk_by (N := N_law) (sc := defScope s_law) (by decide +kernel)) (fun _ _ _ _ _ => pg_name (i := 11) sc_law.nd rfl (.inl rfl)) (fun _ _ _ _ _ => pts_nil) (fun _ _ _ _ _ => (pe_cl GP hr (by decide) (by rfl) (pa_cons (pv 1) (pa_cons (pe_ix (r := rIxL K) ix_list (pv 2) (pe_cl GT hr (by decide) (by rfl) (pa_cons (pv 1) (pa_cons pe_int pa_nil))) (fun _ _ => rfl)) pa_nil)))))
      (C8.pss_cut (ps_set (i := 4) sc_law.nd rfl (.inl rfl) (pe_lst (pa_cons (pe_lst (pa_cons (pe_lst (pa_cons (pe_lst (pa_cons (pe_lst (pa_cons (pe_lst (pa_cons (pe_lst (pa_cons (pe_lst (pa_cons (pe_lst (pa_cons (pe_lst (pa_cons (pe_lst (pa_cons (pe_lst (pa_cons (pe_lst (pa_cons (pe_lst (pa_cons (pe_lst (pa_cons (pe_lst (pa_cons (pe_lst (pa_cons (pe_lst (pa_cons (pe_lst (pa_cons (pe_lst pa_nil) pa_nil)) pa_nil)) pa_nil)) pa_nil)) pa_nil)) pa_nil)) pa_nil)) pa_nil)) pa_nil)) pa_nil)) pa_nil)) pa_nil)) pa_nil)) pa_nil)) pa_nil)) pa_nil)) pa_nil)) pa_nil)) pa_nil)))
      (C8.pss_cut (ps_set (i := 3) sc_law.nd rfl (.inl rfl) (pe_op op_cat (pv 3) (pe_lst (pa_cons (pv 4) (pa_cons (pe_op op_rep (pe_lst (pa_cons pe_non pa_nil)) pe_int) (pa_cons (pe_exc1 PySem.F.excBase_ValueError T.exc gC T.keep (by rfl) pe_str) (pa_cons (pe_ix ix_list (pe_lst (pa_cons pe_int (pa_cons pe_int (pa_cons pe_int (pa_cons pe_int (pa_cons pe_int (pa_cons pe_int (pa_cons pe_int pa_nil)))))))) (pe_cl GT hr (by decide) (by rfl) (pa_cons (pv 1) (pa_cons pe_int pa_nil))) (fun _ _ => rfl)) pa_nil)))))))
      (C8.pss_cut (ps_set (i := 5) sc_law.nd rfl (.inl rfl) (pe_ix ix_list (pe_lst (pa_cons pe_int (pa_cons pe_int (pa_cons pe_int (pa_cons pe_int (pa_cons (pe_op op_pow pe_int pe_int) (pa_cons (pe_cl GT hr (by decide) (by rfl) (pa_cons (pv 1) (pa_cons pe_int pa_nil))) pa_nil))))))) (pe_cl GT hr (by decide) (by rfl) (pa_cons (pv 1) (pa_cons pe_int pa_nil))) (fun _ _ => rfl)))
      (pss_cons (ps_for PassesOwn.never rfl (pi_list (pe_op op_cat (pv 3) (pe_revL (pv 3)))) (pg_name (i := 6) sc_law.nd rfl (.inl rfl))
        (pss_cons (ps_set (i := 7) sc_law.nd rfl (.inl rfl) (pe_cl GW hr (by decide) (by rfl) (pa_cons (pv 6) pa_nil)))
        (C8.pss_cut (ps_set (i := 8) sc_law.nd rfl (.inl rfl) (pe_ifExp (pt_val (pe_callB (call_isiC EK) (by rfl) T.t.m_isinstance (by decide +kernel) (pa_cons (pv 6) (pa_cons (pe_glob (by rfl) gC (show RelV (.ref C) _ from rfl)) pa_nil)))) pe_str (pe_callB (call_reprQ hG hu) (by rfl) T.t.m_repr (by decide +kernel) (pa_cons (pv 6) pa_nil))))
        (C8.pss_cut (ps_set (i := 9) sc_law.nd rfl (.inl rfl) (pe_lst (pa_cons (pe_cl GI hr (by decide) (by rfl) (pa_cons (pv 6) pa_nil)) (pa_cons (pe_cl GN hr (by decide) (by rfl) (pa_cons (pv 6) pa_nil)) (pa_cons (pe_cl GM hr (by decide) (by rfl) (pa_cons (pv 6) pa_nil)) (pa_cons (pe_cl GU hr (by decide) (by rfl) (pa_cons (pv 5) (pa_cons (pv 6) pa_nil))) pa_nil))))))
        (C8.pss_cut (ps_set (i := 10) sc_law.nd rfl (.inl rfl) (pe_lst (pa_cons (pv 7) (pa_cons (pe_cl GS hr (by decide) (by rfl) (pa_cons (pv 6) pa_nil)) (pa_cons (pe_and (pv 7) (pe_one (pe_chain op_le op_le pe_int (pv 6) pe_int))) (pa_cons (pe_and (pv 7) (pe_one (pe_chain op_le op_lt pe_int (pv 6) (pv 5)))) pa_nil))))))
        (pss_one (ps_if (PW.pt (pw_or (pt_not (pt_val (pe_clG GA hG hr (by decide) (by rfl) (pa_cons (pv 9) (pa_cons (pv 10) pa_nil))))) (pw_or1 (PW.pt (pw_and (pt_not (pt_val (pe_callB (call_isiC EK) (by rfl) T.t.m_isinstance (by decide +kernel) (pa_cons (pv 6) (pa_cons (pe_glob (by rfl) gC (show RelV (.ref C) _ from rfl)) pa_nil))))) (pw_and1 (pt_cmpR op_ne (pe_callB (call_reprQ hG hu) (by rfl) T.t.m_repr (by decide +kernel) (pa_cons (pv 6) pa_nil)) (pv 8) (nomark _))))))))
          (pss_one (ps_ret pe_bl))
          pss_nil)))))))
      (pss_one (ps_ret pe_bl))))))))), ?_⟩
    -- the bag
    refine ⟨fun σ H' => ∃ b c, σ = [some (.ref a), some (.ref b), none, none, none, none, none, none, none, none, none, none] ∧ Bg H' b c, ?_, ?_⟩
    · refine ⟨.ref a, rfl, a, ns, rfl, hS, hlen, fun b H' _ _ ⟨c, bag⟩ => ⟨b, c, rfl, bag⟩⟩
    · rintro σ H0 ⟨b, c, rfl, bag0⟩
      -- labels
      refine ⟨fun σ H' => ∃ (pl : Addr) (zs : List Str), σ = [some (.ref a), some (.ref b), some (.ref pl), none, none, none, none, none, none, none, none, none] ∧ Bg H' b c ∧ pl ≠ b ∧ H' pl = some (.lst (zs.map V.str)) ∧ zs.length = 6 ∧ ∀ z ∈ zs, TxB 30 z, ?_, ?_⟩
      · exact ⟨.ref b, rfl, b, c, 6, rfl, bag0, by decide, by decide, fun H' p zs _ bag' _ n1 _ h1 h2 h3 => ⟨p, zs, rfl, bag', n1, h1, h2, h3⟩⟩
      · rintro σ H1 ⟨pl, zs, rfl, bag1, nlb, hpl, hz6, hztx⟩
        -- things
        refine ⟨fun σ H' => ∃ (D : Addr) (vs : List V), σ = [some (.ref a), some (.ref b), some (.ref pl), some (.ref D), none, none, none, none, none, none, none, none] ∧ Bg H' b c ∧ D ≠ b ∧ H' D = some (.lst vs) ∧ vs.length = 20 ∧ ∀ v ∈ vs, ThN K (fr H1 H') v, ?_, ?_⟩
        · refine ⟨20, rfl, by decide, by decide, fun D nD => ?_⟩
          have Db := bag1.nb nD
          have Dc := bag1.nc nD
          have hb1 : H1 b ≠ none := by
            obtain ⟨g, s0, i, ns, hb, _⟩ := bag1
            rw [hb]
            exact nofun
          have npl : pl ≠ D := ne_of_none hpl nD
          have n1 : ∀ {a0 : Addr}, (upd H1 D (.lst [])) a0 = none → H1 a0 = none := fun h => (upd_none h).2
          refine lc_it walk_range (fun i H' => ∃ vs : List V, vs.length = i ∧ (∀ v ∈ vs, ThN K (fr (upd H1 D (.lst [])) H') v) ∧ H' D = some (.lst vs) ∧ But b H1 H' ∧ Bg H' b c)
            ⟨[], rfl, (fun _ hz => nomatch hz), upd_same, But.new nD, bag1.new nD⟩ (fun _ _ _ _ => trivial) (fun i x H2 H3 hi hP hY => ?_) (fun H2 hP => ?_)
          · obtain ⟨vs, hl, hth, hD, but2, bag2⟩ := hP
            obtain ⟨rfl, rfl⟩ := hY
            refine ⟨rfl, .ref b, rfl, .ref pl, rfl, .ref b, rfl, b, c, 6, rfl, bag2, by decide, by decide, fun k xs hk0 hk1 bag3 => ?_⟩
            have hpl3 : (upd H3 b (.lst xs)) pl = some (.lst (zs.map V.str)) := by
              rw [upd_ne nlb]
              exact but2.at nlb hpl
            have hk : k.toNat < zs.length := by omega
            refine ⟨pl, _, k, .str zs[k.toNat], rfl, rfl, .inl (.inl hpl3), atI_int hk0 ?_, b, c, zs[k.toNat], rfl, bag3, hztx _ (List.getElem_mem hk), fun H4 v but4 bag4 hv => ?_⟩
            · rw [List.getElem?_map, List.getElem?_eq_getElem hk]
              rfl
            · have hD4 : H4 D = some (.lst vs) := but4.at Db (by rw [upd_ne Db]; exact hD)
              refine ⟨vs, hD4, small1000 (by omega), vs ++ [v], by rw [List.length_append, hl]; rfl, fun u hu => ?_, upd_same, ?_, bag4.at Db Dc⟩
              · have hb0 : (upd H1 D (.lst [])) b ≠ none := by
                  rw [upd_ne Db.symm]
                  exact hb1
                have grow : ∀ {G : Hp} {o : HO}, Same (fr (upd H1 D (.lst [])) G) (fr (upd H1 D (.lst [])) (upd G D o)) := fun {G o} a0 o0 e => by
                  obtain ⟨e1, e2⟩ := fr_some e
                  have n0 : a0 ≠ D := (upd_none e1).1
                  exact fr_at e1 (by rw [upd_ne n0]; exact e2)
                rcases List.mem_append.mp hu with hu | hu
                · exact ((hth u hu).same (fr_but hb0 (But.upd.trans but4))).same grow
                · rw [List.mem_singleton.mp hu]
                  refine (hv.same (fr_less fun a0 h0 => ?_)).same grow
                  have ab : a0 ≠ b := bag3.nb h0
                  have h1 : H3 a0 = none := by
                    rw [upd_ne ab] at h0
                    exact h0
                  have aD : a0 ≠ D := fun z => by
                    rw [z, hD] at h1
                    cases h1
                  rw [upd_ne aD]
                  exact but2.none_back ab h1
              · exact But.at_new ((but2.trans But.upd).trans but4) nD
          · obtain ⟨vs, hl, hth, hD, but2, bag2⟩ := hP
            exact ⟨D, vs, rfl, bag2, Db, hD, hl, fun v hv => (hth v hv).same (fr_less fun a0 h0 => (upd_none h0).2)⟩
        · rintro σ H2 ⟨D, vs, rfl, bag2, Db, hD2, hv20, hth⟩
          have hb1 : H1 b ≠ none := bag1.some
          -- deep
          refine ⟨fun σ H' => ∃ (p4 : Addr) (xs : List V), σ = [some (.ref a), some (.ref b), some (.ref pl), some (.ref D), some (.ref p4), none, none, none, none, none, none, none] ∧ Same H2 H' ∧ H' p4 = some (.lst xs) ∧ H2 p4 = none ∧ DpAll K (fr H2 H') xs (dsN 19), ?_, ?_⟩
          · show teN 19 _ H2 _
            exact deep_ok (K := K) 19 _ _ _ fun H' p4 xs s np hp hd => ⟨p4, xs, rfl, s, hp, np, hd⟩
          · rintro σ H3 ⟨p4, dx, rfl, s23, hp4, np4, hdx⟩
            have bag3 := bag2.same s23
            have hD3 := s23 _ _ hD2
            -- all things
            refine ⟨fun σ H' => ∃ (p3 : Addr) (ts : List V), σ = [some (.ref a), some (.ref b), some (.ref pl), some (.ref p3), some (.ref p4), none, none, none, none, none, none, none] ∧ Bg H' b c ∧ p3 ≠ b ∧ H' p3 = some (.lst ts) ∧ ts.length ≤ 100 ∧ ∀ v ∈ ts, Th K C (wo b H') v, ?_, ?_⟩
            · refine ⟨.ref D, rfl, .ref p4, rfl, le_line (by decide), fun l1 n1 => ?_⟩
              refine ⟨l1, 9990, [.non], rfl, rfl, upd_same, by decide, by decide, le_line (by decide), fun l2 n2 => ?_⟩
              intro e ne
              refine ⟨le_line (by show 7 ≤ 100000; decide), fun l3 n3 => ?_⟩
              have bA1 := bag3.new (o := .lst [.non]) n1
              have bA2 := bA1.new (o := .lst (List.replicate (9990 : Int).toNat [V.non]).flatten) n2
              have bA3 := bA2.new (o := ExO (.ref C) e) ne
              have bA4 := bA3.new (o := .lst [.int 0, .int 1, .int 2, .int 3, .int 4, .int 5, .int 6]) n3
              refine ⟨.ref b, rfl, b, c, 7, rfl, bA4, by decide, by decide, fun r xs hr0 hr1 bA5 => ?_⟩
              obtain ⟨v, hv, hm⟩ := at_some (xs := [.int 0, .int 1, .int 2, .int 3, .int 4, .int 5, .int 6]) hr0 hr1
              have l3b := bA3.nb n3
              have l2b := bA1.nb n2
              have eb := bA2.nb ne
              have p4b : p4 ≠ b := bag2.nb np4
              refine ⟨l3, _, r, v, rfl, rfl, .inl (.inl (by rw [upd_ne l3b]; exact upd_same)), hv, le_line (by show 4 ≤ 100000; decide), fun l4 n4 => ?_⟩
              let A1 : Hp := upd H3 l1 (.lst [.non])
              let A2 : Hp := upd A1 l2 (.lst (List.replicate (9990 : Int).toNat [V.non]).flatten)
              let A3 : Hp := upd A2 e (ExO (.ref C) e)
              let A4 : Hp := upd A3 l3 (.lst [.int 0, .int 1, .int 2, .int 3, .int 4, .int 5, .int 6])
              let A5 : Hp := upd A4 b (.lst xs)
              let A6 : Hp := upd A5 l4 (.lst [.ref p4, .ref l2, .ref e, v])
              have k5 : But b A5 A6 := But.new n4
              have k4 : But b A4 A6 := But.trans But.upd k5
              have k3 : But b A3 A6 := (But.new n3).trans k4
              have k2 : But b A2 A6 := (But.new ne).trans k3
              have k1 : But b A1 A6 := (But.new n2).trans k2
              have k0 : But b H3 A6 := (But.new n1).trans k1
              have hD6 : A6 D = some (.lst vs) := k0.at Db hD3
              refine ⟨D, l4, vs, _, rfl, rfl, hD6, upd_same, ?_, fun p3 n3' => ?_⟩
              · rw [hv20]
                exact le_line (by show 20 + 4 ≤ 100000; decide)
              · have bA6 : Bg A6 b c := bA5.new n4
                have kN : But b A6 (upd A6 p3 (.lst (vs ++ [.ref p4, .ref l2, .ref e, v]))) := But.new n3'
                refine ⟨p3, _, rfl, bA6.new n3', bA6.nb n3', upd_same, by rw [List.length_append, hv20]; show 20 + 4 ≤ 100; decide, fun u hu => ?_⟩
                rcases List.mem_append.mp hu with hu | hu
                · exact .inl ((hth u hu).same (((fr_but hb1 ((But.of s23).trans (k0.trans kN)))).trans (fr_wo hb1)))
                · simp only [List.mem_cons, List.not_mem_nil, or_false] at hu
                  rcases hu with rfl | rfl | rfl | rfl
                  · refine .inl (.lst (by rw [wo_ne p4b]; exact (k0.trans kN).at p4b hp4) (DpAll.same ?_ hdx) dok_deep)
                    exact (fr_wo bag2.some).trans (k0.trans kN)
                  · refine .inl (.lst (by rw [wo_ne l2b]; exact (k2.trans kN).at l2b upd_same) ?_ (dok_nones (n := 9990) (by decide)))
                    exact nones_dp 9990
                  · exact .inr ⟨e, rfl, by rw [wo_ne eb]; exact (k3.trans kN).at eb upd_same⟩
                  · simp only [List.mem_cons, List.not_mem_nil, or_false] at hm
                    rcases hm with rfl | rfl | rfl | rfl | rfl | rfl | rfl <;> exact .inl (.int _ (by decide))
            · rintro σ H4 ⟨p3, ts, rfl, bag4, p3b, hp3, hts, hth4⟩
              -- many
              refine ⟨fun σ H' => ∃ m : Int, σ = [some (.ref a), some (.ref b), some (.ref pl), some (.ref p3), some (.ref p4), some (.int m), none, none, none, none, none, none] ∧ But b H4 H', ?_, ?_⟩
              · refine ⟨10, 39, rfl, rfl, ⟨by decide, by decide, by decide⟩, .ref b, rfl, b, c, 9, rfl, bag4, by decide, by decide, fun r xs hr0 hr1 bag5 => ?_⟩
                refine ⟨le_line (by show 6 ≤ 100000; decide), fun l nl => ?_⟩
                have lb := bag5.nb nl
                refine ⟨.ref b, rfl, b, c, 6, rfl, bag5.new nl, by decide, by decide, fun k xs2 hk0 hk1 bag6 => ?_⟩
                obtain ⟨v, hv, hm⟩ := at_some (xs := [.int 0, .int 1, .int 2, .int 4, .int (10 ^ (39 : Int).toNat), .int r]) hk0 hk1
                have hi : ∃ i, v = .int i := by
                  simp only [List.mem_cons, List.not_mem_nil, or_false] at hm
                  rcases hm with rfl | rfl | rfl | rfl | rfl | rfl <;> exact ⟨_, rfl⟩
                obtain ⟨i, rfl⟩ := hi
                exact ⟨l, _, k, .int i, rfl, rfl, .inl (.inl (by rw [upd_ne lb]; exact upd_same)), hv, i, rfl, (But.upd.trans (But.new nl)).trans But.upd⟩
              · rintro σ H5 ⟨m, rfl, but5⟩
                have hp35 : H5 p3 = some (.lst ts) := but5.at p3b hp3
                have hth5 : ∀ v ∈ ts, Th K C H5 v := fun v hv => (hth4 v hv).same (Same.trans (show Same (wo b H4) (wo b H5) from but5) wo_same)
                -- the loop
                refine ⟨.ref p3, rfl, .ref p3, rfl, p3, ts, rfl, .inl (.inl hp35), fun p6 n6 => ?_⟩
                have h36 : p3 ≠ p6 := ne_of_none hp35 n6
                refine ⟨p3, p6, ts, ts.reverse, rfl, rfl, by rw [upd_ne h36]; exact hp35, upd_same, ?_, fun p7 n7 => ?_⟩
                · rw [List.length_reverse]
                  exact le_line (by omega)
                · have s57 : Same H5 (upd (upd H5 p6 (.lst ts.reverse)) p7 (.lst (ts ++ ts.reverse))) := (same_new n6).trans (same_new n7)
                  refine ⟨p7, rfl, ⟨_, .inl (.inl upd_same)⟩, ?_⟩
                  refine for_list (xs := ts ++ ts.reverse) (fun i σ H => ∃ y6 y7 y8 y9 y10, σ = [some (.ref a), some (.ref b), some (.ref pl), some (.ref p3), some (.ref p4), some (.int m), y6, y7, y8, y9, y10, none] ∧ Same (upd (upd H5 p6 (.lst ts.reverse)) p7 (.lst (ts ++ ts.reverse))) H)
                    ⟨none, none, none, none, none, rfl, Same.refl _⟩ (fun i σ H _ hP => ?_) (fun i x σ H hx hP => ?_) (fun σ H hP => ?_)
                  · obtain ⟨_, _, _, _, _, _, s7⟩ := hP
                    exact .inl (.inl (s7 _ _ upd_same))
                  · obtain ⟨y6, y7, y8, y9, y10, rfl, s7⟩ := hP
                    have hxm : x ∈ ts := by
                      rcases List.mem_append.mp (List.mem_of_getElem? hx) with z | z
                      · exact z
                      · exact List.mem_reverse.mp z
                    have thx : Th K C H x := (hth5 x hxm).same (s57.trans s7)
                    refine ⟨x, rfl, x, rfl, thx, ?_⟩
                    -- kept
                    refine ⟨fun σ H' => H' = H ∧ ∃ kept, σ = [some (.ref a), some (.ref b), some (.ref pl), some (.ref p3), some (.ref p4), some (.int m), some x, some (.bl (intB x)), some kept, y9, y10, none] ∧
                      (ThE C H x ∨ ThN K H x ∧ ∃ d, Is K H x d ∧ kept = .str d.shown), ?_, ?_⟩
                    · rcases thx with t | t
                      · obtain ⟨d, hd⟩ := t.is
                        exact ⟨x, rfl, x, rfl, .inl ⟨t, _, rfl, iteF ⟨x, rfl, x, d, rfl, hd, rfl, _, rfl, .inr ⟨t, d, hd, rfl⟩⟩⟩⟩
                      · exact ⟨x, rfl, x, rfl, .inr ⟨t, _, rfl, iteT ⟨rfl, _, rfl, .inl t⟩⟩⟩
                    · rintro σ H' ⟨rfl, kept, rfl, hk⟩
                      -- found
                      refine ⟨fun σ H9 => ∃ p9, σ = [some (.ref a), some (.ref b), some (.ref pl), some (.ref p3), some (.ref p4), some (.int m), some x, some (.bl (intB x)), some kept, some (.ref p9), y10, none] ∧ Same H' H9 ∧
                        H9 p9 = some (.lst [.bl (intB x), .bl (nameB x), .bl (upB 4 x), .bl (upB m x)]), ?_, ?_⟩
                      · refine ⟨x, rfl, x, rfl, thx, x, rfl, x, rfl, thx, fun H8 s8 => ?_⟩
                        refine ⟨x, rfl, x, rfl, thx.same s8, _, rfl, x, rfl, m, x, rfl, thx.same s8, le_line (by show 4 ≤ 100000; decide), fun p9 n9 => ⟨p9, rfl, s8.trans (same_new n9), upd_same⟩⟩
                      · rintro σ H9 ⟨p9, rfl, s9, hp9⟩
                        refine ⟨fun σ HA => ∃ pA, σ = [some (.ref a), some (.ref b), some (.ref pl), some (.ref p3), some (.ref p4), some (.int m), some x, some (.bl (intB x)), some kept, some (.ref p9), some (.ref pA), none] ∧ Same H9 HA ∧
                          HA pA = some (.lst [.bl (intB x), .bl (nameB x), .bl (upB 4 x), .bl (upB m x)]), ?_, ?_⟩
                        · refine ⟨_, rfl, x, rfl, x, rfl, thx.same s9, fun H8 s8 => ?_⟩
                          cases hb : intB x with
                          | true =>
                            obtain ⟨i, rfl⟩ := intB_of hb
                            refine ⟨_, rfl, _, rfl, iteT ⟨_, rfl, _, _, rfl, rfl, _, rfl, ite2 (fun e1 => ?_) (fun e1 => ?_)⟩⟩
                            · have h0 : (0 : Int) ≤ i := of_decide_eq_true e1
                              refine ⟨_, _, rfl, rfl, _, rfl, _, rfl, iteT ⟨_, rfl, _, _, rfl, rfl, _, rfl, ite2 (fun _ => ?_) (fun z => absurd e1 z)⟩⟩
                              refine ⟨_, rfl, _, _, rfl, rfl, le_line (by show 4 ≤ 100000; decide), fun pA nA => ⟨pA, rfl, s8.trans (same_new nA), ?_⟩⟩
                              have u4 : upB 4 (.int i) = decide (i ≤ 3) := decide_eq_decide.mpr (by omega)
                              have um : upB m (.int i) = decide (i < m) := decide_eq_decide.mpr (by omega)
                              rw [u4, um]
                              exact upd_same
                            · have h0 : ¬ (0 : Int) ≤ i := fun z => e1 (decide_eq_true z)
                              refine ⟨_, rfl, _, rfl, iteT ⟨_, rfl, _, _, rfl, rfl, _, rfl, ite2 (fun z => absurd z e1) (fun _ => ?_)⟩⟩
                              refine ⟨le_line (by show 4 ≤ 100000; decide), fun pA nA => ⟨pA, rfl, s8.trans (same_new nA), ?_⟩⟩
                              have u4 : upB 4 (.int i) = false := decide_eq_false (by omega)
                              have um : upB m (.int i) = false := decide_eq_false (by omega)
                              rw [u4, um]
                              exact upd_same
                          | false =>
                            have u4 : upB 4 x = false := upB_no (by rw [hb]; exact Bool.false_ne_true)
                            have um : upB m x = false := upB_no (by rw [hb]; exact Bool.false_ne_true)
                            refine ⟨_, rfl, _, rfl, iteF ⟨_, rfl, _, rfl, iteF ⟨le_line (by show 4 ≤ 100000; decide), fun pA nA => ⟨pA, rfl, s8.trans (same_new nA), ?_⟩⟩⟩⟩
                            rw [u4, um]
                            exact upd_same
                        · rintro σ HA ⟨pA, rfl, sA, hpA⟩
                          have dp : ∀ {G : Hp} {p : Addr}, G p = some (.lst [.bl (intB x), .bl (nameB x), .bl (upB 4 x), .bl (upB m x)]) → Dp K G (.ref p) (.list [.bool (intB x), .bool (nameB x), .bool (upB 4 x), .bool (upB m x)]) :=
                            fun h => .lst (.inl (.inl h)) (.cons (.bl _) (.cons (.bl _) (.cons (.bl _) (.cons (.bl _) .nil))))
                          refine ⟨_, rfl, _, rfl, _, _, _, rfl, dp (sA _ _ hp9), dp hpA, dok_bools _ _ _ _, _, rfl, iteF ?_⟩
                          have sHA : Same H' HA := s9.trans sA
                          have fin : ∃ y6 y7 y8 y9 y10, [some (.ref a), some (.ref b), some (.ref pl), some (.ref p3), some (.ref p4), some (.int m), some x, some (.bl (intB x)), some kept, some (.ref p9), some (.ref pA), none] =
                              [some (.ref a), some (.ref b), some (.ref pl), some (.ref p3), some (.ref p4), some (.int m), y6, y7, y8, y9, y10, none] ∧ Same (upd (upd H5 p6 (.lst ts.reverse)) p7 (.lst (ts ++ ts.reverse))) HA :=
                            ⟨_, _, _, _, _, rfl, s7.trans sHA⟩
                          rcases hk with t | ⟨t, d, hd, rfl⟩
                          · exact ⟨x, rfl, x, rfl, .inr ⟨by obtain ⟨a0, e1, e2⟩ := t; exact ⟨a0, e1, sHA _ _ e2⟩, _, rfl, iteF fin⟩⟩
                          · refine ⟨x, rfl, x, rfl, .inl ⟨t.same sHA, _, rfl, iteT ⟨x, rfl, x, d, rfl, hd.same sHA, _, rfl, rfl, _, rfl, ?_⟩⟩⟩
                            rw [decide_eq_true rfl]
                            exact fin
                  · exact q _
end
end K12
set_option Elab.async false
set_option linter.all false
set_option maxRecDepth 100000
set_option maxHeartbeats 4000000
namespace K12
open PySem PySem.Spec PyProof.Rows L2 GL
theorem all_mk {l : PySem.W.OpenLaw} {w : World} {K : PySem.W.Frag} {h : Heap} {mg : Str → Option Value} {fa C : Addr} (X : K.In h) (G : h.Ns mainGlobals mg) (hfa : mg "law" = some (.ref fa))
    {f0 f1 f2 f3 f4 f5 f6 f7 f8 f9 f10 f11 : Addr} {od0 an0 od1 an1 od2 an2 od3 an3 od4 an4 od5 an5 od6 an6 od7 an7 od8 an8 od9 an9 od10 an10 od11 an11 : Option Addr} {sl0 sl1 sl2 sl3 sl4 sl5 sl6 sl7 sl8 sl9 sl10 sl11 : Array (Option Value)} {oc0 kV0 dc0 pm0 cd0 ct0 oc1 kV1 dc1 pm1 cd1 ct1 oc2 kV2 dc2 pm2 cd2 ct2 oc3 kV3 dc3 pm3 cd3 ct3 oc4 kV4 dc4 pm4 cd4 ct4 oc5 kV5 dc5 pm5 cd5 ct5 oc6 kV6 dc6 pm6 cd6 ct6 oc7 kV7 dc7 pm7 cd7 ct7 oc8 kV8 dc8 pm8 cd8 ct8 oc9 kV9 dc9 pm9 cd9 ct9 oc10 kV10 dc10 pm10 cd10 ct10 oc11 kV11 dc11 pm11 cd11 ct11 : Value}
    (a0 : PySem.W.nsIn K mainGlobals "is_integer" = some (some (.ref f0))) (l0 : K.lookup f0 = some ⟨oc0, od0, .func (PySem.W.fnOf "is_integer" "is_integer" (defArgs s_is_integer) (defBody s_is_integer) (defScope s_is_integer) .none kV0 dc0 pm0 an0 cd0 ct0), sl0⟩) (c0 : PySem.W.codeIn K cd0 "is_integer" = true) (k0 : PySem.W.keepIn K (.ref f0) = true)
    (a1 : PySem.W.nsIn K mainGlobals "is_name" = some (some (.ref f1))) (l1 : K.lookup f1 = some ⟨oc1, od1, .func (PySem.W.fnOf "is_name" "is_name" (defArgs s_is_name) (defBody s_is_name) (defScope s_is_name) .none kV1 dc1 pm1 an1 cd1 ct1), sl1⟩) (c1 : PySem.W.codeIn K cd1 "is_name" = true) (k1 : PySem.W.keepIn K (.ref f1) = true)
    (a2 : PySem.W.nsIn K mainGlobals "is_mark" = some (some (.ref f2))) (l2 : K.lookup f2 = some ⟨oc2, od2, .func (PySem.W.fnOf "is_mark" "is_mark" (defArgs s_is_mark) (defBody s_is_mark) (defScope s_is_mark) .none kV2 dc2 pm2 an2 cd2 ct2), sl2⟩) (c2 : PySem.W.codeIn K cd2 "is_mark" = true) (k2 : PySem.W.keepIn K (.ref f2) = true)
    (a3 : PySem.W.nsIn K mainGlobals "is_number" = some (some (.ref f3))) (l3 : K.lookup f3 = some ⟨oc3, od3, .func (PySem.W.fnOf "is_number" "is_number" (defArgs s_is_number) (defBody s_is_number) (defScope s_is_number) .none kV3 dc3 pm3 an3 cd3 ct3), sl3⟩) (c3 : PySem.W.codeIn K cd3 "is_number" = true) (k3 : PySem.W.keepIn K (.ref f3) = true)
    (a4 : PySem.W.nsIn K mainGlobals "_law_bag" = some (some (.ref f4))) (l4 : K.lookup f4 = some ⟨oc4, od4, .func (PySem.W.fnOf "_law_bag" "_law_bag" (defArgs s_bag) (defBody s_bag) (defScope s_bag) .none kV4 dc4 pm4 an4 cd4 ct4), sl4⟩) (c4 : PySem.W.codeIn K cd4 "_law_bag" = true) (k4 : PySem.W.keepIn K (.ref f4) = true)
    (a5 : PySem.W.nsIn K mainGlobals "_law_take" = some (some (.ref f5))) (l5 : K.lookup f5 = some ⟨oc5, od5, .func (PySem.W.fnOf "_law_take" "_law_take" (defArgs s_take) (defBody s_take) (defScope s_take) .none kV5 dc5 pm5 an5 cd5 ct5), sl5⟩) (c5 : PySem.W.codeIn K cd5 "_law_take" = true) (k5 : PySem.W.keepIn K (.ref f5) = true)
    (a6 : PySem.W.nsIn K mainGlobals "_law_alike" = some (some (.ref f6))) (l6 : K.lookup f6 = some ⟨oc6, od6, .func (PySem.W.fnOf "_law_alike" "_law_alike" (defArgs s_alike) (defBody s_alike) (defScope s_alike) .none kV6 dc6 pm6 an6 cd6 ct6), sl6⟩) (c6 : PySem.W.codeIn K cd6 "_law_alike" = true) (k6 : PySem.W.keepIn K (.ref f6) = true)
    (a7 : PySem.W.nsIn K mainGlobals "_law_labels" = some (some (.ref f7))) (l7 : K.lookup f7 = some ⟨oc7, od7, .func (PySem.W.fnOf "_law_labels" "_law_labels" (defArgs s_labels) (defBody s_labels) (defScope s_labels) .none kV7 dc7 pm7 an7 cd7 ct7), sl7⟩) (c7 : PySem.W.codeIn K cd7 "_law_labels" = true) (k7 : PySem.W.keepIn K (.ref f7) = true)
    (a8 : PySem.W.nsIn K mainGlobals "_law_piece" = some (some (.ref f8))) (l8 : K.lookup f8 = some ⟨oc8, od8, .func (PySem.W.fnOf "_law_piece" "_law_piece" (defArgs s_piece) (defBody s_piece) (defScope s_piece) .none kV8 dc8 pm8 an8 cd8 ct8), sl8⟩) (c8 : PySem.W.codeIn K cd8 "_law_piece" = true) (k8 : PySem.W.keepIn K (.ref f8) = true)
    (a9 : PySem.W.nsIn K mainGlobals "_law_is_whole" = some (some (.ref f9))) (l9 : K.lookup f9 = some ⟨oc9, od9, .func (PySem.W.fnOf "_law_is_whole" "_law_is_whole" (defArgs s_is_whole) (defBody s_is_whole) (defScope s_is_whole) .none kV9 dc9 pm9 an9 cd9 ct9), sl9⟩) (c9 : PySem.W.codeIn K cd9 "_law_is_whole" = true) (k9 : PySem.W.keepIn K (.ref f9) = true)
    (a10 : PySem.W.nsIn K mainGlobals "_law_is_spelt" = some (some (.ref f10))) (l10 : K.lookup f10 = some ⟨oc10, od10, .func (PySem.W.fnOf "_law_is_spelt" "_law_is_spelt" (defArgs s_is_spelt) (defBody s_is_spelt) (defScope s_is_spelt) .none kV10 dc10 pm10 an10 cd10 ct10), sl10⟩) (c10 : PySem.W.codeIn K cd10 "_law_is_spelt" = true) (k10 : PySem.W.keepIn K (.ref f10) = true)
    (a11 : PySem.W.nsIn K mainGlobals "law" = some (some (.ref f11))) (l11 : K.lookup f11 = some ⟨oc11, od11, .func (PySem.W.fnOf "law" "law" (defArgs s_law) (defBody s_law) (defScope s_law) .none kV11 dc11 pm11 an11 cd11 ct11), sl11⟩) (c11 : PySem.W.codeIn K cd11 "law" = true) (k11 : PySem.W.keepIn K (.ref f11) = true)
    {t8 t3 : Tok} (g8 : PySem.W.nsIn K mainGlobals "LONGEST_NAME" = some (some (.int 8 t8))) (g3 : PySem.W.nsIn K mainGlobals "HIGHEST_MARK" = some (some (.int 3 t3)))
    (z_isinstance : PySem.W.nsIn K mainGlobals "isinstance" = some none)
    (z_int : PySem.W.nsIn K mainGlobals "int" = some none)
    (z_bool : PySem.W.nsIn K mainGlobals "bool" = some none)
    (z_str : PySem.W.nsIn K mainGlobals "str" = some none)
    (z_len : PySem.W.nsIn K mainGlobals "len" = some none)
    (z_all : PySem.W.nsIn K mainGlobals "all" = some none)
    (z_abs : PySem.W.nsIn K mainGlobals "abs" = some none)
    (z_range : PySem.W.nsIn K mainGlobals "range" = some none)
    (z_repr : PySem.W.nsIn K mainGlobals "repr" = some none)
    (aC : PySem.W.nsIn K mainGlobals "AskError" = some (some (.ref C))) (kC : PySem.W.keepIn K (.ref C) = true)
    (xC : PySem.W.excIn K C [.type "ValueError", .type "Exception", .type "BaseException", .type "object"] "ValueError.__new__" = true)
    (e1 : PySem.W.findIn K (.ref C) "__getattribute__" = some (some (.builtin "BaseException.__getattribute__"))) (e2 : PySem.W.findIn K (.ref C) "__getattr__" = some none) (e3 : PySem.W.subIn K (.ref C) (.type "BaseException") = some true)
    (e4 : PySem.W.hasDictIn K C = true) (e5 : PySem.W.findIn K (.ref C) "__class__" = some (some (.builtin "object.__class__"))) (e6 : PySem.W.specialIn K (.builtin "object.__class__") "__get__" = some (some (.builtin "getset_descriptor.__get__")))
    (e7 : PySem.W.takesIn K (.builtin "object.__class__") = some true) (e8 : PySem.W.mroIn K C (.type "object") = some true)
    (q1 : PySem.W.kitOne K (.ref C) (.type "int") = some false) (q2 : PySem.W.kitOne K (.ref C) (.type "bool") = some false) (q3 : PySem.W.kitOne K (.ref C) (.type "str") = some false) (q4 : PySem.W.kitOne K (.ref C) (.ref C) = some true)
    (q5 : PySem.W.kitOne K (.type "int") (.ref C) = some false) (q6 : PySem.W.kitOne K (.type "bool") (.ref C) = some false) (q7 : PySem.W.kitOne K (.type "str") (.ref C) = some false) (q8 : PySem.W.kitOne K (.type "NoneType") (.ref C) = some false)
    (q9 : PySem.W.kitOne K (.type "list") (.ref C) = some false) (q10 : PySem.W.kitOne K (.type "tuple") (.ref C) = some false) (q11 : PySem.W.kitOne K (.type "dict") (.ref C) = some false) :
    ∃ fd : FuncData, (∀ (s : Shared) (v : Value), BindsTo s fd ⟨[v], []⟩ [("_law_script", v)]) ∧ ∀ base : Heap, K.In base → base.Ns mainGlobals mg → FnG l.prog w K mg base 3 fa fd ["_law_script"] (spLaw K) := by
  have e := hfa.symm.trans (PySem.W.mg_of X G a11)
  cases e
  have F0 := fun_mk (st := s_is_integer) l0 c0 k0
  have b0 := F0.binds (ps := ["thing"]) fun _ _ _ _ _ _ us hl => match us, hl with | [_], _ => rfl
  have F1 := fun_mk (st := s_is_name) l1 c1 k1
  have b1 := F1.binds (ps := ["thing"]) fun _ _ _ _ _ _ us hl => match us, hl with | [_], _ => rfl
  have F2 := fun_mk (st := s_is_mark) l2 c2 k2
  have b2 := F2.binds (ps := ["thing"]) fun _ _ _ _ _ _ us hl => match us, hl with | [_], _ => rfl
  have F3 := fun_mk (st := s_is_number) l3 c3 k3
  have b3 := F3.binds (ps := ["many", "thing"]) fun _ _ _ _ _ _ us hl => match us, hl with | [_, _], _ => rfl
  have F4 := fun_mk (st := s_bag) l4 c4 k4
  have b4 := F4.binds (ps := ["_law_script"]) fun _ _ _ _ _ _ us hl => match us, hl with | [_], _ => rfl
  have F5 := fun_mk (st := s_take) l5 c5 k5
  have b5 := F5.binds (ps := ["_law_bag_here", "_law_many"]) fun _ _ _ _ _ _ us hl => match us, hl with | [_, _], _ => rfl
  have F6 := fun_mk (st := s_alike) l6 c6 k6
  have b6 := F6.binds (ps := ["_law_found", "_law_right"]) fun _ _ _ _ _ _ us hl => match us, hl with | [_, _], _ => rfl
  have F7 := fun_mk (st := s_labels) l7 c7 k7
  have b7 := F7.binds (ps := ["_law_bag_here", "_law_many"]) fun _ _ _ _ _ _ us hl => match us, hl with | [_, _], _ => rfl
  have F8 := fun_mk (st := s_piece) l8 c8 k8
  have b8 := F8.binds (ps := ["_law_bag_here", "_law_label"]) fun _ _ _ _ _ _ us hl => match us, hl with | [_, _], _ => rfl
  have F9 := fun_mk (st := s_is_whole) l9 c9 k9
  have b9 := F9.binds (ps := ["_law_thing"]) fun _ _ _ _ _ _ us hl => match us, hl with | [_], _ => rfl
  have F10 := fun_mk (st := s_is_spelt) l10 c10 k10
  have b10 := F10.binds (ps := ["_law_thing"]) fun _ _ _ _ _ _ us hl => match us, hl with | [_], _ => rfl
  have F11 := fun_mk (st := s_law) l11 c11 k11
  have T : Txt0 mg := ⟨PySem.W.mg_none_of X G z_isinstance, PySem.W.mg_none_of X G z_int, PySem.W.mg_none_of X G z_bool, PySem.W.mg_none_of X G z_str, PySem.W.mg_none_of X G z_len, PySem.W.mg_none_of X G z_all, PySem.W.mg_none_of X G z_abs, PySem.W.mg_none_of X G z_range, PySem.W.mg_none_of X G z_repr, ⟨t8, PySem.W.mg_of X G g8⟩, ⟨t3, PySem.W.mg_of X G g3⟩⟩
  have TL : TxtL K mg C := ⟨T, PySem.W.mg_of X G aC, kC, xC⟩
  have EK : ExcK K C := ⟨⟨e1, e2, e3, e4, e5, e6, e7, e8⟩, q1, q2, q3, q4, q5, q6, q7, q8, q9, q10, q11⟩
  refine ⟨PySem.W.fnOf "law" "law" (defArgs s_law) (defBody s_law) (defScope s_law) .none kV11 dc11 pm11 an11 cd11 ct11, fun s v => .of_eq rfl, fun base _ _ => ?_⟩
  have GT : Cl l.prog w K mg base 1 "_law_take" spTake := ⟨_, _, _, ok_take F5 T, PySem.W.mg_of X G a5, k5, b5⟩
  have GB : Cl l.prog w K mg base 1 "_law_bag" (spBag K) := ⟨_, _, _, ok_bag F4 T, PySem.W.mg_of X G a4, k4, b4⟩
  have GLb : Cl l.prog w K mg base 2 "_law_labels" spLabels := ⟨_, _, _, ok_labels F7 T GT, PySem.W.mg_of X G a7, k7, b7⟩
  have GP : Cl l.prog w K mg base 2 "_law_piece" (spPiece K) := ⟨_, _, _, ok_piece F8 T GT, PySem.W.mg_of X G a8, k8, b8⟩
  have GW : Cl l.prog w K mg base 1 "_law_is_whole" (spInt K C) := ⟨_, _, _, ok_is_whole F9 T EK, PySem.W.mg_of X G a9, k9, b9⟩
  have GS : Cl l.prog w K mg base 1 "_law_is_spelt" (spName K C) := ⟨_, _, _, ok_is_spelt F10 T EK, PySem.W.mg_of X G a10, k10, b10⟩
  have GI : Cl l.prog w K mg base 1 "is_integer" (spInt K C) := ⟨_, _, _, ok_is_integer F0 T EK, PySem.W.mg_of X G a0, k0, b0⟩
  have GN : Cl l.prog w K mg base 1 "is_name" (spName K C) := ⟨_, _, _, ok_is_name F1 T EK, PySem.W.mg_of X G a1, k1, b1⟩
  have GM : Cl l.prog w K mg base 2 "is_mark" (spMark K C) := ⟨_, _, _, ok_is_mark F2 T GI, PySem.W.mg_of X G a2, k2, b2⟩
  have GU : Cl l.prog w K mg base 2 "is_number" (spNum K C) := ⟨_, _, _, ok_is_number F3 T GI, PySem.W.mg_of X G a3, k3, b3⟩
  have GA : ClG l.prog w K mg base 1 "_law_alike" (spAlike K) := ⟨_, _, _, ok_alike F6 T, PySem.W.mg_of X G a6, k6, b6⟩
  exact ok_law F11 TL EK GT GB GLb GP GW GS GI GN GM GU GA
end K12
open PySem PySem.W PyProof.Rows
set_option maxHeartbeats 0 in
theorem PySem.Challenge.cw_askless_k12_kinds_known_holds : PySem.Challenge.rw_askless_k12_kinds_known.Holds := by
  w_on; o_law; k_head; (case hw => w_witness2)
  k_fill
  refine GL.walkG (l := PySem.Challenge.rw_askless_k12_kinds_known) (n := 63) (k := 3) (x := "_law_script") (sp := fun w => K12.spLaw _) rfl (by decide) rfl ⟨rfl, by decide, by decide⟩ (fun w h Y => PySem.W.kIn_of Y) ?F (fun _ _ a ns hl _ hS => ⟨a, ns, rfl, hS, hl, fun _ => rfl⟩)
  case F =>
    intro w mg fa h KX G hmg
    refine' K12.all_mk KX G hmg ?a0 ?l0 ?c0 ?k0 ?a1 ?l1 ?c1 ?k1 ?a2 ?l2 ?c2 ?k2 ?a3 ?l3 ?c3 ?k3 ?a4 ?l4 ?c4 ?k4 ?a5 ?l5 ?c5 ?k5 ?a6 ?l6 ?c6 ?k6 ?a7 ?l7 ?c7 ?k7 ?a8 ?l8 ?c8 ?k8 ?a9 ?l9 ?c9 ?k9 ?a10 ?l10 ?c10 ?k10 ?a11 ?l11 ?c11 ?k11 ?g8 ?g3 ?z_isinstance ?z_int ?z_bool ?z_str ?z_len ?z_all ?z_abs ?z_range ?z_repr ?aC ?kC ?xC ?e1 ?e2 ?e3 ?e4 ?e5 ?e6 ?e7 ?e8 ?q1 ?q2 ?q3 ?q4 ?q5 ?q6 ?q7 ?q8 ?q9 ?q10 ?q11
    (case a0 => first | rfl | k_is)
    (case l0 => first | rfl | k_is)
    (case c0 => first | rfl | k_is)
    (case k0 => first | rfl | k_is)
    (case a1 => first | rfl | k_is)
    (case l1 => first | rfl | k_is)
    (case c1 => first | rfl | k_is)
    (case k1 => first | rfl | k_is)
    (case a2 => first | rfl | k_is)
    (case l2 => first | rfl | k_is)
    (case c2 => first | rfl | k_is)
    (case k2 => first | rfl | k_is)
    (case a3 => first | rfl | k_is)
    (case l3 => first | rfl | k_is)
    (case c3 => first | rfl | k_is)
    (case k3 => first | rfl | k_is)
    (case a4 => first | rfl | k_is)
    (case l4 => first | rfl | k_is)
    (case c4 => first | rfl | k_is)
    (case k4 => first | rfl | k_is)
    (case a5 => first | rfl | k_is)
    (case l5 => first | rfl | k_is)
    (case c5 => first | rfl | k_is)
    (case k5 => first | rfl | k_is)
    (case a6 => first | rfl | k_is)
    (case l6 => first | rfl | k_is)
    (case c6 => first | rfl | k_is)
    (case k6 => first | rfl | k_is)
    (case a7 => first | rfl | k_is)
    (case l7 => first | rfl | k_is)
    (case c7 => first | rfl | k_is)
    (case k7 => first | rfl | k_is)
    (case a8 => first | rfl | k_is)
    (case l8 => first | rfl | k_is)
    (case c8 => first | rfl | k_is)
    (case k8 => first | rfl | k_is)
    (case a9 => first | rfl | k_is)
    (case l9 => first | rfl | k_is)
    (case c9 => first | rfl | k_is)
    (case k9 => first | rfl | k_is)
    (case a10 => first | rfl | k_is)
    (case l10 => first | rfl | k_is)
    (case c10 => first | rfl | k_is)
    (case k10 => first | rfl | k_is)
    (case a11 => first | rfl | k_is)
    (case l11 => first | rfl | k_is)
    (case c11 => first | rfl | k_is)
    (case k11 => first | rfl | k_is)
    (case g8 => first | rfl | k_is)
    (case g3 => first | rfl | k_is)
    (case z_isinstance => first | rfl | k_is)
    (case z_int => first | rfl | k_is)
    (case z_bool => first | rfl | k_is)
    (case z_str => first | rfl | k_is)
    (case z_len => first | rfl | k_is)
    (case z_all => first | rfl | k_is)
    (case z_abs => first | rfl | k_is)
    (case z_range => first | rfl | k_is)
    (case z_repr => first | rfl | k_is)
    (case aC => first | rfl | k_is)
    (case kC => first | rfl | k_is)
    (case xC => k_exc)
    (case e1 => first | rfl | k_is)
    (case e2 => first | rfl | k_is)
    (case e3 => first | rfl | k_is)
    (case e4 => first | rfl | k_is)
    (case e5 => first | rfl | k_is)
    (case e6 => first | rfl | k_is)
    (case e7 => first | rfl | k_is)
    (case e8 => first | rfl | k_is)
    (case q1 => first | rfl | k_is)
    (case q2 => first | rfl | k_is)
    (case q3 => first | rfl | k_is)
    (case q4 => first | rfl | k_is)
    (case q5 => first | rfl | k_is)
    (case q6 => first | rfl | k_is)
    (case q7 => first | rfl | k_is)
    (case q8 => first | rfl | k_is)
    (case q9 => first | rfl | k_is)
    (case q10 => first | rfl | k_is)
    (case q11 => first | rfl | k_is)
