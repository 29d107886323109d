import PyProof.Rows.All
import Wide.All
import OpenK.AllK
import Wide.FinOn
import PySem.Challenge.RW_askless_k96_runs_read
import HandS.ForMost
import HandS.Flow
import HandS.IsInst
import HandS.ExcValue
import HandS.ExcOwn
import HandS.Wide
import HandS.Steps
import HandS.Codes
import HandS.ExcIs
import PyProof.ReprLen
import HandS.Walk
import HandS.ExcInit
import HandS.ExcField
import KE.KExcIs
import HandS.TupAny
import HandS.Iter
import HandS.Zip
import HandS.Style
import HandS.More
import HandS.WordsDict
import HandS.TryOnly
import HandS.WordsExc
import PyProof.SliceList
import PyProof.SeqWrite
import KE.GoesZip
import KE.GoesMore
import KE.GoesEnum
import KE.KDictZip
import KE.KItemsList
import HandS.Text
import HandS.RaiseMore
import HandS.Deep
set_option Elab.async false
set_option linter.all false
set_option maxRecDepth 100000
/-! GLay: defs that are called where no text of a list is being made (so that repr of a list is told), their rules. -/
namespace GL
open PySem PySem.Spec PyProof.Rows L2

/-- nothing is being shown around -/
abbrev Gd (A : Around) : Prop := A.guards = some []
theorem Gd.deep {A : Around} (g : Gd A) (env : Env) : Gd (A.deeper env) := by
  unfold Gd at *
  simp [Around.deeper, g]

/-- a def's promise, given that nothing is being shown around the call -/
structure FnG (P : Program) (w : World) (K : PySem.W.Frag) (mg : Str → Option Value) (base : Heap)
    (k : Nat) (f : Addr) (fd : FuncData) (ps : List Str) (sp : Sp) : Prop where
  many : ∀ vs H Q E, sp vs H Q E → vs.length = ps.length
  does : ∀ (A : Around) (out : List Env) (s : Shared) (H : Hp) (ar : Args) (us : List Value) (vs : List V) (Q : VK) (E : XK),
    Gd A → Room k A → Env0 P w K mg base A out s H → BindsTo s fd ar (ps.zip us) → Vals vs us →
    sp vs H Q E → codeAny (model P w) A (.call (.ref f) ar) (CR CX0 out P w H s Q E) s
theorem FnG.of {P : Program} {w : World} {K : PySem.W.Frag} {mg : Str → Option Value} {base : Heap} {k : Nat} {f : Addr}
    {fd : FuncData} {ps : List Str} {sp : Sp} (F : FnOk P w K mg base CX0 k f fd ps sp) : FnG P w K mg base k f fd ps sp :=
  ⟨F.len, fun A out s H ar us vs Q E _ hr e b r h => F.run A out s H ar us vs Q E hr e b r h⟩

/-- a def by its body -/
theorem okG {P : Program} {w : World} {K : PySem.W.Frag} {mg : Str → Option Value} {base : Heap} {x qual : Str} {st : Stmt} {f : Addr}
    {fd : FuncData} {N ps : List Str} {k : Nat} {sp : Sp} (F : Fun K x qual st f fd) (S : FnScope N ps (defScope st))
    (many : ∀ vs H Q E, sp vs H Q E → vs.length = ps.length)
    (body : ∀ (cdv : Value) (A : Around) (out : List Env) (s : Shared) (H : Hp) (vs : List V) (Q : VK) (E : XK),
      Gd (A.deeper (envOfC qual (defScope st) s.heap.objs.size f cdv)) →
      Room k (A.deeper (envOfC qual (defScope st) s.heap.objs.size f cdv)) → sp vs H Q E →
      ∃ t, PSs (cxOf CX0 P w K mg base N qual (defScope st) f cdv A out s H E).nox (defBody st) t ∧
        t { nx := fun _ H' => Q .non H', rt := Q } (start N vs) H) :
    FnG P w K mg base (k + 1) f fd ps sp := by
  obtain ⟨oc, od, kV, doc, pm, an, cdv, ct, osl, rfl, lk, hcd⟩ := F.ex
  refine ⟨many, fun A out s H ar us vs Q E hG hr e0 hb r hsp => ?_⟩
  have hlen := many _ _ _ _ hsp
  have inK : K.In s.heap := e0.mod.kin.keeps (fun b o e => (e0.bs b o e).1)
  have lim := (e0.mod.nolimit.keeps (h' := s.heap) (fun b o e => (e0.bs b o e).1))
  have kinds : ∀ y ∈ ps.zip us, (defScope st).names.lookup y.1 = some .local ∨ ((defScope st).names.lookup y.1 = some .cell ∧
      ((cellsFrom (s.heap.objs.size + 1) (defScope st).names []).lookup y.1).isSome = true) := by
    rintro ⟨n, v⟩ hy
    cases S.par n (List.of_mem_zip hy).1 with
    | inl q => exact Or.inl q
    | inr q => exact Or.inr ⟨q, PySem.W.cellsFrom_some _ _ _ (Or.inl q)⟩
  refine codeAny_call_function hr.depth (inK _ _ lk) rfl S.co S.gen rfl
    (PySem.W.codeRec_of inK hcd) (hb _ _ _ _ ?_)
  refine wpAny_newFunctionEnv_cells S.kind kinds (fun env he s1 entered => ?_)
  subst he
  refine ⟨lim.keeps entered.toInCall.keep, codeAny_func ?_⟩
  obtain ⟨t, ht, hq⟩ := body cdv A out s H vs Q E (hG.deep _) (hr.deeper _) hsp
  have I0 := inv_start (E := E) (mg := mg) (P := P) (CX := CX0) S hr.hd e0 hlen r entered
  refine wpAny_mono (ht.nox.run [] s1 (start N vs) H _ I0 hq) (fun fl s' hs => ?_) (fun e s' hs => hs)
  cases fl with
  | next =>
    obtain ⟨σ', H', J, q⟩ := hs
    exact ⟨.non, H', J.os, J.bare, J.base, J.hok, rfl, q⟩
  | ret u =>
    obtain ⟨v, σ', H', J, rv, q⟩ := hs
    exact ⟨v, H', J.os, J.bare, J.base, J.hok, rv, q⟩
  | brk => obtain ⟨_, _, _, q⟩ := hs; exact q.elim
  | cont => obtain ⟨_, _, _, q⟩ := hs; exact q.elim

section
variable {X : Cx} {k : Nat} {f : Addr} {fd : FuncData} {ps : List Str} {sp : Sp} {x : Str} {p pos : Pos} {e : Expr} {es : List Expr} {t : TA}
/-- f(e, ..) where nothing is being shown around -/
theorem pe_callG (F : FnG X.prog X.w X.K X.mg X.base k f fd ps sp) (hG : Gd X.A) (hr : Room k X.A) (hg : Gl X x)
    (hm : X.mg x = some (.ref f)) (hk : PySem.W.keepIn X.K (.ref f) = true) (hb : Binds X.K fd ps [])
    (ha : PA X (e :: es) t) (hdb : (x == ("__debug__" : Str)) = false := by decide)
    (he : starEach (e :: es) X.env = (false, eval e X.env) :: starEach es X.env := by rfl)
    (hpl : (backTo pos (starEach es X.env)).any (·.1) = false := by rfl) :
    PE X (.Call (.Name x p) (e :: es) [] pos) (tCall sp [] E0 t) := by
  constructor
  intro pins s σ H Q I h
  apply wpAny_Call_Name_kw
  apply ld_glob I hg hm ?_ hdb
  apply PySem.W.callWith_K (h₀ := X.base) I.ok.mod.kin hk ?_ he hpl
  apply thn (ha.run pos pins s σ H _ I h)
  rintro us s1 ⟨vs, H1, I1, r, q⟩
  refine ⟨I1.kIn, ?_⟩
  have q' : sp vs H1 Q E0 := by
    have q0 : sp (vs ++ []) H1 Q E0 := q
    rwa [List.append_nil] at q0
  have hl : (us ++ []).length = ps.length := by
    rw [List.append_nil, ← r.length]
    exact F.many _ _ _ _ q'
  have hbd := hb s1 us I1.kIn hl
  rw [List.append_nil] at hbd
  apply wpAny_call
  apply codeAny_mono (F.does X.A X.stack s1 H1 ⟨us, []⟩ us vs Q E0 hG hr I1.env0 hbd r q')
  intro res s' hq
  match res, hq with
  | .ok (.ret u), hq => exact I1.after hq
end

/-- a def of the module that may be called by its name -/
structure Cl (P : Program) (w : World) (K : PySem.W.Frag) (mg : Str → Option Value) (base : Heap) (k : Nat) (x : Str) (sp : Sp) : Prop where
  ex : ∃ (f : Addr) (fd : FuncData) (ps : List Str), FnOk P w K mg base CX0 k f fd ps sp ∧
    mg x = some (.ref f) ∧ PySem.W.keepIn K (.ref f) = true ∧ Binds K fd ps []
structure ClG (P : Program) (w : World) (K : PySem.W.Frag) (mg : Str → Option Value) (base : Heap) (k : Nat) (x : Str) (sp : Sp) : Prop where
  ex : ∃ (f : Addr) (fd : FuncData) (ps : List Str), FnG P w K mg base k f fd ps sp ∧
    mg x = some (.ref f) ∧ PySem.W.keepIn K (.ref f) = true ∧ Binds K fd ps []
section
variable {X : Cx} {j k : Nat} {sp : Sp} {x : Str} {p pos : Pos} {e : Expr} {es : List Expr} {t : TA}
theorem pe_cl (c : Cl X.prog X.w X.K X.mg X.base k x sp) (hr : Room j X.A) (hk : k ≤ j) (hg : Gl X x)
    (ha : PA X (e :: es) t) (hdb : (x == ("__debug__" : Str)) = false := by decide)
    (he : starEach (e :: es) X.env = (false, eval e X.env) :: starEach es X.env := by rfl)
    (hpl : (backTo pos (starEach es X.env)).any (·.1) = false := by rfl) :
    PE X (.Call (.Name x p) (e :: es) [] pos) (tCall sp [] E0 t) := by
  obtain ⟨f, fd, ps, F, hm, kp, b⟩ := c.ex
  exact pe_call F (hr.mono hk) hg hm kp b .nil pass0 ha hdb he hpl
theorem pe_clG (c : ClG X.prog X.w X.K X.mg X.base k x sp) (hG : Gd X.A) (hr : Room j X.A) (hk : k ≤ j) (hg : Gl X x)
    (ha : PA X (e :: es) t) (hdb : (x == ("__debug__" : Str)) = false := by decide)
    (he : starEach (e :: es) X.env = (false, eval e X.env) :: starEach es X.env := by rfl)
    (hpl : (backTo pos (starEach es X.env)).any (·.1) = false := by rfl) :
    PE X (.Call (.Name x p) (e :: es) [] pos) (tCall sp [] E0 t) := by
  obtain ⟨f, fd, ps, F, hm, kp, b⟩ := c.ex
  exact pe_callG F hG (hr.mono hk) hg hm kp b ha hdb he hpl
end

section
variable {X : Cx}
/-- repr of data: none, bools, ints, texts, lists, tuples -/
def rRepr (K : PySem.W.Frag) : List V → Hp → VK → Prop := fun xs H Q => ∃ v d, xs = [v] ∧ Dp K H v d ∧ d.showable = true ∧
  d.hasDict = false ∧ d.depth ≤ 64 ∧ d.shown.length ≤ sizeLine ∧ Q (.str d.shown) H
theorem call_reprD (hG : Gd X.A) (hu : X.A.units + 66 < cLine) : CallR X (.builtin "repr") (rRepr X.K) := by
  intro pins s σ H xs us Q I r h
  obtain ⟨v, d, rfl, hd, hs, hn, hz, hl, q⟩ := h
  obtain ⟨u, rfl, rv⟩ := vals1 r
  obtain ⟨as, rd⟩ := Dp.reads I d v u hd rv
  cases rd with
  | none => exact PySem.P.repr_of_none ⟨.str _, H, I.tok _, ⟨_, rfl⟩, q⟩
  | bool b => exact PySem.P.repr_of_bool ⟨.str _, H, I.tok _, ⟨_, rfl⟩, by cases b <;> exact q⟩
  | int i t => exact PySem.P.repr_of_int (of_decide_eq_true hs) ⟨.str _, H, I.tok _, ⟨_, rfl⟩, q⟩
  | str y t => exact PySem.P.repr_of_str ⟨.str _, H, I.tok _, ⟨_, rfl⟩, q⟩ hl
  | list h1 h2 h3 h4 =>
    exact repr_of_reads' (.list h1 h2 h3 h4) hs (PyData.noDict_hsm hn) hG (by omega) (fun _ _ e => e)
      (fun h' u tk hk => ⟨.str _, H, I.kept hk, ⟨_, rfl⟩, q⟩) hl
  | tuple h1 h2 h3 h4 =>
    exact repr_of_reads' (.tuple h1 h2 h3 h4) hs (PyData.noDict_hsm hn) hG (by omega) (fun _ _ e => e)
      (fun h' u tk hk => ⟨.str _, H, I.kept hk, ⟨_, rfl⟩, q⟩) hl
  | dict h1 h2 h3 h4 h5 => cases hd
end
end GL
set_option Elab.async false
set_option linter.all false
set_option maxRecDepth 100000
/-! GLay2: a few more rules by values, and words about heaps -/
namespace GL
open PySem PySem.Spec PyProof.Rows L2
section
variable {X : Cx}
/-- x op= of a list's item: the item is read -/
theorem get_list : PGet X (fun o i H Q => ∃ p xs k v, o = .ref p ∧ i = .int (k : Nat) ∧ H p = some (.lst xs) ∧ xs[k]? = some v ∧ Q v H) := by
  intro pins s σ H o i ov iv Q I ro ri h
  obtain ⟨p, xs, k, v, rfl, rfl, hp, he, q⟩ := h
  cases ro
  obtain ⟨t, rfl⟩ := ri
  obtain ⟨its, r, pl, hz⟩ := I.list (.inl (.inl hp))
  obtain ⟨w, ew, rw'⟩ := r.get he
  have hk : k < xs.length := (List.getElem?_eq_some_iff.mp he).1
  have h63 := line63
  exact getItem_listL pl.isList (Int.natCast_nonneg k) (by omega) (by simpa using ew) ⟨v, H, I, rw', q⟩
/-- a text a few times -/
theorem op_mul_str : OpR X (binaryOp .Mult) (fun x y H Q => ∃ (z : Str) (n : Int), x = .str z ∧ y = .int n ∧ 0 ≤ n ∧ n ≤ 1000 ∧ z.length ≤ 1000 ∧ Q (.str (Txt.mul z n)) H) := by
  intro pins s σ H x y v u Q I rx ry h
  obtain ⟨z, n, rfl, rfl, h0, h1, hz, q⟩ := h
  obtain ⟨t, rfl⟩ := rx
  obtain ⟨t', rfl⟩ := ry
  have hn : n.toNat ≤ 1000 := by omega
  have hm : z.length * n.toNat ≤ 1000 * 1000 := Nat.mul_le_mul hz hn
  refine SB.mul (n := n) ⟨?_, fun h2 _ => ?_, fun h2 _ => ?_⟩ fun t2 k => ⟨.str (Txt.mul z n), H, I.tok k, ⟨t2, rfl⟩, q⟩
  · rw [decide_eq_false (by omega), decide_eq_false (by omega)]
    rfl
  · have h3 : (2 ^ 63 - 1 : Int) / 1000 ≤ (2 ^ 63 - 1) / n := by
      rcases Int.lt_or_le 0 n with hp | hp
      · rw [Int.le_ediv_iff_mul_le hp]
        have h4 : (2 ^ 63 - 1 : Int) / 1000 * n ≤ (2 ^ 63 - 1 : Int) / 1000 * 1000 := Int.mul_le_mul_of_nonneg_left h1 (by decide)
        have h5 : (2 ^ 63 - 1 : Int) / 1000 * 1000 ≤ 2 ^ 63 - 1 := by decide
        omega
      · omega
    have h6 : (1000 : Int) ≤ (2 ^ 63 - 1 : Int) / 1000 := by decide
    omega
  · have h7 : 1000 * 1000 ≤ sizeLine := by rw [sizeLine_eq]; decide
    unfold Builtin.Str.tooLong
    exact decide_eq_false (by omega)
end

theorem atI_int {α : Type} {xs : List α} {i : Int} {v : α} (h0 : 0 ≤ i) (h : xs[i.toNat]? = some v) : atI xs i = some v := by
  have e := atI_nat h
  rwa [Int.toNat_of_nonneg h0] at e

/-! ### heaps: all but one object stays -/
/-- the heap without b -/
def wo (b : Addr) (H : Hp) : Hp := fun a => if a = b then none else H a
theorem wo_ne {b a : Addr} {H : Hp} (h : a ≠ b) : wo b H a = H a := by unfold wo; rw [if_neg h]
theorem wo_some {b a : Addr} {H : Hp} {o : HO} (h : wo b H a = some o) : a ≠ b ∧ H a = some o := by
  unfold wo at h
  by_cases e : a = b
  · rw [if_pos e] at h; cases h
  · rw [if_neg e] at h; exact ⟨e, h⟩
theorem wo_same {b : Addr} {H : Hp} : Same (wo b H) H := fun _ _ h => (wo_some h).2
/-- all that is tracked in H but b is so in H' -/
def But (b : Addr) (H H' : Hp) : Prop := Same (wo b H) (wo b H')
theorem But.refl {b : Addr} {H : Hp} : But b H H := Same.refl _
theorem But.trans {b : Addr} {H H1 H2 : Hp} (h : But b H H1) (k : But b H1 H2) : But b H H2 := Same.trans h k
theorem But.of {b : Addr} {H H' : Hp} (h : Same H H') : But b H H' := fun a o e => by
  obtain ⟨n, e'⟩ := wo_some e
  rw [wo_ne n]; exact h _ _ e'
theorem But.upd {b : Addr} {H : Hp} {o : HO} : But b H (upd H b o) := fun a u e => by
  obtain ⟨n, e'⟩ := wo_some e
  rw [wo_ne n, upd_ne n]; exact e'
theorem But.new {b p : Addr} {H : Hp} {o : HO} (h : H p = none) : But b H (L2.upd H p o) := But.of fun a u e => by
  rw [upd_ne (ne_of_none e h)]; exact e
theorem But.at {b a : Addr} {H H' : Hp} {o : HO} (h : But b H H') (n : a ≠ b) (e : H a = some o) : H' a = some o := by
  have := h a o (by rw [wo_ne n]; exact e)
  rw [wo_ne n] at this; exact this
theorem same_new {p : Addr} {H : Hp} {o : HO} (h : H p = none) : Same H (upd H p o) := fun a u e => by
  rw [upd_ne (ne_of_none e h)]; exact e
theorem upd_self {a : Addr} {H : Hp} {o : HO} (h : H a = some o) : upd H a o = H := by
  funext b
  by_cases e : b = a
  · rw [e, upd_same, h]
  · rw [upd_ne e]
theorem Same.seqT {K : PySem.W.Frag} {H H' : Hp} {a : Addr} {xs : List V} (e : Same H H') (h : SqT K H a xs) : SqT K H' a xs := by
  rcases h with (h | ⟨o, h⟩) | h
  · exact .inl (.inl (e _ _ h))
  · exact .inl (.inr ⟨o, e _ _ h⟩)
  · exact .inr h
mutual
theorem Dp.same {K : PySem.W.Frag} {H H' : Hp} (e : Same H H') : ∀ {d : PyData} {v : V}, Dp K H v d → Dp K H' v d
  | .none, _, .non => .non
  | .bool _, _, .bl b => .bl b
  | .int _, _, .int i => .int i
  | .str _, _, .str x => .str x
  | .list _, _, .lst h a => .lst (e.seq h) (DpAll.same e a)
  | .tuple _, _, .tup h a => .tup (Same.seqT e h) (DpAll.same e a)
theorem DpAll.same {K : PySem.W.Frag} {H H' : Hp} (e : Same H H') : ∀ {ds : List PyData} {vs : List V}, DpAll K H vs ds → DpAll K H' vs ds
  | [], _, .nil => .nil
  | _ :: _, _, .cons h t => .cons (Dp.same e h) (DpAll.same e t)
end
end GL
set_option Elab.async false
set_option linter.all false
set_option maxRecDepth 100000
/-! GLay3: any values: what a law may be handed -/
namespace GL
open PySem PySem.Spec PyProof.Rows L2

/-- a short text of plain signs -/
def TxOk (x : Str) : Prop := x.length ≤ 10000 ∧ ∀ c ∈ x.cps.toList, c < 128
/-- data whose text may be told -/
structure DOk (d : PyData) : Prop where
  lay : d.canLay0 = true
  short : d.leavesShort 8 = true
  weighs : d.weight ≤ 100000
  deep : d.depth ≤ 60
  shows : d.showable = true
theorem DOk.fits {d : PyData} (h : DOk d) : d.shown.length ≤ sizeLine := by
  have k := PyData.shown_le 8 (by decide) d h.short
  have k2 := h.weighs
  rw [sizeLine_eq]
  omega
theorem DOk.nodict {d : PyData} (h : DOk d) : d.hasDict = false := PyData.hasDict_of_canLay d h.lay
theorem TxOk.size {x : Str} (h : TxOk x) : x.length ≤ sizeLine := by
  have := h.1
  rw [sizeLine_eq]
  omega
theorem TxOk.strOk {x : Str} (h : TxOk x) : PyData.strOk x = true := by
  unfold PyData.strOk
  rw [Array.all_eq_true_iff_forall_mem]
  intro c hc
  have := h.2 c (Array.mem_toList_iff.mpr hc)
  simp
  omega
theorem TxOk.data {x : Str} (h : TxOk x) : DOk (.str x) where
  lay := by simp only [PyData.canLay0]; exact h.strOk
  short := by
    simp only [PyData.leavesShort, List.all_eq_true, decide_eq_true_eq]
    intro c hc
    have := h.2 c hc
    have e : (16 : Nat) ^ 8 = 4294967296 := by decide
    omega
  weighs := by
    have := h.1
    have e : x.length = x.cps.size := rfl
    simp only [PyData.weight]
    omega
  deep := by simp only [PyData.depth]; omega
  shows := by simp only [PyData.showable]

/-- a value that is no exception, in H -/
inductive ThN (K : PySem.W.Frag) (H : Hp) : V → Prop where
  | int (i : Int) (h : i.natAbs < 10 ^ 41) : ThN K H (.int i)
  | str (x : Str) (h : TxOk x) : ThN K H (.str x)
  | bl (b : Bool) : ThN K H (.bl b)
  | non : ThN K H .non
  | lst {a : Addr} {xs : List V} {ds : List PyData} (e : H a = some (.lst xs)) (d : DpAll K H xs ds) (o : DOk (.list ds)) : ThN K H (.ref a)
  | tup {a : Addr} {xs : List V} {ds : List PyData} (e : H a = some (.tup xs)) (d : DpAll K H xs ds) (o : DOk (.tuple ds)) : ThN K H (.ref a)
  | dct {a : Addr} (e : H a = some (.dK [])) : ThN K H (.ref a)
theorem ThN.same {K : PySem.W.Frag} {H H' : Hp} {v : V} (t : ThN K H v) (e : Same H H') : ThN K H' v := by
  cases t with
  | int i h => exact .int i h
  | str x h => exact .str x h
  | bl b => exact .bl b
  | non => exact .non
  | lst h d o => exact .lst (e _ _ h) (DpAll.same e d) o
  | tup h d o => exact .tup (e _ _ h) (DpAll.same e d) o
  | dct h => exact .dct (e _ _ h)
/-- an exception of the class C -/
def ThE (C : Addr) (H : Hp) (v : V) : Prop := ∃ a, v = .ref a ∧ H a = some (ExO (.ref C) a)
def Th (K : PySem.W.Frag) (C : Addr) (H : Hp) (v : V) : Prop := ThN K H v ∨ ThE C H v
theorem Th.same {K : PySem.W.Frag} {C : Addr} {H H' : Hp} {v : V} (t : Th K C H v) (e : Same H H') : Th K C H' v := by
  rcases t with t | ⟨a, rfl, h⟩
  · exact .inl (t.same e)
  · exact .inr ⟨a, rfl, e _ _ h⟩

/-- isinstance of a built-in class that no reference is of -/
inductive Ty3 where
  | i | b | s
def Ty3.name : Ty3 → String
  | .i => "int"
  | .b => "bool"
  | .s => "str"
def isB : Ty3 → V → Bool
  | .i, .int _ => true
  | .i, .bl _ => true
  | .b, .bl _ => true
  | .s, .str _ => true
  | _, _ => false
section
variable {X : Cx}
theorem isi_run {pins : List (Addr × Obj)} {σ : L2.St} {H : Hp} {s : Shared} {v : V} {u : Value} {T : String} {b : Bool} {Q : VK} (t : Value) (I : Inv X pins σ H s) (rx : RelV v u)
    (ty : TyX X.K H v t) (e : PySem.W.kitOne X.K t (.type T) = some b) (q : Q (.bl b) H) :
    wpAny (model X.prog X.w) X.A (call (.builtin "isinstance") [u, .type T]) (EP X pins σ Q) X.xe s := by
  obtain ⟨Z, k, p, hx⟩ := kit_of I rx ty
  exact PySem.W.kia_one k I.kIn p e hx fun tk => ⟨.bl b, H, I.tok tk, rfl, q⟩
theorem exc_inst {pins : List (Addr × Obj)} {σ : L2.St} {H : Hp} {s : Shared} {C a : Addr} (I : Inv X pins σ H s) (h : H a = some (ExO (.ref C) a)) :
    ∃ oe, PySem.W.InstAt s.heap a oe C none := by
  obtain ⟨⟨oe, vs, ho, hz, hd, _⟩, _, _⟩ := I.hok a _ h
  obtain ⟨oc, od, oda, osl⟩ := oe
  obtain ⟨h1, h2⟩ := hz
  dsimp only at h1 h2 hd
  subst h1 h2 hd
  exact ⟨_, ho, rfl, rfl, trivial⟩
/-- the answers for the exceptions of the class C -/
structure ExcK (K : PySem.W.Frag) (C : Addr) : Prop where
  c : ExcC K C
  i : PySem.W.kitOne K (.ref C) (.type "int") = some false
  b : PySem.W.kitOne K (.ref C) (.type "bool") = some false
  s : PySem.W.kitOne K (.ref C) (.type "str") = some false
  own : PySem.W.kitOne K (.ref C) (.ref C) = some true
  int : PySem.W.kitOne K (.type "int") (.ref C) = some false
  bool : PySem.W.kitOne K (.type "bool") (.ref C) = some false
  str : PySem.W.kitOne K (.type "str") (.ref C) = some false
  non : PySem.W.kitOne K (.type "NoneType") (.ref C) = some false
  lst : PySem.W.kitOne K (.type "list") (.ref C) = some false
  tup : PySem.W.kitOne K (.type "tuple") (.ref C) = some false
  dct : PySem.W.kitOne K (.type "dict") (.ref C) = some false
theorem isi_exc {pins : List (Addr × Obj)} {σ : L2.St} {H : Hp} {s : Shared} {C a : Addr} {c : Value} {b : Bool} {Q : VK} (E : ExcC X.K C) (I : Inv X pins σ H s) (h : H a = some (ExO (.ref C) a))
    (e : PySem.W.kitOne X.K (.ref C) c = some b) (q : Q (.bl b) H) :
    wpAny (model X.prog X.w) X.A (call (.builtin "isinstance") [.ref a, c]) (EP X pins σ Q) X.xe s := by
  obtain ⟨oe, J⟩ := exc_inst I h
  exact PySem.W.kia_one (PySem.W.handS_kitx_exc E.hg E.hk E.hs E.hd E.ha E.hn E.ht E.hm) I.kIn J e (fun z => nomatch z)
    fun tk => ⟨.bl b, H, I.tok tk, rfl, q⟩
theorem call_isiTh {C : Addr} (EK : ExcK X.K C) : CallR X (.builtin "isinstance") (fun xs H Q => ∃ v T, xs = [v, .ty T.name] ∧ Th X.K C H v ∧ Q (.bl (isB T v)) H) := by
  intro pins s σ H xs us Q I r h
  obtain ⟨v, T, rfl, t, q⟩ := h
  obtain ⟨u, u2, rfl, rv, r2⟩ := vals2 r
  cases (show u2 = Value.type T.name from r2)
  have go : ∀ (t : String) (b : Bool), TyX X.K H v (.type t) → kitB t T.name = some b → isB T v = b →
      wpAny (model X.prog X.w) X.A (call (.builtin "isinstance") [u, .type T.name]) (EP X pins σ Q) X.xe s :=
    fun t b ty e eb => isi_run _ I rv ty (kit_ty e) (eb ▸ q)
  rcases t with t | ⟨a, rfl, h⟩
  · cases t with
    | int i h =>
      cases T
      · exact go "int" true (.base (.int i)) (by decide +kernel) rfl
      · exact go "int" false (.base (.int i)) (by decide +kernel) rfl
      · exact go "int" false (.base (.int i)) (by decide +kernel) rfl
    | str x h =>
      cases T
      · exact go "str" false (.base (.str x)) (by decide +kernel) rfl
      · exact go "str" false (.base (.str x)) (by decide +kernel) rfl
      · exact go "str" true (.base (.str x)) (by decide +kernel) rfl
    | bl b =>
      cases T
      · exact go "bool" true (.base (.bl b)) (by decide +kernel) rfl
      · exact go "bool" true (.base (.bl b)) (by decide +kernel) rfl
      · exact go "bool" false (.base (.bl b)) (by decide +kernel) rfl
    | non => cases T <;> exact go "NoneType" false (.base .non) (by decide +kernel) rfl
    | lst e d o => cases T <;> exact go "list" false (.base (.lst e)) (by decide +kernel) rfl
    | tup e d o => cases T <;> exact go "tuple" false (.base (.tup e)) (by decide +kernel) rfl
    | dct e => cases T <;> exact go "dict" false (.base (.dK e)) (by decide +kernel) rfl
  · cases (show u = Value.ref a from rv)
    cases T
    · exact isi_exc EK.c I h EK.i q
    · exact isi_exc EK.c I h EK.b q
    · exact isi_exc EK.c I h EK.s q
/-- isinstance(x, C), C the class of exceptions -/
theorem call_isiC {C : Addr} (EK : ExcK X.K C) : CallR X (.builtin "isinstance") (fun xs H Q => ∃ v, xs = [v, .ref C] ∧ ((ThN X.K H v ∧ Q (.bl false) H) ∨ (ThE C H v ∧ Q (.bl true) H))) := by
  intro pins s σ H xs us Q I r h
  obtain ⟨v, rfl, h⟩ := h
  obtain ⟨u, u2, rfl, rv, r2⟩ := vals2 r
  cases (show u2 = Value.ref C from r2)
  have go : ∀ {t : Value}, TyX X.K H v t → PySem.W.kitOne X.K t (.ref C) = some false → Q (.bl false) H →
      wpAny (model X.prog X.w) X.A (call (.builtin "isinstance") [u, .ref C]) (EP X pins σ Q) X.xe s := by
    intro t ty e q
    obtain ⟨Z, k, p, hx⟩ := kit_of I rv ty
    exact PySem.W.kia_one k I.kIn p e hx fun tk => ⟨.bl false, H, I.tok tk, rfl, q⟩
  rcases h with ⟨t, q⟩ | ⟨⟨a, rfl, h⟩, q⟩
  · cases t with
    | int i h => exact go (.base (.int i)) EK.int q
    | str x h => exact go (.base (.str x)) EK.str q
    | bl b => exact go (.base (.bl b)) EK.bool q
    | non => exact go (.base .non) EK.non q
    | lst e d o => exact go (.base (.lst e)) EK.lst q
    | tup e d o => exact go (.base (.tup e)) EK.tup q
    | dct e => exact go (.base (.dK e)) EK.dct q
  · cases (show u = Value.ref a from rv)
    exact isi_exc EK.c I h EK.own q

/-- the data that v is in H -/
inductive Is (K : PySem.W.Frag) (H : Hp) : V → PyData → Prop where
  | dp {v : V} {d : PyData} (h : Dp K H v d) (o : d.hasDict = false) (s : d.showable = true) (z : d.depth ≤ 60) (l : d.shown.length ≤ sizeLine) : Is K H v d
  | dct {a : Addr} (h : H a = some (.dK [])) : Is K H (.ref a) (.dict [])
theorem ThN.is {K : PySem.W.Frag} {H : Hp} {v : V} (t : ThN K H v) : ∃ d, Is K H v d := by
  cases t with
  | int i h =>
    refine ⟨_, .dp (.int i) rfl (decide_eq_true ?_) (by simp only [PyData.depth]; omega) ?_⟩
    · exact PySem.Flt.log2_lt_of (by decide) (Nat.lt_trans h (by decide))
    · have e := int_text_length_le10 (k := 41) (by decide) h
      show (Str.ofString (toString i)).length ≤ sizeLine
      rw [PyProof.Rows.ofString_length, sizeLine_eq]
      have e2 : (toString i).toList.length ≤ 42 := e
      omega
  | str x h => exact ⟨_, .dp (.str x) rfl rfl (by simp only [PyData.depth]; omega) h.data.fits⟩
  | bl b => exact ⟨_, .dp (.bl b) rfl rfl (by simp only [PyData.depth]; omega) (by rw [sizeLine_eq]; cases b <;> decide)⟩
  | non => exact ⟨_, .dp .non rfl rfl (by simp only [PyData.depth]; omega) (by rw [sizeLine_eq]; decide)⟩
  | lst e d o => exact ⟨_, .dp (.lst (.inl (.inl e)) d) o.nodict o.shows o.deep o.fits⟩
  | tup e d o => exact ⟨_, .dp (.tup (.inl (.inl e)) d) o.nodict o.shows o.deep o.fits⟩
  | dct e => exact ⟨_, .dct e⟩
theorem Is.same {K : PySem.W.Frag} {H H' : Hp} {v : V} {d : PyData} (t : Is K H v d) (e : Same H H') : Is K H' v d := by
  cases t with
  | dp h o s z l => exact .dp (Dp.same e h) o s z l
  | dct h => exact .dct (e _ _ h)
theorem call_reprQ (hG : Gd X.A) (hu : X.A.units + 66 < cLine) : CallR X (.builtin "repr") (fun xs H Q => ∃ v d, xs = [v] ∧ Is X.K H v d ∧ Q (.str d.shown) H) := by
  intro pins s σ H xs us Q I r h
  obtain ⟨v, d, rfl, hd, q⟩ := h
  cases hd with
  | dp h o sh z l => exact call_reprD hG hu pins s σ H [v] us Q I r ⟨v, d, rfl, h, sh, o, by omega, l, q⟩
  | @dct a h =>
    obtain ⟨u, rfl, rv⟩ := vals1 r
    cases (show u = Value.ref a from rv)
    obtain ⟨_, hsm, vs, kv, ob, es, ep, h1, h2, h3, h4⟩ := (show ObjOk X.prog X.w H s.heap a (.dK []) from I.hok a _ h)
    have e0 : vs = [] := by
      cases kv
      rfl
    subst e0
    have e1 : es.toList = [] := by
      obtain ⟨l, el⟩ : ∃ l, es.toList = l := ⟨_, rfl⟩
      have p := h4.2.1
      rw [el] at p
      cases p
      exact el
    obtain ⟨as, bs, hr⟩ : ∃ as bs, Reads s.heap (.ref a) (.dict []) (a :: as ++ bs) ∧ as = [] ∧ bs = [] :=
      ⟨[], [], .dict h1 h2.1 h3 (by rw [e1]; exact .nil) (by rw [e1]; exact .nil), rfl, rfl⟩
    obtain ⟨rd, rfl, rfl⟩ := hr
    refine repr_of_reads' rd rfl (fun _ hm => ?_) hG (by simp only [PyData.depth, PyData.depthKv]; omega) (fun _ _ e => e)
      (fun h' u tk hk => ⟨.str _, H, I.kept hk, ⟨_, rfl⟩, q⟩) (by rw [sizeLine_eq]; decide +kernel)
    rcases List.mem_cons.mp hm with e | e
    · rw [← e] at hsm
      simp at hsm
    · cases e
end
end GL
set_option Elab.async false
set_option linter.all false
set_option maxRecDepth 100000
/-! GLay4: comprehensions that change nothing -/
namespace GL
open PySem PySem.Spec PyProof.Rows L2
theorem lc_pure {α : Type} {J : It} {G : Hp → Prop} {Y : Nat → Hp → V → Hp → Prop} {as : List α} {emb : α → V} (w : Walk J as.length G Y)
    (hY : ∀ i H x H', Y i H x H' → H' = H ∧ ∃ a, as[i]? = some a ∧ x = emb a)
    {g : TG} {tt : TT} {te : TE} {vs : List Nat} {σ : L2.St} {H1 : Hp} {D : Addr} {Qd : Hp → Prop} (hG : ∀ l, G (upd H1 D (.lst l))) (hn : as.length < sizeLine) (p : α → Bool) (f : α → V)
    (hs : ∀ a, a ∈ as → ∀ (l : List V) (R : VK) (S : Hp → Prop), (p a = true → R (f a) (upd H1 D (.lst l))) → (p a = false → S (upd H1 D (.lst l))) →
      g (emb a) (wipe σ vs) (upd H1 D (.lst l)) fun σ2 H2 => wipe σ2 vs = wipe σ vs ∧ tt σ2 H2 fun b H3 => if b = true then te σ2 H3 R else S H3)
    (hd : Qd (upd H1 D (.lst ((as.filter p).map f)))) :
    ∃ W : Nat → Nat → Hp → Prop, (∃ m, W 0 m (upd H1 D (.lst []))) ∧ ∀ i m H, W i m H →
      (J.stop i H ∧ Qd H) ∨ (J.go i H ∧ ∃ Nx : Hp → Prop, (∀ H', Nx H' → ∃ m', m' < m ∧ W (i + 1) m' H') ∧ ∀ x H', J.yld i H x H' → g x (wipe σ vs) H' fun σ2 H2 => wipe σ2 vs = wipe σ vs ∧ tt σ2 H2 fun b H3 =>
        if b = true then te σ2 H3 fun y H4 => ∃ acc, H4 D = some (.lst acc) ∧ acc.length < sizeLine ∧ Nx (upd H4 D (.lst (acc ++ [y]))) else Nx H3) := by
  refine lc_it w (fun i H => H = upd H1 D (.lst (((as.take i).filter p).map f))) rfl (fun i H _ h => by subst h; exact hG _) (fun i x H H' hi h y => ?_) (fun H h => ?_)
  · subst h
    obtain ⟨rfl, a, ha, rfl⟩ := hY _ _ _ _ y
    have hm : a ∈ as := List.mem_of_getElem? ha
    have et : as.take (i + 1) = as.take i ++ [a] := by rw [List.take_add_one, ha]; rfl
    refine hs a hm _ _ _ (fun hp => ?_) (fun hp => ?_)
    · refine ⟨_, upd_same, ?_, ?_⟩
      · rw [List.length_map]
        exact Nat.lt_of_le_of_lt (Nat.le_trans (List.length_filter_le _ _) (List.length_take_le _ _)) (Nat.lt_of_le_of_lt (Nat.le_of_lt hi) hn)
      · rw [upd_upd, et, List.filter_append, List.map_append]
        simp [hp]
    · rw [et, List.filter_append, List.map_append]
      simp [hp]
  · rw [List.take_length] at h
    subst h
    exact hd
theorem walk_signs {z : Str} : Walk (Its z) z.cps.toList.length (fun _ => True) (fun i H v H' => H' = H ∧ ∃ c, z.cps[i]? = some c ∧ v = .str ⟨#[c]⟩) := by
  have h : z.cps.toList.length = z.cps.size := by simp
  rw [h]
  exact walk_str
theorem signs_y {z : Str} (i : Nat) (H : Hp) (x : V) (H' : Hp) (h : H' = H ∧ ∃ c, z.cps[i]? = some c ∧ x = .str ⟨#[c]⟩) : H' = H ∧ ∃ c, z.cps.toList[i]? = some c ∧ x = (fun c => V.str ⟨#[c]⟩) c := by
  obtain ⟨e, c, h1, h2⟩ := h
  exact ⟨e, c, by simpa using h1, h2⟩
theorem list_y {xs : List V} (i : Nat) (H : Hp) (x : V) (H' : Hp) (h : YAt xs i H x H') : H' = H ∧ ∃ c, xs[i]? = some c ∧ x = id c := ⟨h.1, x, h.2, rfl⟩
theorem Dp.strs {K : PySem.W.Frag} {H : Hp} : ∀ cs : List Str, DpAll K H (cs.map V.str) (cs.map PyData.str)
  | [] => .nil
  | c :: r => .cons (.str c) (Dp.strs r)
theorem Dp.bools {K : PySem.W.Frag} {H : Hp} : ∀ cs : List Bool, DpAll K H (cs.map V.bl) (cs.map PyData.bool)
  | [] => .nil
  | c :: r => .cons (.bl c) (Dp.bools r)
section
variable {X : Cx} {p : Pos}
theorem pe_tInt (hm : X.mg "int" = none) (hg : Gl X "int" := by rfl) : PE X (.Name "int" p) (tC (.ty Ty3.i.name)) :=
  pe_bltn (u := .type "int") hg hm (by decide +kernel) (show RelV (.ty "int") (.type "int") from rfl)
theorem pe_tBool (hm : X.mg "bool" = none) (hg : Gl X "bool" := by rfl) : PE X (.Name "bool" p) (tC (.ty Ty3.b.name)) :=
  pe_bltn (u := .type "bool") hg hm (by decide +kernel) (show RelV (.ty "bool") (.type "bool") from rfl)
theorem pe_tStr (hm : X.mg "str" = none) (hg : Gl X "str" := by rfl) : PE X (.Name "str" p) (tC (.ty Ty3.s.name)) :=
  pe_bltn (u := .type "str") hg hm (by decide +kernel) (show RelV (.ty "str") (.type "str") from rfl)
end
end GL
set_option Elab.async false
set_option linter.all false
set_option maxRecDepth 100000
/-! GLay5: texts of plain signs, by their greatest length -/
namespace GL
open PySem PySem.Spec PyProof.Rows L2
/-- what is new in H' -/
def fr (H H' : Hp) : Hp := fun a => match H a with
  | none => H' a
  | some _ => none
theorem fr_at {H H' : Hp} {a : Addr} {o : HO} (h : H a = none) (k : H' a = some o) : fr H H' a = some o := by
  unfold fr
  rw [h]
  exact k
theorem fr_some {H H' : Hp} {a : Addr} {o : HO} (h : fr H H' a = some o) : H a = none ∧ H' a = some o := by
  unfold fr at h
  cases e : H a with
  | none => rw [e] at h; exact ⟨rfl, h⟩
  | some u => rw [e] at h; cases h
theorem fr_same {H H' : Hp} : Same (fr H H') H' := fun _ _ h => (fr_some h).2
theorem fr_but {b : Addr} {H0 H H' : Hp} (hb : H0 b ≠ none) (h : But b H H') : Same (fr H0 H) (fr H0 H') := fun a o e => by
  obtain ⟨e1, e2⟩ := fr_some e
  have n : a ≠ b := fun z => hb (z ▸ e1)
  exact fr_at e1 (h.at n e2)
theorem fr_grow {H0 H H' : Hp} (h : Same H H') : Same (fr H0 H) (fr H0 H') := fun a o e => by
  obtain ⟨e1, e2⟩ := fr_some e
  exact fr_at e1 (h _ _ e2)
theorem fr_less {H0 H H' : Hp} (h : ∀ a, H a = none → H0 a = none) : Same (fr H H') (fr H0 H') := fun a o e => by
  obtain ⟨e1, e2⟩ := fr_some e
  exact fr_at (h a e1) e2
theorem But.none_back {b a : Addr} {H H' : Hp} (h : But b H H') (n : a ≠ b) (e : H' a = none) : H a = none := by
  cases k : H a with
  | none => rfl
  | some o =>
    have := h.at n k
    rw [e] at this
    cases this
theorem Same.none_back {a : Addr} {H H' : Hp} (h : Same H H') (e : H' a = none) : H a = none := by
  cases k : H a with
  | none => rfl
  | some o =>
    have := h _ _ k
    rw [e] at this
    cases this
/-- at most n signs, all plain -/
def TxB (n : Nat) (x : Str) : Prop := x.length ≤ n ∧ ∀ c ∈ x.cps.toList, c < 128
theorem TxB.ok {n : Nat} {x : Str} (h : TxB n x) (hn : n ≤ 10000) : TxOk x := ⟨Nat.le_trans h.1 hn, h.2⟩
theorem TxB.mono {n m : Nat} {x : Str} (h : TxB n x) (hn : n ≤ m) : TxB m x := ⟨Nat.le_trans h.1 hn, h.2⟩
theorem TxB.size {n : Nat} {x : Str} (h : TxB n x) (hn : n ≤ 10000) : x.length ≤ sizeLine := (h.ok hn).size
theorem TxB.add {n m : Nat} {x y : Str} (h : TxB n x) (k : TxB m y) : TxB (n + m) (x ++ y) := by
  refine ⟨?_, fun c hc => ?_⟩
  · rw [Str.length_append]
    have := h.1
    have := k.1
    omega
  · have e : (x ++ y).cps.toList = x.cps.toList ++ y.cps.toList := by
      show (x.cps ++ y.cps).toList = _
      rw [Array.toList_append]
    rw [e] at hc
    rcases List.mem_append.mp hc with z | z
    · exact h.2 c z
    · exact k.2 c z
theorem TxB.cut {n : Nat} {x : Str} (h : TxB n x) (lo hi : Option Int) : TxB n (cutS x lo hi) := by
  refine ⟨Nat.le_trans (cutS_length x lo hi) h.1, fun c hc => h.2 c ?_⟩
  have hc' : c ∈ ((x.cps.toList.drop (HT.sIx x.length 0 lo)).take (HT.sIx x.length x.length hi - HT.sIx x.length 0 lo)) := by simpa [cutS] using hc
  exact List.mem_of_mem_drop (List.mem_of_mem_take hc')
theorem TxB.one {c : Nat} (h : c < 128) : TxB 1 ⟨#[c]⟩ := ⟨Nat.le_refl _, fun d hd => by
  have e : d = c := by simpa using hd
  rw [e]
  exact h⟩
theorem TxB.at {n : Nat} {x : Str} (h : TxB n x) {i : Int} {c : Nat} (e : atI x.cps.toList i = some c) : TxB 1 ⟨#[c]⟩ := by
  refine .one (h.2 c ?_)
  unfold atI at e
  cases k : ixN x.cps.toList.length i with
  | none => rw [k] at e; cases e
  | some j =>
    rw [k] at e
    exact List.mem_of_getElem? e
theorem reps_len (x : Array Nat) : ∀ (k : Nat) (acc : Array Nat), ((List.replicate k x).foldl (· ++ ·) acc).size = acc.size + k * x.size
  | 0, acc => by simp
  | k + 1, acc => by
    rw [List.replicate_succ, List.foldl_cons, reps_len x k, Array.size_append, Nat.succ_mul]
    omega
theorem reps_mem (x : Array Nat) : ∀ (k : Nat) (acc : Array Nat) (c : Nat), c ∈ ((List.replicate k x).foldl (· ++ ·) acc).toList → c ∈ acc.toList ∨ c ∈ x.toList
  | 0, acc, c, h => .inl h
  | k + 1, acc, c, h => by
    rw [List.replicate_succ, List.foldl_cons] at h
    rcases reps_mem x k (acc ++ x) c h with z | z
    · rw [Array.toList_append] at z
      exact List.mem_append.mp z
    · exact .inr z
theorem TxB.mul {n m : Nat} {x : Str} (h : TxB n x) {k : Int} (hk : k ≤ m) (hm : 1 ≤ m) : TxB (n * m) (Txt.mul x k) := by
  have h1 := h.1
  unfold Txt.mul
  by_cases k1 : k < 1
  · rw [if_pos k1]
    exact ⟨Nat.zero_le _, fun c hc => nomatch hc⟩
  · rw [if_neg k1]
    by_cases k2 : (k == 1 || x.length == 0) = true
    · rw [if_pos k2]
      exact h.mono (Nat.le_mul_of_pos_right _ hm)
    · rw [if_neg k2]
      refine ⟨?_, fun c hc => ?_⟩
      · show ((List.replicate k.toNat x.cps).foldl (· ++ ·) #[]).size ≤ n * m
        rw [reps_len]
        have e : x.cps.size ≤ n := h1
        have e2 : k.toNat * x.cps.size ≤ m * n := Nat.mul_le_mul (by omega) e
        rw [Nat.mul_comm m n] at e2
        simpa using e2
      · rcases reps_mem x.cps k.toNat #[] c hc with z | z
        · cases z
        · exact h.2 c z
theorem TxB.glue {n : Nat} : ∀ {ys : List Str}, (∀ y ∈ ys, TxB n y) → TxB (n * ys.length) (Txt.join Str.empty ys)
  | [], _ => by
    show TxB _ (Builtin.Str.glued Str.empty [])
    rw [StrLaws.glued_eq_join]
    exact ⟨Nat.zero_le _, fun c hc => nomatch hc⟩
  | [y], h => by
    show TxB _ (Builtin.Str.glued Str.empty [y])
    rw [StrLaws.glued_eq_join]
    exact (h y List.mem_cons_self).mono (by simp)
  | y :: z :: r, h => by
    have k := TxB.glue (ys := z :: r) fun u hu => h u (List.mem_cons_of_mem _ hu)
    have k' : TxB (n * (z :: r).length) (Str.join Str.empty (z :: r)) := by
      have e : Txt.join Str.empty (z :: r) = Str.join Str.empty (z :: r) := StrLaws.glued_eq_join _ _
      rw [← e]
      exact k
    show TxB _ (Builtin.Str.glued Str.empty (y :: z :: r))
    rw [StrLaws.glued_eq_join]
    show TxB _ (y ++ Str.empty ++ Str.join Str.empty (z :: r))
    have e0 : TxB 0 Str.empty := ⟨Nat.le_refl _, fun c hc => nomatch hc⟩
    refine (((h y List.mem_cons_self).add e0).add k').mono ?_
    rw [List.length_cons (a := y), Nat.mul_succ]
    omega
end GL
set_option Elab.async false
set_option linter.all false
set_option maxRecDepth 100000
/-! GLay6: the end of a law whose def is promised where nothing is being shown -/
namespace GL
open PySem PySem.Spec PyProof.Rows L2
/-- the law called by nobody but the claim: from its promise -/
theorem law_callG {P : Program} {w : World} {K : PySem.W.Frag} {mg mb : Str → Option Value} {k : Nat} {fa a : Addr} {fd : FuncData} {x : Str} {sp : Sp} {s1 : Shared} {vs : List Value} {ns : List Int}
    (inK : K.In s1.heap) (gl : s1.heap.Ns mainGlobals mg) (bl : s1.heap.Ns builtinsNs mb) (bb : ∀ x : Str, x ≠ "__name__" → mb x = bootBuiltins x) (lim : s1.heap.NoLimit) (gens : s1.gens = #[])
    (ha : s1.heap.get? a = some { cls := .type "list", data := .seq vs.toArray }) (hin : IntsAre vs ns) (short : ns.length ≤ sizeLine) (room : Room k callerA)
    (F : ∀ base : Heap, K.In base → base.Ns mainGlobals mg → FnG P w K mg base k fa fd [x] sp) (binds : ∀ (s : Shared) (u : Value), BindsTo s fd ⟨[u], []⟩ [(x, u)])
    (says : ∀ H : Hp, Only H → SqL K H a (ns.map V.int) → sp [.ref a] H (fun v _ => v = .bl true) (fun _ _ _ => False)) :
    codeAny (model P w) callerA (.call (.ref fa) ⟨[.ref a], []⟩)
      (fun r s' => r = .ok (.ret (.bool true)) ∧ OldK s1.heap s'.heap ∧ s'.os = s1.os ∧ AllBare s'.gens) s1 := by
  have rv := vals_ints hin
  have nv := hin.length
  have main : ∀ H : Hp, Only H → SqL K H a (ns.map V.int) → HOk P w H s1.heap → (∀ b, H b ≠ none → b = a) → (H a ≠ none → K.lookup a = none) →
      codeAny (model P w) callerA (.call (.ref fa) ⟨[.ref a], []⟩)
        (fun r s' => r = .ok (.ret (.bool true)) ∧ OldK s1.heap s'.heap ∧ s'.os = s1.os ∧ AllBare s'.gens) s1 := by
    intro H only hS ok atA notK
    have keep : ∀ {b : Addr} {o : Obj}, s1.heap.get? b = some o → H b = none → (hidT s1.heap H).get? b = some o := fun e n => hidT_get e n
    have untracked : ∀ {b : Addr} {o : Obj} {es : Array DictEntry} {ep : Nat}, s1.heap.get? b = some o → o.data = .dict es ep → H b = none := by
      intro b o es ep e d
      cases q : H b with
      | none => rfl
      | some u =>
        obtain rfl : b = a := atA b (by simp [q])
        cases ha.symm.trans e
        cases d
    have nsp : ∀ {b : Addr} {m : Str → Option Value}, s1.heap.Ns b m → (hidT s1.heap H).Ns b m := by
      rintro b m ⟨o, es, ep, e, d, r⟩
      exact ⟨o, es, ep, keep e (untracked e d), d, r⟩
    have inB : K.In (hidT s1.heap H) := by
      intro b o e
      refine keep (inK b o e) ?_
      cases q : H b with
      | none => rfl
      | some u =>
        obtain rfl : b = a := atA b (by simp [q])
        have z := notK (by simp [q])
        rw [z] at e
        cases e
    have mod : Mod K mg (hidT s1.heap H) := ⟨inB, nsp gl, ⟨mb, nsp bl, bb⟩, by obtain ⟨mc, h1, h2⟩ := lim; exact ⟨mc, nsp h1, h2⟩⟩
    have e0 : Env0 P w K mg (hidT s1.heap H) callerA [] s1 H :=
      ⟨rfl, mod, fun b o e => of_hidT e, by rw [hidT_size]; exact Nat.le_refl _, trivial, fun b hb => (by cases hb), ok, .of_eq gens⟩
    have run := (F _ inB (nsp gl)).does callerA [] s1 H ⟨[.ref a], []⟩ [.ref a] [.ref a] _ _ rfl room e0 (binds s1 (.ref a)) (.cons rfl .nil) (says H only hS)
    refine codeAny_mono run fun r s' h => ?_
    match r, h with
    | .ok (.ret u), ⟨v, H', os, bare, un, ok', r', q⟩ =>
      obtain rfl : v = .bl true := q
      obtain rfl : u = Value.bool true := r'
      refine ⟨rfl, OldK.of_keep (fun b o e => ?_), os, bare⟩
      cases q : H b with
      | none => exact un.keep b o e q (fun z => by cases z) (fun z => by cases z)
      | some u =>
        rcases only b with z | ⟨ob, xs, z⟩
        · rw [q] at z; cases z
        · obtain ⟨e1, _⟩ := ok b _ z
          obtain ⟨e2, _⟩ := ok' b _ (un.frzs b ob _ z)
          cases e.symm.trans e1
          exact e2
  cases hk : K.lookup a with
  | some o =>
    cases ha.symm.trans (inK a o hk)
    refine main (fun _ => none) (fun _ => Or.inl rfl) (Or.inr ⟨_, vs.toArray, _, hk, rfl, rfl, rfl, ?_, by simpa using rv⟩)
      (fun b u z => (by cases z)) (fun b z => absurd rfl z) (fun z => absurd rfl z)
    rw [List.size_toArray, nv]
    exact short
  | none =>
    let frozen : HO := .frz { cls := .type "list", data := .seq vs.toArray } (.lst (ns.map V.int))
    refine main (fun b => if b = a then some frozen else none) (fun b => ?_) (Or.inl (Or.inr ⟨_, if_pos rfl⟩)) (fun b u z => ?_) (fun b z => ?_) (fun _ => hk)
    · by_cases e : b = a
      · exact Or.inr ⟨_, _, if_pos e⟩
      · exact Or.inl (if_neg e)
    · by_cases e : b = a
      · have zz : some frozen = some u := (if_pos e).symm.trans z
        cases zz
        subst e
        exact ⟨ha, by rw [List.length_map]; exact short, vs, _, rv, ha⟩
      · cases (if_neg e).symm.trans z
    · by_cases e : b = a
      · exact e
      · exact absurd (if_neg e) z
theorem walkG {l : PySem.W.OpenLaw} {n k : Nat} {q : Program} {loose : List Str} {XP : (Str → Option Value) → Heap → Prop} {YP : World → Heap → Prop} {d : DefRec} {K : Params → PySem.W.Frag} {sp : World → Sp} {x : Str}
    (hn : l.most = some n) (hn2 : n ≤ sizeLine) (hdf : d.params.defaults = []) (room : Room k callerA)
    (hY : ∀ (w : World) (h : Heap), YP w h → (K w.params).In h)
    (F : ∀ (w : World) (mg : Str → Option Value) (fa : Addr) (h : Heap), (K w.params).In h → h.Ns mainGlobals mg → mg d.name = some (.ref fa) →
      ∃ fd : FuncData, (∀ (s : Shared) (u : Value), BindsTo s fd ⟨[u], []⟩ [(x, u)]) ∧
        ∀ base : Heap, (K w.params).In base → base.Ns mainGlobals mg → FnG l.prog w (K w.params) mg base k fa fd [x] (sp w))
    (says : ∀ (w : World) (H : Hp) (a : Addr) (ns : List Int), ns.length ≤ n → Only H → SqL (K w.params) H a (ns.map V.int) → sp w [.ref a] H (fun v _ => v = .bl true) (fun _ _ _ => False)) :
    PySem.W.WalkO q loose XP YP l.row.toRowW d [] (fun f vs => PySem.call f vs) := by
  refine Att.attach_call hn hdf ?_
  intro w s0 s1 mg mb fa o pm cd doc a vs ns G Y ho hd hcd hmg hobj hints hlen hg
  have inK := hY w _ Y
  obtain ⟨fd, hb, hF⟩ := F w mg fa _ inK G.T.g hmg
  exact law_callG inK G.T.g G.T.b G.T.builtins G.T.nolimit hg hobj hints (Nat.le_trans hlen hn2) room hF hb (fun H hO hS => says w H a ns hlen hO hS)
end GL
set_option Elab.async false
set_option linter.all false
set_option maxRecDepth 100000
set_option maxHeartbeats 2000000
/-! GLay7: exceptions of own classes with their own __init__, as values -/
namespace GL
open PySem PySem.Spec PyProof.Rows L2
/-- at a an exception of the class at C with such fields -/
def Err (H : Hp) (a C : Addr) (fs : List (Str × V)) : Prop :=
  (fs = [] ∧ H a = some (exo a C none)) ∨
    ∃ (dx : Addr) (gs : List (Str × V)), H a = some (exo a C (some dx)) ∧ H dx = some (exd dx gs) ∧ ∀ p ∈ fs, gs.lookup p.1 = some p.2
theorem Err.same {H H' : Hp} {a C : Addr} {fs : List (Str × V)} (h : Err H a C fs) (e : Same H H') : Err H' a C fs := by
  rcases h with ⟨h1, h2⟩ | ⟨dx, gs, h1, h2, h3⟩
  · exact .inl ⟨h1, e _ _ h2⟩
  · exact .inr ⟨dx, gs, e _ _ h1, e _ _ h2, h3⟩
section
variable {X : Cx} {o e : Expr} {es : List Expr} {to te : TE} {ta : TA} {f : Str} {p p' p1 p2 pos : Pos}
/-- C(e, ..): a new exception, from the promise of its __init__ -/
theorem pe_oexV {x : Str} {C fI : Addr} {k : Nat} {fd : FuncData} {ps : List Str} {sp : Sp} (T : OexC X.K C) (iC : PySem.W.findIn X.K (.ref C) "__init__" = some (some (.ref fI))) (tI : PySem.W.typeIn X.K (.ref fI) = some (.type "function"))
    (F1 : FnOk X.prog X.w X.K X.mg X.base CX0 k fI fd ps sp) (hr : Room (k + 1) X.A) (hb : Binds X.K fd ps []) (hg : Gl X x) (hm : X.mg x = some (.ref C)) (ha : PA X (e :: es) ta)
    (hdb : (x == ("__debug__" : Str)) = false := by decide) (he : starEach (e :: es) X.env = (false, eval e X.env) :: starEach es X.env := by rfl) (hpl : (backTo pos (starEach es X.env)).any (·.1) = false := by rfl) :
    PE X (.Call (.Name x p) (e :: es) [] pos) (fun σ H Q => ta σ H fun vs H1 => vs.length ≤ 1000 ∧ ∀ a, H1 a = none → sp (.ref a :: vs) (upd H1 a (exo a C none)) (fun v H2 => v = .non ∧ Q (.ref a) H2) (fun _ _ _ => False)) := by
  constructor
  intro pins s σ H Q I h
  obtain ⟨nm, q, N, bs, bm, sn, sub, ab, col, dd, k0, k1, k2, k3, k5, hC, hbm⟩ := T.cls
  apply wpAny_Call_Name_kw
  apply ld_glob I hg hm ?_ hdb
  apply PySem.W.callWith_K (h₀ := X.base) I.ok.mod.kin T.kC ?_ he hpl
  apply thn (ha.run pos pins s σ H _ I h)
  rintro us s1 ⟨vs, H1, I1, r1, hz, q1⟩
  refine ⟨I1.kIn, ?_⟩
  show wpAny _ _ (call (.ref C) us) _ _ _
  obtain ⟨hp, g, dr, tk, os⟩ := s1
  have up := Nat.le_succ hp.objs.size
  have q2 := q1 (hp.objs.size + 1) (I1.hok.fresh up)
  have keeps : ∀ b o, hp.get? b = some o → ((hp.push (PySem.W.kdv_tup us)).push (PySem.HandSPX.excO C hp.objs.size)).get? b = some o :=
    fun b o z => Heap.get?_push_of_some _ (Heap.get?_push_of_some _ z)
  have there : ((hp.push (PySem.W.kdv_tup us)).push (PySem.HandSPX.excO C hp.objs.size)).get? (hp.objs.size + 1) = some (PySem.HandSPX.excO C hp.objs.size) := by heap_get
  have I2 : Inv X pins σ (upd H1 (hp.objs.size + 1) (exo (hp.objs.size + 1) C none)) ⟨(hp.push (PySem.W.kdv_tup us)).push (PySem.HandSPX.excO C hp.objs.size), g, dr, tk, os⟩ :=
    I1.laid (t' := tk) keeps up (exo_ok there)
  have r2 : Vals (V.ref (hp.objs.size + 1) :: vs) (Value.ref (hp.objs.size + 1) :: us) := .cons rfl r1
  have many : (Value.ref (hp.objs.size + 1) :: us ++ []).length = ps.length := by
    rw [List.append_nil, ← r2.length]
    exact F1.len _ _ _ _ q2
  have bound := hb _ (Value.ref (hp.objs.size + 1) :: us) I2.kIn many
  rw [List.append_nil] at bound
  have room : us.length ≤ sizeLine := by
    rw [← Paired.length r1, sizeLine_eq]
    omega
  refine wpAny_call (PySem.HandSPX.call_own F.excBase_ValueError (fun Y => PySem.HandSPX.refsVE_contains Y bm hbm) (I1.kIn _ _ hC)
    (PySem.W.looks_findIn I1.kIn iC) (fun self => PySem.W.bind_fn I1.kIn self tI) room ?_)
  refine codeAny_mono (F1.run _ X.stack _ _ ⟨Value.ref (hp.objs.size + 1) :: us, []⟩ _ _ _ (fun _ _ _ => False) (hr.make C us []) (I2.env0.make C us []) bound r2 q2) ?_
  intro r s' hq
  match r, hq with
  | .ok (.ret u), hq =>
    obtain ⟨v, H2, I3, rv, ev, q3⟩ := I2.after hq
    subst ev
    exact ⟨rv, .ref (hp.objs.size + 1), H2, I3, rfl, q3⟩
/-- C() -/
theorem pe_oexV0 {x : Str} {C fI : Addr} {k : Nat} {fd : FuncData} {ps : List Str} {sp : Sp} (T : OexC X.K C) (iC : PySem.W.findIn X.K (.ref C) "__init__" = some (some (.ref fI))) (tI : PySem.W.typeIn X.K (.ref fI) = some (.type "function"))
    (F1 : FnOk X.prog X.w X.K X.mg X.base CX0 k fI fd ps sp) (hr : Room (k + 1) X.A) (hb : Binds X.K fd ps []) (hg : Gl X x) (hm : X.mg x = some (.ref C))
    (hdb : (x == ("__debug__" : Str)) = false := by decide) :
    PE X (.Call (.Name x p) [] [] pos) (fun σ H Q => ∀ a, H a = none → sp [.ref a] (upd H a (exo a C none)) (fun v H2 => v = .non ∧ Q (.ref a) H2) (fun _ _ _ => False)) := by
  constructor
  intro pins s σ H Q I h
  obtain ⟨nm, q, N, bs, bm, sn, sub, ab, col, dd, k0, k1, k2, k3, k5, hC, hbm⟩ := T.cls
  apply wpAny_Call_Name_kw
  apply ld_glob I hg hm ?_ hdb
  apply PySem.W.callWith_K0 I.kIn T.kC
  obtain ⟨hp, g, dr, tk, os⟩ := s
  have up := Nat.le_succ hp.objs.size
  have q2 := h (hp.objs.size + 1) (I.hok.fresh up)
  have keeps : ∀ b o, hp.get? b = some o → ((hp.push (PySem.W.kdv_tup [])).push (PySem.HandSPX.excO C hp.objs.size)).get? b = some o :=
    fun b o z => Heap.get?_push_of_some _ (Heap.get?_push_of_some _ z)
  have there : ((hp.push (PySem.W.kdv_tup [])).push (PySem.HandSPX.excO C hp.objs.size)).get? (hp.objs.size + 1) = some (PySem.HandSPX.excO C hp.objs.size) := by heap_get
  have I2 : Inv X pins σ (upd H (hp.objs.size + 1) (exo (hp.objs.size + 1) C none)) ⟨(hp.push (PySem.W.kdv_tup [])).push (PySem.HandSPX.excO C hp.objs.size), g, dr, tk, os⟩ :=
    I.laid (t' := tk) keeps up (exo_ok there)
  have r2 : Vals [V.ref (hp.objs.size + 1)] [Value.ref (hp.objs.size + 1)] := .cons rfl .nil
  have bound := hb _ [Value.ref (hp.objs.size + 1)] I2.kIn (by rw [List.append_nil, ← r2.length]; exact F1.len _ _ _ _ q2)
  rw [List.append_nil] at bound
  refine wpAny_call (PySem.HandSPX.call_own F.excBase_ValueError (fun Y => PySem.HandSPX.refsVE_contains Y bm hbm) (I.kIn _ _ hC)
    (PySem.W.looks_findIn I.kIn iC) (fun self => PySem.W.bind_fn I.kIn self tI) (by rw [sizeLine_eq]; decide) ?_)
  refine codeAny_mono (F1.run _ X.stack _ _ ⟨[Value.ref (hp.objs.size + 1)], []⟩ _ _ _ (fun _ _ _ => False) (hr.make C [] []) (I2.env0.make C [] []) bound r2 q2) ?_
  intro r s' hq
  match r, hq with
  | .ok (.ret u), hq =>
    obtain ⟨v, H2, I3, rv, ev, q3⟩ := I2.after hq
    subst ev
    exact ⟨rv, .ref (hp.objs.size + 1), H2, I3, rfl, q3⟩
/-- an exception's object and its dict -/
theorem exo_inst {pins : List (Addr × Obj)} {σ : L2.St} {H : Hp} {s : Shared} {a C dx : Addr} {gs : List (Str × V)} (I : Inv X pins σ H s) (h1 : H a = some (exo a C (some dx))) (h2 : H dx = some (exd dx gs)) :
    ∃ oe od mA, PySem.W.InstAt s.heap a oe C (some od) ∧ s.heap.get? dx = some od ∧ s.heap.Ns1 dx mA ∧ ∀ f, RelO (gs.lookup f) (mA f) := by
  obtain ⟨t1, ho⟩ := exo_at I.hok h1
  obtain ⟨mA, hns, rel⟩ := exd_at I.hok h2
  obtain ⟨od, es, ep, hod, hr⟩ := id hns
  exact ⟨_, od, mA, ⟨ho, rfl, rfl, hod⟩, hod, hns, rel⟩
/-- e.f -/
theorem pe_fldE (he : PE X e te) (hb : attributeBase e f X.env (eval e X.env) = eval e X.env := by rfl) :
    PE X (.Attribute e f pos) (fun σ H Q => te σ H fun x H1 => ∃ (a C : Addr) (fs : List (Str × V)) (v : V), x = .ref a ∧ XfC X.K C ∧ PySem.W.findIn X.K (.ref C) f = some none ∧ Err H1 a C fs ∧ (f, v) ∈ fs ∧ Q v H1) := by
  constructor
  intro pins s σ H Q I h
  refine attr_of hb (thn (he.run pins s σ H _ I h) ?_)
  rintro u s1 ⟨x, H1, I1, rx, a, C, fs, v, ex, T, hno, er, hm, q⟩
  subst ex
  cases (show u = Value.ref a from rx)
  rcases er with ⟨e0, _⟩ | ⟨dx, gs, h1, h2, h3⟩
  · subst e0
    cases hm
  · obtain ⟨t1, ho⟩ := exo_at I1.hok h1
    obtain ⟨mA, hns, rel⟩ := exd_at I1.hok h2
    obtain ⟨od, hod, hl⟩ := lookIn_ns hns
    have el : gs.lookup f = some v := h3 _ hm
    obtain ⟨u, hu, ru⟩ := RelO.some_of (v := v) (o := mA f) (by rw [← el]; exact rel f)
    have J : PySem.W.InstAt s1.heap a _ C (some od) := ⟨ho, rfl, rfl, hod⟩
    exact HandSPX.exc_get I1.kIn J T.ga T.gg T.exC (PySem.W.findObj_own T.hdC hno rfl (by rw [hl, hu])) (handed_of ru) ⟨v, H1, I1.tok _, ru, q⟩
/-- any exception of an own class: with its own __init__, or without -/
def IsErr (H : Hp) (a C : Addr) : Prop := (∃ fs, Err H a C fs) ∨ H a = some (ExO (.ref C) a)
/-- isinstance(e, c) -/
theorem call_isX : CallR X (.builtin "isinstance") (fun xs H Q => ∃ (a C : Addr) (c : V) (cv : Value) (b : Bool), xs = [.ref a, c] ∧ ClsV c cv ∧ IsErr H a C ∧ ExcC X.K C ∧ PySem.W.kitOne X.K (.ref C) cv = some b ∧ Q (.bl b) H) := by
  intro pins s σ H xs us Q I r h
  obtain ⟨a, C, c, cv, b, rfl, hc, he, E, e, q⟩ := h
  obtain ⟨u, u2, rfl, r1, r2⟩ := vals2 r
  cases (show u = Value.ref a from r1)
  have e2 := hc.eq r2
  subst e2
  rcases he with ⟨fs, ⟨_, h1⟩ | ⟨dx, gs, h1, h2, _⟩⟩ | h
  · obtain ⟨t1, ho⟩ := exo_at I.hok h1
    exact PySem.W.kia_one (PySem.W.handS_kitx_exc E.hg E.hk E.hs E.hd E.ha E.hn E.ht E.hm) I.kIn ⟨ho, rfl, rfl, trivial⟩ e (fun z => nomatch z)
      fun tk => ⟨.bl b, H, I.tok tk, rfl, q⟩
  · obtain ⟨oe, od, mA, J, _⟩ := exo_inst I h1 h2
    have hcl : (PySem.W.clsIn X.K C).isSome = true := by
      have := E.hd
      unfold PySem.W.hasDictIn at this
      cases k : PySem.W.clsIn X.K C with
      | none => rw [k] at this; cases this
      | some _ => rfl
    exact PySem.W.kia_one (PySem.W.kitx_exc hcl E.hg E.hk E.hs E.ha E.hn E.ht E.hm) I.kIn J e (fun z => nomatch z)
      fun tk => ⟨.bl b, H, I.tok tk, rfl, q⟩
  · exact isi_exc E I h e q
/-- X(e, ..), X without an __init__ of its own -/
theorem pe_excA {C : Addr} {bmB : List Value} {B newId initId : String} {x : Str} (F : ExcBaseFacts B newId initId bmB) (q : PySem.W.excIn X.K C bmB newId = true) (gC : X.mg x = some (.ref C)) (kC : PySem.W.keepIn X.K (.ref C) = true) (hg : Gl X x)
    (ha : PA X (e :: es) ta) (hdb : (x == ("__debug__" : Str)) = false := by decide) (he : starEach (e :: es) X.env = (false, eval e X.env) :: starEach es X.env := by rfl) (hpl : (backTo pos (starEach es X.env)).any (·.1) = false := by rfl) :
    PE X (.Call (.Name x p) (e :: es) [] pos) (fun σ H Q => ta σ H fun vs H1 => vs.length ≤ 1000 ∧ ∀ a, H1 a = none → Q (.ref a) (upd H1 a (ExO (.ref C) a))) := by
  constructor
  intro pins s σ H Q I h
  apply wpAny_Call_Name_kw
  apply ld_glob I hg gC ?_ hdb
  apply PySem.W.callWith_K (h₀ := X.base) I.ok.mod.kin kC ?_ he hpl
  apply thn (ha.run pos pins s σ H _ I h)
  rintro us s1 ⟨vs, H1, I1, r1, hz, q1⟩
  refine ⟨I1.kIn, ?_⟩
  show wpAny _ _ (call (.ref C) us) _ _ _
  obtain ⟨bm, N, nm, qn, bs, hdct, sn, sub, ab, col, dd, k0, k1, k2, k3, k5, mN, hC, hN, hni, T⟩ := exc_obj I1.kIn q
  refine wpAny_call_exc_subT F T hC hN hni (fun h' a hm => ?_) (by rw [← Paired.length r1, sizeLine_eq]; omega)
  obtain ⟨t, ht, _, _⟩ := hm.there
  have fresh := I1.hok.gone hm.new
  exact ⟨.ref a, _, I1.laidN hm.keeps hm.new fresh (exO_ok ht ⟨rfl, rfl⟩ rfl rfl rfl (by decide : 4 < 6)), rfl, q1 a fresh⟩
theorem pe_excA0 {C : Addr} {bmB : List Value} {B newId initId : String} {x : Str} (F : ExcBaseFacts B newId initId bmB) (q : PySem.W.excIn X.K C bmB newId = true) (gC : X.mg x = some (.ref C)) (kC : PySem.W.keepIn X.K (.ref C) = true) (hg : Gl X x)
    (hdb : (x == ("__debug__" : Str)) = false := by decide) :
    PE X (.Call (.Name x p) [] [] pos) (fun σ H Q => ∀ a, H a = none → Q (.ref a) (upd H a (ExO (.ref C) a))) := by
  constructor
  intro pins s σ H Q I h
  apply wpAny_Call_Name_kw
  apply ld_glob I hg gC ?_ hdb
  apply PySem.W.callWith_K0 I.kIn kC
  obtain ⟨bm, N, nm, qn, bs, hdct, sn, sub, ab, col, dd, k0, k1, k2, k3, k5, mN, hC, hN, hni, T⟩ := exc_obj I.kIn q
  refine wpAny_call_exc_subT F T hC hN hni (fun h' a hm => ?_) (by rw [sizeLine_eq]; decide)
  obtain ⟨t, ht, _, _⟩ := hm.there
  have fresh := I.hok.gone hm.new
  exact ⟨.ref a, _, I.laidN hm.keeps hm.new fresh (exO_ok ht ⟨rfl, rfl⟩ rfl rfl rfl (by decide : 4 < 6)), rfl, h a fresh⟩
end
end GL
set_option Elab.async false
set_option linter.all false
set_option maxRecDepth 100000
set_option maxHeartbeats 1000000
/-! DL1: data instead of heaps. Values are data (frozen) or lists of one's own; the heap stays behind these words. -/
namespace DL
open PySem PySem.Spec PyProof.Rows L2 GL

/-- an own class: plain, below no built-in one but object -/
structure OwnC (K : PySem.W.Frag) (C : Addr) : Prop where
  cl : Cls K C
  ha : PySem.W.findIn K (.ref C) "__class__" = some (some (.builtin "object.__class__"))
  hn : PySem.W.specialIn K (.builtin "object.__class__") "__get__" = some (some (.builtin "getset_descriptor.__get__"))
  ht : PySem.W.takesIn K (.builtin "object.__class__") = some true
  hm : PySem.W.mroIn K C (.type "object") = some true
  kit : ∀ T ∈ ["int", "bool", "str", "list", "tuple", "dict"], PySem.W.kitOne K (.ref C) (.type T) = some false
/-- the data of a key -/
def kD : Key → PyData
  | .inl i => .int i
  | .inr x => .str x
mutual
inductive Dr (K : PySem.W.Frag) (H : Hp) : V → PyData → Prop
  | non : Dr K H .non .none
  | bl (b : Bool) : Dr K H (.bl b) (.bool b)
  | int (i : Int) : Dr K H (.int i) (.int i)
  | str (x : Str) : Dr K H (.str x) (.str x)
  | lst {a : Addr} {xs : List V} {ds : List PyData} : H a = some (.lst xs) → DrAll K H xs ds → Dr K H (.ref a) (.list ds)
  | tup {a : Addr} {xs : List V} {ds : List PyData} : SqT K H a xs → DrAll K H xs ds → Dr K H (.ref a) (.tuple ds)
  | dct {a : Addr} {kvs : List (Key × V)} {ds : List PyData} : H a = some (.dK kvs) → DrAll K H (kvs.map (·.2)) ds → Dr K H (.ref a) (.dict ((kvs.map fun p => kD p.1).zip ds))
  | ins {a C dx : Addr} {fs : List (Str × V)} {ds : List PyData} : OwnC K C → H a = some (.ins C dx fs) → H dx = some (.own a) → DrAll K H (fs.map (·.2)) ds → Dr K H (.ref a) (.dict ((.none, .int C) :: (fs.map fun p => PyData.str p.1).zip ds))
inductive DrAll (K : PySem.W.Frag) (H : Hp) : List V → List PyData → Prop
  | nil : DrAll K H [] []
  | cons {v : V} {vs : List V} {d : PyData} {ds : List PyData} : Dr K H v d → DrAll K H vs ds → DrAll K H (v :: vs) (d :: ds)
end
section
variable {K : PySem.W.Frag} {H H' : Hp}
theorem rd_same {a : Addr} {u : HO} (e : Same H H') (h : Rd H a u) : Rd H' a u := h.imp (fun h => e _ _ h) fun ⟨o, h⟩ => ⟨o, e _ _ h⟩
mutual
theorem Dr.same (e : Same H H') : ∀ {d : PyData} {v : V}, Dr K H v d → Dr K H' v d
  | _, _, .non => .non
  | _, _, .bl b => .bl b
  | _, _, .int i => .int i
  | _, _, .str x => .str x
  | _, _, .lst h a => .lst (e _ _ h) (DrAll.same e a)
  | _, _, .tup h a => .tup (Same.seqT e h) (DrAll.same e a)
  | _, _, .dct h a => .dct (e _ _ h) (DrAll.same e a)
  | _, _, .ins c h h2 a => .ins c (e _ _ h) (e _ _ h2) (DrAll.same e a)
theorem DrAll.same (e : Same H H') : ∀ {ds : List PyData} {vs : List V}, DrAll K H vs ds → DrAll K H' vs ds
  | _, _, .nil => .nil
  | _, _, .cons h t => .cons (Dr.same e h) (DrAll.same e t)
end
theorem DrAll.length : ∀ {vs : List V} {ds : List PyData}, DrAll K H vs ds → vs.length = ds.length
  | _, _, .nil => rfl
  | _, _, .cons _ t => by rw [List.length_cons, List.length_cons, DrAll.length t]
theorem DrAll.get : ∀ {vs : List V} {ds : List PyData} {i : Nat} {d : PyData}, DrAll K H vs ds → ds[i]? = some d → ∃ v, vs[i]? = some v ∧ Dr K H v d
  | _, _, _, _, .nil, e => by simp at e
  | _, _, 0, _, .cons r _, e => by simp at e; subst e; exact ⟨_, rfl, r⟩
  | _, _, i + 1, _, .cons _ t, e => by
    obtain ⟨v, h1, h2⟩ := DrAll.get (i := i) t (by simpa using e)
    exact ⟨v, by simpa using h1, h2⟩
theorem DrAll.getV : ∀ {vs : List V} {ds : List PyData} {i : Nat} {v : V}, DrAll K H vs ds → vs[i]? = some v → ∃ d, ds[i]? = some d ∧ Dr K H v d
  | _, _, _, _, .nil, e => by simp at e
  | _, _, 0, _, .cons r _, e => by simp at e; subst e; exact ⟨_, rfl, r⟩
  | _, _, i + 1, _, .cons _ t, e => by
    obtain ⟨v, h1, h2⟩ := DrAll.getV (i := i) t (by simpa using e)
    exact ⟨v, by simpa using h1, h2⟩
theorem DrAll.append : ∀ {vs ws : List V} {ds es : List PyData}, DrAll K H vs ds → DrAll K H ws es → DrAll K H (vs ++ ws) (ds ++ es)
  | _, _, _, _, .nil, s => s
  | _, _, _, _, .cons r t, s => .cons r (DrAll.append t s)
theorem DrAll.take : ∀ {vs : List V} {ds : List PyData} (n : Nat), DrAll K H vs ds → DrAll K H (vs.take n) (ds.take n)
  | _, _, 0, _ => .nil
  | _, _, _ + 1, .nil => .nil
  | _, _, n + 1, .cons r t => .cons r (DrAll.take n t)
theorem DrAll.drop : ∀ {vs : List V} {ds : List PyData} (n : Nat), DrAll K H vs ds → DrAll K H (vs.drop n) (ds.drop n)
  | _, _, 0, r => r
  | _, _, _ + 1, .nil => .nil
  | _, _, n + 1, .cons _ t => DrAll.drop n t
theorem DrAll.set : ∀ {vs : List V} {ds : List PyData} {v : V} {d : PyData} (n : Nat), Dr K H v d → DrAll K H vs ds → DrAll K H (vs.set n v) (ds.set n d)
  | _, _, _, _, _, _, .nil => .nil
  | _, _, _, _, 0, h, .cons _ t => .cons h t
  | _, _, _, _, n + 1, h, .cons r t => .cons r (DrAll.set n h t)
theorem DrAll.ints : ∀ ns : List Int, DrAll K H (ns.map V.int) (ns.map PyData.int)
  | [] => .nil
  | n :: r => .cons (.int n) (DrAll.ints r)
theorem DrAll.strs : ∀ ns : List Str, DrAll K H (ns.map V.str) (ns.map PyData.str)
  | [] => .nil
  | n :: r => .cons (.str n) (DrAll.strs r)
theorem DrAll.bools : ∀ ns : List Bool, DrAll K H (ns.map V.bl) (ns.map PyData.bool)
  | [] => .nil
  | n :: r => .cons (.bl n) (DrAll.bools r)
theorem DrAll.ofInts : ∀ {ns : List Int} {vs : List V}, DrAll K H vs (ns.map PyData.int) → vs = ns.map V.int
  | [], _, h => by cases h; rfl
  | n :: r, _, h => by
    cases h with
    | cons h1 h2 => cases h1; rw [DrAll.ofInts h2]; rfl
theorem DrAll.ofStrs : ∀ {ns : List Str} {vs : List V}, DrAll K H vs (ns.map PyData.str) → vs = ns.map V.str
  | [], _, h => by cases h; rfl
  | n :: r, _, h => by
    cases h with
    | cons h1 h2 => cases h1; rw [DrAll.ofStrs h2]; rfl
theorem DrAll.ofBools : ∀ {ns : List Bool} {vs : List V}, DrAll K H vs (ns.map PyData.bool) → vs = ns.map V.bl
  | [], _, h => by cases h; rfl
  | n :: r, _, h => by
    cases h with
    | cons h1 h2 => cases h1; rw [DrAll.ofBools h2]; rfl
mutual
/-- data without dicts, as the library says it -/
theorem Dr.dp : ∀ {d : PyData} {v : V}, Dr K H v d → d.hasDict = false → Dp K H v d
  | _, _, .non, _ => .non
  | _, _, .bl b, _ => .bl b
  | _, _, .int i, _ => .int i
  | _, _, .str x, _ => .str x
  | _, _, .lst h a, n => .lst (.inl (.inl h)) (DrAll.dp a (by simpa only [PyData.hasDict] using n))
  | _, _, .tup h a, n => .tup h (DrAll.dp a (by simpa only [PyData.hasDict] using n))
  | _, _, .dct h a, n => by simp [PyData.hasDict] at n
  | _, _, .ins _ _ _ _, n => by simp [PyData.hasDict] at n
theorem DrAll.dp : ∀ {ds : List PyData} {vs : List V}, DrAll K H vs ds → PyData.hasDictAll ds = false → DpAll K H vs ds
  | _, _, .nil, _ => .nil
  | _, _, .cons h t, n => by
    simp only [PyData.hasDictAll, Bool.or_eq_false_iff] at n
    exact .cons (Dr.dp h n.1) (DrAll.dp t n.2)
end
theorem Dr.bool {b : Bool} {v : V} (h : Dr K H v (.bool b)) : v = .bl b := by cases h; rfl
theorem Dr.tInt {i : Int} {v : V} (h : Dr K H v (.int i)) : v = .int i := by cases h; rfl
theorem Dr.tStr {x : Str} {v : V} (h : Dr K H v (.str x)) : v = .str x := by cases h; rfl
theorem Dr.tNon {v : V} (h : Dr K H v .none) : v = .non := by cases h; rfl
end

/-- an object that is data -/
def obD (C : Addr) (fs : List (Str × PyData)) : PyData := .dict ((.none, .int C) :: fs.map fun p => (.str p.1, p.2))
theorem ob_zip : ∀ {α : Type} (vs : List (Str × α)) (fs : List (Str × PyData)), vs.map (·.1) = fs.map (·.1) → (vs.map fun p => PyData.str p.1).zip (fs.map (·.2)) = fs.map fun p => (.str p.1, p.2)
  | _, [], [], _ => rfl
  | _, [], _ :: _, e => by cases e
  | _, _ :: _, [], e => by cases e
  | _, v :: vs, f :: fs, e => by
    rw [List.map_cons, List.map_cons, List.cons.injEq] at e
    rw [List.map_cons, List.map_cons, List.map_cons, List.zip_cons_cons, ob_zip vs fs e.2, e.1]
theorem ob_unzip : ∀ {α : Type} (vs : List (Str × α)) (ds : List PyData) (fs : List (Str × PyData)), vs.length = ds.length → (vs.map fun p => PyData.str p.1).zip ds = (fs.map fun p => (PyData.str p.1, p.2)) → vs.map (·.1) = fs.map (·.1) ∧ ds = fs.map (·.2)
  | _, [], [], [], _, _ => ⟨rfl, rfl⟩
  | _, [], [], _ :: _, _, e => by simp at e
  | _, [], _ :: _, _, l, _ => by simp at l
  | _, _ :: _, [], _, l, _ => by simp at l
  | _, _ :: _, _ :: _, [], _, e => by simp at e
  | _, v :: vs, d :: ds, f :: fs, l, e => by
    rw [List.map_cons, List.map_cons, List.zip_cons_cons, List.cons.injEq, Prod.mk.injEq, PyData.str.injEq] at e
    obtain ⟨h1, h2⟩ := ob_unzip vs ds fs (by simpa using l) e.2
    rw [List.map_cons, List.map_cons, List.map_cons, h1, h2, e.1.1, e.1.2]
    exact ⟨rfl, rfl⟩
/-- where an object's data lies -/
def ObAt (K : PySem.W.Frag) (G H : Hp) (a C dx : Addr) (vs : List (Str × V)) (fs : List (Str × PyData)) : Prop :=
  OwnC K C ∧ H a = some (.ins C dx vs) ∧ H dx = some (.own a) ∧ vs.map (·.1) = fs.map (·.1) ∧ DrAll K G (vs.map (·.2)) (fs.map (·.2))
section
variable {K : PySem.W.Frag} {G H : Hp}
theorem Dr.mkOb {a C dx : Addr} {vs : List (Str × V)} {fs : List (Str × PyData)} (h : ObAt K G G a C dx vs fs) : Dr K G (.ref a) (obD C fs) := by
  obtain ⟨c, h1, h2, e, h3⟩ := h
  have r := Dr.ins c h1 h2 h3
  rw [ob_zip vs fs e] at r
  exact r
theorem Dr.ob {v : V} {C : Addr} {fs : List (Str × PyData)} (h : Dr K G v (obD C fs)) : ∃ a dx vs, v = .ref a ∧ ObAt K G G a C dx vs fs := by
  generalize e : obD C fs = d at h
  unfold obD at e
  cases h with
  | dct h1 h2 =>
    rename_i kvs ds
    cases kvs with
    | nil => simp at e
    | cons p r =>
      obtain ⟨k, x⟩ := p
      cases ds with
      | nil => simp at e
      | cons d ds =>
        rw [List.map_cons, List.zip_cons_cons] at e
        cases k <;> simp [kD] at e
  | ins c h1 h2 h3 =>
    rename_i a C' dx vs ds
    injection e with e
    rw [List.cons.injEq, Prod.mk.injEq, PyData.int.injEq] at e
    obtain ⟨⟨_, e1⟩, e2⟩ := e
    have e3 : C = C' := Int.ofNat.inj e1
    subst e3
    obtain ⟨h4, h5⟩ := ob_unzip vs ds fs (by have := h3.length; rwa [List.length_map] at this) e2.symm
    subst h5
    exact ⟨a, dx, vs, rfl, c, h1, h2, h4, h3⟩
  | _ => cases e
end
/-- an object of one's own, its fields are data -/
inductive RepB (K : PySem.W.Frag) (G H : Hp) : Addr → Addr → List (Str × PyData) → List Addr → Prop
  | mk {a C dx : Addr} {vs : List (Str × V)} {fs : List (Str × PyData)} : ObAt K G H a C dx vs fs → G a = none → G dx = none → a ≠ dx → RepB K G H a C fs [a, dx]
section
variable {K : PySem.W.Frag} {G H G' H' : Hp} {v C : Addr} {fs : List (Str × PyData)} {F : List Addr}
theorem RepB.dom (h : RepB K G H v C fs F) : ∀ a ∈ F, G a = none ∧ H a ≠ none := by
  obtain ⟨⟨c, h1, h2, _, _⟩, g1, g2, _⟩ := h
  intro a m
  simp only [List.mem_cons, List.mem_nil_iff, or_false] at m
  rcases m with rfl | rfl
  · exact ⟨g1, by rw [h1]; exact nofun⟩
  · exact ⟨g2, by rw [h2]; exact nofun⟩
theorem RepB.mono (e : Same G G') (h : RepB K G H v C fs F) (k1 : ∀ a ∈ F, G' a = none) (k2 : ∀ a ∈ F, ∀ u, H a = some u → H' a = some u) : RepB K G' H' v C fs F := by
  obtain ⟨⟨c, h1, h2, h3, h4⟩, _, _, n⟩ := h
  exact .mk ⟨c, k2 _ (by simp) _ h1, k2 _ (by simp) _ h2, h3, h4.same e⟩ (k1 _ (by simp)) (k1 _ (by simp)) n
theorem RepB.freeze (e : Same G G') (h : RepB K G H v C fs F) (k : ∀ a ∈ F, ∀ u, H a = some u → G' a = some u) : Dr K G' (.ref v) (obD C fs) := by
  obtain ⟨⟨c, h1, h2, h3, h4⟩, _, _, n⟩ := h
  exact .mkOb ⟨c, k _ (by simp) _ h1, k _ (by simp) _ h2, h3, h4.same e⟩
end
/-- a value: data, or a list of one's own -/
inductive O where
  | dat (d : PyData)
  | lst (xs : List O)
mutual
def O.erase : O → PyData
  | .dat d => d
  | .lst xs => .list (eraseAll xs)
def eraseAll : List O → List PyData
  | [] => []
  | x :: xs => x.erase :: eraseAll xs
end
theorem eraseAll_dat : ∀ ds : List PyData, eraseAll (ds.map O.dat) = ds
  | [] => rfl
  | d :: ds => by
    show d :: eraseAll (ds.map O.dat) = _
    rw [eraseAll_dat ds]
theorem eraseAll_map : ∀ xs : List O, eraseAll xs = xs.map O.erase
  | [] => rfl
  | x :: xs => by
    show x.erase :: eraseAll xs = _
    rw [eraseAll_map xs]
    rfl
mutual
inductive RepO (K : PySem.W.Frag) (G H : Hp) : V → O → List Addr → Prop
  | dat {v : V} {d : PyData} : Dr K G v d → RepO K G H v (.dat d) []
  | lst {a : Addr} {vs : List V} {xs : List O} {F : List Addr} : G a = none → H a = some (.lst vs) → RepOs K G H vs xs F → a ∉ F → RepO K G H (.ref a) (.lst xs) (a :: F)
inductive RepOs (K : PySem.W.Frag) (G H : Hp) : List V → List O → List Addr → Prop
  | nil : RepOs K G H [] [] []
  | cons {v : V} {vs : List V} {x : O} {xs : List O} {F1 F2 : List Addr} : RepO K G H v x F1 → RepOs K G H vs xs F2 → (∀ a ∈ F1, a ∉ F2) → RepOs K G H (v :: vs) (x :: xs) (F1 ++ F2)
end
section
variable {K : PySem.W.Frag} {G H G' H' : Hp}
mutual
theorem RepO.dom : ∀ {x : O} {v : V} {F : List Addr}, RepO K G H v x F → ∀ a ∈ F, G a = none ∧ H a ≠ none
  | _, _, _, .dat _, a, h => by cases h
  | _, _, _, .lst g h r n, a, m => by
    rcases List.mem_cons.mp m with e | m
    · subst e
      exact ⟨g, by rw [h]; exact nofun⟩
    · exact RepOs.dom r a m
theorem RepOs.dom : ∀ {x : List O} {v : List V} {F : List Addr}, RepOs K G H v x F → ∀ a ∈ F, G a = none ∧ H a ≠ none
  | _, _, _, .nil, a, h => by cases h
  | _, _, _, .cons r t n, a, m => by
    rcases List.mem_append.mp m with m | m
    · exact RepO.dom r a m
    · exact RepOs.dom t a m
end
mutual
theorem RepO.mono (e : Same G G') : ∀ {x : O} {v : V} {F : List Addr}, RepO K G H v x F → (∀ a ∈ F, G' a = none) → (∀ a ∈ F, ∀ u, H a = some u → H' a = some u) → RepO K G' H' v x F
  | _, _, _, .dat d, _, _ => .dat (d.same e)
  | _, _, _, .lst g h r n, k1, k2 => .lst (k1 _ List.mem_cons_self) (k2 _ List.mem_cons_self _ h) (RepOs.mono e r (fun a m => k1 a (List.mem_cons_of_mem _ m)) fun a m => k2 a (List.mem_cons_of_mem _ m)) n
theorem RepOs.mono (e : Same G G') : ∀ {x : List O} {v : List V} {F : List Addr}, RepOs K G H v x F → (∀ a ∈ F, G' a = none) → (∀ a ∈ F, ∀ u, H a = some u → H' a = some u) → RepOs K G' H' v x F
  | _, _, _, .nil, _, _ => .nil
  | _, _, _, .cons r t n, k1, k2 => .cons (RepO.mono e r (fun a m => k1 a (List.mem_append_left _ m)) fun a m => k2 a (List.mem_append_left _ m))
      (RepOs.mono e t (fun a m => k1 a (List.mem_append_right _ m)) fun a m => k2 a (List.mem_append_right _ m)) n
end
/-- G, and what H has at F -/
def addF (G H : Hp) (F : List Addr) : Hp := fun a => if a ∈ F then H a else G a
theorem addF_in {F : List Addr} {a : Addr} (h : a ∈ F) : addF G H F a = H a := if_pos h
theorem addF_out {F : List Addr} {a : Addr} (h : a ∉ F) : addF G H F a = G a := if_neg h
theorem addF_ext {F : List Addr} (n : ∀ a ∈ F, G a = none) : Same G (addF G H F) := fun a u e => by
  have : a ∉ F := fun m => by rw [n a m] at e; cases e
  rw [addF_out this]
  exact e
theorem addF_sub {F : List Addr} (e : Same G H) : Same (addF G H F) H := fun a u h => by
  by_cases m : a ∈ F
  · rwa [addF_in m] at h
  · rw [addF_out m] at h
    exact e _ _ h
mutual
theorem RepO.freeze (e : Same G G') : ∀ {x : O} {v : V} {F : List Addr}, RepO K G H v x F → (∀ a ∈ F, ∀ u, H a = some u → G' a = some u) → Dr K G' v x.erase
  | _, _, _, .dat d, _ => d.same e
  | _, _, _, .lst g h r n, k => .lst (k _ List.mem_cons_self _ h) (RepOs.freeze e r fun a m => k a (List.mem_cons_of_mem _ m))
theorem RepOs.freeze (e : Same G G') : ∀ {x : List O} {v : List V} {F : List Addr}, RepOs K G H v x F → (∀ a ∈ F, ∀ u, H a = some u → G' a = some u) → DrAll K G' v (eraseAll x)
  | _, _, _, .nil, _ => .nil
  | _, _, _, .cons r t n, k => .cons (RepO.freeze e r fun a m => k a (List.mem_append_left _ m)) (RepOs.freeze e t fun a m => k a (List.mem_append_right _ m))
end
theorem RepOs.ofDat : ∀ {ds : List PyData} {vs : List V}, DrAll K G vs ds → RepOs K G H vs (ds.map O.dat) []
  | _, _, .nil => .nil
  | _, _, .cons h t => RepOs.cons (F1 := []) (F2 := []) (.dat h) (RepOs.ofDat t) (fun _ m => nomatch m)
theorem RepOs.length : ∀ {xs : List O} {vs : List V} {F : List Addr}, RepOs K G H vs xs F → vs.length = xs.length
  | _, _, _, .nil => rfl
  | _, _, _, .cons _ t _ => by rw [List.length_cons, List.length_cons, RepOs.length t]
theorem RepOs.append {ys : List O} {ws : List V} {F2 : List Addr} (k : RepOs K G H ws ys F2) : ∀ {xs : List O} {vs : List V} {F1 : List Addr}, RepOs K G H vs xs F1 → (∀ a ∈ F1, a ∉ F2) → RepOs K G H (vs ++ ws) (xs ++ ys) (F1 ++ F2)
  | _, _, _, .nil, _ => k
  | _, _, _, .cons (F1 := Fa) (F2 := Fb) r t n, d => by
    rw [List.cons_append, List.cons_append, List.append_assoc]
    refine .cons r (RepOs.append k t fun a m => d a (List.mem_append_right _ m)) fun a m z => ?_
    rcases List.mem_append.mp z with z | z
    · exact n a m z
    · exact d a (List.mem_append_left _ m) z
theorem RepOs.dats : ∀ {ds : List PyData} {vs : List V} {F : List Addr}, RepOs K G H vs (ds.map O.dat) F → F = [] ∧ DrAll K G vs ds
  | [], _, _, h => by cases h; exact ⟨rfl, .nil⟩
  | d :: ds, _, _, h => by
    cases h with
    | cons h1 h2 n =>
      cases h1 with
      | dat k =>
        obtain ⟨rfl, k2⟩ := RepOs.dats h2
        exact ⟨rfl, .cons k k2⟩
end

/-! ### the slots -/
inductive En where
  | d (d : PyData)
  | l (xs : List O)
  | bag
  | o (a C : Addr) (fs : List (Str × PyData))
def En.of : O → En
  | .dat x => En.d x
  | .lst xs => En.l xs
abbrev Env' := List (Option En)
/-- the bag at b: its numbers are frozen -/
def BagAt (G H : Hp) (b : Addr × Addr) : Prop := ∃ (g s i : Int) (ns : List Int), H b.1 = some (.lst [.int g, .int s, .int i, .ref b.2]) ∧ G b.2 = some (.lst (ns.map V.int)) ∧ 0 ≤ i
/-- not the bag -/
def NotB (B : Option (Addr × Addr)) (a : Addr) : Prop := ∀ c, B ≠ some (a, c)
inductive RepE (K : PySem.W.Frag) (B : Option (Addr × Addr)) (G H : Hp) : L2.St → Env' → List Addr → Prop
  | nil : RepE K B G H [] [] []
  | non {x : Option V} {σ : L2.St} {ρ : Env'} {F : List Addr} : RepE K B G H σ ρ F → RepE K B G H (x :: σ) (none :: ρ) F
  | d {v : V} {d : PyData} {σ : L2.St} {ρ : Env'} {F : List Addr} : Dr K G v d → RepE K B G H σ ρ F → RepE K B G H (some v :: σ) (some (.d d) :: ρ) F
  | l {v : V} {xs : List O} {σ : L2.St} {ρ : Env'} {F1 F2 : List Addr} : RepO K G H v (.lst xs) F1 → RepE K B G H σ ρ F2 → (∀ a ∈ F1, a ∉ F2) → RepE K B G H (some v :: σ) (some (.l xs) :: ρ) (F1 ++ F2)
  | bag {b : Addr × Addr} {σ : L2.St} {ρ : Env'} {F : List Addr} : B = some b → RepE K B G H σ ρ F → RepE K B G H (some (.ref b.1) :: σ) (some .bag :: ρ) F
  | o {a C : Addr} {fs : List (Str × PyData)} {σ : L2.St} {ρ : Env'} {F1 F2 : List Addr} : RepB K G H a C fs F1 → RepE K B G H σ ρ F2 → (∀ a ∈ F1, a ∉ F2) → RepE K B G H (some (.ref a) :: σ) (some (.o a C fs) :: ρ) (F1 ++ F2)
/-- one slot -/
inductive RepN (K : PySem.W.Frag) (B : Option (Addr × Addr)) (G H : Hp) : V → En → List Addr → Prop
  | d {v : V} {d : PyData} : Dr K G v d → RepN K B G H v (.d d) []
  | l {v : V} {xs : List O} {F : List Addr} : RepO K G H v (.lst xs) F → RepN K B G H v (.l xs) F
  | bag {b : Addr × Addr} : B = some b → RepN K B G H (.ref b.1) .bag []
  | o {a C : Addr} {fs : List (Str × PyData)} {F : List Addr} : RepB K G H a C fs F → RepN K B G H (.ref a) (.o a C fs) F
section
variable {K : PySem.W.Frag} {B : Option (Addr × Addr)} {G H G' H' : Hp}
theorem RepN.ofO {v : V} {o : O} {F : List Addr} (h : RepO K G H v o F) : RepN K B G H v (En.of o) F := by
  cases h with
  | dat h => exact .d h
  | lst a b c d => exact .l (.lst a b c d)
theorem RepN.dom {v : V} {n : En} {F : List Addr} (h : RepN K B G H v n F) : ∀ a ∈ F, G a = none ∧ H a ≠ none := by
  cases h with
  | d h => intro a m; cases m
  | l h => exact h.dom
  | bag h => intro a m; cases m
  | o h => exact h.dom
theorem RepN.mono (e : Same G G') {v : V} {n : En} {F : List Addr} (h : RepN K B G H v n F) (k1 : ∀ a ∈ F, G' a = none) (k2 : ∀ a ∈ F, ∀ u, H a = some u → H' a = some u) : RepN K B G' H' v n F := by
  cases h with
  | d h => exact .d (h.same e)
  | l h => exact .l (h.mono e k1 k2)
  | bag h => exact .bag h
  | o h => exact .o (h.mono e k1 k2)
theorem RepE.dom : ∀ {σ : L2.St} {ρ : Env'} {F : List Addr}, RepE K B G H σ ρ F → ∀ a ∈ F, G a = none ∧ H a ≠ none
  | _, _, _, .nil, a, h => by cases h
  | _, _, _, .non t, a, m => RepE.dom t a m
  | _, _, _, .d _ t, a, m => RepE.dom t a m
  | _, _, _, .l r t n, a, m => by
    rcases List.mem_append.mp m with m | m
    · exact r.dom a m
    · exact RepE.dom t a m
  | _, _, _, .bag _ t, a, m => RepE.dom t a m
  | _, _, _, .o r t n, a, m => by
    rcases List.mem_append.mp m with m | m
    · exact r.dom a m
    · exact RepE.dom t a m
theorem RepE.mono (e : Same G G') : ∀ {σ : L2.St} {ρ : Env'} {F : List Addr}, RepE K B G H σ ρ F → (∀ a ∈ F, G' a = none) → (∀ a ∈ F, ∀ u, H a = some u → H' a = some u) → RepE K B G' H' σ ρ F
  | _, _, _, .nil, _, _ => .nil
  | _, _, _, .non t, k1, k2 => .non (RepE.mono e t k1 k2)
  | _, _, _, .d h t, k1, k2 => .d (h.same e) (RepE.mono e t k1 k2)
  | _, _, _, .l r t n, k1, k2 => .l (r.mono e (fun a m => k1 a (List.mem_append_left _ m)) fun a m => k2 a (List.mem_append_left _ m))
      (RepE.mono e t (fun a m => k1 a (List.mem_append_right _ m)) fun a m => k2 a (List.mem_append_right _ m)) n
  | _, _, _, .bag h t, k1, k2 => .bag h (RepE.mono e t k1 k2)
  | _, _, _, .o r t n, k1, k2 => .o (r.mono e (fun a m => k1 a (List.mem_append_left _ m)) fun a m => k2 a (List.mem_append_left _ m))
      (RepE.mono e t (fun a m => k1 a (List.mem_append_right _ m)) fun a m => k2 a (List.mem_append_right _ m)) n
theorem RepE.length : ∀ {σ : L2.St} {ρ : Env'} {F : List Addr}, RepE K B G H σ ρ F → σ.length = ρ.length
  | _, _, _, .nil => rfl
  | _, _, _, .non t => by rw [List.length_cons, List.length_cons, RepE.length t]
  | _, _, _, .d _ t => by rw [List.length_cons, List.length_cons, RepE.length t]
  | _, _, _, .l _ t _ => by rw [List.length_cons, List.length_cons, RepE.length t]
  | _, _, _, .bag _ t => by rw [List.length_cons, List.length_cons, RepE.length t]
  | _, _, _, .o _ t _ => by rw [List.length_cons, List.length_cons, RepE.length t]
/-- a new head -/
theorem RepN.push {v : V} {n : En} {F1 F2 : List Addr} {σ : L2.St} {ρ : Env'} (h : RepN K B G H v n F1) (t : RepE K B G H σ ρ F2) (k : ∀ a ∈ F1, a ∉ F2) : RepE K B G H (some v :: σ) (some n :: ρ) (F1 ++ F2) := by
  cases h with
  | d h => exact .d h t
  | l h => exact .l h t k
  | bag h => exact .bag h t
  | o h => exact .o h t k
theorem RepE.pop {x : Option V} {y : Option En} {F : List Addr} {σ : L2.St} {ρ : Env'} (h : RepE K B G H (x :: σ) (y :: ρ) F) : ∃ F1 F2, F = F1 ++ F2 ∧ RepE K B G H σ ρ F2 ∧ (∀ a ∈ F1, a ∉ F2) ∧
    ∀ n, y = some n → ∃ v, x = some v ∧ RepN K B G H v n F1 := by
  cases h with
  | non t => exact ⟨[], F, rfl, t, (fun _ m => nomatch m), fun n e => nomatch e⟩
  | d h t => exact ⟨[], F, rfl, t, (fun _ m => nomatch m), fun n e => by cases e; exact ⟨_, rfl, .d h⟩⟩
  | l r t n => exact ⟨_, _, rfl, t, n, fun n e => by cases e; exact ⟨_, rfl, .l r⟩⟩
  | bag h t => exact ⟨[], F, rfl, t, (fun _ m => nomatch m), fun n e => by cases e; exact ⟨_, rfl, .bag h⟩⟩
  | o r t n => exact ⟨_, _, rfl, t, n, fun n e => by cases e; exact ⟨_, rfl, .o r⟩⟩
theorem RepE.get : ∀ {i : Nat} {σ : L2.St} {ρ : Env'} {F : List Addr} {n : En}, RepE K B G H σ ρ F → ρ[i]? = some (some n) → ∃ v F1, σ[i]? = some (some v) ∧ RepN K B G H v n F1 ∧ ∀ a ∈ F1, a ∈ F
  | i, [], ρ, F, n, h, e => by
    cases h
    simp at e
  | 0, x :: σ, ρ, F, n, h, e => by
    match ρ, h, e with
    | y :: ρ, h, e =>
      obtain ⟨F1, F2, rfl, _, _, k⟩ := h.pop
      obtain ⟨v, rfl, r⟩ := k n (by simpa using e)
      exact ⟨v, F1, rfl, r, fun a m => List.mem_append_left _ m⟩
  | i + 1, x :: σ, ρ, F, n, h, e => by
    match ρ, h, e with
    | y :: ρ, h, e =>
      obtain ⟨F1, F2, rfl, t, _, _⟩ := h.pop
      obtain ⟨v, F3, e1, r, k⟩ := RepE.get (i := i) t (by simpa using e)
      exact ⟨v, F3, by simpa using e1, r, fun a m => List.mem_append_right _ (k a m)⟩
/-- a slot stored (what it held is forgotten) -/
theorem RepE.set {v : V} {n : En} {Fv : List Addr} (hv : RepN K B G H v n Fv) : ∀ {i : Nat} {σ : L2.St} {ρ : Env'} {F : List Addr}, RepE K B G H σ ρ F → (∀ a ∈ Fv, a ∉ F) →
    ∃ F', RepE K B G H (σ.set i (some v)) (ρ.set i (some n)) F' ∧ ∀ a ∈ F', a ∈ F ∨ a ∈ Fv
  | i, [], ρ, F, h, k => by
    cases h
    exact ⟨[], .nil, fun a m => nomatch m⟩
  | 0, x :: σ, ρ, F, h, k => by
    match ρ, h with
    | y :: ρ, h =>
      obtain ⟨F1, F2, rfl, t, _, _⟩ := h.pop
      exact ⟨Fv ++ F2, hv.push t (fun a m z => k a m (List.mem_append_right _ z)), fun a m => (List.mem_append.mp m).elim .inr fun m => .inl (List.mem_append_right _ m)⟩
  | i + 1, x :: σ, ρ, F, h, k => by
    match ρ, h with
    | y :: ρ, h =>
      obtain ⟨F1, F2, rfl, t, n1, g⟩ := h.pop
      obtain ⟨F', r, c⟩ := RepE.set hv (i := i) t (fun a m z => k a m (List.mem_append_right _ z))
      cases y with
      | none => exact ⟨F', .non r, fun a m => (c a m).elim (fun m => .inl (List.mem_append_right _ m)) .inr⟩
      | some n2 =>
        obtain ⟨v2, rfl, q⟩ := g n2 rfl
        refine ⟨F1 ++ F', q.push r (fun a m z => ?_), fun a m => ?_⟩
        · rcases c a z with z | z
          · exact n1 a m z
          · exact k a z (List.mem_append_left _ m)
        · rcases List.mem_append.mp m with m | m
          · exact .inl (List.mem_append_left _ m)
          · exact (c a m).elim (fun m => .inl (List.mem_append_right _ m)) .inr
/-- a slot forgotten -/
theorem RepE.forget : ∀ {i : Nat} {σ : L2.St} {ρ : Env'} {F : List Addr} {x : Option V}, RepE K B G H σ ρ F → ∃ F', RepE K B G H (σ.set i x) (ρ.set i none) F' ∧ ∀ a ∈ F', a ∈ F
  | i, [], ρ, F, x, h => by
    cases h
    exact ⟨[], .nil, fun a m => m⟩
  | 0, x :: σ, ρ, F, _, h => by
    match ρ, h with
    | y :: ρ, h =>
      obtain ⟨F1, F2, rfl, t, _, _⟩ := h.pop
      exact ⟨F2, .non t, fun a m => List.mem_append_right _ m⟩
  | i + 1, x :: σ, ρ, F, _, h => by
    match ρ, h with
    | y :: ρ, h =>
      obtain ⟨F1, F2, rfl, t, n1, g⟩ := h.pop
      obtain ⟨F', r, c⟩ := RepE.forget (i := i) t
      cases y with
      | none => exact ⟨F', .non r, fun a m => List.mem_append_right _ (c a m)⟩
      | some n2 =>
        obtain ⟨v2, rfl, q⟩ := g n2 rfl
        exact ⟨F1 ++ F', q.push r (fun a m z => n1 a m (c a z)), fun a m => (List.mem_append.mp m).elim (fun m => List.mem_append_left _ m) fun m => List.mem_append_right _ (c a m)⟩
/-- a slot's own things are changed -/
theorem RepE.change : ∀ {i : Nat} {σ : L2.St} {ρ : Env'} {F : List Addr} {n : En}, RepE K B G H σ ρ F → ρ[i]? = some (some n) → ∃ v F1, σ[i]? = some (some v) ∧ RepN K B G H v n F1 ∧ (∀ a ∈ F1, a ∈ F) ∧
    ∀ (G' H' : Hp) (n' : En) (F1' : List Addr), Same G G' → (∀ a ∈ F, a ∉ F1 → G' a = none ∧ ∀ u, H a = some u → H' a = some u) → RepN K B G' H' v n' F1' → (∀ a ∈ F1', a ∈ F1 ∨ a ∉ F) →
      ∃ F', RepE K B G' H' σ (ρ.set i (some n')) F' ∧ ∀ a ∈ F', a ∈ F ∨ a ∈ F1'
  | i, [], ρ, F, n, h, e => by
    cases h
    simp at e
  | 0, x :: σ, ρ, F, n, h, e => by
    match ρ, h, e with
    | y :: ρ, h, e =>
      obtain ⟨F1, F2, rfl, t, dj, k⟩ := h.pop
      obtain ⟨v, rfl, r⟩ := k n (by simpa using e)
      refine ⟨v, F1, rfl, r, fun a m => List.mem_append_left _ m, fun G' H' n' F1' sG ot r' c => ⟨F1' ++ F2, ?_, fun a m => ?_⟩⟩
      · refine r'.push (t.mono sG (fun a m => ?_) (fun a m => ?_)) (fun a m z => ?_)
        · exact (ot a (List.mem_append_right _ m) (fun z => dj a z m)).1
        · exact (ot a (List.mem_append_right _ m) (fun z => dj a z m)).2
        · rcases c a m with m | m
          · exact dj a m z
          · exact m (List.mem_append_right _ z)
      · exact (List.mem_append.mp m).elim .inr fun m => .inl (List.mem_append_right _ m)
  | i + 1, x :: σ, ρ, F, n, h, e => by
    match ρ, h, e with
    | y :: ρ, h, e =>
      obtain ⟨F1, F2, rfl, t, dj, g⟩ := h.pop
      obtain ⟨v, F3, e1, r, k, go⟩ := RepE.change (i := i) t (by simpa using e)
      refine ⟨v, F3, by simpa using e1, r, fun a m => List.mem_append_right _ (k a m), fun G' H' n' F1' sG ot r' c => ?_⟩
      obtain ⟨F', q, c2⟩ := go G' H' n' F1' sG (fun a m z => ot a (List.mem_append_right _ m) z) r' (fun a m => (c a m).elim .inl fun m => .inr fun z => m (List.mem_append_right _ z))
      cases y with
      | none => exact ⟨F', .non q, fun a m => (c2 a m).elim (fun m => .inl (List.mem_append_right _ m)) .inr⟩
      | some n2 =>
        obtain ⟨v2, rfl, q2⟩ := g n2 rfl
        have no : ∀ a ∈ F1, a ∉ F3 := fun a m z => dj a m (k a z)
        refine ⟨F1 ++ F', (q2.mono sG (fun a m => (ot a (List.mem_append_left _ m) (no a m)).1) (fun a m => (ot a (List.mem_append_left _ m) (no a m)).2)).push q (fun a m z => ?_), fun a m => ?_⟩
        · rcases c2 a z with z | z
          · exact dj a m z
          · rcases c a z with z | z
            · exact dj a m (k a z)
            · exact z (List.mem_append_left _ m)
        · rcases List.mem_append.mp m with m | m
          · exact .inl (List.mem_append_left _ m)
          · exact (c2 a m).elim (fun m => .inl (List.mem_append_right _ m)) .inr
def En.frz : En → En
  | .l xs => .d (.list (eraseAll xs))
  | .o _ C fs => .d (obD C fs)
  | n => n
def frz (ρ : Env') : Env' := ρ.map fun x => x.map En.frz
/-- all that is one's own is frozen -/
theorem RepE.freeze (e : Same G G') : ∀ {σ : L2.St} {ρ : Env'} {F : List Addr}, RepE K B G H σ ρ F → (∀ a ∈ F, ∀ u, H a = some u → G' a = some u) → RepE K B G' H σ (frz ρ) []
  | _, _, _, .nil, _ => .nil
  | _, _, _, .non t, k => .non (RepE.freeze e t k)
  | _, _, _, .d h t, k => .d (h.same e) (RepE.freeze e t k)
  | _, _, _, .l r t n, k => .d (r.freeze e fun a m => k a (List.mem_append_left _ m)) (RepE.freeze e t fun a m => k a (List.mem_append_right _ m))
  | _, _, _, .bag h t, k => .bag h (RepE.freeze e t k)
  | _, _, _, .o r t n, k => .d (r.freeze e fun a m => k a (List.mem_append_left _ m)) (RepE.freeze e t fun a m => k a (List.mem_append_right _ m))
end

/-- where a def stands: its own frame -/
structure Wd (K : PySem.W.Frag) (G0 H0 : Hp) (B : Option (Addr × Addr)) (G H : Hp) (σ : L2.St) (ρ : Env') (F : List Addr) : Prop where
  sGH : Same G H
  sG : Same G0 G
  fr : ∀ a, G a ≠ none → G0 a ≠ none ∨ H0 a = none
  keep : ∀ a u, H0 a = some u → NotB B a → H a = some u
  own : ∀ a ∈ F, H0 a = none
  bag : ∀ b, B = some b → BagAt G H b ∧ G b.1 = none ∧ H0 b.1 ≠ none
  env : RepE K B G H σ ρ F
/-- an expression's step -/
structure Stp (B : Option (Addr × Addr)) (G H G' H' : Hp) : Prop where
  keep : ∀ a u, H a = some u → NotB B a → H' a = some u
  sG : Same G G'
  sGH : Same G' H'
  fr : ∀ a, G' a ≠ none → G a ≠ none ∨ H a = none
  bag : ∀ b, B = some b → BagAt G H b → BagAt G' H' b
section
variable {K : PySem.W.Frag} {B : Option (Addr × Addr)} {G0 H0 G H G' H' G2 H2 : Hp} {σ : L2.St} {ρ : Env'} {F : List Addr}
theorem Stp.refl (e : Same G H) : Stp B G H G H := ⟨fun _ _ h _ => h, Same.refl _, e, fun _ h => .inl h, fun _ _ h => h⟩
theorem isB {a : Addr} (h : ¬ NotB B a) : ∃ c, B = some (a, c) := Classical.byContradiction fun k => h fun c e => k ⟨c, e⟩
theorem BagAt.some {b : Addr × Addr} (h : BagAt G H b) : H b.1 ≠ none := by
  obtain ⟨g, s, i, ns, e, _⟩ := h
  rw [e]
  exact nofun
theorem Stp.trans (s : Stp B G H G' H') (t : Stp B G' H' G2 H2) (hb : ∀ b, B = some b → BagAt G H b) : Stp B G H G2 H2 where
  keep a u h n := t.keep a u (s.keep a u h n) n
  sG := s.sG.trans t.sG
  sGH := t.sGH
  fr a h := by
    rcases t.fr a h with h | h
    · exact s.fr a h
    · cases e : H a with
      | none => exact .inr rfl
      | some u =>
        by_cases n : NotB B a
        · rw [s.keep a u e n] at h
          cases h
        · obtain ⟨c, n⟩ := isB n
          exact absurd h (s.bag _ n (hb _ n)).some
  bag b e h := t.bag b e (s.bag b e h)
theorem Wd.step (w : Wd K G0 H0 B G H σ ρ F) (s : Stp B G H G' H') : Wd K G0 H0 B G' H' σ ρ F where
  sGH := s.sGH
  sG := w.sG.trans s.sG
  fr a h := by
    rcases s.fr a h with h | h
    · exact w.fr a h
    · cases e : H0 a with
      | none => exact .inr rfl
      | some u =>
        by_cases n : NotB B a
        · rw [w.keep a u e n] at h
          cases h
        · obtain ⟨c, n⟩ := isB n
          exact absurd h (w.bag _ n).1.some
  keep a u h n := s.keep a u (w.keep a u h n) n
  own := w.own
  bag b e := by
    obtain ⟨h1, h2, h3⟩ := w.bag b e
    refine ⟨s.bag b e h1, ?_, h3⟩
    cases q : G' b.1 with
    | none => rfl
    | some u =>
      rcases s.fr b.1 (by rw [q]; exact nofun) with z | z
      · exact absurd h2 z
      · exact absurd z h1.some
  env := by
    have nb : ∀ a ∈ F, NotB B a := fun a m c e => (w.bag _ e).2.2 (w.own a m)
    refine w.env.mono s.sG (fun a m => ?_) (fun a m u h => s.keep a u h (nb a m))
    obtain ⟨h1, h2⟩ := w.env.dom a m
    cases q : G' a with
    | none => rfl
    | some u =>
      rcases s.fr a (by rw [q]; exact nofun) with z | z
      · exact absurd h1 z
      · exact absurd z h2
/-- a new thing is laid and frozen -/
theorem Stp.lay {p : Addr} {o : HO} (e : Same G H) (n : H p = none) : Stp B G H (upd G p o) (upd H p o) where
  keep a u h _ := by rw [upd_ne (ne_of_none h n)]; exact h
  sG a u h := by rw [upd_ne (ne_of_none (e _ _ h) n)]; exact h
  sGH a u h := by
    by_cases z : a = p
    · subst z
      rw [upd_same] at h ⊢
      exact h
    · rw [upd_ne z] at h ⊢
      exact e _ _ h
  fr a h := by
    by_cases z : a = p
    · subst z
      exact .inr n
    · rw [upd_ne z] at h
      exact .inl h
  bag b _ h := by
    obtain ⟨g, s, i, ns, h1, h2, h3⟩ := h
    exact ⟨g, s, i, ns, by rw [upd_ne (ne_of_none h1 n)]; exact h1, by rw [upd_ne (ne_of_none (e _ _ h2) n)]; exact h2, h3⟩
/-- a new thing is laid, and stays one's own -/
theorem Stp.new {p : Addr} {o : HO} (e : Same G H) (n : H p = none) : Stp B G H G (upd H p o) where
  keep a u h _ := by rw [upd_ne (ne_of_none h n)]; exact h
  sG := Same.refl _
  sGH a u h := by rw [upd_ne (ne_of_none (e _ _ h) n)]; exact e _ _ h
  fr a h := .inl h
  bag b _ h := by
    obtain ⟨g, s, i, ns, h1, h2, h3⟩ := h
    exact ⟨g, s, i, ns, by rw [upd_ne (ne_of_none h1 n)]; exact h1, h2, h3⟩
theorem RepO.step {v : V} {o : O} {Fv : List Addr} (r : RepO K G H v o Fv) (s : Stp B G H G' H') (nb : ∀ a ∈ Fv, NotB B a) : RepO K G' H' v o Fv := by
  refine r.mono s.sG (fun a m => ?_) (fun a m u h => s.keep a u h (nb a m))
  obtain ⟨h1, h2⟩ := r.dom a m
  cases q : G' a with
  | none => rfl
  | some u =>
    rcases s.fr a (by rw [q]; exact nofun) with z | z
    · exact absurd h1 z
    · exact absurd z h2
end
end DL
set_option Elab.async false
set_option linter.all false
set_option maxRecDepth 100000
set_option maxHeartbeats 1000000
/-! DL2: expressions over data -/
namespace DL
open PySem PySem.Spec PyProof.Rows L2 GL
abbrev DT := Env' → (PyData → Prop) → Prop
abbrev OT := Env' → (O → Prop) → Prop
abbrev BT := Env' → (Bool → Prop) → Prop
abbrev LT := Env' → (List PyData → Prop) → Prop
def liftE (K : PySem.W.Frag) (T : DT) : TE := fun σ H Q => ∃ G0 H0 B G ρ F P, Wd K G0 H0 B G H σ ρ F ∧ T ρ P ∧ ∀ d G' H' v, P d → Stp B G H G' H' → Dr K G' v d → Q v H'
def liftO (K : PySem.W.Frag) (T : OT) : TE := fun σ H Q => ∃ G0 H0 B G ρ F P, Wd K G0 H0 B G H σ ρ F ∧ T ρ P ∧ ∀ o G' H' v Fv, P o → Stp B G H G' H' → RepO K G' H' v o Fv → (∀ a ∈ Fv, H a = none) → Q v H'
def liftB (K : PySem.W.Frag) (T : BT) : TT := fun σ H Q => ∃ G0 H0 B G ρ F P, Wd K G0 H0 B G H σ ρ F ∧ T ρ P ∧ ∀ b G' H', P b → Stp B G H G' H' → Q b H'
def liftL (K : PySem.W.Frag) (n : Nat) (T : LT) : TA := fun σ H Q => ∃ G0 H0 B G ρ F P, Wd K G0 H0 B G H σ ρ F ∧ T ρ P ∧ ∀ ds G' H' vs, P ds → ds.length = n → Stp B G H G' H' → DrAll K G' vs ds → Q vs H'
structure DE (K : PySem.W.Frag) (X : Cx) (e : Expr) (T : DT) : Prop where
  pe : PE X e (liftE K T)
structure DO (K : PySem.W.Frag) (X : Cx) (e : Expr) (T : OT) : Prop where
  pe : PE X e (liftO K T)
structure DB (K : PySem.W.Frag) (X : Cx) (e : Expr) (T : BT) : Prop where
  pt : PT X e (liftB K T)
structure DW (K : PySem.W.Frag) (X : Cx) (e : Expr) (T : BT) : Prop where
  pw : PW X e (liftB K T)
structure DA (K : PySem.W.Frag) (X : Cx) (es : List Expr) (T : LT) : Prop where
  pa : PA X es (liftL K es.length T)
theorem PE.weak {X : Cx} {e : Expr} {t t' : TE} (h : PE X e t) (k : ∀ σ H Q, t' σ H Q → t σ H Q) : PE X e t' := ⟨fun pins s σ H Q I q => h.run pins s σ H Q I (k σ H Q q)⟩
theorem PT.weak {X : Cx} {e : Expr} {t t' : TT} (h : PT X e t) (k : ∀ σ H Q, t' σ H Q → t σ H Q) : PT X e t' := ⟨fun pins s σ H Q I q => h.run pins s σ H Q I (k σ H Q q)⟩
theorem PW.weak {X : Cx} {e : Expr} {t t' : TT} (h : PW X e t) (k : ∀ σ H Q, t' σ H Q → t σ H Q) : PW X e t' := ⟨fun wh pins s σ H Q I q => h.run wh pins s σ H Q I (k σ H Q q)⟩
theorem PA.weak {X : Cx} {es : List Expr} {t t' : TA} (h : PA X es t) (k : ∀ σ H Q, t' σ H Q → t σ H Q) : PA X es t' := ⟨fun pos pins s σ H Q I q => h.run pos pins s σ H Q I (k σ H Q q)⟩
theorem Wd.bags {K : PySem.W.Frag} {B : Option (Addr × Addr)} {G0 H0 G H : Hp} {σ : L2.St} {ρ : Env'} {F : List Addr} (w : Wd K G0 H0 B G H σ ρ F) : ∀ b, B = some b → BagAt G H b := fun b e => (w.bag b e).1

section
variable {K : PySem.W.Frag} {X : Cx} {e a b c : Expr} {es : List Expr} {Ta Tb Tc : DT} {To : OT} {Tt Tu : BT} {pos : Pos}
/-- frozen -/
theorem DO.d (h : DO K X e To) : DE K X e (fun ρ P => To ρ fun o => P o.erase) := by
  refine ⟨PE.weak h.pe fun σ H Q h => ?_⟩
  obtain ⟨G0, H0, B, G, ρ, F, P, w, t, k⟩ := h
  refine ⟨G0, H0, B, G, ρ, F, _, w, t, fun o G' H' v Fv p s r n => ?_⟩
  have h1 := fun a m => (r.dom a m).1
  refine k o.erase (addF G' H' Fv) H' v p ⟨s.keep, s.sG.trans (addF_ext h1), addF_sub s.sGH, fun a q => ?_, fun b e h => ?_⟩ (r.freeze (addF_ext h1) fun a m u e => by rw [addF_in m]; exact e)
  · by_cases m : a ∈ Fv
    · exact .inr (n a m)
    · rw [addF_out m] at q
      exact s.fr a q
  · obtain ⟨g, s', i, ns, e1, e2, e3⟩ := s.bag b e h
    exact ⟨g, s', i, ns, e1, addF_ext h1 _ _ e2, e3⟩
theorem DE.o (h : DE K X e Ta) : DO K X e (fun ρ P => Ta ρ fun d => P (.dat d)) := by
  refine ⟨PE.weak h.pe fun σ H Q h => ?_⟩
  obtain ⟨G0, H0, B, G, ρ, F, P, w, t, k⟩ := h
  exact ⟨G0, H0, B, G, ρ, F, _, w, t, fun d G' H' v p s r => k _ G' H' v [] p s (.dat r) fun _ m => nomatch m⟩
/-- a constant -/
theorem de_c {v : V} {d : PyData} (h : PE X e (tC v)) (hd : ∀ G, Dr K G v d) : DE K X e (fun _ P => P d) := by
  refine ⟨PE.weak h fun σ H Q h => ?_⟩
  obtain ⟨G0, H0, B, G, ρ, F, P, w, t, k⟩ := h
  exact k d G H v t (.refl w.sGH) (hd G)
theorem de_int {i j pos} : DE K X (.Constant (.int i) j pos) (fun _ P => P (.int i)) := de_c pe_int fun _ => .int i
theorem de_bl {b j pos} : DE K X (.Constant (.bool b) j pos) (fun _ P => P (.bool b)) := de_c pe_bl fun _ => .bl b
theorem de_non {j pos} : DE K X (.Constant .none j pos) (fun _ P => P .none) := de_c pe_non fun _ => .non
theorem de_str {x j pos} : DE K X (.Constant (.str x) j pos) (fun _ P => P (.str x)) := de_c pe_str fun _ => .str x
/-- a name that holds data -/
theorem de_v {i : Nat} (h : PE X e (tVar i)) : DE K X e (fun ρ P => ∃ d, ρ[i]? = some (some (.d d)) ∧ P d) := by
  refine ⟨PE.weak h fun σ H Q h => ?_⟩
  obtain ⟨G0, H0, B, G, ρ, F, P, w, ⟨d, e1, t⟩, k⟩ := h
  obtain ⟨v, F1, e2, r, _⟩ := w.env.get e1
  cases r with
  | d r => exact ⟨v, e2, k d G H v t (.refl w.sGH) r⟩
/-- a flat answer, all that is one's own being read -/
def flatD : PyData → Bool
  | .list _ => false
  | .tuple _ => false
  | .dict _ => false
  | _ => true
theorem Dr.flat {G G' : Hp} {v : V} {d : PyData} (h : Dr K G v d) (f : flatD d = true) : Dr K G' v d := by
  cases h with
  | non => exact .non
  | bl b => exact .bl b
  | int i => exact .int i
  | str x => exact .str x
  | lst a b => cases f
  | tup a b => cases f
  | dct a b => cases f
  | ins _ _ _ _ => cases f
theorem frz_wd {G0 H0 : Hp} {B : Option (Addr × Addr)} {G H : Hp} {σ : L2.St} {ρ : Env'} {F : List Addr} (w : Wd K G0 H0 B G H σ ρ F) : Wd K G0 H0 B (addF G H F) H σ (frz ρ) [] := by
  have h1 := fun a m => (w.env.dom a m).1
  refine ⟨addF_sub w.sGH, w.sG.trans (addF_ext h1), fun a q => ?_, w.keep, fun _ m => (nomatch m), fun b e => ?_, w.env.freeze (addF_ext h1) fun a m u e => by rw [addF_in m]; exact e⟩
  · by_cases m : a ∈ F
    · exact .inr (w.own a m)
    · rw [addF_out m] at q
      exact w.fr a q
  · obtain ⟨⟨g, s', i, ns, e1, e2, e3⟩, g2, g3⟩ := w.bag b e
    have nb : b.1 ∉ F := fun m => g3 (w.own b.1 m)
    exact ⟨⟨g, s', i, ns, e1, addF_ext h1 _ _ e2, e3⟩, by rw [addF_out nb]; exact g2, g3⟩
theorem frz_back {G0 H0 : Hp} {B : Option (Addr × Addr)} {G H G' H' : Hp} {σ : L2.St} {ρ : Env'} {F : List Addr} (w : Wd K G0 H0 B G H σ ρ F) (s : Stp B (addF G H F) H G' H') : Stp B G H G H' := by
  have h1 := fun a m => (w.env.dom a m).1
  refine ⟨s.keep, Same.refl _, fun a u e => s.sGH _ _ (s.sG _ _ (addF_ext h1 _ _ e)), fun a h => .inl h, fun b e h => ?_⟩
  obtain ⟨g, s', i, ns, e1, e2, e3⟩ := h
  obtain ⟨g', s'', i', ns', k1, k2, k3⟩ := s.bag b e ⟨g, s', i, ns, e1, addF_ext h1 _ _ e2, e3⟩
  exact ⟨g', s'', i', ns, k1, e2, k3⟩
theorem de_flat (h : DE K X e Ta) : DE K X e (fun ρ P => Ta (frz ρ) fun d => flatD d = true ∧ P d) := by
  refine ⟨PE.weak h.pe fun σ H Q h => ?_⟩
  obtain ⟨G0, H0, B, G, ρ, F, P, w, t, k⟩ := h
  exact ⟨G0, H0, B, _, _, _, _, frz_wd w, t, fun d G' H' v p s r => k d G H' v p.2 (frz_back w s) (r.flat p.1)⟩
theorem db_flat (h : DB K X e Tt) : DB K X e (fun ρ P => Tt (frz ρ) P) := by
  refine ⟨PT.weak h.pt fun σ H Q h => ?_⟩
  obtain ⟨G0, H0, B, G, ρ, F, P, w, t, k⟩ := h
  exact ⟨G0, H0, B, _, _, _, _, frz_wd w, t, fun d G' H' p s => k d G H' p (frz_back w s)⟩

/-! ### arguments -/
theorem da_nil : DA K X [] (fun _ P => P []) := by
  refine ⟨PA.weak pa_nil fun σ H Q h => ?_⟩
  obtain ⟨G0, H0, B, G, ρ, F, P, w, t, k⟩ := h
  exact k [] G H [] t rfl (.refl w.sGH) .nil
theorem da_cons {Tl : LT} (h : DE K X e Ta) (ht : DA K X es Tl) (hs : starEach (e :: es) X.env = (false, eval e X.env) :: starEach es X.env := by rfl) : DA K X (e :: es) (fun ρ P => Ta ρ fun d => Tl ρ fun ds => P (d :: ds)) := by
  refine ⟨PA.weak (pa_cons h.pe ht.pa hs) fun σ H Q h => ?_⟩
  obtain ⟨G0, H0, B, G, ρ, F, P, w, t, k⟩ := h
  refine ⟨G0, H0, B, G, ρ, F, _, w, t, fun d G1 H1 v p1 s1 r1 => ⟨G0, H0, B, G1, ρ, F, _, w.step s1, p1, fun ds G2 H2 vs p2 e2 s2 r2 => ?_⟩⟩
  exact k (d :: ds) G2 H2 (v :: vs) p2 (by rw [List.length_cons, e2, List.length_cons]) (s1.trans s2 w.bags) (.cons (r1.same s2.sG) r2)
theorem small {n : Nat} (h : n ≤ 1000) : n ≤ sizeLine := by
  rw [sizeLine_eq]
  omega
/-- [a, b, ..]: one's own -/
theorem do_lst {Tl : LT} (h : DA K X es Tl) (hn : es.length ≤ 1000 := by decide) : DO K X (.List es pos) (fun ρ P => Tl ρ fun ds => P (.lst (ds.map .dat))) := by
  refine ⟨PE.weak (pe_lst h.pa) fun σ H Q h => ?_⟩
  obtain ⟨G0, H0, B, G, ρ, F, P, w, t, k⟩ := h
  refine ⟨G0, H0, B, G, ρ, F, _, w, t, fun ds G1 H1 vs p e s r => ⟨small (by rw [r.length, e]; exact hn), fun p' np => ?_⟩⟩
  have gp : G1 p' = none := by
    cases q : G1 p' with
    | none => rfl
    | some u => rw [s.sGH _ _ q] at np; cases np
  refine k _ G1 _ (.ref p') (p' :: []) p (s.trans (Stp.new s.sGH np) w.bags) (.lst gp upd_same (.ofDat r) (fun m => nomatch m)) fun a m => ?_
  rw [List.mem_singleton.mp m]
  cases q : H p' with
  | none => rfl
  | some u =>
    by_cases z : NotB B p'
    · rw [s.keep _ _ q z] at np
      cases np
    · obtain ⟨c, z⟩ := isB z
      exact absurd np (s.bag _ z (w.bag _ z).1).some
theorem Stp.none_back {B : Option (Addr × Addr)} {G H G' H' : Hp} (s : Stp B G H G' H') (hb : ∀ b, B = some b → BagAt G H b) {p : Addr} (n : H' p = none) : H p = none := by
  cases q : H p with
  | none => rfl
  | some u =>
    by_cases z : NotB B p
    · rw [s.keep _ _ q z] at n
      cases n
    · obtain ⟨c, z⟩ := isB z
      exact absurd n (s.bag _ z (hb _ z)).some
theorem Stp.gnone {B : Option (Addr × Addr)} {G H G' H' : Hp} (s : Stp B G H G' H') {p : Addr} (n : H' p = none) : G' p = none := by
  cases q : G' p with
  | none => rfl
  | some u => rw [s.sGH _ _ q] at n; cases n
/-- (a, b, ..) -/
theorem de_tup {x1} {Tl : LT} (h : DA K X es Tl) (hn : es.length ≤ 1000 := by decide) : DE K X (.Tuple es x1 pos) (fun ρ P => Tl ρ fun ds => P (.tuple ds)) := by
  refine ⟨PE.weak (pe_tup h.pa) fun σ H Q h => ?_⟩
  obtain ⟨G0, H0, B, G, ρ, F, P, w, t, k⟩ := h
  refine ⟨G0, H0, B, G, ρ, F, _, w, t, fun ds G1 H1 vs p e s r => ⟨small (by rw [r.length, e]; exact hn), fun p' np => ?_⟩⟩
  have s2 := Stp.lay (B := B) (o := .tup vs) s.sGH np
  exact k _ _ _ (.ref p') p (s.trans s2 w.bags) (.tup (.inl (.inl upd_same)) (r.same s2.sG))

/-! ### operators by values -/
/-- what a two-place rule asks, over data -/
def OpData (K : PySem.W.Frag) (r : R2) (R : PyData → PyData → (PyData → Prop) → Prop) : Prop :=
  ∀ (B : Option (Addr × Addr)) (G H : Hp) (d e : PyData) (x y : V) (P : PyData → Prop) (Q : VK), Same G H → Dr K G x d → Dr K G y e → R d e P →
    (∀ d' G' H' v, P d' → Stp B G H G' H' → Dr K G' v d' → Q v H') → r x y H Q
def OpOwn (K : PySem.W.Frag) (r : R2) (R : PyData → PyData → (O → Prop) → Prop) : Prop :=
  ∀ (B : Option (Addr × Addr)) (G H : Hp) (d e : PyData) (x y : V) (P : O → Prop) (Q : VK), Same G H → Dr K G x d → Dr K G y e → R d e P →
    (∀ o G' H' v Fv, P o → Stp B G H G' H' → RepO K G' H' v o Fv → (∀ a ∈ Fv, H a = none) → Q v H') → r x y H Q
section
variable {r : R2} {R : PyData → PyData → (PyData → Prop) → Prop} {Ro : PyData → PyData → (O → Prop) → Prop}
theorem lift2 (hR : OpData K r R) (ha : DE K X a Ta) (hb : DE K X b Tb) (σ : L2.St) (H : Hp) (Q : VK) (h : liftE K (fun ρ P => Ta ρ fun d => Tb ρ fun e => R d e P) σ H Q) : tOp r (liftE K Ta) (liftE K Tb) σ H Q := by
  obtain ⟨G0, H0, B, G, ρ, F, P, w, t, k⟩ := h
  refine ⟨G0, H0, B, G, ρ, F, _, w, t, fun d G1 H1 x p1 s1 r1 => ⟨G0, H0, B, G1, ρ, F, _, w.step s1, p1, fun e G2 H2 y p2 s2 r2 => ?_⟩⟩
  refine hR B G2 H2 d e x y P Q s2.sGH (r1.same s2.sG) r2 p2 fun d' G' H' v p s rv => ?_
  exact k d' G' H' v p ((s1.trans s2 w.bags).trans s w.bags) rv
theorem de_op {op : Operator} (ho : OpR X (binaryOp op) r) (hR : OpData K r R) (ha : DE K X a Ta) (hb : DE K X b Tb) : DE K X (.BinOp a op b pos) (fun ρ P => Ta ρ fun d => Tb ρ fun e => R d e P) :=
  ⟨PE.weak (pe_op ho ha.pe hb.pe) (lift2 hR ha hb)⟩
theorem de_cmp {op : CmpOp} (ho : OpR X (compareOp op) r) (hR : OpData K r R) (ha : DE K X a Ta) (hb : DE K X b Tb) (hm : behindInMarks op b = false) : DE K X (.Compare a [op] [b] pos) (fun ρ P => Ta ρ fun d => Tb ρ fun e => R d e P) :=
  ⟨PE.weak (pe_cmpR ho ha.pe hb.pe hm) (lift2 hR ha hb)⟩
theorem de_ix (hr : IxR X r) (hR : OpData K r R) (ha : DE K X a Ta) (hb : DE K X b Tb) (hs : PlainIx b) : DE K X (.Subscript a b pos) (fun ρ P => Ta ρ fun d => Tb ρ fun e => R d e P) :=
  ⟨PE.weak (pe_ix hr ha.pe hb.pe hs) (lift2 hR ha hb)⟩
theorem db_cmp {op : CmpOp} (ho : OpR X (compareOp op) r) (hR : OpData K r R) (ha : DE K X a Ta) (hb : DE K X b Tb) (hm : behindInMarks op b = false) :
    DB K X (.Compare a [op] [b] pos) (fun ρ P => Ta ρ fun d => Tb ρ fun e => R d e fun x => ∃ k, x = .bool k ∧ P k) := by
  refine ⟨PT.weak (pt_cmpR ho ha.pe hb.pe hm) fun σ H Q h => ?_⟩
  obtain ⟨G0, H0, B, G, ρ, F, P, w, t, k⟩ := h
  refine lift2 hR ha hb σ H _ ⟨G0, H0, B, G, ρ, F, _, w, t, fun d G' H' v p s rv => ?_⟩
  obtain ⟨kk, rfl, p⟩ := p
  exact ⟨kk, rv.bool, k kk G' H' p s⟩
theorem do_op {op : Operator} (ho : OpR X (binaryOp op) r) (hR : OpOwn K r Ro) (ha : DE K X a Ta) (hb : DE K X b Tb) : DO K X (.BinOp a op b pos) (fun ρ P => Ta ρ fun d => Tb ρ fun e => Ro d e P) := by
  refine ⟨PE.weak (pe_op ho ha.pe hb.pe) fun σ H Q h => ?_⟩
  obtain ⟨G0, H0, B, G, ρ, F, P, w, t, k⟩ := h
  refine ⟨G0, H0, B, G, ρ, F, _, w, t, fun d G1 H1 x p1 s1 r1 => ⟨G0, H0, B, G1, ρ, F, _, w.step s1, p1, fun e G2 H2 y p2 s2 r2 => ?_⟩⟩
  refine hR B G2 H2 d e x y P Q s2.sGH (r1.same s2.sG) r2 p2 fun o G' H' v Fv p s rv n => ?_
  have s12 := s1.trans s2 w.bags
  exact k o G' H' v Fv p (s12.trans s w.bags) rv fun a m => s12.none_back w.bags (n a m)
end
section
variable {B : Option (Addr × Addr)}
theorem flat_data {r : R2} {R : PyData → PyData → (PyData → Prop) → Prop} (h : ∀ (G H : Hp) (d e : PyData) (x y : V) (P : PyData → Prop) (Q : VK), Same G H → Dr K G x d → Dr K G y e → R d e P → (∀ d' v, P d' → Dr K G v d' → Q v H) → r x y H Q) : OpData K r R :=
  fun B G H d e x y P Q s dx dy p k => h G H d e x y P Q s dx dy p fun d' v p' r' => k d' G H v p' (.refl s) r'
end
/-! ints -/
def RI (f : Int → Int → PyData) : PyData → PyData → (PyData → Prop) → Prop := fun d e P => ∃ i j, d = .int i ∧ e = .int j ∧ P (f i j)
def RIc (C : Int → Int → Prop) (f : Int → Int → PyData) : PyData → PyData → (PyData → Prop) → Prop := fun d e P => ∃ i j, d = .int i ∧ e = .int j ∧ C i j ∧ P (f i j)
theorem od_I {g : Int → Int → Int} : OpData K (rI0 fun i j => .int (g i j)) (RI fun i j => .int (g i j)) := flat_data fun G H d e x y P Q s dx dy p k => by
  obtain ⟨i, j, rfl, rfl, p⟩ := p
  cases dx
  cases dy
  exact ⟨i, j, rfl, rfl, k _ _ p (.int _)⟩
theorem od_Ib {g : Int → Int → Bool} : OpData K (rI0 fun i j => .bl (g i j)) (RI fun i j => .bool (g i j)) := flat_data fun G H d e x y P Q s dx dy p k => by
  obtain ⟨i, j, rfl, rfl, p⟩ := p
  cases dx
  cases dy
  exact ⟨i, j, rfl, rfl, k _ _ p (.bl _)⟩
theorem od_Ic {C : Int → Int → Prop} {g : Int → Int → Int} : OpData K (rI C fun i j => .int (g i j)) (RIc C fun i j => .int (g i j)) := flat_data fun G H d e x y P Q s dx dy p k => by
  obtain ⟨i, j, rfl, rfl, c, p⟩ := p
  cases dx
  cases dy
  exact ⟨i, j, rfl, rfl, c, k _ _ p (.int _)⟩
/-! == of flat things -/
def eqS : PyData → PyData → Option Bool
  | .none, .none => some true
  | .none, .int _ => some false
  | .none, .bool _ => some false
  | .none, .str _ => some false
  | .int _, .none => some false
  | .bool _, .none => some false
  | .str _, .none => some false
  | .int i, .int j => some (decide (i = j))
  | .bool i, .bool j => some (decide (i = j))
  | .str x, .str y => some (decide (x = y))
  | .int _, .str _ => some false
  | .str _, .int _ => some false
  | .bool _, .str _ => some false
  | .str _, .bool _ => some false
  | _, _ => none
def RS (n : Bool) : PyData → PyData → (PyData → Prop) → Prop := fun d e P => ∃ b, eqS d e = some b ∧ P (.bool (b ^^ n))
theorem eqS_scal {G : Hp} {x y : V} {d e : PyData} {b : Bool} (dx : Dr K G x d) (dy : Dr K G y e) (h : eqS d e = some b) : scal x y = true ∧ decide (x = y) = b := by
  cases dx <;> cases dy <;> simp only [eqS, reduceCtorEq, Option.some.injEq] at h <;> first | (subst h; refine ⟨rfl, ?_⟩; simp) | cases h
theorem od_eq : OpData K rEq (RS false) := flat_data fun G H d e x y P Q s dx dy p k => by
  obtain ⟨b, h, p⟩ := p
  obtain ⟨h1, h2⟩ := eqS_scal dx dy h
  rw [Bool.xor_false] at p
  exact ⟨h1, by rw [h2]; exact k _ _ p (.bl b)⟩
theorem od_ne : OpData K rNe (RS true) := flat_data fun G H d e x y P Q s dx dy p k => by
  obtain ⟨b, h, p⟩ := p
  obtain ⟨h1, h2⟩ := eqS_scal dx dy h
  rw [Bool.xor_true] at p
  exact ⟨h1, by rw [h2]; exact k _ _ p (.bl _)⟩
/-! == of data -/
def RD (n : Bool) : PyData → PyData → (PyData → Prop) → Prop := fun d e P => d.hasDict = false ∧ e.hasDict = false ∧ SeqAt.shaped d = true ∧ SeqAt.shaped e = true ∧ P (.bool (PyData.eqv d e ^^ n))
theorem od_eqD : OpData K (rEqD K) (RD false) := flat_data fun G H d e x y P Q s dx dy p k => by
  obtain ⟨h1, h2, h3, h4, p⟩ := p
  rw [Bool.xor_false] at p
  exact ⟨d, e, Dp.same s (dx.dp h1), Dp.same s (dy.dp h2), h3, h4, k _ _ p (.bl _)⟩
theorem od_neD : OpData K (rNeD K) (RD true) := flat_data fun G H d e x y P Q s dx dy p k => by
  obtain ⟨h1, h2, h3, h4, p⟩ := p
  rw [Bool.xor_true] at p
  exact ⟨d, e, Dp.same s (dx.dp h1), Dp.same s (dy.dp h2), h3, h4, k _ _ p (.bl _)⟩
/-! is None -/
def isNon : PyData → Bool
  | .none => true
  | _ => false
theorem isNon_v {G : Hp} {x : V} {d : PyData} (dx : Dr K G x d) : decide (x = .non) = isNon d := by cases dx <;> simp [isNon]
theorem od_isN : OpData K (fun x y H Q => y = .non ∧ Q (.bl (decide (x = .non))) H) (fun d e P => e = .none ∧ P (.bool (isNon d))) := flat_data fun G H d e x y P Q s dx dy p k => by
  obtain ⟨rfl, p⟩ := p
  cases dy
  exact ⟨rfl, by rw [isNon_v dx]; exact k _ _ p (.bl _)⟩
theorem od_notN : OpData K (fun x y H Q => y = .non ∧ Q (.bl (!decide (x = .non))) H) (fun d e P => e = .none ∧ P (.bool (!isNon d))) := flat_data fun G H d e x y P Q s dx dy p k => by
  obtain ⟨rfl, p⟩ := p
  cases dy
  exact ⟨rfl, by rw [isNon_v dx]; exact k _ _ p (.bl _)⟩
/-! texts -/
theorem od_addS : OpData K (fun x y H Q => ∃ i j, x = .str i ∧ y = .str j ∧ i.length + j.length ≤ sizeLine ∧ Q (.str (i ++ j)) H) (fun d e P => ∃ i j, d = .str i ∧ e = .str j ∧ i.length + j.length ≤ sizeLine ∧ P (.str (i ++ j))) := flat_data fun G H d e x y P Q s dx dy p k => by
  obtain ⟨i, j, rfl, rfl, c, p⟩ := p
  cases dx
  cases dy
  exact ⟨i, j, rfl, rfl, c, k _ _ p (.str _)⟩
theorem od_mulS : OpData K (fun x y H Q => ∃ (z : Str) (n : Int), x = .str z ∧ y = .int n ∧ 0 ≤ n ∧ n ≤ 1000 ∧ z.length ≤ 1000 ∧ Q (.str (Txt.mul z n)) H)
    (fun d e P => ∃ (z : Str) (n : Int), d = .str z ∧ e = .int n ∧ 0 ≤ n ∧ n ≤ 1000 ∧ z.length ≤ 1000 ∧ P (.str (Txt.mul z n))) := flat_data fun G H d e x y P Q s dx dy p k => by
  obtain ⟨i, j, rfl, rfl, c1, c2, c3, p⟩ := p
  cases dx
  cases dy
  exact ⟨i, j, rfl, rfl, c1, c2, c3, k _ _ p (.str _)⟩
/-! places -/
theorem atI_map {α β : Type} (f : α → β) (xs : List α) (i : Int) : atI (xs.map f) i = (atI xs i).map f := by
  unfold atI
  rw [List.length_map]
  cases ixN xs.length i with
  | none => rfl
  | some j => simp
theorem atI_dr {G : Hp} {vs : List V} {ds : List PyData} {i : Int} {d : PyData} (h : DrAll K G vs ds) (e : atI ds i = some d) : ∃ v, atI vs i = some v ∧ Dr K G v d := by
  unfold atI at e ⊢
  rw [h.length]
  cases q : ixN ds.length i with
  | none => rw [q] at e; cases e
  | some j =>
    rw [q] at e
    exact h.get e
theorem od_ixT : OpData K (rIxT K) (fun d e P => ∃ ds i d', d = .tuple ds ∧ e = .int i ∧ atI ds i = some d' ∧ P d') := flat_data fun G H d e x y P Q s dx dy p k => by
  obtain ⟨ds, i, d', rfl, rfl, h, p⟩ := p
  cases dy
  cases dx with
  | tup h1 h2 =>
    obtain ⟨v, h3, h4⟩ := atI_dr h2 h
    exact ⟨_, _, i, v, rfl, rfl, Same.seqT s h1, h3, k _ _ p h4⟩
theorem od_ixL : OpData K (rIxL K) (fun d e P => ∃ ds i d', d = .list ds ∧ e = .int i ∧ atI ds i = some d' ∧ P d') := flat_data fun G H d e x y P Q s dx dy p k => by
  obtain ⟨ds, i, d', rfl, rfl, h, p⟩ := p
  cases dy
  cases dx with
  | lst h1 h2 =>
    obtain ⟨v, h3, h4⟩ := atI_dr h2 h
    exact ⟨_, _, i, v, rfl, rfl, .inl (.inl (s _ _ h1)), h3, k _ _ p h4⟩
theorem od_ixS : OpData K rIxS (fun d e P => ∃ z i c, d = .str z ∧ e = .int i ∧ z.length ≤ sizeLine ∧ atI z.cps.toList i = some c ∧ P (.str ⟨#[c]⟩)) := flat_data fun G H d e x y P Q s dx dy p k => by
  obtain ⟨z, i, c, rfl, rfl, l, h, p⟩ := p
  cases dy
  cases dx
  exact ⟨z, i, c, rfl, rfl, l, h, k _ _ p (.str _)⟩
/-- lists, tuples: their items -/
def items : PyData → Option (List PyData)
  | .list ds => some ds
  | .tuple ds => some ds
  | _ => none
theorem Dr.items {G : Hp} {x : V} {d : PyData} {ds : List PyData} (dx : Dr K G x d) (h : DL.items d = some ds) : ∃ p vs, x = .ref p ∧ (SqL K G p vs ∨ SqT K G p vs) ∧ DrAll K G vs ds := by
  cases dx with
  | lst h1 h2 => cases h; exact ⟨_, _, rfl, .inl (.inl (.inl h1)), h2⟩
  | tup h1 h2 => cases h; exact ⟨_, _, rfl, .inr h1, h2⟩
  | _ => cases h
theorem sq_same {G H : Hp} {p : Addr} {vs : List V} (s : Same G H) (h : SqL K G p vs ∨ SqT K G p vs) : SqL K H p vs ∨ SqT K H p vs := h.imp (fun h => s.seq h) (fun h => Same.seqT s h)
/-! + of lists and tuples -/
def rCatR : R2 := fun x y H Q => ∃ l b xs zs, x = .ref l ∧ y = .ref b ∧ Rd H l (.lst xs) ∧ Rd H b (.lst zs) ∧ xs.length + zs.length ≤ sizeLine ∧ ∀ p, H p = none → Q (.ref p) (upd H p (.lst (xs ++ zs)))
theorem op_catR : OpR X (binaryOp .Add) rCatR := by
  intro pins s σ H x y v u Q I rx ry h
  obtain ⟨l, b, xs, zs, rfl, rfl, h1, h2, room, q⟩ := h
  cases rx
  cases ry
  obtain ⟨_, its, _, r, e⟩ := h1.ok I.hok
  obtain ⟨_, its2, _, r2, e2⟩ := h2.ok I.hok
  have n1 := r.length
  have n2 := r2.length
  refine PySem.P.add_list e e2 ?_ (by rw [List.size_toArray, List.size_toArray]; omega)
  rw [show its.toArray ++ its2.toArray = (its ++ its2).toArray by simp]
  exact ⟨.ref _, _, I.lnew (t' := s.toks) (r.append r2) (by rw [List.length_append]; exact room), rfl, q _ I.fresh⟩
theorem new_own {B : Option (Addr × Addr)} {G H : Hp} {p : Addr} {vs : List V} {ds : List PyData} {Q : VK} {P : O → Prop} (s : Same G H) (np : H p = none) (r : DrAll K G vs ds) (h : P (.lst (ds.map .dat)))
    (k : ∀ o G' H' v Fv, P o → Stp B G H G' H' → RepO K G' H' v o Fv → (∀ a ∈ Fv, H a = none) → Q v H') : Q (.ref p) (upd H p (.lst vs)) := by
  have gp : G p = none := by
    cases q : G p with
    | none => rfl
    | some u => rw [s _ _ q] at np; cases np
  exact k _ G _ (.ref p) [p] h (Stp.new s np) (.lst gp upd_same (.ofDat r) (fun m => nomatch m)) fun a m => by rw [List.mem_singleton.mp m]; exact np
theorem ow_cat : OpOwn K rCatR (fun d e P => ∃ ds es, d = .list ds ∧ e = .list es ∧ ds.length + es.length ≤ sizeLine ∧ P (.lst ((ds ++ es).map .dat))) := by
  intro B G H d e x y P Q s dx dy p k
  obtain ⟨ds, es, rfl, rfl, hl, p⟩ := p
  cases dx with
  | lst h1 h2 =>
    cases dy with
    | lst h3 h4 => exact ⟨_, _, _, _, rfl, rfl, .inl (s _ _ h1), .inl (s _ _ h3), by rw [h2.length, h4.length]; exact hl, fun q nq => new_own s nq (h2.append h4) p k⟩
theorem od_catT : OpData K (rCatA K) (fun d e P => ∃ ds es, d = .tuple ds ∧ e = .tuple es ∧ ds.length + es.length ≤ sizeLine ∧ P (.tuple (ds ++ es))) := by
  intro B G H d e x y P Q s dx dy p k
  obtain ⟨ds, es, rfl, rfl, hl, p⟩ := p
  cases dx with
  | @tup a xs _ h1 h2 =>
    cases dy with
    | @tup b ys _ h3 h4 =>
      refine ⟨_, _, _, _, rfl, rfl, Same.seqT s h1, Same.seqT s h3, by rw [h2.length, h4.length]; exact hl, fun z => ?_, fun _ z => ?_, fun _ z q nq => ?_⟩
      · subst z
        cases h2
        rw [List.nil_append] at p
        exact k _ G H _ p (.refl s) (.tup h3 h4)
      · subst z
        cases h4
        rw [List.append_nil] at p
        exact k _ G H _ p (.refl s) (.tup h1 h2)
      · have s2 := Stp.lay (B := B) (o := .tup (xs ++ ys)) s nq
        exact k _ _ _ _ p s2 (.tup (.inl (.inl upd_same)) ((h2.append h4).same s2.sG))
/-- a list times an int -/
def rRepR : R2 := fun x y H Q => ∃ (l : Addr) (k : Int) (xs : List V), x = .ref l ∧ y = .int k ∧ H l = some (.lst xs) ∧ -(2 ^ 63) ≤ k ∧ k < 2 ^ 63 ∧ xs.length * k.toNat ≤ sizeLine ∧ ∀ p, H p = none → Q (.ref p) (upd H p (.lst (List.replicate k.toNat xs).flatten))

/-! ### slices -/
def cutD (xs : List PyData) (lo hi : Option Int) : List PyData := (xs.drop (HT.sIx xs.length 0 lo)).take (HT.sIx xs.length xs.length hi - HT.sIx xs.length 0 lo)
theorem cut_dr {G : Hp} {vs : List V} {ds : List PyData} (h : DrAll K G vs ds) (lo hi : Option Int) : DrAll K G (cutV vs lo hi) (cutD ds lo hi) := by
  unfold cutV cutD
  rw [h.length]
  exact (h.drop _).take _
/-- an end of a slice -/
def IntO (T : Env' → (Option Int → Prop) → Prop) (K : PySem.W.Frag) (X : Cx) (e : Option Expr) : Prop :=
  PO X e (fun σ H Q => ∃ G0 H0 B G ρ F P, Wd K G0 H0 B G H σ ρ F ∧ T ρ P ∧ ∀ i G' H', P i → Stp B G H G' H' → Q i H')
theorem PO.weak {X : Cx} {e : Option Expr} {t t' : TO} (h : PO X e t) (k : ∀ σ H Q, t' σ H Q → t σ H Q) : PO X e t' := ⟨fun pins s σ H Q I q => h.run pins s σ H Q I (k σ H Q q)⟩
theorem io_none : IntO (fun _ P => P none) K X none := by
  refine PO.weak po_none fun σ H Q h => ?_
  obtain ⟨G0, H0, B, G, ρ, F, P, w, t, k⟩ := h
  exact k none G H t (.refl w.sGH)
theorem io_some (h : DE K X e Ta) : IntO (fun ρ P => Ta ρ fun d => ∃ i, d = .int i ∧ P (some i)) K X (some e) := by
  refine PO.weak (po_some h.pe) fun σ H Q h => ?_
  obtain ⟨G0, H0, B, G, ρ, F, P, w, t, k⟩ := h
  refine ⟨G0, H0, B, G, ρ, F, _, w, t, fun d G' H' v p s r => ?_⟩
  obtain ⟨i, rfl, p⟩ := p
  exact ⟨i, r.tInt, k _ G' H' p s⟩
section
variable {Tl Th : Env' → (Option Int → Prop) → Prop} {lo hi : Option Expr} {p2 : Pos} {r : V → Option Int → Option Int → Hp → VK → Prop}
theorem slice3 {G0 H0 : Hp} {B : Option (Addr × Addr)} {G : Hp} {ρ : Env'} {F : List Addr} {σ : L2.St} {H : Hp} {Q : VK} {P : PyData → Option Int → Option Int → Prop} (w : Wd K G0 H0 B G H σ ρ F)
    (t : Ta ρ fun d => Tl ρ fun i => Th ρ fun j => P d i j) (k : ∀ d i j G' H' v, P d i j → Stp B G H G' H' → Dr K G' v d → r v i j H' Q) :
    tSl r (liftE K Ta) (fun σ H Q => ∃ G0 H0 B G ρ F P, Wd K G0 H0 B G H σ ρ F ∧ Tl ρ P ∧ ∀ i G' H', P i → Stp B G H G' H' → Q i H')
      (fun σ H Q => ∃ G0 H0 B G ρ F P, Wd K G0 H0 B G H σ ρ F ∧ Th ρ P ∧ ∀ i G' H', P i → Stp B G H G' H' → Q i H') σ H Q := by
  refine ⟨G0, H0, B, G, ρ, F, _, w, t, fun d G1 H1 v p1 s1 r1 => ⟨G0, H0, B, G1, ρ, F, _, w.step s1, p1, fun i G2 H2 p2 s2 => ⟨G0, H0, B, G2, ρ, F, _, (w.step s1).step s2, p2, fun j G3 H3 p3 s3 => ?_⟩⟩⟩
  exact k d i j G3 H3 v p3 ((s1.trans s2 w.bags).trans s3 w.bags) (r1.same (s2.sG.trans s3.sG))
/-- xs[lo:hi] of a list: one's own -/
theorem do_slL (e1 : X.K = K) (h : DE K X e Ta) (hl : IntO Tl K X lo) (hh : IntO Th K X hi) : DO K X (.Subscript e (.Slice lo hi none p2) pos) (fun ρ P => Ta ρ fun d => Tl ρ fun i => Th ρ fun j => ∃ ds, d = .list ds ∧ P (.lst ((cutD ds i j).map .dat))) := by
  subst e1
  refine ⟨PE.weak (pe_slice sl_list h.pe hl hh) fun σ H Q h => ?_⟩
  obtain ⟨G0, H0, B, G, ρ, F, P, w, t, k⟩ := h
  refine slice3 w t fun d i j G' H' v p s r => ?_
  obtain ⟨ds, rfl, p⟩ := p
  cases r with
  | lst h1 h2 =>
    refine ⟨_, _, rfl, .inl (.inl (s.sGH _ _ h1)), fun q nq => ?_⟩
    exact new_own s.sGH nq (cut_dr h2 i j) p fun o G2 H2 v2 Fv p2 s2 r2 n2 => k o G2 H2 v2 Fv p2 (s.trans s2 w.bags) r2 fun a m => s.none_back w.bags (n2 a m)
/-- t[lo:hi] of a tuple -/
theorem de_slT (e1 : X.K = K) (h : DE K X e Ta) (hl : IntO Tl K X lo) (hh : IntO Th K X hi) : DE K X (.Subscript e (.Slice lo hi none p2) pos) (fun ρ P => Ta ρ fun d => Tl ρ fun i => Th ρ fun j => ∃ ds, d = .tuple ds ∧ P (.tuple (cutD ds i j))) := by
  subst e1
  refine ⟨PE.weak (pe_slice sl_tupA h.pe hl hh) fun σ H Q h => ?_⟩
  obtain ⟨G0, H0, B, G, ρ, F, P, w, t, k⟩ := h
  refine slice3 w t fun d i j G' H' v p s r => ?_
  obtain ⟨ds, rfl, p⟩ := p
  cases r with
  | @tup a xs _ h1 h2 =>
    refine ⟨_, _, rfl, Same.seqT s.sGH h1, fun z => ?_, fun z q nq => ?_⟩
    · have e : cutD ds i j = ds := by
        unfold cutD
        rw [← h2.length, z.1, z.2, List.drop_zero, Nat.sub_zero, h2.length, List.take_length]
      rw [e] at p
      exact k _ G' H' _ p s (.tup h1 h2)
    · have s2 := Stp.lay (B := B) (o := .tup (cutV xs i j)) s.sGH nq
      exact k _ _ _ _ p (s.trans s2 w.bags) (.tup (.inl (.inl upd_same)) ((cut_dr h2 i j).same s2.sG))
/-- s[lo:hi] of a text -/
theorem de_slS (h : DE K X e Ta) (hl : IntO Tl K X lo) (hh : IntO Th K X hi) : DE K X (.Subscript e (.Slice lo hi none p2) pos) (fun ρ P => Ta ρ fun d => Tl ρ fun i => Th ρ fun j => ∃ z, d = .str z ∧ z.length ≤ sizeLine ∧ P (.str (cutS z i j))) := by
  refine ⟨PE.weak (pe_slice sl_str h.pe hl hh) fun σ H Q h => ?_⟩
  obtain ⟨G0, H0, B, G, ρ, F, P, w, t, k⟩ := h
  refine slice3 w t fun d i j G' H' v p s r => ?_
  obtain ⟨z, rfl, c, p⟩ := p
  cases r
  exact ⟨z, rfl, c, k _ G' H' _ p s (.str _)⟩
end
end
end DL
set_option Elab.async false
set_option linter.all false
set_option maxRecDepth 100000
set_option maxHeartbeats 1000000
/-! DL3: tests, calls, comprehensions over data -/
namespace DL
open PySem PySem.Spec PyProof.Rows L2 GL
section
variable {K : PySem.W.Frag} {X : Cx} {e a b c : Expr} {es rest : List Expr} {Ta Tb Tc : DT} {To Tp : OT} {Tt Tu : BT} {Tl : LT} {pos : Pos}
/-! ### tests -/
theorem db_val (h : DE K X e Ta) (he : ∀ whole, isTrue e X.env whole = (do let v ← whole; standAt e.pos; holding [v] (truthy v)) := by intro _; rfl) : DB K X e (fun ρ P => Ta ρ fun d => ∃ k, d = .bool k ∧ P k) := by
  refine ⟨PT.weak (pt_val h.pe he) fun σ H Q h => ?_⟩
  obtain ⟨G0, H0, B, G, ρ, F, P, w, t, k⟩ := h
  refine ⟨G0, H0, B, G, ρ, F, _, w, t, fun d G' H' v p s r => ?_⟩
  obtain ⟨kk, rfl, p⟩ := p
  exact ⟨kk, r.bool, k kk G' H' p s⟩
theorem DW.db (h : DW K X e Tt) : DB K X e Tt := ⟨h.pw.pt⟩
theorem dw_and1 (h : DB K X a Tt) : DW K X (.BoolOp .And [a] pos) Tt := ⟨pw_and1 h.pt⟩
theorem dw_or1 (h : DB K X a Tt) : DW K X (.BoolOp .Or [a] pos) Tt := ⟨pw_or1 h.pt⟩
theorem dw_and (h : DB K X a Tt) (h2 : DW K X (.BoolOp .And (b :: rest) pos) Tu) : DW K X (.BoolOp .And (a :: b :: rest) pos) (fun ρ P => Tt ρ fun c => if c = true then Tu ρ P else P false) := by
  refine ⟨PW.weak (pw_and h.pt h2.pw) fun σ H Q h => ?_⟩
  obtain ⟨G0, H0, B, G, ρ, F, P, w, t, k⟩ := h
  refine ⟨G0, H0, B, G, ρ, F, _, w, t, fun c G' H' p s => ?_⟩
  cases c with
  | true =>
    show liftB K Tu σ H' Q
    exact ⟨G0, H0, B, G', ρ, F, _, w.step s, (by simpa using p), fun b G2 H2 p2 s2 => k b G2 H2 p2 (s.trans s2 w.bags)⟩
  | false => exact k false G' H' (by simpa using p) s
theorem dw_or (h : DB K X a Tt) (h2 : DW K X (.BoolOp .Or (b :: rest) pos) Tu) : DW K X (.BoolOp .Or (a :: b :: rest) pos) (fun ρ P => Tt ρ fun c => if c = true then P true else Tu ρ P) := by
  refine ⟨PW.weak (pw_or h.pt h2.pw) fun σ H Q h => ?_⟩
  obtain ⟨G0, H0, B, G, ρ, F, P, w, t, k⟩ := h
  refine ⟨G0, H0, B, G, ρ, F, _, w, t, fun c G' H' p s => ?_⟩
  cases c with
  | false =>
    show liftB K Tu σ H' Q
    exact ⟨G0, H0, B, G', ρ, F, _, w.step s, (by simpa using p), fun b G2 H2 p2 s2 => k b G2 H2 p2 (s.trans s2 w.bags)⟩
  | true => exact k true G' H' (by simpa using p) s
theorem db_not (h : DB K X a Tt) : DB K X (.UnaryOp .Not a pos) (fun ρ P => Tt ρ fun c => P (!c)) := by
  refine ⟨PT.weak (pt_not h.pt) fun σ H Q h => ?_⟩
  obtain ⟨G0, H0, B, G, ρ, F, P, w, t, k⟩ := h
  exact ⟨G0, H0, B, G, ρ, F, _, w, t, fun c G' H' p s => k (!c) G' H' p s⟩
/-! .. as values -/
theorem de_one {op} (h : DE K X a Ta) : DE K X (.BoolOp op [a] pos) Ta := ⟨pe_one h.pe⟩
theorem de_and (h : DE K X a Ta) (h2 : DE K X (.BoolOp .And (b :: rest) pos) Tb) : DE K X (.BoolOp .And (a :: b :: rest) pos) (fun ρ P => Ta ρ fun d => ∃ c, d = .bool c ∧ if c = true then Tb ρ P else P (.bool false)) := by
  refine ⟨PE.weak (pe_and h.pe h2.pe) fun σ H Q h => ?_⟩
  obtain ⟨G0, H0, B, G, ρ, F, P, w, t, k⟩ := h
  refine ⟨G0, H0, B, G, ρ, F, _, w, t, fun d G' H' v p s r => ?_⟩
  obtain ⟨c, rfl, p⟩ := p
  refine ⟨c, r.bool, ?_⟩
  cases c with
  | true =>
    show liftE K Tb σ H' Q
    exact ⟨G0, H0, B, G', ρ, F, _, w.step s, (by simpa using p), fun d G2 H2 v p2 s2 r => k d G2 H2 v p2 (s.trans s2 w.bags) r⟩
  | false => exact k _ G' H' _ (by simpa using p) s (.bl false)
theorem de_or (h : DE K X a Ta) (h2 : DE K X (.BoolOp .Or (b :: rest) pos) Tb) : DE K X (.BoolOp .Or (a :: b :: rest) pos) (fun ρ P => Ta ρ fun d => ∃ c, d = .bool c ∧ if c = true then P (.bool true) else Tb ρ P) := by
  refine ⟨PE.weak (pe_or h.pe h2.pe) fun σ H Q h => ?_⟩
  obtain ⟨G0, H0, B, G, ρ, F, P, w, t, k⟩ := h
  refine ⟨G0, H0, B, G, ρ, F, _, w, t, fun d G' H' v p s r => ?_⟩
  obtain ⟨c, rfl, p⟩ := p
  refine ⟨c, r.bool, ?_⟩
  cases c with
  | false =>
    show liftE K Tb σ H' Q
    exact ⟨G0, H0, B, G', ρ, F, _, w.step s, (by simpa using p), fun d G2 H2 v p2 s2 r => k d G2 H2 v p2 (s.trans s2 w.bags) r⟩
  | true => exact k _ G' H' _ (by simpa using p) s (.bl true)
theorem de_not (h : DE K X a Ta) : DE K X (.UnaryOp .Not a pos) (fun ρ P => Ta ρ fun d => ∃ c, d = .bool c ∧ P (.bool (!c))) := by
  refine ⟨PE.weak (pe_not h.pe) fun σ H Q h => ?_⟩
  obtain ⟨G0, H0, B, G, ρ, F, P, w, t, k⟩ := h
  refine ⟨G0, H0, B, G, ρ, F, _, w, t, fun d G' H' v p s r => ?_⟩
  obtain ⟨c, rfl, p⟩ := p
  exact ⟨c, r.bool, k _ G' H' _ p s (.bl _)⟩
theorem de_if (hc : DB K X c Tt) (ha : DE K X a Ta) (hb : DE K X b Tb) : DE K X (.IfExp c a b pos) (fun ρ P => Tt ρ fun k => if k = true then Ta ρ P else Tb ρ P) := by
  refine ⟨PE.weak (pe_ifExp hc.pt ha.pe hb.pe) fun σ H Q h => ?_⟩
  obtain ⟨G0, H0, B, G, ρ, F, P, w, t, k⟩ := h
  refine ⟨G0, H0, B, G, ρ, F, _, w, t, fun c G' H' p s => ?_⟩
  cases c with
  | false =>
    show liftE K Tb σ H' Q
    exact ⟨G0, H0, B, G', ρ, F, _, w.step s, (by simpa using p), fun d G2 H2 v p2 s2 r => k d G2 H2 v p2 (s.trans s2 w.bags) r⟩
  | true =>
    show liftE K Ta σ H' Q
    exact ⟨G0, H0, B, G', ρ, F, _, w.step s, (by simpa using p), fun d G2 H2 v p2 s2 r => k d G2 H2 v p2 (s.trans s2 w.bags) r⟩
theorem do_if (hc : DB K X c Tt) (ha : DO K X a To) (hb : DO K X b Tp) : DO K X (.IfExp c a b pos) (fun ρ P => Tt ρ fun k => if k = true then To ρ P else Tp ρ P) := by
  refine ⟨PE.weak (pe_ifExp hc.pt ha.pe hb.pe) fun σ H Q h => ?_⟩
  obtain ⟨G0, H0, B, G, ρ, F, P, w, t, k⟩ := h
  refine ⟨G0, H0, B, G, ρ, F, _, w, t, fun c G' H' p s => ?_⟩
  cases c with
  | false =>
    show liftO K Tp σ H' Q
    exact ⟨G0, H0, B, G', ρ, F, _, w.step s, (by simpa using p), fun d G2 H2 v Fv p2 s2 r n => k d G2 H2 v Fv p2 (s.trans s2 w.bags) r fun a m => s.none_back w.bags (n a m)⟩
  | true =>
    show liftO K To σ H' Q
    exact ⟨G0, H0, B, G', ρ, F, _, w.step s, (by simpa using p), fun d G2 H2 v Fv p2 s2 r n => k d G2 H2 v Fv p2 (s.trans s2 w.bags) r fun a m => s.none_back w.bags (n a m)⟩
/-- a < b < c -/
theorem lift3 {r r' : R2} {R R' : PyData → PyData → (PyData → Prop) → Prop} (hR : OpData K r R) (hR' : OpData K r' R') (ha : DE K X a Ta) (hb : DE K X b Tb) (hc : DE K X c Tc) (σ : L2.St) (H : Hp) (Q : VK)
    (h : liftE K (fun ρ P => Ta ρ fun d => Tb ρ fun e => R d e fun k => ∃ k', k = .bool k' ∧ if k' = true then Tc ρ fun f => R' e f P else P (.bool false)) σ H Q) : tChain r r' (liftE K Ta) (liftE K Tb) (liftE K Tc) σ H Q := by
  obtain ⟨G0, H0, B, G, ρ, F, P, w, t, k⟩ := h
  refine ⟨G0, H0, B, G, ρ, F, _, w, t, fun d G1 H1 x p1 s1 r1 => ⟨G0, H0, B, G1, ρ, F, _, w.step s1, p1, fun e G2 H2 y p2 s2 r2 => ?_⟩⟩
  refine hR B G2 H2 d e x y _ _ s2.sGH (r1.same s2.sG) r2 p2 fun d' G' H' v p s rv => ?_
  have s3 := (s1.trans s2 w.bags).trans s w.bags
  obtain ⟨k', rfl, p⟩ := p
  refine ⟨k', rv.bool, ?_⟩
  cases k' with
  | false => exact k _ G' H' _ (by simpa using p) s3 (.bl false)
  | true =>
    refine ⟨G0, H0, B, G', ρ, F, _, w.step s3, (by simpa using p), fun f G4 H4 z p4 s4 r4 => ?_⟩
    refine hR' B G4 H4 e f y z P Q s4.sGH (r2.same (s.sG.trans s4.sG)) r4 p4 fun d' G' H' v p s rv => ?_
    exact k d' G' H' v p ((s3.trans s4 w.bags).trans s w.bags) rv
theorem de_chain {op op' : CmpOp} {r r' : R2} {R R' : PyData → PyData → (PyData → Prop) → Prop} (ho : OpR X (compareOp op) r) (ho' : OpR X (compareOp op') r') (hR : OpData K r R) (hR' : OpData K r' R') (ha : DE K X a Ta) (hb : DE K X b Tb) (hc : DE K X c Tc)
    (hm : lastMarks [op, op'] [b, c] = false := by with_unfolding_all rfl) : DE K X (.Compare a [op, op'] [b, c] pos) (fun ρ P => Ta ρ fun d => Tb ρ fun e => R d e fun k => ∃ k', k = .bool k' ∧ if k' = true then Tc ρ fun f => R' e f P else P (.bool false)) :=
  ⟨PE.weak (pe_chain ho ho' ha.pe hb.pe hc.pe hm) (lift3 hR hR' ha hb hc)⟩
theorem db_chain {op op' : CmpOp} {r r' : R2} {R R' : PyData → PyData → (PyData → Prop) → Prop} (ho : OpR X (compareOp op) r) (ho' : OpR X (compareOp op') r') (hR : OpData K r R) (hR' : OpData K r' R') (ha : DE K X a Ta) (hb : DE K X b Tb) (hc : DE K X c Tc)
    (hm : lastMarks [op, op'] [b, c] = false := by with_unfolding_all rfl) : DB K X (.Compare a [op, op'] [b, c] pos) (fun ρ P => Ta ρ fun d => Tb ρ fun e => R d e fun k => ∃ k', k = .bool k' ∧ if k' = true then Tc ρ fun f => R' e f fun x => ∃ q, x = .bool q ∧ P q else P false) := by
  refine ⟨PT.weak (pt_chain ho ho' ha.pe hb.pe hc.pe hm) fun σ H Q h => ?_⟩
  obtain ⟨G0, H0, B, G, ρ, F, P, w, t, k⟩ := h
  have lf : liftE K (fun ρ P => Ta ρ fun d => Tb ρ fun e => R d e fun k => ∃ k', k = .bool k' ∧ if k' = true then Tc ρ fun f => R' e f P else P (.bool false)) σ H (fun x H' => ∃ k, x = .bl k ∧ Q k H') := by
    refine ⟨G0, H0, B, G, ρ, F, fun x => ∃ q, x = .bool q ∧ P q, w, ?_, fun d G' H' v p s rv => ?_⟩
    · have e : (fun (k : Bool) => if k = true then (0 : Nat) else 0) = fun _ => 0 := by funext k; cases k <;> rfl
      have e2 : (P false) = ∃ q, PyData.bool false = .bool q ∧ P q := propext ⟨fun h => ⟨false, rfl, h⟩, fun ⟨q, h1, h2⟩ => by cases h1; exact h2⟩
      rw [e2] at t
      exact t
    · obtain ⟨q, rfl, p⟩ := p
      exact ⟨q, rv.bool, k q G' H' p s⟩
  exact lift3 hR hR' ha hb hc σ H _ lf

/-! ### calls by values -/
def CallData (K : PySem.W.Frag) (r : List V → Hp → VK → Prop) (R : List PyData → (PyData → Prop) → Prop) : Prop :=
  ∀ (B : Option (Addr × Addr)) (G H : Hp) (ds : List PyData) (vs : List V) (P : PyData → Prop) (Q : VK), Same G H → DrAll K G vs ds → R ds P →
    (∀ d' G' H' v, P d' → Stp B G H G' H' → Dr K G' v d' → Q v H') → r vs H Q
def CallOwn (K : PySem.W.Frag) (r : List V → Hp → VK → Prop) (R : List PyData → (O → Prop) → Prop) : Prop :=
  ∀ (B : Option (Addr × Addr)) (G H : Hp) (ds : List PyData) (vs : List V) (P : O → Prop) (Q : VK), Same G H → DrAll K G vs ds → R ds P →
    (∀ o G' H' v Fv, P o → Stp B G H G' H' → RepO K G' H' v o Fv → (∀ a ∈ Fv, H a = none) → Q v H') → r vs H Q
section
variable {x id T : Str} {r : List V → Hp → VK → Prop} {R : List PyData → (PyData → Prop) → Prop} {Ro : List PyData → (O → Prop) → Prop} {p : Pos}
theorem liftCall (hR : CallData K r R) (σ : L2.St) (H : Hp) (Q : VK) {n : Nat} (h : liftE K (fun ρ P => Tl ρ fun ds => R ds P) σ H Q) : tCB r (liftL K n Tl) σ H Q := by
  obtain ⟨G0, H0, B, G, ρ, F, P, w, t, k⟩ := h
  refine ⟨G0, H0, B, G, ρ, F, _, w, t, fun ds G1 H1 vs p1 _ s1 r1 => ?_⟩
  exact hR B G1 H1 ds vs P Q s1.sGH r1 p1 fun d' G' H' v p s rv => k d' G' H' v p (s1.trans s w.bags) rv
theorem liftCallO (hR : CallOwn K r Ro) (σ : L2.St) (H : Hp) (Q : VK) {n : Nat} (h : liftO K (fun ρ P => Tl ρ fun ds => Ro ds P) σ H Q) : tCB r (liftL K n Tl) σ H Q := by
  obtain ⟨G0, H0, B, G, ρ, F, P, w, t, k⟩ := h
  refine ⟨G0, H0, B, G, ρ, F, _, w, t, fun ds G1 H1 vs p1 _ s1 r1 => ?_⟩
  exact hR B G1 H1 ds vs P Q s1.sGH r1 p1 fun o G' H' v Fv p s rv n => k o G' H' v Fv p (s1.trans s w.bags) rv fun a m => s1.none_back w.bags (n a m)
theorem de_callB {id : String} (hc : CallR X (.builtin id) r) (hR : CallData K r R) (hg : Gl X x) (hm : X.mg x = none) (hv : bootBuiltins x = some (.builtin id)) (ha : DA K X (e :: es) Tl) (hn : x ≠ "__name__" := by decide) (hdb : (x == ("__debug__" : Str)) = false := by decide)
    (he : starEach (e :: es) X.env = (false, eval e X.env) :: starEach es X.env := by rfl) (hpl : (backTo pos (starEach es X.env)).any (·.1) = false := by rfl) : DE K X (.Call (.Name x p) (e :: es) [] pos) (fun ρ P => Tl ρ fun ds => R ds P) :=
  ⟨PE.weak (pe_callB hc hg hm hv ha.pa hn hdb he hpl) (fun σ H Q h => liftCall hR σ H Q h)⟩
theorem de_callTy {T : String} (hc : CallR X (.type T) r) (hR : CallData K r R) (hg : Gl X x) (hm : X.mg x = none) (hv : bootBuiltins x = some (.type T)) (ha : DA K X (e :: es) Tl) (hn : x ≠ "__name__" := by decide) (hdb : (x == ("__debug__" : Str)) = false := by decide)
    (he : starEach (e :: es) X.env = (false, eval e X.env) :: starEach es X.env := by rfl) (hpl : (backTo pos (starEach es X.env)).any (·.1) = false := by rfl) : DE K X (.Call (.Name x p) (e :: es) [] pos) (fun ρ P => Tl ρ fun ds => R ds P) :=
  ⟨PE.weak (pe_callTy hc hg hm hv ha.pa hn hdb he hpl) (fun σ H Q h => liftCall hR σ H Q h)⟩
theorem do_callB {id : String} (hc : CallR X (.builtin id) r) (hR : CallOwn K r Ro) (hg : Gl X x) (hm : X.mg x = none) (hv : bootBuiltins x = some (.builtin id)) (ha : DA K X (e :: es) Tl) (hn : x ≠ "__name__" := by decide) (hdb : (x == ("__debug__" : Str)) = false := by decide)
    (he : starEach (e :: es) X.env = (false, eval e X.env) :: starEach es X.env := by rfl) (hpl : (backTo pos (starEach es X.env)).any (·.1) = false := by rfl) : DO K X (.Call (.Name x p) (e :: es) [] pos) (fun ρ P => Tl ρ fun ds => Ro ds P) :=
  ⟨PE.weak (pe_callB hc hg hm hv ha.pa hn hdb he hpl) (fun σ H Q h => liftCallO hR σ H Q h)⟩
theorem do_callTy {T : String} (hc : CallR X (.type T) r) (hR : CallOwn K r Ro) (hg : Gl X x) (hm : X.mg x = none) (hv : bootBuiltins x = some (.type T)) (ha : DA K X (e :: es) Tl) (hn : x ≠ "__name__" := by decide) (hdb : (x == ("__debug__" : Str)) = false := by decide)
    (he : starEach (e :: es) X.env = (false, eval e X.env) :: starEach es X.env := by rfl) (hpl : (backTo pos (starEach es X.env)).any (·.1) = false := by rfl) : DO K X (.Call (.Name x p) (e :: es) [] pos) (fun ρ P => Tl ρ fun ds => Ro ds P) :=
  ⟨PE.weak (pe_callTy hc hg hm hv ha.pa hn hdb he hpl) (fun σ H Q h => liftCallO hR σ H Q h)⟩
end
theorem flat_call {r : List V → Hp → VK → Prop} {R : List PyData → (PyData → Prop) → Prop} (h : ∀ (G H : Hp) (ds : List PyData) (vs : List V) (P : PyData → Prop) (Q : VK), Same G H → DrAll K G vs ds → R ds P → (∀ d' v, P d' → Dr K G v d' → Q v H) → r vs H Q) : CallData K r R :=
  fun B G H ds vs P Q s dx p k => h G H ds vs P Q s dx p fun d' v p' r' => k d' G H v p' (.refl s) r'
theorem DrAll.one {G : Hp} {vs : List V} {d : PyData} (h : DrAll K G vs [d]) : ∃ v, vs = [v] ∧ Dr K G v d := by
  cases h with
  | cons h1 h2 => cases h2; exact ⟨_, rfl, h1⟩
theorem DrAll.two {G : Hp} {vs : List V} {d e : PyData} (h : DrAll K G vs [d, e]) : ∃ v u, vs = [v, u] ∧ Dr K G v d ∧ Dr K G u e := by
  cases h with
  | cons h1 h2 =>
    obtain ⟨u, rfl, h3⟩ := h2.one
    exact ⟨_, _, rfl, h1, h3⟩
def lenOf : PyData → Option Nat
  | .str z => some z.length
  | .list ds => some ds.length
  | .tuple ds => some ds.length
  | _ => none
theorem cd_len : CallData K (fun xs H Q => ∃ x n, xs = [x] ∧ LenV K x H n ∧ Q (.int n) H) (fun ds P => ∃ d n, ds = [d] ∧ lenOf d = some n ∧ n ≤ sizeLine ∧ P (.int n)) := flat_call fun G H ds vs P Q s dx p k => by
  obtain ⟨d, n, rfl, h, hl, p⟩ := p
  obtain ⟨v, rfl, r⟩ := dx.one
  refine ⟨v, n, rfl, ?_, k _ _ p (.int _)⟩
  cases r with
  | str z => cases h; exact ⟨hl, rfl⟩
  | lst h1 h2 => cases h; exact .inl ⟨_, .inl (.inl (s _ _ h1)), h2.length.symm⟩
  | tup h1 h2 => cases h; exact .inr ⟨_, Same.seqT s h1, h2.length.symm⟩
  | _ => cases h
theorem cd_abs : CallData K (fun xs H Q => ∃ i : Int, xs = [.int i] ∧ Q (.int (if i < 0 then -i else i)) H) (fun ds P => ∃ i : Int, ds = [.int i] ∧ P (.int (if i < 0 then -i else i))) := flat_call fun G H ds vs P Q s dx p k => by
  obtain ⟨i, rfl, p⟩ := p
  obtain ⟨v, rfl, r⟩ := dx.one
  cases r
  exact ⟨i, rfl, k _ _ p (.int _)⟩
/-- the int of an int or a bool -/
def intOf : PyData → Option Int
  | .int i => some i
  | .bool b => some (if b = true then 1 else 0)
  | _ => none
theorem cd_repr : CallData K (rRepr K) (fun ds P => ∃ d, ds = [d] ∧ d.hasDict = false ∧ d.showable = true ∧ d.depth ≤ 64 ∧ d.shown.length ≤ sizeLine ∧ P (.str d.shown)) := flat_call fun G H ds vs P Q s dx p k => by
  obtain ⟨d, rfl, h1, h2, h3, h4, p⟩ := p
  obtain ⟨v, rfl, r⟩ := dx.one
  exact ⟨v, d, rfl, Dp.same s (r.dp h1), h2, h1, h3, h4, k _ _ p (.str _)⟩
theorem cd_all : CallData K (rAll K) (fun ds P => ∃ bs : List Bool, ds = [.list (bs.map .bool)] ∧ P (.bool (bs.all id))) := flat_call fun G H ds vs P Q s dx p k => by
  obtain ⟨bs, rfl, p⟩ := p
  obtain ⟨v, rfl, r⟩ := dx.one
  cases r with
  | lst h1 h2 =>
    rw [h2.ofBools] at h1
    exact ⟨_, bs, rfl, .inl (.inl (s _ _ h1)), k _ _ p (.bl _)⟩
theorem co_list : CallOwn K (fun xs H Q => ∃ p ys, xs = [.ref p] ∧ (SqL K H p ys ∨ SqT K H p ys) ∧ ∀ l, H l = none → Q (.ref l) (upd H l (.lst ys))) (fun ds P => ∃ d is, ds = [d] ∧ items d = some is ∧ P (.lst (is.map .dat))) := by
  intro B G H ds vs P Q s dx p k
  obtain ⟨d, is, rfl, h, p⟩ := p
  obtain ⟨v, rfl, r⟩ := dx.one
  obtain ⟨q, us, rfl, h1, h2⟩ := r.items h
  exact ⟨q, us, rfl, sq_same s h1, fun l nl => new_own s nl h2 p k⟩
theorem cd_tuple : CallData K (fun xs H Q => ∃ p ys, xs = [.ref p] ∧ ((SqL K H p ys ∧ ∀ l, H l = none → Q (.ref l) (upd H l (.tup ys))) ∨ (SqT K H p ys ∧ Q (.ref p) H))) (fun ds P => ∃ d is, ds = [d] ∧ items d = some is ∧ P (.tuple is)) := by
  intro B G H ds vs P Q s dx p k
  obtain ⟨d, is, rfl, h, p⟩ := p
  obtain ⟨v, rfl, r⟩ := dx.one
  cases r with
  | lst h1 h2 =>
    cases h
    exact ⟨_, _, rfl, .inl ⟨.inl (.inl (s _ _ h1)), fun l nl => k _ _ _ _ p (Stp.lay s nl) (.tup (.inl (.inl upd_same)) (h2.same (Stp.lay (B := B) s nl).sG))⟩⟩
  | tup h1 h2 =>
    cases h
    exact ⟨_, _, rfl, .inr ⟨Same.seqT s h1, k _ G H _ p (.refl s) (.tup h1 h2)⟩⟩
  | _ => cases h
/-! ### isinstance -/
def tyOf : PyData → String
  | .none => "NoneType"
  | .bool _ => "bool"
  | .int _ => "int"
  | .str _ => "str"
  | .list _ => "list"
  | .tuple _ => "tuple"
  | .dict ((.none, _) :: _) => "object"
  | .dict _ => "dict"
/-- isinstance(e, T) -/
def isTy (T : String) (d : PyData) : Bool := tyOf d == T || (T == "int" && tyOf d == "bool")
theorem kit_all : (["NoneType", "bool", "int", "str", "list", "tuple", "dict"].all fun t => ["int", "bool", "str", "list", "tuple", "dict"].all fun T => kitB t T == some (t == T || (T == "int" && t == "bool"))) = true := by decide +kernel
theorem kit_ty1 {t T : String} (h : T ∈ ["int", "bool", "str", "list", "tuple", "dict"]) (m : t ∈ ["NoneType", "bool", "int", "str", "list", "tuple", "dict"]) : kitB t T = some (t == T || (T == "int" && t == "bool")) :=
  eq_of_beq (List.all_eq_true.mp (List.all_eq_true.mp kit_all _ m) _ h)
theorem tyOf_kd (k : Key) (d : PyData) (r : List (PyData × PyData)) : tyOf (.dict ((kD k, d) :: r)) = "dict" := by cases k <;> rfl
theorem tyOf_dct (kvs : List (Key × V)) (ds : List PyData) : tyOf (.dict ((kvs.map fun p => kD p.1).zip ds)) = "dict" := by
  cases kvs with
  | nil => rfl
  | cons p r =>
    cases ds with
    | nil => rfl
    | cons d ds => exact tyOf_kd _ _ _
theorem isTy_dk (kvs : List (PyData × PyData)) : ∀ T ∈ ["int", "bool", "str", "list", "tuple"], isTy T (.dict kvs) = false := by
  have e : tyOf (.dict kvs) = "dict" ∨ tyOf (.dict kvs) = "object" := by
    cases kvs with
    | nil => exact .inl rfl
    | cons p r =>
      obtain ⟨a, b⟩ := p
      cases a <;> first | exact .inl rfl | exact .inr rfl
  intro T hT
  simp only [List.mem_cons, List.mem_nil_iff, or_false] at hT
  unfold isTy
  rcases e with e | e <;> rw [e] <;> rcases hT with rfl | rfl | rfl | rfl | rfl <;> rfl
/-- what isinstance asks of a value that is data -/
theorem Dr.tyx {G H : Hp} {v : V} {d : PyData} (r : Dr K G v d) (s : Same G H) : ∃ t, TyX K H v t ∧ ∀ T ∈ ["int", "bool", "str", "list", "tuple", "dict"], PySem.W.kitOne K t (.type T) = some (isTy T d) := by
  suffices h : (tyOf d ∈ ["NoneType", "bool", "int", "str", "list", "tuple", "dict"] ∧ TyX K H v (.type (tyOf d))) ∨ ∃ C, TyX K H v (.ref C) ∧ OwnC K C ∧ tyOf d = "object" by
    rcases h with ⟨m, h⟩ | ⟨C, h, c, e⟩
    · exact ⟨_, h, fun T hT => kit_ty (kit_ty1 hT m)⟩
    · refine ⟨_, h, fun T hT => ?_⟩
      rw [c.kit T hT]
      unfold isTy
      rw [e]
      simp only [List.mem_cons, List.mem_nil_iff, or_false] at hT
      rcases hT with rfl | rfl | rfl | rfl | rfl | rfl <;> rfl
  cases r with
  | ins c h _ _ => exact .inr ⟨_, .base (.ins (s _ _ h) c.cl c.ha c.hn c.ht c.hm), c, rfl⟩
  | dct h _ =>
    refine .inl ?_
    rw [tyOf_dct]
    exact ⟨by simp, .base (.dK (s _ _ h))⟩
  | non => exact .inl ⟨by simp [tyOf], .base .non⟩
  | bl b => exact .inl ⟨by simp [tyOf], .base (.bl b)⟩
  | int i => exact .inl ⟨by simp [tyOf], .base (.int i)⟩
  | str x => exact .inl ⟨by simp [tyOf], .base (.str x)⟩
  | lst h _ => exact .inl ⟨by simp [tyOf], .base (.lst (s _ _ h))⟩
  | tup h _ =>
    refine .inl ⟨by simp [tyOf], ?_⟩
    rcases h with (h | ⟨o, h⟩) | ⟨o, its, n, h, c, _⟩
    · exact .base (.tup (s _ _ h))
    · exact .fTuple (s _ _ h)
    · exact .kTuple h c
theorem de_isi {T : String} {p p3 : Pos} (e1 : X.K = K) (ha : DE K X e Ta) (hg : Gl X "isinstance") (hm : X.mg "isinstance" = none) (hgT : Gl X (Str.ofString T)) (hmT : X.mg (Str.ofString T) = none)
    (hb : bootBuiltins (Str.ofString T) = some (.type T)) (hT : T ∈ ["int", "bool", "str", "list", "tuple", "dict"]) (hn : Str.ofString T ≠ "__name__" := by decide) (hd : (Str.ofString T == ("__debug__" : Str)) = false := by decide)
    (hs : starEach [e, .Name (Str.ofString T) p3] X.env = (false, eval e X.env) :: starEach [.Name (Str.ofString T) p3] X.env := by rfl) (hs2 : starEach [.Name (Str.ofString T) p3] X.env = (false, eval (.Name (Str.ofString T) p3) X.env) :: starEach [] X.env := by rfl)
    (hpl : (backTo pos (starEach [.Name (Str.ofString T) p3] X.env)).any (·.1) = false := by rfl) :
    DE K X (.Call (.Name "isinstance" p) [e, .Name (Str.ofString T) p3] [] pos) (fun ρ P => Ta ρ fun d => P (.bool (isTy T d))) := by
  subst e1
  refine ⟨PE.weak (pe_callB call_isi hg hm (by decide +kernel) (pa_cons ha.pe (pa_cons (pe_bltn (v := .ty T) (u := .type T) hgT hmT hb (show RelV (.ty T) (.type T) from rfl) hn hd) pa_nil hs2) hs) (by decide) (by decide) hs hpl) fun σ H Q h => ?_⟩
  obtain ⟨G0, H0, B, G, ρ, F, P, w, t, k⟩ := h
  refine ⟨G0, H0, B, G, ρ, F, _, w, t, fun d G' H' v p s r => ?_⟩
  obtain ⟨t, ty, ki⟩ := r.tyx s.sGH
  exact ⟨v, .ty T, t, .type T, isTy T d, rfl, .ty T, ty, ki T hT, k _ G' H' _ p s (.bl _)⟩
theorem kit_any2 {T U : String} {t : Value} {d : PyData} (h1 : PySem.W.kitOne K t (.type T) = some (isTy T d)) (h2 : PySem.W.kitOne K t (.type U) = some (isTy U d)) : PySem.W.kitAny K t [.type T, .type U] = some (isTy T d || isTy U d) := by
  simp only [PySem.W.kitAny, h1, h2]
  cases isTy T d <;> cases isTy U d <;> rfl
/-- isinstance(e, (T, U)) -/
theorem de_isi2 {x1} {T U : String} {p p3 p4 p5 : Pos} (e1 : X.K = K) (ha : DE K X e Ta) (hg : Gl X "isinstance") (hm : X.mg "isinstance" = none) (hgT : Gl X (Str.ofString T)) (hmT : X.mg (Str.ofString T) = none)
    (hb : bootBuiltins (Str.ofString T) = some (.type T)) (hgU : Gl X (Str.ofString U)) (hmU : X.mg (Str.ofString U) = none) (hbU : bootBuiltins (Str.ofString U) = some (.type U)) (hT : T ∈ ["int", "bool", "str", "list", "tuple", "dict"]) (hU : U ∈ ["int", "bool", "str", "list", "tuple", "dict"])
    (hn : Str.ofString T ≠ "__name__" := by decide) (hd : (Str.ofString T == ("__debug__" : Str)) = false := by decide) (hnU : Str.ofString U ≠ "__name__" := by decide) (hdU : (Str.ofString U == ("__debug__" : Str)) = false := by decide)
    (hs : starEach [e, .Tuple [.Name (Str.ofString T) p3, .Name (Str.ofString U) p4] x1 p5] X.env = (false, eval e X.env) :: starEach [.Tuple [.Name (Str.ofString T) p3, .Name (Str.ofString U) p4] x1 p5] X.env := by rfl)
    (hs2 : starEach [.Tuple [.Name (Str.ofString T) p3, .Name (Str.ofString U) p4] x1 p5] X.env = (false, eval (.Tuple [.Name (Str.ofString T) p3, .Name (Str.ofString U) p4] x1 p5) X.env) :: starEach [] X.env := by rfl)
    (hs3 : starEach [.Name (Str.ofString T) p3, .Name (Str.ofString U) p4] X.env = (false, eval (.Name (Str.ofString T) p3) X.env) :: starEach [.Name (Str.ofString U) p4] X.env := by rfl)
    (hs4 : starEach [.Name (Str.ofString U) p4] X.env = (false, eval (.Name (Str.ofString U) p4) X.env) :: starEach [] X.env := by rfl)
    (hpl : (backTo pos (starEach [.Tuple [.Name (Str.ofString T) p3, .Name (Str.ofString U) p4] x1 p5] X.env)).any (·.1) = false := by rfl) :
    DE K X (.Call (.Name "isinstance" p) [e, .Tuple [.Name (Str.ofString T) p3, .Name (Str.ofString U) p4] x1 p5] [] pos) (fun ρ P => Ta ρ fun d => P (.bool (isTy T d || isTy U d))) := by
  subst e1
  refine ⟨PE.weak (pe_callB call_isiT hg hm (by decide +kernel) (pa_cons ha.pe (pa_cons (pe_tup (pa_cons (pe_bltn (v := .ty T) (u := .type T) hgT hmT hb (show RelV (.ty T) (.type T) from rfl) hn hd)
    (pa_cons (pe_bltn (v := .ty U) (u := .type U) hgU hmU hbU (show RelV (.ty U) (.type U) from rfl) hnU hdU) pa_nil hs4) hs3)) pa_nil hs2) hs) (by decide) (by decide) hs hpl) fun σ H Q h => ?_⟩
  obtain ⟨G0, H0, B, G, ρ, F, P, w, t, k⟩ := h
  refine ⟨G0, H0, B, G, ρ, F, _, w, t, fun d G' H' v p s r => ?_⟩
  refine ⟨small (by show 2 ≤ 1000; decide), fun q nq => ?_⟩
  have s2 := Stp.new (B := B) (o := .tup [.ty T, .ty U]) s.sGH nq
  obtain ⟨t, ty, ki⟩ := r.tyx s2.sGH
  refine ⟨v, q, [.ty T, .ty U], t, [.type T, .type U], _, rfl, upd_same, .cons (.ty T) (.cons (.ty U) .nil), ty, kit_any2 (ki T hT) (ki U hU), ?_⟩
  exact k _ G' _ _ p (s.trans s2 w.bags) (.bl _)
end
end DL
set_option Elab.async false
set_option linter.all false
set_option maxRecDepth 100000
set_option maxHeartbeats 1000000
/-! DL4: targets, walks, comprehensions over data -/
namespace DL
open PySem PySem.Spec PyProof.Rows L2 GL
section
variable {K : PySem.W.Frag} {X : Cx} {e a b c tg : Expr} {es rest : List Expr} {Ta Tb Tc : DT} {To Tp : OT} {Tt Tu : BT} {Tl : LT} {pos : Pos}
/-! ### targets that are names -/
abbrev GT := PyData → Env' → (Env' → Prop) → Prop
def liftG (K : PySem.W.Frag) (ws : List Nat) (g : GT) : TG := fun v σ H Q => ∃ G0 H0 B G ρ F P d, Wd K G0 H0 B G H σ ρ F ∧ Dr K G v d ∧ g d ρ P ∧
  ∀ ρ' σ' F', P ρ' → Wd K G0 H0 B G H σ' ρ' F' → (∀ a ∈ F', a ∈ F) → (∀ vs : List Nat, (∀ i ∈ ws, i ∈ vs) → wipe σ' vs = wipe σ vs) → Q σ' H
structure DG (K : PySem.W.Frag) (X : Cx) (tg : Expr) (ws : List Nat) (g : GT) : Prop where
  pg : PG X tg (liftG K ws g)
theorem PG.weak {g g' : TG} (h : PG X tg g) (k : ∀ v σ H Q, g' v σ H Q → g v σ H Q) : PG X tg g' := ⟨fun pins s σ H v u Q I r q => h.run pins s σ H v u Q I r (k v σ H Q q)⟩
theorem wipe_set {σ : L2.St} {i : Nat} {x : Option V} : ∀ {vs : List Nat}, i ∈ vs → wipe (σ.set i x) vs = wipe σ vs
  | v :: vs, h => by
    unfold wipe
    by_cases hv : i ∈ vs
    · rw [wipe_set hv]
    · have e : v = i := (List.mem_cons.mp h).elim (fun e => e.symm) fun z => absurd z hv
      subst e
      have k : ∀ vs : List Nat, v ∉ vs → wipe (σ.set v x) vs = (wipe σ vs).set v x := by
        intro vs
        induction vs with
        | nil => intro _; rfl
        | cons w ws ih =>
          intro hw
          have h1 : v ≠ w := fun e => hw (by rw [e]; exact List.mem_cons_self)
          show (wipe (σ.set v x) ws).set w none = ((wipe σ ws).set w none).set v x
          rw [ih fun z => hw (List.mem_cons_of_mem _ z), List.set_comm _ _ h1]
      rw [k vs hv, List.set_set]
theorem wipe_wipe {σ : L2.St} {us : List Nat} : ∀ vs : List Nat, (∀ i ∈ vs, i ∈ us) → L2.wipe (L2.wipe σ vs) us = L2.wipe σ us
  | [], _ => rfl
  | v :: vs, h => by
    show L2.wipe ((L2.wipe σ vs).set v none) us = _
    rw [wipe_set (h v List.mem_cons_self), wipe_wipe vs fun i m => h i (List.mem_cons_of_mem _ m)]
theorem Wd.set {G0 H0 : Hp} {B : Option (Addr × Addr)} {G H : Hp} {σ : L2.St} {ρ : Env'} {F Fv : List Addr} {v : V} {n : En} (w : Wd K G0 H0 B G H σ ρ F) (r : RepN K B G H v n Fv) (i : Nat) (hv : ∀ a ∈ Fv, a ∉ F) (nw : ∀ a ∈ Fv, H0 a = none) :
    ∃ F', Wd K G0 H0 B G H (σ.set i (some v)) (ρ.set i (some n)) F' ∧ ∀ a ∈ F', a ∈ F ∨ a ∈ Fv := by
  obtain ⟨F', r', c⟩ := w.env.set r (i := i) hv
  exact ⟨F', ⟨w.sGH, w.sG, w.fr, w.keep, fun a m => (c a m).elim (w.own a) (nw a), w.bag, r'⟩, c⟩
theorem dg_name {i : Nat} (h : PG X tg (gName i)) : DG K X tg [i] (fun d ρ P => P (ρ.set i (some (.d d)))) := by
  refine ⟨PG.weak h fun v σ H Q h => ?_⟩
  obtain ⟨G0, H0, B, G, ρ, F, P, d, w, r, p, k⟩ := h
  obtain ⟨F', w', c⟩ := w.set (.d r) i (fun _ m => nomatch m) fun _ m => nomatch m
  exact k _ _ F' p w' (fun a m => (c a m).elim id fun z => nomatch z) fun vs hv => wipe_set (hv i List.mem_cons_self)
/-- a tuple of names -/
structure DGs (K : PySem.W.Frag) (X : Cx) (ts : List Expr) (ws : List Nat) (g : List PyData → Env' → (Env' → Prop) → Prop) : Prop where
  pg : PGs X ts (fun vs σ H Q => ∃ G0 H0 B G ρ F P ds, Wd K G0 H0 B G H σ ρ F ∧ DrAll K G vs ds ∧ g ds ρ P ∧
    ∀ ρ' σ' F', P ρ' → Wd K G0 H0 B G H σ' ρ' F' → (∀ a ∈ F', a ∈ F) → (∀ vs : List Nat, (∀ i ∈ ws, i ∈ vs) → wipe σ' vs = wipe σ vs) → Q σ' H)
theorem PGs.weak {ts : List Expr} {g g' : TGs} (h : PGs X ts g) (k : ∀ v σ H Q, g' v σ H Q → g v σ H Q) : PGs X ts g' := ⟨fun pins s σ H v u Q I r q => h.run pins s σ H v u Q I r (k v σ H Q q)⟩
theorem dgs_nil : DGs K X [] [] (fun ds ρ P => ds = [] ∧ P ρ) := by
  refine ⟨PGs.weak pgs_nil fun vs σ H Q h => ?_⟩
  obtain ⟨G0, H0, B, G, ρ, F, P, ds, w, r, ⟨rfl, p⟩, k⟩ := h
  cases r
  exact ⟨rfl, k ρ σ F p w (fun _ m => m) fun _ _ => rfl⟩
theorem dgs_cons {ts : List Expr} {ws vs : List Nat} {g : GT} {gs : List PyData → Env' → (Env' → Prop) → Prop} (h : DG K X tg ws g) (ht : DGs K X ts vs gs)
    (hs : (assignEach (tg :: ts) X.env).map (·.2) = assign tg X.env :: (assignEach ts X.env).map (·.2) := by rfl) : DGs K X (tg :: ts) (ws ++ vs) (fun ds ρ P => ∃ d r, ds = d :: r ∧ g d ρ fun ρ' => gs r ρ' P) := by
  refine ⟨PGs.weak (pgs_cons h.pg ht.pg hs) fun us σ H Q h => ?_⟩
  obtain ⟨G0, H0, B, G, ρ, F, P, ds, w, r, ⟨d, rs, rfl, p⟩, k⟩ := h
  cases r with
  | cons r1 r2 =>
    refine ⟨_, _, rfl, G0, H0, B, G, ρ, F, _, d, w, r1, p, fun ρ1 σ1 F1 p1 w1 c1 z1 => ?_⟩
    refine ⟨G0, H0, B, G, ρ1, F1, _, rs, w1, r2, p1, fun ρ2 σ2 F2 p2 w2 c2 z2 => k ρ2 σ2 F2 p2 w2 (fun a m => c1 a (c2 a m)) fun vs hv => ?_⟩
    rw [z2 vs fun i m => hv i (List.mem_append_right _ m), z1 vs fun i m => hv i (List.mem_append_left _ m)]
theorem dg_tup {ts : List Expr} {k : Nat} {ws : List Nat} {gs : List PyData → Env' → (Env' → Prop) → Prop} {n : Nat} (e1 : X.K = K) (hc : X.calm = true) (h : DGs K X ts ws gs)
    (hn : (assignEach ts X.env).length = n := by rfl) (hst : (assignEach ts X.env).findIdx? (·.1) = none := by rfl) : DG K X (.Tuple ts k pos) ws (fun d ρ P => ∃ ds, items d = some ds ∧ (∃ es, d = .tuple es) ∧ ds.length = n ∧ gs ds ρ P) := by
  subst e1
  refine ⟨PG.weak (pg_tup hc h.pg hn hst) fun v σ H Q h => ?_⟩
  obtain ⟨G0, H0, B, G, ρ, F, P, d, w, r, ⟨ds, h1, ⟨es, rfl⟩, hl, p⟩, k⟩ := h
  cases h1
  cases r with
  | tup h2 h3 => exact ⟨_, _, rfl, Same.seqT w.sGH h2, by rw [h3.length]; exact hl, G0, H0, B, G, ρ, F, P, ds, w, h3, p, k⟩

/-! ### walks -/
def IterOf (K : PySem.W.Frag) (J : It) (G : Hp) (ds : List PyData) : Prop := ∃ (Gp : Hp → Prop) (Y : Nat → Hp → V → Hp → Prop), Walk J ds.length Gp Y ∧ (∀ H, Same G H → Gp H) ∧
  ∀ i H x H', i < ds.length → Y i H x H' → ∀ B G1, Same G G1 → Same G1 H → ∃ G2 d, Stp B G1 H G2 H' ∧ Dr K G2 x d ∧ ds[i]? = some d
def liftI (K : PySem.W.Frag) (T : LT) : TI := fun σ H R => ∃ G0 H0 B G ρ F P, Wd K G0 H0 B G H σ ρ F ∧ T ρ P ∧ ∀ ds G' H' J, P ds → Stp B G H G' H' → IterOf K J G' ds → R J H'
structure DI (K : PySem.W.Frag) (X : Cx) (tg iter : Expr) (T : LT) : Prop where
  pi : PI X tg iter (liftI K T)
theorem PI.weak {iter : Expr} {t t' : TI} (h : PI X tg iter t) (k : ∀ σ H R, t' σ H R → t σ H R) : PI X tg iter t' := ⟨fun pins s σ H R I q => h.run pins s σ H R I (k σ H R q)⟩
theorem iter_list {G : Hp} {p : Addr} {vs : List V} {ds : List PyData} (h : SqL K G p vs) (r : DrAll K G vs ds) : IterOf K (Itl K p) G ds := by
  have w := walk_list (K := K) (a := p) (xs := vs)
  rw [r.length] at w
  refine ⟨_, _, w, fun H s => s.seq h, fun i H x H' _ y B G1 s1 s2 => ?_⟩
  obtain ⟨rfl, y⟩ := y
  obtain ⟨d, h1, h2⟩ := r.getV y
  exact ⟨G1, d, .refl s2, h2.same s1, h1⟩
theorem iter_tup {G : Hp} {p : Addr} {vs : List V} {ds : List PyData} (h : SqT K G p vs) (r : DrAll K G vs ds) : IterOf K (Itt K p) G ds := by
  have w := walk_tup (K := K) (a := p) (xs := vs)
  rw [r.length] at w
  refine ⟨_, _, w, fun H s => Same.seqT s h, fun i H x H' _ y B G1 s1 s2 => ?_⟩
  obtain ⟨rfl, y⟩ := y
  obtain ⟨d, h1, h2⟩ := r.getV y
  exact ⟨G1, d, .refl s2, h2.same s1, h1⟩
/-- over a list or a tuple -/
theorem pi_seq {t : TE} (hl : PE X e t) : PI X tg e (fun σ H R => t σ H fun x H1 => ∃ a, x = .ref a ∧ (((∃ xs, SqL X.K H1 a xs) ∧ R (Itl X.K a) H1) ∨ ((∃ xs, SqT X.K H1 a xs) ∧ R (Itt X.K a) H1))) := by
  refine ⟨fun pins s σ H R I h => ?_⟩
  refine thn (hl.run pins s σ H _ I h) fun v s1 ⟨x, H1, I1, r1, q1⟩ => ?_
  obtain ⟨a, rfl, q⟩ := q1
  cases r1
  rcases q with ⟨⟨xs, hq⟩, q⟩ | ⟨⟨xs, hq⟩, q⟩
  · obtain ⟨its, rv, p, hz⟩ := I1.list hq
    refine wpAny_pyIter_list p.isList ?_
    refine ⟨s1.heap.objs.size, [s1.heap.objs.size], _, _, H1, rfl, I1.kept (t' := s1.toks) fun b o e => Heap.get?_push_of_some _ e, turn_list a _, ⟨_, Heap.get?_push_size _ rfl, rfl, rfl⟩, fun b hb => ?_, q⟩
    have e : b = s1.heap.objs.size := by simpa using hb
    subst e
    exact I1.fpOk (Nat.le_refl _) (I1.hok.fresh (Nat.le_refl _))
  · obtain ⟨its, rv, p, hz⟩ := I1.tuple hq
    refine wpAny_pyIter_tuple (show s1.heap.IsTuple a its.toArray from p) ?_
    refine ⟨s1.heap.objs.size, [s1.heap.objs.size], _, _, H1, rfl, I1.kept (t' := s1.toks) fun b o e => Heap.get?_push_of_some _ e, turn_tuple a _, ⟨_, Heap.get?_push_size _ rfl, rfl, rfl⟩, fun b hb => ?_, q⟩
    have e : b = s1.heap.objs.size := by simpa using hb
    subst e
    exact I1.fpOk (Nat.le_refl _) (I1.hok.fresh (Nat.le_refl _))
theorem di_seq (e1 : X.K = K) (h : DE K X e Ta) : DI K X tg e (fun ρ P => Ta ρ fun d => ∃ ds, items d = some ds ∧ P ds) := by
  subst e1
  refine ⟨PI.weak (pi_seq h.pe) fun σ H R h => ?_⟩
  obtain ⟨G0, H0, B, G, ρ, F, P, w, t, k⟩ := h
  refine ⟨G0, H0, B, G, ρ, F, _, w, t, fun d G' H' v p s r => ?_⟩
  obtain ⟨ds, h, p⟩ := p
  cases r with
  | lst h1 h2 => cases h; exact ⟨_, rfl, .inl ⟨⟨_, .inl (.inl (s.sGH _ _ h1))⟩, k _ G' H' _ p s (iter_list (.inl (.inl h1)) h2)⟩⟩
  | tup h1 h2 => cases h; exact ⟨_, rfl, .inr ⟨⟨_, Same.seqT s.sGH h1⟩, k _ G' H' _ p s (iter_tup h1 h2)⟩⟩
  | _ => cases h
def signsD (z : Str) : List PyData := z.cps.toList.map fun c => .str ⟨#[c]⟩
theorem di_str (h : DE K X e Ta) : DI K X tg e (fun ρ P => Ta ρ fun d => ∃ z, d = .str z ∧ P (signsD z)) := by
  refine ⟨PI.weak (pi_str h.pe) fun σ H R h => ?_⟩
  obtain ⟨G0, H0, B, G, ρ, F, P, w, t, k⟩ := h
  refine ⟨G0, H0, B, G, ρ, F, _, w, t, fun d G' H' v p s r => ?_⟩
  obtain ⟨z, rfl, p⟩ := p
  cases r
  have w := walk_str (z := z)
  rw [show z.cps.size = (signsD z).length by simp [signsD]] at w
  refine ⟨z, rfl, k _ G' H' _ p s ⟨_, _, w, fun _ _ => trivial, fun i H x H' hi y B G1 s1 s2 => ?_⟩⟩
  · obtain ⟨rfl, c, h1, rfl⟩ := y
    refine ⟨G1, _, .refl s2, .str _, ?_⟩
    unfold signsD
    rw [List.getElem?_map, Array.getElem?_toList, h1]
    rfl
def rangeD (lo : Int) (n : Nat) : List PyData := (List.range n).map fun (i : Nat) => .int (lo + (i : Int))
theorem iter_range {G : Hp} {lo : Int} {n : Nat} : IterOf K (Itr lo n) G (rangeD lo n) := by
  have w := walk_range (lo := lo) (n := n)
  have w' : Walk (Itr lo n) (rangeD lo n).length (fun _ => True) (YFn fun i => .int (lo + i)) := by
    rw [show (rangeD lo n).length = n by simp [rangeD]]
    exact w
  refine ⟨_, _, w', fun _ _ => trivial, fun i H x H' hi y B G1 s1 s2 => ?_⟩
  · obtain ⟨rfl, rfl⟩ := y
    refine ⟨G1, _, .refl s2, .int _, ?_⟩
    have hi' : i < n := by simpa [rangeD] using hi
    unfold rangeD
    rw [List.getElem?_map, List.getElem?_range hi']
    rfl
theorem di_range1 {p : Pos} (hg : Gl X "range") (hm : X.mg "range" = none) (ha : DA K X [a] Tl) (hs : starEach [a] X.env = [(false, eval a X.env)] := by rfl) :
    DI K X tg (.Call (.Name "range" p) [a] [] pos) (fun ρ P => Tl ρ fun ds => ∃ j : Int, ds = [.int j] ∧ -(2 ^ 62) ≤ j ∧ j < 2 ^ 62 ∧ P (rangeD 0 j.toNat)) := by
  refine ⟨PI.weak (pi_range1 hg hm ha.pa hs) fun σ H R h => ?_⟩
  obtain ⟨G0, H0, B, G, ρ, F, P, w, t, k⟩ := h
  refine ⟨G0, H0, B, G, ρ, F, _, w, t, fun ds G' H' v p _ s r => ?_⟩
  obtain ⟨j, rfl, h1, h2, p⟩ := p
  obtain ⟨v', rfl, r'⟩ := r.one
  cases r'
  exact ⟨j, rfl, h1, h2, k _ G' H' _ p s iter_range⟩
def pairD (p : PyData × PyData) : PyData := .tuple [p.1, p.2]
theorem walk_zipT {a b : Addr} {xs ys : List V} {n : Nat} (hn : n = min xs.length ys.length) : Walk (RZ.ItzT K a b) n (fun H => SqT K H a xs ∧ SqT K H b ys) (YPair (fun i => xs[i]?) (fun i => ys[i]?)) := by
  subst hn
  refine ⟨fun i _ hi q => ?_, fun _ q => ⟨xs, ys, q.1, q.2, by omega⟩, fun i H v H' _ q y => ?_⟩
  · have h1 : i < xs.length := by omega
    have h2 : i < ys.length := by omega
    exact ⟨xs, ys, xs[i], ys[i], q.1, q.2, by simp [h1], by simp [h2]⟩
  · obtain ⟨T, x, z, h1, h2, h3, h4, h5⟩ := y
    exact ⟨T, x, z, h1, h2, h3, h4 xs q.1, h5 ys q.2⟩
theorem pair_step {G : Hp} {vs us : List V} {ds es : List PyData} (r1 : DrAll K G vs ds) (r2 : DrAll K G us es) : ∀ i H x H', i < ((ds.zip es).map pairD).length → YPair (fun i => vs[i]?) (fun i => us[i]?) i H x H' →
    ∀ B G1, Same G G1 → Same G1 H → ∃ G2 d, Stp B G1 H G2 H' ∧ Dr K G2 x d ∧ ((ds.zip es).map pairD)[i]? = some d := by
  intro i H x H' hi y B G1 s1 s2
  obtain ⟨T, x1, x2, rfl, nT, rfl, e1, e2⟩ := y
  obtain ⟨d, h1, h2⟩ := r1.getV e1
  obtain ⟨e, h3, h4⟩ := r2.getV e2
  have s := Stp.lay (B := B) (o := .tup [x1, x2]) s2 nT
  refine ⟨_, pairD (d, e), s, .tup (.inl (.inl upd_same)) (.cons ((h2.same s1).same s.sG) (.cons ((h4.same s1).same s.sG) .nil)), ?_⟩
  rw [List.getElem?_map, List.getElem?_zip_eq_some (z := (d, e)).mpr ⟨h1, h3⟩]
  rfl
/-- zip of two lists, or of two tuples -/
theorem di_zip {elts : List Expr} {kk : Nat} {p tpos : Pos} (e1 : X.K = K) (hg : Gl X "zip") (hm : X.mg "zip" = none) (ha : DA K X [a, b] Tl)
    (hs : starEach [a, b] X.env = (false, eval a X.env) :: starEach [b] X.env := by rfl) (hpl : (backTo pos (starEach [b] X.env)).any (·.1) = false := by rfl) :
    DI K X (.Tuple elts kk tpos) (.Call (.Name "zip" p) [a, b] [] pos) (fun ρ P => Tl ρ fun xs => ∃ d e ds es, xs = [d, e] ∧ ((d = .list ds ∧ e = .list es) ∨ (d = .tuple ds ∧ e = .tuple es)) ∧ P ((ds.zip es).map pairD)) := by
  subst e1
  refine ⟨PI.weak (RZ.pi_zipA hg hm ha.pa hs hpl) fun σ H R h => ?_⟩
  obtain ⟨G0, H0, B, G, ρ, F, P, w, t, k⟩ := h
  refine ⟨G0, H0, B, G, ρ, F, _, w, t, fun xs G' H' v p _ s r => ?_⟩
  obtain ⟨d, e, ds, es, rfl, h, p⟩ := p
  obtain ⟨v, u, rfl, r1, r2⟩ := r.two
  rcases h with ⟨rfl, rfl⟩ | ⟨rfl, rfl⟩
  · cases r1 with
    | lst h1 h2 =>
      cases r2 with
      | lst h3 h4 =>
        refine ⟨_, _, _, _, rfl, .inl ⟨.inl (.inl (s.sGH _ _ h1)), .inl (.inl (s.sGH _ _ h3)), k _ G' H' _ p s ⟨_, _, walk_zip ?_, fun H q => ⟨.inl (.inl (q _ _ h1)), .inl (.inl (q _ _ h3))⟩, pair_step h2 h4⟩⟩⟩
        rw [List.length_map, List.length_zip, h2.length, h4.length]
  · cases r1 with
    | tup h1 h2 =>
      cases r2 with
      | tup h3 h4 =>
        refine ⟨_, _, _, _, rfl, .inr ⟨Same.seqT s.sGH h1, Same.seqT s.sGH h3, k _ G' H' _ p s ⟨_, _, walk_zipT ?_, fun H q => ⟨Same.seqT q h1, Same.seqT q h3⟩, pair_step h2 h4⟩⟩⟩
        rw [List.length_map, List.length_zip, h2.length, h4.length]

/-! ### comprehensions -/
structure DTs (K : PySem.W.Frag) (X : Cx) (ifs : List Expr) (T : BT) : Prop where
  pts : PTs X ifs (liftB K T)
theorem PTs.weak {ifs : List Expr} {t t' : TT} (h : PTs X ifs t) (k : ∀ σ H Q, t' σ H Q → t σ H Q) : PTs X ifs t' := ⟨fun pins s σ H Q I q => h.run pins s σ H Q I (k σ H Q q)⟩
theorem dts_nil : DTs K X [] (fun _ P => P true) := by
  refine ⟨PTs.weak pts_nil fun σ H Q h => ?_⟩
  obtain ⟨G0, H0, B, G, ρ, F, P, w, t, k⟩ := h
  exact k true G H t (.refl w.sGH)
theorem dts_one (h : DB K X c Tt) : DTs K X [c] Tt := ⟨pts_one h.pt⟩
def wipeE (ρ : Env') : List Nat → Env'
  | [] => ρ
  | v :: vs => (wipeE ρ vs).set v none
theorem Wd.wipe {G0 H0 : Hp} {B : Option (Addr × Addr)} {G H : Hp} {σ : L2.St} {ρ : Env'} {F : List Addr} (w : Wd K G0 H0 B G H σ ρ F) : ∀ vs : List Nat, ∃ F', Wd K G0 H0 B G H (L2.wipe σ vs) (wipeE ρ vs) F' ∧ ∀ a ∈ F', a ∈ F
  | [] => ⟨F, w, fun _ m => m⟩
  | v :: vs => by
    obtain ⟨F1, w1, c1⟩ := Wd.wipe w vs
    obtain ⟨F2, r, c2⟩ := w1.env.forget (i := v) (x := none)
    exact ⟨F2, ⟨w1.sGH, w1.sG, w1.fr, w1.keep, fun a m => w1.own a (c2 a m), w1.bag, r⟩, fun a m => c1 a (c2 a m)⟩
theorem Stp.updNew {B : Option (Addr × Addr)} {G H G' H' : Hp} {D : Addr} {o : HO} (s : Stp B G H G' H') (hb : ∀ b, B = some b → BagAt G H b) (nD : H D = none) (gD : G' D = none) : Stp B G H G' (upd H' D o) where
  keep a u h n := by rw [upd_ne (ne_of_none h nD)]; exact s.keep a u h n
  sG := s.sG
  sGH a u h := by
    have : a ≠ D := fun z => by rw [z, gD] at h; cases h
    rw [upd_ne this]
    exact s.sGH a u h
  fr := s.fr
  bag b e h := by
    obtain ⟨g, s', i, ns, e1, e2, e3⟩ := s.bag b e h
    have : b.1 ≠ D := fun z => (hb b e).some (by rw [z]; exact nD)
    exact ⟨g, s', i, ns, by rw [upd_ne this]; exact e1, e2, e3⟩
theorem notB_new {B : Option (Addr × Addr)} {G H : Hp} {D : Addr} (hb : ∀ b, B = some b → BagAt G H b) (nD : H D = none) : NotB B D := fun c e => (hb _ e).some nD
theorem Stp.dom {B : Option (Addr × Addr)} {G H G' H' : Hp} (s : Stp B G H G' H') (hb : ∀ b, B = some b → BagAt G H b) {a : Addr} (h : H a ≠ none) : H' a ≠ none := fun z => h (s.none_back hb z)
theorem Stp.g_none {B : Option (Addr × Addr)} {G H G' H' : Hp} (s : Stp B G H G' H') {a : Addr} (g : G a = none) (h : H a ≠ none) : G' a = none := by
  cases q : G' a with
  | none => rfl
  | some u =>
    rcases s.fr a (by rw [q]; exact nofun) with z | z
    · exact absurd g z
    · exact absurd z h
theorem bags_step {B : Option (Addr × Addr)} {G H G' H' : Hp} (s : Stp B G H G' H') (hb : ∀ b, B = some b → BagAt G H b) : ∀ b, B = some b → BagAt G' H' b := fun b e => s.bag b e (hb b e)
theorem RepOs.step {B : Option (Addr × Addr)} {G H G' H' : Hp} {vs : List V} {xs : List O} {Fv : List Addr} (r : RepOs K G H vs xs Fv) (s : Stp B G H G' H') (nb : ∀ a ∈ Fv, NotB B a) : RepOs K G' H' vs xs Fv :=
  r.mono s.sG (fun a m => s.g_none (r.dom a m).1 (r.dom a m).2) (fun a m u h => s.keep a u h (nb a m))
/-- what a comprehension's block does with one item -/
def lcTurn (g : GT) (Tt : BT) (To : OT) (ρ : Env') (d : PyData) (yes : O → Prop) (no : Prop) : Prop := g d ρ fun ρ2 => Tt ρ2 fun b => if b = true then To ρ2 yes else no
section
variable {elt iter : Expr} {ifs : List Expr} {scope : Scope} {own : List (Str × Nat)} {ws : List Nat} {g : GT} {Ti : LT}
/-- what a comprehension asks, over data -/
abbrev lcT (g : GT) (Tt : BT) (To : OT) (Ti : LT) (vs : List Nat) : OT := fun ρ P => Ti ρ fun ds => ds.length < sizeLine ∧ ∃ I : Nat → List O → Prop, I 0 [] ∧
  (∀ i d acc, ds[i]? = some d → I i acc → lcTurn g Tt To (wipeE ρ vs) d (fun o => I (i + 1) (acc ++ [o])) (I (i + 1) acc)) ∧ ∀ acc, I ds.length acc → P (.lst acc)
theorem lift_lc {vs : List Nat} (hw : ∀ i ∈ ws, i ∈ vs) (σ : L2.St) (H : Hp) (Q : VK) (h : liftO K (lcT g Tt To Ti vs) σ H Q) : tLc (liftI K Ti) (liftG K ws g) (liftB K Tt) (liftO K To) vs σ H Q := by
  obtain ⟨G0, H0, B, G, ρ, F, P, w, t, k⟩ := h
  refine ⟨G0, H0, B, G, ρ, F, _, w, t, fun ds G1 H1 J p1 s1 it D nD => ?_⟩
  obtain ⟨hlen, I, i0, step, fin⟩ := p1
  obtain ⟨Gp, Y, wk, hGp, hY⟩ := it
  have w1 := w.step s1
  have b1 := w1.bags
  have nbD : NotB B D := notB_new b1 nD
  refine lc_it wk (fun i H' => ∃ G' us acc Fa, I i acc ∧ acc.length ≤ i ∧ H' D = some (.lst us) ∧ RepOs K G' H' us acc Fa ∧ D ∉ Fa ∧ (∀ a ∈ Fa, H1 a = none) ∧ Stp B G1 H1 G' H' ∧ G' D = none) ?h0 ?hG ?hs ?hd
  case h0 => exact ⟨G1, [], [], [], i0, Nat.le_refl _, upd_same, .nil, (fun m => nomatch m), (fun _ m => nomatch m), Stp.new s1.sGH nD, s1.gnone nD⟩
  case hG =>
    rintro i H' _ ⟨G', us, acc, Fa, _, _, _, _, _, _, s, _⟩
    exact hGp H' (s.sG.trans s.sGH)
  case hd =>
    rintro H' ⟨G', us, acc, Fa, hI, _, hD, r, nDa, hF, s, gD⟩
    refine k (.lst acc) G' H' (.ref D) (D :: Fa) (fin acc hI) (s1.trans s w.bags) (.lst gD hD r nDa) fun a m => s1.none_back w.bags ?_
    rcases List.mem_cons.mp m with rfl | m
    · exact nD
    · exact hF a m
  case hs =>
    rintro i x H' H'' hi ⟨G', us, acc, Fa, hI, hl, hD, r, nDa, hF, s, gD⟩ y
    obtain ⟨G2, d, s2, rd, hd⟩ := hY i H' x H'' hi y B G' s.sG s.sGH
    have bb := bags_step s b1
    have s12 := s.trans s2 b1
    obtain ⟨Fw, ww, _⟩ := (w1.step s12).wipe (vs)
    refine ⟨G0, H0, B, G2, _, Fw, _, d, ww, rd, step i d acc hd hI, fun ρ' σ' F' p w' c z => ⟨(z _ hw).trans (wipe_wipe _ fun _ m => m), ?_⟩⟩
    refine ⟨G0, H0, B, G2, ρ', F', _, w', p, fun b G3 H3 p3 s3 => ?_⟩
    have s13 := s12.trans s3 b1
    have b3 := bags_step s13 b1
    have nbF : ∀ a ∈ Fa, NotB B a := fun a m => notB_new b1 (hF a m)
    have hD3 : H3 D = some (.lst us) := s3.keep _ _ (s2.keep _ _ hD nbD) nbD
    have s23 := s2.trans s3 bb
    have r3 := r.step s23 nbF
    cases b with
    | false =>
      exact ⟨G3, us, acc, Fa, by simpa using p3, Nat.le_succ_of_le hl, hD3, r3, nDa, hF, s13, s23.g_none gD (by rw [hD]; exact nofun)⟩
    | true =>
      refine ⟨G0, H0, B, G3, ρ', F', _, w'.step s3, (by simpa using p3), fun o G4 H4 v Fv p4 s4 r4 n4 => ?_⟩
      have hD4 : H4 D = some (.lst us) := s4.keep _ _ hD3 nbD
      have s24 := s23.trans s4 bb
      have gD4 : G4 D = none := s24.g_none gD (by rw [hD]; exact nofun)
      have nDv : D ∉ Fv := fun m => by rw [n4 D m] at hD3; cases hD3
      refine ⟨us, hD4, ?_, G4, us ++ [v], acc ++ [o], Fa ++ Fv, p4, by rw [List.length_append]; show _ + 1 ≤ _; omega, upd_same, ?_, ?_, ?_, ?_, gD4⟩
      · rw [r3.length]
        omega
      · have ra := RepOs.append (RepOs.cons (F1 := Fv) (F2 := []) r4 .nil fun _ _ m => nomatch m) (r3.step s4 nbF) (fun a m z => by
          rw [List.append_nil] at z
          exact (r3.dom a m).2 (n4 a z))
        rw [List.append_nil] at ra
        refine ra.mono (Same.refl _) (fun a m => (ra.dom a m).1) (fun a m u h => ?_)
        have : a ≠ D := fun z => by
          subst z
          exact (List.mem_append.mp m).elim nDa nDv
        rw [upd_ne this]
        exact h
      · exact fun m => (List.mem_append.mp m).elim nDa nDv
      · intro a m
        rcases List.mem_append.mp m with m | m
        · exact hF a m
        · exact s13.none_back b1 (n4 a m)
      · exact (s13.trans s4 b1).updNew b1 nD gD4
theorem do_lc (hc : X.calm = true) (hN : X.N.Nodup) (hi : DI K X tg iter Ti) (ok : BlkOk X.N X.env.scope scope own)
    (hg : ∀ (s : Shared) (H : Hp) (C : Addr) (cl : List (Str × Addr)) (fp : List Addr), DG K (X.blk s H scope (compEnvC scope cl C X.env) fp) tg ws g)
    (ht : ∀ (s : Shared) (H : Hp) (C : Addr) (cl : List (Str × Addr)) (fp : List Addr), DTs K (X.blk s H scope (compEnvC scope cl C X.env) fp) ifs Tt)
    (he : ∀ (s : Shared) (H : Hp) (C : Addr) (cl : List (Str × Addr)) (fp : List Addr), DO K (X.blk s H scope (compEnvC scope cl C X.env) fp) elt To) (hw : ∀ i ∈ ws, i ∈ own.map (·.2) := by decide) (hs : ∀ x, foldedSetIterable iter X.env x = pure x := by intro _; rfl) :
    DO K X (.ListComp elt [⟨tg, iter, ifs, 0⟩] scope pos) (lcT g Tt To Ti (own.map (·.2))) :=
  ⟨PE.weak (pe_lc hc hN hi.pi ok (fun s H C cl fp => (hg s H C cl fp).pg) (fun s H C cl fp => (ht s H C cl fp).pts) (fun s H C cl fp => (he s H C cl fp).pe) hs) (lift_lc hw)⟩
end
/-- a comprehension whose block changes nothing: what is kept of each item, and its value -/
theorem lc_fun {g : GT} {Tt : BT} {To : OT} {ρ : Env'} {ds : List PyData} {P : O → Prop} (p : PyData → Bool) (f : PyData → O) (hl : ds.length < sizeLine)
    (h : ∀ d ∈ ds, ∀ (yes : O → Prop) (no : Prop), (p d = true → yes (f d)) → (p d = false → no) → lcTurn g Tt To ρ d yes no) (hp : P (.lst ((ds.filter p).map f))) :
    ds.length < sizeLine ∧ ∃ I : Nat → List O → Prop, I 0 [] ∧ (∀ i d acc, ds[i]? = some d → I i acc → lcTurn g Tt To ρ d (fun o => I (i + 1) (acc ++ [o])) (I (i + 1) acc)) ∧ ∀ acc, I ds.length acc → P (.lst acc) := by
  refine ⟨hl, fun i acc => acc = ((ds.take i).filter p).map f, rfl, fun i d acc hd hI => ?_, fun acc hI => ?_⟩
  · have hI : acc = ((ds.take i).filter p).map f := hI
    have et : ds.take (i + 1) = ds.take i ++ [d] := by rw [List.take_add_one, hd]; rfl
    refine h d (List.mem_of_getElem? hd) _ _ (fun hp => ?_) (fun hp => ?_)
    · show acc ++ [f d] = ((ds.take (i + 1)).filter p).map f
      rw [et, List.filter_append, List.map_append, hI]
      simp [hp]
    · show acc = ((ds.take (i + 1)).filter p).map f
      rw [et, List.filter_append, List.map_append, hI]
      simp [hp]
  · have hI : acc = ((ds.take ds.length).filter p).map f := hI
    rw [List.take_length] at hI
    rw [hI]
    exact hp
end
end DL
set_option Elab.async false
set_option linter.all false
set_option maxRecDepth 100000
set_option maxHeartbeats 1000000
/-! DL5: statements, defs over data -/
namespace DL
open PySem PySem.Spec PyProof.Rows L2 GL
structure DEnds where
  nx : Env' → Prop
  rt : O → Prop
  bk : Env' → Prop := fun _ => False
  ct : Env' → Prop := fun _ => False
abbrev ST := DEnds → Env' → Prop
/-- how a def's value lies -/
structure Fin (K : PySem.W.Frag) (G0 H0 : Hp) (B : Option (Addr × Addr)) (G' H' : Hp) (v : V) (o : O) (Fv : List Addr) : Prop where
  stp : Stp B G0 H0 G' H'
  rep : RepO K G' H' v o Fv
  new : ∀ a ∈ Fv, H0 a = none
def liftS (K : PySem.W.Frag) (T : ST) : TS := fun D σ H => ∃ G0 H0 B G ρ F P, Wd K G0 H0 B G H σ ρ F ∧ T P ρ ∧
  (∀ ρ' σ' G' H' F', P.nx ρ' → Wd K G0 H0 B G' H' σ' ρ' F' → D.nx σ' H') ∧ (∀ o G' H' v Fv, P.rt o → Fin K G0 H0 B G' H' v o Fv → D.rt v H') ∧
  (∀ ρ' σ' G' H' F', P.bk ρ' → Wd K G0 H0 B G' H' σ' ρ' F' → D.bk σ' H') ∧ ∀ ρ' σ' G' H' F', P.ct ρ' → Wd K G0 H0 B G' H' σ' ρ' F' → D.ct σ' H'
structure DS (K : PySem.W.Frag) (X : Cx) (st : Stmt) (T : ST) : Prop where
  ps : PS X st (liftS K T)
structure DSs (K : PySem.W.Frag) (X : Cx) (sts : List Stmt) (T : ST) : Prop where
  pss : PSs X sts (liftS K T)
theorem PS.weak {X : Cx} {st : Stmt} {t t' : TS} (h : PS X st t) (k : ∀ D σ H, t' D σ H → t D σ H) : PS X st t' := ⟨fun pins s σ H D I q => h.run pins s σ H D I (k D σ H q)⟩
theorem PSs.weak {X : Cx} {st : List Stmt} {t t' : TS} (h : PSs X st t) (k : ∀ D σ H, t' D σ H → t D σ H) : PSs X st t' := ⟨fun pins s σ H D I q => h.run pins s σ H D I (k D σ H q)⟩
theorem Wd.fin {K : PySem.W.Frag} {G0 H0 : Hp} {B : Option (Addr × Addr)} {G H : Hp} {σ : L2.St} {ρ : Env'} {F Fv : List Addr} {v : V} {o : O} (w : Wd K G0 H0 B G H σ ρ F) (r : RepO K G H v o Fv) (n : ∀ a ∈ Fv, H0 a = none) : Fin K G0 H0 B G H v o Fv :=
  ⟨⟨w.keep, w.sG, w.sGH, w.fr, fun b e _ => (w.bag b e).1⟩, r, n⟩
theorem Wd.old {K : PySem.W.Frag} {G0 H0 : Hp} {B : Option (Addr × Addr)} {G H : Hp} {σ : L2.St} {ρ : Env'} {F : List Addr} (w : Wd K G0 H0 B G H σ ρ F) {a : Addr} (n : H a = none) : H0 a = none := by
  cases q : H0 a with
  | none => rfl
  | some u =>
    by_cases z : NotB B a
    · rw [w.keep a u q z] at n
      cases n
    · obtain ⟨c, z⟩ := isB z
      exact absurd n (w.bag _ z).1.some
section
variable {K : PySem.W.Frag} {X : Cx} {e a b c tg : Expr} {es rest : List Expr} {Ta Tb Tc : DT} {To Tp : OT} {Tt Tu : BT} {Tl : LT} {pos : Pos} {st : Stmt} {sts : List Stmt} {T U : ST}
theorem dss_nil : DSs K X [] (fun P ρ => P.nx ρ) := by
  refine ⟨PSs.weak pss_nil fun D σ H h => ?_⟩
  obtain ⟨G0, H0, B, G, ρ, F, P, w, t, k, _⟩ := h
  exact k ρ σ G H F t w
theorem dss_cons (h1 : DS K X st T) (h2 : DSs K X sts U) : DSs K X (st :: sts) (fun P ρ => T { P with nx := U P } ρ) := by
  refine ⟨PSs.weak (pss_cons h1.ps h2.pss) fun D σ H h => ?_⟩
  obtain ⟨G0, H0, B, G, ρ, F, P, w, t, k1, k2, k3, k4⟩ := h
  exact ⟨G0, H0, B, G, ρ, F, _, w, t, fun ρ' σ' G' H' F' p w' => ⟨G0, H0, B, G', ρ', F', P, w', p, k1, k2, k3, k4⟩, k2, k3, k4⟩
/-- what holds between the two is said -/
theorem dss_cut (h1 : DS K X st T) (h2 : DSs K X sts U) : DSs K X (st :: sts) (fun P ρ => ∃ J : Env' → Prop, T { P with nx := J } ρ ∧ ∀ ρ', J ρ' → U P ρ') := by
  refine ⟨PSs.weak (pss_cons h1.ps h2.pss) fun D σ H h => ?_⟩
  obtain ⟨G0, H0, B, G, ρ, F, P, w, ⟨J, t, j⟩, k1, k2, k3, k4⟩ := h
  exact ⟨G0, H0, B, G, ρ, F, _, w, t, fun ρ' σ' G' H' F' p w' => ⟨G0, H0, B, G', ρ', F', P, w', j ρ' p, k1, k2, k3, k4⟩, k2, k3, k4⟩
theorem dss_one (h : DS K X st T) : DSs K X [st] T := ⟨pss_one h.ps⟩
theorem ds_pass : DS K X (.Pass pos) (fun P ρ => P.nx ρ) := by
  refine ⟨PS.weak ps_pass fun D σ H h => ?_⟩
  obtain ⟨G0, H0, B, G, ρ, F, P, w, t, k, _⟩ := h
  exact k ρ σ G H F t w
/-- all that is one's own is frozen ahead of a block -/
theorem dss_frz (h : DSs K X sts T) : DSs K X sts (fun P ρ => T P (frz ρ)) := by
  refine ⟨PSs.weak h.pss fun D σ H h => ?_⟩
  obtain ⟨G0, H0, B, G, ρ, F, P, w, t, k⟩ := h
  exact ⟨G0, H0, B, _, _, _, P, frz_wd w, t, k⟩
/-- one slot frozen -/
def frzAt (ρ : Env') (i : Nat) : Env' := match ρ[i]? with
  | some (some n) => ρ.set i (some n.frz)
  | _ => ρ
theorem set_getD {α : Type} : ∀ (xs : List α) (i : Nat) {x : α}, xs[i]? = some x → xs.set i x = xs
  | [], _, _, h => by simp at h
  | y :: xs, 0, x, h => by simp at h; rw [h]; rfl
  | y :: xs, i + 1, x, h => by rw [List.set_cons_succ, set_getD xs i (by simpa using h)]
theorem frzAt_wd {G0 H0 : Hp} {B : Option (Addr × Addr)} {G H : Hp} {σ : L2.St} {ρ : Env'} {F : List Addr} (w : Wd K G0 H0 B G H σ ρ F) (i : Nat) : ∃ G' F', Wd K G0 H0 B G' H σ (frzAt ρ i) F' := by
  unfold frzAt
  split
  · rename_i n hn
    cases n with
    | d d => exact ⟨G, F, by rw [show (En.d d).frz = .d d from rfl, set_getD _ _ hn]; exact w⟩
    | bag => exact ⟨G, F, by rw [show En.bag.frz = .bag from rfl, set_getD _ _ hn]; exact w⟩
    | l xs =>
      obtain ⟨v, F1, e1, r, sub, go⟩ := w.env.change hn
      have h1 : ∀ a ∈ F1, G a = none := fun a m => (r.dom a m).1
      have nb : ∀ b, B = some b → b.1 ∉ F1 := fun b e m => (w.bag b e).2.2 (w.own _ (sub _ m))
      cases r with
      | l r =>
        obtain ⟨F', env', c⟩ := go (addF G H F1) H (.d (.list (eraseAll xs))) [] (addF_ext h1) (fun a m z => ⟨by rw [addF_out z]; exact (w.env.dom a m).1, fun u e => e⟩)
          (.d (r.freeze (addF_ext h1) fun a m u e => by rw [addF_in m]; exact e)) (fun _ m => nomatch m)
        refine ⟨addF G H F1, F', addF_sub w.sGH, w.sG.trans (addF_ext h1), fun a q => ?_, w.keep, fun a m => (c a m).elim (w.own a) (fun z => nomatch z), fun b e => ?_, env'⟩
        · by_cases m : a ∈ F1
          · exact .inr (w.own a (sub a m))
          · rw [addF_out m] at q
            exact w.fr a q
        · obtain ⟨⟨g, s', i', ns, e1, e2, e3⟩, g2, g3⟩ := w.bag b e
          exact ⟨⟨g, s', i', ns, e1, addF_ext h1 _ _ e2, e3⟩, by rw [addF_out (nb b e)]; exact g2, g3⟩
    | o a C fs =>
      obtain ⟨v, F1, e1, r, sub, go⟩ := w.env.change hn
      have h1 : ∀ a ∈ F1, G a = none := fun a m => (r.dom a m).1
      have nb : ∀ b, B = some b → b.1 ∉ F1 := fun b e m => (w.bag b e).2.2 (w.own _ (sub _ m))
      cases r with
      | o r =>
        obtain ⟨F', env', c⟩ := go (addF G H F1) H (.d (obD C fs)) [] (addF_ext h1) (fun a m z => ⟨by rw [addF_out z]; exact (w.env.dom a m).1, fun u e => e⟩)
          (.d (r.freeze (addF_ext h1) fun a m u e => by rw [addF_in m]; exact e)) (fun _ m => nomatch m)
        refine ⟨addF G H F1, F', addF_sub w.sGH, w.sG.trans (addF_ext h1), fun a q => ?_, w.keep, fun a m => (c a m).elim (w.own a) (fun z => nomatch z), fun b e => ?_, env'⟩
        · by_cases m : a ∈ F1
          · exact .inr (w.own a (sub a m))
          · rw [addF_out m] at q
            exact w.fr a q
        · obtain ⟨⟨g, s', i', ns, e1, e2, e3⟩, g2, g3⟩ := w.bag b e
          exact ⟨⟨g, s', i', ns, e1, addF_ext h1 _ _ e2, e3⟩, by rw [addF_out (nb b e)]; exact g2, g3⟩
  · exact ⟨G, F, w⟩
theorem dss_frzAt (i : Nat) (h : DSs K X sts T) : DSs K X sts (fun P ρ => T P (frzAt ρ i)) := by
  refine ⟨PSs.weak h.pss fun D σ H h => ?_⟩
  obtain ⟨G0, H0, B, G, ρ, F, P, w, t, k⟩ := h
  obtain ⟨G', F', w'⟩ := frzAt_wd w i
  exact ⟨G0, H0, B, G', _, F', P, w', t, k⟩
theorem ds_frzAt (i : Nat) (h : DS K X st T) : DS K X st (fun P ρ => T P (frzAt ρ i)) := by
  refine ⟨PS.weak h.ps fun D σ H h => ?_⟩
  obtain ⟨G0, H0, B, G, ρ, F, P, w, t, k⟩ := h
  obtain ⟨G', F', w'⟩ := frzAt_wd w i
  exact ⟨G0, H0, B, G', _, F', P, w', t, k⟩
theorem ds_expr (h : DO K X e To) (hs : swapsWith e none pos.line X.env = pure false := by rfl) : DS K X (.Expr e pos) (fun P ρ => To ρ fun _ => P.nx ρ) := by
  refine ⟨PS.weak (ps_expr h.pe hs) fun D σ H h => ?_⟩
  obtain ⟨G0, H0, B, G, ρ, F, P, w, t, k, _⟩ := h
  exact ⟨G0, H0, B, G, ρ, F, _, w, t, fun o G' H' v Fv p s _ _ => k ρ σ G' H' F p (w.step s)⟩
theorem ds_ret (h : DO K X e To) : DS K X (.Return (some e) pos) (fun P ρ => To ρ P.rt) := by
  refine ⟨PS.weak (ps_ret h.pe) fun D σ H h => ?_⟩
  obtain ⟨G0, H0, B, G, ρ, F, P, w, t, _, k, _⟩ := h
  exact ⟨G0, H0, B, G, ρ, F, _, w, t, fun o G' H' v Fv p s r n => k o G' H' v Fv p ((w.step s).fin r fun a m => w.old (n a m))⟩
/-- return of one's own list -/
theorem ds_retOwn {i : Nat} (h : PE X e (tVar i)) : DS K X (.Return (some e) pos) (fun P ρ => ∃ xs, ρ[i]? = some (some (.l xs)) ∧ P.rt (.lst xs)) := by
  refine ⟨PS.weak (ps_ret h) fun D σ H h => ?_⟩
  obtain ⟨G0, H0, B, G, ρ, F, P, w, ⟨xs, e1, t⟩, _, k, _⟩ := h
  obtain ⟨v, F1, e2, r, sub⟩ := w.env.get e1
  cases r with
  | l r => exact ⟨v, e2, k _ G H v F1 t (w.fin r fun a m => w.own a (sub a m))⟩
theorem ds_retN : DS K X (.Return none pos) (fun P ρ => P.rt (.dat .none)) := by
  refine ⟨PS.weak ps_retN fun D σ H h => ?_⟩
  obtain ⟨G0, H0, B, G, ρ, F, P, w, t, _, k, _⟩ := h
  exact k _ G H _ [] t (w.fin (.dat .non) fun _ m => nomatch m)
theorem ds_if {x y : List Stmt} (hc : DB K X c Tt) (ha : DSs K X x T) (hb : DSs K X y U) : DS K X (.If c x y pos) (fun P ρ => Tt ρ fun k => if k = true then T P ρ else U P ρ) := by
  refine ⟨PS.weak (ps_if hc.pt ha.pss hb.pss) fun D σ H h => ?_⟩
  obtain ⟨G0, H0, B, G, ρ, F, P, w, t, k⟩ := h
  refine ⟨G0, H0, B, G, ρ, F, _, w, t, fun c G' H' p s => ?_⟩
  cases c with
  | true =>
    show liftS K T D σ H'
    exact ⟨G0, H0, B, G', ρ, F, P, w.step s, by simpa using p, k⟩
  | false =>
    show liftS K U D σ H'
    exact ⟨G0, H0, B, G', ρ, F, P, w.step s, by simpa using p, k⟩
theorem Wd.setO {G0 H0 : Hp} {B : Option (Addr × Addr)} {G H G' H' : Hp} {σ : L2.St} {ρ : Env'} {F Fv : List Addr} {v : V} {o : O} (w : Wd K G0 H0 B G H σ ρ F) (s : Stp B G H G' H') (r : RepO K G' H' v o Fv) (n : ∀ a ∈ Fv, H a = none) (i : Nat) :
    ∃ F', Wd K G0 H0 B G' H' (σ.set i (some v)) (ρ.set i (some (En.of o))) F' := by
  obtain ⟨F', w', _⟩ := (w.step s).set (RepN.ofO r) i (fun a m z => (w.env.dom a z).2 (n a m)) (fun a m => w.old (n a m))
  exact ⟨F', w'⟩
/-- x = e -/
theorem ds_set {i : Nat} {x : Str} {pos' : Pos} (hN : X.N.Nodup) (hi : X.N[i]? = some x) (hx : Loc X.env.scope x) (h : DO K X e To) (hs : swapsWith e (some (.Name x pos')) pos.line X.env = pure false := by rfl) (hf : X.fn x = true ∨ X.env.scope.names.lookup x = some .local := by first | exact .inl rfl | exact .inr rfl | assumption) :
    DS K X (.Assign [.Name x pos'] e pos) (fun P ρ => To ρ fun o => P.nx (ρ.set i (some (En.of o)))) := by
  refine ⟨PS.weak (ps_set hN hi hx h.pe hs hf) fun D σ H h => ?_⟩
  obtain ⟨G0, H0, B, G, ρ, F, P, w, t, k, _⟩ := h
  refine ⟨G0, H0, B, G, ρ, F, _, w, t, fun o G' H' v Fv p s r n => ?_⟩
  obtain ⟨F', w'⟩ := w.setO s r n i
  exact k _ _ G' H' F' p w'
/-- x = [.. for ..] on one line -/
theorem ds_setLc {i : Nat} {y : Str} {py : Pos} {elt iter : Expr} {ifs : List Expr} {scope : Scope} {own : List (Str × Nat)} {pos spos : Pos} {ws : List Nat} {g : GT} {Ti : LT} (hc : X.calm = true) (hN : X.N.Nodup) (hy : X.N[i]? = some y) (hyl : X.env.scope.names.lookup y = some .local)
    (hsw : swapsWith (.ListComp elt [⟨tg, iter, ifs, 0⟩] scope pos) (some (.Name y py)) spos.line X.env = pure true) (hi : DI K X tg iter Ti) (ok : BlkOk X.N X.env.scope scope own)
    (hg : ∀ (s : Shared) (H : Hp) (C : Addr) (cl : List (Str × Addr)) (fp : List Addr), DG K (X.blk s H scope (compEnvC scope cl C X.env) fp) tg ws g)
    (ht : ∀ (s : Shared) (H : Hp) (C : Addr) (cl : List (Str × Addr)) (fp : List Addr), DTs K (X.blk s H scope (compEnvC scope cl C X.env) fp) ifs Tt)
    (he : ∀ (s : Shared) (H : Hp) (C : Addr) (cl : List (Str × Addr)) (fp : List Addr), DO K (X.blk s H scope (compEnvC scope cl C X.env) fp) elt To) (hw : ∀ i ∈ ws, i ∈ own.map (·.2) := by decide) (hs : ∀ x, foldedSetIterable iter X.env x = pure x := by intro _; rfl) :
    DS K X (.Assign [.Name y py] (.ListComp elt [⟨tg, iter, ifs, 0⟩] scope pos) spos) (fun P ρ => lcT g Tt To Ti (own.map (·.2)) ρ fun o => P.nx (ρ.set i (some (En.of o)))) := by
  refine ⟨PS.weak (ps_setLc hc hN hy hyl hsw hi.pi ok (fun s H C cl fp => (hg s H C cl fp).pg) (fun s H C cl fp => (ht s H C cl fp).pts) (fun s H C cl fp => (he s H C cl fp).pe) hs) fun D σ H h => ?_⟩
  obtain ⟨G0, H0, B, G, ρ, F, P, w, t, k, _⟩ := h
  refine lift_lc hw σ H _ ⟨G0, H0, B, G, ρ, F, _, w, t, fun o G' H' v Fv p s r n => ?_⟩
  obtain ⟨F', w'⟩ := w.setO s r n i
  exact k _ _ G' H' F' p w'
/-! lists of values -/
structure DOA (K : PySem.W.Frag) (X : Cx) (es : List Expr) (T : Env' → (List O → Prop) → Prop) : Prop where
  pa : PA X es (fun σ H Q => ∃ G0 H0 B G ρ F P, Wd K G0 H0 B G H σ ρ F ∧ T ρ P ∧ ∀ os G' H' vs Fv, P os → Stp B G H G' H' → RepOs K G' H' vs os Fv → (∀ a ∈ Fv, H a = none) → Q vs H')
theorem doa_nil : DOA K X [] (fun _ P => P []) := by
  refine ⟨PA.weak pa_nil fun σ H Q h => ?_⟩
  obtain ⟨G0, H0, B, G, ρ, F, P, w, t, k⟩ := h
  exact k [] G H [] [] t (.refl w.sGH) .nil (fun _ m => nomatch m)
theorem doa_cons {Ts : Env' → (List O → Prop) → Prop} (h : DO K X e To) (ht : DOA K X es Ts) (hs : starEach (e :: es) X.env = (false, eval e X.env) :: starEach es X.env := by rfl) : DOA K X (e :: es) (fun ρ P => To ρ fun o => Ts ρ fun os => P (o :: os)) := by
  refine ⟨PA.weak (pa_cons h.pe ht.pa hs) fun σ H Q h => ?_⟩
  obtain ⟨G0, H0, B, G, ρ, F, P, w, t, k⟩ := h
  refine ⟨G0, H0, B, G, ρ, F, _, w, t, fun o G1 H1 v Fv p1 s1 r1 n1 => ⟨G0, H0, B, G1, ρ, F, _, w.step s1, p1, fun os G2 H2 vs Fw p2 s2 r2 n2 => ?_⟩⟩
  refine k (o :: os) G2 H2 (v :: vs) (Fv ++ Fw) p2 (s1.trans s2 w.bags) (.cons (r1.step s2 fun a m => notB_new w.bags (n1 a m)) r2 fun a m z => (r1.dom a m).2 (n2 a z)) fun a m => ?_
  rcases List.mem_append.mp m with m | m
  · exact n1 a m
  · exact s1.none_back w.bags (n2 a m)
/-- x, y = e, f -/
theorem ds_par {Ts : Env' → (List O → Prop) → Prop} {i j : Nat} {x y : Str} {px py pt : Pos} {kt k2 pt2} (hc : X.calm = true) (hN : X.N.Nodup) (hi : X.N[i]? = some x) (hj : X.N[j]? = some y) (hij : i ≠ j)
    (hx : X.env.scope.names.lookup x = some .local) (hy : X.env.scope.names.lookup y = some .local) (ha : DOA K X [a, b] Ts)
    (hw : swappedStores [.Tuple [.Name x px, .Name y py] kt pt] (.Tuple [a, b] k2 pt2) X.env = pure (some [x, y]))
    (hs : swapsWithSole [.Tuple [.Name x px, .Name y py] kt pt] (.Tuple [a, b] k2 pt2) pos.line X.env = pure false := by rfl) :
    DS K X (.Assign [.Tuple [.Name x px, .Name y py] kt pt] (.Tuple [a, b] k2 pt2) pos) (fun P ρ => Ts ρ fun os => ∃ o p, os = [o, p] ∧ P.nx ((ρ.set i (some (En.of o))).set j (some (En.of p)))) := by
  refine ⟨PS.weak (L2.ps_par hc hN hi hj hij hx hy ha.pa hw hs) fun D σ H h => ?_⟩
  obtain ⟨G0, H0, B, G, ρ, F, P, w, t, k, _⟩ := h
  refine ⟨G0, H0, B, G, ρ, F, _, w, t, fun os G' H' vs Fv p s r n => ?_⟩
  obtain ⟨o, q, rfl, p⟩ := p
  cases r with
  | @cons v _ _ _ F1 _ r1 r2 d1 =>
    cases r2 with
    | @cons u _ _ _ F2 _ r2 r3 d2 =>
      cases r3
      rw [List.append_nil] at d1 n
      obtain ⟨Fa, w1, c1⟩ := (w.step s).set (RepN.ofO r1) i (fun a m z => (w.env.dom a z).2 (n a (List.mem_append_left _ m))) (fun a m => w.old (n a (List.mem_append_left _ m)))
      obtain ⟨Fb, w2, _⟩ := w1.set (RepN.ofO r2) j (fun a m z => (c1 a z).elim (fun z => (w.env.dom a z).2 (n a (List.mem_append_right _ m))) fun z => d1 a z m) (fun a m => w.old (n a (List.mem_append_right _ m)))
      exact ⟨v, u, rfl, k _ _ G' H' Fb p w2⟩
theorem ds_par3 {Ts : Env' → (List O → Prop) → Prop} {i j l : Nat} {x y z : Str} {px py pz pt : Pos} {kt k2 pt2} (hc : X.calm = true) (hN : X.N.Nodup) (hi : X.N[i]? = some x) (hj : X.N[j]? = some y) (hl : X.N[l]? = some z) (hij : i ≠ j) (hil : i ≠ l) (hjl : j ≠ l)
    (hx : X.env.scope.names.lookup x = some .local) (hy : X.env.scope.names.lookup y = some .local) (hz : X.env.scope.names.lookup z = some .local) (ha : DOA K X [a, b, c] Ts)
    (hw : swappedStores [.Tuple [.Name x px, .Name y py, .Name z pz] kt pt] (.Tuple [a, b, c] k2 pt2) X.env = pure (some [x, y, z]))
    (hs : swapsWithSole [.Tuple [.Name x px, .Name y py, .Name z pz] kt pt] (.Tuple [a, b, c] k2 pt2) pos.line X.env = pure false := by rfl) :
    DS K X (.Assign [.Tuple [.Name x px, .Name y py, .Name z pz] kt pt] (.Tuple [a, b, c] k2 pt2) pos) (fun P ρ => Ts ρ fun os => ∃ o p q, os = [o, p, q] ∧ P.nx (((ρ.set i (some (En.of o))).set j (some (En.of p))).set l (some (En.of q)))) := by
  refine ⟨PS.weak (L2.ps_par3 hc hN hi hj hl hij hil hjl hx hy hz ha.pa hw hs) fun D σ H h => ?_⟩
  obtain ⟨G0, H0, B, G, ρ, F, P, w, t, k, _⟩ := h
  refine ⟨G0, H0, B, G, ρ, F, _, w, t, fun os G' H' vs Fv p s r n => ?_⟩
  obtain ⟨o, p', q, rfl, p⟩ := p
  cases r with
  | @cons v _ _ _ F1 _ r1 r2 d1 =>
    cases r2 with
    | @cons u _ _ _ F2 _ r2 r3 d2 =>
      cases r3 with
      | @cons t' _ _ _ F3 _ r3 r4 d3 =>
        cases r4
        rw [List.append_nil] at d2 d1 n
        have n1 : ∀ a ∈ F1, H a = none := fun a m => n a (List.mem_append_left _ m)
        have n2 : ∀ a ∈ F2, H a = none := fun a m => n a (List.mem_append_right _ (List.mem_append_left _ m))
        have n3 : ∀ a ∈ F3, H a = none := fun a m => n a (List.mem_append_right _ (List.mem_append_right _ m))
        obtain ⟨Fa, w1, c1⟩ := (w.step s).set (RepN.ofO r1) i (fun a m z => (w.env.dom a z).2 (n1 a m)) (fun a m => w.old (n1 a m))
        obtain ⟨Fb, w2, c2⟩ := w1.set (RepN.ofO r2) j (fun a m z => (c1 a z).elim (fun z => (w.env.dom a z).2 (n2 a m)) fun z => d1 a z (List.mem_append_left _ m)) (fun a m => w.old (n2 a m))
        obtain ⟨Fc, w3, _⟩ := w2.set (RepN.ofO r3) l (fun a m z => (c2 a z).elim (fun z => (c1 a z).elim (fun z => (w.env.dom a z).2 (n3 a m)) fun z => d1 a z (List.mem_append_right _ m)) fun z => d2 a z m) (fun a m => w.old (n3 a m))
        exact ⟨v, u, t', rfl, k _ _ G' H' Fc p w3⟩
/-- (x, y) = e: e's value taken apart -/
theorem ds_asg {ws : List Nat} {g : GT} (h : DE K X e Ta) (hg : DG K X tg ws g) (hs : swapsWithSole [tg] e pos.line X.env = pure false := by rfl) (hw : swappedStores [tg] e X.env = pure none := by rfl)
    (h1 : (assignEach [tg] X.env).map (·.2) = [assign tg X.env] := by rfl) : DS K X (.Assign [tg] e pos) (fun P ρ => Ta ρ fun d => g d ρ P.nx) := by
  refine ⟨PS.weak (ps_asg h.pe hg.pg hs hw h1) fun D σ H h => ?_⟩
  obtain ⟨G0, H0, B, G, ρ, F, P, w, t, k, _⟩ := h
  refine ⟨G0, H0, B, G, ρ, F, _, w, t, fun d G' H' v p s r => ?_⟩
  exact ⟨G0, H0, B, G', ρ, F, _, d, w.step s, r, p, fun ρ' σ' F' p' w' _ _ => k ρ' σ' G' H' F' p' w'⟩
/-! one's own lists changed -/
theorem Wd.grow {G0 H0 : Hp} {B : Option (Addr × Addr)} {G H : Hp} {σ : L2.St} {ρ : Env'} {F : List Addr} (w : Wd K G0 H0 B G H σ ρ F) {i : Nat} {xs : List O} (e : ρ[i]? = some (some (.l xs))) :
    ∃ p us, σ[i]? = some (some (.ref p)) ∧ H p = some (.lst us) ∧ us.length = xs.length ∧ ∀ G' H' vs os Fv, Stp B G H G' H' → RepOs K G' H' vs os Fv → (∀ a ∈ Fv, H a = none) →
      H' p = some (.lst us) ∧ ∃ F', Wd K G0 H0 B G' (upd H' p (.lst (us ++ vs))) σ (ρ.set i (some (.l (xs ++ os)))) F' := by
  obtain ⟨v, F1, e1, r, sub, _⟩ := w.env.change e
  cases r with
  | l r =>
    cases r with
    | @lst p us _ F2 g h r1 np =>
      refine ⟨p, us, e1, h, r1.length, fun G' H' vs os Fv s ro n => ?_⟩
      have w' := w.step s
      have nbp : NotB B p := fun c z => (w.bag _ z).2.2 (w.own p (sub p List.mem_cons_self))
      have hp' := s.keep _ _ h nbp
      refine ⟨hp', ?_⟩
      obtain ⟨v2, F3, e3, r3, sub3, go⟩ := w'.env.change e
      rw [e1] at e3
      cases e3
      cases r3 with
      | l r3 =>
        cases r3 with
        | @lst _ us' _ F4 g4 h4 r4 np4 =>
          rw [hp'] at h4
          cases h4
          have pv : p ∉ Fv := fun m => by rw [n p m] at h; cases h
          have own4 : ∀ a ∈ F4, H a ≠ none := fun a m => (w.env.dom a (sub3 a (List.mem_cons_of_mem _ m))).2
          have ra := RepOs.append ro r4 (fun a m z => own4 a m (n a z))
          have oth : ∀ a, a ≠ p → ∀ u, H' a = some u → upd H' p (.lst (us ++ vs)) a = some u := fun a z u q => by rw [upd_ne z]; exact q
          have ra' : RepOs K G' (upd H' p (.lst (us ++ vs))) (us ++ vs) (xs ++ os) (F4 ++ Fv) := ra.mono (Same.refl _) (fun a m => (ra.dom a m).1) (fun a m => oth a fun z => by
            subst z
            exact (List.mem_append.mp m).elim np4 pv)
          obtain ⟨F', env', c⟩ := go G' (upd H' p (.lst (us ++ vs))) (.l (xs ++ os)) (p :: (F4 ++ Fv)) (Same.refl _) (fun a m z => ⟨(w'.env.dom a m).1, oth a fun q => z (by rw [q]; exact List.mem_cons_self)⟩)
            (.l (.lst (w'.env.dom p (sub3 p List.mem_cons_self)).1 upd_same ra' fun m => (List.mem_append.mp m).elim np4 pv)) (fun a m => by
              rcases List.mem_cons.mp m with rfl | m
              · exact .inl List.mem_cons_self
              · rcases List.mem_append.mp m with m | m
                · exact .inl (List.mem_cons_of_mem _ m)
                · exact .inr fun z => (w.env.dom a z).2 (n a m))
          have gp : G' p = none := (w'.env.dom p (sub3 p List.mem_cons_self)).1
          refine ⟨F', ⟨fun a u q => ?_, w'.sG, w'.fr, fun a u q nb => ?_, fun a m => ?_, fun b z => ?_, env'⟩⟩
          · have : a ≠ p := fun z => by rw [z, gp] at q; cases q
            rw [upd_ne this]
            exact w'.sGH _ _ q
          · have : a ≠ p := fun z => by rw [z, w.own p (sub p List.mem_cons_self)] at q; cases q
            rw [upd_ne this]
            exact w'.keep a u q nb
          · rcases c a m with m | m
            · exact w'.own a m
            · rcases List.mem_cons.mp m with rfl | m
              · exact w.own _ (sub _ List.mem_cons_self)
              · rcases List.mem_append.mp m with m | m
                · exact w'.own a (sub3 a (List.mem_cons_of_mem _ m))
                · exact w.old (n a m)
          · obtain ⟨⟨g', s', i', ns, q1, q2, q3⟩, q4, q5⟩ := w'.bag b z
            have : b.1 ≠ p := fun y => nbp b.2 (by rw [← y]; exact z)
            exact ⟨⟨g', s', i', ns, by rw [upd_ne this]; exact q1, q2, q3⟩, q4, q5⟩
theorem tyV_lst {H : Hp} {p : Addr} {us : List V} (h : H p = some (.lst us)) : tyV K "list" (.ref p) H := .inl ⟨rfl, _, .inl (.inl h)⟩
/-- xs.append(e), xs one's own -/
theorem ds_append {i : Nat} {o : Expr} {apos cpos : Pos} (e1 : X.K = K) (ho : PE X o (tVar i)) (h : DO K X e To)
    (hbase : attributeBase o "append" X.env (eval o X.env) = eval o X.env := by rfl)
    (hfew : ((backTo cpos (starEach [e] X.env)).all (fun x => !x.1) && (backToKw cpos (keywordEach [] X.env)).all (fun x => x.1.isSome)
      && decide ([e].length + ([] : List Keyword).length + (if ([] : List Keyword).isEmpty then 0 else 1) < 30)) = true := by rfl)
    (hline : (apos.endLine == cpos.line) = true := by rfl) (hs : starEach [e] X.env = (false, eval e X.env) :: starEach [] X.env := by rfl) (hplain : (backTo cpos (starEach [] X.env)).any (·.1) = false := by rfl)
    (hsw : swapsWith (.Call (.Attribute o "append" apos) [e] [] cpos) none pos.line X.env = pure false := by rfl) :
    DS K X (.Expr (.Call (.Attribute o "append" apos) [e] [] cpos) pos) (fun P ρ => ∃ xs, ρ[i]? = some (some (.l xs)) ∧ xs.length < sizeLine ∧ To ρ fun o => P.nx (ρ.set i (some (.l (xs ++ [o]))))) := by
  subst e1
  refine ⟨PS.weak (ps_expr (pe_bm PySem.F.plainAttrs_list PySem.F.slot_list_append PySem.F.type_list_append mt_append ho (pa_cons h.pe pa_nil hs) hbase hfew hline hs hplain) hsw) fun D σ H h => ?_⟩
  obtain ⟨G0, H0, B, G, ρ, F, P, w, ⟨xs, e1, hl, t⟩, k, _⟩ := h
  obtain ⟨p, us, e2, h2, l2, go⟩ := w.grow e1
  refine ⟨.ref p, e2, tyV_lst h2, G0, H0, B, G, ρ, F, _, w, t, fun o G' H' v Fv p' s r n => ?_⟩
  obtain ⟨h3, F', w'⟩ := go G' H' [v] [o] (Fv ++ []) s (.cons r .nil fun _ _ m => nomatch m) (fun a m => n a (by rw [List.append_nil] at m; exact m))
  exact ⟨p, us, v, rfl, rfl, h3, by rw [l2]; exact hl, k _ σ G' _ F' p' w'⟩
/-- xs.extend(e), xs one's own, e a list -/
theorem ds_extend {i : Nat} {o : Expr} {apos cpos : Pos} (e1 : X.K = K) (ho : PE X o (tVar i)) (h : DE K X e Ta)
    (hbase : attributeBase o "extend" X.env (eval o X.env) = eval o X.env := by rfl)
    (hfew : ((backTo cpos (starEach [e] X.env)).all (fun x => !x.1) && (backToKw cpos (keywordEach [] X.env)).all (fun x => x.1.isSome)
      && decide ([e].length + ([] : List Keyword).length + (if ([] : List Keyword).isEmpty then 0 else 1) < 30)) = true := by rfl)
    (hline : (apos.endLine == cpos.line) = true := by rfl) (hs : starEach [e] X.env = (false, eval e X.env) :: starEach [] X.env := by rfl) (hplain : (backTo cpos (starEach [] X.env)).any (·.1) = false := by rfl)
    (hsw : swapsWith (.Call (.Attribute o "extend" apos) [e] [] cpos) none pos.line X.env = pure false := by rfl) :
    DS K X (.Expr (.Call (.Attribute o "extend" apos) [e] [] cpos) pos) (fun P ρ => ∃ xs, ρ[i]? = some (some (.l xs)) ∧ Ta ρ fun d => ∃ ds, d = .list ds ∧ xs.length + ds.length ≤ sizeLine ∧ P.nx (ρ.set i (some (.l (xs ++ ds.map .dat))))) := by
  subst e1
  refine ⟨PS.weak (ps_expr (pe_bm PySem.F.plainAttrs_list PySem.F.slot_list_extend PySem.F.type_list_extend mt_extend ho (pa_cons h.pe pa_nil hs) hbase hfew hline hs hplain) hsw) fun D σ H h => ?_⟩
  obtain ⟨G0, H0, B, G, ρ, F, P, w, ⟨xs, e1, t⟩, k, _⟩ := h
  obtain ⟨p, us, e2, h2, l2, go⟩ := w.grow e1
  refine ⟨.ref p, e2, tyV_lst h2, G0, H0, B, G, ρ, F, _, w, t, fun d G' H' v p' s r => ?_⟩
  obtain ⟨ds, rfl, hl, p'⟩ := p'
  cases r with
  | @lst q vs _ h5 h6 =>
    obtain ⟨h3, F', w'⟩ := go G' H' vs (ds.map .dat) [] s (.ofDat h6) (fun a m => nomatch m)
    exact ⟨p, q, us, vs, rfl, rfl, h3, s.sGH _ _ h5, by rw [l2, h6.length]; exact hl, k _ σ G' _ F' p' w'⟩
theorem Wd.rebase {G0 H0 : Hp} {B : Option (Addr × Addr)} {G H : Hp} {σ : L2.St} {ρ : Env'} {F : List Addr} (w : Wd K G0 H0 B G H σ ρ F) : Wd K G H0 B G H σ ρ F :=
  ⟨w.sGH, Same.refl _, fun _ h => .inl h, w.keep, w.own, w.bag, w.env⟩
theorem Wd.unbase {G0 H0 : Hp} {B : Option (Addr × Addr)} {G H G' H' : Hp} {σ σ' : L2.St} {ρ ρ' : Env'} {F F' : List Addr} (w : Wd K G0 H0 B G H σ ρ F) (w' : Wd K G H0 B G' H' σ' ρ' F') : Wd K G0 H0 B G' H' σ' ρ' F' :=
  ⟨w'.sGH, w.sG.trans w'.sG, fun a h => (w'.fr a h).elim (w.fr a) .inr, w'.keep, w'.own, w'.bag, w'.env⟩
theorem Fin.unbase {G0 H0 : Hp} {B : Option (Addr × Addr)} {G H G' H' : Hp} {σ : L2.St} {ρ : Env'} {F Fv : List Addr} {v : V} {o : O} (w : Wd K G0 H0 B G H σ ρ F) (h : Fin K G H0 B G' H' v o Fv) : Fin K G0 H0 B G' H' v o Fv :=
  ⟨⟨h.stp.keep, w.sG.trans h.stp.sG, h.stp.sGH, fun a z => (h.stp.fr a z).elim (w.fr a) .inr, fun b e k => by
    obtain ⟨g, s, i, ns, e1, e2, e3⟩ := k
    exact h.stp.bag b e ⟨g, s, i, ns, e1, w.sG _ _ e2, e3⟩⟩, h.rep, h.new⟩
/-! for -/
theorem ds_for {iter : Expr} {body : List Stmt} {ws : List Nat} {g : GT} {Ti : LT} (hp : PassesOwn (model X.prog X.w) X.A X.env X.xe) (hc : X.calm = true) (hi : DI K X tg iter Ti) (hg : DG K X tg ws g) (hb : DSs K X body T)
    (hs : ∀ x, foldedSetIterable iter X.env x = pure x := by intro _; rfl) :
    DS K X (.For tg iter body [] pos) (fun P ρ => Ti ρ fun ds => ∃ I : Nat → Env' → Prop, I 0 ρ ∧ (∀ i d ρ', ds[i]? = some d → I i ρ' → g d ρ' fun ρ2 => T { nx := I (i + 1), ct := I (i + 1), bk := P.nx, rt := P.rt } ρ2) ∧ ∀ ρ', I ds.length ρ' → P.nx ρ') := by
  refine ⟨PS.weak (ps_for hp hc hi.pi hg.pg hb.pss hs) fun D σ H h => ?_⟩
  obtain ⟨G0, H0, B, G, ρ, F, P, w, t, k1, k2, k3, k4⟩ := h
  refine ⟨G0, H0, B, G, ρ, F, _, w, t, fun ds G1 H1 J p1 s1 it => ?_⟩
  obtain ⟨I, i0, step, fin⟩ := p1
  obtain ⟨Gp, Y, wk, hGp, hY⟩ := it
  refine for_it wk (fun i σ' H' => ∃ ρ' G' F', I i ρ' ∧ Wd K G0 H0 B G' H' σ' ρ' F' ∧ Same G1 G') ⟨ρ, G1, F, i0, w.step s1, Same.refl _⟩ (fun i σ' H' _ h => ?_) (fun i x σ' H' H'' hi h y => ?_) (fun σ' H' h => ?_)
  · obtain ⟨ρ', G', F', _, w', s⟩ := h
    exact hGp H' (s.trans w'.sGH)
  · obtain ⟨ρ', G', F', hI, w', s⟩ := h
    obtain ⟨G2, d, s2, rd, hd⟩ := hY i H' x H'' hi y B G' s w'.sGH
    refine ⟨G0, H0, B, G2, ρ', F', _, d, w'.step s2, rd, step i d ρ' hd hI, fun ρ2 σ2 F2 p2 w2 _ _ => ?_⟩
    have s3 : Same G1 G2 := s.trans s2.sG
    exact ⟨G2, H0, B, G2, ρ2, F2, _, w2.rebase, p2, fun ρ3 σ3 G3 H3 F3 p3 w3 => ⟨ρ3, G3, F3, p3, w2.unbase w3, s3.trans w3.sG⟩, fun o G3 H3 v Fv p3 f => k2 o G3 H3 v Fv p3 (f.unbase w2),
      fun ρ3 σ3 G3 H3 F3 p3 w3 => k1 ρ3 σ3 G3 H3 F3 p3 (w2.unbase w3), fun ρ3 σ3 G3 H3 F3 p3 w3 => ⟨ρ3, G3, F3, p3, w2.unbase w3, s3.trans w3.sG⟩⟩
  · obtain ⟨ρ', G', F', hI, w', s⟩ := h
    exact k1 ρ' σ' G' H' F' (fin ρ' hI) w'
end

/-! ### defs -/
inductive RepA (K : PySem.W.Frag) (B : Option (Addr × Addr)) (G : Hp) : List V → List En → Prop
  | nil : RepA K B G [] []
  | d {v : V} {d : PyData} {vs : List V} {as : List En} : Dr K G v d → RepA K B G vs as → RepA K B G (v :: vs) (.d d :: as)
  | bag {b : Addr × Addr} {vs : List V} {as : List En} : B = some b → RepA K B G vs as → RepA K B G (.ref b.1 :: vs) (.bag :: as)
abbrev DSp := List En → (O → Prop) → Prop
def spF (K : PySem.W.Frag) (S : DSp) : Sp := fun vs H Q _ => ∃ B G as P, Same G H ∧ (∀ b, B = some b → BagAt G H b ∧ G b.1 = none) ∧ RepA K B G vs as ∧ S as P ∧
  ∀ o G' H' v Fv, P o → Stp B G H G' H' → RepO K G' H' v o Fv → (∀ a ∈ Fv, H a = none) → Q v H'
section
variable {K : PySem.W.Frag} {B : Option (Addr × Addr)} {G H G' H' : Hp}
theorem RepA.length : ∀ {vs : List V} {as : List En}, RepA K B G vs as → vs.length = as.length
  | _, _, .nil => rfl
  | _, _, .d _ t => by rw [List.length_cons, List.length_cons, RepA.length t]
  | _, _, .bag _ t => by rw [List.length_cons, List.length_cons, RepA.length t]
theorem RepA.env : ∀ {vs : List V} {as : List En} {n : Nat}, RepA K B G vs as → RepE K B G H (vs.map some ++ List.replicate n none) (as.map some ++ List.replicate n none) []
  | [], _, 0, .nil => .nil
  | [], _, n + 1, .nil => .non (RepA.env (vs := []) (n := n) .nil)
  | _, _, _, .d h t => .d h (RepA.env t)
  | _, _, _, .bag h t => .bag h (RepA.env t)
theorem RepA.same (s : Same G G') : ∀ {vs : List V} {as : List En}, RepA K B G vs as → RepA K B G' vs as
  | _, _, .nil => .nil
  | _, _, .d h t => .d (h.same s) (RepA.same s t)
  | _, _, .bag h t => .bag h (RepA.same s t)
end
/-- the slots at a def's start -/
def startD (N : List Str) (as : List En) : Env' := as.map some ++ List.replicate (N.length - as.length) none
section
variable {P : Program} {w : World} {K : PySem.W.Frag} {mg : Str → Option Value} {base : Heap} {x qual : Str} {st : Stmt} {f : Addr} {fd : FuncData} {N ps : List Str} {k : Nat} {S : DSp}
/-- a def by its body -/
theorem okD (F : Fun K x qual st f fd) (Sc : FnScope N ps (defScope st)) (many : ∀ as Q, S as Q → as.length = ps.length)
    (body : ∀ (cdv : Value) (A : Around) (out : List Env) (s : Shared) (H : Hp) (E : XK),
      Gd (A.deeper (envOfC qual (defScope st) s.heap.objs.size f cdv)) → Room k (A.deeper (envOfC qual (defScope st) s.heap.objs.size f cdv)) →
      ∃ T, DSs K (cxOf CX0 P w K mg base N qual (defScope st) f cdv A out s H E).nox (defBody st) T ∧ ∀ as Q, S as Q → T { nx := fun _ => Q (.dat .none), rt := Q } (startD N as)) :
    FnG P w K mg base (k + 1) f fd ps (spF K S) := by
  refine okG F Sc (fun vs H Q E h => ?_) (fun cdv A out s H vs Q E hG hr h => ?_)
  · obtain ⟨B, G, as, P', _, _, r, h, _⟩ := h
    rw [r.length]
    exact many as P' h
  · obtain ⟨B, G, as, P', sm, hb, r, h, go⟩ := h
    obtain ⟨T, d, t⟩ := body cdv A out s H E hG hr
    refine ⟨_, d.pss, G, H, B, G, startD N as, [], _, ⟨sm, Same.refl _, fun _ z => .inl z, fun _ _ z _ => z, (fun _ m => nomatch m), fun b e => ⟨(hb b e).1, (hb b e).2, (hb b e).1.some⟩, ?_⟩, t as P' h, fun ρ' σ' G' H' F' p w' => ?_, fun o G' H' v Fv p f => go o G' H' v Fv p f.stp f.rep f.new, (fun _ _ _ _ _ z => z.elim), fun _ _ _ _ _ z => z.elim⟩
    · show RepE K B G H (L2.start N vs) _ []
      unfold L2.start startD
      rw [r.length]
      exact r.env
    · have f := w'.fin (v := .non) (o := .dat .none) (.dat .non) (fun _ m => nomatch m)
      exact go _ G' H' .non [] p f.stp f.rep f.new
theorem FnG.mono {sp sp' : Sp} (F : FnG P w K mg base k f fd ps sp) (h : ∀ vs H Q E, sp' vs H Q E → sp vs H Q E) : FnG P w K mg base k f fd ps sp' :=
  ⟨fun vs H Q E z => F.many vs H Q E (h vs H Q E z), fun A out s H ar us vs Q E g r e b v z => F.does A out s H ar us vs Q E g r e b v (h vs H Q E z)⟩
end
section
variable {K : PySem.W.Frag} {X : Cx} {e : Expr} {es : List Expr} {Ta : DT} {pos : Pos}
/-- a call's arguments: data, or the bag -/
structure DR (K : PySem.W.Frag) (X : Cx) (es : List Expr) (T : Env' → (List En → Prop) → Prop) : Prop where
  pa : PA X es (fun σ H Q => ∃ G0 H0 B G ρ F P, Wd K G0 H0 B G H σ ρ F ∧ T ρ P ∧ ∀ as G' H' vs, P as → Stp B G H G' H' → RepA K B G' vs as → Q vs H')
theorem dr_nil : DR K X [] (fun _ P => P []) := by
  refine ⟨PA.weak pa_nil fun σ H Q h => ?_⟩
  obtain ⟨G0, H0, B, G, ρ, F, P, w, t, k⟩ := h
  exact k [] G H [] t (.refl w.sGH) .nil
theorem dr_cons {T : Env' → (List En → Prop) → Prop} (h : DE K X e Ta) (ht : DR K X es T) (hs : starEach (e :: es) X.env = (false, eval e X.env) :: starEach es X.env := by rfl) : DR K X (e :: es) (fun ρ P => Ta ρ fun d => T ρ fun as => P (.d d :: as)) := by
  refine ⟨PA.weak (pa_cons h.pe ht.pa hs) fun σ H Q h => ?_⟩
  obtain ⟨G0, H0, B, G, ρ, F, P, w, t, k⟩ := h
  refine ⟨G0, H0, B, G, ρ, F, _, w, t, fun d G1 H1 v p1 s1 r1 => ⟨G0, H0, B, G1, ρ, F, _, w.step s1, p1, fun as G2 H2 vs p2 s2 r2 => ?_⟩⟩
  exact k _ G2 H2 _ p2 (s1.trans s2 w.bags) (.d (r1.same s2.sG) r2)
theorem dr_bag {T : Env' → (List En → Prop) → Prop} {i : Nat} (h : PE X e (tVar i)) (ht : DR K X es T) (hs : starEach (e :: es) X.env = (false, eval e X.env) :: starEach es X.env := by rfl) : DR K X (e :: es) (fun ρ P => ρ[i]? = some (some .bag) ∧ T ρ fun as => P (.bag :: as)) := by
  refine ⟨PA.weak (pa_cons h ht.pa hs) fun σ H Q h => ?_⟩
  obtain ⟨G0, H0, B, G, ρ, F, P, w, ⟨e1, t⟩, k⟩ := h
  obtain ⟨v, F1, e2, r, _⟩ := w.env.get e1
  cases r with
  | bag z => exact ⟨_, e2, G0, H0, B, G, ρ, F, _, w, t, fun as G2 H2 vs p2 s2 r2 => k _ G2 H2 _ p2 s2 (.bag z r2)⟩
/-- f(e, ..) -/
theorem do_call {j k : Nat} {x : Str} {p : Pos} {S : DSp} {T : Env' → (List En → Prop) → Prop} (e1 : X.K = K) (c : ClG X.prog X.w X.K X.mg X.base k x (spF K S)) (hG : Gd X.A) (hr : Room j X.A) (hk : k ≤ j) (hg : Gl X x)
    (ha : DR K X (e :: es) T) (hdb : (x == ("__debug__" : Str)) = false := by decide)
    (he : starEach (e :: es) X.env = (false, eval e X.env) :: starEach es X.env := by rfl)
    (hpl : (backTo pos (starEach es X.env)).any (·.1) = false := by rfl) :
    DO K X (.Call (.Name x p) (e :: es) [] pos) (fun ρ P => T ρ fun as => S as P) := by
  subst e1
  refine ⟨PE.weak (pe_clG c hG hr hk hg ha.pa hdb he hpl) fun σ H Q h => ?_⟩
  obtain ⟨G0, H0, B, G, ρ, F, P, w, t, k⟩ := h
  refine ⟨G0, H0, B, G, ρ, F, _, w, t, fun as G' H' vs p s r => ?_⟩
  show spF X.K S (vs ++ []) H' Q E0
  rw [List.append_nil]
  have w' := w.step s
  exact ⟨B, G', as, P, s.sGH, fun b e => ⟨(w'.bag b e).1, (w'.bag b e).2.1⟩, r, p, fun o G2 H2 v Fv p2 s2 r2 n2 => k o G2 H2 v Fv p2 (s.trans s2 w.bags) r2 fun a m => s.none_back w.bags (n2 a m)⟩
end
end DL
set_option Elab.async false
set_option linter.all false
set_option maxRecDepth 100000
set_option maxHeartbeats 1000000
/-! DL6: rules for values of any kind; reads of dicts; one's own lists by place -/
namespace DL
open PySem PySem.Spec PyProof.Rows L2 GL
section
variable {K : PySem.W.Frag} {X : Cx} {e a b c tg : Expr} {es rest : List Expr} {Ta Tb Tc : DT} {To Tp : OT} {Tt Tu : BT} {Tl : LT} {pos : Pos}
theorem OpOwn.of {r : R2} {R : PyData → PyData → (PyData → Prop) → Prop} (h : OpData K r R) : OpOwn K r (fun d e P => R d e fun d' => P (.dat d')) := by
  intro B G H d e x y P Q s dx dy p k
  exact h B G H d e x y _ Q s dx dy p fun d' G' H' v p s r => k _ G' H' v [] p s (.dat r) fun _ m => nomatch m
theorem OpOwn.or {r r' : R2} {R R' : PyData → PyData → (O → Prop) → Prop} (h : OpOwn K r R) (h' : OpOwn K r' R') : OpOwn K (fun x y H Q => r x y H Q ∨ r' x y H Q) (fun d e P => R d e P ∨ R' d e P) := by
  intro B G H d e x y P Q s dx dy p k
  exact p.imp (fun p => h B G H d e x y P Q s dx dy p k) (fun p => h' B G H d e x y P Q s dx dy p k)
theorem OpData.or {r r' : R2} {R R' : PyData → PyData → (PyData → Prop) → Prop} (h : OpData K r R) (h' : OpData K r' R') : OpData K (fun x y H Q => r x y H Q ∨ r' x y H Q) (fun d e P => R d e P ∨ R' d e P) := by
  intro B G H d e x y P Q s dx dy p k
  exact p.imp (fun p => h B G H d e x y P Q s dx dy p k) (fun p => h' B G H d e x y P Q s dx dy p k)
theorem OpData.imp {r : R2} {R R' : PyData → PyData → (PyData → Prop) → Prop} (h : OpData K r R) (i : ∀ d e P, R' d e P → R d e P) : OpData K r R' := by
  intro B G H d e x y P Q s dx dy p k
  exact h B G H d e x y P Q s dx dy (i d e P p) k
theorem OpOwn.imp {r : R2} {R R' : PyData → PyData → (O → Prop) → Prop} (h : OpOwn K r R) (i : ∀ d e P, R' d e P → R d e P) : OpOwn K r R' := by
  intro B G H d e x y P Q s dx dy p k
  exact h B G H d e x y P Q s dx dy (i d e P p) k
/-! an item, of anything -/
def ixD : PyData → PyData → Option PyData
  | .list ds, .int i => atI ds i
  | .tuple ds, .int i => atI ds i
  | .str z, .int i => if z.length ≤ sizeLine then (atI z.cps.toList i).map fun c => .str ⟨#[c]⟩ else none
  | _, _ => none
theorem od_ix : OpData K (rIx K) (fun d e P => ∃ d', ixD d e = some d' ∧ P d') := (od_ixL.or (od_ixT.or od_ixS)).imp fun d e P h => by
  obtain ⟨d', h, p⟩ := h
  cases d <;> cases e <;> simp only [ixD, reduceCtorEq] at h
  · split at h
    · rename_i z i hl
      cases q : atI z.cps.toList i with
      | none => rw [q] at h; cases h
      | some c => rw [q] at h; cases h; exact .inr (.inr ⟨_, _, c, rfl, rfl, hl, q, p⟩)
    · cases h
  · exact .inl ⟨_, _, _, rfl, rfl, h, p⟩
  · exact .inr (.inl ⟨_, _, _, rfl, rfl, h, p⟩)
theorem de_ixA (e1 : X.K = K) (ha : DE K X a Ta) (hb : DE K X b Tb) (hs : PlainIx b := by exact fun _ _ => rfl) : DE K X (.Subscript a b pos) (fun ρ P => Ta ρ fun d => Tb ρ fun e => ∃ d', ixD d e = some d' ∧ P d') := by
  subst e1
  exact de_ix ix_seq od_ix ha hb hs
/-! + -/
def addD : PyData → PyData → Option O
  | .int i, .int j => some (.dat (.int (i + j)))
  | .str x, .str y => if x.length + y.length ≤ sizeLine then some (.dat (.str (x ++ y))) else none
  | .list ds, .list es => if ds.length + es.length ≤ sizeLine then some (.lst ((ds ++ es).map .dat)) else none
  | .tuple ds, .tuple es => if ds.length + es.length ≤ sizeLine then some (.dat (.tuple (ds ++ es))) else none
  | _, _ => none
theorem ow_add : OpOwn K (fun x y H Q => rI0 (fun i j => .int (i + j)) x y H Q ∨ (∃ i j, x = V.str i ∧ y = V.str j ∧ i.length + j.length ≤ sizeLine ∧ Q (V.str (i ++ j)) H) ∨ rCatR x y H Q ∨ rCatA K x y H Q)
    (fun d e P => ∃ o, addD d e = some o ∧ P o) := ((OpOwn.of od_I).or ((OpOwn.of od_addS).or (ow_cat.or (OpOwn.of od_catT)))).imp fun d e P h => by
  obtain ⟨o, h, p⟩ := h
  cases d <;> cases e <;> simp only [addD, reduceCtorEq] at h
  · cases h
    exact .inl ⟨_, _, rfl, rfl, p⟩
  · split at h
    · cases h
      exact .inr (.inl ⟨_, _, rfl, rfl, by assumption, p⟩)
    · cases h
  · split at h
    · cases h
      exact .inr (.inr (.inl ⟨_, _, rfl, rfl, by assumption, p⟩))
    · cases h
  · split at h
    · cases h
      exact .inr (.inr (.inr ⟨_, _, rfl, rfl, by assumption, p⟩))
    · cases h
theorem do_add (e1 : X.K = K) (ha : DE K X a Ta) (hb : DE K X b Tb) : DO K X (.BinOp a .Add b pos) (fun ρ P => Ta ρ fun d => Tb ρ fun e => ∃ o, addD d e = some o ∧ P o) := by
  subst e1
  exact do_op (op_add.or (op_add_str.or (op_catR.or op_catA))) ow_add ha hb
/-! - // % of ints -/
theorem de_sub (ha : DE K X a Ta) (hb : DE K X b Tb) : DE K X (.BinOp a .Sub b pos) (fun ρ P => Ta ρ fun d => Tb ρ fun e => RI (fun i j => .int (i - j)) d e P) := de_op op_sub od_I ha hb
theorem de_mod (ha : DE K X a Ta) (hb : DE K X b Tb) : DE K X (.BinOp a .Mod b pos) (fun ρ P => Ta ρ fun d => Tb ρ fun e => RIc (fun _ j => 0 < j) (fun i j => .int (i % j)) d e P) := de_op op_mod od_Ic ha hb
theorem de_fdiv (ha : DE K X a Ta) (hb : DE K X b Tb) : DE K X (.BinOp a .FloorDiv b pos) (fun ρ P => Ta ρ fun d => Tb ρ fun e => RIc CDiv (fun i j => .int (i / j)) d e P) := de_op op_fdiv od_Ic ha hb
theorem de_pow (ha : DE K X a Ta) (hb : DE K X b Tb) : DE K X (.BinOp a .Pow b pos) (fun ρ P => Ta ρ fun d => Tb ρ fun e => RIc CPow (fun i j => .int (i ^ j.toNat)) d e P) := de_op op_pow od_Ic ha hb
/-! * -/
theorem ow_rep : OpOwn K rRep (fun d e P => ∃ ds k, d = .list ds ∧ e = .int k ∧ -(2 ^ 63) ≤ k ∧ k < 2 ^ 63 ∧ ds.length * k.toNat ≤ sizeLine ∧ P (.lst ((List.replicate k.toNat ds).flatten.map .dat))) := by
  intro B G H d e x y P Q s dx dy p k
  obtain ⟨ds, i, rfl, rfl, h1, h2, h3, p⟩ := p
  cases dy
  cases dx with
  | @lst l xs _ h5 h6 =>
    refine ⟨_, i, xs, rfl, rfl, s _ _ h5, h1, h2, by rw [h6.length]; exact h3, fun q nq => new_own s nq ?_ p k⟩
    generalize i.toNat = n
    induction n with
    | zero => exact .nil
    | succ n ih =>
      rw [List.replicate_succ, List.flatten_cons, List.replicate_succ, List.flatten_cons]
      exact h6.append ih
def mulR : PyData → PyData → (O → Prop) → Prop := fun d e P => (∃ i j, d = .int i ∧ e = .int j ∧ CMul i j ∧ P (.dat (.int (i * j)))) ∨ (∃ (z : Str) (n : Int), d = .str z ∧ e = .int n ∧ 0 ≤ n ∧ n ≤ 1000 ∧ z.length ≤ 1000 ∧ P (.dat (.str (Txt.mul z n)))) ∨
  ∃ ds k, d = .list ds ∧ e = .int k ∧ -(2 ^ 63) ≤ k ∧ k < 2 ^ 63 ∧ ds.length * k.toNat ≤ sizeLine ∧ P (.lst ((List.replicate k.toNat ds).flatten.map .dat))
theorem do_mul (ha : DE K X a Ta) (hb : DE K X b Tb) : DO K X (.BinOp a .Mult b pos) (fun ρ P => Ta ρ fun d => Tb ρ fun e => mulR d e P) :=
  do_op (op_mul.or (op_mul_str.or op_rep)) ((OpOwn.of od_Ic).or ((OpOwn.of od_mulS).or ow_rep)) ha hb
/-! -x -/
theorem de_neg (ha : DE K X a Ta) : DE K X (.UnaryOp .USub a pos) (fun ρ P => Ta ρ fun d => ∃ i, d = .int i ∧ P (.int (-i))) := by
  refine ⟨PE.weak (pe_un un_neg ha.pe) fun σ H Q h => ?_⟩
  obtain ⟨G0, H0, B, G, ρ, F, P, w, t, k⟩ := h
  refine ⟨G0, H0, B, G, ρ, F, _, w, t, fun d G' H' v p s r => ?_⟩
  obtain ⟨i, rfl, p⟩ := p
  exact ⟨i, r.tInt, k _ G' H' _ p s (.int _)⟩
/-! comparisons -/
section
variable (hu : X.A.units + 64 < cLine)
theorem eq_rule (e1 : X.K = K) (hu : X.A.units + 64 < cLine) : OpR X (compareOp .Eq) (fun x y H Q => rEq x y H Q ∨ rEqD K x y H Q) := by
  subst e1
  exact op_eq.or (op_eqD hu)
theorem ne_rule (e1 : X.K = K) (hu : X.A.units + 64 < cLine) : OpR X (compareOp .NotEq) (fun x y H Q => rNe x y H Q ∨ rNeD K x y H Q) := by
  subst e1
  exact op_ne.or (op_neD hu)
def eqR (n : Bool) : PyData → PyData → (PyData → Prop) → Prop := fun d e P => RS n d e P ∨ RD n d e P
theorem de_eq (e1 : X.K = K) (hu : X.A.units + 64 < cLine) (ha : DE K X a Ta) (hb : DE K X b Tb) : DE K X (.Compare a [.Eq] [b] pos) (fun ρ P => Ta ρ fun d => Tb ρ fun e => eqR false d e P) := de_cmp (eq_rule e1 hu) (od_eq.or od_eqD) ha hb (nomark _)
theorem de_ne (e1 : X.K = K) (hu : X.A.units + 64 < cLine) (ha : DE K X a Ta) (hb : DE K X b Tb) : DE K X (.Compare a [.NotEq] [b] pos) (fun ρ P => Ta ρ fun d => Tb ρ fun e => eqR true d e P) := de_cmp (ne_rule e1 hu) (od_ne.or od_neD) ha hb (nomark _)
theorem db_eq (e1 : X.K = K) (hu : X.A.units + 64 < cLine) (ha : DE K X a Ta) (hb : DE K X b Tb) : DB K X (.Compare a [.Eq] [b] pos) (fun ρ P => Ta ρ fun d => Tb ρ fun e => eqR false d e fun x => ∃ k, x = .bool k ∧ P k) := db_cmp (eq_rule e1 hu) (od_eq.or od_eqD) ha hb (nomark _)
theorem db_ne (e1 : X.K = K) (hu : X.A.units + 64 < cLine) (ha : DE K X a Ta) (hb : DE K X b Tb) : DB K X (.Compare a [.NotEq] [b] pos) (fun ρ P => Ta ρ fun d => Tb ρ fun e => eqR true d e fun x => ∃ k, x = .bool k ∧ P k) := db_cmp (ne_rule e1 hu) (od_ne.or od_neD) ha hb (nomark _)
end
theorem od_leS : OpData K (fun x y H Q => ∃ i j, x = .str i ∧ y = .str j ∧ Q (.bl (!decide (j.cps.toList < i.cps.toList))) H) (fun d e P => ∃ i j, d = .str i ∧ e = .str j ∧ P (.bool (!decide (j.cps.toList < i.cps.toList)))) := flat_data fun G H d e x y P Q s dx dy p k => by
  obtain ⟨i, j, rfl, rfl, p⟩ := p
  cases dx
  cases dy
  exact ⟨i, j, rfl, rfl, k _ _ p (.bl _)⟩
/-! in, not in -/
def flatD4 : PyData → Bool
  | .none => true
  | .bool _ => true
  | .int _ => true
  | .str _ => true
  | _ => false
theorem flat_v {G : Hp} {v : V} {d : PyData} (r : Dr K G v d) (h : flatD4 d = true) : flatV v = true := by cases r <;> first | rfl | cases h
theorem eqV_d {G : Hp} {v u : V} {d e : PyData} (r : Dr K G v d) (r' : Dr K G u e) (h : flatD4 d = true) (h' : flatD4 e = true) : eqV v u = PyData.eqv d e := by
  cases r <;> cases r' <;> first | rfl | cases h | cases h' | (simp [eqV, PyData.eqv])
theorem flat_all {G : Hp} : ∀ {vs : List V} {ds : List PyData}, DrAll K G vs ds → ds.all flatD4 = true → vs.all flatV = true
  | _, _, .nil, _ => rfl
  | _, _, .cons r t, h => by
    rw [List.all_cons, Bool.and_eq_true] at h ⊢
    exact ⟨flat_v r h.1, flat_all t h.2⟩
theorem inV_d {G : Hp} {x : V} {d : PyData} (r : Dr K G x d) (h : flatD4 d = true) : ∀ {vs : List V} {ds : List PyData}, DrAll K G vs ds → ds.all flatD4 = true → inV x vs = ds.any fun e => PyData.eqv e d
  | _, _, .nil, _ => rfl
  | _, _, .cons r1 t, h1 => by
    rw [List.all_cons, Bool.and_eq_true] at h1
    show (eqV _ x || inV x _) = _
    rw [List.any_cons, eqV_d r1 r h1.1 h, inV_d r h t h1.2]
theorem od_in (n : Bool) : OpData K (rIn K n) (fun d e P => ∃ ds, items e = some ds ∧ flatD4 d = true ∧ ds.all flatD4 = true ∧ P (.bool ((ds.any fun x => PyData.eqv x d) ^^ n))) := flat_data fun G H d e x y P Q s dx dy p k => by
  obtain ⟨ds, h, f, fs, p⟩ := p
  obtain ⟨q, vs, rfl, h1, h2⟩ := dy.items h
  refine ⟨q, vs, rfl, sq_same s h1, flat_v dx f, flat_all h2 fs, ?_⟩
  rw [inV_d dx f h2 fs]
  cases n
  · rw [Bool.xor_false] at p
    exact k _ _ p (.bl _)
  · rw [Bool.xor_true] at p
    exact k _ _ p (.bl _)
theorem od_inS : OpData K (fun x y H Q => ∃ (c : Nat) (z : Str), x = .str ⟨#[c]⟩ ∧ y = .str z ∧ Q (.bl (decide (c ∈ z.cps.toList))) H) (fun d e P => ∃ (c : Nat) (z : Str), d = .str ⟨#[c]⟩ ∧ e = .str z ∧ P (.bool (decide (c ∈ z.cps.toList)))) := flat_data fun G H d e x y P Q s dx dy p k => by
  obtain ⟨c, z, rfl, rfl, p⟩ := p
  cases dx
  cases dy
  exact ⟨c, z, rfl, rfl, k _ _ p (.bl _)⟩
theorem od_ninS : OpData K (fun x y H Q => ∃ (c : Nat) (z : Str), x = .str ⟨#[c]⟩ ∧ y = .str z ∧ Q (.bl (!decide (c ∈ z.cps.toList))) H) (fun d e P => ∃ (c : Nat) (z : Str), d = .str ⟨#[c]⟩ ∧ e = .str z ∧ P (.bool (!decide (c ∈ z.cps.toList)))) := flat_data fun G H d e x y P Q s dx dy p k => by
  obtain ⟨c, z, rfl, rfl, p⟩ := p
  cases dx
  cases dy
  exact ⟨c, z, rfl, rfl, k _ _ p (.bl _)⟩
theorem od_int1 : CallData K (fun xs H Q => (∃ i, xs = [.int i] ∧ Q (.int i) H) ∨ ∃ k, xs = [.bl k] ∧ Q (.int (if k then 1 else 0)) H) (fun ds P => ∃ d i, ds = [d] ∧ intOf d = some i ∧ P (.int i)) := flat_call fun G H ds vs P Q s dx p k => by
  obtain ⟨d, i, rfl, h, p⟩ := p
  obtain ⟨v, rfl, r⟩ := dx.one
  cases r with
  | int j => cases h; exact .inl ⟨_, rfl, k _ _ p (.int _)⟩
  | bl b => cases h; exact .inr ⟨_, rfl, k _ _ p (.int _)⟩
  | _ => cases h
/-! slices of anything -/
def slD : PyData → Option Int → Option Int → Option O
  | .list ds, i, j => some (.lst ((cutD ds i j).map .dat))
  | .tuple ds, i, j => some (.dat (.tuple (cutD ds i j)))
  | .str z, i, j => if z.length ≤ sizeLine then some (.dat (.str (cutS z i j))) else none
  | _, _, _ => none
theorem do_sl {Tl Th : Env' → (Option Int → Prop) → Prop} {lo hi : Option Expr} {p2 : Pos} (e1 : X.K = K) (h : DE K X e Ta) (hl : IntO Tl K X lo) (hh : IntO Th K X hi) :
    DO K X (.Subscript e (.Slice lo hi none p2) pos) (fun ρ P => Ta ρ fun d => Tl ρ fun i => Th ρ fun j => ∃ o, slD d i j = some o ∧ P o) := by
  subst e1
  refine ⟨PE.weak (pe_slice (sl_list.or (sl_tupA.or sl_str)) h.pe hl hh) fun σ H Q h => ?_⟩
  obtain ⟨G0, H0, B, G, ρ, F, P, w, t, k⟩ := h
  refine slice3 w t fun d i j G' H' v p s r => ?_
  obtain ⟨o, h, p⟩ := p
  cases r with
  | lst h1 h2 =>
    cases h
    refine .inl ⟨_, _, rfl, .inl (.inl (s.sGH _ _ h1)), fun q nq => ?_⟩
    exact new_own s.sGH nq (cut_dr h2 i j) p fun o G2 H2 v2 Fv p2 s2 r2 n2 => k o G2 H2 v2 Fv p2 (s.trans s2 w.bags) r2 fun a m => s.none_back w.bags (n2 a m)
  | @tup a xs ds h1 h2 =>
    cases h
    refine .inr (.inl ⟨_, _, rfl, Same.seqT s.sGH h1, fun z => ?_, fun z q nq => ?_⟩)
    · have e : cutD ds i j = ds := by
        unfold cutD
        rw [← h2.length, z.1, z.2, List.drop_zero, Nat.sub_zero, h2.length, List.take_length]
      rw [e] at p
      exact k _ G' H' _ [] p s (.dat (.tup h1 h2)) fun _ m => nomatch m
    · have s2 := Stp.lay (B := B) (o := .tup (cutV xs i j)) s.sGH nq
      exact k _ _ _ _ [] p (s.trans s2 w.bags) (.dat (.tup (.inl (.inl upd_same)) ((cut_dr h2 i j).same s2.sG))) fun _ m => nomatch m
  | str z =>
    simp only [slD] at h
    split at h
    · rename_i hz
      cases h
      exact .inr (.inr ⟨z, rfl, hz, k _ G' H' _ [] p s (.dat (.str _)) fun _ m => nomatch m⟩)
    · cases h
  | _ => cases h
/-! walks over anything -/
def iterD : PyData → Option (List PyData)
  | .list ds => some ds
  | .tuple ds => some ds
  | .str z => some (signsD z)
  | _ => none
theorem pi_any {t : TE} (hl : PE X e t) : PI X tg e (fun σ H R => t σ H fun x H1 => (∃ a, x = .ref a ∧ (((∃ xs, SqL X.K H1 a xs) ∧ R (Itl X.K a) H1) ∨ ((∃ xs, SqT X.K H1 a xs) ∧ R (Itt X.K a) H1))) ∨ ∃ z, x = .str z ∧ R (Its z) H1) := by
  refine ⟨fun pins s σ H R I h => ?_⟩
  refine thn (hl.run pins s σ H _ I h) fun v s1 ⟨x, H1, I1, r1, q1⟩ => ?_
  rcases q1 with ⟨a, rfl, q⟩ | ⟨z, rfl, q⟩
  · cases r1
    rcases q with ⟨⟨xs, hq⟩, q⟩ | ⟨⟨xs, hq⟩, q⟩
    · obtain ⟨its, rv, p, hz⟩ := I1.list hq
      refine wpAny_pyIter_list p.isList ?_
      refine ⟨s1.heap.objs.size, [s1.heap.objs.size], _, _, H1, rfl, I1.kept (t' := s1.toks) fun b o e => Heap.get?_push_of_some _ e, turn_list a _, ⟨_, Heap.get?_push_size _ rfl, rfl, rfl⟩, fun b hb => ?_, q⟩
      have e : b = s1.heap.objs.size := by simpa using hb
      subst e
      exact I1.fpOk (Nat.le_refl _) (I1.hok.fresh (Nat.le_refl _))
    · obtain ⟨its, rv, p, hz⟩ := I1.tuple hq
      refine wpAny_pyIter_tuple (show s1.heap.IsTuple a its.toArray from p) ?_
      refine ⟨s1.heap.objs.size, [s1.heap.objs.size], _, _, H1, rfl, I1.kept (t' := s1.toks) fun b o e => Heap.get?_push_of_some _ e, turn_tuple a _, ⟨_, Heap.get?_push_size _ rfl, rfl, rfl⟩, fun b hb => ?_, q⟩
      have e : b = s1.heap.objs.size := by simpa using hb
      subst e
      exact I1.fpOk (Nat.le_refl _) (I1.hok.fresh (Nat.le_refl _))
  · obtain ⟨t, rfl⟩ := r1
    cases ha : z.cps.all (· < 128)
    · exact wpAny_pyIter_wide ha (pi_one (tk := s1.toks) I1 _ (turn_str _ z t "str_iterator" (.inr rfl)) ⟨_, Heap.get?_push_size _ rfl, rfl, rfl⟩ q)
    · exact wpAny_pyIter_ascii ha (pi_one (tk := s1.toks) I1 _ (turn_str _ z t "str_ascii_iterator" (.inl rfl)) ⟨_, Heap.get?_push_size _ rfl, rfl, rfl⟩ q)
theorem iter_str {G : Hp} {z : Str} : IterOf K (Its z) G (signsD z) := by
  have w := walk_str (z := z)
  rw [show z.cps.size = (signsD z).length by simp [signsD]] at w
  refine ⟨_, _, w, fun _ _ => trivial, fun i H x H' hi y B G1 s1 s2 => ?_⟩
  obtain ⟨rfl, c, h1, rfl⟩ := y
  refine ⟨G1, _, .refl s2, .str _, ?_⟩
  unfold signsD
  rw [List.getElem?_map, Array.getElem?_toList, h1]
  rfl
theorem di_any (e1 : X.K = K) (h : DE K X e Ta) : DI K X tg e (fun ρ P => Ta ρ fun d => ∃ ds, iterD d = some ds ∧ P ds) := by
  subst e1
  refine ⟨PI.weak (pi_any h.pe) fun σ H R h => ?_⟩
  obtain ⟨G0, H0, B, G, ρ, F, P, w, t, k⟩ := h
  refine ⟨G0, H0, B, G, ρ, F, _, w, t, fun d G' H' v p s r => ?_⟩
  obtain ⟨ds, h, p⟩ := p
  cases r with
  | lst h1 h2 => cases h; exact .inl ⟨_, rfl, .inl ⟨⟨_, .inl (.inl (s.sGH _ _ h1))⟩, k _ G' H' _ p s (iter_list (.inl (.inl h1)) h2)⟩⟩
  | tup h1 h2 => cases h; exact .inl ⟨_, rfl, .inr ⟨⟨_, Same.seqT s.sGH h1⟩, k _ G' H' _ p s (iter_tup h1 h2)⟩⟩
  | str z => cases h; exact .inr ⟨z, rfl, k _ G' H' _ p s iter_str⟩
  | _ => cases h
/-! one's own lists: an item, a store -/
theorem RepOs.get {G H : Hp} : ∀ {xs : List O} {vs : List V} {F : List Addr} {i : Nat} {d : PyData}, RepOs K G H vs xs F → xs[i]? = some (.dat d) → ∃ v, vs[i]? = some v ∧ Dr K G v d
  | _, _, _, _, _, .nil, e => by simp at e
  | _, _, _, 0, _, .cons r _ _, e => by
    simp at e
    subst e
    cases r with
    | dat r => exact ⟨_, rfl, r⟩
  | _, _, _, i + 1, _, .cons _ t _, e => by
    obtain ⟨v, h1, h2⟩ := RepOs.get (i := i) t (by simpa using e)
    exact ⟨v, by simpa using h1, h2⟩
theorem de_ixOwn {i : Nat} (e1 : X.K = K) (ha : PE X a (tVar i)) (hb : DE K X b Tb) (hs : PlainIx b := by exact fun _ _ => rfl) : DE K X (.Subscript a b pos) (fun ρ P => ∃ xs, ρ[i]? = some (some (.l xs)) ∧ Tb ρ fun e => ∃ k d, e = .int k ∧ atI xs k = some (.dat d) ∧ P d) := by
  subst e1
  refine ⟨PE.weak (pe_ix ix_list ha hb.pe hs) fun σ H Q h => ?_⟩
  obtain ⟨G0, H0, B, G, ρ, F, P, w, ⟨xs, e1, t⟩, k⟩ := h
  obtain ⟨v, F1, e2, _, _⟩ := w.env.get e1
  refine ⟨v, e2, G0, H0, B, G, ρ, F, _, w, t, fun d G' H' u p s r => ?_⟩
  obtain ⟨j, d', rfl, h1, p⟩ := p
  cases r
  obtain ⟨v', F1', e2', r', _⟩ := (w.step s).env.get e1
  rw [e2] at e2'
  cases e2'
  cases r' with
  | l r' =>
    cases r' with
    | @lst q us _ F2 g h r1 nq =>
      unfold atI at h1
      cases q1 : ixN xs.length j with
      | none => rw [q1] at h1; cases h1
      | some n =>
        rw [q1] at h1
        obtain ⟨v, h3, h4⟩ := r1.get h1
        refine ⟨q, us, j, v, rfl, rfl, .inl (.inl h), ?_, k _ G' H' _ p s h4⟩
        unfold atI
        rw [r1.length, q1]
        exact h3
/-- xs[k] = e, xs one's own, of data -/
theorem RepOs.setAt {G H : Hp} {v : V} {o : O} {Fv : List Addr} (ro : RepO K G H v o Fv) : ∀ {xs : List O} {vs : List V} {F : List Addr} (i : Nat), RepOs K G H vs xs F → (∀ a ∈ Fv, a ∉ F) → ∃ F', RepOs K G H (vs.set i v) (xs.set i o) F' ∧ ∀ a ∈ F', a ∈ F ∨ a ∈ Fv
  | _, _, _, _, .nil, _ => ⟨[], .nil, fun _ m => nomatch m⟩
  | _, _, _, 0, .cons (F1 := F1) (F2 := F2) r t n, d => ⟨Fv ++ F2, .cons ro t (fun a m z => d a m (List.mem_append_right _ z)), fun a m => (List.mem_append.mp m).elim .inr fun m => .inl (List.mem_append_right _ m)⟩
  | _, _, _, i + 1, .cons (F1 := F1) (F2 := F2) r t n, d => by
    obtain ⟨F', r', c⟩ := RepOs.setAt ro i t (fun a m z => d a m (List.mem_append_right _ z))
    refine ⟨F1 ++ F', .cons r r' (fun a m z => ?_), fun a m => ?_⟩
    · exact (c a z).elim (n a m) fun z => d a z (List.mem_append_left _ m)
    · rcases List.mem_append.mp m with m | m
      · exact .inl (List.mem_append_left _ m)
      · exact (c a m).imp (List.mem_append_right _) id
theorem Wd.store {G0 H0 : Hp} {B : Option (Addr × Addr)} {G H : Hp} {σ : L2.St} {ρ : Env'} {F : List Addr} (w : Wd K G0 H0 B G H σ ρ F) {i : Nat} {xs : List O} (e : ρ[i]? = some (some (.l xs))) {v : V} {o : O} {Fv : List Addr} (ro : RepO K G H v o Fv) (dj : ∀ a ∈ Fv, a ∉ F) (nw : ∀ a ∈ Fv, H0 a = none) (j : Nat) :
    ∃ p us, σ[i]? = some (some (.ref p)) ∧ H p = some (.lst us) ∧ us.length = xs.length ∧ ∃ F', Wd K G0 H0 B G (upd H p (.lst (us.set j v))) σ (ρ.set i (some (.l (xs.set j o)))) F' := by
  obtain ⟨v0, F1, e1, r, sub, go⟩ := w.env.change e
  cases r with
  | l r =>
    cases r with
    | @lst p us _ F2 g h r1 np =>
      obtain ⟨F3, r3, c3⟩ := RepOs.setAt ro j r1 (fun a m z => dj a m (sub a (List.mem_cons_of_mem _ z)))
      have pv : p ∉ Fv := fun m => dj p m (sub p List.mem_cons_self)
      have p3 : p ∉ F3 := fun m => (c3 p m).elim np pv
      have oth : ∀ a, a ≠ p → ∀ u, H a = some u → upd H p (.lst (us.set j v)) a = some u := fun a z u q => by rw [upd_ne z]; exact q
      have r3' : RepOs K G (upd H p (.lst (us.set j v))) (us.set j v) (xs.set j o) F3 := r3.mono (Same.refl _) (fun a m => (r3.dom a m).1) (fun a m => oth a fun z => by subst z; exact p3 m)
      obtain ⟨F', env', c⟩ := go G (upd H p (.lst (us.set j v))) (.l (xs.set j o)) (p :: F3) (Same.refl _) (fun a m z => ⟨(w.env.dom a m).1, oth a fun q => z (by rw [q]; exact List.mem_cons_self)⟩)
        (.l (.lst g upd_same r3' p3)) (fun a m => by
          rcases List.mem_cons.mp m with rfl | m
          · exact .inl List.mem_cons_self
          · exact (c3 a m).elim (fun m => .inl (List.mem_cons_of_mem _ m)) fun m => .inr (dj a m))
      have nbp : NotB B p := fun c z => (w.bag _ z).2.2 (w.own p (sub p List.mem_cons_self))
      refine ⟨p, us, e1, h, r1.length, F', ⟨fun a u q => ?_, w.sG, w.fr, fun a u q nb => ?_, fun a m => ?_, fun b z => ?_, env'⟩⟩
      · have : a ≠ p := fun z => by rw [z, g] at q; cases q
        rw [upd_ne this]
        exact w.sGH _ _ q
      · have : a ≠ p := fun z => by rw [z, w.own p (sub p List.mem_cons_self)] at q; cases q
        rw [upd_ne this]
        exact w.keep a u q nb
      · rcases c a m with m | m
        · exact w.own a m
        · rcases List.mem_cons.mp m with rfl | m
          · exact w.own _ (sub _ List.mem_cons_self)
          · rcases c3 a m with m | m
            · exact w.own a (sub a (List.mem_cons_of_mem _ m))
            · exact nw a m
      · obtain ⟨⟨g', s', i', ns, q1, q2, q3⟩, q4, q5⟩ := w.bag b z
        have : b.1 ≠ p := fun y => nbp b.2 (by rw [← y]; exact z)
        exact ⟨⟨g', s', i', ns, by rw [upd_ne this]; exact q1, q2, q3⟩, q4, q5⟩
/-- xs[k] = e -/
theorem ds_store {i : Nat} {o k : Expr} {p2 : Pos} (ho : PE X o (tVar i)) (he : DO K X e To) (hk : DE K X k Ta)
    (ha : ∀ v, assign (.Subscript o k p2) X.env v = (do
      let ov ← holding [v] (eval o X.env)
      let iv ← holding [v, ov] (eval k X.env)
      standAt p2
      holding [v, ov, iv] (setItem ov iv v)
      release [v, ov, iv] []) := by intro _; rfl)
    (hs : swapsWithSole [.Subscript o k p2] e pos.line X.env = pure false := by rfl) (hw : swappedStores [.Subscript o k p2] e X.env = pure none := by rfl)
    (h1 : (assignEach [.Subscript o k p2] X.env).map (·.2) = [assign (.Subscript o k p2) X.env] := by rfl) :
    DS K X (.Assign [.Subscript o k p2] e pos) (fun P ρ => ∃ xs, ρ[i]? = some (some (.l xs)) ∧ To ρ fun o => Ta ρ fun d => ∃ n j, d = .int n ∧ ixN xs.length n = some j ∧ P.nx (ρ.set i (some (.l (xs.set j o))))) := by
  refine ⟨PS.weak (ps_asg he.pe (pg_sub ho hk.pe set_list ha) hs hw h1) fun D σ H h => ?_⟩
  obtain ⟨G0, H0, B, G, ρ, F, P, w, ⟨xs, e1, t⟩, k1, _⟩ := h
  obtain ⟨v0, F1, e2, _, _⟩ := w.env.get e1
  refine ⟨G0, H0, B, G, ρ, F, _, w, t, fun o G1 H1 v Fv p1 s1 r1 n1 => ⟨v0, e2, G0, H0, B, G1, ρ, F, _, w.step s1, p1, fun d G2 H2 u p2 s2 r2 => ?_⟩⟩
  obtain ⟨n, j, rfl, hj, p⟩ := p2
  cases r2
  have s12 := s1.trans s2 w.bags
  have w2 := w.step s12
  have r1' := r1.step s2 fun a m => notB_new w.bags (n1 a m)
  obtain ⟨q, us, e3, h3, l3, F', w3⟩ := w2.store e1 r1' (fun a m z => (w.env.dom a z).2 (n1 a m)) (fun a m => w.old (n1 a m)) j
  rw [e2] at e3
  cases e3
  exact ⟨q, us, n, j, rfl, rfl, h3, by rw [l3]; exact hj, k1 _ σ G2 _ F' p w3⟩
/-! a dict that is data: d[k], k a text -/
def dictD : List (PyData × PyData) → Str → Option PyData
  | [], _ => none
  | p :: r, x => match p.1 with
    | .str y => if y = x then some p.2 else dictD r x
    | _ => dictD r x
theorem valV_d {G : Hp} {x : Str} : ∀ {kvs : List (Key × V)} {ds : List PyData} {d : PyData}, DrAll K G (kvs.map (·.2)) ds → dictD ((kvs.map fun p => kD p.1).zip ds) x = some d → ∃ v, valV kvs (.inr x) = some v ∧ Dr K G v d
  | [], _, _, h, e => by
    cases h
    cases e
  | (.inl i, u) :: kvs, _, d, h, e => by
    cases h with
    | @cons _ _ d1 ds h1 h2 =>
      obtain ⟨v, h3, h4⟩ := valV_d h2 (show dictD ((kvs.map fun p => kD p.1).zip ds) x = some d from e)
      exact ⟨v, by rw [valV_neg (k := (.inr x : Key)) (p := (.inl i, u)) (fun z : (Sum.inl i : Key) = Sum.inr x => nomatch z)]; exact h3, h4⟩
  | (.inr y, u) :: kvs, _, d, h, e => by
    cases h with
    | @cons _ _ d1 ds h1 h2 =>
      have e' : (if y = x then some d1 else dictD ((kvs.map fun p => kD p.1).zip ds) x) = some d := e
      by_cases q : y = x
      · rw [if_pos q] at e'
        cases e'
        exact ⟨u, valV_pos (by rw [q]), h1⟩
      · rw [if_neg q] at e'
        obtain ⟨v, h3, h4⟩ := valV_d h2 e'
        exact ⟨v, by rw [valV_neg (k := (.inr x : Key)) (p := (.inr y, u)) (fun z : (Sum.inr y : Key) = Sum.inr x => q (by injection z))]; exact h3, h4⟩
theorem de_dget {x : Str} {p2 : Pos} {j} (hu : X.A.units + 1 < cLine) (ha : DE K X a Ta) (hs : NoSl (.Constant (.str x) j p2) := by exact fun _ _ => rfl) : DE K X (.Subscript a (.Constant (.str x) j p2) pos) (fun ρ P => Ta ρ fun d => ∃ kvs d', d = .dict kvs ∧ tyOf (.dict kvs) = "dict" ∧ dictD kvs x = some d' ∧ P d') := by
  refine ⟨PE.weak (pe_dget hu ha.pe pe_str hs) fun σ H Q h => ?_⟩
  obtain ⟨G0, H0, B, G, ρ, F, P, w, t, k⟩ := h
  refine ⟨G0, H0, B, G, ρ, F, _, w, t, fun d G' H' v p s r => ?_⟩
  obtain ⟨kvs, d', rfl, ty, h, p⟩ := p
  cases r with
  | ins _ _ _ _ => simp [tyOf] at ty
  | dct h1 h2 =>
    obtain ⟨v, h3, h4⟩ := valV_d h2 h
    exact ⟨_, v, rfl, .inl ⟨_, .inr x, .inl (s.sGH _ _ h1), rfl, h3.symm⟩, k _ G' H' _ p s h4⟩
/-! {} -/
theorem de_dnew : DE K X (.Dict [] [] pos) (fun _ P => P (.dict [])) := by
  refine ⟨PE.weak pe_dnewK fun σ H Q h => ?_⟩
  obtain ⟨G0, H0, B, G, ρ, F, P, w, t, k⟩ := h
  exact fun d nd => k _ _ _ _ t (Stp.lay w.sGH nd) (Dr.dct (kvs := []) (ds := []) upd_same .nil)
end
end DL
set_option Elab.async false
set_option linter.all false
set_option maxRecDepth 100000
set_option maxHeartbeats 1000000
/-! DL7: built-ins in short; the module's constants and tables; a law's start and end -/
namespace DL
open PySem PySem.Spec PyProof.Rows L2 GL
section
variable {K : PySem.W.Frag} {X : Cx} {e a b c tg : Expr} {es rest : List Expr} {Ta Tb Tc : DT} {To Tp : OT} {Tt Tu : BT} {Tl : LT} {pos p : Pos}
theorem de_len (e1 : X.K = K) (hm : X.mg "len" = none) (h : DE K X e Ta) (hg : Gl X "len" := by rfl) (hs : starEach [e] X.env = (false, eval e X.env) :: starEach [] X.env := by rfl) (hpl : (backTo pos (starEach [] X.env)).any (·.1) = false := by rfl) :
    DE K X (.Call (.Name "len" p) [e] [] pos) (fun ρ P => Ta ρ fun d => ∃ d' n, [d] = [d'] ∧ lenOf d' = some n ∧ n ≤ sizeLine ∧ P (.int n)) := by
  subst e1
  exact de_callB call_len cd_len hg hm (by decide +kernel) (da_cons h da_nil hs) (by decide) (by decide) hs hpl
theorem de_abs (hm : X.mg "abs" = none) (h : DE K X e Ta) (hg : Gl X "abs" := by rfl) (hs : starEach [e] X.env = (false, eval e X.env) :: starEach [] X.env := by rfl) (hpl : (backTo pos (starEach [] X.env)).any (·.1) = false := by rfl) :
    DE K X (.Call (.Name "abs" p) [e] [] pos) (fun ρ P => Ta ρ fun d => ∃ i : Int, [d] = [.int i] ∧ P (.int (if i < 0 then -i else i))) :=
  de_callB call_abs cd_abs hg hm (by decide +kernel) (da_cons h da_nil hs) (by decide) (by decide) hs hpl
theorem de_repr (e1 : X.K = K) (hG : Gd X.A) (hu : X.A.units + 66 < cLine) (hm : X.mg "repr" = none) (h : DE K X e Ta) (hg : Gl X "repr" := by rfl) (hs : starEach [e] X.env = (false, eval e X.env) :: starEach [] X.env := by rfl) (hpl : (backTo pos (starEach [] X.env)).any (·.1) = false := by rfl) :
    DE K X (.Call (.Name "repr" p) [e] [] pos) (fun ρ P => Ta ρ fun d => ∃ d', [d] = [d'] ∧ d'.hasDict = false ∧ d'.showable = true ∧ d'.depth ≤ 64 ∧ d'.shown.length ≤ sizeLine ∧ P (.str d'.shown)) := by
  subst e1
  exact de_callB (call_reprD hG hu) cd_repr hg hm (by decide +kernel) (da_cons h da_nil hs) (by decide) (by decide) hs hpl
theorem de_all (e1 : X.K = K) (hc : X.calm = true) (hm : X.mg "all" = none) (h : DE K X e Ta) (hg : Gl X "all" := by rfl) (hs : starEach [e] X.env = (false, eval e X.env) :: starEach [] X.env := by rfl) (hpl : (backTo pos (starEach [] X.env)).any (·.1) = false := by rfl) :
    DE K X (.Call (.Name "all" p) [e] [] pos) (fun ρ P => Ta ρ fun d => ∃ bs : List Bool, [d] = [.list (bs.map .bool)] ∧ P (.bool (bs.all id))) := by
  subst e1
  exact de_callB (cr_all hc) cd_all hg hm (by decide +kernel) (da_cons h da_nil hs) (by decide) (by decide) hs hpl
theorem do_list (e1 : X.K = K) (hm : X.mg "list" = none) (h : DE K X e Ta) (hg : Gl X "list" := by rfl) (hs : starEach [e] X.env = (false, eval e X.env) :: starEach [] X.env := by rfl) (hpl : (backTo pos (starEach [] X.env)).any (·.1) = false := by rfl) :
    DO K X (.Call (.Name "list" p) [e] [] pos) (fun ρ P => Ta ρ fun d => ∃ d' is, [d] = [d'] ∧ items d' = some is ∧ P (.lst (is.map .dat))) := by
  subst e1
  exact do_callTy call_list_of co_list hg hm (by decide +kernel) (da_cons h da_nil hs) (by decide) (by decide) hs hpl
theorem de_tuple (e1 : X.K = K) (hm : X.mg "tuple" = none) (h : DE K X e Ta) (hg : Gl X "tuple" := by rfl) (hs : starEach [e] X.env = (false, eval e X.env) :: starEach [] X.env := by rfl) (hpl : (backTo pos (starEach [] X.env)).any (·.1) = false := by rfl) :
    DE K X (.Call (.Name "tuple" p) [e] [] pos) (fun ρ P => Ta ρ fun d => ∃ d' is, [d] = [d'] ∧ items d' = some is ∧ P (.tuple is)) := by
  subst e1
  exact de_callTy call_tuple_of cd_tuple hg hm (by decide +kernel) (da_cons h da_nil hs) (by decide) (by decide) hs hpl
theorem de_intC (hm : X.mg "int" = none) (h : DE K X e Ta) (hg : Gl X "int" := by rfl) (hs : starEach [e] X.env = (false, eval e X.env) :: starEach [] X.env := by rfl) (hpl : (backTo pos (starEach [] X.env)).any (·.1) = false := by rfl) :
    DE K X (.Call (.Name "int" p) [e] [] pos) (fun ρ P => Ta ρ fun d => ∃ d' i, [d] = [d'] ∧ intOf d' = some i ∧ P (.int i)) :=
  de_callTy call_int1 od_int1 hg hm (by decide +kernel) (da_cons h da_nil hs) (by decide) (by decide) hs hpl
/-! the module's constants -/
theorem de_gInt {x : Str} {i : Int} (hg : Gl X x) (h : ∃ t, X.mg x = some (.int i t)) (hd : (x == ("__debug__" : Str)) = false := by decide) : DE K X (.Name x pos) (fun _ P => P (.int i)) := by
  obtain ⟨t, h⟩ := h
  exact de_c (pe_glob (v := .int i) hg h ⟨t, rfl⟩ hd) fun _ => .int i
theorem de_gRef {x : Str} {d : PyData} (hg : Gl X x) (h : ∃ a, X.mg x = some (.ref a) ∧ ∀ G, Dr K G (.ref a) d) (hd : (x == ("__debug__" : Str)) = false := by decide) : DE K X (.Name x pos) (fun _ P => P d) := by
  obtain ⟨a, h, k⟩ := h
  exact de_c (pe_glob (v := .ref a) hg h rfl hd) k
/-- a table of tuples of texts -/
inductive TabT (K : PySem.W.Frag) : List DictEntry → List (Str × List Str) → Prop
  | nil : TabT K [] []
  | cons {h : Int} {x : Str} {t : Tok} {a : Addr} {o : Obj} {us : Array Value} {n : Nat} {ys : List Str} {es : List DictEntry} {ts : List (Str × List Str)} :
      K.lookup a = some o → o.cls = .type "tuple" → o.data = .seq us n → us.size ≤ sizeLine → Vals (ys.map V.str) us.toList → TabT K es ts → TabT K (⟨h, .str x t, .ref a⟩ :: es) ((x, ys) :: ts)
def tabGet : List (Str × List Str) → Str → Option (List Str)
  | [], _ => none
  | p :: r, x => if p.1 = x then some p.2 else tabGet r x
theorem TabT.get {x : Str} : ∀ {es : List DictEntry} {ts : List (Str × List Str)}, TabT K es ts → (∃ a ys, es.find? (·.key.isStr x) = some a ∧ tabGet ts x = some ys ∧ ∃ p, a.val = .ref p ∧ ∀ G, Dr K G (.ref p) (.tuple (ys.map .str))) ∨
    (es.find? (·.key.isStr x) = none ∧ tabGet ts x = none ∧ es.any (·.refKey) = false)
  | _, _, .nil => .inr ⟨rfl, rfl, rfl⟩
  | _, _, .cons (h := h) (x := y) (t := t) (a := a) (ys := ys) (es := es) (ts := ts) l c d z v r => by
    have e1 : (Value.str y t).isStr x = decide (y = x) := by
      show (y == x) = decide (y = x)
      rw [Bool.eq_iff_iff, beq_iff_eq, decide_eq_true_eq]
    by_cases q : y = x
    · refine .inl ⟨⟨h, .str y t, .ref a⟩, ys, ?_, ?_, a, rfl, fun G => .tup (.inr ⟨_, _, _, l, c, d, z, v⟩) (.strs ys)⟩
      · exact List.find?_cons_of_pos (by show (Value.str y t).isStr x = true; rw [e1, decide_eq_true_eq]; exact q)
      · show (if y = x then some ys else _) = _
        rw [if_pos q]
    · rcases TabT.get (x := x) r with ⟨a', ys', k1, k2, k3⟩ | ⟨k1, k2, k3⟩
      · refine .inl ⟨a', ys', ?_, ?_, k3⟩
        · rw [List.find?_cons_of_neg (by show ¬ (Value.str y t).isStr x = true; rw [e1, decide_eq_true_eq]; exact q)]
          exact k1
        · show (if y = x then some ys else _) = _
          rw [if_neg q]
          exact k2
      · refine .inr ⟨?_, ?_, ?_⟩
        · rw [List.find?_cons_of_neg (by show ¬ (Value.str y t).isStr x = true; rw [e1, decide_eq_true_eq]; exact q)]
          exact k1
        · show (if y = x then some ys else _) = _
          rw [if_neg q]
          exact k2
        · rw [List.any_cons, k3]
          rfl
structure KTab (K : PySem.W.Frag) (w : World) (d : Addr) (ts : List (Str × List Str)) : Prop where
  ex : ∃ es n, K.lookup d = some ⟨.type "dict", none, .dict es n, #[]⟩ ∧ PySem.W.KeysLit w.params es.toList ∧ TabT K es.toList ts ∧ (d == sysModules) = false
theorem KTab.ns {w : World} {d : Addr} {ts : List (Str × List Str)} (h : KTab K w d ts) (x : Str) : (∃ p ys, PySem.W.nsIn K d x = some (some (.ref p)) ∧ tabGet ts x = some ys ∧ ∀ G, Dr K G (.ref p) (.tuple (ys.map .str))) ∨ (PySem.W.nsIn K d x = some none ∧ tabGet ts x = none) := by
  obtain ⟨es, n, l, _, t, _⟩ := h.ex
  rcases t.get (x := x) with ⟨a, ys, k1, k2, p, k3, k4⟩ | ⟨k1, k2, k3⟩
  · refine .inl ⟨p, ys, ?_, k2, k4⟩
    unfold PySem.W.nsIn
    rw [l]
    simp only [k1, k3]
  · refine .inr ⟨?_, k2⟩
    unfold PySem.W.nsIn
    rw [l]
    simp only [k1, k3]
    rfl
/-- TAB.get(e) -/
theorem de_kget {x : Str} {ts : List (Str × List Str)} {apos cpos : Pos} (hg : Gl X x) (h : ∃ d, X.mg x = some (.ref d) ∧ KTab X.K X.w d ts) (e1 : X.K = K) (he : DE K X e Ta)
    (m : M1 X (.Name x p) "get" apos e cpos := by exact ⟨rfl, rfl, rfl, rfl⟩) (hd : (x == ("__debug__" : Str)) = false := by decide) :
    DE K X (.Call (.Attribute (.Name x p) "get" apos) [e] [] cpos) (fun ρ P => Ta ρ fun d => ∃ z, d = .str z ∧ P (match tabGet ts z with | some ys => .tuple (ys.map .str) | none => .none)) := by
  subst e1
  obtain ⟨d, hx, D⟩ := h
  have base : PE X (.Call (.Attribute (.Name x p) "get" apos) [e] [] cpos) (fun σ H Q => liftE X.K Ta σ H fun y H2 => ∃ z, y = .str z ∧ ∀ r, PySem.W.nsIn X.K d z = some r → ∃ v, RelV v (r.getD .none) ∧ Q v H2) := by
    refine ⟨fun pins s σ H Q I h => ?_⟩
    obtain ⟨es, n, l, kl, _, lo⟩ := D.ex
    refine wpAny_Call_method m.base m.few m.line PySem.F.plainAttrs_dict PySem.F.slot_dict_get PySem.F.type_dict_get (thn ((pe_glob (v := .ref d) hg hx rfl hd).run pins s σ H (fun y H' => y = .ref d ∧ H' = H) I ⟨rfl, rfl⟩) fun u s1 ⟨y, H1, I1, rx, ey, eH⟩ => ?_)
    subst ey eH
    obtain rfl : u = Value.ref d := rx
    have hm := PySem.W.mapOf_K (prog := X.prog) (w := X.w) I1.kIn l kl
    refine ⟨hm.typeIs, fun a e => by cases e; exact ⟨_, I1.kIn _ _ l, rfl⟩, ?_⟩
    rw [m.trees]
    refine Calls.callWith_builtin rfl (Calls.evalArgs_plain (Calls.spliced_cons (thn (he.pe.run pins s1 σ _ _ I1 h) fun iv s2 ⟨y, H2, I2, ry, z, ez, q2⟩ => Calls.spliced_nil ?_)))
    subst ez
    obtain ⟨t, rfl⟩ := (show ∃ t, iv = Value.str z t from ry)
    have hm2 := PySem.W.mapOf_K (prog := X.prog) (w := X.w) I2.kIn l kl
    have go : ∀ r, PySem.W.nsIn X.K d z = some r → wpAny (model X.prog X.w) X.A (call (.builtin "dict.get") [.ref d, .str z t]) (EP X pins σ Q) X.xe s2 := fun r hr => by
      obtain ⟨v, rv, qv⟩ := q2 r hr
      refine call_meetsIn PySem.F.slot_dict_get hm2.typeIs PySem.F.entry_dict_get (PySem.F.args_dict_get_2 _ _) (meets_dict_get (strKind X.prog X.w) d (strKind_is X.prog X.w z t) lo) ⟨_, hm2, ?_⟩
      rw [PySem.W.find_K l hr]
      exact ⟨v, H2, I2.tok _, rv, qv⟩
    rcases D.ns z with ⟨p', ys, k1, _, _⟩ | ⟨k1, _⟩
    · exact go _ k1
    · exact go _ k1
  refine ⟨PE.weak base fun σ H Q h => ?_⟩
  obtain ⟨G0, H0, B, G, ρ, F, P, w, t, k⟩ := h
  refine ⟨G0, H0, B, G, ρ, F, _, w, t, fun d' G' H' v p s r => ?_⟩
  obtain ⟨z, rfl, p⟩ := p
  refine ⟨z, r.tStr, fun r' hr => ?_⟩
  rcases D.ns z with ⟨p', ys, k1, k2, k3⟩ | ⟨k1, k2⟩
  · rw [k1] at hr
    cases hr
    rw [k2] at p
    exact ⟨.ref p', rfl, k _ G' H' _ p s (k3 G')⟩
  · rw [k1] at hr
    cases hr
    rw [k2] at p
    exact ⟨.non, rfl, k _ G' H' _ p s .non⟩
/-- TAB[e] -/
theorem de_kix {x : Str} {ts : List (Str × List Str)} (hg : Gl X x) (h : ∃ d, X.mg x = some (.ref d) ∧ KTab X.K X.w d ts) (e1 : X.K = K) (he : DE K X e Ta) (hs : PlainIx e := by exact fun _ _ => rfl) (hd : (x == ("__debug__" : Str)) = false := by decide) :
    DE K X (.Subscript (.Name x p) e pos) (fun ρ P => Ta ρ fun d => ∃ z ys, d = .str z ∧ tabGet ts z = some ys ∧ P (.tuple (ys.map .str))) := by
  subst e1
  obtain ⟨d, hx, D⟩ := h
  refine ⟨PE.weak (pe_ix ix_kdict (pe_glob (v := .ref d) hg hx rfl hd) he.pe hs) fun σ H Q h => ?_⟩
  obtain ⟨G0, H0, B, G, ρ, F, P, w, t, k⟩ := h
  refine ⟨G0, H0, B, G, ρ, F, _, w, t, fun d' G' H' v p s r => ?_⟩
  obtain ⟨z, ys, rfl, hz, p⟩ := p
  obtain ⟨es, n, l, kl, _, lo⟩ := D.ex
  rcases D.ns z with ⟨p', ys', k1, k2, k3⟩ | ⟨k1, k2⟩
  · rw [k2] at hz
    cases hz
    exact ⟨d, z, .ref p', rfl, r.tStr, ⟨es, n, _, l, kl, k1, rfl⟩, k _ G' H' _ p s (k3 G')⟩
  · rw [k2] at hz
    cases hz
end
/-! ### the bag as the law's first statement -/
section
variable {K : PySem.W.Frag} {X : Cx} {T : ST} {sts : List Stmt}
/-- from the bag's making on -/
theorem law_from {i : Nat} {ρ : Env'} {D : Ends} {σ : L2.St} {H H' : Hp} {b c : Addr} {g s j : Int} {ns : List Int} (hb : H' b = some (.lst [.int g, .int s, .int j, .ref c])) (hc : H' c = some (.lst (ns.map V.int))) (hj : 0 ≤ j) (cb : c ≠ b)
    (env : RepE K (some (b, c)) (fun a => if a = c then H' a else none) H' σ ρ []) {P : DEnds} (t : T P ρ) (h1 : ∀ ρ', ¬ P.nx ρ') (h2 : ∀ o, P.rt o → o = .dat (.bool true)) (h3 : ∀ H2, D.rt (.bl true) H2) (h4 : ∀ ρ', ¬ P.bk ρ') (h5 : ∀ ρ', ¬ P.ct ρ') :
    liftS K T D σ H' := by
  refine ⟨_, H', some (b, c), _, ρ, [], P, ⟨fun a u h => ?_, Same.refl _, fun a h => .inl h, fun a u h _ => h, (fun _ m => nomatch m), fun b' e => ?_, env⟩, t, fun ρ' _ _ _ _ p => absurd p (h1 ρ'), fun o G' H2 v Fv p f => ?_, fun ρ' _ _ _ _ p => absurd p (h4 ρ'), fun ρ' _ _ _ _ p => absurd p (h5 ρ')⟩
  · by_cases z : a = c
    · exact (if_pos z).symm.trans h
    · cases (if_neg z).symm.trans h
  · cases e
    exact ⟨⟨g, s, j, ns, hb, (if_pos rfl).trans hc, hj⟩, if_neg (Ne.symm cb), by rw [hb]; exact nofun⟩
  · have e := h2 o p
    subst e
    have r := f.rep
    cases r with
    | dat r =>
      cases r
      exact h3 H2
end
end DL
set_option Elab.async false
set_option linter.all false
set_option maxRecDepth 100000
set_option maxHeartbeats 1000000
/-! DL8: lemmas about data: kinds, parts, letters; comprehensions over mapped lists -/
namespace DL
open PySem PySem.Spec PyProof.Rows L2 GL
def boolD : PyData → Bool
  | .bool _ => true
  | _ => false
def intD : PyData → Bool
  | .int _ => true
  | _ => false
def strD : PyData → Bool
  | .str _ => true
  | _ => false
def tupD : PyData → Bool
  | .tuple _ => true
  | _ => false
def lstD : PyData → Bool
  | .list _ => true
  | _ => false
theorem isTy_int (d : PyData) : isTy "int" d = (intD d || boolD d) := by
  cases d with
  | dict kvs => exact isTy_dk kvs "int" (by simp)
  | _ => rfl
theorem isTy_bool (d : PyData) : isTy "bool" d = boolD d := by
  cases d with
  | dict kvs => exact isTy_dk kvs "bool" (by simp)
  | _ => rfl
theorem isTy_str (d : PyData) : isTy "str" d = strD d := by
  cases d with
  | dict kvs => exact isTy_dk kvs "str" (by simp)
  | _ => rfl
theorem isTy_list (d : PyData) : isTy "list" d = lstD d := by
  cases d with
  | dict kvs => exact isTy_dk kvs "list" (by simp)
  | _ => rfl
theorem isTy_tuple (d : PyData) : isTy "tuple" d = tupD d := by
  cases d with
  | dict kvs => exact isTy_dk kvs "tuple" (by simp)
  | _ => rfl
theorem wt_all : ∀ {ds : List PyData}, ds.length ≤ PyData.weightAll ds ∧ ∀ x ∈ ds, x.weight < PyData.weightAll ds
  | [] => ⟨Nat.le_refl _, fun _ m => nomatch m⟩
  | d :: ds => by
    obtain ⟨h1, h2⟩ := wt_all (ds := ds)
    simp only [PyData.weightAll, List.length_cons]
    refine ⟨by omega, fun x m => ?_⟩
    rcases List.mem_cons.mp m with rfl | m
    · omega
    · have := h2 x m
      omega
theorem dp_all : ∀ {ds : List PyData}, ∀ x ∈ ds, x.depth ≤ PyData.depthAll ds
  | [], _, m => nomatch m
  | d :: ds, x, m => by
    simp only [PyData.depthAll]
    rcases List.mem_cons.mp m with rfl | m
    · omega
    · have := dp_all x m
      omega
theorem lay_all : ∀ {ds : List PyData}, PyData.canLayAll0 ds = true → ∀ x ∈ ds, x.canLay0 = true
  | [], _, _, m => nomatch m
  | d :: ds, h, x, m => by
    simp only [PyData.canLayAll0, Bool.and_eq_true] at h
    rcases List.mem_cons.mp m with rfl | m
    · exact h.1
    · exact lay_all h.2 x m
theorem short_all : ∀ {ds : List PyData}, PyData.leavesShortAll 8 ds = true → ∀ x ∈ ds, x.leavesShort 8 = true
  | [], _, _, m => nomatch m
  | d :: ds, h, x, m => by
    simp only [PyData.leavesShortAll, Bool.and_eq_true] at h
    rcases List.mem_cons.mp m with rfl | m
    · exact h.1
    · exact short_all h.2 x m
theorem show_all : ∀ {ds : List PyData}, PyData.showableAll ds = true → ∀ x ∈ ds, x.showable = true
  | [], _, _, m => nomatch m
  | d :: ds, h, x, m => by
    simp only [PyData.showableAll, Bool.and_eq_true] at h
    rcases List.mem_cons.mp m with rfl | m
    · exact h.1
    · exact show_all h.2 x m
theorem dok_parts {ds : List PyData} (h1 : PyData.canLayAll0 ds = true) (h2 : PyData.leavesShortAll 8 ds = true) (h3 : PyData.weightAll ds ≤ 100000) (h4 : PyData.depthAll ds + 1 ≤ 60) (h5 : PyData.showableAll ds = true) : ∀ x ∈ ds, DOk x := fun x m =>
  ⟨lay_all h1 x m, short_all h2 x m, by have := wt_all.2 x m; omega, by have := dp_all x m; omega, show_all h5 x m⟩
theorem _root_.GL.DOk.tup {ds : List PyData} (h : DOk (.tuple ds)) : ∀ x ∈ ds, DOk x := by
  obtain ⟨h1, h2, h3, h4, h5⟩ := h
  simp only [PyData.canLay0, PyData.leavesShort, PyData.weight, PyData.depth, PyData.showable] at h1 h2 h3 h4 h5
  exact dok_parts h1 h2 h3 h4 h5
theorem _root_.GL.DOk.lst {ds : List PyData} (h : DOk (.list ds)) : ∀ x ∈ ds, DOk x := by
  obtain ⟨h1, h2, h3, h4, h5⟩ := h
  simp only [PyData.canLay0, PyData.leavesShort, PyData.weight, PyData.depth, PyData.showable] at h1 h2 h3 h4 h5
  exact dok_parts h1 h2 h3 h4 h5
theorem _root_.GL.DOk.tupLen {ds : List PyData} (h : DOk (.tuple ds)) : ds.length ≤ 100000 := by
  have h3 := h.weighs
  simp only [PyData.weight] at h3
  have := (wt_all (ds := ds)).1
  omega
theorem _root_.GL.DOk.lstLen {ds : List PyData} (h : DOk (.list ds)) : ds.length ≤ 100000 := by
  have h3 := h.weighs
  simp only [PyData.weight] at h3
  have := (wt_all (ds := ds)).1
  omega
theorem _root_.GL.DOk.strLen {z : Str} (h : DOk (.str z)) : z.length ≤ 100000 := by
  have h3 := h.weighs
  simp only [PyData.weight] at h3
  exact h3
theorem big {n : Nat} (h : n ≤ 100000) : n ≤ sizeLine := by rw [sizeLine_eq]; omega
theorem big' {n : Nat} (h : n ≤ 100000) : n < sizeLine := by rw [sizeLine_eq]; omega
theorem dok_bool (b : Bool) : DOk (.bool b) := ⟨rfl, by cases b <;> decide +kernel, by cases b <;> decide +kernel, by cases b <;> decide +kernel, rfl⟩
theorem dok_none : DOk .none := ⟨rfl, by decide +kernel, by decide +kernel, by decide +kernel, rfl⟩
/-- lists, tuples of what is fine -/
theorem dok_all {ds : List PyData} {n m : Nat} (h : ∀ x ∈ ds, DOk x ∧ x.weight ≤ n ∧ x.depth ≤ m) (hm : m < 60) (hn : ds.length * (n + 1) ≤ 100000) : DOk (.list ds) ∧ DOk (.tuple ds) ∧ PyData.weightAll ds ≤ ds.length * (n + 1) ∧ PyData.depthAll ds ≤ m := by
  have e : PyData.canLayAll0 ds = true ∧ PyData.leavesShortAll 8 ds = true ∧ PyData.showableAll ds = true ∧ PyData.weightAll ds ≤ ds.length * (n + 1) ∧ PyData.depthAll ds ≤ m := by
    clear hn
    induction ds with
    | nil => exact ⟨rfl, rfl, rfl, by simp [PyData.weightAll], by simp [PyData.depthAll]⟩
    | cons d ds ih =>
      obtain ⟨h1, h2, h3, h4, h5⟩ := ih fun x m => h x (List.mem_cons_of_mem _ m)
      obtain ⟨g1, g2, g3⟩ := h d List.mem_cons_self
      simp only [PyData.canLayAll0, PyData.leavesShortAll, PyData.showableAll, PyData.weightAll, PyData.depthAll, List.length_cons, Nat.succ_mul, g1.lay, g1.short, g1.shows, h1, h2, h3, Bool.and_self, true_and]
      omega
  obtain ⟨h1, h2, h3, h4, h5⟩ := e
  refine ⟨⟨by simp only [PyData.canLay0]; exact h1, by simp only [PyData.leavesShort]; exact h2, by simp only [PyData.weight]; omega, by simp only [PyData.depth]; omega, by simp only [PyData.showable]; exact h3⟩,
    ⟨by simp only [PyData.canLay0]; exact h1, by simp only [PyData.leavesShort]; exact h2, by simp only [PyData.weight]; omega, by simp only [PyData.depth]; omega, by simp only [PyData.showable]; exact h3⟩, h4, h5⟩
theorem _root_.GL.DOk.shaped {d : PyData} (h : DOk d) : SeqAt.shaped d = true := by
  unfold SeqAt.shaped
  rw [h.lay, Bool.true_and]
  exact decide_eq_true (Nat.le_trans h.deep (by decide))
/-! letters -/
def letD (c : Nat) : Bool := decide (97 ≤ c) && decide (c ≤ 122)
def signS (c : Nat) : Str := ⟨#[c]⟩
theorem le_a (c : Nat) : (!decide ((signS c).cps.toList < (Str.ofString "a").cps.toList)) = decide (97 ≤ c) := by
  have e : (Str.ofString "a").cps.toList = [97] := by decide +kernel
  rw [e]
  show (!decide ([c] < [97])) = _
  rw [Bool.eq_iff_iff, Bool.not_eq_true', decide_eq_false_iff_not, decide_eq_true_eq]
  have : ([c] < [97]) ↔ c < 97 := by
    rw [List.cons_lt_cons_iff]
    simp
  rw [this]
  omega
theorem le_z (c : Nat) : (!decide ((Str.ofString "z").cps.toList < (signS c).cps.toList)) = decide (c ≤ 122) := by
  have e : (Str.ofString "z").cps.toList = [122] := by decide +kernel
  rw [e]
  show (!decide ([122] < [c])) = _
  rw [Bool.eq_iff_iff, Bool.not_eq_true', decide_eq_false_iff_not, decide_eq_true_eq]
  have : ([122] < [c]) ↔ 122 < c := by
    rw [List.cons_lt_cons_iff]
    simp
  rw [this]
  omega
theorem mem_letters (c : Nat) : decide (c ∈ (Str.ofString "abcdefghijklmnopqrstuvwxyz").cps.toList) = letD c := by
  have e : (Str.ofString "abcdefghijklmnopqrstuvwxyz").cps.toList = (List.range 26).map (97 + ·) := by decide +kernel
  rw [e, Bool.eq_iff_iff, decide_eq_true_eq]
  unfold letD
  rw [Bool.and_eq_true, decide_eq_true_eq, decide_eq_true_eq, List.mem_map]
  constructor
  · rintro ⟨i, hi, rfl⟩
    rw [List.mem_range] at hi
    omega
  · rintro ⟨h1, h2⟩
    exact ⟨c - 97, by rw [List.mem_range]; omega, by omega⟩
theorem signsD_eq (z : Str) : signsD z = z.cps.toList.map fun c => PyData.str (signS c) := rfl
theorem len_signs (z : Str) : (signsD z).length = z.length := by simp [signsD]; rfl
/-! comprehensions over what is mapped -/
theorem erase_dat (ds : List PyData) : (O.lst (ds.map .dat)).erase = .list ds := by
  show PyData.list (eraseAll (ds.map O.dat)) = _
  rw [eraseAll_dat]
theorem erase_map {α : Type} (f : α → PyData) (xs : List α) : (O.lst (xs.map fun a => O.dat (f a))).erase = .list (xs.map f) := by
  have e : (xs.map fun a => O.dat (f a)) = (xs.map f).map O.dat := by rw [List.map_map]; rfl
  rw [e, erase_dat]
theorem lc_maps {α : Type} {g : GT} {Tt : BT} {To : OT} {ρ : Env'} {P : List O → Prop} (e : α → PyData) (xs : List α) (p : α → Bool) (f : α → O) (hl : xs.length < sizeLine)
    (h : ∀ a ∈ xs, ∀ (yes : O → Prop) (no : Prop), (p a = true → yes (f a)) → (p a = false → no) → lcTurn g Tt To ρ (e a) yes no) (hp : P ((xs.filter p).map f)) :
    (xs.map e).length < sizeLine ∧ ∃ I : Nat → List O → Prop, I 0 [] ∧ (∀ i d acc, (xs.map e)[i]? = some d → I i acc → lcTurn g Tt To ρ d (fun o => I (i + 1) (acc ++ [o])) (I (i + 1) acc)) ∧ ∀ acc, I (xs.map e).length acc → P acc := by
  refine ⟨by rw [List.length_map]; exact hl, fun i acc => acc = ((xs.take i).filter p).map f, rfl, fun i d acc hd hI => ?_, fun acc hI => ?_⟩
  · have hI : acc = ((xs.take i).filter p).map f := hI
    rw [List.getElem?_map] at hd
    obtain ⟨a, ha, rfl⟩ := Option.map_eq_some_iff.mp hd
    have et : xs.take (i + 1) = xs.take i ++ [a] := by rw [List.take_add_one, ha]; rfl
    refine h a (List.mem_of_getElem? ha) _ _ (fun hp => ?_) (fun hp => ?_)
    · show acc ++ [f a] = ((xs.take (i + 1)).filter p).map f
      rw [et, List.filter_append, List.map_append, hI]
      simp [hp]
    · show acc = ((xs.take (i + 1)).filter p).map f
      rw [et, List.filter_append, List.map_append, hI]
      simp [hp]
  · have hI : acc = ((xs.take (xs.map e).length).filter p).map f := hI
    rw [List.length_map, List.take_length] at hI
    rw [hI]
    exact hp
/-- no test: a map -/
theorem lc_map {g : GT} {To : OT} {ρ : Env'} {ds : List PyData} {P : List O → Prop} (f : PyData → O) (hl : ds.length < sizeLine)
    (h : ∀ d ∈ ds, ∀ (yes : O → Prop) (no : Prop), yes (f d) → lcTurn g (fun _ P => P true) To ρ d yes no) (hp : P (ds.map f)) :
    ds.length < sizeLine ∧ ∃ I : Nat → List O → Prop, I 0 [] ∧ (∀ i d acc, ds[i]? = some d → I i acc → lcTurn g (fun _ P => P true) To ρ d (fun o => I (i + 1) (acc ++ [o])) (I (i + 1) acc)) ∧ ∀ acc, I ds.length acc → P acc :=
  lc_fun (P := fun o => match o with | .lst acc => P acc | _ => False) (fun _ => true) f hl (fun d m yes no h1 _ => h d m yes no (h1 rfl)) (by rw [List.filter_eq_self.mpr fun _ _ => rfl]; exact hp)
/-- a test alone: what is kept -/
theorem dec_and {b c : Bool} {P : PyData → Prop} (h : P (.bool (b && c))) : ∃ k, PyData.bool b = .bool k ∧ if k = true then P (.bool c) else P (.bool false) := ⟨b, rfl, by cases b <;> exact h⟩
/-! drawing from lists -/
theorem at_mem {α : Type} {xs : List α} {i : Int} (h0 : 0 ≤ i) (h1 : i < xs.length) : ∃ v, atI xs i = some v ∧ v ∈ xs := by
  have hi : i.toNat < xs.length := by omega
  exact ⟨xs[i.toNat], atI_int h0 (List.getElem?_eq_getElem hi), List.getElem_mem hi⟩
end DL
set_option Elab.async false
set_option linter.all false
set_option maxRecDepth 100000
set_option maxHeartbeats 1000000
/-! DL9: a reading is walked -/
namespace DL
open PySem PySem.Spec PyProof.Rows L2 GL
theorem eqR_str {x y : Str} {P : PyData → Prop} (h : P (.bool (decide (x = y)))) : eqR false (.str x) (.str y) P := .inl ⟨_, rfl, by rw [Bool.xor_false]; exact h⟩
theorem eqR_int {x y : Int} {P : PyData → Prop} (h : P (.bool (decide (x = y)))) : eqR false (.int x) (.int y) P := .inl ⟨_, rfl, by rw [Bool.xor_false]; exact h⟩
theorem neR_str {x y : Str} {P : PyData → Prop} (h : P (.bool (!decide (x = y)))) : eqR true (.str x) (.str y) P := .inl ⟨_, rfl, by rw [Bool.xor_true]; exact h⟩
theorem neR_int {x y : Int} {P : PyData → Prop} (h : P (.bool (!decide (x = y)))) : eqR true (.int x) (.int y) P := .inl ⟨_, rfl, by rw [Bool.xor_true]; exact h⟩
theorem eqR_dat {d e : PyData} {P : PyData → Prop} (h1 : d.hasDict = false) (h2 : e.hasDict = false) (h3 : SeqAt.shaped d = true) (h4 : SeqAt.shaped e = true) (h : P (.bool (PyData.eqv d e))) : eqR false d e P := .inr ⟨h1, h2, h3, h4, by rw [Bool.xor_false]; exact h⟩
theorem neR_dat {d e : PyData} {P : PyData → Prop} (h1 : d.hasDict = false) (h2 : e.hasDict = false) (h3 : SeqAt.shaped d = true) (h4 : SeqAt.shaped e = true) (h : P (.bool (!PyData.eqv d e))) : eqR true d e P := .inr ⟨h1, h2, h3, h4, by rw [Bool.xor_true]; exact h⟩
/-- l == [] -/
theorem eqR_nil {ds : List PyData} {P : PyData → Prop} (h : DOk (.list ds)) (p : P (.bool (decide (ds = [])))) : eqR false (.list ds) (.list []) P := by
  refine eqR_dat h.nodict rfl h.shaped (by decide +kernel) ?_
  cases ds <;> exact p
theorem neR_nil {ds : List PyData} {P : PyData → Prop} (h : DOk (.list ds)) (p : P (.bool (!decide (ds = [])))) : eqR true (.list ds) (.list []) P := by
  refine neR_dat h.nodict rfl h.shaped (by decide +kernel) ?_
  cases ds <;> exact p
theorem eqR_nilT {ds : List PyData} {P : PyData → Prop} (h : DOk (.tuple ds)) (p : P (.bool (decide (ds = [])))) : eqR false (.tuple ds) (.tuple []) P := by
  refine eqR_dat h.nodict rfl h.shaped (by decide +kernel) ?_
  cases ds <;> exact p
theorem neR_nilT {ds : List PyData} {P : PyData → Prop} (h : DOk (.tuple ds)) (p : P (.bool (!decide (ds = [])))) : eqR true (.tuple ds) (.tuple []) P := by
  refine neR_dat h.nodict rfl h.shaped (by decide +kernel) ?_
  cases ds <;> exact p
theorem at0 {α : Type} {x : α} {xs : List α} : atI (x :: xs) 0 = some x := atI_int (by decide) rfl
theorem at1 {α : Type} {x y : α} {xs : List α} : atI (x :: y :: xs) 1 = some y := atI_int (by decide) rfl
theorem at2 {α : Type} {x y z : α} {xs : List α} : atI (x :: y :: z :: xs) 2 = some z := atI_int (by decide) rfl
theorem ix0T {x : PyData} {xs : List PyData} {P : PyData → Prop} (h : P x) : ∃ d', ixD (.tuple (x :: xs)) (.int 0) = some d' ∧ P d' := ⟨x, at0, h⟩
theorem ix1T {x y : PyData} {xs : List PyData} {P : PyData → Prop} (h : P y) : ∃ d', ixD (.tuple (x :: y :: xs)) (.int 1) = some d' ∧ P d' := ⟨y, at1, h⟩
theorem ix2T {x y z : PyData} {xs : List PyData} {P : PyData → Prop} (h : P z) : ∃ d', ixD (.tuple (x :: y :: z :: xs)) (.int 2) = some d' ∧ P d' := ⟨z, at2, h⟩
theorem ix0L {x : PyData} {xs : List PyData} {P : PyData → Prop} (h : P x) : ∃ d', ixD (.list (x :: xs)) (.int 0) = some d' ∧ P d' := ⟨x, at0, h⟩
theorem ix1L {x y : PyData} {xs : List PyData} {P : PyData → Prop} (h : P y) : ∃ d', ixD (.list (x :: y :: xs)) (.int 1) = some d' ∧ P d' := ⟨y, at1, h⟩
theorem ix2L {x y z : PyData} {xs : List PyData} {P : PyData → Prop} (h : P z) : ∃ d', ixD (.list (x :: y :: z :: xs)) (.int 2) = some d' ∧ P d' := ⟨z, at2, h⟩
theorem iteB {b : Bool} {p q : Prop} (h1 : b = true → p) (h2 : b = false → q) : if b = true then p else q := by
  cases b
  · exact h2 rfl
  · exact h1 rfl
theorem eqv_str (x y : Str) : PyData.eqv (.str x) (.str y) = decide (x = y) := by
  show (x == y) = _
  rw [Bool.eq_iff_iff, beq_iff_eq, decide_eq_true_eq]
theorem tab_mem {x : Str} {ys : List Str} : ∀ {ts : List (Str × List Str)}, tabGet ts x = some ys → (x, ys) ∈ ts
  | [], h => nomatch h
  | p :: r, h => by
    unfold tabGet at h
    by_cases e : p.1 = x
    · rw [if_pos e] at h
      cases h
      subst e
      exact List.mem_cons_self
    · rw [if_neg e] at h
      exact List.mem_cons_of_mem _ (tab_mem h)
theorem cut1 {x : PyData} {ds : List PyData} : cutD (x :: ds) (some 1) none = ds := by
  unfold cutD HT.sIx
  simp
theorem zip_str (ys : List Str) (ds : List PyData) : ((ys.map PyData.str).zip ds).map pairD = (ys.zip ds).map fun p => pairD (.str p.1, p.2) := by
  rw [List.zip_map_left, List.map_map]
  rfl
theorem units_of {k : Nat} {A : Around} (hr : Room k A) : A.units + 66 < cLine := by
  have := hr.un
  omega
theorem units_ofx {k : Nat} {A : Around} (hr : Room k A) : A.units + 64 < cLine := by
  have := hr.un
  omega
end DL
set_option Elab.async false
set_option linter.all false
set_option maxRecDepth 100000
set_option maxHeartbeats 1000000
/-! DL10: a written dict of ints by texts, looked up at once; lists of what is fine against [] -/
namespace DL
open PySem PySem.Spec PyProof.Rows L2 GL
def look : List (Str × Int) → Str → Option Int
  | [], _ => none
  | c :: r, x => if c.1 = x then some c.2 else look r x
theorem pairs_const {σ : L2.St} {H : Hp} {Q : List (V × V) → Hp → Prop} : ∀ {cs : List (Str × Int)}, Q (cs.map fun c => (V.str c.1, V.int c.2)) H → tPairs (cs.map fun c => (tC (.str c.1), tC (.int c.2))) σ H Q
  | [], h => h
  | c :: r, h => pairs_const (cs := r) (Q := fun ps H3 => Q ((V.str c.1, V.int c.2) :: ps) H3) h
theorem look_val {x : Str} {n : Int} : ∀ {cs : List (Str × Int)}, look cs x = some n → valV (cs.map fun c => ((Sum.inr c.1 : Key), V.int c.2)) (.inr x) = some (.int n)
  | [], h => nomatch h
  | c :: r, h => by
    unfold look at h
    by_cases e : c.1 = x
    · rw [if_pos e] at h
      cases h
      exact valV_pos (show (Sum.inr c.1 : Key) = Sum.inr x from by rw [e])
    · rw [if_neg e] at h
      rw [List.map_cons, valV_neg (p := ((Sum.inr c.1 : Key), V.int c.2)) (fun z : (Sum.inr c.1 : Key) = Sum.inr x => e (by injection z))]
      exact look_val h
section
variable {K : PySem.W.Frag} {X : Cx} {e : Expr} {Ta : DT} {pos p2 : Pos}
theorem de_dlit {cs : List (Str × Int)} {keys : List (Option Expr)} {values : List Expr} (hp : PPs X p2 keys values (cs.map fun c => (tC (.str c.1), tC (.int c.2))))
    (hm : mergeK [] (cs.map fun c => ((Sum.inr c.1 : Key), V.int c.2)) = cs.map fun c => ((Sum.inr c.1 : Key), V.int c.2)) (hn : cs.length ≤ 15) (hu : X.A.units + 64 < cLine) (he : DE K X e Ta)
    (hall : keys.all (·.isSome) = true := by rfl) (hl : keys.length = values.length := by rfl) (h0 : keys ≠ [] := by nofun) (h15 : keys.length ≤ 15 := by decide) (hs : NoSl e := by exact fun _ _ => rfl) :
    DE K X (.Subscript (.Dict keys values p2) e pos) (fun ρ P => Ta ρ fun d => ∃ z n, d = .str z ∧ look cs z = some n ∧ P (.int n)) := by
  refine ⟨PE.weak (pe_dget (by omega) (pe_disp hp hall hl h0 h15) he.pe hs) fun σ H Q h => ?_⟩
  obtain ⟨G0, H0, B, G, ρ, F, P, w, t, k⟩ := h
  intro p np
  refine pairs_const ⟨upd_same, cs.map fun c => ((Sum.inr c.1 : Key), V.int c.2), by rw [List.map_map]; rfl, by rw [List.length_map]; exact hn, ?_⟩
  rw [upd_upd, hm]
  have s := Stp.new (B := B) (o := .dK (cs.map fun c => ((Sum.inr c.1 : Key), V.int c.2))) w.sGH np
  refine ⟨G0, H0, B, G, ρ, F, _, w.step s, t, fun d G' H' v q s' r => ?_⟩
  obtain ⟨z, n, rfl, hz, q⟩ := q
  cases r
  have hH := s'.keep p _ upd_same (notB_new w.bags np)
  exact ⟨p, .int n, rfl, .inl ⟨_, .inr z, .inl hH, rfl, (look_val hz).symm⟩, k _ G' H' _ q (s.trans s' w.bags) (.int n)⟩
/-- repr of what is fine, or of {} -/
theorem cd_reprQ : CallData K (fun xs H Q => ∃ v d, xs = [v] ∧ Is K H v d ∧ Q (.str d.shown) H) (fun ds P => ∃ d, ds = [d] ∧ (DOk d ∨ d = .dict []) ∧ P (.str d.shown)) := flat_call fun G H ds vs P Q s dx p k => by
  obtain ⟨d, rfl, h, p⟩ := p
  obtain ⟨v, rfl, r⟩ := dx.one
  refine ⟨v, d, rfl, ?_, k _ _ p (.str _)⟩
  rcases h with h | h
  · exact .dp (Dp.same s (r.dp h.nodict)) h.nodict h.shows h.deep h.fits
  · generalize e : d = d' at r
    cases r with
    | @dct a kvs ds h1 h2 =>
      rw [h] at e
      have e2 : [] = (kvs.map fun p => kD p.1).zip ds := by injection e
      have e3 : kvs = [] := by
        cases kvs with
        | nil => rfl
        | cons q r =>
          cases h2 with
          | cons h3 h4 => cases e2
      subst e3
      exact .dct (s _ _ h1)
    | _ =>
      rw [h] at e
      cases e
theorem de_reprQ {p : Pos} (e1 : X.K = K) (hG : Gd X.A) (hu : X.A.units + 66 < cLine) (hm : X.mg "repr" = none) (h : DE K X e Ta) (hg : Gl X "repr" := by rfl) (hs : starEach [e] X.env = (false, eval e X.env) :: starEach [] X.env := by rfl) (hpl : (backTo pos (starEach [] X.env)).any (·.1) = false := by rfl) :
    DE K X (.Call (.Name "repr" p) [e] [] pos) (fun ρ P => Ta ρ fun d => ∃ d', [d] = [d'] ∧ (DOk d' ∨ d' = .dict []) ∧ P (.str d'.shown)) := by
  subst e1
  exact de_callB (call_reprQ hG hu) cd_reprQ hg hm (by decide +kernel) (da_cons h da_nil hs) (by decide) (by decide) hs hpl
end
theorem dok_hd {ds : List PyData} (h : ∀ d ∈ ds, DOk d) : PyData.hasDictAll ds = false ∧ PyData.canLayAll0 ds = true ∧ PyData.depthAll ds ≤ 60 := by
  induction ds with
  | nil => exact ⟨rfl, rfl, by simp [PyData.depthAll]⟩
  | cons d ds ih =>
    obtain ⟨h1, h2, h3⟩ := ih fun x m => h x (List.mem_cons_of_mem _ m)
    have g := h d List.mem_cons_self
    have := g.deep
    refine ⟨?_, ?_, ?_⟩
    · simp only [PyData.hasDictAll, g.nodict, h1, Bool.or_false]
    · simp only [PyData.canLayAll0, g.lay, h2, Bool.and_self]
    · simp only [PyData.depthAll]
      omega
theorem shaped_all {ds : List PyData} (h : ∀ d ∈ ds, DOk d) : (PyData.list ds).hasDict = false ∧ SeqAt.shaped (.list ds) = true := by
  obtain ⟨h1, h2, h3⟩ := dok_hd h
  refine ⟨by simp only [PyData.hasDict]; exact h1, ?_⟩
  unfold SeqAt.shaped
  simp only [PyData.canLay0, h2, Bool.true_and, PyData.depth]
  exact decide_eq_true (Nat.le_trans (Nat.succ_le_succ h3) (by decide))
theorem eqR_nilA {ds : List PyData} {P : PyData → Prop} (h : ∀ d ∈ ds, DOk d) (p : P (.bool (decide (ds = [])))) : eqR false (.list ds) (.list []) P := by
  obtain ⟨h1, h2⟩ := shaped_all h
  refine eqR_dat h1 rfl h2 (by decide +kernel) ?_
  cases ds <;> exact p
theorem neR_nilA {ds : List PyData} {P : PyData → Prop} (h : ∀ d ∈ ds, DOk d) (p : P (.bool (!decide (ds = [])))) : eqR true (.list ds) (.list []) P := by
  obtain ⟨h1, h2⟩ := shaped_all h
  refine neR_dat h1 rfl h2 (by decide +kernel) ?_
  cases ds <;> exact p
/-- small parts -/
structure Pt (d : PyData) : Prop where
  ok : DOk d
  wt : d.weight ≤ 16
  dp : d.depth ≤ 2
theorem pt_list {ds : List PyData} (h : ∀ d ∈ ds, Pt d) (hn : ds.length ≤ 1000) : DOk (.list ds) ∧ DOk (.tuple ds) ∧ PyData.weightAll ds ≤ ds.length * 17 ∧ PyData.depthAll ds ≤ 2 :=
  dok_all (fun d m => ⟨(h d m).ok, (h d m).wt, (h d m).dp⟩) (by decide) (by omega)
theorem dok_low {z : Str} (h1 : z.length ≤ 8) (h : ∀ c ∈ z.cps.toList, 97 ≤ c ∧ c ≤ 122) : DOk (.str z) ∧ (PyData.str z).weight ≤ 8 := by
  have e : z.cps.size ≤ 8 := h1
  refine ⟨⟨?_, ?_, ?_, ?_, rfl⟩, ?_⟩
  · show z.cps.all (· < 0x110000) = true
    rw [← Array.all_toList, List.all_eq_true]
    intro c m
    have := h c m
    exact decide_eq_true (by omega)
  · simp only [PyData.leavesShort, List.all_eq_true, decide_eq_true_eq]
    intro c m
    have := h c m
    have e : (16 : Nat) ^ 8 = 4294967296 := by decide
    omega
  · simp only [PyData.weight]
    omega
  · simp only [PyData.depth]
    omega
  · simp only [PyData.weight]
    exact e
theorem pt_low {z : Str} (h1 : z.length ≤ 8) (h : ∀ c ∈ z.cps.toList, 97 ≤ c ∧ c ≤ 122) : Pt (.str z) := by
  obtain ⟨a, b⟩ := dok_low h1 h
  exact ⟨a, by omega, by simp only [PyData.depth]; omega⟩
theorem dok_sign {z : Str} {c : Nat} (h : DOk (.str z)) (m : c ∈ z.cps.toList) : DOk (.str (signS c)) := by
  obtain ⟨h1, h2, _, _, _⟩ := h
  refine ⟨?_, ?_, ?_, ?_, rfl⟩
  · have h1 : z.cps.all (· < 0x110000) = true := h1
    rw [← Array.all_toList, List.all_eq_true] at h1
    show #[c].all (· < 0x110000) = true
    rw [← Array.all_toList, List.all_eq_true]
    intro d md
    rw [List.mem_singleton.mp md]
    exact h1 c m
  · simp only [PyData.leavesShort, List.all_eq_true] at h2 ⊢
    intro d md
    rw [List.mem_singleton.mp md]
    exact h2 c m
  · show 1 ≤ 100000
    decide
  · simp only [PyData.depth]
    omega
end DL
set_option Elab.async false
set_option linter.all false
set_option maxRecDepth 100000
set_option maxHeartbeats 1000000
/-! DL11: which values are written 0, 1, 2, 3 -/
namespace DL
open PySem PySem.Spec PyProof.Rows L2 GL
/-- a, b, .. = a list -/
theorem dg_lst {K : PySem.W.Frag} {X : Cx} {pos : Pos} {ts : List Expr} {k : Nat} {ws : List Nat} {gs : List PyData → Env' → (Env' → Prop) → Prop} {n : Nat} (e1 : X.K = K) (hc : X.calm = true) (h : DGs K X ts ws gs)
    (hn : (assignEach ts X.env).length = n := by rfl) (hst : (assignEach ts X.env).findIdx? (·.1) = none := by rfl) : DG K X (.Tuple ts k pos) ws (fun d ρ P => ∃ ds, d = .list ds ∧ ds.length = n ∧ gs ds ρ P) := by
  subst e1
  refine ⟨PG.weak (pg_lst hc h.pg hn hst) fun v σ H Q h => ?_⟩
  obtain ⟨G0, H0, B, G, ρ, F, P, d, w, r, ⟨ds, rfl, hl, p⟩, k⟩ := h
  cases r with
  | lst h2 h3 => exact ⟨_, _, rfl, .inl (.inl (w.sGH _ _ h2)), by rw [h3.length]; exact hl, G0, H0, B, G, ρ, F, P, ds, w, h3, p, k⟩
section
variable {g : GT} {Tt : BT} {To : OT} {ρ : Env'} {ds : List PyData} {P : List O → Prop}
theorem lc_flt (p : PyData → Bool) (f : PyData → O) (hl : ds.length < sizeLine)
    (h : ∀ d ∈ ds, ∀ (yes : O → Prop) (no : Prop), (p d = true → yes (f d)) → (p d = false → no) → lcTurn g Tt To ρ d yes no) (hp : P ((ds.filter p).map f)) :
    ds.length < sizeLine ∧ ∃ I : Nat → List O → Prop, I 0 [] ∧ (∀ i d acc, ds[i]? = some d → I i acc → lcTurn g Tt To ρ d (fun o => I (i + 1) (acc ++ [o])) (I (i + 1) acc)) ∧ ∀ acc, I ds.length acc → P acc :=
  lc_fun (P := fun o => match o with | .lst acc => P acc | _ => False) p f hl h hp
/-- no test: each item is of a kind -/
theorem lc_each (R : O → Prop) (hl : ds.length < sizeLine) (h : ∀ d ∈ ds, ∀ (yes : O → Prop) (no : Prop), (∀ o, R o → yes o) → lcTurn g (fun _ P => P true) To ρ d yes no)
    (hp : ∀ acc, acc.length = ds.length → (∀ o ∈ acc, R o) → P acc) :
    ds.length < sizeLine ∧ ∃ I : Nat → List O → Prop, I 0 [] ∧ (∀ i d acc, ds[i]? = some d → I i acc → lcTurn g (fun _ P => P true) To ρ d (fun o => I (i + 1) (acc ++ [o])) (I (i + 1) acc)) ∧ ∀ acc, I ds.length acc → P acc := by
  refine ⟨hl, fun i acc => acc.length = i ∧ ∀ o ∈ acc, R o, ⟨rfl, fun _ m => nomatch m⟩, fun i d acc hd hI => ?_, fun acc hI => hp acc hI.1 hI.2⟩
  refine h d (List.mem_of_getElem? hd) _ _ fun o ho => ⟨?_, fun u m => ?_⟩
  · show (acc ++ [o]).length = i + 1
    rw [List.length_append, hI.1]
    rfl
  · rcases List.mem_append.mp m with m | m
    · exact hI.2 u m
    · rw [List.mem_singleton.mp m]
      exact ho
end
theorem len_range (lo : Int) (n : Nat) : (rangeD lo n).length = n := by simp [rangeD]
theorem addL {ds es : List PyData} {P : O → Prop} (h : ds.length + es.length ≤ sizeLine) (p : P (.lst ((ds ++ es).map .dat))) : ∃ o, addD (.list ds) (.list es) = some o ∧ P o := ⟨_, if_pos h, p⟩
theorem addT {ds es : List PyData} {P : O → Prop} (h : ds.length + es.length ≤ sizeLine) (p : P (.dat (.tuple (ds ++ es)))) : ∃ o, addD (.tuple ds) (.tuple es) = some o ∧ P o := ⟨_, if_pos h, p⟩
theorem ixMem {ds : List PyData} {i : Int} {P : PyData → Prop} (h0 : 0 ≤ i) (h1 : i < ds.length) (h : ∀ d ∈ ds, P d) : ∃ d', ixD (.list ds) (.int i) = some d' ∧ P d' := by
  obtain ⟨v, hv, hm⟩ := at_mem h0 h1
  exact ⟨v, hv, h v hm⟩
theorem cut_few (ds : List PyData) (i j : Option Int) : (cutD ds i j).length ≤ ds.length ∧ ∀ x ∈ cutD ds i j, x ∈ ds := by
  unfold cutD
  constructor
  · rw [List.length_take, List.length_drop]
    omega
  · intro x m
    exact List.mem_of_mem_drop (List.mem_of_mem_take m)
def ptB (d : PyData) : Bool := d.canLay0 && (d.leavesShort 8 && (decide (d.weight ≤ 100000) && (decide (d.depth ≤ 60) && (d.showable && (decide (d.weight ≤ 16) && decide (d.depth ≤ 2))))))
theorem pt_of {d : PyData} (h : ptB d = true) : Pt d := by
  unfold ptB at h
  simp only [Bool.and_eq_true, decide_eq_true_eq] at h
  obtain ⟨h1, h2, h3, h4, h5, h6, h7⟩ := h
  exact ⟨⟨h1, h2, h3, h4, h5⟩, h6, h7⟩
theorem pts_of {ds : List PyData} (h : ds.all ptB = true) : ∀ d ∈ ds, Pt d := fun d m => pt_of (List.all_eq_true.mp h d m)
theorem len_of_eq {x y : Str} (h : x = y) : x.length = y.length := by rw [h]
theorem cps_of {x y : String} (h : Str.ofString x = Str.ofString y) : x = y := by
  have e : x.toList.map Char.toNat = y.toList.map Char.toNat := by
    rw [Str.ofString_eq_toList, Str.ofString_eq_toList] at h
    simpa using h
  exact String.toList_inj.mp ((List.map_inj_right (fun a b hab => Char.toNat_inj.mp hab)).mp e)
theorem shown_int {i j : Int} (h : (PyData.int i).shown = (PyData.int j).shown) : i = j := Int.repr_injective (cps_of h)
theorem long_str (z : Str) : 2 ≤ (PyData.str z).shown.length := by
  show 2 ≤ (reprText z).cps.size
  unfold reprText
  rw [Array.size_push, ← Array.foldl_toList]
  have := foldl_repr_eq (reprQuote z) z.cps.toList #[reprQuote z] 0
  have e : (#[reprQuote z] : Array Nat).size = 1 := rfl
  omega
theorem long_list (ds : List PyData) : 2 ≤ (PyData.list ds).shown.length := by
  show 2 ≤ (textFrom 0 "[" (PyData.shownAll ds) ++ "]").length
  rw [Str.length_append]
  have h := (textFrom_len (PyData.shownAll ds) 0 "[").2.2
  have e : ("[" : Str).length = 1 := by decide +kernel
  have e2 : ("]" : Str).length = 1 := by decide +kernel
  omega
theorem long_tuple (ds : List PyData) : 2 ≤ (PyData.tuple ds).shown.length := by
  show 2 ≤ (("(" : Str) ++ Str.join ", " (PyData.shownAll ds) ++ ((if (PyData.shownAll ds).length == 1 then ",)" else ")" : String) : Str)).length
  rw [Str.length_append, Str.length_append]
  have e : ("(" : Str).length = 1 := by decide +kernel
  have e2 : 1 ≤ ((if (PyData.shownAll ds).length == 1 then ",)" else ")" : String) : Str).length := by
    split <;> decide +kernel
  omega
theorem shown_digit {d : PyData} {j : Int} (hd : d.hasDict = false) (h : d.shown = (PyData.int j).shown) (h1 : (PyData.int j).shown.length = 1) : d = .int j := by
  have hl := len_of_eq h
  rw [h1] at hl
  cases d with
  | none => exact absurd hl (by decide +kernel)
  | bool b => cases b <;> exact absurd hl (by decide +kernel)
  | int i => rw [shown_int h]
  | str z => have := long_str z; omega
  | list ds => have := long_list ds; omega
  | tuple ds => have := long_tuple ds; omega
  | dict kvs => simp [PyData.hasDict] at hd
def isI (j : Int) : PyData → Bool
  | .int i => decide (i = j)
  | _ => false
theorem isI_iff {j : Int} {d : PyData} : isI j d = true ↔ d = .int j := by
  cases d with
  | int i => exact ⟨fun h => by rw [of_decide_eq_true h], fun h => by cases h; exact decide_eq_true rfl⟩
  | _ => exact Iff.intro (fun h => by cases h) (fun h => by cases h)
theorem shown_is {d : PyData} {j : Int} {x : Str} (hd : d.hasDict = false) (hx : x = (PyData.int j).shown) (h1 : (PyData.int j).shown.length = 1) : decide (x = d.shown) = isI j d := by
  rw [Bool.eq_iff_iff, decide_eq_true_eq, isI_iff]
  constructor
  · intro e
    exact shown_digit hd (by rw [← e, hx]) h1
  · rintro rfl
    exact hx
end DL
set_option Elab.async false
set_option linter.all false
set_option maxRecDepth 100000
set_option maxHeartbeats 1000000
/-! DL12: comprehensions of two walks -/
namespace DL
open PySem PySem.Spec PyProof.Rows L2 GL
/-- a walk with any body, from any heap -/
theorem loop_it {J : It} {n : Nat} {Gp : Hp → Prop} {Y : Nat → Hp → V → Hp → Prop} (wk : Walk J n Gp Y) {Body : V → Hp → (Hp → Prop) → Prop} {Start : Hp} {Fin : Hp → Prop} (Inva : Nat → Hp → Prop) (b0 : Inva 0 Start)
    (okG : ∀ j h, j ≤ n → Inva j h → Gp h) (turn : ∀ j v h h', j < n → Inva j h → Y j h v h' → Body v h' (Inva (j + 1))) (last : ∀ h, Inva n h → Fin h) :
    ∃ Q : Nat → Nat → Hp → Prop, (∃ m, Q 0 m Start) ∧ ∀ j m h, Q j m h → (J.stop j h ∧ Fin h) ∨ (J.go j h ∧ ∃ Nx : Hp → Prop, (∀ h', Nx h' → ∃ m', m' < m ∧ Q (j + 1) m' h') ∧ ∀ v h', J.yld j h v h' → Body v h' Nx) := by
  refine ⟨fun j m h => j + m = n ∧ Inva j h, ⟨n, Nat.zero_add n, b0⟩, fun j m h z => ?_⟩
  obtain ⟨e, i0⟩ := z
  have g := okG j h (by omega) i0
  cases m with
  | zero =>
    have e : j = n := e
    subst e
    exact .inl ⟨wk.stops h g, last h i0⟩
  | succ m => exact .inr ⟨wk.goes j h (by omega) g, Inva (j + 1), fun h' z => ⟨m, Nat.lt_succ_self m, by omega, z⟩, fun v h' y => turn j v h h' (by omega) i0 (wk.yields j h v h' (by omega) g y)⟩
section
variable {K : PySem.W.Frag} {B : Option (Addr × Addr)} {G1 H1 G H G' H' : Hp} {D : Addr} {acc : List O}
/-- the new list of a comprehension that began at (G1, H1) -/
structure LcS (K : PySem.W.Frag) (B : Option (Addr × Addr)) (G1 H1 : Hp) (D : Addr) (acc : List O) (us : List V) (Fa : List Addr) (G H : Hp) : Prop where
  hD : H D = some (.lst us)
  rep : RepOs K G H us acc Fa
  nD : D ∉ Fa
  new : ∀ a ∈ Fa, H1 a = none
  stp : Stp B G1 H1 G H
  gD : G D = none
theorem LcS.step {us : List V} {Fa : List Addr} (L : LcS K B G1 H1 D acc us Fa G H) (b1 : ∀ b, B = some b → BagAt G1 H1 b) (nD : H1 D = none) (s : Stp B G H G' H') : LcS K B G1 H1 D acc us Fa G' H' :=
  ⟨s.keep _ _ L.hD (notB_new b1 nD), L.rep.step s fun a m => notB_new b1 (L.new a m), L.nD, L.new, L.stp.trans s b1, s.g_none L.gD (by rw [L.hD]; exact nofun)⟩
theorem LcS.app {us : List V} {Fa Fv : List Addr} {v : V} {o : O} (L : LcS K B G1 H1 D acc us Fa G H) (b1 : ∀ b, B = some b → BagAt G1 H1 b) (nD : H1 D = none) (r : RepO K G H v o Fv) (nv : ∀ a ∈ Fv, H1 a = none ∧ a ∉ Fa ∧ a ≠ D) :
    LcS K B G1 H1 D (acc ++ [o]) (us ++ [v]) (Fa ++ Fv) G (upd H D (.lst (us ++ [v]))) where
  hD := upd_same
  rep := by
    have ra := RepOs.append (RepOs.cons (F1 := Fv) (F2 := []) r .nil fun _ _ m => nomatch m) L.rep (fun a m z => by
      rw [List.append_nil] at z
      exact (nv a z).2.1 m)
    rw [List.append_nil] at ra
    refine ra.mono (Same.refl _) (fun a m => (ra.dom a m).1) (fun a m u h => ?_)
    have : a ≠ D := fun z => by
      subst z
      rcases List.mem_append.mp m with m | m
      · exact L.nD m
      · exact (nv a m).2.2 rfl
    rw [upd_ne this]
    exact h
  nD m := by
    rcases List.mem_append.mp m with m | m
    · exact L.nD m
    · exact (nv D m).2.2 rfl
  new a m := by
    rcases List.mem_append.mp m with m | m
    · exact L.new a m
    · exact (nv a m).1
  stp := L.stp.updNew b1 nD L.gD
  gD := L.gD
/-- the environment does not see the new list grow -/
theorem Wd.growD {G0 H0 : Hp} {σ : L2.St} {ρ : Env'} {F : List Addr} {o : HO} (w : Wd K G0 H0 B G H σ ρ F) (h0 : H0 D = none) (gD : G D = none) (nF : D ∉ F) (nb : ∀ b, B = some b → b.1 ≠ D) : Wd K G0 H0 B G (upd H D o) σ ρ F where
  sGH a u h := by
    have : a ≠ D := fun z => by rw [z, gD] at h; cases h
    rw [upd_ne this]
    exact w.sGH a u h
  sG := w.sG
  fr := w.fr
  keep a u h n := by
    have : a ≠ D := fun z => by rw [z, h0] at h; cases h
    rw [upd_ne this]
    exact w.keep a u h n
  own := w.own
  bag b e := by
    obtain ⟨⟨g, s, i, ns, q1, q2, q3⟩, q4, q5⟩ := w.bag b e
    exact ⟨⟨g, s, i, ns, by rw [upd_ne (nb b e)]; exact q1, q2, q3⟩, q4, q5⟩
  env := w.env.mono (Same.refl _) (fun a m => (w.env.dom a m).1) fun a m u h => by
    have : a ≠ D := fun z => by subst z; exact nF m
    rw [upd_ne this]
    exact h
end
section
variable {K : PySem.W.Frag} {X : Cx} {tg iter elt tg1 iter1 : Expr} {ifs ifs1 : List Expr} {scope : Scope} {own : List (Str × Nat)} {ws ws1 : List Nat} {g g1 : GT} {Ti Ti1 : LT} {Tt Tt1 : BT} {To : OT} {pos : Pos}
/-- what a comprehension of two walks asks, over data -/
abbrev lcT2 (g : GT) (Tt : BT) (Ti1 : LT) (g1 : GT) (Tt1 : BT) (To : OT) (Ti : LT) (vs vs1 : List Nat) : OT := fun ρ P => Ti ρ fun ds => ∃ I : Nat → List O → Prop, I 0 [] ∧
  (∀ i d acc, ds[i]? = some d → I i acc → g d (wipeE ρ vs) fun ρ2 => Tt ρ2 fun b => if b = true then Ti1 ρ2 fun es => ∃ I1 : Nat → List O → Prop, I1 0 acc ∧
    (∀ j e acc1, es[j]? = some e → I1 j acc1 → lcTurn g1 Tt1 To (wipeE ρ2 vs1) e (fun o => acc1.length < sizeLine ∧ I1 (j + 1) (acc1 ++ [o])) (I1 (j + 1) acc1)) ∧ (∀ acc1, I1 es.length acc1 → I (i + 1) acc1) else I (i + 1) acc) ∧
  ∀ acc, I ds.length acc → P (.lst acc)
theorem lift_lc2 {vs vs1 : List Nat} (hw : ∀ i ∈ ws, i ∈ vs) (hw1 : ∀ i ∈ ws1, i ∈ vs1) (σ : L2.St) (H : Hp) (Q : VK) (h : liftO K (lcT2 g Tt Ti1 g1 Tt1 To Ti vs vs1) σ H Q) :
    tLc2 (liftI K Ti) (liftG K ws g) (liftB K Tt) (liftI K Ti1) (liftG K ws1 g1) (liftB K Tt1) (liftO K To) vs vs1 σ H Q := by
  obtain ⟨G0, H0, B, G, ρ, F, P, w, t, k⟩ := h
  refine ⟨G0, H0, B, G, ρ, F, _, w, t, fun ds G1 H1 J p1 s1 it D nD => ?_⟩
  obtain ⟨I, i0, step, fin⟩ := p1
  obtain ⟨Gp, Y, wk, hGp, hY⟩ := it
  have w1 := w.step s1
  have b1 := w1.bags
  have n0 : H0 D = none := by
    cases e : H0 D with
    | none => rfl
    | some u =>
      exfalso
      by_cases n : NotB B D
      · have := w1.keep D u e n
        rw [nD] at this
        cases this
      · obtain ⟨c, n⟩ := isB n
        exact (b1 _ n).some nD
  have nbD : ∀ b, B = some b → b.1 ≠ D := fun b e z => (b1 b e).some (by rw [z]; exact nD)
  refine loop_it wk (fun i H' => ∃ G' us acc Fa, I i acc ∧ LcS K B G1 H1 D acc us Fa G' H') ?h0 ?hG ?hs ?hd
  case h0 => exact ⟨G1, [], [], [], i0, upd_same, .nil, (fun m => nomatch m), (fun _ m => nomatch m), Stp.new s1.sGH nD, s1.gnone nD⟩
  case hG =>
    rintro i H' _ ⟨G', us, acc, Fa, _, L⟩
    exact hGp H' (L.stp.sG.trans L.stp.sGH)
  case hd =>
    rintro H' ⟨G', us, acc, Fa, hI, L⟩
    refine k (.lst acc) G' H' (.ref D) (D :: Fa) (fin acc hI) (s1.trans L.stp w.bags) (.lst L.gD L.hD L.rep L.nD) fun a m => s1.none_back w.bags ?_
    rcases List.mem_cons.mp m with rfl | m
    · exact nD
    · exact L.new a m
  case hs =>
    rintro i x H' H'' hi ⟨G', us, acc, Fa, hI, L⟩ y
    obtain ⟨G2, d, s2, rd, hd⟩ := hY i H' x H'' hi y B G' L.stp.sG L.stp.sGH
    have L2 := L.step b1 nD s2
    obtain ⟨Fw, ww, cw⟩ := (w1.step L2.stp).wipe vs
    refine ⟨G0, H0, B, G2, _, Fw, _, d, ww, rd, step i d acc hd hI, fun ρ' σ' F' p w' c z => ⟨(z _ hw).trans (wipe_wipe _ fun _ m => m), ?_⟩⟩
    have nF' : D ∉ F' := fun m => (w1.env.dom D (cw D (c D m))).2 nD
    refine ⟨G0, H0, B, G2, ρ', F', _, w', p, fun b G3 H3 p3 s3 => ?_⟩
    have L3 := L2.step b1 nD s3
    cases b with
    | false => exact ⟨G3, us, acc, Fa, by simpa using p3, L3⟩
    | true =>
      refine ⟨G0, H0, B, G3, ρ', F', _, w'.step s3, (by simpa using p3), fun es G4 H4 J1 p4 s4 it1 => ?_⟩
      obtain ⟨I1, i1, step1, fin1⟩ := p4
      obtain ⟨Gp1, Y1, wk1, hGp1, hY1⟩ := it1
      have L4 := L3.step b1 nD s4
      have w4 := (w'.step s3).step s4
      refine loop_it wk1 (fun j h => ∃ G5 us5 acc5 Fa5, I1 j acc5 ∧ LcS K B G1 H1 D acc5 us5 Fa5 G5 h ∧ Wd K G0 H0 B G5 h σ' ρ' F' ∧ Same G4 G5) ?b0 ?bG ?bs ?bd
      case b0 => exact ⟨G4, us, acc, Fa, i1, L4, w4, .refl _⟩
      case bG =>
        rintro j h _ ⟨G5, us5, acc5, Fa5, _, L5, w5, s45⟩
        exact hGp1 h (s45.trans L5.stp.sGH)
      case bd =>
        rintro h ⟨G5, us5, acc5, Fa5, hI1, L5, _, _⟩
        exact ⟨G5, us5, acc5, Fa5, fin1 acc5 hI1, L5⟩
      case bs =>
        rintro j v h h' hj ⟨G5, us5, acc5, Fa5, hI1, L5, w5, s45⟩ y1
        obtain ⟨G6, e, s6, re, he⟩ := hY1 j h v h' hj y1 B G5 s45 L5.stp.sGH
        have L6 := L5.step b1 nD s6
        have w6 := w5.step s6
        obtain ⟨Fx, wx, cx⟩ := w6.wipe vs1
        refine ⟨G0, H0, B, G6, _, Fx, _, e, wx, re, step1 j e acc5 he hI1, fun ρ3 σ3 F3 p5 w7 c3 z3 => ⟨(z3 _ hw1).trans (wipe_wipe _ fun _ m => m), ?_⟩⟩
        refine ⟨G0, H0, B, G6, ρ3, F3, _, w7, p5, fun b G7 H7 p7 s7 => ?_⟩
        have L7 := L6.step b1 nD s7
        have w8 := w6.step s7
        have s47 := s45.trans (s6.sG.trans s7.sG)
        cases b with
        | false => exact ⟨G7, us5, acc5, Fa5, by simpa using p7, L7, w8, s47⟩
        | true =>
          refine ⟨G0, H0, B, G7, ρ3, F3, _, w7.step s7, (by simpa using p7), fun o G8 H8 u Fv p8 s8 r8 n8 => ?_⟩
          have L8 := L7.step b1 nD s8
          have w9 := w8.step s8
          have nv : ∀ a ∈ Fv, H1 a = none ∧ a ∉ Fa5 ∧ a ≠ D := fun a m => by
            have nn := n8 a m
            refine ⟨L7.stp.none_back b1 nn, fun z => (L7.rep.dom a z).2 nn, fun z => ?_⟩
            subst z
            rw [L7.hD] at nn
            cases nn
          refine ⟨us5, L8.hD, ?_, G8, us5 ++ [u], acc5 ++ [o], Fa5 ++ Fv, p8.2, L8.app b1 nD r8 nv, w9.growD n0 L8.gD nF' nbD, s47.trans s8.sG⟩
          rw [L8.rep.length]
          exact p8.1
theorem do_lc2 {vs1 : List Nat} (hc : X.calm = true) (hN : X.N.Nodup) (hi : DI K X tg iter Ti) (ok : BlkOk X.N X.env.scope scope own) (hv : ∀ i ∈ vs1, i ∈ own.map (·.2))
    (hg : ∀ (s : Shared) (H : Hp) (C : Addr) (cl : List (Str × Addr)) (fp : List Addr), DG K (X.blk s H scope (compEnvC scope cl C X.env) fp) tg ws g)
    (ht : ∀ (s : Shared) (H : Hp) (C : Addr) (cl : List (Str × Addr)) (fp : List Addr), DTs K (X.blk s H scope (compEnvC scope cl C X.env) fp) ifs Tt)
    (hi1 : ∀ (s : Shared) (H : Hp) (C : Addr) (cl : List (Str × Addr)) (fp : List Addr), DI K (X.blk s H scope (compEnvC scope cl C X.env) fp) tg1 iter1 Ti1)
    (hg1 : ∀ (s : Shared) (H : Hp) (C : Addr) (cl : List (Str × Addr)) (fp : List Addr), DG K (X.blk s H scope (compEnvC scope cl C X.env) fp) tg1 ws1 g1)
    (ht1 : ∀ (s : Shared) (H : Hp) (C : Addr) (cl : List (Str × Addr)) (fp : List Addr), DTs K (X.blk s H scope (compEnvC scope cl C X.env) fp) ifs1 Tt1)
    (he : ∀ (s : Shared) (H : Hp) (C : Addr) (cl : List (Str × Addr)) (fp : List Addr), DO K (X.blk s H scope (compEnvC scope cl C X.env) fp) elt To) (hw : ∀ i ∈ ws, i ∈ own.map (·.2) := by decide) (hw1 : ∀ i ∈ ws1, i ∈ vs1 := by decide)
    (hs : ∀ x, foldedSetIterable iter X.env x = pure x := by intro _; rfl) (hs1 : ∀ env x, foldedSetIterable iter1 env x = pure x := by intro _ _; rfl) :
    DO K X (.ListComp elt [⟨tg, iter, ifs, 0⟩, ⟨tg1, iter1, ifs1, 0⟩] scope pos) (lcT2 g Tt Ti1 g1 Tt1 To Ti (own.map (·.2)) vs1) :=
  ⟨PE.weak (pe_lc2 hc hN hi.pi ok hv (fun s H C cl fp => (hg s H C cl fp).pg) (fun s H C cl fp => (ht s H C cl fp).pts) (fun s H C cl fp => (hi1 s H C cl fp).pi) (fun s H C cl fp => (hg1 s H C cl fp).pg) (fun s H C cl fp => (ht1 s H C cl fp).pts) (fun s H C cl fp => (he s H C cl fp).pe) hs hs1) (lift_lc2 hw hw1)⟩
end
end DL
set_option Elab.async false
set_option linter.all false
set_option maxRecDepth 100000
set_option maxHeartbeats 1000000
/-! DL13: written dicts of data, by texts; .get with a second argument -/
namespace DL
open PySem PySem.Spec PyProof.Rows L2 GL
def keyVs (ks : List Str) (vs : List V) : List (Key × V) := (ks.zip vs).map fun p => ((Sum.inr p.1 : Key), p.2)
def liftP (K : PySem.W.Frag) (ks : List Str) (T : LT) : L2.St → Hp → (List (V × V) → Hp → Prop) → Prop := fun σ H Q => ∃ G0 H0 B G ρ F P, Wd K G0 H0 B G H σ ρ F ∧ T ρ P ∧
  ∀ ds G' H' vs, P ds → ds.length = ks.length → Stp B G H G' H' → DrAll K G' vs ds → Q ((keyVs ks vs).map fun kv => (kV kv.1, kv.2)) H'
structure DPs (K : PySem.W.Frag) (X : Cx) (pos : Pos) (keys : List (Option Expr)) (values : List Expr) (ks : List Str) (T : LT) : Prop where
  ex : ∃ trs, PPs X pos keys values trs ∧ ∀ σ H Q, liftP K ks T σ H Q → tPairs trs σ H Q
section
variable {K : PySem.W.Frag} {X : Cx} {e v : Expr} {Ta Tb Tc : DT} {Tl : LT} {pos p2 : Pos} {keys : List (Option Expr)} {values : List Expr} {ks : List Str}
theorem dps_nil : DPs K X pos [] [] [] (fun _ P => P []) := by
  refine ⟨[], pps_nil, fun σ H Q h => ?_⟩
  obtain ⟨G0, H0, B, G, ρ, F, P, w, t, k⟩ := h
  exact k [] G H [] t rfl (.refl w.sGH) .nil
theorem dps_cons {x : Str} {j} {kp : Pos} (hv : DE K X v Ta) (hr : DPs K X pos keys values ks Tl) : DPs K X pos (some (.Constant (.str x) j kp) :: keys) (v :: values) (x :: ks) (fun ρ P => Ta ρ fun d => Tl ρ fun ds => P (d :: ds)) := by
  obtain ⟨trs, h1, h2⟩ := hr.ex
  refine ⟨(tC (.str x), liftE K Ta) :: trs, pps_cons pe_str hv.pe h1, fun σ H Q h => ?_⟩
  obtain ⟨G0, H0, B, G, ρ, F, P, w, t, k⟩ := h
  refine ⟨G0, H0, B, G, ρ, F, _, w, t, fun d G1 H1 u p1 s1 r1 => h2 _ _ _ ⟨G0, H0, B, G1, ρ, F, _, w.step s1, p1, fun ds G2 H2 vs p2 l2 s2 r2 => ?_⟩⟩
  exact k (d :: ds) G2 H2 (u :: vs) p2 (by rw [List.length_cons, List.length_cons, l2]) (s1.trans s2 w.bags) (.cons (r1.same s2.sG) r2)
theorem putK_new {kvs : List (Key × V)} {k : Key} {u : V} (h : k ∉ kvs.map (·.1)) : putK kvs k u = kvs ++ [(k, u)] := by
  unfold putK
  rw [if_neg]
  intro z
  obtain ⟨q, m, e⟩ := List.any_eq_true.mp z
  exact h (List.mem_map.mpr ⟨q, m, of_decide_eq_true e⟩)
theorem merge_new : ∀ {more kvs : List (Key × V)}, ((kvs ++ more).map (·.1)).Nodup → mergeK kvs more = kvs ++ more
  | [], kvs, _ => (List.append_nil kvs).symm
  | q :: more, kvs, h => by
    show mergeK (putK kvs q.1 q.2) more = _
    have hk : q.1 ∉ kvs.map (·.1) := by
      rw [List.map_append, List.map_cons] at h
      intro m
      exact (List.nodup_append.mp h).2.2 _ m _ List.mem_cons_self rfl
    rw [putK_new hk, merge_new (by rw [List.append_assoc]; exact h), List.append_assoc]
    rfl
theorem keys_of : ∀ {ks : List Str} {vs : List V}, vs.length = ks.length → (keyVs ks vs).map (·.1) = ks.map Sum.inr ∧ (keyVs ks vs).map (·.2) = vs
  | [], [], _ => ⟨rfl, rfl⟩
  | [], _ :: _, h => nomatch h
  | _ :: _, [], h => nomatch h
  | k :: ks, u :: vs, h => by
    obtain ⟨a, b⟩ := keys_of (ks := ks) (vs := vs) (by simpa using h)
    exact ⟨congrArg ((Sum.inr k : Key) :: ·) a, congrArg (u :: ·) b⟩
theorem Stp.layAt {B : Option (Addr × Addr)} {G H G' H' : Hp} {p : Addr} {o : HO} (s : Stp B G H G' H') (b1 : ∀ b, B = some b → BagAt G H b) (e : Same G H) (np : H p = none) (gp : G' p = none) : Stp B G H (upd G' p o) (upd H' p o) where
  keep a u h n := by
    rw [upd_ne (ne_of_none h np)]
    exact s.keep a u h n
  sG a u h := by
    rw [upd_ne (ne_of_none (e _ _ h) np)]
    exact s.sG a u h
  sGH a u h := by
    by_cases z : a = p
    · subst z
      rw [upd_same] at h ⊢
      exact h
    · rw [upd_ne z] at h ⊢
      exact s.sGH a u h
  fr a h := by
    by_cases z : a = p
    · subst z
      exact .inr np
    · rw [upd_ne z] at h
      exact s.fr a h
  bag b eb h := by
    obtain ⟨g, s0, i, ns, q1, q2, q3⟩ := s.bag b eb h
    obtain ⟨_, _, _, _, h1, h2, _⟩ := h
    have n1 : b.1 ≠ p := ne_of_none h1 np
    have n2 : b.2 ≠ p := ne_of_none (e _ _ h2) np
    exact ⟨g, s0, i, ns, by rw [upd_ne n1]; exact q1, by rw [upd_ne n2]; exact q2, q3⟩
/-- {"k": v, ..} as data -/
theorem de_dict (hp : DPs K X pos keys values ks Tl) (hd : (ks.map (Sum.inr : Str → Key)).Nodup) (hn : ks.length ≤ 15) (hall : keys.all (·.isSome) = true := by rfl) (hl : keys.length = values.length := by rfl) (h0 : keys ≠ [] := by nofun) (h15 : keys.length ≤ 15 := by decide) :
    DE K X (.Dict keys values pos) (fun ρ P => Tl ρ fun ds => P (.dict ((ks.map .str).zip ds))) := by
  obtain ⟨trs, h1, h2⟩ := hp.ex
  refine ⟨PE.weak (pe_disp h1 hall hl h0 h15) fun σ H Q h => ?_⟩
  obtain ⟨G0, H0, B, G, ρ, F, P, w, t, k⟩ := h
  intro p np
  have s0 := Stp.new (B := B) (o := .dK []) w.sGH np
  refine h2 _ _ _ ⟨G0, H0, B, G, ρ, F, _, w.step s0, t, fun ds G2 H2 vs q l s r => ?_⟩
  have s2 := s0.trans s w.bags
  have lv : vs.length = ks.length := by rw [r.length, l]
  obtain ⟨e1, e2⟩ := keys_of lv
  refine ⟨s.keep _ _ upd_same (notB_new w.bags np), keyVs ks vs, rfl, ?_, ?_⟩
  · unfold keyVs
    rw [List.length_map, List.length_zip]
    omega
  · rw [merge_new (by rw [List.nil_append, e1]; exact hd), List.nil_append]
    have gp : G2 p = none := s.g_none ((Stp.refl (B := B) w.sGH).gnone np) (by rw [upd_same]; exact nofun)
    refine k _ (upd G2 p (.dK (keyVs ks vs))) _ _ q (s2.layAt w.bags w.sGH np gp) ?_
    have hk : (keyVs ks vs).map (fun p => kD p.1) = ks.map .str := by
      have e3 : (keyVs ks vs).map (fun p => kD p.1) = ((keyVs ks vs).map (·.1)).map kD := by rw [List.map_map]; rfl
      rw [e3, e1, List.map_map]
      rfl
    rw [← hk]
    refine .dct upd_same ?_
    rw [e2]
    exact r.same fun a u h => by
      have : a ≠ p := fun z => by rw [z, gp] at h; cases h
      rw [upd_ne this]
      exact h
theorem valV_n {G : Hp} {x : Str} : ∀ {kvs : List (Key × V)} {ds : List PyData}, DrAll K G (kvs.map (·.2)) ds → dictD ((kvs.map fun p => kD p.1).zip ds) x = none → valV kvs (.inr x) = none
  | [], _, _, _ => rfl
  | (.inl i, u) :: kvs, _, h, e => by
    cases h with
    | @cons _ _ d1 ds h1 h2 =>
      rw [valV_neg (k := (.inr x : Key)) (p := (.inl i, u)) (fun z : (Sum.inl i : Key) = Sum.inr x => nomatch z)]
      exact valV_n h2 (show dictD ((kvs.map fun p => kD p.1).zip ds) x = none from e)
  | (.inr y, u) :: kvs, _, h, e => by
    cases h with
    | @cons _ _ d1 ds h1 h2 =>
      have e' : (if y = x then some d1 else dictD ((kvs.map fun p => kD p.1).zip ds) x) = none := e
      by_cases q : y = x
      · rw [if_pos q] at e'
        cases e'
      · rw [if_neg q] at e'
        rw [valV_neg (k := (.inr x : Key)) (p := (.inr y, u)) (fun z : (Sum.inr y : Key) = Sum.inr x => q (by injection z))]
        exact valV_n h2 e'
/-- d.get(k, e) of a dict that is data, k a text -/
theorem de_get2 {o i f : Expr} {apos cpos : Pos} (hu : X.A.units + 64 < cLine) (ho : DE K X o Ta) (hi : DE K X i Tb) (hf : DE K X f Tc) (m : M2 X o "get" apos i f cpos := by exact ⟨rfl, rfl, rfl, rfl⟩) :
    DE K X (.Call (.Attribute o "get" apos) [i, f] [] cpos) (fun ρ P => Ta ρ fun d => ∃ kvs, d = .dict kvs ∧ tyOf (.dict kvs) = "dict" ∧ Tb ρ fun z => ∃ x, z = .str x ∧ Tc ρ fun e => P ((dictD kvs x).getD e)) := by
  refine ⟨PE.weak (pe_dget2 (by omega) ho.pe hi.pe hf.pe m) fun σ H Q h => ?_⟩
  obtain ⟨G0, H0, B, G, ρ, F, P, w, t, k⟩ := h
  refine ⟨G0, H0, B, G, ρ, F, _, w, t, fun d G1 H1 v p1 s1 r1 => ?_⟩
  obtain ⟨kvs, rfl, ty, p1⟩ := p1
  cases r1 with
  | ins _ _ _ _ => simp [tyOf] at ty
  | @dct a kv ds h1 h2 =>
    refine ⟨a, rfl, .inl ⟨kv, .inl (s1.sGH _ _ h1)⟩, G0, H0, B, G1, ρ, F, _, w.step s1, p1, fun z G2 H2 u p2 s2 r2 => ?_⟩
    obtain ⟨x, rfl, p2⟩ := p2
    cases r2
    have s12 := s1.trans s2 w.bags
    refine ⟨G0, H0, B, G2, ρ, F, _, w.step s12, p2, fun e G3 H3 y p3 s3 r3 => ?_⟩
    have s13 := s12.trans s3 w.bags
    have hH : H3 a = some (.dK kv) := s3.sGH _ _ (s3.sG _ _ (s2.sG _ _ h1))
    have h23 : DrAll K G3 (kv.map (·.2)) ds := (h2.same s2.sG).same s3.sG
    cases q : dictD ((kv.map fun p => kD p.1).zip ds) x with
    | none =>
      rw [q] at p3
      exact ⟨none, .inl ⟨kv, .inr x, .inl hH, rfl, (valV_n h23 q).symm⟩, k _ G3 H3 _ p3 s13 r3⟩
    | some d' =>
      rw [q] at p3
      obtain ⟨v', h4, h5⟩ := valV_d h23 q
      exact ⟨some v', .inl ⟨kv, .inr x, .inl hH, rfl, h4.symm⟩, k _ G3 H3 _ p3 s13 h5⟩
end
end DL
set_option Elab.async false
set_option linter.all false
set_option maxRecDepth 100000
set_option maxHeartbeats 1000000
/-! DW: data with ints of up to 48 signs -/
namespace DL
open PySem PySem.Spec PyProof.Rows L2 GL
structure DOw (d : PyData) : Prop where
  lay : d.canLay0 = true
  short : d.leavesShort 48 = true
  weighs : d.weight ≤ 100000
  deep : d.depth ≤ 60
  shows : d.showable = true
theorem DOw.fits {d : PyData} (h : DOw d) : d.shown.length ≤ sizeLine := by
  have k := PyData.shown_le 48 (by decide) d h.short
  have k2 := h.weighs
  rw [sizeLine_eq]
  omega
theorem DOw.nodict {d : PyData} (h : DOw d) : d.hasDict = false := PyData.hasDict_of_canLay d h.lay
theorem DOw.shaped {d : PyData} (h : DOw d) : SeqAt.shaped d = true := by
  unfold SeqAt.shaped
  rw [h.lay, Bool.true_and]
  exact decide_eq_true (Nat.le_trans h.deep (by decide))
theorem short_allW : ∀ {ds : List PyData}, PyData.leavesShortAll 48 ds = true → ∀ x ∈ ds, x.leavesShort 48 = true
  | [], _, _, m => nomatch m
  | d :: ds, h, x, m => by
    simp only [PyData.leavesShortAll, Bool.and_eq_true] at h
    rcases List.mem_cons.mp m with rfl | m
    · exact h.1
    · exact short_allW h.2 x m
theorem dow_parts {ds : List PyData} (h1 : PyData.canLayAll0 ds = true) (h2 : PyData.leavesShortAll 48 ds = true) (h3 : PyData.weightAll ds ≤ 100000) (h4 : PyData.depthAll ds + 1 ≤ 60) (h5 : PyData.showableAll ds = true) : ∀ x ∈ ds, DOw x := fun x m =>
  ⟨lay_all h1 x m, short_allW h2 x m, by have := wt_all.2 x m; omega, by have := dp_all x m; omega, show_all h5 x m⟩
theorem DOw.tup {ds : List PyData} (h : DOw (.tuple ds)) : ∀ x ∈ ds, DOw x := by
  obtain ⟨h1, h2, h3, h4, h5⟩ := h
  simp only [PyData.canLay0, PyData.leavesShort, PyData.weight, PyData.depth, PyData.showable] at h1 h2 h3 h4 h5
  exact dow_parts h1 h2 h3 h4 h5
theorem DOw.lst {ds : List PyData} (h : DOw (.list ds)) : ∀ x ∈ ds, DOw x := by
  obtain ⟨h1, h2, h3, h4, h5⟩ := h
  simp only [PyData.canLay0, PyData.leavesShort, PyData.weight, PyData.depth, PyData.showable] at h1 h2 h3 h4 h5
  exact dow_parts h1 h2 h3 h4 h5
theorem DOw.tupLen {ds : List PyData} (h : DOw (.tuple ds)) : ds.length ≤ 100000 := by
  have h3 := h.weighs
  simp only [PyData.weight] at h3
  have := (wt_all (ds := ds)).1
  omega
theorem DOw.lstLen {ds : List PyData} (h : DOw (.list ds)) : ds.length ≤ 100000 := by
  have h3 := h.weighs
  simp only [PyData.weight] at h3
  have := (wt_all (ds := ds)).1
  omega
theorem DOw.strLen {z : Str} (h : DOw (.str z)) : z.length ≤ 100000 := by
  have h3 := h.weighs
  simp only [PyData.weight] at h3
  exact h3
theorem DOw.toShort {z : Str} (h : DOw (.str z)) : DOk (.str z) := ⟨h.lay, by have := h.short; simpa only [PyData.leavesShort] using this, h.weighs, h.deep, h.shows⟩
theorem dow_bool (b : Bool) : DOw (.bool b) := ⟨rfl, by cases b <;> decide +kernel, by cases b <;> decide +kernel, by cases b <;> decide +kernel, rfl⟩
theorem dow_all {ds : List PyData} {n m : Nat} (h : ∀ x ∈ ds, DOw x ∧ x.weight ≤ n ∧ x.depth ≤ m) (hm : m < 60) (hn : ds.length * (n + 1) ≤ 100000) : DOw (.list ds) ∧ DOw (.tuple ds) ∧ PyData.weightAll ds ≤ ds.length * (n + 1) ∧ PyData.depthAll ds ≤ m := by
  have e : PyData.canLayAll0 ds = true ∧ PyData.leavesShortAll 48 ds = true ∧ PyData.showableAll ds = true ∧ PyData.weightAll ds ≤ ds.length * (n + 1) ∧ PyData.depthAll ds ≤ m := by
    clear hn
    induction ds with
    | nil => exact ⟨rfl, rfl, rfl, by simp [PyData.weightAll], by simp [PyData.depthAll]⟩
    | cons d ds ih =>
      obtain ⟨h1, h2, h3, h4, h5⟩ := ih fun x m => h x (List.mem_cons_of_mem _ m)
      obtain ⟨g1, g2, g3⟩ := h d List.mem_cons_self
      simp only [PyData.canLayAll0, PyData.leavesShortAll, PyData.showableAll, PyData.weightAll, PyData.depthAll, List.length_cons, Nat.succ_mul, g1.lay, g1.short, g1.shows, h1, h2, h3, Bool.and_self, true_and]
      omega
  obtain ⟨h1, h2, h3, h4, h5⟩ := e
  refine ⟨⟨by simp only [PyData.canLay0]; exact h1, by simp only [PyData.leavesShort]; exact h2, by simp only [PyData.weight]; omega, by simp only [PyData.depth]; omega, by simp only [PyData.showable]; exact h3⟩,
    ⟨by simp only [PyData.canLay0]; exact h1, by simp only [PyData.leavesShort]; exact h2, by simp only [PyData.weight]; omega, by simp only [PyData.depth]; omega, by simp only [PyData.showable]; exact h3⟩, h4, h5⟩
theorem dow_hd {ds : List PyData} (h : ∀ d ∈ ds, DOw d) : PyData.hasDictAll ds = false ∧ PyData.canLayAll0 ds = true ∧ PyData.depthAll ds ≤ 60 := by
  induction ds with
  | nil => exact ⟨rfl, rfl, by simp [PyData.depthAll]⟩
  | cons d ds ih =>
    obtain ⟨h1, h2, h3⟩ := ih fun x m => h x (List.mem_cons_of_mem _ m)
    have g := h d List.mem_cons_self
    have := g.deep
    refine ⟨?_, ?_, ?_⟩
    · simp only [PyData.hasDictAll, g.nodict, h1, Bool.or_false]
    · simp only [PyData.canLayAll0, g.lay, h2, Bool.and_self]
    · simp only [PyData.depthAll]
      omega
theorem eqR_nilW {ds : List PyData} {P : PyData → Prop} (h : ∀ d ∈ ds, DOw d) (p : P (.bool (decide (ds = [])))) : eqR false (.list ds) (.list []) P := by
  obtain ⟨h1, h2, h3⟩ := dow_hd h
  refine eqR_dat (by simp only [PyData.hasDict]; exact h1) rfl ?_ (by decide +kernel) ?_
  · unfold SeqAt.shaped
    simp only [PyData.canLay0, h2, Bool.true_and, PyData.depth]
    exact decide_eq_true (Nat.le_trans (Nat.succ_le_succ h3) (by decide))
  · cases ds <;> exact p
end DL
set_option Elab.async false
set_option linter.all false
set_option maxRecDepth 100000
set_option maxHeartbeats 1000000
/-! OB: objects of own classes as data: their fields, their methods, how they are made -/
namespace GL
open PySem PySem.Spec PyProof.Rows L2
theorem Gd.made {A : Around} (g : Gd A) (C : Addr) (us : List Value) : Gd (A.under (.builtin "type.__call__" ⟨.ref C :: us, []⟩)) := by
  unfold Gd at *
  have e : (Code.builtin "type.__call__" ⟨.ref C :: us, []⟩).isGuard = false := by
    first | rfl | decide | simp [Code.isGuard, guardIds]
  simp [Around.under, g, Code.guards, e, pushGuards]
section
variable {X : Cx} {k : Nat} {f C : Addr} {fd : FuncData} {ps : List Str} {sp : Sp} {x m : Str} {p pos apos : Pos} {e o : Expr} {es : List Expr} {ta : TE} {t : TA}
/-- the callee runs where nothing is being shown around -/
theorem run_fnG {pins : List (Addr × Obj)} {σ : L2.St} {H : Hp} {s : Shared} {Q : VK} {us : List Value} {vs : List V} (F : FnG X.prog X.w X.K X.mg X.base k f fd ps sp) (hG : Gd X.A) (hr : Room k X.A) (hb : Binds X.K fd ps [])
    (I : Inv X pins σ H s) (r : Vals vs us) (h : sp vs H Q E0) : wpAny (model X.prog X.w) X.A (call (.ref f) us) (EP X pins σ Q) X.xe s := by
  have hl : (us ++ []).length = ps.length := by
    rw [List.append_nil, ← r.length]
    exact F.many _ _ _ _ h
  have hbd := hb s us I.kIn hl
  rw [List.append_nil] at hbd
  apply wpAny_call
  apply codeAny_mono (F.does X.A X.stack s H ⟨us, []⟩ us vs Q E0 hG hr I.env0 hbd r h)
  intro res s' hq
  match res, hq with
  | .ok (.ret u), hq => exact I.after hq
/-- o.m(e, ..) -/
theorem pe_methG {pl : Sem Bool} (he : PE X o ta) (c : Cls X.K C) (hm : Meth X.K C m f) (F : FnG X.prog X.w X.K X.mg X.base k f fd ps sp) (hG : Gd X.A) (hr : Room k X.A) (hb : Binds X.K fd ps []) (ha : PA X (e :: es) t)
    (hst : starEach (e :: es) X.env = (false, eval e X.env) :: starEach es X.env := by rfl) (hpl : (backTo pos (starEach es X.env)).any (·.1) = false := by rfl)
    (ht : eval (.Call (.Attribute o m apos) (e :: es) [] pos) X.env = (do
      let ov ← eval o X.env
      standAt apos.atName
      let (f, first) ← holding [ov] (getMethod ov m pl)
      callWith pos f first (backTo pos (starEach (e :: es) X.env)) (backToKw pos (keywordEach [] X.env))) := by rfl) :
    PE X (.Call (.Attribute o m apos) (e :: es) [] pos) (fun σ H Q => ta σ H fun x H1 => ∃ a dx fs, x = .ref a ∧ H1 a = some (.ins C dx fs) ∧ fs.lookup m = none ∧ t σ H1 fun vs H2 => sp (x :: vs) H2 Q E0) := by
  refine ⟨fun pins s σ H Q I h => ?_⟩
  refine PySem.W.methodCall_KW (pl := pl) (thn (he.run pins s σ H _ I h) fun u s1 ⟨x, H1, I1, rx, a, dx, fs, ex, ea, l, q⟩ => ?_) ht
  subst ex
  obtain rfl : u = Value.ref a := rx
  refine getmeth_ok I1 ea c hm l ?_
  refine PySem.W.callWith_K (first := [.ref a]) (h₀ := X.base) I.ok.mod.kin hm.kp (thn (ha.run pos pins s1 σ H1 _ I1 q) fun us s2 ⟨vs, H2, I2, r, q2⟩ => ⟨I2.kIn, ?_⟩) hst hpl
  exact run_fnG (us := .ref a :: us) (vs := .ref a :: vs) F hG hr hb I2 (.cons rfl r) q2
/-- o.m() -/
theorem pe_methG0 {pl : Sem Bool} (he : PE X o ta) (c : Cls X.K C) (hm : Meth X.K C m f) (F : FnG X.prog X.w X.K X.mg X.base k f fd ps sp) (hG : Gd X.A) (hr : Room k X.A) (hb : Binds X.K fd ps [])
    (ht : eval (.Call (.Attribute o m apos) [] [] pos) X.env = (do
      let ov ← eval o X.env
      standAt apos.atName
      let (f, first) ← holding [ov] (getMethod ov m pl)
      callWith pos f first (backTo pos (starEach [] X.env)) (backToKw pos (keywordEach [] X.env))) := by rfl) :
    PE X (.Call (.Attribute o m apos) [] [] pos) (fun σ H Q => ta σ H fun x H1 => ∃ a dx fs, x = .ref a ∧ H1 a = some (.ins C dx fs) ∧ fs.lookup m = none ∧ sp [x] H1 Q E0) := by
  refine ⟨fun pins s σ H Q I h => ?_⟩
  refine PySem.W.methodCall_KW (pl := pl) (thn (he.run pins s σ H _ I h) fun u s1 ⟨x, H1, I1, rx, a, dx, fs, ex, ea, l, q⟩ => ?_) ht
  subst ex
  obtain rfl : u = Value.ref a := rx
  refine getmeth_ok I1 ea c hm l ?_
  exact PySem.W.callWith_K0 (first := [.ref a]) I1.kIn hm.kp (run_fnG (us := [.ref a]) (vs := [.ref a]) F hG hr hb I1 (.cons rfl .nil) q)
theorem run_makeG {pins : List (Addr × Obj)} {σ : L2.St} {H : Hp} {s : Shared} {Q : VK} {us : List Value} {vs : List V} (M : Mk X.K C f) (F : FnG X.prog X.w X.K X.mg X.base k f fd ps sp) (hG : Gd X.A) (hr : Room (k + 1) X.A) (hb : Binds X.K fd ps [])
    (I : Inv X pins σ H s) (r : Vals vs us)
    (h : ∀ x dx, H x = none → H dx = none → dx ≠ x → sp (.ref x :: vs) (upd (upd H dx (.own x)) x (.ins C dx [])) (fun v H2 => v = .non ∧ Q (.ref x) H2) E0) :
    wpAny (model X.prog X.w) X.A (call (.ref C) us) (EP X pins σ Q) X.xe s := by
  have hq := h (s.heap.objs.size + 1) s.heap.objs.size (I.hok.fresh (Nat.le_succ _)) (I.hok.fresh (Nat.le_refl _)) (Nat.ne_of_lt (Nat.lt_succ_self _))
  have I2 := Inv.made (C := C) I
  have r2 : Vals (V.ref (s.heap.objs.size + 1) :: vs) (Value.ref (s.heap.objs.size + 1) :: us) := .cons rfl r
  have hl : (Value.ref (s.heap.objs.size + 1) :: us ++ []).length = ps.length := by
    rw [List.append_nil, ← r2.length]
    exact F.many _ _ _ _ hq
  have hbd := hb { s with heap := (s.heap.push PySem.W.emptyDict).push (PySem.W.instObj C s.heap.objs.size) } (Value.ref (s.heap.objs.size + 1) :: us) I2.kIn hl
  rw [List.append_nil] at hbd
  refine wpAny_call (make_map (f := f) I.kIn M.makes M.init (beq_iff_eq.mp M.fn) (codeAny_mono (F.does _ X.stack _ _ ⟨Value.ref (s.heap.objs.size + 1) :: us, []⟩ (Value.ref (s.heap.objs.size + 1) :: us) _ _ E0 (hG.made _ _) (hr.make C us [])
    (I2.env0.make C us []) hbd r2 hq) fun r s' hq' => ?_))
  match r, hq' with
  | .ok (.ret u), hq' =>
    obtain ⟨v, H', I3, rv, ev, q3⟩ := I2.after hq'
    subst ev
    exact ⟨rv, ⟨V.ref (s.heap.objs.size + 1), H', I3, rfl, q3⟩⟩
/-- C(e, ..) -/
theorem pe_makeG (M : Mk X.K C f) (F : FnG X.prog X.w X.K X.mg X.base k f fd ps sp) (hG : Gd X.A) (hr : Room (k + 1) X.A) (hg : Gl X x) (hm : X.mg x = some (.ref C)) (hb : Binds X.K fd ps [])
    (ha : PA X (e :: es) t) (hdb : (x == ("__debug__" : Str)) = false := by decide) (he : starEach (e :: es) X.env = (false, eval e X.env) :: starEach es X.env := by rfl) (hpl : (backTo pos (starEach es X.env)).any (·.1) = false := by rfl) :
    PE X (.Call (.Name x p) (e :: es) [] pos) (fun σ H Q => t σ H fun vs H1 => ∀ x dx, H1 x = none → H1 dx = none → dx ≠ x →
      sp (.ref x :: vs) (upd (upd H1 dx (.own x)) x (.ins C dx [])) (fun v H2 => v = .non ∧ Q (.ref x) H2) E0) := by
  refine ⟨fun pins s σ H Q I h => ?_⟩
  refine wpAny_Call_Name_kw (ld_glob I hg hm ?_ hdb)
  refine PySem.W.callWith_K (h₀ := X.base) I.ok.mod.kin M.kp (thn (ha.run pos pins s σ H _ I h) fun us s1 ⟨vs, H1, I1, r, q⟩ => ⟨I1.kIn, ?_⟩) he hpl
  exact run_makeG M F hG hr hb I1 r q
end
end GL
namespace DL
open PySem PySem.Spec PyProof.Rows L2 GL
section
variable {K : PySem.W.Frag} {G H : Hp} {f : Str}
theorem lk_some : ∀ {vs : List (Str × V)} {fs : List (Str × PyData)} {d : PyData}, vs.map (·.1) = fs.map (·.1) → DrAll K G (vs.map (·.2)) (fs.map (·.2)) → fs.lookup f = some d → ∃ v, vs.lookup f = some v ∧ Dr K G v d
  | [], [], _, _, _, h => by cases h
  | [], _ :: _, _, e, _, _ => by cases e
  | _ :: _, [], _, e, _, _ => by cases e
  | (g, u) :: vs, (g', d') :: fs, d, e, r, h => by
    rw [List.map_cons, List.map_cons, List.cons.injEq] at e
    have eg : g = g' := e.1
    subst eg
    rw [List.map_cons, List.map_cons] at r
    cases r with
    | cons r1 r2 =>
      rw [List.lookup_cons] at h ⊢
      cases q : f == g with
      | true =>
        rw [q] at h
        cases h
        exact ⟨u, rfl, r1⟩
      | false =>
        rw [q] at h
        exact lk_some e.2 r2 h
theorem lk_none : ∀ {vs : List (Str × V)} {fs : List (Str × PyData)}, vs.map (·.1) = fs.map (·.1) → fs.lookup f = none → vs.lookup f = none
  | [], _, _, _ => rfl
  | _ :: _, [], e, _ => by cases e
  | (g, u) :: vs, (g', d') :: fs, e, h => by
    rw [List.map_cons, List.map_cons, List.cons.injEq] at e
    have eg : g = g' := e.1
    subst eg
    rw [List.lookup_cons] at h ⊢
    cases q : f == g with
    | true =>
      rw [q] at h
      cases h
    | false =>
      rw [q] at h
      exact lk_none e.2 h
/-- a field put -/
def putD (f : Str) (d : PyData) : List (Str × PyData) → List (Str × PyData)
  | [] => [(f, d)]
  | (g, x) :: r => if g = f then (g, d) :: r else (g, x) :: putD f d r
theorem putD_ok {v : V} {d : PyData} (hv : Dr K G v d) : ∀ {vs : List (Str × V)} {fs : List (Str × PyData)}, vs.map (·.1) = fs.map (·.1) → DrAll K G (vs.map (·.2)) (fs.map (·.2)) →
    (putF f v vs).map (·.1) = (putD f d fs).map (·.1) ∧ DrAll K G ((putF f v vs).map (·.2)) ((putD f d fs).map (·.2))
  | [], [], _, _ => ⟨rfl, .cons hv .nil⟩
  | [], _ :: _, e, _ => by cases e
  | _ :: _, [], e, _ => by cases e
  | (g, u) :: vs, (g', d') :: fs, e, r => by
    rw [List.map_cons, List.map_cons, List.cons.injEq] at e
    have eg : g = g' := e.1
    subst eg
    rw [List.map_cons, List.map_cons] at r
    cases r with
    | cons r1 r2 =>
      unfold putF putD
      by_cases q : g = f
      · rw [if_pos q, if_pos q]
        exact ⟨by rw [List.map_cons, List.map_cons, e.2], .cons hv r2⟩
      · rw [if_neg q, if_neg q]
        obtain ⟨h1, h2⟩ := putD_ok hv e.2 r2
        exact ⟨by rw [List.map_cons, List.map_cons, h1], .cons r1 h2⟩
end
section
variable {K : PySem.W.Frag} {X : Cx} {e o : Expr} {es : List Expr} {f m : Str} {C : Addr} {Ta Tb : DT} {To : OT} {pos apos p pos' : Pos}
/-- e.f of an object that is data -/
theorem de_fld (e1 : X.K = K) (n : NoAttr K C f) (h : DE K X e Ta) (hb : attributeBase e f X.env (eval e X.env) = eval e X.env := by rfl) :
    DE K X (.Attribute e f pos) (fun ρ P => Ta ρ fun d => ∃ fs d', d = obD C fs ∧ fs.lookup f = some d' ∧ P d') := by
  subst e1
  refine ⟨PE.weak (pe_fld h.pe hb) fun σ H Q h => ?_⟩
  obtain ⟨G0, H0, B, G, ρ, F, P, w, t, k⟩ := h
  refine ⟨G0, H0, B, G, ρ, F, _, w, t, fun d G' H' v p s r => ?_⟩
  obtain ⟨fs, d', rfl, l, p⟩ := p
  obtain ⟨a, dx, vs, rfl, c, h1, h2, en, h3⟩ := r.ob
  obtain ⟨v, l2, rv⟩ := lk_some en h3 l
  exact ⟨a, C, dx, vs, v, rfl, s.sGH _ _ h1, c.cl, n, l2, k _ G' H' _ p s rv⟩
/-- x.f of an object of one's own -/
theorem de_fldO {i : Nat} (e1 : X.K = K) (n : NoAttr K C f) (h : PE X e (tVar i)) (hb : attributeBase e f X.env (eval e X.env) = eval e X.env := by rfl) :
    DE K X (.Attribute e f pos) (fun ρ P => ∃ a fs d', ρ[i]? = some (some (.o a C fs)) ∧ fs.lookup f = some d' ∧ P d') := by
  subst e1
  refine ⟨PE.weak (pe_fld h hb) fun σ H Q h => ?_⟩
  obtain ⟨G0, H0, B, G, ρ, F, P, w, ⟨a, fs, d', e1, l, p⟩, k⟩ := h
  obtain ⟨v, F1, e2, r, _⟩ := w.env.get e1
  cases r with
  | o r =>
    cases r with
    | mk ob _ _ _ =>
      obtain ⟨c, h1, h2, en, h3⟩ := ob
      obtain ⟨v, l2, rv⟩ := lk_some en h3 l
      exact ⟨_, e2, _, _, _, _, v, rfl, h1, c.cl, n, l2, k _ G H _ p (.refl w.sGH) rv⟩
/-- a method that may be called -/
structure MtG (P : Program) (w : World) (K : PySem.W.Frag) (mg : Str → Option Value) (base : Heap) (k : Nat) (C : Addr) (m : Str) (sp : Sp) : Prop where
  ex : ∃ (f : Addr) (fd : FuncData) (ps : List Str), FnG P w K mg base k f fd ps sp ∧ Meth K C m f ∧ Binds K fd ps []
/-- o.m(e, ..) -/
theorem do_meth {j k : Nat} {S : DSp} {T : Env' → (List En → Prop) → Prop} {pl : Sem Bool} (e1 : X.K = K) (c : Cls K C) (M : MtG X.prog X.w X.K X.mg X.base k C m (spF K S)) (hG : Gd X.A) (hr : Room j X.A) (hk : k ≤ j) (ho : DE K X o Ta)
    (ha : DR K X (e :: es) T) (hst : starEach (e :: es) X.env = (false, eval e X.env) :: starEach es X.env := by rfl) (hpl : (backTo pos (starEach es X.env)).any (·.1) = false := by rfl)
    (ht : eval (.Call (.Attribute o m apos) (e :: es) [] pos) X.env = (do
      let ov ← eval o X.env
      standAt apos.atName
      let (f, first) ← holding [ov] (getMethod ov m pl)
      callWith pos f first (backTo pos (starEach (e :: es) X.env)) (backToKw pos (keywordEach [] X.env))) := by rfl) :
    DO K X (.Call (.Attribute o m apos) (e :: es) [] pos) (fun ρ P => Ta ρ fun d => ∃ fs, d = obD C fs ∧ fs.lookup m = none ∧ T ρ fun as => S (.d d :: as) P) := by
  subst e1
  obtain ⟨f, fd, ps, F, hm, b⟩ := M.ex
  refine ⟨PE.weak (pe_methG ho.pe c hm F hG (hr.mono hk) b ha.pa hst hpl ht) fun σ H Q h => ?_⟩
  obtain ⟨G0, H0, B, G, ρ, F, P, w, t, k⟩ := h
  refine ⟨G0, H0, B, G, ρ, F, _, w, t, fun d G1 H1 v p1 s1 r1 => ?_⟩
  obtain ⟨fs, rfl, l, p1⟩ := p1
  obtain ⟨a, dx, vs, rfl, c, h1, h2, en, h3⟩ := r1.ob
  refine ⟨a, dx, vs, rfl, s1.sGH _ _ h1, lk_none en l, G0, H0, B, G1, ρ, F, _, w.step s1, p1, fun as G2 H2 ws p2 s2 r2 => ?_⟩
  have s12 := s1.trans s2 w.bags
  have w' := w.step s12
  exact ⟨B, G2, _, P, s2.sGH, fun b e => ⟨(w'.bag b e).1, (w'.bag b e).2.1⟩, .d (r1.same s2.sG) r2, p2, fun o G3 H3 v Fv p3 s3 r3 n3 => k o G3 H3 v Fv p3 (s12.trans s3 w.bags) r3 fun a m => s12.none_back w.bags (n3 a m)⟩
/-- o.m() -/
theorem do_meth0 {j k : Nat} {S : DSp} {pl : Sem Bool} (e1 : X.K = K) (c : Cls K C) (M : MtG X.prog X.w X.K X.mg X.base k C m (spF K S)) (hG : Gd X.A) (hr : Room j X.A) (hk : k ≤ j) (ho : DE K X o Ta)
    (ht : eval (.Call (.Attribute o m apos) [] [] pos) X.env = (do
      let ov ← eval o X.env
      standAt apos.atName
      let (f, first) ← holding [ov] (getMethod ov m pl)
      callWith pos f first (backTo pos (starEach [] X.env)) (backToKw pos (keywordEach [] X.env))) := by rfl) :
    DO K X (.Call (.Attribute o m apos) [] [] pos) (fun ρ P => Ta ρ fun d => ∃ fs, d = obD C fs ∧ fs.lookup m = none ∧ S [.d d] P) := by
  subst e1
  obtain ⟨f, fd, ps, F, hm, b⟩ := M.ex
  refine ⟨PE.weak (pe_methG0 ho.pe c hm F hG (hr.mono hk) b ht) fun σ H Q h => ?_⟩
  obtain ⟨G0, H0, B, G, ρ, F, P, w, t, k⟩ := h
  refine ⟨G0, H0, B, G, ρ, F, _, w, t, fun d G1 H1 v p1 s1 r1 => ?_⟩
  obtain ⟨fs, rfl, l, p1⟩ := p1
  obtain ⟨a, dx, vs, rfl, c, h1, h2, en, h3⟩ := r1.ob
  have w' := w.step s1
  exact ⟨a, dx, vs, rfl, s1.sGH _ _ h1, lk_none en l, B, G1, _, P, s1.sGH, fun b e => ⟨(w'.bag b e).1, (w'.bag b e).2.1⟩, .d r1 .nil, p1, fun o G3 H3 v Fv p3 s3 r3 n3 => k o G3 H3 v Fv p3 (s1.trans s3 w.bags) r3 fun a m => s1.none_back w.bags (n3 a m)⟩
end
end DL
set_option Elab.async false
set_option linter.all false
set_option maxRecDepth 100000
set_option maxHeartbeats 1000000
/-! OB2: objects of own classes: how they are made, their fields put, isinstance -/
namespace DL
open PySem PySem.Spec PyProof.Rows L2 GL
theorem RepB.ex {K : PySem.W.Frag} {G H : Hp} {a C : Addr} {fs : List (Str × PyData)} {F : List Addr} (h : RepB K G H a C fs F) : ∃ dx vs, F = [a, dx] ∧ ObAt K G H a C dx vs fs ∧ G a = none ∧ G dx = none ∧ a ≠ dx := by
  cases h with
  | mk h1 h2 h3 h4 => exact ⟨_, _, rfl, h1, h2, h3, h4⟩
section
variable {K : PySem.W.Frag} {X : Cx} {e o : Expr} {es : List Expr} {f m : Str} {C : Addr} {Ta Tb : DT} {To : OT} {pos apos p pos' : Pos}
/-- x.f = e, x an object of one's own -/
theorem ds_fld {i : Nat} (e1 : X.K = K) (n : NoAttr K C f) (ho : PE X o (tVar i)) (h : DE K X e Ta) (hs : swapsWith e (some (.Attribute o f pos')) pos.line X.env = pure false := by rfl) :
    DS K X (.Assign [.Attribute o f pos'] e pos) (fun P ρ => Ta ρ fun d => ∃ a fs, ρ[i]? = some (some (.o a C fs)) ∧ fs.length < 1000 ∧ P.nx (ρ.set i (some (.o a C (putD f d fs))))) := by
  subst e1
  refine ⟨PS.weak (ps_fld ho h.pe hs) fun D σ H h => ?_⟩
  obtain ⟨G0, H0, B, G, ρ, F, P, w, t, k, _⟩ := h
  refine ⟨G0, H0, B, G, ρ, F, _, w, t, fun d G' H' v p s r => ?_⟩
  obtain ⟨a, fs, e2, hl, p⟩ := p
  have w' := w.step s
  obtain ⟨u, F1, e3, rn, sub, go⟩ := w'.env.change e2
  cases rn with
  | o rb =>
    obtain ⟨dx, vs, eF, ob, g1, g2, ne⟩ := rb.ex
    subst eF
    obtain ⟨c, h1, h2, en, h3⟩ := ob
    have hlen : vs.length = fs.length := by
      have := congrArg List.length en
      simpa using this
    obtain ⟨q1, q2⟩ := putD_ok (f := f) r en h3
    have n0 : H0 a = none := w'.own a (sub a (by simp))
    have oth : ∀ {x : Addr}, x ≠ a → ∀ u, H' x = some u → upd H' a (.ins C dx (putF f v vs)) x = some u := fun hx u z => by rw [upd_ne hx]; exact z
    obtain ⟨F', env', cc⟩ := go G' (upd H' a (.ins C dx (putF f v vs))) (.o a C (putD f d fs)) [a, dx] (Same.refl _)
      (fun x m z => ⟨(w'.env.dom x m).1, oth fun y => z (by rw [y]; simp)⟩)
      (.o (.mk ⟨c, upd_same, by rw [upd_ne (Ne.symm ne)]; exact h2, q1, q2⟩ g1 g2 ne)) (fun _ m => .inl m)
    refine ⟨_, e3, a, C, dx, vs, rfl, h1, c.cl, n, by omega, k _ _ G' _ F' p ⟨fun x u q => ?_, w'.sG, w'.fr, fun x u q nb => ?_, fun x m => ?_, fun b z => ?_, env'⟩⟩
    · have : x ≠ a := fun z => by rw [z, g1] at q; cases q
      rw [upd_ne this]
      exact w'.sGH _ _ q
    · have : x ≠ a := fun z => by rw [z, n0] at q; cases q
      rw [upd_ne this]
      exact w'.keep x u q nb
    · exact (cc x m).elim (w'.own x) fun m => w'.own x (sub x m)
    · obtain ⟨⟨g', s', i', ns, z1, z2, z3⟩, z4, z5⟩ := w'.bag b z
      have : b.1 ≠ a := fun y => z5 (by rw [y]; exact n0)
      exact ⟨⟨g', s', i', ns, by rw [upd_ne this]; exact z1, z2, z3⟩, z4, z5⟩
end
/-! ### __init__ -/
abbrev ISp := List En → (List (Str × PyData) → Prop) → Prop
def spI (K : PySem.W.Frag) (C : Addr) (S : ISp) : Sp := fun vs H Q _ => ∃ a dx ws H0 B G as P, vs = .ref a :: ws ∧ OwnC K C ∧ H0 a = none ∧ H0 dx = none ∧ dx ≠ a ∧ H = upd (upd H0 dx (.own a)) a (.ins C dx []) ∧
  Same G H0 ∧ (∀ b, B = some b → BagAt G H0 b ∧ G b.1 = none) ∧ RepA K B G ws as ∧ S as P ∧
  ∀ fs G' H', P fs → Stp B G H0 G' H' → Dr K G' (.ref a) (obD C fs) → Q .non H'
/-- the slots at an __init__'s start -/
def startI (N : List Str) (a C : Addr) (as : List En) : Env' := some (.o a C []) :: (as.map some ++ List.replicate (N.length - (as.length + 1)) none)
section
variable {P : Program} {w : World} {K : PySem.W.Frag} {mg : Str → Option Value} {base : Heap} {x qual : Str} {st : Stmt} {f C : Addr} {fd : FuncData} {N ps : List Str} {k : Nat} {S : ISp}
theorem okI (F : Fun K x qual st f fd) (Sc : FnScope N ps (defScope st)) (many : ∀ as Q, S as Q → as.length + 1 = ps.length)
    (body : ∀ (a : Addr) (cdv : Value) (A : Around) (out : List Env) (s : Shared) (H : Hp) (E : XK),
      Gd (A.deeper (envOfC qual (defScope st) s.heap.objs.size f cdv)) → Room k (A.deeper (envOfC qual (defScope st) s.heap.objs.size f cdv)) →
      ∃ T, DSs K (cxOf CX0 P w K mg base N qual (defScope st) f cdv A out s H E).nox (defBody st) T ∧
        ∀ as Q, S as Q → T { nx := fun ρ => ∃ fs, ρ[0]? = some (some (.o a C fs)) ∧ Q fs, rt := fun _ => False } (startI N a C as)) :
    FnG P w K mg base (k + 1) f fd ps (spI K C S) := by
  refine okG F Sc (fun vs H Q E h => ?_) (fun cdv A out s H vs Q E hG hr h => ?_)
  · obtain ⟨a, dx, ws, H0, B, G, as, P', rfl, _, _, _, _, _, _, _, r, h, _⟩ := h
    rw [List.length_cons, r.length]
    exact many as P' h
  · obtain ⟨a, dx, ws, H0, B, G, as, P', rfl, c, n1, n2, ne, rfl, sm, hb, r, h, go⟩ := h
    obtain ⟨T, d, t⟩ := body a cdv A out s _ E hG hr
    have none_of : ∀ {y : Addr}, H0 y = none → G y = none := fun {y} hy => by
      cases q : G y with
      | none => rfl
      | some u => rw [sm _ _ q] at hy; cases hy
    have ho : ∀ {y : Addr} {u : HO}, H0 y = some u → upd (upd H0 dx (.own a)) a (.ins C dx []) y = some u := fun {y u} hy => by
      rw [upd_ne (ne_of_none hy n1), upd_ne (ne_of_none hy n2)]
      exact hy
    have en : RepE K B G (upd (upd H0 dx (.own a)) a (.ins C dx [])) (L2.start N (.ref a :: ws)) (startI N a C as) ([a, dx] ++ []) := by
      unfold L2.start startI
      rw [List.map_cons, List.cons_append, List.length_cons, r.length]
      exact .o (.mk ⟨c, upd_same, by rw [upd_ne ne, upd_same], rfl, .nil⟩ (none_of n1) (none_of n2) (Ne.symm ne)) r.env (fun _ _ m => nomatch m)
    refine ⟨_, d.pss, G, H0, B, G, startI N a C as, _, _, ⟨fun y u q => ho (sm _ _ q), Same.refl _, fun _ z => .inl z, fun y u z _ => ho z, fun y m => ?_, fun b e => ?_, en⟩, t as P' h, fun ρ' σ' G' H' F' p w' => ?_, fun _ _ _ _ _ z => z.elim, fun _ _ _ _ _ z => z.elim, fun _ _ _ _ _ z => z.elim⟩
    · simp only [List.append_nil, List.mem_cons, List.mem_nil_iff, or_false] at m
      rcases m with rfl | rfl
      · exact n1
      · exact n2
    · obtain ⟨⟨g, si, i, ns, z1, z2, z3⟩, z4⟩ := hb b e
      exact ⟨⟨g, si, i, ns, ho z1, z2, z3⟩, z4, by rw [z1]; exact nofun⟩
    · obtain ⟨fs, e0, q⟩ := p
      obtain ⟨v, F1, e2, rn, sub⟩ := w'.env.get e0
      cases rn with
      | o rb =>
        have h1 : ∀ y ∈ F1, G' y = none := fun y m => (rb.dom y m).1
        refine go fs (addF G' H' F1) H' q ⟨w'.keep, w'.sG.trans (addF_ext h1), addF_sub w'.sGH, fun y z => ?_, fun b e hz => ?_⟩ (rb.freeze (addF_ext h1) fun y m u z => by rw [addF_in m]; exact z)
        · by_cases m : y ∈ F1
          · exact .inr (w'.own y (sub y m))
          · rw [addF_out m] at z
            exact w'.fr y z
        · obtain ⟨⟨g, si, i, ns, z1, z2, z3⟩, z4, z5⟩ := w'.bag b e
          exact ⟨g, si, i, ns, z1, addF_ext h1 _ _ z2, z3⟩
/-- a class that may be called -/
structure MkG (P : Program) (w : World) (K : PySem.W.Frag) (mg : Str → Option Value) (base : Heap) (k : Nat) (x : Str) (C : Addr) (S : ISp) : Prop where
  ex : ∃ (f : Addr) (fd : FuncData) (ps : List Str), FnG P w K mg base k f fd ps (spI K C S) ∧ Mk K C f ∧ Binds K fd ps []
  own : OwnC K C
  mg : mg x = some (.ref C)
end
section
variable {K : PySem.W.Frag} {X : Cx} {e o : Expr} {es : List Expr} {x : Str} {C : Addr} {Ta : DT} {pos p : Pos}
/-- C(e, ..) -/
theorem de_make {j k : Nat} {S : ISp} {T : Env' → (List En → Prop) → Prop} (e1 : X.K = K) (M : MkG X.prog X.w X.K X.mg X.base k x C S) (hG : Gd X.A) (hr : Room j X.A) (hk : k + 1 ≤ j) (hg : Gl X x)
    (ha : DR K X (e :: es) T) (hdb : (x == ("__debug__" : Str)) = false := by decide) (he : starEach (e :: es) X.env = (false, eval e X.env) :: starEach es X.env := by rfl) (hpl : (backTo pos (starEach es X.env)).any (·.1) = false := by rfl) :
    DE K X (.Call (.Name x p) (e :: es) [] pos) (fun ρ P => T ρ fun as => S as fun fs => P (obD C fs)) := by
  subst e1
  obtain ⟨f, fd, ps, F, mk, b⟩ := M.ex
  refine ⟨PE.weak (pe_makeG mk F hG (hr.mono hk) hg M.mg b ha.pa hdb he hpl) fun σ H Q h => ?_⟩
  obtain ⟨G0, H0, B, G, ρ, F, P, w, t, k⟩ := h
  refine ⟨G0, H0, B, G, ρ, F, _, w, t, fun as G' H' vs p s r => ?_⟩
  intro a dx na ndx ne
  have w' := w.step s
  exact ⟨a, dx, vs, H', B, G', as, _, rfl, M.own, na, ndx, ne, rfl, s.sGH, fun b e => ⟨(w'.bag b e).1, (w'.bag b e).2.1⟩, r, p, fun fs G2 H2 p2 s2 r2 => ⟨rfl, k _ G2 H2 _ p2 (s.trans s2 w.bags) r2⟩⟩
/-- whether data is an object of the class at C -/
def isOb (C : Addr) : PyData → Bool
  | .dict ((.none, .int c) :: _) => c == (C : Int)
  | _ => false
/-- data, or an object of the class at C -/
def okOb (C : Addr) : PyData → Bool
  | .dict ((.none, .int c) :: _) => c == (C : Int)
  | _ => true
/-- a class that no built-in one is below -/
def TopC (K : PySem.W.Frag) (C : Addr) : Prop := ∀ T ∈ ["NoneType", "bool", "int", "str", "list", "tuple", "dict"], PySem.W.kitOne K (.type T) (.ref C) = some false
theorem Dr.tyc {G H : Hp} {v : V} {d : PyData} (c : TopC K C) (r : Dr K G v d) (s : Same G H) (ok : okOb C d = true) : ∃ t, TyX K H v t ∧ PySem.W.kitOne K t (.ref C) = some (isOb C d) := by
  cases r with
  | @ins a C' dx fs ds oc h _ _ =>
    have e : C' = C := by
      unfold okOb at ok
      exact Int.ofNat.inj (eq_of_beq ok)
    subst e
    refine ⟨.ref C', .base (.ins (s _ _ h) oc.cl oc.ha oc.hn oc.ht oc.hm), ?_⟩
    unfold PySem.W.kitOne isOb
    simp
  | @dct a kvs ds h _ =>
    refine ⟨_, .base (.dK (s _ _ h)), ?_⟩
    rw [c "dict" (by simp)]
    cases kvs with
    | nil => rfl
    | cons p r =>
      obtain ⟨k, x⟩ := p
      cases ds with
      | nil => rfl
      | cons d ds => cases k <;> rfl
  | non => exact ⟨_, .base .non, c "NoneType" (by simp)⟩
  | bl b => exact ⟨_, .base (.bl b), c "bool" (by simp)⟩
  | int i => exact ⟨_, .base (.int i), c "int" (by simp)⟩
  | str x => exact ⟨_, .base (.str x), c "str" (by simp)⟩
  | lst h _ => exact ⟨_, .base (.lst (s _ _ h)), c "list" (by simp)⟩
  | tup h _ =>
    refine ⟨.type "tuple", ?_, c "tuple" (by simp)⟩
    rcases h with (h | ⟨o, h⟩) | ⟨o, its, n, h, c, _⟩
    · exact .base (.tup (s _ _ h))
    · exact .fTuple (s _ _ h)
    · exact .kTuple h c
/-- isinstance(e, C), C an own class -/
theorem de_isiC {p3 : Pos} (e1 : X.K = K) (c : TopC K C) (hC : ClsV (.ref C) (.ref C)) (h : DE K X e Ta) (hg : Gl X "isinstance") (hm : X.mg "isinstance" = none) (hgx : PE X (.Name x p3) (tC (.ref C)))
    (hs : starEach [e, .Name x p3] X.env = (false, eval e X.env) :: starEach [.Name x p3] X.env := by rfl) (hs2 : starEach [.Name x p3] X.env = (false, eval (.Name x p3) X.env) :: starEach [] X.env := by rfl)
    (hpl : (backTo pos (starEach [.Name x p3] X.env)).any (·.1) = false := by rfl) :
    DE K X (.Call (.Name "isinstance" p) [e, .Name x p3] [] pos) (fun ρ P => Ta ρ fun d => okOb C d = true ∧ P (.bool (isOb C d))) := by
  subst e1
  refine ⟨PE.weak (pe_callB call_isi hg hm (by decide +kernel) (pa_cons h.pe (pa_cons hgx pa_nil hs2) hs) (by decide) (by decide) hs hpl) fun σ H Q h => ?_⟩
  obtain ⟨G0, H0, B, G, ρ, F, P, w, t, k⟩ := h
  refine ⟨G0, H0, B, G, ρ, F, _, w, t, fun d G' H' v p s r => ?_⟩
  obtain ⟨t, ty, ki⟩ := r.tyc c s.sGH p.1
  exact ⟨v, .ref C, t, .ref C, isOb C d, rfl, hC, ty, ki, k _ G' H' _ p.2 s (.bl _)⟩
end
end DL
set_option Elab.async false
set_option linter.all false
set_option maxRecDepth 100000
set_option maxHeartbeats 1000000
/-! OB3: == and != of an object whose class has its own __eq__ -/
namespace GL
open PySem PySem.Spec PyProof.Rows L2
section
variable {X : Cx} {C f : Addr} {k : Nat} {fd : FuncData} {ps : List Str} {sp : Sp}
/-- an object of a class with its own __eq__, and another value, whose class is not below it -/
def rEqI (K : PySem.W.Frag) (C : Addr) (sp : Sp) (g : Bool → Bool) : R2 := fun x y H Q => ∃ a dx fs t, x = .ref a ∧ H a = some (.ins C dx fs) ∧ TyX K H y t ∧ PySem.W.notFirst K C t = true ∧
  sp [x, y] H (fun v H' => ∃ b, v = .bl b ∧ Q (.bl (g b)) H') E0
theorem ins_at {pins : List (Addr × Obj)} {σ : L2.St} {H : Hp} {s : Shared} {a C dx : Addr} {fs : List (Str × V)} (I : Inv X pins σ H s) (h : H a = some (.ins C dx fs)) : ∃ ox od, PySem.W.InstAt s.heap a ox C od := by
  obtain ⟨mA, O, _⟩ := ins_get I.hok h
  obtain ⟨od, J, _⟩ := O.look
  exact ⟨_, _, J⟩
theorem op_eqI (hs : PySem.W.findIn X.K (.ref C) "__eq__" = some (some (.ref f))) (hf : PySem.W.isFn X.K (.ref f) = true) (F : FnG X.prog X.w X.K X.mg X.base k f fd ps sp) (hG : Gd X.A) (hr : Room k X.A) (hb : Binds X.K fd ps []) :
    OpR X (compareOp .Eq) (rEqI X.K C sp id) := by
  intro pins s σ H x y v u Q I rx ry h
  obtain ⟨a, dx, fs, t, rfl, ha, ty, hn, q⟩ := h
  cases (show v = Value.ref a from rx)
  obtain ⟨ox, od, J⟩ := ins_at I ha
  obtain ⟨P, Z, hp, _⟩ := kit_of I ry ty
  obtain ⟨m, hF⟩ := I.fr
  show wpAny (model X.prog X.w) X.A (richCompare .Eq (.ref a) u) _ _ _
  refine PySem.W.cmp_K (op := .Eq) (tb := t) hr.units0 hF I.ok.mod.kin J (Z.ty _ _ I.kIn hp) hn hs hf ?_
  refine wpAny_mono (run_fnG (us := [.ref a, u]) (vs := [.ref a, y]) F hG hr hb I (.cons rfl (.cons ry .nil)) q) (fun w s' z => ?_) fun _ _ x => x
  obtain ⟨z', H', I', rz, b, rfl, qz⟩ := z
  cases (show w = Value.bool b from rz)
  exact ⟨.bl b, H', I', rfl, qz⟩
theorem Gd.in1 {A : Around} (g : Gd A) : Gd A.in1 := by
  unfold Gd at *
  first | exact g | simpa [Around.in1] using g
theorem ifBound_ne {M : Model} {A : Around} {E : Value → Shared → Prop} {s : Shared} {K : PySem.W.Frag} {x C : Addr} {ox : Obj} {od : Option Obj} {args : List Value} {Q : Option Value → Shared → Prop} (hX : K.In s.heap) (I : PySem.W.InstAt s.heap x ox C od)
    (hs : PySem.W.findIn K (.ref C) "__ne__" = some (some (.builtin "object.__ne__")))
    (h : wpAny M A (call (.builtin "object.__ne__") (.ref x :: args)) (fun v => Q (some v)) E s) : wpAny M A (callSpecialIfBound? (.ref x) "__ne__" args) Q E s := by
  simp only [callSpecialIfBound?, bindSpecialIfBound?]
  refine wpAny_holding (wpAny_bind (wpAny_bind (wpAny_bind (I.type.here ((PySem.W.looks_findIn hX hs).here ?_)))))
  simp only [PySem.F.cmp_object.ne.bind]
  refine wpAny_bind (wpAny_askSetting (wpAny_ite ?_))
  have fin : wpAny M A (call (.builtin "object.__ne__") ([.ref x] ++ args) >>= fun v => pure (some v)) Q E s := wpAny_bind (wpAny_mono h (fun v s' h' => wpAny_pure h') fun _ _ h' => h')
  split
  · exact wpAny_bind (wpAny_pure (wpAny_pure fin))
  · exact wpAny_tryCatch (wpAny_bind (wpAny_pure (wpAny_pure fin)))
theorem op_neI (c : PySem.W.mroIn X.K C (.type "object") = some true) (hs : PySem.W.findIn X.K (.ref C) "__eq__" = some (some (.ref f))) (hs2 : PySem.W.findIn X.K (.ref C) "__ne__" = some (some (.builtin "object.__ne__"))) (hf : PySem.W.isFn X.K (.ref f) = true)
    (F : FnG X.prog X.w X.K X.mg X.base k f fd ps sp) (hG : Gd X.A) (hr : Room (k + 1) X.A) (hb : Binds X.K fd ps []) : OpR X (compareOp .NotEq) (rEqI X.K C sp (!·)) := by
  intro pins s σ H x y v u Q I rx ry h
  obtain ⟨a, dx, fs, t, rfl, ha, ty, hn, q⟩ := h
  cases (show v = Value.ref a from rx)
  obtain ⟨ox, od, J⟩ := ins_at I ha
  obtain ⟨P, Z, hp, _⟩ := kit_of I ry ty
  show wpAny (model X.prog X.w) X.A (richCompare .NotEq (.ref a) u) _ _ _
  have hb2 := Z.ty (model X.prog X.w) _ I.kIn hp
  have body : wpAny (model X.prog X.w) X.A.in1 (call (.ref f) [.ref a, u]) (fun v s' => ∃ b, v = .bool b ∧ EP X pins σ Q (.bool (!b)) s') X.xe s := by
    refine wpAny_call (codeAny_mono (F.does X.A.in1 X.stack s H ⟨[.ref a, u], []⟩ [.ref a, u] [.ref a, y] _ E0 hG.in1 hr.in1 I.env0.in1 ?_ (.cons rfl (.cons ry .nil)) q) fun r s' hq => ?_)
    · have hl : ([Value.ref a, u] ++ []).length = ps.length := F.many _ _ _ _ q
      exact hb s [.ref a, u] I.kIn hl
    · match r, hq with
      | .ok (.ret w), hq =>
        obtain ⟨z', H', I', rz, b, rfl, qz⟩ := I.after hq
        exact ⟨b, rz, .bl (!b), H', I', rfl, qz⟩
  have sub : PySem.W.Looks (model X.prog X.w) s.heap (isInstance (.ref a) (.type "object")) true := J.type.andThen (PySem.W.looks_mroIn I.kIn c)
  have one : wpAny (model X.prog X.w) X.A (tryCompare (.ref a) "__ne__" u) (fun r s' => ∃ v, r = some v ∧ EP X pins σ Q v s') X.xe s := by
    unfold tryCompare
    refine wpAny_bind (ifBound_ne I.kIn J hs2 (wpAny_call (codeAny_call_builtin PySem.F.cmp_object.ne.plain PySem.F.cmpEntry_ne (@PySem.W.check_slot (model X.prog X.w) _ _ s "object.__ne__" "object" "__ne__" (.ref a) [u] [] _ PySem.F.cmpKind_ne PySem.F.cmpSplit_ne sub (PySem.F.cmpArgs_ne _ _) ?_))))
    unfold Builtin.«object.__ne__»
    repeat (first
      | with_reducible refine wpAny_cRoomFor hr.in1.units0 ?_
      | (refine wpAny_bind (m := callSpecialIfBound? (.ref a) (Str.ofString "__eq__") [u]) (PySem.W.ifBound_K I.kIn J hs hf (wpAny_mono body (fun r s' hr => by
          obtain ⟨b, rfl, hq⟩ := hr
          repeat (first | exact wpAny_pure (wpAny_pure ⟨_, rfl, hq⟩) | exact wpAny_pure ⟨_, rfl, hq⟩ | exact ⟨_, rfl, hq⟩ | (refine wpAny_bind (m := truthy (.bool _)) (wpAny_truthy_bool ?_)) | wp_step)) fun _ _ e => e)))
      | wp_step)
  unfold richCompare
  simp only [oneThing_ref]
  refine wpAny_holding (wpAny_bind (wpAny_cRoomFor hr.units0 ?_))
  refine wpAny_bind (J.type.here (wpAny_bind (hb2.here ?_)))
  split
  · rename_i q
    have e : PySem.W.subIn X.K t (.ref C) = some false := by
      rcases Bool.or_eq_true_iff.mp hn with e | e
      · rw [beq_iff_eq.mp e] at q; simp at q
      · exact beq_iff_eq.mp e
    refine wpAny_bind ((PySem.W.looks_subIn I.kIn e).here ?_)
    simp only [Bool.false_eq_true, if_false]
    refine wpAny_bind (wpAny_mono one (fun r s' z => ?_) fun _ _ e => e)
    obtain ⟨v, rfl, hq⟩ := z
    exact wpAny_pure hq
  · refine wpAny_bind (wpAny_pure ?_)
    simp only [Bool.false_eq_true, if_false]
    refine wpAny_bind (wpAny_mono one (fun r s' z => ?_) fun _ _ e => e)
    obtain ⟨v, rfl, hq⟩ := z
    exact wpAny_pure hq
end
end GL
set_option Elab.async false
set_option linter.all false
set_option maxRecDepth 100000
set_option maxHeartbeats 1000000
/-! OB4: == and != of objects over data -/
namespace DL
open PySem PySem.Spec PyProof.Rows L2 GL
/-- no built-in class is below the class at C -/
def TopN (K : PySem.W.Frag) (C : Addr) : Prop := ∀ T ∈ ["NoneType", "bool", "int", "str", "list", "tuple", "dict"], PySem.W.notFirst K C (.type T) = true
theorem Dr.tyn {K : PySem.W.Frag} {C : Addr} {G H : Hp} {v : V} {d : PyData} (c : TopN K C) (r : Dr K G v d) (s : Same G H) (ok : okOb C d = true) : ∃ t, TyX K H v t ∧ PySem.W.notFirst K C t = true := by
  cases r with
  | @ins a C' dx fs ds oc h _ _ =>
    have e : C' = C := by
      unfold okOb at ok
      exact Int.ofNat.inj (eq_of_beq ok)
    subst e
    refine ⟨.ref C', .base (.ins (s _ _ h) oc.cl oc.ha oc.hn oc.ht oc.hm), ?_⟩
    unfold PySem.W.notFirst
    simp
  | dct h _ => exact ⟨_, .base (.dK (s _ _ h)), c "dict" (by simp)⟩
  | non => exact ⟨_, .base .non, c "NoneType" (by simp)⟩
  | bl b => exact ⟨_, .base (.bl b), c "bool" (by simp)⟩
  | int i => exact ⟨_, .base (.int i), c "int" (by simp)⟩
  | str x => exact ⟨_, .base (.str x), c "str" (by simp)⟩
  | lst h _ => exact ⟨_, .base (.lst (s _ _ h)), c "list" (by simp)⟩
  | tup h _ =>
    refine ⟨.type "tuple", ?_, c "tuple" (by simp)⟩
    rcases h with (h | ⟨o, h⟩) | ⟨o, its, n, h, c, _⟩
    · exact .base (.tup (s _ _ h))
    · exact .fTuple (s _ _ h)
    · exact .kTuple h c
/-- what a class with its own __eq__ has -/
structure EqG (P : Program) (w : World) (K : PySem.W.Frag) (mg : Str → Option Value) (base : Heap) (k : Nat) (C : Addr) (S : DSp) : Prop where
  ex : ∃ (f : Addr) (fd : FuncData) (ps : List Str), FnG P w K mg base k f fd ps (spF K S) ∧ PySem.W.findIn K (.ref C) "__eq__" = some (some (.ref f)) ∧ PySem.W.isFn K (.ref f) = true ∧ Binds K fd ps []
  ne : PySem.W.findIn K (.ref C) "__ne__" = some (some (.builtin "object.__ne__"))
  top : PySem.W.mroIn K C (.type "object") = some true
  tn : TopN K C
/-- what == of an object asks and tells -/
def eqI (C : Addr) (S : DSp) (g : Bool → Bool) (d e : PyData) (P : PyData → Prop) : Prop := ∃ fs, d = obD C fs ∧ okOb C e = true ∧ S [.d d, .d e] (fun o => ∃ b, o = .dat (.bool b) ∧ P (.bool (g b)))
section
variable {K : PySem.W.Frag} {X : Cx} {a b : Expr} {C : Addr} {Ta Tb : DT} {S : DSp} {pos : Pos}
theorem od_eqI {g : Bool → Bool} (c : TopN K C) : OpData K (rEqI K C (spF K S) g) (eqI C S g) := by
  intro B G H d e x y P Q s rx ry p k
  obtain ⟨fs, rfl, ok, p⟩ := p
  obtain ⟨t, ty, hn⟩ := ry.tyn c s ok
  obtain ⟨a, dx, vs, rfl, oc, h1, h2, _, _⟩ := id rx.ob
  refine ⟨a, dx, vs, t, rfl, s _ _ h1, ty, hn, ?_⟩
  refine ⟨none, G, _, _, s, (fun b e => nomatch e), .d rx (.d ry .nil), p, fun o G' H' v Fv p2 s2 r2 n2 => ?_⟩
  obtain ⟨b, rfl, p2⟩ := p2
  cases r2 with
  | dat r =>
    cases r
    refine ⟨b, rfl, k _ G' H' _ p2 ⟨fun a u q _ => s2.keep a u q (fun c e => nomatch e), s2.sG, s2.sGH, s2.fr, fun b _ h => ?_⟩ (.bl _)⟩
    obtain ⟨g', si, i, ns, e1, e2, e3⟩ := h
    exact ⟨g', si, i, ns, s2.keep _ _ e1 (fun c e => nomatch e), s2.sG _ _ e2, e3⟩
theorem de_eqI {j k : Nat} (e1 : X.K = K) (E : EqG X.prog X.w X.K X.mg X.base k C S) (hG : Gd X.A) (hr : Room j X.A) (hk : k ≤ j) (ha : DE K X a Ta) (hb : DE K X b Tb) (hm : behindInMarks .Eq b = false := by rfl) :
    DE K X (.Compare a [.Eq] [b] pos) (fun ρ P => Ta ρ fun d => Tb ρ fun e => eqI C S id d e P) := by
  subst e1
  have tn := E.tn
  obtain ⟨f, fd, ps, F, h1, h2, h3⟩ := E.ex
  rw [show (eqI C S id : PyData → PyData → (PyData → Prop) → Prop) = eqI C S id from rfl]
  exact de_cmp (op_eqI h1 h2 F hG (hr.mono hk) h3) (od_eqI tn) ha hb hm
theorem de_neI {j k : Nat} (e1 : X.K = K) (E : EqG X.prog X.w X.K X.mg X.base k C S) (hG : Gd X.A) (hr : Room j X.A) (hk : k + 1 ≤ j) (ha : DE K X a Ta) (hb : DE K X b Tb) (hm : behindInMarks .NotEq b = false := by rfl) :
    DE K X (.Compare a [.NotEq] [b] pos) (fun ρ P => Ta ρ fun d => Tb ρ fun e => eqI C S (!·) d e P) := by
  subst e1
  obtain ⟨f, fd, ps, F, h1, h2, h3⟩ := E.ex
  exact de_cmp (op_neI E.top h1 E.ne h2 F hG (hr.mono hk) h3) (od_eqI E.tn) ha hb hm
end
end DL
set_option Elab.async false
set_option linter.all false
set_option maxRecDepth 100000
set_option maxHeartbeats 1000000
/-! EN: for i, x in enumerate(xs) -/
namespace DL
open PySem PySem.Spec PyProof.Rows L2 GL
def enumD (ds : List PyData) : List PyData := (((List.range ds.length).map fun i : Nat => PyData.int (i : Int)).zip ds).map pairD
theorem enum_len (ds : List PyData) : (enumD ds).length = ds.length := by
  unfold enumD
  rw [List.length_map, List.length_zip, List.length_map, List.length_range]
  omega
theorem enum_at {ds : List PyData} {i : Nat} {d : PyData} (h : ds[i]? = some d) : (enumD ds)[i]? = some (.tuple [.int (i : Int), d]) := by
  have hi : i < ds.length := (List.getElem?_eq_some_iff.mp h).1
  unfold enumD
  rw [List.getElem?_map, List.getElem?_zip_eq_some (z := (.int (i : Int), d)).mpr ⟨by rw [List.getElem?_map, List.getElem?_range hi]; rfl, h⟩]
  rfl
section
variable {K : PySem.W.Frag} {X : Cx} {e : Expr} {Ta : DT} {pos : Pos}
theorem enum_step {G : Hp} {vs : List V} {ds : List PyData} (r : DrAll K G vs ds) : ∀ i H x H', i < (enumD ds).length → YPair (fun i => some (.int (i : Nat))) (fun i => vs[i]?) i H x H' →
    ∀ B G1, Same G G1 → Same G1 H → ∃ G2 d, Stp B G1 H G2 H' ∧ Dr K G2 x d ∧ (enumD ds)[i]? = some d := by
  intro i H x H' hi y B G1 s1 s2
  obtain ⟨T, x1, x2, rfl, nT, rfl, e1, e2⟩ := y
  cases e1
  obtain ⟨e, h3, h4⟩ := r.getV e2
  have s := Stp.lay (B := B) (o := .tup [.int (i : Int), x2]) s2 nT
  exact ⟨_, _, s, .tup (.inl (.inl upd_same)) (.cons (.int _) (.cons ((h4.same s1).same s.sG) .nil)), enum_at h3⟩
theorem di_enum {elts : List Expr} {kk : Nat} {p tpos : Pos} (e1 : X.K = K) (hg : Gl X "enumerate") (hm : X.mg "enumerate" = none) (h : DE K X e Ta)
    (hs : starEach [e] X.env = (false, eval e X.env) :: starEach [] X.env := by rfl) (hpl : (backTo pos (starEach [] X.env)).any (·.1) = false := by rfl) :
    DI K X (.Tuple elts kk tpos) (.Call (.Name "enumerate" p) [e] [] pos) (fun ρ P => Ta ρ fun d => ∃ ds, d = .list ds ∧ P (enumD ds)) := by
  subst e1
  refine ⟨PI.weak (pi_enum hg hm (pa_cons h.pe pa_nil hs) hs) fun σ H R h => ?_⟩
  obtain ⟨G0, H0, B, G, ρ, F, P, w, t, k⟩ := h
  refine ⟨G0, H0, B, G, ρ, F, _, w, t, fun d G' H' v p s r => ?_⟩
  obtain ⟨ds, rfl, p⟩ := p
  cases r with
  | @lst a vs _ h1 h2 =>
    refine ⟨a, vs, rfl, .inl (.inl (s.sGH _ _ h1)), k _ G' H' _ p s ⟨_, _, ?_, fun H q => (.inl (.inl (q _ _ h1)) : SqL X.K H a vs), enum_step h2⟩⟩
    rw [enum_len, ← h2.length]
    exact walk_enum
end
end DL
set_option Elab.async false
set_option linter.all false
set_option maxRecDepth 100000
set_option maxHeartbeats 1000000
/-! RV: xs[::-1] -/
namespace DL
open PySem PySem.Spec PyProof.Rows L2 GL
theorem DrAll.rev {K : PySem.W.Frag} {G : Hp} : ∀ {vs : List V} {ds : List PyData}, DrAll K G vs ds → DrAll K G vs.reverse ds.reverse
  | _, _, .nil => .nil
  | _, _, .cons h t => by
    rw [List.reverse_cons, List.reverse_cons]
    exact DrAll.append (DrAll.rev t) (.cons h .nil)
/-- xs[::-1] of a list -/
theorem do_rev {K : PySem.W.Frag} {X : Cx} {e : Expr} {Ta : DT} {k} {p1 p2 p3 pos : Pos} (e1 : X.K = K) (h : DE K X e Ta) :
    DO K X (.Subscript e (.Slice none none (some (.UnaryOp .USub (.Constant (.int 1) k p1) p2)) p3) pos) (fun ρ P => Ta ρ fun d => ∃ ds, d = .list ds ∧ P (.lst (ds.reverse.map .dat))) := by
  subst e1
  refine ⟨PE.weak (pe_revL h.pe) fun σ H Q h => ?_⟩
  obtain ⟨G0, H0, B, G, ρ, F, P, w, t, k⟩ := h
  refine ⟨G0, H0, B, G, ρ, F, _, w, t, fun d G' H' v p s r => ?_⟩
  obtain ⟨ds, rfl, p⟩ := p
  cases r with
  | @lst a vs _ h1 h2 =>
    exact ⟨a, vs, rfl, .inl (.inl (s.sGH _ _ h1)), fun q nq => new_own s.sGH nq h2.rev p fun o G2 H2 v2 Fv p2 s2 r2 n2 => k o G2 H2 v2 Fv p2 (s.trans s2 w.bags) r2 fun a m => s.none_back w.bags (n2 a m)⟩
end DL
set_option Elab.async false
set_option linter.all false
set_option maxRecDepth 100000
set_option maxHeartbeats 2000000
/-! EX: defs that may raise, where nothing is being shown around; what a suite asks of the error it holds -/
namespace GL
open PySem PySem.Spec PyProof.Rows L2
structure FnX (CX : CXT) (P : Program) (w : World) (K : PySem.W.Frag) (mg : Str → Option Value) (base : Heap)
    (k : Nat) (f : Addr) (fd : FuncData) (ps : List Str) (sp : Sp) : Prop where
  many : ∀ vs H Q E, sp vs H Q E → vs.length = ps.length
  does : ∀ (A : Around) (out : List Env) (s : Shared) (H : Hp) (ar : Args) (us : List Value) (vs : List V) (Q : VK) (E : XK),
    Gd A → Room k A → Env0 P w K mg base A out s H → BindsTo s fd ar (ps.zip us) → Vals vs us →
    sp vs H Q E → codeAny (model P w) A (.call (.ref f) ar) (CR CX out P w H s Q E) s
theorem okX {P : Program} {w : World} {K : PySem.W.Frag} {mg : Str → Option Value} {base : Heap} {x qual : Str} {st : Stmt} {f : Addr}
    {fd : FuncData} {N ps : List Str} {k : Nat} {sp : Sp} (F : Fun K x qual st f fd) (S : FnScope N ps (defScope st))
    (many : ∀ vs H Q E, sp vs H Q E → vs.length = ps.length)
    (body : ∀ (cdv : Value) (A : Around) (out : List Env) (s : Shared) (H : Hp) (vs : List V) (Q : VK) (E : XK),
      Gd (A.deeper (envOfC qual (defScope st) s.heap.objs.size f cdv)) →
      Room k (A.deeper (envOfC qual (defScope st) s.heap.objs.size f cdv)) → sp vs H Q E →
      ∃ t, PSs (cxOf (L2.CX P w) P w K mg base N qual (defScope st) f cdv A out s H E) (defBody st) t ∧
        t { nx := fun _ H' => Q .non H', rt := Q } (start N vs) H) :
    FnX (L2.CX P w) P w K mg base (k + 1) f fd ps sp := by
  obtain ⟨oc, od, kV, doc, pm, an, cdv, ct, osl, rfl, lk, hcd⟩ := F.ex
  refine ⟨many, fun A out s H ar us vs Q E hG hr e0 hb r hsp => ?_⟩
  have hlen := many _ _ _ _ hsp
  have inK : K.In s.heap := e0.mod.kin.keeps (fun b o e => (e0.bs b o e).1)
  have lim := (e0.mod.nolimit.keeps (h' := s.heap) (fun b o e => (e0.bs b o e).1))
  have kinds : ∀ y ∈ ps.zip us, (defScope st).names.lookup y.1 = some .local ∨ ((defScope st).names.lookup y.1 = some .cell ∧
      ((cellsFrom (s.heap.objs.size + 1) (defScope st).names []).lookup y.1).isSome = true) := by
    rintro ⟨n, v⟩ hy
    cases S.par n (List.of_mem_zip hy).1 with
    | inl q => exact Or.inl q
    | inr q => exact Or.inr ⟨q, PySem.W.cellsFrom_some _ _ _ (Or.inl q)⟩
  refine codeAny_call_function hr.depth (inK _ _ lk) rfl S.co S.gen rfl
    (PySem.W.codeRec_of inK hcd) (hb _ _ _ _ ?_)
  refine wpAny_newFunctionEnv_cells S.kind kinds (fun env he s1 entered => ?_)
  subst he
  refine ⟨lim.keeps entered.toInCall.keep, codeAny_func ?_⟩
  obtain ⟨t, ht, hq⟩ := body cdv A out s H vs Q E (hG.deep _) (hr.deeper _) hsp
  have I0 := inv_start (E := E) (mg := mg) (P := P) (CX := L2.CX P w) S hr.hd e0 hlen r entered
  refine wpAny_mono (ht.run [] s1 (start N vs) H _ I0 hq) (fun fl s' hs => ?_) (fun e s' hs => hs)
  cases fl with
  | next =>
    obtain ⟨σ', H', J, q⟩ := hs
    exact ⟨.non, H', J.os, J.bare, J.base, J.hok, rfl, q⟩
  | ret u =>
    obtain ⟨v, σ', H', J, rv, q⟩ := hs
    exact ⟨v, H', J.os, J.bare, J.base, J.hok, rv, q⟩
  | brk => obtain ⟨_, _, _, q⟩ := hs; exact q.elim
  | cont => obtain ⟨_, _, _, q⟩ := hs; exact q.elim
section
variable {X : Cx} {CX : CXT} {k : Nat} {f C : Addr} {fd : FuncData} {ps : List Str} {sp : Sp} {x m : Str} {p pos apos : Pos} {e o : Expr} {es : List Expr} {ta : TE} {t : TA} {E : L2.St → XK}
/-- f(e, ..), f may raise -/
theorem pe_callX (F : FnX CX X.prog X.w X.K X.mg X.base k f fd ps sp) (hG : Gd X.A) (hr : Room k X.A) (hg : Gl X x)
    (hm : X.mg x = some (.ref f)) (hk : PySem.W.keepIn X.K (.ref f) = true) (hb : Binds X.K fd ps []) (hx : ∀ σ, PassesAt CX X σ (E σ))
    (ha : PA X (e :: es) t) (hdb : (x == ("__debug__" : Str)) = false := by decide)
    (he : starEach (e :: es) X.env = (false, eval e X.env) :: starEach es X.env := by rfl)
    (hpl : (backTo pos (starEach es X.env)).any (·.1) = false := by rfl) :
    PE X (.Call (.Name x p) (e :: es) [] pos) (fun σ H Q => t σ H fun vs H1 => sp vs H1 Q (E σ)) := by
  constructor
  intro pins s σ H Q I h
  apply wpAny_Call_Name_kw
  apply ld_glob I hg hm ?_ hdb
  apply PySem.W.callWith_K (h₀ := X.base) I.ok.mod.kin hk ?_ he hpl
  apply thn (ha.run pos pins s σ H _ I h)
  rintro us s1 ⟨vs, H1, I1, r, q⟩
  refine ⟨I1.kIn, ?_⟩
  have hl : (us ++ []).length = ps.length := by
    rw [List.append_nil, ← r.length]
    exact F.many _ _ _ _ q
  have hbd := hb s1 us I1.kIn hl
  rw [List.append_nil] at hbd
  apply wpAny_call
  apply codeAny_mono (F.does X.A X.stack s1 H1 ⟨us, []⟩ us vs Q (E σ) hG hr I1.env0 hbd r q)
  intro res s' hq
  cases res with
  | error er => exact hx σ pins _ _ er s' I1 hq
  | ok fl =>
    cases fl with
    | ret u => exact I1.after hq
    | next => exact False.elim hq
    | brk => exact False.elim hq
    | cont => exact False.elim hq
theorem run_makeX {pins : List (Addr × Obj)} {σ : L2.St} {H : Hp} {s : Shared} {Q : VK} {us : List Value} {vs : List V} (M : Mk X.K C f) (F : FnX CX X.prog X.w X.K X.mg X.base k f fd ps sp) (hG : Gd X.A) (hr : Room (k + 1) X.A) (hb : Binds X.K fd ps []) (hx : ∀ σ, PassesAt CX X σ (E σ))
    (I : Inv X pins σ H s) (r : Vals vs us)
    (h : ∀ x dx, H x = none → H dx = none → dx ≠ x → sp (.ref x :: vs) (upd (upd H dx (.own x)) x (.ins C dx [])) (fun v H2 => v = .non ∧ Q (.ref x) H2) (E σ)) :
    wpAny (model X.prog X.w) X.A (call (.ref C) us) (EP X pins σ Q) X.xe s := by
  have hq := h (s.heap.objs.size + 1) s.heap.objs.size (I.hok.fresh (Nat.le_succ _)) (I.hok.fresh (Nat.le_refl _)) (Nat.ne_of_lt (Nat.lt_succ_self _))
  have I2 := Inv.made (C := C) I
  have r2 : Vals (V.ref (s.heap.objs.size + 1) :: vs) (Value.ref (s.heap.objs.size + 1) :: us) := .cons rfl r
  have hl : (Value.ref (s.heap.objs.size + 1) :: us ++ []).length = ps.length := by
    rw [List.append_nil, ← r2.length]
    exact F.many _ _ _ _ hq
  have hbd := hb { s with heap := (s.heap.push PySem.W.emptyDict).push (PySem.W.instObj C s.heap.objs.size) } (Value.ref (s.heap.objs.size + 1) :: us) I2.kIn hl
  rw [List.append_nil] at hbd
  refine wpAny_call (make_map (f := f) I.kIn M.makes M.init (beq_iff_eq.mp M.fn) (codeAny_mono (F.does _ X.stack _ _ ⟨Value.ref (s.heap.objs.size + 1) :: us, []⟩ (Value.ref (s.heap.objs.size + 1) :: us) _ _ (E σ) (hG.made _ _) (hr.make C us [])
    (I2.env0.make C us []) hbd r2 hq) fun r s' hq' => ?_))
  cases r with
  | error e => exact hx σ pins _ _ e s' I2 hq'
  | ok fl =>
    cases fl with
    | ret u =>
      obtain ⟨v, H', I3, rv, ev, q3⟩ := I2.after hq'
      subst ev
      exact ⟨rv, ⟨V.ref (s.heap.objs.size + 1), H', I3, rfl, q3⟩⟩
    | next => exact False.elim hq'
    | brk => exact False.elim hq'
    | cont => exact False.elim hq'
/-- C(e, ..), __init__ may raise -/
theorem pe_makeX (M : Mk X.K C f) (F : FnX CX X.prog X.w X.K X.mg X.base k f fd ps sp) (hG : Gd X.A) (hr : Room (k + 1) X.A) (hg : Gl X x) (hm : X.mg x = some (.ref C)) (hb : Binds X.K fd ps []) (hx : ∀ σ, PassesAt CX X σ (E σ))
    (ha : PA X (e :: es) t) (hdb : (x == ("__debug__" : Str)) = false := by decide) (he : starEach (e :: es) X.env = (false, eval e X.env) :: starEach es X.env := by rfl) (hpl : (backTo pos (starEach es X.env)).any (·.1) = false := by rfl) :
    PE X (.Call (.Name x p) (e :: es) [] pos) (fun σ H Q => t σ H fun vs H1 => ∀ x dx, H1 x = none → H1 dx = none → dx ≠ x →
      sp (.ref x :: vs) (upd (upd H1 dx (.own x)) x (.ins C dx [])) (fun v H2 => v = .non ∧ Q (.ref x) H2) (E σ)) := by
  refine ⟨fun pins s σ H Q I h => ?_⟩
  refine wpAny_Call_Name_kw (ld_glob I hg hm ?_ hdb)
  refine PySem.W.callWith_K (h₀ := X.base) I.ok.mod.kin M.kp (thn (ha.run pos pins s σ H _ I h) fun us s1 ⟨vs, H1, I1, r, q⟩ => ⟨I1.kIn, ?_⟩) he hpl
  exact run_makeX M F hG hr hb hx I1 r q
end
/-- isinstance(e, c), e the error that the suite holds, with its own dict -/
theorem call_isS {X : Cx} {a D : Addr} {cls : Value} {d : Option Addr} {oe : Obj} {pn : List (Addr × Obj)} (C : ExcC X.K D) (hz : Zc cls d oe) (hf : ∃ vs, oe.data = .fields vs) :
    CallR (X.suite a ((a, oe) :: pn)) (.builtin "isinstance") (fun xs H Q => ∃ (c : V) (cv : Value) (b : Bool) (dd : Addr) (fs : List (Str × V)), xs = [.ref a, c] ∧ ClsV c cv ∧ cls = .ref D ∧ d = some dd ∧ H dd = some (.xd fs) ∧ PySem.W.kitOne X.K (.ref D) cv = some b ∧ Q (.bl b) H) := by
  intro pins s σ H xs us Q I r h
  obtain ⟨c, cv, b, dd, fs, rfl, hcv, rfl, rfl, ea, e, q⟩ := h
  cases r with
  | cons rx rr =>
    cases rr with
    | cons rt rr =>
      cases rr
      cases rx
      have ec := hcv.eq rt
      subst ec
      obtain ⟨hget, _⟩ := I.pin (a, oe) (List.mem_append.mpr (.inl List.mem_cons_self))
      obtain ⟨vs, hv⟩ := hf
      have hx : ObjOk X.prog X.w H s.heap dd (.xd fs) := I.hok dd _ ea
      obtain ⟨mA, hns, hr⟩ := hx
      obtain ⟨od, ho, hl⟩ := lookIn_ns hns
      have J : PySem.W.InstAt s.heap a oe D (some od) := ⟨hget, hz.1, by unfold PySem.W.notCls; rw [hv] <;> rfl, by rw [hz.2]; exact ho⟩
      have hcl : (PySem.W.clsIn X.K D).isSome = true := by
        have := C.hd
        unfold PySem.W.hasDictIn at this
        cases k : PySem.W.clsIn X.K D with
        | none => rw [k] at this; cases this
        | some _ => rfl
      exact PySem.W.kia_one (PySem.W.kitx_exc hcl C.hg C.hk C.hs C.ha C.hn C.ht C.hm) I.kIn J e (fun z => nomatch z) fun tk => ⟨.bl b, H, I.kept (t' := tk) fun _ _ z => z, rfl, q⟩
end GL
set_option Elab.async false
set_option linter.all false
set_option maxRecDepth 100000
set_option maxHeartbeats 1000000
/-! OC: a written list of own things, one of them taken; a class called with a list of one's own that stays one's own -/
namespace DL
open PySem PySem.Spec PyProof.Rows L2 GL
theorem RepOs.getO {K : PySem.W.Frag} {G H : Hp} : ∀ {i : Nat} {os : List O} {vs : List V} {F : List Addr} {o : O}, RepOs K G H vs os F → os[i]? = some o → ∃ v F', vs[i]? = some v ∧ RepO K G H v o F' ∧ ∀ a ∈ F', a ∈ F
  | _, _, _, _, _, .nil, e => by simp at e
  | 0, _, _, _, _, .cons r t _, e => by
    have e : _ = _ := Option.some.inj (by simpa using e)
    subst e
    exact ⟨_, _, rfl, r, fun a m => List.mem_append_left _ m⟩
  | i + 1, _, _, _, _, .cons r t _, e => by
    obtain ⟨v, F', h1, h2, h3⟩ := RepOs.getO (i := i) t (by simpa using e)
    exact ⟨v, F', by simpa using h1, h2, fun a m => List.mem_append_right _ (h3 a m)⟩
section
variable {K : PySem.W.Frag} {X : Cx} {es : List Expr} {e b : Expr} {Ta Tb : DT} {pos p1 : Pos}
theorem DE.or (h : DE K X e Ta) (k : DE K X e Tb) : DE K X e (fun ρ P => Ta ρ P ∨ Tb ρ P) := by
  refine ⟨⟨fun pins s σ H Q I q => ?_⟩⟩
  obtain ⟨G0, H0, B, G, ρ, F, P, w, t, q⟩ := q
  rcases t with t | t
  · exact h.pe.run pins s σ H Q I ⟨G0, H0, B, G, ρ, F, P, w, t, q⟩
  · exact k.pe.run pins s σ H Q I ⟨G0, H0, B, G, ρ, F, P, w, t, q⟩
/-- [x, ..][e], x, .. one's own -/
theorem do_ixO {Ts : Env' → (List O → Prop) → Prop} (e1 : X.K = K) (h : DOA K X es Ts) (hb : DE K X b Tb) (hs : PlainIx b := by exact fun _ _ => rfl) :
    DO K X (.Subscript (.List es p1) b pos) (fun ρ P => Ts ρ fun os => os.length ≤ 1000 ∧ Tb ρ fun e => ∃ k o, e = .int k ∧ atI os k = some o ∧ P o) := by
  subst e1
  refine ⟨PE.weak (pe_ix ix_list (pe_lst h.pa) hb.pe hs) fun σ H Q h => ?_⟩
  obtain ⟨G0, H0, B, G, ρ, F, P, w, t, k⟩ := h
  refine ⟨G0, H0, B, G, ρ, F, _, w, t, fun os G1 H1 vs Fv p s r n => ⟨by rw [r.length]; have := p.1; rw [sizeLine_eq]; omega, fun p' np => ?_⟩⟩
  have pf : p' ∉ Fv := fun m => (r.dom p' m).2 np
  have s1 : Stp B G H G1 (upd H1 p' (.lst vs)) := s.trans (Stp.new s.sGH np) w.bags
  have w1 := w.step s1
  have r1 : RepOs X.K G1 (upd H1 p' (.lst vs)) vs os Fv := r.mono (Same.refl _) (fun a m => (r.dom a m).1) fun a m u e => by rw [upd_ne (fun z => pf (by rw [← z]; exact m))]; exact e
  refine ⟨G0, H0, B, G1, ρ, F, _, w1, p.2, fun d G2 H2 u p2 s2 r2 => ?_⟩
  obtain ⟨j, o, rfl, h1, q⟩ := p2
  cases r2
  have n0 : H p' = none := s.none_back w.bags np
  have r3 := r1.step s2 fun a m => notB_new w.bags (n a m)
  have hl : H2 p' = some (.lst vs) := s2.keep _ _ upd_same (notB_new w.bags n0)
  unfold atI at h1
  cases q1 : ixN os.length j with
  | none => rw [q1] at h1; cases h1
  | some m =>
    rw [q1] at h1
    obtain ⟨v, F', h3, h4, h5⟩ := r3.getO h1
    refine ⟨p', vs, j, v, rfl, rfl, .inl (.inl hl), ?_, k _ G2 H2 _ F' q (s1.trans s2 w.bags) h4 fun a m => n a (h5 a m)⟩
    unfold atI
    rw [r.length, q1]
    exact h3
end
/-! C(x), x a list of one's own: what is made holds nothing of it -/
abbrev IoSp := List PyData → (List (Str × PyData) → Prop) → Prop
def spIo (K : PySem.W.Frag) (C : Addr) (S : IoSp) : Sp := fun vs H Q _ => ∃ a dx b ws H0 B G ds P, vs = [.ref a, .ref b] ∧ OwnC K C ∧ H0 a = none ∧ H0 dx = none ∧ dx ≠ a ∧ H = upd (upd H0 dx (.own a)) a (.ins C dx []) ∧
  Same G H0 ∧ (∀ c, B = some c → BagAt G H0 c ∧ G c.1 = none) ∧ NotB B b ∧ G b = none ∧ H0 b = some (.lst ws) ∧ DrAll K G ws ds ∧ S ds P ∧
  ∀ fs G' H', P fs → Stp B G H0 G' H' → Dr K G' (.ref a) (obD C fs) → Q .non H'
structure MkO (P : Program) (w : World) (K : PySem.W.Frag) (mg : Str → Option Value) (base : Heap) (k : Nat) (x : Str) (C : Addr) (S : IoSp) : Prop where
  ex : ∃ (f : Addr) (fd : FuncData) (ps : List Str), FnG P w K mg base k f fd ps (spIo K C S) ∧ Mk K C f ∧ Binds K fd ps []
  own : OwnC K C
  mg : mg x = some (.ref C)
section
variable {K : PySem.W.Frag} {X : Cx} {e : Expr} {x : Str} {C : Addr} {pos p : Pos}
theorem de_makeO {i j k : Nat} {S : IoSp} (e1 : X.K = K) (M : MkO X.prog X.w X.K X.mg X.base k x C S) (hG : Gd X.A) (hr : Room j X.A) (hk : k + 1 ≤ j) (hg : Gl X x)
    (he : PE X e (tVar i)) (hdb : (x == ("__debug__" : Str)) = false := by decide) (hs : starEach [e] X.env = (false, eval e X.env) :: starEach [] X.env := by rfl) (hpl : (backTo pos (starEach [] X.env)).any (·.1) = false := by rfl) :
    DE K X (.Call (.Name x p) [e] [] pos) (fun ρ P => ∃ ds, ρ[i]? = some (some (.l (ds.map .dat))) ∧ S ds fun fs => P (obD C fs)) := by
  subst e1
  obtain ⟨f, fd, ps, F, mk, b⟩ := M.ex
  refine ⟨PE.weak (pe_makeG mk F hG (hr.mono hk) hg M.mg b (pa_cons he pa_nil hs) hdb hs hpl) fun σ H Q h => ?_⟩
  obtain ⟨G0, H0, B, G, ρ, F, P, w, ⟨ds, e0, t⟩, k⟩ := h
  obtain ⟨v, F1, e2, rn, sub⟩ := w.env.get e0
  cases rn with
  | l r =>
    cases r with
    | @lst q us _ F2 g h r1 nq =>
      obtain ⟨rfl, dr⟩ := r1.dats
      have n0 : H0 q = none := w.own q (sub q (by simp))
      have nb : NotB B q := fun c e => (w.bag _ e).2.2 n0
      refine ⟨_, e2, ?_⟩
      intro a dx na ndx ne
      exact ⟨a, dx, q, us, H, B, G, ds, _, rfl, M.own, na, ndx, ne, rfl, w.sGH, fun b e => ⟨(w.bag b e).1, (w.bag b e).2.1⟩, nb, g, h, dr, t, fun fs G2 H2 p2 s2 r2 => ⟨rfl, k _ G2 H2 _ p2 s2 r2⟩⟩
end
end DL
set_option Elab.async false
set_option linter.all false
set_option maxRecDepth 100000
set_option maxHeartbeats 1000000
/-! SA: xs[a:b] = ys -/
namespace GL
open PySem PySem.Spec PyProof.Rows L2
section
variable {prog : Program} {w : World} {A : Around} {E : Value → Shared → Prop} {s : Shared}
theorem setItem_slice {l r sl : Addr} {items new : Array Value} {n : Nat} {vl vu : Value} {lo hi : Option Int} {a b : Nat} {Q : Unit → Shared → Prop} (ho : s.heap.get? l = some { cls := .type "list", data := .seq items n }) (hr : s.heap.IsList r new) (ne : l ≠ r)
    (hs : s.heap.IsSliceOf sl vl vu .none) (pl : IsPart vl lo) (pu : IsPart vu hi) (hb : sliceBounds lo hi none items.size = ((a : Int), (b : Int), 1)) (ha : a ≤ items.size) (hz : items.size + new.size ≤ sizeLine)
    (hQ : Q () { s with heap := s.heap.update l (Obj.mapSeq fun xs => xs.extract 0 a ++ new ++ xs.extract (max a b) xs.size) }) : wpAny (model prog w) A (setItem (.ref l) (.ref sl) (.ref r)) Q E s := by
  have hl : s.heap.IsList l items := PySem.IsL.isList (n := n) ho
  obtain ⟨orr, hor, hcr, nr, hdr⟩ := id hr
  obtain ⟨os, hos, hcs, hds⟩ := id hs
  have hTs : s.TypeIs (.ref sl) "slice" := ⟨os, hos, hcs⟩
  unfold setItem
  try with_reducible refine wpAny_holding ?_
  first | refine wpAny_bind (wpAny_pure ?_) | skip
  refine wpAny_bind (wpAny_sequenceKey hl.typeIs (by decide) ?_)
  refine wpAny_bind (wpAny_callSpecial?_slot (name := Str.ofString "__setitem__") hl.typeIs slot_list_setitem
    (wpAny_call_entry slot_list_setitem hl.typeIs entry_list_setitem ?_ (args_list_setitem _ _ _)))
  show wpAny _ _ (Builtin.List.listSubscript? (.ref sl) >>= _) _ _ s
  refine wpAny_bind ?_
  unfold Builtin.List.listSubscript?
  refine wpAny_bind (wpAny_specialOf hTs slice_no_index ?_)
  simp only [Option.isNone_none, if_true]
  refine wpAny_pure ?_
  show wpAny _ _ (typeOf (.ref sl) >>= _) _ _ s
  refine wpAny_bind (wpAny_typeOf hTs ?_)
  rw [if_neg (by decide)]
  rw [listSliceParts_eq]
  refine wpAny_bind (wpAny_bind (wpAny_field hos hds (x := .none) rfl (wpAny_bind (wpAny_listPart .none ?_))))
  rw [if_neg (show ¬ ((rawPart none == rawInt 0) = true) from Bool.false_ne_true)]
  refine wpAny_bind (wpAny_field hos hds (x := vl) rfl (wpAny_bind (wpAny_listPart pl ?_)))
  refine wpAny_bind (wpAny_field hos hds (x := vu) rfl (wpAny_bind (wpAny_listPart pu (wpAny_pure ?_))))
  have same : Builtin.List.listSameRef (.ref l) (.ref r) = false := by
    unfold Builtin.List.listSameRef
    simp [ne]
  dsimp only
  rw [same, if_neg Bool.false_ne_true]
  refine wpAny_bind (m := Builtin.List.listAllItems (.ref r) _) ?_
  unfold Builtin.List.listAllItems
  refine wpAny_bind (wpAny_typeOf hr.typeIs ?_)
  rw [if_pos (by decide)]
  unfold Builtin.List.listItems
  refine wpAny_bind (wpAny_seqItems hor hdr (wpAny_pure ?_))
  refine wpAny_bind (wpAny_bind (wpAny_seqItems ho rfl (wpAny_pure ?_)))
  refine wpAny_bind (wpAny_of_eq (sliceIndices_raw lo hi none items.size nofun) ?_)
  rw [hb]
  dsimp only
  rw [if_pos (by decide)]
  refine wpAny_bind (wpAny_rule ?_)
  have hl2 : Builtin.List.listTooLong (items.size + new.size) = false := by
    unfold Builtin.List.listTooLong
    simpa using hz
  rw [hl2, if_neg Bool.false_ne_true]
  have e1 : ((a : Int)).toNat = a := Int.toNat_natCast a
  have e2 : (max (a : Int) (b : Int)).toNat = max a b := by omega
  rw [e1, e2]
  unfold Builtin.List.listUpdate
  refine wpAny_bind (wpAny_updateSeq ho rfl ?_ (by omega) (by
    simp only [Array.size_append, Array.size_extract]
    omega))
  refine wpAny_bind (wpAny_letGo ?_)
  exact wpAny_pure ⟨.none, rfl, wpAny_pure hQ⟩
end
section
variable {X : Cx} {o : Expr} {lo hi : Option Expr} {to : TE} {tl th : TO} {pos p2 : Pos}
/-- xs[a:b] = a list -/
def gSlL (K : PySem.W.Frag) (to : TE) (tl th : TO) : TG := fun v σ H Q => to σ H fun x H1 => tl σ H1 fun l H2 => th σ H2 fun u H3 => ∃ p xs q ys, x = .ref p ∧ v = .ref q ∧ p ≠ q ∧ H3 p = some (.lst xs) ∧ SqL K H3 q ys ∧ xs.length + ys.length ≤ sizeLine ∧
  Q σ (upd H3 p (.lst (xs.take (HT.sIx xs.length 0 l) ++ ys ++ xs.drop (max (HT.sIx xs.length 0 l) (HT.sIx xs.length xs.length u)))))
theorem pg_slL (ho : PE X o to) (hl : PO X lo tl) (hu : PO X hi th)
    (ha : ∀ v, assign (.Subscript o (.Slice lo hi none p2) pos) X.env v = (do
      let ov ← holding [v] (eval o X.env)
      let iv ← holding [v, ov] (eval (.Slice lo hi none p2) X.env)
      standAt pos
      holding [v, ov, iv] (setItem ov iv v)
      release [v, ov, iv] []) := by intro _; rfl) : PG X (.Subscript o (.Slice lo hi none p2) pos) (gSlL X.K to tl th) := by
  refine ⟨fun pins s σ H v u Q I r h => ?_⟩
  rw [ha]
  refine wpAny_bind (wpAny_holding (thn (ho.run pins s σ H _ I h) fun ov s1 ⟨x, H1, I1, r1, q1⟩ => ?_))
  refine wpAny_bind (wpAny_holding (wpAny_Slice (thn (hl.run pins s1 σ H1 _ I1 q1) fun vl s2 ⟨l, H2, I2, pl, q2⟩ => thn (hu.run pins s2 σ H2 _ I2 q2) fun vu s3 ⟨u', H3, I3, pu, q3⟩ => ?_)))
  rw [evalPart_none]
  refine wpAny_pure ?_
  have I4 : Inv X pins σ H3 { s3 with heap := s3.heap.push { cls := .type "slice", data := .fields #[vl, vu, .none] } } := I3.kept (t' := s3.toks) fun b ob q => Heap.get?_push_of_some _ q
  obtain ⟨p, xs, q, ys, rfl, rfl, ne, hp, hq, hz, q4⟩ := q3
  cases r1
  cases r
  obtain ⟨its, n, rv, hop, hz1⟩ := I4.lst hp
  obtain ⟨its2, rv2, hl2, hz2⟩ := I4.list hq
  have hlen := rv.length
  have hlen2 := rv2.length
  obtain ⟨b1, b2, b3⟩ := slice_bounds l u' its.toArray.size
  have hb : sliceBounds l u' none its.toArray.size = (((HT.sIx xs.length 0 l : Nat) : Int), ((HT.sIx xs.length xs.length u' : Nat) : Int), 1) := by
    rw [List.size_toArray, ← hlen] at b1 b2 b3 ⊢
    exact Prod.ext b1 (Prod.ext b2 b3)
  refine wpAny_bind (wpAny_standAt (wpAny_bind (wpAny_holding (setItem_slice hop hl2.isList ne (Heap.IsSliceOf.new ..) pl pu hb (by rw [List.size_toArray, ← hlen]; exact HT.sIx_le _ _ (Nat.zero_le _) _) (by rw [List.size_toArray, List.size_toArray, ← hlen, ← hlen2]; exact hz) ?_))))
  have e : (its.toArray.extract 0 (HT.sIx xs.length 0 l) ++ its2.toArray ++ its.toArray.extract (max (HT.sIx xs.length 0 l) (HT.sIx xs.length xs.length u')) its.toArray.size) = (its.take (HT.sIx xs.length 0 l) ++ its2 ++ its.drop (max (HT.sIx xs.length 0 l) (HT.sIx xs.length xs.length u'))).toArray := by
    have e2 : List.take (its.length - max (HT.sIx xs.length 0 l) (HT.sIx xs.length xs.length u')) (List.drop (max (HT.sIx xs.length 0 l) (HT.sIx xs.length xs.length u')) its) = List.drop (max (HT.sIx xs.length 0 l) (HT.sIx xs.length xs.length u')) its := List.take_of_length_le (by rw [List.length_drop]; omega)
    simp [e2]
  have hf : Obj.mapSeq (fun zs => zs.extract 0 (HT.sIx xs.length 0 l) ++ its2.toArray ++ zs.extract (max (HT.sIx xs.length 0 l) (HT.sIx xs.length xs.length u')) zs.size) { cls := .type "list", data := .seq its.toArray n } = { cls := .type "list", data := .seq (its.take (HT.sIx xs.length 0 l) ++ its2 ++ its.drop (max (HT.sIx xs.length 0 l) (HT.sIx xs.length xs.length u'))).toArray (if ((its.take (HT.sIx xs.length 0 l) ++ its2 ++ its.drop (max (HT.sIx xs.length 0 l) (HT.sIx xs.length xs.length u'))).toArray.size == its.toArray.size) = true then n else n + 1) } := by
    unfold Obj.mapSeq
    dsimp only
    rw [e]
  refine wpAny_release ⟨σ, _, I4.lstUpd hp hop hf (((rv.take _).append rv2).append (rv.drop _)) ?_ s3.toks, q4⟩
  rw [List.length_append, List.length_append, List.length_take, List.length_drop]
  omega
end
end GL
set_option Elab.async false
set_option linter.all false
set_option maxRecDepth 100000
set_option maxHeartbeats 1000000
/-! LZ: list(zip(x, y)), x, y texts, lists, tuples -/
namespace GL
open PySem PySem.Spec PyProof.Rows L2
section
variable {prog : Program} {w : World} {A : Around} {E : Value → Shared → Prop} {s : Shared} {z TI TO i1 i2 T : Addr} {fp1 fp2 : List Addr} {n1 n2 i : Nat} {P1 P2 : Nat → Value → Prop} {St1 St2 : Nat → Heap → Prop} {f : Bool} {oT : Obj}
/-- next(zip), the last pair still held -/
theorem zh_item {Q : Value → Shared → Prop} (S : ZipSep2 z TI TO i1 i2 fp1 fp2) (D1 : Draws prog w A i1 fp1 n1 P1 St1) (D2 : Draws prog w A i2 fp2 n2 P2 St2) (hz : PySem.IsZipHeld s.heap z TI TO T f) (hT : s.heap.get? T = some oT)
    (hTI : IsTupOf2 s.heap TI (.ref i1) (.ref i2)) (st1 : St1 i s.heap) (st2 : St2 i s.heap) (hlt1 : i < n1) (hlt2 : i < n2)
    (hQ : ∀ x1 x2 h' tk, P1 i x1 → P2 i x2 → PySem.IsZipHeld h' z TI TO T true → St1 (i + 1) h' → St2 (i + 1) h' → IsTupOf2 h' s.heap.objs.size x1 x2 → h'.objs.size = s.heap.objs.size + 1 →
      (∀ c o, c ≠ z → c ≠ i1 → c ≠ i2 → s.heap.get? c = some o → h'.get? c = some o) → Q (.ref s.heap.objs.size) { s with heap := h', toks := tk }) :
    wpAny (model prog w) A (Builtin.«zip.__next__» ⟨[.ref z], []⟩) (fun fin s' => ∃ v, fin = .done (.ret v) ∧ Q v s') E s := by
  have zi1 := S.zi1
  have zi2 := S.zi2
  show wpAny _ _ (field (.ref z) 2 >>= _) _ _ _
  refine wpAny_bind (wpAny_field hz rfl (x := .bool false) rfl ?_)
  show wpAny _ _ (field (.ref z) 3 >>= _) _ _ _
  refine wpAny_bind (wpAny_field hz rfl (x := .ref TI) rfl (wpAny_bind (wpAny_seqItems hTI rfl ?_)))
  show wpAny _ _ (Builtin.SmallTypes.ownedTupleIsFree (.ref z) >>= _) _ _ _
  refine wpAny_bind (PySem.wpAny_tupleHeld_zip hz hT fun h₁ hz₁ hs₁ => ?_)
  simp only [Bool.false_eq_true, if_false]
  refine wpAny_bind ?_
  rw [← Array.forIn_toList]
  simp only [List.forIn_cons, List.forIn_nil]
  refine wpAny_bind (wpAny_bind (wpAny_holding ?_))
  show wpAny _ _ (Builtin.SmallTypes.nextOf (.ref i1) >>= _) _ _ _
  refine wpAny_bind (D1.item i { s with heap := h₁ } _ _ hlt1 (D1.over st1 hs₁ S.zf1) fun x1 h₂ tk₂ p1 st1₂ hs₂ => wpAny_pure (wpAny_pure ?_))
  have st2₂ : St2 i h₂ := D2.over (D2.over st2 hs₁ S.zf2) hs₂ S.sep1_2
  refine wpAny_bind (wpAny_bind (wpAny_holding ?_))
  show wpAny _ _ (Builtin.SmallTypes.nextOf (.ref i2) >>= _) _ _ _
  refine wpAny_bind (D2.item i { s with heap := h₂, toks := tk₂ } _ _ hlt2 st2₂ fun x2 h₃ tk₃ p2 st2₃ hs₃ => wpAny_pure (wpAny_pure (wpAny_pure ?_)))
  show wpAny _ _ (newTuple [x1, x2] >>= _) _ _ _
  refine wpAny_bind (wpAny_newTuple ?_)
  have hsz : h₃.objs.size = s.heap.objs.size := by rw [hs₃.1, hs₂.1, hs₁.1]
  have hz₃ : PySem.IsZipHeld h₃ z TI TO T true := hs₃.extBut _ _ zi2 (hs₂.extBut _ _ zi1 hz₁)
  have hk : ∀ c o, c ≠ z → c ≠ i1 → c ≠ i2 → s.heap.get? c = some o → h₃.get? c = some o := fun c o c1 c2 c3 e => hs₃.extBut _ _ c3 (hs₂.extBut _ _ c2 (hs₁.extBut _ _ c1 e))
  have st1₃ : St1 (i + 1) h₃ := D1.over st1₂ hs₃ S.sep2_1
  have up : ∀ {c : Addr} {o : Obj}, h₃.get? c = some o → (h₃.push { cls := .type "tuple", data := .seq #[x1, x2] }).get? c = some o := fun e => Heap.get?_push_of_some _ e
  refine wpAny_pure ⟨_, rfl, ?_⟩
  show Q (.ref h₃.objs.size) _
  have hp : IsTupOf2 (h₃.push { cls := .type "tuple", data := .seq #[x1, x2] }) h₃.objs.size x1 x2 := Heap.get?_push_size _ rfl
  have hz4 : (h₃.push { cls := .type "tuple", data := .seq #[x1, x2] }).objs.size = h₃.objs.size + 1 := Heap.size_push ..
  rw [hsz] at hp hz4 ⊢
  exact hQ x1 x2 _ tk₃ p1 p2 (up hz₃) (D1.frame _ _ _ st1₃ fun b _ o e => up e) (D2.frame _ _ _ st2₃ fun b _ o e => up e) hp hz4 fun c o c1 c2 c3 e => up (hk c o c1 c2 c3 e)
/-- next(zip) at its end, the last pair still held -/
theorem zh_end {Q : Fin → Shared → Prop} (S : ZipSep2 z TI TO i1 i2 fp1 fp2) (D1 : Draws prog w A i1 fp1 n1 P1 St1) (D2 : Draws prog w A i2 fp2 n2 P2 St2) (hz : PySem.IsZipHeld s.heap z TI TO T f) (hT : s.heap.get? T = some oT)
    (hTI : IsTupOf2 s.heap TI (.ref i1) (.ref i2)) (st1 : St1 i s.heap) (st2 : St2 i s.heap) (hend : i = n1 ∨ (i < n1 ∧ i = n2))
    (hE : ∀ h' tk e, (∀ c o, c ≠ z → c ≠ i1 → c ≠ i2 → s.heap.get? c = some o → h'.get? c = some o) → (∃ o, h'.get? e = some o ∧ o.cls = .type "StopIteration") → E (.ref e) { s with heap := h', toks := tk }) :
    wpAny (model prog w) A (Builtin.«zip.__next__» ⟨[.ref z], []⟩) Q E s := by
  show wpAny _ _ (field (.ref z) 2 >>= _) _ _ _
  refine wpAny_bind (wpAny_field hz rfl (x := .bool false) rfl ?_)
  show wpAny _ _ (field (.ref z) 3 >>= _) _ _ _
  refine wpAny_bind (wpAny_field hz rfl (x := .ref TI) rfl (wpAny_bind (wpAny_seqItems hTI rfl ?_)))
  show wpAny _ _ (Builtin.SmallTypes.ownedTupleIsFree (.ref z) >>= _) _ _ _
  refine wpAny_bind (PySem.wpAny_tupleHeld_zip hz hT fun h₁ hz₁ hs₁ => ?_)
  simp only [Bool.false_eq_true, if_false]
  refine wpAny_bind ?_
  rw [← Array.forIn_toList]
  simp only [List.forIn_cons, List.forIn_nil]
  refine wpAny_bind (wpAny_bind (wpAny_holding ?_))
  show wpAny _ _ (Builtin.SmallTypes.nextOf (.ref i1) >>= _) _ _ _
  rcases hend with rfl | ⟨hlt, rfl⟩
  · refine wpAny_bind (D1.done { s with heap := h₁ } _ _ (D1.over st1 hs₁ S.zf1) fun h₂ e hs₂ he => ?_)
    exact hE h₂ _ e (fun c o c1 c2 _ x => hs₂ _ _ c2 (hs₁.extBut _ _ c1 x)) he
  · refine wpAny_bind (D1.item i { s with heap := h₁ } _ _ hlt (D1.over st1 hs₁ S.zf1) fun x1 h₂ tk₂ p1 st1₂ hs₂ => wpAny_pure (wpAny_pure ?_))
    refine wpAny_bind (wpAny_bind (wpAny_holding ?_))
    show wpAny _ _ (Builtin.SmallTypes.nextOf (.ref i2) >>= _) _ _ _
    refine wpAny_bind (D2.done { s with heap := h₂, toks := tk₂ } _ _ (D2.over (D2.over st2 hs₁ S.zf2) hs₂ S.sep1_2) fun h₃ e hs₃ he => ?_)
    exact hE h₃ _ e (fun c o c1 c2 c3 x => hs₃ _ _ c3 (hs₂.extBut _ _ c2 (hs₁.extBut _ _ c1 x))) he
theorem zn_item {Q : Option Value → Shared → Prop} (S : ZipSep2 z TI TO i1 i2 fp1 fp2) (D1 : Draws prog w A.in1 i1 fp1 n1 P1 St1) (D2 : Draws prog w A.in1 i2 fp2 n2 P2 St2) (hz : PySem.IsZipHeld s.heap z TI TO T f) (hT : s.heap.get? T = some oT)
    (hTI : IsTupOf2 s.heap TI (.ref i1) (.ref i2)) (st1 : St1 i s.heap) (st2 : St2 i s.heap) (hlt1 : i < n1) (hlt2 : i < n2)
    (hQ : ∀ x1 x2 h' tk, P1 i x1 → P2 i x2 → PySem.IsZipHeld h' z TI TO T true → St1 (i + 1) h' → St2 (i + 1) h' → IsTupOf2 h' s.heap.objs.size x1 x2 → h'.objs.size = s.heap.objs.size + 1 →
      (∀ c o, c ≠ z → c ≠ i1 → c ≠ i2 → s.heap.get? c = some o → h'.get? c = some o) → Q (some (.ref s.heap.objs.size)) { s with heap := h', toks := tk }) :
    wpAny (model prog w) A (pyNext (.ref z)) Q E s := by
  have ty : s.TypeIs (.ref z) "zip" := ⟨_, hz, rfl⟩
  unfold pyNext
  exact wpAny_bind (wpAny_attempt (wpAny_callSpecial?_slot (name := Str.ofString "__next__") ty PySem.F.slot_zip_next (wpAny_call_entry PySem.F.slot_zip_next ty PySem.F.entry_zip_next
    (zh_item S D1 D2 hz hT hTI st1 st2 hlt1 hlt2 fun x1 x2 h' tk b1 b2 b3 b4 b5 b6 b7 b8 => wpAny_pure (hQ x1 x2 h' tk b1 b2 b3 b4 b5 b6 b7 b8)) (PySem.F.args_zip_next_1 _))))
theorem zn_end {Q : Option Value → Shared → Prop} (S : ZipSep2 z TI TO i1 i2 fp1 fp2) (D1 : Draws prog w A.in1 i1 fp1 n1 P1 St1) (D2 : Draws prog w A.in1 i2 fp2 n2 P2 St2) (hz : PySem.IsZipHeld s.heap z TI TO T f) (hT : s.heap.get? T = some oT)
    (hTI : IsTupOf2 s.heap TI (.ref i1) (.ref i2)) (st1 : St1 i s.heap) (st2 : St2 i s.heap) (hend : i = n1 ∨ (i < n1 ∧ i = n2))
    (hQ : ∀ h' tk, (∀ c o, c ≠ z → c ≠ i1 → c ≠ i2 → s.heap.get? c = some o → h'.get? c = some o) → Q none { s with heap := h', toks := tk }) : wpAny (model prog w) A (pyNext (.ref z)) Q E s := by
  have ty : s.TypeIs (.ref z) "zip" := ⟨_, hz, rfl⟩
  unfold pyNext
  refine wpAny_bind (wpAny_attempt (wpAny_callSpecial?_slot (name := Str.ofString "__next__") ty PySem.F.slot_zip_next (wpAny_call_entry PySem.F.slot_zip_next ty PySem.F.entry_zip_next (zh_end S D1 D2 hz hT hTI st1 st2 hend fun h' tk e hk he => ?_) (PySem.F.args_zip_next_1 _))))
  obtain ⟨o, ho, hc⟩ := he
  exact wpAny_bind (wpAny_isInstance (T := "StopIteration") (b := true) ⟨o, ho, hc⟩ isSubtype_stop (wpAny_pure (hQ _ _ hk)))
/-- where the zip stands, i pairs drawn -/
def ZSt (h : Heap) (z TI TO S i1 i2 : Addr) (i : Nat) : Prop := (i = 0 ∧ IsZip h z TI TO .none ∧ ∃ a b, IsTupOf2 h TO a b) ∨ ∃ T f oT, PySem.IsZipHeld h z TI TO T f ∧ h.get? T = some oT ∧ T ≠ z ∧ T ≠ i1 ∧ T ≠ i2 ∧ T ≠ S
/-- the pairs drawn -/
structure ZG (P1 P2 : Nat → Value → Prop) (lo : Addr) (h : Heap) (as : List Addr) : Prop where
  rise : as.Pairwise (· < ·)
  above : ∀ a ∈ as, lo < a
  pairs : ∀ (j : Nat) (a : Addr), as[j]? = some a → ∃ x1 x2, P1 j x1 ∧ P2 j x2 ∧ IsTupOf2 h a x1 x2
theorem ZG.there {lo : Addr} {h : Heap} {as : List Addr} (g : ZG P1 P2 lo h as) {a : Addr} (ha : a ∈ as) : a < h.objs.size := by
  obtain ⟨j, hj⟩ := List.mem_iff_getElem?.mp ha
  obtain ⟨_, _, _, _, e⟩ := g.pairs j a hj
  exact Heap.lt_size e
theorem zs_item {Q : Option Value → Shared → Prop} {L : Addr} (S : ZipSep2 z TI TO i1 i2 fp1 fp2) (D1 : Draws prog w A.in1 i1 fp1 n1 P1 St1) (D2 : Draws prog w A.in1 i2 fp2 n2 P2 St2) (hs : ZSt s.heap z TI TO L i1 i2 i)
    (hTI : IsTupOf2 s.heap TI (.ref i1) (.ref i2)) (st1 : St1 i s.heap) (st2 : St2 i s.heap) (hlt1 : i < n1) (hlt2 : i < n2) (hL : L < s.heap.objs.size) (b1 : i1 < s.heap.objs.size) (b2 : i2 < s.heap.objs.size)
    (hQ : ∀ x1 x2 h' tk, P1 i x1 → P2 i x2 → ZSt h' z TI TO L i1 i2 (i + 1) → St1 (i + 1) h' → St2 (i + 1) h' → IsTupOf2 h' s.heap.objs.size x1 x2 → h'.objs.size = s.heap.objs.size + 1 →
      (∀ c o, c ≠ z → c ≠ TO → c ≠ i1 → c ≠ i2 → s.heap.get? c = some o → h'.get? c = some o) → Q (some (.ref s.heap.objs.size)) { s with heap := h', toks := tk }) :
    wpAny (model prog w) A (pyNext (.ref z)) Q E s := by
  rcases hs with ⟨rfl, hz, a, b, hTO⟩ | ⟨T, f, oT, hz, hT, t1, t2, t3, t4⟩
  · exact wpAny_pyNext_zipD2_item S D1 D2 hz hTI hTO st1 st2 hlt1 hlt2 fun x1 x2 h' tk y1 y2 q1 q2 q3 q4 q5 q6 q7 => hQ x1 x2 h' tk y1 y2
      (.inr ⟨_, _, _, q1, q5, Nat.ne_of_gt (Heap.lt_size hz), Nat.ne_of_gt b1, Nat.ne_of_gt b2, Nat.ne_of_gt hL⟩) q3 q4 q5 q6 q7
  · exact zn_item S D1 D2 hz hT hTI st1 st2 hlt1 hlt2 fun x1 x2 h' tk y1 y2 q1 q3 q4 q5 q6 q7 => hQ x1 x2 h' tk y1 y2 (.inr ⟨T, true, oT, q1, q7 T oT t1 t2 t3 hT, t1, t2, t3, t4⟩) q3 q4 q5 q6 fun c o c1 _ c3 c4 => q7 c o c1 c3 c4
theorem zs_end {Q : Option Value → Shared → Prop} {L : Addr} (S : ZipSep2 z TI TO i1 i2 fp1 fp2) (D1 : Draws prog w A.in1 i1 fp1 n1 P1 St1) (D2 : Draws prog w A.in1 i2 fp2 n2 P2 St2) (hs : ZSt s.heap z TI TO L i1 i2 i)
    (hTI : IsTupOf2 s.heap TI (.ref i1) (.ref i2)) (st1 : St1 i s.heap) (st2 : St2 i s.heap) (hi : i = min n1 n2)
    (hQ : ∀ h' tk, (∀ c o, c ≠ z → c ≠ TO → c ≠ i1 → c ≠ i2 → s.heap.get? c = some o → h'.get? c = some o) → Q none { s with heap := h', toks := tk }) : wpAny (model prog w) A (pyNext (.ref z)) Q E s := by
  rcases hs with ⟨e, hz, a, b, hTO⟩ | ⟨T, f, oT, hz, hT, t1, t2, t3, t4⟩
  · exact wpAny_pyNext_zipD2_end S D1 D2 hz hTI hTO st1 st2 (by omega) (by omega) (by omega) hQ
  · exact zn_end S D1 D2 hz hT hTI st1 st2 (by omega) fun h' tk q => hQ h' tk fun c o c1 _ c3 c4 => q c o c1 c3 c4
end
section
variable {prog : Program} {w : World} {A : Around} {E : Value → Shared → Prop} {s : Shared} {z TI TO i1 i2 L : Addr} {fp1 fp2 : List Addr} {n1 n2 : Nat} {P1 P2 : Nat → Value → Prop} {St1 St2 : Nat → Heap → Prop}
theorem zl_loop {R : Result → Shared → Prop} (S : ZipSep2 z TI TO i1 i2 fp1 fp2) (D1 : Draws prog w A.in1.in1 i1 fp1 n1 P1 St1) (D2 : Draws prog w A.in1.in1 i2 fp2 n2 P2 St2) (lz : z < L) (l1 : i1 < L) (l2 : i2 < L) (lT : TI < L) (lO : TO < L) (f1 : ∀ b ∈ fp1, b < L) (f2 : ∀ b ∈ fp2, b < L)
    (hn : min n1 n2 ≤ sizeLine) (res : Value) {h₁ : Heap}
    (hR : ∀ h' tk acc c as, (∀ b o, b ≠ L → b ≠ z → b ≠ TO → b ≠ i1 → b ≠ i2 → h₁.get? b = some o → h'.get? b = some o) → h'.get? L = some { cls := .type "list", dict := none, data := .seq acc c, slots := #[] } → as.length = min n1 n2 → ZG P1 P2 L h' as →
      acc.toList = as.map Value.ref → R (.ok (.ret res)) { s with heap := h', toks := tk }) :
    ∀ (k i : Nat) (h : Heap) (tk c : Nat) (acc : Array Value) (as : List Addr), min n1 n2 - i = k → i ≤ min n1 n2 → ZSt h z TI TO L i1 i2 i → IsTupOf2 h TI (.ref i1) (.ref i2) → St1 i h → St2 i h → (∀ b o, b ≠ L → b ≠ z → b ≠ TO → b ≠ i1 → b ≠ i2 → h₁.get? b = some o → h.get? b = some o) →
      h.get? L = some { cls := .type "list", dict := none, data := .seq acc c, slots := #[] } → acc.toList = as.map Value.ref → as.length = i → ZG P1 P2 L h as →
      codeAny (model prog w) A (.builtin "list.extend.loop" ⟨[.ref L, .ref z, res], []⟩) R { s with heap := h, toks := tk } := by
  have nz : L ≠ z := Nat.ne_of_gt lz
  have nO : L ≠ TO := Nat.ne_of_gt lO
  have m1 : L ≠ i1 := Nat.ne_of_gt l1
  have m2 : L ≠ i2 := Nat.ne_of_gt l2
  have up1 : ∀ {a : Addr}, L < a → a ≠ z ∧ a ≠ TO ∧ a ≠ i1 ∧ a ≠ i2 ∧ a ≠ L := fun h => ⟨Nat.ne_of_gt (Nat.lt_trans lz h), Nat.ne_of_gt (Nat.lt_trans lO h), Nat.ne_of_gt (Nat.lt_trans l1 h), Nat.ne_of_gt (Nat.lt_trans l2 h), Nat.ne_of_gt h⟩
  intro k
  induction k with
  | zero =>
    intro i h tk c acc as hk hi hst hTI st1 st2 hkeep hS hacc hal hG
    refine codeAny_builtin PySem.F.entry_extend_loop ?_
    rw [Around.under_plainId PySem.F.plain_extend_loop _]
    show wpAny _ A.in1 (pyNext (.ref z) >>= _) _ _ _
    refine wpAny_bind (zs_end (s := { s with heap := h, toks := tk }) (A := A.in1) S D1 D2 hst hTI st1 st2 (by omega) fun h' tk' he => ?_)
    refine wpAny_pure (hR h' tk' acc c as (fun b o c1 c2 c3 c4 c5 e => he b o c2 c3 c4 c5 (hkeep b o c1 c2 c3 c4 c5 e)) (he L _ nz nO m1 m2 hS) (by omega) ⟨hG.rise, hG.above, fun j a hj => ?_⟩ hacc)
    have ha := hG.above a (List.mem_of_getElem? hj)
    obtain ⟨x1, x2, e1, e2, e3⟩ := hG.pairs j a hj
    exact ⟨x1, x2, e1, e2, he a _ (up1 ha).1 (up1 ha).2.1 (up1 ha).2.2.1 (up1 ha).2.2.2.1 e3⟩
  | succ k ih =>
    intro i h tk c acc as hk hi hst hTI st1 st2 hkeep hS hacc hal hG
    have hsz : acc.size = i := by rw [← Array.length_toList, hacc, List.length_map, hal]
    have hLl : L < h.objs.size := Heap.lt_size hS
    refine codeAny_builtin PySem.F.entry_extend_loop ?_
    rw [Around.under_plainId PySem.F.plain_extend_loop _]
    show wpAny _ A.in1 (pyNext (.ref z) >>= _) _ _ _
    refine wpAny_bind (zs_item (s := { s with heap := h, toks := tk }) (A := A.in1) S D1 D2 hst hTI st1 st2 (by omega) (by omega) hLl (Nat.lt_trans l1 hLl) (Nat.lt_trans l2 hLl) fun x1 x2 h' tk' p1 p2 hst' st1' st2' ht hz hkp => ?_)
    dsimp only at ht hz hkp ⊢
    have hS' := hkp L _ nz nO m1 m2 hS
    have hTI' := hkp TI _ S.TIz S.TITO S.TIi1 S.TIi2 hTI
    have up : ∀ b o, b ≠ L → h'.get? b = some o → (h'.update L (Obj.mapSeq (·.push (Value.ref h.objs.size)))).get? b = some o := fun b o hb e => (Heap.get?_update_other _ _ (Ne.symm hb)).trans e
    have hst2 : ZSt (h'.update L (Obj.mapSeq (·.push (Value.ref h.objs.size)))) z TI TO L i1 i2 (i + 1) := by
      rcases hst' with ⟨e, _⟩ | ⟨T, f, oT, q1, q2, q3, q4, q5, q6⟩
      · omega
      · exact .inr ⟨T, f, oT, up _ _ (Ne.symm nz) q1, up _ _ q6 q2, q3, q4, q5, q6⟩
    show wpAny _ A.in1 (updateSeq L (·.push (Value.ref h.objs.size)) >>= _) _ _ _
    refine wpAny_bind ?_
    refine wpAny_updateSeq hS' rfl (wpAny_pure ⟨plainId_quiet PySem.F.plain_extend_loop _, ih (i + 1) _ tk' _ (acc.push (Value.ref h.objs.size)) (as ++ [h.objs.size]) (by omega) (by omega) hst2 (up _ _ (Nat.ne_of_lt lT) hTI')
      (D1.frame _ _ _ st1' fun b hb o e => up b o (Nat.ne_of_lt (f1 b hb)) e) (D2.frame _ _ _ st2' fun b hb o e => up b o (Nat.ne_of_lt (f2 b hb)) e)
      (fun b o c1 c2 c3 c4 c5 e => up b o c1 (hkp b o c2 c3 c4 c5 (hkeep b o c1 c2 c3 c4 c5 e))) (Heap.get?_update_self _ hS' rfl) (by rw [Array.toList_push, hacc, List.map_append]; rfl) (by rw [List.length_append, hal]; rfl) ⟨?_, ?_, ?_⟩⟩)
      (by rw [hsz]; omega) (by show (acc.push (Value.ref h.objs.size)).size ≤ sizeLine + 1; rw [Array.size_push, hsz]; omega)
    · refine List.pairwise_append.mpr ⟨hG.rise, List.pairwise_singleton _ _, fun a ha b hb => ?_⟩
      rw [List.mem_singleton.mp hb]
      exact hG.there ha
    · intro a ha
      rcases List.mem_append.mp ha with ha | ha
      · exact hG.above a ha
      · rw [List.mem_singleton.mp ha]
        exact hLl
    · intro j b hj
      rcases Nat.lt_trichotomy j as.length with h1 | h1 | h1
      · rw [List.getElem?_append_left h1] at hj
        obtain ⟨y1, y2, e1, e2, e3⟩ := hG.pairs j b hj
        have hb := hG.above b (List.mem_of_getElem? hj)
        exact ⟨y1, y2, e1, e2, up b _ (Nat.ne_of_gt hb) (hkp b _ (up1 hb).1 (up1 hb).2.1 (up1 hb).2.2.1 (up1 hb).2.2.2.1 e3)⟩
      · subst h1
        have hb : h.objs.size = b := by simpa using hj
        subst hb
        exact ⟨x1, x2, by rw [hal]; exact p1, by rw [hal]; exact p2, up _ _ (Nat.ne_of_gt hLl) ht⟩
      · have hnone : (as ++ [h.objs.size])[j]? = none := List.getElem?_eq_none (by rw [List.length_append, List.length_singleton]; omega)
        rw [hnone] at hj
        cases hj
theorem zip_no_len : typeLookup (.type "zip") "__len__" = pure none := am_miss_of_fast (by decide +kernel)
theorem zip_no_hint : typeLookup (.type "zip") "__length_hint__" = pure none := am_miss_of_fast (by decide +kernel)
theorem zl_extend {R : Result → Shared → Prop} (S : ZipSep2 z TI TO i1 i2 fp1 fp2) (D1 : Draws prog w A.in1.in1 i1 fp1 n1 P1 St1) (D2 : Draws prog w A.in1.in1 i2 fp2 n2 P2 St2) (lz : z < L) (l1 : i1 < L) (l2 : i2 < L) (lT : TI < L) (lO : TO < L) (f1 : ∀ b ∈ fp1, b < L) (f2 : ∀ b ∈ fp2, b < L)
    (hn : min n1 n2 ≤ sizeLine) (res : Value) (hz : IsZip s.heap z TI TO .none) (hTO : ∃ a b, IsTupOf2 s.heap TO a b) (hTI : IsTupOf2 s.heap TI (.ref i1) (.ref i2)) (st1 : St1 0 s.heap) (st2 : St2 0 s.heap) {c₀ : Nat} (hS : s.heap.get? L = some { cls := .type "list", data := .seq #[] c₀ })
    (hR : ∀ h' tk acc c as, (∀ b o, b ≠ L → b ≠ z → b ≠ TO → b ≠ i1 → b ≠ i2 → s.heap.get? b = some o → h'.get? b = some o) → h'.get? L = some { cls := .type "list", dict := none, data := .seq acc c, slots := #[] } → as.length = min n1 n2 → ZG P1 P2 L h' as →
      acc.toList = as.map Value.ref → R (.ok (.ret res)) { s with heap := h', toks := tk }) :
    wpAny (model prog w) A.in1 (Builtin.List.listExtendWith (.ref L) (.ref z) res)
      (fun fin s' => match fin with | .done f => R (.ok f) s' | .again c' => c'.quiet = true ∧ codeAny (model prog w) A c' R s') (fun e s' => R (.error e) s') s := by
  have key : ∀ (h : Heap) (c₁ tk : Nat), (∀ b o, b ≠ L → s.heap.get? b = some o → h.get? b = some o) → h.get? L = some { cls := .type "list", data := .seq #[] c₁ } → codeAny (model prog w) A (.builtin "list.extend.loop" ⟨[.ref L, .ref z, res], []⟩) R { s with heap := h, toks := tk } := by
    intro h c₁ tk hk hS₁
    obtain ⟨a, b, hTO⟩ := hTO
    refine zl_loop (s := s) (h₁ := s.heap) S D1 D2 lz l1 l2 lT lO f1 f2 hn res hR (min n1 n2) 0 h tk c₁ #[] [] (Nat.sub_zero _) (Nat.zero_le _) (.inl ⟨rfl, hk _ _ (Nat.ne_of_lt lz) hz, a, b, hk _ _ (Nat.ne_of_lt lO) hTO⟩) (hk _ _ (Nat.ne_of_lt lT) hTI)
      (D1.frame _ _ _ st1 fun b hb o e => hk b o (Nat.ne_of_lt (f1 b hb)) e) (D2.frame _ _ _ st2 fun b hb o e => hk b o (Nat.ne_of_lt (f2 b hb)) e) (fun b o c1 _ _ _ _ e => hk b o c1 e) hS₁ rfl rfl ⟨List.Pairwise.nil, (fun _ ha => nomatch ha), (fun j a hj => by simp at hj)⟩
  have ty : s.TypeIs (.ref z) "zip" := ⟨_, hz, rfl⟩
  unfold Builtin.List.listExtendWith
  refine wpAny_bind (wpAny_typeOf ty ?_)
  have q1 : Builtin.List.listSameRef (.ref L) (.ref z) = false := by
    unfold Builtin.List.listSameRef
    simp [Nat.ne_of_gt lz]
  rw [q1, if_neg (by decide)]
  refine wpAny_bind (wpAny_pyIter_zip hz ?_)
  refine wpAny_bind (wpAny_holding ?_)
  unfold Builtin.List.listLengthHint
  refine wpAny_bind (wpAny_specialOf ty zip_no_len ?_)
  show wpAny _ A.in1 (specialOf (Value.ref z) (Str.ofString "__length_hint__") >>= _) _ _ _
  refine wpAny_bind (wpAny_specialOf ty zip_no_hint (wpAny_pure ?_))
  show wpAny _ A.in1 (rule "list.extend.makes-room" >>= fun _ => Builtin.List.listTouch (.ref L) >>= fun _ => again (.builtin "list.extend.loop" ⟨[.ref L, .ref z, res], []⟩)) _ _ _
  refine wpAny_bind (wpAny_rule (wpAny_bind ?_))
  show wpAny _ A.in1 (updateSeq L (·.push .none) >>= fun _ => updateSeq L (·.pop)) _ _ _
  refine wpAny_bind (wpAny_updateSeq hS rfl ?_)
  have hS₂ := Heap.get?_update_self (Obj.mapSeq (·.push Value.none)) hS rfl
  refine wpAny_updateSeq (hz := by seq_fits) hS₂ rfl ?_
  have hS₃ := Heap.get?_update_self (Obj.mapSeq (·.pop)) hS₂ rfl
  exact wpAny_pure ⟨plainId_quiet PySem.F.plain_extend_loop _, key _ _ _ (fun b o hb e => (Heap.get?_update_other _ _ (Ne.symm hb)).trans ((Heap.get?_update_other _ _ (Ne.symm hb)).trans e)) hS₃⟩
end
end GL
set_option Elab.async false
set_option linter.all false
set_option maxRecDepth 100000
set_option maxHeartbeats 1000000
/-! LZ2: list(zip(x, y)), the call -/
namespace GL
open PySem PySem.Spec PyProof.Rows L2
section
variable {prog : Program} {w : World} {A : Around} {E : Value → Shared → Prop} {s : Shared} {z TI TO i1 i2 L : Addr} {fp1 fp2 : List Addr} {n1 n2 : Nat} {P1 P2 : Nat → Value → Prop} {St1 St2 : Nat → Heap → Prop}
theorem zl_call {Q : Value → Shared → Prop} (S : ZipSep2 z TI TO i1 i2 fp1 fp2) (D1 : ∀ A : Around, A.handled = none → Draws prog w A i1 fp1 n1 P1 St1) (D2 : ∀ A : Around, A.handled = none → Draws prog w A i2 fp2 n2 P2 St2) (hh : A.handled = none)
    (lz : z < s.heap.objs.size) (l1 : i1 < s.heap.objs.size) (l2 : i2 < s.heap.objs.size) (lT : TI < s.heap.objs.size) (lO : TO < s.heap.objs.size) (f1 : ∀ b ∈ fp1, b < s.heap.objs.size) (f2 : ∀ b ∈ fp2, b < s.heap.objs.size)
    (hn : min n1 n2 ≤ sizeLine) (hz : IsZip s.heap z TI TO .none) (hTO : ∃ a b, IsTupOf2 s.heap TO a b) (hTI : IsTupOf2 s.heap TI (.ref i1) (.ref i2)) (st1 : St1 0 s.heap) (st2 : St2 0 s.heap)
    (hQ : ∀ h' tk acc c as, (∀ b o, b ≠ z → b ≠ TO → b ≠ i1 → b ≠ i2 → s.heap.get? b = some o → h'.get? b = some o) → h'.get? s.heap.objs.size = some { cls := .type "list", dict := none, data := .seq acc c, slots := #[] } → as.length = min n1 n2 → ZG P1 P2 s.heap.objs.size h' as →
      acc.toList = as.map Value.ref → Q (.ref s.heap.objs.size) { s with heap := h', toks := tk }) :
    wpAny (model prog w) A (call (.type "list") [.ref z]) Q E s := by
  refine callType_codes (Q₁ := fun obj s₁ => obj = .ref s.heap.objs.size ∧ s₁ = { s with heap := s.heap.push { cls := .type "list", data := .seq #[] } }) PySem.F.called_list (PySem.F.typeCall_list_1 _) PySem.F.entry_list_init (code_list_new _ ⟨rfl, rfl⟩) fun obj s₁ h₁ => ?_
  obtain ⟨rfl, rfl⟩ := h₁
  have hS : (s.heap.push { cls := .type "list", data := .seq #[] }).get? s.heap.objs.size = some { cls := .type "list", data := .seq #[] } := Heap.get?_push_size _ rfl
  have up : ∀ {b : Addr} {o : Obj}, s.heap.get? b = some o → (s.heap.push { cls := .type "list", data := .seq #[] }).get? b = some o := fun e => Heap.get?_push_of_some _ e
  refine ⟨⟨_, hS, rfl⟩, PySem.F.args_list_init_2 _ _, ?_⟩
  show wpAny _ _ (do let old ← Builtin.List.listItems (.ref s.heap.objs.size); Builtin.List.listUpdate (.ref s.heap.objs.size) (fun _ => #[]); letGo old.toList.reverse; Builtin.List.listExtendWith (.ref s.heap.objs.size) (.ref z) .none) _ _ _
  refine wpAny_bind ?_
  unfold Builtin.List.listItems
  refine wpAny_bind (wpAny_seqItems hS rfl (wpAny_pure ?_))
  show wpAny _ _ (updateSeq s.heap.objs.size (fun _ => #[]) >>= fun _ => letGo (#[] : Array Value).toList.reverse >>= fun _ => Builtin.List.listExtendWith (.ref s.heap.objs.size) (.ref z) .none) _ _ _
  refine wpAny_bind (wpAny_updateSeq hS rfl ?_)
  have hS₂ := Heap.get?_update_self (Obj.mapSeq (fun _ => (#[] : Array Value))) hS rfl
  have oth : ∀ {b : Addr} {o : Obj}, b ≠ s.heap.objs.size → s.heap.get? b = some o → ((s.heap.push { cls := .type "list", data := .seq #[] }).update s.heap.objs.size (Obj.mapSeq (fun _ => (#[] : Array Value)))).get? b = some o :=
    fun hb e => (Heap.get?_update_other _ _ (Ne.symm hb)).trans (up e)
  refine wpAny_bind (wpAny_letGo ?_)
  obtain ⟨a, b, hTO⟩ := hTO
  refine zl_extend (A := A.in1) S (D1 _ hh) (D2 _ hh) lz l1 l2 lT lO f1 f2 hn .none (oth (Nat.ne_of_lt lz) hz) ⟨a, b, oth (Nat.ne_of_lt lO) hTO⟩ (oth (Nat.ne_of_lt lT) hTI) ((D1 A hh).frame _ _ _ st1 fun b hb o e => oth (Nat.ne_of_lt (f1 b hb)) e) ((D2 A hh).frame _ _ _ st2 fun b hb o e => oth (Nat.ne_of_lt (f2 b hb)) e) hS₂ fun h' tk acc c as hk hS' hl hG hacc => ?_
  exact ⟨rfl, hQ h' tk acc c as (fun b o c1 c2 c3 c4 e => hk b o (Nat.ne_of_lt (Heap.lt_size e)) c1 c2 c3 c4 (oth (Nat.ne_of_lt (Heap.lt_size e)) e)) hS' hl hG hacc⟩
end
theorem vals_getV : ∀ {xs : List V} {us : List Value} {i : Nat} {u : Value}, Vals xs us → us[i]? = some u → ∃ x, xs[i]? = some x ∧ RelV x u
  | _, _, _, _, .nil, e => by simp at e
  | _, _, 0, _, .cons r _, e => by
    have e : _ = _ := Option.some.inj (by simpa using e)
    subst e
    exact ⟨_, rfl, r⟩
  | _, _, i + 1, _, .cons _ t, e => by
    obtain ⟨x, h1, h2⟩ := vals_getV (i := i) t (by simpa using e)
    exact ⟨x, by simpa using h1, h2⟩
theorem vals_refs (as : List Addr) : Vals (as.map V.ref) (as.map Value.ref) := by
  induction as with
  | nil => exact .nil
  | cons a as ih => exact .cons rfl ih
/-! what is zipped -/
/-- the signs of a text -/
def signsV (x : Str) : List V := x.cps.toList.map fun c => .str ⟨#[c]⟩
def ZIt (K : PySem.W.Frag) (H : Hp) (x : V) (xs : List V) : Prop := (∃ t, x = .str t ∧ xs = signsV t) ∨ (∃ a, x = .ref a ∧ (SqL K H a xs ∨ SqT K H a xs))
/-- how it is drawn -/
def ZDr (prog : Program) (w : World) (h : Heap) (u : Value) (xs : List V) : Prop := ∃ (o : Obj) (Hq : Heap → Prop) (fp : List Addr) (P : Nat → Value → Prop) (St : Addr → Nat → Heap → Prop), Begins u o Hq ∧ Hq h ∧ (∀ b ∈ fp, b < h.objs.size) ∧
  (∀ i v, P i v → ∃ a, xs[i]? = some a ∧ RelV a v) ∧ ∀ it, h.objs.size ≤ it → (∀ A : Around, A.handled = none → Draws prog w A it (it :: fp) xs.length P (St it)) ∧ ∀ h', (∀ b o', h.get? b = some o' → h'.get? b = some o') → h'.get? it = some o → St it 0 h'
theorem zdr_of {X : Cx} {pins : List (Addr × Obj)} {σ : L2.St} {H : Hp} {s : Shared} {x : V} {u : Value} {xs : List V} (I : Inv X pins σ H s) (r : RelV x u) (h : ZIt X.K H x xs) : ZDr X.prog X.w s.heap u xs := by
  rcases h with ⟨t, rfl, rfl⟩ | ⟨a, rfl, h | h⟩
  · obtain ⟨tk, rfl⟩ := r
    refine ⟨_, _, [], fun i v => ∃ c u, t.cps[i]? = some c ∧ v = .str ⟨#[c]⟩ u, fun it i h => h.IsStrIter it (strIterType t) t tk i, begins_text t tk, trivial, (fun _ m => nomatch m), fun i v hp => ?_, fun it hit => ⟨fun A hh => ?_, fun h' _ e => ⟨_, e, rfl, rfl⟩⟩⟩
    · obtain ⟨c, u, e, rfl⟩ := hp
      refine ⟨.str ⟨#[c]⟩, ?_, u, rfl⟩
      unfold signsV
      rw [List.getElem?_map, Array.getElem?_toList, e]
      rfl
    · have := Draws.text (prog := X.prog) (w := X.w) hh it t tk
      have e : (signsV t).length = t.cps.size := by unfold signsV; simp
      rw [e]
      exact this
  · cases r
    obtain ⟨its, rv, l1, _⟩ := I.list h
    have hl := rv.length
    refine ⟨_, _, [a], fun i v => its.toArray[i]? = some v, fun it i h => h.IsListIter it a i ∧ h.IsList a its.toArray, begins_list a its.toArray, l1.isList, fun b hb => by rw [List.mem_singleton.mp hb]; exact l1.lt, fun i v hp => ?_, fun it hit => ⟨fun A hh => ?_, fun h' hk e => ⟨⟨_, e, rfl, rfl⟩, l1.isList.at fun o e => hk _ o e⟩⟩⟩
    · exact vals_getV rv (by simpa using hp)
    · have := Draws.list (prog := X.prog) (w := X.w) hh it a (Nat.ne_of_lt (Nat.lt_of_lt_of_le l1.lt hit)) its.toArray
      rw [List.size_toArray, ← hl] at this
      exact this
  · cases r
    obtain ⟨its, rv, l1, _⟩ := I.tuple h
    have hl := rv.length
    obtain ⟨o1, ho1, _⟩ := id l1
    have lt := Heap.lt_size ho1
    refine ⟨_, _, [a], fun i v => its.toArray[i]? = some v, fun it i h => h.IsTupleIter it a i ∧ h.IsTuple a its.toArray, begins_tuple a its.toArray, l1, fun b hb => by rw [List.mem_singleton.mp hb]; exact lt, fun i v hp => ?_, fun it hit => ⟨fun A hh => ?_, fun h' hk e => ⟨⟨_, e, rfl, rfl⟩, PySem.Heap.IsTuple.at l1 fun o e => hk _ o e⟩⟩⟩
    · exact vals_getV rv (by simpa using hp)
    · have := Draws.tuple (prog := X.prog) (w := X.w) hh it a (Nat.ne_of_lt (Nat.lt_of_lt_of_le lt hit)) its.toArray
      rw [List.size_toArray, ← hl] at this
      exact this
/-- new pairs at their addresses -/
def putP : Hp → List Addr → List (V × V) → Hp
  | H, a :: as, p :: ps => upd (putP H as ps) a (.tup [p.1, p.2])
  | H, _, _ => H
theorem putP_off {H : Hp} {b : Addr} : ∀ {as : List Addr} {ps : List (V × V)}, b ∉ as → putP H as ps b = H b
  | [], _, _ => by simp [putP]
  | _ :: _, [], _ => rfl
  | a :: as, p :: ps, h => by
    show upd (putP H as ps) a (.tup [p.1, p.2]) b = H b
    rw [upd_ne (fun z => h (by rw [z]; exact List.mem_cons_self)), putP_off fun m => h (List.mem_cons_of_mem _ m)]
theorem putP_at {H : Hp} : ∀ {as : List Addr} {ps : List (V × V)} {j : Nat} {a : Addr} {p : V × V}, as.Pairwise (· < ·) → as[j]? = some a → ps[j]? = some p → putP H as ps a = some (.tup [p.1, p.2])
  | [], _, _, _, _, _, e, _ => by simp at e
  | _ :: _, [], _, _, _, _, _, e => by simp at e
  | b :: as, q :: ps, 0, a, p, _, e1, e2 => by
    have e1 : b = a := Option.some.inj (by simpa using e1)
    have e2 : q = p := Option.some.inj (by simpa using e2)
    subst e1 e2
    exact upd_same
  | b :: as, q :: ps, j + 1, a, p, hp, e1, e2 => by
    have e1 : as[j]? = some a := by simpa using e1
    have e2 : ps[j]? = some p := by simpa using e2
    obtain ⟨h1, h2⟩ := List.pairwise_cons.mp hp
    have lt := h1 a (List.mem_of_getElem? e1)
    show upd (putP H as ps) b (.tup [q.1, q.2]) a = _
    rw [upd_ne (Nat.ne_of_gt lt)]
    exact putP_at h2 e1 e2
section
variable {X : Cx} {pins : List (Addr × Obj)} {σ : L2.St} {H : Hp} {s : Shared}
theorem pairs_laid {h' : Heap} {tk c : Nat} {acc : Array Value} {S : Addr} {as : List Addr} {xs ys : List V} {P1 P2 : Nat → Value → Prop} (I : Inv X pins σ H s) (hz : min xs.length ys.length ≤ sizeLine) (hS0 : s.heap.objs.size ≤ S)
    (q1 : ∀ i v, P1 i v → ∃ a, xs[i]? = some a ∧ RelV a v) (q2 : ∀ i v, P2 i v → ∃ a, ys[i]? = some a ∧ RelV a v)
    (hk : ∀ b o, s.heap.get? b = some o → h'.get? b = some o) (hS : h'.get? S = some { cls := .type "list", dict := none, data := .seq acc c, slots := #[] }) (hl : as.length = min xs.length ys.length) (hG : ZG P1 P2 S h' as) (hacc : acc.toList = as.map Value.ref) :
    H S = none ∧ (∀ t ∈ as, H t = none ∧ t ≠ S) ∧ Inv X pins σ (putP (upd H S (.lst (as.map V.ref))) as (xs.zip ys)) { s with heap := h', toks := tk } := by
  have newS : H S = none := I.hok.fresh hS0
  have new : ∀ t ∈ as, H t = none ∧ t ≠ S := fun t ht => ⟨I.hok.fresh (Nat.le_trans hS0 (Nat.le_of_lt (hG.above t ht))), Nat.ne_of_gt (hG.above t ht)⟩
  have hSn : S ∉ as := fun m => (new S m).2 rfl
  refine ⟨newS, new, ?_⟩
  have kp : ∀ b u, H b = some u → putP (upd H S (.lst (as.map V.ref))) as (xs.zip ys) b = some u := fun b u e => by
    rw [putP_off (fun m => by rw [(new b m).1] at e; cases e), upd_ne (fun z => by rw [z, newS] at e; cases e)]
    exact e
  have low : ∀ b o, s.heap.get? b = some o → b ∉ as ∧ b ≠ S := fun b o e => ⟨fun m => absurd (Heap.lt_size e) (Nat.not_lt.mpr (Nat.le_trans hS0 (Nat.le_of_lt (hG.above b m)))), Nat.ne_of_lt (Nat.lt_of_lt_of_le (Heap.lt_size e) hS0)⟩
  refine I.call' (ch := []) rfl ⟨fun b o q _ _ _ => hk b o q, fun b o q _ _ _ => ⟨o.slots, hk b o q⟩, fun b o q n _ => ?_, fun b o q _ => ⟨o, hk b o q⟩, fun b xs q => kp b _ q, fun b o u q => kp b _ q, fun b ps q => ⟨#[], by rw [kp b _ q]; simp⟩⟩ (fun b u q => ?_) I.bare fun b m => by simp at m
  · obtain ⟨m1, m2⟩ := low b o q
    rw [putP_off m1, upd_ne m2]
    exact n
  · by_cases hb : b ∈ as
    · obtain ⟨j, e1⟩ := List.mem_iff_getElem?.mp hb
      obtain ⟨x1, x2, p1, p2, e3⟩ := hG.pairs j b e1
      obtain ⟨a1, g1, r1⟩ := q1 j x1 p1
      obtain ⟨a2, g2, r2⟩ := q2 j x2 p2
      have e4 : (xs.zip ys)[j]? = some (a1, a2) := by rw [List.getElem?_zip_eq_some]; exact ⟨g1, g2⟩
      rw [putP_at hG.rise e1 e4] at q
      cases q
      exact ⟨by show 2 ≤ sizeLine; decide, [x1, x2], .cons r1 (.cons r2 .nil), ⟨_, e3, rfl, _, rfl⟩⟩
    · rw [putP_off hb] at q
      by_cases hb2 : b = S
      · subst hb2
        rw [upd_same] at q
        cases q
        refine ⟨by rw [List.length_map, hl]; exact hz, acc.toList, c, by rw [hacc]; exact vals_refs as, ?_⟩
        rw [Array.toArray_toList]
        exact hS
      · rw [upd_ne hb2] at q
        exact (I.hok b u q).stay (fun d v _ y => hk d v y) (fun d y => kp d _ y) fun d xs y => kp d _ y
end
section
variable {X : Cx} {e1 e2 : Expr} {ta : TA} {p p2 cpos pos : Pos}
/-- list(zip(x, y)) -/
def tLZ (K : PySem.W.Frag) (ta : TA) : TE := fun σ H Q => ta σ H fun vs H1 => ∃ x y xs ys, vs = [x, y] ∧ ZIt K H1 x xs ∧ ZIt K H1 y ys ∧ min xs.length ys.length ≤ sizeLine ∧
  ∀ (q : Addr) (ts : List Addr), H1 q = none → (∀ t ∈ ts, H1 t = none ∧ t ≠ q) → ts.Pairwise (· < ·) → ts.length = min xs.length ys.length → Q (.ref q) (putP (upd H1 q (.lst (ts.map V.ref))) ts (xs.zip ys))
theorem pe_listZip (hc : X.calm = true) (hg : Gl X "list") (hm : X.mg "list" = none) (hg2 : Gl X "zip") (hm2 : X.mg "zip" = none) (hv : bootBuiltins "list" = some (.type "list") := by decide +kernel) (ha : PA X [e1, e2] ta)
    (hs : starEach [.Call (.Name "zip" p2) [e1, e2] [] cpos] X.env = (false, eval (.Call (.Name "zip" p2) [e1, e2] [] cpos) X.env) :: starEach [] X.env := by rfl)
    (hs2 : starEach [e1, e2] X.env = (false, eval e1 X.env) :: starEach [e2] X.env := by rfl) (hpl : (backTo cpos (starEach [e2] X.env)).any (·.1) = false := by rfl) :
    PE X (.Call (.Name "list" p) [.Call (.Name "zip" p2) [e1, e2] [] cpos] [] pos) (tLZ X.K ta) := by
  refine ⟨fun pins s σ H Q I hq => ?_⟩
  refine wpAny_Call_Name_kw (ld_blt I hg hm hv ?_)
  refine PyProof.Rows.callWith_type1 ?_ hs rfl
  rw [hs]
  show wpAny _ _ (spliced ((false, eval (.Call (.Name "zip" p2) [e1, e2] [] cpos) X.env) :: backTo pos (starEach [] X.env))) _ _ s
  refine Calls.spliced_cons ?_
  refine Call_ (ld_blt I hg2 hm2 PyProof.Rows.boot_zip (PyProof.Rows.callWith_type1 (thn (ha.run cpos pins s σ H _ I hq) fun us s1 ⟨vs, H1, I1, r1, q1⟩ => ?_) hs2 hpl))
  obtain ⟨x, y, xs, ys, ex, z1, z2, hz, q⟩ := q1
  subst ex
  cases r1 with
  | cons r rr =>
    cases rr with
    | @cons _ u2 _ _ r' rr =>
      cases rr
      obtain ⟨o1, Q1, g1, P1, St1, B1, b1, m1, c1, d1⟩ := zdr_of I1 r z1
      obtain ⟨o2, Q2, g2, P2, St2, B2, b2, m2, c2, d2⟩ := zdr_of I1 r' z2
      have hh := I1.ok.hd hc
      refine zip_begins2 B1 B2 b1 b2 fun h' kz kI kO k1 k2 ksz kk => ?_
      refine Calls.spliced_nil ?_
      obtain ⟨D1, s01⟩ := d1 s1.heap.objs.size (Nat.le_refl _)
      obtain ⟨D2, s02⟩ := d2 (s1.heap.objs.size + 1) (Nat.le_succ _)
      have lt : ∀ j, j < 5 → s1.heap.objs.size + j < h'.objs.size := fun j hj => by rw [ksz]; exact Nat.add_lt_add_left hj _
      have lt0 : s1.heap.objs.size < h'.objs.size := lt 0 (by decide)
      refine zl_call (s := { s1 with heap := h' }) (zip_sep2 m1 m2) D1 D2 hh (lt 4 (by decide)) lt0 (lt 1 (by decide)) (lt 2 (by decide)) (lt 3 (by decide)) (fun b hb => ?_) (fun b hb => ?_) hz kz ⟨_, _, kO⟩ kI (s01 h' kk k1) (s02 h' kk k2) fun h2 tk acc c as hk hS hl hG hacc => ?_
      · rcases List.mem_cons.mp hb with rfl | hb
        · exact lt0
        · exact Nat.lt_trans (m1 b hb) lt0
      · rcases List.mem_cons.mp hb with rfl | hb
        · exact lt 1 (by decide)
        · exact Nat.lt_trans (m2 b hb) lt0
      have old : ∀ b o, s1.heap.get? b = some o → h2.get? b = some o := fun b o e => by
        have hb : b < s1.heap.objs.size := Heap.lt_size e
        have n : ∀ j, b ≠ s1.heap.objs.size + j := fun j => Nat.ne_of_lt (Nat.lt_of_lt_of_le hb (Nat.le_add_right _ _))
        exact hk b o (n 4) (n 3) (n 0) (n 1) (kk b o e)
      obtain ⟨e1, e2, I2⟩ := pairs_laid (tk := tk) I1 hz (Nat.le_of_lt lt0) c1 c2 old hS hl hG hacc
      exact ⟨.ref h'.objs.size, _, I2, rfl, q _ as e1 e2 hG.rise hl⟩
end
end GL
set_option Elab.async false
set_option linter.all false
set_option maxRecDepth 100000
set_option maxHeartbeats 1000000
/-! TX: texts over data -/
namespace GL
open PySem PySem.Spec PyProof.Rows L2
/-- a short text many times -/
theorem op_mul_far {X : Cx} : OpR X (binaryOp .Mult) (fun x y H Q => ∃ (z : Str) (n : Int), x = .str z ∧ y = .int n ∧ 0 ≤ n ∧ n ≤ 100000 ∧ z.length ≤ 100 ∧ Q (.str (Txt.mul z n)) H) := by
  intro pins s σ H x y v u Q I rx ry h
  obtain ⟨z, n, rfl, rfl, h0, h1, hz, q⟩ := h
  obtain ⟨t, rfl⟩ := rx
  obtain ⟨t', rfl⟩ := ry
  have hn : n.toNat ≤ 100000 := by omega
  have hm : z.length * n.toNat ≤ 100 * 100000 := Nat.mul_le_mul hz hn
  refine SB.mul (n := n) ⟨?_, fun h2 _ => ?_, fun h2 _ => ?_⟩ fun t2 k => ⟨.str (Txt.mul z n), H, I.tok k, ⟨t2, rfl⟩, q⟩
  · rw [decide_eq_false (by omega), decide_eq_false (by omega)]
    rfl
  · have h3 : (2 ^ 63 - 1 : Int) / 100000 ≤ (2 ^ 63 - 1) / n := by
      rcases Int.lt_or_le 0 n with hp | hp
      · rw [Int.le_ediv_iff_mul_le hp]
        have h4 : (2 ^ 63 - 1 : Int) / 100000 * n ≤ (2 ^ 63 - 1 : Int) / 100000 * 100000 := Int.mul_le_mul_of_nonneg_left h1 (by decide)
        have h5 : (2 ^ 63 - 1 : Int) / 100000 * 100000 ≤ 2 ^ 63 - 1 := by decide
        omega
      · omega
    have h6 : (100 : Int) ≤ (2 ^ 63 - 1 : Int) / 100000 := by decide
    omega
  · have h7 : 100 * 100000 ≤ sizeLine := by rw [sizeLine_eq]; decide
    unfold Builtin.Str.tooLong
    exact decide_eq_false (by omega)
end GL
namespace DL
open PySem PySem.Spec PyProof.Rows L2 GL
section
variable {K : PySem.W.Frag} {X : Cx} {e o a b : Expr} {Ta Tb : DT} {Tl : LT} {pos apos p p2 cpos : Pos}
/-- o.split(e) -/
theorem do_split (ho : DE K X o Ta) (he : DE K X e Tb) (hs : starEach [e] X.env = [(false, eval e X.env)] := by rfl) (hbase : attributeBase o "split" X.env (eval o X.env) = eval o X.env := by rfl) (hline : (apos.endLine == pos.line) = true := by rfl) :
    DO K X (.Call (.Attribute o "split" apos) [e] [] pos) (fun ρ P => Ta ρ fun d => ∃ z, d = .str z ∧ Tb ρ fun f => ∃ y, f = .str y ∧ (y.length == 0) = false ∧ z.length + 2 ≤ sizeLine ∧ P (.lst (((Txt.split z y).map PyData.str).map .dat))) := by
  refine ⟨PE.weak (pe_split ho.pe he.pe hs hbase hline) fun σ H Q h => ?_⟩
  obtain ⟨G0, H0, B, G, ρ, F, P, w, t, k⟩ := h
  refine ⟨G0, H0, B, G, ρ, F, _, w, t, fun d G1 H1 v p s1 r1 => ?_⟩
  obtain ⟨z, rfl, p⟩ := p
  cases r1
  refine ⟨⟨_, rfl⟩, G0, H0, B, G1, ρ, F, _, w.step s1, p, fun f G2 H2 u p s2 r2 => ?_⟩
  obtain ⟨y, rfl, h1, h2, p⟩ := p
  cases r2
  have s12 := s1.trans s2 w.bags
  exact ⟨z, y, rfl, rfl, h1, h2, fun q nq => new_own s12.sGH nq (.strs _) p fun o G3 H3 v3 Fv p3 s3 r3 n3 => k o G3 H3 v3 Fv p3 (s12.trans s3 w.bags) r3 fun a m => s12.none_back w.bags (n3 a m)⟩
/-- o.join(e) -/
theorem de_join (e1 : X.K = K) (ho : DE K X o Ta) (he : DE K X e Tb) (hs : starEach [e] X.env = [(false, eval e X.env)] := by rfl) (hbase : attributeBase o "join" X.env (eval o X.env) = eval o X.env := by rfl) (hline : (apos.endLine == pos.line) = true := by rfl) :
    DE K X (.Call (.Attribute o "join" apos) [e] [] pos) (fun ρ P => Ta ρ fun d => ∃ y, d = .str y ∧ Tb ρ fun f => ∃ zs : List Str, f = .list (zs.map .str) ∧ (zs.map (·.length)).sum + zs.length * y.length ≤ 16777216 ∧ P (.str (Txt.join y zs))) := by
  subst e1
  refine ⟨PE.weak (pe_join ho.pe he.pe hs hbase hline) fun σ H Q h => ?_⟩
  obtain ⟨G0, H0, B, G, ρ, F, P, w, t, k⟩ := h
  refine ⟨G0, H0, B, G, ρ, F, _, w, t, fun d G1 H1 v p s1 r1 => ?_⟩
  obtain ⟨y, rfl, p⟩ := p
  cases r1
  refine ⟨⟨_, rfl⟩, G0, H0, B, G1, ρ, F, _, w.step s1, p, fun f G2 H2 u p s2 r2 => ?_⟩
  obtain ⟨zs, rfl, hz, p⟩ := p
  have s12 := s1.trans s2 w.bags
  cases r2 with
  | @lst q vs _ h1 h2 =>
    have e3 := h2.ofStrs
    subst e3
    exact ⟨y, q, zs, rfl, rfl, .inl (.inl (.inl (s2.sGH _ _ h1))), hz, k _ G2 H2 _ p s12 (.str _)⟩
/-- str(e) of an int, of a text -/
def strOf : PyData → Option Str
  | .int i => if i.natAbs.log2 < 1920 then some (Str.ofString (toString i)) else none
  | .str z => some z
  | _ => none
theorem cd_strX : CallData K (fun xs H Q => (∃ i, xs = [.int i] ∧ i.natAbs.log2 < 1920 ∧ Q (.str (toString i)) H) ∨ ∃ a, xs = [.str a] ∧ Q (.str a) H) (fun ds P => ∃ d z, ds = [d] ∧ strOf d = some z ∧ P (.str z)) := flat_call fun G H ds vs P Q s dx p k => by
  obtain ⟨d, z, rfl, h, p⟩ := p
  obtain ⟨v, rfl, r⟩ := dx.one
  cases r with
  | int i =>
    unfold strOf at h
    dsimp only at h
    split at h
    · rename_i hl
      cases h
      exact .inl ⟨i, rfl, hl, k _ _ p (.str _)⟩
    · cases h
  | str x =>
    cases h
    exact .inr ⟨_, rfl, k _ _ p (.str _)⟩
  | _ => cases h
end
end DL
set_option Elab.async false
set_option linter.all false
set_option maxRecDepth 100000
set_option maxHeartbeats 1000000
/-! TX2: more of texts; lists of one's own changed within; tables of anything -/
namespace DL
open PySem PySem.Spec PyProof.Rows L2 GL
section
variable {K : PySem.W.Frag} {X : Cx} {e f o a b : Expr} {Ta Tb Tc : DT} {Tl : LT} {pos apos p p2 cpos : Pos}
theorem de_strX (hm : X.mg "str" = none) (h : DE K X e Ta) (hg : Gl X "str" := by rfl) (hs : starEach [e] X.env = (false, eval e X.env) :: starEach [] X.env := by rfl) (hpl : (backTo pos (starEach [] X.env)).any (·.1) = false := by rfl) :
    DE K X (.Call (.Name "str" p) [e] [] pos) (fun ρ P => Ta ρ fun d => ∃ d' z, [d] = [d'] ∧ strOf d' = some z ∧ P (.str z)) :=
  de_callTy (call_str_int.or SkE.call_str_str) cd_strX hg hm (by decide +kernel) (da_cons h da_nil hs) (by decide) (by decide) hs hpl
/-- int(e), of a text too -/
theorem cd_intX : CallData K (fun xs H Q => ((∃ i, xs = [.int i] ∧ Q (.int i) H) ∨ ∃ k, xs = [.bl k] ∧ Q (.int (if k then 1 else 0)) H) ∨ ∃ a n, xs = [.str a] ∧ PySem.intText? a = some n ∧ a.length ≤ 640 ∧ Q (.int n) H)
    (fun ds P => ∃ d, ds = [d] ∧ ((∃ i, intOf d = some i ∧ P (.int i)) ∨ ∃ z n, d = .str z ∧ PySem.intText? z = some n ∧ z.length ≤ 640 ∧ P (.int n))) := flat_call fun G H ds vs P Q s dx p k => by
  obtain ⟨d, rfl, p⟩ := p
  obtain ⟨v, rfl, r⟩ := dx.one
  rcases p with ⟨i, h, p⟩ | ⟨z, n, rfl, h1, h2, p⟩
  · cases r with
    | int j => cases h; exact .inl (.inl ⟨_, rfl, k _ _ p (.int _)⟩)
    | bl b => cases h; exact .inl (.inr ⟨_, rfl, k _ _ p (.int _)⟩)
    | _ => cases h
  · cases r
    exact .inr ⟨z, n, rfl, h1, h2, k _ _ p (.int _)⟩
theorem de_intX (hm : X.mg "int" = none) (h : DE K X e Ta) (hg : Gl X "int" := by rfl) (hs : starEach [e] X.env = (false, eval e X.env) :: starEach [] X.env := by rfl) (hpl : (backTo pos (starEach [] X.env)).any (·.1) = false := by rfl) :
    DE K X (.Call (.Name "int" p) [e] [] pos) (fun ρ P => Ta ρ fun d => ∃ d', [d] = [d'] ∧ ((∃ i, intOf d' = some i ∧ P (.int i)) ∨ ∃ z n, d' = .str z ∧ PySem.intText? z = some n ∧ z.length ≤ 640 ∧ P (.int n))) :=
  de_callTy (call_int1.or call_int_str) cd_intX hg hm (by decide +kernel) (da_cons h da_nil hs) (by decide) (by decide) hs hpl
theorem cd_any : CallData K (rAny K) (fun ds P => ∃ bs : List Bool, ds = [.list (bs.map .bool)] ∧ P (.bool (bs.any id))) := flat_call fun G H ds vs P Q s dx p k => by
  obtain ⟨bs, rfl, p⟩ := p
  obtain ⟨v, rfl, r⟩ := dx.one
  cases r with
  | lst h1 h2 =>
    rw [h2.ofBools] at h1
    exact ⟨_, bs, rfl, .inl (.inl (s _ _ h1)), k _ _ p (.bl _)⟩
theorem de_any (e1 : X.K = K) (hc : X.calm = true) (hm : X.mg "any" = none) (h : DE K X e Ta) (hg : Gl X "any" := by rfl) (hs : starEach [e] X.env = (false, eval e X.env) :: starEach [] X.env := by rfl) (hpl : (backTo pos (starEach [] X.env)).any (·.1) = false := by rfl) :
    DE K X (.Call (.Name "any" p) [e] [] pos) (fun ρ P => Ta ρ fun d => ∃ bs : List Bool, [d] = [.list (bs.map .bool)] ∧ P (.bool (bs.any id))) := by
  subst e1
  exact de_callB (cr_any hc) cd_any hg hm (by decide +kernel) (da_cons h da_nil hs) (by decide) (by decide) hs hpl
/-- e in a list of data -/
theorem od_inD {n : Bool} : OpData K (fun x y H Q => ∃ d ds, Dp K H x d ∧ Dp K H y (.list ds) ∧ SeqAt.shaped d = true ∧ SeqAt.shaped (.list ds) = true ∧ Q (.bl (xor n (ds.any fun z => PyData.eqv z d))) H)
    (fun d e P => ∃ ds, e = .list ds ∧ d.hasDict = false ∧ PyData.hasDictAll ds = false ∧ SeqAt.shaped d = true ∧ SeqAt.shaped (.list ds) = true ∧ P (.bool (xor n (ds.any fun z => PyData.eqv z d)))) := flat_data fun G H d e x y P Q s dx dy p k => by
  obtain ⟨ds, rfl, h1, h2, h3, h4, p⟩ := p
  exact ⟨d, ds, Dp.same s (dx.dp h1), Dp.same s (dy.dp (by simpa [PyData.hasDict] using h2)), h3, h4, k _ _ p (.bl _)⟩
theorem de_inD (e1 : X.K = K) (hu : X.A.units + 65 < cLine) (ha : DE K X a Ta) (hb : DE K X b Tb) (hm : behindInMarks .In b = false := by with_unfolding_all rfl) : DE K X (.Compare a [.In] [b] pos) (fun ρ P => Ta ρ fun d => Tb ρ fun e => ∃ ds, e = .list ds ∧ d.hasDict = false ∧ PyData.hasDictAll ds = false ∧ SeqAt.shaped d = true ∧ SeqAt.shaped (.list ds) = true ∧ P (.bool (ds.any fun z => PyData.eqv z d))) := by
  subst e1
  have h := de_cmp (r := fun x y H Q => ∃ d ds, Dp X.K H x d ∧ Dp X.K H y (.list ds) ∧ SeqAt.shaped d = true ∧ SeqAt.shaped (.list ds) = true ∧ Q (.bl (xor false (ds.any fun z => PyData.eqv z d))) H) (op := .In) (by
    intro pins s σ H x y v u Q I rx ry ⟨d, ds, h1, h2, h3, h4, q⟩
    exact op_inD hu pins s σ H x y v u Q I rx ry ⟨d, ds, h1, h2, h3, h4, by simpa using q⟩) (od_inD (n := false)) ha hb (pos := pos) hm
  simpa using h
/-- list(zip(a, b)) -/
def zipD : PyData → Option (List PyData)
  | .list ds => some ds
  | .tuple ds => some ds
  | .str z => some (signsD z)
  | _ => none
theorem Dr.zit {G H : Hp} {v : V} {d : PyData} {ds : List PyData} (r : Dr K G v d) (s : Same G H) (h : zipD d = some ds) : ∃ xs, ZIt K H v xs ∧ DrAll K G xs ds := by
  cases r with
  | lst h1 h2 => cases h; exact ⟨_, .inr ⟨_, rfl, .inl (.inl (.inl (s _ _ h1)))⟩, h2⟩
  | tup h1 h2 => cases h; exact ⟨_, .inr ⟨_, rfl, .inr (Same.seqT s h1)⟩, h2⟩
  | str z =>
    cases h
    refine ⟨_, .inl ⟨z, rfl, rfl⟩, ?_⟩
    unfold signsV signsD
    generalize z.cps.toList = l
    induction l with
    | nil => exact .nil
    | cons c l ih => exact .cons (.str _) ih
  | _ => cases h
theorem DrAll.zipP {G : Hp} : ∀ {xs ys : List V} {ds es : List PyData} {ts : List Addr}, DrAll K G xs ds → DrAll K G ys es → ts.length = min xs.length ys.length → (∀ (j : Nat) (t : Addr) (q : V × V), ts[j]? = some t → (xs.zip ys)[j]? = some q → G t = some (.tup [q.1, q.2])) → DrAll K G (ts.map V.ref) ((ds.zip es).map pairD)
  | [], _, _, _, ts, .nil, _, hl, _ => by
    have : ts = [] := List.length_eq_zero_iff.mp (by simpa using hl)
    subst this
    exact .nil
  | _ :: _, [], _, _, ts, .cons _ _, .nil, hl, _ => by
    have : ts = [] := List.length_eq_zero_iff.mp (by simpa using hl)
    subst this
    exact .nil
  | x :: xs, y :: ys, _, _, [], .cons _ _, .cons _ _, hl, _ => by simp at hl
  | x :: xs, y :: ys, _, _, t :: ts, .cons r1 t1, .cons r2 t2, hl, h => by
    refine .cons ?_ (DrAll.zipP t1 t2 (by simp at hl; omega) fun j u q e1 e2 => h (j + 1) u q (by simpa using e1) (by simpa using e2))
    exact .tup (.inl (.inl (h 0 t (x, y) rfl rfl))) (.cons r1 (.cons r2 .nil))
theorem do_lzip (e1 : X.K = K) (hc : X.calm = true) (hm : X.mg "list" = none) (hm2 : X.mg "zip" = none) (ha : DA K X [a, b] Tl) (hg : Gl X "list" := by rfl) (hg2 : Gl X "zip" := by rfl)
    (hs : starEach [.Call (.Name "zip" p2) [a, b] [] cpos] X.env = (false, eval (.Call (.Name "zip" p2) [a, b] [] cpos) X.env) :: starEach [] X.env := by rfl)
    (hs2 : starEach [a, b] X.env = (false, eval a X.env) :: starEach [b] X.env := by rfl) (hpl : (backTo cpos (starEach [b] X.env)).any (·.1) = false := by rfl) :
    DO K X (.Call (.Name "list" p) [.Call (.Name "zip" p2) [a, b] [] cpos] [] pos) (fun ρ P => Tl ρ fun xs => ∃ d e ds es, xs = [d, e] ∧ zipD d = some ds ∧ zipD e = some es ∧ min ds.length es.length ≤ sizeLine ∧ P (.lst (((ds.zip es).map pairD).map .dat))) := by
  subst e1
  refine ⟨PE.weak (pe_listZip hc hg hm hg2 hm2 (by decide +kernel) ha.pa hs hs2 hpl) fun σ H Q h => ?_⟩
  obtain ⟨G0, H0, B, G, ρ, F, P, w, t, k⟩ := h
  refine ⟨G0, H0, B, G, ρ, F, _, w, t, fun xs G1 H1 vs p1 e1 s1 r1 => ?_⟩
  obtain ⟨d, e, ds, es, rfl, h1, h2, hz, p1⟩ := p1
  obtain ⟨v, u, rfl, r2, r3⟩ := r1.two
  obtain ⟨xs, z1, d1⟩ := r2.zit s1.sGH h1
  obtain ⟨ys, z2, d2⟩ := r3.zit s1.sGH h2
  refine ⟨v, u, xs, ys, rfl, z1, z2, by rw [d1.length, d2.length]; exact hz, fun q ts nq nt hp hl => ?_⟩
  have qt : q ∉ ts := fun m => (nt q m).2 rfl
  have gn : ∀ {c : Addr}, H1 c = none → G1 c = none := fun {c} hc => by
    cases z : G1 c with
    | none => rfl
    | some o => rw [s1.sGH _ _ z] at hc; cases hc
  have sG : Same G1 (putP G1 ts (xs.zip ys)) := fun c o z => by
    rw [putP_off fun m => by rw [gn (nt c m).1] at z; cases z]
    exact z
  have dz : DrAll X.K (putP G1 ts (xs.zip ys)) (ts.map V.ref) ((ds.zip es).map pairD) := (d1.same sG).zipP (d2.same sG) hl fun j t q e2 e3 => putP_at hp e2 e3
  have kp : ∀ {c : Addr} {o : HO}, H1 c = some o → putP (upd H1 q (.lst (ts.map V.ref))) ts (xs.zip ys) c = some o := fun {c o} z => by
    rw [putP_off (fun m => by rw [(nt c m).1] at z; cases z), upd_ne (ne_of_none z nq)]
    exact z
  have s2 : Stp B G1 H1 (putP G1 ts (xs.zip ys)) (putP (upd H1 q (.lst (ts.map V.ref))) ts (xs.zip ys)) := by
    refine ⟨fun c o z _ => kp z, sG, fun c o z => ?_, fun c z => ?_, fun b _ z => ?_⟩
    · by_cases m : c ∈ ts
      · obtain ⟨j, e2⟩ := List.mem_iff_getElem?.mp m
        have hj : j < (xs.zip ys).length := by
          have := (List.getElem?_eq_some_iff.mp e2).1
          rw [List.length_zip]
          omega
        have e3 : (xs.zip ys)[j]? = some (xs.zip ys)[j] := List.getElem?_eq_getElem hj
        rw [putP_at hp e2 e3] at z ⊢
        exact z
      · rw [putP_off m] at z
        exact kp (s1.sGH _ _ z)
    · by_cases m : c ∈ ts
      · exact .inr (nt c m).1
      · rw [putP_off m] at z
        exact .inl z
    · obtain ⟨g, si, i, ns, z1, z2, z3⟩ := z
      exact ⟨g, si, i, ns, kp z1, sG _ _ z2, z3⟩
  refine k _ _ _ (.ref q) ([q] ++ []) p1 (s1.trans s2 w.bags) ?_ fun c m => ?_
  · refine RepO.lst (F := []) ?_ ?_ (.ofDat dz) (by simp)
    · rw [putP_off qt]
      exact gn nq
    · rw [putP_off qt, upd_same]
  · simp only [List.append_nil, List.mem_singleton] at m
    subst m
    exact s1.none_back w.bags nq
end
end DL
set_option Elab.async false
set_option linter.all false
set_option maxRecDepth 100000
set_option maxHeartbeats 1000000
/-! TX3: a list of one's own changed within; tables of anything -/
namespace DL
open PySem PySem.Spec PyProof.Rows L2 GL
section
variable {K : PySem.W.Frag} {B : Option (Addr × Addr)} {G0 H0 G H : Hp} {σ : L2.St} {ρ : Env'} {F : List Addr}
/-- one's own list of data, put anew -/
theorem Wd.putL (w : Wd K G0 H0 B G H σ ρ F) {i : Nat} {ds : List PyData} (e : ρ[i]? = some (some (.l (ds.map .dat)))) :
    ∃ p us, σ[i]? = some (some (.ref p)) ∧ H p = some (.lst us) ∧ DrAll K G us ds ∧ G p = none ∧ H0 p = none ∧
      ∀ vs es, DrAll K G vs es → ∃ F', Wd K G0 H0 B G (upd H p (.lst vs)) σ (ρ.set i (some (.l (es.map .dat)))) F' := by
  obtain ⟨v0, F1, e1, r, sub, go⟩ := w.env.change e
  cases r with
  | l r =>
    cases r with
    | @lst p us _ F2 g h r1 np =>
      obtain ⟨rfl, d1⟩ := r1.dats
      have n0 : H0 p = none := w.own p (sub p List.mem_cons_self)
      have nbp : NotB B p := fun c z => (w.bag _ z).2.2 n0
      refine ⟨p, us, e1, h, d1, g, n0, fun vs es de => ?_⟩
      have oth : ∀ a, a ≠ p → ∀ u, H a = some u → upd H p (.lst vs) a = some u := fun a z u q => by rw [upd_ne z]; exact q
      obtain ⟨F', env', c⟩ := go G (upd H p (.lst vs)) (.l (es.map .dat)) [p] (Same.refl _) (fun a m z => ⟨(w.env.dom a m).1, oth a fun q => z (by rw [q]; exact List.mem_cons_self)⟩)
        (.l (.lst g upd_same (.ofDat de) (by simp))) (fun a m => by rw [List.mem_singleton.mp m]; exact .inl List.mem_cons_self)
      refine ⟨F', ⟨fun a u q => ?_, w.sG, w.fr, fun a u q nb => ?_, fun a m => ?_, fun b z => ?_, env'⟩⟩
      · have : a ≠ p := fun z => by rw [z, g] at q; cases q
        rw [upd_ne this]
        exact w.sGH _ _ q
      · have : a ≠ p := fun z => by rw [z, n0] at q; cases q
        rw [upd_ne this]
        exact w.keep a u q nb
      · rcases c a m with m | m
        · exact w.own a m
        · rw [List.mem_singleton.mp m]
          exact n0
      · obtain ⟨⟨g', s', i', ns, q1, q2, q3⟩, q4, q5⟩ := w.bag b z
        have : b.1 ≠ p := fun y => nbp b.2 (by rw [← y]; exact z)
        exact ⟨⟨g', s', i', ns, by rw [upd_ne this]; exact q1, q2, q3⟩, q4, q5⟩
end
section
variable {K : PySem.W.Frag} {X : Cx} {e f o a b : Expr} {Ta Tb : DT} {pos apos cpos p2 p3 p4 p5 : Pos}
/-- xs.insert(a, b), xs one's own, of data -/
theorem ds_insert {i : Nat} (e1 : X.K = K) (ho : PE X o (tVar i)) (ha : DE K X a Ta) (hb : DE K X b Tb)
    (hbase : attributeBase o "insert" X.env (eval o X.env) = eval o X.env := by rfl)
    (hfew : ((backTo cpos (starEach [a, b] X.env)).all (fun x => !x.1) && (backToKw cpos (keywordEach [] X.env)).all (fun x => x.1.isSome)
      && decide ([a, b].length + ([] : List Keyword).length + (if ([] : List Keyword).isEmpty then 0 else 1) < 30)) = true := by rfl)
    (hline : (apos.endLine == cpos.line) = true := by rfl) (hs : starEach [a, b] X.env = (false, eval a X.env) :: starEach [b] X.env := by rfl) (hs2 : starEach [b] X.env = (false, eval b X.env) :: starEach [] X.env := by rfl) (hplain : (backTo cpos (starEach [b] X.env)).any (·.1) = false := by rfl)
    (hsw : swapsWith (.Call (.Attribute o "insert" apos) [a, b] [] cpos) none pos.line X.env = pure false := by rfl) :
    DS K X (.Expr (.Call (.Attribute o "insert" apos) [a, b] [] cpos) pos) (fun P ρ => ∃ ds : List PyData, ρ[i]? = some (some (.l (ds.map .dat))) ∧ ds.length < sizeLine ∧ Ta ρ fun d => ∃ n : Int, d = .int n ∧ 0 ≤ n ∧ n < 2 ^ 63 ∧ Tb ρ fun f => P.nx (ρ.set i (some (.l ((ds.take n.toNat ++ [f] ++ ds.drop n.toNat).map .dat))))) := by
  subst e1
  refine ⟨PS.weak (ps_expr (pe_bm PySem.F.plainAttrs_list PySem.F.slot_list_insert PySem.F.type_list_insert mt_insert ho (pa_cons ha.pe (pa_cons hb.pe pa_nil hs2) hs) hbase hfew hline hs hplain) hsw) fun D σ H h => ?_⟩
  obtain ⟨G0, H0, B, G, ρ, F, P, w, ⟨ds, e1, hl, t⟩, k, _⟩ := h
  obtain ⟨p, us, e2, h2, d2, g2, n0, _⟩ := w.putL e1
  refine ⟨.ref p, e2, tyV_lst h2, G0, H0, B, G, ρ, F, _, w, t, fun d G1 H1 v p1 s1 r1 => ?_⟩
  obtain ⟨n, rfl, n1, n2, p1⟩ := p1
  cases r1
  refine ⟨G0, H0, B, G1, ρ, F, _, w.step s1, p1, fun f G2 H2 u p2 s2 r2 => ?_⟩
  have s12 := s1.trans s2 w.bags
  have w2 := w.step s12
  obtain ⟨p', us', e3, h3, d3, _, _, go⟩ := w2.putL e1
  rw [e2] at e3
  cases e3
  have h4 : us' = us := by
    have nb : NotB B p := fun c z => (w.bag _ z).2.2 n0
    rw [s12.keep _ _ h2 nb] at h3
    cases h3
    rfl
  subst h4
  obtain ⟨F', w3⟩ := go _ _ (((d3.take n.toNat).append (.cons r2 .nil)).append (d3.drop n.toNat))
  exact ⟨p, us', n, u, rfl, rfl, h3, by rw [d3.length]; exact hl, n1, n2, k _ σ G2 _ F' p2 w3⟩
/-- xs[a:b] = xs[a:b][::-1], xs one's own, of data -/
theorem ds_slRev {i : Nat} {Tl Th : Env' → (Option Int → Prop) → Prop} {lo hi lo2 hi2 : Option Expr} {kk} {q1 q2 q3 q4 q5 q6 : Pos} (e1 : X.K = K) (ho : PE X o (tVar i)) (ho2 : PE X f (tVar i)) (hl : IntO Tl K X lo) (hh : IntO Th K X hi) (hl2 : IntO Tl K X lo2) (hh2 : IntO Th K X hi2)
    (ha : ∀ v, assign (.Subscript o (.Slice lo hi none p2) p3) X.env v = (do
      let ov ← holding [v] (eval o X.env)
      let iv ← holding [v, ov] (eval (.Slice lo hi none p2) X.env)
      standAt p3
      holding [v, ov, iv] (setItem ov iv v)
      release [v, ov, iv] []) := by intro _; rfl)
    (hs : swapsWithSole [.Subscript o (.Slice lo hi none p2) p3] (.Subscript (.Subscript f (.Slice lo2 hi2 none q1) q2) (.Slice none none (some (.UnaryOp .USub (.Constant (.int 1) kk q3) q4)) q5) q6) pos.line X.env = pure false := by rfl)
    (hw : swappedStores [.Subscript o (.Slice lo hi none p2) p3] (.Subscript (.Subscript f (.Slice lo2 hi2 none q1) q2) (.Slice none none (some (.UnaryOp .USub (.Constant (.int 1) kk q3) q4)) q5) q6) X.env = pure none := by rfl)
    (h1 : (assignEach [.Subscript o (.Slice lo hi none p2) p3] X.env).map (·.2) = [assign (.Subscript o (.Slice lo hi none p2) p3) X.env] := by rfl) :
    DS K X (.Assign [.Subscript o (.Slice lo hi none p2) p3] (.Subscript (.Subscript f (.Slice lo2 hi2 none q1) q2) (.Slice none none (some (.UnaryOp .USub (.Constant (.int 1) kk q3) q4)) q5) q6) pos)
      (fun P ρ => ∃ ds : List PyData, ρ[i]? = some (some (.l (ds.map .dat))) ∧ ds.length + ds.length ≤ sizeLine ∧ Tl ρ fun l => Th ρ fun u => Tl ρ fun l2 => Th ρ fun u2 => P.nx (ρ.set i (some (.l ((ds.take (HT.sIx ds.length 0 l2) ++ (cutD ds l u).reverse ++ ds.drop (max (HT.sIx ds.length 0 l2) (HT.sIx ds.length ds.length u2))).map .dat))))) := by
  subst e1
  refine ⟨PS.weak (ps_asg (pe_revL (pe_slice sl_list ho2 hl2 hh2)) (pg_slL ho hl hh ha) hs hw h1) fun D σ H h => ?_⟩
  obtain ⟨G0, H0, B, G, ρ, F, P, w, ⟨ds, e1, hz, t⟩, k, _⟩ := h
  obtain ⟨p, us, e2, h2, d2, g2, n0, _⟩ := w.putL e1
  have nb : NotB B p := fun c z => (w.bag _ z).2.2 n0
  refine ⟨.ref p, e2, G0, H0, B, G, ρ, F, _, w, t, fun l G1 H1 p1 s1 => ⟨G0, H0, B, G1, ρ, F, _, w.step s1, p1, fun u G2 H2 p2 s2 => ?_⟩⟩
  have w2 := (w.step s1).step s2
  have hp2 : H2 p = some (.lst us) := s2.keep _ _ (s1.keep _ _ h2 nb) nb
  refine ⟨p, us, rfl, .inl (.inl hp2), fun r1 nr1 => ⟨r1, cutV us l u, rfl, .inl (.inl upd_same), fun r2 nr2 => ?_⟩⟩
  have s3 : Stp B G2 H2 G2 (upd H2 r1 (.lst (cutV us l u))) := Stp.new w2.sGH nr1
  have w3 := w2.step s3
  have s4 : Stp B G2 (upd H2 r1 (.lst (cutV us l u))) G2 (upd (upd H2 r1 (.lst (cutV us l u))) r2 (.lst (cutV us l u).reverse)) := Stp.new w3.sGH nr2
  have w4 := w3.step s4
  have hp4 := s4.keep _ _ (s3.keep _ _ hp2 nb) nb
  have nr : p ≠ r2 := fun z => by
    have := s3.keep _ _ hp2 nb
    rw [z, nr2] at this
    cases this
  refine ⟨.ref p, e2, G0, H0, B, G2, ρ, F, _, w4, p2, fun l2 G5 H5 p5 s5 => ⟨G0, H0, B, G5, ρ, F, _, w4.step s5, p5, fun u2 G6 H6 p6 s6 => ?_⟩⟩
  have w6 := (w4.step s5).step s6
  have nb2 : NotB B r2 := fun c z => by
    have h9 := (w3.bag _ z).1.some
    exact h9 nr2
  have hr6 : H6 r2 = some (.lst (cutV us l u).reverse) := s6.keep _ _ (s5.keep _ _ upd_same nb2) nb2
  have hp6 : H6 p = some (.lst us) := s6.keep _ _ (s5.keep _ _ hp4 nb) nb
  obtain ⟨p', us', e3, h3, d3, _, _, go⟩ := w6.putL e1
  rw [e2] at e3
  cases e3
  rw [hp6] at h3
  cases h3
  have dc : DrAll X.K G6 (cutV us l u).reverse (cutD ds l u).reverse := (cut_dr d3 l u).rev
  obtain ⟨F', w7⟩ := go _ _ (((d3.take (HT.sIx ds.length 0 l2)).append dc).append (d3.drop (max (HT.sIx ds.length 0 l2) (HT.sIx ds.length ds.length u2))))
  refine ⟨p, us, r2, (cutV us l u).reverse, rfl, rfl, nr, hp6, .inl (.inl hr6), ?_, ?_⟩
  · have := cutV_length us l u
    rw [List.length_reverse]
    have := d3.length
    omega
  · rw [d3.length]
    exact k _ σ G6 _ F' p6 w7
end
end DL
set_option Elab.async false
set_option linter.all false
set_option maxRecDepth 100000
set_option maxHeartbeats 1000000
/-! TX4: the module's tables of anything; a short text many times -/
namespace DL
open PySem PySem.Spec PyProof.Rows L2 GL
/-- a table of anything that is constant -/
inductive TabN (K : PySem.W.Frag) : List DictEntry → List (Str × PyData) → Prop
  | nil : TabN K [] []
  | cons {h : Int} {x : Str} {t : Tok} {a : Addr} {d : PyData} {es : List DictEntry} {ts : List (Str × PyData)} : (∀ G, Dr K G (.ref a) d) → TabN K es ts → TabN K (⟨h, .str x t, .ref a⟩ :: es) ((x, d) :: ts)
def tabAt : List (Str × PyData) → Str → Option PyData
  | [], _ => none
  | p :: r, x => if p.1 = x then some p.2 else tabAt r x
theorem TabN.get {K : PySem.W.Frag} {x : Str} : ∀ {es : List DictEntry} {ts : List (Str × PyData)}, TabN K es ts → (∃ a d p, es.find? (·.key.isStr x) = some a ∧ tabAt ts x = some d ∧ a.val = .ref p ∧ ∀ G, Dr K G (.ref p) d) ∨
    (es.find? (·.key.isStr x) = none ∧ tabAt ts x = none ∧ es.any (·.refKey) = false)
  | _, _, .nil => .inr ⟨rfl, rfl, rfl⟩
  | _, _, .cons (h := h) (x := y) (t := t) (a := a) (d := d) (es := es) (ts := ts) l r => by
    have e1 : (Value.str y t).isStr x = decide (y = x) := by
      show (y == x) = decide (y = x)
      rw [Bool.eq_iff_iff, beq_iff_eq, decide_eq_true_eq]
    by_cases q : y = x
    · refine .inl ⟨⟨h, .str y t, .ref a⟩, d, a, ?_, ?_, rfl, l⟩
      · exact List.find?_cons_of_pos (by show (Value.str y t).isStr x = true; rw [e1, decide_eq_true_eq]; exact q)
      · exact if_pos q
    · have e2 : ∀ o : Option PyData, (if y = x then some d else o) = o := fun o => if_neg q
      have e3 : ∀ l : List DictEntry, (⟨h, .str y t, .ref a⟩ :: l).find? (·.key.isStr x) = l.find? (·.key.isStr x) := fun l => List.find?_cons_of_neg (by show ¬ (Value.str y t).isStr x = true; rw [e1, decide_eq_true_eq]; exact q)
      rcases TabN.get (x := x) r with ⟨a', d', p', k1, k2, k3, k4⟩ | ⟨k1, k2, k3⟩
      · exact .inl ⟨a', d', p', (e3 _).trans k1, (e2 _).trans k2, k3, k4⟩
      · refine .inr ⟨(e3 _).trans k1, (e2 _).trans k2, ?_⟩
        rw [List.any_cons, k3]
        rfl
structure KTabN (K : PySem.W.Frag) (w : World) (d : Addr) (ts : List (Str × PyData)) : Prop where
  ex : ∃ es n, K.lookup d = some ⟨.type "dict", none, .dict es n, #[]⟩ ∧ PySem.W.KeysLit w.params es.toList ∧ TabN K es.toList ts ∧ (d == sysModules) = false
theorem KTabN.ns {K : PySem.W.Frag} {w : World} {d : Addr} {ts : List (Str × PyData)} (h : KTabN K w d ts) (x : Str) : (∃ p e, PySem.W.nsIn K d x = some (some (.ref p)) ∧ tabAt ts x = some e ∧ ∀ G, Dr K G (.ref p) e) ∨ (PySem.W.nsIn K d x = some none ∧ tabAt ts x = none) := by
  obtain ⟨es, n, l, _, t, _⟩ := h.ex
  rcases t.get (x := x) with ⟨a, e, p, k1, k2, k3, k4⟩ | ⟨k1, k2, k3⟩
  · refine .inl ⟨p, e, ?_, k2, k4⟩
    unfold PySem.W.nsIn
    rw [l]
    simp only [k1, k3]
  · refine .inr ⟨?_, k2⟩
    unfold PySem.W.nsIn
    rw [l]
    simp only [k1, k3]
    rfl
/-- a constant tuple -/
theorem Dr.kt {K : PySem.W.Frag} {G : Hp} {a : Addr} {o : Obj} {its : Array Value} {n : Nat} {vs : List V} {ds : List PyData} (l : K.lookup a = some o) (c : o.cls = .type "tuple") (d : o.data = .seq its n) (z : its.size ≤ sizeLine) (r : Vals vs its.toList) (h : DrAll K G vs ds) : Dr K G (.ref a) (.tuple ds) :=
  .tup (.inr ⟨_, _, _, l, c, d, z, r⟩) h
section
variable {K : PySem.W.Frag} {X : Cx} {e f a b : Expr} {Ta Tb : DT} {pos p : Pos}
/-- TAB.get(e, f) -/
theorem de_kgetN {x : Str} {ts : List (Str × PyData)} {apos cpos : Pos} (hg : Gl X x) (h : ∃ d, X.mg x = some (.ref d) ∧ KTabN X.K X.w d ts) (e1 : X.K = K) (he : DE K X e Ta) (hf : DE K X f Tb)
    (m : M2 X (.Name x p) "get" apos e f cpos := by exact ⟨rfl, rfl, rfl, rfl⟩) (hd : (x == ("__debug__" : Str)) = false := by decide) :
    DE K X (.Call (.Attribute (.Name x p) "get" apos) [e, f] [] cpos) (fun ρ P => Ta ρ fun d => ∃ z, d = .str z ∧ Tb ρ fun g => P ((tabAt ts z).getD g)) := by
  subst e1
  obtain ⟨d, hx, D⟩ := h
  have base : PE X (.Call (.Attribute (.Name x p) "get" apos) [e, f] [] cpos) (fun σ H Q => liftE X.K Ta σ H fun y H2 => ∃ z, y = .str z ∧ liftE X.K Tb σ H2 fun g H3 => ∀ r, PySem.W.nsIn X.K d z = some r → ∃ v, (∀ u, RelV g u → RelV v (r.getD u)) ∧ Q v H3) := by
    refine ⟨fun pins s σ H Q I h => ?_⟩
    obtain ⟨es, n, l, kl, _, lo⟩ := D.ex
    refine wpAny_Call_method m.base m.few m.line PySem.F.plainAttrs_dict PySem.F.slot_dict_get PySem.F.type_dict_get (thn ((pe_glob (v := .ref d) hg hx rfl hd).run pins s σ H (fun y H' => y = .ref d ∧ H' = H) I ⟨rfl, rfl⟩) fun u s1 ⟨y, H1, I1, rx, ey, eH⟩ => ?_)
    subst ey eH
    obtain rfl : u = Value.ref d := rx
    have hm := PySem.W.mapOf_K (prog := X.prog) (w := X.w) I1.kIn l kl
    refine ⟨hm.typeIs, fun a e => by cases e; exact ⟨_, I1.kIn _ _ l, rfl⟩, ?_⟩
    rw [m.trees]
    refine Calls.callWith_builtin rfl (Calls.evalArgs_plain (Calls.spliced_cons (thn (he.pe.run pins s1 σ _ _ I1 h) fun iv s2 ⟨y, H2, I2, ry, z, ez, q2⟩ => Calls.spliced_cons (thn (hf.pe.run pins s2 σ _ _ I2 q2) fun gv s3 ⟨g, H3, I3, rg, q3⟩ => Calls.spliced_nil ?_))))
    subst ez
    obtain ⟨t, rfl⟩ := (show ∃ t, iv = Value.str z t from ry)
    have hm2 := PySem.W.mapOf_K (prog := X.prog) (w := X.w) I3.kIn l kl
    have go : ∀ r, PySem.W.nsIn X.K d z = some r → wpAny (model X.prog X.w) X.A (call (.builtin "dict.get") [.ref d, .str z t, gv]) (EP X pins σ Q) X.xe s3 := fun r hr => by
      obtain ⟨v, rv, qv⟩ := q3 r hr
      refine call_meetsIn PySem.F.slot_dict_get hm2.typeIs PySem.F.entry_dict_get (PySem.F.args_dict_get_3 _ _ _) (meets_dict_get_default (strKind X.prog X.w) d (strKind_is X.prog X.w z t) lo gv) ⟨_, hm2, ?_⟩
      rw [PySem.W.find_K l hr]
      exact ⟨v, H3, I3.tok _, rv gv rg, qv⟩
    rcases D.ns z with ⟨p', ys, k1, _, _⟩ | ⟨k1, _⟩
    · exact go _ k1
    · exact go _ k1
  refine ⟨PE.weak base fun σ H Q h => ?_⟩
  obtain ⟨G0, H0, B, G, ρ, F, P, w, t, k⟩ := h
  refine ⟨G0, H0, B, G, ρ, F, _, w, t, fun d' G' H' v p s r => ?_⟩
  obtain ⟨z, rfl, p⟩ := p
  refine ⟨z, r.tStr, G0, H0, B, G', ρ, F, _, w.step s, p, fun g G2 H2 u p2 s2 r2 => fun r' hr => ?_⟩
  have s12 := s.trans s2 w.bags
  rcases D.ns z with ⟨p', e', k1, k2, k3⟩ | ⟨k1, k2⟩
  · rw [k1] at hr
    cases hr
    rw [k2] at p2
    exact ⟨.ref p', fun _ _ => rfl, k _ G2 H2 _ p2 s12 (k3 G2)⟩
  · rw [k1] at hr
    cases hr
    rw [k2] at p2
    exact ⟨u, fun _ h => h, k _ G2 H2 _ p2 s12 r2⟩
theorem de_gStr {x : Str} {z : Str} (hg : Gl X x) (h : ∃ t, X.mg x = some (.str z t)) (hd : (x == ("__debug__" : Str)) = false := by decide) : DE K X (.Name x pos) (fun _ P => P (.str z)) := by
  obtain ⟨t, h⟩ := h
  exact de_c (pe_glob (v := .str z) hg h ⟨t, rfl⟩ hd) fun _ => .str z
/-- z * n -/
theorem od_mulF : OpData K (fun x y H Q => ∃ (z : Str) (n : Int), x = .str z ∧ y = .int n ∧ 0 ≤ n ∧ n ≤ 100000 ∧ z.length ≤ 100 ∧ Q (.str (Txt.mul z n)) H) (fun d e P => ∃ (z : Str) (n : Int), d = .str z ∧ e = .int n ∧ 0 ≤ n ∧ n ≤ 100000 ∧ z.length ≤ 100 ∧ P (.str (Txt.mul z n))) := flat_data fun G H d e x y P Q s dx dy p k => by
  obtain ⟨z, n, rfl, rfl, h1, h2, h3, p⟩ := p
  cases dx
  cases dy
  exact ⟨z, n, rfl, rfl, h1, h2, h3, k _ _ p (.str _)⟩
theorem de_mulF (ha : DE K X a Ta) (hb : DE K X b Tb) : DE K X (.BinOp a .Mult b pos) (fun ρ P => Ta ρ fun d => Tb ρ fun e => ∃ (z : Str) (n : Int), d = .str z ∧ e = .int n ∧ 0 ≤ n ∧ n ≤ 100000 ∧ z.length ≤ 100 ∧ P (.str (Txt.mul z n))) := de_op op_mul_far od_mulF ha hb
end
end DL
set_option Elab.async false
set_option linter.all false
set_option maxRecDepth 100000
set_option maxHeartbeats 1000000
/-! TX5: a if c else b, as a test -/
namespace DL
open PySem PySem.Spec PyProof.Rows L2 GL
section
variable {K : PySem.W.Frag} {X : Cx} {c a b : Expr} {Tt Ta Tb : BT} {tc ta tb : TT} {pos : Pos}
theorem pt_ifT (hc : PT X c tc) (ha : PT X a ta) (hb : PT X b tb) : PT X (.IfExp c a b pos) (fun σ H Q => tc σ H fun k H1 => if k = true then ta σ H1 Q else tb σ H1 Q) := by
  refine ⟨fun pins s σ H Q I h => ?_⟩
  have e : ∀ w, isTrue (.IfExp c a b pos) X.env w = (do if ← isTrue c X.env (eval c X.env) then isTrue a X.env (eval a X.env) else isTrue b X.env (eval b X.env)) := fun w => by
    first | rfl | simp only [isTrue]
  rw [e]
  refine wpAny_bind (wpAny_mono (hc.run pins s σ H _ I h) (fun k s1 h1 => ?_) fun _ _ x => x)
  obtain ⟨H1, I1, q1⟩ := h1
  cases k with
  | true => exact ha.run pins s1 σ H1 Q I1 q1
  | false => exact hb.run pins s1 σ H1 Q I1 q1
theorem db_ifT (hc : DB K X c Tt) (ha : DB K X a Ta) (hb : DB K X b Tb) : DB K X (.IfExp c a b pos) (fun ρ P => Tt ρ fun k => if k = true then Ta ρ P else Tb ρ P) := by
  refine ⟨PT.weak (pt_ifT hc.pt ha.pt hb.pt) fun σ H Q h => ?_⟩
  obtain ⟨G0, H0, B, G, ρ, F, P, w, t, k⟩ := h
  refine ⟨G0, H0, B, G, ρ, F, _, w, t, fun c G' H' p s => ?_⟩
  cases c with
  | false =>
    show liftB K Tb σ H' Q
    exact ⟨G0, H0, B, G', ρ, F, _, w.step s, (by simpa using p), fun d G2 H2 p2 s2 => k d G2 H2 p2 (s.trans s2 w.bags)⟩
  | true =>
    show liftB K Ta σ H' Q
    exact ⟨G0, H0, B, G', ρ, F, _, w.step s, (by simpa using p), fun d G2 H2 p2 s2 => k d G2 H2 p2 (s.trans s2 w.bags)⟩
end
section
variable {K : PySem.W.Frag} {X : Cx} {a b : Expr} {Ta Tb : DT} {pos : Pos}
theorem db_inD (e1 : X.K = K) (hu : X.A.units + 65 < cLine) (ha : DE K X a Ta) (hb : DE K X b Tb) (hm : behindInMarks .In b = false := by with_unfolding_all rfl) : DB K X (.Compare a [.In] [b] pos) (fun ρ P => Ta ρ fun d => Tb ρ fun e => ∃ ds, e = .list ds ∧ d.hasDict = false ∧ PyData.hasDictAll ds = false ∧ SeqAt.shaped d = true ∧ SeqAt.shaped (.list ds) = true ∧ P (ds.any fun z => PyData.eqv z d)) := by
  subst e1
  have h := db_cmp (r := fun x y H Q => ∃ d ds, Dp X.K H x d ∧ Dp X.K H y (.list ds) ∧ SeqAt.shaped d = true ∧ SeqAt.shaped (.list ds) = true ∧ Q (.bl (xor false (ds.any fun z => PyData.eqv z d))) H) (op := .In) (by
    intro pins s σ H x y v u Q I rx ry ⟨d, ds, h1, h2, h3, h4, q⟩
    exact op_inD hu pins s σ H x y v u Q I rx ry ⟨d, ds, h1, h2, h3, h4, by simpa using q⟩) (od_inD (n := false)) ha hb (pos := pos) hm
  simpa using h
end
end DL
set_option Elab.async false
set_option linter.all false
set_option maxRecDepth 100000
set_option maxHeartbeats 2000000
/-! XN: raise C(), where C's own __init__ sets nothing -/
namespace GL
open PySem PySem.Spec PyProof.Rows L2
section
variable {X : Cx} {p pos : Pos}
/-- the end of C(): the exception is let go -/
theorem mk_endN {pins : List (Addr × Obj)} {σ : L2.St} {H1 : Hp} {Q : XK} {hp hp2 h2 : Heap} {g1 g2 : Array GenState} {d1 d2 : Drawn} {t1 t2 : Nat} {os1 os2 : OsState} {a C : Addr} (T : Raises X (.ref C)) (I1 : Inv X pins σ H1 ⟨hp, g1, d1, t1, os1⟩)
    (ha : hp.objs.size ≤ a) (k : ∀ b o, hp.get? b = some o → hp2.get? b = some o) (un : Un (frs X.stack) [] (upd H1 a (exo a C none)) (upd H1 a (exo a C none)) hp2 h2) (hok : HOk X.prog X.w (upd H1 a (exo a C none)) h2) (ho : os2 = os1) (hb : AllBare g2)
    (q : Q (.ref C) none H1) : MkP X pins σ Q (.ref a) ⟨h2, g2, d2, t2, os2⟩ := by
  have ea : upd H1 a (exo a C none) a = some (exo a C none) := upd_same
  obtain ⟨t0, hoe⟩ := exo_at hok ea
  have hn : H1 a = none := I1.hok.fresh ha
  obtain ⟨G, g1', g2'⟩ := restrict h2 fun b => decide (b ≠ a)
  have gk : ∀ b, b ≠ a → G.get? b = h2.get? b := fun b hb => g1' b (decide_eq_true hb)
  have ge : G.get? a = none := g2' a (by simp)
  have nha : ∀ {b : Addr} {o : Obj}, hp.get? b = some o → b ≠ a := fun {b o} z => Nat.ne_of_lt (Nat.lt_of_lt_of_le (Heap.lt_size z) ha)
  have up : ∀ {b : Addr}, b ≠ a → H1 b = none → upd H1 a (exo a C none) b = none := fun {b} hb n => by rw [upd_ne hb]; exact n
  have ne1 : ∀ {b : Addr} {u : HO}, H1 b = some u → b ≠ a := fun {b u} z e => by rw [e, hn] at z; cases z
  have U : Un (frs X.stack) [] H1 H1 hp G := {
    keep := fun b o z n hf hx => by
      rw [gk b (nha z)]
      exact un.keep b o (k b o z) (up (nha z) n) hf hx
    slot := fun b o z n hf hx => by
      rw [gk b (nha z)]
      exact un.slot b o (k b o z) (up (nha z) n) hf hx
    free := fun b o z n hx => n
    there := fun b o z hx => by
      rw [gk b (nha z)]
      exact un.there b o (k b o z) hx
    tups := fun b xs z => z
    frzs := fun b o v z => z
    tbls := fun b ps z => ⟨#[], by rw [Array.append_empty]; exact z⟩ }
  have hok3 : HOk X.prog X.w H1 G := fun b o z => by
    have hba : b ≠ a := ne1 z
    have z2 : upd H1 a (exo a C none) b = some o := by rw [upd_ne hba]; exact z
    have noa : ∀ {c : Addr}, upd H1 a (exo a C none) c = some (.own b) → c ≠ a := fun {c} hc => at_ne ea hc exo_own
    exact (hok b o z2).stay (fun c v hc y => by
        have hca : c ≠ a := by
          rcases hc with hc | hc
          · rw [hc]
            exact hba
          · exact noa hc
        rw [gk c hca]
        exact y)
      (fun c hc => by rw [upd_ne (noa hc)] at hc; exact hc) (fun c xs hc => by rw [upd_ne (at_ne ea hc exo_tup)] at hc; exact hc)
  have J : Inv X pins σ H1 ⟨G, g2, d2, t2, os2⟩ := I1.call' (ch := []) ho U hok3 hb (fun b z => absurd z (by simp))
  refine ⟨a, _, _, ⟨G, g2, d2, t2, os2⟩, _, .ref C, none, rfl, J, fun b o z => ?_, ge, hoe, ⟨rfl, rfl⟩, rfl, rfl, hn, rfl, hb, T, q⟩
  by_cases hba : b = a
  · rw [hba, ge] at z
    cases z
  · exact (gk b hba).symm.trans z
/-- C(), its __init__ sets nothing -/
theorem pmk_oexN {x : Str} {C fI : Addr} {k : Nat} {fd : FuncData} {ps : List Str} {sp : Sp} (T : OexC X.K C) (iC : PySem.W.findIn X.K (.ref C) "__init__" = some (some (.ref fI))) (tI : PySem.W.typeIn X.K (.ref fI) = some (.type "function"))
    (F1 : FnOk X.prog X.w X.K X.mg X.base CX0 k fI fd ps sp) (hr : Room (k + 1) X.A) (hb : Binds X.K fd ps []) (hg : Gl X x) (hm : X.mg x = some (.ref C))
    (hdb : (x == ("__debug__" : Str)) = false := by decide) :
    PMk X (.Call (.Name x p) [] [] pos) (fun _ H Q => (∀ a, H a = none → sp [.ref a] (upd H a (exo a C none)) (fun v H2 => v = .non ∧ H2 = upd H a (exo a C none)) (fun _ _ _ => False)) ∧ Q (.ref C) none H) := by
  intro pins s σ H Q I h
  obtain ⟨h, q⟩ := h
  obtain ⟨nm, q', N, bs, bm, sn, sub, ab, col, dd, k0, k1, k2, k3, k5, hC, hbm⟩ := T.cls
  apply wpAny_Call_Name_kw
  apply ld_glob I hg hm ?_ hdb
  apply PySem.W.callWith_K0 I.kIn T.kC
  obtain ⟨hp, g, dr, tk, os⟩ := s
  have up := Nat.le_succ hp.objs.size
  have q2 := h (hp.objs.size + 1) (I.hok.fresh up)
  have keeps : ∀ b o, hp.get? b = some o → ((hp.push (PySem.W.kdv_tup [])).push (PySem.HandSPX.excO C hp.objs.size)).get? b = some o :=
    fun b o z => Heap.get?_push_of_some _ (Heap.get?_push_of_some _ z)
  have there : ((hp.push (PySem.W.kdv_tup [])).push (PySem.HandSPX.excO C hp.objs.size)).get? (hp.objs.size + 1) = some (PySem.HandSPX.excO C hp.objs.size) := by heap_get
  have I2 : Inv X pins σ (upd H (hp.objs.size + 1) (exo (hp.objs.size + 1) C none)) ⟨(hp.push (PySem.W.kdv_tup [])).push (PySem.HandSPX.excO C hp.objs.size), g, dr, tk, os⟩ :=
    I.laid (t' := tk) keeps up (exo_ok there)
  have r2 : Vals [V.ref (hp.objs.size + 1)] [Value.ref (hp.objs.size + 1)] := .cons rfl .nil
  have bound := hb _ [Value.ref (hp.objs.size + 1)] I2.kIn (by rw [List.append_nil, ← r2.length]; exact F1.len _ _ _ _ q2)
  rw [List.append_nil] at bound
  refine wpAny_call (PySem.HandSPX.call_own F.excBase_ValueError (fun Y => PySem.HandSPX.refsVE_contains Y bm hbm) (I.kIn _ _ hC)
    (PySem.W.looks_findIn I.kIn iC) (fun self => PySem.W.bind_fn I.kIn self tI) (by rw [sizeLine_eq]; decide) ?_)
  refine codeAny_mono (F1.run _ X.stack _ _ ⟨[Value.ref (hp.objs.size + 1)], []⟩ _ _ _ (fun _ _ _ => False) (hr.make C [] []) (I2.env0.make C [] []) bound r2 q2) ?_
  intro r s' hq
  match r, hq with
  | .ok (.ret u), hq =>
    obtain ⟨v, H2, os2, bare2, un2, hok2, rv, ev, eH⟩ := hq
    subst ev eH
    obtain ⟨h2, g2, d2, t2, os'⟩ := s'
    exact ⟨rv, mk_endN (raises_own T.exC T.tyC) I up keeps un2 hok2 os2 bare2 q⟩
/-- isinstance(e, C) of the error that a suite holds, which has no dict -/
theorem call_isN {a D : Addr} {cls : Value} {d : Option Addr} {oe : Obj} {pn : List (Addr × Obj)} (C : ExcC X.K D) (hz : Zc cls d oe) (hf : ∃ vs, oe.data = .fields vs) :
    CallR (X.suite a ((a, oe) :: pn)) (.builtin "isinstance") (fun xs H Q => ∃ (c : V) (cv : Value) (b : Bool), xs = [.ref a, c] ∧ ClsV c cv ∧ cls = .ref D ∧ d = none ∧ PySem.W.kitOne X.K (.ref D) cv = some b ∧ Q (.bl b) H) := by
  intro pins s σ H xs us Q I r h
  obtain ⟨c, cv, b, e, hc, rfl, rfl, k, q⟩ := h
  exact call_isE C hz hf pins s σ H xs us Q I r ⟨c, cv, b, e, fun u hu => hc.eq hu, k, q⟩
end
end GL
set_option Elab.async false
set_option linter.all false
set_option maxRecDepth 100000
set_option maxHeartbeats 1000000
/-! SV: xs[a:b] = ys, the slice released first -/
namespace GL
open PySem PySem.Spec PyProof.Rows L2
section
variable {X : Cx} {o : Expr} {lo hi : Option Expr} {to : TE} {tl th : TO} {pos p2 : Pos}
theorem pg_slL2 (ho : PE X o to) (hl : PO X lo tl) (hu : PO X hi th)
    (ha : ∀ v, assign (.Subscript o (.Slice lo hi none p2) pos) X.env v = (do
      let ov ← holding [v] (eval o X.env)
      let iv ← holding [v, ov] (eval (.Slice lo hi none p2) X.env)
      standAt pos
      holding [v, ov, iv] (setItem ov iv v)
      release [iv, v, ov] []) := by intro _; rfl) : PG X (.Subscript o (.Slice lo hi none p2) pos) (gSlL X.K to tl th) := by
  refine ⟨fun pins s σ H v u Q I r h => ?_⟩
  rw [ha]
  refine wpAny_bind (wpAny_holding (thn (ho.run pins s σ H _ I h) fun ov s1 ⟨x, H1, I1, r1, q1⟩ => ?_))
  refine wpAny_bind (wpAny_holding (wpAny_Slice (thn (hl.run pins s1 σ H1 _ I1 q1) fun vl s2 ⟨l, H2, I2, pl, q2⟩ => thn (hu.run pins s2 σ H2 _ I2 q2) fun vu s3 ⟨u', H3, I3, pu, q3⟩ => ?_)))
  rw [evalPart_none]
  refine wpAny_pure ?_
  have I4 : Inv X pins σ H3 { s3 with heap := s3.heap.push { cls := .type "slice", data := .fields #[vl, vu, .none] } } := I3.kept (t' := s3.toks) fun b ob q => Heap.get?_push_of_some _ q
  obtain ⟨p, xs, q, ys, rfl, rfl, ne, hp, hq, hz, q4⟩ := q3
  cases r1
  cases r
  obtain ⟨its, n, rv, hop, hz1⟩ := I4.lst hp
  obtain ⟨its2, rv2, hl2, hz2⟩ := I4.list hq
  have hlen := rv.length
  have hlen2 := rv2.length
  obtain ⟨b1, b2, b3⟩ := slice_bounds l u' its.toArray.size
  have hb : sliceBounds l u' none its.toArray.size = (((HT.sIx xs.length 0 l : Nat) : Int), ((HT.sIx xs.length xs.length u' : Nat) : Int), 1) := by
    rw [List.size_toArray, ← hlen] at b1 b2 b3 ⊢
    exact Prod.ext b1 (Prod.ext b2 b3)
  refine wpAny_bind (wpAny_standAt (wpAny_bind (wpAny_holding (setItem_slice hop hl2.isList ne (Heap.IsSliceOf.new ..) pl pu hb (by rw [List.size_toArray, ← hlen]; exact HT.sIx_le _ _ (Nat.zero_le _) _) (by rw [List.size_toArray, List.size_toArray, ← hlen, ← hlen2]; exact hz) ?_))))
  have e : (its.toArray.extract 0 (HT.sIx xs.length 0 l) ++ its2.toArray ++ its.toArray.extract (max (HT.sIx xs.length 0 l) (HT.sIx xs.length xs.length u')) its.toArray.size) = (its.take (HT.sIx xs.length 0 l) ++ its2 ++ its.drop (max (HT.sIx xs.length 0 l) (HT.sIx xs.length xs.length u'))).toArray := by
    have e2 : List.take (its.length - max (HT.sIx xs.length 0 l) (HT.sIx xs.length xs.length u')) (List.drop (max (HT.sIx xs.length 0 l) (HT.sIx xs.length xs.length u')) its) = List.drop (max (HT.sIx xs.length 0 l) (HT.sIx xs.length xs.length u')) its := List.take_of_length_le (by rw [List.length_drop]; omega)
    simp [e2]
  have hf : Obj.mapSeq (fun zs => zs.extract 0 (HT.sIx xs.length 0 l) ++ its2.toArray ++ zs.extract (max (HT.sIx xs.length 0 l) (HT.sIx xs.length xs.length u')) zs.size) { cls := .type "list", data := .seq its.toArray n } = { cls := .type "list", data := .seq (its.take (HT.sIx xs.length 0 l) ++ its2 ++ its.drop (max (HT.sIx xs.length 0 l) (HT.sIx xs.length xs.length u'))).toArray (if ((its.take (HT.sIx xs.length 0 l) ++ its2 ++ its.drop (max (HT.sIx xs.length 0 l) (HT.sIx xs.length xs.length u'))).toArray.size == its.toArray.size) = true then n else n + 1) } := by
    unfold Obj.mapSeq
    dsimp only
    rw [e]
  refine wpAny_release ⟨σ, _, I4.lstUpd hp hop hf (((rv.take _).append rv2).append (rv.drop _)) ?_ s3.toks, q4⟩
  rw [List.length_append, List.length_append, List.length_take, List.length_drop]
  omega
end
end GL
namespace DL
open PySem PySem.Spec PyProof.Rows L2 GL
section
variable {K : PySem.W.Frag} {X : Cx} {e f o a b : Expr} {Ta Tb : DT} {pos apos cpos p2 p3 p4 p5 : Pos}
/-- xs[a:b] = xs[a:b][::-1], xs one's own, of data -/
theorem ds_slRev2 {i : Nat} {Tl Th : Env' → (Option Int → Prop) → Prop} {lo hi lo2 hi2 : Option Expr} {kk} {q1 q2 q3 q4 q5 q6 : Pos} (e1 : X.K = K) (ho : PE X o (tVar i)) (ho2 : PE X f (tVar i)) (hl : IntO Tl K X lo) (hh : IntO Th K X hi) (hl2 : IntO Tl K X lo2) (hh2 : IntO Th K X hi2)
    (ha : ∀ v, assign (.Subscript o (.Slice lo hi none p2) p3) X.env v = (do
      let ov ← holding [v] (eval o X.env)
      let iv ← holding [v, ov] (eval (.Slice lo hi none p2) X.env)
      standAt p3
      holding [v, ov, iv] (setItem ov iv v)
      release [iv, v, ov] []) := by intro _; rfl)
    (hs : swapsWithSole [.Subscript o (.Slice lo hi none p2) p3] (.Subscript (.Subscript f (.Slice lo2 hi2 none q1) q2) (.Slice none none (some (.UnaryOp .USub (.Constant (.int 1) kk q3) q4)) q5) q6) pos.line X.env = pure false := by rfl)
    (hw : swappedStores [.Subscript o (.Slice lo hi none p2) p3] (.Subscript (.Subscript f (.Slice lo2 hi2 none q1) q2) (.Slice none none (some (.UnaryOp .USub (.Constant (.int 1) kk q3) q4)) q5) q6) X.env = pure none := by rfl)
    (h1 : (assignEach [.Subscript o (.Slice lo hi none p2) p3] X.env).map (·.2) = [assign (.Subscript o (.Slice lo hi none p2) p3) X.env] := by rfl) :
    DS K X (.Assign [.Subscript o (.Slice lo hi none p2) p3] (.Subscript (.Subscript f (.Slice lo2 hi2 none q1) q2) (.Slice none none (some (.UnaryOp .USub (.Constant (.int 1) kk q3) q4)) q5) q6) pos)
      (fun P ρ => ∃ ds : List PyData, ρ[i]? = some (some (.l (ds.map .dat))) ∧ ds.length + ds.length ≤ sizeLine ∧ Tl ρ fun l => Th ρ fun u => Tl ρ fun l2 => Th ρ fun u2 => P.nx (ρ.set i (some (.l ((ds.take (HT.sIx ds.length 0 l2) ++ (cutD ds l u).reverse ++ ds.drop (max (HT.sIx ds.length 0 l2) (HT.sIx ds.length ds.length u2))).map .dat))))) := by
  subst e1
  refine ⟨PS.weak (ps_asg (pe_revL (pe_slice sl_list ho2 hl2 hh2)) (pg_slL2 ho hl hh ha) hs hw h1) fun D σ H h => ?_⟩
  obtain ⟨G0, H0, B, G, ρ, F, P, w, ⟨ds, e1, hz, t⟩, k, _⟩ := h
  obtain ⟨p, us, e2, h2, d2, g2, n0, _⟩ := w.putL e1
  have nb : NotB B p := fun c z => (w.bag _ z).2.2 n0
  refine ⟨.ref p, e2, G0, H0, B, G, ρ, F, _, w, t, fun l G1 H1 p1 s1 => ⟨G0, H0, B, G1, ρ, F, _, w.step s1, p1, fun u G2 H2 p2 s2 => ?_⟩⟩
  have w2 := (w.step s1).step s2
  have hp2 : H2 p = some (.lst us) := s2.keep _ _ (s1.keep _ _ h2 nb) nb
  refine ⟨p, us, rfl, .inl (.inl hp2), fun r1 nr1 => ⟨r1, cutV us l u, rfl, .inl (.inl upd_same), fun r2 nr2 => ?_⟩⟩
  have s3 : Stp B G2 H2 G2 (upd H2 r1 (.lst (cutV us l u))) := Stp.new w2.sGH nr1
  have w3 := w2.step s3
  have s4 : Stp B G2 (upd H2 r1 (.lst (cutV us l u))) G2 (upd (upd H2 r1 (.lst (cutV us l u))) r2 (.lst (cutV us l u).reverse)) := Stp.new w3.sGH nr2
  have w4 := w3.step s4
  have hp4 := s4.keep _ _ (s3.keep _ _ hp2 nb) nb
  have nr : p ≠ r2 := fun z => by
    have := s3.keep _ _ hp2 nb
    rw [z, nr2] at this
    cases this
  refine ⟨.ref p, e2, G0, H0, B, G2, ρ, F, _, w4, p2, fun l2 G5 H5 p5 s5 => ⟨G0, H0, B, G5, ρ, F, _, w4.step s5, p5, fun u2 G6 H6 p6 s6 => ?_⟩⟩
  have w6 := (w4.step s5).step s6
  have nb2 : NotB B r2 := fun c z => by
    have h9 := (w3.bag _ z).1.some
    exact h9 nr2
  have hr6 : H6 r2 = some (.lst (cutV us l u).reverse) := s6.keep _ _ (s5.keep _ _ upd_same nb2) nb2
  have hp6 : H6 p = some (.lst us) := s6.keep _ _ (s5.keep _ _ hp4 nb) nb
  obtain ⟨p', us', e3, h3, d3, _, _, go⟩ := w6.putL e1
  rw [e2] at e3
  cases e3
  rw [hp6] at h3
  cases h3
  have dc : DrAll X.K G6 (cutV us l u).reverse (cutD ds l u).reverse := (cut_dr d3 l u).rev
  obtain ⟨F', w7⟩ := go _ _ (((d3.take (HT.sIx ds.length 0 l2)).append dc).append (d3.drop (max (HT.sIx ds.length 0 l2) (HT.sIx ds.length ds.length u2))))
  refine ⟨p, us, r2, (cutV us l u).reverse, rfl, rfl, nr, hp6, .inl (.inl hr6), ?_, ?_⟩
  · have := cutV_length us l u
    rw [List.length_reverse]
    have := d3.length
    omega
  · rw [d3.length]
    exact k _ σ G6 _ F' p6 w7
end
end DL
set_option Elab.async false
set_option linter.all false
set_option maxRecDepth 100000
set_option maxHeartbeats 4000000
/-! XC: what the classes' objects say -/
namespace GL
open PySem PySem.Spec PyProof.Rows L2 GL DL
section
variable {K : PySem.W.Frag} {C A : Addr} {nm q : Str} {N : Addr} {bs bm : List Value} {sn : List Str} {sub : List Value} {ab : Bool} {col : Option Bool} {dd : Option Addr} {k0 k1 k2 k3 k5 : Option Value}
theorem x_cls (x : K.lookup C = some (excClassObj nm q C N bs bm true sn sub ab col dd k0 k1 k2 k3 k5 "ValueError.__new__")) : ∃ cd, PySem.W.clsIn K C = some cd ∧ cd.mro = .ref C :: bm ∧ cd.hasDict = true := by
  unfold PySem.W.clsIn
  rw [x]
  exact ⟨_, rfl, rfl, rfl⟩
theorem x_ty (x : K.lookup C = some (excClassObj nm q C N bs bm true sn sub ab col dd k0 k1 k2 k3 k5 "ValueError.__new__")) : PySem.W.typeIn K (.ref C) = some (.type "type") := by
  show Option.map (fun x => x.cls) (List.lookup C K) = _
  rw [x]
  rfl
theorem x_keep (x : K.lookup C = some (excClassObj nm q C N bs bm true sn sub ab col dd k0 k1 k2 k3 k5 "ValueError.__new__")) : PySem.W.keepIn K (.ref C) = true := by
  have t := x_ty x
  have k : PySem.W.specialIn K (.ref C) "__call__" = some (some (.builtin "type.__call__")) := by
    unfold PySem.W.specialIn
    rw [t]
    exact (by decide +kernel : PySem.fastLookup "type" "__call__" = some (some (.builtin "type.__call__")))
  unfold PySem.W.keepIn
  simp only [x]
  show (PySem.W.specialIn K (.ref C) "__call__" == some (some (.builtin "type.__call__"))) = true
  rw [k]
  decide +kernel
theorem x_sub (x : K.lookup C = some (excClassObj nm q C N bs bm true sn sub ab col dd k0 k1 k2 k3 k5 "ValueError.__new__")) (b : Value) : PySem.W.subIn K (.ref C) b = some ((Value.ref C :: bm).contains b) := by
  obtain ⟨cd, e1, e2, _⟩ := x_cls x
  show PySem.W.mroIn K C b = _
  unfold PySem.W.mroIn
  rw [e1]
  show (if cd.mro.isEmpty = true then none else some (cd.mro.contains b)) = _
  rw [e2]
  rfl
theorem x_dict (x : K.lookup C = some (excClassObj nm q C N bs bm true sn sub ab col dd k0 k1 k2 k3 k5 "ValueError.__new__")) : PySem.W.hasDictIn K C = true := by
  obtain ⟨cd, e1, _, e3⟩ := x_cls x
  unfold PySem.W.hasDictIn
  rw [e1]
  exact e3
variable {D : Addr} {nm' q' : Str} {N' : Addr} {bs' bm' : List Value} {sn' : List Str} {sub' : List Value} {ab' : Bool} {col' : Option Bool} {dd' : Option Addr} {k0' k1' k2' k3' k5' : Option Value}
/-- isinstance by classes of exceptions -/
theorem x_kit (x : K.lookup C = some (excClassObj nm q C N bs bm true sn sub ab col dd k0 k1 k2 k3 k5 "ValueError.__new__")) (y : K.lookup D = some (excClassObj nm' q' D N' bs' bm' true sn' sub' ab' col' dd' k0' k1' k2' k3' k5' "ValueError.__new__")) :
    PySem.W.kitOne K (.ref C) (.ref D) = some ((Value.ref C :: bm).contains (.ref D)) := by
  unfold PySem.W.kitOne
  by_cases e : (Value.ref C == Value.ref D) = true
  · rw [if_pos e]
    have e' : Value.ref C = Value.ref D := beq_iff_eq.mp e
    rw [e', List.contains_cons, beq_self_eq_true, Bool.true_or]
  · rw [if_neg e]
    obtain ⟨cd, e1, _, _⟩ := x_cls y
    show (if ((PySem.W.clsIn K D).isSome && PySem.W.typeIn K (.ref D) == some (.type "type")) = true then PySem.W.subIn K (.ref C) (.ref D) else none) = _
    have t : ((PySem.W.clsIn K D).isSome && PySem.W.typeIn K (.ref D) == some (.type "type")) = true := by
      rw [e1, x_ty y]
      exact (by decide +kernel : (true && (some (Value.type "type") == some (Value.type "type"))) = true)
    rw [if_pos t]
    exact x_sub x _
theorem x_kitV (x : K.lookup C = some (excClassObj nm q C N bs bm true sn sub ab col dd k0 k1 k2 k3 k5 "ValueError.__new__")) : PySem.W.kitOne K (.ref C) (.type "ValueError") = some (bm.contains (.type "ValueError")) := by
  have e : (Value.ref C == Value.type "ValueError") = false := rfl
  unfold PySem.W.kitOne
  rw [e, if_neg Bool.false_ne_true]
  show (if PySem.W.kitMeta "ValueError" = true then PySem.W.subIn K (.ref C) (.type "ValueError") else none) = _
  have m : PySem.W.kitMeta "ValueError" = true := by decide +kernel
  rw [if_pos m, x_sub x, List.contains_cons]
  have e2 : (Value.type "ValueError" == Value.ref C) = false := rfl
  rw [e2, Bool.false_or]
theorem x_exc (x : K.lookup C = some (excClassObj nm q C N bs bm true sn sub ab col dd k0 k1 k2 k3 k5 "ValueError.__new__")) (hB : bm.contains (.type "BaseException") = true) (hO : bm.contains (.type "object") = true)
    (g : PySem.W.findIn K (.ref C) "__getattribute__" = some (some (.builtin "BaseException.__getattribute__"))) (h : PySem.W.findIn K (.ref C) "__getattr__" = some none) (c : PySem.W.findIn K (.ref C) "__class__" = some (some (.builtin "object.__class__")))
    (hn : PySem.W.specialIn K (.builtin "object.__class__") "__get__" = some (some (.builtin "getset_descriptor.__get__"))) (ht : PySem.W.takesIn K (.builtin "object.__class__") = some true) : ExcC K C := by
  refine ⟨g, h, ?_, x_dict x, c, hn, ht, ?_⟩
  · rw [x_sub x, List.contains_cons, hB, Bool.or_true]
  · have e := x_sub x (.type "object")
    rw [List.contains_cons, hO, Bool.or_true] at e
    exact e
theorem x_xf (x : K.lookup C = some (excClassObj nm q C N bs bm true sn sub ab col dd k0 k1 k2 k3 k5 "ValueError.__new__")) (hB : bm.contains (.type "BaseException") = true)
    (g : PySem.W.findIn K (.ref C) "__getattribute__" = some (some (.builtin "BaseException.__getattribute__"))) (h : PySem.W.findIn K (.ref C) "__getattr__" = some none) : XfC K C :=
  ⟨g, h, by rw [x_sub x, List.contains_cons, hB, Bool.or_true], x_dict x⟩
theorem x_oex (x : K.lookup C = some (excClassObj nm q C N bs bm true sn sub ab col dd k0 k1 k2 k3 k5 "ValueError.__new__")) (hB : bm.contains (.type "BaseException") = true) (hr : PySem.HandSPX.refsVE bm = true)
    (s : PySem.W.findIn K (.ref C) "__setattr__" = some (some (.builtin "object.__setattr__"))) : OexC K C :=
  ⟨⟨nm, q, N, bs, bm, sn, sub, ab, col, dd, k0, k1, k2, k3, k5, x, hr⟩, s, by rw [x_sub x, List.contains_cons, hB, Bool.or_true], x_ty x, x_keep x⟩
theorem f_ty {f : Addr} {oc : Value} {od : Option Addr} {fd : FuncData} {sl : Array (Option Value)} (l : K.lookup f = some ⟨.type "function", od, .func fd, sl⟩) : PySem.W.typeIn K (.ref f) = some (.type "function") := by
  show Option.map (fun x => x.cls) (List.lookup f K) = _
  rw [l]
  rfl
theorem f_keep {f : Addr} {oc : Value} {od : Option Addr} {fd : FuncData} {sl : Array (Option Value)} (l : K.lookup f = some ⟨oc, od, .func fd, sl⟩) : PySem.W.keepIn K (.ref f) = true := by
  unfold PySem.W.keepIn
  simp only [l]
abbrev veA (A : Addr) : List Value := [.ref A, .type "ValueError", .type "Exception", .type "BaseException", .type "object"]
theorem ve_B (A : Addr) : (veA A).contains (.type "BaseException") = true := rfl
theorem ve_O (A : Addr) : (veA A).contains (.type "object") = true := rfl
theorem ve_V (A : Addr) : (veA A).contains (.type "ValueError") = true := rfl
theorem ve_r (A : Addr) : PySem.HandSPX.refsVE (veA A) = true := by
  show PySem.HandSPX.refsVE [.type "ValueError", .type "Exception", .type "BaseException", .type "object"] = true
  decide +kernel
theorem ve_A {C A : Addr} : (Value.ref C :: veA A).contains (.ref A) = true := by simp
theorem ve_no {C A D : Addr} (h : D ≠ C) (k : D ≠ A) : (Value.ref C :: veA A).contains (.ref D) = false := by simp [h, k]
theorem ve_self {C A : Addr} : (Value.ref C :: veA A).contains (.ref C) = true := by simp
end
end GL
set_option Elab.async false
set_option linter.all false
set_option maxRecDepth 100000
set_option maxHeartbeats 2000000
/-! K96a: the text; bag, take, alike -/
namespace K96
open PySem PySem.Spec PyProof.Rows L2 GL DL
def topS (i : Nat) : Stmt := PySem.Challenge.pw_askless_k96_runs_read.main.body.getD i (.Pass ⟨0, 0, 0, 0⟩)
abbrev s_is_integer : Stmt := topS 5
abbrev s_is_name : Stmt := topS 6
abbrev s_is_step : Stmt := topS 9
abbrev s_has_parts : Stmt := topS 10
abbrev s_show_words : Stmt := topS 14
abbrev s_with_feeds : Stmt := topS 15
abbrev s_show_run : Stmt := topS 16
abbrev s_read_number : Stmt := topS 17
abbrev s_read_part : Stmt := topS 18
abbrev s_read_words : Stmt := topS 19
abbrev s_read_run : Stmt := topS 20
abbrev s_bag : Stmt := topS 22
abbrev s_take : Stmt := topS 23
abbrev s_alike : Stmt := topS 24
abbrev s_labels : Stmt := topS 25
abbrev s_one : Stmt := topS 26
abbrev s_run : Stmt := topS 27
abbrev s_spoilt : Stmt := topS 28
abbrev s_is_spelt : Stmt := topS 29
abbrev s_is_figure : Stmt := topS 30
abbrev s_step_of : Stmt := topS 31
abbrev s_run_of : Stmt := topS 32
abbrev s_told : Stmt := topS 33
abbrev s_law : Stmt := topS 34
structure Txt0 (mg : Str → Option Value) : Prop where
  m_abs : mg "abs" = none
  m_all : mg "all" = none
  m_any : mg "any" = none
  m_bool : mg "bool" = none
  m_int : mg "int" = none
  m_isinstance : mg "isinstance" = none
  m_len : mg "len" = none
  m_list : mg "list" = none
  m_range : mg "range" = none
  m_repr : mg "repr" = none
  m_str : mg "str" = none
  m_tuple : mg "tuple" = none
  m_zip : mg "zip" = none
  g_LONGEST_NAME : ∃ t, mg "LONGEST_NAME" = some (.int 8 t)
  g_MOST_DIGITS : ∃ t, mg "MOST_DIGITS" = some (.int 40 t)
abbrev t_STEP_FORMS : List (Str × PyData) := [("writer", .tuple [.tuple [.str "number"], .tuple [.str "number", .str "number"]]), ("begin", .tuple [.tuple [.str "name"]]), ("end", .tuple [.tuple [.str "name"]]), ("enter", .tuple [.tuple []]), ("leave", .tuple [.tuple [.str "number"]]), ("root", .tuple [.tuple [.str "number", .str "name"]]), ("field", .tuple [.tuple [.str "number", .str "number", .str "name"]]), ("mark", .tuple [.tuple [.str "number", .str "number"]])]
abbrev d_NO_TARGET : PyData := .str "-"
/-- the module's tables -/
structure TxtK (K : PySem.W.Frag) (w : World) (mg : Str → Option Value) : Prop where
  g_STEP_FORMS : ∃ d, mg "STEP_FORMS" = some (.ref d) ∧ KTabN K w d t_STEP_FORMS
  g_NO_TARGET : ∃ t, mg "NO_TARGET" = some (.str "-" t)
theorem pos31 : (0 : Int) < 2147483647 := by decide
/-- a bag of drawn numbers: its four items at b, the numbers at c -/
def Bg (H : Hp) (b c : Addr) : Prop := ∃ (g s i : Int) (ns : List Int), H b = some (.lst [.int g, .int s, .int i, .ref c]) ∧
  H c = some (.lst (ns.map V.int)) ∧ 0 ≤ i
theorem Bg.ne {H : Hp} {b c : Addr} {g s i : Int} {ns : List Int} (h : H b = some (.lst [.int g, .int s, .int i, .ref c])) (k : H c = some (.lst (ns.map V.int))) : c ≠ b := by
  intro e
  subst e
  rw [h] at k
  have k2 : [V.int g, V.int s, V.int i, V.ref c] = ns.map V.int := by injection (Option.some.inj k)
  match ns, k2 with
  | [_, _, _, d], k2 => simp at k2
theorem Bg.same {H H' : Hp} {b c : Addr} (h : Bg H b c) (e : Same H H') : Bg H' b c := by
  obtain ⟨g, s, i, ns, h1, h2, h3⟩ := h
  exact ⟨g, s, i, ns, e _ _ h1, e _ _ h2, h3⟩
theorem Bg.new {H : Hp} {b c p : Addr} {o : HO} (h : Bg H b c) (n : H p = none) : Bg (upd H p o) b c := h.same (same_new n)
theorem Bg.nb {H : Hp} {b c p : Addr} (h : Bg H b c) (n : H p = none) : p ≠ b := by
  obtain ⟨g, s, i, ns, h1, _⟩ := h
  exact (ne_of_none h1 n).symm
theorem Bg.nc {H : Hp} {b c p : Addr} (h : Bg H b c) (n : H p = none) : p ≠ c := by
  obtain ⟨g, s, i, ns, _, h2, _⟩ := h
  exact (ne_of_none h2 n).symm
theorem Bg.at {H : Hp} {b c D : Addr} {o : HO} (h : Bg H b c) (n1 : D ≠ b) (n2 : D ≠ c) : Bg (upd H D o) b c := by
  obtain ⟨g, s, i, ns, h1, h2, h3⟩ := h
  exact ⟨g, s, i, ns, by rw [upd_ne n1.symm]; exact h1, by rw [upd_ne n2.symm]; exact h2, h3⟩
def BagI (H : Hp) (b : Addr) : Prop := ∃ c, Bg H b c

section
variable {P : Program} {w : World} {K : PySem.W.Frag} {mg : Str → Option Value} {base : Heap}
theorem sc_take : FnScope ["_law_bag_here", "_law_many", "_law_cell", "_law_more", "_law_drawn"] ["_law_bag_here", "_law_many"] (defScope s_take) := ⟨rfl, rfl, rfl, by decide +kernel, rfl, by decide +kernel, by decide +kernel⟩
def spTake : Sp := fun vs H Q _ => ∃ (b c : Addr) (m : Int), vs = [.ref b, .int m] ∧ Bg H b c ∧ 0 < m ∧ m < 1073741824 ∧
  ∀ (r : Int) (xs : List V), 0 ≤ r → r < m → Bg (upd H b (.lst xs)) b c → Q (.int r) (upd H b (.lst xs))
theorem ok_take {f : Addr} {fd : FuncData} (F : Fun K "_law_take" "_law_take" s_take f fd) (T : Txt0 mg) : FnOk P w K mg base CX0 1 f fd ["_law_bag_here", "_law_many"] spTake := by
  refine F.ok sc_take (fun vs H Q E h => ?_) (fun cdv A outer s H vs Q E hr h => ?_)
  · obtain ⟨b, c, m, rfl, _⟩ := h
    rfl
  · obtain ⟨b, c, m, rfl, ⟨g, s0, i, ns, hb, hc, hi⟩, hm, hm2, q⟩ := h
    have hcb := Bg.ne hb hc
    refine ⟨_, (C8.pss_cut (ps_if (pt_cmpR op_eq (pe_ix ix_list (pv 0) pe_int (fun _ _ => rfl)) pe_int (nomark _))
        (pss_cons (ps_set (i := 2) sc_take.nd rfl (.inl rfl) pe_int)
        (C8.pss_cut (ps_if (pt_cmpR op_lt (pe_ix ix_list (pv 0) pe_int (fun _ _ => rfl)) (pe_callB call_len_seq (by rfl) T.m_len PySem.boot_len (pa_cons (pe_ix ix_list (pv 0) pe_int (fun _ _ => rfl)) pa_nil)) (nomark _))
          (pss_one (ps_set (i := 2) sc_take.nd rfl (.inl rfl) (pe_ix ix_list (pe_ix ix_list (pv 0) pe_int (fun _ _ => rfl)) (pe_ix ix_list (pv 0) pe_int (fun _ _ => rfl)) (fun _ _ => rfl))))
          pss_nil)
        (pss_cons (ps_augS (pv 0) pe_int get_list pe_int ip_add set_list)
        (C8.pss_cut (ps_if (pt_cmpR op_ge (pv 2) pe_int (nomark _))
          (pss_one (ps_asg (pv 2) (pg_sub (pv 0) pe_int set_list)))
          pss_nil)
        (pss_cons (ps_set (i := 3) sc_take.nd rfl (.inl rfl) (pe_op op_add (pe_op op_mod (pe_callTy call_int1 (by rfl) T.m_int (by decide +kernel) (pa_cons (pv 2) pa_nil)) pe_int) (pe_op op_mul pe_int (pe_ix ix_list (pv 0) pe_int (fun _ _ => rfl)))))
        (pss_one (ps_asg (pe_op op_mod (pe_callTy call_int1 (by rfl) T.m_int (by decide +kernel) (pa_cons (pe_op op_add (pe_op op_mul (pe_ix ix_list (pv 0) pe_int (fun _ _ => rfl)) pe_int) (pv 3)) pa_nil)) pe_int) (pg_sub (pv 0) pe_int set_list))))))))
        pss_nil)
      (pss_cons (ps_if (pt_cmpR op_gt (pe_ix ix_list (pv 0) pe_int (fun _ _ => rfl)) pe_int (nomark _))
        (pss_cons (ps_set (i := 4) sc_take.nd rfl (.inl rfl) (pe_op op_mod (pe_callTy call_int1 (by rfl) T.m_int (by decide +kernel) (pa_cons (pe_ix ix_list (pv 0) pe_int (fun _ _ => rfl)) pa_nil)) (pv 1)))
        (pss_cons (ps_asg (pe_op op_fdiv (pe_ix ix_list (pv 0) pe_int (fun _ _ => rfl)) (pv 1)) (pg_sub (pv 0) pe_int set_list))
        (pss_one (ps_ret (pv 4)))))
        pss_nil)
      (pss_cons (ps_asg (pe_op op_mod (pe_callTy call_int1 (by rfl) T.m_int (by decide +kernel) (pa_cons (pe_op op_add (pe_op op_mul (pe_ix ix_list (pv 0) pe_int (fun _ _ => rfl)) pe_int) pe_int) pa_nil)) pe_int) (pg_sub (pv 0) pe_int set_list))
      (pss_one (ps_ret (pe_op op_mod (pe_callTy call_int1 (by rfl) T.m_int (by decide +kernel) (pa_cons (pe_op op_fdiv (pe_ix ix_list (pv 0) pe_int (fun _ _ => rfl)) pe_int) pa_nil)) (pv 1))))))), ?_⟩
    -- what stands behind the first if
    refine ⟨fun σ H' => ∃ (g s0 i : Int) (y2 y3 : Option V), σ = [some (.ref b), some (.int m), y2, y3, none] ∧ H' = upd H b (.lst [.int g, .int s0, .int i, .ref c]) ∧ 0 ≤ i, ?_, ?_⟩
    · refine ⟨.ref b, rfl, b, _, 0, .int g, rfl, rfl, .inl (.inl hb), rfl, rfl, _, rfl, ite2 (fun e => ?_) (fun e => ?_)⟩
      · -- the cell
        refine ⟨fun σ H' => H' = H ∧ ∃ n : Int, σ = [some (.ref b), some (.int m), some (.int n), none, none], ?_, ?_⟩
        · refine ⟨.ref b, rfl, b, _, 2, .int i, rfl, rfl, .inl (.inl hb), rfl, .ref b, rfl, b, _, 3, .ref c, rfl, rfl, .inl (.inl hb), rfl, c, _, rfl, .inl (.inl (.inl hc)), i, _, rfl, rfl, _, rfl, ite2 (fun e2 => ?_) (fun e2 => ?_)⟩
          · have hlt : i < ((ns.map V.int).length : Int) := of_decide_eq_true e2
            have hn : i.toNat < ns.length := by rw [List.length_map] at hlt; omega
            refine ⟨.ref b, rfl, b, _, 3, .ref c, rfl, rfl, .inl (.inl hb), rfl, .ref b, rfl, b, _, 2, .int i, rfl, rfl, .inl (.inl hb), rfl, c, _, i, .int ns[i.toNat], rfl, rfl, .inl (.inl hc), ?_, rfl, ns[i.toNat], rfl⟩
            refine atI_int hi ?_
            rw [List.getElem?_map, List.getElem?_eq_getElem hn]
            rfl
          · exact ⟨rfl, 0, rfl⟩
        · rintro σ H' ⟨rfl, n, rfl⟩
          -- bag[2] += 1
          refine ⟨.ref b, rfl, b, _, 2, .int i, rfl, rfl, hb, rfl, i, 1, rfl, rfl, b, _, 2, 2, rfl, rfl, hb, rfl, ?_⟩
          refine ⟨fun σ H'' => ∃ g : Int, σ = [some (.ref b), some (.int m), some (.int n), none, none] ∧ H'' = upd H' b (.lst [.int g, .int s0, .int (i + 1), .ref c]), ?_, ?_⟩
          · refine ⟨_, rfl, n, _, rfl, rfl, _, rfl, ite2 (fun e2 => ?_) (fun e2 => ?_)⟩
            · refine ⟨_, rfl, .ref b, rfl, b, _, 0, 0, rfl, rfl, upd_same, rfl, n, rfl, ?_⟩
              rw [upd_upd]
              rfl
            · exact ⟨g, rfl, rfl⟩
          · rintro σ H'' ⟨g2, rfl, rfl⟩
            have h2 : (upd H' b (.lst [.int g2, .int s0, .int (i + 1), .ref c])) b = some (.lst [.int g2, .int s0, .int (i + 1), .ref c]) := upd_same
            refine ⟨_, rfl, .inl ⟨n, rfl, n, _, rfl, rfl, pos31, .ref b, rfl, b, _, 2, .int (i + 1), rfl, rfl, .inl (.inl h2), rfl, _, _, rfl, rfl, .inl (by decide), _, _, rfl, rfl, ?_⟩⟩
            refine ⟨.ref b, rfl, b, _, 1, .int s0, rfl, rfl, .inl (.inl h2), rfl, _, _, rfl, rfl, .inr (by decide), _, rfl, _, _, rfl, rfl, .inl ⟨_, rfl, _, _, rfl, rfl, pos31, .ref b, rfl, b, _, 1, 1, rfl, rfl, h2, rfl, ?_⟩⟩
            exact ⟨g2, (s0 * 48271 + (n % 2147483647 + 7919 * (i + 1))) % 2147483647, i + 1, _, _, rfl, upd_upd, by omega⟩
      · exact ⟨g, s0, i, none, none, rfl, (upd_self hb).symm, hi⟩
    · rintro σ H' ⟨g, s0, i, y2, y3, rfl, rfl, hi⟩
      have h2 : (upd H b (.lst [.int g, .int s0, .int i, .ref c])) b = some (.lst [.int g, .int s0, .int i, .ref c]) := upd_same
      have bag : ∀ (g s0 : Int), Bg (upd H b (.lst [.int g, .int s0, .int i, .ref c])) b c := fun g s0 => ⟨g, s0, i, ns, upd_same, by rw [upd_ne hcb]; exact hc, hi⟩
      refine ⟨.ref b, rfl, b, _, 0, .int g, rfl, rfl, .inl (.inl h2), rfl, _, _, rfl, rfl, _, rfl, ite2 (fun e => ?_) (fun e => ?_)⟩
      · refine ⟨.ref b, rfl, b, _, 0, .int g, rfl, rfl, .inl (.inl h2), rfl, .inl ⟨g, rfl, .int m, rfl, g, m, rfl, rfl, hm, ?_⟩⟩
        refine ⟨.ref b, rfl, b, _, 0, .int g, rfl, rfl, .inl (.inl h2), rfl, .int m, rfl, g, m, rfl, rfl, ⟨hm, hm2⟩, .ref b, rfl, b, _, 0, 0, rfl, rfl, h2, rfl, ?_⟩
        refine ⟨.int (g % m), rfl, ?_⟩
        rw [upd_upd]
        exact q _ _ (Int.emod_nonneg _ (by omega)) (Int.emod_lt_of_pos _ hm) (bag _ _)
      · refine ⟨.ref b, rfl, b, _, 1, .int s0, rfl, rfl, .inl (.inl h2), rfl, _, _, rfl, rfl, .inr (by decide), _, _, rfl, rfl, .inl ⟨_, rfl, _, _, rfl, rfl, pos31, .ref b, rfl, b, _, 1, 1, rfl, rfl, h2, rfl, ?_⟩⟩
        refine ⟨.ref b, rfl, b, _, 1, _, rfl, rfl, .inl (.inl upd_same), rfl, _, _, rfl, rfl, ⟨by decide, by decide⟩, .inl ⟨_, rfl, .int m, rfl, _, m, rfl, rfl, hm, ?_⟩⟩
        rw [upd_upd]
        exact q _ _ (Int.emod_nonneg _ (by omega)) (Int.emod_lt_of_pos _ hm) (bag _ _)
end

theorem walk_ints {K : PySem.W.Frag} {a : Addr} {ns : List Int} : Walk (Itl K a) ns.length (fun H => SqL K H a (ns.map V.int)) (fun i H x H' => H' = H ∧ ∃ n, ns[i]? = some n ∧ x = V.int n) := by
  have w := walk_list (K := K) (a := a) (xs := ns.map V.int)
  rw [List.length_map] at w
  refine w.mono (fun _ h => h) (fun i H x H' _ _ y => ⟨y.1, ?_⟩)
  have e := y.2
  rw [List.getElem?_map] at e
  cases h : ns[i]? with
  | none => rw [h] at e; cases e
  | some n =>
    rw [h] at e
    exact ⟨n, rfl, (Option.some.inj e).symm⟩
theorem cut_map {α : Type} (f : α → V) (ns : List α) (lo hi : Option Int) : ∃ ms : List α, cutV (ns.map f) lo hi = ms.map f ∧ ms.length ≤ ns.length ∧ ∀ m ∈ ms, m ∈ ns := by
  refine ⟨(ns.drop (HT.sIx (ns.map f).length 0 lo)).take (HT.sIx (ns.map f).length (ns.map f).length hi - HT.sIx (ns.map f).length 0 lo), ?_, ?_, ?_⟩
  · unfold cutV
    rw [List.map_take, List.map_drop]
  · rw [List.length_take, List.length_drop]
    omega
  · intro m hm
    exact List.mem_of_mem_drop (List.mem_of_mem_take hm)
theorem upd_none {H : Hp} {p b : Addr} {o : HO} (h : upd H p o b = none) : b ≠ p ∧ H b = none := by
  by_cases e : b = p
  · rw [e, upd_same] at h
    cases h
  · rw [upd_ne e] at h
    exact ⟨e, h⟩

section
variable {P : Program} {w : World} {K : PySem.W.Frag} {mg : Str → Option Value} {base : Heap}
theorem sc_bag : FnScope ["_law_script", "_law_cell"] ["_law_script"] (defScope s_bag) := ⟨rfl, rfl, rfl, by decide +kernel, rfl, by decide +kernel, by decide +kernel⟩
def spBag (K : PySem.W.Frag) : Sp := fun vs H Q _ => ∃ (a : Addr) (ns : List Int), vs = [.ref a] ∧ SqL K H a (ns.map V.int) ∧ ns.length ≤ 63 ∧
  ∀ (b : Addr) (H' : Hp), Same H H' → H b = none → BagI H' b → Q (.ref b) H'
theorem ok_bag {f : Addr} {fd : FuncData} (F : Fun K "_law_bag" "_law_bag" s_bag f fd) (T : Txt0 mg) : FnOk P w K mg base CX0 1 f fd ["_law_script"] (spBag K) := by
  refine F.ok sc_bag (fun vs H Q E h => ?_) (fun cdv A outer s H vs Q E hr h => ?_)
  · obtain ⟨a, ns, rfl, _⟩ := h
    rfl
  · obtain ⟨a, ns, rfl, hS, hl, q⟩ := h
    refine ⟨_, (pss_one (ps_ret (pe_lst (pa_cons pe_int (pa_cons pe_int (pa_cons pe_int (pa_cons (pe_lc (own := [("_law_cell", 1)]) (g := (gName 1)) (tt := tYes) rfl sc_bag.nd (pi_list (pe_slice sl_list (pv 0) po_none (po_some pe_int))) (blkOk_by (N := ["_law_script", "_law_cell"]) (sc := defScope s_bag) (by decide +kernel)) (fun _ _ _ _ _ => pg_name (i := 1) sc_bag.nd rfl (.inl rfl)) (fun _ _ _ _ _ => pts_nil) (fun _ _ _ _ _ => (pe_callB call_abs (by rfl) T.m_abs (by decide +kernel) (pa_cons (pv 1) pa_nil)))) pa_nil))))))), ?_⟩
    obtain ⟨ms, hms, hlen, _⟩ := cut_map V.int ns none (some 63)
    refine ⟨.ref a, rfl, 63, rfl, a, _, rfl, hS, fun c nc => ?_⟩
    rw [hms]
    refine ⟨c, rfl, ⟨_, .inl (.inl upd_same)⟩, fun D nD => ?_⟩
    have hcD : c ≠ D := ne_of_none upd_same nD
    refine lc_pure (as := ms) (emb := V.int) walk_ints (fun i H x H' h => h) (fun l => ?_) (small1000 (by omega)) (fun _ => true) (fun n => .int (if n < 0 then -n else n)) (fun n hn l R S hR _ => ?_) ?_
    · exact .inl (.inl (by rw [upd_ne hcD]; exact upd_same))
    · exact ⟨rfl, _, rfl, n, rfl, hR rfl⟩
    · refine ⟨by show 4 ≤ sizeLine; rw [sizeLine_eq]; decide, fun b nb => ?_⟩
      have hDb : D ≠ b := ne_of_none upd_same nb
      refine q b _ ?_ ?_ ⟨D, 0, 1234567891, 0, ms.map fun n => if n < 0 then -n else n, upd_same, ?_, by omega⟩
      · exact ((same_new nc).trans (same_new nD)).trans (same_new nb)
      · exact (upd_none (upd_none nb).2).2
      · rw [upd_ne hDb, upd_same, List.filter_eq_self.mpr (fun _ _ => rfl), List.map_map]
        rfl
end
section
variable {P : Program} {w : World} {K : PySem.W.Frag} {mg : Str → Option Value} {base : Heap}
theorem sc_alike : FnScope ["_law_found", "_law_right"] ["_law_found", "_law_right"] (defScope s_alike) := ⟨rfl, rfl, rfl, by decide +kernel, rfl, by decide +kernel, by decide +kernel⟩
def spAlike (K : PySem.W.Frag) : Sp := fun vs H Q _ => ∃ x y d, vs = [x, y] ∧ Dp K H x d ∧ Dp K H y d ∧ DOk d ∧ Q (.bl true) H
theorem ok_alike {f : Addr} {fd : FuncData} (F : Fun K "_law_alike" "_law_alike" s_alike f fd) (T : Txt0 mg) : FnG P w K mg base 1 f fd ["_law_found", "_law_right"] (spAlike K) := by
  refine okG F sc_alike (fun vs H Q E h => ?_) (fun cdv A outer s H vs Q E hG hr h => ?_)
  · obtain ⟨x, y, d, rfl, _⟩ := h
    rfl
  · obtain ⟨x, y, d, rfl, hx, hy, o, q⟩ := h
    have hu : (A.deeper (envOfC "_law_alike" (defScope s_alike) s.heap.objs.size f cdv)).units + 66 < cLine := by
      have := hr.un
      omega
    refine ⟨_, (pss_one (ps_ret (pe_and (pe_cmpR (op_eqD hr.units) (pv 0) (pv 1) (nomark _)) (pe_one (pe_cmpR op_eq (pe_callB (call_reprD hG hu) (by rfl) T.m_repr (by decide +kernel) (pa_cons (pv 0) pa_nil)) (pe_callB (call_reprD hG hu) (by rfl) T.m_repr (by decide +kernel) (pa_cons (pv 1) pa_nil)) (nomark _)))))), ?_⟩
    have sh : SeqAt.shaped d = true := by
      unfold SeqAt.shaped
      rw [o.lay, Bool.true_and]
      exact decide_eq_true (Nat.le_trans o.deep (by decide))
    refine ⟨x, rfl, y, rfl, d, d, hx, hy, sh, sh, _, rfl, ?_⟩
    rw [SeqAt.eqv_refl d o.lay]
    refine iteT ⟨x, rfl, x, d, rfl, hx, o.shows, o.nodict, Nat.le_trans o.deep (by decide), o.fits, y, rfl, y, d, rfl, hy, o.shows, o.nodict, Nat.le_trans o.deep (by decide), o.fits, rfl, ?_⟩
    rw [decide_eq_true rfl]
    exact q
end
end K96
set_option Elab.async false
set_option linter.all false
set_option maxRecDepth 100000
set_option maxHeartbeats 1000000
set_option pp.maxSteps 500
/-! K96c: what a step is -/
namespace K96
open PySem PySem.Spec PyProof.Rows L2 GL DL
def nameS (z : Str) : Bool := decide (1 ≤ z.length) && (decide (z.length ≤ 8) && z.cps.toList.all letD)
def nameD : PyData → Bool
  | .str z => nameS z
  | _ => false
def natD : PyData → Bool
  | .int i => decide (0 ≤ i)
  | _ => false
/-- a part: a number, or a text -/
def PartD : PyData → Prop
  | .int _ => True
  | .str z => z.length ≤ 100000
  | _ => False
def spP (f : PyData → Bool) : DSp := fun as P => ∃ d, as = [.d d] ∧ PartD d ∧ P (.dat (.bool (f d)))
def kN (p : Str × PyData) : Bool := decide (p.1 = "number")
def kM (p : Str × PyData) : Bool := decide (p.1 = "name")
def hasD (ks : List Str) (ds : List PyData) : Bool := decide (ds.length = ks.length) && ((((ks.zip ds).filter kN).all fun p => natD p.2) && (((ks.zip ds).filter kM).all fun p => nameD p.2))
abbrev tabF : List (Str × List (List Str)) := [("writer", [["number"], ["number", "number"]]), ("begin", [["name"]]), ("end", [["name"]]), ("enter", [[]]), ("leave", [["number"]]), ("root", [["number", "name"]]), ("field", [["number", "number", "name"]]), ("mark", [["number", "number"]])]
def lookF : List (Str × List (List Str)) → Str → List (List Str)
  | [], _ => []
  | p :: r, x => if p.1 = x then p.2 else lookF r x
def formsOf (z : Str) : List (List Str) := lookF tabF z
def stepD : List PyData → Bool
  | .str z :: r => (formsOf z).any fun ks => hasD ks r
  | _ => false
def kd (ks : List Str) : PyData := .tuple (ks.map .str)
theorem tab_look (z : Str) : ∀ l : List (Str × List (List Str)), (tabAt (l.map fun p => (p.1, PyData.tuple (p.2.map kd))) z).getD (.tuple []) = .tuple ((lookF l z).map kd)
  | [] => rfl
  | p :: r => by
    show ((if p.1 = z then some (PyData.tuple (p.2.map kd)) else tabAt (r.map fun p => (p.1, PyData.tuple (p.2.map kd))) z).getD (.tuple [])) = .tuple ((if p.1 = z then p.2 else lookF r z).map kd)
    by_cases e : p.1 = z
    · rw [if_pos e, if_pos e]
      rfl
    · rw [if_neg e, if_neg e]
      exact tab_look z r
theorem forms_tab (z : Str) : (tabAt t_STEP_FORMS z).getD (.tuple []) = .tuple ((formsOf z).map kd) := tab_look z tabF
theorem look_mem (z : Str) : ∀ l : List (Str × List (List Str)), lookF l z = [] ∨ ∃ p ∈ l, lookF l z = p.2
  | [] => .inl rfl
  | p :: r => by
    by_cases e : p.1 = z
    · exact .inr ⟨p, List.mem_cons_self .., if_pos e⟩
    · have e2 : lookF (p :: r) z = lookF r z := if_neg e
      rw [e2]
      rcases look_mem z r with h | ⟨q, m, h⟩
      · exact .inl h
      · exact .inr ⟨q, List.mem_cons_of_mem _ m, h⟩
theorem forms_few (z : Str) : (formsOf z).length ≤ 2 ∧ ∀ ks ∈ formsOf z, ks.length ≤ 3 := by
  have e : ∀ p ∈ tabF, p.2.length ≤ 2 ∧ ∀ ks ∈ p.2, ks.length ≤ 3 := by decide +kernel
  rcases look_mem z tabF with h | ⟨p, m, h⟩
  · unfold formsOf
    rw [h]
    exact ⟨by decide, fun _ m => nomatch m⟩
  · unfold formsOf
    rw [h]
    exact e p m
theorem era_map {α : Type} (f : α → O) : ∀ xs : List α, eraseAll (xs.map f) = xs.map fun x => (f x).erase
  | [] => rfl
  | x :: xs => by
    show (f x).erase :: eraseAll (xs.map f) = _
    rw [era_map f xs]
    rfl
def spParts : DSp := fun as P => ∃ ks ds, as = [.d (kd ks), .d (.tuple ds)] ∧ ks.length ≤ 3 ∧ ds.length ≤ 100000 ∧ (∀ d ∈ ds, PartD d) ∧ P (.dat (.bool (hasD ks ds)))
def spStep : DSp := fun as P => ∃ ds, as = [.d (.tuple ds)] ∧ ds.length ≤ 100000 ∧ (∀ d ∈ ds, PartD d) ∧ ds ≠ [] ∧ P (.dat (.bool (stepD ds)))
section
variable {P : Program} {w : World} {K : PySem.W.Frag} {mg : Str → Option Value} {base : Heap} {f : Addr} {fd : FuncData}
theorem sc_is_integer : FnScope ["thing"] ["thing"] (defScope s_is_integer) := ⟨rfl, rfl, rfl, by decide +kernel, rfl, by decide +kernel, by decide +kernel⟩
theorem ok_is_integer (F : Fun K "is_integer" "is_integer" s_is_integer f fd) (T : Txt0 mg) : FnG P w K mg base 1 f fd ["thing"] (spF K (spP intD)) := by
  refine okD F sc_is_integer (fun as Q h => by obtain ⟨d, rfl, _⟩ := h; rfl) fun cdv A out s H E hG hr => have hu := units_ofx hr; ⟨_, (dss_one (ds_ret (DE.o (de_and (de_isi (T := "int") rfl (de_v (pv 0)) (by rfl) T.m_isinstance (by rfl) T.m_int (by decide +kernel) (by decide)) (de_one (de_not (de_isi (T := "bool") rfl (de_v (pv 0)) (by rfl) T.m_isinstance (by rfl) T.m_bool (by decide +kernel) (by decide)))))))), fun as Q h => ?_⟩
  obtain ⟨d, rfl, ok, q⟩ := h
  refine ⟨d, rfl, _, rfl, ?_⟩
  rw [isTy_int]
  cases d <;> first | exact q | exact ⟨_, rfl, _, rfl, q⟩
theorem sc_is_name : FnScope ["thing", "letter"] ["thing"] (defScope s_is_name) := ⟨rfl, rfl, rfl, by decide +kernel, rfl, by decide +kernel, by decide +kernel⟩
theorem ok_is_name (F : Fun K "is_name" "is_name" s_is_name f fd) (T : Txt0 mg) : FnG P w K mg base 1 f fd ["thing"] (spF K (spP nameD)) := by
  refine okD F sc_is_name (fun as Q h => by obtain ⟨d, rfl, _⟩ := h; rfl) fun cdv A out s H E hG hr => have hu := units_ofx hr; ⟨_, (dss_cons (ds_if (DW.db (dw_or (db_not (db_val (de_isi (T := "str") rfl (de_v (pv 0)) (by rfl) T.m_isinstance (by rfl) T.m_str (by decide +kernel) (by decide)))) (dw_or1 (db_not (db_chain op_le op_le od_Ib od_Ib de_int (de_len rfl T.m_len (de_v (pv 0))) (de_gInt (by rfl) T.g_LONGEST_NAME))))))
(dss_one (ds_ret (DE.o de_bl)))
dss_nil)
(dss_one (ds_ret (DE.o (de_all rfl rfl T.m_all (DO.d (do_lc (own := [("letter", 1)]) rfl sc_is_name.nd (di_any rfl (de_v (pv 0))) (blkOk_by (N := ["thing", "letter"]) (sc := defScope s_is_name) (by decide +kernel)) (fun _ _ _ _ _ => (dg_name (pg_name (i := 1) sc_is_name.nd rfl (.inl rfl)))) (fun _ _ _ _ _ => dts_nil) (fun _ _ _ _ _ => (DE.o (de_chain op_le_str op_le_str od_leS od_leS de_str (de_v (pv 1)) de_str)))))))))), fun as Q h => ?_⟩
  obtain ⟨d, rfl, ok, q⟩ := h
  cases d <;> (first | exact ok.elim | skip) <;> (repeat' (first | refine ix0T ?_ | refine ix1T ?_ | refine ix2T ?_ | refine ix0L ?_ | refine ix1L ?_ | refine ix2L ?_ | refine ⟨_, rfl, ?_⟩ | refine ⟨_, _, rfl, rfl, (by show (_ : Nat) ≤ sizeLine; first | assumption | exact big (DOk.strLen (by assumption)) | exact big (DOk.tupLen (by assumption)) | exact big (DOk.lstLen (by assumption)) | exact big (DOw.strLen (by assumption)) | exact big (DOw.tupLen (by assumption)) | exact big (DOw.lstLen (by assumption)) | exact big (DOz.strLen (by assumption)) | exact big (DOz.tupLen (by assumption)) | exact big (DOz.lstLen (by assumption))), ?_⟩ | refine ⟨_, _, rfl, rfl, (by first | decide | (show (0 : Int) < _; decide)), ?_⟩ | refine ⟨_, _, rfl, rfl, ?_⟩ | refine eqR_str ?_ | refine eqR_int ?_ | refine neR_str ?_ | refine neR_int ?_ | refine And.intro rfl ?_ | refine addL (by first | assumption | (rw [sizeLine_eq]; omega) | (rw [sizeLine_eq]; simp; done) | (rw [sizeLine_eq]; simp only [List.length_append, List.length_cons, List.length_nil]; omega)) ?_ | refine addT (by first | assumption | (rw [sizeLine_eq]; omega) | (rw [sizeLine_eq]; simp; done) | (rw [sizeLine_eq]; simp only [List.length_append, List.length_cons, List.length_nil]; omega)) ?_ | refine And.intro (by assumption) ?_ | refine And.intro (by decide) ?_ | refine ⟨_, _, rfl, ?_⟩ | refine iteT rfl ?_ | refine iteF Bool.false_ne_true ?_)) <;> (try exact q)
  rename_i z
  have hz := big ok
  refine ⟨hz, ?_⟩
  repeat' (first | refine ix0T ?_ | refine ix1T ?_ | refine ix2T ?_ | refine ix0L ?_ | refine ix1L ?_ | refine ix2L ?_ | refine ⟨_, rfl, ?_⟩ | refine ⟨_, _, rfl, rfl, (by show (_ : Nat) ≤ sizeLine; first | assumption | exact big (DOk.strLen (by assumption)) | exact big (DOk.tupLen (by assumption)) | exact big (DOk.lstLen (by assumption)) | exact big (DOw.strLen (by assumption)) | exact big (DOw.tupLen (by assumption)) | exact big (DOw.lstLen (by assumption)) | exact big (DOz.strLen (by assumption)) | exact big (DOz.tupLen (by assumption)) | exact big (DOz.lstLen (by assumption))), ?_⟩ | refine ⟨_, _, rfl, rfl, (by first | decide | (show (0 : Int) < _; decide)), ?_⟩ | refine ⟨_, _, rfl, rfl, ?_⟩ | refine eqR_str ?_ | refine eqR_int ?_ | refine neR_str ?_ | refine neR_int ?_ | refine And.intro rfl ?_ | refine addL (by first | assumption | (rw [sizeLine_eq]; omega) | (rw [sizeLine_eq]; simp; done) | (rw [sizeLine_eq]; simp only [List.length_append, List.length_cons, List.length_nil]; omega)) ?_ | refine addT (by first | assumption | (rw [sizeLine_eq]; omega) | (rw [sizeLine_eq]; simp; done) | (rw [sizeLine_eq]; simp only [List.length_append, List.length_cons, List.length_nil]; omega)) ?_ | refine And.intro (by assumption) ?_ | refine And.intro (by decide) ?_ | refine ⟨_, _, rfl, ?_⟩ | refine iteT rfl ?_ | refine iteF Bool.false_ne_true ?_)
  refine iteB (fun e => ?_) (fun e => ?_)
  · have h1 : 1 ≤ z.length := by have := of_decide_eq_true e; omega
    repeat' (first | refine ix0T ?_ | refine ix1T ?_ | refine ix2T ?_ | refine ix0L ?_ | refine ix1L ?_ | refine ix2L ?_ | refine ⟨_, rfl, ?_⟩ | refine ⟨_, _, rfl, rfl, (by show (_ : Nat) ≤ sizeLine; first | assumption | exact big (DOk.strLen (by assumption)) | exact big (DOk.tupLen (by assumption)) | exact big (DOk.lstLen (by assumption)) | exact big (DOw.strLen (by assumption)) | exact big (DOw.tupLen (by assumption)) | exact big (DOw.lstLen (by assumption)) | exact big (DOz.strLen (by assumption)) | exact big (DOz.tupLen (by assumption)) | exact big (DOz.lstLen (by assumption))), ?_⟩ | refine ⟨_, _, rfl, rfl, (by first | decide | (show (0 : Int) < _; decide)), ?_⟩ | refine ⟨_, _, rfl, rfl, ?_⟩ | refine eqR_str ?_ | refine eqR_int ?_ | refine neR_str ?_ | refine neR_int ?_ | refine And.intro rfl ?_ | refine addL (by first | assumption | (rw [sizeLine_eq]; omega) | (rw [sizeLine_eq]; simp; done) | (rw [sizeLine_eq]; simp only [List.length_append, List.length_cons, List.length_nil]; omega)) ?_ | refine addT (by first | assumption | (rw [sizeLine_eq]; omega) | (rw [sizeLine_eq]; simp; done) | (rw [sizeLine_eq]; simp only [List.length_append, List.length_cons, List.length_nil]; omega)) ?_ | refine And.intro (by assumption) ?_ | refine And.intro (by decide) ?_ | refine ⟨_, _, rfl, ?_⟩ | refine iteT rfl ?_ | refine iteF Bool.false_ne_true ?_)
    refine iteB (fun e2 => ?_) (fun e2 => ?_)
    · have h2 : ¬ z.length ≤ 8 := by simp at e2; omega
      have e3 : nameD (.str z) = false := by
        show nameS z = false
        unfold nameS
        rw [decide_eq_false h2, Bool.false_and, Bool.and_false]
      rw [e3] at q
      exact q
    · have h2 : z.length ≤ 8 := by simp at e2; omega
      have e3 : nameD (.str z) = z.cps.toList.all letD := by
        show nameS z = _
        unfold nameS
        rw [decide_eq_true h1, decide_eq_true h2, Bool.true_and, Bool.true_and]
      rw [e3] at q
      repeat' (first | refine ix0T ?_ | refine ix1T ?_ | refine ix2T ?_ | refine ix0L ?_ | refine ix1L ?_ | refine ix2L ?_ | refine ⟨_, rfl, ?_⟩ | refine ⟨_, _, rfl, rfl, (by show (_ : Nat) ≤ sizeLine; first | assumption | exact big (DOk.strLen (by assumption)) | exact big (DOk.tupLen (by assumption)) | exact big (DOk.lstLen (by assumption)) | exact big (DOw.strLen (by assumption)) | exact big (DOw.tupLen (by assumption)) | exact big (DOw.lstLen (by assumption)) | exact big (DOz.strLen (by assumption)) | exact big (DOz.tupLen (by assumption)) | exact big (DOz.lstLen (by assumption))), ?_⟩ | refine ⟨_, _, rfl, rfl, (by first | decide | (show (0 : Int) < _; decide)), ?_⟩ | refine ⟨_, _, rfl, rfl, ?_⟩ | refine eqR_str ?_ | refine eqR_int ?_ | refine neR_str ?_ | refine neR_int ?_ | refine And.intro rfl ?_ | refine addL (by first | assumption | (rw [sizeLine_eq]; omega) | (rw [sizeLine_eq]; simp; done) | (rw [sizeLine_eq]; simp only [List.length_append, List.length_cons, List.length_nil]; omega)) ?_ | refine addT (by first | assumption | (rw [sizeLine_eq]; omega) | (rw [sizeLine_eq]; simp; done) | (rw [sizeLine_eq]; simp only [List.length_append, List.length_cons, List.length_nil]; omega)) ?_ | refine And.intro (by assumption) ?_ | refine And.intro (by decide) ?_ | refine ⟨_, _, rfl, ?_⟩ | refine iteT rfl ?_ | refine iteF Bool.false_ne_true ?_)
      refine lc_maps (fun c => PyData.str (signS c)) z.cps.toList (fun _ => true) (fun c => .dat (.bool (letD c))) (big' ok) (fun c hc yes no y1 y2 => ?_) ?_
      · have y := y1 rfl
        repeat' (first | refine ix0T ?_ | refine ix1T ?_ | refine ix2T ?_ | refine ix0L ?_ | refine ix1L ?_ | refine ix2L ?_ | refine ⟨_, rfl, ?_⟩ | refine ⟨_, _, rfl, rfl, (by show (_ : Nat) ≤ sizeLine; first | assumption | exact big (DOk.strLen (by assumption)) | exact big (DOk.tupLen (by assumption)) | exact big (DOk.lstLen (by assumption)) | exact big (DOw.strLen (by assumption)) | exact big (DOw.tupLen (by assumption)) | exact big (DOw.lstLen (by assumption)) | exact big (DOz.strLen (by assumption)) | exact big (DOz.tupLen (by assumption)) | exact big (DOz.lstLen (by assumption))), ?_⟩ | refine ⟨_, _, rfl, rfl, (by first | decide | (show (0 : Int) < _; decide)), ?_⟩ | refine ⟨_, _, rfl, rfl, ?_⟩ | refine eqR_str ?_ | refine eqR_int ?_ | refine neR_str ?_ | refine neR_int ?_ | refine And.intro rfl ?_ | refine addL (by first | assumption | (rw [sizeLine_eq]; omega) | (rw [sizeLine_eq]; simp; done) | (rw [sizeLine_eq]; simp only [List.length_append, List.length_cons, List.length_nil]; omega)) ?_ | refine addT (by first | assumption | (rw [sizeLine_eq]; omega) | (rw [sizeLine_eq]; simp; done) | (rw [sizeLine_eq]; simp only [List.length_append, List.length_cons, List.length_nil]; omega)) ?_ | refine And.intro (by assumption) ?_ | refine And.intro (by decide) ?_ | refine ⟨_, _, rfl, ?_⟩ | refine iteT rfl ?_ | refine iteF Bool.false_ne_true ?_)
        rw [le_a]
        refine iteB (fun e4 => ?_) (fun e4 => ?_)
        · repeat' (first | refine ix0T ?_ | refine ix1T ?_ | refine ix2T ?_ | refine ix0L ?_ | refine ix1L ?_ | refine ix2L ?_ | refine ⟨_, rfl, ?_⟩ | refine ⟨_, _, rfl, rfl, (by show (_ : Nat) ≤ sizeLine; first | assumption | exact big (DOk.strLen (by assumption)) | exact big (DOk.tupLen (by assumption)) | exact big (DOk.lstLen (by assumption)) | exact big (DOw.strLen (by assumption)) | exact big (DOw.tupLen (by assumption)) | exact big (DOw.lstLen (by assumption)) | exact big (DOz.strLen (by assumption)) | exact big (DOz.tupLen (by assumption)) | exact big (DOz.lstLen (by assumption))), ?_⟩ | refine ⟨_, _, rfl, rfl, (by first | decide | (show (0 : Int) < _; decide)), ?_⟩ | refine ⟨_, _, rfl, rfl, ?_⟩ | refine eqR_str ?_ | refine eqR_int ?_ | refine neR_str ?_ | refine neR_int ?_ | refine And.intro rfl ?_ | refine addL (by first | assumption | (rw [sizeLine_eq]; omega) | (rw [sizeLine_eq]; simp; done) | (rw [sizeLine_eq]; simp only [List.length_append, List.length_cons, List.length_nil]; omega)) ?_ | refine addT (by first | assumption | (rw [sizeLine_eq]; omega) | (rw [sizeLine_eq]; simp; done) | (rw [sizeLine_eq]; simp only [List.length_append, List.length_cons, List.length_nil]; omega)) ?_ | refine And.intro (by assumption) ?_ | refine And.intro (by decide) ?_ | refine ⟨_, _, rfl, ?_⟩ | refine iteT rfl ?_ | refine iteF Bool.false_ne_true ?_)
          rw [le_z]
          unfold letD at y
          rw [e4, Bool.true_and] at y
          exact y
        · unfold letD at y
          rw [e4, Bool.false_and] at y
          exact y
      · rw [List.filter_eq_self.mpr fun _ _ => rfl]
        refine ⟨z.cps.toList.map letD, ?_, ?_⟩
        · rw [erase_map, List.map_map]
          rfl
        · have e5 : (z.cps.toList.map letD).all id = z.cps.toList.all letD := by rw [List.all_map]; rfl
          rw [e5]
          exact q
  · have e3 : nameD (.str z) = false := by
      have h1 : ¬ 1 ≤ z.length := by have := of_decide_eq_false e; omega
      show nameS z = false
      unfold nameS
      rw [decide_eq_false h1, Bool.false_and]
    rw [e3] at q
    exact q
theorem zip_str (ks : List Str) (ds : List PyData) : ((ks.map PyData.str).zip ds).map DL.pairD = (ks.zip ds).map fun p : Str × PyData => DL.pairD (.str p.1, p.2) := by
  rw [List.zip_map_left, List.map_map]
  rfl
theorem sc_has_parts : FnScope ["kinds", "parts", "numbers", "kind", "part"] ["kinds", "parts"] (defScope s_has_parts) := ⟨rfl, rfl, rfl, by decide +kernel, rfl, by decide +kernel, by decide +kernel⟩
theorem ok_has_parts (F : Fun K "has_parts" "has_parts" s_has_parts f fd) (T : Txt0 mg) (c_name : ClG P w K mg base 1 "is_name" (spF K (spP nameD))) (c_int : ClG P w K mg base 1 "is_integer" (spF K (spP intD))) : FnG P w K mg base 3 f fd ["kinds", "parts"] (spF K spParts) := by
  refine okD F sc_has_parts (fun as Q h => by obtain ⟨_, _, rfl, _⟩ := h; rfl) fun cdv A out s H E hG hr => have hu := units_ofx hr; ⟨_, (dss_cons (ds_if (db_ne rfl hu (de_len rfl T.m_len (de_v (pv 1))) (de_len rfl T.m_len (de_v (pv 0))))
(dss_one (ds_ret (DE.o de_bl)))
dss_nil)
(dss_cons (ds_setLc (i := 2) (own := [("kind", 3), ("part", 4)]) rfl sc_has_parts.nd rfl rfl (sw_true rfl rfl rfl (by decide +kernel)) (di_zip rfl (by rfl) T.m_zip (da_cons (de_v (pv 0)) (da_cons (de_v (pv 1)) da_nil))) (blkOk_by (N := ["kinds", "parts", "numbers", "kind", "part"]) (sc := defScope s_has_parts) (by decide +kernel)) (fun _ _ _ _ _ => (dg_tup (n := 2) rfl rfl (dgs_cons (dg_name (pg_name (i := 3) sc_has_parts.nd rfl (.inl rfl))) (dgs_cons (dg_name (pg_name (i := 4) sc_has_parts.nd rfl (.inl rfl))) dgs_nil)))) (fun _ _ _ _ _ => (dts_one (db_eq rfl hu (de_v (pv 3)) de_str))) (fun _ _ _ _ _ => (DE.o (de_and (DO.d (do_call rfl c_int hG hr (by omega) (by rfl) (dr_cons (de_v (pv 4)) dr_nil))) (de_one (de_cmp op_ge od_Ib (de_v (pv 4)) de_int (nomark _)))))))
(dss_one (ds_ret (DE.o (de_and (de_flat (de_all rfl rfl T.m_all (de_v (pv 2)))) (de_one (de_all rfl rfl T.m_all (DO.d (do_lc (own := [("kind", 3), ("part", 4)]) rfl sc_has_parts.nd (di_zip rfl (by rfl) T.m_zip (da_cons (de_v (pv 0)) (da_cons (de_v (pv 1)) da_nil))) (blkOk_by (N := ["kinds", "parts", "numbers", "kind", "part"]) (sc := defScope s_has_parts) (by decide +kernel)) (fun _ _ _ _ _ => (dg_tup (n := 2) rfl rfl (dgs_cons (dg_name (pg_name (i := 3) sc_has_parts.nd rfl (.inl rfl))) (dgs_cons (dg_name (pg_name (i := 4) sc_has_parts.nd rfl (.inl rfl))) dgs_nil)))) (fun _ _ _ _ _ => (dts_one (db_eq rfl hu (de_v (pv 3)) de_str))) (fun _ _ _ _ _ => (do_call rfl c_name hG hr (by omega) (by rfl) (dr_cons (de_v (pv 4)) dr_nil))))))))))))), fun as Q h => ?_⟩
  obtain ⟨ks, ds, rfl, hk, hd, ok, q⟩ := h
  have hk1 : (ks.map PyData.str).length ≤ sizeLine := by rw [List.length_map, sizeLine_eq]; omega
  have hd1 : ds.length ≤ sizeLine := big hd
  unfold kd
  repeat' (first | refine ix0T ?_ | refine ix1T ?_ | refine ix2T ?_ | refine ix0L ?_ | refine ix1L ?_ | refine ix2L ?_ | refine ⟨_, rfl, ?_⟩ | refine ⟨_, _, rfl, rfl, (by show (_ : Nat) ≤ sizeLine; first | assumption | exact big (DOk.strLen (by assumption)) | exact big (DOk.tupLen (by assumption)) | exact big (DOk.lstLen (by assumption)) | exact big (DOw.strLen (by assumption)) | exact big (DOw.tupLen (by assumption)) | exact big (DOw.lstLen (by assumption)) | exact big (DOz.strLen (by assumption)) | exact big (DOz.tupLen (by assumption)) | exact big (DOz.lstLen (by assumption))), ?_⟩ | refine ⟨_, _, rfl, rfl, (by first | decide | (show (0 : Int) < _; decide)), ?_⟩ | refine ⟨_, _, rfl, rfl, ?_⟩ | refine eqR_str ?_ | refine eqR_int ?_ | refine neR_str ?_ | refine neR_int ?_ | refine And.intro rfl ?_ | refine addL (by first | assumption | (rw [sizeLine_eq]; omega) | (rw [sizeLine_eq]; simp; done) | (rw [sizeLine_eq]; simp only [List.length_append, List.length_cons, List.length_nil]; omega)) ?_ | refine addT (by first | assumption | (rw [sizeLine_eq]; omega) | (rw [sizeLine_eq]; simp; done) | (rw [sizeLine_eq]; simp only [List.length_append, List.length_cons, List.length_nil]; omega)) ?_ | refine And.intro (by assumption) ?_ | refine And.intro (by decide) ?_ | refine ⟨_, _, rfl, ?_⟩ | refine iteT rfl ?_ | refine iteF Bool.false_ne_true ?_)
  refine iteB (fun e => ?_) (fun e => ?_)
  · have h1 : ¬ ds.length = ks.length := by simp at e; omega
    unfold hasD at q
    rw [decide_eq_false h1, Bool.false_and] at q
    exact q
  have h1 : ds.length = ks.length := by simp at e; omega
  unfold hasD at q
  rw [decide_eq_true h1, Bool.true_and] at q
  repeat' (first | refine ix0T ?_ | refine ix1T ?_ | refine ix2T ?_ | refine ix0L ?_ | refine ix1L ?_ | refine ix2L ?_ | refine ⟨_, rfl, ?_⟩ | refine ⟨_, _, rfl, rfl, (by show (_ : Nat) ≤ sizeLine; first | assumption | exact big (DOk.strLen (by assumption)) | exact big (DOk.tupLen (by assumption)) | exact big (DOk.lstLen (by assumption)) | exact big (DOw.strLen (by assumption)) | exact big (DOw.tupLen (by assumption)) | exact big (DOw.lstLen (by assumption)) | exact big (DOz.strLen (by assumption)) | exact big (DOz.tupLen (by assumption)) | exact big (DOz.lstLen (by assumption))), ?_⟩ | refine ⟨_, _, rfl, rfl, (by first | decide | (show (0 : Int) < _; decide)), ?_⟩ | refine ⟨_, _, rfl, rfl, ?_⟩ | refine eqR_str ?_ | refine eqR_int ?_ | refine neR_str ?_ | refine neR_int ?_ | refine And.intro rfl ?_ | refine addL (by first | assumption | (rw [sizeLine_eq]; omega) | (rw [sizeLine_eq]; simp; done) | (rw [sizeLine_eq]; simp only [List.length_append, List.length_cons, List.length_nil]; omega)) ?_ | refine addT (by first | assumption | (rw [sizeLine_eq]; omega) | (rw [sizeLine_eq]; simp; done) | (rw [sizeLine_eq]; simp only [List.length_append, List.length_cons, List.length_nil]; omega)) ?_ | refine And.intro (by assumption) ?_ | refine And.intro (by decide) ?_ | refine ⟨_, _, rfl, ?_⟩ | refine iteT rfl ?_ | refine iteF Bool.false_ne_true ?_)
  refine ⟨_, _, _, _, rfl, .inr ⟨rfl, rfl⟩, ?_⟩
  rw [zip_str]
  refine lc_maps (fun p : Str × PyData => DL.pairD (.str p.1, p.2)) (ks.zip ds) kN (fun p => .dat (.bool (natD p.2))) (by rw [List.length_zip, sizeLine_eq]; omega) (fun p hp yes no y1 y2 => ?_) ?_
  · refine ⟨_, rfl, ⟨_, rfl⟩, rfl, _, _, rfl, _, _, rfl, rfl, ?_⟩
    obtain ⟨pk, pd⟩ := p
    have okp := ok _ (List.of_mem_zip hp).2
    repeat' (first | refine ix0T ?_ | refine ix1T ?_ | refine ix2T ?_ | refine ix0L ?_ | refine ix1L ?_ | refine ix2L ?_ | refine ⟨_, rfl, ?_⟩ | refine ⟨_, _, rfl, rfl, (by show (_ : Nat) ≤ sizeLine; first | assumption | exact big (DOk.strLen (by assumption)) | exact big (DOk.tupLen (by assumption)) | exact big (DOk.lstLen (by assumption)) | exact big (DOw.strLen (by assumption)) | exact big (DOw.tupLen (by assumption)) | exact big (DOw.lstLen (by assumption)) | exact big (DOz.strLen (by assumption)) | exact big (DOz.tupLen (by assumption)) | exact big (DOz.lstLen (by assumption))), ?_⟩ | refine ⟨_, _, rfl, rfl, (by first | decide | (show (0 : Int) < _; decide)), ?_⟩ | refine ⟨_, _, rfl, rfl, ?_⟩ | refine eqR_str ?_ | refine eqR_int ?_ | refine neR_str ?_ | refine neR_int ?_ | refine And.intro rfl ?_ | refine addL (by first | assumption | (rw [sizeLine_eq]; omega) | (rw [sizeLine_eq]; simp; done) | (rw [sizeLine_eq]; simp only [List.length_append, List.length_cons, List.length_nil]; omega)) ?_ | refine addT (by first | assumption | (rw [sizeLine_eq]; omega) | (rw [sizeLine_eq]; simp; done) | (rw [sizeLine_eq]; simp only [List.length_append, List.length_cons, List.length_nil]; omega)) ?_ | refine And.intro (by assumption) ?_ | refine And.intro (by decide) ?_ | refine ⟨_, _, rfl, ?_⟩ | refine iteT rfl ?_ | refine iteF Bool.false_ne_true ?_)
    refine iteB (fun e2 => ?_) (fun e2 => ?_)
    · have y := y1 e2
      cases pd <;> (first | exact okp.elim | skip) <;> (repeat' (first | refine ix0T ?_ | refine ix1T ?_ | refine ix2T ?_ | refine ix0L ?_ | refine ix1L ?_ | refine ix2L ?_ | refine ⟨_, rfl, ?_⟩ | refine ⟨_, _, rfl, rfl, (by show (_ : Nat) ≤ sizeLine; first | assumption | exact big (DOk.strLen (by assumption)) | exact big (DOk.tupLen (by assumption)) | exact big (DOk.lstLen (by assumption)) | exact big (DOw.strLen (by assumption)) | exact big (DOw.tupLen (by assumption)) | exact big (DOw.lstLen (by assumption)) | exact big (DOz.strLen (by assumption)) | exact big (DOz.tupLen (by assumption)) | exact big (DOz.lstLen (by assumption))), ?_⟩ | refine ⟨_, _, rfl, rfl, (by first | decide | (show (0 : Int) < _; decide)), ?_⟩ | refine ⟨_, _, rfl, rfl, ?_⟩ | refine eqR_str ?_ | refine eqR_int ?_ | refine neR_str ?_ | refine neR_int ?_ | refine And.intro rfl ?_ | refine addL (by first | assumption | (rw [sizeLine_eq]; omega) | (rw [sizeLine_eq]; simp; done) | (rw [sizeLine_eq]; simp only [List.length_append, List.length_cons, List.length_nil]; omega)) ?_ | refine addT (by first | assumption | (rw [sizeLine_eq]; omega) | (rw [sizeLine_eq]; simp; done) | (rw [sizeLine_eq]; simp only [List.length_append, List.length_cons, List.length_nil]; omega)) ?_ | refine And.intro (by assumption) ?_ | refine And.intro (by decide) ?_ | refine ⟨_, _, rfl, ?_⟩ | refine iteT rfl ?_ | refine iteF Bool.false_ne_true ?_)) <;> (try exact y)
    · exact y2 e2
  · repeat' (first | refine ix0T ?_ | refine ix1T ?_ | refine ix2T ?_ | refine ix0L ?_ | refine ix1L ?_ | refine ix2L ?_ | refine ⟨_, rfl, ?_⟩ | refine ⟨_, _, rfl, rfl, (by show (_ : Nat) ≤ sizeLine; first | assumption | exact big (DOk.strLen (by assumption)) | exact big (DOk.tupLen (by assumption)) | exact big (DOk.lstLen (by assumption)) | exact big (DOw.strLen (by assumption)) | exact big (DOw.tupLen (by assumption)) | exact big (DOw.lstLen (by assumption)) | exact big (DOz.strLen (by assumption)) | exact big (DOz.tupLen (by assumption)) | exact big (DOz.lstLen (by assumption))), ?_⟩ | refine ⟨_, _, rfl, rfl, (by first | decide | (show (0 : Int) < _; decide)), ?_⟩ | refine ⟨_, _, rfl, rfl, ?_⟩ | refine eqR_str ?_ | refine eqR_int ?_ | refine neR_str ?_ | refine neR_int ?_ | refine And.intro rfl ?_ | refine addL (by first | assumption | (rw [sizeLine_eq]; omega) | (rw [sizeLine_eq]; simp; done) | (rw [sizeLine_eq]; simp only [List.length_append, List.length_cons, List.length_nil]; omega)) ?_ | refine addT (by first | assumption | (rw [sizeLine_eq]; omega) | (rw [sizeLine_eq]; simp; done) | (rw [sizeLine_eq]; simp only [List.length_append, List.length_cons, List.length_nil]; omega)) ?_ | refine And.intro (by assumption) ?_ | refine And.intro (by decide) ?_ | refine ⟨_, _, rfl, ?_⟩ | refine iteT rfl ?_ | refine iteF Bool.false_ne_true ?_)
    refine ⟨((ks.zip ds).filter kN).map fun p => natD p.2, ?_, ?_⟩
    · rw [era_map, List.map_map]
      rfl
    have ea : (((ks.zip ds).filter kN).map fun p => natD p.2).all id = ((ks.zip ds).filter kN).all fun p => natD p.2 := by rw [List.all_map]; rfl
    rw [ea]
    repeat' (first | refine ix0T ?_ | refine ix1T ?_ | refine ix2T ?_ | refine ix0L ?_ | refine ix1L ?_ | refine ix2L ?_ | refine ⟨_, rfl, ?_⟩ | refine ⟨_, _, rfl, rfl, (by show (_ : Nat) ≤ sizeLine; first | assumption | exact big (DOk.strLen (by assumption)) | exact big (DOk.tupLen (by assumption)) | exact big (DOk.lstLen (by assumption)) | exact big (DOw.strLen (by assumption)) | exact big (DOw.tupLen (by assumption)) | exact big (DOw.lstLen (by assumption)) | exact big (DOz.strLen (by assumption)) | exact big (DOz.tupLen (by assumption)) | exact big (DOz.lstLen (by assumption))), ?_⟩ | refine ⟨_, _, rfl, rfl, (by first | decide | (show (0 : Int) < _; decide)), ?_⟩ | refine ⟨_, _, rfl, rfl, ?_⟩ | refine eqR_str ?_ | refine eqR_int ?_ | refine neR_str ?_ | refine neR_int ?_ | refine And.intro rfl ?_ | refine addL (by first | assumption | (rw [sizeLine_eq]; omega) | (rw [sizeLine_eq]; simp; done) | (rw [sizeLine_eq]; simp only [List.length_append, List.length_cons, List.length_nil]; omega)) ?_ | refine addT (by first | assumption | (rw [sizeLine_eq]; omega) | (rw [sizeLine_eq]; simp; done) | (rw [sizeLine_eq]; simp only [List.length_append, List.length_cons, List.length_nil]; omega)) ?_ | refine And.intro (by assumption) ?_ | refine And.intro (by decide) ?_ | refine ⟨_, _, rfl, ?_⟩ | refine iteT rfl ?_ | refine iteF Bool.false_ne_true ?_)
    refine iteB (fun e3 => ?_) (fun e3 => ?_)
    · rw [e3, Bool.true_and] at q
      repeat' (first | refine ix0T ?_ | refine ix1T ?_ | refine ix2T ?_ | refine ix0L ?_ | refine ix1L ?_ | refine ix2L ?_ | refine ⟨_, rfl, ?_⟩ | refine ⟨_, _, rfl, rfl, (by show (_ : Nat) ≤ sizeLine; first | assumption | exact big (DOk.strLen (by assumption)) | exact big (DOk.tupLen (by assumption)) | exact big (DOk.lstLen (by assumption)) | exact big (DOw.strLen (by assumption)) | exact big (DOw.tupLen (by assumption)) | exact big (DOw.lstLen (by assumption)) | exact big (DOz.strLen (by assumption)) | exact big (DOz.tupLen (by assumption)) | exact big (DOz.lstLen (by assumption))), ?_⟩ | refine ⟨_, _, rfl, rfl, (by first | decide | (show (0 : Int) < _; decide)), ?_⟩ | refine ⟨_, _, rfl, rfl, ?_⟩ | refine eqR_str ?_ | refine eqR_int ?_ | refine neR_str ?_ | refine neR_int ?_ | refine And.intro rfl ?_ | refine addL (by first | assumption | (rw [sizeLine_eq]; omega) | (rw [sizeLine_eq]; simp; done) | (rw [sizeLine_eq]; simp only [List.length_append, List.length_cons, List.length_nil]; omega)) ?_ | refine addT (by first | assumption | (rw [sizeLine_eq]; omega) | (rw [sizeLine_eq]; simp; done) | (rw [sizeLine_eq]; simp only [List.length_append, List.length_cons, List.length_nil]; omega)) ?_ | refine And.intro (by assumption) ?_ | refine And.intro (by decide) ?_ | refine ⟨_, _, rfl, ?_⟩ | refine iteT rfl ?_ | refine iteF Bool.false_ne_true ?_)
      refine ⟨_, _, _, _, rfl, .inr ⟨rfl, rfl⟩, ?_⟩
      rw [zip_str]
      refine lc_maps (fun p : Str × PyData => DL.pairD (.str p.1, p.2)) (ks.zip ds) kM (fun p => .dat (.bool (nameD p.2))) (by rw [List.length_zip, sizeLine_eq]; omega) (fun p hp yes no y1 y2 => ?_) ?_
      · refine ⟨_, rfl, ⟨_, rfl⟩, rfl, _, _, rfl, _, _, rfl, rfl, ?_⟩
        obtain ⟨pk, pd⟩ := p
        have okp := ok _ (List.of_mem_zip hp).2
        repeat' (first | refine ix0T ?_ | refine ix1T ?_ | refine ix2T ?_ | refine ix0L ?_ | refine ix1L ?_ | refine ix2L ?_ | refine ⟨_, rfl, ?_⟩ | refine ⟨_, _, rfl, rfl, (by show (_ : Nat) ≤ sizeLine; first | assumption | exact big (DOk.strLen (by assumption)) | exact big (DOk.tupLen (by assumption)) | exact big (DOk.lstLen (by assumption)) | exact big (DOw.strLen (by assumption)) | exact big (DOw.tupLen (by assumption)) | exact big (DOw.lstLen (by assumption)) | exact big (DOz.strLen (by assumption)) | exact big (DOz.tupLen (by assumption)) | exact big (DOz.lstLen (by assumption))), ?_⟩ | refine ⟨_, _, rfl, rfl, (by first | decide | (show (0 : Int) < _; decide)), ?_⟩ | refine ⟨_, _, rfl, rfl, ?_⟩ | refine eqR_str ?_ | refine eqR_int ?_ | refine neR_str ?_ | refine neR_int ?_ | refine And.intro rfl ?_ | refine addL (by first | assumption | (rw [sizeLine_eq]; omega) | (rw [sizeLine_eq]; simp; done) | (rw [sizeLine_eq]; simp only [List.length_append, List.length_cons, List.length_nil]; omega)) ?_ | refine addT (by first | assumption | (rw [sizeLine_eq]; omega) | (rw [sizeLine_eq]; simp; done) | (rw [sizeLine_eq]; simp only [List.length_append, List.length_cons, List.length_nil]; omega)) ?_ | refine And.intro (by assumption) ?_ | refine And.intro (by decide) ?_ | refine ⟨_, _, rfl, ?_⟩ | refine iteT rfl ?_ | refine iteF Bool.false_ne_true ?_)
        refine iteB (fun e2 => ?_) (fun e2 => ?_)
        · have y := y1 e2
          cases pd <;> (first | exact okp.elim | skip) <;> (repeat' (first | refine ix0T ?_ | refine ix1T ?_ | refine ix2T ?_ | refine ix0L ?_ | refine ix1L ?_ | refine ix2L ?_ | refine ⟨_, rfl, ?_⟩ | refine ⟨_, _, rfl, rfl, (by show (_ : Nat) ≤ sizeLine; first | assumption | exact big (DOk.strLen (by assumption)) | exact big (DOk.tupLen (by assumption)) | exact big (DOk.lstLen (by assumption)) | exact big (DOw.strLen (by assumption)) | exact big (DOw.tupLen (by assumption)) | exact big (DOw.lstLen (by assumption)) | exact big (DOz.strLen (by assumption)) | exact big (DOz.tupLen (by assumption)) | exact big (DOz.lstLen (by assumption))), ?_⟩ | refine ⟨_, _, rfl, rfl, (by first | decide | (show (0 : Int) < _; decide)), ?_⟩ | refine ⟨_, _, rfl, rfl, ?_⟩ | refine eqR_str ?_ | refine eqR_int ?_ | refine neR_str ?_ | refine neR_int ?_ | refine And.intro rfl ?_ | refine addL (by first | assumption | (rw [sizeLine_eq]; omega) | (rw [sizeLine_eq]; simp; done) | (rw [sizeLine_eq]; simp only [List.length_append, List.length_cons, List.length_nil]; omega)) ?_ | refine addT (by first | assumption | (rw [sizeLine_eq]; omega) | (rw [sizeLine_eq]; simp; done) | (rw [sizeLine_eq]; simp only [List.length_append, List.length_cons, List.length_nil]; omega)) ?_ | refine And.intro (by assumption) ?_ | refine And.intro (by decide) ?_ | refine ⟨_, _, rfl, ?_⟩ | refine iteT rfl ?_ | refine iteF Bool.false_ne_true ?_)) <;> (try exact y)
          all_goals (refine ⟨okp, ?_⟩; exact y)
        · exact y2 e2
      · repeat' (first | refine ix0T ?_ | refine ix1T ?_ | refine ix2T ?_ | refine ix0L ?_ | refine ix1L ?_ | refine ix2L ?_ | refine ⟨_, rfl, ?_⟩ | refine ⟨_, _, rfl, rfl, (by show (_ : Nat) ≤ sizeLine; first | assumption | exact big (DOk.strLen (by assumption)) | exact big (DOk.tupLen (by assumption)) | exact big (DOk.lstLen (by assumption)) | exact big (DOw.strLen (by assumption)) | exact big (DOw.tupLen (by assumption)) | exact big (DOw.lstLen (by assumption)) | exact big (DOz.strLen (by assumption)) | exact big (DOz.tupLen (by assumption)) | exact big (DOz.lstLen (by assumption))), ?_⟩ | refine ⟨_, _, rfl, rfl, (by first | decide | (show (0 : Int) < _; decide)), ?_⟩ | refine ⟨_, _, rfl, rfl, ?_⟩ | refine eqR_str ?_ | refine eqR_int ?_ | refine neR_str ?_ | refine neR_int ?_ | refine And.intro rfl ?_ | refine addL (by first | assumption | (rw [sizeLine_eq]; omega) | (rw [sizeLine_eq]; simp; done) | (rw [sizeLine_eq]; simp only [List.length_append, List.length_cons, List.length_nil]; omega)) ?_ | refine addT (by first | assumption | (rw [sizeLine_eq]; omega) | (rw [sizeLine_eq]; simp; done) | (rw [sizeLine_eq]; simp only [List.length_append, List.length_cons, List.length_nil]; omega)) ?_ | refine And.intro (by assumption) ?_ | refine And.intro (by decide) ?_ | refine ⟨_, _, rfl, ?_⟩ | refine iteT rfl ?_ | refine iteF Bool.false_ne_true ?_)
        refine ⟨((ks.zip ds).filter kM).map fun p => nameD p.2, ?_, ?_⟩
        · rw [erase_map, List.map_map]
          rfl
        have ea : (((ks.zip ds).filter kM).map fun p => nameD p.2).all id = ((ks.zip ds).filter kM).all fun p => nameD p.2 := by rw [List.all_map]; rfl
        rw [ea]
        repeat' (first | refine ix0T ?_ | refine ix1T ?_ | refine ix2T ?_ | refine ix0L ?_ | refine ix1L ?_ | refine ix2L ?_ | refine ⟨_, rfl, ?_⟩ | refine ⟨_, _, rfl, rfl, (by show (_ : Nat) ≤ sizeLine; first | assumption | exact big (DOk.strLen (by assumption)) | exact big (DOk.tupLen (by assumption)) | exact big (DOk.lstLen (by assumption)) | exact big (DOw.strLen (by assumption)) | exact big (DOw.tupLen (by assumption)) | exact big (DOw.lstLen (by assumption)) | exact big (DOz.strLen (by assumption)) | exact big (DOz.tupLen (by assumption)) | exact big (DOz.lstLen (by assumption))), ?_⟩ | refine ⟨_, _, rfl, rfl, (by first | decide | (show (0 : Int) < _; decide)), ?_⟩ | refine ⟨_, _, rfl, rfl, ?_⟩ | refine eqR_str ?_ | refine eqR_int ?_ | refine neR_str ?_ | refine neR_int ?_ | refine And.intro rfl ?_ | refine addL (by first | assumption | (rw [sizeLine_eq]; omega) | (rw [sizeLine_eq]; simp; done) | (rw [sizeLine_eq]; simp only [List.length_append, List.length_cons, List.length_nil]; omega)) ?_ | refine addT (by first | assumption | (rw [sizeLine_eq]; omega) | (rw [sizeLine_eq]; simp; done) | (rw [sizeLine_eq]; simp only [List.length_append, List.length_cons, List.length_nil]; omega)) ?_ | refine And.intro (by assumption) ?_ | refine And.intro (by decide) ?_ | refine ⟨_, _, rfl, ?_⟩ | refine iteT rfl ?_ | refine iteF Bool.false_ne_true ?_)
        exact q
    · rw [e3, Bool.false_and] at q
      exact q
theorem sc_is_step : FnScope ["thing", "kinds"] ["thing"] (defScope s_is_step) := ⟨rfl, rfl, rfl, by decide +kernel, rfl, by decide +kernel, by decide +kernel⟩
theorem ok_is_step (F : Fun K "is_step" "is_step" s_is_step f fd) (T : Txt0 mg) (TK : TxtK K w mg) (c_parts : ClG P w K mg base 3 "has_parts" (spF K spParts)) : FnG P w K mg base 4 f fd ["thing"] (spF K spStep) := by
  refine okD F sc_is_step (fun as Q h => by obtain ⟨_, rfl, _⟩ := h; rfl) fun cdv A out s H E hG hr => have hu := units_ofx hr; ⟨_, (dss_cons (ds_if (DW.db (dw_or (db_not (db_val (de_isi (T := "tuple") rfl (de_v (pv 0)) (by rfl) T.m_isinstance (by rfl) T.m_tuple (by decide +kernel) (by decide)))) (dw_or (db_eq rfl hu (de_len rfl T.m_len (de_v (pv 0))) de_int) (dw_or1 (db_not (db_val (de_isi (T := "str") rfl (de_ixA rfl (de_v (pv 0)) de_int) (by rfl) T.m_isinstance (by rfl) T.m_str (by decide +kernel) (by decide))))))))
(dss_one (ds_ret (DE.o de_bl)))
dss_nil)
(dss_one (ds_ret (DE.o (de_any rfl rfl T.m_any (DO.d (do_lc (own := [("kinds", 1)]) rfl sc_is_step.nd (di_any rfl (de_kgetN (by rfl) TK.g_STEP_FORMS rfl (de_ixA rfl (de_v (pv 0)) de_int) (de_tup da_nil))) (blkOk_by (N := ["thing", "kinds"]) (sc := defScope s_is_step) (by decide +kernel)) (fun _ _ _ _ _ => (dg_name (pg_name (i := 1) sc_is_step.nd rfl (.inl rfl)))) (fun _ _ _ _ _ => dts_nil) (fun _ _ _ _ _ => (do_call rfl c_parts hG hr (by omega) (by rfl) (dr_cons (de_v (pv 1)) (dr_cons (DO.d (do_sl rfl (de_v (pv 0)) (io_some de_int) io_none)) dr_nil))))))))))), fun as Q h => ?_⟩
  obtain ⟨ds, rfl, hd, ok, ne, q⟩ := h
  have hd1 : ds.length ≤ sizeLine := big hd
  cases ds with
  | nil => exact absurd rfl ne
  | cons d r =>
  have ok1 := ok d (List.mem_cons_self ..)
  cases d <;> (first | exact ok1.elim | skip) <;> (repeat' (first | refine ix0T ?_ | refine ix1T ?_ | refine ix2T ?_ | refine ix0L ?_ | refine ix1L ?_ | refine ix2L ?_ | refine ⟨_, rfl, ?_⟩ | refine ⟨_, _, rfl, rfl, (by show (_ : Nat) ≤ sizeLine; first | assumption | exact big (DOk.strLen (by assumption)) | exact big (DOk.tupLen (by assumption)) | exact big (DOk.lstLen (by assumption)) | exact big (DOw.strLen (by assumption)) | exact big (DOw.tupLen (by assumption)) | exact big (DOw.lstLen (by assumption)) | exact big (DOz.strLen (by assumption)) | exact big (DOz.tupLen (by assumption)) | exact big (DOz.lstLen (by assumption))), ?_⟩ | refine ⟨_, _, rfl, rfl, (by first | decide | (show (0 : Int) < _; decide)), ?_⟩ | refine ⟨_, _, rfl, rfl, ?_⟩ | refine eqR_str ?_ | refine eqR_int ?_ | refine neR_str ?_ | refine neR_int ?_ | refine And.intro rfl ?_ | refine addL (by first | assumption | (rw [sizeLine_eq]; omega) | (rw [sizeLine_eq]; simp; done) | (rw [sizeLine_eq]; simp only [List.length_append, List.length_cons, List.length_nil]; omega)) ?_ | refine addT (by first | assumption | (rw [sizeLine_eq]; omega) | (rw [sizeLine_eq]; simp; done) | (rw [sizeLine_eq]; simp only [List.length_append, List.length_cons, List.length_nil]; omega)) ?_ | refine And.intro (by assumption) ?_ | refine And.intro (by decide) ?_ | refine ⟨_, _, rfl, ?_⟩ | refine iteT rfl ?_ | refine iteF Bool.false_ne_true ?_))
  · exact q
  rename_i z
  refine ⟨(formsOf z).map kd, by show iterD ((tabAt t_STEP_FORMS z).getD (.tuple [])) = _; rw [forms_tab]; rfl, ?_⟩
  have hf := forms_few z
  refine lc_maps kd (formsOf z) (fun _ => true) (fun ks => .dat (.bool (hasD ks r))) (by rw [sizeLine_eq]; omega) (fun ks hp yes no y1 y2 => ?_) ?_
  · have y := y1 rfl
    repeat' (first | refine ix0T ?_ | refine ix1T ?_ | refine ix2T ?_ | refine ix0L ?_ | refine ix1L ?_ | refine ix2L ?_ | refine ⟨_, rfl, ?_⟩ | refine ⟨_, _, rfl, rfl, (by show (_ : Nat) ≤ sizeLine; first | assumption | exact big (DOk.strLen (by assumption)) | exact big (DOk.tupLen (by assumption)) | exact big (DOk.lstLen (by assumption)) | exact big (DOw.strLen (by assumption)) | exact big (DOw.tupLen (by assumption)) | exact big (DOw.lstLen (by assumption)) | exact big (DOz.strLen (by assumption)) | exact big (DOz.tupLen (by assumption)) | exact big (DOz.lstLen (by assumption))), ?_⟩ | refine ⟨_, _, rfl, rfl, (by first | decide | (show (0 : Int) < _; decide)), ?_⟩ | refine ⟨_, _, rfl, rfl, ?_⟩ | refine eqR_str ?_ | refine eqR_int ?_ | refine neR_str ?_ | refine neR_int ?_ | refine And.intro rfl ?_ | refine addL (by first | assumption | (rw [sizeLine_eq]; omega) | (rw [sizeLine_eq]; simp; done) | (rw [sizeLine_eq]; simp only [List.length_append, List.length_cons, List.length_nil]; omega)) ?_ | refine addT (by first | assumption | (rw [sizeLine_eq]; omega) | (rw [sizeLine_eq]; simp; done) | (rw [sizeLine_eq]; simp only [List.length_append, List.length_cons, List.length_nil]; omega)) ?_ | refine And.intro (by assumption) ?_ | refine And.intro (by decide) ?_ | refine ⟨_, _, rfl, ?_⟩ | refine iteT rfl ?_ | refine iteF Bool.false_ne_true ?_)
    simp only [DL.cut1]
    exact ⟨hf.2 ks hp, by simp at hd; omega, fun d m => ok d (List.mem_cons_of_mem _ m), y⟩
  · rw [List.filter_eq_self.mpr fun _ _ => rfl]
    refine ⟨(formsOf z).map fun ks => hasD ks r, ?_, ?_⟩
    · rw [erase_map, List.map_map]
      rfl
    have ea : ((formsOf z).map fun ks => hasD ks r).any id = (formsOf z).any fun ks => hasD ks r := by rw [List.any_map]; rfl
    rw [ea]
    exact q
end
end K96
set_option Elab.async false
set_option linter.all false
set_option maxRecDepth 100000
set_option maxHeartbeats 1000000
set_option pp.maxSteps 500
/-! K96d: how a word, a line is read -/
namespace K96
open PySem PySem.Spec PyProof.Rows L2 GL DL
theorem era_dat (ds : List PyData) : eraseAll (ds.map O.dat) = ds := by
  rw [era_map]
  exact List.map_id ds
def digC (c : Nat) : Bool := decide (48 ≤ c) && decide (c ≤ 57)
def figL : List Nat → Bool
  | [] => false
  | c :: r => decide ((c :: r).length ≤ 40) && ((c :: r).all digC && (decide (c ≠ 48) || decide (r = [])))
def figS (w : Str) : Bool := figL w.cps.toList
def valS (w : Str) : Int := ((NumText.digitsVal w.cps.toList : Nat) : Int)
def numD (w : Str) : PyData := if figS w = true then .int (valS w) else .none
def partD (w : Str) : PyData := if figS w = true then .int (valS w) else if w = "-" then .str "" else .str w
def wordsOf (z : Str) : List Str := Txt.split z " "
def lineD (z : Str) : List PyData := (wordsOf z).map partD
theorem dig_in (c : Nat) : decide (c ∈ ("0123456789" : Str).cps.toList) = digC c := by
  have e : ("0123456789" : Str).cps.toList = [48, 49, 50, 51, 52, 53, 54, 55, 56, 57] := by decide +kernel
  rw [e]
  unfold digC
  rw [Bool.eq_iff_iff, decide_eq_true_eq, Bool.and_eq_true, decide_eq_true_eq, decide_eq_true_eq]
  simp only [List.mem_cons, List.not_mem_nil, or_false]
  omega
theorem fig_all {w : Str} (h : figS w = true) : NumText.AllDigits w.cps.toList ∧ w.cps.toList ≠ [] ∧ w.length ≤ 40 ∧ ∃ c r, w.cps.toList = c :: r ∧ (c ≠ 48 ∨ r = []) := by
  unfold figS at h
  have hl : w.length = w.cps.toList.length := by simp [Str.length]
  rw [hl]
  cases e : w.cps.toList with
  | nil => rw [e] at h; cases h
  | cons c r =>
    rw [e] at h
    unfold figL at h
    simp only [Bool.and_eq_true, Bool.or_eq_true, decide_eq_true_eq] at h
    refine ⟨fun d m => ?_, by simp, h.1, c, r, rfl, h.2.2⟩
    have := List.all_eq_true.mp h.2.1 d m
    unfold digC at this
    simpa using this
theorem fig_int {w : Str} (h : figS w = true) : PySem.intText? w = some (valS w) := by
  obtain ⟨h1, h2, h3, _⟩ := fig_all h
  exact intText_digits h1 h2 (by omega)
def spNum : DSp := fun as P => ∃ w, as = [.d (.str w)] ∧ w.length ≤ 100000 ∧ P (.dat (numD w))
def spPart : DSp := fun as P => ∃ w, as = [.d (.str w)] ∧ w.length ≤ 100000 ∧ P (.dat (partD w))
def spWords : DSp := fun as P => ∃ w, as = [.d (.str w)] ∧ w.length ≤ 90000 ∧ P (.dat (.tuple (lineD w)))
theorem sign48 : signS 48 = ("0" : Str) := by decide +kernel
theorem sign48' {c : Nat} (h : signS c = ("0" : Str)) : c = 48 := by
  have := congrArg (fun z : Str => z.cps.toList) h
  have e : ("0" : Str).cps.toList = [48] := by decide +kernel
  simp only [e] at this
  simpa [signS] using this
theorem len_cps (w : Str) : w.length = w.cps.toList.length := by simp [Str.length]
/-! splitting at one sign -/
def sp1 (c : Nat) : List Nat → List (List Nat)
  | [] => [[]]
  | x :: r => if x = c then [] :: sp1 c r else match sp1 c r with
    | [] => [[x]]
    | p :: ps => (x :: p) :: ps
theorem sp1_ne (c : Nat) : ∀ a : List Nat, sp1 c a ≠ []
  | [] => by simp [sp1]
  | x :: r => by
    unfold sp1
    split
    · simp
    · split <;> simp
theorem sp1_hit (c : Nat) (r : List Nat) : sp1 c (c :: r) = [] :: sp1 c r := if_pos rfl
theorem sp1_miss {c x : Nat} {r p : List Nat} {ps : List (List Nat)} (h : x ≠ c) (e : sp1 c r = p :: ps) : sp1 c (x :: r) = (x :: p) :: ps := by
  have h2 : sp1 c (x :: r) = match sp1 c r with
    | [] => [[x]]
    | p :: ps => (x :: p) :: ps := if_neg h
  rw [h2, e]
theorem spl_sp1 (c : Nat) : ∀ (a acc p : List Nat) (ps : List (List Nat)), sp1 c a = p :: ps → TL.spl [c] 0 acc a = (acc ++ p) :: ps
  | [], acc, p, ps, e => by
    rw [TL.spl_nil]
    cases e
    rw [List.append_nil]
  | x :: r, acc, p, ps, e => by
    obtain ⟨q, qs, e2⟩ : ∃ q qs, sp1 c r = q :: qs := by
      cases h : sp1 c r with
      | nil => exact absurd h (sp1_ne c r)
      | cons q qs => exact ⟨q, qs, rfl⟩
    by_cases h : x = c
    · subst h
      rw [TL.spl_hit (by simp [TL.pre])]
      rw [sp1_hit, e2] at e
      cases e
      show acc :: TL.spl [x] 0 [] r = _
      rw [spl_sp1 x r [] q qs e2, List.append_nil]
      rfl
    · rw [TL.spl_miss (by simp [TL.pre, h])]
      rw [sp1_miss h e2] at e
      cases e
      rw [spl_sp1 c r (acc ++ [x]) q ps e2, List.append_assoc]
      rfl
theorem split1 (z : Str) {c : Nat} (hc : c < 256) : (Txt.split z ⟨#[c]⟩).map (fun w => w.cps.toList) = sp1 c z.cps.toList := by
  have h := TL.split_spl z ⟨#[c]⟩ (by simp [TL.tl]) (TL.kind_ok (by simp [hc]))
  have e : TL.tl ⟨#[c]⟩ = [c] := rfl
  cases e2 : sp1 c z.cps.toList with
  | nil => exact absurd e2 (sp1_ne c _)
  | cons p ps =>
    rw [e, spl_sp1 c _ [] p ps e2] at h
    exact h
theorem sp1_join (c : Nat) : ∀ a : List Nat, TL.joinL [c] (sp1 c a) = a
  | [] => rfl
  | x :: r => by
    unfold sp1
    have ih := sp1_join c r
    cases e2 : sp1 c r with
    | nil => exact absurd e2 (sp1_ne c r)
    | cons p ps =>
      rw [e2] at ih
      split
      · rename_i e
        subst e
        show TL.joinL [x] ([] :: p :: ps) = _
        unfold TL.joinL
        simp [ih]
      · cases ps with
        | nil =>
          unfold TL.joinL at ih ⊢
          simpa using ih
        | cons q qs =>
          unfold TL.joinL at ih ⊢
          simpa using ih
theorem sp1_free (c : Nat) : ∀ a : List Nat, ∀ p ∈ sp1 c a, c ∉ p
  | [], p, m => by
    simp [sp1] at m
    subst m
    simp
  | x :: r, p, m => by
    unfold sp1 at m
    split at m
    · rcases List.mem_cons.mp m with rfl | m
      · simp
      · exact sp1_free c r p m
    · rename_i e
      cases e2 : sp1 c r with
      | nil => exact absurd e2 (sp1_ne c r)
      | cons q qs =>
        rw [e2] at m
        have ih := sp1_free c r
        rw [e2] at ih
        rcases List.mem_cons.mp m with rfl | m
        · intro h
          rcases List.mem_cons.mp h with h | h
          · exact e h.symm
          · exact ih q (List.mem_cons_self ..) h
        · exact ih p (List.mem_cons_of_mem _ m)
/-- all signs of a text's pieces, and one for each cut -/
theorem sp1_sum (c : Nat) : ∀ a : List Nat, ((sp1 c a).map List.length).sum + (sp1 c a).length = a.length + 1
  | [] => rfl
  | x :: r => by
    have ih := sp1_sum c r
    unfold sp1
    split
    · simp only [List.map_cons, List.sum_cons, List.length_cons, List.length_nil]
      omega
    · cases e2 : sp1 c r with
      | nil => exact absurd e2 (sp1_ne c r)
      | cons q qs =>
        rw [e2] at ih
        simp only [List.map_cons, List.sum_cons, List.length_cons] at ih ⊢
        omega
theorem split_sum (z : Str) {c : Nat} (hc : c < 256) : ((Txt.split z ⟨#[c]⟩).map fun w => w.length).sum + (Txt.split z ⟨#[c]⟩).length = z.length + 1 := by
  have h := split1 z hc
  have e : (Txt.split z ⟨#[c]⟩).map (fun w => w.length) = ((Txt.split z ⟨#[c]⟩).map fun w => w.cps.toList).map List.length := by
    rw [List.map_map]
    exact List.map_congr_left fun w _ => len_cps w
  have e2 : (Txt.split z ⟨#[c]⟩).length = ((Txt.split z ⟨#[c]⟩).map fun w => w.cps.toList).length := by rw [List.length_map]
  rw [e, e2, h, sp1_sum, len_cps]
theorem split_ne (z : Str) {c : Nat} (hc : c < 256) : Txt.split z ⟨#[c]⟩ ≠ [] := fun e => by
  have h := split1 z hc
  rw [e] at h
  exact sp1_ne c _ h.symm
theorem sum_mem : ∀ {l : List Nat} {n : Nat}, n ∈ l → n ≤ l.sum
  | [], _, m => nomatch m
  | a :: r, n, m => by
    rw [List.sum_cons]
    rcases List.mem_cons.mp m with rfl | m
    · omega
    · have := sum_mem m
      omega
theorem space_is : (" " : Str) = ⟨#[32]⟩ := by decide +kernel
theorem feed_is : ("\n" : Str) = ⟨#[10]⟩ := by decide +kernel
theorem words_few (z : Str) : (wordsOf z).length ≤ z.length + 1 ∧ (∀ w ∈ wordsOf z, w.length ≤ z.length) ∧ wordsOf z ≠ [] := by
  unfold wordsOf
  rw [space_is]
  have h := split_sum z (c := 32) (by decide)
  refine ⟨by omega, fun w m => ?_, split_ne z (by decide)⟩
  have h2 := sum_mem (List.mem_map.mpr ⟨w, m, rfl⟩ : w.length ∈ (Txt.split z ⟨#[32]⟩).map fun w => w.length)
  have h3 := List.length_pos_iff.mpr (split_ne z (c := 32) (by decide))
  omega
section
variable {P : Program} {w : World} {K : PySem.W.Frag} {mg : Str → Option Value} {base : Heap} {f : Addr} {fd : FuncData}
theorem sc_read_number : FnScope ["word", "letter"] ["word"] (defScope s_read_number) := ⟨rfl, rfl, rfl, by decide +kernel, rfl, by decide +kernel, by decide +kernel⟩
theorem ok_read_number (F : Fun K "read_number" "read_number" s_read_number f fd) (T : Txt0 mg) : FnG P w K mg base 1 f fd ["word"] (spF K spNum) := by
  refine okD F sc_read_number (fun as Q h => by obtain ⟨d, rfl, _⟩ := h; rfl) fun cdv A out s H E hG hr => have hu := units_ofx hr; ⟨_, (dss_cons (ds_if (DW.db (dw_or (db_not (db_chain op_le op_le od_Ib od_Ib de_int (de_len rfl T.m_len (de_v (pv 0))) (de_gInt (by rfl) T.g_MOST_DIGITS))) (dw_or1 (db_not (db_val (de_all rfl rfl T.m_all (DO.d (do_lc (own := [("letter", 1)]) rfl sc_read_number.nd (di_any rfl (de_v (pv 0))) (blkOk_by (N := ["word", "letter"]) (sc := defScope s_read_number) (by decide +kernel)) (fun _ _ _ _ _ => (dg_name (pg_name (i := 1) sc_read_number.nd rfl (.inl rfl)))) (fun _ _ _ _ _ => dts_nil) (fun _ _ _ _ _ => (DE.o (de_cmp op_in_sign od_inS (de_v (pv 1)) de_str (by with_unfolding_all rfl))))))))))))
(dss_one (ds_ret (DE.o de_non)))
dss_nil)
(dss_one (ds_ret (DE.o (de_if (DW.db (dw_or (db_ne rfl hu (de_ixA rfl (de_v (pv 0)) de_int) de_str) (dw_or1 (db_eq rfl hu (de_len rfl T.m_len (de_v (pv 0))) de_int)))) (de_intX T.m_int (de_v (pv 0))) de_non))))), fun as Q h => ?_⟩
  obtain ⟨z, rfl, ok, q⟩ := h
  have hz := big ok
  have hl := len_cps z
  unfold numD figS at q
  repeat' (first | refine ix0T ?_ | refine ix1T ?_ | refine ix2T ?_ | refine ix0L ?_ | refine ix1L ?_ | refine ix2L ?_ | refine ⟨_, rfl, ?_⟩ | refine ⟨_, _, rfl, rfl, (by show (_ : Nat) ≤ sizeLine; first | assumption | exact big (DOk.strLen (by assumption)) | exact big (DOk.tupLen (by assumption)) | exact big (DOk.lstLen (by assumption)) | exact big (DOw.strLen (by assumption)) | exact big (DOw.tupLen (by assumption)) | exact big (DOw.lstLen (by assumption)) | exact big (DOz.strLen (by assumption)) | exact big (DOz.tupLen (by assumption)) | exact big (DOz.lstLen (by assumption))), ?_⟩ | refine ⟨_, _, rfl, rfl, (by first | decide | (show (0 : Int) < _; decide)), ?_⟩ | refine ⟨_, _, rfl, rfl, ?_⟩ | refine eqR_str ?_ | refine eqR_int ?_ | refine neR_str ?_ | refine neR_int ?_ | refine And.intro rfl ?_ | refine addL (by first | assumption | (rw [sizeLine_eq]; omega) | (rw [sizeLine_eq]; simp; done) | (rw [sizeLine_eq]; simp only [List.length_append, List.length_cons, List.length_nil]; omega)) ?_ | refine addT (by first | assumption | (rw [sizeLine_eq]; omega) | (rw [sizeLine_eq]; simp; done) | (rw [sizeLine_eq]; simp only [List.length_append, List.length_cons, List.length_nil]; omega)) ?_ | refine And.intro (by assumption) ?_ | refine And.intro (by decide) ?_ | refine ⟨_, _, rfl, ?_⟩ | refine iteT rfl ?_ | refine iteF Bool.false_ne_true ?_)
  refine iteB (fun e => ?_) (fun e => ?_)
  · have h1 : 1 ≤ z.length := by have := of_decide_eq_true e; omega
    repeat' (first | refine ix0T ?_ | refine ix1T ?_ | refine ix2T ?_ | refine ix0L ?_ | refine ix1L ?_ | refine ix2L ?_ | refine ⟨_, rfl, ?_⟩ | refine ⟨_, _, rfl, rfl, (by show (_ : Nat) ≤ sizeLine; first | assumption | exact big (DOk.strLen (by assumption)) | exact big (DOk.tupLen (by assumption)) | exact big (DOk.lstLen (by assumption)) | exact big (DOw.strLen (by assumption)) | exact big (DOw.tupLen (by assumption)) | exact big (DOw.lstLen (by assumption)) | exact big (DOz.strLen (by assumption)) | exact big (DOz.tupLen (by assumption)) | exact big (DOz.lstLen (by assumption))), ?_⟩ | refine ⟨_, _, rfl, rfl, (by first | decide | (show (0 : Int) < _; decide)), ?_⟩ | refine ⟨_, _, rfl, rfl, ?_⟩ | refine eqR_str ?_ | refine eqR_int ?_ | refine neR_str ?_ | refine neR_int ?_ | refine And.intro rfl ?_ | refine addL (by first | assumption | (rw [sizeLine_eq]; omega) | (rw [sizeLine_eq]; simp; done) | (rw [sizeLine_eq]; simp only [List.length_append, List.length_cons, List.length_nil]; omega)) ?_ | refine addT (by first | assumption | (rw [sizeLine_eq]; omega) | (rw [sizeLine_eq]; simp; done) | (rw [sizeLine_eq]; simp only [List.length_append, List.length_cons, List.length_nil]; omega)) ?_ | refine And.intro (by assumption) ?_ | refine And.intro (by decide) ?_ | refine ⟨_, _, rfl, ?_⟩ | refine iteT rfl ?_ | refine iteF Bool.false_ne_true ?_)
    refine iteB (fun e2 => ?_) (fun e2 => ?_)
    · have h2 : ¬ z.length ≤ 40 := by simp at e2; omega
      have e3 : figL z.cps.toList = false := by
        cases e4 : figL z.cps.toList with
        | false => rfl
        | true => exact absurd (fig_all e4).2.2.1 h2
      rw [e3] at q
      exact q
    have h2 : z.length ≤ 40 := by simp at e2; omega
    obtain ⟨c, r, ez⟩ : ∃ c r, z.cps.toList = c :: r := by
      cases ez : z.cps.toList with
      | nil => rw [ez] at hl; simp at hl; omega
      | cons c r => exact ⟨c, r, rfl⟩
    have hcr : (c :: r).length ≤ 40 := by rw [ez] at hl; omega
    have q1 : Q (O.dat (if ((c :: r).all digC && (decide (c ≠ 48) || decide (r = []))) = true then .int (valS z) else .none)) := by
      have e9 : figL z.cps.toList = ((c :: r).all digC && (decide (c ≠ 48) || decide (r = []))) := by
        rw [ez]
        show (decide ((c :: r).length ≤ 40) && _) = _
        rw [decide_eq_true hcr, Bool.true_and]
      rw [e9] at q
      exact q
    repeat' (first | refine ix0T ?_ | refine ix1T ?_ | refine ix2T ?_ | refine ix0L ?_ | refine ix1L ?_ | refine ix2L ?_ | refine ⟨_, rfl, ?_⟩ | refine ⟨_, _, rfl, rfl, (by show (_ : Nat) ≤ sizeLine; first | assumption | exact big (DOk.strLen (by assumption)) | exact big (DOk.tupLen (by assumption)) | exact big (DOk.lstLen (by assumption)) | exact big (DOw.strLen (by assumption)) | exact big (DOw.tupLen (by assumption)) | exact big (DOw.lstLen (by assumption)) | exact big (DOz.strLen (by assumption)) | exact big (DOz.tupLen (by assumption)) | exact big (DOz.lstLen (by assumption))), ?_⟩ | refine ⟨_, _, rfl, rfl, (by first | decide | (show (0 : Int) < _; decide)), ?_⟩ | refine ⟨_, _, rfl, rfl, ?_⟩ | refine eqR_str ?_ | refine eqR_int ?_ | refine neR_str ?_ | refine neR_int ?_ | refine And.intro rfl ?_ | refine addL (by first | assumption | (rw [sizeLine_eq]; omega) | (rw [sizeLine_eq]; simp; done) | (rw [sizeLine_eq]; simp only [List.length_append, List.length_cons, List.length_nil]; omega)) ?_ | refine addT (by first | assumption | (rw [sizeLine_eq]; omega) | (rw [sizeLine_eq]; simp; done) | (rw [sizeLine_eq]; simp only [List.length_append, List.length_cons, List.length_nil]; omega)) ?_ | refine And.intro (by assumption) ?_ | refine And.intro (by decide) ?_ | refine ⟨_, _, rfl, ?_⟩ | refine iteT rfl ?_ | refine iteF Bool.false_ne_true ?_)
    refine lc_maps (fun c => PyData.str (signS c)) z.cps.toList (fun _ => true) (fun c => .dat (.bool (digC c))) (big' ok) (fun c hc yes no y1 y2 => ?_) ?_
    · have y := y1 rfl
      repeat' (first | refine ix0T ?_ | refine ix1T ?_ | refine ix2T ?_ | refine ix0L ?_ | refine ix1L ?_ | refine ix2L ?_ | refine ⟨_, rfl, ?_⟩ | refine ⟨_, _, rfl, rfl, (by show (_ : Nat) ≤ sizeLine; first | assumption | exact big (DOk.strLen (by assumption)) | exact big (DOk.tupLen (by assumption)) | exact big (DOk.lstLen (by assumption)) | exact big (DOw.strLen (by assumption)) | exact big (DOw.tupLen (by assumption)) | exact big (DOw.lstLen (by assumption)) | exact big (DOz.strLen (by assumption)) | exact big (DOz.tupLen (by assumption)) | exact big (DOz.lstLen (by assumption))), ?_⟩ | refine ⟨_, _, rfl, rfl, (by first | decide | (show (0 : Int) < _; decide)), ?_⟩ | refine ⟨_, _, rfl, rfl, ?_⟩ | refine eqR_str ?_ | refine eqR_int ?_ | refine neR_str ?_ | refine neR_int ?_ | refine And.intro rfl ?_ | refine addL (by first | assumption | (rw [sizeLine_eq]; omega) | (rw [sizeLine_eq]; simp; done) | (rw [sizeLine_eq]; simp only [List.length_append, List.length_cons, List.length_nil]; omega)) ?_ | refine addT (by first | assumption | (rw [sizeLine_eq]; omega) | (rw [sizeLine_eq]; simp; done) | (rw [sizeLine_eq]; simp only [List.length_append, List.length_cons, List.length_nil]; omega)) ?_ | refine And.intro (by assumption) ?_ | refine And.intro (by decide) ?_ | refine ⟨_, _, rfl, ?_⟩ | refine iteT rfl ?_ | refine iteF Bool.false_ne_true ?_)
      rw [dig_in]
      exact y
    · rw [List.filter_eq_self.mpr fun _ _ => rfl]
      refine ⟨z.cps.toList.map digC, ?_, ?_⟩
      · rw [erase_map, List.map_map]
        rfl
      have e5 : (z.cps.toList.map digC).all id = (c :: r).all digC := by rw [List.all_map, ez]; rfl
      rw [e5]
      repeat' (first | refine ix0T ?_ | refine ix1T ?_ | refine ix2T ?_ | refine ix0L ?_ | refine ix1L ?_ | refine ix2L ?_ | refine ⟨_, rfl, ?_⟩ | refine ⟨_, _, rfl, rfl, (by show (_ : Nat) ≤ sizeLine; first | assumption | exact big (DOk.strLen (by assumption)) | exact big (DOk.tupLen (by assumption)) | exact big (DOk.lstLen (by assumption)) | exact big (DOw.strLen (by assumption)) | exact big (DOw.tupLen (by assumption)) | exact big (DOw.lstLen (by assumption)) | exact big (DOz.strLen (by assumption)) | exact big (DOz.tupLen (by assumption)) | exact big (DOz.lstLen (by assumption))), ?_⟩ | refine ⟨_, _, rfl, rfl, (by first | decide | (show (0 : Int) < _; decide)), ?_⟩ | refine ⟨_, _, rfl, rfl, ?_⟩ | refine eqR_str ?_ | refine eqR_int ?_ | refine neR_str ?_ | refine neR_int ?_ | refine And.intro rfl ?_ | refine addL (by first | assumption | (rw [sizeLine_eq]; omega) | (rw [sizeLine_eq]; simp; done) | (rw [sizeLine_eq]; simp only [List.length_append, List.length_cons, List.length_nil]; omega)) ?_ | refine addT (by first | assumption | (rw [sizeLine_eq]; omega) | (rw [sizeLine_eq]; simp; done) | (rw [sizeLine_eq]; simp only [List.length_append, List.length_cons, List.length_nil]; omega)) ?_ | refine And.intro (by assumption) ?_ | refine And.intro (by decide) ?_ | refine ⟨_, _, rfl, ?_⟩ | refine iteT rfl ?_ | refine iteF Bool.false_ne_true ?_)
      refine iteB (fun e3 => ?_) (fun e3 => ?_)
      · have e4 : (c :: r).all digC = false := by rw [Bool.not_eq_true'] at e3; exact e3
        rw [e4, Bool.false_and] at q1
        exact q1
      have e4 : (c :: r).all digC = true := by rw [Bool.not_eq_false'] at e3; exact e3
      rw [e4, Bool.true_and] at q1
      repeat' (first | refine ix0T ?_ | refine ix1T ?_ | refine ix2T ?_ | refine ix0L ?_ | refine ix1L ?_ | refine ix2L ?_ | refine ⟨_, rfl, ?_⟩ | refine ⟨_, _, rfl, rfl, (by show (_ : Nat) ≤ sizeLine; first | assumption | exact big (DOk.strLen (by assumption)) | exact big (DOk.tupLen (by assumption)) | exact big (DOk.lstLen (by assumption)) | exact big (DOw.strLen (by assumption)) | exact big (DOw.tupLen (by assumption)) | exact big (DOw.lstLen (by assumption)) | exact big (DOz.strLen (by assumption)) | exact big (DOz.tupLen (by assumption)) | exact big (DOz.lstLen (by assumption))), ?_⟩ | refine ⟨_, _, rfl, rfl, (by first | decide | (show (0 : Int) < _; decide)), ?_⟩ | refine ⟨_, _, rfl, rfl, ?_⟩ | refine eqR_str ?_ | refine eqR_int ?_ | refine neR_str ?_ | refine neR_int ?_ | refine And.intro rfl ?_ | refine addL (by first | assumption | (rw [sizeLine_eq]; omega) | (rw [sizeLine_eq]; simp; done) | (rw [sizeLine_eq]; simp only [List.length_append, List.length_cons, List.length_nil]; omega)) ?_ | refine addT (by first | assumption | (rw [sizeLine_eq]; omega) | (rw [sizeLine_eq]; simp; done) | (rw [sizeLine_eq]; simp only [List.length_append, List.length_cons, List.length_nil]; omega)) ?_ | refine And.intro (by assumption) ?_ | refine And.intro (by decide) ?_ | refine ⟨_, _, rfl, ?_⟩ | refine iteT rfl ?_ | refine iteF Bool.false_ne_true ?_)
      refine ⟨.str (signS c), by unfold ixD; simp only []; rw [if_pos hz, ez, at0]; rfl, ?_⟩
      repeat' (first | refine ix0T ?_ | refine ix1T ?_ | refine ix2T ?_ | refine ix0L ?_ | refine ix1L ?_ | refine ix2L ?_ | refine ⟨_, rfl, ?_⟩ | refine ⟨_, _, rfl, rfl, (by show (_ : Nat) ≤ sizeLine; first | assumption | exact big (DOk.strLen (by assumption)) | exact big (DOk.tupLen (by assumption)) | exact big (DOk.lstLen (by assumption)) | exact big (DOw.strLen (by assumption)) | exact big (DOw.tupLen (by assumption)) | exact big (DOw.lstLen (by assumption)) | exact big (DOz.strLen (by assumption)) | exact big (DOz.tupLen (by assumption)) | exact big (DOz.lstLen (by assumption))), ?_⟩ | refine ⟨_, _, rfl, rfl, (by first | decide | (show (0 : Int) < _; decide)), ?_⟩ | refine ⟨_, _, rfl, rfl, ?_⟩ | refine eqR_str ?_ | refine eqR_int ?_ | refine neR_str ?_ | refine neR_int ?_ | refine And.intro rfl ?_ | refine addL (by first | assumption | (rw [sizeLine_eq]; omega) | (rw [sizeLine_eq]; simp; done) | (rw [sizeLine_eq]; simp only [List.length_append, List.length_cons, List.length_nil]; omega)) ?_ | refine addT (by first | assumption | (rw [sizeLine_eq]; omega) | (rw [sizeLine_eq]; simp; done) | (rw [sizeLine_eq]; simp only [List.length_append, List.length_cons, List.length_nil]; omega)) ?_ | refine And.intro (by assumption) ?_ | refine And.intro (by decide) ?_ | refine ⟨_, _, rfl, ?_⟩ | refine iteT rfl ?_ | refine iteF Bool.false_ne_true ?_)
      refine iteB (fun e6 => ?_) (fun e6 => ?_)
      · have h6 : c ≠ 48 := fun e => by rw [e, sign48] at e6; simp at e6
        have hf : figS z = true := by unfold figS; rw [ez]; show (decide ((c :: r).length ≤ 40) && ((c :: r).all digC && (decide (c ≠ 48) || decide (r = [])))) = true; rw [decide_eq_true hcr, e4, decide_eq_true h6]; rfl
        rw [decide_eq_true h6, Bool.true_or, if_pos rfl] at q1
        refine ⟨_, rfl, _, rfl, .inr ⟨z, valS z, rfl, fig_int hf, by omega, q1⟩⟩
      have h6 : c = 48 := by
        by_cases e : c = 48
        · exact e
        · have : signS c ≠ ("0" : Str) := fun x => e (sign48' x)
          rw [decide_eq_false this] at e6
          cases e6
      rw [decide_eq_false (fun x => x h6), Bool.false_or] at q1
      repeat' (first | refine ix0T ?_ | refine ix1T ?_ | refine ix2T ?_ | refine ix0L ?_ | refine ix1L ?_ | refine ix2L ?_ | refine ⟨_, rfl, ?_⟩ | refine ⟨_, _, rfl, rfl, (by show (_ : Nat) ≤ sizeLine; first | assumption | exact big (DOk.strLen (by assumption)) | exact big (DOk.tupLen (by assumption)) | exact big (DOk.lstLen (by assumption)) | exact big (DOw.strLen (by assumption)) | exact big (DOw.tupLen (by assumption)) | exact big (DOw.lstLen (by assumption)) | exact big (DOz.strLen (by assumption)) | exact big (DOz.tupLen (by assumption)) | exact big (DOz.lstLen (by assumption))), ?_⟩ | refine ⟨_, _, rfl, rfl, (by first | decide | (show (0 : Int) < _; decide)), ?_⟩ | refine ⟨_, _, rfl, rfl, ?_⟩ | refine eqR_str ?_ | refine eqR_int ?_ | refine neR_str ?_ | refine neR_int ?_ | refine And.intro rfl ?_ | refine addL (by first | assumption | (rw [sizeLine_eq]; omega) | (rw [sizeLine_eq]; simp; done) | (rw [sizeLine_eq]; simp only [List.length_append, List.length_cons, List.length_nil]; omega)) ?_ | refine addT (by first | assumption | (rw [sizeLine_eq]; omega) | (rw [sizeLine_eq]; simp; done) | (rw [sizeLine_eq]; simp only [List.length_append, List.length_cons, List.length_nil]; omega)) ?_ | refine And.intro (by assumption) ?_ | refine And.intro (by decide) ?_ | refine ⟨_, _, rfl, ?_⟩ | refine iteT rfl ?_ | refine iteF Bool.false_ne_true ?_)
      refine iteB (fun e7 => ?_) (fun e7 => ?_)
      · have h7 : r = [] := by
          have h8 : z.length = 1 := by have := of_decide_eq_true e7; omega
          rw [hl, ez] at h8
          exact List.length_eq_zero_iff.mp (by simpa using h8)
        have hf : figS z = true := by unfold figS; rw [ez]; show (decide ((c :: r).length ≤ 40) && ((c :: r).all digC && (decide (c ≠ 48) || decide (r = [])))) = true; rw [decide_eq_true hcr, e4, decide_eq_true h7, Bool.or_true]; rfl
        rw [decide_eq_true h7, if_pos rfl] at q1
        refine ⟨_, rfl, _, rfl, .inr ⟨z, valS z, rfl, fig_int hf, by omega, q1⟩⟩
      · have h7 : r ≠ [] := fun x => by
          have h8 : ¬ z.length = 1 := by have := of_decide_eq_false e7; omega
          rw [hl, ez, x] at h8
          exact h8 rfl
        rw [decide_eq_false h7, if_neg Bool.false_ne_true] at q1
        exact q1
  · have e3 : figL z.cps.toList = false := by
      cases e4 : figL z.cps.toList with
      | false => rfl
      | true =>
        have h1 : ¬ 1 ≤ z.length := by have := of_decide_eq_false e; omega
        have h2 := (fig_all e4).2.1
        rw [hl] at h1
        exact absurd (List.length_pos_iff.mpr h2) h1
    rw [e3] at q
    exact q
theorem sc_read_part : FnScope ["word", "number"] ["word"] (defScope s_read_part) := ⟨rfl, rfl, rfl, by decide +kernel, rfl, by decide +kernel, by decide +kernel⟩
theorem ok_read_part (F : Fun K "read_part" "read_part" s_read_part f fd) (T : Txt0 mg) (TK : TxtK K w mg) (c_num : ClG P w K mg base 1 "read_number" (spF K spNum)) : FnG P w K mg base 2 f fd ["word"] (spF K spPart) := by
  refine okD F sc_read_part (fun as Q h => by obtain ⟨d, rfl, _⟩ := h; rfl) fun cdv A out s H E hG hr => have hu := units_ofx hr; ⟨_, (dss_cons (ds_set (i := 1) sc_read_part.nd rfl (.inl rfl) (do_call rfl c_num hG hr (by omega) (by rfl) (dr_cons (de_v (pv 0)) dr_nil)))
(dss_cons (ds_if (db_cmp op_isN od_isN (de_v (pv 1)) de_non (nomark _))
(dss_one (ds_ret (DE.o (de_if (db_eq rfl hu (de_v (pv 0)) (de_gStr (by rfl) TK.g_NO_TARGET)) de_str (de_v (pv 0))))))
dss_nil)
(dss_one (ds_ret (DE.o (de_v (pv 1))))))), fun as Q h => ?_⟩
  obtain ⟨z, rfl, ok, q⟩ := h
  refine ⟨_, rfl, z, rfl, ok, ?_⟩
  unfold partD at q
  unfold numD
  by_cases hf : figS z = true
  · rw [if_pos hf] at q
    rw [if_pos hf]
    repeat' (first | refine ix0T ?_ | refine ix1T ?_ | refine ix2T ?_ | refine ix0L ?_ | refine ix1L ?_ | refine ix2L ?_ | refine ⟨_, rfl, ?_⟩ | refine ⟨_, _, rfl, rfl, (by show (_ : Nat) ≤ sizeLine; first | assumption | exact big (DOk.strLen (by assumption)) | exact big (DOk.tupLen (by assumption)) | exact big (DOk.lstLen (by assumption)) | exact big (DOw.strLen (by assumption)) | exact big (DOw.tupLen (by assumption)) | exact big (DOw.lstLen (by assumption)) | exact big (DOz.strLen (by assumption)) | exact big (DOz.tupLen (by assumption)) | exact big (DOz.lstLen (by assumption))), ?_⟩ | refine ⟨_, _, rfl, rfl, (by first | decide | (show (0 : Int) < _; decide)), ?_⟩ | refine ⟨_, _, rfl, rfl, ?_⟩ | refine eqR_str ?_ | refine eqR_int ?_ | refine neR_str ?_ | refine neR_int ?_ | refine And.intro rfl ?_ | refine addL (by first | assumption | (rw [sizeLine_eq]; omega) | (rw [sizeLine_eq]; simp; done) | (rw [sizeLine_eq]; simp only [List.length_append, List.length_cons, List.length_nil]; omega)) ?_ | refine addT (by first | assumption | (rw [sizeLine_eq]; omega) | (rw [sizeLine_eq]; simp; done) | (rw [sizeLine_eq]; simp only [List.length_append, List.length_cons, List.length_nil]; omega)) ?_ | refine And.intro (by assumption) ?_ | refine And.intro (by decide) ?_ | refine ⟨_, _, rfl, ?_⟩ | refine iteT rfl ?_ | refine iteF Bool.false_ne_true ?_)
    exact q
  · rw [if_neg hf] at q
    rw [if_neg hf]
    repeat' (first | refine ix0T ?_ | refine ix1T ?_ | refine ix2T ?_ | refine ix0L ?_ | refine ix1L ?_ | refine ix2L ?_ | refine ⟨_, rfl, ?_⟩ | refine ⟨_, _, rfl, rfl, (by show (_ : Nat) ≤ sizeLine; first | assumption | exact big (DOk.strLen (by assumption)) | exact big (DOk.tupLen (by assumption)) | exact big (DOk.lstLen (by assumption)) | exact big (DOw.strLen (by assumption)) | exact big (DOw.tupLen (by assumption)) | exact big (DOw.lstLen (by assumption)) | exact big (DOz.strLen (by assumption)) | exact big (DOz.tupLen (by assumption)) | exact big (DOz.lstLen (by assumption))), ?_⟩ | refine ⟨_, _, rfl, rfl, (by first | decide | (show (0 : Int) < _; decide)), ?_⟩ | refine ⟨_, _, rfl, rfl, ?_⟩ | refine eqR_str ?_ | refine eqR_int ?_ | refine neR_str ?_ | refine neR_int ?_ | refine And.intro rfl ?_ | refine addL (by first | assumption | (rw [sizeLine_eq]; omega) | (rw [sizeLine_eq]; simp; done) | (rw [sizeLine_eq]; simp only [List.length_append, List.length_cons, List.length_nil]; omega)) ?_ | refine addT (by first | assumption | (rw [sizeLine_eq]; omega) | (rw [sizeLine_eq]; simp; done) | (rw [sizeLine_eq]; simp only [List.length_append, List.length_cons, List.length_nil]; omega)) ?_ | refine And.intro (by assumption) ?_ | refine And.intro (by decide) ?_ | refine ⟨_, _, rfl, ?_⟩ | refine iteT rfl ?_ | refine iteF Bool.false_ne_true ?_)
    by_cases hd : z = "-"
    · rw [if_pos hd] at q
      refine iteB (fun e => ?_) (fun e => absurd hd (of_decide_eq_false e))
      exact q
    · rw [if_neg hd] at q
      refine iteB (fun e => absurd (of_decide_eq_true e) hd) (fun e => ?_)
      repeat' (first | refine ix0T ?_ | refine ix1T ?_ | refine ix2T ?_ | refine ix0L ?_ | refine ix1L ?_ | refine ix2L ?_ | refine ⟨_, rfl, ?_⟩ | refine ⟨_, _, rfl, rfl, (by show (_ : Nat) ≤ sizeLine; first | assumption | exact big (DOk.strLen (by assumption)) | exact big (DOk.tupLen (by assumption)) | exact big (DOk.lstLen (by assumption)) | exact big (DOw.strLen (by assumption)) | exact big (DOw.tupLen (by assumption)) | exact big (DOw.lstLen (by assumption)) | exact big (DOz.strLen (by assumption)) | exact big (DOz.tupLen (by assumption)) | exact big (DOz.lstLen (by assumption))), ?_⟩ | refine ⟨_, _, rfl, rfl, (by first | decide | (show (0 : Int) < _; decide)), ?_⟩ | refine ⟨_, _, rfl, rfl, ?_⟩ | refine eqR_str ?_ | refine eqR_int ?_ | refine neR_str ?_ | refine neR_int ?_ | refine And.intro rfl ?_ | refine addL (by first | assumption | (rw [sizeLine_eq]; omega) | (rw [sizeLine_eq]; simp; done) | (rw [sizeLine_eq]; simp only [List.length_append, List.length_cons, List.length_nil]; omega)) ?_ | refine addT (by first | assumption | (rw [sizeLine_eq]; omega) | (rw [sizeLine_eq]; simp; done) | (rw [sizeLine_eq]; simp only [List.length_append, List.length_cons, List.length_nil]; omega)) ?_ | refine And.intro (by assumption) ?_ | refine And.intro (by decide) ?_ | refine ⟨_, _, rfl, ?_⟩ | refine iteT rfl ?_ | refine iteF Bool.false_ne_true ?_)
      exact q
theorem sc_read_words : FnScope ["line", "word"] ["line"] (defScope s_read_words) := ⟨rfl, rfl, rfl, by decide +kernel, rfl, by decide +kernel, by decide +kernel⟩
theorem ok_read_words (F : Fun K "read_words" "read_words" s_read_words f fd) (T : Txt0 mg) (c_part : ClG P w K mg base 2 "read_part" (spF K spPart)) : FnG P w K mg base 3 f fd ["line"] (spF K spWords) := by
  refine okD F sc_read_words (fun as Q h => by obtain ⟨d, rfl, _⟩ := h; rfl) fun cdv A out s H E hG hr => have hu := units_ofx hr; ⟨_, (dss_one (ds_ret (DE.o (de_tuple rfl T.m_tuple (DO.d (do_lc (own := [("word", 1)]) rfl sc_read_words.nd (di_any rfl (DO.d (do_split (de_v (pv 0)) de_str))) (blkOk_by (N := ["line", "word"]) (sc := defScope s_read_words) (by decide +kernel)) (fun _ _ _ _ _ => (dg_name (pg_name (i := 1) sc_read_words.nd rfl (.inl rfl)))) (fun _ _ _ _ _ => dts_nil) (fun _ _ _ _ _ => (do_call rfl c_part hG hr (by omega) (by rfl) (dr_cons (de_v (pv 1)) dr_nil))))))))), fun as Q h => ?_⟩
  obtain ⟨z, rfl, ok, q⟩ := h
  have hw := words_few z
  have hl : (wordsOf z).length < sizeLine := by rw [sizeLine_eq]; omega
  refine ⟨_, rfl, z, rfl, _, rfl, rfl, by rw [sizeLine_eq]; omega, ?_⟩
  repeat' (first | refine ix0T ?_ | refine ix1T ?_ | refine ix2T ?_ | refine ix0L ?_ | refine ix1L ?_ | refine ix2L ?_ | refine ⟨_, rfl, ?_⟩ | refine ⟨_, _, rfl, rfl, (by show (_ : Nat) ≤ sizeLine; first | assumption | exact big (DOk.strLen (by assumption)) | exact big (DOk.tupLen (by assumption)) | exact big (DOk.lstLen (by assumption)) | exact big (DOw.strLen (by assumption)) | exact big (DOw.tupLen (by assumption)) | exact big (DOw.lstLen (by assumption)) | exact big (DOz.strLen (by assumption)) | exact big (DOz.tupLen (by assumption)) | exact big (DOz.lstLen (by assumption))), ?_⟩ | refine ⟨_, _, rfl, rfl, (by first | decide | (show (0 : Int) < _; decide)), ?_⟩ | refine ⟨_, _, rfl, rfl, ?_⟩ | refine eqR_str ?_ | refine eqR_int ?_ | refine neR_str ?_ | refine neR_int ?_ | refine And.intro rfl ?_ | refine addL (by first | assumption | (rw [sizeLine_eq]; omega) | (rw [sizeLine_eq]; simp; done) | (rw [sizeLine_eq]; simp only [List.length_append, List.length_cons, List.length_nil]; omega)) ?_ | refine addT (by first | assumption | (rw [sizeLine_eq]; omega) | (rw [sizeLine_eq]; simp; done) | (rw [sizeLine_eq]; simp only [List.length_append, List.length_cons, List.length_nil]; omega)) ?_ | refine And.intro (by assumption) ?_ | refine And.intro (by decide) ?_ | refine ⟨_, _, rfl, ?_⟩ | refine iteT rfl ?_ | refine iteF Bool.false_ne_true ?_)
  rw [era_dat]
  refine lc_maps (fun w => PyData.str w) (wordsOf z) (fun _ => true) (fun w => .dat (partD w)) hl (fun w hw2 yes no y1 y2 => ?_) ?_
  · have y := y1 rfl
    repeat' (first | refine ix0T ?_ | refine ix1T ?_ | refine ix2T ?_ | refine ix0L ?_ | refine ix1L ?_ | refine ix2L ?_ | refine ⟨_, rfl, ?_⟩ | refine ⟨_, _, rfl, rfl, (by show (_ : Nat) ≤ sizeLine; first | assumption | exact big (DOk.strLen (by assumption)) | exact big (DOk.tupLen (by assumption)) | exact big (DOk.lstLen (by assumption)) | exact big (DOw.strLen (by assumption)) | exact big (DOw.tupLen (by assumption)) | exact big (DOw.lstLen (by assumption)) | exact big (DOz.strLen (by assumption)) | exact big (DOz.tupLen (by assumption)) | exact big (DOz.lstLen (by assumption))), ?_⟩ | refine ⟨_, _, rfl, rfl, (by first | decide | (show (0 : Int) < _; decide)), ?_⟩ | refine ⟨_, _, rfl, rfl, ?_⟩ | refine eqR_str ?_ | refine eqR_int ?_ | refine neR_str ?_ | refine neR_int ?_ | refine And.intro rfl ?_ | refine addL (by first | assumption | (rw [sizeLine_eq]; omega) | (rw [sizeLine_eq]; simp; done) | (rw [sizeLine_eq]; simp only [List.length_append, List.length_cons, List.length_nil]; omega)) ?_ | refine addT (by first | assumption | (rw [sizeLine_eq]; omega) | (rw [sizeLine_eq]; simp; done) | (rw [sizeLine_eq]; simp only [List.length_append, List.length_cons, List.length_nil]; omega)) ?_ | refine And.intro (by assumption) ?_ | refine And.intro (by decide) ?_ | refine ⟨_, _, rfl, ?_⟩ | refine iteT rfl ?_ | refine iteF Bool.false_ne_true ?_)
    exact ⟨by have := hw.2.1 w hw2; omega, y⟩
  · rw [List.filter_eq_self.mpr fun _ _ => rfl]
    refine ⟨_, (wordsOf z).map partD, rfl, ?_, q⟩
    rw [erase_map]
    rfl
end
end K96
set_option Elab.async false
set_option linter.all false
set_option maxRecDepth 100000
set_option maxHeartbeats 1000000
set_option pp.maxSteps 500
/-! K96e: how a run is shown -/
namespace K96
open PySem PySem.Spec PyProof.Rows L2 GL DL
def showP : PyData → Str
  | .int i => Str.ofString (toString i)
  | .str z => if z = "" then "-" else z
  | _ => ""
def PartS : PyData → Prop
  | .int i => i.natAbs.log2 < 1920
  | .str _ => True
  | _ => False
def showT (ds : List PyData) : Str := Txt.join " " (ds.map showP)
def feedsT (zs : List Str) : Str := Txt.join "" (zs.map fun z => z ++ "\n")
def spShow : DSp := fun as P => ∃ ds, as = [.d (.tuple ds)] ∧ (∀ d ∈ ds, PartS d) ∧ (ds.map fun d => (showP d).length).sum + ds.length ≤ 200000 ∧ P (.dat (.str (showT ds)))
def spFeeds : DSp := fun as P => ∃ zs : List Str, as = [.d (.list (zs.map .str))] ∧ (zs.map fun z => z.length).sum + 2 * zs.length ≤ 1000000 ∧ P (.dat (.str (feedsT zs)))
def ShowOk (ds : List PyData) : Prop := (∀ d ∈ ds, PartS d) ∧ (ds.map fun d => (showP d).length).sum + ds.length ≤ 200000
def spRun : DSp := fun as P => ∃ rs : List (List PyData), as = [.d (.list (rs.map .tuple))] ∧ (∀ r ∈ rs, ShowOk r) ∧ ((rs.map showT).map fun z => z.length).sum + 2 * (rs.map showT).length ≤ 1000000 ∧ P (.dat (.str (feedsT (rs.map showT))))
section
variable {P : Program} {w : World} {K : PySem.W.Frag} {mg : Str → Option Value} {base : Heap} {f : Addr} {fd : FuncData}
theorem sc_show_words : FnScope ["parts", "part"] ["parts"] (defScope s_show_words) := ⟨rfl, rfl, rfl, by decide +kernel, rfl, by decide +kernel, by decide +kernel⟩
theorem ok_show_words (F : Fun K "show_words" "show_words" s_show_words f fd) (T : Txt0 mg) (TK : TxtK K w mg) : FnG P w K mg base 1 f fd ["parts"] (spF K spShow) := by
  refine okD F sc_show_words (fun as Q h => by obtain ⟨d, rfl, _⟩ := h; rfl) fun cdv A out s H E hG hr => have hu := units_ofx hr; ⟨_, (dss_one (ds_ret (DE.o (de_join rfl de_str (DO.d (do_lc (own := [("part", 1)]) rfl sc_show_words.nd (di_any rfl (de_v (pv 0))) (blkOk_by (N := ["parts", "part"]) (sc := defScope s_show_words) (by decide +kernel)) (fun _ _ _ _ _ => (dg_name (pg_name (i := 1) sc_show_words.nd rfl (.inl rfl)))) (fun _ _ _ _ _ => dts_nil) (fun _ _ _ _ _ => (DE.o (de_if (db_eq rfl hu (de_v (pv 1)) de_str) (de_gStr (by rfl) TK.g_NO_TARGET) (de_strX T.m_str (de_v (pv 1)))))))))))), fun as Q h => ?_⟩
  obtain ⟨ds, rfl, ok, hb, q⟩ := h
  refine ⟨_, rfl, _, rfl, ds, rfl, ?_⟩
  refine lc_map (fun d => .dat (.str (showP d))) (by rw [sizeLine_eq]; omega) (fun d hd yes no y => ?_) ?_
  · have okd := ok d hd
    cases d <;> (first | exact okd.elim | skip)
    · rename_i i
      repeat' (first | refine ix0T ?_ | refine ix1T ?_ | refine ix2T ?_ | refine ix0L ?_ | refine ix1L ?_ | refine ix2L ?_ | refine ⟨_, rfl, ?_⟩ | refine ⟨_, _, rfl, rfl, (by show (_ : Nat) ≤ sizeLine; first | assumption | exact big (DOk.strLen (by assumption)) | exact big (DOk.tupLen (by assumption)) | exact big (DOk.lstLen (by assumption)) | exact big (DOw.strLen (by assumption)) | exact big (DOw.tupLen (by assumption)) | exact big (DOw.lstLen (by assumption)) | exact big (DOz.strLen (by assumption)) | exact big (DOz.tupLen (by assumption)) | exact big (DOz.lstLen (by assumption))), ?_⟩ | refine ⟨_, _, rfl, rfl, (by first | decide | (show (0 : Int) < _; decide)), ?_⟩ | refine ⟨_, _, rfl, rfl, ?_⟩ | refine eqR_str ?_ | refine eqR_int ?_ | refine neR_str ?_ | refine neR_int ?_ | refine And.intro rfl ?_ | refine addL (by first | assumption | (rw [sizeLine_eq]; omega) | (rw [sizeLine_eq]; simp; done) | (rw [sizeLine_eq]; simp only [List.length_append, List.length_cons, List.length_nil]; omega)) ?_ | refine addT (by first | assumption | (rw [sizeLine_eq]; omega) | (rw [sizeLine_eq]; simp; done) | (rw [sizeLine_eq]; simp only [List.length_append, List.length_cons, List.length_nil]; omega)) ?_ | refine And.intro (by assumption) ?_ | refine And.intro (by decide) ?_ | refine ⟨_, _, rfl, ?_⟩ | refine iteT rfl ?_ | refine iteF Bool.false_ne_true ?_)
      refine eqR_dat rfl rfl rfl (by decide +kernel) ?_
      repeat' (first | refine ix0T ?_ | refine ix1T ?_ | refine ix2T ?_ | refine ix0L ?_ | refine ix1L ?_ | refine ix2L ?_ | refine ⟨_, rfl, ?_⟩ | refine ⟨_, _, rfl, rfl, (by show (_ : Nat) ≤ sizeLine; first | assumption | exact big (DOk.strLen (by assumption)) | exact big (DOk.tupLen (by assumption)) | exact big (DOk.lstLen (by assumption)) | exact big (DOw.strLen (by assumption)) | exact big (DOw.tupLen (by assumption)) | exact big (DOw.lstLen (by assumption)) | exact big (DOz.strLen (by assumption)) | exact big (DOz.tupLen (by assumption)) | exact big (DOz.lstLen (by assumption))), ?_⟩ | refine ⟨_, _, rfl, rfl, (by first | decide | (show (0 : Int) < _; decide)), ?_⟩ | refine ⟨_, _, rfl, rfl, ?_⟩ | refine eqR_str ?_ | refine eqR_int ?_ | refine neR_str ?_ | refine neR_int ?_ | refine And.intro rfl ?_ | refine addL (by first | assumption | (rw [sizeLine_eq]; omega) | (rw [sizeLine_eq]; simp; done) | (rw [sizeLine_eq]; simp only [List.length_append, List.length_cons, List.length_nil]; omega)) ?_ | refine addT (by first | assumption | (rw [sizeLine_eq]; omega) | (rw [sizeLine_eq]; simp; done) | (rw [sizeLine_eq]; simp only [List.length_append, List.length_cons, List.length_nil]; omega)) ?_ | refine And.intro (by assumption) ?_ | refine And.intro (by decide) ?_ | refine ⟨_, _, rfl, ?_⟩ | refine iteT rfl ?_ | refine iteF Bool.false_ne_true ?_)
      exact ⟨_, _, rfl, if_pos okd, y⟩
    · rename_i z
      repeat' (first | refine ix0T ?_ | refine ix1T ?_ | refine ix2T ?_ | refine ix0L ?_ | refine ix1L ?_ | refine ix2L ?_ | refine ⟨_, rfl, ?_⟩ | refine ⟨_, _, rfl, rfl, (by show (_ : Nat) ≤ sizeLine; first | assumption | exact big (DOk.strLen (by assumption)) | exact big (DOk.tupLen (by assumption)) | exact big (DOk.lstLen (by assumption)) | exact big (DOw.strLen (by assumption)) | exact big (DOw.tupLen (by assumption)) | exact big (DOw.lstLen (by assumption)) | exact big (DOz.strLen (by assumption)) | exact big (DOz.tupLen (by assumption)) | exact big (DOz.lstLen (by assumption))), ?_⟩ | refine ⟨_, _, rfl, rfl, (by first | decide | (show (0 : Int) < _; decide)), ?_⟩ | refine ⟨_, _, rfl, rfl, ?_⟩ | refine eqR_str ?_ | refine eqR_int ?_ | refine neR_str ?_ | refine neR_int ?_ | refine And.intro rfl ?_ | refine addL (by first | assumption | (rw [sizeLine_eq]; omega) | (rw [sizeLine_eq]; simp; done) | (rw [sizeLine_eq]; simp only [List.length_append, List.length_cons, List.length_nil]; omega)) ?_ | refine addT (by first | assumption | (rw [sizeLine_eq]; omega) | (rw [sizeLine_eq]; simp; done) | (rw [sizeLine_eq]; simp only [List.length_append, List.length_cons, List.length_nil]; omega)) ?_ | refine And.intro (by assumption) ?_ | refine And.intro (by decide) ?_ | refine ⟨_, _, rfl, ?_⟩ | refine iteT rfl ?_ | refine iteF Bool.false_ne_true ?_)
      refine iteB (fun e => ?_) (fun e => ?_)
      · have e2 : showP (.str z) = "-" := if_pos (of_decide_eq_true e)
        rw [e2] at y
        exact y
      · have e2 : showP (.str z) = z := if_neg (of_decide_eq_false e)
        rw [e2] at y
        exact ⟨_, rfl, _, _, rfl, rfl, y⟩
  · refine ⟨ds.map showP, ?_, ?_, q⟩
    · rw [erase_map, List.map_map]
      rfl
    · rw [List.map_map, List.length_map]
      have e1 : (" " : Str).length = 1 := by decide +kernel
      rw [e1]
      have e2 : ((fun z : Str => z.length) ∘ showP) = fun d => (showP d).length := rfl
      rw [e2]
      omega
theorem sc_with_feeds : FnScope ["lines", "line"] ["lines"] (defScope s_with_feeds) := ⟨rfl, rfl, rfl, by decide +kernel, rfl, by decide +kernel, by decide +kernel⟩
theorem ok_with_feeds (F : Fun K "with_feeds" "with_feeds" s_with_feeds f fd) (T : Txt0 mg) : FnG P w K mg base 1 f fd ["lines"] (spF K spFeeds) := by
  refine okD F sc_with_feeds (fun as Q h => by obtain ⟨d, rfl, _⟩ := h; rfl) fun cdv A out s H E hG hr => have hu := units_ofx hr; ⟨_, (dss_one (ds_ret (DE.o (de_join rfl de_str (DO.d (do_lc (own := [("line", 1)]) rfl sc_with_feeds.nd (di_any rfl (de_v (pv 0))) (blkOk_by (N := ["lines", "line"]) (sc := defScope s_with_feeds) (by decide +kernel)) (fun _ _ _ _ _ => (dg_name (pg_name (i := 1) sc_with_feeds.nd rfl (.inl rfl)))) (fun _ _ _ _ _ => dts_nil) (fun _ _ _ _ _ => (do_add rfl (de_v (pv 1)) de_str)))))))), fun as Q h => ?_⟩
  obtain ⟨zs, rfl, hb, q⟩ := h
  refine ⟨_, rfl, _, rfl, _, rfl, ?_⟩
  refine lc_maps (fun z => PyData.str z) zs (fun _ => true) (fun z => .dat (.str (z ++ "\n"))) (by rw [sizeLine_eq]; omega) (fun z hz yes no y1 y2 => ?_) ?_
  · have y := y1 rfl
    repeat' (first | refine ix0T ?_ | refine ix1T ?_ | refine ix2T ?_ | refine ix0L ?_ | refine ix1L ?_ | refine ix2L ?_ | refine ⟨_, rfl, ?_⟩ | refine ⟨_, _, rfl, rfl, (by show (_ : Nat) ≤ sizeLine; first | assumption | exact big (DOk.strLen (by assumption)) | exact big (DOk.tupLen (by assumption)) | exact big (DOk.lstLen (by assumption)) | exact big (DOw.strLen (by assumption)) | exact big (DOw.tupLen (by assumption)) | exact big (DOw.lstLen (by assumption)) | exact big (DOz.strLen (by assumption)) | exact big (DOz.tupLen (by assumption)) | exact big (DOz.lstLen (by assumption))), ?_⟩ | refine ⟨_, _, rfl, rfl, (by first | decide | (show (0 : Int) < _; decide)), ?_⟩ | refine ⟨_, _, rfl, rfl, ?_⟩ | refine eqR_str ?_ | refine eqR_int ?_ | refine neR_str ?_ | refine neR_int ?_ | refine And.intro rfl ?_ | refine addL (by first | assumption | (rw [sizeLine_eq]; omega) | (rw [sizeLine_eq]; simp; done) | (rw [sizeLine_eq]; simp only [List.length_append, List.length_cons, List.length_nil]; omega)) ?_ | refine addT (by first | assumption | (rw [sizeLine_eq]; omega) | (rw [sizeLine_eq]; simp; done) | (rw [sizeLine_eq]; simp only [List.length_append, List.length_cons, List.length_nil]; omega)) ?_ | refine And.intro (by assumption) ?_ | refine And.intro (by decide) ?_ | refine ⟨_, _, rfl, ?_⟩ | refine iteT rfl ?_ | refine iteF Bool.false_ne_true ?_)
    have h1 := sum_mem (List.mem_map.mpr ⟨z, hz, rfl⟩ : z.length ∈ zs.map fun z => z.length)
    have h2 : ("\n" : Str).length = 1 := by decide +kernel
    exact ⟨_, if_pos (by rw [h2, sizeLine_eq]; omega), y⟩
  · rw [List.filter_eq_self.mpr fun _ _ => rfl]
    refine ⟨zs.map fun z => z ++ "\n", ?_, ?_, q⟩
    · rw [erase_map, List.map_map]
      rfl
    · have e1 : ("" : Str).length = 0 := by decide +kernel
      rw [e1, List.map_map, Nat.mul_zero, Nat.add_zero]
      have e3 : ∀ l : List Str, (l.map ((fun z : Str => z.length) ∘ fun z => z ++ "\n")).sum = (l.map fun z => z.length).sum + l.length := fun l => by
        induction l with
        | nil => rfl
        | cons a r ih =>
          have e4 : (a ++ ("\n" : Str)).length = a.length + 1 := by rw [TL.len_tl, TL.tl_append, List.length_append, ← TL.len_tl]; rfl
          simp only [List.map_cons, List.sum_cons, List.length_cons, Function.comp] at ih ⊢
          rw [e4]
          omega
      rw [e3]
      omega
theorem sc_show_run : FnScope ["run", "step"] ["run"] (defScope s_show_run) := ⟨rfl, rfl, rfl, by decide +kernel, rfl, by decide +kernel, by decide +kernel⟩
theorem ok_show_run (F : Fun K "show_run" "show_run" s_show_run f fd) (T : Txt0 mg) (c_words : ClG P w K mg base 1 "show_words" (spF K spShow)) (c_feeds : ClG P w K mg base 1 "with_feeds" (spF K spFeeds)) : FnG P w K mg base 2 f fd ["run"] (spF K spRun) := by
  refine okD F sc_show_run (fun as Q h => by obtain ⟨d, rfl, _⟩ := h; rfl) fun cdv A out s H E hG hr => have hu := units_ofx hr; ⟨_, (dss_one (ds_ret (do_call rfl c_feeds hG hr (by omega) (by rfl) (dr_cons (DO.d (do_lc (own := [("step", 1)]) rfl sc_show_run.nd (di_any rfl (de_v (pv 0))) (blkOk_by (N := ["run", "step"]) (sc := defScope s_show_run) (by decide +kernel)) (fun _ _ _ _ _ => (dg_name (pg_name (i := 1) sc_show_run.nd rfl (.inl rfl)))) (fun _ _ _ _ _ => dts_nil) (fun _ _ _ _ _ => (do_call rfl c_words hG hr (by omega) (by rfl) (dr_cons (de_v (pv 1)) dr_nil))))) dr_nil)))), fun as Q h => ?_⟩
  obtain ⟨rs, rfl, ok, hb, q⟩ := h
  have hb2 : rs.length ≤ 1000000 := by rw [List.length_map] at hb; omega
  repeat' (first | refine ix0T ?_ | refine ix1T ?_ | refine ix2T ?_ | refine ix0L ?_ | refine ix1L ?_ | refine ix2L ?_ | refine ⟨_, rfl, ?_⟩ | refine ⟨_, _, rfl, rfl, (by show (_ : Nat) ≤ sizeLine; first | assumption | exact big (DOk.strLen (by assumption)) | exact big (DOk.tupLen (by assumption)) | exact big (DOk.lstLen (by assumption)) | exact big (DOw.strLen (by assumption)) | exact big (DOw.tupLen (by assumption)) | exact big (DOw.lstLen (by assumption)) | exact big (DOz.strLen (by assumption)) | exact big (DOz.tupLen (by assumption)) | exact big (DOz.lstLen (by assumption))), ?_⟩ | refine ⟨_, _, rfl, rfl, (by first | decide | (show (0 : Int) < _; decide)), ?_⟩ | refine ⟨_, _, rfl, rfl, ?_⟩ | refine eqR_str ?_ | refine eqR_int ?_ | refine neR_str ?_ | refine neR_int ?_ | refine And.intro rfl ?_ | refine addL (by first | assumption | (rw [sizeLine_eq]; omega) | (rw [sizeLine_eq]; simp; done) | (rw [sizeLine_eq]; simp only [List.length_append, List.length_cons, List.length_nil]; omega)) ?_ | refine addT (by first | assumption | (rw [sizeLine_eq]; omega) | (rw [sizeLine_eq]; simp; done) | (rw [sizeLine_eq]; simp only [List.length_append, List.length_cons, List.length_nil]; omega)) ?_ | refine And.intro (by assumption) ?_ | refine And.intro (by decide) ?_ | refine ⟨_, _, rfl, ?_⟩ | refine iteT rfl ?_ | refine iteF Bool.false_ne_true ?_)
  refine lc_maps (fun ds => PyData.tuple ds) rs (fun _ => true) (fun ds => .dat (.str (showT ds))) (by rw [sizeLine_eq]; omega) (fun ds hd yes no y1 y2 => ?_) ?_
  · have y := y1 rfl
    repeat' (first | refine ix0T ?_ | refine ix1T ?_ | refine ix2T ?_ | refine ix0L ?_ | refine ix1L ?_ | refine ix2L ?_ | refine ⟨_, rfl, ?_⟩ | refine ⟨_, _, rfl, rfl, (by show (_ : Nat) ≤ sizeLine; first | assumption | exact big (DOk.strLen (by assumption)) | exact big (DOk.tupLen (by assumption)) | exact big (DOk.lstLen (by assumption)) | exact big (DOw.strLen (by assumption)) | exact big (DOw.tupLen (by assumption)) | exact big (DOw.lstLen (by assumption)) | exact big (DOz.strLen (by assumption)) | exact big (DOz.tupLen (by assumption)) | exact big (DOz.lstLen (by assumption))), ?_⟩ | refine ⟨_, _, rfl, rfl, (by first | decide | (show (0 : Int) < _; decide)), ?_⟩ | refine ⟨_, _, rfl, rfl, ?_⟩ | refine eqR_str ?_ | refine eqR_int ?_ | refine neR_str ?_ | refine neR_int ?_ | refine And.intro rfl ?_ | refine addL (by first | assumption | (rw [sizeLine_eq]; omega) | (rw [sizeLine_eq]; simp; done) | (rw [sizeLine_eq]; simp only [List.length_append, List.length_cons, List.length_nil]; omega)) ?_ | refine addT (by first | assumption | (rw [sizeLine_eq]; omega) | (rw [sizeLine_eq]; simp; done) | (rw [sizeLine_eq]; simp only [List.length_append, List.length_cons, List.length_nil]; omega)) ?_ | refine And.intro (by assumption) ?_ | refine And.intro (by decide) ?_ | refine ⟨_, _, rfl, ?_⟩ | refine iteT rfl ?_ | refine iteF Bool.false_ne_true ?_)
    exact ⟨(ok ds hd).1, (ok ds hd).2, y⟩
  · rw [List.filter_eq_self.mpr fun _ _ => rfl]
    refine ⟨rs.map showT, ?_, hb, q⟩
    rw [erase_map, List.map_map]
    rfl
end
end K96
set_option Elab.async false
set_option linter.all false
set_option maxRecDepth 100000
set_option maxHeartbeats 1000000
set_option pp.maxSteps 500
/-! K96f: figures written back, lines, bounds -/
namespace K96
open PySem PySem.Spec PyProof.Rows L2 GL DL
theorem dval_snoc (l : List Nat) (d : Nat) : NumText.digitsVal (l ++ [d]) = NumText.digitsVal l * 10 + (d - 48) := by
  unfold NumText.digitsVal
  rw [List.foldl_append]
  rfl
theorem dval_lt : ∀ (n : Nat) (l : List Nat), l.length = n → NumText.AllDigits l → NumText.digitsVal l < 10 ^ n
  | 0, l, h, _ => by
    rw [List.length_eq_zero_iff.mp h]
    decide
  | n + 1, l, h, a => by
    rcases List.eq_nil_or_concat l with rfl | ⟨i, d, e⟩
    · cases h
    · rw [List.concat_eq_append] at e
      rw [e] at h a ⊢
      rw [List.length_append] at h
      have h1 : i.length = n := by simpa using h
      have ih := dval_lt n i h1 fun c m => a c (List.mem_append_left _ m)
      have hd := a d (by simp)
      rw [dval_snoc, Nat.pow_succ]
      omega
/-- a number is written as it was read -/
theorem canon : ∀ (n : Nat) (l : List Nat), l.length = n → NumText.AllDigits l → (∃ c r, l = c :: r ∧ (c ≠ 48 ∨ r = [])) → TL.numL (NumText.digitsVal l) = l
  | 0, l, h, _, k => by
    obtain ⟨c, r, e, _⟩ := k
    rw [e] at h
    cases h
  | n + 1, l, h, a, k => by
    rcases List.eq_nil_or_concat l with rfl | ⟨i, d, e⟩
    · cases h
    · rw [List.concat_eq_append] at e
      have hd := a d (by rw [e]; simp)
      cases i with
      | nil =>
        rw [e]
        have e2 : NumText.digitsVal ([] ++ [d]) = d - 48 := by
          rw [dval_snoc]
          show NumText.digitsVal [] * 10 + (d - 48) = _
          have : NumText.digitsVal [] = 0 := rfl
          omega
        rw [show NumText.digitsVal ([] ++ [d]) = d - 48 from e2, TL.numL_lt (by omega)]
        show [48 + (d - 48)] = [d]
        congr 1
        omega
      | cons c r =>
        have e0 : l = (c :: r) ++ [d] := e
        rw [e0] at h a k ⊢
        have hc : c ≠ 48 := by
          obtain ⟨c', r', e2, h2⟩ := k
          rw [List.cons_append] at e2
          cases e2
          rcases h2 with h2 | h2
          · exact h2
          · simp at h2
        have h1 : (c :: r).length = n := by
          rw [List.length_append] at h
          simpa using h
        have a1 : NumText.AllDigits (c :: r) := fun x m => a x (List.mem_append_left _ m)
        have ih := canon n (c :: r) h1 a1 ⟨c, r, rfl, .inl hc⟩
        have hp : 1 ≤ NumText.digitsVal (c :: r) := by
          by_cases z : NumText.digitsVal (c :: r) = 0
          · rw [z, TL.numL_lt (by omega)] at ih
            cases ih
            exact absurd rfl hc
          · omega
        rw [dval_snoc]
        have hm : (NumText.digitsVal (c :: r) * 10 + (d - 48)) / 10 = NumText.digitsVal (c :: r) := by omega
        have hr : (NumText.digitsVal (c :: r) * 10 + (d - 48)) % 10 = d - 48 := by omega
        rw [TL.numL_step (by omega), hm, hr, ih]
        congr 1
        show [48 + (d - 48)] = [d]
        congr 1
        omega
theorem fig_shown {w : Str} (h : figS w = true) : Str.ofString (toString (valS w)) = w := by
  obtain ⟨h1, h2, h3, h4⟩ := fig_all h
  refine TL.ext_tl ?_
  unfold valS
  rw [TL.tl_num]
  exact canon _ _ rfl h1 h4
theorem fig_small {w : Str} (h : figS w = true) : 0 ≤ valS w ∧ (valS w).natAbs < 10 ^ 40 := by
  obtain ⟨h1, h2, h3, h4⟩ := fig_all h
  unfold valS
  refine ⟨by omega, ?_⟩
  rw [Int.natAbs_natCast]
  have := dval_lt _ _ rfl h1
  rw [len_cps] at h3
  exact Nat.lt_of_lt_of_le this (Nat.pow_le_pow_right (by decide) h3)
theorem log_small {n : Nat} (h : n < 10 ^ 40) : n.log2 < 1920 := by
  by_cases z : n = 0
  · rw [z]; decide
  · rw [Nat.log2_lt z]
    refine Nat.lt_trans h ?_
    decide +kernel
theorem part_shown (w : Str) : showP (partD w) = if w = "" then ("-" : Str) else w := by
  unfold partD
  by_cases hf : figS w = true
  · rw [if_pos hf]
    show Str.ofString (toString (valS w)) = _
    rw [fig_shown hf, if_neg]
    intro e
    rw [e] at hf
    exact absurd hf (by decide +kernel)
  · rw [if_neg hf]
    by_cases hd : w = "-"
    · rw [if_pos hd, hd]
      show (if ("" : Str) = "" then ("-" : Str) else "") = _
      rw [if_pos rfl, if_neg (by decide +kernel)]
    · rw [if_neg hd]
      rfl
theorem part_S (w : Str) : PartS (partD w) := by
  unfold partD
  by_cases hf : figS w = true
  · rw [if_pos hf]
    exact log_small (fig_small hf).2
  · rw [if_neg hf]
    split <;> trivial
theorem part_D {w : Str} (h : w.length ≤ 100000) : PartD (partD w) := by
  unfold partD
  by_cases hf : figS w = true
  · rw [if_pos hf]
    trivial
  · rw [if_neg hf]
    split
    · exact Nat.zero_le _
    · exact h
theorem part_len (w : Str) : (showP (partD w)).length ≤ w.length + 1 := by
  rw [part_shown]
  split
  · rename_i e
    rw [e]
    decide +kernel
  · omega
theorem sumle {α : Type} (f g : α → Nat) (c : Nat) : ∀ l : List α, (∀ a ∈ l, f a ≤ g a + c) → (l.map f).sum ≤ (l.map g).sum + l.length * c
  | [], _ => Nat.zero_le _
  | a :: r, h => by
    have h1 := h a (List.mem_cons_self ..)
    have h2 := sumle f g c r fun x m => h x (List.mem_cons_of_mem _ m)
    simp only [List.map_cons, List.sum_cons, List.length_cons, Nat.succ_mul]
    omega
theorem words_sum (z : Str) : ((wordsOf z).map fun w => w.length).sum + (wordsOf z).length = z.length + 1 := by
  unfold wordsOf
  rw [space_is]
  exact split_sum z (by decide)
theorem line_show {l : Str} (h : l.length ≤ 90000) : ShowOk (lineD l) ∧ (lineD l).length ≤ 100000 ∧ (∀ d ∈ lineD l, PartD d) ∧ lineD l ≠ [] := by
  have h1 := words_sum l
  obtain ⟨h2, h3, h4⟩ := words_few l
  have h5 := sumle (fun w => (showP (partD w)).length) (fun w : Str => w.length) 1 (wordsOf l) fun w _ => part_len w
  unfold ShowOk lineD
  refine ⟨⟨fun d m => ?_, ?_⟩, ?_, fun d m => ?_, ?_⟩
  · obtain ⟨w, _, rfl⟩ := List.mem_map.mp m
    exact part_S w
  · rw [List.map_map, List.length_map]
    have e : ((fun d => (showP d).length) ∘ partD) = fun w => (showP (partD w)).length := rfl
    rw [e]
    omega
  · rw [List.length_map]
    omega
  · obtain ⟨w, hw, rfl⟩ := List.mem_map.mp m
    exact part_D (by have := h3 w hw; omega)
  · intro e
    exact h4 (List.map_eq_nil_iff.mp e)
theorem joinL_len (S : List Nat) : ∀ l : List (List Nat), (TL.joinL S l).length ≤ (l.map List.length).sum + l.length * S.length
  | [] => Nat.zero_le _
  | [p] => by simp [TL.joinL]
  | p :: q :: r => by
    have ih := joinL_len S (q :: r)
    have e : (TL.joinL S (p :: q :: r)).length = p.length + S.length + (TL.joinL S (q :: r)).length := by
      simp [TL.joinL]
      try omega
    rw [e]
    simp only [List.map_cons, List.sum_cons, List.length_cons, Nat.succ_mul] at ih ⊢
    omega
theorem join_len (y : Str) (zs : List Str) : (Txt.join y zs).length ≤ (zs.map fun z => z.length).sum + zs.length * y.length := by
  rw [TL.join_eq, len_cps]
  show (TL.tl _).length ≤ _
  rw [TL.tl_join]
  have h := joinL_len (TL.tl y) (zs.map TL.tl)
  rw [List.map_map, List.length_map] at h
  have e : (List.length ∘ TL.tl) = fun z : Str => z.length := funext fun z => (TL.len_tl z).symm
  rw [e, ← TL.len_tl] at h
  exact h
theorem showT_len {l : Str} : (showT (lineD l)).length ≤ 2 * l.length + 2 := by
  unfold showT
  have h := join_len " " ((lineD l).map showP)
  have e1 : (" " : Str).length = 1 := by decide +kernel
  have h1 := words_sum l
  have h5 := sumle (fun w => (showP (partD w)).length) (fun w : Str => w.length) 1 (wordsOf l) fun w _ => part_len w
  have e2 : ((lineD l).map showP).map (fun z => z.length) = (wordsOf l).map fun w => (showP (partD w)).length := by
    unfold lineD
    rw [List.map_map, List.map_map]
    rfl
  have e3 : ((lineD l).map showP).length = (wordsOf l).length := by
    unfold lineD
    rw [List.length_map, List.length_map]
  rw [e1, e2, e3] at h
  omega
def linesOf (z : Str) : List Str := Txt.split z "\n"
def readD (z : Str) : List (List PyData) := (linesOf z).dropLast.map lineD
def okRun (z : Str) : Bool := (readD z).all stepD && decide (feedsT ((readD z).map showT) = z)
theorem lines_few (z : Str) : ((linesOf z).map fun w => w.length).sum + (linesOf z).length = z.length + 1 ∧ (∀ l ∈ linesOf z, l.length ≤ z.length) ∧ linesOf z ≠ [] := by
  unfold linesOf
  rw [feed_is]
  have h := split_sum z (c := 10) (by decide)
  refine ⟨h, fun w m => ?_, split_ne z (by decide)⟩
  have h2 := sum_mem (List.mem_map.mpr ⟨w, m, rfl⟩ : w.length ∈ (Txt.split z ⟨#[10]⟩).map fun w => w.length)
  have h3 := List.length_pos_iff.mpr (split_ne z (c := 10) (by decide))
  omega
theorem dropLast_sum (f : Str → Nat) : ∀ l : List Str, (l.dropLast.map f).sum ≤ (l.map f).sum
  | [] => Nat.le_refl _
  | [a] => by simp
  | a :: b :: r => by
    have ih := dropLast_sum f (b :: r)
    rw [List.dropLast_cons₂]
    simp only [List.map_cons, List.sum_cons] at ih ⊢
    omega
theorem read_few {z : Str} (h : z.length ≤ 90000) : (readD z).length ≤ 90001 ∧ (∀ r ∈ readD z, ShowOk r ∧ r.length ≤ 100000 ∧ (∀ d ∈ r, PartD d) ∧ r ≠ []) ∧
    (((readD z).map showT).map fun z => z.length).sum + 2 * ((readD z).map showT).length ≤ 1000000 := by
  obtain ⟨h1, h2, _⟩ := lines_few z
  have h3 : ((linesOf z).dropLast).length ≤ (linesOf z).length := by rw [List.length_dropLast]; omega
  unfold readD
  refine ⟨by rw [List.length_map]; omega, fun r m => ?_, ?_⟩
  · obtain ⟨l, hl, rfl⟩ := List.mem_map.mp m
    have := h2 l (List.dropLast_subset _ hl)
    exact line_show (by omega)
  · rw [List.map_map, List.map_map, List.length_map, List.length_map]
    have h5 : (((linesOf z).dropLast).map fun l => (showT (lineD l)).length).sum ≤ (((linesOf z).dropLast).map fun l : Str => 2 * l.length).sum + (linesOf z).dropLast.length * 2 := sumle (fun l => (showT (lineD l)).length) (fun l : Str => 2 * l.length) 2 ((linesOf z).dropLast) fun l _ => showT_len
    have h6 := dropLast_sum (fun l : Str => 2 * l.length) (linesOf z)
    have h7 : ∀ l : List Str, (l.map fun l : Str => 2 * l.length).sum = 2 * (l.map fun l => l.length).sum := fun l => by
      induction l with
      | nil => rfl
      | cons a r ih =>
        simp only [List.map_cons, List.sum_cons] at ih ⊢
        omega
    rw [h7 (linesOf z)] at h6
    have e : ((fun z : Str => z.length) ∘ (showT ∘ lineD)) = fun l => (showT (lineD l)).length := rfl
    rw [show ((fun z : Str => z.length) ∘ showT) ∘ lineD = fun l => (showT (lineD l)).length from rfl]
    have h9 : (linesOf z).length ≤ z.length + 1 := by omega
    have h10 : ((linesOf z).dropLast.map fun l => (showT (lineD l)).length).sum ≤ 2 * (z.length + 1) + 2 * (z.length + 1) := by omega
    omega
end K96
set_option Elab.async false
set_option linter.all false
set_option maxRecDepth 100000
set_option maxHeartbeats 1000000
set_option pp.maxSteps 500
/-! K96g: how a text is read -/
namespace K96
open PySem PySem.Spec PyProof.Rows L2 GL DL
/-- what NoText() makes -/
def spN (C : Addr) : Sp := fun vs H Q _ => ∃ (a : Addr), vs = [.ref a] ∧ Q .non H
abbrev s_notext : Stmt := inClass (topS 2) 0
/-- what the class NoText says -/
structure CN (P : Program) (w : World) (K : PySem.W.Frag) (mg : Str → Option Value) (base : Heap) (C : Addr) : Prop where
  ex : ∃ (f : Addr) (fd : FuncData), FnOk P w K mg base CX0 1 f fd ["self"] (spN C) ∧ PySem.W.findIn K (.ref C) "__init__" = some (some (.ref f)) ∧ PySem.W.typeIn K (.ref f) = some (.type "function") ∧ Binds K fd ["self"] []
  oex : OexC K C
  mg : mg "NoText" = some (.ref C)
def runD (z : Str) : PyData := .list ((readD z).map .tuple)
def BadD (d : PyData) : Prop := isTy "str" d = false ∨ ∃ z, d = .str z ∧ z.length ≤ 90000 ∧ okRun z = false
def spRead (K : PySem.W.Frag) (C : Addr) : Sp := fun vs H Q E => ∃ v G d, vs = [v] ∧ Same G H ∧ Dr K G v d ∧
  ((∃ z, d = .str z ∧ z.length ≤ 90000 ∧ okRun z = true ∧ ∀ v' G' H', Stp none G H G' H' → Dr K G' v' (runD z) → Q v' H') ∨
    (BadD d ∧ ∀ H', Same H H' → E (.ref C) none H'))
theorem pss_never {X : Cx} {sts : List Stmt} : PSs X sts (fun _ _ _ => False) := ⟨fun _ _ _ _ _ _ h => h.elim⟩
theorem ds_never {K : PySem.W.Frag} {X : Cx} {st : Stmt} : DS K X st (fun _ _ => False) := ⟨⟨fun pins s σ H D I h => by
  obtain ⟨_, _, _, _, _, _, _, _, h, _⟩ := h
  exact h.elim⟩⟩
theorem cut_last (ds : List PyData) : DL.cutD ds none (some (-1)) = ds.dropLast := by
  unfold DL.cutD
  cases ds with
  | nil => rfl
  | cons d r =>
    have e : HT.sIx (d :: r).length (d :: r).length (some (-1)) = r.length := by
      unfold HT.sIx
      simp
      omega
    have e2 : HT.sIx (d :: r).length 0 none = 0 := rfl
    rw [e, e2, List.drop_zero, List.dropLast_eq_take]
    rfl
theorem hcut (z : Str) : eraseAll (List.map O.dat (DL.cutD (eraseAll (List.map O.dat (List.map PyData.str (Txt.split z "\n")))) none (some (-1)))) = ((linesOf z).dropLast).map .str := by
  rw [era_dat, era_dat, cut_last, List.map_dropLast]
  rfl
theorem erun (z : Str) : eraseAll (((linesOf z).dropLast).map fun l => O.dat (.tuple (lineD l))) = (readD z).map .tuple := by
  rw [era_map]
  unfold readD
  rw [List.map_map]
  rfl
abbrev NR : List Str := ["text", "run", "line", "step"]
theorem frz_run (z : Str) : frzAt (List.set (startD ["text", "run", "line", "step"] [En.d (.str z)]) 1 (some (En.of (.lst (((linesOf z).dropLast).map fun l => O.dat (.tuple (lineD l))))))) 1 = [some (.d (.str z)), some (.d (runD z)), none, none] := by
  show [some _, some (En.d (.list (eraseAll _))), none, none] = _
  rw [erun]
  rfl
section
variable {P : Program} {w : World} {K : PySem.W.Frag} {mg : Str → Option Value} {base : Heap} {f C : Addr} {fd : FuncData}
theorem sc_notext : FnScope ["self"] ["self"] (defScope s_notext) := ⟨rfl, rfl, rfl, by decide +kernel, rfl, by decide +kernel, by decide +kernel⟩
theorem ok_notext (F : Fun K "__init__" "NoText.__init__" s_notext f fd) : FnOk P w K mg base CX0 1 f fd ["self"] (spN C) := by
  refine F.ok sc_notext (fun vs H Q E h => ?_) (fun cdv A outer s H vs Q E hr h => ?_)
  · obtain ⟨a, rfl, _⟩ := h
    rfl
  · obtain ⟨a, rfl, q⟩ := h
    exact ⟨_, pss_one ps_pass, q⟩
theorem sc_read_run : FnScope ["text", "run", "line", "step"] ["text"] (defScope s_read_run) := ⟨rfl, rfl, rfl, by decide +kernel, rfl, by decide +kernel, by decide +kernel⟩
theorem ok_read_run (F : Fun K "read_run" "read_run" s_read_run f fd) (T : Txt0 mg) (c_words : ClG P w K mg base 3 "read_words" (spF K spWords)) (c_step : ClG P w K mg base 4 "is_step" (spF K spStep)) (c_show : ClG P w K mg base 2 "show_run" (spF K spRun)) (R : CN P w K mg base C) :
    FnX (L2.CX P w) P w K mg base 5 f fd ["text"] (spRead K C) := by
  obtain ⟨fC, fdC, FC, iC, tC, bC⟩ := R.ex
  refine okX F sc_read_run (fun vs H Q E h => by obtain ⟨_, _, _, rfl, _⟩ := h; rfl) fun cdv A out s H vs Q E hG hr h => ?_
  have hu := units_ofx hr
  obtain ⟨v, G, d, rfl, sGH, rv, h⟩ := h
  have w0 : Wd K G H none G H (L2.start ["text", "run", "line", "step"] [v]) (startD ["text", "run", "line", "step"] [.d d]) [] := ⟨sGH, Same.refl _, fun _ h => .inl h, fun _ _ h _ => h, (fun _ m => nomatch m), (fun _ e => nomatch e), .d rv (.non (.non (.non .nil)))⟩
  rcases h with ⟨z, rfl, hz, ok, q⟩ | ⟨bad, q⟩
  · refine ⟨_, ((dss_cons (ds_if (db_not (db_val (de_isi (T := "str") rfl (de_v (pv 0)) (by rfl) T.m_isinstance (by rfl) T.m_str (by decide +kernel) (by decide))))
(dss_one ds_never)
dss_nil)
(dss_cons (ds_setLc (i := 1) (own := [("line", 2)]) rfl sc_read_run.nd rfl rfl (sw_true rfl rfl rfl (by decide +kernel)) (di_any rfl (DO.d (do_sl rfl (DO.d (do_split (de_v (pv 0)) de_str)) io_none (io_some (de_neg de_int))))) (blkOk_by (N := ["text", "run", "line", "step"]) (sc := defScope s_read_run) (by decide +kernel)) (fun _ _ _ _ _ => (dg_name (pg_name (i := 2) sc_read_run.nd rfl (.inl rfl)))) (fun _ _ _ _ _ => dts_nil) (fun _ _ _ _ _ => (do_call rfl c_words hG hr (by omega) (by rfl) (dr_cons (de_v (pv 2)) dr_nil))))
(dss_cons (ds_frzAt 1 (ds_if (DW.db (dw_or (db_not (db_val (de_all rfl rfl T.m_all (DO.d (do_lc (own := [("step", 3)]) rfl sc_read_run.nd (di_any rfl (de_v (pv 1))) (blkOk_by (N := ["text", "run", "line", "step"]) (sc := defScope s_read_run) (by decide +kernel)) (fun _ _ _ _ _ => (dg_name (pg_name (i := 3) sc_read_run.nd rfl (.inl rfl)))) (fun _ _ _ _ _ => dts_nil) (fun _ _ _ _ _ => (do_call rfl c_step hG hr (by omega) (by rfl) (dr_cons (de_v (pv 3)) dr_nil)))))))) (dw_or1 (db_ne rfl hu (DO.d (do_call rfl c_show hG hr (by omega) (by rfl) (dr_cons (de_v (pv 1)) dr_nil))) (de_v (pv 0))))))
(dss_one ds_never)
dss_nil))
(dss_one (ds_ret (DE.o (de_v (pv 1))))))))).pss, ?_⟩
    refine ⟨G, H, none, G, _, [], { nx := fun _ => False, rt := fun o => o = .dat (runD z), bk := fun _ => False, ct := fun _ => False }, w0, ?_, (fun _ _ _ _ _ h => h.elim), fun o G' H' v' Fv e fin => ?_, (fun _ _ _ _ _ h => h.elim), (fun _ _ _ _ _ h => h.elim)⟩
    · have ok1 : (readD z).all stepD = true := by
        unfold okRun at ok
        exact (Bool.and_eq_true _ _ ▸ ok).1
      have ok2 : decide (feedsT ((readD z).map showT) = z) = true := by
        unfold okRun at ok
        exact (Bool.and_eq_true _ _ ▸ ok).2
      have hsz : z.length + 2 ≤ sizeLine := by rw [sizeLine_eq]; omega
      have hcut := hcut z
      have hfew := read_few hz
      have hfr := frz_run z
      repeat' (first | refine ix0T ?_ | refine ix1T ?_ | refine ix2T ?_ | refine ix0L ?_ | refine ix1L ?_ | refine ix2L ?_ | refine ⟨_, rfl, ?_⟩ | refine ⟨_, _, rfl, rfl, (by show (_ : Nat) ≤ sizeLine; first | assumption | exact big (DOk.strLen (by assumption)) | exact big (DOk.tupLen (by assumption)) | exact big (DOk.lstLen (by assumption)) | exact big (DOw.strLen (by assumption)) | exact big (DOw.tupLen (by assumption)) | exact big (DOw.lstLen (by assumption)) | exact big (DOz.strLen (by assumption)) | exact big (DOz.tupLen (by assumption)) | exact big (DOz.lstLen (by assumption))), ?_⟩ | refine ⟨_, _, rfl, rfl, (by first | decide | (show (0 : Int) < _; decide)), ?_⟩ | refine ⟨_, _, rfl, rfl, ?_⟩ | refine eqR_str ?_ | refine eqR_int ?_ | refine neR_str ?_ | refine neR_int ?_ | refine And.intro rfl ?_ | refine addL (by first | assumption | (rw [sizeLine_eq]; omega) | (rw [sizeLine_eq]; simp; done) | (rw [sizeLine_eq]; simp only [List.length_append, List.length_cons, List.length_nil]; omega)) ?_ | refine addT (by first | assumption | (rw [sizeLine_eq]; omega) | (rw [sizeLine_eq]; simp; done) | (rw [sizeLine_eq]; simp only [List.length_append, List.length_cons, List.length_nil]; omega)) ?_ | refine And.intro (by assumption) ?_ | refine And.intro (by decide) ?_ | refine ⟨_, _, rfl, ?_⟩ | refine iteT rfl ?_ | refine iteF Bool.false_ne_true ?_)
      rw [hcut]
      refine lc_maps (fun l => PyData.str l) ((linesOf z).dropLast) (fun _ => true) (fun l => .dat (.tuple (lineD l))) (by rw [sizeLine_eq]; have := hfew.1; unfold readD at this; rw [List.length_map] at this; omega) (fun l hl yes no y1 y2 => ?_) ?_
      · have y := y1 rfl
        have := (lines_few z).2.1 l (List.dropLast_subset _ hl)
        repeat' (first | refine ix0T ?_ | refine ix1T ?_ | refine ix2T ?_ | refine ix0L ?_ | refine ix1L ?_ | refine ix2L ?_ | refine ⟨_, rfl, ?_⟩ | refine ⟨_, _, rfl, rfl, (by show (_ : Nat) ≤ sizeLine; first | assumption | exact big (DOk.strLen (by assumption)) | exact big (DOk.tupLen (by assumption)) | exact big (DOk.lstLen (by assumption)) | exact big (DOw.strLen (by assumption)) | exact big (DOw.tupLen (by assumption)) | exact big (DOw.lstLen (by assumption)) | exact big (DOz.strLen (by assumption)) | exact big (DOz.tupLen (by assumption)) | exact big (DOz.lstLen (by assumption))), ?_⟩ | refine ⟨_, _, rfl, rfl, (by first | decide | (show (0 : Int) < _; decide)), ?_⟩ | refine ⟨_, _, rfl, rfl, ?_⟩ | refine eqR_str ?_ | refine eqR_int ?_ | refine neR_str ?_ | refine neR_int ?_ | refine And.intro rfl ?_ | refine addL (by first | assumption | (rw [sizeLine_eq]; omega) | (rw [sizeLine_eq]; simp; done) | (rw [sizeLine_eq]; simp only [List.length_append, List.length_cons, List.length_nil]; omega)) ?_ | refine addT (by first | assumption | (rw [sizeLine_eq]; omega) | (rw [sizeLine_eq]; simp; done) | (rw [sizeLine_eq]; simp only [List.length_append, List.length_cons, List.length_nil]; omega)) ?_ | refine And.intro (by assumption) ?_ | refine And.intro (by decide) ?_ | refine ⟨_, _, rfl, ?_⟩ | refine iteT rfl ?_ | refine iteF Bool.false_ne_true ?_)
        exact ⟨by omega, y⟩
      rw [List.filter_eq_self.mpr fun _ _ => rfl]
      repeat' (first | refine ix0T ?_ | refine ix1T ?_ | refine ix2T ?_ | refine ix0L ?_ | refine ix1L ?_ | refine ix2L ?_ | refine ⟨_, rfl, ?_⟩ | refine ⟨_, _, rfl, rfl, (by show (_ : Nat) ≤ sizeLine; first | assumption | exact big (DOk.strLen (by assumption)) | exact big (DOk.tupLen (by assumption)) | exact big (DOk.lstLen (by assumption)) | exact big (DOw.strLen (by assumption)) | exact big (DOw.tupLen (by assumption)) | exact big (DOw.lstLen (by assumption)) | exact big (DOz.strLen (by assumption)) | exact big (DOz.tupLen (by assumption)) | exact big (DOz.lstLen (by assumption))), ?_⟩ | refine ⟨_, _, rfl, rfl, (by first | decide | (show (0 : Int) < _; decide)), ?_⟩ | refine ⟨_, _, rfl, rfl, ?_⟩ | refine eqR_str ?_ | refine eqR_int ?_ | refine neR_str ?_ | refine neR_int ?_ | refine And.intro rfl ?_ | refine addL (by first | assumption | (rw [sizeLine_eq]; omega) | (rw [sizeLine_eq]; simp; done) | (rw [sizeLine_eq]; simp only [List.length_append, List.length_cons, List.length_nil]; omega)) ?_ | refine addT (by first | assumption | (rw [sizeLine_eq]; omega) | (rw [sizeLine_eq]; simp; done) | (rw [sizeLine_eq]; simp only [List.length_append, List.length_cons, List.length_nil]; omega)) ?_ | refine And.intro (by assumption) ?_ | refine And.intro (by decide) ?_ | refine ⟨_, _, rfl, ?_⟩ | refine iteT rfl ?_ | refine iteF Bool.false_ne_true ?_)
      rw [hfr, erun]
      refine lc_maps (fun ds => PyData.tuple ds) (readD z) (fun _ => true) (fun ds => .dat (.bool (stepD ds))) (by rw [sizeLine_eq]; have := hfew.1; omega) (fun ds hd yes no y1 y2 => ?_) ?_
      · have y := y1 rfl
        have hk := hfew.2.1 ds hd
        repeat' (first | refine ix0T ?_ | refine ix1T ?_ | refine ix2T ?_ | refine ix0L ?_ | refine ix1L ?_ | refine ix2L ?_ | refine ⟨_, rfl, ?_⟩ | refine ⟨_, _, rfl, rfl, (by show (_ : Nat) ≤ sizeLine; first | assumption | exact big (DOk.strLen (by assumption)) | exact big (DOk.tupLen (by assumption)) | exact big (DOk.lstLen (by assumption)) | exact big (DOw.strLen (by assumption)) | exact big (DOw.tupLen (by assumption)) | exact big (DOw.lstLen (by assumption)) | exact big (DOz.strLen (by assumption)) | exact big (DOz.tupLen (by assumption)) | exact big (DOz.lstLen (by assumption))), ?_⟩ | refine ⟨_, _, rfl, rfl, (by first | decide | (show (0 : Int) < _; decide)), ?_⟩ | refine ⟨_, _, rfl, rfl, ?_⟩ | refine eqR_str ?_ | refine eqR_int ?_ | refine neR_str ?_ | refine neR_int ?_ | refine And.intro rfl ?_ | refine addL (by first | assumption | (rw [sizeLine_eq]; omega) | (rw [sizeLine_eq]; simp; done) | (rw [sizeLine_eq]; simp only [List.length_append, List.length_cons, List.length_nil]; omega)) ?_ | refine addT (by first | assumption | (rw [sizeLine_eq]; omega) | (rw [sizeLine_eq]; simp; done) | (rw [sizeLine_eq]; simp only [List.length_append, List.length_cons, List.length_nil]; omega)) ?_ | refine And.intro (by assumption) ?_ | refine And.intro (by decide) ?_ | refine ⟨_, _, rfl, ?_⟩ | refine iteT rfl ?_ | refine iteF Bool.false_ne_true ?_)
        exact ⟨hk.2.1, hk.2.2.1, hk.2.2.2, y⟩
      rw [List.filter_eq_self.mpr fun _ _ => rfl]
      refine ⟨(readD z).map stepD, ?_, ?_⟩
      · rw [erase_map, List.map_map]
        rfl
      have e5 : ((readD z).map stepD).all id = true := by rw [List.all_map]; exact ok1
      rw [e5]
      repeat' (first | refine ix0T ?_ | refine ix1T ?_ | refine ix2T ?_ | refine ix0L ?_ | refine ix1L ?_ | refine ix2L ?_ | refine ⟨_, rfl, ?_⟩ | refine ⟨_, _, rfl, rfl, (by show (_ : Nat) ≤ sizeLine; first | assumption | exact big (DOk.strLen (by assumption)) | exact big (DOk.tupLen (by assumption)) | exact big (DOk.lstLen (by assumption)) | exact big (DOw.strLen (by assumption)) | exact big (DOw.tupLen (by assumption)) | exact big (DOw.lstLen (by assumption)) | exact big (DOz.strLen (by assumption)) | exact big (DOz.tupLen (by assumption)) | exact big (DOz.lstLen (by assumption))), ?_⟩ | refine ⟨_, _, rfl, rfl, (by first | decide | (show (0 : Int) < _; decide)), ?_⟩ | refine ⟨_, _, rfl, rfl, ?_⟩ | refine eqR_str ?_ | refine eqR_int ?_ | refine neR_str ?_ | refine neR_int ?_ | refine And.intro rfl ?_ | refine addL (by first | assumption | (rw [sizeLine_eq]; omega) | (rw [sizeLine_eq]; simp; done) | (rw [sizeLine_eq]; simp only [List.length_append, List.length_cons, List.length_nil]; omega)) ?_ | refine addT (by first | assumption | (rw [sizeLine_eq]; omega) | (rw [sizeLine_eq]; simp; done) | (rw [sizeLine_eq]; simp only [List.length_append, List.length_cons, List.length_nil]; omega)) ?_ | refine And.intro (by assumption) ?_ | refine And.intro (by decide) ?_ | refine ⟨_, _, rfl, ?_⟩ | refine iteT rfl ?_ | refine iteF Bool.false_ne_true ?_)
      refine ⟨fun r m => (hfew.2.1 r m).1, hfew.2.2, ?_⟩
      repeat' (first | refine ix0T ?_ | refine ix1T ?_ | refine ix2T ?_ | refine ix0L ?_ | refine ix1L ?_ | refine ix2L ?_ | refine ⟨_, rfl, ?_⟩ | refine ⟨_, _, rfl, rfl, (by show (_ : Nat) ≤ sizeLine; first | assumption | exact big (DOk.strLen (by assumption)) | exact big (DOk.tupLen (by assumption)) | exact big (DOk.lstLen (by assumption)) | exact big (DOw.strLen (by assumption)) | exact big (DOw.tupLen (by assumption)) | exact big (DOw.lstLen (by assumption)) | exact big (DOz.strLen (by assumption)) | exact big (DOz.tupLen (by assumption)) | exact big (DOz.lstLen (by assumption))), ?_⟩ | refine ⟨_, _, rfl, rfl, (by first | decide | (show (0 : Int) < _; decide)), ?_⟩ | refine ⟨_, _, rfl, rfl, ?_⟩ | refine eqR_str ?_ | refine eqR_int ?_ | refine neR_str ?_ | refine neR_int ?_ | refine And.intro rfl ?_ | refine addL (by first | assumption | (rw [sizeLine_eq]; omega) | (rw [sizeLine_eq]; simp; done) | (rw [sizeLine_eq]; simp only [List.length_append, List.length_cons, List.length_nil]; omega)) ?_ | refine addT (by first | assumption | (rw [sizeLine_eq]; omega) | (rw [sizeLine_eq]; simp; done) | (rw [sizeLine_eq]; simp only [List.length_append, List.length_cons, List.length_nil]; omega)) ?_ | refine And.intro (by assumption) ?_ | refine And.intro (by decide) ?_ | refine ⟨_, _, rfl, ?_⟩ | refine iteT rfl ?_ | refine iteF Bool.false_ne_true ?_)
      rw [ok2]
      repeat' (first | refine ix0T ?_ | refine ix1T ?_ | refine ix2T ?_ | refine ix0L ?_ | refine ix1L ?_ | refine ix2L ?_ | refine ⟨_, rfl, ?_⟩ | refine ⟨_, _, rfl, rfl, (by show (_ : Nat) ≤ sizeLine; first | assumption | exact big (DOk.strLen (by assumption)) | exact big (DOk.tupLen (by assumption)) | exact big (DOk.lstLen (by assumption)) | exact big (DOw.strLen (by assumption)) | exact big (DOw.tupLen (by assumption)) | exact big (DOw.lstLen (by assumption)) | exact big (DOz.strLen (by assumption)) | exact big (DOz.tupLen (by assumption)) | exact big (DOz.lstLen (by assumption))), ?_⟩ | refine ⟨_, _, rfl, rfl, (by first | decide | (show (0 : Int) < _; decide)), ?_⟩ | refine ⟨_, _, rfl, rfl, ?_⟩ | refine eqR_str ?_ | refine eqR_int ?_ | refine neR_str ?_ | refine neR_int ?_ | refine And.intro rfl ?_ | refine addL (by first | assumption | (rw [sizeLine_eq]; omega) | (rw [sizeLine_eq]; simp; done) | (rw [sizeLine_eq]; simp only [List.length_append, List.length_cons, List.length_nil]; omega)) ?_ | refine addT (by first | assumption | (rw [sizeLine_eq]; omega) | (rw [sizeLine_eq]; simp; done) | (rw [sizeLine_eq]; simp only [List.length_append, List.length_cons, List.length_nil]; omega)) ?_ | refine And.intro (by assumption) ?_ | refine And.intro (by decide) ?_ | refine ⟨_, _, rfl, ?_⟩ | refine iteT rfl ?_ | refine iteF Bool.false_ne_true ?_)
      exact (rfl : O.dat (runD z) = O.dat (runD z))
    · subst e
      cases fin.rep with
      | dat r => exact q v' G' H' fin.stp r
  · rcases bad with hl | ⟨z, rfl, hz, ok⟩
    · refine ⟨_, pss_cons (ps_if (DB.pt (K := K) (db_not (db_val (de_isi (T := "str") rfl (de_v (pv 0)) (by rfl) T.m_isinstance (by rfl) T.m_str (by decide +kernel) (by decide))))) (pss_one (ps_raise rfl (takes_of rfl rfl rfl rfl) (pmk_oexN R.oex iC tC FC (hr.mono (by decide)) bC (by rfl) R.mg))) pss_nil) pss_never, ?_⟩
      refine ⟨G, H, none, G, _, [], fun b => b = true, w0, ?_, fun b G' H' hb s => ?_⟩
      · repeat' (first | refine ix0T ?_ | refine ix1T ?_ | refine ix2T ?_ | refine ix0L ?_ | refine ix1L ?_ | refine ix2L ?_ | refine ⟨_, rfl, ?_⟩ | refine ⟨_, _, rfl, rfl, (by show (_ : Nat) ≤ sizeLine; first | assumption | exact big (DOk.strLen (by assumption)) | exact big (DOk.tupLen (by assumption)) | exact big (DOk.lstLen (by assumption)) | exact big (DOw.strLen (by assumption)) | exact big (DOw.tupLen (by assumption)) | exact big (DOw.lstLen (by assumption)) | exact big (DOz.strLen (by assumption)) | exact big (DOz.tupLen (by assumption)) | exact big (DOz.lstLen (by assumption))), ?_⟩ | refine ⟨_, _, rfl, rfl, (by first | decide | (show (0 : Int) < _; decide)), ?_⟩ | refine ⟨_, _, rfl, rfl, ?_⟩ | refine eqR_str ?_ | refine eqR_int ?_ | refine neR_str ?_ | refine neR_int ?_ | refine And.intro rfl ?_ | refine addL (by first | assumption | (rw [sizeLine_eq]; omega) | (rw [sizeLine_eq]; simp; done) | (rw [sizeLine_eq]; simp only [List.length_append, List.length_cons, List.length_nil]; omega)) ?_ | refine addT (by first | assumption | (rw [sizeLine_eq]; omega) | (rw [sizeLine_eq]; simp; done) | (rw [sizeLine_eq]; simp only [List.length_append, List.length_cons, List.length_nil]; omega)) ?_ | refine And.intro (by assumption) ?_ | refine And.intro (by decide) ?_ | refine ⟨_, _, rfl, ?_⟩ | refine iteT rfl ?_ | refine iteF Bool.false_ne_true ?_)
        rw [hl]
        repeat' (first | refine ix0T ?_ | refine ix1T ?_ | refine ix2T ?_ | refine ix0L ?_ | refine ix1L ?_ | refine ix2L ?_ | refine ⟨_, rfl, ?_⟩ | refine ⟨_, _, rfl, rfl, (by show (_ : Nat) ≤ sizeLine; first | assumption | exact big (DOk.strLen (by assumption)) | exact big (DOk.tupLen (by assumption)) | exact big (DOk.lstLen (by assumption)) | exact big (DOw.strLen (by assumption)) | exact big (DOw.tupLen (by assumption)) | exact big (DOw.lstLen (by assumption)) | exact big (DOz.strLen (by assumption)) | exact big (DOz.tupLen (by assumption)) | exact big (DOz.lstLen (by assumption))), ?_⟩ | refine ⟨_, _, rfl, rfl, (by first | decide | (show (0 : Int) < _; decide)), ?_⟩ | refine ⟨_, _, rfl, rfl, ?_⟩ | refine eqR_str ?_ | refine eqR_int ?_ | refine neR_str ?_ | refine neR_int ?_ | refine And.intro rfl ?_ | refine addL (by first | assumption | (rw [sizeLine_eq]; omega) | (rw [sizeLine_eq]; simp; done) | (rw [sizeLine_eq]; simp only [List.length_append, List.length_cons, List.length_nil]; omega)) ?_ | refine addT (by first | assumption | (rw [sizeLine_eq]; omega) | (rw [sizeLine_eq]; simp; done) | (rw [sizeLine_eq]; simp only [List.length_append, List.length_cons, List.length_nil]; omega)) ?_ | refine And.intro (by assumption) ?_ | refine And.intro (by decide) ?_ | refine ⟨_, _, rfl, ?_⟩ | refine iteT rfl ?_ | refine iteF Bool.false_ne_true ?_)
        exact (rfl : (!false) = true)
      · subst hb
        show if true = true then _ else _
        rw [if_pos rfl]
        exact ⟨fun a ha => ⟨a, rfl, rfl, rfl⟩, q H' fun b u h => s.keep b u h (fun c e => nomatch e)⟩
    · refine ⟨_, pss_cons (DS.ps (K := K) (ds_if (db_not (db_val (de_isi (T := "str") rfl (de_v (pv 0)) (by rfl) T.m_isinstance (by rfl) T.m_str (by decide +kernel) (by decide))))
(dss_one ds_never)
dss_nil)) (pss_cons (DS.ps (K := K) (ds_setLc (i := 1) (own := [("line", 2)]) rfl sc_read_run.nd rfl rfl (sw_true rfl rfl rfl (by decide +kernel)) (di_any rfl (DO.d (do_sl rfl (DO.d (do_split (de_v (pv 0)) de_str)) io_none (io_some (de_neg de_int))))) (blkOk_by (N := ["text", "run", "line", "step"]) (sc := defScope s_read_run) (by decide +kernel)) (fun _ _ _ _ _ => (dg_name (pg_name (i := 2) sc_read_run.nd rfl (.inl rfl)))) (fun _ _ _ _ _ => dts_nil) (fun _ _ _ _ _ => (do_call rfl c_words hG hr (by omega) (by rfl) (dr_cons (de_v (pv 2)) dr_nil))))) (pss_cons (ps_if (DB.pt (K := K) (DW.db (dw_or (db_not (db_val (de_all rfl rfl T.m_all (DO.d (do_lc (own := [("step", 3)]) rfl sc_read_run.nd (di_any rfl (de_v (pv 1))) (blkOk_by (N := ["text", "run", "line", "step"]) (sc := defScope s_read_run) (by decide +kernel)) (fun _ _ _ _ _ => (dg_name (pg_name (i := 3) sc_read_run.nd rfl (.inl rfl)))) (fun _ _ _ _ _ => dts_nil) (fun _ _ _ _ _ => (do_call rfl c_step hG hr (by omega) (by rfl) (dr_cons (de_v (pv 3)) dr_nil)))))))) (dw_or1 (db_ne rfl hu (DO.d (do_call rfl c_show hG hr (by omega) (by rfl) (dr_cons (de_v (pv 1)) dr_nil))) (de_v (pv 0))))))) (pss_one (ps_raise rfl (takes_of rfl rfl rfl rfl) (pmk_oexN R.oex iC tC FC (hr.mono (by decide)) bC (by rfl) R.mg))) pss_nil) pss_never)), ?_⟩
      refine ⟨G, H, none, G, _, [], { nx := fun ρ => ρ = startD ["text", "run", "line", "step"] [.d (.str z)], rt := fun _ => False, bk := fun _ => False, ct := fun _ => False }, w0, ?_, fun ρ' σ' G' H' F' e w1 => ?_, (fun _ _ _ _ _ h => h.elim), (fun _ _ _ _ _ h => h.elim), (fun _ _ _ _ _ h => h.elim)⟩
      · repeat' (first | refine ix0T ?_ | refine ix1T ?_ | refine ix2T ?_ | refine ix0L ?_ | refine ix1L ?_ | refine ix2L ?_ | refine ⟨_, rfl, ?_⟩ | refine ⟨_, _, rfl, rfl, (by show (_ : Nat) ≤ sizeLine; first | assumption | exact big (DOk.strLen (by assumption)) | exact big (DOk.tupLen (by assumption)) | exact big (DOk.lstLen (by assumption)) | exact big (DOw.strLen (by assumption)) | exact big (DOw.tupLen (by assumption)) | exact big (DOw.lstLen (by assumption)) | exact big (DOz.strLen (by assumption)) | exact big (DOz.tupLen (by assumption)) | exact big (DOz.lstLen (by assumption))), ?_⟩ | refine ⟨_, _, rfl, rfl, (by first | decide | (show (0 : Int) < _; decide)), ?_⟩ | refine ⟨_, _, rfl, rfl, ?_⟩ | refine eqR_str ?_ | refine eqR_int ?_ | refine neR_str ?_ | refine neR_int ?_ | refine And.intro rfl ?_ | refine addL (by first | assumption | (rw [sizeLine_eq]; omega) | (rw [sizeLine_eq]; simp; done) | (rw [sizeLine_eq]; simp only [List.length_append, List.length_cons, List.length_nil]; omega)) ?_ | refine addT (by first | assumption | (rw [sizeLine_eq]; omega) | (rw [sizeLine_eq]; simp; done) | (rw [sizeLine_eq]; simp only [List.length_append, List.length_cons, List.length_nil]; omega)) ?_ | refine And.intro (by assumption) ?_ | refine And.intro (by decide) ?_ | refine ⟨_, _, rfl, ?_⟩ | refine iteT rfl ?_ | refine iteF Bool.false_ne_true ?_)
        exact (rfl : startD ["text", "run", "line", "step"] [En.d (.str z)] = startD ["text", "run", "line", "step"] [En.d (.str z)])
      subst e
      refine ⟨G, H, none, G', _, F', { nx := fun ρ => ρ = List.set (startD ["text", "run", "line", "step"] [En.d (.str z)]) 1 (some (En.of (.lst (((linesOf z).dropLast).map fun l => O.dat (.tuple (lineD l)))))), rt := fun _ => False, bk := fun _ => False, ct := fun _ => False }, w1, ?_, fun ρ2 σ2 G2 H2 F2 e w2 => ?_, (fun _ _ _ _ _ h => h.elim), (fun _ _ _ _ _ h => h.elim), (fun _ _ _ _ _ h => h.elim)⟩
      · have hsz : z.length + 2 ≤ sizeLine := by rw [sizeLine_eq]; omega
        have hcut := hcut z
        have hfew := read_few hz
        have hfr := frz_run z
        repeat' (first | refine ix0T ?_ | refine ix1T ?_ | refine ix2T ?_ | refine ix0L ?_ | refine ix1L ?_ | refine ix2L ?_ | refine ⟨_, rfl, ?_⟩ | refine ⟨_, _, rfl, rfl, (by show (_ : Nat) ≤ sizeLine; first | assumption | exact big (DOk.strLen (by assumption)) | exact big (DOk.tupLen (by assumption)) | exact big (DOk.lstLen (by assumption)) | exact big (DOw.strLen (by assumption)) | exact big (DOw.tupLen (by assumption)) | exact big (DOw.lstLen (by assumption)) | exact big (DOz.strLen (by assumption)) | exact big (DOz.tupLen (by assumption)) | exact big (DOz.lstLen (by assumption))), ?_⟩ | refine ⟨_, _, rfl, rfl, (by first | decide | (show (0 : Int) < _; decide)), ?_⟩ | refine ⟨_, _, rfl, rfl, ?_⟩ | refine eqR_str ?_ | refine eqR_int ?_ | refine neR_str ?_ | refine neR_int ?_ | refine And.intro rfl ?_ | refine addL (by first | assumption | (rw [sizeLine_eq]; omega) | (rw [sizeLine_eq]; simp; done) | (rw [sizeLine_eq]; simp only [List.length_append, List.length_cons, List.length_nil]; omega)) ?_ | refine addT (by first | assumption | (rw [sizeLine_eq]; omega) | (rw [sizeLine_eq]; simp; done) | (rw [sizeLine_eq]; simp only [List.length_append, List.length_cons, List.length_nil]; omega)) ?_ | refine And.intro (by assumption) ?_ | refine And.intro (by decide) ?_ | refine ⟨_, _, rfl, ?_⟩ | refine iteT rfl ?_ | refine iteF Bool.false_ne_true ?_)
        rw [hcut]
        refine lc_maps (fun l => PyData.str l) ((linesOf z).dropLast) (fun _ => true) (fun l => .dat (.tuple (lineD l))) (by rw [sizeLine_eq]; have := hfew.1; unfold readD at this; rw [List.length_map] at this; omega) (fun l hl yes no y1 y2 => ?_) ?_
        · have y := y1 rfl
          have := (lines_few z).2.1 l (List.dropLast_subset _ hl)
          repeat' (first | refine ix0T ?_ | refine ix1T ?_ | refine ix2T ?_ | refine ix0L ?_ | refine ix1L ?_ | refine ix2L ?_ | refine ⟨_, rfl, ?_⟩ | refine ⟨_, _, rfl, rfl, (by show (_ : Nat) ≤ sizeLine; first | assumption | exact big (DOk.strLen (by assumption)) | exact big (DOk.tupLen (by assumption)) | exact big (DOk.lstLen (by assumption)) | exact big (DOw.strLen (by assumption)) | exact big (DOw.tupLen (by assumption)) | exact big (DOw.lstLen (by assumption)) | exact big (DOz.strLen (by assumption)) | exact big (DOz.tupLen (by assumption)) | exact big (DOz.lstLen (by assumption))), ?_⟩ | refine ⟨_, _, rfl, rfl, (by first | decide | (show (0 : Int) < _; decide)), ?_⟩ | refine ⟨_, _, rfl, rfl, ?_⟩ | refine eqR_str ?_ | refine eqR_int ?_ | refine neR_str ?_ | refine neR_int ?_ | refine And.intro rfl ?_ | refine addL (by first | assumption | (rw [sizeLine_eq]; omega) | (rw [sizeLine_eq]; simp; done) | (rw [sizeLine_eq]; simp only [List.length_append, List.length_cons, List.length_nil]; omega)) ?_ | refine addT (by first | assumption | (rw [sizeLine_eq]; omega) | (rw [sizeLine_eq]; simp; done) | (rw [sizeLine_eq]; simp only [List.length_append, List.length_cons, List.length_nil]; omega)) ?_ | refine And.intro (by assumption) ?_ | refine And.intro (by decide) ?_ | refine ⟨_, _, rfl, ?_⟩ | refine iteT rfl ?_ | refine iteF Bool.false_ne_true ?_)
          exact ⟨by omega, y⟩
        rw [List.filter_eq_self.mpr fun _ _ => rfl]
      subst e
      obtain ⟨G3, F3, w3⟩ := frzAt_wd w2 1
      rw [frz_run] at w3
      refine ⟨G, H, none, G3, _, F3, fun b => b = true, w3, ?_, fun b G' H' hb s => ?_⟩
      · have hfew := read_few hz
        refine ⟨_, rfl, _, rfl, ?_⟩
        refine lc_maps (fun ds => PyData.tuple ds) (readD z) (fun _ => true) (fun ds => .dat (.bool (stepD ds))) (by rw [sizeLine_eq]; have := hfew.1; omega) (fun ds hd yes no y1 y2 => ?_) ?_
        · have y := y1 rfl
          have hk := hfew.2.1 ds hd
          repeat' (first | refine ix0T ?_ | refine ix1T ?_ | refine ix2T ?_ | refine ix0L ?_ | refine ix1L ?_ | refine ix2L ?_ | refine ⟨_, rfl, ?_⟩ | refine ⟨_, _, rfl, rfl, (by show (_ : Nat) ≤ sizeLine; first | assumption | exact big (DOk.strLen (by assumption)) | exact big (DOk.tupLen (by assumption)) | exact big (DOk.lstLen (by assumption)) | exact big (DOw.strLen (by assumption)) | exact big (DOw.tupLen (by assumption)) | exact big (DOw.lstLen (by assumption)) | exact big (DOz.strLen (by assumption)) | exact big (DOz.tupLen (by assumption)) | exact big (DOz.lstLen (by assumption))), ?_⟩ | refine ⟨_, _, rfl, rfl, (by first | decide | (show (0 : Int) < _; decide)), ?_⟩ | refine ⟨_, _, rfl, rfl, ?_⟩ | refine eqR_str ?_ | refine eqR_int ?_ | refine neR_str ?_ | refine neR_int ?_ | refine And.intro rfl ?_ | refine addL (by first | assumption | (rw [sizeLine_eq]; omega) | (rw [sizeLine_eq]; simp; done) | (rw [sizeLine_eq]; simp only [List.length_append, List.length_cons, List.length_nil]; omega)) ?_ | refine addT (by first | assumption | (rw [sizeLine_eq]; omega) | (rw [sizeLine_eq]; simp; done) | (rw [sizeLine_eq]; simp only [List.length_append, List.length_cons, List.length_nil]; omega)) ?_ | refine And.intro (by assumption) ?_ | refine And.intro (by decide) ?_ | refine ⟨_, _, rfl, ?_⟩ | refine iteT rfl ?_ | refine iteF Bool.false_ne_true ?_)
          exact ⟨hk.2.1, hk.2.2.1, hk.2.2.2, y⟩
        rw [List.filter_eq_self.mpr fun _ _ => rfl]
        refine ⟨(readD z).map stepD, ?_, ?_⟩
        · rw [erase_map, List.map_map]
          rfl
        have e5 : ((readD z).map stepD).all id = (readD z).all stepD := by rw [List.all_map]; rfl
        rw [e5]
        unfold okRun at ok
        cases e6 : (readD z).all stepD with
        | false =>
          repeat' (first | refine ix0T ?_ | refine ix1T ?_ | refine ix2T ?_ | refine ix0L ?_ | refine ix1L ?_ | refine ix2L ?_ | refine ⟨_, rfl, ?_⟩ | refine ⟨_, _, rfl, rfl, (by show (_ : Nat) ≤ sizeLine; first | assumption | exact big (DOk.strLen (by assumption)) | exact big (DOk.tupLen (by assumption)) | exact big (DOk.lstLen (by assumption)) | exact big (DOw.strLen (by assumption)) | exact big (DOw.tupLen (by assumption)) | exact big (DOw.lstLen (by assumption)) | exact big (DOz.strLen (by assumption)) | exact big (DOz.tupLen (by assumption)) | exact big (DOz.lstLen (by assumption))), ?_⟩ | refine ⟨_, _, rfl, rfl, (by first | decide | (show (0 : Int) < _; decide)), ?_⟩ | refine ⟨_, _, rfl, rfl, ?_⟩ | refine eqR_str ?_ | refine eqR_int ?_ | refine neR_str ?_ | refine neR_int ?_ | refine And.intro rfl ?_ | refine addL (by first | assumption | (rw [sizeLine_eq]; omega) | (rw [sizeLine_eq]; simp; done) | (rw [sizeLine_eq]; simp only [List.length_append, List.length_cons, List.length_nil]; omega)) ?_ | refine addT (by first | assumption | (rw [sizeLine_eq]; omega) | (rw [sizeLine_eq]; simp; done) | (rw [sizeLine_eq]; simp only [List.length_append, List.length_cons, List.length_nil]; omega)) ?_ | refine And.intro (by assumption) ?_ | refine And.intro (by decide) ?_ | refine ⟨_, _, rfl, ?_⟩ | refine iteT rfl ?_ | refine iteF Bool.false_ne_true ?_)
          exact (rfl : (!false) = true)
        | true =>
          rw [e6, Bool.true_and] at ok
          repeat' (first | refine ix0T ?_ | refine ix1T ?_ | refine ix2T ?_ | refine ix0L ?_ | refine ix1L ?_ | refine ix2L ?_ | refine ⟨_, rfl, ?_⟩ | refine ⟨_, _, rfl, rfl, (by show (_ : Nat) ≤ sizeLine; first | assumption | exact big (DOk.strLen (by assumption)) | exact big (DOk.tupLen (by assumption)) | exact big (DOk.lstLen (by assumption)) | exact big (DOw.strLen (by assumption)) | exact big (DOw.tupLen (by assumption)) | exact big (DOw.lstLen (by assumption)) | exact big (DOz.strLen (by assumption)) | exact big (DOz.tupLen (by assumption)) | exact big (DOz.lstLen (by assumption))), ?_⟩ | refine ⟨_, _, rfl, rfl, (by first | decide | (show (0 : Int) < _; decide)), ?_⟩ | refine ⟨_, _, rfl, rfl, ?_⟩ | refine eqR_str ?_ | refine eqR_int ?_ | refine neR_str ?_ | refine neR_int ?_ | refine And.intro rfl ?_ | refine addL (by first | assumption | (rw [sizeLine_eq]; omega) | (rw [sizeLine_eq]; simp; done) | (rw [sizeLine_eq]; simp only [List.length_append, List.length_cons, List.length_nil]; omega)) ?_ | refine addT (by first | assumption | (rw [sizeLine_eq]; omega) | (rw [sizeLine_eq]; simp; done) | (rw [sizeLine_eq]; simp only [List.length_append, List.length_cons, List.length_nil]; omega)) ?_ | refine And.intro (by assumption) ?_ | refine And.intro (by decide) ?_ | refine ⟨_, _, rfl, ?_⟩ | refine iteT rfl ?_ | refine iteF Bool.false_ne_true ?_)
          refine ⟨fun r m => (hfew.2.1 r m).1, hfew.2.2, ?_⟩
          repeat' (first | refine ix0T ?_ | refine ix1T ?_ | refine ix2T ?_ | refine ix0L ?_ | refine ix1L ?_ | refine ix2L ?_ | refine ⟨_, rfl, ?_⟩ | refine ⟨_, _, rfl, rfl, (by show (_ : Nat) ≤ sizeLine; first | assumption | exact big (DOk.strLen (by assumption)) | exact big (DOk.tupLen (by assumption)) | exact big (DOk.lstLen (by assumption)) | exact big (DOw.strLen (by assumption)) | exact big (DOw.tupLen (by assumption)) | exact big (DOw.lstLen (by assumption)) | exact big (DOz.strLen (by assumption)) | exact big (DOz.tupLen (by assumption)) | exact big (DOz.lstLen (by assumption))), ?_⟩ | refine ⟨_, _, rfl, rfl, (by first | decide | (show (0 : Int) < _; decide)), ?_⟩ | refine ⟨_, _, rfl, rfl, ?_⟩ | refine eqR_str ?_ | refine eqR_int ?_ | refine neR_str ?_ | refine neR_int ?_ | refine And.intro rfl ?_ | refine addL (by first | assumption | (rw [sizeLine_eq]; omega) | (rw [sizeLine_eq]; simp; done) | (rw [sizeLine_eq]; simp only [List.length_append, List.length_cons, List.length_nil]; omega)) ?_ | refine addT (by first | assumption | (rw [sizeLine_eq]; omega) | (rw [sizeLine_eq]; simp; done) | (rw [sizeLine_eq]; simp only [List.length_append, List.length_cons, List.length_nil]; omega)) ?_ | refine And.intro (by assumption) ?_ | refine And.intro (by decide) ?_ | refine ⟨_, _, rfl, ?_⟩ | refine iteT rfl ?_ | refine iteF Bool.false_ne_true ?_)
          rw [ok]
          exact (rfl : (!false) = true)
      · subst hb
        show if true = true then _ else _
        rw [if_pos rfl]
        exact ⟨fun a ha => ⟨a, rfl, rfl, rfl⟩, q H' fun b u h => s.keep b u (w3.keep b u h (fun c e => nomatch e)) (fun c e => nomatch e)⟩
end
end K96
set_option Elab.async false
set_option linter.all false
set_option maxRecDepth 100000
set_option maxHeartbeats 1000000
set_option pp.maxSteps 500
/-! K96h: the law's own words, figures -/
namespace K96
open PySem PySem.Spec PyProof.Rows L2 GL DL
def asc (z : Str) : Bool := z.cps.toList.all fun c => decide (c < 128)
theorem asc_mem {z : Str} (h : asc z = true) {c : Nat} (m : c ∈ z.cps.toList) : c < 128 := of_decide_eq_true (List.all_eq_true.mp h c m)
theorem dow_asc {z : Str} (h : asc z = true) (k : z.length ≤ 100000) : DOw (.str z) := by
  refine ⟨?_, ?_, ?_, ?_, ?_⟩
  · simp only [PyData.canLay0]
    unfold PyData.strOk
    rw [← Array.all_toList]
    exact List.all_eq_true.mpr fun c m => decide_eq_true (by have := asc_mem h m; omega)
  · simp only [PyData.leavesShort]
    exact List.all_eq_true.mpr fun c m => decide_eq_true (by have := asc_mem h m; omega)
  · simp only [PyData.weight]
    exact k
  · simp [PyData.depth]
  · simp [PyData.showable]
theorem dow_sign {c : Nat} (h : c < 128) : DOw (.str (signS c)) := dow_asc (by unfold asc signS; simp [h]) (by simp [signS, Str.length])
theorem dow_one : DOw (.int 1) := ⟨rfl, by decide +kernel, by decide +kernel, by decide +kernel, rfl⟩
theorem let_in (c : Nat) : decide (c ∈ ("abcdefghijklmnopqrstuvwxyz" : Str).cps.toList) = letD c := by
  have e : ("abcdefghijklmnopqrstuvwxyz" : Str).cps.toList = [97, 98, 99, 100, 101, 102, 103, 104, 105, 106, 107, 108, 109, 110, 111, 112, 113, 114, 115, 116, 117, 118, 119, 120, 121, 122] := by decide +kernel
  rw [e]
  unfold letD
  rw [Bool.eq_iff_iff, decide_eq_true_eq, Bool.and_eq_true, decide_eq_true_eq, decide_eq_true_eq]
  simp only [List.mem_cons, List.not_mem_nil, or_false]
  omega
theorem neR_nilW {ds : List PyData} {P : PyData → Prop} (h : ∀ d ∈ ds, DOw d) (p : P (.bool (!decide (ds = [])))) : eqR true (.list ds) (.list []) P := by
  obtain ⟨h1, h2, h3⟩ := dow_hd h
  refine neR_dat (by simp only [PyData.hasDict]; exact h1) rfl ?_ (by decide +kernel) ?_
  · unfold SeqAt.shaped
    simp only [PyData.canLay0, h2, Bool.true_and, PyData.depth]
    exact decide_eq_true (Nat.le_trans (Nat.succ_le_succ h3) (by decide))
  · cases ds <;> exact p
def spText (f : Str → PyData) : DSp := fun as P => ∃ z, as = [.d (.str z)] ∧ z.length ≤ 90000 ∧ asc z = true ∧ P (.dat (f z))
theorem flt_nil {α β : Type} (p : α → Bool) (f : α → β) (l : List α) : decide ((l.filter fun x => !p x).map f = []) = l.all p := by
  induction l with
  | nil => rfl
  | cons a r ih =>
    cases h : p a with
    | false => simp [h]
    | true =>
      rw [List.filter_cons_of_neg (by simp [h]), List.all_cons, h, Bool.true_and]
      exact ih
abbrev formsK : List (Str × Str) := [("writer", "i ii"), ("begin", "n"), ("end", "n"), ("leave", "i"), ("root", "in"), ("field", "iin"), ("mark", "ii")]
def formT (z : Str) : Str := ((formsK.find? fun p => p.1 = z).map (·.2)).getD ""
/-- a word of such a letter -/
def goodW (p : Nat × Str) : Bool := if p.1 = 105 then figS p.2 else nameS p.2
def convW (p : Nat × Str) : PyData := if p.1 = 105 then .int (valS p.2) else .str p.2
def goodF (f : Str) (ws : List Str) : Bool := (decide (f.length = ws.length) && decide (f ≠ "")) && (f.cps.toList.zip ws).all goodW
def stepW : List Str → PyData
  | [] => .none
  | w :: ws => if w :: ws = [("enter" : Str)] then .tuple [.str "enter"] else
    match (Txt.split (formT w) " ").find? fun f => goodF f ws with
    | some f => .tuple (.str w :: (f.cps.toList.zip ws).map convW)
    | none => .none
def stepL (z : Str) : PyData := stepW (wordsOf z)
section
variable {P : Program} {w : World} {K : PySem.W.Frag} {mg : Str → Option Value} {base : Heap} {f C : Addr} {fd : FuncData}
theorem sc_is_spelt : FnScope ["_law_thing", "_law_sign"] ["_law_thing"] (defScope s_is_spelt) := ⟨rfl, rfl, rfl, by decide +kernel, rfl, by decide +kernel, by decide +kernel⟩
theorem ok_is_spelt (F : Fun K "_law_is_spelt" "_law_is_spelt" s_is_spelt f fd) (T : Txt0 mg) : FnG P w K mg base 1 f fd ["_law_thing"] (spF K (spText fun z => .bool (nameS z))) := by
  refine okD F sc_is_spelt (fun as Q h => by obtain ⟨d, rfl, _⟩ := h; rfl) fun cdv A out s H E hG hr => have hu := units_ofx hr; ⟨_, (dss_cons (ds_if (DW.db (dw_or (db_not (db_val (de_isi (T := "str") rfl (de_v (pv 0)) (by rfl) T.m_isinstance (by rfl) T.m_str (by decide +kernel) (by decide)))) (dw_or (db_cmp op_lt od_Ib (de_len rfl T.m_len (de_v (pv 0))) de_int (nomark _)) (dw_or1 (db_cmp op_gt od_Ib (de_len rfl T.m_len (de_v (pv 0))) de_int (nomark _))))))
(dss_one (ds_ret (DE.o de_bl)))
dss_nil)
(dss_one (ds_ret (DE.o (de_eq rfl hu (DO.d (do_lc (own := [("_law_sign", 1)]) rfl sc_is_spelt.nd (di_any rfl (de_v (pv 0))) (blkOk_by (N := ["_law_thing", "_law_sign"]) (sc := defScope s_is_spelt) (by decide +kernel)) (fun _ _ _ _ _ => (dg_name (pg_name (i := 1) sc_is_spelt.nd rfl (.inl rfl)))) (fun _ _ _ _ _ => (dts_one (db_cmp op_notIn_sign od_ninS (de_v (pv 1)) de_str (by with_unfolding_all rfl)))) (fun _ _ _ _ _ => (DE.o (de_v (pv 1)))))) (DO.d (do_lst da_nil))))))), fun as Q h => ?_⟩
  obtain ⟨z, rfl, hz, ha, q⟩ := h
  have hz1 : z.length ≤ sizeLine := big (by omega)
  have q : Q (.dat (.bool (nameS z))) := q
  unfold nameS at q
  repeat' (first | refine ix0T ?_ | refine ix1T ?_ | refine ix2T ?_ | refine ix0L ?_ | refine ix1L ?_ | refine ix2L ?_ | refine ⟨_, rfl, ?_⟩ | refine ⟨_, _, rfl, rfl, (by show (_ : Nat) ≤ sizeLine; first | assumption | exact big (DOk.strLen (by assumption)) | exact big (DOk.tupLen (by assumption)) | exact big (DOk.lstLen (by assumption)) | exact big (DOw.strLen (by assumption)) | exact big (DOw.tupLen (by assumption)) | exact big (DOw.lstLen (by assumption)) | exact big (DOz.strLen (by assumption)) | exact big (DOz.tupLen (by assumption)) | exact big (DOz.lstLen (by assumption))), ?_⟩ | refine ⟨_, _, rfl, rfl, (by first | decide | (show (0 : Int) < _; decide)), ?_⟩ | refine ⟨_, _, rfl, rfl, ?_⟩ | refine eqR_str ?_ | refine eqR_int ?_ | refine neR_str ?_ | refine neR_int ?_ | refine And.intro rfl ?_ | refine addL (by first | assumption | (rw [sizeLine_eq]; omega) | (rw [sizeLine_eq]; simp; done) | (rw [sizeLine_eq]; simp only [List.length_append, List.length_cons, List.length_nil]; omega)) ?_ | refine addT (by first | assumption | (rw [sizeLine_eq]; omega) | (rw [sizeLine_eq]; simp; done) | (rw [sizeLine_eq]; simp only [List.length_append, List.length_cons, List.length_nil]; omega)) ?_ | refine And.intro (by assumption) ?_ | refine And.intro (by decide) ?_ | refine ⟨_, _, rfl, ?_⟩ | refine iteT rfl ?_ | refine iteF Bool.false_ne_true ?_)
  refine iteB (fun e => ?_) (fun e => ?_)
  · have h1 : ¬ 1 ≤ z.length := by have := of_decide_eq_true e; omega
    rw [decide_eq_false h1, Bool.false_and] at q
    exact q
  have h1 : 1 ≤ z.length := by have := of_decide_eq_false e; omega
  repeat' (first | refine ix0T ?_ | refine ix1T ?_ | refine ix2T ?_ | refine ix0L ?_ | refine ix1L ?_ | refine ix2L ?_ | refine ⟨_, rfl, ?_⟩ | refine ⟨_, _, rfl, rfl, (by show (_ : Nat) ≤ sizeLine; first | assumption | exact big (DOk.strLen (by assumption)) | exact big (DOk.tupLen (by assumption)) | exact big (DOk.lstLen (by assumption)) | exact big (DOw.strLen (by assumption)) | exact big (DOw.tupLen (by assumption)) | exact big (DOw.lstLen (by assumption)) | exact big (DOz.strLen (by assumption)) | exact big (DOz.tupLen (by assumption)) | exact big (DOz.lstLen (by assumption))), ?_⟩ | refine ⟨_, _, rfl, rfl, (by first | decide | (show (0 : Int) < _; decide)), ?_⟩ | refine ⟨_, _, rfl, rfl, ?_⟩ | refine eqR_str ?_ | refine eqR_int ?_ | refine neR_str ?_ | refine neR_int ?_ | refine And.intro rfl ?_ | refine addL (by first | assumption | (rw [sizeLine_eq]; omega) | (rw [sizeLine_eq]; simp; done) | (rw [sizeLine_eq]; simp only [List.length_append, List.length_cons, List.length_nil]; omega)) ?_ | refine addT (by first | assumption | (rw [sizeLine_eq]; omega) | (rw [sizeLine_eq]; simp; done) | (rw [sizeLine_eq]; simp only [List.length_append, List.length_cons, List.length_nil]; omega)) ?_ | refine And.intro (by assumption) ?_ | refine And.intro (by decide) ?_ | refine ⟨_, _, rfl, ?_⟩ | refine iteT rfl ?_ | refine iteF Bool.false_ne_true ?_)
  refine iteB (fun e => ?_) (fun e => ?_)
  · have h2 : ¬ z.length ≤ 8 := by have := of_decide_eq_true e; omega
    rw [decide_eq_true h1, decide_eq_false h2, Bool.false_and, Bool.and_false] at q
    exact q
  have h2 : z.length ≤ 8 := by have := of_decide_eq_false e; omega
  rw [decide_eq_true h1, decide_eq_true h2, Bool.true_and, Bool.true_and] at q
  repeat' (first | refine ix0T ?_ | refine ix1T ?_ | refine ix2T ?_ | refine ix0L ?_ | refine ix1L ?_ | refine ix2L ?_ | refine ⟨_, rfl, ?_⟩ | refine ⟨_, _, rfl, rfl, (by show (_ : Nat) ≤ sizeLine; first | assumption | exact big (DOk.strLen (by assumption)) | exact big (DOk.tupLen (by assumption)) | exact big (DOk.lstLen (by assumption)) | exact big (DOw.strLen (by assumption)) | exact big (DOw.tupLen (by assumption)) | exact big (DOw.lstLen (by assumption)) | exact big (DOz.strLen (by assumption)) | exact big (DOz.tupLen (by assumption)) | exact big (DOz.lstLen (by assumption))), ?_⟩ | refine ⟨_, _, rfl, rfl, (by first | decide | (show (0 : Int) < _; decide)), ?_⟩ | refine ⟨_, _, rfl, rfl, ?_⟩ | refine eqR_str ?_ | refine eqR_int ?_ | refine neR_str ?_ | refine neR_int ?_ | refine And.intro rfl ?_ | refine addL (by first | assumption | (rw [sizeLine_eq]; omega) | (rw [sizeLine_eq]; simp; done) | (rw [sizeLine_eq]; simp only [List.length_append, List.length_cons, List.length_nil]; omega)) ?_ | refine addT (by first | assumption | (rw [sizeLine_eq]; omega) | (rw [sizeLine_eq]; simp; done) | (rw [sizeLine_eq]; simp only [List.length_append, List.length_cons, List.length_nil]; omega)) ?_ | refine And.intro (by assumption) ?_ | refine And.intro (by decide) ?_ | refine ⟨_, _, rfl, ?_⟩ | refine iteT rfl ?_ | refine iteF Bool.false_ne_true ?_)
  refine lc_maps (fun c => PyData.str (signS c)) z.cps.toList (fun c => !letD c) (fun c => .dat (.str (signS c))) (big' (show z.length ≤ 100000 by omega)) (fun c hc yes no y1 y2 => ?_) ?_
  · repeat' (first | refine ix0T ?_ | refine ix1T ?_ | refine ix2T ?_ | refine ix0L ?_ | refine ix1L ?_ | refine ix2L ?_ | refine ⟨_, rfl, ?_⟩ | refine ⟨_, _, rfl, rfl, (by show (_ : Nat) ≤ sizeLine; first | assumption | exact big (DOk.strLen (by assumption)) | exact big (DOk.tupLen (by assumption)) | exact big (DOk.lstLen (by assumption)) | exact big (DOw.strLen (by assumption)) | exact big (DOw.tupLen (by assumption)) | exact big (DOw.lstLen (by assumption)) | exact big (DOz.strLen (by assumption)) | exact big (DOz.tupLen (by assumption)) | exact big (DOz.lstLen (by assumption))), ?_⟩ | refine ⟨_, _, rfl, rfl, (by first | decide | (show (0 : Int) < _; decide)), ?_⟩ | refine ⟨_, _, rfl, rfl, ?_⟩ | refine eqR_str ?_ | refine eqR_int ?_ | refine neR_str ?_ | refine neR_int ?_ | refine And.intro rfl ?_ | refine addL (by first | assumption | (rw [sizeLine_eq]; omega) | (rw [sizeLine_eq]; simp; done) | (rw [sizeLine_eq]; simp only [List.length_append, List.length_cons, List.length_nil]; omega)) ?_ | refine addT (by first | assumption | (rw [sizeLine_eq]; omega) | (rw [sizeLine_eq]; simp; done) | (rw [sizeLine_eq]; simp only [List.length_append, List.length_cons, List.length_nil]; omega)) ?_ | refine And.intro (by assumption) ?_ | refine And.intro (by decide) ?_ | refine ⟨_, _, rfl, ?_⟩ | refine iteT rfl ?_ | refine iteF Bool.false_ne_true ?_)
    rw [let_in]
    refine iteB (fun e => ?_) (fun e => ?_)
    · repeat' (first | refine ix0T ?_ | refine ix1T ?_ | refine ix2T ?_ | refine ix0L ?_ | refine ix1L ?_ | refine ix2L ?_ | refine ⟨_, rfl, ?_⟩ | refine ⟨_, _, rfl, rfl, (by show (_ : Nat) ≤ sizeLine; first | assumption | exact big (DOk.strLen (by assumption)) | exact big (DOk.tupLen (by assumption)) | exact big (DOk.lstLen (by assumption)) | exact big (DOw.strLen (by assumption)) | exact big (DOw.tupLen (by assumption)) | exact big (DOw.lstLen (by assumption)) | exact big (DOz.strLen (by assumption)) | exact big (DOz.tupLen (by assumption)) | exact big (DOz.lstLen (by assumption))), ?_⟩ | refine ⟨_, _, rfl, rfl, (by first | decide | (show (0 : Int) < _; decide)), ?_⟩ | refine ⟨_, _, rfl, rfl, ?_⟩ | refine eqR_str ?_ | refine eqR_int ?_ | refine neR_str ?_ | refine neR_int ?_ | refine And.intro rfl ?_ | refine addL (by first | assumption | (rw [sizeLine_eq]; omega) | (rw [sizeLine_eq]; simp; done) | (rw [sizeLine_eq]; simp only [List.length_append, List.length_cons, List.length_nil]; omega)) ?_ | refine addT (by first | assumption | (rw [sizeLine_eq]; omega) | (rw [sizeLine_eq]; simp; done) | (rw [sizeLine_eq]; simp only [List.length_append, List.length_cons, List.length_nil]; omega)) ?_ | refine And.intro (by assumption) ?_ | refine And.intro (by decide) ?_ | refine ⟨_, _, rfl, ?_⟩ | refine iteT rfl ?_ | refine iteF Bool.false_ne_true ?_)
      exact y1 e
    · exact y2 e
  show eqR false (.list (eraseAll (List.map (fun c => O.dat (.str (signS c))) (z.cps.toList.filter fun c => !letD c)))) (.list []) _
  rw [era_map]
  refine eqR_nilW (fun d m => ?_) ?_
  · obtain ⟨c, hc, rfl⟩ := List.mem_map.mp m
    exact dow_sign (asc_mem ha (List.mem_filter.mp hc).1)
  rw [flt_nil]
  repeat' (first | refine ix0T ?_ | refine ix1T ?_ | refine ix2T ?_ | refine ix0L ?_ | refine ix1L ?_ | refine ix2L ?_ | refine ⟨_, rfl, ?_⟩ | refine ⟨_, _, rfl, rfl, (by show (_ : Nat) ≤ sizeLine; first | assumption | exact big (DOk.strLen (by assumption)) | exact big (DOk.tupLen (by assumption)) | exact big (DOk.lstLen (by assumption)) | exact big (DOw.strLen (by assumption)) | exact big (DOw.tupLen (by assumption)) | exact big (DOw.lstLen (by assumption)) | exact big (DOz.strLen (by assumption)) | exact big (DOz.tupLen (by assumption)) | exact big (DOz.lstLen (by assumption))), ?_⟩ | refine ⟨_, _, rfl, rfl, (by first | decide | (show (0 : Int) < _; decide)), ?_⟩ | refine ⟨_, _, rfl, rfl, ?_⟩ | refine eqR_str ?_ | refine eqR_int ?_ | refine neR_str ?_ | refine neR_int ?_ | refine And.intro rfl ?_ | refine addL (by first | assumption | (rw [sizeLine_eq]; omega) | (rw [sizeLine_eq]; simp; done) | (rw [sizeLine_eq]; simp only [List.length_append, List.length_cons, List.length_nil]; omega)) ?_ | refine addT (by first | assumption | (rw [sizeLine_eq]; omega) | (rw [sizeLine_eq]; simp; done) | (rw [sizeLine_eq]; simp only [List.length_append, List.length_cons, List.length_nil]; omega)) ?_ | refine And.intro (by assumption) ?_ | refine And.intro (by decide) ?_ | refine ⟨_, _, rfl, ?_⟩ | refine iteT rfl ?_ | refine iteF Bool.false_ne_true ?_)
  exact q
theorem sc_is_figure : FnScope ["_law_word", "_law_sign"] ["_law_word"] (defScope s_is_figure) := ⟨rfl, rfl, rfl, by decide +kernel, rfl, by decide +kernel, by decide +kernel⟩
theorem ok_is_figure (F : Fun K "_law_is_figure" "_law_is_figure" s_is_figure f fd) (T : Txt0 mg) : FnG P w K mg base 1 f fd ["_law_word"] (spF K (spText fun z => .bool (figS z))) := by
  refine okD F sc_is_figure (fun as Q h => by obtain ⟨d, rfl, _⟩ := h; rfl) fun cdv A out s H E hG hr => have hu := units_ofx hr; ⟨_, (dss_cons (ds_if (DW.db (dw_or (db_eq rfl hu (de_v (pv 0)) de_str) (dw_or (db_cmp op_gt od_Ib (de_len rfl T.m_len (de_v (pv 0))) de_int (nomark _)) (dw_or1 (db_ne rfl hu (DO.d (do_lc (own := [("_law_sign", 1)]) rfl sc_is_figure.nd (di_any rfl (de_v (pv 0))) (blkOk_by (N := ["_law_word", "_law_sign"]) (sc := defScope s_is_figure) (by decide +kernel)) (fun _ _ _ _ _ => (dg_name (pg_name (i := 1) sc_is_figure.nd rfl (.inl rfl)))) (fun _ _ _ _ _ => (dts_one (db_cmp op_notIn_sign od_ninS (de_v (pv 1)) de_str (by with_unfolding_all rfl)))) (fun _ _ _ _ _ => (DE.o de_int)))) (DO.d (do_lst da_nil)))))))
(dss_one (ds_ret (DE.o de_bl)))
dss_nil)
(dss_one (ds_ret (DE.o (de_or (de_eq rfl hu (de_v (pv 0)) de_str) (de_one (de_ne rfl hu (de_ixA rfl (de_v (pv 0)) de_int) de_str))))))), fun as Q h => ?_⟩
  obtain ⟨z, rfl, hz, ha, q⟩ := h
  have hz1 : z.length ≤ sizeLine := big (by omega)
  have hl := len_cps z
  have q : Q (.dat (.bool (figS z))) := q
  repeat' (first | refine ix0T ?_ | refine ix1T ?_ | refine ix2T ?_ | refine ix0L ?_ | refine ix1L ?_ | refine ix2L ?_ | refine ⟨_, rfl, ?_⟩ | refine ⟨_, _, rfl, rfl, (by show (_ : Nat) ≤ sizeLine; first | assumption | exact big (DOk.strLen (by assumption)) | exact big (DOk.tupLen (by assumption)) | exact big (DOk.lstLen (by assumption)) | exact big (DOw.strLen (by assumption)) | exact big (DOw.tupLen (by assumption)) | exact big (DOw.lstLen (by assumption)) | exact big (DOz.strLen (by assumption)) | exact big (DOz.tupLen (by assumption)) | exact big (DOz.lstLen (by assumption))), ?_⟩ | refine ⟨_, _, rfl, rfl, (by first | decide | (show (0 : Int) < _; decide)), ?_⟩ | refine ⟨_, _, rfl, rfl, ?_⟩ | refine eqR_str ?_ | refine eqR_int ?_ | refine neR_str ?_ | refine neR_int ?_ | refine And.intro rfl ?_ | refine addL (by first | assumption | (rw [sizeLine_eq]; omega) | (rw [sizeLine_eq]; simp; done) | (rw [sizeLine_eq]; simp only [List.length_append, List.length_cons, List.length_nil]; omega)) ?_ | refine addT (by first | assumption | (rw [sizeLine_eq]; omega) | (rw [sizeLine_eq]; simp; done) | (rw [sizeLine_eq]; simp only [List.length_append, List.length_cons, List.length_nil]; omega)) ?_ | refine And.intro (by assumption) ?_ | refine And.intro (by decide) ?_ | refine ⟨_, _, rfl, ?_⟩ | refine iteT rfl ?_ | refine iteF Bool.false_ne_true ?_)
  refine iteB (fun e => ?_) (fun e => ?_)
  · have e2 : figS z = false := by rw [of_decide_eq_true e]; decide +kernel
    rw [e2] at q
    exact q
  obtain ⟨c, r, ez⟩ : ∃ c r, z.cps.toList = c :: r := by
    cases ez : z.cps.toList with
    | nil => exact absurd (TL.ext_tl (x := z) (y := "") (by show z.cps.toList = _; rw [ez]; decide +kernel)) (of_decide_eq_false e)
    | cons c r => exact ⟨c, r, rfl⟩
  have e9 : figS z = (decide (z.length ≤ 40) && (z.cps.toList.all digC && (decide (c ≠ 48) || decide (r = [])))) := by
    unfold figS
    rw [hl, ez]
    rfl
  rw [e9] at q
  repeat' (first | refine ix0T ?_ | refine ix1T ?_ | refine ix2T ?_ | refine ix0L ?_ | refine ix1L ?_ | refine ix2L ?_ | refine ⟨_, rfl, ?_⟩ | refine ⟨_, _, rfl, rfl, (by show (_ : Nat) ≤ sizeLine; first | assumption | exact big (DOk.strLen (by assumption)) | exact big (DOk.tupLen (by assumption)) | exact big (DOk.lstLen (by assumption)) | exact big (DOw.strLen (by assumption)) | exact big (DOw.tupLen (by assumption)) | exact big (DOw.lstLen (by assumption)) | exact big (DOz.strLen (by assumption)) | exact big (DOz.tupLen (by assumption)) | exact big (DOz.lstLen (by assumption))), ?_⟩ | refine ⟨_, _, rfl, rfl, (by first | decide | (show (0 : Int) < _; decide)), ?_⟩ | refine ⟨_, _, rfl, rfl, ?_⟩ | refine eqR_str ?_ | refine eqR_int ?_ | refine neR_str ?_ | refine neR_int ?_ | refine And.intro rfl ?_ | refine addL (by first | assumption | (rw [sizeLine_eq]; omega) | (rw [sizeLine_eq]; simp; done) | (rw [sizeLine_eq]; simp only [List.length_append, List.length_cons, List.length_nil]; omega)) ?_ | refine addT (by first | assumption | (rw [sizeLine_eq]; omega) | (rw [sizeLine_eq]; simp; done) | (rw [sizeLine_eq]; simp only [List.length_append, List.length_cons, List.length_nil]; omega)) ?_ | refine And.intro (by assumption) ?_ | refine And.intro (by decide) ?_ | refine ⟨_, _, rfl, ?_⟩ | refine iteT rfl ?_ | refine iteF Bool.false_ne_true ?_)
  refine iteB (fun e => ?_) (fun e => ?_)
  · have h2 : ¬ z.length ≤ 40 := by have := of_decide_eq_true e; omega
    rw [decide_eq_false h2, Bool.false_and] at q
    exact q
  have h2 : z.length ≤ 40 := by have := of_decide_eq_false e; omega
  rw [decide_eq_true h2, Bool.true_and] at q
  repeat' (first | refine ix0T ?_ | refine ix1T ?_ | refine ix2T ?_ | refine ix0L ?_ | refine ix1L ?_ | refine ix2L ?_ | refine ⟨_, rfl, ?_⟩ | refine ⟨_, _, rfl, rfl, (by show (_ : Nat) ≤ sizeLine; first | assumption | exact big (DOk.strLen (by assumption)) | exact big (DOk.tupLen (by assumption)) | exact big (DOk.lstLen (by assumption)) | exact big (DOw.strLen (by assumption)) | exact big (DOw.tupLen (by assumption)) | exact big (DOw.lstLen (by assumption)) | exact big (DOz.strLen (by assumption)) | exact big (DOz.tupLen (by assumption)) | exact big (DOz.lstLen (by assumption))), ?_⟩ | refine ⟨_, _, rfl, rfl, (by first | decide | (show (0 : Int) < _; decide)), ?_⟩ | refine ⟨_, _, rfl, rfl, ?_⟩ | refine eqR_str ?_ | refine eqR_int ?_ | refine neR_str ?_ | refine neR_int ?_ | refine And.intro rfl ?_ | refine addL (by first | assumption | (rw [sizeLine_eq]; omega) | (rw [sizeLine_eq]; simp; done) | (rw [sizeLine_eq]; simp only [List.length_append, List.length_cons, List.length_nil]; omega)) ?_ | refine addT (by first | assumption | (rw [sizeLine_eq]; omega) | (rw [sizeLine_eq]; simp; done) | (rw [sizeLine_eq]; simp only [List.length_append, List.length_cons, List.length_nil]; omega)) ?_ | refine And.intro (by assumption) ?_ | refine And.intro (by decide) ?_ | refine ⟨_, _, rfl, ?_⟩ | refine iteT rfl ?_ | refine iteF Bool.false_ne_true ?_)
  refine lc_maps (fun c => PyData.str (signS c)) z.cps.toList (fun c => !digC c) (fun c => .dat (.int 1)) (big' (show z.length ≤ 100000 by omega)) (fun c hc yes no y1 y2 => ?_) ?_
  · repeat' (first | refine ix0T ?_ | refine ix1T ?_ | refine ix2T ?_ | refine ix0L ?_ | refine ix1L ?_ | refine ix2L ?_ | refine ⟨_, rfl, ?_⟩ | refine ⟨_, _, rfl, rfl, (by show (_ : Nat) ≤ sizeLine; first | assumption | exact big (DOk.strLen (by assumption)) | exact big (DOk.tupLen (by assumption)) | exact big (DOk.lstLen (by assumption)) | exact big (DOw.strLen (by assumption)) | exact big (DOw.tupLen (by assumption)) | exact big (DOw.lstLen (by assumption)) | exact big (DOz.strLen (by assumption)) | exact big (DOz.tupLen (by assumption)) | exact big (DOz.lstLen (by assumption))), ?_⟩ | refine ⟨_, _, rfl, rfl, (by first | decide | (show (0 : Int) < _; decide)), ?_⟩ | refine ⟨_, _, rfl, rfl, ?_⟩ | refine eqR_str ?_ | refine eqR_int ?_ | refine neR_str ?_ | refine neR_int ?_ | refine And.intro rfl ?_ | refine addL (by first | assumption | (rw [sizeLine_eq]; omega) | (rw [sizeLine_eq]; simp; done) | (rw [sizeLine_eq]; simp only [List.length_append, List.length_cons, List.length_nil]; omega)) ?_ | refine addT (by first | assumption | (rw [sizeLine_eq]; omega) | (rw [sizeLine_eq]; simp; done) | (rw [sizeLine_eq]; simp only [List.length_append, List.length_cons, List.length_nil]; omega)) ?_ | refine And.intro (by assumption) ?_ | refine And.intro (by decide) ?_ | refine ⟨_, _, rfl, ?_⟩ | refine iteT rfl ?_ | refine iteF Bool.false_ne_true ?_)
    rw [dig_in]
    refine iteB (fun e => ?_) (fun e => ?_)
    · exact y1 e
    · exact y2 e
  show eqR true (.list (eraseAll (List.map (fun c => O.dat (.int 1)) (z.cps.toList.filter fun c => !digC c)))) (.list []) _
  rw [era_map]
  refine neR_nilW (fun d m => ?_) ?_
  · obtain ⟨c, _, rfl⟩ := List.mem_map.mp m
    exact dow_one
  rw [flt_nil]
  repeat' (first | refine ix0T ?_ | refine ix1T ?_ | refine ix2T ?_ | refine ix0L ?_ | refine ix1L ?_ | refine ix2L ?_ | refine ⟨_, rfl, ?_⟩ | refine ⟨_, _, rfl, rfl, (by show (_ : Nat) ≤ sizeLine; first | assumption | exact big (DOk.strLen (by assumption)) | exact big (DOk.tupLen (by assumption)) | exact big (DOk.lstLen (by assumption)) | exact big (DOw.strLen (by assumption)) | exact big (DOw.tupLen (by assumption)) | exact big (DOw.lstLen (by assumption)) | exact big (DOz.strLen (by assumption)) | exact big (DOz.tupLen (by assumption)) | exact big (DOz.lstLen (by assumption))), ?_⟩ | refine ⟨_, _, rfl, rfl, (by first | decide | (show (0 : Int) < _; decide)), ?_⟩ | refine ⟨_, _, rfl, rfl, ?_⟩ | refine eqR_str ?_ | refine eqR_int ?_ | refine neR_str ?_ | refine neR_int ?_ | refine And.intro rfl ?_ | refine addL (by first | assumption | (rw [sizeLine_eq]; omega) | (rw [sizeLine_eq]; simp; done) | (rw [sizeLine_eq]; simp only [List.length_append, List.length_cons, List.length_nil]; omega)) ?_ | refine addT (by first | assumption | (rw [sizeLine_eq]; omega) | (rw [sizeLine_eq]; simp; done) | (rw [sizeLine_eq]; simp only [List.length_append, List.length_cons, List.length_nil]; omega)) ?_ | refine And.intro (by assumption) ?_ | refine And.intro (by decide) ?_ | refine ⟨_, _, rfl, ?_⟩ | refine iteT rfl ?_ | refine iteF Bool.false_ne_true ?_)
  refine iteB (fun e => ?_) (fun e => ?_)
  · have e4 : z.cps.toList.all digC = false := by rw [Bool.not_eq_true'] at e; exact e
    rw [e4, Bool.false_and] at q
    exact q
  have e4 : z.cps.toList.all digC = true := by rw [Bool.not_eq_false'] at e; exact e
  rw [e4, Bool.true_and] at q
  repeat' (first | refine ix0T ?_ | refine ix1T ?_ | refine ix2T ?_ | refine ix0L ?_ | refine ix1L ?_ | refine ix2L ?_ | refine ⟨_, rfl, ?_⟩ | refine ⟨_, _, rfl, rfl, (by show (_ : Nat) ≤ sizeLine; first | assumption | exact big (DOk.strLen (by assumption)) | exact big (DOk.tupLen (by assumption)) | exact big (DOk.lstLen (by assumption)) | exact big (DOw.strLen (by assumption)) | exact big (DOw.tupLen (by assumption)) | exact big (DOw.lstLen (by assumption)) | exact big (DOz.strLen (by assumption)) | exact big (DOz.tupLen (by assumption)) | exact big (DOz.lstLen (by assumption))), ?_⟩ | refine ⟨_, _, rfl, rfl, (by first | decide | (show (0 : Int) < _; decide)), ?_⟩ | refine ⟨_, _, rfl, rfl, ?_⟩ | refine eqR_str ?_ | refine eqR_int ?_ | refine neR_str ?_ | refine neR_int ?_ | refine And.intro rfl ?_ | refine addL (by first | assumption | (rw [sizeLine_eq]; omega) | (rw [sizeLine_eq]; simp; done) | (rw [sizeLine_eq]; simp only [List.length_append, List.length_cons, List.length_nil]; omega)) ?_ | refine addT (by first | assumption | (rw [sizeLine_eq]; omega) | (rw [sizeLine_eq]; simp; done) | (rw [sizeLine_eq]; simp only [List.length_append, List.length_cons, List.length_nil]; omega)) ?_ | refine And.intro (by assumption) ?_ | refine And.intro (by decide) ?_ | refine ⟨_, _, rfl, ?_⟩ | refine iteT rfl ?_ | refine iteF Bool.false_ne_true ?_)
  have e48 : ("0" : Str).cps.toList = [48] := by decide +kernel
  refine iteB (fun e => ?_) (fun e => ?_)
  · have h3 : r = [] := by
      have h4 := ez
      rw [of_decide_eq_true e, e48] at h4
      cases h4
      rfl
    rw [decide_eq_true h3, Bool.or_true] at q
    exact q
  refine ⟨_, rfl, .str (signS c), by unfold ixD; simp only []; rw [if_pos hz1, ez, at0]; rfl, ?_⟩
  refine neR_str ?_
  have e7 : (!decide (signS c = ("0" : Str))) = (decide (c ≠ 48) || decide (r = [])) := by
    by_cases h6 : c = 48
    · have h7 : r ≠ [] := fun x => of_decide_eq_false e (TL.ext_tl (by show z.cps.toList = ("0" : Str).cps.toList; rw [ez, e48, h6, x]))
      rw [h6, sign48, decide_eq_true rfl, decide_eq_false h7]
      rfl
    · rw [decide_eq_true (show c ≠ 48 from h6), decide_eq_false fun x => h6 (sign48' x)]
      rfl
  rw [e7]
  exact q
end
end K96
set_option Elab.async false
set_option linter.all false
set_option maxRecDepth 100000
set_option maxHeartbeats 1000000
set_option pp.maxSteps 500
/-! K96i: the law's own reading of a line -/
namespace K96
open PySem PySem.Spec PyProof.Rows L2 GL DL
theorem eqv_enter (ws : List Str) : PyData.eqv (.list (ws.map .str)) (.list [.str "enter"]) = decide (ws = [("enter" : Str)]) := by
  cases ws with
  | nil => rfl
  | cons w r =>
    cases r with
    | nil =>
      by_cases h : w = ("enter" : Str)
      · subst h
        decide +kernel
      · have h2 : (w == ("enter" : Str)) = false := beq_eq_false_iff_ne.mpr h
        simp [PyData.eqv, PyData.eqvAll, h]
    | cons v r => simp [PyData.eqv, PyData.eqvAll]
theorem sp1_mem (c : Nat) : ∀ (a p : List Nat), p ∈ sp1 c a → ∀ x ∈ p, x ∈ a
  | [], p, m, x, hx => by
    have : p = [] := by simpa [sp1] using m
    rw [this] at hx
    cases hx
  | y :: r, p, m, x, hx => by
    by_cases h : y = c
    · subst h
      rw [sp1_hit] at m
      rcases List.mem_cons.mp m with rfl | m
      · cases hx
      · exact List.mem_cons_of_mem _ (sp1_mem y r p m x hx)
    · cases e2 : sp1 c r with
      | nil => exact absurd e2 (sp1_ne c r)
      | cons q qs =>
        rw [sp1_miss h e2] at m
        rcases List.mem_cons.mp m with rfl | m
        · rcases List.mem_cons.mp hx with rfl | hx
          · exact List.mem_cons_self ..
          · exact List.mem_cons_of_mem _ (sp1_mem c r q (by rw [e2]; exact List.mem_cons_self ..) x hx)
        · exact List.mem_cons_of_mem _ (sp1_mem c r p (by rw [e2]; exact List.mem_cons_of_mem _ m) x hx)
theorem split_asc {z : Str} (h : asc z = true) {c : Nat} (hc : c < 256) : ∀ w ∈ Txt.split z ⟨#[c]⟩, asc w = true := fun w m => by
  have e := split1 z hc
  have m2 : w.cps.toList ∈ sp1 c z.cps.toList := by
    rw [← e]
    exact List.mem_map.mpr ⟨w, m, rfl⟩
  exact List.all_eq_true.mpr fun x hx => decide_eq_true (asc_mem h (sp1_mem c _ _ m2 x hx))
theorem words_asc {z : Str} (h : asc z = true) : ∀ w ∈ wordsOf z, asc w = true := by
  unfold wordsOf
  rw [space_is]
  exact split_asc h (by decide)
theorem dow_words {z : Str} (h : asc z = true) (k : z.length ≤ 90000) : ∀ d ∈ (wordsOf z).map PyData.str, DOw d := fun d m => by
  obtain ⟨w, hw, rfl⟩ := List.mem_map.mp m
  exact dow_asc (words_asc h w hw) (by have := (words_few z).2.1 w hw; omega)
theorem shaped_list {ds : List PyData} (h : ∀ d ∈ ds, DOw d) : (PyData.list ds).hasDict = false ∧ SeqAt.shaped (.list ds) = true := by
  obtain ⟨h1, h2, h3⟩ := dow_hd h
  refine ⟨by simp only [PyData.hasDict]; exact h1, ?_⟩
  unfold SeqAt.shaped
  simp only [PyData.canLay0, h2, Bool.true_and, PyData.depth]
  exact decide_eq_true (Nat.le_trans (Nat.succ_le_succ h3) (by decide))
abbrev dictF : PyData := .dict ((["writer", "begin", "end", "leave", "root", "field", "mark"] : List Str).map .str |>.zip ([.str "i ii", .str "n", .str "n", .str "i", .str "in", .str "iin", .str "ii"]))
theorem form_dict (w : Str) : (dictD ((["writer", "begin", "end", "leave", "root", "field", "mark"] : List Str).map .str |>.zip [.str "i ii", .str "n", .str "n", .str "i", .str "in", .str "iin", .str "ii"]) w).getD (.str "") = .str (formT w) := by
  have h : ∀ l : List (Str × Str), (dictD ((l.map fun p => PyData.str p.1).zip (l.map fun p => PyData.str p.2)) w).getD (.str "") = .str (((l.find? fun p => p.1 = w).map (·.2)).getD "") := fun l => by
    induction l with
    | nil => rfl
    | cons p r ih =>
      by_cases e : p.1 = w
      · subst e
        simp [dictD]
      · simp only [List.map_cons, List.zip_cons_cons, dictD]
        simp [e, ih]
  exact h formsK
theorem form_mem (w : Str) : formT w = "" ∨ ∃ p ∈ formsK, formT w = p.2 := by
  unfold formT
  cases e : formsK.find? fun p => p.1 = w with
  | none => exact .inl rfl
  | some p => exact .inr ⟨p, List.mem_of_find?_eq_some e, rfl⟩
theorem form_few (w : Str) : (formT w).length ≤ 4 ∧ (Txt.split (formT w) " ").length ≤ 2 := by
  have e : ∀ p ∈ formsK, p.2.length ≤ 4 ∧ (Txt.split p.2 " ").length ≤ 2 := by decide +kernel
  rcases form_mem w with h | ⟨p, m, h⟩
  · rw [h]
    decide +kernel
  · rw [h]
    exact e p m
theorem form_signs (w : Str) : ∀ f ∈ Txt.split (formT w) " ", f.length ≤ 3 ∧ ∀ c ∈ f.cps.toList, c = 105 ∨ c = 110 := by
  have e : ∀ p ∈ formsK, ∀ f ∈ Txt.split p.2 " ", f.length ≤ 3 ∧ ∀ c ∈ f.cps.toList, c = 105 ∨ c = 110 := by decide +kernel
  rcases form_mem w with h | ⟨p, m, h⟩
  · rw [h]
    decide +kernel
  · rw [h]
    exact e p m
theorem zip_pairs (f : Str) (ws : List Str) : ((signsD f).zip (ws.map PyData.str)).map DL.pairD = (f.cps.toList.zip ws).map fun p => DL.pairD (.str (signS p.1), .str p.2) := by
  unfold signsD
  rw [List.zip_map, List.map_map]
  rfl
theorem sign_i (c : Nat) : decide (signS c = ("i" : Str)) = decide (c = 105) := by
  refine decide_eq_decide.mpr ⟨fun h => ?_, fun h => by subst h; decide +kernel⟩
  have := congrArg (fun z : Str => z.cps.toList) h
  have e : ("i" : Str).cps.toList = [105] := by decide +kernel
  simp only [e] at this
  simpa [signS] using this
theorem find_at {p : Str → Bool} {f : Str} : ∀ {l : List Str} {i : Nat}, l[i]? = some f → p f = true → (∀ x ∈ l.take i, p x = false) → l.find? p = some f
  | [], _, h, _, _ => by simp at h
  | a :: r, 0, h, k, _ => by
    have : a = f := by simpa using h
    subst this
    exact List.find?_cons_of_pos k
  | a :: r, i + 1, h, k, n => by
    have ha := n a (by simp)
    rw [List.find?_cons_of_neg (by rw [ha]; exact Bool.false_ne_true)]
    exact find_at (by simpa using h) k fun x m => n x (by rw [List.take_succ_cons]; exact List.mem_cons_of_mem _ m)
theorem frz_words (z : Str) (ws : List Str) : frzAt (List.set (List.set (startD ["_law_line", "_law_words", "_law_forms", "_law_form", "_law_pairs", "_law_good", "_law_bad", "_law_one_here", "_law_word"] [En.d (.str z)]) 1 (some (En.of (.lst ((ws.map PyData.str).map .dat))))) 2 (some (En.of (.dat dictF)))) 1 = [some (.d (.str z)), some (.d (.list (ws.map .str))), some (.d dictF), none, none, none, none, none, none] := by
  show [some _, some (En.d (.list (eraseAll _))), some _, none, none, none, none, none, none] = _
  rw [era_dat]
  rfl
section
variable {P : Program} {w : World} {K : PySem.W.Frag} {mg : Str → Option Value} {base : Heap} {f C : Addr} {fd : FuncData}
theorem sc_step_of : FnScope ["_law_line", "_law_words", "_law_forms", "_law_form", "_law_pairs", "_law_good", "_law_bad", "_law_one_here", "_law_word"] ["_law_line"] (defScope s_step_of) := ⟨rfl, rfl, rfl, by decide +kernel, rfl, by decide +kernel, by decide +kernel⟩
theorem ok_step_of (F : Fun K "_law_step_of" "_law_step_of" s_step_of f fd) (T : Txt0 mg) (c_fig : ClG P w K mg base 1 "_law_is_figure" (spF K (spText fun z => .bool (figS z)))) (c_spelt : ClG P w K mg base 1 "_law_is_spelt" (spF K (spText fun z => .bool (nameS z)))) : FnG P w K mg base 2 f fd ["_law_line"] (spF K (spText stepL)) := by
  refine okD F sc_step_of (fun as Q h => by obtain ⟨d, rfl, _⟩ := h; rfl) fun cdv A out s H E hG hr => have hu := units_ofx hr; ⟨_, (dss_cons (ds_set (i := 1) sc_step_of.nd rfl (.inl rfl) (do_split (de_v (pv 0)) de_str))
(dss_cons (ds_set (i := 2) sc_step_of.nd rfl (.inl rfl) (DE.o (de_dict (dps_cons de_str (dps_cons de_str (dps_cons de_str (dps_cons de_str (dps_cons de_str (dps_cons de_str (dps_cons de_str dps_nil))))))) (by decide +kernel) (by decide))))
(dss_cons (ds_frzAt 1 (ds_if (db_eq rfl hu (de_v (pv 1)) (DO.d (do_lst (da_cons de_str da_nil))))
(dss_one (ds_ret (DE.o (de_tup (da_cons de_str da_nil)))))
dss_nil))
(dss_cons (ds_for PassesOwn.never rfl (di_any rfl (DO.d (do_split (de_get2 hu (de_v (pv 2)) (de_ixA rfl (de_v (pv 1)) de_int) de_str) de_str))) (dg_name (pg_name (i := 3) sc_step_of.nd rfl (.inl rfl)))
(dss_cons (ds_par (i := 4) (j := 5) rfl sc_step_of.nd rfl rfl (by decide) rfl rfl (doa_cons (do_lzip rfl rfl T.m_list T.m_zip (da_cons (de_v (pv 3)) (da_cons (DO.d (do_sl rfl (de_v (pv 1)) (io_some de_int) io_none)) da_nil))) (doa_cons (DE.o (de_and (de_eq rfl hu (de_len rfl T.m_len (de_v (pv 3))) (de_sub (de_len rfl T.m_len (de_v (pv 1))) de_int)) (de_one (de_ne rfl hu (de_v (pv 3)) de_str)))) doa_nil)) (by rfl))
(dss_cons (ds_frzAt 4 (ds_setLc (i := 6) (own := [("_law_one_here", 7), ("_law_word", 8)]) rfl sc_step_of.nd rfl rfl (sw_true rfl rfl rfl (by decide +kernel)) (di_any rfl (de_v (pv 4))) (blkOk_by (N := ["_law_line", "_law_words", "_law_forms", "_law_form", "_law_pairs", "_law_good", "_law_bad", "_law_one_here", "_law_word"]) (sc := defScope s_step_of) (by decide +kernel)) (fun _ _ _ _ _ => (dg_tup (n := 2) rfl rfl (dgs_cons (dg_name (pg_name (i := 7) sc_step_of.nd rfl (.inl rfl))) (dgs_cons (dg_name (pg_name (i := 8) sc_step_of.nd rfl (.inl rfl))) dgs_nil)))) (fun _ _ _ _ _ => (dts_one (db_not (db_ifT (db_eq rfl hu (de_v (pv 7)) de_str) (db_val (DO.d (do_call rfl c_fig hG hr (by omega) (by rfl) (dr_cons (de_v (pv 8)) dr_nil)))) (db_val (DO.d (do_call rfl c_spelt hG hr (by omega) (by rfl) (dr_cons (de_v (pv 8)) dr_nil)))))))) (fun _ _ _ _ _ => (DE.o de_int))))
(dss_one (ds_frzAt 6 (ds_if (DW.db (dw_and (db_val (de_v (pv 5))) (dw_and1 (db_eq rfl hu (de_v (pv 6)) (DO.d (do_lst da_nil))))))
(dss_one (ds_ret (do_add rfl (de_tup (da_cons (de_ixA rfl (de_v (pv 1)) de_int) da_nil)) (de_tuple rfl T.m_tuple (DO.d (do_lc (own := [("_law_one_here", 7), ("_law_word", 8)]) rfl sc_step_of.nd (di_any rfl (de_v (pv 4))) (blkOk_by (N := ["_law_line", "_law_words", "_law_forms", "_law_form", "_law_pairs", "_law_good", "_law_bad", "_law_one_here", "_law_word"]) (sc := defScope s_step_of) (by decide +kernel)) (fun _ _ _ _ _ => (dg_tup (n := 2) rfl rfl (dgs_cons (dg_name (pg_name (i := 7) sc_step_of.nd rfl (.inl rfl))) (dgs_cons (dg_name (pg_name (i := 8) sc_step_of.nd rfl (.inl rfl))) dgs_nil)))) (fun _ _ _ _ _ => dts_nil) (fun _ _ _ _ _ => (DE.o (de_if (db_eq rfl hu (de_v (pv 7)) de_str) (de_intX T.m_int (de_v (pv 8))) (de_v (pv 8)))))))))))
dss_nil))))))
(dss_one (ds_ret (DE.o de_non))))))), fun as Q h => ?_⟩
  obtain ⟨z, rfl, hz, ha, q⟩ := h
  have hsz : z.length + 2 ≤ sizeLine := by rw [sizeLine_eq]; omega
  have hfr := frz_words z (wordsOf z)
  have hww : Txt.split z " " = wordsOf z := rfl
  have q : Q (.dat (stepL z)) := q
  repeat' (first | refine ix0T ?_ | refine ix1T ?_ | refine ix2T ?_ | refine ix0L ?_ | refine ix1L ?_ | refine ix2L ?_ | refine ⟨_, rfl, ?_⟩ | refine ⟨_, _, rfl, rfl, (by show (_ : Nat) ≤ sizeLine; first | assumption | exact big (DOk.strLen (by assumption)) | exact big (DOk.tupLen (by assumption)) | exact big (DOk.lstLen (by assumption)) | exact big (DOw.strLen (by assumption)) | exact big (DOw.tupLen (by assumption)) | exact big (DOw.lstLen (by assumption)) | exact big (DOz.strLen (by assumption)) | exact big (DOz.tupLen (by assumption)) | exact big (DOz.lstLen (by assumption))), ?_⟩ | refine ⟨_, _, rfl, rfl, (by first | decide | (show (0 : Int) < _; decide)), ?_⟩ | refine ⟨_, _, rfl, rfl, ?_⟩ | refine eqR_str ?_ | refine eqR_int ?_ | refine neR_str ?_ | refine neR_int ?_ | refine And.intro rfl ?_ | refine addL (by first | assumption | (rw [sizeLine_eq]; omega) | (rw [sizeLine_eq]; simp; done) | (rw [sizeLine_eq]; simp only [List.length_append, List.length_cons, List.length_nil]; omega)) ?_ | refine addT (by first | assumption | (rw [sizeLine_eq]; omega) | (rw [sizeLine_eq]; simp; done) | (rw [sizeLine_eq]; simp only [List.length_append, List.length_cons, List.length_nil]; omega)) ?_ | refine And.intro (by assumption) ?_ | refine And.intro (by decide) ?_ | refine ⟨_, _, rfl, ?_⟩ | refine iteT rfl ?_ | refine iteF Bool.false_ne_true ?_)
  rw [hww, hfr]
  repeat' (first | refine ix0T ?_ | refine ix1T ?_ | refine ix2T ?_ | refine ix0L ?_ | refine ix1L ?_ | refine ix2L ?_ | refine ⟨_, rfl, ?_⟩ | refine ⟨_, _, rfl, rfl, (by show (_ : Nat) ≤ sizeLine; first | assumption | exact big (DOk.strLen (by assumption)) | exact big (DOk.tupLen (by assumption)) | exact big (DOk.lstLen (by assumption)) | exact big (DOw.strLen (by assumption)) | exact big (DOw.tupLen (by assumption)) | exact big (DOw.lstLen (by assumption)) | exact big (DOz.strLen (by assumption)) | exact big (DOz.tupLen (by assumption)) | exact big (DOz.lstLen (by assumption))), ?_⟩ | refine ⟨_, _, rfl, rfl, (by first | decide | (show (0 : Int) < _; decide)), ?_⟩ | refine ⟨_, _, rfl, rfl, ?_⟩ | refine eqR_str ?_ | refine eqR_int ?_ | refine neR_str ?_ | refine neR_int ?_ | refine And.intro rfl ?_ | refine addL (by first | assumption | (rw [sizeLine_eq]; omega) | (rw [sizeLine_eq]; simp; done) | (rw [sizeLine_eq]; simp only [List.length_append, List.length_cons, List.length_nil]; omega)) ?_ | refine addT (by first | assumption | (rw [sizeLine_eq]; omega) | (rw [sizeLine_eq]; simp; done) | (rw [sizeLine_eq]; simp only [List.length_append, List.length_cons, List.length_nil]; omega)) ?_ | refine And.intro (by assumption) ?_ | refine And.intro (by decide) ?_ | refine ⟨_, _, rfl, ?_⟩ | refine iteT rfl ?_ | refine iteF Bool.false_ne_true ?_)
  rw [era_dat]
  have hsh := shaped_list (dow_words ha hz)
  obtain ⟨w0, tl, ew⟩ : ∃ w0 tl, wordsOf z = w0 :: tl := by
    cases e : wordsOf z with
    | nil => exact absurd e (words_few z).2.2
    | cons a b => exact ⟨a, b, rfl⟩
  show eqR false (.list ((wordsOf z).map .str)) (.list [.str "enter"]) _
  refine eqR_dat hsh.1 rfl hsh.2 (by decide +kernel) ?_
  rw [eqv_enter]
  repeat' (first | refine ix0T ?_ | refine ix1T ?_ | refine ix2T ?_ | refine ix0L ?_ | refine ix1L ?_ | refine ix2L ?_ | refine ⟨_, rfl, ?_⟩ | refine ⟨_, _, rfl, rfl, (by show (_ : Nat) ≤ sizeLine; first | assumption | exact big (DOk.strLen (by assumption)) | exact big (DOk.tupLen (by assumption)) | exact big (DOk.lstLen (by assumption)) | exact big (DOw.strLen (by assumption)) | exact big (DOw.tupLen (by assumption)) | exact big (DOw.lstLen (by assumption)) | exact big (DOz.strLen (by assumption)) | exact big (DOz.tupLen (by assumption)) | exact big (DOz.lstLen (by assumption))), ?_⟩ | refine ⟨_, _, rfl, rfl, (by first | decide | (show (0 : Int) < _; decide)), ?_⟩ | refine ⟨_, _, rfl, rfl, ?_⟩ | refine eqR_str ?_ | refine eqR_int ?_ | refine neR_str ?_ | refine neR_int ?_ | refine And.intro rfl ?_ | refine addL (by first | assumption | (rw [sizeLine_eq]; omega) | (rw [sizeLine_eq]; simp; done) | (rw [sizeLine_eq]; simp only [List.length_append, List.length_cons, List.length_nil]; omega)) ?_ | refine addT (by first | assumption | (rw [sizeLine_eq]; omega) | (rw [sizeLine_eq]; simp; done) | (rw [sizeLine_eq]; simp only [List.length_append, List.length_cons, List.length_nil]; omega)) ?_ | refine And.intro (by assumption) ?_ | refine And.intro (by decide) ?_ | refine ⟨_, _, rfl, ?_⟩ | refine iteT rfl ?_ | refine iteF Bool.false_ne_true ?_)
  refine iteB (fun e => ?_) (fun e => ?_)
  · have e1 : stepL z = .tuple [.str "enter"] := by
      have e2 := of_decide_eq_true e
      unfold stepL
      rw [e2]
      rfl
    rw [e1] at q
    exact q
  have hne : w0 :: tl ≠ [("enter" : Str)] := fun x => of_decide_eq_false e (ew.trans x)
  rw [ew]
  repeat' (first | refine ix0T ?_ | refine ix1T ?_ | refine ix2T ?_ | refine ix0L ?_ | refine ix1L ?_ | refine ix2L ?_ | refine ⟨_, rfl, ?_⟩ | refine ⟨_, _, rfl, rfl, (by show (_ : Nat) ≤ sizeLine; first | assumption | exact big (DOk.strLen (by assumption)) | exact big (DOk.tupLen (by assumption)) | exact big (DOk.lstLen (by assumption)) | exact big (DOw.strLen (by assumption)) | exact big (DOw.tupLen (by assumption)) | exact big (DOw.lstLen (by assumption)) | exact big (DOz.strLen (by assumption)) | exact big (DOz.tupLen (by assumption)) | exact big (DOz.lstLen (by assumption))), ?_⟩ | refine ⟨_, _, rfl, rfl, (by first | decide | (show (0 : Int) < _; decide)), ?_⟩ | refine ⟨_, _, rfl, rfl, ?_⟩ | refine eqR_str ?_ | refine eqR_int ?_ | refine neR_str ?_ | refine neR_int ?_ | refine And.intro rfl ?_ | refine addL (by first | assumption | (rw [sizeLine_eq]; omega) | (rw [sizeLine_eq]; simp; done) | (rw [sizeLine_eq]; simp only [List.length_append, List.length_cons, List.length_nil]; omega)) ?_ | refine addT (by first | assumption | (rw [sizeLine_eq]; omega) | (rw [sizeLine_eq]; simp; done) | (rw [sizeLine_eq]; simp only [List.length_append, List.length_cons, List.length_nil]; omega)) ?_ | refine And.intro (by assumption) ?_ | refine And.intro (by decide) ?_ | refine ⟨_, _, rfl, ?_⟩ | refine iteT rfl ?_ | refine iteF Bool.false_ne_true ?_)
  have hff := form_few w0
  refine ⟨formT w0, form_dict w0, _, rfl, by decide +kernel, by rw [sizeLine_eq]; have := hff.1; omega, ?_⟩
  refine ⟨_, rfl, ?_⟩
  rw [era_dat]
  have hl1 : (w0 :: tl).length ≤ 90001 := by have := (words_few z).1; rw [ew] at this; omega
  have e0 : stepL z = match (Txt.split (formT w0) " ").find? fun f => goodF f tl with
      | some f => .tuple (.str w0 :: (f.cps.toList.zip tl).map convW)
      | none => .none := by
    unfold stepL
    rw [ew]
    unfold stepW
    exact if_neg hne
  have hin : ∀ f ∈ Txt.split (formT w0) " ", f.length ≤ 3 ∧ ∀ c ∈ f.cps.toList, c = 105 ∨ c = 110 := fun f m => form_signs w0 f m
  refine ⟨fun i ρ => (∃ x3 x4 x5 x6 x7 x8, ρ = [some (.d (.str z)), some (.d (.list ((w0 :: tl).map .str))), some (.d dictF), x3, x4, x5, x6, x7, x8]) ∧ ∀ f ∈ (Txt.split (formT w0) " ").take i, goodF f tl = false, ⟨⟨_, _, _, _, _, _, rfl⟩, fun _ m => by simp at m⟩, fun i d ρ' hd hI => ?_, fun ρ' hI => ?_⟩
  · obtain ⟨⟨x3, x4, x5, x6, x7, x8, rfl⟩, hb⟩ := hI
    rw [List.getElem?_map] at hd
    obtain ⟨fo, hfo, rfl⟩ := Option.map_eq_some_iff.mp hd
    have hm := List.mem_of_getElem? hfo
    obtain ⟨hf1, hf2⟩ := hin fo hm
    have hlf := len_cps fo
    have hb1 : fo.length ≤ sizeLine := by rw [sizeLine_eq]; omega
    have hb2 : ((w0 :: tl).map PyData.str).length ≤ sizeLine := by rw [List.length_map, sizeLine_eq]; omega
    repeat' (first | refine ix0T ?_ | refine ix1T ?_ | refine ix2T ?_ | refine ix0L ?_ | refine ix1L ?_ | refine ix2L ?_ | refine ⟨_, rfl, ?_⟩ | refine ⟨_, _, rfl, rfl, (by show (_ : Nat) ≤ sizeLine; first | assumption | exact big (DOk.strLen (by assumption)) | exact big (DOk.tupLen (by assumption)) | exact big (DOk.lstLen (by assumption)) | exact big (DOw.strLen (by assumption)) | exact big (DOw.tupLen (by assumption)) | exact big (DOw.lstLen (by assumption)) | exact big (DOz.strLen (by assumption)) | exact big (DOz.tupLen (by assumption)) | exact big (DOz.lstLen (by assumption))), ?_⟩ | refine ⟨_, _, rfl, rfl, (by first | decide | (show (0 : Int) < _; decide)), ?_⟩ | refine ⟨_, _, rfl, rfl, ?_⟩ | refine eqR_str ?_ | refine eqR_int ?_ | refine neR_str ?_ | refine neR_int ?_ | refine And.intro rfl ?_ | refine addL (by first | assumption | (rw [sizeLine_eq]; omega) | (rw [sizeLine_eq]; simp; done) | (rw [sizeLine_eq]; simp only [List.length_append, List.length_cons, List.length_nil]; omega)) ?_ | refine addT (by first | assumption | (rw [sizeLine_eq]; omega) | (rw [sizeLine_eq]; simp; done) | (rw [sizeLine_eq]; simp only [List.length_append, List.length_cons, List.length_nil]; omega)) ?_ | refine And.intro (by assumption) ?_ | refine And.intro (by decide) ?_ | refine ⟨_, _, rfl, ?_⟩ | refine iteT rfl ?_ | refine iteF Bool.false_ne_true ?_)
    refine ⟨.str fo, .list (tl.map .str), signsD fo, tl.map .str, by show [PyData.str fo, PyData.list (eraseAll _)] = _; rw [era_dat, List.map_cons, DL.cut1], rfl, rfl, by unfold signsD; rw [List.length_map, sizeLine_eq]; omega, ?_⟩
    rw [zip_pairs]
    repeat' (first | refine ix0T ?_ | refine ix1T ?_ | refine ix2T ?_ | refine ix0L ?_ | refine ix1L ?_ | refine ix2L ?_ | refine ⟨_, rfl, ?_⟩ | refine ⟨_, _, rfl, rfl, (by show (_ : Nat) ≤ sizeLine; first | assumption | exact big (DOk.strLen (by assumption)) | exact big (DOk.tupLen (by assumption)) | exact big (DOk.lstLen (by assumption)) | exact big (DOw.strLen (by assumption)) | exact big (DOw.tupLen (by assumption)) | exact big (DOw.lstLen (by assumption)) | exact big (DOz.strLen (by assumption)) | exact big (DOz.tupLen (by assumption)) | exact big (DOz.lstLen (by assumption))), ?_⟩ | refine ⟨_, _, rfl, rfl, (by first | decide | (show (0 : Int) < _; decide)), ?_⟩ | refine ⟨_, _, rfl, rfl, ?_⟩ | refine eqR_str ?_ | refine eqR_int ?_ | refine neR_str ?_ | refine neR_int ?_ | refine And.intro rfl ?_ | refine addL (by first | assumption | (rw [sizeLine_eq]; omega) | (rw [sizeLine_eq]; simp; done) | (rw [sizeLine_eq]; simp only [List.length_append, List.length_cons, List.length_nil]; omega)) ?_ | refine addT (by first | assumption | (rw [sizeLine_eq]; omega) | (rw [sizeLine_eq]; simp; done) | (rw [sizeLine_eq]; simp only [List.length_append, List.length_cons, List.length_nil]; omega)) ?_ | refine And.intro (by assumption) ?_ | refine And.intro (by decide) ?_ | refine ⟨_, _, rfl, ?_⟩ | refine iteT rfl ?_ | refine iteF Bool.false_ne_true ?_)
    have hlen : decide ((fo.length : Int) = (((w0 :: tl).map PyData.str).length : Int) - 1) = decide (fo.length = tl.length) := by
      rw [List.length_map, List.length_cons]
      exact decide_eq_decide.mpr (by omega)
    rw [hlen]
    refine iteB (fun e => ?_) (fun e => ?_)
    · repeat' (first | refine ix0T ?_ | refine ix1T ?_ | refine ix2T ?_ | refine ix0L ?_ | refine ix1L ?_ | refine ix2L ?_ | refine ⟨_, rfl, ?_⟩ | refine ⟨_, _, rfl, rfl, (by show (_ : Nat) ≤ sizeLine; first | assumption | exact big (DOk.strLen (by assumption)) | exact big (DOk.tupLen (by assumption)) | exact big (DOk.lstLen (by assumption)) | exact big (DOw.strLen (by assumption)) | exact big (DOw.tupLen (by assumption)) | exact big (DOw.lstLen (by assumption)) | exact big (DOz.strLen (by assumption)) | exact big (DOz.tupLen (by assumption)) | exact big (DOz.lstLen (by assumption))), ?_⟩ | refine ⟨_, _, rfl, rfl, (by first | decide | (show (0 : Int) < _; decide)), ?_⟩ | refine ⟨_, _, rfl, rfl, ?_⟩ | refine eqR_str ?_ | refine eqR_int ?_ | refine neR_str ?_ | refine neR_int ?_ | refine And.intro rfl ?_ | refine addL (by first | assumption | (rw [sizeLine_eq]; omega) | (rw [sizeLine_eq]; simp; done) | (rw [sizeLine_eq]; simp only [List.length_append, List.length_cons, List.length_nil]; omega)) ?_ | refine addT (by first | assumption | (rw [sizeLine_eq]; omega) | (rw [sizeLine_eq]; simp; done) | (rw [sizeLine_eq]; simp only [List.length_append, List.length_cons, List.length_nil]; omega)) ?_ | refine And.intro (by assumption) ?_ | refine And.intro (by decide) ?_ | refine ⟨_, _, rfl, ?_⟩ | refine iteT rfl ?_ | refine iteF Bool.false_ne_true ?_)
      rw [era_dat]
      refine lc_maps (fun p : Nat × Str => DL.pairD (.str (signS p.1), .str p.2)) (fo.cps.toList.zip tl) (fun p => !goodW p) (fun _ => .dat (.int 1)) (by rw [List.length_zip, sizeLine_eq]; omega) (fun p hp yes no y1 y2 => ?_) ?_
      · obtain ⟨pc, pw⟩ := p
        have hc := hf2 _ (List.of_mem_zip hp).1
        have hpw : pw ∈ wordsOf z := by rw [ew]; exact List.mem_cons_of_mem _ (List.of_mem_zip hp).2
        have hpa := words_asc ha pw hpw
        have hpl := (words_few z).2.1 pw hpw
        refine ⟨_, rfl, ⟨_, rfl⟩, rfl, _, _, rfl, _, _, rfl, rfl, ?_⟩
        repeat' (first | refine ix0T ?_ | refine ix1T ?_ | refine ix2T ?_ | refine ix0L ?_ | refine ix1L ?_ | refine ix2L ?_ | refine ⟨_, rfl, ?_⟩ | refine ⟨_, _, rfl, rfl, (by show (_ : Nat) ≤ sizeLine; first | assumption | exact big (DOk.strLen (by assumption)) | exact big (DOk.tupLen (by assumption)) | exact big (DOk.lstLen (by assumption)) | exact big (DOw.strLen (by assumption)) | exact big (DOw.tupLen (by assumption)) | exact big (DOw.lstLen (by assumption)) | exact big (DOz.strLen (by assumption)) | exact big (DOz.tupLen (by assumption)) | exact big (DOz.lstLen (by assumption))), ?_⟩ | refine ⟨_, _, rfl, rfl, (by first | decide | (show (0 : Int) < _; decide)), ?_⟩ | refine ⟨_, _, rfl, rfl, ?_⟩ | refine eqR_str ?_ | refine eqR_int ?_ | refine neR_str ?_ | refine neR_int ?_ | refine And.intro rfl ?_ | refine addL (by first | assumption | (rw [sizeLine_eq]; omega) | (rw [sizeLine_eq]; simp; done) | (rw [sizeLine_eq]; simp only [List.length_append, List.length_cons, List.length_nil]; omega)) ?_ | refine addT (by first | assumption | (rw [sizeLine_eq]; omega) | (rw [sizeLine_eq]; simp; done) | (rw [sizeLine_eq]; simp only [List.length_append, List.length_cons, List.length_nil]; omega)) ?_ | refine And.intro (by assumption) ?_ | refine And.intro (by decide) ?_ | refine ⟨_, _, rfl, ?_⟩ | refine iteT rfl ?_ | refine iteF Bool.false_ne_true ?_)
        rw [sign_i]
        refine iteB (fun e => ?_) (fun e => ?_)
        · have e2 : goodW (pc, pw) = figS pw := if_pos (of_decide_eq_true e)
          rw [e2] at y1 y2
          repeat' (first | refine ix0T ?_ | refine ix1T ?_ | refine ix2T ?_ | refine ix0L ?_ | refine ix1L ?_ | refine ix2L ?_ | refine ⟨_, rfl, ?_⟩ | refine ⟨_, _, rfl, rfl, (by show (_ : Nat) ≤ sizeLine; first | assumption | exact big (DOk.strLen (by assumption)) | exact big (DOk.tupLen (by assumption)) | exact big (DOk.lstLen (by assumption)) | exact big (DOw.strLen (by assumption)) | exact big (DOw.tupLen (by assumption)) | exact big (DOw.lstLen (by assumption)) | exact big (DOz.strLen (by assumption)) | exact big (DOz.tupLen (by assumption)) | exact big (DOz.lstLen (by assumption))), ?_⟩ | refine ⟨_, _, rfl, rfl, (by first | decide | (show (0 : Int) < _; decide)), ?_⟩ | refine ⟨_, _, rfl, rfl, ?_⟩ | refine eqR_str ?_ | refine eqR_int ?_ | refine neR_str ?_ | refine neR_int ?_ | refine And.intro rfl ?_ | refine addL (by first | assumption | (rw [sizeLine_eq]; omega) | (rw [sizeLine_eq]; simp; done) | (rw [sizeLine_eq]; simp only [List.length_append, List.length_cons, List.length_nil]; omega)) ?_ | refine addT (by first | assumption | (rw [sizeLine_eq]; omega) | (rw [sizeLine_eq]; simp; done) | (rw [sizeLine_eq]; simp only [List.length_append, List.length_cons, List.length_nil]; omega)) ?_ | refine And.intro (by assumption) ?_ | refine And.intro (by decide) ?_ | refine ⟨_, _, rfl, ?_⟩ | refine iteT rfl ?_ | refine iteF Bool.false_ne_true ?_)
          refine ⟨Nat.le_trans hpl hz, hpa, ?_⟩
          repeat' (first | refine ix0T ?_ | refine ix1T ?_ | refine ix2T ?_ | refine ix0L ?_ | refine ix1L ?_ | refine ix2L ?_ | refine ⟨_, rfl, ?_⟩ | refine ⟨_, _, rfl, rfl, (by show (_ : Nat) ≤ sizeLine; first | assumption | exact big (DOk.strLen (by assumption)) | exact big (DOk.tupLen (by assumption)) | exact big (DOk.lstLen (by assumption)) | exact big (DOw.strLen (by assumption)) | exact big (DOw.tupLen (by assumption)) | exact big (DOw.lstLen (by assumption)) | exact big (DOz.strLen (by assumption)) | exact big (DOz.tupLen (by assumption)) | exact big (DOz.lstLen (by assumption))), ?_⟩ | refine ⟨_, _, rfl, rfl, (by first | decide | (show (0 : Int) < _; decide)), ?_⟩ | refine ⟨_, _, rfl, rfl, ?_⟩ | refine eqR_str ?_ | refine eqR_int ?_ | refine neR_str ?_ | refine neR_int ?_ | refine And.intro rfl ?_ | refine addL (by first | assumption | (rw [sizeLine_eq]; omega) | (rw [sizeLine_eq]; simp; done) | (rw [sizeLine_eq]; simp only [List.length_append, List.length_cons, List.length_nil]; omega)) ?_ | refine addT (by first | assumption | (rw [sizeLine_eq]; omega) | (rw [sizeLine_eq]; simp; done) | (rw [sizeLine_eq]; simp only [List.length_append, List.length_cons, List.length_nil]; omega)) ?_ | refine And.intro (by assumption) ?_ | refine And.intro (by decide) ?_ | refine ⟨_, _, rfl, ?_⟩ | refine iteT rfl ?_ | refine iteF Bool.false_ne_true ?_)
          refine iteB (fun e3 => ?_) (fun e3 => ?_)
          · exact y1 e3
          · exact y2 e3
        · have e2 : goodW (pc, pw) = nameS pw := if_neg (of_decide_eq_false e)
          rw [e2] at y1 y2
          repeat' (first | refine ix0T ?_ | refine ix1T ?_ | refine ix2T ?_ | refine ix0L ?_ | refine ix1L ?_ | refine ix2L ?_ | refine ⟨_, rfl, ?_⟩ | refine ⟨_, _, rfl, rfl, (by show (_ : Nat) ≤ sizeLine; first | assumption | exact big (DOk.strLen (by assumption)) | exact big (DOk.tupLen (by assumption)) | exact big (DOk.lstLen (by assumption)) | exact big (DOw.strLen (by assumption)) | exact big (DOw.tupLen (by assumption)) | exact big (DOw.lstLen (by assumption)) | exact big (DOz.strLen (by assumption)) | exact big (DOz.tupLen (by assumption)) | exact big (DOz.lstLen (by assumption))), ?_⟩ | refine ⟨_, _, rfl, rfl, (by first | decide | (show (0 : Int) < _; decide)), ?_⟩ | refine ⟨_, _, rfl, rfl, ?_⟩ | refine eqR_str ?_ | refine eqR_int ?_ | refine neR_str ?_ | refine neR_int ?_ | refine And.intro rfl ?_ | refine addL (by first | assumption | (rw [sizeLine_eq]; omega) | (rw [sizeLine_eq]; simp; done) | (rw [sizeLine_eq]; simp only [List.length_append, List.length_cons, List.length_nil]; omega)) ?_ | refine addT (by first | assumption | (rw [sizeLine_eq]; omega) | (rw [sizeLine_eq]; simp; done) | (rw [sizeLine_eq]; simp only [List.length_append, List.length_cons, List.length_nil]; omega)) ?_ | refine And.intro (by assumption) ?_ | refine And.intro (by decide) ?_ | refine ⟨_, _, rfl, ?_⟩ | refine iteT rfl ?_ | refine iteF Bool.false_ne_true ?_)
          refine ⟨Nat.le_trans hpl hz, hpa, ?_⟩
          repeat' (first | refine ix0T ?_ | refine ix1T ?_ | refine ix2T ?_ | refine ix0L ?_ | refine ix1L ?_ | refine ix2L ?_ | refine ⟨_, rfl, ?_⟩ | refine ⟨_, _, rfl, rfl, (by show (_ : Nat) ≤ sizeLine; first | assumption | exact big (DOk.strLen (by assumption)) | exact big (DOk.tupLen (by assumption)) | exact big (DOk.lstLen (by assumption)) | exact big (DOw.strLen (by assumption)) | exact big (DOw.tupLen (by assumption)) | exact big (DOw.lstLen (by assumption)) | exact big (DOz.strLen (by assumption)) | exact big (DOz.tupLen (by assumption)) | exact big (DOz.lstLen (by assumption))), ?_⟩ | refine ⟨_, _, rfl, rfl, (by first | decide | (show (0 : Int) < _; decide)), ?_⟩ | refine ⟨_, _, rfl, rfl, ?_⟩ | refine eqR_str ?_ | refine eqR_int ?_ | refine neR_str ?_ | refine neR_int ?_ | refine And.intro rfl ?_ | refine addL (by first | assumption | (rw [sizeLine_eq]; omega) | (rw [sizeLine_eq]; simp; done) | (rw [sizeLine_eq]; simp only [List.length_append, List.length_cons, List.length_nil]; omega)) ?_ | refine addT (by first | assumption | (rw [sizeLine_eq]; omega) | (rw [sizeLine_eq]; simp; done) | (rw [sizeLine_eq]; simp only [List.length_append, List.length_cons, List.length_nil]; omega)) ?_ | refine And.intro (by assumption) ?_ | refine And.intro (by decide) ?_ | refine ⟨_, _, rfl, ?_⟩ | refine iteT rfl ?_ | refine iteF Bool.false_ne_true ?_)
          refine iteB (fun e3 => ?_) (fun e3 => ?_)
          · exact y1 e3
          · exact y2 e3
      repeat' (first | refine ix0T ?_ | refine ix1T ?_ | refine ix2T ?_ | refine ix0L ?_ | refine ix1L ?_ | refine ix2L ?_ | refine ⟨_, rfl, ?_⟩ | refine ⟨_, _, rfl, rfl, (by show (_ : Nat) ≤ sizeLine; first | assumption | exact big (DOk.strLen (by assumption)) | exact big (DOk.tupLen (by assumption)) | exact big (DOk.lstLen (by assumption)) | exact big (DOw.strLen (by assumption)) | exact big (DOw.tupLen (by assumption)) | exact big (DOw.lstLen (by assumption)) | exact big (DOz.strLen (by assumption)) | exact big (DOz.tupLen (by assumption)) | exact big (DOz.lstLen (by assumption))), ?_⟩ | refine ⟨_, _, rfl, rfl, (by first | decide | (show (0 : Int) < _; decide)), ?_⟩ | refine ⟨_, _, rfl, rfl, ?_⟩ | refine eqR_str ?_ | refine eqR_int ?_ | refine neR_str ?_ | refine neR_int ?_ | refine And.intro rfl ?_ | refine addL (by first | assumption | (rw [sizeLine_eq]; omega) | (rw [sizeLine_eq]; simp; done) | (rw [sizeLine_eq]; simp only [List.length_append, List.length_cons, List.length_nil]; omega)) ?_ | refine addT (by first | assumption | (rw [sizeLine_eq]; omega) | (rw [sizeLine_eq]; simp; done) | (rw [sizeLine_eq]; simp only [List.length_append, List.length_cons, List.length_nil]; omega)) ?_ | refine And.intro (by assumption) ?_ | refine And.intro (by decide) ?_ | refine ⟨_, _, rfl, ?_⟩ | refine iteT rfl ?_ | refine iteF Bool.false_ne_true ?_)
      refine iteB (fun e4 => ?_) (fun e4 => ?_)
      · repeat' (first | refine ix0T ?_ | refine ix1T ?_ | refine ix2T ?_ | refine ix0L ?_ | refine ix1L ?_ | refine ix2L ?_ | refine ⟨_, rfl, ?_⟩ | refine ⟨_, _, rfl, rfl, (by show (_ : Nat) ≤ sizeLine; first | assumption | exact big (DOk.strLen (by assumption)) | exact big (DOk.tupLen (by assumption)) | exact big (DOk.lstLen (by assumption)) | exact big (DOw.strLen (by assumption)) | exact big (DOw.tupLen (by assumption)) | exact big (DOw.lstLen (by assumption)) | exact big (DOz.strLen (by assumption)) | exact big (DOz.tupLen (by assumption)) | exact big (DOz.lstLen (by assumption))), ?_⟩ | refine ⟨_, _, rfl, rfl, (by first | decide | (show (0 : Int) < _; decide)), ?_⟩ | refine ⟨_, _, rfl, rfl, ?_⟩ | refine eqR_str ?_ | refine eqR_int ?_ | refine neR_str ?_ | refine neR_int ?_ | refine And.intro rfl ?_ | refine addL (by first | assumption | (rw [sizeLine_eq]; omega) | (rw [sizeLine_eq]; simp; done) | (rw [sizeLine_eq]; simp only [List.length_append, List.length_cons, List.length_nil]; omega)) ?_ | refine addT (by first | assumption | (rw [sizeLine_eq]; omega) | (rw [sizeLine_eq]; simp; done) | (rw [sizeLine_eq]; simp only [List.length_append, List.length_cons, List.length_nil]; omega)) ?_ | refine And.intro (by assumption) ?_ | refine And.intro (by decide) ?_ | refine ⟨_, _, rfl, ?_⟩ | refine iteT rfl ?_ | refine iteF Bool.false_ne_true ?_)
        show eqR false (.list (eraseAll (List.map (fun _ => O.dat (.int 1)) ((fo.cps.toList.zip tl).filter fun p => !goodW p)))) (.list []) _
        rw [era_map]
        refine eqR_nilW (fun d m => ?_) ?_
        · obtain ⟨_, _, rfl⟩ := List.mem_map.mp m
          exact dow_one
        rw [flt_nil]
        repeat' (first | refine ix0T ?_ | refine ix1T ?_ | refine ix2T ?_ | refine ix0L ?_ | refine ix1L ?_ | refine ix2L ?_ | refine ⟨_, rfl, ?_⟩ | refine ⟨_, _, rfl, rfl, (by show (_ : Nat) ≤ sizeLine; first | assumption | exact big (DOk.strLen (by assumption)) | exact big (DOk.tupLen (by assumption)) | exact big (DOk.lstLen (by assumption)) | exact big (DOw.strLen (by assumption)) | exact big (DOw.tupLen (by assumption)) | exact big (DOw.lstLen (by assumption)) | exact big (DOz.strLen (by assumption)) | exact big (DOz.tupLen (by assumption)) | exact big (DOz.lstLen (by assumption))), ?_⟩ | refine ⟨_, _, rfl, rfl, (by first | decide | (show (0 : Int) < _; decide)), ?_⟩ | refine ⟨_, _, rfl, rfl, ?_⟩ | refine eqR_str ?_ | refine eqR_int ?_ | refine neR_str ?_ | refine neR_int ?_ | refine And.intro rfl ?_ | refine addL (by first | assumption | (rw [sizeLine_eq]; omega) | (rw [sizeLine_eq]; simp; done) | (rw [sizeLine_eq]; simp only [List.length_append, List.length_cons, List.length_nil]; omega)) ?_ | refine addT (by first | assumption | (rw [sizeLine_eq]; omega) | (rw [sizeLine_eq]; simp; done) | (rw [sizeLine_eq]; simp only [List.length_append, List.length_cons, List.length_nil]; omega)) ?_ | refine And.intro (by assumption) ?_ | refine And.intro (by decide) ?_ | refine ⟨_, _, rfl, ?_⟩ | refine iteT rfl ?_ | refine iteF Bool.false_ne_true ?_)
        refine iteB (fun e5 => ?_) (fun e5 => ?_)
        · repeat' (first | refine ix0T ?_ | refine ix1T ?_ | refine ix2T ?_ | refine ix0L ?_ | refine ix1L ?_ | refine ix2L ?_ | refine ⟨_, rfl, ?_⟩ | refine ⟨_, _, rfl, rfl, (by show (_ : Nat) ≤ sizeLine; first | assumption | exact big (DOk.strLen (by assumption)) | exact big (DOk.tupLen (by assumption)) | exact big (DOk.lstLen (by assumption)) | exact big (DOw.strLen (by assumption)) | exact big (DOw.tupLen (by assumption)) | exact big (DOw.lstLen (by assumption)) | exact big (DOz.strLen (by assumption)) | exact big (DOz.tupLen (by assumption)) | exact big (DOz.lstLen (by assumption))), ?_⟩ | refine ⟨_, _, rfl, rfl, (by first | decide | (show (0 : Int) < _; decide)), ?_⟩ | refine ⟨_, _, rfl, rfl, ?_⟩ | refine eqR_str ?_ | refine eqR_int ?_ | refine neR_str ?_ | refine neR_int ?_ | refine And.intro rfl ?_ | refine addL (by first | assumption | (rw [sizeLine_eq]; omega) | (rw [sizeLine_eq]; simp; done) | (rw [sizeLine_eq]; simp only [List.length_append, List.length_cons, List.length_nil]; omega)) ?_ | refine addT (by first | assumption | (rw [sizeLine_eq]; omega) | (rw [sizeLine_eq]; simp; done) | (rw [sizeLine_eq]; simp only [List.length_append, List.length_cons, List.length_nil]; omega)) ?_ | refine And.intro (by assumption) ?_ | refine And.intro (by decide) ?_ | refine ⟨_, _, rfl, ?_⟩ | refine iteT rfl ?_ | refine iteF Bool.false_ne_true ?_)
          rw [era_dat]
          have hgood : goodF fo tl = true := by
            unfold goodF
            have e6 : decide (fo ≠ "") = true := by simpa using e4
            rw [e, e5, e6]
            rfl
          have e7 : stepL z = .tuple (.str w0 :: (fo.cps.toList.zip tl).map convW) := by
            rw [e0, find_at hfo hgood hb]
          refine lc_maps (fun p : Nat × Str => DL.pairD (.str (signS p.1), .str p.2)) (fo.cps.toList.zip tl) (fun _ => true) (fun p => .dat (convW p)) (by rw [List.length_zip, sizeLine_eq]; omega) (fun p hp yes no y1 y2 => ?_) ?_
          · have y := y1 rfl
            have hg := List.all_eq_true.mp e5 p hp
            obtain ⟨pc, pw⟩ := p
            refine ⟨_, rfl, ⟨_, rfl⟩, rfl, _, _, rfl, _, _, rfl, rfl, ?_⟩
            repeat' (first | refine ix0T ?_ | refine ix1T ?_ | refine ix2T ?_ | refine ix0L ?_ | refine ix1L ?_ | refine ix2L ?_ | refine ⟨_, rfl, ?_⟩ | refine ⟨_, _, rfl, rfl, (by show (_ : Nat) ≤ sizeLine; first | assumption | exact big (DOk.strLen (by assumption)) | exact big (DOk.tupLen (by assumption)) | exact big (DOk.lstLen (by assumption)) | exact big (DOw.strLen (by assumption)) | exact big (DOw.tupLen (by assumption)) | exact big (DOw.lstLen (by assumption)) | exact big (DOz.strLen (by assumption)) | exact big (DOz.tupLen (by assumption)) | exact big (DOz.lstLen (by assumption))), ?_⟩ | refine ⟨_, _, rfl, rfl, (by first | decide | (show (0 : Int) < _; decide)), ?_⟩ | refine ⟨_, _, rfl, rfl, ?_⟩ | refine eqR_str ?_ | refine eqR_int ?_ | refine neR_str ?_ | refine neR_int ?_ | refine And.intro rfl ?_ | refine addL (by first | assumption | (rw [sizeLine_eq]; omega) | (rw [sizeLine_eq]; simp; done) | (rw [sizeLine_eq]; simp only [List.length_append, List.length_cons, List.length_nil]; omega)) ?_ | refine addT (by first | assumption | (rw [sizeLine_eq]; omega) | (rw [sizeLine_eq]; simp; done) | (rw [sizeLine_eq]; simp only [List.length_append, List.length_cons, List.length_nil]; omega)) ?_ | refine And.intro (by assumption) ?_ | refine And.intro (by decide) ?_ | refine ⟨_, _, rfl, ?_⟩ | refine iteT rfl ?_ | refine iteF Bool.false_ne_true ?_)
            rw [sign_i]
            refine iteB (fun e8 => ?_) (fun e8 => ?_)
            · have hfg : figS pw = true := by
                have e9 : goodW (pc, pw) = figS pw := if_pos (of_decide_eq_true e8)
                rw [e9] at hg
                exact hg
              have e9 : convW (pc, pw) = .int (valS pw) := if_pos (of_decide_eq_true e8)
              rw [e9] at y
              exact ⟨_, rfl, _, rfl, .inr ⟨pw, valS pw, rfl, fig_int hfg, by have := (fig_all hfg).2.2.1; omega, y⟩⟩
            · have e9 : convW (pc, pw) = .str pw := if_neg (of_decide_eq_false e8)
              rw [e9] at y
              repeat' (first | refine ix0T ?_ | refine ix1T ?_ | refine ix2T ?_ | refine ix0L ?_ | refine ix1L ?_ | refine ix2L ?_ | refine ⟨_, rfl, ?_⟩ | refine ⟨_, _, rfl, rfl, (by show (_ : Nat) ≤ sizeLine; first | assumption | exact big (DOk.strLen (by assumption)) | exact big (DOk.tupLen (by assumption)) | exact big (DOk.lstLen (by assumption)) | exact big (DOw.strLen (by assumption)) | exact big (DOw.tupLen (by assumption)) | exact big (DOw.lstLen (by assumption)) | exact big (DOz.strLen (by assumption)) | exact big (DOz.tupLen (by assumption)) | exact big (DOz.lstLen (by assumption))), ?_⟩ | refine ⟨_, _, rfl, rfl, (by first | decide | (show (0 : Int) < _; decide)), ?_⟩ | refine ⟨_, _, rfl, rfl, ?_⟩ | refine eqR_str ?_ | refine eqR_int ?_ | refine neR_str ?_ | refine neR_int ?_ | refine And.intro rfl ?_ | refine addL (by first | assumption | (rw [sizeLine_eq]; omega) | (rw [sizeLine_eq]; simp; done) | (rw [sizeLine_eq]; simp only [List.length_append, List.length_cons, List.length_nil]; omega)) ?_ | refine addT (by first | assumption | (rw [sizeLine_eq]; omega) | (rw [sizeLine_eq]; simp; done) | (rw [sizeLine_eq]; simp only [List.length_append, List.length_cons, List.length_nil]; omega)) ?_ | refine And.intro (by assumption) ?_ | refine And.intro (by decide) ?_ | refine ⟨_, _, rfl, ?_⟩ | refine iteT rfl ?_ | refine iteF Bool.false_ne_true ?_)
              exact y
          rw [List.filter_eq_self.mpr fun _ _ => rfl]
          refine ⟨_, (fo.cps.toList.zip tl).map convW, rfl, ?_, ?_⟩
          · rw [erase_map]
            rfl
          refine addT (by rw [List.length_map, List.length_zip, List.length_singleton, sizeLine_eq]; omega) ?_
          rw [e7] at q
          exact q
        · refine ⟨⟨_, _, _, _, _, _, rfl⟩, fun f m => ?_⟩
          have hfo2 : (Txt.split (formT w0) " ").take (i + 1) = (Txt.split (formT w0) " ").take i ++ [fo] := by rw [List.take_add_one, hfo]; rfl
          rw [hfo2] at m
          rcases List.mem_append.mp m with m | m
          · exact hb f m
          · rw [List.mem_singleton.mp m]
            unfold goodF
            rw [e5, Bool.and_false]
      · refine ⟨⟨_, _, _, _, _, _, rfl⟩, fun f m => ?_⟩
        have hfo2 : (Txt.split (formT w0) " ").take (i + 1) = (Txt.split (formT w0) " ").take i ++ [fo] := by rw [List.take_add_one, hfo]; rfl
        rw [hfo2] at m
        rcases List.mem_append.mp m with m | m
        · exact hb f m
        · rw [List.mem_singleton.mp m]
          unfold goodF
          have e6 : decide (fo ≠ "") = false := by simpa using e4
          rw [e6, Bool.and_false, Bool.false_and]
    · repeat' (first | refine ix0T ?_ | refine ix1T ?_ | refine ix2T ?_ | refine ix0L ?_ | refine ix1L ?_ | refine ix2L ?_ | refine ⟨_, rfl, ?_⟩ | refine ⟨_, _, rfl, rfl, (by show (_ : Nat) ≤ sizeLine; first | assumption | exact big (DOk.strLen (by assumption)) | exact big (DOk.tupLen (by assumption)) | exact big (DOk.lstLen (by assumption)) | exact big (DOw.strLen (by assumption)) | exact big (DOw.tupLen (by assumption)) | exact big (DOw.lstLen (by assumption)) | exact big (DOz.strLen (by assumption)) | exact big (DOz.tupLen (by assumption)) | exact big (DOz.lstLen (by assumption))), ?_⟩ | refine ⟨_, _, rfl, rfl, (by first | decide | (show (0 : Int) < _; decide)), ?_⟩ | refine ⟨_, _, rfl, rfl, ?_⟩ | refine eqR_str ?_ | refine eqR_int ?_ | refine neR_str ?_ | refine neR_int ?_ | refine And.intro rfl ?_ | refine addL (by first | assumption | (rw [sizeLine_eq]; omega) | (rw [sizeLine_eq]; simp; done) | (rw [sizeLine_eq]; simp only [List.length_append, List.length_cons, List.length_nil]; omega)) ?_ | refine addT (by first | assumption | (rw [sizeLine_eq]; omega) | (rw [sizeLine_eq]; simp; done) | (rw [sizeLine_eq]; simp only [List.length_append, List.length_cons, List.length_nil]; omega)) ?_ | refine And.intro (by assumption) ?_ | refine And.intro (by decide) ?_ | refine ⟨_, _, rfl, ?_⟩ | refine iteT rfl ?_ | refine iteF Bool.false_ne_true ?_)
      rw [era_dat]
      refine lc_maps (fun p : Nat × Str => DL.pairD (.str (signS p.1), .str p.2)) (fo.cps.toList.zip tl) (fun p => !goodW p) (fun _ => .dat (.int 1)) (by rw [List.length_zip, sizeLine_eq]; omega) (fun p hp yes no y1 y2 => ?_) ?_
      · obtain ⟨pc, pw⟩ := p
        have hc := hf2 _ (List.of_mem_zip hp).1
        have hpw : pw ∈ wordsOf z := by rw [ew]; exact List.mem_cons_of_mem _ (List.of_mem_zip hp).2
        have hpa := words_asc ha pw hpw
        have hpl := (words_few z).2.1 pw hpw
        refine ⟨_, rfl, ⟨_, rfl⟩, rfl, _, _, rfl, _, _, rfl, rfl, ?_⟩
        repeat' (first | refine ix0T ?_ | refine ix1T ?_ | refine ix2T ?_ | refine ix0L ?_ | refine ix1L ?_ | refine ix2L ?_ | refine ⟨_, rfl, ?_⟩ | refine ⟨_, _, rfl, rfl, (by show (_ : Nat) ≤ sizeLine; first | assumption | exact big (DOk.strLen (by assumption)) | exact big (DOk.tupLen (by assumption)) | exact big (DOk.lstLen (by assumption)) | exact big (DOw.strLen (by assumption)) | exact big (DOw.tupLen (by assumption)) | exact big (DOw.lstLen (by assumption)) | exact big (DOz.strLen (by assumption)) | exact big (DOz.tupLen (by assumption)) | exact big (DOz.lstLen (by assumption))), ?_⟩ | refine ⟨_, _, rfl, rfl, (by first | decide | (show (0 : Int) < _; decide)), ?_⟩ | refine ⟨_, _, rfl, rfl, ?_⟩ | refine eqR_str ?_ | refine eqR_int ?_ | refine neR_str ?_ | refine neR_int ?_ | refine And.intro rfl ?_ | refine addL (by first | assumption | (rw [sizeLine_eq]; omega) | (rw [sizeLine_eq]; simp; done) | (rw [sizeLine_eq]; simp only [List.length_append, List.length_cons, List.length_nil]; omega)) ?_ | refine addT (by first | assumption | (rw [sizeLine_eq]; omega) | (rw [sizeLine_eq]; simp; done) | (rw [sizeLine_eq]; simp only [List.length_append, List.length_cons, List.length_nil]; omega)) ?_ | refine And.intro (by assumption) ?_ | refine And.intro (by decide) ?_ | refine ⟨_, _, rfl, ?_⟩ | refine iteT rfl ?_ | refine iteF Bool.false_ne_true ?_)
        rw [sign_i]
        refine iteB (fun e => ?_) (fun e => ?_)
        · have e2 : goodW (pc, pw) = figS pw := if_pos (of_decide_eq_true e)
          rw [e2] at y1 y2
          repeat' (first | refine ix0T ?_ | refine ix1T ?_ | refine ix2T ?_ | refine ix0L ?_ | refine ix1L ?_ | refine ix2L ?_ | refine ⟨_, rfl, ?_⟩ | refine ⟨_, _, rfl, rfl, (by show (_ : Nat) ≤ sizeLine; first | assumption | exact big (DOk.strLen (by assumption)) | exact big (DOk.tupLen (by assumption)) | exact big (DOk.lstLen (by assumption)) | exact big (DOw.strLen (by assumption)) | exact big (DOw.tupLen (by assumption)) | exact big (DOw.lstLen (by assumption)) | exact big (DOz.strLen (by assumption)) | exact big (DOz.tupLen (by assumption)) | exact big (DOz.lstLen (by assumption))), ?_⟩ | refine ⟨_, _, rfl, rfl, (by first | decide | (show (0 : Int) < _; decide)), ?_⟩ | refine ⟨_, _, rfl, rfl, ?_⟩ | refine eqR_str ?_ | refine eqR_int ?_ | refine neR_str ?_ | refine neR_int ?_ | refine And.intro rfl ?_ | refine addL (by first | assumption | (rw [sizeLine_eq]; omega) | (rw [sizeLine_eq]; simp; done) | (rw [sizeLine_eq]; simp only [List.length_append, List.length_cons, List.length_nil]; omega)) ?_ | refine addT (by first | assumption | (rw [sizeLine_eq]; omega) | (rw [sizeLine_eq]; simp; done) | (rw [sizeLine_eq]; simp only [List.length_append, List.length_cons, List.length_nil]; omega)) ?_ | refine And.intro (by assumption) ?_ | refine And.intro (by decide) ?_ | refine ⟨_, _, rfl, ?_⟩ | refine iteT rfl ?_ | refine iteF Bool.false_ne_true ?_)
          refine ⟨Nat.le_trans hpl hz, hpa, ?_⟩
          repeat' (first | refine ix0T ?_ | refine ix1T ?_ | refine ix2T ?_ | refine ix0L ?_ | refine ix1L ?_ | refine ix2L ?_ | refine ⟨_, rfl, ?_⟩ | refine ⟨_, _, rfl, rfl, (by show (_ : Nat) ≤ sizeLine; first | assumption | exact big (DOk.strLen (by assumption)) | exact big (DOk.tupLen (by assumption)) | exact big (DOk.lstLen (by assumption)) | exact big (DOw.strLen (by assumption)) | exact big (DOw.tupLen (by assumption)) | exact big (DOw.lstLen (by assumption)) | exact big (DOz.strLen (by assumption)) | exact big (DOz.tupLen (by assumption)) | exact big (DOz.lstLen (by assumption))), ?_⟩ | refine ⟨_, _, rfl, rfl, (by first | decide | (show (0 : Int) < _; decide)), ?_⟩ | refine ⟨_, _, rfl, rfl, ?_⟩ | refine eqR_str ?_ | refine eqR_int ?_ | refine neR_str ?_ | refine neR_int ?_ | refine And.intro rfl ?_ | refine addL (by first | assumption | (rw [sizeLine_eq]; omega) | (rw [sizeLine_eq]; simp; done) | (rw [sizeLine_eq]; simp only [List.length_append, List.length_cons, List.length_nil]; omega)) ?_ | refine addT (by first | assumption | (rw [sizeLine_eq]; omega) | (rw [sizeLine_eq]; simp; done) | (rw [sizeLine_eq]; simp only [List.length_append, List.length_cons, List.length_nil]; omega)) ?_ | refine And.intro (by assumption) ?_ | refine And.intro (by decide) ?_ | refine ⟨_, _, rfl, ?_⟩ | refine iteT rfl ?_ | refine iteF Bool.false_ne_true ?_)
          refine iteB (fun e3 => ?_) (fun e3 => ?_)
          · exact y1 e3
          · exact y2 e3
        · have e2 : goodW (pc, pw) = nameS pw := if_neg (of_decide_eq_false e)
          rw [e2] at y1 y2
          repeat' (first | refine ix0T ?_ | refine ix1T ?_ | refine ix2T ?_ | refine ix0L ?_ | refine ix1L ?_ | refine ix2L ?_ | refine ⟨_, rfl, ?_⟩ | refine ⟨_, _, rfl, rfl, (by show (_ : Nat) ≤ sizeLine; first | assumption | exact big (DOk.strLen (by assumption)) | exact big (DOk.tupLen (by assumption)) | exact big (DOk.lstLen (by assumption)) | exact big (DOw.strLen (by assumption)) | exact big (DOw.tupLen (by assumption)) | exact big (DOw.lstLen (by assumption)) | exact big (DOz.strLen (by assumption)) | exact big (DOz.tupLen (by assumption)) | exact big (DOz.lstLen (by assumption))), ?_⟩ | refine ⟨_, _, rfl, rfl, (by first | decide | (show (0 : Int) < _; decide)), ?_⟩ | refine ⟨_, _, rfl, rfl, ?_⟩ | refine eqR_str ?_ | refine eqR_int ?_ | refine neR_str ?_ | refine neR_int ?_ | refine And.intro rfl ?_ | refine addL (by first | assumption | (rw [sizeLine_eq]; omega) | (rw [sizeLine_eq]; simp; done) | (rw [sizeLine_eq]; simp only [List.length_append, List.length_cons, List.length_nil]; omega)) ?_ | refine addT (by first | assumption | (rw [sizeLine_eq]; omega) | (rw [sizeLine_eq]; simp; done) | (rw [sizeLine_eq]; simp only [List.length_append, List.length_cons, List.length_nil]; omega)) ?_ | refine And.intro (by assumption) ?_ | refine And.intro (by decide) ?_ | refine ⟨_, _, rfl, ?_⟩ | refine iteT rfl ?_ | refine iteF Bool.false_ne_true ?_)
          refine ⟨Nat.le_trans hpl hz, hpa, ?_⟩
          repeat' (first | refine ix0T ?_ | refine ix1T ?_ | refine ix2T ?_ | refine ix0L ?_ | refine ix1L ?_ | refine ix2L ?_ | refine ⟨_, rfl, ?_⟩ | refine ⟨_, _, rfl, rfl, (by show (_ : Nat) ≤ sizeLine; first | assumption | exact big (DOk.strLen (by assumption)) | exact big (DOk.tupLen (by assumption)) | exact big (DOk.lstLen (by assumption)) | exact big (DOw.strLen (by assumption)) | exact big (DOw.tupLen (by assumption)) | exact big (DOw.lstLen (by assumption)) | exact big (DOz.strLen (by assumption)) | exact big (DOz.tupLen (by assumption)) | exact big (DOz.lstLen (by assumption))), ?_⟩ | refine ⟨_, _, rfl, rfl, (by first | decide | (show (0 : Int) < _; decide)), ?_⟩ | refine ⟨_, _, rfl, rfl, ?_⟩ | refine eqR_str ?_ | refine eqR_int ?_ | refine neR_str ?_ | refine neR_int ?_ | refine And.intro rfl ?_ | refine addL (by first | assumption | (rw [sizeLine_eq]; omega) | (rw [sizeLine_eq]; simp; done) | (rw [sizeLine_eq]; simp only [List.length_append, List.length_cons, List.length_nil]; omega)) ?_ | refine addT (by first | assumption | (rw [sizeLine_eq]; omega) | (rw [sizeLine_eq]; simp; done) | (rw [sizeLine_eq]; simp only [List.length_append, List.length_cons, List.length_nil]; omega)) ?_ | refine And.intro (by assumption) ?_ | refine And.intro (by decide) ?_ | refine ⟨_, _, rfl, ?_⟩ | refine iteT rfl ?_ | refine iteF Bool.false_ne_true ?_)
          refine iteB (fun e3 => ?_) (fun e3 => ?_)
          · exact y1 e3
          · exact y2 e3
      repeat' (first | refine ix0T ?_ | refine ix1T ?_ | refine ix2T ?_ | refine ix0L ?_ | refine ix1L ?_ | refine ix2L ?_ | refine ⟨_, rfl, ?_⟩ | refine ⟨_, _, rfl, rfl, (by show (_ : Nat) ≤ sizeLine; first | assumption | exact big (DOk.strLen (by assumption)) | exact big (DOk.tupLen (by assumption)) | exact big (DOk.lstLen (by assumption)) | exact big (DOw.strLen (by assumption)) | exact big (DOw.tupLen (by assumption)) | exact big (DOw.lstLen (by assumption)) | exact big (DOz.strLen (by assumption)) | exact big (DOz.tupLen (by assumption)) | exact big (DOz.lstLen (by assumption))), ?_⟩ | refine ⟨_, _, rfl, rfl, (by first | decide | (show (0 : Int) < _; decide)), ?_⟩ | refine ⟨_, _, rfl, rfl, ?_⟩ | refine eqR_str ?_ | refine eqR_int ?_ | refine neR_str ?_ | refine neR_int ?_ | refine And.intro rfl ?_ | refine addL (by first | assumption | (rw [sizeLine_eq]; omega) | (rw [sizeLine_eq]; simp; done) | (rw [sizeLine_eq]; simp only [List.length_append, List.length_cons, List.length_nil]; omega)) ?_ | refine addT (by first | assumption | (rw [sizeLine_eq]; omega) | (rw [sizeLine_eq]; simp; done) | (rw [sizeLine_eq]; simp only [List.length_append, List.length_cons, List.length_nil]; omega)) ?_ | refine And.intro (by assumption) ?_ | refine And.intro (by decide) ?_ | refine ⟨_, _, rfl, ?_⟩ | refine iteT rfl ?_ | refine iteF Bool.false_ne_true ?_)
      refine ⟨⟨_, _, _, _, _, _, rfl⟩, fun f m => ?_⟩
      have hfo2 : (Txt.split (formT w0) " ").take (i + 1) = (Txt.split (formT w0) " ").take i ++ [fo] := by rw [List.take_add_one, hfo]; rfl
      rw [hfo2] at m
      rcases List.mem_append.mp m with m | m
      · exact hb f m
      · rw [List.mem_singleton.mp m]
        unfold goodF
        rw [e, Bool.false_and, Bool.false_and]
  · obtain ⟨⟨x3, x4, x5, x6, x7, x8, rfl⟩, hb⟩ := hI
    have e1 : stepL z = .none := by
      rw [e0]
      have : (Txt.split (formT w0) " ").find? (fun f => goodF f tl) = none := List.find?_eq_none.mpr fun f m => by
        rw [List.length_map, List.take_length] at hb
        rw [hb f m]
        exact Bool.false_ne_true
      rw [this]
    rw [e1] at q
    exact q
end
end K96
set_option Elab.async false
set_option linter.all false
set_option maxRecDepth 100000
set_option maxHeartbeats 1000000
set_option pp.maxSteps 500
/-! K96j: the two readings are alike -/
namespace K96
open PySem PySem.Spec PyProof.Rows L2 GL DL
def kindsOf (f : Str) : List Str := f.cps.toList.map fun c => if c = 105 then ("number" : Str) else "name"
theorem nat_part (w : Str) : natD (partD w) = figS w := by
  unfold partD
  cases h : figS w with
  | true =>
    rw [if_pos rfl]
    exact decide_eq_true (fig_small h).1
  | false =>
    rw [if_neg Bool.false_ne_true]
    split <;> rfl
theorem fig_noname {w : Str} (h : figS w = true) : nameS w = false := by
  obtain ⟨h1, h2, _, _⟩ := fig_all h
  cases e : w.cps.toList with
  | nil => exact absurd e h2
  | cons c r =>
    have h3 := h1 c (by rw [e]; exact List.mem_cons_self ..)
    have h4 : letD c = false := by
      unfold letD
      rw [decide_eq_false (by omega : ¬ 97 ≤ c), Bool.false_and]
    unfold nameS
    rw [e, List.all_cons, h4, Bool.false_and, Bool.and_false, Bool.and_false]
theorem name_part (w : Str) : nameD (partD w) = nameS w := by
  unfold partD
  cases h : figS w with
  | true =>
    rw [if_pos rfl, fig_noname h]
    rfl
  | false =>
    rw [if_neg Bool.false_ne_true]
    by_cases e : w = "-"
    · rw [if_pos e, e]
      decide +kernel
    · rw [if_neg e]
      rfl
theorem part_name {w : Str} (h : nameS w = true) : partD w = .str w := by
  unfold partD
  cases h2 : figS w with
  | true => rw [fig_noname h2] at h; cases h
  | false =>
    rw [if_neg Bool.false_ne_true, if_neg]
    intro e
    rw [e] at h
    exact absurd h (by decide +kernel)
theorem kinds_all : ∀ (cs : List Nat) (ws : List Str), (((((cs.map fun c => if c = 105 then ("number" : Str) else "name").zip (ws.map partD)).filter kN).all fun p => natD p.2) && ((((cs.map fun c => if c = 105 then ("number" : Str) else "name").zip (ws.map partD)).filter kM).all fun p => nameD p.2)) = (cs.zip ws).all goodW
  | [], _ => rfl
  | _ :: _, [] => rfl
  | c :: cs, w :: ws => by
    have ih := kinds_all cs ws
    rw [List.map_cons, List.map_cons, List.zip_cons_cons, List.zip_cons_cons, List.all_cons, ← ih]
    by_cases h : c = 105
    · subst h
      have e1 : kN (("number" : Str), partD w) = true := decide_eq_true rfl
      have e2 : kM (("number" : Str), partD w) = false := decide_eq_false (by decide +kernel : ¬ ("number" : Str) = "name")
      have e3 : goodW (105, w) = natD (partD w) := by rw [nat_part]; rfl
      rw [if_pos rfl, List.filter_cons_of_pos e1, List.filter_cons_of_neg (by rw [e2]; exact Bool.false_ne_true), List.all_cons, e3, Bool.and_assoc]
    · have e1 : kN (("name" : Str), partD w) = false := decide_eq_false (by decide +kernel : ¬ ("name" : Str) = "number")
      have e2 : kM (("name" : Str), partD w) = true := decide_eq_true rfl
      have e3 : goodW (c, w) = nameD (partD w) := by rw [name_part]; exact if_neg h
      rw [if_neg h, List.filter_cons_of_pos e2, List.filter_cons_of_neg (by rw [e1]; exact Bool.false_ne_true), List.all_cons, e3, Bool.and_left_comm]
theorem kinds_good (f : Str) (ws : List Str) (hf : f ≠ "") : hasD (kindsOf f) (ws.map partD) = goodF f ws := by
  unfold hasD goodF kindsOf
  rw [kinds_all, List.length_map, List.length_map, ← len_cps, decide_eq_true hf, Bool.and_true]
  congr 1
  exact decide_eq_decide.mpr eq_comm
theorem conv_zip : ∀ (cs : List Nat) (ws : List Str), cs.length = ws.length → (cs.zip ws).all goodW = true → (cs.zip ws).map convW = ws.map partD
  | [], [], _, _ => rfl
  | [], _ :: _, h, _ => nomatch h
  | _ :: _, [], h, _ => nomatch h
  | c :: cs, w :: ws, h, g => by
    rw [List.zip_cons_cons, List.all_cons, Bool.and_eq_true] at g
    rw [List.zip_cons_cons, List.map_cons, List.map_cons, conv_zip cs ws (by simpa using h) g.2]
    congr 1
    by_cases e : c = 105
    · have h1 : figS w = true := by
        have : goodW (c, w) = figS w := if_pos e
        rw [this] at g
        exact g.1
      have h2 : convW (c, w) = .int (valS w) := if_pos e
      rw [h2]
      unfold partD
      rw [if_pos h1]
    · have h1 : nameS w = true := by
        have : goodW (c, w) = nameS w := if_neg e
        rw [this] at g
        exact g.1
      have h2 : convW (c, w) = .str w := if_neg e
      rw [h2, part_name h1]
theorem good_conv {f : Str} {ws : List Str} (h : goodF f ws = true) : (f.cps.toList.zip ws).map convW = ws.map partD := by
  unfold goodF at h
  simp only [Bool.and_eq_true, decide_eq_true_eq] at h
  exact conv_zip _ _ (by rw [← len_cps]; exact h.1.1) h.2
theorem look_none {w : Str} : ∀ {l : List (Str × List (List Str))}, (∀ p ∈ l, p.1 ≠ w) → lookF l w = []
  | [], _ => rfl
  | p :: r, h => by
    show (if p.1 = w then p.2 else lookF r w) = []
    rw [if_neg (h p (List.mem_cons_self ..)), look_none fun q m => h q (List.mem_cons_of_mem _ m)]
theorem keys_are : ∀ p ∈ formsK, formT p.1 = p.2 ∧ formsOf p.1 = (Txt.split p.2 " ").map kindsOf ∧ figS p.1 = false ∧ p.1 ≠ "-" ∧ ∀ f ∈ Txt.split p.2 " ", f ≠ "" := by decide +kernel
/-- a line's words, by the law and by the program -/
theorem step_eq (ws : List Str) (hne : ws ≠ []) : stepW ws = if stepD (ws.map partD) = true then .tuple (ws.map partD) else .none := by
  cases ws with
  | nil => exact absurd rfl hne
  | cons w tl =>
  by_cases h0 : w :: tl = [("enter" : Str)]
  · rw [h0]
    have e1 : stepW [("enter" : Str)] = .tuple [.str "enter"] := by
      unfold stepW
      exact if_pos rfl
    have e2 : ([("enter" : Str)] : List Str).map partD = [.str "enter"] := by
      show [partD "enter"] = _
      unfold partD
      rw [if_neg (by decide +kernel), if_neg (by decide +kernel)]
    have e3 : stepD [.str "enter"] = true := by
      show ((formsOf "enter").any fun ks => hasD ks []) = true
      decide +kernel
    rw [e1, e2, e3, if_pos rfl]
  have e0 : stepW (w :: tl) = match (Txt.split (formT w) " ").find? fun f => goodF f tl with
      | some f => .tuple (.str w :: (f.cps.toList.zip tl).map convW)
      | none => .none := if_neg h0
  rw [e0]
  by_cases hk : ∃ p ∈ formsK, p.1 = w
  · obtain ⟨p, m, rfl⟩ := hk
    obtain ⟨k1, k2, k3, k4, k5⟩ := keys_are p m
    have e1 : (p.1 :: tl).map partD = .str p.1 :: tl.map partD := by
      rw [List.map_cons]
      congr 1
      unfold partD
      rw [k3, if_neg Bool.false_ne_true, if_neg k4]
    have e2 : stepD (.str p.1 :: tl.map partD) = (Txt.split p.2 " ").any fun f => goodF f tl := by
      show ((formsOf p.1).any fun ks => hasD ks (tl.map partD)) = _
      rw [k2, List.any_map]
      rw [Bool.eq_iff_iff, List.any_eq_true, List.any_eq_true]
      constructor
      · rintro ⟨f, hf, h⟩
        exact ⟨f, hf, by rw [← kinds_good f tl (k5 f hf)]; exact h⟩
      · rintro ⟨f, hf, h⟩
        refine ⟨f, hf, ?_⟩
        show hasD (kindsOf f) (tl.map partD) = true
        rw [kinds_good f tl (k5 f hf)]
        exact h
    rw [e1, e2, k1]
    cases e3 : (Txt.split p.2 " ").find? fun f => goodF f tl with
    | some f =>
      have hg := List.find?_some e3
      have hm := List.mem_of_find?_eq_some e3
      have e4 : ((Txt.split p.2 " ").any fun f => goodF f tl) = true := List.any_eq_true.mpr ⟨f, hm, hg⟩
      rw [e4, if_pos rfl]
      simp only [good_conv hg]
    | none =>
      have e4 : ((Txt.split p.2 " ").any fun f => goodF f tl) = false := by
        rw [Bool.eq_false_iff]
        intro x
        obtain ⟨f, hm, hg⟩ := List.any_eq_true.mp x
        exact List.find?_eq_none.mp e3 f hm hg
      rw [e4, if_neg Bool.false_ne_true]
  · have e1 : formT w = "" := by
      unfold formT
      have : formsK.find? (fun p => p.1 = w) = none := List.find?_eq_none.mpr fun p m h => hk ⟨p, m, by simpa using h⟩
      rw [this]
      rfl
    have e2 : (Txt.split (formT w) " ").find? (fun f => goodF f tl) = none := by
      rw [e1]
      have : Txt.split ("" : Str) " " = [("" : Str)] := by decide +kernel
      rw [this]
      refine List.find?_eq_none.mpr fun f m => ?_
      rw [List.mem_singleton.mp m]
      unfold goodF
      rw [show decide (("" : Str) ≠ "") = false from decide_eq_false fun x => x rfl, Bool.and_false, Bool.false_and]
      exact Bool.false_ne_true
    rw [e2]
    have e3 : stepD ((w :: tl).map partD) = false := by
      rw [List.map_cons]
      by_cases hf : figS w = true
      · have : partD w = .int (valS w) := if_pos hf
        rw [this]
        rfl
      · by_cases hd : w = "-"
        · have : partD w = .str "" := by unfold partD; rw [if_neg hf, if_pos hd]
          rw [this]
          show ((formsOf "").any fun ks => hasD ks (tl.map partD)) = false
          have : formsOf "" = [] := by decide +kernel
          rw [this]
          rfl
        · have : partD w = .str w := by unfold partD; rw [if_neg hf, if_neg hd]
          rw [this]
          show ((formsOf w).any fun ks => hasD ks (tl.map partD)) = false
          by_cases he : w = "enter"
          · subst he
            have : formsOf "enter" = [[]] := by decide +kernel
            rw [this]
            have hl : tl ≠ [] := fun x => h0 (by rw [x])
            have hl2 : ¬ (tl.map partD).length = ([] : List Str).length := by
              rw [List.length_map]
              exact fun x => hl (List.length_eq_zero_iff.mp x)
            show (hasD [] (tl.map partD) || false) = false
            unfold hasD
            rw [decide_eq_false hl2]
            rfl
          · have : formsOf w = [] := look_none (l := tabF) fun p m hp => by
              have ht : ∀ q ∈ tabF, q.1 = "enter" ∨ ∃ r ∈ formsK, r.1 = q.1 := by decide +kernel
              rcases ht p m with h | ⟨r, hr, h⟩
              · exact he (hp.symm.trans h)
              · exact hk ⟨r, hr, h.trans hp⟩
            rw [this]
            rfl
    rw [e3, if_neg Bool.false_ne_true]
end K96
set_option Elab.async false
set_option linter.all false
set_option maxRecDepth 100000
set_option maxHeartbeats 1000000
set_option pp.maxSteps 500
/-! K96k: runs, read in the two ways -/
namespace K96
open PySem PySem.Spec PyProof.Rows L2 GL DL
def initL (z : Str) : List Str := (linesOf z).dropLast
def lastL (z : Str) : Str := (linesOf z).getLastD ""
theorem joinL_dec (c : Nat) : ∀ ps : List (List Nat), ps ≠ [] → TL.joinL [c] ps = ((ps.dropLast).map fun p => p ++ [c]).flatten ++ ps.getLastD []
  | [], h => absurd rfl h
  | [p], _ => rfl
  | p :: q :: r, _ => by
    have ih := joinL_dec c (q :: r) (by simp)
    have e : TL.joinL [c] (p :: q :: r) = p ++ ([c] ++ TL.joinL [c] (q :: r)) := rfl
    have e2 : (p :: q :: r).getLastD [] = (q :: r).getLastD [] := rfl
    rw [e, ih, e2, List.dropLast_cons₂, List.map_cons, List.flatten_cons, List.append_assoc, List.append_assoc]
theorem getLastD_map {α β : Type} (f : α → β) (d : α) : ∀ l : List α, (l.map f).getLastD (f d) = f (l.getLastD d)
  | [] => rfl
  | [a] => rfl
  | a :: b :: r => getLastD_map f d (b :: r)
theorem getLastD_mem {α : Type} (d : α) : ∀ l : List α, l ≠ [] → l.getLastD d ∈ l
  | [], h => absurd rfl h
  | [a], _ => List.mem_singleton.mpr rfl
  | a :: b :: r, _ => List.mem_cons_of_mem _ (getLastD_mem d (b :: r) (by simp))
theorem lines_cps (z : Str) : z.cps.toList = ((initL z).map fun l => l.cps.toList ++ [10]).flatten ++ (lastL z).cps.toList ∧ 10 ∉ (lastL z).cps.toList := by
  have h := split1 z (c := 10) (by decide)
  have hl : (linesOf z).map (fun w => w.cps.toList) = sp1 10 z.cps.toList := by
    unfold linesOf
    rw [feed_is]
    exact h
  have e0 : ("" : Str).cps.toList = [] := by decide +kernel
  have e1 : ((linesOf z).map fun w => w.cps.toList).getLastD [] = (lastL z).cps.toList := by
    have := getLastD_map (fun w : Str => w.cps.toList) "" (linesOf z)
    rw [e0] at this
    exact this
  have e2 : ((linesOf z).map fun w => w.cps.toList).dropLast = (initL z).map fun w => w.cps.toList := List.map_dropLast.symm
  refine ⟨?_, ?_⟩
  · have j := joinL_dec 10 _ (sp1_ne 10 z.cps.toList)
    rw [sp1_join, ← hl, e1, e2, List.map_map] at j
    exact j
  · have m := getLastD_mem [] _ (sp1_ne 10 z.cps.toList)
    have := sp1_free 10 _ _ m
    rw [← hl, e1] at this
    exact this
theorem joinL_nil : ∀ l : List (List Nat), TL.joinL [] l = l.flatten
  | [] => rfl
  | [p] => by simp [TL.joinL]
  | p :: q :: r => by
    have ih := joinL_nil (q :: r)
    have e : TL.joinL [] (p :: q :: r) = p ++ ([] ++ TL.joinL [] (q :: r)) := rfl
    rw [e, ih, List.nil_append]
    rfl
theorem feeds_cps (zs : List Str) : (feedsT zs).cps.toList = (zs.map fun l => l.cps.toList ++ [10]).flatten := by
  unfold feedsT
  rw [TL.join_eq]
  show TL.tl _ = _
  have e0 : TL.tl ("" : Str) = [] := by decide +kernel
  have e1 : TL.tl ("\n" : Str) = [10] := by decide +kernel
  rw [TL.tl_join, e0, joinL_nil, List.map_map]
  congr 1
  refine List.map_congr_left fun l _ => ?_
  show TL.tl (l ++ "\n") = _
  rw [TL.tl_append, e1]
theorem feeds_eq (z : Str) : feedsT (initL z) = z ↔ lastL z = "" := by
  obtain ⟨h1, _⟩ := lines_cps z
  have e0 : ("" : Str).cps.toList = [] := by decide +kernel
  constructor
  · intro h
    have h2 := congrArg (fun x : Str => x.cps.toList) h
    simp only [feeds_cps] at h2
    refine TL.ext_tl ?_
    show (lastL z).cps.toList = ("" : Str).cps.toList
    rw [e0]
    have h3 := h1
    rw [← h2, List.self_eq_append_right] at h3
    exact h3
  · intro h
    refine TL.ext_tl ?_
    show (feedsT (initL z)).cps.toList = z.cps.toList
    rw [feeds_cps, h1, h, e0, List.append_nil]
/-- a text that is empty or ends with a line feed -/
theorem ends_eq (z : Str) : (z ≠ "" ∧ z.cps.toList.getLast? ≠ some 10) ↔ lastL z ≠ "" := by
  obtain ⟨h1, h2⟩ := lines_cps z
  have e0 : ("" : Str).cps.toList = [] := by decide +kernel
  constructor
  · rintro ⟨a, b⟩ h
    rw [h, e0, List.append_nil] at h1
    cases e : initL z with
    | nil =>
      rw [e] at h1
      exact a (TL.ext_tl (by show z.cps.toList = ("" : Str).cps.toList; rw [h1, e0]; rfl))
    | cons p r =>
      obtain ⟨ps, q, e3⟩ : ∃ ps q, initL z = ps ++ [q] := by
        rcases List.eq_nil_or_concat (initL z) with e4 | ⟨l, b', e4⟩
        · rw [e4] at e; cases e
        · exact ⟨l, b', by rw [e4, List.concat_eq_append]⟩
      rw [e3, List.map_append, List.flatten_append] at h1
      apply b
      rw [h1]
      simp
  · intro h
    have h3 : (lastL z).cps.toList ≠ [] := fun x => h (TL.ext_tl (by show (lastL z).cps.toList = ("" : Str).cps.toList; rw [x, e0]))
    refine ⟨fun x => ?_, fun x => ?_⟩
    · have hz : z.cps.toList = [] := (congrArg (fun s : Str => s.cps.toList) x).trans e0
      rw [hz] at h1
      exact h3 (List.append_eq_nil_iff.mp h1.symm).2
    · rw [h1, List.getLast?_append] at x
      cases e5 : (lastL z).cps.toList.getLast? with
      | none => exact h3 (List.getLast?_eq_none_iff.mp e5)
      | some v =>
        rw [e5] at x
        have : v = 10 := by simpa using x
        subst this
        exact h2 (List.mem_of_getLast? e5)
theorem mem_zipR {α β : Type} : ∀ (ks : List α) (ds : List β), ds.length = ks.length → ∀ d ∈ ds, ∃ k, (k, d) ∈ ks.zip ds
  | _, [], _, d, m => nomatch m
  | [], _ :: _, h, _, _ => nomatch h
  | k :: ks, e :: ds, h, d, m => by
    rw [List.zip_cons_cons]
    rcases List.mem_cons.mp m with rfl | m
    · exact ⟨k, List.mem_cons_self ..⟩
    · obtain ⟨k', h'⟩ := mem_zipR ks ds (by simpa using h) d m
      exact ⟨k', List.mem_cons_of_mem _ h'⟩
theorem forms_kinds (w : Str) : ∀ ks ∈ formsOf w, ∀ k ∈ ks, k = "number" ∨ k = "name" := by
  have e : ∀ p ∈ tabF, ∀ ks ∈ p.2, ∀ k ∈ ks, k = ("number" : Str) ∨ k = "name" := by decide +kernel
  rcases look_mem w tabF with h | ⟨p, m, h⟩
  · unfold formsOf
    rw [h]
    exact fun _ m => nomatch m
  · unfold formsOf
    rw [h]
    exact e p m
theorem step_full {ws : List Str} (h : stepD (ws.map partD) = true) : ∀ w ∈ ws, w ≠ "" := by
  cases ws with
  | nil => exact fun _ m => nomatch m
  | cons w tl =>
    intro x m hx
    have e0 : partD "" = .str "" := by
      unfold partD
      rw [if_neg (by decide +kernel), if_neg (by decide +kernel)]
    rcases List.mem_cons.mp m with rfl | m
    · rw [hx, List.map_cons, e0] at h
      have : formsOf "" = [] := by decide +kernel
      have h2 : ((formsOf "").any fun ks => hasD ks (tl.map partD)) = true := h
      rw [this] at h2
      cases h2
    · rw [List.map_cons] at h
      have h2 : ∃ v, partD w = .str v ∧ ((formsOf v).any fun ks => hasD ks (tl.map partD)) = true := by
        cases e : partD w with
        | str v => rw [e] at h; exact ⟨v, rfl, h⟩
        | _ => rw [e] at h; cases h
      obtain ⟨v, _, h3⟩ := h2
      obtain ⟨ks, hk, h4⟩ := List.any_eq_true.mp h3
      unfold hasD at h4
      simp only [Bool.and_eq_true, decide_eq_true_eq] at h4
      obtain ⟨h5, h6, h7⟩ := h4
      obtain ⟨k, h8⟩ := mem_zipR ks (tl.map partD) h5 (partD x) (List.mem_map.mpr ⟨x, m, rfl⟩)
      rw [hx, e0] at h8
      rcases forms_kinds v ks hk k (List.of_mem_zip h8).1 with hn | hn
      · have h9 := List.all_eq_true.mp h6 _ (List.mem_filter.mpr ⟨h8, by unfold kN; exact decide_eq_true hn⟩)
        cases h9
      · have h9 := List.all_eq_true.mp h7 _ (List.mem_filter.mpr ⟨h8, by unfold kM; exact decide_eq_true hn⟩)
        have h10 : nameD (.str "") = false := by decide +kernel
        have h11 : nameD (.str "") = true := h9
        rw [h10] at h11
        cases h11
theorem words_join (l : Str) : Txt.join " " (wordsOf l) = l := by
  rw [TL.join_eq]
  refine TL.ext_tl ?_
  rw [TL.tl_join]
  have h := split1 l (c := 32) (by decide)
  have e : (wordsOf l).map TL.tl = sp1 32 l.cps.toList := by
    unfold wordsOf
    rw [space_is]
    exact h
  have e2 : TL.tl (" " : Str) = [32] := by decide +kernel
  rw [e, e2, sp1_join]
theorem show_line {l : Str} (h : stepD (lineD l) = true) : showT (lineD l) = l := by
  unfold showT lineD
  rw [List.map_map]
  have e : (wordsOf l).map (showP ∘ partD) = wordsOf l := by
    have : ∀ w ∈ wordsOf l, (showP ∘ partD) w = id w := fun w m => by
      show showP (partD w) = w
      rw [part_shown, if_neg (step_full h w m)]
    rw [List.map_congr_left this, List.map_id]
  rw [e, words_join]
def noneD : PyData → Bool
  | .none => true
  | _ => false
/-- what the law reads -/
def runT (z : Str) : PyData := if z ≠ "" ∧ z.cps.toList.getLast? ≠ some 10 then .none else if ((initL z).map stepL).any noneD = true then .none else .list ((initL z).map stepL)
theorem run_eq (z : Str) : runT z = if okRun z = true then runD z else .none := by
  have hst : ∀ l, stepL l = if stepD (lineD l) = true then .tuple (lineD l) else .none := fun l => step_eq (wordsOf l) (words_few l).2.2
  have hrd : readD z = (initL z).map lineD := rfl
  cases ha : (readD z).all stepD with
  | false =>
    have e1 : okRun z = false := by
      unfold okRun
      rw [ha, Bool.false_and]
    rw [e1, if_neg Bool.false_ne_true]
    unfold runT
    split
    · rfl
    · rw [if_pos]
      have : ∃ r ∈ readD z, stepD r = false := by
        have h2 : ¬ ∀ r ∈ readD z, stepD r = true := fun x => by
          rw [List.all_eq_true.mpr x] at ha
          cases ha
        refine Classical.byContradiction fun h3 => h2 fun r m => ?_
        cases h4 : stepD r with
        | true => rfl
        | false => exact absurd ⟨r, m, h4⟩ h3
      obtain ⟨r, m, hr⟩ := this
      rw [hrd] at m
      obtain ⟨l, hl, rfl⟩ := List.mem_map.mp m
      refine List.any_eq_true.mpr ⟨stepL l, List.mem_map.mpr ⟨l, hl, rfl⟩, ?_⟩
      rw [hst, hr, if_neg Bool.false_ne_true]
      rfl
  | true =>
    have hall : ∀ l ∈ initL z, stepD (lineD l) = true := fun l m => List.all_eq_true.mp ha _ (by rw [hrd]; exact List.mem_map.mpr ⟨l, m, rfl⟩)
    have e1 : (readD z).map showT = initL z := by
      rw [hrd, List.map_map]
      have : ∀ l ∈ initL z, (showT ∘ lineD) l = id l := fun l m => show_line (hall l m)
      rw [List.map_congr_left this, List.map_id]
    have e2 : (initL z).map stepL = (readD z).map .tuple := by
      rw [hrd, List.map_map]
      exact List.map_congr_left fun l m => by rw [hst, hall l m, if_pos rfl]; rfl
    have e3 : ((readD z).map PyData.tuple).any noneD = false := by
      rw [List.any_map]
      exact List.any_eq_false.mpr fun r _ => Bool.false_ne_true
    have e4 : okRun z = decide (lastL z = "") := by
      unfold okRun
      rw [ha, e1, Bool.true_and]
      exact decide_eq_decide.mpr (feeds_eq z)
    unfold runT
    rw [e4, e2, e3]
    by_cases h : lastL z = ""
    · rw [if_neg fun x => (ends_eq z).mp x h, if_neg Bool.false_ne_true, decide_eq_true h, if_pos rfl]
      rfl
    · rw [if_pos ((ends_eq z).mpr h), decide_eq_false h, if_neg Bool.false_ne_true]
end K96
set_option Elab.async false
set_option linter.all false
set_option maxRecDepth 100000
set_option maxHeartbeats 1000000
set_option pp.maxSteps 500
/-! K96m: runs are data that is small -/
namespace K96
open PySem PySem.Spec PyProof.Rows L2 GL DL
theorem dow_mk {ds : List PyData} (h : ∀ d ∈ ds, DOw d) : PyData.canLayAll0 ds = true ∧ PyData.leavesShortAll 48 ds = true ∧ PyData.showableAll ds = true := by
  induction ds with
  | nil => exact ⟨rfl, rfl, rfl⟩
  | cons d ds ih =>
    obtain ⟨h1, h2, h3⟩ := ih fun x m => h x (List.mem_cons_of_mem _ m)
    have g := h d List.mem_cons_self
    simp only [PyData.canLayAll0, PyData.leavesShortAll, PyData.showableAll, g.lay, g.short, g.shows, h1, h2, h3, Bool.and_self, and_self]
theorem dow_tuple {ds : List PyData} (h : ∀ d ∈ ds, DOw d) (k : PyData.weightAll ds ≤ 100000) (m : PyData.depthAll ds ≤ 59) : DOw (.tuple ds) ∧ DOw (.list ds) := by
  obtain ⟨h1, h2, h3⟩ := dow_mk h
  exact ⟨⟨by simp only [PyData.canLay0]; exact h1, by simp only [PyData.leavesShort]; exact h2, by simp only [PyData.weight]; exact k, by simp only [PyData.depth]; omega, by simp only [PyData.showable]; exact h3⟩,
    ⟨by simp only [PyData.canLay0]; exact h1, by simp only [PyData.leavesShort]; exact h2, by simp only [PyData.weight]; exact k, by simp only [PyData.depth]; omega, by simp only [PyData.showable]; exact h3⟩⟩
theorem wt_sum : ∀ ds : List PyData, PyData.weightAll ds = (ds.map fun d => d.weight + 1).sum
  | [] => by simp [PyData.weightAll]
  | d :: ds => by simp only [PyData.weightAll, wt_sum ds, List.map_cons, List.sum_cons]
theorem dp_le {ds : List PyData} {n : Nat} (h : ∀ d ∈ ds, d.depth ≤ n) : PyData.depthAll ds ≤ n := by
  induction ds with
  | nil => simp [PyData.depthAll]
  | cons d ds ih =>
    have h1 := h d List.mem_cons_self
    have h2 := ih fun x m => h x (List.mem_cons_of_mem _ m)
    simp only [PyData.depthAll]
    omega
theorem log_bits : ∀ (n v : Nat), v < 10 ^ n → v ≠ 0 → v.log2 + 1 ≤ 4 * n
  | n, v, h, z => by
    have h1 : v < 2 ^ (4 * n) := by
      have h2 : (10 : Nat) ^ n ≤ 16 ^ n := Nat.pow_le_pow_left (by decide) n
      have h3 : (2 : Nat) ^ (4 * n) = 16 ^ n := by rw [Nat.pow_mul]
      omega
    exact (Nat.log2_lt z).mpr h1
theorem dow_part {w : Str} (ha : asc w = true) (hl : w.length ≤ 20000) : DOw (partD w) ∧ (partD w).weight ≤ 4 * w.length ∧ (partD w).depth = 0 := by
  unfold partD
  by_cases h : figS w = true
  · rw [if_pos h]
    obtain ⟨h1, h2, h3, _⟩ := fig_all h
    have hs := fig_shown h
    have hw : (PyData.int (valS w)).weight ≤ 4 * w.length := by
      simp only [PyData.weight]
      split
      · omega
      · rename_i hz
        have hv : (valS w).natAbs = NumText.digitsVal w.cps.toList := by unfold valS; omega
        rw [hv]
        rw [len_cps]
        refine log_bits _ _ (dval_lt _ _ rfl h1) fun e => ?_
        have : valS w = 0 := by unfold valS; rw [e]; rfl
        rw [this] at hz
        exact hz rfl
    refine ⟨⟨rfl, ?_, by omega, by simp [PyData.depth], by simp only [PyData.showable]; exact decide_eq_true (log_small (fig_small h).2)⟩, hw, by simp [PyData.depth]⟩
    simp only [PyData.leavesShort]
    have e : (PyData.int (valS w)).shown = w := by
      simp only [PyData.shown]
      exact hs
    rw [e]
    exact decide_eq_true (by omega)
  · rw [if_neg h]
    split
    · exact ⟨dow_asc (by decide +kernel) (by decide +kernel), Nat.zero_le _, by simp [PyData.depth]⟩
    · refine ⟨dow_asc ha (by omega), ?_, by simp [PyData.depth]⟩
      simp only [PyData.weight]
      have : w.length = w.cps.size := rfl
      omega
theorem line_dow {l : Str} (ha : asc l = true) (hl : l.length ≤ 20000) : DOw (.tuple (lineD l)) ∧ (PyData.tuple (lineD l)).weight ≤ 4 * l.length + 4 ∧ (PyData.tuple (lineD l)).depth = 1 := by
  have hw := words_sum l
  have hd : ∀ d ∈ lineD l, DOw d ∧ d.depth = 0 := fun d m => by
    obtain ⟨w, hm, rfl⟩ := List.mem_map.mp m
    have := dow_part (words_asc ha w hm) (by have := (words_few l).2.1 w hm; omega)
    exact ⟨this.1, this.2.2⟩
  have h0 : PyData.depthAll (lineD l) ≤ 0 := dp_le fun d m => by rw [(hd d m).2]; exact Nat.le_refl 0
  have h1 : PyData.weightAll (lineD l) ≤ 4 * l.length + 4 := by
    rw [wt_sum]
    unfold lineD
    rw [List.map_map]
    have h2 : ((wordsOf l).map ((fun d : PyData => d.weight + 1) ∘ partD)).sum ≤ ((wordsOf l).map fun w => 4 * w.length).sum + (wordsOf l).length * 1 := sumle ((fun d : PyData => d.weight + 1) ∘ partD) (fun w : Str => 4 * w.length) 1 (wordsOf l) fun w hm => by
      have := (dow_part (words_asc ha w hm) (by have := (words_few l).2.1 w hm; omega)).2.1
      show (partD w).weight + 1 ≤ _
      omega
    have h7 : ∀ l : List Str, (l.map fun l : Str => 4 * l.length).sum = 4 * (l.map fun l => l.length).sum := fun l => by
      induction l with
      | nil => rfl
      | cons a r ih =>
        simp only [List.map_cons, List.sum_cons] at ih ⊢
        omega
    rw [h7] at h2
    omega
  refine ⟨(dow_tuple (fun d m => (hd d m).1) (by omega) (by omega)).1, by simp only [PyData.weight]; exact h1, by simp only [PyData.depth]; omega⟩
theorem dow_none : DOw .none := ⟨rfl, by decide +kernel, by decide +kernel, by decide +kernel, rfl⟩
theorem init_asc {z : Str} (ha : asc z = true) : ∀ l ∈ initL z, asc l = true := fun l hl => by
  have hm : l ∈ linesOf z := List.dropLast_subset _ hl
  unfold linesOf at hm
  rw [feed_is] at hm
  exact split_asc ha (by decide) l hm
theorem step_dow {l : Str} (ha : asc l = true) (hl : l.length ≤ 20000) : DOw (stepL l) ∧ (stepL l).weight ≤ 4 * l.length + 4 ∧ (stepL l).depth ≤ 1 := by
  have e : stepL l = if stepD (lineD l) = true then .tuple (lineD l) else .none := step_eq (wordsOf l) (words_few l).2.2
  rw [e]
  split
  · have := line_dow ha hl
    exact ⟨this.1, this.2.1, Nat.le_of_eq this.2.2⟩
  · exact ⟨dow_none, by simp [PyData.weight], by simp [PyData.depth]⟩
theorem steps_dow {z : Str} (ha : asc z = true) (hz : z.length ≤ 20000) : ∀ d ∈ (initL z).map stepL, DOw d := fun d m => by
  obtain ⟨l, hl, rfl⟩ := List.mem_map.mp m
  have hm : l ∈ linesOf z := List.dropLast_subset _ hl
  exact (step_dow (init_asc ha l hl) (by have := (lines_few z).2.1 l hm; omega)).1
/-- what is told of a run -/
theorem run_dow {z : Str} (ha : asc z = true) (hz : z.length ≤ 13500) : DOw (runD z) ∧ DOw (.tuple [.str "told", runD z]) := by
  have h1 := lines_few z
  have hd : ∀ d ∈ (readD z).map PyData.tuple, DOw d ∧ d.depth ≤ 1 := fun d m => by
    obtain ⟨r, hr, rfl⟩ := List.mem_map.mp m
    obtain ⟨l, hl, rfl⟩ := List.mem_map.mp hr
    have hm : l ∈ linesOf z := List.dropLast_subset _ hl
    have := line_dow (init_asc ha l hl) (by have := h1.2.1 l hm; omega)
    exact ⟨this.1, Nat.le_of_eq this.2.2⟩
  have hw : PyData.weightAll ((readD z).map PyData.tuple) ≤ 7 * z.length + 7 := by
    rw [wt_sum, List.map_map]
    have e : readD z = (initL z).map lineD := rfl
    rw [e, List.map_map]
    have h2 : ((initL z).map (((fun d : PyData => d.weight + 1) ∘ PyData.tuple) ∘ lineD)).sum ≤ ((initL z).map fun l => 4 * l.length).sum + (initL z).length * 5 := sumle (((fun d : PyData => d.weight + 1) ∘ PyData.tuple) ∘ lineD) (fun l : Str => 4 * l.length) 5 (initL z) fun l hl => by
      have hm : l ∈ linesOf z := List.dropLast_subset _ hl
      have := (line_dow (init_asc ha l hl) (by have := h1.2.1 l hm; omega)).2.1
      show (PyData.tuple (lineD l)).weight + 1 ≤ _
      omega
    have h6 := dropLast_sum (fun l : Str => 4 * l.length) (linesOf z)
    have h7 : ∀ l : List Str, (l.map fun l : Str => 4 * l.length).sum = 4 * (l.map fun l => l.length).sum := fun l => by
      induction l with
      | nil => rfl
      | cons a r ih =>
        simp only [List.map_cons, List.sum_cons] at ih ⊢
        omega
    rw [h7 (linesOf z)] at h6
    have h8 : (initL z).length ≤ (linesOf z).length := by unfold initL; rw [List.length_dropLast]; omega
    have h9 : ((initL z).map fun l => 4 * l.length).sum ≤ 4 * ((linesOf z).map fun l => l.length).sum := h6
    have h10 := h1.1
    omega
  have hdp := dp_le (n := 1) fun d m => (hd d m).2
  have hr : DOw (runD z) := (dow_tuple (fun d m => (hd d m).1) (by omega) (by omega)).2
  refine ⟨hr, (dow_tuple (fun d m => ?_) ?_ ?_).1⟩
  · rcases List.mem_cons.mp m with rfl | m
    · exact dow_asc (by decide +kernel) (by decide +kernel)
    · rw [List.mem_singleton.mp m]
      exact hr
  · simp only [PyData.weightAll]
    have e1 : (PyData.str "told").weight = 4 := by decide +kernel
    have e2 : (runD z).weight = PyData.weightAll ((readD z).map PyData.tuple) := by
      unfold runD
      simp only [PyData.weight]
    rw [e1, e2]
    omega
  · refine dp_le fun d m => ?_
    rcases List.mem_cons.mp m with rfl | m
    · simp [PyData.depth]
    · rw [List.mem_singleton.mp m]
      unfold runD
      simp only [PyData.depth]
      omega
end K96
set_option Elab.async false
set_option linter.all false
set_option maxRecDepth 100000
set_option maxHeartbeats 1000000
set_option pp.maxSteps 500
/-! K96l: what the law reads, and what is told -/
namespace K96
open PySem PySem.Spec PyProof.Rows L2 GL DL
def runV : PyData → PyData
  | .str z => runT z
  | _ => .none
/-- a value that is asked -/
def AskD (d : PyData) : Prop := isTy "str" d = false ∨ ∃ z, d = .str z ∧ z.length ≤ 13500 ∧ asc z = true
def spRunOf : DSp := fun as P => ∃ d, as = [.d d] ∧ AskD d ∧ P (.dat (runV d))
theorem eraS (ls : List Str) : eraseAll (ls.map fun l => O.dat (stepL l)) = ls.map stepL := era_map (fun l => O.dat (stepL l)) ls
theorem at_last {α : Type} (l : List α) (c : α) : atI (l ++ [c]) (-1) = some c := by
  have e : ixN (l ++ [c]).length (-1) = some l.length := by
    unfold ixN
    rw [if_neg (by decide), if_pos (by simp; omega)]
    congr 1
    simp
    omega
  unfold atI
  rw [e]
  simp
theorem sign_inj (c d : Nat) : decide (signS c = signS d) = decide (c = d) := by
  refine decide_eq_decide.mpr ⟨fun h => ?_, fun h => by rw [h]⟩
  have := congrArg (fun z : Str => z.cps.toList) h
  simpa [signS] using this
section
variable {P : Program} {w : World} {K : PySem.W.Frag} {mg : Str → Option Value} {base : Heap} {f A B C : Addr} {fd : FuncData}
theorem sc_run_of : FnScope ["_law_thing", "_law_found", "_law_line"] ["_law_thing"] (defScope s_run_of) := ⟨rfl, rfl, rfl, by decide +kernel, rfl, by decide +kernel, by decide +kernel⟩
theorem ok_run_of (F : Fun K "_law_run_of" "_law_run_of" s_run_of f fd) (T : Txt0 mg) (c_stepof : ClG P w K mg base 2 "_law_step_of" (spF K (spText stepL))) : FnG P w K mg base 3 f fd ["_law_thing"] (spF K spRunOf) := by
  refine okD F sc_run_of (fun as Q h => by obtain ⟨d, rfl, _⟩ := h; rfl) fun cdv A out s H E hG hr => have hu := units_ofx hr; have hu65 : (A.deeper (envOfC "_law_run_of" (defScope s_run_of) s.heap.objs.size f cdv)).units + 65 < cLine := (by have h := units_of hr; omega); ⟨_, (dss_cons (ds_if (DW.db (dw_or (db_not (db_val (de_isi (T := "str") rfl (de_v (pv 0)) (by rfl) T.m_isinstance (by rfl) T.m_str (by decide +kernel) (by decide)))) (dw_or1 (DW.db (dw_and (db_ne rfl hu (de_v (pv 0)) de_str) (dw_and1 (db_ne rfl hu (de_ixA rfl (de_v (pv 0)) (de_neg de_int)) de_str)))))))
(dss_one (ds_ret (DE.o de_non)))
dss_nil)
(dss_cons (ds_setLc (i := 1) (own := [("_law_line", 2)]) rfl sc_run_of.nd rfl rfl (sw_true rfl rfl rfl (by decide +kernel)) (di_any rfl (DO.d (do_sl rfl (DO.d (do_split (de_v (pv 0)) de_str)) io_none (io_some (de_neg de_int))))) (blkOk_by (N := ["_law_thing", "_law_found", "_law_line"]) (sc := defScope s_run_of) (by decide +kernel)) (fun _ _ _ _ _ => (dg_name (pg_name (i := 2) sc_run_of.nd rfl (.inl rfl)))) (fun _ _ _ _ _ => dts_nil) (fun _ _ _ _ _ => (do_call rfl c_stepof hG hr (by omega) (by rfl) (dr_cons (de_v (pv 2)) dr_nil))))
(dss_one (ds_frzAt 1 (ds_ret (DE.o (de_if (db_inD rfl hu65 de_non (de_v (pv 1))) de_non (de_v (pv 1))))))))), fun as Q h => ?_⟩
  obtain ⟨d, rfl, ok, q⟩ := h
  rcases ok with hn | ⟨z, rfl, hz, ha⟩
  · have e1 : runV d = .none := by
      cases d <;> first | rfl | cases hn
    rw [e1] at q
    refine ⟨d, rfl, _, rfl, ?_⟩
    rw [hn]
    exact q
  have hz1 : z.length ≤ sizeLine := big (by omega)
  have hsz : z.length + 2 ≤ sizeLine := by rw [sizeLine_eq]; omega
  have q : Q (.dat (runT z)) := q
  have e1 : ("\n" : Str) = signS 10 := by decide +kernel
  repeat' (first | refine ix0T ?_ | refine ix1T ?_ | refine ix2T ?_ | refine ix0L ?_ | refine ix1L ?_ | refine ix2L ?_ | refine ⟨_, rfl, ?_⟩ | refine ⟨_, _, rfl, rfl, (by show (_ : Nat) ≤ sizeLine; first | assumption | exact big (DOk.strLen (by assumption)) | exact big (DOk.tupLen (by assumption)) | exact big (DOk.lstLen (by assumption)) | exact big (DOw.strLen (by assumption)) | exact big (DOw.tupLen (by assumption)) | exact big (DOw.lstLen (by assumption)) | exact big (DOz.strLen (by assumption)) | exact big (DOz.tupLen (by assumption)) | exact big (DOz.lstLen (by assumption))), ?_⟩ | refine ⟨_, _, rfl, rfl, (by first | decide | (show (0 : Int) < _; decide)), ?_⟩ | refine ⟨_, _, rfl, rfl, ?_⟩ | refine eqR_str ?_ | refine eqR_int ?_ | refine neR_str ?_ | refine neR_int ?_ | refine And.intro rfl ?_ | refine addL (by first | assumption | (rw [sizeLine_eq]; omega) | (rw [sizeLine_eq]; simp; done) | (rw [sizeLine_eq]; simp only [List.length_append, List.length_cons, List.length_nil]; omega)) ?_ | refine addT (by first | assumption | (rw [sizeLine_eq]; omega) | (rw [sizeLine_eq]; simp; done) | (rw [sizeLine_eq]; simp only [List.length_append, List.length_cons, List.length_nil]; omega)) ?_ | refine And.intro (by assumption) ?_ | refine And.intro (by decide) ?_ | refine ⟨_, _, rfl, ?_⟩ | refine iteT rfl ?_ | refine iteF Bool.false_ne_true ?_)
  have nxt : ¬ (z ≠ "" ∧ z.cps.toList.getLast? ≠ some 10) → runT z = if ((initL z).map stepL).any noneD = true then .none else .list ((initL z).map stepL) := fun h => by
    unfold runT
    rw [if_neg h]
  refine iteB (fun e => ?_) (fun e => ?_)
  · have hne : z ≠ "" := by simpa using e
    obtain ⟨l, c, ez⟩ : ∃ l c, z.cps.toList = l ++ [c] := by
      rcases List.eq_nil_or_concat z.cps.toList with h | ⟨l, c, h⟩
      · exact absurd (TL.ext_tl (x := z) (y := "") (by show z.cps.toList = _; rw [h]; decide +kernel)) hne
      · exact ⟨l, c, by rw [h, List.concat_eq_append]⟩
    have hg : z.cps.toList.getLast? = some c := by rw [ez]; simp
    repeat' (first | refine ix0T ?_ | refine ix1T ?_ | refine ix2T ?_ | refine ix0L ?_ | refine ix1L ?_ | refine ix2L ?_ | refine ⟨_, rfl, ?_⟩ | refine ⟨_, _, rfl, rfl, (by show (_ : Nat) ≤ sizeLine; first | assumption | exact big (DOk.strLen (by assumption)) | exact big (DOk.tupLen (by assumption)) | exact big (DOk.lstLen (by assumption)) | exact big (DOw.strLen (by assumption)) | exact big (DOw.tupLen (by assumption)) | exact big (DOw.lstLen (by assumption)) | exact big (DOz.strLen (by assumption)) | exact big (DOz.tupLen (by assumption)) | exact big (DOz.lstLen (by assumption))), ?_⟩ | refine ⟨_, _, rfl, rfl, (by first | decide | (show (0 : Int) < _; decide)), ?_⟩ | refine ⟨_, _, rfl, rfl, ?_⟩ | refine eqR_str ?_ | refine eqR_int ?_ | refine neR_str ?_ | refine neR_int ?_ | refine And.intro rfl ?_ | refine addL (by first | assumption | (rw [sizeLine_eq]; omega) | (rw [sizeLine_eq]; simp; done) | (rw [sizeLine_eq]; simp only [List.length_append, List.length_cons, List.length_nil]; omega)) ?_ | refine addT (by first | assumption | (rw [sizeLine_eq]; omega) | (rw [sizeLine_eq]; simp; done) | (rw [sizeLine_eq]; simp only [List.length_append, List.length_cons, List.length_nil]; omega)) ?_ | refine And.intro (by assumption) ?_ | refine And.intro (by decide) ?_ | refine ⟨_, _, rfl, ?_⟩ | refine iteT rfl ?_ | refine iteF Bool.false_ne_true ?_)
    refine ⟨.str (signS c), by unfold ixD; simp only []; rw [if_pos hz1, ez, at_last]; rfl, ?_⟩
    refine neR_str ?_
    repeat' (first | refine ix0T ?_ | refine ix1T ?_ | refine ix2T ?_ | refine ix0L ?_ | refine ix1L ?_ | refine ix2L ?_ | refine ⟨_, rfl, ?_⟩ | refine ⟨_, _, rfl, rfl, (by show (_ : Nat) ≤ sizeLine; first | assumption | exact big (DOk.strLen (by assumption)) | exact big (DOk.tupLen (by assumption)) | exact big (DOk.lstLen (by assumption)) | exact big (DOw.strLen (by assumption)) | exact big (DOw.tupLen (by assumption)) | exact big (DOw.lstLen (by assumption)) | exact big (DOz.strLen (by assumption)) | exact big (DOz.tupLen (by assumption)) | exact big (DOz.lstLen (by assumption))), ?_⟩ | refine ⟨_, _, rfl, rfl, (by first | decide | (show (0 : Int) < _; decide)), ?_⟩ | refine ⟨_, _, rfl, rfl, ?_⟩ | refine eqR_str ?_ | refine eqR_int ?_ | refine neR_str ?_ | refine neR_int ?_ | refine And.intro rfl ?_ | refine addL (by first | assumption | (rw [sizeLine_eq]; omega) | (rw [sizeLine_eq]; simp; done) | (rw [sizeLine_eq]; simp only [List.length_append, List.length_cons, List.length_nil]; omega)) ?_ | refine addT (by first | assumption | (rw [sizeLine_eq]; omega) | (rw [sizeLine_eq]; simp; done) | (rw [sizeLine_eq]; simp only [List.length_append, List.length_cons, List.length_nil]; omega)) ?_ | refine And.intro (by assumption) ?_ | refine And.intro (by decide) ?_ | refine ⟨_, _, rfl, ?_⟩ | refine iteT rfl ?_ | refine iteF Bool.false_ne_true ?_)
    have e9 : decide (signS c = ("\n" : Str)) = decide (c = 10) := by rw [e1, sign_inj]
    rw [e9]
    refine iteB (fun e2 => ?_) (fun e2 => ?_)
    · have e3 : runT z = .none := if_pos ⟨hne, by rw [hg]; intro x; simp at e2 x; exact e2 x⟩
      rw [e3] at q
      exact q
    rw [nxt fun x => x.2 (by rw [hg]; simp at e2; rw [e2])] at q
    have hfew := lines_few z
    have hli : (initL z).length ≤ 90001 := by unfold initL; rw [List.length_dropLast]; omega
    repeat' (first | refine ix0T ?_ | refine ix1T ?_ | refine ix2T ?_ | refine ix0L ?_ | refine ix1L ?_ | refine ix2L ?_ | refine ⟨_, rfl, ?_⟩ | refine ⟨_, _, rfl, rfl, (by show (_ : Nat) ≤ sizeLine; first | assumption | exact big (DOk.strLen (by assumption)) | exact big (DOk.tupLen (by assumption)) | exact big (DOk.lstLen (by assumption)) | exact big (DOw.strLen (by assumption)) | exact big (DOw.tupLen (by assumption)) | exact big (DOw.lstLen (by assumption)) | exact big (DOz.strLen (by assumption)) | exact big (DOz.tupLen (by assumption)) | exact big (DOz.lstLen (by assumption))), ?_⟩ | refine ⟨_, _, rfl, rfl, (by first | decide | (show (0 : Int) < _; decide)), ?_⟩ | refine ⟨_, _, rfl, rfl, ?_⟩ | refine eqR_str ?_ | refine eqR_int ?_ | refine neR_str ?_ | refine neR_int ?_ | refine And.intro rfl ?_ | refine addL (by first | assumption | (rw [sizeLine_eq]; omega) | (rw [sizeLine_eq]; simp; done) | (rw [sizeLine_eq]; simp only [List.length_append, List.length_cons, List.length_nil]; omega)) ?_ | refine addT (by first | assumption | (rw [sizeLine_eq]; omega) | (rw [sizeLine_eq]; simp; done) | (rw [sizeLine_eq]; simp only [List.length_append, List.length_cons, List.length_nil]; omega)) ?_ | refine And.intro (by assumption) ?_ | refine And.intro (by decide) ?_ | refine ⟨_, _, rfl, ?_⟩ | refine iteT rfl ?_ | refine iteF Bool.false_ne_true ?_)
    rw [hcut]
    refine lc_maps (fun l => PyData.str l) (initL z) (fun _ => true) (fun l => .dat (stepL l)) (by rw [sizeLine_eq]; omega) (fun l hl yes no y1 y2 => ?_) ?_
    · have y := y1 rfl
      have hm : l ∈ linesOf z := List.dropLast_subset _ hl
      have := hfew.2.1 l hm
      have hal : asc l = true := by
        have h2 := split_asc ha (c := 10) (by decide) l
        unfold linesOf at hm
        rw [feed_is] at hm
        exact h2 hm
      repeat' (first | refine ix0T ?_ | refine ix1T ?_ | refine ix2T ?_ | refine ix0L ?_ | refine ix1L ?_ | refine ix2L ?_ | refine ⟨_, rfl, ?_⟩ | refine ⟨_, _, rfl, rfl, (by show (_ : Nat) ≤ sizeLine; first | assumption | exact big (DOk.strLen (by assumption)) | exact big (DOk.tupLen (by assumption)) | exact big (DOk.lstLen (by assumption)) | exact big (DOw.strLen (by assumption)) | exact big (DOw.tupLen (by assumption)) | exact big (DOw.lstLen (by assumption)) | exact big (DOz.strLen (by assumption)) | exact big (DOz.tupLen (by assumption)) | exact big (DOz.lstLen (by assumption))), ?_⟩ | refine ⟨_, _, rfl, rfl, (by first | decide | (show (0 : Int) < _; decide)), ?_⟩ | refine ⟨_, _, rfl, rfl, ?_⟩ | refine eqR_str ?_ | refine eqR_int ?_ | refine neR_str ?_ | refine neR_int ?_ | refine And.intro rfl ?_ | refine addL (by first | assumption | (rw [sizeLine_eq]; omega) | (rw [sizeLine_eq]; simp; done) | (rw [sizeLine_eq]; simp only [List.length_append, List.length_cons, List.length_nil]; omega)) ?_ | refine addT (by first | assumption | (rw [sizeLine_eq]; omega) | (rw [sizeLine_eq]; simp; done) | (rw [sizeLine_eq]; simp only [List.length_append, List.length_cons, List.length_nil]; omega)) ?_ | refine And.intro (by assumption) ?_ | refine And.intro (by decide) ?_ | refine ⟨_, _, rfl, ?_⟩ | refine iteT rfl ?_ | refine iteF Bool.false_ne_true ?_)
      exact ⟨by omega, hal, y⟩
    rw [List.filter_eq_self.mpr fun _ _ => rfl]
    have hdw := steps_dow ha (by omega)
    have hsh := shaped_list hdw
    repeat' (first | refine ix0T ?_ | refine ix1T ?_ | refine ix2T ?_ | refine ix0L ?_ | refine ix1L ?_ | refine ix2L ?_ | refine ⟨_, rfl, ?_⟩ | refine ⟨_, _, rfl, rfl, (by show (_ : Nat) ≤ sizeLine; first | assumption | exact big (DOk.strLen (by assumption)) | exact big (DOk.tupLen (by assumption)) | exact big (DOk.lstLen (by assumption)) | exact big (DOw.strLen (by assumption)) | exact big (DOw.tupLen (by assumption)) | exact big (DOw.lstLen (by assumption)) | exact big (DOz.strLen (by assumption)) | exact big (DOz.tupLen (by assumption)) | exact big (DOz.lstLen (by assumption))), ?_⟩ | refine ⟨_, _, rfl, rfl, (by first | decide | (show (0 : Int) < _; decide)), ?_⟩ | refine ⟨_, _, rfl, rfl, ?_⟩ | refine eqR_str ?_ | refine eqR_int ?_ | refine neR_str ?_ | refine neR_int ?_ | refine And.intro rfl ?_ | refine addL (by first | assumption | (rw [sizeLine_eq]; omega) | (rw [sizeLine_eq]; simp; done) | (rw [sizeLine_eq]; simp only [List.length_append, List.length_cons, List.length_nil]; omega)) ?_ | refine addT (by first | assumption | (rw [sizeLine_eq]; omega) | (rw [sizeLine_eq]; simp; done) | (rw [sizeLine_eq]; simp only [List.length_append, List.length_cons, List.length_nil]; omega)) ?_ | refine And.intro (by assumption) ?_ | refine And.intro (by decide) ?_ | refine ⟨_, _, rfl, ?_⟩ | refine iteT rfl ?_ | refine iteF Bool.false_ne_true ?_)
    rw [eraS]
    refine ⟨by have := hsh.1; simpa only [PyData.hasDict] using this, rfl, hsh.2, ?_⟩
    have hany : (((initL z).map stepL).any fun y => PyData.eqv y .none) = ((initL z).map stepL).any noneD := by
      rw [List.any_map, List.any_map]
      refine congrArg (fun p => (initL z).any p) (funext fun l => ?_)
      show PyData.eqv (stepL l) .none = noneD (stepL l)
      rw [step_eq (wordsOf l) (words_few l).2.2 |> fun h => (h : stepL l = _)]
      split <;> rfl
    rw [hany]
    refine iteB (fun e8 => ?_) (fun e8 => ?_)
    · rw [if_pos e8] at q
      exact q
    · rw [if_neg (by rw [e8]; exact Bool.false_ne_true)] at q
      refine ⟨.list ((initL z).map stepL), by rw [← eraS]; rfl, ?_⟩
      exact q
  · rw [nxt fun x => by simp at e; exact x.1 e] at q
    have hfew := lines_few z
    have hli : (initL z).length ≤ 90001 := by unfold initL; rw [List.length_dropLast]; omega
    repeat' (first | refine ix0T ?_ | refine ix1T ?_ | refine ix2T ?_ | refine ix0L ?_ | refine ix1L ?_ | refine ix2L ?_ | refine ⟨_, rfl, ?_⟩ | refine ⟨_, _, rfl, rfl, (by show (_ : Nat) ≤ sizeLine; first | assumption | exact big (DOk.strLen (by assumption)) | exact big (DOk.tupLen (by assumption)) | exact big (DOk.lstLen (by assumption)) | exact big (DOw.strLen (by assumption)) | exact big (DOw.tupLen (by assumption)) | exact big (DOw.lstLen (by assumption)) | exact big (DOz.strLen (by assumption)) | exact big (DOz.tupLen (by assumption)) | exact big (DOz.lstLen (by assumption))), ?_⟩ | refine ⟨_, _, rfl, rfl, (by first | decide | (show (0 : Int) < _; decide)), ?_⟩ | refine ⟨_, _, rfl, rfl, ?_⟩ | refine eqR_str ?_ | refine eqR_int ?_ | refine neR_str ?_ | refine neR_int ?_ | refine And.intro rfl ?_ | refine addL (by first | assumption | (rw [sizeLine_eq]; omega) | (rw [sizeLine_eq]; simp; done) | (rw [sizeLine_eq]; simp only [List.length_append, List.length_cons, List.length_nil]; omega)) ?_ | refine addT (by first | assumption | (rw [sizeLine_eq]; omega) | (rw [sizeLine_eq]; simp; done) | (rw [sizeLine_eq]; simp only [List.length_append, List.length_cons, List.length_nil]; omega)) ?_ | refine And.intro (by assumption) ?_ | refine And.intro (by decide) ?_ | refine ⟨_, _, rfl, ?_⟩ | refine iteT rfl ?_ | refine iteF Bool.false_ne_true ?_)
    rw [hcut]
    refine lc_maps (fun l => PyData.str l) (initL z) (fun _ => true) (fun l => .dat (stepL l)) (by rw [sizeLine_eq]; omega) (fun l hl yes no y1 y2 => ?_) ?_
    · have y := y1 rfl
      have hm : l ∈ linesOf z := List.dropLast_subset _ hl
      have := hfew.2.1 l hm
      have hal : asc l = true := by
        have h2 := split_asc ha (c := 10) (by decide) l
        unfold linesOf at hm
        rw [feed_is] at hm
        exact h2 hm
      repeat' (first | refine ix0T ?_ | refine ix1T ?_ | refine ix2T ?_ | refine ix0L ?_ | refine ix1L ?_ | refine ix2L ?_ | refine ⟨_, rfl, ?_⟩ | refine ⟨_, _, rfl, rfl, (by show (_ : Nat) ≤ sizeLine; first | assumption | exact big (DOk.strLen (by assumption)) | exact big (DOk.tupLen (by assumption)) | exact big (DOk.lstLen (by assumption)) | exact big (DOw.strLen (by assumption)) | exact big (DOw.tupLen (by assumption)) | exact big (DOw.lstLen (by assumption)) | exact big (DOz.strLen (by assumption)) | exact big (DOz.tupLen (by assumption)) | exact big (DOz.lstLen (by assumption))), ?_⟩ | refine ⟨_, _, rfl, rfl, (by first | decide | (show (0 : Int) < _; decide)), ?_⟩ | refine ⟨_, _, rfl, rfl, ?_⟩ | refine eqR_str ?_ | refine eqR_int ?_ | refine neR_str ?_ | refine neR_int ?_ | refine And.intro rfl ?_ | refine addL (by first | assumption | (rw [sizeLine_eq]; omega) | (rw [sizeLine_eq]; simp; done) | (rw [sizeLine_eq]; simp only [List.length_append, List.length_cons, List.length_nil]; omega)) ?_ | refine addT (by first | assumption | (rw [sizeLine_eq]; omega) | (rw [sizeLine_eq]; simp; done) | (rw [sizeLine_eq]; simp only [List.length_append, List.length_cons, List.length_nil]; omega)) ?_ | refine And.intro (by assumption) ?_ | refine And.intro (by decide) ?_ | refine ⟨_, _, rfl, ?_⟩ | refine iteT rfl ?_ | refine iteF Bool.false_ne_true ?_)
      exact ⟨by omega, hal, y⟩
    rw [List.filter_eq_self.mpr fun _ _ => rfl]
    have hdw := steps_dow ha (by omega)
    have hsh := shaped_list hdw
    repeat' (first | refine ix0T ?_ | refine ix1T ?_ | refine ix2T ?_ | refine ix0L ?_ | refine ix1L ?_ | refine ix2L ?_ | refine ⟨_, rfl, ?_⟩ | refine ⟨_, _, rfl, rfl, (by show (_ : Nat) ≤ sizeLine; first | assumption | exact big (DOk.strLen (by assumption)) | exact big (DOk.tupLen (by assumption)) | exact big (DOk.lstLen (by assumption)) | exact big (DOw.strLen (by assumption)) | exact big (DOw.tupLen (by assumption)) | exact big (DOw.lstLen (by assumption)) | exact big (DOz.strLen (by assumption)) | exact big (DOz.tupLen (by assumption)) | exact big (DOz.lstLen (by assumption))), ?_⟩ | refine ⟨_, _, rfl, rfl, (by first | decide | (show (0 : Int) < _; decide)), ?_⟩ | refine ⟨_, _, rfl, rfl, ?_⟩ | refine eqR_str ?_ | refine eqR_int ?_ | refine neR_str ?_ | refine neR_int ?_ | refine And.intro rfl ?_ | refine addL (by first | assumption | (rw [sizeLine_eq]; omega) | (rw [sizeLine_eq]; simp; done) | (rw [sizeLine_eq]; simp only [List.length_append, List.length_cons, List.length_nil]; omega)) ?_ | refine addT (by first | assumption | (rw [sizeLine_eq]; omega) | (rw [sizeLine_eq]; simp; done) | (rw [sizeLine_eq]; simp only [List.length_append, List.length_cons, List.length_nil]; omega)) ?_ | refine And.intro (by assumption) ?_ | refine And.intro (by decide) ?_ | refine ⟨_, _, rfl, ?_⟩ | refine iteT rfl ?_ | refine iteF Bool.false_ne_true ?_)
    rw [eraS]
    refine ⟨by have := hsh.1; simpa only [PyData.hasDict] using this, rfl, hsh.2, ?_⟩
    have hany : (((initL z).map stepL).any fun y => PyData.eqv y .none) = ((initL z).map stepL).any noneD := by
      rw [List.any_map, List.any_map]
      refine congrArg (fun p => (initL z).any p) (funext fun l => ?_)
      show PyData.eqv (stepL l) .none = noneD (stepL l)
      rw [step_eq (wordsOf l) (words_few l).2.2 |> fun h => (h : stepL l = _)]
      split <;> rfl
    rw [hany]
    refine iteB (fun e8 => ?_) (fun e8 => ?_)
    · rw [if_pos e8] at q
      exact q
    · rw [if_neg (by rw [e8]; exact Bool.false_ne_true)] at q
      refine ⟨.list ((initL z).map stepL), by rw [← eraS]; rfl, ?_⟩
      exact q
end
end K96
set_option Elab.async false
set_option linter.all false
set_option maxRecDepth 100000
set_option maxHeartbeats 1000000
set_option pp.maxSteps 500
/-! K96n: what is told of a value -/
namespace K96
open PySem PySem.Spec PyProof.Rows L2 GL DL
structure CA (K : PySem.W.Frag) (mg : Str → Option Value) (A C : Addr) : Prop where
  gA : mg "AskError" = some (.ref A)
  gC : mg "NoText" = some (.ref C)
  exm : PySem.W.exmOne K (.ref C) (.ref A) = some true
  exc : ExcC K C
/-- a def that may raise, called by its name -/
structure ClX (P : Program) (w : World) (K : PySem.W.Frag) (mg : Str → Option Value) (base : Heap) (k : Nat) (x : Str) (sp : Sp) : Prop where
  ex : ∃ (f : Addr) (fd : FuncData) (ps : List Str), FnX (L2.CX P w) P w K mg base k f fd ps sp ∧ mg x = some (.ref f) ∧ PySem.W.keepIn K (.ref f) = true ∧ Binds K fd ps []
def toldD (z : Str) : PyData := .tuple [.str "told", runD z]
def S_told : DSp := fun as P => ∃ d, as = [.d d] ∧ ((∃ z, d = .str z ∧ z.length ≤ 90000 ∧ okRun z = true ∧ P (.dat (toldD z))) ∨ (BadD d ∧ P (.dat (.str "none"))))
theorem stp_none {B : Option (Addr × Addr)} {G H G' H' : Hp} (s : Stp none G H G' H') : Stp B G H G' H' := by
  have keep : ∀ {a : Addr} {u : HO}, H a = some u → H' a = some u := fun {a u} h => s.keep a u h (fun c e => nomatch e)
  refine ⟨fun a u h _ => keep h, s.sG, s.sGH, s.fr, fun b _ h => ?_⟩
  obtain ⟨g, si, i, ns, e1, e2, e3⟩ := h
  exact ⟨g, si, i, ns, keep e1, s.sG _ _ e2, e3⟩
section
variable {P : Program} {w : World} {K : PySem.W.Frag} {mg : Str → Option Value} {base : Heap} {f A C : Addr} {fd : FuncData}
theorem sc_told : FnScope ["_law_thing", "e"] ["_law_thing"] (defScope s_told) := ⟨rfl, rfl, rfl, by decide +kernel, rfl, by decide +kernel, by decide +kernel⟩
theorem ok_told (F : Fun K "_law_told" "_law_told" s_told f fd) (T : Txt0 mg) (R : CA K mg A C) (c_read : ClX P w K mg base 5 "read_run" (spRead K C)) : FnG P w K mg base 6 f fd ["_law_thing"] (spF K S_told) := by
  obtain ⟨f1, fd1, ps1, F1, m1, k1, b1⟩ := c_read.ex
  refine okG F sc_told (fun vs H Q E h => ?_) (fun cdv A' out s H vs Q E hG hr h => ?_)
  · obtain ⟨B', G, as, P', _, _, r, ⟨d, rfl, _⟩, _⟩ := h
    rw [r.length]
    rfl
  · obtain ⟨B', G, as, P', sm, hb, r, ⟨d, rfl, h⟩, go⟩ := h
    cases r with
    | d rv r =>
    cases r
    refine ⟨_, pss_one (ps_try_as (i := 1) rfl rfl sc_told.nd rfl rfl ⟨rfl, by decide, .inl R.gA⟩ takes0 (fun W' pn xe tk _ => pss_one (ps_ret (pe_tup (pa_cons pe_str (pa_cons (pe_callX F1 hG (hr.mono (by decide)) (by rfl) m1 k1 b1 (fun σ => passAt tk σ) (pa_cons (pv 0) pa_nil)) pa_nil)))))
      (fun a oe cls d pn hz hf => pss_one (ps_ret (pe_ifExp (pt_val (pe_callB (call_isN R.exc hz hf) (by rfl) T.m_isinstance (by decide +kernel) (pa_cons (pv 1) (pa_cons (pe_glob (v := .ref C) (by rfl) R.gC rfl) pa_nil)) (by decide) (by decide))) pe_str pe_str)))), ?_⟩
    rcases h with ⟨z, rfl, hz, ok, q⟩ | ⟨bad, q⟩
    · refine ⟨_, rfl, _, G, .str z, rfl, sm, rv, .inl ⟨z, rfl, hz, ok, fun v' G' H' s rr => ⟨by show (2 : Nat) ≤ sizeLine; rw [sizeLine_eq]; decide, fun p np => ?_⟩⟩⟩
      have s2 := Stp.lay (B := B') (o := .tup [.str "told", v']) s.sGH np
      exact go (.dat (toldD z)) _ _ (.ref p) [] q ((stp_none s).trans s2 fun b e => (hb b e).1) (.dat (.tup (.inl (.inl upd_same)) (.cons (.str _) (.cons (rr.same s2.sG) .nil)))) (fun _ m => nomatch m)
    · refine ⟨_, rfl, _, G, d, rfl, sm, rv, .inr ⟨bad, fun H' sm2 => ?_⟩⟩
      refine ⟨true, R.exm, fun _ a ha => ?_, fun z => nomatch z⟩
      have hCC : PySem.W.kitOne K (.ref C) (.ref C) = some true := by
        unfold PySem.W.kitOne
        simp
      refine ⟨_, rfl, .ref C, .ref C, true, rfl, .own C, rfl, rfl, hCC, true, rfl, ?_⟩
      refine iteT ?_
      have keep : ∀ {b : Addr} {u : HO}, H b = some u → H' b = some u := fun {b u} h => sm2 _ _ h
      refine go _ G H' (.str "none") [] q ⟨fun b u h _ => keep h, Same.refl _, fun b u h => keep (sm _ _ h), fun _ h => .inl h, fun b _ h => ?_⟩ (.dat (.str _)) (fun _ m => nomatch m)
      obtain ⟨g', si, i, ns, e1, e2, e3⟩ := h
      exact ⟨g', si, i, ns, keep e1, e2, e3⟩
end
end K96
set_option Elab.async false
set_option linter.all false
set_option maxRecDepth 100000
/-! K96b: labels -/
namespace K96
open PySem PySem.Spec PyProof.Rows L2 GL DL
theorem at_some {xs : List V} {i : Int} (h0 : 0 ≤ i) (h1 : i < xs.length) : ∃ v, atI xs i = some v ∧ v ∈ xs := by
  have hi : i.toNat < xs.length := by omega
  exact ⟨xs[i.toNat], atI_int h0 (List.getElem?_eq_getElem hi), List.getElem_mem hi⟩
theorem cut_lo (xs : List V) {t : Int} (h : 0 ≤ t) : cutV xs (some t) none = xs.drop t.toNat := by
  unfold cutV
  have e : HT.sIx xs.length 0 (some t) = min t.toNat xs.length := by
    have := HT.sIx_nat xs.length 0 t.toNat
    rwa [Int.toNat_of_nonneg h] at this
  rw [e, HT.sIx_none]
  by_cases k : t.toNat ≤ xs.length
  · rw [Nat.min_eq_left k]
    exact List.take_of_length_le (by rw [List.length_drop]; omega)
  · rw [Nat.min_eq_right (by omega), List.drop_of_length_le (by omega : xs.length ≤ t.toNat), List.drop_length, List.take_nil]
theorem cut_hi (xs : List V) {t : Int} (h : 0 ≤ t) : cutV xs none (some t) = xs.take t.toNat := by
  unfold cutV
  have e : HT.sIx xs.length xs.length (some t) = min t.toNat xs.length := by
    have := HT.sIx_nat xs.length xs.length t.toNat
    rwa [Int.toNat_of_nonneg h] at this
  rw [e, HT.sIx_none]
  show (xs.drop 0).take (min t.toNat xs.length - 0) = xs.take t.toNat
  rw [List.drop_zero, Nat.sub_zero]
  by_cases k : t.toNat ≤ xs.length
  · rw [Nat.min_eq_left k]
  · rw [Nat.min_eq_right (by omega), List.take_length, List.take_of_length_le (by omega)]
theorem But.at_new {b D : Addr} {H H' : Hp} {o : HO} (h : But b H H') (n : H D = none) : But b H (upd H' D o) := fun a u e => by
  obtain ⟨h1, h2⟩ := wo_some e
  have k := h a u e
  obtain ⟨_, k2⟩ := wo_some k
  rw [wo_ne h1, upd_ne (ne_of_none h2 n)]
  exact k2
/-- at most n signs, all letters -/
def LtB (n : Nat) (x : Str) : Prop := x.length ≤ n ∧ ∀ c ∈ x.cps.toList, 97 ≤ c ∧ c ≤ 122
theorem LtB.mono {n m : Nat} {x : Str} (h : LtB n x) (hn : n ≤ m) : LtB m x := ⟨Nat.le_trans h.1 hn, h.2⟩
theorem LtB.add {n m : Nat} {x y : Str} (h : LtB n x) (k : LtB m y) : LtB (n + m) (x ++ y) := by
  refine ⟨?_, fun c hc => ?_⟩
  · rw [Str.length_append]
    have := h.1
    have := k.1
    omega
  · have e : (x ++ y).cps.toList = x.cps.toList ++ y.cps.toList := by
      show (x.cps ++ y.cps).toList = _
      rw [Array.toList_append]
    rw [e] at hc
    rcases List.mem_append.mp hc with z | z
    · exact h.2 c z
    · exact k.2 c z
theorem LtB.cut {n : Nat} {x : Str} (h : LtB n x) (lo hi : Option Int) : LtB n (cutS x lo hi) := by
  refine ⟨Nat.le_trans (cutS_length x lo hi) h.1, fun c hc => h.2 c ?_⟩
  have hc' : c ∈ ((x.cps.toList.drop (HT.sIx x.length 0 lo)).take (HT.sIx x.length x.length hi - HT.sIx x.length 0 lo)) := by simpa [cutS] using hc
  exact List.mem_of_mem_drop (List.mem_of_mem_take hc')
theorem LtB.one {c : Nat} (h : 97 ≤ c ∧ c ≤ 122) : LtB 1 ⟨#[c]⟩ := ⟨Nat.le_refl _, fun d hd => by
  have e : d = c := by simpa using hd
  rw [e]
  exact h⟩
theorem LtB.at {n : Nat} {x : Str} (h : LtB n x) {i : Int} {c : Nat} (e : atI x.cps.toList i = some c) : LtB 1 ⟨#[c]⟩ := by
  refine .one (h.2 c ?_)
  unfold atI at e
  cases k : ixN x.cps.toList.length i with
  | none => rw [k] at e; cases e
  | some j =>
    rw [k] at e
    exact List.mem_of_getElem? e
theorem LtB.mul {n m : Nat} {x : Str} (h : LtB n x) {k : Int} (hk : k ≤ m) (hm : 1 ≤ m) : LtB (n * m) (Txt.mul x k) := by
  have h1 := h.1
  unfold Txt.mul
  by_cases k1 : k < 1
  · rw [if_pos k1]
    exact ⟨Nat.zero_le _, fun c hc => nomatch hc⟩
  · rw [if_neg k1]
    by_cases k2 : (k == 1 || x.length == 0) = true
    · rw [if_pos k2]
      exact h.mono (Nat.le_mul_of_pos_right _ hm)
    · rw [if_neg k2]
      refine ⟨?_, fun c hc => ?_⟩
      · show ((List.replicate k.toNat x.cps).foldl (· ++ ·) #[]).size ≤ n * m
        rw [reps_len]
        have e : x.cps.size ≤ n := h1
        have e2 : k.toNat * x.cps.size ≤ m * n := Nat.mul_le_mul (by omega) e
        rw [Nat.mul_comm m n] at e2
        simpa using e2
      · rcases reps_mem x.cps k.toNat #[] c hc with z | z
        · cases z
        · exact h.2 c z
theorem LtB.glue {n : Nat} : ∀ {ys : List Str}, (∀ y ∈ ys, LtB n y) → LtB (n * ys.length) (Txt.join Str.empty ys)
  | [], _ => by
    show LtB _ (Builtin.Str.glued Str.empty [])
    rw [StrLaws.glued_eq_join]
    exact ⟨Nat.zero_le _, fun c hc => nomatch hc⟩
  | [y], h => by
    show LtB _ (Builtin.Str.glued Str.empty [y])
    rw [StrLaws.glued_eq_join]
    exact (h y List.mem_cons_self).mono (by simp)
  | y :: z :: r, h => by
    have k := LtB.glue (ys := z :: r) fun u hu => h u (List.mem_cons_of_mem _ hu)
    have k' : LtB (n * (z :: r).length) (Str.join Str.empty (z :: r)) := by
      have e : Txt.join Str.empty (z :: r) = Str.join Str.empty (z :: r) := StrLaws.glued_eq_join _ _
      rw [← e]
      exact k
    show LtB _ (Builtin.Str.glued Str.empty (y :: z :: r))
    rw [StrLaws.glued_eq_join]
    show LtB _ (y ++ Str.empty ++ Str.join Str.empty (z :: r))
    have e0 : LtB 0 Str.empty := ⟨Nat.le_refl _, fun c hc => nomatch hc⟩
    refine (((h y List.mem_cons_self).add e0).add k').mono ?_
    rw [List.length_cons (a := y), Nat.mul_succ]
    omega
theorem LtB.tx {n : Nat} {x : Str} (h : LtB n x) : TxB n x := ⟨h.1, fun c hc => by have := (h.2 c hc).2; omega⟩
theorem LtB.size {n : Nat} {x : Str} (h : LtB n x) (hn : n ≤ 10000) : x.length ≤ sizeLine := h.tx.size hn
/-- a name: one to eight letters -/
def Nm (z : Str) : Prop := LtB 8 z ∧ 1 ≤ z.length
theorem mul_one_len {c : Nat} {k : Int} (h : 1 ≤ k) : (Txt.mul ⟨#[c]⟩ k).length = k.toNat := by
  unfold Txt.mul
  rw [if_neg (by omega)]
  by_cases e : (k == 1 || (⟨#[c]⟩ : Str).length == 0) = true
  · rw [if_pos e]
    have e1 : k = 1 := by
      rcases Bool.or_eq_true_iff.mp e with z | z
      · exact beq_iff_eq.mp z
      · cases z
    rw [e1]
    rfl
  · rw [if_neg e]
    show ((List.replicate k.toNat #[c]).foldl (· ++ ·) #[]).size = k.toNat
    rw [reps_len]
    simp
theorem mul_zero_len {x : Str} : (Txt.mul x 0).length = 0 := by
  unfold Txt.mul
  rw [if_pos (by decide)]
  rfl
theorem sum_le {n : Nat} : ∀ {ys : List Str}, (∀ y ∈ ys, LtB n y) → (ys.map (·.length)).sum ≤ n * ys.length
  | [], _ => Nat.zero_le _
  | y :: r, h => by
    have k := sum_le (ys := r) fun z hz => h z (List.mem_cons_of_mem _ hz)
    have := (h y List.mem_cons_self).1
    rw [List.map_cons, List.sum_cons, List.length_cons, Nat.mul_succ]
    omega
abbrev lets : Str := Str.ofString "abcdefghijklmnopqrstuvwxyz"
theorem lets_tx : LtB 26 lets := ⟨by decide +kernel, by decide +kernel⟩
theorem lets_at {i : Int} (h0 : 0 ≤ i) (h1 : i < 26) : ∃ c, atI lets.cps.toList i = some c := by
  have e : lets.cps.toList.length = 26 := by decide +kernel
  have hi : i.toNat < lets.cps.toList.length := by omega
  exact ⟨lets.cps.toList[i.toNat], atI_int h0 (List.getElem?_eq_getElem hi)⟩
abbrev menuA : Str := Str.ofString "x y new mark point root ask await quiet free later lock unlock either loop"
abbrev menuB : Str := Str.ofString " enter leave field writer begin end cells or show"
def menuL : List Str := Txt.split (menuA ++ menuB) (Str.ofString " ")
theorem menu_len : menuL.length = 24 := by decide +kernel
theorem menu_tx : ∀ z ∈ menuL, Nm z := by
  have h : (menuL.all fun z => decide (z.length ≤ 8) && (decide (1 ≤ z.length) && z.cps.toList.all fun c => decide (97 ≤ c ∧ c ≤ 122))) = true := by decide +kernel
  intro z hz
  have k := List.all_eq_true.mp h z hz
  rw [Bool.and_eq_true, Bool.and_eq_true, decide_eq_true_eq, decide_eq_true_eq, List.all_eq_true] at k
  exact ⟨⟨k.1, fun c hc => of_decide_eq_true (k.2.2 c hc)⟩, k.2.1⟩
theorem cutS_lo {x : Str} {t : Int} (h : 0 ≤ t) : (cutS x (some t) none).length = x.length - t.toNat := by
  have e : HT.sIx x.length 0 (some t) = min t.toNat x.length := by
    have := HT.sIx_nat x.length 0 t.toNat
    rwa [Int.toNat_of_nonneg h] at this
  show (((x.cps.toList.drop (HT.sIx x.length 0 (some t))).take (HT.sIx x.length x.length none - HT.sIx x.length 0 (some t))).toArray).size = _
  rw [List.size_toArray, List.length_take, List.length_drop, Array.length_toList, e, HT.sIx_none]
  have e2 : x.cps.size = x.length := rfl
  omega
theorem cutS_hi {x : Str} {t : Int} (h : 0 ≤ t) : (cutS x none (some t)).length = min t.toNat x.length := by
  have e : HT.sIx x.length x.length (some t) = min t.toNat x.length := by
    have := HT.sIx_nat x.length x.length t.toNat
    rwa [Int.toNat_of_nonneg h] at this
  show (((x.cps.toList.drop (HT.sIx x.length 0 none)).take (HT.sIx x.length x.length (some t) - HT.sIx x.length 0 none)).toArray).size = _
  rw [List.size_toArray, List.length_take, List.length_drop, Array.length_toList, e, HT.sIx_none]
  have e2 : x.cps.size = x.length := rfl
  omega
abbrev N_labels : List Str := ["_law_bag_here", "_law_many", "_law_letters", "_law_menu", "_law_way", "_law_turn", "_law_stem", "_law_at", "_law_far", "_law_some", "_law_k"]
section
variable {P : Program} {w : World} {K : PySem.W.Frag} {mg : Str → Option Value} {base : Heap} {C : Addr}
theorem sc_labels : FnScope ["_law_bag_here", "_law_many", "_law_letters", "_law_menu", "_law_way", "_law_turn", "_law_stem", "_law_at", "_law_far", "_law_some", "_law_k"] ["_law_bag_here", "_law_many"] (defScope s_labels) := ⟨rfl, rfl, rfl, by decide +kernel, rfl, by decide +kernel, by decide +kernel⟩
def spLabels : Sp := fun vs H Q _ => ∃ (b c : Addr) (m : Int), vs = [.ref b, .int m] ∧ Bg H b c ∧ 0 ≤ m ∧ m ≤ 24 ∧
  ∀ (H' : Hp) (p : Addr) (zs : List Str), But b H H' → Bg H' b c → H p = none → p ≠ b → p ≠ c → H' p = some (.lst (zs.map V.str)) → zs.length = m.toNat → (∀ z ∈ zs, Nm z) → Q (.ref p) H'
theorem ok_labels {f : Addr} {fd : FuncData} (F : Fun K "_law_labels" "_law_labels" s_labels f fd) (T : Txt0 mg) (GT : Cl P w K mg base 1 "_law_take" spTake) : FnOk P w K mg base CX0 2 f fd ["_law_bag_here", "_law_many"] spLabels := by
  refine F.ok sc_labels (fun vs H Q E h => ?_) (fun cdv A outer s H vs Q E hr h => ?_)
  · obtain ⟨b, c, m, rfl, _⟩ := h
    rfl
  · obtain ⟨b, c, m, rfl, bag, hm0, hm1, q⟩ := h
    refine ⟨_, (pss_cons (ps_set (i := 2) sc_labels.nd rfl (.inr rfl) pe_str)
      (pss_cons (ps_set (i := 3) sc_labels.nd rfl (.inl rfl) pe_str)
      (pss_cons (ps_set (i := 3) sc_labels.nd rfl (.inl rfl) (pe_split (pe_op op_add_str (pv 3) pe_str) pe_str))
      (C8.pss_cut (ps_asg (pe_tup (pa_cons (pe_cl GT hr (by decide) (by rfl) (pa_cons (pv 0) (pa_cons pe_int pa_nil))) (pa_cons (pe_cl GT hr (by decide) (by rfl) (pa_cons (pv 0) (pa_cons pe_int pa_nil))) pa_nil))) (pg_tup (by rfl) (pgs_cons (pg_name (i := 4) sc_labels.nd rfl (.inl rfl)) (pgs_cons (pg_name (i := 5) sc_labels.nd rfl (.inr rfl)) pgs_nil))))
      (C8.pss_cut (ps_set (i := 6) sc_labels.nd rfl (.inr rfl) (pe_join pe_str (pe_lc (own := [("_law_k", 10)]) (g := (gName 10)) (tt := tYes) rfl sc_labels.nd (pi_range1 (by rfl) T.m_range (pa_cons (pe_op op_add pe_int (pe_cl GT hr (by decide) (by rfl) (pa_cons (pv 0) (pa_cons pe_int pa_nil)))) pa_nil)) (blkOk_by (N := N_labels) (sc := defScope s_labels) (by decide +kernel)) (fun _ _ _ _ _ => pg_name (i := 10) sc_labels.nd rfl (.inl rfl)) (fun _ _ _ _ _ => pts_nil) (fun _ _ _ _ _ => (pe_ix ix_str (pv 2) (pe_cl GT hr (by decide) (by rfl) (pa_cons (pv 0) (pa_cons pe_int pa_nil))) (fun _ _ => rfl))))))
      (C8.pss_cut (ps_asg (pe_tup (pa_cons (pe_cl GT hr (by decide) (by rfl) (pa_cons (pv 0) (pa_cons (pe_op op_add (pe_callB call_len_str (by rfl) T.m_len PySem.boot_len (pa_cons (pv 6) pa_nil)) pe_int) pa_nil))) (pa_cons (pe_op op_fdiv (pv 4) pe_int) pa_nil))) (pg_tup (by rfl) (pgs_cons (pg_name (i := 7) sc_labels.nd rfl (.inr rfl)) (pgs_cons (pg_name (i := 8) sc_labels.nd rfl (.inr rfl)) pgs_nil))))
      (pss_cons (ps_if (pt_cmpR op_eq (pv 4) pe_int (nomark _))
        (pss_one (ps_ret (pe_slice sl_list (pe_op op_cat (pe_slice sl_list (pv 3) (po_some (pv 5)) po_none) (pe_slice sl_list (pv 3) po_none (po_some (pv 5)))) po_none (po_some (pv 1)))))
        pss_nil)
      (C8.pss_cut (ps_set (i := 9) sc_labels.nd rfl (.inr rfl) (pe_lc (own := [("_law_k", 10)]) (g := (gName 10)) (tt := tYes) rfl sc_labels.nd (pi_range1 (by rfl) T.m_range (pa_cons (pv 1) pa_nil)) (blkOk_by (N := N_labels) (sc := defScope s_labels) (by decide +kernel)) (fun _ _ _ _ _ => pg_name (i := 10) sc_labels.nd rfl (.inl rfl)) (fun _ _ _ _ _ => pts_nil) (fun _ _ _ _ _ => (pe_op op_mul_str (pe_ix ix_str (pv 2) (pe_op op_mod (pe_callTy call_int1 (by rfl) T.m_int (by decide +kernel) (pa_cons (pe_op op_add (pv 5) (pe_ix (r := rIxL K) ix_list (pe_lst (pa_cons (pe_op op_mul pe_int (pv 10)) (pa_cons (pe_op op_fdiv (pv 10) pe_int) pa_nil))) (pv 8) (fun _ _ => rfl))) pa_nil)) pe_int) (fun _ _ => rfl)) (pe_op op_add pe_int (pe_op op_mul (pe_op op_mod (pe_callTy call_int1 (by rfl) T.m_int (by decide +kernel) (pa_cons (pv 10) pa_nil)) pe_int) (pv 8)))))))
      (pss_cons (ps_set (i := 6) sc_labels.nd rfl (.inr rfl) (pe_op op_mul_str (pv 6) (pe_callTy call_int1 (by rfl) T.m_int (by decide +kernel) (pa_cons (pe_cmpR op_eq (pv 4) pe_int (nomark _)) pa_nil))))
      (pss_one (ps_ret (pe_lc (own := [("_law_k", 10)]) (g := (gName 10)) (tt := tYes) rfl sc_labels.nd (pi_range1 (by rfl) T.m_range (pa_cons (pv 1) pa_nil)) (blkOk_by (N := N_labels) (sc := defScope s_labels) (by decide +kernel)) (fun _ _ _ _ _ => pg_name (i := 10) sc_labels.nd rfl (.inl rfl)) (fun _ _ _ _ _ => pts_nil) (fun _ _ _ _ _ => (pe_op op_add_str (pe_op op_add_str (pe_slice sl_str (pv 6) po_none (po_some (pv 7))) (pe_ix (r := rIxL K) ix_list (pv 9) (pv 10) (fun _ _ => rfl))) (pe_slice sl_str (pv 6) (po_some (pv 7)) po_none))))))))))))))), ?_⟩
    -- menu
    refine ⟨.str menuA, rfl, menuA, menuB, rfl, rfl, by rw [sizeLine_eq]; decide +kernel, ⟨_, rfl⟩, menuA ++ menuB, Str.ofString " ", rfl, rfl, by decide +kernel, by rw [sizeLine_eq]; decide +kernel, fun p0 n0 => ?_⟩
    have bag0 := bag.new (o := .lst (menuL.map V.str)) n0
    have p0b := bag.nb n0
    have p0c := bag.nc n0
    -- way, turn
    refine ⟨fun σ H' => ∃ way turn : Int, σ = [some (.ref b), some (.int m), some (.str lets), some (.ref p0), some (.int way), some (.int turn), none, none, none, none, none] ∧ 0 ≤ way ∧ way < 4 ∧ 0 ≤ turn ∧ turn < 24 ∧
      But b H H' ∧ Bg H' b c ∧ H' p0 = some (.lst (menuL.map V.str)), ?_, ?_⟩
    · refine ⟨.ref b, rfl, b, c, 4, rfl, bag0, by decide, by decide, fun way xs1 hw0 hw1 bag1 => ?_⟩
      refine ⟨.ref b, rfl, b, c, 24, rfl, bag1, by decide, by decide, fun turn xs2 ht0 ht1 bag2 => ?_⟩
      rw [upd_upd] at bag2 ⊢
      refine ⟨by show 2 ≤ sizeLine; rw [sizeLine_eq]; decide, fun pt npt => ⟨pt, _, rfl, .inl (.inl upd_same), rfl, _, _, rfl, _, _, rfl, rfl, ?_⟩⟩
      refine ⟨way, turn, rfl, hw0, hw1, ht0, ht1, ?_, bag2.new npt, ?_⟩
      · exact ((But.new n0).trans But.upd).trans (But.new npt)
      · have e : (upd (upd H p0 (.lst (menuL.map V.str))) b (.lst xs2)) p0 = some (.lst (menuL.map V.str)) := by rw [upd_ne p0b]; exact upd_same
        rw [upd_ne (ne_of_none e npt)]
        exact e
    · rintro σ H1 ⟨way, turn, rfl, hw0, hw1, ht0, ht1, but1, bag1, hp1⟩
      -- stem
      refine ⟨fun σ H' => ∃ stem : Str, LtB 7 stem ∧ σ = [some (.ref b), some (.int m), some (.str lets), some (.ref p0), some (.int way), some (.int turn), some (.str stem), none, none, none, none] ∧
        But b H H' ∧ Bg H' b c ∧ H' p0 = some (.lst (menuL.map V.str)), ?_, ?_⟩
      · refine ⟨⟨_, rfl⟩, .ref b, rfl, b, c, 7, rfl, bag1, by decide, by decide, fun r xs1 hr0 hr1 bag2 => ⟨1, r, rfl, rfl, 1 + r, rfl, by omega, by omega, fun D nD => ?_⟩⟩
        have Db := bag2.nb nD
        have Dc := bag2.nc nD
        have but2 : But b H (upd H1 b (.lst xs1)) := but1.trans But.upd
        have hp2 : (upd H1 b (.lst xs1)) p0 = some (.lst (menuL.map V.str)) := by rw [upd_ne p0b]; exact hp1
        have Dp : p0 ≠ D := ne_of_none hp2 nD
        refine lc_it walk_range (fun i H' => ∃ cs : List Str, cs.length = i ∧ (∀ z ∈ cs, LtB 1 z) ∧ H' D = some (.lst (cs.map V.str)) ∧ But b (upd H1 b (.lst xs1)) H' ∧ Bg H' b c)
          ⟨[], rfl, (fun _ hz => nomatch hz), upd_same, But.new nD, bag2.new nD⟩ (fun _ _ _ _ => trivial) (fun i x H2 H3 hi hP hY => ?_) (fun H2 hP => ?_)
        · obtain ⟨cs, hl, htx, hD, but3, bag3⟩ := hP
          obtain ⟨rfl, rfl⟩ := hY
          refine ⟨rfl, .str lets, rfl, .ref b, rfl, b, c, 26, rfl, bag3, by decide, by decide, fun k xs3 hk0 hk1 bag4 => ?_⟩
          obtain ⟨l, hl2⟩ := lets_at hk0 hk1
          refine ⟨lets, k, l, rfl, rfl, lets_tx.size (by decide), hl2, cs.map V.str, by rw [upd_ne Db]; exact hD, small1000 (by rw [List.length_map]; omega), cs ++ [⟨#[l]⟩], by rw [List.length_append, hl]; rfl, fun z hz => ?_, ?_, ?_, ?_⟩
          · rcases List.mem_append.mp hz with hz | hz
            · exact htx z hz
            · rw [List.mem_singleton.mp hz]
              exact lets_tx.at hl2
          · rw [upd_same, List.map_append]
            rfl
          · exact But.at_new (but3.trans But.upd) nD
          · exact bag4.at Db Dc
        · obtain ⟨cs, hl, htx, hD, but3, bag3⟩ := hP
          have hs : (cs.map (·.length)).sum ≤ 1 * cs.length := sum_le htx
          refine ⟨_, D, cs, rfl, rfl, .inl (.inl (.inl hD)), ?_, Txt.join Str.empty cs, (LtB.glue htx).mono (by omega), rfl, but2.trans but3, bag3, but3.at p0b hp2⟩
          show _ + cs.length * 0 ≤ _
          omega
      · rintro σ H2 ⟨stem, hst, rfl, but2, bag2, hp2⟩
        -- at, far
        refine ⟨fun σ H' => ∃ at' : Int, 0 ≤ at' ∧ at' ≤ 7 ∧ σ = [some (.ref b), some (.int m), some (.str lets), some (.ref p0), some (.int way), some (.int turn), some (.str stem), some (.int at'), some (.int (way / 3)), none, none] ∧
          But b H H' ∧ Bg H' b c ∧ H' p0 = some (.lst (menuL.map V.str)), ?_, ?_⟩
        · have h7 := hst.1
          refine ⟨.ref b, rfl, .str stem, rfl, stem, rfl, hst.size (by decide), _, _, rfl, rfl, b, c, (stem.length : Int) + 1, rfl, bag2, by omega, by omega, fun r xs1 hr0 hr1 bag3 => ?_⟩
          refine ⟨_, rfl, way, 3, rfl, rfl, ⟨by decide, by decide⟩, by show 2 ≤ sizeLine; rw [sizeLine_eq]; decide, fun pt npt => ⟨pt, _, rfl, .inl (.inl upd_same), rfl, _, _, rfl, _, _, rfl, rfl, ?_⟩⟩
          refine ⟨r, hr0, by omega, rfl, (but2.trans But.upd).trans (But.new npt), bag3.new npt, ?_⟩
          have e : (upd H2 b (.lst xs1)) p0 = some (.lst (menuL.map V.str)) := by rw [upd_ne p0b]; exact hp2
          rw [upd_ne (ne_of_none e npt)]
          exact e
        · rintro σ H3 ⟨at', ha0, ha1, rfl, but3, bag3, hp3⟩
          refine ⟨_, rfl, rfl, _, rfl, ite2 (fun e => ?_) (fun e => ?_)⟩
          · -- from the menu
            refine ⟨.ref p0, rfl, _, rfl, turn, rfl, p0, _, rfl, .inl (.inl hp3), fun u1 nu1 => ?_⟩
            have hq1 : (upd H3 u1 (.lst (cutV (menuL.map V.str) (some turn) none))) p0 = some (.lst (menuL.map V.str)) := by rw [upd_ne (ne_of_none hp3 nu1)]; exact hp3
            refine ⟨.ref p0, rfl, _, rfl, turn, rfl, p0, _, rfl, .inl (.inl hq1), fun u2 nu2 => ?_⟩
            have h12 : u1 ≠ u2 := ne_of_none upd_same nu2
            refine ⟨u1, u2, _, _, rfl, rfl, by rw [upd_ne h12]; exact upd_same, upd_same, ?_, fun u3 nu3 => ?_⟩
            · have h1 := cutV_length (menuL.map V.str) (some turn) none
              have h2 := cutV_length (menuL.map V.str) none (some turn)
              rw [List.length_map, menu_len] at h1 h2
              rw [sizeLine_eq]
              omega
            · refine ⟨_, rfl, m, rfl, u3, _, rfl, .inl (.inl upd_same), fun u4 nu4 => ?_⟩
              have n4 := upd_none nu4
              have n4b := upd_none n4.2
              have n4c := upd_none n4b.2
              have n3 := upd_none nu3
              have n3b := upd_none n3.2
              have hH4 : H u4 = none := by
                cases eh : H u4 with
                | none => rfl
                | some o =>
                  have hb4 : u4 ≠ b := bag3.nb n4c.2
                  have := but3.at hb4 eh
                  rw [n4c.2] at this
                  cases this
              refine q _ u4 ((menuL.drop turn.toNat ++ menuL.take turn.toNat).take m.toNat) ?_ ?_ hH4 (bag3.nb n4c.2) (bag3.nc n4c.2) ?_ ?_ ?_
              · exact (((but3.trans (But.new nu1)).trans (But.new nu2)).trans (But.new nu3)).trans (But.new nu4)
              · exact (((bag3.new nu1).new nu2).new nu3).new nu4
              · rw [upd_same, cut_lo _ ht0, cut_hi _ ht0, cut_hi _ hm0, List.map_take, List.map_append, List.map_drop, List.map_take]
              · rw [List.length_take, List.length_append, List.length_drop, List.length_take, menu_len]
                omega
              · intro z hz
                rcases List.mem_append.mp (List.mem_of_mem_take hz) with hz | hz
                · exact menu_tx z (List.mem_of_mem_drop hz)
                · exact menu_tx z (List.mem_of_mem_take hz)
          · -- some
            have hf0 : 0 ≤ way / 3 := Int.ediv_nonneg hw0 (by decide)
            have hf1 : way / 3 ≤ 1 := by omega
            refine ⟨fun σ H' => ∃ (p1 : Addr) (cs : List Str), σ = [some (.ref b), some (.int m), some (.str lets), some (.ref p0), some (.int way), some (.int turn), some (.str stem), some (.int at'), some (.int (way / 3)), some (.ref p1), none] ∧
              cs.length = m.toNat ∧ (∀ z ∈ cs, Nm z ∧ (way / 3 = 0 → z.length = 1)) ∧ H' p1 = some (.lst (cs.map V.str)) ∧ But b H H' ∧ Bg H' b c, ?_, ?_⟩
            · refine ⟨_, rfl, m, rfl, by omega, by omega, fun D nD => ?_⟩
              have Db := bag3.nb nD
              have Dc := bag3.nc nD
              refine lc_it walk_range (fun i H' => ∃ cs : List Str, cs.length = i ∧ (∀ z ∈ cs, Nm z ∧ (way / 3 = 0 → z.length = 1)) ∧ H' D = some (.lst (cs.map V.str)) ∧ But b H3 H' ∧ Bg H' b c)
                ⟨[], rfl, (fun _ hz => nomatch hz), upd_same, But.new nD, bag3.new nD⟩ (fun _ _ _ _ => trivial) (fun i x H4 H5 hi hP hY => ?_) (fun H4 hP => ?_)
              · obtain ⟨cs, hl, htx, hD, but4, bag4⟩ := hP
                obtain ⟨rfl, rfl⟩ := hY
                refine ⟨rfl, .str lets, rfl, .int turn, rfl, _, rfl, 3, 0 + (i : Int), rfl, rfl, .inl (by decide), _, rfl, 0 + (i : Int), 8, rfl, rfl, ⟨by decide, by decide⟩, by show 2 ≤ sizeLine; rw [sizeLine_eq]; decide, fun l nl => ?_⟩
                have step : ∀ v : Int, atI [V.int (3 * (0 + (i : Int))), V.int ((0 + (i : Int)) / 8)] (way / 3) = some (.int v) → _ := fun v hv => hv
                have hv : ∃ v : Int, atI [V.int (3 * (0 + (i : Int))), V.int ((0 + (i : Int)) / 8)] (way / 3) = some (.int v) := by
                  rcases (by omega : way / 3 = 0 ∨ way / 3 = 1) with z | z
                  · rw [z]
                    exact ⟨_, rfl⟩
                  · rw [z]
                    exact ⟨_, rfl⟩
                obtain ⟨v, hv⟩ := hv
                have h260 : 0 ≤ (turn + v) % 26 := Int.emod_nonneg _ (by decide)
                have h261 : (turn + v) % 26 < 26 := Int.emod_lt_of_pos _ (by decide)
                obtain ⟨cc, hcc⟩ := lets_at h260 h261
                refine ⟨_, rfl, l, _, way / 3, .int v, rfl, rfl, .inl (.inl upd_same), hv, turn, v, rfl, rfl, .inl ⟨turn + v, rfl, turn + v, 26, rfl, rfl, by show (0 : Int) < 26; decide, lets, _, cc, rfl, rfl, lets_tx.size (by decide), hcc, ?_⟩⟩
                have h80 : 0 ≤ (0 + (i : Int)) % 8 := Int.emod_nonneg _ (by decide)
                have h81 : (0 + (i : Int)) % 8 < 8 := Int.emod_lt_of_pos _ (by decide)
                have hmul : (0 + (i : Int)) % 8 * (way / 3) ≤ 7 ∧ 0 ≤ (0 + (i : Int)) % 8 * (way / 3) := by
                  rcases (by omega : way / 3 = 0 ∨ way / 3 = 1) with z | z
                  · rw [z, Int.mul_zero]
                    omega
                  · rw [z, Int.mul_one]
                    omega
                have hone : LtB 1 (⟨#[cc]⟩ : Str) := lets_tx.at hcc
                refine ⟨_, rfl, .inl ⟨_, rfl, _, 8, rfl, rfl, by show (0 : Int) < 8; decide, _, rfl, _, way / 3, rfl, rfl, .inr (by omega), 1, _, rfl, rfl, _, _, rfl, rfl, by omega, by omega, by have := hone.1; omega, ?_⟩⟩
                have hDl : D ≠ l := ne_of_none hD nl
                refine ⟨cs.map V.str, by rw [upd_ne hDl]; exact hD, small1000 (by rw [List.length_map]; omega), cs ++ [Txt.mul ⟨#[cc]⟩ (1 + (0 + (i : Int)) % 8 * (way / 3))], by rw [List.length_append, hl]; rfl, fun z hz => ?_, ?_, ?_, ?_⟩
                · rcases List.mem_append.mp hz with hz | hz
                  · exact htx z hz
                  · rw [List.mem_singleton.mp hz]
                    have hl8 := mul_one_len (c := cc) (k := 1 + (0 + (i : Int)) % 8 * (way / 3)) (by omega)
                    refine ⟨⟨(hone.mul (m := 8) (by omega) (by decide)).mono (by decide), by rw [hl8]; omega⟩, fun z => ?_⟩
                    rw [hl8, z, Int.mul_zero]
                    rfl
                · rw [upd_same, List.map_append]
                  rfl
                · exact But.at_new (but4.trans (But.new nl)) nD
                · exact (bag4.new nl).at Db Dc
              · obtain ⟨cs, hl, htx, hD, but4, bag4⟩ := hP
                exact ⟨D, cs, rfl, hl, htx, hD, but3.trans but4, bag4⟩
            · rintro σ H4 ⟨p1, cs, rfl, hl, htx, hp4, but4, bag4⟩
              have h7 := hst.1
              have key : ∀ k : Int, 0 ≤ k → k ≤ 1 → (way ≠ 2 → k = 0) → ∀ stem2 : Str, stem2 = Txt.mul stem k → LtB 7 stem2 ∧ (way ≠ 2 → stem2.length = 0) := fun k h0 h1 h2 stem2 e => by
                rw [e]
                refine ⟨(hst.mul (m := 1) (by omega) (by decide)).mono (by decide), fun z => ?_⟩
                rw [h2 z]
                exact mul_zero_len
              refine ⟨_, rfl, _, rfl, rfl, .inr ⟨_, rfl, stem, _, rfl, rfl, ?_, ?_, by omega, ?_⟩⟩
              · cases decide (V.int way = V.int 2) <;> decide
              · cases decide (V.int way = V.int 2) <;> decide
              · have hst2 := key (if decide (V.int way = V.int 2) = true then 1 else 0) (by cases decide (V.int way = V.int 2) <;> decide) (by cases decide (V.int way = V.int 2) <;> decide) (fun z => by rw [decide_eq_false (show ¬ V.int way = V.int 2 from fun e => z (by injection e))]; rfl) _ rfl
                revert hst2
                generalize Txt.mul stem (if decide (V.int way = V.int 2) = true then 1 else 0) = stem2
                rintro ⟨hst2, hno2⟩
                refine ⟨_, rfl, m, rfl, by omega, by omega, fun D nD => ?_⟩
                have Db := bag4.nb nD
                have Dc := bag4.nc nD
                have Dp1 : p1 ≠ D := ne_of_none hp4 nD
                refine lc_it walk_range (fun i H' => ∃ zs : List Str, zs.length = i ∧ (∀ z ∈ zs, Nm z) ∧ H' = upd H4 D (.lst (zs.map V.str)))
                  ⟨[], rfl, (fun _ hz => nomatch hz), rfl⟩ (fun _ _ _ _ => trivial) (fun i x H5 H6 hi hP hY => ?_) (fun H5 hP => ?_)
                · obtain ⟨zs, hz1, hz2, rfl⟩ := hP
                  obtain ⟨rfl, rfl⟩ := hY
                  have hi2 : i < cs.length := by omega
                  have h5 := hst2.1
                  have t1 : LtB 7 (cutS stem2 none (some at')) := hst2.cut _ _
                  have t2' := htx _ (List.getElem_mem hi2)
                  have t2 : LtB 8 cs[i] := t2'.1.1
                  have t3 : LtB 7 (cutS stem2 (some at') none) := hst2.cut _ _
                  refine ⟨rfl, _, rfl, _, rfl, at', rfl, stem2, rfl, hst2.size (by decide), .ref p1, rfl, _, rfl, p1, _, 0 + (i : Int), .str cs[i], rfl, rfl, .inl (.inl (by rw [upd_ne Dp1]; exact hp4)), ?_, _, _, rfl, rfl, ?_, ?_⟩
                  · rw [Int.zero_add]
                    refine atI_nat ?_
                    rw [List.getElem?_map, List.getElem?_eq_getElem hi2]
                    rfl
                  · have := t1.1
                    have := t2.1
                    rw [sizeLine_eq]
                    omega
                  · refine ⟨_, rfl, _, rfl, at', rfl, stem2, rfl, hst2.size (by decide), _, _, rfl, rfl, ?_, ?_⟩
                    · have := (t1.add t2).1
                      have := t3.1
                      rw [sizeLine_eq]
                      omega
                    · refine ⟨_, upd_same, small1000 (by rw [List.length_map]; omega), zs ++ [cutS stem2 none (some at') ++ cs[i] ++ cutS stem2 (some at') none], by rw [List.length_append, hz1]; rfl, fun z hz => ?_, ?_⟩
                      · rcases List.mem_append.mp hz with hz | hz
                        · exact hz2 z hz
                        · rw [List.mem_singleton.mp hz]
                          have e1 := cutS_lo (x := stem2) ha0
                          have e2 := cutS_hi (x := stem2) ha0
                          have e3 : (cutS stem2 none (some at') ++ cs[i] ++ cutS stem2 (some at') none).length = (cutS stem2 none (some at')).length + cs[i].length + (cutS stem2 (some at') none).length := by rw [Str.length_append, Str.length_append]
                          have e4 : cs[i].length ≤ 8 := t2.1
                          have e5 : 1 ≤ cs[i].length := t2'.1.2
                          have e6 : (cutS stem2 none (some at') ++ cs[i] ++ cutS stem2 (some at') none).length ≤ 8 := by
                            by_cases z : way = 2
                            · have := t2'.2 (by omega)
                              omega
                            · have := hno2 z
                              omega
                          exact ⟨⟨e6, ((t1.add t2).add t3).2⟩, by omega⟩
                      · rw [upd_upd, List.map_append]
                        rfl
                · obtain ⟨zs, hz1, hz2, rfl⟩ := hP
                  have hH : H D = none := by
                    cases eh : H D with
                    | none => rfl
                    | some o =>
                      have := but4.at Db eh
                      rw [nD] at this
                      cases this
                  exact q _ D zs (but4.trans (But.new nD)) (bag4.new nD) hH Db Dc upd_same hz1 hz2
end
end K96
set_option Elab.async false
set_option linter.all false
set_option maxRecDepth 100000
set_option maxHeartbeats 1000000
set_option pp.maxSteps 500
/-! K96o: what is drawn: numbers, runs -/
namespace K96
open PySem PySem.Spec PyProof.Rows L2 GL DL
def S_take : DSp := fun as P => ∃ m : Int, as = [.bag, .d (.int m)] ∧ 0 < m ∧ m < 1073741824 ∧ ∀ r : Int, 0 ≤ r → r < m → P (.dat (.int r))
def S_alike : DSp := fun as P => ∃ d, as = [.d d, .d d] ∧ DOw d ∧ P (.dat (.bool true))
theorem bag_of {G H : Hp} {b : Addr × Addr} (s : Same G H) (h : BagAt G H b) : Bg H b.1 b.2 := by
  obtain ⟨g, s', i, ns, h1, h2, h3⟩ := h
  exact ⟨g, s', i, ns, h1, s _ _ h2, h3⟩
theorem bag_to {G H H' : Hp} {b : Addr × Addr} (h0 : BagAt G H b) (s : Same G H') (h : Bg H' b.1 b.2) : BagAt G H' b := by
  obtain ⟨_, _, _, ns0, _, h2, _⟩ := h0
  obtain ⟨g, s', i, ns, k1, k2, k3⟩ := h
  have e := s _ _ h2
  rw [k2] at e
  injection e with e
  exact ⟨g, s', i, ns, k1, by rw [h2, e], k3⟩
theorem take_of {K : PySem.W.Frag} (vs : List V) (H : Hp) (Q : VK) (E : XK) (h : spF K S_take vs H Q E) : spTake vs H Q E := by
  obtain ⟨B, G, as, P, sGH, bag, rep, ⟨m, rfl, h0, h1, h2⟩, k⟩ := h
  cases rep with
  | @bag b _ _ eb r =>
    cases r with
    | d r1 r2 =>
      cases r1
      cases r2
      obtain ⟨ba, gb⟩ := bag b eb
      refine ⟨b.1, b.2, m, rfl, bag_of sGH ba, h0, h1, fun r xs hr0 hr1 hb => ?_⟩
      have s2 : Same G (upd H b.1 (.lst xs)) := fun a u e => by
        have ne : a ≠ b.1 := fun z => by rw [z, gb] at e; cases e
        rw [upd_ne ne]
        exact sGH _ _ e
      refine k (.dat (.int r)) G _ _ [] (h2 r hr0 hr1) ⟨fun a u e nb => ?_, Same.refl _, s2, fun a e => .inl e, fun b' e h => ?_⟩ (.dat (.int r)) (fun _ m => nomatch m)
      · have ne : a ≠ b.1 := fun z => nb b.2 (by rw [z]; exact eb)
        rw [upd_ne ne]
        exact e
      · rw [eb] at e
        cases e
        exact bag_to h s2 hb
def S_labels : DSp := fun as P => ∃ m : Int, as = [.bag, .d (.int m)] ∧ 0 ≤ m ∧ m ≤ 24 ∧ ∀ zs : List Str, zs.length = m.toNat → (∀ z ∈ zs, Nm z) → P (.lst ((zs.map PyData.str).map .dat))
theorem labels_of {K : PySem.W.Frag} (vs : List V) (H : Hp) (Q : VK) (E : XK) (h : spF K S_labels vs H Q E) : spLabels vs H Q E := by
  obtain ⟨B, G, as, P, sGH, bag, rep, ⟨m, rfl, h0, h1, h2⟩, k⟩ := h
  cases rep with
  | @bag b _ _ eb r =>
    cases r with
    | d r1 r2 =>
      cases r1
      cases r2
      obtain ⟨ba, gb⟩ := bag b eb
      refine ⟨b.1, b.2, m, rfl, bag_of sGH ba, h0, h1, fun H' p zs but hb np pb pc hp hz hzs => ?_⟩
      have kp : ∀ a u, H a = some u → a ≠ b.1 → H' a = some u := fun a u e ne => but.at ne e
      have s2 : Same G H' := fun a u e => kp _ _ (sGH _ _ e) fun z => by rw [z, gb] at e; cases e
      have gp : G p = none := by
        cases e : G p with
        | none => rfl
        | some u =>
          have := sGH _ _ e
          rw [np] at this
          cases this
      refine k (.lst ((zs.map PyData.str).map .dat)) G H' _ [p] (h2 zs hz hzs) ⟨fun a u e nb => kp a u e fun z => nb b.2 (by rw [z]; exact eb), Same.refl _, s2, fun a e => .inl e, fun b' e h => ?_⟩ (.lst gp hp (.ofDat (.strs zs)) (fun m => nomatch m)) (fun a m => by rw [List.mem_singleton.mp m]; exact np)
      rw [eb] at e
      cases e
      exact bag_to h s2 hb
def S_one : DSp := fun as P => ∃ ds, as = [.bag, .d (.list ds)] ∧ ds ≠ [] ∧ ds.length ≤ 1000 ∧ ∀ d ∈ ds, P (.dat d)
def strP : PyData → Str
  | .int i => Str.ofString (toString i)
  | .str z => z
  | _ => ""
/-- a part of a row that is drawn -/
def PartA : PyData → Prop
  | .int i => 0 ≤ i ∧ i ≤ 10 ^ 39
  | .str z => asc z = true
  | _ => False
def RowA (r : List PyData) : Prop := (∀ d ∈ r, PartA d) ∧ (r.map fun d => (strP d).length).sum + r.length ≤ 60
def S_run : DSp := fun as P => ∃ zs : List Str, as = [.bag, .d (.list (zs.map .str))] ∧ zs ≠ [] ∧ zs.length ≤ 1000 ∧ (∀ z ∈ zs, Nm z) ∧ ∀ rs : List (List PyData), rs.length ≤ 30 → (∀ r ∈ rs, RowA r) → P (.lst ((rs.map PyData.tuple).map .dat))
theorem int_len {i : Int} {n : Nat} (h0 : 0 ≤ i) (h1 : i < 10 ^ n) (hn : 0 < n) : (Str.ofString (toString i)).length ≤ n := by
  have e : i = ((i.toNat : Nat) : Int) := (Int.toNat_of_nonneg h0).symm
  rw [e, TL.len_tl, TL.tl_num]
  refine TL.numL_len hn ?_
  have h2 : ((i.toNat : Nat) : Int) < ((10 ^ n : Nat) : Int) := by rw [Int.toNat_of_nonneg h0]; exact_mod_cast h1
  exact_mod_cast h2
theorem many_len {i : Int} (h0 : 0 ≤ i) (h1 : i ≤ 10 ^ 39) : (Str.ofString (toString i)).length ≤ 40 := int_len h0 (by
  have : (10 : Int) ^ 39 < 10 ^ 40 := by decide
  omega) (by decide)
theorem small_len {i : Int} (h0 : 0 ≤ i) (h1 : i < 7) : (Str.ofString (toString i)).length ≤ 1 := int_len h0 (by
  show i < 10
  omega) (by decide)
theorem nm_asc {z : Str} (h : Nm z) : asc z = true := List.all_eq_true.mpr fun c m => decide_eq_true (by have := h.1.2 c m; omega)
theorem small_big {i : Int} (h1 : i < 7) : i ≤ 10 ^ 39 := by
  have : (7 : Int) ≤ 10 ^ 39 := by decide
  omega
/-- a row of parts with their lengths -/
theorem row_mk {r : List PyData} {ns : List Nat} (h : ∀ p ∈ r.zip ns, PartA p.1 ∧ (strP p.1).length ≤ p.2) (hl : r.length = ns.length) (hs : ns.sum + ns.length ≤ 60) : RowA r := by
  have k : ∀ (r : List PyData) (ns : List Nat), (∀ p ∈ r.zip ns, PartA p.1 ∧ (strP p.1).length ≤ p.2) → r.length = ns.length → (∀ d ∈ r, PartA d) ∧ (r.map fun d => (strP d).length).sum ≤ ns.sum := by
    intro r
    induction r with
    | nil => intro ns _ _; exact ⟨(fun _ m => nomatch m), Nat.zero_le _⟩
    | cons d r ih =>
      intro ns h hl
      cases ns with
      | nil => cases hl
      | cons n ns =>
        obtain ⟨h1, h2⟩ := ih ns (fun p m => h p (by rw [List.zip_cons_cons]; exact List.mem_cons_of_mem _ m)) (by simpa using hl)
        have h3 := h (d, n) (by rw [List.zip_cons_cons]; exact List.mem_cons_self ..)
        refine ⟨fun x m => ?_, ?_⟩
        · rcases List.mem_cons.mp m with rfl | m
          · exact h3.1
          · exact h1 x m
        · simp only [List.map_cons, List.sum_cons]
          have h4 : (strP d).length ≤ n := h3.2
          omega
  obtain ⟨h1, h2⟩ := k r ns h hl
  exact ⟨h1, by omega⟩
def Mny (d : PyData) : Prop := PartA d ∧ (strP d).length ≤ 40
def Sml (d : PyData) : Prop := PartA d ∧ (strP d).length ≤ 1
def Nme (d : PyData) : Prop := PartA d ∧ (strP d).length ≤ 8
theorem mny_of {i : Int} (h0 : 0 ≤ i) (h1 : i ≤ 10 ^ 39) : Mny (.int i) := ⟨⟨h0, h1⟩, many_len h0 h1⟩
theorem sml_of {i : Int} (h0 : 0 ≤ i) (h1 : i < 7) : Sml (.int i) := ⟨⟨h0, small_big h1⟩, small_len h0 h1⟩
theorem nme_of {z : Str} (h : Nm z) : Nme (.str z) := ⟨nm_asc h, h.1.1⟩
theorem word_of (z : Str) (n : Nat) (h : asc z = true := by decide +kernel) (k : z.length ≤ n := by decide +kernel) : PartA (.str z) ∧ (strP (.str z)).length ≤ n := ⟨h, k⟩
theorem rowA1 {d : PyData} {n : Nat} (h : PartA d ∧ (strP d).length ≤ n) (hs : n + 1 ≤ 60 := by decide) : RowA [d] := row_mk (ns := [n]) (fun p m => by
  simp only [List.zip_cons_cons, List.zip_nil_left, List.mem_cons, List.not_mem_nil, or_false] at m
  subst m
  exact h) rfl (by simpa using hs)
theorem rowA2 {a b : PyData} {n m : Nat} (h : PartA a ∧ (strP a).length ≤ n) (k : PartA b ∧ (strP b).length ≤ m) (hs : n + m + 2 ≤ 60 := by decide) : RowA [a, b] := row_mk (ns := [n, m]) (fun p q => by
  simp only [List.zip_cons_cons, List.zip_nil_left, List.mem_cons, List.not_mem_nil, or_false] at q
  rcases q with rfl | rfl
  · exact h
  · exact k) rfl (by simp; omega)
theorem rowA3 {a b c : PyData} {n m l : Nat} (h : PartA a ∧ (strP a).length ≤ n) (k : PartA b ∧ (strP b).length ≤ m) (j : PartA c ∧ (strP c).length ≤ l) (hs : n + m + l + 3 ≤ 60 := by decide) : RowA [a, b, c] := row_mk (ns := [n, m, l]) (fun p q => by
  simp only [List.zip_cons_cons, List.zip_nil_left, List.mem_cons, List.not_mem_nil, or_false] at q
  rcases q with rfl | rfl | rfl
  · exact h
  · exact k
  · exact j) rfl (by simp; omega)
theorem rowA4 {a b c d : PyData} {n m l o : Nat} (h : PartA a ∧ (strP a).length ≤ n) (k : PartA b ∧ (strP b).length ≤ m) (j : PartA c ∧ (strP c).length ≤ l) (i : PartA d ∧ (strP d).length ≤ o) (hs : n + m + l + o + 4 ≤ 60 := by decide) : RowA [a, b, c, d] := row_mk (ns := [n, m, l, o]) (fun p q => by
  simp only [List.zip_cons_cons, List.zip_nil_left, List.mem_cons, List.not_mem_nil, or_false] at q
  rcases q with rfl | rfl | rfl | rfl
  · exact h
  · exact k
  · exact j
  · exact i) rfl (by simp; omega)
theorem strs_of {R : Str → Prop} : ∀ {acc : List O}, (∀ o ∈ acc, ∃ z, R z ∧ o = .dat (.str z)) → ∃ zs : List Str, acc = (zs.map PyData.str).map .dat ∧ ∀ z ∈ zs, R z
  | [], _ => ⟨[], rfl, fun _ m => nomatch m⟩
  | o :: acc, h => by
    obtain ⟨zs, h1, h2⟩ := strs_of (acc := acc) fun o m => h o (List.mem_cons_of_mem _ m)
    obtain ⟨z, h3, h4⟩ := h o List.mem_cons_self
    refine ⟨z :: zs, by rw [h4, h1]; rfl, fun x m => ?_⟩
    rcases List.mem_cons.mp m with rfl | m
    · exact h3
    · exact h2 x m
section
variable {P : Program} {w : World} {K : PySem.W.Frag} {mg : Str → Option Value} {base : Heap} {f : Addr} {fd : FuncData}
theorem sc_alikeD : FnScope ["_law_found", "_law_right"] ["_law_found", "_law_right"] (defScope s_alike) := ⟨rfl, rfl, rfl, by decide +kernel, rfl, by decide +kernel, by decide +kernel⟩
theorem ok_alikeD (F : Fun K "_law_alike" "_law_alike" s_alike f fd) (T : Txt0 mg) : FnG P w K mg base 1 f fd ["_law_found", "_law_right"] (spF K S_alike) := by
  refine okD F sc_alikeD (fun as Q h => by obtain ⟨d, rfl, _⟩ := h; rfl) fun cdv A out s H E hG hr => have hu := units_ofx hr; have hu6 := units_of hr; ⟨_, (dss_one (ds_ret (DE.o (de_and (de_eq rfl hu (de_v (pv 0)) (de_v (pv 1))) (de_one (de_eq rfl hu (de_repr rfl hG hu6 T.m_repr (de_v (pv 0))) (de_repr rfl hG hu6 T.m_repr (de_v (pv 1))))))))), fun as Q h => ?_⟩
  obtain ⟨d, rfl, ok, q⟩ := h
  refine ⟨_, rfl, _, rfl, eqR_dat ok.nodict ok.nodict ok.shaped ok.shaped ?_⟩
  rw [SeqAt.eqv_refl d ok.lay]
  repeat' (first | refine ix0T ?_ | refine ix1T ?_ | refine ix2T ?_ | refine ix0L ?_ | refine ix1L ?_ | refine ix2L ?_ | refine ⟨_, rfl, ?_⟩ | refine ⟨_, _, rfl, rfl, (by show (_ : Nat) ≤ sizeLine; first | assumption | exact big (DOk.strLen (by assumption)) | exact big (DOk.tupLen (by assumption)) | exact big (DOk.lstLen (by assumption)) | exact big (DOw.strLen (by assumption)) | exact big (DOw.tupLen (by assumption)) | exact big (DOw.lstLen (by assumption)) | exact big (DOz.strLen (by assumption)) | exact big (DOz.tupLen (by assumption)) | exact big (DOz.lstLen (by assumption))), ?_⟩ | refine ⟨_, _, rfl, rfl, (by first | decide | (show (0 : Int) < _; decide)), ?_⟩ | refine ⟨_, _, rfl, rfl, ?_⟩ | refine eqR_str ?_ | refine eqR_int ?_ | refine neR_str ?_ | refine neR_int ?_ | refine And.intro rfl ?_ | refine addL (by first | assumption | (rw [sizeLine_eq]; omega) | (rw [sizeLine_eq]; simp; done) | (rw [sizeLine_eq]; simp only [List.length_append, List.length_cons, List.length_nil]; omega)) ?_ | refine addT (by first | assumption | (rw [sizeLine_eq]; omega) | (rw [sizeLine_eq]; simp; done) | (rw [sizeLine_eq]; simp only [List.length_append, List.length_cons, List.length_nil]; omega)) ?_ | refine And.intro (by assumption) ?_ | refine And.intro (by decide) ?_ | refine ⟨_, _, rfl, ?_⟩ | refine iteT rfl ?_ | refine iteF Bool.false_ne_true ?_)
  refine ⟨ok.nodict, ok.shows, Nat.le_trans ok.deep (by decide), ok.fits, ?_⟩
  repeat' (first | refine ix0T ?_ | refine ix1T ?_ | refine ix2T ?_ | refine ix0L ?_ | refine ix1L ?_ | refine ix2L ?_ | refine ⟨_, rfl, ?_⟩ | refine ⟨_, _, rfl, rfl, (by show (_ : Nat) ≤ sizeLine; first | assumption | exact big (DOk.strLen (by assumption)) | exact big (DOk.tupLen (by assumption)) | exact big (DOk.lstLen (by assumption)) | exact big (DOw.strLen (by assumption)) | exact big (DOw.tupLen (by assumption)) | exact big (DOw.lstLen (by assumption)) | exact big (DOz.strLen (by assumption)) | exact big (DOz.tupLen (by assumption)) | exact big (DOz.lstLen (by assumption))), ?_⟩ | refine ⟨_, _, rfl, rfl, (by first | decide | (show (0 : Int) < _; decide)), ?_⟩ | refine ⟨_, _, rfl, rfl, ?_⟩ | refine eqR_str ?_ | refine eqR_int ?_ | refine neR_str ?_ | refine neR_int ?_ | refine And.intro rfl ?_ | refine addL (by first | assumption | (rw [sizeLine_eq]; omega) | (rw [sizeLine_eq]; simp; done) | (rw [sizeLine_eq]; simp only [List.length_append, List.length_cons, List.length_nil]; omega)) ?_ | refine addT (by first | assumption | (rw [sizeLine_eq]; omega) | (rw [sizeLine_eq]; simp; done) | (rw [sizeLine_eq]; simp only [List.length_append, List.length_cons, List.length_nil]; omega)) ?_ | refine And.intro (by assumption) ?_ | refine And.intro (by decide) ?_ | refine ⟨_, _, rfl, ?_⟩ | refine iteT rfl ?_ | refine iteF Bool.false_ne_true ?_)
  refine ⟨ok.nodict, ok.shows, Nat.le_trans ok.deep (by decide), ok.fits, ?_⟩
  repeat' (first | refine ix0T ?_ | refine ix1T ?_ | refine ix2T ?_ | refine ix0L ?_ | refine ix1L ?_ | refine ix2L ?_ | refine ⟨_, rfl, ?_⟩ | refine ⟨_, _, rfl, rfl, (by show (_ : Nat) ≤ sizeLine; first | assumption | exact big (DOk.strLen (by assumption)) | exact big (DOk.tupLen (by assumption)) | exact big (DOk.lstLen (by assumption)) | exact big (DOw.strLen (by assumption)) | exact big (DOw.tupLen (by assumption)) | exact big (DOw.lstLen (by assumption)) | exact big (DOz.strLen (by assumption)) | exact big (DOz.tupLen (by assumption)) | exact big (DOz.lstLen (by assumption))), ?_⟩ | refine ⟨_, _, rfl, rfl, (by first | decide | (show (0 : Int) < _; decide)), ?_⟩ | refine ⟨_, _, rfl, rfl, ?_⟩ | refine eqR_str ?_ | refine eqR_int ?_ | refine neR_str ?_ | refine neR_int ?_ | refine And.intro rfl ?_ | refine addL (by first | assumption | (rw [sizeLine_eq]; omega) | (rw [sizeLine_eq]; simp; done) | (rw [sizeLine_eq]; simp only [List.length_append, List.length_cons, List.length_nil]; omega)) ?_ | refine addT (by first | assumption | (rw [sizeLine_eq]; omega) | (rw [sizeLine_eq]; simp; done) | (rw [sizeLine_eq]; simp only [List.length_append, List.length_cons, List.length_nil]; omega)) ?_ | refine And.intro (by assumption) ?_ | refine And.intro (by decide) ?_ | refine ⟨_, _, rfl, ?_⟩ | refine iteT rfl ?_ | refine iteF Bool.false_ne_true ?_)
  rw [decide_eq_true rfl]
  exact q
theorem sc_one : FnScope ["_law_bag_here", "_law_some"] ["_law_bag_here", "_law_some"] (defScope s_one) := ⟨rfl, rfl, rfl, by decide +kernel, rfl, by decide +kernel, by decide +kernel⟩
theorem ok_one (F : Fun K "_law_one" "_law_one" s_one f fd) (T : Txt0 mg) (c_take : ClG P w K mg base 1 "_law_take" (spF K S_take)) : FnG P w K mg base 2 f fd ["_law_bag_here", "_law_some"] (spF K S_one) := by
  refine okD F sc_one (fun as Q h => by obtain ⟨ds, rfl, _⟩ := h; rfl) fun cdv A out s H E hG hr => have hu := units_ofx hr; have hu6 := units_of hr; ⟨_, (dss_one (ds_ret (DE.o (de_ixA rfl (de_v (pv 1)) (DO.d (do_call rfl c_take hG hr (by omega) (by rfl) (dr_bag (pv 0) (dr_cons (de_len rfl T.m_len (de_v (pv 1))) dr_nil)))))))), fun as Q h => ?_⟩
  obtain ⟨ds, rfl, h1, h2, q⟩ := h
  have hl : 0 < ds.length := List.length_pos_iff.mpr h1
  have hs : ds.length ≤ sizeLine := by rw [sizeLine_eq]; omega
  repeat' (first | refine ix0T ?_ | refine ix1T ?_ | refine ix2T ?_ | refine ix0L ?_ | refine ix1L ?_ | refine ix2L ?_ | refine ⟨_, rfl, ?_⟩ | refine ⟨_, _, rfl, rfl, (by show (_ : Nat) ≤ sizeLine; first | assumption | exact big (DOk.strLen (by assumption)) | exact big (DOk.tupLen (by assumption)) | exact big (DOk.lstLen (by assumption)) | exact big (DOw.strLen (by assumption)) | exact big (DOw.tupLen (by assumption)) | exact big (DOw.lstLen (by assumption)) | exact big (DOz.strLen (by assumption)) | exact big (DOz.tupLen (by assumption)) | exact big (DOz.lstLen (by assumption))), ?_⟩ | refine ⟨_, _, rfl, rfl, (by first | decide | (show (0 : Int) < _; decide)), ?_⟩ | refine ⟨_, _, rfl, rfl, ?_⟩ | refine eqR_str ?_ | refine eqR_int ?_ | refine neR_str ?_ | refine neR_int ?_ | refine And.intro rfl ?_ | refine addL (by first | assumption | (rw [sizeLine_eq]; omega) | (rw [sizeLine_eq]; simp; done) | (rw [sizeLine_eq]; simp only [List.length_append, List.length_cons, List.length_nil]; omega)) ?_ | refine addT (by first | assumption | (rw [sizeLine_eq]; omega) | (rw [sizeLine_eq]; simp; done) | (rw [sizeLine_eq]; simp only [List.length_append, List.length_cons, List.length_nil]; omega)) ?_ | refine And.intro (by assumption) ?_ | refine And.intro (by decide) ?_ | refine ⟨_, _, rfl, ?_⟩ | refine iteT rfl ?_ | refine iteF Bool.false_ne_true ?_)
  refine ⟨by omega, by omega, fun r hr0 hr1 => ?_⟩
  obtain ⟨v, hv, hm⟩ := at_mem hr0 hr1
  exact ⟨v, hv, q v hm⟩
theorem sc_run : FnScope ["_law_bag_here", "_law_labels_here", "_law_found", "_law_k", "_law_one_here", "_law_many", "_law_rows"] ["_law_bag_here", "_law_labels_here"] (defScope s_run) := ⟨rfl, rfl, rfl, by decide +kernel, rfl, by decide +kernel, by decide +kernel⟩
theorem ok_run (F : Fun K "_law_run" "_law_run" s_run f fd) (T : Txt0 mg) (c_take : ClG P w K mg base 1 "_law_take" (spF K S_take)) (c_one : ClG P w K mg base 2 "_law_one" (spF K S_one)) : FnG P w K mg base 3 f fd ["_law_bag_here", "_law_labels_here"] (spF K S_run) := by
  refine okD F sc_run (fun as Q h => by obtain ⟨_, rfl, _⟩ := h; rfl) fun cdv A out s H E hG hr => have hu := units_ofx hr; ⟨_, (dss_cons (ds_set (i := 2) sc_run.nd rfl (.inl rfl) (do_lst da_nil))
(dss_cons (ds_for PassesOwn.never rfl (di_range1 (by rfl) T.m_range (da_cons (de_ixA rfl (DO.d (do_lst (da_cons de_int (da_cons de_int (da_cons de_int (da_cons de_int da_nil)))))) (DO.d (do_call rfl c_take hG hr (by omega) (by rfl) (dr_bag (pv 0) (dr_cons de_int dr_nil))))) da_nil)) (dg_name (pg_name (i := 3) sc_run.nd rfl (.inl rfl)))
(dss_cons (ds_par (i := 4) (j := 5) rfl sc_run.nd rfl rfl (by decide) rfl rfl (doa_cons (do_call rfl c_one hG hr (by omega) (by rfl) (dr_bag (pv 0) (dr_cons (de_v (pv 1)) dr_nil))) (doa_cons (DE.o (de_ixA rfl (DO.d (do_lst (da_cons de_int (da_cons de_int (da_cons de_int (da_cons (de_pow de_int de_int) da_nil)))))) (DO.d (do_call rfl c_take hG hr (by omega) (by rfl) (dr_bag (pv 0) (dr_cons de_int dr_nil)))))) doa_nil)) (by rfl))
(dss_cons (ds_set (i := 6) sc_run.nd rfl (.inl rfl) (do_lst (da_cons (de_tup (da_cons de_str (da_cons (de_v (pv 5)) da_nil))) (da_cons (de_tup (da_cons de_str (da_cons (de_v (pv 5)) (da_cons (DO.d (do_call rfl c_take hG hr (by omega) (by rfl) (dr_bag (pv 0) (dr_cons de_int dr_nil)))) da_nil)))) (da_cons (de_tup (da_cons de_str (da_cons (de_v (pv 4)) da_nil))) (da_cons (de_tup (da_cons de_str (da_cons (de_v (pv 4)) da_nil))) (da_cons (de_tup (da_cons de_str da_nil)) da_nil)))))))
(dss_cons (ds_frzAt 6 (ds_set (i := 6) sc_run.nd rfl (.inl rfl) (do_add rfl (de_v (pv 6)) (DO.d (do_lst (da_cons (de_tup (da_cons de_str (da_cons (de_v (pv 5)) da_nil))) (da_cons (de_tup (da_cons de_str (da_cons (de_v (pv 5)) (da_cons (de_v (pv 4)) da_nil)))) (da_cons (de_tup (da_cons de_str (da_cons (de_v (pv 5)) (da_cons (DO.d (do_call rfl c_take hG hr (by omega) (by rfl) (dr_bag (pv 0) (dr_cons de_int dr_nil)))) (da_cons (de_v (pv 4)) da_nil))))) da_nil))))))))
(dss_one (ds_frzAt 6 (ds_append rfl (pv 2) (DE.o (de_ixA rfl (DO.d (do_add rfl (de_v (pv 6)) (DO.d (do_lst (da_cons (de_tup (da_cons de_str (da_cons (DO.d (do_call rfl c_take hG hr (by omega) (by rfl) (dr_bag (pv 0) (dr_cons de_int dr_nil)))) (da_cons (de_v (pv 5)) da_nil)))) da_nil))))) (DO.d (do_call rfl c_take hG hr (by omega) (by rfl) (dr_bag (pv 0) (dr_cons de_int dr_nil)))))))))))))
(dss_one (ds_retOwn (pv 2))))), fun as Q h => ?_⟩
  obtain ⟨zs, rfl, hne, hl, hnm, q⟩ := h
  repeat' (first | refine ix0T ?_ | refine ix1T ?_ | refine ix2T ?_ | refine ix0L ?_ | refine ix1L ?_ | refine ix2L ?_ | refine ⟨_, rfl, ?_⟩ | refine ⟨_, _, rfl, rfl, (by show (_ : Nat) ≤ sizeLine; first | assumption | exact big (DOk.strLen (by assumption)) | exact big (DOk.tupLen (by assumption)) | exact big (DOk.lstLen (by assumption)) | exact big (DOw.strLen (by assumption)) | exact big (DOw.tupLen (by assumption)) | exact big (DOw.lstLen (by assumption)) | exact big (DOz.strLen (by assumption)) | exact big (DOz.tupLen (by assumption)) | exact big (DOz.lstLen (by assumption))), ?_⟩ | refine ⟨_, _, rfl, rfl, (by first | decide | (show (0 : Int) < _; decide)), ?_⟩ | refine ⟨_, _, rfl, rfl, ?_⟩ | refine eqR_str ?_ | refine eqR_int ?_ | refine neR_str ?_ | refine neR_int ?_ | refine And.intro rfl ?_ | refine addL (by first | assumption | (rw [sizeLine_eq]; omega) | (rw [sizeLine_eq]; simp; done) | (rw [sizeLine_eq]; simp only [List.length_append, List.length_cons, List.length_nil]; omega)) ?_ | refine addT (by first | assumption | (rw [sizeLine_eq]; omega) | (rw [sizeLine_eq]; simp; done) | (rw [sizeLine_eq]; simp only [List.length_append, List.length_cons, List.length_nil]; omega)) ?_ | refine And.intro (by assumption) ?_ | refine And.intro (by decide) ?_ | refine ⟨_, _, rfl, ?_⟩ | refine iteT rfl ?_ | refine iteF Bool.false_ne_true ?_)
  intro r hr0 hr1
  refine ixMem (ds := [.int 0, .int 1, .int 4, .int 30]) hr0 hr1 fun d hd => ?_
  obtain ⟨j, rfl, hj0, hj1⟩ : ∃ j : Int, d = .int j ∧ 0 ≤ j ∧ j ≤ 30 := by
    simp only [List.mem_cons, List.not_mem_nil, or_false] at hd
    rcases hd with rfl | rfl | rfl | rfl
    · exact ⟨_, rfl, by decide, by decide⟩
    · exact ⟨_, rfl, by decide, by decide⟩
    · exact ⟨_, rfl, by decide, by decide⟩
    · exact ⟨_, rfl, by decide, by decide⟩
  refine ⟨j, rfl, by omega, by omega, ?_⟩
  refine ⟨fun i ρ => ∃ x3 x4 x5 x6 rs, ρ = [some .bag, some (.d (.list (zs.map .str))), some (.l ((rs.map PyData.tuple).map .dat)), x3, x4, x5, x6] ∧ rs.length = i ∧ ∀ r ∈ rs, RowA r, ⟨_, _, _, _, [], rfl, rfl, fun _ m => nomatch m⟩, fun i d ρ' hd hI => ?_, fun ρ' hI => ?_⟩
  · obtain ⟨x3, x4, x5, x6, rs, rfl, hrs, hra⟩ := hI
    have hi30 : i < 30 := by
      have := (List.getElem?_eq_some_iff.mp hd).1
      rw [len_range] at this
      omega
    repeat' (first | refine ix0T ?_ | refine ix1T ?_ | refine ix2T ?_ | refine ix0L ?_ | refine ix1L ?_ | refine ix2L ?_ | refine ⟨_, rfl, ?_⟩ | refine ⟨_, _, rfl, rfl, (by show (_ : Nat) ≤ sizeLine; first | assumption | exact big (DOk.strLen (by assumption)) | exact big (DOk.tupLen (by assumption)) | exact big (DOk.lstLen (by assumption)) | exact big (DOw.strLen (by assumption)) | exact big (DOw.tupLen (by assumption)) | exact big (DOw.lstLen (by assumption)) | exact big (DOz.strLen (by assumption)) | exact big (DOz.tupLen (by assumption)) | exact big (DOz.lstLen (by assumption))), ?_⟩ | refine ⟨_, _, rfl, rfl, (by first | decide | (show (0 : Int) < _; decide)), ?_⟩ | refine ⟨_, _, rfl, rfl, ?_⟩ | refine eqR_str ?_ | refine eqR_int ?_ | refine neR_str ?_ | refine neR_int ?_ | refine And.intro rfl ?_ | refine addL (by first | assumption | (rw [sizeLine_eq]; omega) | (rw [sizeLine_eq]; simp; done) | (rw [sizeLine_eq]; simp only [List.length_append, List.length_cons, List.length_nil]; omega)) ?_ | refine addT (by first | assumption | (rw [sizeLine_eq]; omega) | (rw [sizeLine_eq]; simp; done) | (rw [sizeLine_eq]; simp only [List.length_append, List.length_cons, List.length_nil]; omega)) ?_ | refine And.intro (by assumption) ?_ | refine And.intro (by decide) ?_ | refine ⟨_, _, rfl, ?_⟩ | refine iteT rfl ?_ | refine iteF Bool.false_ne_true ?_)
    refine ⟨by simpa using hne, by rw [List.length_map]; exact hl, fun d hd => ?_⟩
    obtain ⟨z0, hz0, rfl⟩ := List.mem_map.mp hd
    have hn := nme_of (hnm z0 hz0)
    repeat' (first | refine ix0T ?_ | refine ix1T ?_ | refine ix2T ?_ | refine ix0L ?_ | refine ix1L ?_ | refine ix2L ?_ | refine ⟨_, rfl, ?_⟩ | refine ⟨_, _, rfl, rfl, (by show (_ : Nat) ≤ sizeLine; first | assumption | exact big (DOk.strLen (by assumption)) | exact big (DOk.tupLen (by assumption)) | exact big (DOk.lstLen (by assumption)) | exact big (DOw.strLen (by assumption)) | exact big (DOw.tupLen (by assumption)) | exact big (DOw.lstLen (by assumption)) | exact big (DOz.strLen (by assumption)) | exact big (DOz.tupLen (by assumption)) | exact big (DOz.lstLen (by assumption))), ?_⟩ | refine ⟨_, _, rfl, rfl, (by first | decide | (show (0 : Int) < _; decide)), ?_⟩ | refine ⟨_, _, rfl, rfl, ?_⟩ | refine eqR_str ?_ | refine eqR_int ?_ | refine neR_str ?_ | refine neR_int ?_ | refine And.intro rfl ?_ | refine addL (by first | assumption | (rw [sizeLine_eq]; omega) | (rw [sizeLine_eq]; simp; done) | (rw [sizeLine_eq]; simp only [List.length_append, List.length_cons, List.length_nil]; omega)) ?_ | refine addT (by first | assumption | (rw [sizeLine_eq]; omega) | (rw [sizeLine_eq]; simp; done) | (rw [sizeLine_eq]; simp only [List.length_append, List.length_cons, List.length_nil]; omega)) ?_ | refine And.intro (by assumption) ?_ | refine And.intro (by decide) ?_ | refine ⟨_, _, rfl, ?_⟩ | refine iteT rfl ?_ | refine iteF Bool.false_ne_true ?_)
    refine ⟨⟨by decide, by decide, by decide⟩, ?_⟩
    repeat' (first | refine ix0T ?_ | refine ix1T ?_ | refine ix2T ?_ | refine ix0L ?_ | refine ix1L ?_ | refine ix2L ?_ | refine ⟨_, rfl, ?_⟩ | refine ⟨_, _, rfl, rfl, (by show (_ : Nat) ≤ sizeLine; first | assumption | exact big (DOk.strLen (by assumption)) | exact big (DOk.tupLen (by assumption)) | exact big (DOk.lstLen (by assumption)) | exact big (DOw.strLen (by assumption)) | exact big (DOw.tupLen (by assumption)) | exact big (DOw.lstLen (by assumption)) | exact big (DOz.strLen (by assumption)) | exact big (DOz.tupLen (by assumption)) | exact big (DOz.lstLen (by assumption))), ?_⟩ | refine ⟨_, _, rfl, rfl, (by first | decide | (show (0 : Int) < _; decide)), ?_⟩ | refine ⟨_, _, rfl, rfl, ?_⟩ | refine eqR_str ?_ | refine eqR_int ?_ | refine neR_str ?_ | refine neR_int ?_ | refine And.intro rfl ?_ | refine addL (by first | assumption | (rw [sizeLine_eq]; omega) | (rw [sizeLine_eq]; simp; done) | (rw [sizeLine_eq]; simp only [List.length_append, List.length_cons, List.length_nil]; omega)) ?_ | refine addT (by first | assumption | (rw [sizeLine_eq]; omega) | (rw [sizeLine_eq]; simp; done) | (rw [sizeLine_eq]; simp only [List.length_append, List.length_cons, List.length_nil]; omega)) ?_ | refine And.intro (by assumption) ?_ | refine And.intro (by decide) ?_ | refine ⟨_, _, rfl, ?_⟩ | refine iteT rfl ?_ | refine iteF Bool.false_ne_true ?_)
    intro r2 h20 h21
    refine ixMem (ds := [.int 0, .int 3, .int 12, .int (10 ^ 39)]) h20 h21 fun dm hdm => ?_
    obtain ⟨many, rfl, hm0, hm1⟩ : ∃ j : Int, dm = .int j ∧ 0 ≤ j ∧ j ≤ 10 ^ 39 := by
      simp only [List.mem_cons, List.not_mem_nil, or_false] at hdm
      rcases hdm with rfl | rfl | rfl | rfl
      · exact ⟨_, rfl, by decide, by decide⟩
      · exact ⟨_, rfl, by decide, by decide⟩
      · exact ⟨_, rfl, by decide, by decide⟩
      · exact ⟨_, rfl, by decide, by decide⟩
    have hM := mny_of hm0 hm1
    repeat' (first | refine ix0T ?_ | refine ix1T ?_ | refine ix2T ?_ | refine ix0L ?_ | refine ix1L ?_ | refine ix2L ?_ | refine ⟨_, rfl, ?_⟩ | refine ⟨_, _, rfl, rfl, (by show (_ : Nat) ≤ sizeLine; first | assumption | exact big (DOk.strLen (by assumption)) | exact big (DOk.tupLen (by assumption)) | exact big (DOk.lstLen (by assumption)) | exact big (DOw.strLen (by assumption)) | exact big (DOw.tupLen (by assumption)) | exact big (DOw.lstLen (by assumption)) | exact big (DOz.strLen (by assumption)) | exact big (DOz.tupLen (by assumption)) | exact big (DOz.lstLen (by assumption))), ?_⟩ | refine ⟨_, _, rfl, rfl, (by first | decide | (show (0 : Int) < _; decide)), ?_⟩ | refine ⟨_, _, rfl, rfl, ?_⟩ | refine eqR_str ?_ | refine eqR_int ?_ | refine neR_str ?_ | refine neR_int ?_ | refine And.intro rfl ?_ | refine addL (by first | assumption | (rw [sizeLine_eq]; omega) | (rw [sizeLine_eq]; simp; done) | (rw [sizeLine_eq]; simp only [List.length_append, List.length_cons, List.length_nil]; omega)) ?_ | refine addT (by first | assumption | (rw [sizeLine_eq]; omega) | (rw [sizeLine_eq]; simp; done) | (rw [sizeLine_eq]; simp only [List.length_append, List.length_cons, List.length_nil]; omega)) ?_ | refine And.intro (by assumption) ?_ | refine And.intro (by decide) ?_ | refine ⟨_, _, rfl, ?_⟩ | refine iteT rfl ?_ | refine iteF Bool.false_ne_true ?_)
    intro r3 h30 h31
    repeat' (first | refine ix0T ?_ | refine ix1T ?_ | refine ix2T ?_ | refine ix0L ?_ | refine ix1L ?_ | refine ix2L ?_ | refine ⟨_, rfl, ?_⟩ | refine ⟨_, _, rfl, rfl, (by show (_ : Nat) ≤ sizeLine; first | assumption | exact big (DOk.strLen (by assumption)) | exact big (DOk.tupLen (by assumption)) | exact big (DOk.lstLen (by assumption)) | exact big (DOw.strLen (by assumption)) | exact big (DOw.tupLen (by assumption)) | exact big (DOw.lstLen (by assumption)) | exact big (DOz.strLen (by assumption)) | exact big (DOz.tupLen (by assumption)) | exact big (DOz.lstLen (by assumption))), ?_⟩ | refine ⟨_, _, rfl, rfl, (by first | decide | (show (0 : Int) < _; decide)), ?_⟩ | refine ⟨_, _, rfl, rfl, ?_⟩ | refine eqR_str ?_ | refine eqR_int ?_ | refine neR_str ?_ | refine neR_int ?_ | refine And.intro rfl ?_ | refine addL (by first | assumption | (rw [sizeLine_eq]; omega) | (rw [sizeLine_eq]; simp; done) | (rw [sizeLine_eq]; simp only [List.length_append, List.length_cons, List.length_nil]; omega)) ?_ | refine addT (by first | assumption | (rw [sizeLine_eq]; omega) | (rw [sizeLine_eq]; simp; done) | (rw [sizeLine_eq]; simp only [List.length_append, List.length_cons, List.length_nil]; omega)) ?_ | refine And.intro (by assumption) ?_ | refine And.intro (by decide) ?_ | refine ⟨_, _, rfl, ?_⟩ | refine iteT rfl ?_ | refine iteF Bool.false_ne_true ?_)
    intro r4 h40 h41
    repeat' (first | refine ix0T ?_ | refine ix1T ?_ | refine ix2T ?_ | refine ix0L ?_ | refine ix1L ?_ | refine ix2L ?_ | refine ⟨_, rfl, ?_⟩ | refine ⟨_, _, rfl, rfl, (by show (_ : Nat) ≤ sizeLine; first | assumption | exact big (DOk.strLen (by assumption)) | exact big (DOk.tupLen (by assumption)) | exact big (DOk.lstLen (by assumption)) | exact big (DOw.strLen (by assumption)) | exact big (DOw.tupLen (by assumption)) | exact big (DOw.lstLen (by assumption)) | exact big (DOz.strLen (by assumption)) | exact big (DOz.tupLen (by assumption)) | exact big (DOz.lstLen (by assumption))), ?_⟩ | refine ⟨_, _, rfl, rfl, (by first | decide | (show (0 : Int) < _; decide)), ?_⟩ | refine ⟨_, _, rfl, rfl, ?_⟩ | refine eqR_str ?_ | refine eqR_int ?_ | refine neR_str ?_ | refine neR_int ?_ | refine And.intro rfl ?_ | refine addL (by first | assumption | (rw [sizeLine_eq]; omega) | (rw [sizeLine_eq]; simp; done) | (rw [sizeLine_eq]; simp only [List.length_append, List.length_cons, List.length_nil]; omega)) ?_ | refine addT (by first | assumption | (rw [sizeLine_eq]; omega) | (rw [sizeLine_eq]; simp; done) | (rw [sizeLine_eq]; simp only [List.length_append, List.length_cons, List.length_nil]; omega)) ?_ | refine And.intro (by assumption) ?_ | refine And.intro (by decide) ?_ | refine ⟨_, _, rfl, ?_⟩ | refine iteT rfl ?_ | refine iteF Bool.false_ne_true ?_)
    refine ⟨by rw [List.length_map, List.length_map, sizeLine_eq]; omega, ?_⟩
    repeat' (first | refine ix0T ?_ | refine ix1T ?_ | refine ix2T ?_ | refine ix0L ?_ | refine ix1L ?_ | refine ix2L ?_ | refine ⟨_, rfl, ?_⟩ | refine ⟨_, _, rfl, rfl, (by show (_ : Nat) ≤ sizeLine; first | assumption | exact big (DOk.strLen (by assumption)) | exact big (DOk.tupLen (by assumption)) | exact big (DOk.lstLen (by assumption)) | exact big (DOw.strLen (by assumption)) | exact big (DOw.tupLen (by assumption)) | exact big (DOw.lstLen (by assumption)) | exact big (DOz.strLen (by assumption)) | exact big (DOz.tupLen (by assumption)) | exact big (DOz.lstLen (by assumption))), ?_⟩ | refine ⟨_, _, rfl, rfl, (by first | decide | (show (0 : Int) < _; decide)), ?_⟩ | refine ⟨_, _, rfl, rfl, ?_⟩ | refine eqR_str ?_ | refine eqR_int ?_ | refine neR_str ?_ | refine neR_int ?_ | refine And.intro rfl ?_ | refine addL (by first | assumption | (rw [sizeLine_eq]; omega) | (rw [sizeLine_eq]; simp; done) | (rw [sizeLine_eq]; simp only [List.length_append, List.length_cons, List.length_nil]; omega)) ?_ | refine addT (by first | assumption | (rw [sizeLine_eq]; omega) | (rw [sizeLine_eq]; simp; done) | (rw [sizeLine_eq]; simp only [List.length_append, List.length_cons, List.length_nil]; omega)) ?_ | refine And.intro (by assumption) ?_ | refine And.intro (by decide) ?_ | refine ⟨_, _, rfl, ?_⟩ | refine iteT rfl ?_ | refine iteF Bool.false_ne_true ?_)
    intro r5 h50 h51
    repeat' (first | refine ix0T ?_ | refine ix1T ?_ | refine ix2T ?_ | refine ix0L ?_ | refine ix1L ?_ | refine ix2L ?_ | refine ⟨_, rfl, ?_⟩ | refine ⟨_, _, rfl, rfl, (by show (_ : Nat) ≤ sizeLine; first | assumption | exact big (DOk.strLen (by assumption)) | exact big (DOk.tupLen (by assumption)) | exact big (DOk.lstLen (by assumption)) | exact big (DOw.strLen (by assumption)) | exact big (DOw.tupLen (by assumption)) | exact big (DOw.lstLen (by assumption)) | exact big (DOz.strLen (by assumption)) | exact big (DOz.tupLen (by assumption)) | exact big (DOz.lstLen (by assumption))), ?_⟩ | refine ⟨_, _, rfl, rfl, (by first | decide | (show (0 : Int) < _; decide)), ?_⟩ | refine ⟨_, _, rfl, rfl, ?_⟩ | refine eqR_str ?_ | refine eqR_int ?_ | refine neR_str ?_ | refine neR_int ?_ | refine And.intro rfl ?_ | refine addL (by first | assumption | (rw [sizeLine_eq]; omega) | (rw [sizeLine_eq]; simp; done) | (rw [sizeLine_eq]; simp only [List.length_append, List.length_cons, List.length_nil]; omega)) ?_ | refine addT (by first | assumption | (rw [sizeLine_eq]; omega) | (rw [sizeLine_eq]; simp; done) | (rw [sizeLine_eq]; simp only [List.length_append, List.length_cons, List.length_nil]; omega)) ?_ | refine And.intro (by assumption) ?_ | refine And.intro (by decide) ?_ | refine ⟨_, _, rfl, ?_⟩ | refine iteT rfl ?_ | refine iteF Bool.false_ne_true ?_)
    intro r6 h60 h61
    have S3 := sml_of h30 (by omega)
    have S4 := sml_of h40 h41
    have S5 := sml_of h50 h51
    refine ixMem (ds := [.tuple [.str "writer", .int many], .tuple [.str "writer", .int many, .int r3], .tuple [.str "begin", .str z0], .tuple [.str "end", .str z0], .tuple [.str "enter"], .tuple [.str "leave", .int many], .tuple [.str "root", .int many, .str z0], .tuple [.str "field", .int many, .int r4, .str z0], .tuple [.str "mark", .int r5, .int many]]) h60 h61 fun dr hdr => ?_
    obtain ⟨row, rfl, hrow⟩ : ∃ row, dr = .tuple row ∧ RowA row := by
      simp only [List.mem_cons, List.not_mem_nil, or_false] at hdr
      rcases hdr with rfl | rfl | rfl | rfl | rfl | rfl | rfl | rfl | rfl
      · exact ⟨_, rfl, rowA2 (word_of "writer" 6) hM⟩
      · exact ⟨_, rfl, rowA3 (word_of "writer" 6) hM S3⟩
      · exact ⟨_, rfl, rowA2 (word_of "begin" 6) hn⟩
      · exact ⟨_, rfl, rowA2 (word_of "end" 6) hn⟩
      · exact ⟨_, rfl, rowA1 (word_of "enter" 6)⟩
      · exact ⟨_, rfl, rowA2 (word_of "leave" 6) hM⟩
      · exact ⟨_, rfl, rowA3 (word_of "root" 6) hM hn⟩
      · exact ⟨_, rfl, rowA4 (word_of "field" 5) hM S4 hn⟩
      · exact ⟨_, rfl, rowA3 (word_of "mark" 6) S5 hM⟩
    have e9 : (rs.map PyData.tuple).map O.dat ++ [O.dat (.tuple row)] = ((rs ++ [row]).map PyData.tuple).map O.dat := by
      rw [List.map_append, List.map_append]
      rfl
    have h9 : (rs ++ [row]).length = i + 1 ∧ ∀ r ∈ rs ++ [row], RowA r := by
      refine ⟨by simp [hrs], fun r m => ?_⟩
      rcases List.mem_append.mp m with m | m
      · exact hra r m
      · rw [List.mem_singleton.mp m]
        exact hrow
    refine ⟨some (.d d), some (.d (.str z0)), some (.d (.int many)), some (.d (.list [.tuple [.str "writer", .int many], .tuple [.str "writer", .int many, .int r3], .tuple [.str "begin", .str z0], .tuple [.str "end", .str z0], .tuple [.str "enter"], .tuple [.str "leave", .int many], .tuple [.str "root", .int many, .str z0], .tuple [.str "field", .int many, .int r4, .str z0]])), rs ++ [row], ?_, h9⟩
    rw [← e9]
    rfl
  · obtain ⟨x3, x4, x5, x6, rs, rfl, hrs, hra⟩ := hI
    rw [len_range] at hrs
    exact ⟨_, rfl, q rs (by omega) hra⟩
end
end K96
set_option Elab.async false
set_option linter.all false
set_option maxRecDepth 100000
set_option maxHeartbeats 8000000
set_option pp.maxSteps 500
/-! K96p: texts put otherwise -/
namespace K96
open PySem PySem.Spec PyProof.Rows L2 GL DL
def W (ls : List Str) : Nat := (ls.map fun w => w.length).sum + ls.length
theorem W_app (a b : List Str) : W (a ++ b) = W a + W b := by
  unfold W
  rw [List.map_append, List.sum_append, List.length_append]
  omega
theorem W_one (y : Str) : W [y] = y.length + 1 := by simp [W]
theorem W_cut (ls : List Str) (n : Nat) : W (ls.take n) + W (ls.drop n) = W ls := by
  rw [← W_app, List.take_append_drop]
theorem W_rev (ls : List Str) : W ls.reverse = W ls := by
  unfold W
  rw [List.map_reverse, List.sum_reverse, List.length_reverse]
theorem W_set (y : Str) : ∀ (ls : List Str) (i : Nat), W (ls.set i y) ≤ W ls + y.length
  | [], _ => by simp [W]
  | a :: r, 0 => by
    rw [List.set_cons_zero]
    simp only [W, List.map_cons, List.sum_cons, List.length_cons]
    omega
  | a :: r, i + 1 => by
    have ih := W_set y r i
    rw [List.set_cons_succ]
    simp only [W, List.map_cons, List.sum_cons, List.length_cons] at ih ⊢
    omega
theorem W_drop (ls : List Str) (n : Nat) : W (ls.drop n) ≤ W ls := by have := W_cut ls n; omega
theorem W_take (ls : List Str) (n : Nat) : W (ls.take n) ≤ W ls := by have := W_cut ls n; omega
theorem W_mem {ls : List Str} {y : Str} (h : y ∈ ls) : y.length + 1 ≤ W ls := by
  have h1 := sum_mem (List.mem_map.mpr ⟨y, h, rfl⟩ : y.length ∈ ls.map fun w => w.length)
  have h2 := List.length_pos_of_mem h
  unfold W
  omega
theorem joinL_mem (S : List Nat) : ∀ (l : List (List Nat)) (c : Nat), c ∈ TL.joinL S l → c ∈ S ∨ ∃ p ∈ l, c ∈ p
  | [], c, m => nomatch m
  | [p], c, m => .inr ⟨p, List.mem_cons_self .., m⟩
  | p :: q :: r, c, m => by
    have e : TL.joinL S (p :: q :: r) = p ++ (S ++ TL.joinL S (q :: r)) := rfl
    rw [e] at m
    rcases List.mem_append.mp m with m | m
    · exact .inr ⟨p, List.mem_cons_self .., m⟩
    · rcases List.mem_append.mp m with m | m
      · exact .inl m
      · rcases joinL_mem S (q :: r) c m with h | ⟨x, hx, h⟩
        · exact .inl h
        · exact .inr ⟨x, List.mem_cons_of_mem _ hx, h⟩
theorem asc_of {z : Str} (h : ∀ c ∈ z.cps.toList, c < 128) : asc z = true := List.all_eq_true.mpr fun c m => decide_eq_true (h c m)
theorem join_asc {y : Str} {zs : List Str} (hy : asc y = true) (h : ∀ z ∈ zs, asc z = true) : asc (Txt.join y zs) = true := asc_of fun c m => by
  rw [TL.join_eq] at m
  have m2 : c ∈ TL.tl (Str.join y zs) := m
  rw [TL.tl_join] at m2
  rcases joinL_mem _ _ c m2 with h1 | ⟨p, hp, h1⟩
  · exact asc_mem hy h1
  · obtain ⟨z, hz, rfl⟩ := List.mem_map.mp hp
    exact asc_mem (h z hz) h1
def Gd2 (n : Nat) (y : Str) : Prop := asc y = true ∧ y.length ≤ n
theorem join_good {ls : List Str} {n : Nat} (h : ∀ y ∈ ls, asc y = true) (k : W ls ≤ n) : Gd2 n (Txt.join "\n" ls) := by
  refine ⟨join_asc (by decide +kernel) h, ?_⟩
  have h1 := join_len "\n" ls
  have e : ("\n" : Str).length = 1 := by decide +kernel
  rw [e] at h1
  unfold W at k
  omega
theorem asc_add {x y : Str} (h : asc x = true) (k : asc y = true) : asc (x ++ y) = true := asc_of fun c m => by
  have e : (x ++ y).cps.toList = x.cps.toList ++ y.cps.toList := TL.tl_append x y
  rw [e] at m
  rcases List.mem_append.mp m with m | m
  · exact asc_mem h m
  · exact asc_mem k m
theorem asc_cut {x : Str} (h : asc x = true) (lo hi : Option Int) : asc (cutS x lo hi) = true := asc_of fun c hc => by
  have hc' : c ∈ ((x.cps.toList.drop (HT.sIx x.length 0 lo)).take (HT.sIx x.length x.length hi - HT.sIx x.length 0 lo)) := by simpa [cutS] using hc
  exact asc_mem h (List.mem_of_mem_drop (List.mem_of_mem_take hc'))
theorem gd_add {x y : Str} {n m : Nat} (h : Gd2 n x) (k : Gd2 m y) : Gd2 (n + m) (x ++ y) := ⟨asc_add h.1 k.1, by rw [Str.length_append]; have := h.2; have := k.2; omega⟩
theorem gd_cut {x : Str} {n : Nat} (h : Gd2 n x) (lo hi : Option Int) : Gd2 n (cutS x lo hi) := ⟨asc_cut h.1 lo hi, Nat.le_trans (cutS_length x lo hi) h.2⟩
theorem cut_to (ls : List Str) {i : Int} (h : 0 ≤ i) : DL.cutD (ls.map PyData.str) none (some i) = (ls.take i.toNat).map .str := by
  unfold DL.cutD
  have e : HT.sIx (ls.map PyData.str).length (ls.map PyData.str).length (some i) = min i.toNat (ls.map PyData.str).length := if_neg (by omega)
  have e2 : HT.sIx (ls.map PyData.str).length 0 none = 0 := rfl
  rw [e, e2, List.drop_zero, Nat.sub_zero, List.map_take, List.take_eq_take_iff]
  omega
theorem cut_from (ls : List Str) {i : Int} (h : 0 ≤ i) : DL.cutD (ls.map PyData.str) (some i) none = (ls.drop i.toNat).map .str := by
  unfold DL.cutD
  have e : HT.sIx (ls.map PyData.str).length 0 (some i) = min i.toNat (ls.map PyData.str).length := if_neg (by omega)
  have e2 : HT.sIx (ls.map PyData.str).length (ls.map PyData.str).length none = (ls.map PyData.str).length := rfl
  rw [e, e2, List.map_drop]
  by_cases k : i.toNat ≤ (ls.map PyData.str).length
  · rw [Nat.min_eq_left k, List.take_of_length_le (by rw [List.length_drop]; omega)]
  · rw [Nat.min_eq_right (by omega), Nat.sub_self, List.take_zero, List.drop_eq_nil_of_le (by omega)]
theorem join_sum {zs : List Str} (hw : W zs ≤ 16777216) : (zs.map (·.length)).sum + zs.length * ("\n" : Str).length ≤ 16777216 := by
  have e1 : ("\n" : Str).length = 1 := by decide +kernel
  rw [e1]
  unfold W at hw
  omega
theorem join_fin {f : PyData} {zs : List Str} {P : PyData → Prop} (e : f = .list (zs.map .str)) (hw : W zs ≤ 16777216) (h : P (.str (Txt.join "\n" zs))) :
    ∃ zs : List Str, f = .list (zs.map .str) ∧ (zs.map (·.length)).sum + zs.length * ("\n" : Str).length ≤ 16777216 ∧ P (.str (Txt.join "\n" zs)) := by
  refine ⟨zs, e, ?_, h⟩
  have e1 : ("\n" : Str).length = 1 := by decide +kernel
  rw [e1]
  unfold W at hw
  omega
instance (n : Nat) (y : Str) : Decidable (Gd2 n y) := inferInstanceAs (Decidable (_ ∧ _))
theorem more_good : ∀ m ∈ (["", "or", "writer", "either", "  quiet", "loop", "quiet", "  or", "cells a", "mark a 2"] : List Str), asc m = true ∧ m.length ≤ 8 := by decide +kernel
theorem at_strs {ms : List Str} {k : Int} (h0 : 0 ≤ k) (h1 : k < ms.length) : ∃ l, l ∈ ms ∧ atI ((ms.map PyData.str).map O.dat) k = some (O.dat (.str l)) := by
  have h2 : k.toNat < ms.length := by omega
  refine ⟨ms[k.toNat], List.getElem_mem h2, atI_int h0 ?_⟩
  rw [List.getElem?_map, List.getElem?_map, List.getElem?_eq_getElem h2]
  rfl
def S_spoilt : DSp := fun as P => ∃ z, as = [.bag, .d (.str z)] ∧ asc z = true ∧ z.length ≤ 8000 ∧ ∀ y, Gd2 (2 * z.length + 12) y → P (.dat (.str y))
section
variable {P : Program} {w : World} {K : PySem.W.Frag} {mg : Str → Option Value} {base : Heap} {f : Addr} {fd : FuncData}
theorem sc_spoilt : FnScope ["_law_bag_here", "_law_text", "_law_way", "_law_lines", "_law_at", "_law_k", "_law_other", "_law_more", "_law_signs", "_law_sign"] ["_law_bag_here", "_law_text"] (defScope s_spoilt) := ⟨rfl, rfl, rfl, by decide +kernel, rfl, by decide +kernel, by decide +kernel⟩
theorem ok_spoilt (F : Fun K "_law_spoilt" "_law_spoilt" s_spoilt f fd) (T : Txt0 mg) (c_take : ClG P w K mg base 1 "_law_take" (spF K S_take)) : FnG P w K mg base 2 f fd ["_law_bag_here", "_law_text"] (spF K S_spoilt) := by
  refine okD F sc_spoilt (fun as Q h => by obtain ⟨_, rfl, _⟩ := h; rfl) fun cdv A out s H E hG hr => have hu := units_ofx hr; ⟨_, (dss_cons (ds_par (i := 2) (j := 3) rfl sc_spoilt.nd rfl rfl (by decide) rfl rfl (doa_cons (do_call rfl c_take hG hr (by omega) (by rfl) (dr_bag (pv 0) (dr_cons de_int dr_nil))) (doa_cons (do_split (de_v (pv 1)) de_str) doa_nil)) (by rfl))
(dss_cons (ds_par (i := 4) (j := 5) rfl sc_spoilt.nd rfl rfl (by decide) rfl rfl (doa_cons (do_call rfl c_take hG hr (by omega) (by rfl) (dr_bag (pv 0) (dr_cons (de_flat (de_len rfl T.m_len (de_v (pv 3)))) dr_nil))) (doa_cons (do_call rfl c_take hG hr (by omega) (by rfl) (dr_bag (pv 0) (dr_cons (DO.d (do_add rfl (de_len rfl T.m_len (de_v (pv 1))) de_int)) dr_nil))) doa_nil)) (by rfl))
(dss_cons (ds_set (i := 6) sc_spoilt.nd rfl (.inl rfl) (DE.o (de_ixOwn rfl (pv 3) (DO.d (do_call rfl c_take hG hr (by omega) (by rfl) (dr_bag (pv 0) (dr_cons (de_flat (de_len rfl T.m_len (de_v (pv 3)))) dr_nil)))))))
(dss_cons (ds_if (db_eq rfl hu (de_v (pv 2)) de_int)
(dss_one (ds_frzAt 3 (ds_ret (DE.o (de_join rfl de_str (DO.d (do_add rfl (DO.d (do_sl rfl (de_v (pv 3)) io_none (io_some (de_v (pv 4))))) (DO.d (do_sl rfl (de_v (pv 3)) (io_some (DO.d (do_add rfl (de_v (pv 4)) de_int))) io_none)))))))))
dss_nil)
(dss_cons (ds_if (db_eq rfl hu (de_v (pv 2)) de_int)
(dss_one (ds_frzAt 3 (ds_ret (DE.o (de_join rfl de_str (DO.d (do_add rfl (DO.d (do_add rfl (DO.d (do_sl rfl (de_v (pv 3)) io_none (io_some (de_v (pv 4))))) (DO.d (do_lst (da_cons (de_v (pv 6)) da_nil))))) (DO.d (do_sl rfl (de_v (pv 3)) (io_some (de_v (pv 4))) io_none)))))))))
dss_nil)
(dss_cons (ds_if (db_eq rfl hu (de_v (pv 2)) de_int)
(dss_cons (ds_slRev2 rfl (pv 3) (pv 3) (io_some (de_v (pv 4))) (io_some (DO.d (do_add rfl (de_v (pv 4)) de_int))) (io_some (de_v (pv 4))) (io_some (DO.d (do_add rfl (de_v (pv 4)) de_int))))
(dss_one (ds_frzAt 3 (ds_ret (DE.o (de_join rfl de_str (de_v (pv 3))))))))
dss_nil)
(dss_cons (ds_if (db_eq rfl hu (de_v (pv 2)) de_int)
(dss_cons (ds_set (i := 7) sc_spoilt.nd rfl (.inl rfl) (do_lst (da_cons de_str (da_cons de_str (da_cons de_str (da_cons de_str (da_cons de_str (da_cons de_str (da_cons de_str (da_cons de_str (da_cons de_str (da_cons de_str da_nil))))))))))))
(dss_cons (ds_insert rfl (pv 3) (de_v (pv 4)) (de_ixOwn rfl (pv 7) (DO.d (do_call rfl c_take hG hr (by omega) (by rfl) (dr_bag (pv 0) (dr_cons de_int dr_nil))))))
(dss_one (ds_frzAt 3 (ds_ret (DE.o (de_join rfl de_str (de_v (pv 3)))))))))
dss_nil)
(dss_cons (ds_if (db_eq rfl hu (de_v (pv 2)) de_int)
(dss_cons (ds_store (pv 3) (DE.o (de_ixA rfl (DO.d (do_lst (da_cons (DO.d (do_add rfl de_str (de_ixOwn rfl (pv 3) (de_v (pv 4))))) (da_cons (DO.d (do_add rfl de_str (de_ixOwn rfl (pv 3) (de_v (pv 4))))) (da_cons (DO.d (do_sl rfl (de_ixOwn rfl (pv 3) (de_v (pv 4))) (io_some de_int) io_none)) da_nil))))) (DO.d (do_call rfl c_take hG hr (by omega) (by rfl) (dr_bag (pv 0) (dr_cons de_int dr_nil)))))) (de_v (pv 4)))
(dss_one (ds_frzAt 3 (ds_ret (DE.o (de_join rfl de_str (de_v (pv 3))))))))
dss_nil)
(dss_cons (ds_set (i := 8) sc_spoilt.nd rfl (.inl rfl) (DE.o de_str))
(dss_cons (ds_set (i := 9) sc_spoilt.nd rfl (.inl rfl) (DE.o (de_ixA rfl (de_v (pv 8)) (DO.d (do_call rfl c_take hG hr (by omega) (by rfl) (dr_bag (pv 0) (dr_cons de_int dr_nil)))))))
(dss_cons (ds_if (db_cmp op_lt od_Ib (de_v (pv 2)) de_int (nomark _))
(dss_one (ds_ret (do_add rfl (DO.d (do_add rfl (DO.d (do_sl rfl (de_v (pv 1)) io_none (io_some (de_v (pv 5))))) (de_v (pv 9)))) (DO.d (do_sl rfl (de_v (pv 1)) (io_some (de_v (pv 5))) io_none)))))
dss_nil)
(dss_one (ds_ret (do_if (db_cmp op_lt od_Ib (de_v (pv 2)) de_int (nomark _)) (do_add rfl (DO.d (do_sl rfl (de_v (pv 1)) io_none (io_some (de_v (pv 5))))) (DO.d (do_sl rfl (de_v (pv 1)) (io_some (DO.d (do_add rfl (de_v (pv 5)) de_int))) io_none))) (do_add rfl (DO.d (do_add rfl (DO.d (do_sl rfl (de_v (pv 1)) io_none (io_some (de_v (pv 5))))) (de_v (pv 9)))) (DO.d (do_sl rfl (de_v (pv 1)) (io_some (DO.d (do_add rfl (de_v (pv 5)) de_int))) io_none))))))))))))))))), fun as Q h => ?_⟩
  obtain ⟨z, rfl, ha, hz, q⟩ := h
  have hsz : z.length + 2 ≤ sizeLine := by rw [sizeLine_eq]; omega
  have hz1 : z.length ≤ sizeLine := by omega
  have hL := lines_few z
  have hW : W (linesOf z) = z.length + 1 := hL.1
  have hla : ∀ l ∈ linesOf z, asc l = true := by
    unfold linesOf
    rw [feed_is]
    exact split_asc ha (by decide)
  have hpos : 1 ≤ (linesOf z).length := List.length_pos_iff.mpr hL.2.2
  have hlen : (linesOf z).length ≤ 8001 := by omega
  repeat' (first | refine ix0T ?_ | refine ix1T ?_ | refine ix2T ?_ | refine ix0L ?_ | refine ix1L ?_ | refine ix2L ?_ | refine ⟨_, rfl, ?_⟩ | refine ⟨_, _, rfl, rfl, (by show (_ : Nat) ≤ sizeLine; first | assumption | exact big (DOk.strLen (by assumption)) | exact big (DOk.tupLen (by assumption)) | exact big (DOk.lstLen (by assumption)) | exact big (DOw.strLen (by assumption)) | exact big (DOw.tupLen (by assumption)) | exact big (DOw.lstLen (by assumption)) | exact big (DOz.strLen (by assumption)) | exact big (DOz.tupLen (by assumption)) | exact big (DOz.lstLen (by assumption))), ?_⟩ | refine ⟨_, _, rfl, rfl, (by first | decide | (show (0 : Int) < _; decide)), ?_⟩ | refine ⟨_, _, rfl, rfl, ?_⟩ | refine eqR_str ?_ | refine eqR_int ?_ | refine neR_str ?_ | refine neR_int ?_ | refine And.intro rfl ?_ | refine addL (by first | assumption | (rw [sizeLine_eq]; omega) | (rw [sizeLine_eq]; simp; done) | (rw [sizeLine_eq]; simp only [List.length_append, List.length_cons, List.length_nil]; omega)) ?_ | refine addT (by first | assumption | (rw [sizeLine_eq]; omega) | (rw [sizeLine_eq]; simp; done) | (rw [sizeLine_eq]; simp only [List.length_append, List.length_cons, List.length_nil]; omega)) ?_ | refine And.intro (by assumption) ?_ | refine And.intro (by decide) ?_ | refine ⟨_, _, rfl, ?_⟩ | refine iteT rfl ?_ | refine iteF Bool.false_ne_true ?_)
  intro way hw0 hw1
  have hE : eraseAll (List.map O.dat (List.map PyData.str (Txt.split z "\n"))) = (linesOf z).map .str := era_dat _
  have hEl : (eraseAll (List.map O.dat (List.map PyData.str (Txt.split z "\n")))).length = (linesOf z).length := by rw [hE, List.length_map]
  have hb1 : (eraseAll (List.map O.dat (List.map PyData.str (Txt.split z "\n")))).length ≤ sizeLine := by rw [hEl, sizeLine_eq]; omega
  repeat' (first | refine ix0T ?_ | refine ix1T ?_ | refine ix2T ?_ | refine ix0L ?_ | refine ix1L ?_ | refine ix2L ?_ | refine ⟨_, rfl, ?_⟩ | refine ⟨_, _, rfl, rfl, (by show (_ : Nat) ≤ sizeLine; first | assumption | exact big (DOk.strLen (by assumption)) | exact big (DOk.tupLen (by assumption)) | exact big (DOk.lstLen (by assumption)) | exact big (DOw.strLen (by assumption)) | exact big (DOw.tupLen (by assumption)) | exact big (DOw.lstLen (by assumption)) | exact big (DOz.strLen (by assumption)) | exact big (DOz.tupLen (by assumption)) | exact big (DOz.lstLen (by assumption))), ?_⟩ | refine ⟨_, _, rfl, rfl, (by first | decide | (show (0 : Int) < _; decide)), ?_⟩ | refine ⟨_, _, rfl, rfl, ?_⟩ | refine eqR_str ?_ | refine eqR_int ?_ | refine neR_str ?_ | refine neR_int ?_ | refine And.intro rfl ?_ | refine addL (by first | assumption | (rw [sizeLine_eq]; omega) | (rw [sizeLine_eq]; simp; done) | (rw [sizeLine_eq]; simp only [List.length_append, List.length_cons, List.length_nil]; omega)) ?_ | refine addT (by first | assumption | (rw [sizeLine_eq]; omega) | (rw [sizeLine_eq]; simp; done) | (rw [sizeLine_eq]; simp only [List.length_append, List.length_cons, List.length_nil]; omega)) ?_ | refine And.intro (by assumption) ?_ | refine And.intro (by decide) ?_ | refine ⟨_, _, rfl, ?_⟩ | refine iteT rfl ?_ | refine iteF Bool.false_ne_true ?_)
  refine ⟨by omega, by omega, fun at' ha0 ha1 => ?_⟩
  repeat' (first | refine ix0T ?_ | refine ix1T ?_ | refine ix2T ?_ | refine ix0L ?_ | refine ix1L ?_ | refine ix2L ?_ | refine ⟨_, rfl, ?_⟩ | refine ⟨_, _, rfl, rfl, (by show (_ : Nat) ≤ sizeLine; first | assumption | exact big (DOk.strLen (by assumption)) | exact big (DOk.tupLen (by assumption)) | exact big (DOk.lstLen (by assumption)) | exact big (DOw.strLen (by assumption)) | exact big (DOw.tupLen (by assumption)) | exact big (DOw.lstLen (by assumption)) | exact big (DOz.strLen (by assumption)) | exact big (DOz.tupLen (by assumption)) | exact big (DOz.lstLen (by assumption))), ?_⟩ | refine ⟨_, _, rfl, rfl, (by first | decide | (show (0 : Int) < _; decide)), ?_⟩ | refine ⟨_, _, rfl, rfl, ?_⟩ | refine eqR_str ?_ | refine eqR_int ?_ | refine neR_str ?_ | refine neR_int ?_ | refine And.intro rfl ?_ | refine addL (by first | assumption | (rw [sizeLine_eq]; omega) | (rw [sizeLine_eq]; simp; done) | (rw [sizeLine_eq]; simp only [List.length_append, List.length_cons, List.length_nil]; omega)) ?_ | refine addT (by first | assumption | (rw [sizeLine_eq]; omega) | (rw [sizeLine_eq]; simp; done) | (rw [sizeLine_eq]; simp only [List.length_append, List.length_cons, List.length_nil]; omega)) ?_ | refine And.intro (by assumption) ?_ | refine And.intro (by decide) ?_ | refine ⟨_, _, rfl, ?_⟩ | refine iteT rfl ?_ | refine iteF Bool.false_ne_true ?_)
  refine ⟨by omega, by omega, fun kk hk0 hk1 => ?_⟩
  repeat' (first | refine ix0T ?_ | refine ix1T ?_ | refine ix2T ?_ | refine ix0L ?_ | refine ix1L ?_ | refine ix2L ?_ | refine ⟨_, rfl, ?_⟩ | refine ⟨_, _, rfl, rfl, (by show (_ : Nat) ≤ sizeLine; first | assumption | exact big (DOk.strLen (by assumption)) | exact big (DOk.tupLen (by assumption)) | exact big (DOk.lstLen (by assumption)) | exact big (DOw.strLen (by assumption)) | exact big (DOw.tupLen (by assumption)) | exact big (DOw.lstLen (by assumption)) | exact big (DOz.strLen (by assumption)) | exact big (DOz.tupLen (by assumption)) | exact big (DOz.lstLen (by assumption))), ?_⟩ | refine ⟨_, _, rfl, rfl, (by first | decide | (show (0 : Int) < _; decide)), ?_⟩ | refine ⟨_, _, rfl, rfl, ?_⟩ | refine eqR_str ?_ | refine eqR_int ?_ | refine neR_str ?_ | refine neR_int ?_ | refine And.intro rfl ?_ | refine addL (by first | assumption | (rw [sizeLine_eq]; omega) | (rw [sizeLine_eq]; simp; done) | (rw [sizeLine_eq]; simp only [List.length_append, List.length_cons, List.length_nil]; omega)) ?_ | refine addT (by first | assumption | (rw [sizeLine_eq]; omega) | (rw [sizeLine_eq]; simp; done) | (rw [sizeLine_eq]; simp only [List.length_append, List.length_cons, List.length_nil]; omega)) ?_ | refine And.intro (by assumption) ?_ | refine And.intro (by decide) ?_ | refine ⟨_, _, rfl, ?_⟩ | refine iteT rfl ?_ | refine iteF Bool.false_ne_true ?_)
  refine ⟨by omega, by omega, fun oo ho0 ho1 => ?_⟩
  have hlm : ∀ k : Int, 0 ≤ k → k < (linesOf z).length → ∃ l, l ∈ linesOf z ∧ atI (List.map O.dat (List.map PyData.str (Txt.split z "\n"))) k = some (O.dat (.str l)) := fun k h0 h1 => by
    have h2 : k.toNat < (linesOf z).length := by omega
    refine ⟨(linesOf z)[k.toNat], List.getElem_mem h2, atI_int h0 ?_⟩
    rw [List.getElem?_map, List.getElem?_map]
    show Option.map _ (Option.map _ ((linesOf z)[k.toNat]?)) = _
    rw [List.getElem?_eq_getElem h2]
    rfl
  obtain ⟨other, hom, hoa⟩ := hlm oo ho0 (by omega)
  refine ⟨_, _, rfl, hoa, ?_⟩
  have hole := hL.2.1 other hom
  repeat' (first | refine ix0T ?_ | refine ix1T ?_ | refine ix2T ?_ | refine ix0L ?_ | refine ix1L ?_ | refine ix2L ?_ | refine ⟨_, rfl, ?_⟩ | refine ⟨_, _, rfl, rfl, (by show (_ : Nat) ≤ sizeLine; first | assumption | exact big (DOk.strLen (by assumption)) | exact big (DOk.tupLen (by assumption)) | exact big (DOk.lstLen (by assumption)) | exact big (DOw.strLen (by assumption)) | exact big (DOw.tupLen (by assumption)) | exact big (DOw.lstLen (by assumption)) | exact big (DOz.strLen (by assumption)) | exact big (DOz.tupLen (by assumption)) | exact big (DOz.lstLen (by assumption))), ?_⟩ | refine ⟨_, _, rfl, rfl, (by first | decide | (show (0 : Int) < _; decide)), ?_⟩ | refine ⟨_, _, rfl, rfl, ?_⟩ | refine eqR_str ?_ | refine eqR_int ?_ | refine neR_str ?_ | refine neR_int ?_ | refine And.intro rfl ?_ | refine addL (by first | assumption | (rw [sizeLine_eq]; omega) | (rw [sizeLine_eq]; simp; done) | (rw [sizeLine_eq]; simp only [List.length_append, List.length_cons, List.length_nil]; omega)) ?_ | refine addT (by first | assumption | (rw [sizeLine_eq]; omega) | (rw [sizeLine_eq]; simp; done) | (rw [sizeLine_eq]; simp only [List.length_append, List.length_cons, List.length_nil]; omega)) ?_ | refine And.intro (by assumption) ?_ | refine And.intro (by decide) ?_ | refine ⟨_, _, rfl, ?_⟩ | refine iteT rfl ?_ | refine iteF Bool.false_ne_true ?_)
  have hC1 : DL.cutD (eraseAll (List.map O.dat (List.map PyData.str (Txt.split z "\n")))) none (some at') = ((linesOf z).take at'.toNat).map .str := by rw [hE, cut_to _ ha0]
  have hC2 : DL.cutD (eraseAll (List.map O.dat (List.map PyData.str (Txt.split z "\n")))) (some (at' + 1)) none = ((linesOf z).drop (at' + 1).toNat).map .str := by rw [hE, cut_from _ (by omega)]
  have hC3 : DL.cutD (eraseAll (List.map O.dat (List.map PyData.str (Txt.split z "\n")))) (some at') none = ((linesOf z).drop at'.toNat).map .str := by rw [hE, cut_from _ ha0]
  have h8 : ∀ ls : List Str, W ls ≤ 2 * z.length + 12 → (∀ y ∈ ls, asc y = true) → Q (.dat (.str (Txt.join "\n" ls))) := fun ls h1 h2 => q _ (join_good h2 h1)
  have hlt : ∀ n, ((linesOf z).take n).length ≤ 8001 ∧ ((linesOf z).drop n).length ≤ 8001 := fun n => ⟨by rw [List.length_take]; omega, by rw [List.length_drop]; omega⟩
  refine iteB (fun e => ?_) (fun e => ?_)
  · repeat' (first | refine ix0T ?_ | refine ix1T ?_ | refine ix2T ?_ | refine ix0L ?_ | refine ix1L ?_ | refine ix2L ?_ | refine ⟨_, rfl, ?_⟩ | refine ⟨_, _, rfl, rfl, (by show (_ : Nat) ≤ sizeLine; first | assumption | exact big (DOk.strLen (by assumption)) | exact big (DOk.tupLen (by assumption)) | exact big (DOk.lstLen (by assumption)) | exact big (DOw.strLen (by assumption)) | exact big (DOw.tupLen (by assumption)) | exact big (DOw.lstLen (by assumption)) | exact big (DOz.strLen (by assumption)) | exact big (DOz.tupLen (by assumption)) | exact big (DOz.lstLen (by assumption))), ?_⟩ | refine ⟨_, _, rfl, rfl, (by first | decide | (show (0 : Int) < _; decide)), ?_⟩ | refine ⟨_, _, rfl, rfl, ?_⟩ | refine eqR_str ?_ | refine eqR_int ?_ | refine neR_str ?_ | refine neR_int ?_ | refine And.intro rfl ?_ | refine addL (by first | assumption | (rw [sizeLine_eq]; omega) | (rw [sizeLine_eq]; simp; done) | (rw [sizeLine_eq]; simp only [List.length_append, List.length_cons, List.length_nil]; omega)) ?_ | refine addT (by first | assumption | (rw [sizeLine_eq]; omega) | (rw [sizeLine_eq]; simp; done) | (rw [sizeLine_eq]; simp only [List.length_append, List.length_cons, List.length_nil]; omega)) ?_ | refine And.intro (by assumption) ?_ | refine And.intro (by decide) ?_ | refine ⟨_, _, rfl, ?_⟩ | refine iteT rfl ?_ | refine iteF Bool.false_ne_true ?_)
    rw [hC1, hC2]
    refine ⟨_, if_pos (by rw [era_dat, era_dat, List.length_map, List.length_map, sizeLine_eq]; have := (hlt at'.toNat).1; have := (hlt (at' + 1).toNat).2; omega), ?_⟩
    have hw : W ((linesOf z).take at'.toNat ++ (linesOf z).drop (at' + 1).toNat) ≤ 2 * z.length + 12 := by
      rw [W_app]
      have := W_take (linesOf z) at'.toNat
      have := W_drop (linesOf z) (at' + 1).toNat
      omega
    refine ⟨(linesOf z).take at'.toNat ++ (linesOf z).drop (at' + 1).toNat, ?_, join_sum (Nat.le_trans hw (by omega)), ?_⟩
    · show PyData.list (eraseAll (List.map O.dat (eraseAll (List.map O.dat (((linesOf z).take at'.toNat).map .str)) ++ eraseAll (List.map O.dat (((linesOf z).drop (at' + 1).toNat).map .str))))) = _
      rw [era_dat, era_dat, era_dat, List.map_append]
    refine h8 _ hw fun y m => ?_
    rcases List.mem_append.mp m with m | m
    · exact hla y (List.mem_of_mem_take m)
    · exact hla y (List.mem_of_mem_drop m)
  repeat' (first | refine ix0T ?_ | refine ix1T ?_ | refine ix2T ?_ | refine ix0L ?_ | refine ix1L ?_ | refine ix2L ?_ | refine ⟨_, rfl, ?_⟩ | refine ⟨_, _, rfl, rfl, (by show (_ : Nat) ≤ sizeLine; first | assumption | exact big (DOk.strLen (by assumption)) | exact big (DOk.tupLen (by assumption)) | exact big (DOk.lstLen (by assumption)) | exact big (DOw.strLen (by assumption)) | exact big (DOw.tupLen (by assumption)) | exact big (DOw.lstLen (by assumption)) | exact big (DOz.strLen (by assumption)) | exact big (DOz.tupLen (by assumption)) | exact big (DOz.lstLen (by assumption))), ?_⟩ | refine ⟨_, _, rfl, rfl, (by first | decide | (show (0 : Int) < _; decide)), ?_⟩ | refine ⟨_, _, rfl, rfl, ?_⟩ | refine eqR_str ?_ | refine eqR_int ?_ | refine neR_str ?_ | refine neR_int ?_ | refine And.intro rfl ?_ | refine addL (by first | assumption | (rw [sizeLine_eq]; omega) | (rw [sizeLine_eq]; simp; done) | (rw [sizeLine_eq]; simp only [List.length_append, List.length_cons, List.length_nil]; omega)) ?_ | refine addT (by first | assumption | (rw [sizeLine_eq]; omega) | (rw [sizeLine_eq]; simp; done) | (rw [sizeLine_eq]; simp only [List.length_append, List.length_cons, List.length_nil]; omega)) ?_ | refine And.intro (by assumption) ?_ | refine And.intro (by decide) ?_ | refine ⟨_, _, rfl, ?_⟩ | refine iteT rfl ?_ | refine iteF Bool.false_ne_true ?_)
  refine iteB (fun e => ?_) (fun e => ?_)
  · repeat' (first | refine ix0T ?_ | refine ix1T ?_ | refine ix2T ?_ | refine ix0L ?_ | refine ix1L ?_ | refine ix2L ?_ | refine ⟨_, rfl, ?_⟩ | refine ⟨_, _, rfl, rfl, (by show (_ : Nat) ≤ sizeLine; first | assumption | exact big (DOk.strLen (by assumption)) | exact big (DOk.tupLen (by assumption)) | exact big (DOk.lstLen (by assumption)) | exact big (DOw.strLen (by assumption)) | exact big (DOw.tupLen (by assumption)) | exact big (DOw.lstLen (by assumption)) | exact big (DOz.strLen (by assumption)) | exact big (DOz.tupLen (by assumption)) | exact big (DOz.lstLen (by assumption))), ?_⟩ | refine ⟨_, _, rfl, rfl, (by first | decide | (show (0 : Int) < _; decide)), ?_⟩ | refine ⟨_, _, rfl, rfl, ?_⟩ | refine eqR_str ?_ | refine eqR_int ?_ | refine neR_str ?_ | refine neR_int ?_ | refine And.intro rfl ?_ | refine addL (by first | assumption | (rw [sizeLine_eq]; omega) | (rw [sizeLine_eq]; simp; done) | (rw [sizeLine_eq]; simp only [List.length_append, List.length_cons, List.length_nil]; omega)) ?_ | refine addT (by first | assumption | (rw [sizeLine_eq]; omega) | (rw [sizeLine_eq]; simp; done) | (rw [sizeLine_eq]; simp only [List.length_append, List.length_cons, List.length_nil]; omega)) ?_ | refine And.intro (by assumption) ?_ | refine And.intro (by decide) ?_ | refine ⟨_, _, rfl, ?_⟩ | refine iteT rfl ?_ | refine iteF Bool.false_ne_true ?_)
    rw [hC1]
    repeat' (first | refine ix0T ?_ | refine ix1T ?_ | refine ix2T ?_ | refine ix0L ?_ | refine ix1L ?_ | refine ix2L ?_ | refine ⟨_, rfl, ?_⟩ | refine ⟨_, _, rfl, rfl, (by show (_ : Nat) ≤ sizeLine; first | assumption | exact big (DOk.strLen (by assumption)) | exact big (DOk.tupLen (by assumption)) | exact big (DOk.lstLen (by assumption)) | exact big (DOw.strLen (by assumption)) | exact big (DOw.tupLen (by assumption)) | exact big (DOw.lstLen (by assumption)) | exact big (DOz.strLen (by assumption)) | exact big (DOz.tupLen (by assumption)) | exact big (DOz.lstLen (by assumption))), ?_⟩ | refine ⟨_, _, rfl, rfl, (by first | decide | (show (0 : Int) < _; decide)), ?_⟩ | refine ⟨_, _, rfl, rfl, ?_⟩ | refine eqR_str ?_ | refine eqR_int ?_ | refine neR_str ?_ | refine neR_int ?_ | refine And.intro rfl ?_ | refine addL (by first | assumption | (rw [sizeLine_eq]; omega) | (rw [sizeLine_eq]; simp; done) | (rw [sizeLine_eq]; simp only [List.length_append, List.length_cons, List.length_nil]; omega)) ?_ | refine addT (by first | assumption | (rw [sizeLine_eq]; omega) | (rw [sizeLine_eq]; simp; done) | (rw [sizeLine_eq]; simp only [List.length_append, List.length_cons, List.length_nil]; omega)) ?_ | refine And.intro (by assumption) ?_ | refine And.intro (by decide) ?_ | refine ⟨_, _, rfl, ?_⟩ | refine iteT rfl ?_ | refine iteF Bool.false_ne_true ?_)
    refine ⟨_, if_pos (by rw [era_dat, List.length_map, sizeLine_eq]; have := (hlt at'.toNat).1; show _ + (eraseAll [O.dat (.str other)]).length ≤ _; simp [eraseAll]; omega), ?_⟩
    repeat' (first | refine ix0T ?_ | refine ix1T ?_ | refine ix2T ?_ | refine ix0L ?_ | refine ix1L ?_ | refine ix2L ?_ | refine ⟨_, rfl, ?_⟩ | refine ⟨_, _, rfl, rfl, (by show (_ : Nat) ≤ sizeLine; first | assumption | exact big (DOk.strLen (by assumption)) | exact big (DOk.tupLen (by assumption)) | exact big (DOk.lstLen (by assumption)) | exact big (DOw.strLen (by assumption)) | exact big (DOw.tupLen (by assumption)) | exact big (DOw.lstLen (by assumption)) | exact big (DOz.strLen (by assumption)) | exact big (DOz.tupLen (by assumption)) | exact big (DOz.lstLen (by assumption))), ?_⟩ | refine ⟨_, _, rfl, rfl, (by first | decide | (show (0 : Int) < _; decide)), ?_⟩ | refine ⟨_, _, rfl, rfl, ?_⟩ | refine eqR_str ?_ | refine eqR_int ?_ | refine neR_str ?_ | refine neR_int ?_ | refine And.intro rfl ?_ | refine addL (by first | assumption | (rw [sizeLine_eq]; omega) | (rw [sizeLine_eq]; simp; done) | (rw [sizeLine_eq]; simp only [List.length_append, List.length_cons, List.length_nil]; omega)) ?_ | refine addT (by first | assumption | (rw [sizeLine_eq]; omega) | (rw [sizeLine_eq]; simp; done) | (rw [sizeLine_eq]; simp only [List.length_append, List.length_cons, List.length_nil]; omega)) ?_ | refine And.intro (by assumption) ?_ | refine And.intro (by decide) ?_ | refine ⟨_, _, rfl, ?_⟩ | refine iteT rfl ?_ | refine iteF Bool.false_ne_true ?_)
    rw [hC3]
    refine ⟨_, if_pos (by show (eraseAll (List.map O.dat (eraseAll (List.map O.dat (((linesOf z).take at'.toNat).map .str)) ++ eraseAll [O.dat (.str other)]))).length + (eraseAll (List.map O.dat (((linesOf z).drop at'.toNat).map .str))).length ≤ _; rw [era_dat, era_dat, era_dat, List.length_append, List.length_map, List.length_map, sizeLine_eq]; have := (hlt at'.toNat).1; have := (hlt at'.toNat).2; simp [eraseAll]; omega), ?_⟩
    have hw : W ((linesOf z).take at'.toNat ++ [other] ++ (linesOf z).drop at'.toNat) ≤ 2 * z.length + 12 := by
      rw [W_app, W_app, W_one]
      have := W_cut (linesOf z) at'.toNat
      omega
    refine ⟨(linesOf z).take at'.toNat ++ [other] ++ (linesOf z).drop at'.toNat, ?_, join_sum (Nat.le_trans hw (by omega)), ?_⟩
    · show PyData.list (eraseAll (List.map O.dat (eraseAll (List.map O.dat (eraseAll (List.map O.dat (((linesOf z).take at'.toNat).map .str)) ++ eraseAll [O.dat (.str other)])) ++ eraseAll (List.map O.dat (((linesOf z).drop at'.toNat).map .str))))) = _
      rw [era_dat, era_dat, era_dat, era_dat, List.map_append, List.map_append]
      rfl
    refine h8 _ hw fun y m => ?_
    rcases List.mem_append.mp m with m | m
    · rcases List.mem_append.mp m with m | m
      · exact hla y (List.mem_of_mem_take m)
      · rw [List.mem_singleton.mp m]
        exact hla other hom
    · exact hla y (List.mem_of_mem_drop m)
  have g0 : Gd2 z.length z := ⟨ha, Nat.le_refl _⟩
  have qq : ∀ {n : Nat} {y : Str}, Gd2 n y → n ≤ 2 * z.length + 12 → Q (.dat (.str y)) := fun h k => q _ ⟨h.1, Nat.le_trans h.2 k⟩
  have hsp : Txt.split z "\n" = linesOf z := rfl
  repeat' (first | refine ix0T ?_ | refine ix1T ?_ | refine ix2T ?_ | refine ix0L ?_ | refine ix1L ?_ | refine ix2L ?_ | refine ⟨_, rfl, ?_⟩ | refine ⟨_, _, rfl, rfl, (by show (_ : Nat) ≤ sizeLine; first | assumption | exact big (DOk.strLen (by assumption)) | exact big (DOk.tupLen (by assumption)) | exact big (DOk.lstLen (by assumption)) | exact big (DOw.strLen (by assumption)) | exact big (DOw.tupLen (by assumption)) | exact big (DOw.lstLen (by assumption)) | exact big (DOz.strLen (by assumption)) | exact big (DOz.tupLen (by assumption)) | exact big (DOz.lstLen (by assumption))), ?_⟩ | refine ⟨_, _, rfl, rfl, (by first | decide | (show (0 : Int) < _; decide)), ?_⟩ | refine ⟨_, _, rfl, rfl, ?_⟩ | refine eqR_str ?_ | refine eqR_int ?_ | refine neR_str ?_ | refine neR_int ?_ | refine And.intro rfl ?_ | refine addL (by first | assumption | (rw [sizeLine_eq]; omega) | (rw [sizeLine_eq]; simp; done) | (rw [sizeLine_eq]; simp only [List.length_append, List.length_cons, List.length_nil]; omega)) ?_ | refine addT (by first | assumption | (rw [sizeLine_eq]; omega) | (rw [sizeLine_eq]; simp; done) | (rw [sizeLine_eq]; simp only [List.length_append, List.length_cons, List.length_nil]; omega)) ?_ | refine And.intro (by assumption) ?_ | refine And.intro (by decide) ?_ | refine ⟨_, _, rfl, ?_⟩ | refine iteT rfl ?_ | refine iteF Bool.false_ne_true ?_)
  refine iteB (fun e => ?_) (fun e => ?_)
  · repeat' (first | refine ix0T ?_ | refine ix1T ?_ | refine ix2T ?_ | refine ix0L ?_ | refine ix1L ?_ | refine ix2L ?_ | refine ⟨_, rfl, ?_⟩ | refine ⟨_, _, rfl, rfl, (by show (_ : Nat) ≤ sizeLine; first | assumption | exact big (DOk.strLen (by assumption)) | exact big (DOk.tupLen (by assumption)) | exact big (DOk.lstLen (by assumption)) | exact big (DOw.strLen (by assumption)) | exact big (DOw.tupLen (by assumption)) | exact big (DOw.lstLen (by assumption)) | exact big (DOz.strLen (by assumption)) | exact big (DOz.tupLen (by assumption)) | exact big (DOz.lstLen (by assumption))), ?_⟩ | refine ⟨_, _, rfl, rfl, (by first | decide | (show (0 : Int) < _; decide)), ?_⟩ | refine ⟨_, _, rfl, rfl, ?_⟩ | refine eqR_str ?_ | refine eqR_int ?_ | refine neR_str ?_ | refine neR_int ?_ | refine And.intro rfl ?_ | refine addL (by first | assumption | (rw [sizeLine_eq]; omega) | (rw [sizeLine_eq]; simp; done) | (rw [sizeLine_eq]; simp only [List.length_append, List.length_cons, List.length_nil]; omega)) ?_ | refine addT (by first | assumption | (rw [sizeLine_eq]; omega) | (rw [sizeLine_eq]; simp; done) | (rw [sizeLine_eq]; simp only [List.length_append, List.length_cons, List.length_nil]; omega)) ?_ | refine And.intro (by assumption) ?_ | refine And.intro (by decide) ?_ | refine ⟨_, _, rfl, ?_⟩ | refine iteT rfl ?_ | refine iteF Bool.false_ne_true ?_)
    refine ⟨by rw [List.length_map, hsp, sizeLine_eq]; omega, ?_⟩
    repeat' (first | refine ix0T ?_ | refine ix1T ?_ | refine ix2T ?_ | refine ix0L ?_ | refine ix1L ?_ | refine ix2L ?_ | refine ⟨_, rfl, ?_⟩ | refine ⟨_, _, rfl, rfl, (by show (_ : Nat) ≤ sizeLine; first | assumption | exact big (DOk.strLen (by assumption)) | exact big (DOk.tupLen (by assumption)) | exact big (DOk.lstLen (by assumption)) | exact big (DOw.strLen (by assumption)) | exact big (DOw.tupLen (by assumption)) | exact big (DOw.lstLen (by assumption)) | exact big (DOz.strLen (by assumption)) | exact big (DOz.tupLen (by assumption)) | exact big (DOz.lstLen (by assumption))), ?_⟩ | refine ⟨_, _, rfl, rfl, (by first | decide | (show (0 : Int) < _; decide)), ?_⟩ | refine ⟨_, _, rfl, rfl, ?_⟩ | refine eqR_str ?_ | refine eqR_int ?_ | refine neR_str ?_ | refine neR_int ?_ | refine And.intro rfl ?_ | refine addL (by first | assumption | (rw [sizeLine_eq]; omega) | (rw [sizeLine_eq]; simp; done) | (rw [sizeLine_eq]; simp only [List.length_append, List.length_cons, List.length_nil]; omega)) ?_ | refine addT (by first | assumption | (rw [sizeLine_eq]; omega) | (rw [sizeLine_eq]; simp; done) | (rw [sizeLine_eq]; simp only [List.length_append, List.length_cons, List.length_nil]; omega)) ?_ | refine And.intro (by assumption) ?_ | refine And.intro (by decide) ?_ | refine ⟨_, _, rfl, ?_⟩ | refine iteT rfl ?_ | refine iteF Bool.false_ne_true ?_)
    obtain ⟨a0, ea0⟩ : ∃ a0, a0 = HT.sIx ((linesOf z).map PyData.str).length 0 (some at') := ⟨_, rfl⟩
    obtain ⟨b0, eb0⟩ : ∃ b0, b0 = HT.sIx ((linesOf z).map PyData.str).length ((linesOf z).map PyData.str).length (some (at' + 2)) := ⟨_, rfl⟩
    have hw : W ((linesOf z).take a0 ++ (((linesOf z).drop a0).take (b0 - a0)).reverse ++ (linesOf z).drop (max a0 b0)) ≤ 2 * z.length + 12 := by
      rw [W_app, W_app, W_rev]
      have := W_cut (linesOf z) a0
      have := W_take ((linesOf z).drop a0) (b0 - a0)
      have := W_drop (linesOf z) (max a0 b0)
      omega
    refine ⟨(linesOf z).take a0 ++ (((linesOf z).drop a0).take (b0 - a0)).reverse ++ (linesOf z).drop (max a0 b0), ?_, join_sum (Nat.le_trans hw (by omega)), ?_⟩
    · show PyData.list (eraseAll (List.map O.dat (List.take _ ((linesOf z).map .str) ++ (DL.cutD ((linesOf z).map .str) _ _).reverse ++ List.drop _ ((linesOf z).map .str)))) = _
      rw [era_dat]
      unfold DL.cutD
      rw [ea0, eb0]
      simp only [hsp, List.map_append, List.map_reverse, List.map_take, List.map_drop]
    refine h8 _ hw fun y m => ?_
    rcases List.mem_append.mp m with m | m
    · rcases List.mem_append.mp m with m | m
      · exact hla y (List.mem_of_mem_take m)
      · exact hla y (List.mem_of_mem_drop (List.mem_of_mem_take (List.mem_reverse.mp m)))
    · exact hla y (List.mem_of_mem_drop m)
  repeat' (first | refine ix0T ?_ | refine ix1T ?_ | refine ix2T ?_ | refine ix0L ?_ | refine ix1L ?_ | refine ix2L ?_ | refine ⟨_, rfl, ?_⟩ | refine ⟨_, _, rfl, rfl, (by show (_ : Nat) ≤ sizeLine; first | assumption | exact big (DOk.strLen (by assumption)) | exact big (DOk.tupLen (by assumption)) | exact big (DOk.lstLen (by assumption)) | exact big (DOw.strLen (by assumption)) | exact big (DOw.tupLen (by assumption)) | exact big (DOw.lstLen (by assumption)) | exact big (DOz.strLen (by assumption)) | exact big (DOz.tupLen (by assumption)) | exact big (DOz.lstLen (by assumption))), ?_⟩ | refine ⟨_, _, rfl, rfl, (by first | decide | (show (0 : Int) < _; decide)), ?_⟩ | refine ⟨_, _, rfl, rfl, ?_⟩ | refine eqR_str ?_ | refine eqR_int ?_ | refine neR_str ?_ | refine neR_int ?_ | refine And.intro rfl ?_ | refine addL (by first | assumption | (rw [sizeLine_eq]; omega) | (rw [sizeLine_eq]; simp; done) | (rw [sizeLine_eq]; simp only [List.length_append, List.length_cons, List.length_nil]; omega)) ?_ | refine addT (by first | assumption | (rw [sizeLine_eq]; omega) | (rw [sizeLine_eq]; simp; done) | (rw [sizeLine_eq]; simp only [List.length_append, List.length_cons, List.length_nil]; omega)) ?_ | refine And.intro (by assumption) ?_ | refine And.intro (by decide) ?_ | refine ⟨_, _, rfl, ?_⟩ | refine iteT rfl ?_ | refine iteF Bool.false_ne_true ?_)
  refine iteB (fun e => ?_) (fun e => ?_)
  · repeat' (first | refine ix0T ?_ | refine ix1T ?_ | refine ix2T ?_ | refine ix0L ?_ | refine ix1L ?_ | refine ix2L ?_ | refine ⟨_, rfl, ?_⟩ | refine ⟨_, _, rfl, rfl, (by show (_ : Nat) ≤ sizeLine; first | assumption | exact big (DOk.strLen (by assumption)) | exact big (DOk.tupLen (by assumption)) | exact big (DOk.lstLen (by assumption)) | exact big (DOw.strLen (by assumption)) | exact big (DOw.tupLen (by assumption)) | exact big (DOw.lstLen (by assumption)) | exact big (DOz.strLen (by assumption)) | exact big (DOz.tupLen (by assumption)) | exact big (DOz.lstLen (by assumption))), ?_⟩ | refine ⟨_, _, rfl, rfl, (by first | decide | (show (0 : Int) < _; decide)), ?_⟩ | refine ⟨_, _, rfl, rfl, ?_⟩ | refine eqR_str ?_ | refine eqR_int ?_ | refine neR_str ?_ | refine neR_int ?_ | refine And.intro rfl ?_ | refine addL (by first | assumption | (rw [sizeLine_eq]; omega) | (rw [sizeLine_eq]; simp; done) | (rw [sizeLine_eq]; simp only [List.length_append, List.length_cons, List.length_nil]; omega)) ?_ | refine addT (by first | assumption | (rw [sizeLine_eq]; omega) | (rw [sizeLine_eq]; simp; done) | (rw [sizeLine_eq]; simp only [List.length_append, List.length_cons, List.length_nil]; omega)) ?_ | refine And.intro (by assumption) ?_ | refine And.intro (by decide) ?_ | refine ⟨_, _, rfl, ?_⟩ | refine iteT rfl ?_ | refine iteF Bool.false_ne_true ?_)
    refine ⟨by rw [List.length_map, hsp, sizeLine_eq]; omega, ?_⟩
    refine ⟨_, rfl, at', rfl, ha0, by omega, ?_⟩
    repeat' (first | refine ix0T ?_ | refine ix1T ?_ | refine ix2T ?_ | refine ix0L ?_ | refine ix1L ?_ | refine ix2L ?_ | refine ⟨_, rfl, ?_⟩ | refine ⟨_, _, rfl, rfl, (by show (_ : Nat) ≤ sizeLine; first | assumption | exact big (DOk.strLen (by assumption)) | exact big (DOk.tupLen (by assumption)) | exact big (DOk.lstLen (by assumption)) | exact big (DOw.strLen (by assumption)) | exact big (DOw.tupLen (by assumption)) | exact big (DOw.lstLen (by assumption)) | exact big (DOz.strLen (by assumption)) | exact big (DOz.tupLen (by assumption)) | exact big (DOz.lstLen (by assumption))), ?_⟩ | refine ⟨_, _, rfl, rfl, (by first | decide | (show (0 : Int) < _; decide)), ?_⟩ | refine ⟨_, _, rfl, rfl, ?_⟩ | refine eqR_str ?_ | refine eqR_int ?_ | refine neR_str ?_ | refine neR_int ?_ | refine And.intro rfl ?_ | refine addL (by first | assumption | (rw [sizeLine_eq]; omega) | (rw [sizeLine_eq]; simp; done) | (rw [sizeLine_eq]; simp only [List.length_append, List.length_cons, List.length_nil]; omega)) ?_ | refine addT (by first | assumption | (rw [sizeLine_eq]; omega) | (rw [sizeLine_eq]; simp; done) | (rw [sizeLine_eq]; simp only [List.length_append, List.length_cons, List.length_nil]; omega)) ?_ | refine And.intro (by assumption) ?_ | refine And.intro (by decide) ?_ | refine ⟨_, _, rfl, ?_⟩ | refine iteT rfl ?_ | refine iteF Bool.false_ne_true ?_)
    intro r3 h30 h31
    obtain ⟨m, hm, hma⟩ := at_strs (ms := ["", "or", "writer", "either", "  quiet", "loop", "quiet", "  or", "cells a", "mark a 2"]) h30 h31
    have hmg : asc m = true ∧ m.length ≤ 8 := more_good m hm
    refine ⟨r3, .str m, rfl, hma, ?_⟩
    repeat' (first | refine ix0T ?_ | refine ix1T ?_ | refine ix2T ?_ | refine ix0L ?_ | refine ix1L ?_ | refine ix2L ?_ | refine ⟨_, rfl, ?_⟩ | refine ⟨_, _, rfl, rfl, (by show (_ : Nat) ≤ sizeLine; first | assumption | exact big (DOk.strLen (by assumption)) | exact big (DOk.tupLen (by assumption)) | exact big (DOk.lstLen (by assumption)) | exact big (DOw.strLen (by assumption)) | exact big (DOw.tupLen (by assumption)) | exact big (DOw.lstLen (by assumption)) | exact big (DOz.strLen (by assumption)) | exact big (DOz.tupLen (by assumption)) | exact big (DOz.lstLen (by assumption))), ?_⟩ | refine ⟨_, _, rfl, rfl, (by first | decide | (show (0 : Int) < _; decide)), ?_⟩ | refine ⟨_, _, rfl, rfl, ?_⟩ | refine eqR_str ?_ | refine eqR_int ?_ | refine neR_str ?_ | refine neR_int ?_ | refine And.intro rfl ?_ | refine addL (by first | assumption | (rw [sizeLine_eq]; omega) | (rw [sizeLine_eq]; simp; done) | (rw [sizeLine_eq]; simp only [List.length_append, List.length_cons, List.length_nil]; omega)) ?_ | refine addT (by first | assumption | (rw [sizeLine_eq]; omega) | (rw [sizeLine_eq]; simp; done) | (rw [sizeLine_eq]; simp only [List.length_append, List.length_cons, List.length_nil]; omega)) ?_ | refine And.intro (by assumption) ?_ | refine And.intro (by decide) ?_ | refine ⟨_, _, rfl, ?_⟩ | refine iteT rfl ?_ | refine iteF Bool.false_ne_true ?_)
    have hw : W ((linesOf z).take at'.toNat ++ [m] ++ (linesOf z).drop at'.toNat) ≤ 2 * z.length + 12 := by
      rw [W_app, W_app, W_one]
      have := W_cut (linesOf z) at'.toNat
      omega
    refine ⟨(linesOf z).take at'.toNat ++ [m] ++ (linesOf z).drop at'.toNat, ?_, join_sum (Nat.le_trans hw (by omega)), ?_⟩
    · show PyData.list (eraseAll (List.map O.dat (List.take _ ((linesOf z).map .str) ++ [.str m] ++ List.drop _ ((linesOf z).map .str)))) = _
      rw [era_dat]
      simp only [List.map_append, List.map_take, List.map_drop, List.map_cons, List.map_nil]
    refine h8 _ hw fun y hy => ?_
    rcases List.mem_append.mp hy with hy | hy
    · rcases List.mem_append.mp hy with hy | hy
      · exact hla y (List.mem_of_mem_take hy)
      · rw [List.mem_singleton.mp hy]
        exact hmg.1
    · exact hla y (List.mem_of_mem_drop hy)
  repeat' (first | refine ix0T ?_ | refine ix1T ?_ | refine ix2T ?_ | refine ix0L ?_ | refine ix1L ?_ | refine ix2L ?_ | refine ⟨_, rfl, ?_⟩ | refine ⟨_, _, rfl, rfl, (by show (_ : Nat) ≤ sizeLine; first | assumption | exact big (DOk.strLen (by assumption)) | exact big (DOk.tupLen (by assumption)) | exact big (DOk.lstLen (by assumption)) | exact big (DOw.strLen (by assumption)) | exact big (DOw.tupLen (by assumption)) | exact big (DOw.lstLen (by assumption)) | exact big (DOz.strLen (by assumption)) | exact big (DOz.tupLen (by assumption)) | exact big (DOz.lstLen (by assumption))), ?_⟩ | refine ⟨_, _, rfl, rfl, (by first | decide | (show (0 : Int) < _; decide)), ?_⟩ | refine ⟨_, _, rfl, rfl, ?_⟩ | refine eqR_str ?_ | refine eqR_int ?_ | refine neR_str ?_ | refine neR_int ?_ | refine And.intro rfl ?_ | refine addL (by first | assumption | (rw [sizeLine_eq]; omega) | (rw [sizeLine_eq]; simp; done) | (rw [sizeLine_eq]; simp only [List.length_append, List.length_cons, List.length_nil]; omega)) ?_ | refine addT (by first | assumption | (rw [sizeLine_eq]; omega) | (rw [sizeLine_eq]; simp; done) | (rw [sizeLine_eq]; simp only [List.length_append, List.length_cons, List.length_nil]; omega)) ?_ | refine And.intro (by assumption) ?_ | refine And.intro (by decide) ?_ | refine ⟨_, _, rfl, ?_⟩ | refine iteT rfl ?_ | refine iteF Bool.false_ne_true ?_)
  refine iteB (fun e => ?_) (fun e => ?_)
  · obtain ⟨la, hlm2, hlaa⟩ := hlm at' ha0 (by omega)
    have hll := hL.2.1 la hlm2
    have hga : Gd2 la.length la := ⟨hla la hlm2, Nat.le_refl _⟩
    have hg1 : Gd2 1 (" " : Str) := by decide +kernel
    have hg2 : Gd2 2 ("  " : Str) := by decide +kernel
    repeat' (first | refine ix0T ?_ | refine ix1T ?_ | refine ix2T ?_ | refine ix0L ?_ | refine ix1L ?_ | refine ix2L ?_ | refine ⟨_, rfl, ?_⟩ | refine ⟨_, _, rfl, rfl, (by show (_ : Nat) ≤ sizeLine; first | assumption | exact big (DOk.strLen (by assumption)) | exact big (DOk.tupLen (by assumption)) | exact big (DOk.lstLen (by assumption)) | exact big (DOw.strLen (by assumption)) | exact big (DOw.tupLen (by assumption)) | exact big (DOw.lstLen (by assumption)) | exact big (DOz.strLen (by assumption)) | exact big (DOz.tupLen (by assumption)) | exact big (DOz.lstLen (by assumption))), ?_⟩ | refine ⟨_, _, rfl, rfl, (by first | decide | (show (0 : Int) < _; decide)), ?_⟩ | refine ⟨_, _, rfl, rfl, ?_⟩ | refine eqR_str ?_ | refine eqR_int ?_ | refine neR_str ?_ | refine neR_int ?_ | refine And.intro rfl ?_ | refine addL (by first | assumption | (rw [sizeLine_eq]; omega) | (rw [sizeLine_eq]; simp; done) | (rw [sizeLine_eq]; simp only [List.length_append, List.length_cons, List.length_nil]; omega)) ?_ | refine addT (by first | assumption | (rw [sizeLine_eq]; omega) | (rw [sizeLine_eq]; simp; done) | (rw [sizeLine_eq]; simp only [List.length_append, List.length_cons, List.length_nil]; omega)) ?_ | refine And.intro (by assumption) ?_ | refine And.intro (by decide) ?_ | refine ⟨_, _, rfl, ?_⟩ | refine iteT rfl ?_ | refine iteF Bool.false_ne_true ?_)
    refine ⟨at', .str la, rfl, hlaa, ?_⟩
    refine ⟨_, if_pos (by have := hg1.2; rw [sizeLine_eq]; omega), ?_⟩
    repeat' (first | refine ix0T ?_ | refine ix1T ?_ | refine ix2T ?_ | refine ix0L ?_ | refine ix1L ?_ | refine ix2L ?_ | refine ⟨_, rfl, ?_⟩ | refine ⟨_, _, rfl, rfl, (by show (_ : Nat) ≤ sizeLine; first | assumption | exact big (DOk.strLen (by assumption)) | exact big (DOk.tupLen (by assumption)) | exact big (DOk.lstLen (by assumption)) | exact big (DOw.strLen (by assumption)) | exact big (DOw.tupLen (by assumption)) | exact big (DOw.lstLen (by assumption)) | exact big (DOz.strLen (by assumption)) | exact big (DOz.tupLen (by assumption)) | exact big (DOz.lstLen (by assumption))), ?_⟩ | refine ⟨_, _, rfl, rfl, (by first | decide | (show (0 : Int) < _; decide)), ?_⟩ | refine ⟨_, _, rfl, rfl, ?_⟩ | refine eqR_str ?_ | refine eqR_int ?_ | refine neR_str ?_ | refine neR_int ?_ | refine And.intro rfl ?_ | refine addL (by first | assumption | (rw [sizeLine_eq]; omega) | (rw [sizeLine_eq]; simp; done) | (rw [sizeLine_eq]; simp only [List.length_append, List.length_cons, List.length_nil]; omega)) ?_ | refine addT (by first | assumption | (rw [sizeLine_eq]; omega) | (rw [sizeLine_eq]; simp; done) | (rw [sizeLine_eq]; simp only [List.length_append, List.length_cons, List.length_nil]; omega)) ?_ | refine And.intro (by assumption) ?_ | refine And.intro (by decide) ?_ | refine ⟨_, _, rfl, ?_⟩ | refine iteT rfl ?_ | refine iteF Bool.false_ne_true ?_)
    refine ⟨at', .str la, rfl, hlaa, ?_⟩
    refine ⟨_, if_pos (by have := hg2.2; rw [sizeLine_eq]; omega), ?_⟩
    repeat' (first | refine ix0T ?_ | refine ix1T ?_ | refine ix2T ?_ | refine ix0L ?_ | refine ix1L ?_ | refine ix2L ?_ | refine ⟨_, rfl, ?_⟩ | refine ⟨_, _, rfl, rfl, (by show (_ : Nat) ≤ sizeLine; first | assumption | exact big (DOk.strLen (by assumption)) | exact big (DOk.tupLen (by assumption)) | exact big (DOk.lstLen (by assumption)) | exact big (DOw.strLen (by assumption)) | exact big (DOw.tupLen (by assumption)) | exact big (DOw.lstLen (by assumption)) | exact big (DOz.strLen (by assumption)) | exact big (DOz.tupLen (by assumption)) | exact big (DOz.lstLen (by assumption))), ?_⟩ | refine ⟨_, _, rfl, rfl, (by first | decide | (show (0 : Int) < _; decide)), ?_⟩ | refine ⟨_, _, rfl, rfl, ?_⟩ | refine eqR_str ?_ | refine eqR_int ?_ | refine neR_str ?_ | refine neR_int ?_ | refine And.intro rfl ?_ | refine addL (by first | assumption | (rw [sizeLine_eq]; omega) | (rw [sizeLine_eq]; simp; done) | (rw [sizeLine_eq]; simp only [List.length_append, List.length_cons, List.length_nil]; omega)) ?_ | refine addT (by first | assumption | (rw [sizeLine_eq]; omega) | (rw [sizeLine_eq]; simp; done) | (rw [sizeLine_eq]; simp only [List.length_append, List.length_cons, List.length_nil]; omega)) ?_ | refine And.intro (by assumption) ?_ | refine And.intro (by decide) ?_ | refine ⟨_, _, rfl, ?_⟩ | refine iteT rfl ?_ | refine iteF Bool.false_ne_true ?_)
    refine ⟨at', .str la, rfl, hlaa, ?_⟩
    repeat' (first | refine ix0T ?_ | refine ix1T ?_ | refine ix2T ?_ | refine ix0L ?_ | refine ix1L ?_ | refine ix2L ?_ | refine ⟨_, rfl, ?_⟩ | refine ⟨_, _, rfl, rfl, (by show (_ : Nat) ≤ sizeLine; first | assumption | exact big (DOk.strLen (by assumption)) | exact big (DOk.tupLen (by assumption)) | exact big (DOk.lstLen (by assumption)) | exact big (DOw.strLen (by assumption)) | exact big (DOw.tupLen (by assumption)) | exact big (DOw.lstLen (by assumption)) | exact big (DOz.strLen (by assumption)) | exact big (DOz.tupLen (by assumption)) | exact big (DOz.lstLen (by assumption))), ?_⟩ | refine ⟨_, _, rfl, rfl, (by first | decide | (show (0 : Int) < _; decide)), ?_⟩ | refine ⟨_, _, rfl, rfl, ?_⟩ | refine eqR_str ?_ | refine eqR_int ?_ | refine neR_str ?_ | refine neR_int ?_ | refine And.intro rfl ?_ | refine addL (by first | assumption | (rw [sizeLine_eq]; omega) | (rw [sizeLine_eq]; simp; done) | (rw [sizeLine_eq]; simp only [List.length_append, List.length_cons, List.length_nil]; omega)) ?_ | refine addT (by first | assumption | (rw [sizeLine_eq]; omega) | (rw [sizeLine_eq]; simp; done) | (rw [sizeLine_eq]; simp only [List.length_append, List.length_cons, List.length_nil]; omega)) ?_ | refine And.intro (by assumption) ?_ | refine And.intro (by decide) ?_ | refine ⟨_, _, rfl, ?_⟩ | refine iteT rfl ?_ | refine iteF Bool.false_ne_true ?_)
    refine ⟨_, if_pos (by rw [sizeLine_eq]; omega), ?_⟩
    repeat' (first | refine ix0T ?_ | refine ix1T ?_ | refine ix2T ?_ | refine ix0L ?_ | refine ix1L ?_ | refine ix2L ?_ | refine ⟨_, rfl, ?_⟩ | refine ⟨_, _, rfl, rfl, (by show (_ : Nat) ≤ sizeLine; first | assumption | exact big (DOk.strLen (by assumption)) | exact big (DOk.tupLen (by assumption)) | exact big (DOk.lstLen (by assumption)) | exact big (DOw.strLen (by assumption)) | exact big (DOw.tupLen (by assumption)) | exact big (DOw.lstLen (by assumption)) | exact big (DOz.strLen (by assumption)) | exact big (DOz.tupLen (by assumption)) | exact big (DOz.lstLen (by assumption))), ?_⟩ | refine ⟨_, _, rfl, rfl, (by first | decide | (show (0 : Int) < _; decide)), ?_⟩ | refine ⟨_, _, rfl, rfl, ?_⟩ | refine eqR_str ?_ | refine eqR_int ?_ | refine neR_str ?_ | refine neR_int ?_ | refine And.intro rfl ?_ | refine addL (by first | assumption | (rw [sizeLine_eq]; omega) | (rw [sizeLine_eq]; simp; done) | (rw [sizeLine_eq]; simp only [List.length_append, List.length_cons, List.length_nil]; omega)) ?_ | refine addT (by first | assumption | (rw [sizeLine_eq]; omega) | (rw [sizeLine_eq]; simp; done) | (rw [sizeLine_eq]; simp only [List.length_append, List.length_cons, List.length_nil]; omega)) ?_ | refine And.intro (by assumption) ?_ | refine And.intro (by decide) ?_ | refine ⟨_, _, rfl, ?_⟩ | refine iteT rfl ?_ | refine iteF Bool.false_ne_true ?_)
    intro r3 h30 h31
    refine ixMem (ds := [.str (" " ++ la), .str ("  " ++ la), .str (cutS la (some 1) none)]) h30 h31 fun dy hdy => ?_
    obtain ⟨y, rfl, hy⟩ : ∃ y, dy = .str y ∧ Gd2 (la.length + 2) y := by
      simp only [List.mem_cons, List.not_mem_nil, or_false] at hdy
      rcases hdy with rfl | rfl | rfl
      · have := gd_add hg1 hga
        exact ⟨_, rfl, this.1, by have := this.2; omega⟩
      · have := gd_add hg2 hga
        exact ⟨_, rfl, this.1, by have := this.2; omega⟩
      · have := gd_cut hga (some 1) none
        exact ⟨_, rfl, this.1, by have := this.2; omega⟩
    repeat' (first | refine ix0T ?_ | refine ix1T ?_ | refine ix2T ?_ | refine ix0L ?_ | refine ix1L ?_ | refine ix2L ?_ | refine ⟨_, rfl, ?_⟩ | refine ⟨_, _, rfl, rfl, (by show (_ : Nat) ≤ sizeLine; first | assumption | exact big (DOk.strLen (by assumption)) | exact big (DOk.tupLen (by assumption)) | exact big (DOk.lstLen (by assumption)) | exact big (DOw.strLen (by assumption)) | exact big (DOw.tupLen (by assumption)) | exact big (DOw.lstLen (by assumption)) | exact big (DOz.strLen (by assumption)) | exact big (DOz.tupLen (by assumption)) | exact big (DOz.lstLen (by assumption))), ?_⟩ | refine ⟨_, _, rfl, rfl, (by first | decide | (show (0 : Int) < _; decide)), ?_⟩ | refine ⟨_, _, rfl, rfl, ?_⟩ | refine eqR_str ?_ | refine eqR_int ?_ | refine neR_str ?_ | refine neR_int ?_ | refine And.intro rfl ?_ | refine addL (by first | assumption | (rw [sizeLine_eq]; omega) | (rw [sizeLine_eq]; simp; done) | (rw [sizeLine_eq]; simp only [List.length_append, List.length_cons, List.length_nil]; omega)) ?_ | refine addT (by first | assumption | (rw [sizeLine_eq]; omega) | (rw [sizeLine_eq]; simp; done) | (rw [sizeLine_eq]; simp only [List.length_append, List.length_cons, List.length_nil]; omega)) ?_ | refine And.intro (by assumption) ?_ | refine And.intro (by decide) ?_ | refine ⟨_, _, rfl, ?_⟩ | refine iteT rfl ?_ | refine iteF Bool.false_ne_true ?_)
    refine ⟨at', at'.toNat, rfl, by unfold ixN; rw [if_pos ha0, List.length_map, List.length_map, hsp, if_pos (by omega)], ?_⟩
    repeat' (first | refine ix0T ?_ | refine ix1T ?_ | refine ix2T ?_ | refine ix0L ?_ | refine ix1L ?_ | refine ix2L ?_ | refine ⟨_, rfl, ?_⟩ | refine ⟨_, _, rfl, rfl, (by show (_ : Nat) ≤ sizeLine; first | assumption | exact big (DOk.strLen (by assumption)) | exact big (DOk.tupLen (by assumption)) | exact big (DOk.lstLen (by assumption)) | exact big (DOw.strLen (by assumption)) | exact big (DOw.tupLen (by assumption)) | exact big (DOw.lstLen (by assumption)) | exact big (DOz.strLen (by assumption)) | exact big (DOz.tupLen (by assumption)) | exact big (DOz.lstLen (by assumption))), ?_⟩ | refine ⟨_, _, rfl, rfl, (by first | decide | (show (0 : Int) < _; decide)), ?_⟩ | refine ⟨_, _, rfl, rfl, ?_⟩ | refine eqR_str ?_ | refine eqR_int ?_ | refine neR_str ?_ | refine neR_int ?_ | refine And.intro rfl ?_ | refine addL (by first | assumption | (rw [sizeLine_eq]; omega) | (rw [sizeLine_eq]; simp; done) | (rw [sizeLine_eq]; simp only [List.length_append, List.length_cons, List.length_nil]; omega)) ?_ | refine addT (by first | assumption | (rw [sizeLine_eq]; omega) | (rw [sizeLine_eq]; simp; done) | (rw [sizeLine_eq]; simp only [List.length_append, List.length_cons, List.length_nil]; omega)) ?_ | refine And.intro (by assumption) ?_ | refine And.intro (by decide) ?_ | refine ⟨_, _, rfl, ?_⟩ | refine iteT rfl ?_ | refine iteF Bool.false_ne_true ?_)
    have hy2 := hy.2
    have hw : W ((linesOf z).set at'.toNat y) ≤ 2 * z.length + 12 := by
      have := W_set y (linesOf z) at'.toNat
      omega
    refine ⟨(linesOf z).set at'.toNat y, ?_, join_sum (Nat.le_trans hw (by omega)), ?_⟩
    · show PyData.list (eraseAll ((((linesOf z).map PyData.str).map O.dat).set at'.toNat (O.dat (.str y)))) = _
      rw [← List.map_set, ← List.map_set, era_dat]
    refine h8 _ hw fun x hx => ?_
    rcases List.mem_or_eq_of_mem_set hx with hx | rfl
    · exact hla x hx
    · exact hy.1
  repeat' (first | refine ix0T ?_ | refine ix1T ?_ | refine ix2T ?_ | refine ix0L ?_ | refine ix1L ?_ | refine ix2L ?_ | refine ⟨_, rfl, ?_⟩ | refine ⟨_, _, rfl, rfl, (by show (_ : Nat) ≤ sizeLine; first | assumption | exact big (DOk.strLen (by assumption)) | exact big (DOk.tupLen (by assumption)) | exact big (DOk.lstLen (by assumption)) | exact big (DOw.strLen (by assumption)) | exact big (DOw.tupLen (by assumption)) | exact big (DOw.lstLen (by assumption)) | exact big (DOz.strLen (by assumption)) | exact big (DOz.tupLen (by assumption)) | exact big (DOz.lstLen (by assumption))), ?_⟩ | refine ⟨_, _, rfl, rfl, (by first | decide | (show (0 : Int) < _; decide)), ?_⟩ | refine ⟨_, _, rfl, rfl, ?_⟩ | refine eqR_str ?_ | refine eqR_int ?_ | refine neR_str ?_ | refine neR_int ?_ | refine And.intro rfl ?_ | refine addL (by first | assumption | (rw [sizeLine_eq]; omega) | (rw [sizeLine_eq]; simp; done) | (rw [sizeLine_eq]; simp only [List.length_append, List.length_cons, List.length_nil]; omega)) ?_ | refine addT (by first | assumption | (rw [sizeLine_eq]; omega) | (rw [sizeLine_eq]; simp; done) | (rw [sizeLine_eq]; simp only [List.length_append, List.length_cons, List.length_nil]; omega)) ?_ | refine And.intro (by assumption) ?_ | refine And.intro (by decide) ?_ | refine ⟨_, _, rfl, ?_⟩ | refine iteT rfl ?_ | refine iteF Bool.false_ne_true ?_)
  intro sr hs0 hs1
  obtain ⟨c, hc, hcm⟩ := at_mem (xs := (" -0a4\n@ZA\t" : Str).cps.toList) hs0 (by
    have : (" -0a4\n@ZA\t" : Str).cps.toList.length = 10 := by decide +kernel
    omega)
  have gs : Gd2 1 (signS c) := by
    have h1 : ∀ c ∈ (" -0a4\n@ZA\t" : Str).cps.toList, c < 128 := by decide +kernel
    exact ⟨asc_of fun x m => by
      have : x = c := by simpa [signS] using m
      rw [this]
      exact h1 c hcm, by simp [signS, Str.length]⟩
  refine ⟨.str (signS c), by show (if (" -0a4\n@ZA\t" : Str).length ≤ sizeLine then (atI (" -0a4\n@ZA\t" : Str).cps.toList sr).map fun c => PyData.str ⟨#[c]⟩ else none) = _; rw [if_pos (by rw [sizeLine_eq]; decide +kernel), hc]; rfl, ?_⟩
  have zb : ∀ lo hi, (cutS z lo hi).length ≤ z.length := fun lo hi => cutS_length z lo hi
  have hsl : (signS c).length ≤ 1 := gs.2
  repeat' (first | refine ix0T ?_ | refine ix1T ?_ | refine ix2T ?_ | refine ix0L ?_ | refine ix1L ?_ | refine ix2L ?_ | refine ⟨_, rfl, ?_⟩ | refine ⟨_, _, rfl, rfl, (by show (_ : Nat) ≤ sizeLine; first | assumption | exact big (DOk.strLen (by assumption)) | exact big (DOk.tupLen (by assumption)) | exact big (DOk.lstLen (by assumption)) | exact big (DOw.strLen (by assumption)) | exact big (DOw.tupLen (by assumption)) | exact big (DOw.lstLen (by assumption)) | exact big (DOz.strLen (by assumption)) | exact big (DOz.tupLen (by assumption)) | exact big (DOz.lstLen (by assumption))), ?_⟩ | refine ⟨_, _, rfl, rfl, (by first | decide | (show (0 : Int) < _; decide)), ?_⟩ | refine ⟨_, _, rfl, rfl, ?_⟩ | refine eqR_str ?_ | refine eqR_int ?_ | refine neR_str ?_ | refine neR_int ?_ | refine And.intro rfl ?_ | refine addL (by first | assumption | (rw [sizeLine_eq]; omega) | (rw [sizeLine_eq]; simp; done) | (rw [sizeLine_eq]; simp only [List.length_append, List.length_cons, List.length_nil]; omega)) ?_ | refine addT (by first | assumption | (rw [sizeLine_eq]; omega) | (rw [sizeLine_eq]; simp; done) | (rw [sizeLine_eq]; simp only [List.length_append, List.length_cons, List.length_nil]; omega)) ?_ | refine And.intro (by assumption) ?_ | refine And.intro (by decide) ?_ | refine ⟨_, _, rfl, ?_⟩ | refine iteT rfl ?_ | refine iteF Bool.false_ne_true ?_)
  refine iteB (fun e => ?_) (fun e => ?_)
  · repeat' (first | refine ix0T ?_ | refine ix1T ?_ | refine ix2T ?_ | refine ix0L ?_ | refine ix1L ?_ | refine ix2L ?_ | refine ⟨_, rfl, ?_⟩ | refine ⟨_, _, rfl, rfl, (by show (_ : Nat) ≤ sizeLine; first | assumption | exact big (DOk.strLen (by assumption)) | exact big (DOk.tupLen (by assumption)) | exact big (DOk.lstLen (by assumption)) | exact big (DOw.strLen (by assumption)) | exact big (DOw.tupLen (by assumption)) | exact big (DOw.lstLen (by assumption)) | exact big (DOz.strLen (by assumption)) | exact big (DOz.tupLen (by assumption)) | exact big (DOz.lstLen (by assumption))), ?_⟩ | refine ⟨_, _, rfl, rfl, (by first | decide | (show (0 : Int) < _; decide)), ?_⟩ | refine ⟨_, _, rfl, rfl, ?_⟩ | refine eqR_str ?_ | refine eqR_int ?_ | refine neR_str ?_ | refine neR_int ?_ | refine And.intro rfl ?_ | refine addL (by first | assumption | (rw [sizeLine_eq]; omega) | (rw [sizeLine_eq]; simp; done) | (rw [sizeLine_eq]; simp only [List.length_append, List.length_cons, List.length_nil]; omega)) ?_ | refine addT (by first | assumption | (rw [sizeLine_eq]; omega) | (rw [sizeLine_eq]; simp; done) | (rw [sizeLine_eq]; simp only [List.length_append, List.length_cons, List.length_nil]; omega)) ?_ | refine And.intro (by assumption) ?_ | refine And.intro (by decide) ?_ | refine ⟨_, _, rfl, ?_⟩ | refine iteT rfl ?_ | refine iteF Bool.false_ne_true ?_)
    refine ⟨_, if_pos hz1, ?_⟩
    repeat' (first | refine ix0T ?_ | refine ix1T ?_ | refine ix2T ?_ | refine ix0L ?_ | refine ix1L ?_ | refine ix2L ?_ | refine ⟨_, rfl, ?_⟩ | refine ⟨_, _, rfl, rfl, (by show (_ : Nat) ≤ sizeLine; first | assumption | exact big (DOk.strLen (by assumption)) | exact big (DOk.tupLen (by assumption)) | exact big (DOk.lstLen (by assumption)) | exact big (DOw.strLen (by assumption)) | exact big (DOw.tupLen (by assumption)) | exact big (DOw.lstLen (by assumption)) | exact big (DOz.strLen (by assumption)) | exact big (DOz.tupLen (by assumption)) | exact big (DOz.lstLen (by assumption))), ?_⟩ | refine ⟨_, _, rfl, rfl, (by first | decide | (show (0 : Int) < _; decide)), ?_⟩ | refine ⟨_, _, rfl, rfl, ?_⟩ | refine eqR_str ?_ | refine eqR_int ?_ | refine neR_str ?_ | refine neR_int ?_ | refine And.intro rfl ?_ | refine addL (by first | assumption | (rw [sizeLine_eq]; omega) | (rw [sizeLine_eq]; simp; done) | (rw [sizeLine_eq]; simp only [List.length_append, List.length_cons, List.length_nil]; omega)) ?_ | refine addT (by first | assumption | (rw [sizeLine_eq]; omega) | (rw [sizeLine_eq]; simp; done) | (rw [sizeLine_eq]; simp only [List.length_append, List.length_cons, List.length_nil]; omega)) ?_ | refine And.intro (by assumption) ?_ | refine And.intro (by decide) ?_ | refine ⟨_, _, rfl, ?_⟩ | refine iteT rfl ?_ | refine iteF Bool.false_ne_true ?_)
    refine ⟨_, if_pos (by have := zb none (some kk); rw [sizeLine_eq]; omega), ?_⟩
    repeat' (first | refine ix0T ?_ | refine ix1T ?_ | refine ix2T ?_ | refine ix0L ?_ | refine ix1L ?_ | refine ix2L ?_ | refine ⟨_, rfl, ?_⟩ | refine ⟨_, _, rfl, rfl, (by show (_ : Nat) ≤ sizeLine; first | assumption | exact big (DOk.strLen (by assumption)) | exact big (DOk.tupLen (by assumption)) | exact big (DOk.lstLen (by assumption)) | exact big (DOw.strLen (by assumption)) | exact big (DOw.tupLen (by assumption)) | exact big (DOw.lstLen (by assumption)) | exact big (DOz.strLen (by assumption)) | exact big (DOz.tupLen (by assumption)) | exact big (DOz.lstLen (by assumption))), ?_⟩ | refine ⟨_, _, rfl, rfl, (by first | decide | (show (0 : Int) < _; decide)), ?_⟩ | refine ⟨_, _, rfl, rfl, ?_⟩ | refine eqR_str ?_ | refine eqR_int ?_ | refine neR_str ?_ | refine neR_int ?_ | refine And.intro rfl ?_ | refine addL (by first | assumption | (rw [sizeLine_eq]; omega) | (rw [sizeLine_eq]; simp; done) | (rw [sizeLine_eq]; simp only [List.length_append, List.length_cons, List.length_nil]; omega)) ?_ | refine addT (by first | assumption | (rw [sizeLine_eq]; omega) | (rw [sizeLine_eq]; simp; done) | (rw [sizeLine_eq]; simp only [List.length_append, List.length_cons, List.length_nil]; omega)) ?_ | refine And.intro (by assumption) ?_ | refine And.intro (by decide) ?_ | refine ⟨_, _, rfl, ?_⟩ | refine iteT rfl ?_ | refine iteF Bool.false_ne_true ?_)
    refine ⟨_, if_pos hz1, ?_⟩
    repeat' (first | refine ix0T ?_ | refine ix1T ?_ | refine ix2T ?_ | refine ix0L ?_ | refine ix1L ?_ | refine ix2L ?_ | refine ⟨_, rfl, ?_⟩ | refine ⟨_, _, rfl, rfl, (by show (_ : Nat) ≤ sizeLine; first | assumption | exact big (DOk.strLen (by assumption)) | exact big (DOk.tupLen (by assumption)) | exact big (DOk.lstLen (by assumption)) | exact big (DOw.strLen (by assumption)) | exact big (DOw.tupLen (by assumption)) | exact big (DOw.lstLen (by assumption)) | exact big (DOz.strLen (by assumption)) | exact big (DOz.tupLen (by assumption)) | exact big (DOz.lstLen (by assumption))), ?_⟩ | refine ⟨_, _, rfl, rfl, (by first | decide | (show (0 : Int) < _; decide)), ?_⟩ | refine ⟨_, _, rfl, rfl, ?_⟩ | refine eqR_str ?_ | refine eqR_int ?_ | refine neR_str ?_ | refine neR_int ?_ | refine And.intro rfl ?_ | refine addL (by first | assumption | (rw [sizeLine_eq]; omega) | (rw [sizeLine_eq]; simp; done) | (rw [sizeLine_eq]; simp only [List.length_append, List.length_cons, List.length_nil]; omega)) ?_ | refine addT (by first | assumption | (rw [sizeLine_eq]; omega) | (rw [sizeLine_eq]; simp; done) | (rw [sizeLine_eq]; simp only [List.length_append, List.length_cons, List.length_nil]; omega)) ?_ | refine And.intro (by assumption) ?_ | refine And.intro (by decide) ?_ | refine ⟨_, _, rfl, ?_⟩ | refine iteT rfl ?_ | refine iteF Bool.false_ne_true ?_)
    refine ⟨_, if_pos (by have := zb none (some kk); have := zb (some kk) none; show (cutS z none (some kk) ++ signS c).length + _ ≤ _; rw [Str.length_append, sizeLine_eq]; omega), ?_⟩
    exact qq (gd_add (gd_add (gd_cut g0 _ _) gs) (gd_cut g0 _ _)) (by omega)
  repeat' (first | refine ix0T ?_ | refine ix1T ?_ | refine ix2T ?_ | refine ix0L ?_ | refine ix1L ?_ | refine ix2L ?_ | refine ⟨_, rfl, ?_⟩ | refine ⟨_, _, rfl, rfl, (by show (_ : Nat) ≤ sizeLine; first | assumption | exact big (DOk.strLen (by assumption)) | exact big (DOk.tupLen (by assumption)) | exact big (DOk.lstLen (by assumption)) | exact big (DOw.strLen (by assumption)) | exact big (DOw.tupLen (by assumption)) | exact big (DOw.lstLen (by assumption)) | exact big (DOz.strLen (by assumption)) | exact big (DOz.tupLen (by assumption)) | exact big (DOz.lstLen (by assumption))), ?_⟩ | refine ⟨_, _, rfl, rfl, (by first | decide | (show (0 : Int) < _; decide)), ?_⟩ | refine ⟨_, _, rfl, rfl, ?_⟩ | refine eqR_str ?_ | refine eqR_int ?_ | refine neR_str ?_ | refine neR_int ?_ | refine And.intro rfl ?_ | refine addL (by first | assumption | (rw [sizeLine_eq]; omega) | (rw [sizeLine_eq]; simp; done) | (rw [sizeLine_eq]; simp only [List.length_append, List.length_cons, List.length_nil]; omega)) ?_ | refine addT (by first | assumption | (rw [sizeLine_eq]; omega) | (rw [sizeLine_eq]; simp; done) | (rw [sizeLine_eq]; simp only [List.length_append, List.length_cons, List.length_nil]; omega)) ?_ | refine And.intro (by assumption) ?_ | refine And.intro (by decide) ?_ | refine ⟨_, _, rfl, ?_⟩ | refine iteT rfl ?_ | refine iteF Bool.false_ne_true ?_)
  refine iteB (fun e => ?_) (fun e => ?_)
  · repeat' (first | refine ix0T ?_ | refine ix1T ?_ | refine ix2T ?_ | refine ix0L ?_ | refine ix1L ?_ | refine ix2L ?_ | refine ⟨_, rfl, ?_⟩ | refine ⟨_, _, rfl, rfl, (by show (_ : Nat) ≤ sizeLine; first | assumption | exact big (DOk.strLen (by assumption)) | exact big (DOk.tupLen (by assumption)) | exact big (DOk.lstLen (by assumption)) | exact big (DOw.strLen (by assumption)) | exact big (DOw.tupLen (by assumption)) | exact big (DOw.lstLen (by assumption)) | exact big (DOz.strLen (by assumption)) | exact big (DOz.tupLen (by assumption)) | exact big (DOz.lstLen (by assumption))), ?_⟩ | refine ⟨_, _, rfl, rfl, (by first | decide | (show (0 : Int) < _; decide)), ?_⟩ | refine ⟨_, _, rfl, rfl, ?_⟩ | refine eqR_str ?_ | refine eqR_int ?_ | refine neR_str ?_ | refine neR_int ?_ | refine And.intro rfl ?_ | refine addL (by first | assumption | (rw [sizeLine_eq]; omega) | (rw [sizeLine_eq]; simp; done) | (rw [sizeLine_eq]; simp only [List.length_append, List.length_cons, List.length_nil]; omega)) ?_ | refine addT (by first | assumption | (rw [sizeLine_eq]; omega) | (rw [sizeLine_eq]; simp; done) | (rw [sizeLine_eq]; simp only [List.length_append, List.length_cons, List.length_nil]; omega)) ?_ | refine And.intro (by assumption) ?_ | refine And.intro (by decide) ?_ | refine ⟨_, _, rfl, ?_⟩ | refine iteT rfl ?_ | refine iteF Bool.false_ne_true ?_)
    refine ⟨_, if_pos hz1, ?_⟩
    repeat' (first | refine ix0T ?_ | refine ix1T ?_ | refine ix2T ?_ | refine ix0L ?_ | refine ix1L ?_ | refine ix2L ?_ | refine ⟨_, rfl, ?_⟩ | refine ⟨_, _, rfl, rfl, (by show (_ : Nat) ≤ sizeLine; first | assumption | exact big (DOk.strLen (by assumption)) | exact big (DOk.tupLen (by assumption)) | exact big (DOk.lstLen (by assumption)) | exact big (DOw.strLen (by assumption)) | exact big (DOw.tupLen (by assumption)) | exact big (DOw.lstLen (by assumption)) | exact big (DOz.strLen (by assumption)) | exact big (DOz.tupLen (by assumption)) | exact big (DOz.lstLen (by assumption))), ?_⟩ | refine ⟨_, _, rfl, rfl, (by first | decide | (show (0 : Int) < _; decide)), ?_⟩ | refine ⟨_, _, rfl, rfl, ?_⟩ | refine eqR_str ?_ | refine eqR_int ?_ | refine neR_str ?_ | refine neR_int ?_ | refine And.intro rfl ?_ | refine addL (by first | assumption | (rw [sizeLine_eq]; omega) | (rw [sizeLine_eq]; simp; done) | (rw [sizeLine_eq]; simp only [List.length_append, List.length_cons, List.length_nil]; omega)) ?_ | refine addT (by first | assumption | (rw [sizeLine_eq]; omega) | (rw [sizeLine_eq]; simp; done) | (rw [sizeLine_eq]; simp only [List.length_append, List.length_cons, List.length_nil]; omega)) ?_ | refine And.intro (by assumption) ?_ | refine And.intro (by decide) ?_ | refine ⟨_, _, rfl, ?_⟩ | refine iteT rfl ?_ | refine iteF Bool.false_ne_true ?_)
    refine ⟨_, if_pos hz1, ?_⟩
    repeat' (first | refine ix0T ?_ | refine ix1T ?_ | refine ix2T ?_ | refine ix0L ?_ | refine ix1L ?_ | refine ix2L ?_ | refine ⟨_, rfl, ?_⟩ | refine ⟨_, _, rfl, rfl, (by show (_ : Nat) ≤ sizeLine; first | assumption | exact big (DOk.strLen (by assumption)) | exact big (DOk.tupLen (by assumption)) | exact big (DOk.lstLen (by assumption)) | exact big (DOw.strLen (by assumption)) | exact big (DOw.tupLen (by assumption)) | exact big (DOw.lstLen (by assumption)) | exact big (DOz.strLen (by assumption)) | exact big (DOz.tupLen (by assumption)) | exact big (DOz.lstLen (by assumption))), ?_⟩ | refine ⟨_, _, rfl, rfl, (by first | decide | (show (0 : Int) < _; decide)), ?_⟩ | refine ⟨_, _, rfl, rfl, ?_⟩ | refine eqR_str ?_ | refine eqR_int ?_ | refine neR_str ?_ | refine neR_int ?_ | refine And.intro rfl ?_ | refine addL (by first | assumption | (rw [sizeLine_eq]; omega) | (rw [sizeLine_eq]; simp; done) | (rw [sizeLine_eq]; simp only [List.length_append, List.length_cons, List.length_nil]; omega)) ?_ | refine addT (by first | assumption | (rw [sizeLine_eq]; omega) | (rw [sizeLine_eq]; simp; done) | (rw [sizeLine_eq]; simp only [List.length_append, List.length_cons, List.length_nil]; omega)) ?_ | refine And.intro (by assumption) ?_ | refine And.intro (by decide) ?_ | refine ⟨_, _, rfl, ?_⟩ | refine iteT rfl ?_ | refine iteF Bool.false_ne_true ?_)
    refine ⟨_, if_pos (by have := zb none (some kk); have := zb (some (kk + 1)) none; rw [sizeLine_eq]; omega), ?_⟩
    exact qq (gd_add (gd_cut g0 _ _) (gd_cut g0 _ _)) (by omega)
  · repeat' (first | refine ix0T ?_ | refine ix1T ?_ | refine ix2T ?_ | refine ix0L ?_ | refine ix1L ?_ | refine ix2L ?_ | refine ⟨_, rfl, ?_⟩ | refine ⟨_, _, rfl, rfl, (by show (_ : Nat) ≤ sizeLine; first | assumption | exact big (DOk.strLen (by assumption)) | exact big (DOk.tupLen (by assumption)) | exact big (DOk.lstLen (by assumption)) | exact big (DOw.strLen (by assumption)) | exact big (DOw.tupLen (by assumption)) | exact big (DOw.lstLen (by assumption)) | exact big (DOz.strLen (by assumption)) | exact big (DOz.tupLen (by assumption)) | exact big (DOz.lstLen (by assumption))), ?_⟩ | refine ⟨_, _, rfl, rfl, (by first | decide | (show (0 : Int) < _; decide)), ?_⟩ | refine ⟨_, _, rfl, rfl, ?_⟩ | refine eqR_str ?_ | refine eqR_int ?_ | refine neR_str ?_ | refine neR_int ?_ | refine And.intro rfl ?_ | refine addL (by first | assumption | (rw [sizeLine_eq]; omega) | (rw [sizeLine_eq]; simp; done) | (rw [sizeLine_eq]; simp only [List.length_append, List.length_cons, List.length_nil]; omega)) ?_ | refine addT (by first | assumption | (rw [sizeLine_eq]; omega) | (rw [sizeLine_eq]; simp; done) | (rw [sizeLine_eq]; simp only [List.length_append, List.length_cons, List.length_nil]; omega)) ?_ | refine And.intro (by assumption) ?_ | refine And.intro (by decide) ?_ | refine ⟨_, _, rfl, ?_⟩ | refine iteT rfl ?_ | refine iteF Bool.false_ne_true ?_)
    refine ⟨_, if_pos hz1, ?_⟩
    repeat' (first | refine ix0T ?_ | refine ix1T ?_ | refine ix2T ?_ | refine ix0L ?_ | refine ix1L ?_ | refine ix2L ?_ | refine ⟨_, rfl, ?_⟩ | refine ⟨_, _, rfl, rfl, (by show (_ : Nat) ≤ sizeLine; first | assumption | exact big (DOk.strLen (by assumption)) | exact big (DOk.tupLen (by assumption)) | exact big (DOk.lstLen (by assumption)) | exact big (DOw.strLen (by assumption)) | exact big (DOw.tupLen (by assumption)) | exact big (DOw.lstLen (by assumption)) | exact big (DOz.strLen (by assumption)) | exact big (DOz.tupLen (by assumption)) | exact big (DOz.lstLen (by assumption))), ?_⟩ | refine ⟨_, _, rfl, rfl, (by first | decide | (show (0 : Int) < _; decide)), ?_⟩ | refine ⟨_, _, rfl, rfl, ?_⟩ | refine eqR_str ?_ | refine eqR_int ?_ | refine neR_str ?_ | refine neR_int ?_ | refine And.intro rfl ?_ | refine addL (by first | assumption | (rw [sizeLine_eq]; omega) | (rw [sizeLine_eq]; simp; done) | (rw [sizeLine_eq]; simp only [List.length_append, List.length_cons, List.length_nil]; omega)) ?_ | refine addT (by first | assumption | (rw [sizeLine_eq]; omega) | (rw [sizeLine_eq]; simp; done) | (rw [sizeLine_eq]; simp only [List.length_append, List.length_cons, List.length_nil]; omega)) ?_ | refine And.intro (by assumption) ?_ | refine And.intro (by decide) ?_ | refine ⟨_, _, rfl, ?_⟩ | refine iteT rfl ?_ | refine iteF Bool.false_ne_true ?_)
    refine ⟨_, if_pos (by have := zb none (some kk); rw [sizeLine_eq]; omega), ?_⟩
    repeat' (first | refine ix0T ?_ | refine ix1T ?_ | refine ix2T ?_ | refine ix0L ?_ | refine ix1L ?_ | refine ix2L ?_ | refine ⟨_, rfl, ?_⟩ | refine ⟨_, _, rfl, rfl, (by show (_ : Nat) ≤ sizeLine; first | assumption | exact big (DOk.strLen (by assumption)) | exact big (DOk.tupLen (by assumption)) | exact big (DOk.lstLen (by assumption)) | exact big (DOw.strLen (by assumption)) | exact big (DOw.tupLen (by assumption)) | exact big (DOw.lstLen (by assumption)) | exact big (DOz.strLen (by assumption)) | exact big (DOz.tupLen (by assumption)) | exact big (DOz.lstLen (by assumption))), ?_⟩ | refine ⟨_, _, rfl, rfl, (by first | decide | (show (0 : Int) < _; decide)), ?_⟩ | refine ⟨_, _, rfl, rfl, ?_⟩ | refine eqR_str ?_ | refine eqR_int ?_ | refine neR_str ?_ | refine neR_int ?_ | refine And.intro rfl ?_ | refine addL (by first | assumption | (rw [sizeLine_eq]; omega) | (rw [sizeLine_eq]; simp; done) | (rw [sizeLine_eq]; simp only [List.length_append, List.length_cons, List.length_nil]; omega)) ?_ | refine addT (by first | assumption | (rw [sizeLine_eq]; omega) | (rw [sizeLine_eq]; simp; done) | (rw [sizeLine_eq]; simp only [List.length_append, List.length_cons, List.length_nil]; omega)) ?_ | refine And.intro (by assumption) ?_ | refine And.intro (by decide) ?_ | refine ⟨_, _, rfl, ?_⟩ | refine iteT rfl ?_ | refine iteF Bool.false_ne_true ?_)
    refine ⟨_, if_pos hz1, ?_⟩
    repeat' (first | refine ix0T ?_ | refine ix1T ?_ | refine ix2T ?_ | refine ix0L ?_ | refine ix1L ?_ | refine ix2L ?_ | refine ⟨_, rfl, ?_⟩ | refine ⟨_, _, rfl, rfl, (by show (_ : Nat) ≤ sizeLine; first | assumption | exact big (DOk.strLen (by assumption)) | exact big (DOk.tupLen (by assumption)) | exact big (DOk.lstLen (by assumption)) | exact big (DOw.strLen (by assumption)) | exact big (DOw.tupLen (by assumption)) | exact big (DOw.lstLen (by assumption)) | exact big (DOz.strLen (by assumption)) | exact big (DOz.tupLen (by assumption)) | exact big (DOz.lstLen (by assumption))), ?_⟩ | refine ⟨_, _, rfl, rfl, (by first | decide | (show (0 : Int) < _; decide)), ?_⟩ | refine ⟨_, _, rfl, rfl, ?_⟩ | refine eqR_str ?_ | refine eqR_int ?_ | refine neR_str ?_ | refine neR_int ?_ | refine And.intro rfl ?_ | refine addL (by first | assumption | (rw [sizeLine_eq]; omega) | (rw [sizeLine_eq]; simp; done) | (rw [sizeLine_eq]; simp only [List.length_append, List.length_cons, List.length_nil]; omega)) ?_ | refine addT (by first | assumption | (rw [sizeLine_eq]; omega) | (rw [sizeLine_eq]; simp; done) | (rw [sizeLine_eq]; simp only [List.length_append, List.length_cons, List.length_nil]; omega)) ?_ | refine And.intro (by assumption) ?_ | refine And.intro (by decide) ?_ | refine ⟨_, _, rfl, ?_⟩ | refine iteT rfl ?_ | refine iteF Bool.false_ne_true ?_)
    refine ⟨_, if_pos (by have := zb none (some kk); have := zb (some (kk + 1)) none; show (cutS z none (some kk) ++ signS c).length + _ ≤ _; rw [Str.length_append, sizeLine_eq]; omega), ?_⟩
    exact qq (gd_add (gd_add (gd_cut g0 _ _) gs) (gd_cut g0 _ _)) (by omega)
end
end K96
set_option Elab.async false
set_option linter.all false
set_option maxRecDepth 100000
set_option maxHeartbeats 8000000
set_option pp.maxSteps 400
/-! K96q: the law -/
namespace K96
open PySem PySem.Spec PyProof.Rows L2 GL DL
def spLaw (K : PySem.W.Frag) : Sp := fun vs H Q _ => ∃ (a : Addr) (ns : List Int), vs = [.ref a] ∧ SqL K H a (ns.map V.int) ∧ ns.length ≤ 63 ∧ ∀ H', Q (.bl true) H'
abbrev scT : Scope := { kind := .function, names := [(".0", .local), ("_law_step", .local)], isGenerator := false, isCoroutine := false }
def lineT (r : List PyData) : Str := Txt.join " " (r.map strP) ++ "\n"
def textT (rs : List (List PyData)) : Str := Txt.join "" (rs.map lineT)
theorem str_asc {d : PyData} (h : PartA d) : asc (strP d) = true := by
  cases d with
  | int i =>
    have e : i = ((i.toNat : Nat) : Int) := (Int.toNat_of_nonneg h.1).symm
    refine asc_of fun c m => ?_
    have m2 : c ∈ TL.tl (Str.ofString (toString i)) := m
    rw [e, TL.tl_num] at m2
    have := TL.numL_digits _ c m2
    omega
  | str z => exact h
  | _ => exact h.elim
theorem str_some {d : PyData} (h : PartA d) : DL.strOf d = some (strP d) := by
  cases d with
  | int i =>
    refine if_pos (log_small ?_)
    have h2 := h.2
    have : (10 : Int) ^ 39 < 10 ^ 40 := by decide
    have h1 := h.1
    have h3 : ((i.natAbs : Nat) : Int) < ((10 ^ 40 : Nat) : Int) := by
      rw [Int.natAbs_of_nonneg h1]
      have : ((10 ^ 40 : Nat) : Int) = 10 ^ 40 := by decide
      omega
    exact_mod_cast h3
  | str z => rfl
  | _ => exact h.elim
theorem row_sum {r : List PyData} (h : RowA r) : ((r.map strP).map fun z => z.length).sum + (r.map strP).length ≤ 60 := by
  rw [List.map_map, List.length_map]
  exact h.2
theorem line_good {r : List PyData} (h : RowA r) : Gd2 60 (Txt.join " " (r.map strP)) ∧ Gd2 61 (lineT r) := by
  have h1 := join_len " " (r.map strP)
  have e : (" " : Str).length = 1 := by decide +kernel
  rw [e, Nat.mul_one] at h1
  have h2 : Gd2 60 (Txt.join " " (r.map strP)) := ⟨join_asc (by decide +kernel) fun z m => by
    obtain ⟨d, hd, rfl⟩ := List.mem_map.mp m
    exact str_asc (h.1 d hd), Nat.le_trans h1 (row_sum h)⟩
  exact ⟨h2, gd_add h2 (by decide +kernel : Gd2 1 ("\n" : Str))⟩
theorem lines_sum {rs : List (List PyData)} (h : ∀ r ∈ rs, RowA r) : ((rs.map lineT).map fun z => z.length).sum ≤ 61 * rs.length := by
  induction rs with
  | nil => exact Nat.zero_le _
  | cons r rs ih =>
    have h1 := ih fun x m => h x (List.mem_cons_of_mem _ m)
    have h2 := (line_good (h r (List.mem_cons_self ..))).2.2
    simp only [List.map_cons, List.sum_cons, List.length_cons] at h1 ⊢
    omega
theorem text_good {rs : List (List PyData)} (h : ∀ r ∈ rs, RowA r) (k : rs.length ≤ 30) : Gd2 1830 (textT rs) := by
  have h1 := join_len "" (rs.map lineT)
  have e : ("" : Str).length = 0 := by decide +kernel
  rw [e, Nat.mul_zero, Nat.add_zero] at h1
  have h2 := lines_sum h
  exact ⟨join_asc (by decide +kernel) fun z m => by
    obtain ⟨r, hr, rfl⟩ := List.mem_map.mp m
    exact (line_good (h r hr)).2.1, by show (Txt.join "" (rs.map lineT)).length ≤ _; omega⟩
section
variable {P : Program} {w : World} {K : PySem.W.Frag} {mg : Str → Option Value} {base : Heap}
-- ["_law_script", "_law_bag_here", "_law_turn", "_law_run_here", "_law_thing", "_law_again", "_law_more", "_law_odd", "_law_mine", "_law_told_here", "_law_step", "_law_part"]
theorem sc_law : FnScope ["_law_script", "_law_bag_here", "_law_turn", "_law_run_here", "_law_thing", "_law_again", "_law_more", "_law_odd", "_law_mine", "_law_told_here", "_law_step", "_law_part"] ["_law_script"] (defScope s_law) := ⟨rfl, rfl, rfl, by decide +kernel, rfl, by decide +kernel, by decide +kernel⟩
theorem ok_law {f : Addr} {fd : FuncData} (F : Fun K "law" "law" s_law f fd) (T : Txt0 mg) (GB : Cl P w K mg base 1 "_law_bag" (spBag K))
    (c_take : ClG P w K mg base 1 "_law_take" (spF K S_take)) (c_labels : ClG P w K mg base 2 "_law_labels" (spF K S_labels)) (c_run : ClG P w K mg base 3 "_law_run" (spF K S_run)) (c_sp : ClG P w K mg base 2 "_law_spoilt" (spF K S_spoilt))
    (c_runof : ClG P w K mg base 3 "_law_run_of" (spF K spRunOf)) (c_told : ClG P w K mg base 6 "_law_told" (spF K S_told)) (c_alike : ClG P w K mg base 1 "_law_alike" (spF K S_alike)) :
    FnG P w K mg base 7 f fd ["_law_script"] (spLaw K) := by
  refine okG F sc_law (fun vs H Q E h => ?_) (fun cdv A out s H vs Q E hG hr h => ?_)
  · obtain ⟨a, ns, rfl, _⟩ := h
    rfl
  · obtain ⟨a, ns, rfl, hS, hlen, q⟩ := h
    have hu := units_ofx hr
    have hu6 := units_of hr
    refine ⟨_, C8.pss_cut (ps_set (i := 1) sc_law.nd rfl (.inl rfl) (pe_cl GB hr (by decide) (by rfl) (pa_cons (pv 0) pa_nil))) (DSs.pss (dss_cons (ds_for PassesOwn.never rfl (di_range1 (by rfl) T.m_range (da_cons de_int da_nil)) (dg_name (pg_name (i := 2) sc_law.nd rfl (.inl rfl)))
(dss_cons (ds_set (i := 3) sc_law.nd rfl (.inl rfl) (do_call rfl c_run hG hr (by omega) (by rfl) (dr_bag (pv 1) (dr_cons (DO.d (do_call rfl c_labels hG hr (by omega) (by rfl) (dr_bag (pv 1) (dr_cons de_int dr_nil)))) dr_nil))))
(dss_cut (ds_frzAt 3 (ds_set (i := 4) sc_law.nd rfl (.inl rfl) (DE.o (de_join rfl de_str (DO.d (do_lc (own := [("_law_step", 10)]) rfl sc_law.nd (di_any rfl (de_v (pv 3))) (blkOk_by (N := ["_law_script", "_law_bag_here", "_law_turn", "_law_run_here", "_law_thing", "_law_again", "_law_more", "_law_odd", "_law_mine", "_law_told_here", "_law_step", "_law_part"]) (sc := defScope s_law) (by decide +kernel)) (fun _ _ _ _ _ => (dg_name (pg_name (i := 10) sc_law.nd rfl (.inl rfl)))) (fun _ _ _ _ _ => dts_nil) (fun _ _ _ _ _ => (do_add rfl (de_join rfl de_str (DO.d (do_lc (own := [("_law_part", 11)]) rfl sc_law.nd (di_any rfl (de_v (pv 10))) (blkOk_by (N := ["_law_script", "_law_bag_here", "_law_turn", "_law_run_here", "_law_thing", "_law_again", "_law_more", "_law_odd", "_law_mine", "_law_told_here", "_law_step", "_law_part"]) (sc := scT) (by decide +kernel)) (fun _ _ _ _ _ => (dg_name (pg_name (i := 11) sc_law.nd rfl (.inl rfl)))) (fun _ _ _ _ _ => dts_nil) (fun _ _ _ _ _ => (DE.o (de_strX T.m_str (de_v (pv 11)))))))) de_str))))))))
(dss_cut (ds_for PassesOwn.never rfl (di_range1 (by rfl) T.m_range (da_cons (DO.d (do_call rfl c_take hG hr (by omega) (by rfl) (dr_bag (pv 1) (dr_cons de_int dr_nil)))) da_nil)) (dg_name (pg_name (i := 5) sc_law.nd rfl (.inl rfl)))
(dss_one (ds_set (i := 4) sc_law.nd rfl (.inl rfl) (do_call rfl c_sp hG hr (by omega) (by rfl) (dr_bag (pv 1) (dr_cons (de_v (pv 4)) dr_nil))))))
(dss_cons (ds_set (i := 6) sc_law.nd rfl (.inl rfl) (do_lst (da_cons de_str (da_cons de_str (da_cons de_str (da_cons de_str (da_cons de_str (da_cons de_str (da_cons de_str da_nil)))))))))
(dss_cons (ds_append rfl (pv 6) (do_add rfl de_str (de_mulF de_str (de_ixA rfl (DO.d (do_lst (da_cons de_int (da_cons de_int da_nil)))) (DO.d (do_call rfl c_take hG hr (by omega) (by rfl) (dr_bag (pv 1) (dr_cons de_int dr_nil))))))))
(dss_cons (ds_set (i := 7) sc_law.nd rfl (.inl rfl) (do_lst (da_cons de_non (da_cons de_int (da_cons de_bl (da_cons (DO.d (do_lst (da_cons (de_v (pv 4)) da_nil))) (da_cons de_str (da_cons de_str (da_cons (DO.d (do_add rfl (DO.d (do_add rfl (de_v (pv 4)) (de_ixOwn rfl (pv 6) (DO.d (do_call rfl c_take hG hr (by omega) (by rfl) (dr_bag (pv 1) (dr_cons de_int dr_nil))))))) de_str)) (da_cons de_str da_nil))))))))))
(dss_cut (ds_set (i := 4) sc_law.nd rfl (.inl rfl) (DE.o (de_if (db_cmp op_gt od_Ib (DO.d (do_call rfl c_take hG hr (by omega) (by rfl) (dr_bag (pv 1) (dr_cons de_int dr_nil)))) de_int (nomark _)) (de_v (pv 4)) (de_ixOwn rfl (pv 7) (DO.d (do_call rfl c_take hG hr (by omega) (by rfl) (dr_bag (pv 1) (dr_cons de_int dr_nil))))))))
(dss_cons (ds_set (i := 8) sc_law.nd rfl (.inl rfl) (do_call rfl c_runof hG hr (by omega) (by rfl) (dr_cons (de_v (pv 4)) dr_nil)))
(dss_one (ds_for PassesOwn.never rfl (di_range1 (by rfl) T.m_range (da_cons de_int da_nil)) (dg_name (pg_name (i := 5) sc_law.nd rfl (.inl rfl)))
(dss_cons (ds_set (i := 9) sc_law.nd rfl (.inl rfl) (do_call rfl c_told hG hr (by omega) (by rfl) (dr_cons (de_v (pv 4)) dr_nil)))
(dss_one (ds_if (db_not (db_val (DO.d (do_call rfl c_alike hG hr (by omega) (by rfl) (dr_cons (de_v (pv 9)) (dr_cons (de_if (db_cmp op_isN od_isN (de_v (pv 8)) de_non (nomark _)) de_str (de_tup (da_cons de_str (da_cons (de_v (pv 8)) da_nil)))) dr_nil))))))
(dss_one (ds_ret (DE.o de_bl)))
dss_nil))))))))))))))
(dss_one (ds_ret (DE.o de_bl))))), ?_⟩
    refine ⟨fun σ H' => ∃ b c, σ = [some (.ref a), some (.ref b), none, none, none, none, none, none, none, none, none, none] ∧ Bg H' b c, ?_, ?_⟩
    · exact ⟨.ref a, rfl, a, ns, rfl, hS, hlen, fun b H' _ _ ⟨c, bag⟩ => ⟨b, c, rfl, bag⟩⟩
    · rintro σ H0 ⟨b, c, rfl, g, s0, j, ms, hb, hc, hj⟩
      refine law_from (i := 0) (H := H0) (ρ := [none, some .bag, none, none, none, none, none, none, none, none, none, none]) (P := { nx := fun _ => False, rt := fun o => o = .dat (.bool true) }) hb hc hj (Bg.ne hb hc)
        (.non (.bag rfl (.non (.non (.non (.non (.non (.non (.non (.non (.non (.non .nil)))))))))))) ?_ (fun _ h => h) (fun _ h => h) (fun H2 => q H2) (fun _ h => h) (fun _ h => h)
      clear q hb hc hj hS hlen
      repeat' (first | refine ix0T ?_ | refine ix1T ?_ | refine ix2T ?_ | refine ix0L ?_ | refine ix1L ?_ | refine ix2L ?_ | refine ⟨_, rfl, ?_⟩ | refine ⟨_, _, rfl, rfl, (by show (_ : Nat) ≤ sizeLine; first | assumption | exact big (DOk.strLen (by assumption)) | exact big (DOk.tupLen (by assumption)) | exact big (DOk.lstLen (by assumption)) | exact big (DOw.strLen (by assumption)) | exact big (DOw.tupLen (by assumption)) | exact big (DOw.lstLen (by assumption)) | exact big (DOz.strLen (by assumption)) | exact big (DOz.tupLen (by assumption)) | exact big (DOz.lstLen (by assumption))), ?_⟩ | refine ⟨_, _, rfl, rfl, (by first | decide | (show (0 : Int) < _; decide)), ?_⟩ | refine ⟨_, _, rfl, rfl, ?_⟩ | refine eqR_str ?_ | refine eqR_int ?_ | refine neR_str ?_ | refine neR_int ?_ | refine And.intro rfl ?_ | refine addL (by first | assumption | (rw [sizeLine_eq]; omega) | (rw [sizeLine_eq]; simp; done) | (rw [sizeLine_eq]; simp only [List.length_append, List.length_cons, List.length_nil]; omega)) ?_ | refine addT (by first | assumption | (rw [sizeLine_eq]; omega) | (rw [sizeLine_eq]; simp; done) | (rw [sizeLine_eq]; simp only [List.length_append, List.length_cons, List.length_nil]; omega)) ?_ | refine And.intro (by assumption) ?_ | refine And.intro (by decide) ?_ | refine ⟨_, _, rfl, ?_⟩ | refine iteT rfl ?_ | refine iteF Bool.false_ne_true ?_)
      refine ⟨fun i ρ' => ∃ x2 x3 x4 x5 x6 x7 x8 x9 x10 x11 : Option En, ρ' = [none, some .bag, x2, x3, x4, x5, x6, x7, x8, x9, x10, x11], ⟨_, _, _, _, _, _, _, _, _, _, rfl⟩, ?_, ?_⟩
      · rintro i tn ρ' htn ⟨x2, x3, x4, x5, x6, x7, x8, x9, x10, x11, rfl⟩
        clear htn
        repeat' (first | refine ix0T ?_ | refine ix1T ?_ | refine ix2T ?_ | refine ix0L ?_ | refine ix1L ?_ | refine ix2L ?_ | refine ⟨_, rfl, ?_⟩ | refine ⟨_, _, rfl, rfl, (by show (_ : Nat) ≤ sizeLine; first | assumption | exact big (DOk.strLen (by assumption)) | exact big (DOk.tupLen (by assumption)) | exact big (DOk.lstLen (by assumption)) | exact big (DOw.strLen (by assumption)) | exact big (DOw.tupLen (by assumption)) | exact big (DOw.lstLen (by assumption)) | exact big (DOz.strLen (by assumption)) | exact big (DOz.tupLen (by assumption)) | exact big (DOz.lstLen (by assumption))), ?_⟩ | refine ⟨_, _, rfl, rfl, (by first | decide | (show (0 : Int) < _; decide)), ?_⟩ | refine ⟨_, _, rfl, rfl, ?_⟩ | refine eqR_str ?_ | refine eqR_int ?_ | refine neR_str ?_ | refine neR_int ?_ | refine And.intro rfl ?_ | refine addL (by first | assumption | (rw [sizeLine_eq]; omega) | (rw [sizeLine_eq]; simp; done) | (rw [sizeLine_eq]; simp only [List.length_append, List.length_cons, List.length_nil]; omega)) ?_ | refine addT (by first | assumption | (rw [sizeLine_eq]; omega) | (rw [sizeLine_eq]; simp; done) | (rw [sizeLine_eq]; simp only [List.length_append, List.length_cons, List.length_nil]; omega)) ?_ | refine And.intro (by assumption) ?_ | refine And.intro (by decide) ?_ | refine ⟨_, _, rfl, ?_⟩ | refine iteT rfl ?_ | refine iteF Bool.false_ne_true ?_)
        intro zs hzl hzn
        refine ⟨zs, by show [En.bag, En.d (.list (eraseAll _))] = _; rw [era_dat], (fun e => by rw [e] at hzl; cases hzl), by rw [hzl]; decide, hzn, fun rs hrs hra => ?_⟩
        refine ⟨fun ρ' => ∃ (z : Str), ρ' = [none, some .bag, some (.d tn), some (.d (.list (rs.map .tuple))), some (.d (.str z)), x5, x6, x7, x8, x9, x10, x11] ∧ asc z = true ∧ z.length ≤ 1830, ?_, ?_⟩
        · repeat' (first | refine ix0T ?_ | refine ix1T ?_ | refine ix2T ?_ | refine ix0L ?_ | refine ix1L ?_ | refine ix2L ?_ | refine ⟨_, rfl, ?_⟩ | refine ⟨_, _, rfl, rfl, (by show (_ : Nat) ≤ sizeLine; first | assumption | exact big (DOk.strLen (by assumption)) | exact big (DOk.tupLen (by assumption)) | exact big (DOk.lstLen (by assumption)) | exact big (DOw.strLen (by assumption)) | exact big (DOw.tupLen (by assumption)) | exact big (DOw.lstLen (by assumption)) | exact big (DOz.strLen (by assumption)) | exact big (DOz.tupLen (by assumption)) | exact big (DOz.lstLen (by assumption))), ?_⟩ | refine ⟨_, _, rfl, rfl, (by first | decide | (show (0 : Int) < _; decide)), ?_⟩ | refine ⟨_, _, rfl, rfl, ?_⟩ | refine eqR_str ?_ | refine eqR_int ?_ | refine neR_str ?_ | refine neR_int ?_ | refine And.intro rfl ?_ | refine addL (by first | assumption | (rw [sizeLine_eq]; omega) | (rw [sizeLine_eq]; simp; done) | (rw [sizeLine_eq]; simp only [List.length_append, List.length_cons, List.length_nil]; omega)) ?_ | refine addT (by first | assumption | (rw [sizeLine_eq]; omega) | (rw [sizeLine_eq]; simp; done) | (rw [sizeLine_eq]; simp only [List.length_append, List.length_cons, List.length_nil]; omega)) ?_ | refine And.intro (by assumption) ?_ | refine And.intro (by decide) ?_ | refine ⟨_, _, rfl, ?_⟩ | refine iteT rfl ?_ | refine iteF Bool.false_ne_true ?_)
          rw [era_dat]
          refine lc_maps (fun r => PyData.tuple r) rs (fun _ => true) (fun r => .dat (.str (lineT r))) (by rw [sizeLine_eq]; omega) (fun r hr yes no y1 y2 => ?_) ?_
          · have y := y1 rfl
            have hra1 := hra r hr
            have hlg := line_good hra1
            repeat' (first | refine ix0T ?_ | refine ix1T ?_ | refine ix2T ?_ | refine ix0L ?_ | refine ix1L ?_ | refine ix2L ?_ | refine ⟨_, rfl, ?_⟩ | refine ⟨_, _, rfl, rfl, (by show (_ : Nat) ≤ sizeLine; first | assumption | exact big (DOk.strLen (by assumption)) | exact big (DOk.tupLen (by assumption)) | exact big (DOk.lstLen (by assumption)) | exact big (DOw.strLen (by assumption)) | exact big (DOw.tupLen (by assumption)) | exact big (DOw.lstLen (by assumption)) | exact big (DOz.strLen (by assumption)) | exact big (DOz.tupLen (by assumption)) | exact big (DOz.lstLen (by assumption))), ?_⟩ | refine ⟨_, _, rfl, rfl, (by first | decide | (show (0 : Int) < _; decide)), ?_⟩ | refine ⟨_, _, rfl, rfl, ?_⟩ | refine eqR_str ?_ | refine eqR_int ?_ | refine neR_str ?_ | refine neR_int ?_ | refine And.intro rfl ?_ | refine addL (by first | assumption | (rw [sizeLine_eq]; omega) | (rw [sizeLine_eq]; simp; done) | (rw [sizeLine_eq]; simp only [List.length_append, List.length_cons, List.length_nil]; omega)) ?_ | refine addT (by first | assumption | (rw [sizeLine_eq]; omega) | (rw [sizeLine_eq]; simp; done) | (rw [sizeLine_eq]; simp only [List.length_append, List.length_cons, List.length_nil]; omega)) ?_ | refine And.intro (by assumption) ?_ | refine And.intro (by decide) ?_ | refine ⟨_, _, rfl, ?_⟩ | refine iteT rfl ?_ | refine iteF Bool.false_ne_true ?_)
            refine lc_map (fun d => .dat (.str (strP d))) (by rw [sizeLine_eq]; have := hra1.2; omega) (fun d hd yes2 no2 y2 => ?_) ?_
            · repeat' (first | refine ix0T ?_ | refine ix1T ?_ | refine ix2T ?_ | refine ix0L ?_ | refine ix1L ?_ | refine ix2L ?_ | refine ⟨_, rfl, ?_⟩ | refine ⟨_, _, rfl, rfl, (by show (_ : Nat) ≤ sizeLine; first | assumption | exact big (DOk.strLen (by assumption)) | exact big (DOk.tupLen (by assumption)) | exact big (DOk.lstLen (by assumption)) | exact big (DOw.strLen (by assumption)) | exact big (DOw.tupLen (by assumption)) | exact big (DOw.lstLen (by assumption)) | exact big (DOz.strLen (by assumption)) | exact big (DOz.tupLen (by assumption)) | exact big (DOz.lstLen (by assumption))), ?_⟩ | refine ⟨_, _, rfl, rfl, (by first | decide | (show (0 : Int) < _; decide)), ?_⟩ | refine ⟨_, _, rfl, rfl, ?_⟩ | refine eqR_str ?_ | refine eqR_int ?_ | refine neR_str ?_ | refine neR_int ?_ | refine And.intro rfl ?_ | refine addL (by first | assumption | (rw [sizeLine_eq]; omega) | (rw [sizeLine_eq]; simp; done) | (rw [sizeLine_eq]; simp only [List.length_append, List.length_cons, List.length_nil]; omega)) ?_ | refine addT (by first | assumption | (rw [sizeLine_eq]; omega) | (rw [sizeLine_eq]; simp; done) | (rw [sizeLine_eq]; simp only [List.length_append, List.length_cons, List.length_nil]; omega)) ?_ | refine And.intro (by assumption) ?_ | refine And.intro (by decide) ?_ | refine ⟨_, _, rfl, ?_⟩ | refine iteT rfl ?_ | refine iteF Bool.false_ne_true ?_)
              exact ⟨_, _, rfl, str_some (hra1.1 d hd), y2⟩
            refine ⟨r.map strP, ?_, ?_, ?_⟩
            · rw [erase_map, List.map_map]
              rfl
            · have e : (" " : Str).length = 1 := by decide +kernel
              have := row_sum hra1
              rw [e]
              omega
            refine ⟨_, if_pos ?_, y⟩
            have e : ("\n" : Str).length = 1 := by decide +kernel
            have := hlg.1.2
            rw [e, sizeLine_eq]
            omega
          rw [List.filter_eq_self.mpr fun _ _ => rfl]
          have htg := text_good hra hrs
          refine ⟨rs.map lineT, ?_, ?_, ⟨textT rs, ?_, htg.1, htg.2⟩⟩
          · rw [erase_map, List.map_map]
            rfl
          · have e : ("" : Str).length = 0 := by decide +kernel
            have := lines_sum hra
            rw [e]
            omega
          · show [none, some En.bag, some (En.d tn), some (En.d (.list (eraseAll ((rs.map PyData.tuple).map O.dat)))), some (En.d (.str (textT rs))), x5, x6, x7, x8, x9, x10, x11] = _
            rw [era_dat]
        rintro ρ' ⟨z0, rfl, hz0a, hz0l⟩
        refine ⟨fun ρ' => ∃ (z : Str) (y5 : Option En), ρ' = [none, some .bag, some (.d tn), some (.d (.list (rs.map .tuple))), some (.d (.str z)), y5, x6, x7, x8, x9, x10, x11] ∧ asc z = true ∧ z.length ≤ 7400, ?_, ?_⟩
        · repeat' (first | refine ix0T ?_ | refine ix1T ?_ | refine ix2T ?_ | refine ix0L ?_ | refine ix1L ?_ | refine ix2L ?_ | refine ⟨_, rfl, ?_⟩ | refine ⟨_, _, rfl, rfl, (by show (_ : Nat) ≤ sizeLine; first | assumption | exact big (DOk.strLen (by assumption)) | exact big (DOk.tupLen (by assumption)) | exact big (DOk.lstLen (by assumption)) | exact big (DOw.strLen (by assumption)) | exact big (DOw.tupLen (by assumption)) | exact big (DOw.lstLen (by assumption)) | exact big (DOz.strLen (by assumption)) | exact big (DOz.tupLen (by assumption)) | exact big (DOz.lstLen (by assumption))), ?_⟩ | refine ⟨_, _, rfl, rfl, (by first | decide | (show (0 : Int) < _; decide)), ?_⟩ | refine ⟨_, _, rfl, rfl, ?_⟩ | refine eqR_str ?_ | refine eqR_int ?_ | refine neR_str ?_ | refine neR_int ?_ | refine And.intro rfl ?_ | refine addL (by first | assumption | (rw [sizeLine_eq]; omega) | (rw [sizeLine_eq]; simp; done) | (rw [sizeLine_eq]; simp only [List.length_append, List.length_cons, List.length_nil]; omega)) ?_ | refine addT (by first | assumption | (rw [sizeLine_eq]; omega) | (rw [sizeLine_eq]; simp; done) | (rw [sizeLine_eq]; simp only [List.length_append, List.length_cons, List.length_nil]; omega)) ?_ | refine And.intro (by assumption) ?_ | refine And.intro (by decide) ?_ | refine ⟨_, _, rfl, ?_⟩ | refine iteT rfl ?_ | refine iteF Bool.false_ne_true ?_)
          intro n hn0 hn1
          refine ⟨n, rfl, by omega, by omega, ?_⟩
          refine ⟨fun i ρ' => ∃ (z : Str) (y5 : Option En), ρ' = [none, some .bag, some (.d tn), some (.d (.list (rs.map .tuple))), some (.d (.str z)), y5, x6, x7, x8, x9, x10, x11] ∧ asc z = true ∧ z.length + 12 ≤ 1842 * 2 ^ i, ⟨_, _, rfl, hz0a, by omega⟩, ?_, ?_⟩
          · rintro i2 tk ρ' htk ⟨z, y5, rfl, hza, hzl⟩
            have hi2 : i2 < 2 := by
              have := (List.getElem?_eq_some_iff.mp htk).1
              rw [len_range] at this
              omega
            have hp : (2 : Nat) ^ i2 ≤ 2 := by
              have : i2 = 0 ∨ i2 = 1 := by omega
              rcases this with rfl | rfl <;> decide
            have hz8 : z.length ≤ 8000 := by omega
            repeat' (first | refine ix0T ?_ | refine ix1T ?_ | refine ix2T ?_ | refine ix0L ?_ | refine ix1L ?_ | refine ix2L ?_ | refine ⟨_, rfl, ?_⟩ | refine ⟨_, _, rfl, rfl, (by show (_ : Nat) ≤ sizeLine; first | assumption | exact big (DOk.strLen (by assumption)) | exact big (DOk.tupLen (by assumption)) | exact big (DOk.lstLen (by assumption)) | exact big (DOw.strLen (by assumption)) | exact big (DOw.tupLen (by assumption)) | exact big (DOw.lstLen (by assumption)) | exact big (DOz.strLen (by assumption)) | exact big (DOz.tupLen (by assumption)) | exact big (DOz.lstLen (by assumption))), ?_⟩ | refine ⟨_, _, rfl, rfl, (by first | decide | (show (0 : Int) < _; decide)), ?_⟩ | refine ⟨_, _, rfl, rfl, ?_⟩ | refine eqR_str ?_ | refine eqR_int ?_ | refine neR_str ?_ | refine neR_int ?_ | refine And.intro rfl ?_ | refine addL (by first | assumption | (rw [sizeLine_eq]; omega) | (rw [sizeLine_eq]; simp; done) | (rw [sizeLine_eq]; simp only [List.length_append, List.length_cons, List.length_nil]; omega)) ?_ | refine addT (by first | assumption | (rw [sizeLine_eq]; omega) | (rw [sizeLine_eq]; simp; done) | (rw [sizeLine_eq]; simp only [List.length_append, List.length_cons, List.length_nil]; omega)) ?_ | refine And.intro (by assumption) ?_ | refine And.intro (by decide) ?_ | refine ⟨_, _, rfl, ?_⟩ | refine iteT rfl ?_ | refine iteF Bool.false_ne_true ?_)
            refine fun y hy => ⟨_, _, rfl, hy.1, ?_⟩
            have := hy.2
            rw [Nat.pow_succ]
            omega
          · rintro ρ' ⟨z, y5, rfl, hza, hzl⟩
            have hi2 : (rangeD 0 n.toNat).length ≤ 2 := by rw [len_range]; omega
            have hp : (2 : Nat) ^ (rangeD 0 n.toNat).length ≤ 4 := Nat.le_trans (Nat.pow_le_pow_right (by decide) hi2) (by decide)
            exact ⟨_, _, rfl, hza, by omega⟩
        rintro ρ' ⟨z, y5, rfl, hza, hzl2⟩
        repeat' (first | refine ix0T ?_ | refine ix1T ?_ | refine ix2T ?_ | refine ix0L ?_ | refine ix1L ?_ | refine ix2L ?_ | refine ⟨_, rfl, ?_⟩ | refine ⟨_, _, rfl, rfl, (by show (_ : Nat) ≤ sizeLine; first | assumption | exact big (DOk.strLen (by assumption)) | exact big (DOk.tupLen (by assumption)) | exact big (DOk.lstLen (by assumption)) | exact big (DOw.strLen (by assumption)) | exact big (DOw.tupLen (by assumption)) | exact big (DOw.lstLen (by assumption)) | exact big (DOz.strLen (by assumption)) | exact big (DOz.tupLen (by assumption)) | exact big (DOz.lstLen (by assumption))), ?_⟩ | refine ⟨_, _, rfl, rfl, (by first | decide | (show (0 : Int) < _; decide)), ?_⟩ | refine ⟨_, _, rfl, rfl, ?_⟩ | refine eqR_str ?_ | refine eqR_int ?_ | refine neR_str ?_ | refine neR_int ?_ | refine And.intro rfl ?_ | refine addL (by first | assumption | (rw [sizeLine_eq]; omega) | (rw [sizeLine_eq]; simp; done) | (rw [sizeLine_eq]; simp only [List.length_append, List.length_cons, List.length_nil]; omega)) ?_ | refine addT (by first | assumption | (rw [sizeLine_eq]; omega) | (rw [sizeLine_eq]; simp; done) | (rw [sizeLine_eq]; simp only [List.length_append, List.length_cons, List.length_nil]; omega)) ?_ | refine And.intro (by assumption) ?_ | refine And.intro (by decide) ?_ | refine ⟨_, _, rfl, ?_⟩ | refine iteT rfl ?_ | refine iteF Bool.false_ne_true ?_)
        intro r hr0 hr1
        refine ixMem (ds := [.int 41, .int 5000]) hr0 hr1 fun dn hdn => ?_
        obtain ⟨n, rfl, hng, hn0, hn1⟩ : ∃ n : Int, dn = .int n ∧ Gd2 5000 (Txt.mul ("9" : Str) n) ∧ 0 ≤ n ∧ n ≤ 5000 := by
          simp only [List.mem_cons, List.not_mem_nil, or_false] at hdn
          rcases hdn with rfl | rfl
          · exact ⟨41, rfl, by decide +kernel, by decide, by decide⟩
          · exact ⟨5000, rfl, by decide +kernel, by decide, by decide⟩
        refine ⟨"9", n, rfl, rfl, hn0, by omega, by decide +kernel, ?_⟩
        have hgl := gd_add (by decide +kernel : Gd2 6 ("leave " : Str)) hng
        refine ⟨_, if_pos (by have := hng.2; have : ("leave " : Str).length = 6 := (by decide +kernel); rw [this, sizeLine_eq]; omega), ?_⟩
        repeat' (first | refine ix0T ?_ | refine ix1T ?_ | refine ix2T ?_ | refine ix0L ?_ | refine ix1L ?_ | refine ix2L ?_ | refine ⟨_, rfl, ?_⟩ | refine ⟨_, _, rfl, rfl, (by show (_ : Nat) ≤ sizeLine; first | assumption | exact big (DOk.strLen (by assumption)) | exact big (DOk.tupLen (by assumption)) | exact big (DOk.lstLen (by assumption)) | exact big (DOw.strLen (by assumption)) | exact big (DOw.tupLen (by assumption)) | exact big (DOw.lstLen (by assumption)) | exact big (DOz.strLen (by assumption)) | exact big (DOz.tupLen (by assumption)) | exact big (DOz.lstLen (by assumption))), ?_⟩ | refine ⟨_, _, rfl, rfl, (by first | decide | (show (0 : Int) < _; decide)), ?_⟩ | refine ⟨_, _, rfl, rfl, ?_⟩ | refine eqR_str ?_ | refine eqR_int ?_ | refine neR_str ?_ | refine neR_int ?_ | refine And.intro rfl ?_ | refine addL (by first | assumption | (rw [sizeLine_eq]; omega) | (rw [sizeLine_eq]; simp; done) | (rw [sizeLine_eq]; simp only [List.length_append, List.length_cons, List.length_nil]; omega)) ?_ | refine addT (by first | assumption | (rw [sizeLine_eq]; omega) | (rw [sizeLine_eq]; simp; done) | (rw [sizeLine_eq]; simp only [List.length_append, List.length_cons, List.length_nil]; omega)) ?_ | refine And.intro (by assumption) ?_ | refine And.intro (by decide) ?_ | refine ⟨_, _, rfl, ?_⟩ | refine iteT rfl ?_ | refine iteF Bool.false_ne_true ?_)
        intro r2 h20 h21
        obtain ⟨m, hm, hma⟩ := at_strs (ms := ["enter 0", "writer 01", "writer", "begin Zz", "end ninesigns", "leave -1", "root 0 x y", "leave " ++ Txt.mul "9" n]) h20 h21
        have hmg : Gd2 5006 m := by
          have h7 : ∀ y ∈ (["enter 0", "writer 01", "writer", "begin Zz", "end ninesigns", "leave -1", "root 0 x y"] : List Str), Gd2 5006 y := by decide +kernel
          have hm2 : m ∈ (["enter 0", "writer 01", "writer", "begin Zz", "end ninesigns", "leave -1", "root 0 x y"] : List Str) ++ ["leave " ++ Txt.mul "9" n] := hm
          rcases List.mem_append.mp hm2 with hm2 | hm2
          · exact h7 m hm2
          · rw [List.mem_singleton.mp hm2]
            exact hgl
        have hmt := gd_add (gd_add (⟨hza, hzl2⟩ : Gd2 7400 z) hmg) (by decide +kernel : Gd2 1 ("\n" : Str))
        refine ⟨r2, .str m, rfl, hma, ?_⟩
        refine ⟨_, if_pos (by have := hmg.2; rw [sizeLine_eq]; omega), ?_⟩
        repeat' (first | refine ix0T ?_ | refine ix1T ?_ | refine ix2T ?_ | refine ix0L ?_ | refine ix1L ?_ | refine ix2L ?_ | refine ⟨_, rfl, ?_⟩ | refine ⟨_, _, rfl, rfl, (by show (_ : Nat) ≤ sizeLine; first | assumption | exact big (DOk.strLen (by assumption)) | exact big (DOk.tupLen (by assumption)) | exact big (DOk.lstLen (by assumption)) | exact big (DOw.strLen (by assumption)) | exact big (DOw.tupLen (by assumption)) | exact big (DOw.lstLen (by assumption)) | exact big (DOz.strLen (by assumption)) | exact big (DOz.tupLen (by assumption)) | exact big (DOz.lstLen (by assumption))), ?_⟩ | refine ⟨_, _, rfl, rfl, (by first | decide | (show (0 : Int) < _; decide)), ?_⟩ | refine ⟨_, _, rfl, rfl, ?_⟩ | refine eqR_str ?_ | refine eqR_int ?_ | refine neR_str ?_ | refine neR_int ?_ | refine And.intro rfl ?_ | refine addL (by first | assumption | (rw [sizeLine_eq]; omega) | (rw [sizeLine_eq]; simp; done) | (rw [sizeLine_eq]; simp only [List.length_append, List.length_cons, List.length_nil]; omega)) ?_ | refine addT (by first | assumption | (rw [sizeLine_eq]; omega) | (rw [sizeLine_eq]; simp; done) | (rw [sizeLine_eq]; simp only [List.length_append, List.length_cons, List.length_nil]; omega)) ?_ | refine And.intro (by assumption) ?_ | refine And.intro (by decide) ?_ | refine ⟨_, _, rfl, ?_⟩ | refine iteT rfl ?_ | refine iteF Bool.false_ne_true ?_)
        refine ⟨_, if_pos (by have := hmg.2; have : ("\n" : Str).length = 1 := (by decide +kernel); show (z ++ m).length + _ ≤ _; rw [Str.length_append, this, sizeLine_eq]; omega), ?_⟩
        repeat' (first | refine ix0T ?_ | refine ix1T ?_ | refine ix2T ?_ | refine ix0L ?_ | refine ix1L ?_ | refine ix2L ?_ | refine ⟨_, rfl, ?_⟩ | refine ⟨_, _, rfl, rfl, (by show (_ : Nat) ≤ sizeLine; first | assumption | exact big (DOk.strLen (by assumption)) | exact big (DOk.tupLen (by assumption)) | exact big (DOk.lstLen (by assumption)) | exact big (DOw.strLen (by assumption)) | exact big (DOw.tupLen (by assumption)) | exact big (DOw.lstLen (by assumption)) | exact big (DOz.strLen (by assumption)) | exact big (DOz.tupLen (by assumption)) | exact big (DOz.lstLen (by assumption))), ?_⟩ | refine ⟨_, _, rfl, rfl, (by first | decide | (show (0 : Int) < _; decide)), ?_⟩ | refine ⟨_, _, rfl, rfl, ?_⟩ | refine eqR_str ?_ | refine eqR_int ?_ | refine neR_str ?_ | refine neR_int ?_ | refine And.intro rfl ?_ | refine addL (by first | assumption | (rw [sizeLine_eq]; omega) | (rw [sizeLine_eq]; simp; done) | (rw [sizeLine_eq]; simp only [List.length_append, List.length_cons, List.length_nil]; omega)) ?_ | refine addT (by first | assumption | (rw [sizeLine_eq]; omega) | (rw [sizeLine_eq]; simp; done) | (rw [sizeLine_eq]; simp only [List.length_append, List.length_cons, List.length_nil]; omega)) ?_ | refine And.intro (by assumption) ?_ | refine And.intro (by decide) ?_ | refine ⟨_, _, rfl, ?_⟩ | refine iteT rfl ?_ | refine iteF Bool.false_ne_true ?_)
        refine ⟨fun ρ' => ∃ (v : PyData) (y5 y6 y7 : Option En), ρ' = [none, some .bag, some (.d tn), some (.d (.list (rs.map .tuple))), some (.d v), y5, y6, y7, x8, x9, x10, x11] ∧ AskD v, ?_, ?_⟩
        · repeat' (first | refine ix0T ?_ | refine ix1T ?_ | refine ix2T ?_ | refine ix0L ?_ | refine ix1L ?_ | refine ix2L ?_ | refine ⟨_, rfl, ?_⟩ | refine ⟨_, _, rfl, rfl, (by show (_ : Nat) ≤ sizeLine; first | assumption | exact big (DOk.strLen (by assumption)) | exact big (DOk.tupLen (by assumption)) | exact big (DOk.lstLen (by assumption)) | exact big (DOw.strLen (by assumption)) | exact big (DOw.tupLen (by assumption)) | exact big (DOw.lstLen (by assumption)) | exact big (DOz.strLen (by assumption)) | exact big (DOz.tupLen (by assumption)) | exact big (DOz.lstLen (by assumption))), ?_⟩ | refine ⟨_, _, rfl, rfl, (by first | decide | (show (0 : Int) < _; decide)), ?_⟩ | refine ⟨_, _, rfl, rfl, ?_⟩ | refine eqR_str ?_ | refine eqR_int ?_ | refine neR_str ?_ | refine neR_int ?_ | refine And.intro rfl ?_ | refine addL (by first | assumption | (rw [sizeLine_eq]; omega) | (rw [sizeLine_eq]; simp; done) | (rw [sizeLine_eq]; simp only [List.length_append, List.length_cons, List.length_nil]; omega)) ?_ | refine addT (by first | assumption | (rw [sizeLine_eq]; omega) | (rw [sizeLine_eq]; simp; done) | (rw [sizeLine_eq]; simp only [List.length_append, List.length_cons, List.length_nil]; omega)) ?_ | refine And.intro (by assumption) ?_ | refine And.intro (by decide) ?_ | refine ⟨_, _, rfl, ?_⟩ | refine iteT rfl ?_ | refine iteF Bool.false_ne_true ?_)
          intro r3 h30 h31
          repeat' (first | refine ix0T ?_ | refine ix1T ?_ | refine ix2T ?_ | refine ix0L ?_ | refine ix1L ?_ | refine ix2L ?_ | refine ⟨_, rfl, ?_⟩ | refine ⟨_, _, rfl, rfl, (by show (_ : Nat) ≤ sizeLine; first | assumption | exact big (DOk.strLen (by assumption)) | exact big (DOk.tupLen (by assumption)) | exact big (DOk.lstLen (by assumption)) | exact big (DOw.strLen (by assumption)) | exact big (DOw.tupLen (by assumption)) | exact big (DOw.lstLen (by assumption)) | exact big (DOz.strLen (by assumption)) | exact big (DOz.tupLen (by assumption)) | exact big (DOz.lstLen (by assumption))), ?_⟩ | refine ⟨_, _, rfl, rfl, (by first | decide | (show (0 : Int) < _; decide)), ?_⟩ | refine ⟨_, _, rfl, rfl, ?_⟩ | refine eqR_str ?_ | refine eqR_int ?_ | refine neR_str ?_ | refine neR_int ?_ | refine And.intro rfl ?_ | refine addL (by first | assumption | (rw [sizeLine_eq]; omega) | (rw [sizeLine_eq]; simp; done) | (rw [sizeLine_eq]; simp only [List.length_append, List.length_cons, List.length_nil]; omega)) ?_ | refine addT (by first | assumption | (rw [sizeLine_eq]; omega) | (rw [sizeLine_eq]; simp; done) | (rw [sizeLine_eq]; simp only [List.length_append, List.length_cons, List.length_nil]; omega)) ?_ | refine And.intro (by assumption) ?_ | refine And.intro (by decide) ?_ | refine ⟨_, _, rfl, ?_⟩ | refine iteT rfl ?_ | refine iteF Bool.false_ne_true ?_)
          refine iteB (fun e => ?_) (fun e => ?_)
          · repeat' (first | refine ix0T ?_ | refine ix1T ?_ | refine ix2T ?_ | refine ix0L ?_ | refine ix1L ?_ | refine ix2L ?_ | refine ⟨_, rfl, ?_⟩ | refine ⟨_, _, rfl, rfl, (by show (_ : Nat) ≤ sizeLine; first | assumption | exact big (DOk.strLen (by assumption)) | exact big (DOk.tupLen (by assumption)) | exact big (DOk.lstLen (by assumption)) | exact big (DOw.strLen (by assumption)) | exact big (DOw.tupLen (by assumption)) | exact big (DOw.lstLen (by assumption)) | exact big (DOz.strLen (by assumption)) | exact big (DOz.tupLen (by assumption)) | exact big (DOz.lstLen (by assumption))), ?_⟩ | refine ⟨_, _, rfl, rfl, (by first | decide | (show (0 : Int) < _; decide)), ?_⟩ | refine ⟨_, _, rfl, rfl, ?_⟩ | refine eqR_str ?_ | refine eqR_int ?_ | refine neR_str ?_ | refine neR_int ?_ | refine And.intro rfl ?_ | refine addL (by first | assumption | (rw [sizeLine_eq]; omega) | (rw [sizeLine_eq]; simp; done) | (rw [sizeLine_eq]; simp only [List.length_append, List.length_cons, List.length_nil]; omega)) ?_ | refine addT (by first | assumption | (rw [sizeLine_eq]; omega) | (rw [sizeLine_eq]; simp; done) | (rw [sizeLine_eq]; simp only [List.length_append, List.length_cons, List.length_nil]; omega)) ?_ | refine And.intro (by assumption) ?_ | refine And.intro (by decide) ?_ | refine ⟨_, _, rfl, ?_⟩ | refine iteT rfl ?_ | refine iteF Bool.false_ne_true ?_)
            exact ⟨.str z, _, _, _, rfl, .inr ⟨z, rfl, by omega, hza⟩⟩
          repeat' (first | refine ix0T ?_ | refine ix1T ?_ | refine ix2T ?_ | refine ix0L ?_ | refine ix1L ?_ | refine ix2L ?_ | refine ⟨_, rfl, ?_⟩ | refine ⟨_, _, rfl, rfl, (by show (_ : Nat) ≤ sizeLine; first | assumption | exact big (DOk.strLen (by assumption)) | exact big (DOk.tupLen (by assumption)) | exact big (DOk.lstLen (by assumption)) | exact big (DOw.strLen (by assumption)) | exact big (DOw.tupLen (by assumption)) | exact big (DOw.lstLen (by assumption)) | exact big (DOz.strLen (by assumption)) | exact big (DOz.tupLen (by assumption)) | exact big (DOz.lstLen (by assumption))), ?_⟩ | refine ⟨_, _, rfl, rfl, (by first | decide | (show (0 : Int) < _; decide)), ?_⟩ | refine ⟨_, _, rfl, rfl, ?_⟩ | refine eqR_str ?_ | refine eqR_int ?_ | refine neR_str ?_ | refine neR_int ?_ | refine And.intro rfl ?_ | refine addL (by first | assumption | (rw [sizeLine_eq]; omega) | (rw [sizeLine_eq]; simp; done) | (rw [sizeLine_eq]; simp only [List.length_append, List.length_cons, List.length_nil]; omega)) ?_ | refine addT (by first | assumption | (rw [sizeLine_eq]; omega) | (rw [sizeLine_eq]; simp; done) | (rw [sizeLine_eq]; simp only [List.length_append, List.length_cons, List.length_nil]; omega)) ?_ | refine And.intro (by assumption) ?_ | refine And.intro (by decide) ?_ | refine ⟨_, _, rfl, ?_⟩ | refine iteT rfl ?_ | refine iteF Bool.false_ne_true ?_)
          intro r4 h40 h41
          obtain ⟨o, ho, hom⟩ := at_mem (xs := [O.dat .none, O.dat (.int 5), O.dat (.bool true), O.dat (.list [.str z]), O.dat (.str "\n"), O.dat (.str "enter"), O.dat (.str (z ++ m ++ "\n")), O.dat (.str "enter\n\n")]) h40 h41
          obtain ⟨v, rfl, hv⟩ : ∃ v, o = .dat v ∧ AskD v := by
            simp only [List.mem_cons, List.not_mem_nil, or_false] at hom
            rcases hom with rfl | rfl | rfl | rfl | rfl | rfl | rfl | rfl
            · exact ⟨_, rfl, .inl rfl⟩
            · exact ⟨_, rfl, .inl rfl⟩
            · exact ⟨_, rfl, .inl rfl⟩
            · exact ⟨_, rfl, .inl rfl⟩
            · exact ⟨_, rfl, .inr ⟨_, rfl, by decide +kernel, by decide +kernel⟩⟩
            · exact ⟨_, rfl, .inr ⟨_, rfl, by decide +kernel, by decide +kernel⟩⟩
            · exact ⟨_, rfl, .inr ⟨_, rfl, Nat.le_trans hmt.2 (by decide), hmt.1⟩⟩
            · exact ⟨_, rfl, .inr ⟨_, rfl, by decide +kernel, by decide +kernel⟩⟩
          refine ⟨r4, v, rfl, ho, ?_⟩
          exact ⟨v, _, _, _, rfl, hv⟩
        rintro ρ' ⟨v, y5, y6, y7, rfl, hv⟩
        repeat' (first | refine ix0T ?_ | refine ix1T ?_ | refine ix2T ?_ | refine ix0L ?_ | refine ix1L ?_ | refine ix2L ?_ | refine ⟨_, rfl, ?_⟩ | refine ⟨_, _, rfl, rfl, (by show (_ : Nat) ≤ sizeLine; first | assumption | exact big (DOk.strLen (by assumption)) | exact big (DOk.tupLen (by assumption)) | exact big (DOk.lstLen (by assumption)) | exact big (DOw.strLen (by assumption)) | exact big (DOw.tupLen (by assumption)) | exact big (DOw.lstLen (by assumption)) | exact big (DOz.strLen (by assumption)) | exact big (DOz.tupLen (by assumption)) | exact big (DOz.lstLen (by assumption))), ?_⟩ | refine ⟨_, _, rfl, rfl, (by first | decide | (show (0 : Int) < _; decide)), ?_⟩ | refine ⟨_, _, rfl, rfl, ?_⟩ | refine eqR_str ?_ | refine eqR_int ?_ | refine neR_str ?_ | refine neR_int ?_ | refine And.intro rfl ?_ | refine addL (by first | assumption | (rw [sizeLine_eq]; omega) | (rw [sizeLine_eq]; simp; done) | (rw [sizeLine_eq]; simp only [List.length_append, List.length_cons, List.length_nil]; omega)) ?_ | refine addT (by first | assumption | (rw [sizeLine_eq]; omega) | (rw [sizeLine_eq]; simp; done) | (rw [sizeLine_eq]; simp only [List.length_append, List.length_cons, List.length_nil]; omega)) ?_ | refine And.intro (by assumption) ?_ | refine And.intro (by decide) ?_ | refine ⟨_, _, rfl, ?_⟩ | refine iteT rfl ?_ | refine iteF Bool.false_ne_true ?_)
        refine ⟨fun i ρ' => ∃ (y5 y9 : Option En), ρ' = [none, some .bag, some (.d tn), some (.d (.list (rs.map .tuple))), some (.d v), y5, y6, y7, some (.d (runV v)), y9, x10, x11], ⟨_, _, rfl⟩, ?_, ?_⟩
        · rintro i2 tk ρ' htk ⟨y5, y9, rfl⟩
          repeat' (first | refine ix0T ?_ | refine ix1T ?_ | refine ix2T ?_ | refine ix0L ?_ | refine ix1L ?_ | refine ix2L ?_ | refine ⟨_, rfl, ?_⟩ | refine ⟨_, _, rfl, rfl, (by show (_ : Nat) ≤ sizeLine; first | assumption | exact big (DOk.strLen (by assumption)) | exact big (DOk.tupLen (by assumption)) | exact big (DOk.lstLen (by assumption)) | exact big (DOw.strLen (by assumption)) | exact big (DOw.tupLen (by assumption)) | exact big (DOw.lstLen (by assumption)) | exact big (DOz.strLen (by assumption)) | exact big (DOz.tupLen (by assumption)) | exact big (DOz.lstLen (by assumption))), ?_⟩ | refine ⟨_, _, rfl, rfl, (by first | decide | (show (0 : Int) < _; decide)), ?_⟩ | refine ⟨_, _, rfl, rfl, ?_⟩ | refine eqR_str ?_ | refine eqR_int ?_ | refine neR_str ?_ | refine neR_int ?_ | refine And.intro rfl ?_ | refine addL (by first | assumption | (rw [sizeLine_eq]; omega) | (rw [sizeLine_eq]; simp; done) | (rw [sizeLine_eq]; simp only [List.length_append, List.length_cons, List.length_nil]; omega)) ?_ | refine addT (by first | assumption | (rw [sizeLine_eq]; omega) | (rw [sizeLine_eq]; simp; done) | (rw [sizeLine_eq]; simp only [List.length_append, List.length_cons, List.length_nil]; omega)) ?_ | refine And.intro (by assumption) ?_ | refine And.intro (by decide) ?_ | refine ⟨_, _, rfl, ?_⟩ | refine iteT rfl ?_ | refine iteF Bool.false_ne_true ?_)
          have hcase : (∃ z, v = .str z ∧ z.length ≤ 13500 ∧ asc z = true ∧ okRun z = true ∧ runV v = runD z) ∨ (BadD v ∧ runV v = .none) := by
            rcases hv with hn | ⟨z, rfl, hz, ha⟩
            · refine .inr ⟨.inl hn, ?_⟩
              cases v <;> first | rfl | cases hn
            · have h1 : runV (.str z) = if okRun z = true then runD z else .none := run_eq z
              cases hk : okRun z with
              | true =>
                rw [hk, if_pos rfl] at h1
                exact .inl ⟨z, rfl, hz, ha, hk, h1⟩
              | false =>
                rw [hk, if_neg Bool.false_ne_true] at h1
                exact .inr ⟨.inr ⟨z, rfl, by omega, hk⟩, h1⟩
          rcases hcase with ⟨z, rfl, hz, ha, hk, h1⟩ | ⟨hb, h1⟩
          · refine .inl ⟨z, rfl, by omega, hk, ?_⟩
            have hdw := (run_dow ha hz).2
            rw [h1]
            repeat' (first | refine ix0T ?_ | refine ix1T ?_ | refine ix2T ?_ | refine ix0L ?_ | refine ix1L ?_ | refine ix2L ?_ | refine ⟨_, rfl, ?_⟩ | refine ⟨_, _, rfl, rfl, (by show (_ : Nat) ≤ sizeLine; first | assumption | exact big (DOk.strLen (by assumption)) | exact big (DOk.tupLen (by assumption)) | exact big (DOk.lstLen (by assumption)) | exact big (DOw.strLen (by assumption)) | exact big (DOw.tupLen (by assumption)) | exact big (DOw.lstLen (by assumption)) | exact big (DOz.strLen (by assumption)) | exact big (DOz.tupLen (by assumption)) | exact big (DOz.lstLen (by assumption))), ?_⟩ | refine ⟨_, _, rfl, rfl, (by first | decide | (show (0 : Int) < _; decide)), ?_⟩ | refine ⟨_, _, rfl, rfl, ?_⟩ | refine eqR_str ?_ | refine eqR_int ?_ | refine neR_str ?_ | refine neR_int ?_ | refine And.intro rfl ?_ | refine addL (by first | assumption | (rw [sizeLine_eq]; omega) | (rw [sizeLine_eq]; simp; done) | (rw [sizeLine_eq]; simp only [List.length_append, List.length_cons, List.length_nil]; omega)) ?_ | refine addT (by first | assumption | (rw [sizeLine_eq]; omega) | (rw [sizeLine_eq]; simp; done) | (rw [sizeLine_eq]; simp only [List.length_append, List.length_cons, List.length_nil]; omega)) ?_ | refine And.intro (by assumption) ?_ | refine And.intro (by decide) ?_ | refine ⟨_, _, rfl, ?_⟩ | refine iteT rfl ?_ | refine iteF Bool.false_ne_true ?_)
            refine iteF ?_
            exact ⟨_, _, rfl⟩
          · refine .inr ⟨hb, ?_⟩
            rw [h1]
            repeat' (first | refine ix0T ?_ | refine ix1T ?_ | refine ix2T ?_ | refine ix0L ?_ | refine ix1L ?_ | refine ix2L ?_ | refine ⟨_, rfl, ?_⟩ | refine ⟨_, _, rfl, rfl, (by show (_ : Nat) ≤ sizeLine; first | assumption | exact big (DOk.strLen (by assumption)) | exact big (DOk.tupLen (by assumption)) | exact big (DOk.lstLen (by assumption)) | exact big (DOw.strLen (by assumption)) | exact big (DOw.tupLen (by assumption)) | exact big (DOw.lstLen (by assumption)) | exact big (DOz.strLen (by assumption)) | exact big (DOz.tupLen (by assumption)) | exact big (DOz.lstLen (by assumption))), ?_⟩ | refine ⟨_, _, rfl, rfl, (by first | decide | (show (0 : Int) < _; decide)), ?_⟩ | refine ⟨_, _, rfl, rfl, ?_⟩ | refine eqR_str ?_ | refine eqR_int ?_ | refine neR_str ?_ | refine neR_int ?_ | refine And.intro rfl ?_ | refine addL (by first | assumption | (rw [sizeLine_eq]; omega) | (rw [sizeLine_eq]; simp; done) | (rw [sizeLine_eq]; simp only [List.length_append, List.length_cons, List.length_nil]; omega)) ?_ | refine addT (by first | assumption | (rw [sizeLine_eq]; omega) | (rw [sizeLine_eq]; simp; done) | (rw [sizeLine_eq]; simp only [List.length_append, List.length_cons, List.length_nil]; omega)) ?_ | refine And.intro (by assumption) ?_ | refine And.intro (by decide) ?_ | refine ⟨_, _, rfl, ?_⟩ | refine iteT rfl ?_ | refine iteF Bool.false_ne_true ?_)
            refine ⟨dow_asc (by decide +kernel) (by decide +kernel), ?_⟩
            repeat' (first | refine ix0T ?_ | refine ix1T ?_ | refine ix2T ?_ | refine ix0L ?_ | refine ix1L ?_ | refine ix2L ?_ | refine ⟨_, rfl, ?_⟩ | refine ⟨_, _, rfl, rfl, (by show (_ : Nat) ≤ sizeLine; first | assumption | exact big (DOk.strLen (by assumption)) | exact big (DOk.tupLen (by assumption)) | exact big (DOk.lstLen (by assumption)) | exact big (DOw.strLen (by assumption)) | exact big (DOw.tupLen (by assumption)) | exact big (DOw.lstLen (by assumption)) | exact big (DOz.strLen (by assumption)) | exact big (DOz.tupLen (by assumption)) | exact big (DOz.lstLen (by assumption))), ?_⟩ | refine ⟨_, _, rfl, rfl, (by first | decide | (show (0 : Int) < _; decide)), ?_⟩ | refine ⟨_, _, rfl, rfl, ?_⟩ | refine eqR_str ?_ | refine eqR_int ?_ | refine neR_str ?_ | refine neR_int ?_ | refine And.intro rfl ?_ | refine addL (by first | assumption | (rw [sizeLine_eq]; omega) | (rw [sizeLine_eq]; simp; done) | (rw [sizeLine_eq]; simp only [List.length_append, List.length_cons, List.length_nil]; omega)) ?_ | refine addT (by first | assumption | (rw [sizeLine_eq]; omega) | (rw [sizeLine_eq]; simp; done) | (rw [sizeLine_eq]; simp only [List.length_append, List.length_cons, List.length_nil]; omega)) ?_ | refine And.intro (by assumption) ?_ | refine And.intro (by decide) ?_ | refine ⟨_, _, rfl, ?_⟩ | refine iteT rfl ?_ | refine iteF Bool.false_ne_true ?_)
            refine iteF ?_
            exact ⟨_, _, rfl⟩
        · rintro ρ' ⟨y5, y9, rfl⟩
          exact ⟨_, _, _, _, _, _, _, _, _, _, rfl⟩
      · rintro ρ' ⟨x2, x3, x4, x5, x6, x7, x8, x9, x10, x11, rfl⟩
        exact (rfl : O.dat (.bool true) = O.dat (.bool true))
end
end K96
set_option Elab.async false
set_option linter.all false
set_option maxRecDepth 100000
set_option maxHeartbeats 4000000
/-! the last: from what the top has left to the law -/
namespace K96
open PySem PySem.Spec PyProof.Rows L2 GL DL
theorem clG_of {P : Program} {w : World} {K : PySem.W.Frag} {mg : Str → Option Value} {base : Heap} {k : Nat} {x : Str} {sp sp' : Sp} (c : Cl P w K mg base k x sp) (h : ∀ vs H Q E, sp' vs H Q E → sp vs H Q E) : ClG P w K mg base k x sp' := by
  obtain ⟨f, fd, ps, F, hm, kp, b⟩ := c.ex
  exact ⟨f, fd, ps, DL.FnG.mono (FnG.of F) h, hm, kp, b⟩
theorem drk_nil {K : PySem.W.Frag} : ∀ G, DrAll K G [] [] := fun _ => .nil
theorem drk_cons {K : PySem.W.Frag} {v : V} {d : PyData} {vs : List V} {ds : List PyData} (h : ∀ G, Dr K G v d) (t : ∀ G, DrAll K G vs ds) : ∀ G, DrAll K G (v :: vs) (d :: ds) := fun G => .cons (h G) (t G)
theorem strs_all {K : PySem.W.Frag} {G : Hp} : ∀ zs : List Str, DrAll K G (zs.map V.str) (zs.map PyData.str)
  | [] => .nil
  | z :: zs => .cons (.str z) (strs_all zs)
theorem kt_strs {K : PySem.W.Frag} {a : Addr} {o : Obj} {its : Array Value} {n : Nat} (zs : List Str) (l : K.lookup a = some o) (c : o.cls = .type "tuple") (d : o.data = .seq its n) (z : its.size ≤ sizeLine) (r : Vals (zs.map V.str) its.toList) : ∀ G, Dr K G (.ref a) (.tuple (zs.map PyData.str)) :=
  fun _ => Dr.kt l c d z r (strs_all zs)
theorem kt_refs {K : PySem.W.Frag} {a : Addr} {o : Obj} {its : Array Value} {n : Nat} {ds : List PyData} (as : List Addr) (l : K.lookup a = some o) (c : o.cls = .type "tuple") (d : o.data = .seq its n) (z : its.size ≤ sizeLine) (r : Vals (as.map V.ref) its.toList) (h : ∀ G, DrAll K G (as.map V.ref) ds) : ∀ G, Dr K G (.ref a) (.tuple ds) :=
  fun G => Dr.kt l c d z r (h G)
theorem all_mk {l : PySem.W.OpenLaw} {w : World} {K : PySem.W.Frag} {h : Heap} {mg : Str → Option Value} {fa : Addr} (X : K.In h) (G : h.Ns mainGlobals mg) (hfa : mg "law" = some (.ref fa))
    {fC : Addr} (afC : PySem.W.nsIn K mainGlobals "NoText" = some (some (.ref fC)))
    {fA : Addr} (afA : PySem.W.nsIn K mainGlobals "AskError" = some (some (.ref fA)))
    (hnG : PySem.W.specialIn K (.builtin "object.__class__") "__get__" = some (some (.builtin "getset_descriptor.__get__")))
    (htG : PySem.W.takesIn K (.builtin "object.__class__") = some true)
    {nmW qW : Str} {NW : Addr} {bsW : List Value} {snW : List Str} {subW : List Value} {abW : Bool} {colW : Option Bool} {ddW : Option Addr} {k0W k1W k2W k3W k5W : Option Value} (xW : K.lookup fC = some (excClassObj nmW qW fC NW bsW [.ref fA, .type "ValueError", .type "Exception", .type "BaseException", .type "object"] true snW subW abW colW ddW k0W k1W k2W k3W k5W "ValueError.__new__"))
    (sW : PySem.W.findIn K (.ref fC) "__setattr__" = some (some (.builtin "object.__setattr__")))
    (gW : PySem.W.findIn K (.ref fC) "__getattribute__" = some (some (.builtin "BaseException.__getattribute__")))
    (hW : PySem.W.findIn K (.ref fC) "__getattr__" = some none)
    (yW : PySem.W.findIn K (.ref fC) "__class__" = some (some (.builtin "object.__class__")))
    (exmW : PySem.W.exmOne K (.ref fC) (.ref fA) = some true)
    {f0 f1 f2 f3 f4 f5 f6 f7 f8 f9 f10 f11 f12 f13 f14 f15 f16 f17 f18 f19 f20 f21 f22 f23 f24 : Addr} {od0 an0 od1 an1 od2 an2 od3 an3 od4 an4 od5 an5 od6 an6 od7 an7 od8 an8 od9 an9 od10 an10 od11 an11 od12 an12 od13 an13 od14 an14 od15 an15 od16 an16 od17 an17 od18 an18 od19 an19 od20 an20 od21 an21 od22 an22 od23 an23 od24 an24 : Option Addr} {sl0 sl1 sl2 sl3 sl4 sl5 sl6 sl7 sl8 sl9 sl10 sl11 sl12 sl13 sl14 sl15 sl16 sl17 sl18 sl19 sl20 sl21 sl22 sl23 sl24 : Array (Option Value)} {oc0 kV0 dc0 pm0 cd0 ct0 oc1 kV1 dc1 pm1 cd1 ct1 oc2 kV2 dc2 pm2 cd2 ct2 oc3 kV3 dc3 pm3 cd3 ct3 oc4 kV4 dc4 pm4 cd4 ct4 oc5 kV5 dc5 pm5 cd5 ct5 oc6 kV6 dc6 pm6 cd6 ct6 oc7 kV7 dc7 pm7 cd7 ct7 oc8 kV8 dc8 pm8 cd8 ct8 oc9 kV9 dc9 pm9 cd9 ct9 oc10 kV10 dc10 pm10 cd10 ct10 oc11 kV11 dc11 pm11 cd11 ct11 oc12 kV12 dc12 pm12 cd12 ct12 oc13 kV13 dc13 pm13 cd13 ct13 oc14 kV14 dc14 pm14 cd14 ct14 oc15 kV15 dc15 pm15 cd15 ct15 oc16 kV16 dc16 pm16 cd16 ct16 oc17 kV17 dc17 pm17 cd17 ct17 oc18 kV18 dc18 pm18 cd18 ct18 oc19 kV19 dc19 pm19 cd19 ct19 oc20 kV20 dc20 pm20 cd20 ct20 oc21 kV21 dc21 pm21 cd21 ct21 oc22 kV22 dc22 pm22 cd22 ct22 oc23 kV23 dc23 pm23 cd23 ct23 oc24 kV24 dc24 pm24 cd24 ct24 : Value}
    (a0 : PySem.W.findIn K (.ref fC) "__init__" = some (some (.ref f0))) (l0 : K.lookup f0 = some ⟨oc0, od0, .func (PySem.W.fnOf "__init__" "NoText.__init__" (defArgs s_notext) (defBody s_notext) (defScope s_notext) .none kV0 dc0 pm0 an0 cd0 ct0), sl0⟩) (c0 : PySem.W.codeIn K cd0 "NoText.__init__" = true) (k0 : PySem.W.keepIn K (.ref f0) = true)
    (n0 : PySem.W.isFn K (.ref f0) = true)
    (y0 : PySem.W.typeIn K (.ref f0) = some (.type "function"))
    (a1 : PySem.W.nsIn K mainGlobals "is_integer" = some (some (.ref f1))) (l1 : K.lookup f1 = some ⟨oc1, od1, .func (PySem.W.fnOf "is_integer" "is_integer" (defArgs s_is_integer) (defBody s_is_integer) (defScope s_is_integer) .none kV1 dc1 pm1 an1 cd1 ct1), sl1⟩) (c1 : PySem.W.codeIn K cd1 "is_integer" = true) (k1 : PySem.W.keepIn K (.ref f1) = true)
    (a2 : PySem.W.nsIn K mainGlobals "is_name" = some (some (.ref f2))) (l2 : K.lookup f2 = some ⟨oc2, od2, .func (PySem.W.fnOf "is_name" "is_name" (defArgs s_is_name) (defBody s_is_name) (defScope s_is_name) .none kV2 dc2 pm2 an2 cd2 ct2), sl2⟩) (c2 : PySem.W.codeIn K cd2 "is_name" = true) (k2 : PySem.W.keepIn K (.ref f2) = true)
    (a3 : PySem.W.nsIn K mainGlobals "is_step" = some (some (.ref f3))) (l3 : K.lookup f3 = some ⟨oc3, od3, .func (PySem.W.fnOf "is_step" "is_step" (defArgs s_is_step) (defBody s_is_step) (defScope s_is_step) .none kV3 dc3 pm3 an3 cd3 ct3), sl3⟩) (c3 : PySem.W.codeIn K cd3 "is_step" = true) (k3 : PySem.W.keepIn K (.ref f3) = true)
    (a4 : PySem.W.nsIn K mainGlobals "has_parts" = some (some (.ref f4))) (l4 : K.lookup f4 = some ⟨oc4, od4, .func (PySem.W.fnOf "has_parts" "has_parts" (defArgs s_has_parts) (defBody s_has_parts) (defScope s_has_parts) .none kV4 dc4 pm4 an4 cd4 ct4), sl4⟩) (c4 : PySem.W.codeIn K cd4 "has_parts" = true) (k4 : PySem.W.keepIn K (.ref f4) = true)
    (a5 : PySem.W.nsIn K mainGlobals "show_words" = some (some (.ref f5))) (l5 : K.lookup f5 = some ⟨oc5, od5, .func (PySem.W.fnOf "show_words" "show_words" (defArgs s_show_words) (defBody s_show_words) (defScope s_show_words) .none kV5 dc5 pm5 an5 cd5 ct5), sl5⟩) (c5 : PySem.W.codeIn K cd5 "show_words" = true) (k5 : PySem.W.keepIn K (.ref f5) = true)
    (a6 : PySem.W.nsIn K mainGlobals "with_feeds" = some (some (.ref f6))) (l6 : K.lookup f6 = some ⟨oc6, od6, .func (PySem.W.fnOf "with_feeds" "with_feeds" (defArgs s_with_feeds) (defBody s_with_feeds) (defScope s_with_feeds) .none kV6 dc6 pm6 an6 cd6 ct6), sl6⟩) (c6 : PySem.W.codeIn K cd6 "with_feeds" = true) (k6 : PySem.W.keepIn K (.ref f6) = true)
    (a7 : PySem.W.nsIn K mainGlobals "show_run" = some (some (.ref f7))) (l7 : K.lookup f7 = some ⟨oc7, od7, .func (PySem.W.fnOf "show_run" "show_run" (defArgs s_show_run) (defBody s_show_run) (defScope s_show_run) .none kV7 dc7 pm7 an7 cd7 ct7), sl7⟩) (c7 : PySem.W.codeIn K cd7 "show_run" = true) (k7 : PySem.W.keepIn K (.ref f7) = true)
    (a8 : PySem.W.nsIn K mainGlobals "read_number" = some (some (.ref f8))) (l8 : K.lookup f8 = some ⟨oc8, od8, .func (PySem.W.fnOf "read_number" "read_number" (defArgs s_read_number) (defBody s_read_number) (defScope s_read_number) .none kV8 dc8 pm8 an8 cd8 ct8), sl8⟩) (c8 : PySem.W.codeIn K cd8 "read_number" = true) (k8 : PySem.W.keepIn K (.ref f8) = true)
    (a9 : PySem.W.nsIn K mainGlobals "read_part" = some (some (.ref f9))) (l9 : K.lookup f9 = some ⟨oc9, od9, .func (PySem.W.fnOf "read_part" "read_part" (defArgs s_read_part) (defBody s_read_part) (defScope s_read_part) .none kV9 dc9 pm9 an9 cd9 ct9), sl9⟩) (c9 : PySem.W.codeIn K cd9 "read_part" = true) (k9 : PySem.W.keepIn K (.ref f9) = true)
    (a10 : PySem.W.nsIn K mainGlobals "read_words" = some (some (.ref f10))) (l10 : K.lookup f10 = some ⟨oc10, od10, .func (PySem.W.fnOf "read_words" "read_words" (defArgs s_read_words) (defBody s_read_words) (defScope s_read_words) .none kV10 dc10 pm10 an10 cd10 ct10), sl10⟩) (c10 : PySem.W.codeIn K cd10 "read_words" = true) (k10 : PySem.W.keepIn K (.ref f10) = true)
    (a11 : PySem.W.nsIn K mainGlobals "read_run" = some (some (.ref f11))) (l11 : K.lookup f11 = some ⟨oc11, od11, .func (PySem.W.fnOf "read_run" "read_run" (defArgs s_read_run) (defBody s_read_run) (defScope s_read_run) .none kV11 dc11 pm11 an11 cd11 ct11), sl11⟩) (c11 : PySem.W.codeIn K cd11 "read_run" = true) (k11 : PySem.W.keepIn K (.ref f11) = true)
    (a12 : PySem.W.nsIn K mainGlobals "_law_bag" = some (some (.ref f12))) (l12 : K.lookup f12 = some ⟨oc12, od12, .func (PySem.W.fnOf "_law_bag" "_law_bag" (defArgs s_bag) (defBody s_bag) (defScope s_bag) .none kV12 dc12 pm12 an12 cd12 ct12), sl12⟩) (c12 : PySem.W.codeIn K cd12 "_law_bag" = true) (k12 : PySem.W.keepIn K (.ref f12) = true)
    (a13 : PySem.W.nsIn K mainGlobals "_law_take" = some (some (.ref f13))) (l13 : K.lookup f13 = some ⟨oc13, od13, .func (PySem.W.fnOf "_law_take" "_law_take" (defArgs s_take) (defBody s_take) (defScope s_take) .none kV13 dc13 pm13 an13 cd13 ct13), sl13⟩) (c13 : PySem.W.codeIn K cd13 "_law_take" = true) (k13 : PySem.W.keepIn K (.ref f13) = true)
    (a14 : PySem.W.nsIn K mainGlobals "_law_alike" = some (some (.ref f14))) (l14 : K.lookup f14 = some ⟨oc14, od14, .func (PySem.W.fnOf "_law_alike" "_law_alike" (defArgs s_alike) (defBody s_alike) (defScope s_alike) .none kV14 dc14 pm14 an14 cd14 ct14), sl14⟩) (c14 : PySem.W.codeIn K cd14 "_law_alike" = true) (k14 : PySem.W.keepIn K (.ref f14) = true)
    (a15 : PySem.W.nsIn K mainGlobals "_law_labels" = some (some (.ref f15))) (l15 : K.lookup f15 = some ⟨oc15, od15, .func (PySem.W.fnOf "_law_labels" "_law_labels" (defArgs s_labels) (defBody s_labels) (defScope s_labels) .none kV15 dc15 pm15 an15 cd15 ct15), sl15⟩) (c15 : PySem.W.codeIn K cd15 "_law_labels" = true) (k15 : PySem.W.keepIn K (.ref f15) = true)
    (a16 : PySem.W.nsIn K mainGlobals "_law_one" = some (some (.ref f16))) (l16 : K.lookup f16 = some ⟨oc16, od16, .func (PySem.W.fnOf "_law_one" "_law_one" (defArgs s_one) (defBody s_one) (defScope s_one) .none kV16 dc16 pm16 an16 cd16 ct16), sl16⟩) (c16 : PySem.W.codeIn K cd16 "_law_one" = true) (k16 : PySem.W.keepIn K (.ref f16) = true)
    (a17 : PySem.W.nsIn K mainGlobals "_law_run" = some (some (.ref f17))) (l17 : K.lookup f17 = some ⟨oc17, od17, .func (PySem.W.fnOf "_law_run" "_law_run" (defArgs s_run) (defBody s_run) (defScope s_run) .none kV17 dc17 pm17 an17 cd17 ct17), sl17⟩) (c17 : PySem.W.codeIn K cd17 "_law_run" = true) (k17 : PySem.W.keepIn K (.ref f17) = true)
    (a18 : PySem.W.nsIn K mainGlobals "_law_spoilt" = some (some (.ref f18))) (l18 : K.lookup f18 = some ⟨oc18, od18, .func (PySem.W.fnOf "_law_spoilt" "_law_spoilt" (defArgs s_spoilt) (defBody s_spoilt) (defScope s_spoilt) .none kV18 dc18 pm18 an18 cd18 ct18), sl18⟩) (c18 : PySem.W.codeIn K cd18 "_law_spoilt" = true) (k18 : PySem.W.keepIn K (.ref f18) = true)
    (a19 : PySem.W.nsIn K mainGlobals "_law_is_spelt" = some (some (.ref f19))) (l19 : K.lookup f19 = some ⟨oc19, od19, .func (PySem.W.fnOf "_law_is_spelt" "_law_is_spelt" (defArgs s_is_spelt) (defBody s_is_spelt) (defScope s_is_spelt) .none kV19 dc19 pm19 an19 cd19 ct19), sl19⟩) (c19 : PySem.W.codeIn K cd19 "_law_is_spelt" = true) (k19 : PySem.W.keepIn K (.ref f19) = true)
    (a20 : PySem.W.nsIn K mainGlobals "_law_is_figure" = some (some (.ref f20))) (l20 : K.lookup f20 = some ⟨oc20, od20, .func (PySem.W.fnOf "_law_is_figure" "_law_is_figure" (defArgs s_is_figure) (defBody s_is_figure) (defScope s_is_figure) .none kV20 dc20 pm20 an20 cd20 ct20), sl20⟩) (c20 : PySem.W.codeIn K cd20 "_law_is_figure" = true) (k20 : PySem.W.keepIn K (.ref f20) = true)
    (a21 : PySem.W.nsIn K mainGlobals "_law_step_of" = some (some (.ref f21))) (l21 : K.lookup f21 = some ⟨oc21, od21, .func (PySem.W.fnOf "_law_step_of" "_law_step_of" (defArgs s_step_of) (defBody s_step_of) (defScope s_step_of) .none kV21 dc21 pm21 an21 cd21 ct21), sl21⟩) (c21 : PySem.W.codeIn K cd21 "_law_step_of" = true) (k21 : PySem.W.keepIn K (.ref f21) = true)
    (a22 : PySem.W.nsIn K mainGlobals "_law_run_of" = some (some (.ref f22))) (l22 : K.lookup f22 = some ⟨oc22, od22, .func (PySem.W.fnOf "_law_run_of" "_law_run_of" (defArgs s_run_of) (defBody s_run_of) (defScope s_run_of) .none kV22 dc22 pm22 an22 cd22 ct22), sl22⟩) (c22 : PySem.W.codeIn K cd22 "_law_run_of" = true) (k22 : PySem.W.keepIn K (.ref f22) = true)
    (a23 : PySem.W.nsIn K mainGlobals "_law_told" = some (some (.ref f23))) (l23 : K.lookup f23 = some ⟨oc23, od23, .func (PySem.W.fnOf "_law_told" "_law_told" (defArgs s_told) (defBody s_told) (defScope s_told) .none kV23 dc23 pm23 an23 cd23 ct23), sl23⟩) (c23 : PySem.W.codeIn K cd23 "_law_told" = true) (k23 : PySem.W.keepIn K (.ref f23) = true)
    (a24 : PySem.W.nsIn K mainGlobals "law" = some (some (.ref f24))) (l24 : K.lookup f24 = some ⟨oc24, od24, .func (PySem.W.fnOf "law" "law" (defArgs s_law) (defBody s_law) (defScope s_law) .none kV24 dc24 pm24 an24 cd24 ct24), sl24⟩) (c24 : PySem.W.codeIn K cd24 "law" = true) (k24 : PySem.W.keepIn K (.ref f24) = true)
    {t_LONGEST_NAME : Tok} (g_LONGEST_NAME : PySem.W.nsIn K mainGlobals "LONGEST_NAME" = some (some (.int 8 t_LONGEST_NAME)))
    {t_MOST_DIGITS : Tok} (g_MOST_DIGITS : PySem.W.nsIn K mainGlobals "MOST_DIGITS" = some (some (.int 40 t_MOST_DIGITS)))
    {t_NO_TARGET : Tok} (g_NO_TARGET : PySem.W.nsIn K mainGlobals "NO_TARGET" = some (some (.str "-" t_NO_TARGET)))
    (z_abs : PySem.W.nsIn K mainGlobals "abs" = some none)
    (z_all : PySem.W.nsIn K mainGlobals "all" = some none)
    (z_any : PySem.W.nsIn K mainGlobals "any" = some none)
    (z_bool : PySem.W.nsIn K mainGlobals "bool" = some none)
    (z_int : PySem.W.nsIn K mainGlobals "int" = some none)
    (z_isinstance : PySem.W.nsIn K mainGlobals "isinstance" = some none)
    (z_len : PySem.W.nsIn K mainGlobals "len" = some none)
    (z_list : PySem.W.nsIn K mainGlobals "list" = some none)
    (z_range : PySem.W.nsIn K mainGlobals "range" = some none)
    (z_repr : PySem.W.nsIn K mainGlobals "repr" = some none)
    (z_str : PySem.W.nsIn K mainGlobals "str" = some none)
    (z_tuple : PySem.W.nsIn K mainGlobals "tuple" = some none)
    (z_zip : PySem.W.nsIn K mainGlobals "zip" = some none)
    {fSTEP_FORMS : Addr} {esSTEP_FORMS : Array DictEntry} {nSTEP_FORMS : Nat} (aSTEP_FORMS : PySem.W.nsIn K mainGlobals "STEP_FORMS" = some (some (.ref fSTEP_FORMS))) (lSTEP_FORMS : K.lookup fSTEP_FORMS = some ⟨.type "dict", none, .dict esSTEP_FORMS nSTEP_FORMS, #[]⟩) (kSTEP_FORMS : PySem.W.KeysLit w.params esSTEP_FORMS.toList) (tSTEP_FORMS : TabN K esSTEP_FORMS.toList t_STEP_FORMS) (sSTEP_FORMS : (fSTEP_FORMS == sysModules) = false)
    : ∃ fd : FuncData, (∀ (s : Shared) (v : Value), BindsTo s fd ⟨[v], []⟩ [("_law_script", v)]) ∧ ∀ base : Heap, K.In base → base.Ns mainGlobals mg → FnG l.prog w K mg base 7 fa fd ["_law_script"] (spLaw K) := by
  have e := hfa.symm.trans (PySem.W.mg_of X G a24)
  cases e
  have F0 := fun_mk (st := s_notext) l0 c0 k0
  have b0 := F0.binds (ps := ["self"]) fun _ _ _ _ _ _ us hl => match us, hl with | [_], _ => rfl
  have F1 := fun_mk (st := s_is_integer) l1 c1 k1
  have b1 := F1.binds (ps := ["thing"]) fun _ _ _ _ _ _ us hl => match us, hl with | [_], _ => rfl
  have F2 := fun_mk (st := s_is_name) l2 c2 k2
  have b2 := F2.binds (ps := ["thing"]) fun _ _ _ _ _ _ us hl => match us, hl with | [_], _ => rfl
  have F3 := fun_mk (st := s_is_step) l3 c3 k3
  have b3 := F3.binds (ps := ["thing"]) fun _ _ _ _ _ _ us hl => match us, hl with | [_], _ => rfl
  have F4 := fun_mk (st := s_has_parts) l4 c4 k4
  have b4 := F4.binds (ps := ["kinds", "parts"]) fun _ _ _ _ _ _ us hl => match us, hl with | [_, _], _ => rfl
  have F5 := fun_mk (st := s_show_words) l5 c5 k5
  have b5 := F5.binds (ps := ["parts"]) fun _ _ _ _ _ _ us hl => match us, hl with | [_], _ => rfl
  have F6 := fun_mk (st := s_with_feeds) l6 c6 k6
  have b6 := F6.binds (ps := ["lines"]) fun _ _ _ _ _ _ us hl => match us, hl with | [_], _ => rfl
  have F7 := fun_mk (st := s_show_run) l7 c7 k7
  have b7 := F7.binds (ps := ["run"]) fun _ _ _ _ _ _ us hl => match us, hl with | [_], _ => rfl
  have F8 := fun_mk (st := s_read_number) l8 c8 k8
  have b8 := F8.binds (ps := ["word"]) fun _ _ _ _ _ _ us hl => match us, hl with | [_], _ => rfl
  have F9 := fun_mk (st := s_read_part) l9 c9 k9
  have b9 := F9.binds (ps := ["word"]) fun _ _ _ _ _ _ us hl => match us, hl with | [_], _ => rfl
  have F10 := fun_mk (st := s_read_words) l10 c10 k10
  have b10 := F10.binds (ps := ["line"]) fun _ _ _ _ _ _ us hl => match us, hl with | [_], _ => rfl
  have F11 := fun_mk (st := s_read_run) l11 c11 k11
  have b11 := F11.binds (ps := ["text"]) fun _ _ _ _ _ _ us hl => match us, hl with | [_], _ => rfl
  have F12 := fun_mk (st := s_bag) l12 c12 k12
  have b12 := F12.binds (ps := ["_law_script"]) fun _ _ _ _ _ _ us hl => match us, hl with | [_], _ => rfl
  have F13 := fun_mk (st := s_take) l13 c13 k13
  have b13 := F13.binds (ps := ["_law_bag_here", "_law_many"]) fun _ _ _ _ _ _ us hl => match us, hl with | [_, _], _ => rfl
  have F14 := fun_mk (st := s_alike) l14 c14 k14
  have b14 := F14.binds (ps := ["_law_found", "_law_right"]) fun _ _ _ _ _ _ us hl => match us, hl with | [_, _], _ => rfl
  have F15 := fun_mk (st := s_labels) l15 c15 k15
  have b15 := F15.binds (ps := ["_law_bag_here", "_law_many"]) fun _ _ _ _ _ _ us hl => match us, hl with | [_, _], _ => rfl
  have F16 := fun_mk (st := s_one) l16 c16 k16
  have b16 := F16.binds (ps := ["_law_bag_here", "_law_some"]) fun _ _ _ _ _ _ us hl => match us, hl with | [_, _], _ => rfl
  have F17 := fun_mk (st := s_run) l17 c17 k17
  have b17 := F17.binds (ps := ["_law_bag_here", "_law_labels_here"]) fun _ _ _ _ _ _ us hl => match us, hl with | [_, _], _ => rfl
  have F18 := fun_mk (st := s_spoilt) l18 c18 k18
  have b18 := F18.binds (ps := ["_law_bag_here", "_law_text"]) fun _ _ _ _ _ _ us hl => match us, hl with | [_, _], _ => rfl
  have F19 := fun_mk (st := s_is_spelt) l19 c19 k19
  have b19 := F19.binds (ps := ["_law_thing"]) fun _ _ _ _ _ _ us hl => match us, hl with | [_], _ => rfl
  have F20 := fun_mk (st := s_is_figure) l20 c20 k20
  have b20 := F20.binds (ps := ["_law_word"]) fun _ _ _ _ _ _ us hl => match us, hl with | [_], _ => rfl
  have F21 := fun_mk (st := s_step_of) l21 c21 k21
  have b21 := F21.binds (ps := ["_law_line"]) fun _ _ _ _ _ _ us hl => match us, hl with | [_], _ => rfl
  have F22 := fun_mk (st := s_run_of) l22 c22 k22
  have b22 := F22.binds (ps := ["_law_thing"]) fun _ _ _ _ _ _ us hl => match us, hl with | [_], _ => rfl
  have F23 := fun_mk (st := s_told) l23 c23 k23
  have b23 := F23.binds (ps := ["_law_thing"]) fun _ _ _ _ _ _ us hl => match us, hl with | [_], _ => rfl
  have F24 := fun_mk (st := s_law) l24 c24 k24
  have T : Txt0 mg := ⟨PySem.W.mg_none_of X G z_abs, PySem.W.mg_none_of X G z_all, PySem.W.mg_none_of X G z_any, PySem.W.mg_none_of X G z_bool, PySem.W.mg_none_of X G z_int, PySem.W.mg_none_of X G z_isinstance, PySem.W.mg_none_of X G z_len, PySem.W.mg_none_of X G z_list, PySem.W.mg_none_of X G z_range, PySem.W.mg_none_of X G z_repr, PySem.W.mg_none_of X G z_str, PySem.W.mg_none_of X G z_tuple, PySem.W.mg_none_of X G z_zip, ⟨_, PySem.W.mg_of X G g_LONGEST_NAME⟩, ⟨_, PySem.W.mg_of X G g_MOST_DIGITS⟩⟩
  have TK : TxtK K w mg := ⟨⟨_, PySem.W.mg_of X G aSTEP_FORMS, ⟨esSTEP_FORMS, nSTEP_FORMS, lSTEP_FORMS, kSTEP_FORMS, tSTEP_FORMS, sSTEP_FORMS⟩⟩, ⟨_, PySem.W.mg_of X G g_NO_TARGET⟩⟩
  have OX : OexC K fC := x_oex xW (ve_B fA) (ve_r fA) sW
  have R : CA K mg fA fC := ⟨PySem.W.mg_of X G afA, PySem.W.mg_of X G afC, exmW, x_exc xW (ve_B fA) (ve_O fA) gW hW yW hnG htG⟩
  refine ⟨PySem.W.fnOf "law" "law" (defArgs s_law) (defBody s_law) (defScope s_law) .none kV24 dc24 pm24 an24 cd24 ct24, fun s v => .of_eq rfl, fun base _ _ => ?_⟩
  have c_int : ClG l.prog w K mg base 1 "is_integer" (spF K (spP intD)) := ⟨_, _, _, ok_is_integer F1 T, PySem.W.mg_of X G a1, k1, b1⟩
  have c_name : ClG l.prog w K mg base 1 "is_name" (spF K (spP nameD)) := ⟨_, _, _, ok_is_name F2 T, PySem.W.mg_of X G a2, k2, b2⟩
  have c_parts : ClG l.prog w K mg base 3 "has_parts" (spF K spParts) := ⟨_, _, _, ok_has_parts F4 T c_name c_int, PySem.W.mg_of X G a4, k4, b4⟩
  have c_step : ClG l.prog w K mg base 4 "is_step" (spF K spStep) := ⟨_, _, _, ok_is_step F3 T TK c_parts, PySem.W.mg_of X G a3, k3, b3⟩
  have c_swords : ClG l.prog w K mg base 1 "show_words" (spF K spShow) := ⟨_, _, _, ok_show_words F5 T TK, PySem.W.mg_of X G a5, k5, b5⟩
  have c_feeds : ClG l.prog w K mg base 1 "with_feeds" (spF K spFeeds) := ⟨_, _, _, ok_with_feeds F6 T, PySem.W.mg_of X G a6, k6, b6⟩
  have c_show : ClG l.prog w K mg base 2 "show_run" (spF K spRun) := ⟨_, _, _, ok_show_run F7 T c_swords c_feeds, PySem.W.mg_of X G a7, k7, b7⟩
  have c_num : ClG l.prog w K mg base 1 "read_number" (spF K spNum) := ⟨_, _, _, ok_read_number F8 T, PySem.W.mg_of X G a8, k8, b8⟩
  have c_part : ClG l.prog w K mg base 2 "read_part" (spF K spPart) := ⟨_, _, _, ok_read_part F9 T TK c_num, PySem.W.mg_of X G a9, k9, b9⟩
  have c_words : ClG l.prog w K mg base 3 "read_words" (spF K spWords) := ⟨_, _, _, ok_read_words F10 T c_part, PySem.W.mg_of X G a10, k10, b10⟩
  have RN : CN l.prog w K mg base fC := ⟨⟨_, _, ok_notext F0, a0, y0, b0⟩, OX, PySem.W.mg_of X G afC⟩
  have c_read : ClX l.prog w K mg base 5 "read_run" (spRead K fC) := ⟨⟨_, _, _, ok_read_run F11 T c_words c_step c_show RN, PySem.W.mg_of X G a11, k11, b11⟩⟩
  have c_bag : Cl l.prog w K mg base 1 "_law_bag" (spBag K) := ⟨_, _, _, ok_bag F12 T, PySem.W.mg_of X G a12, k12, b12⟩
  have h_take : Cl l.prog w K mg base 1 "_law_take" (spTake) := ⟨_, _, _, ok_take F13 T, PySem.W.mg_of X G a13, k13, b13⟩
  have c_take : ClG l.prog w K mg base 1 "_law_take" (spF K S_take) := clG_of h_take take_of
  have h_labels : Cl l.prog w K mg base 2 "_law_labels" (spLabels) := ⟨_, _, _, ok_labels F15 T h_take, PySem.W.mg_of X G a15, k15, b15⟩
  have c_labels : ClG l.prog w K mg base 2 "_law_labels" (spF K S_labels) := clG_of h_labels labels_of
  have c_alike : ClG l.prog w K mg base 1 "_law_alike" (spF K S_alike) := ⟨_, _, _, ok_alikeD F14 T, PySem.W.mg_of X G a14, k14, b14⟩
  have c_one : ClG l.prog w K mg base 2 "_law_one" (spF K S_one) := ⟨_, _, _, ok_one F16 T c_take, PySem.W.mg_of X G a16, k16, b16⟩
  have c_run : ClG l.prog w K mg base 3 "_law_run" (spF K S_run) := ⟨_, _, _, ok_run F17 T c_take c_one, PySem.W.mg_of X G a17, k17, b17⟩
  have c_sp : ClG l.prog w K mg base 2 "_law_spoilt" (spF K S_spoilt) := ⟨_, _, _, ok_spoilt F18 T c_take, PySem.W.mg_of X G a18, k18, b18⟩
  have c_spelt : ClG l.prog w K mg base 1 "_law_is_spelt" (spF K (spText fun z => .bool (nameS z))) := ⟨_, _, _, ok_is_spelt F19 T, PySem.W.mg_of X G a19, k19, b19⟩
  have c_fig : ClG l.prog w K mg base 1 "_law_is_figure" (spF K (spText fun z => .bool (figS z))) := ⟨_, _, _, ok_is_figure F20 T, PySem.W.mg_of X G a20, k20, b20⟩
  have c_stepof : ClG l.prog w K mg base 2 "_law_step_of" (spF K (spText stepL)) := ⟨_, _, _, ok_step_of F21 T c_fig c_spelt, PySem.W.mg_of X G a21, k21, b21⟩
  have c_runof : ClG l.prog w K mg base 3 "_law_run_of" (spF K spRunOf) := ⟨_, _, _, ok_run_of F22 T c_stepof, PySem.W.mg_of X G a22, k22, b22⟩
  have c_told : ClG l.prog w K mg base 6 "_law_told" (spF K S_told) := ⟨_, _, _, ok_told F23 T R c_read, PySem.W.mg_of X G a23, k23, b23⟩
  exact ok_law F24 T c_bag c_take c_labels c_run c_sp c_runof c_told c_alike
end K96
open PySem PySem.W PyProof.Rows
set_option maxHeartbeats 0 in
theorem PySem.Challenge.cw_askless_k96_runs_read_holds : PySem.Challenge.rw_askless_k96_runs_read.Holds := by
  w_on; o_law; k_head; (case hw => w_witness2)
  k_fill
  refine GL.walkG (l := PySem.Challenge.rw_askless_k96_runs_read) (n := 63) (k := 7) (x := "_law_script") (sp := fun w => K96.spLaw _) rfl (by decide) rfl ⟨rfl, by decide, by decide⟩ (fun w h Y => PySem.W.kIn_of Y) ?F (fun _ _ a ns hl _ hS => ⟨a, ns, rfl, hS, hl, fun _ => rfl⟩)
  case F =>
    intro w mg fa h KX G hmg
    refine' K96.all_mk (w := w) KX G hmg ?xafC ?xafA ?xhnG ?xhtG ?xxW ?xsW ?xgW ?xhW ?xyW ?xexmW ?xa0 ?xl0 ?xc0 ?xk0 ?xn0 ?xy0 ?xa1 ?xl1 ?xc1 ?xk1 ?xa2 ?xl2 ?xc2 ?xk2 ?xa3 ?xl3 ?xc3 ?xk3 ?xa4 ?xl4 ?xc4 ?xk4 ?xa5 ?xl5 ?xc5 ?xk5 ?xa6 ?xl6 ?xc6 ?xk6 ?xa7 ?xl7 ?xc7 ?xk7 ?xa8 ?xl8 ?xc8 ?xk8 ?xa9 ?xl9 ?xc9 ?xk9 ?xa10 ?xl10 ?xc10 ?xk10 ?xa11 ?xl11 ?xc11 ?xk11 ?xa12 ?xl12 ?xc12 ?xk12 ?xa13 ?xl13 ?xc13 ?xk13 ?xa14 ?xl14 ?xc14 ?xk14 ?xa15 ?xl15 ?xc15 ?xk15 ?xa16 ?xl16 ?xc16 ?xk16 ?xa17 ?xl17 ?xc17 ?xk17 ?xa18 ?xl18 ?xc18 ?xk18 ?xa19 ?xl19 ?xc19 ?xk19 ?xa20 ?xl20 ?xc20 ?xk20 ?xa21 ?xl21 ?xc21 ?xk21 ?xa22 ?xl22 ?xc22 ?xk22 ?xa23 ?xl23 ?xc23 ?xk23 ?xa24 ?xl24 ?xc24 ?xk24 ?xg_LONGEST_NAME ?xg_MOST_DIGITS ?xg_NO_TARGET ?xz_abs ?xz_all ?xz_any ?xz_bool ?xz_int ?xz_isinstance ?xz_len ?xz_list ?xz_range ?xz_repr ?xz_str ?xz_tuple ?xz_zip ?xaSTEP_FORMS ?xlSTEP_FORMS ?xkSTEP_FORMS ?xtSTEP_FORMS ?xsSTEP_FORMS
    (case xafC => first | rfl | k_is)
    (case xafA => first | rfl | k_is)
    (case xhnG => first | rfl | k_is)
    (case xhtG => first | rfl | k_is)
    (case xxW => first | rfl | k_is)
    (case xsW => first | rfl | k_is)
    (case xgW => first | rfl | k_is)
    (case xhW => first | rfl | k_is)
    (case xyW => first | rfl | k_is)
    (case xexmW => first | rfl | k_is)
    (case xa0 => first | rfl | k_is)
    (case xl0 => first | rfl | k_is)
    (case xc0 => first | rfl | k_is)
    (case xk0 => first | rfl | k_is)
    (case xn0 => first | rfl | k_is)
    (case xy0 => first | rfl | k_is)
    (case xa1 => first | rfl | k_is)
    (case xl1 => first | rfl | k_is)
    (case xc1 => first | rfl | k_is)
    (case xk1 => first | rfl | k_is)
    (case xa2 => first | rfl | k_is)
    (case xl2 => first | rfl | k_is)
    (case xc2 => first | rfl | k_is)
    (case xk2 => first | rfl | k_is)
    (case xa3 => first | rfl | k_is)
    (case xl3 => first | rfl | k_is)
    (case xc3 => first | rfl | k_is)
    (case xk3 => first | rfl | k_is)
    (case xa4 => first | rfl | k_is)
    (case xl4 => first | rfl | k_is)
    (case xc4 => first | rfl | k_is)
    (case xk4 => first | rfl | k_is)
    (case xa5 => first | rfl | k_is)
    (case xl5 => first | rfl | k_is)
    (case xc5 => first | rfl | k_is)
    (case xk5 => first | rfl | k_is)
    (case xa6 => first | rfl | k_is)
    (case xl6 => first | rfl | k_is)
    (case xc6 => first | rfl | k_is)
    (case xk6 => first | rfl | k_is)
    (case xa7 => first | rfl | k_is)
    (case xl7 => first | rfl | k_is)
    (case xc7 => first | rfl | k_is)
    (case xk7 => first | rfl | k_is)
    (case xa8 => first | rfl | k_is)
    (case xl8 => first | rfl | k_is)
    (case xc8 => first | rfl | k_is)
    (case xk8 => first | rfl | k_is)
    (case xa9 => first | rfl | k_is)
    (case xl9 => first | rfl | k_is)
    (case xc9 => first | rfl | k_is)
    (case xk9 => first | rfl | k_is)
    (case xa10 => first | rfl | k_is)
    (case xl10 => first | rfl | k_is)
    (case xc10 => first | rfl | k_is)
    (case xk10 => first | rfl | k_is)
    (case xa11 => first | rfl | k_is)
    (case xl11 => first | rfl | k_is)
    (case xc11 => first | rfl | k_is)
    (case xk11 => first | rfl | k_is)
    (case xa12 => first | rfl | k_is)
    (case xl12 => first | rfl | k_is)
    (case xc12 => first | rfl | k_is)
    (case xk12 => first | rfl | k_is)
    (case xa13 => first | rfl | k_is)
    (case xl13 => first | rfl | k_is)
    (case xc13 => first | rfl | k_is)
    (case xk13 => first | rfl | k_is)
    (case xa14 => first | rfl | k_is)
    (case xl14 => first | rfl | k_is)
    (case xc14 => first | rfl | k_is)
    (case xk14 => first | rfl | k_is)
    (case xa15 => first | rfl | k_is)
    (case xl15 => first | rfl | k_is)
    (case xc15 => first | rfl | k_is)
    (case xk15 => first | rfl | k_is)
    (case xa16 => first | rfl | k_is)
    (case xl16 => first | rfl | k_is)
    (case xc16 => first | rfl | k_is)
    (case xk16 => first | rfl | k_is)
    (case xa17 => first | rfl | k_is)
    (case xl17 => first | rfl | k_is)
    (case xc17 => first | rfl | k_is)
    (case xk17 => first | rfl | k_is)
    (case xa18 => first | rfl | k_is)
    (case xl18 => first | rfl | k_is)
    (case xc18 => first | rfl | k_is)
    (case xk18 => first | rfl | k_is)
    (case xa19 => first | rfl | k_is)
    (case xl19 => first | rfl | k_is)
    (case xc19 => first | rfl | k_is)
    (case xk19 => first | rfl | k_is)
    (case xa20 => first | rfl | k_is)
    (case xl20 => first | rfl | k_is)
    (case xc20 => first | rfl | k_is)
    (case xk20 => first | rfl | k_is)
    (case xa21 => first | rfl | k_is)
    (case xl21 => first | rfl | k_is)
    (case xc21 => first | rfl | k_is)
    (case xk21 => first | rfl | k_is)
    (case xa22 => first | rfl | k_is)
    (case xl22 => first | rfl | k_is)
    (case xc22 => first | rfl | k_is)
    (case xk22 => first | rfl | k_is)
    (case xa23 => first | rfl | k_is)
    (case xl23 => first | rfl | k_is)
    (case xc23 => first | rfl | k_is)
    (case xk23 => first | rfl | k_is)
    (case xa24 => first | rfl | k_is)
    (case xl24 => first | rfl | k_is)
    (case xc24 => first | rfl | k_is)
    (case xk24 => first | rfl | k_is)
    (case xg_LONGEST_NAME => first | rfl | k_is)
    (case xg_MOST_DIGITS => first | rfl | k_is)
    (case xg_NO_TARGET => first | rfl | k_is)
    (case xz_abs => first | rfl | k_is)
    (case xz_all => first | rfl | k_is)
    (case xz_any => first | rfl | k_is)
    (case xz_bool => first | rfl | k_is)
    (case xz_int => first | rfl | k_is)
    (case xz_isinstance => first | rfl | k_is)
    (case xz_len => first | rfl | k_is)
    (case xz_list => first | rfl | k_is)
    (case xz_range => first | rfl | k_is)
    (case xz_repr => first | rfl | k_is)
    (case xz_str => first | rfl | k_is)
    (case xz_tuple => first | rfl | k_is)
    (case xz_zip => first | rfl | k_is)
    (case xaSTEP_FORMS => first | rfl | k_is)
    (case xlSTEP_FORMS => first | rfl | k_is)
    (case xkSTEP_FORMS => exact ⟨⟨_, _, rfl, rfl⟩, ⟨_, _, rfl, rfl⟩, ⟨_, _, rfl, rfl⟩, ⟨_, _, rfl, rfl⟩, ⟨_, _, rfl, rfl⟩, ⟨_, _, rfl, rfl⟩, ⟨_, _, rfl, rfl⟩, ⟨_, _, rfl, rfl⟩, trivial⟩)
    (case xtSTEP_FORMS =>
      refine DL.TabN.cons (K96.kt_refs [_, _] (by first | rfl | k_is) rfl rfl (by rw [sizeLine_eq]; decide) (.cons rfl (.cons rfl .nil)) (K96.drk_cons (K96.kt_strs [_] (by first | rfl | k_is) rfl rfl (by rw [sizeLine_eq]; decide) (.cons ⟨_, rfl⟩ .nil)) (K96.drk_cons (K96.kt_strs [_, _] (by first | rfl | k_is) rfl rfl (by rw [sizeLine_eq]; decide) (.cons ⟨_, rfl⟩ (.cons ⟨_, rfl⟩ .nil))) K96.drk_nil))) ?_
      refine DL.TabN.cons (K96.kt_refs [_] (by first | rfl | k_is) rfl rfl (by rw [sizeLine_eq]; decide) (.cons rfl .nil) (K96.drk_cons (K96.kt_strs [_] (by first | rfl | k_is) rfl rfl (by rw [sizeLine_eq]; decide) (.cons ⟨_, rfl⟩ .nil)) K96.drk_nil)) ?_
      refine DL.TabN.cons (K96.kt_refs [_] (by first | rfl | k_is) rfl rfl (by rw [sizeLine_eq]; decide) (.cons rfl .nil) (K96.drk_cons (K96.kt_strs [_] (by first | rfl | k_is) rfl rfl (by rw [sizeLine_eq]; decide) (.cons ⟨_, rfl⟩ .nil)) K96.drk_nil)) ?_
      refine DL.TabN.cons (K96.kt_refs [_] (by first | rfl | k_is) rfl rfl (by rw [sizeLine_eq]; decide) (.cons rfl .nil) (K96.drk_cons (K96.kt_strs [] (by first | rfl | k_is) rfl rfl (by rw [sizeLine_eq]; decide) .nil) K96.drk_nil)) ?_
      refine DL.TabN.cons (K96.kt_refs [_] (by first | rfl | k_is) rfl rfl (by rw [sizeLine_eq]; decide) (.cons rfl .nil) (K96.drk_cons (K96.kt_strs [_] (by first | rfl | k_is) rfl rfl (by rw [sizeLine_eq]; decide) (.cons ⟨_, rfl⟩ .nil)) K96.drk_nil)) ?_
      refine DL.TabN.cons (K96.kt_refs [_] (by first | rfl | k_is) rfl rfl (by rw [sizeLine_eq]; decide) (.cons rfl .nil) (K96.drk_cons (K96.kt_strs [_, _] (by first | rfl | k_is) rfl rfl (by rw [sizeLine_eq]; decide) (.cons ⟨_, rfl⟩ (.cons ⟨_, rfl⟩ .nil))) K96.drk_nil)) ?_
      refine DL.TabN.cons (K96.kt_refs [_] (by first | rfl | k_is) rfl rfl (by rw [sizeLine_eq]; decide) (.cons rfl .nil) (K96.drk_cons (K96.kt_strs [_, _, _] (by first | rfl | k_is) rfl rfl (by rw [sizeLine_eq]; decide) (.cons ⟨_, rfl⟩ (.cons ⟨_, rfl⟩ (.cons ⟨_, rfl⟩ .nil)))) K96.drk_nil)) ?_
      refine DL.TabN.cons (K96.kt_refs [_] (by first | rfl | k_is) rfl rfl (by rw [sizeLine_eq]; decide) (.cons rfl .nil) (K96.drk_cons (K96.kt_strs [_, _] (by first | rfl | k_is) rfl rfl (by rw [sizeLine_eq]; decide) (.cons ⟨_, rfl⟩ (.cons ⟨_, rfl⟩ .nil))) K96.drk_nil)) ?_
      exact .nil)
    (case xsSTEP_FORMS => rfl)
