import PyProof.Rows.All
import Wide.All
import OpenK.AllK
import Wide.FinOn
import KE.KExcIs
import HandS.ForExc
import HandS.ExcInit
import HandS.ExcField
import HandS.ExcValue
import HandS.ExcIs
import HandS.IsInst
import HandS.Evl
import HandS.HeadHook4
import KE.KStateDown
import Lean
import HandS.ForMost
import HandS.Head0
import HandS.Head1
import HandS.Head2
import HandS.HeadEnd
import HandS.Walk
import HandS.Star
import HandS.SetKeys
import HandS.DictComp
import HandS.TupAny
import HandS.TryMany
import HandS.Lambda
import HandS.Conv
import HandS.Sort
import KE.KDictSum
import HandS.More
import KE.KDictCopyH
import HandS.Iter
import KE.GoesEnum
import HandS.Style
import HandS.Wide
import HandS.DictEq
import HandS.DeepEq
import HandS.NoneIn
import HandS.EndTab
import PySem.Challenge.RW_unknowncalls_k03_names_refused
set_option Elab.async false
set_option linter.all false
set_option maxRecDepth 100000
set_option maxHeartbeats 0
/-! Exceptions of the program's own as values: made by a call, their attributes read, asked by isinstance. -/
namespace KV
open PySem PySem.Spec PyProof.Rows L2 Evl

/-- an exception of the class at C that has the attributes fs -/
def IsEx (H : Hp) (a C : Addr) (fs : List (Str × V)) : Prop :=
  (fs = [] ∧ H a = some (exo a C none)) ∨ ∃ d, H a = some (exo a C (some d)) ∧ H d = some (exd d fs)
theorem IsEx.ex {H H' : Hp} {a C : Addr} {fs : List (Str × V)} (e : Ex H H') (h : IsEx H a C fs) : IsEx H' a C fs := by
  rcases h with ⟨z, h⟩ | ⟨d, h1, h2⟩
  · exact .inl ⟨z, e _ _ h⟩
  · exact .inr ⟨d, e _ _ h1, e _ _ h2⟩

/-- C(..) of a class with its own __init__: the new exception is tracked -/
def tNewE (C : Addr) (sp : Sp) (ta : TA) : TE := fun σ H Q =>
  ta σ H fun vs H1 => vs.length ≤ 1000 ∧ ∀ a, H1 a = none →
    sp (.ref a :: vs) (upd H1 a (exo a C none)) (fun v H2 => v = .non ∧ Q (.ref a) H2) (fun _ _ _ => False)
section
variable {X : Cx} {e : Expr} {es : List Expr} {ta te : TE} {t : TA} {x f : Str} {p pos : Pos} {C fI : Addr} {k : Nat} {fd : FuncData} {ps : List Str} {sp : Sp}
theorem pe_newE (T : OexC X.K C) (iC : PySem.W.findIn X.K (.ref C) "__init__" = some (some (.ref fI)))
    (tI : PySem.W.typeIn X.K (.ref fI) = some (.type "function"))
    (F1 : FnOk X.prog X.w X.K X.mg X.base CX0 k fI fd ps sp) (hr : Room (k + 1) X.A) (hb : Binds X.K fd ps [])
    (hg : Gl X x) (hm : X.mg x = some (.ref C)) (ha : PA X (e :: es) t)
    (hdb : (x == ("__debug__" : Str)) = false := by decide)
    (he : starEach (e :: es) X.env = (false, eval e X.env) :: starEach es X.env := by rfl)
    (hpl : (backTo pos (starEach es X.env)).any (·.1) = false := by rfl) :
    PE X (.Call (.Name x p) (e :: es) [] pos) (tNewE C sp t) := by
  constructor
  intro pins s σ H Q I h
  obtain ⟨c1, c2, c3, c4, bm, c6, c7, c8, c9, c10, k0, k1, k2, k3, k5, hC, hbm⟩ := T.cls
  refine wpAny_Call_Name_kw (ld_glob I hg hm ?_ hdb)
  refine PySem.W.callWith_K (h₀ := X.base) I.ok.mod.kin T.kC (thn (ha.run pos pins s σ H _ I h) ?_) he hpl
  rintro us ⟨hp, g, dr, tk, os⟩ ⟨vs, H1, I1, r1, hz, q1⟩
  refine ⟨I1.kIn, ?_⟩
  have hn : H1 (hp.objs.size + 1) = none := I1.hok.fresh (Nat.le_succ _)
  have q2 := q1 (hp.objs.size + 1) hn
  have old : ∀ b o, hp.get? b = some o →
      ((hp.push (PySem.W.kdv_tup us)).push (PySem.HandSPX.excO C hp.objs.size)).get? b = some o :=
    fun b o z => Heap.get?_push_of_some _ (Heap.get?_push_of_some _ z)
  have there : ((hp.push (PySem.W.kdv_tup us)).push (PySem.HandSPX.excO C hp.objs.size)).get? (hp.objs.size + 1)
      = some (PySem.HandSPX.excO C hp.objs.size) := by heap_get
  have I2 := I1.laid (t' := tk) (a := hp.objs.size + 1) (o := exo (hp.objs.size + 1) C none)
    (h' := (hp.push (PySem.W.kdv_tup us)).push (PySem.HandSPX.excO C hp.objs.size)) old (Nat.le_succ _) (exo_ok there)
  have r2 : Vals (V.ref (hp.objs.size + 1) :: vs) (Value.ref (hp.objs.size + 1) :: us) := .cons rfl r1
  have hl : (Value.ref (hp.objs.size + 1) :: us ++ []).length = ps.length := by
    rw [List.append_nil, ← r2.length]
    exact F1.len _ _ _ _ q2
  have r3 : Vals (V.ref (hp.objs.size + 1) :: vs) (Value.ref (hp.objs.size + 1) :: us ++ []) := by
    rw [List.append_nil]
    exact r2
  have hus : us.length ≤ sizeLine := by
    rw [← r1.length, sizeLine_eq]
    omega
  refine wpAny_call (PySem.HandSPX.call_own F.excBase_ValueError (fun Y => PySem.HandSPX.refsVE_contains Y bm hbm)
    (I1.kIn _ _ hC) (PySem.W.looks_findIn I1.kIn iC) (fun self => PySem.W.bind_fn I1.kIn self tI) hus ?_)
  refine codeAny_mono (F1.run _ X.stack _ _ ⟨Value.ref (hp.objs.size + 1) :: us, []⟩ _ _ _ _ (hr.make C us [])
    (I2.env0.make C us []) (hb _ (Value.ref (hp.objs.size + 1) :: us) I2.kIn hl) r3 q2) ?_
  intro r s' hq
  match r, hq with
  | .error e, hq => exact hq.elim
  | .ok (.ret u), hq =>
    obtain ⟨v, H', I3, rv, ev, q3⟩ := I2.after hq
    subst ev
    exact ⟨rv, V.ref (hp.objs.size + 1), H', I3, rfl, q3⟩
  | .ok .next, hq => exact False.elim hq
  | .ok .brk, hq => exact False.elim hq
  | .ok .cont, hq => exact False.elim hq
/-- C() of a class without an own __init__ -/
theorem pe_newE0 (q : PySem.W.excIn X.K C He.veBase "ValueError.__new__" = true) (kC : PySem.W.keepIn X.K (.ref C) = true)
    (hg : Gl X x) (hm : X.mg x = some (.ref C)) (hdb : (x == ("__debug__" : Str)) = false := by decide) :
    PE X (.Call (.Name x p) [] [] pos) (fun _ H Q => ∀ a, H a = none → Q (.ref a) (upd H a (exo a C none))) := by
  constructor
  intro pins s σ H Q I h
  refine wpAny_Call_Name_kw (ld_glob I hg hm ?_ hdb)
  refine PySem.W.callWith_K0 I.kIn kC ?_
  obtain ⟨bm, N, c1, c2, c3, c4, c5, c6, c7, c8, c9, k0, k1, k2, k3, k5, mN, hC, hN, hni, T⟩ := exc_obj I.kIn q
  refine wpAny_call_exc_subT F.excBase_ValueError T hC hN hni (fun h' a hm => ?_) (by show 0 ≤ sizeLine; omega)
  have hn : H a = none := I.hok.gone hm.new
  obtain ⟨t, ht, _, _⟩ := hm.there
  exact ⟨.ref a, upd H a (exo a C none), I.laidN hm.keeps hm.new hn (exo_ok ht), rfl, h a hn⟩

/-! ### attributes -/
def tFldE (C : Addr) (f : Str) (te : TE) : TE := fun σ H Q => te σ H fun y H1 =>
  ∃ a d fs v, y = .ref a ∧ H1 a = some (exo a C (some d)) ∧ H1 d = some (exd d fs) ∧ fs.lookup f = some v ∧ Q v H1
theorem pe_fldE (T : XfC X.K C) (hno : PySem.W.findIn X.K (.ref C) f = some none) (he : PE X e te)
    (hb : attributeBase e f X.env (eval e X.env) = eval e X.env := by rfl) :
    PE X (.Attribute e f pos) (tFldE C f te) := by
  constructor
  intro pins s σ H Q I h
  refine attr_of hb (thn (he.run pins s σ H _ I h) ?_)
  rintro u s1 ⟨y, H1, I1, ry, a, d, fs, v, ey, ea, ed, l, q⟩
  subst ey
  cases (show u = Value.ref a from ry)
  obtain ⟨t0, ha⟩ := exo_at I1.hok ea
  obtain ⟨mA, hns, hr⟩ := exd_at I1.hok ed
  obtain ⟨od, ho, hl⟩ := lookIn_ns hns
  have hrf := hr f
  rw [l] at hrf
  obtain ⟨u, hu, ru⟩ := RelO.some_of hrf
  have J : PySem.W.InstAt s1.heap a _ C (some od) := ⟨ha, rfl, rfl, ho⟩
  exact HandSPX.exc_get I1.kIn J T.ga T.gg T.exC (PySem.W.findObj_own T.hdC hno rfl (by rw [hl, hu])) (handed_of ru)
    ⟨v, H1, I1.tok _, ru, q⟩

/-! ### isinstance -/
theorem kit_ex {pins : List (Addr × Obj)} {σ : L2.St} {H : Hp} {s : Shared} {a : Addr} {fs : List (Str × V)} (G : L2.ExcC X.K C) (I : Inv X pins σ H s)
    (h : IsEx H a C fs) : ∃ R : Heap → Prop, PySem.W.KitX X.K (.ref a) (.ref C) R ∧ R s.heap := by
  have hc : (PySem.W.clsIn X.K C).isSome = true := by
    obtain ⟨cd, z, _⟩ := PySem.W.any_some G.hd
    rw [z]
    rfl
  have hkt {oe : Obj} {od : Option Obj} := PySem.W.kitx_exc (x := a) (ox := oe) (od := od) hc G.hg G.hk G.hs G.ha G.hn G.ht G.hm
  rcases h with ⟨_, h1⟩ | ⟨d, h1, h2⟩
  · obtain ⟨t0, z⟩ := exo_at I.hok h1
    exact ⟨_, hkt (od := none), ⟨z, rfl, rfl, trivial⟩⟩
  · obtain ⟨t0, z⟩ := exo_at I.hok h1
    obtain ⟨mA, hns, _⟩ := exd_at I.hok h2
    obtain ⟨od, ho, _⟩ := lookIn_ns hns
    exact ⟨_, hkt (od := some od), ⟨z, rfl, rfl, ho⟩⟩
def rIsX (K : PySem.W.Frag) : List V → Hp → VK → Prop := fun xs H Q => ∃ (a C : Addr) (fs : List (Str × V)) (c : V) (u : Value) (b : Bool),
  xs = [.ref a, c] ∧ IsEx H a C fs ∧ L2.ExcC K C ∧ ClsV c u ∧ PySem.W.kitOne K (.ref C) u = some b ∧ Q (.bl b) H
def rIsXT (K : PySem.W.Frag) : List V → Hp → VK → Prop := fun xs H Q => ∃ (a C tp : Addr) (fs : List (Str × V)) (cs : List V) (us : List Value) (b : Bool),
  xs = [.ref a, .ref tp] ∧ IsEx H a C fs ∧ L2.ExcC K C ∧ H tp = some (.tup cs) ∧ Paired ClsV cs us ∧ PySem.W.kitAny K (.ref C) us = some b ∧ Q (.bl b) H
theorem call_isX : CallR X (.builtin "isinstance") (rIsX X.K) := by
  rintro pins s σ H xs us Q I r ⟨a, C, fs, c, u, b, rfl, hx, G, k, e, q⟩
  obtain ⟨u1, u2, rfl, r1, r2⟩ := vals2 r
  cases (show u1 = Value.ref a from r1)
  cases k.eq r2
  obtain ⟨R, Z, z⟩ := kit_ex G I hx
  exact PySem.W.kia_one Z I.kIn z e (fun z => nomatch z) fun tk => ⟨.bl b, H, I.tok tk, rfl, q⟩
theorem call_isXT : CallR X (.builtin "isinstance") (rIsXT X.K) := by
  rintro pins s σ H xs us Q I r ⟨a, C, tp, fs, cs, ws, b, rfl, hx, G, hT, k, e, q⟩
  obtain ⟨u1, u2, rfl, r1, r2⟩ := vals2 r
  cases (show u1 = Value.ref a from r1)
  cases (show u2 = Value.ref tp from r2)
  obtain ⟨R, Z, z⟩ := kit_ex G I hx
  obtain ⟨_, its, rv, o, h1, h2, n, h3⟩ := (show ObjOk X.prog X.w H s.heap tp (.tup cs) from I.hok tp _ hT)
  cases ClsV.all k rv
  obtain ⟨oc, od, dt, sl⟩ := o
  simp only at h2 h3
  subst h2 h3
  exact PySem.W.kia_tup Z I.kIn z h1 e (fun z => nomatch z) fun tk => ⟨.bl b, H, I.tok tk, rfl, q⟩
end

/-! ### __init__ that stores its parameters -/
/-- what self.f = v does to an exception that has the attributes fs -/
def spIni1 (K : PySem.W.Frag) (C : Addr) (f : Str) : Sp := fun vs H Q _ => ∃ (a : Addr) (v : V), vs = [.ref a, v] ∧ H a = some (exo a C none) ∧
  ∀ H2, (∀ b o, b ≠ a → H b = some o → H2 b = some o) → IsEx H2 a C [(f, v)] → Q .non H2
def spIni2 (K : PySem.W.Frag) (C : Addr) (f g : Str) : Sp := fun vs H Q _ => ∃ (a : Addr) (v u : V), vs = [.ref a, v, u] ∧ H a = some (exo a C none) ∧
  ∀ H2, (∀ b o, b ≠ a → H b = some o → H2 b = some o) → IsEx H2 a C [(g, u), (f, v)] → Q .non H2
def spIni3 (K : PySem.W.Frag) (C : Addr) (f g i : Str) : Sp := fun vs H Q _ => ∃ (a : Addr) (v u z : V), vs = [.ref a, v, u, z] ∧ H a = some (exo a C none) ∧
  ∀ H2, (∀ b o, b ≠ a → H b = some o → H2 b = some o) → IsEx H2 a C [(i, z), (g, u), (f, v)] → Q .non H2
theorem ini1_run {K : PySem.W.Frag} {C : Addr} {f : Str} {N : List Str} (T : OexC K C) (hno : PySem.W.findIn K (.ref C) f = some none) {vs : List V} {H : Hp} {Q : VK} {E : XK}
    (h : spIni1 K C f vs H Q E) (h0 : ∀ a v, start N [.ref a, v] = [some (.ref a), some v]) : tOst K f (tVar 0) (tVar 1) { nx := fun _ H' => Q .non H', rt := Q } (start N vs) H := by
  obtain ⟨a, v, rfl, ha, k⟩ := h
  rw [h0]
  refine ⟨v, rfl, .ref a, rfl, a, C, rfl, T, hno, .inl ⟨ha, fun dx hn ne => k _ (fun b o nb hb => ?_) (.inr ⟨dx, upd_same, ?_⟩)⟩⟩
  · rw [upd_ne nb, upd_ne (ne_of_none hb hn)]
    exact hb
  · rw [upd_ne ne]
    exact upd_same
theorem ini2_run {K : PySem.W.Frag} {C : Addr} {f g : Str} {N : List Str} (T : OexC K C) (n1 : PySem.W.findIn K (.ref C) f = some none) (n2 : PySem.W.findIn K (.ref C) g = some none) {vs : List V} {H : Hp} {Q : VK} {E : XK}
    (h : spIni2 K C f g vs H Q E) (h0 : ∀ a v u, start N [.ref a, v, u] = [some (.ref a), some v, some u]) :
    tSeq (tOst K f (tVar 0) (tVar 1)) (tOst K g (tVar 0) (tVar 2)) { nx := fun _ H' => Q .non H', rt := Q } (start N vs) H := by
  obtain ⟨a, v, u, rfl, ha, k⟩ := h
  rw [h0]
  refine ⟨v, rfl, .ref a, rfl, a, C, rfl, T, n1, .inl ⟨ha, fun dx hn ne => ?_⟩⟩
  refine ⟨u, rfl, .ref a, rfl, a, C, rfl, T, n2, .inr ⟨dx, [(f, v)], upd_same, (upd_ne ne).trans upd_same, by simp, ?_⟩⟩
  refine k _ (fun b o nb hb => ?_) (.inr ⟨dx, (upd_ne (Ne.symm ne)).trans upd_same, upd_same⟩)
  have hbd := ne_of_none hb hn
  rw [upd_ne hbd, upd_ne nb, upd_ne hbd]
  exact hb
theorem ini3_run {K : PySem.W.Frag} {C : Addr} {f g i : Str} {N : List Str} (T : OexC K C) (n1 : PySem.W.findIn K (.ref C) f = some none) (n2 : PySem.W.findIn K (.ref C) g = some none) (n3 : PySem.W.findIn K (.ref C) i = some none) {vs : List V} {H : Hp} {Q : VK} {E : XK}
    (h : spIni3 K C f g i vs H Q E) (h0 : ∀ a v u z, start N [.ref a, v, u, z] = [some (.ref a), some v, some u, some z]) :
    tSeq (tOst K f (tVar 0) (tVar 1)) (tSeq (tOst K g (tVar 0) (tVar 2)) (tOst K i (tVar 0) (tVar 3))) { nx := fun _ H' => Q .non H', rt := Q } (start N vs) H := by
  obtain ⟨a, v, u, z, rfl, ha, k⟩ := h
  rw [h0]
  refine ⟨v, rfl, .ref a, rfl, a, C, rfl, T, n1, .inl ⟨ha, fun dx hn ne => ?_⟩⟩
  have na : ∀ {H0 : Hp} {o : HO}, upd (upd H0 a (exo a C (some dx))) dx o a = some (exo a C (some dx)) := (upd_ne (Ne.symm ne)).trans upd_same
  refine ⟨u, rfl, .ref a, rfl, a, C, rfl, T, n2, .inr ⟨dx, [(f, v)], upd_same, (upd_ne ne).trans upd_same, by simp, ?_⟩⟩
  refine ⟨z, rfl, .ref a, rfl, a, C, rfl, T, n3, .inr ⟨dx, [(g, u), (f, v)], na, upd_same, by simp, ?_⟩⟩
  refine k _ (fun b o nb hb => ?_) (.inr ⟨dx, (upd_ne (Ne.symm ne)).trans na, upd_same⟩)
  have hbd := ne_of_none hb hn
  rw [upd_ne hbd, upd_ne hbd, upd_ne nb, upd_ne hbd]
  exact hb

/-! ### what the head tells of a class -/
def oexB (K : PySem.W.Frag) (C : Addr) : Bool :=
  (match K.lookup C with
    | some ⟨.type t, _, .cls cd, sl⟩ => decide (t = "type") && (cd.hasDict && (!cd.hasDel && ((match cd.mro with
        | .ref c :: bm => decide (c = C) && PySem.HandSPX.refsVE bm
        | _ => false) && (match sl.toList with
        | [_, _, _, _, some (.builtin n), _] => decide (n = "ValueError.__new__")
        | _ => false))))
    | _ => false) && (decide (PySem.W.findIn K (.ref C) "__setattr__" = some (some (.builtin "object.__setattr__"))) &&
  (decide (PySem.W.subIn K (.ref C) (.type "BaseException") = some true) && (decide (PySem.W.typeIn K (.ref C) = some (.type "type")) && PySem.W.keepIn K (.ref C))))
theorem oexB_ok {K : PySem.W.Frag} {C : Addr} (h : oexB K C = true) : OexC K C := by
  obtain ⟨h0, h⟩ := He.ba h
  obtain ⟨h1, h⟩ := He.ba h
  obtain ⟨h2, h⟩ := He.ba h
  obtain ⟨h3, h4⟩ := He.ba h
  refine ⟨?_, of_decide_eq_true h1, of_decide_eq_true h2, of_decide_eq_true h3, h4⟩
  split at h0
  · rename_i t dd cd sl hl
    obtain ⟨g1, h0⟩ := He.ba h0
    obtain ⟨g2, h0⟩ := He.ba h0
    obtain ⟨g3, h0⟩ := He.ba h0
    obtain ⟨g4, g5⟩ := He.ba h0
    obtain ⟨nm, bs, mro, ns, qn, hd, sn, sub, ab, col, del⟩ := cd
    obtain ⟨sl⟩ := sl
    split at g4
    · rename_i c bm e1
      obtain ⟨g6, g7⟩ := He.ba g4
      split at g5
      · rename_i k0 k1 k2 k3 n k5 e2
        have e3 := of_decide_eq_true g1
        have e4 := of_decide_eq_true g6
        have e5 := of_decide_eq_true g5
        have e6 : del = false := by simpa using g3
        have e7 : hd = true := g2
        dsimp only at e1 e2
        subst e1 e2 e3 e4 e5 e6 e7
        exact ⟨nm, qn, ns, bs, bm, sn, sub, ab, col, dd, k0, k1, k2, k3, k5, hl, g7⟩
      · cases g5
    · cases g4
  · cases h0
def ixB (K : PySem.W.Frag) (C : Addr) : Bool := decide (PySem.W.findIn K (.ref C) "__getattribute__" = some (some (.builtin "BaseException.__getattribute__"))) &&
  (decide (PySem.W.findIn K (.ref C) "__getattr__" = some none) && (decide (PySem.W.subIn K (.ref C) (.type "BaseException") = some true) && (PySem.W.hasDictIn K C &&
  (decide (PySem.W.findIn K (.ref C) "__class__" = some (some (.builtin "object.__class__"))) && (decide (PySem.W.specialIn K (.builtin "object.__class__") "__get__" = some (some (.builtin "getset_descriptor.__get__"))) &&
  (decide (PySem.W.takesIn K (.builtin "object.__class__") = some true) && decide (PySem.W.mroIn K C (.type "object") = some true)))))))
theorem ixB_ok {K : PySem.W.Frag} {C : Addr} (h : ixB K C = true) : L2.ExcC K C := by
  obtain ⟨h1, h⟩ := He.ba h
  obtain ⟨h2, h⟩ := He.ba h
  obtain ⟨h3, h⟩ := He.ba h
  obtain ⟨h4, h⟩ := He.ba h
  obtain ⟨h5, h⟩ := He.ba h
  obtain ⟨h6, h⟩ := He.ba h
  obtain ⟨h7, h8⟩ := He.ba h
  exact ⟨of_decide_eq_true h1, of_decide_eq_true h2, of_decide_eq_true h3, h4, of_decide_eq_true h5, of_decide_eq_true h6, of_decide_eq_true h7, of_decide_eq_true h8⟩
/-- a class with its own __init__ of these fields -/
structure Ini (K : PySem.W.Frag) (x : Str) (fs : List Str) : Prop where
  T : OexC K (He.ga K x)
  xf : L2.XfC K (He.ga K x)
  iC : PySem.W.findIn K (.ref (He.ga K x)) "__init__" = some (some (.ref (He.ma K (He.ga K x) "__init__")))
  tI : PySem.W.typeIn K (.ref (He.ma K (He.ga K x) "__init__")) = some (.type "function")
  no : ∀ f ∈ fs, PySem.W.findIn K (.ref (He.ga K x)) f = some none
def iniB (K : PySem.W.Frag) (x : Str) (fs : List Str) : Bool := oexB K (He.ga K x) && (L2.xfB K (He.ga K x) &&
  (decide (PySem.W.findIn K (.ref (He.ga K x)) "__init__" = some (some (.ref (He.ma K (He.ga K x) "__init__")))) &&
  (decide (PySem.W.typeIn K (.ref (He.ma K (He.ga K x) "__init__")) = some (.type "function")) && fs.all fun f => decide (PySem.W.findIn K (.ref (He.ga K x)) f = some none))))
theorem iniB_ok {K : PySem.W.Frag} {x : Str} {fs : List Str} (h : iniB K x fs = true) : Ini K x fs := by
  obtain ⟨h1, h⟩ := He.ba h
  obtain ⟨h2, h⟩ := He.ba h
  obtain ⟨h3, h⟩ := He.ba h
  obtain ⟨h4, h5⟩ := He.ba h
  exact ⟨oexB_ok h1, L2.xfB_ok h2, of_decide_eq_true h3, of_decide_eq_true h4, fun f hf => of_decide_eq_true (List.all_eq_true.mp h5 f hf)⟩
end KV
namespace K3
open PySem PySem.Spec PyProof.Rows L2 Evl
def top (i : Nat) : Stmt := PySem.Challenge.pw_unknowncalls_k03_names_refused.main.body.getD i (.Pass ⟨0, 0, 0, 0⟩)
def loose0 : List Str := ["_wall", "CallError", "BadName", "BadNumber", "BadRule", "BadFact", "BadPair", "NoWorld", "GONE", "EITHER_WAY"]
def loose1 : List Str := ["Known", "bits", "_renamed", "known_facts", "LETTERS", "LONGEST", "RESERVED", "as_text", "as_name", "as_integer"]
def loose2 : List Str := ["as_list", "Names", "_check_names", "_read_numbers", "_law_cell", "_law_row", "_law_spoil", "_law_is_number", "_law_is_name", "_law_due"]
def loose3 : List Str := ["_law_met"]
def loose : List Str := loose0 ++ loose1 ++ loose2 ++ loose3
def fa0 : List He.Fa := [.glo "_wall", .glo "CallError", .glo "BadName", .glo "BadNumber", .glo "BadRule", .glo "BadFact", .glo "BadPair", .glo "NoWorld", .glo "Known", .glo "bits"]
def fa1 : List He.Fa := [.glo "_renamed", .glo "known_facts", .glo "as_text", .glo "as_name", .glo "as_integer", .glo "as_list", .glo "Names", .glo "_check_names", .glo "_read_numbers", .glo "_law_cell"]
def fa2 : List He.Fa := [.glo "_law_row", .glo "_law_spoil", .glo "_law_is_number", .glo "_law_is_name", .glo "_law_due", .glo "_law_met", .glo "law", .glo "EITHER_WAY", .str "LETTERS" "abcdefghijklmnopqrstuvwxyz", .int "LONGEST" 8]
def fa3 : List He.Fa := [.glo "RESERVED", .free "isinstance", .free "str", .free "len", .free "all", .free "any", .free "bool", .free "int", .free "list", .free "tuple"]
def fa4 : List He.Fa := [.free "dict", .free "set", .free "range", .free "enumerate", .free "sorted", .free "zip", .free "max", .cls "Known", .mkr "Known", .meth "Known" "__init__"]
def fa5 : List He.Fa := [.meth "Known" "fork", .meth "Known" "fresh", .meth "Known" "leaders", .meth "Known" "lead_of", .meth "Known" "share_rows", .meth "Known" "key", .meth "Known" "mark", .meth "Known" "learn", .meth "Known" "answer", .meth "Known" "forced"]
def fa6 : List He.Fa := [.meth "Known" "make_equal", .meth "Known" "make_unlike", .meth "Known" "set_unlike", .meth "Known" "can_be_equal", .meth "Known" "_answer_same", .meth "Known" "_met", .meth "Known" "_join_all", .meth "Known" "_unite", .meth "Known" "_follow", .meth "Known" "_follow_calls"]
def fa7 : List He.Fa := [.meth "Known" "_follow_shares", .meth "Known" "_tell_order", .meth "Known" "_pass_on", .meth "Known" "sharpen", .meth "Known" "_tell_over", .meth "Known" "_ties", .noat "Known" "calls", .noat "Known" "is_noted", .noat "Known" "is_ordered", .noat "Known" "is_possible"]
def fa8 : List He.Fa := [.noat "Known" "leads", .noat "Known" "marks", .noat "Known" "overs", .noat "Known" "said", .noat "Known" "shares", .noat "Known" "squeezed", .noat "Known" "told_rules", .noat "Known" "unlikes", .noat "Known" "ups", .cls "Names"]
def fa9 : List He.Fa := [.mkr "Names", .meth "Names" "__init__", .meth "Names" "functions", .meth "Names" "tests", .meth "Names" "deeds", .meth "Names" "rules", .meth "Names" "facts", .meth "Names" "apart", .meth "Names" "__eq__", .meth "Names" "_read_rules"]
def fa10 : List He.Fa := [.meth "Names" "_can_have", .meth "Names" "_read_facts", .meth "Names" "_as_fact", .meth "Names" "_read_apart", .meth "Names" "_as_constants", .meth "Names" "_as_constant", .meth "Names" "_has_world", .noat "Names" "_apart", .noat "Names" "_deeds", .noat "Names" "_facts"]
def fa11 : List He.Fa := [.noat "Names" "_functions", .noat "Names" "_rules", .noat "Names" "_tests", .noat "Names" "constants", .free "min"]
def fa : List He.Fa := fa0 ++ fa1 ++ fa2 ++ fa3 ++ fa4 ++ fa5 ++ fa6 ++ fa7 ++ fa8 ++ fa9 ++ fa10 ++ fa11
def d__wall : He.DefD := ⟨("_wall", none), "_wall", "_wall", defArgs (top 0), defBody (top 0), defScope (top 0), [], []⟩
def d_bits : He.DefD := ⟨("bits", none), "bits", "bits", defArgs (top 13), defBody (top 13), defScope (top 13), [], []⟩
def d__renamed : He.DefD := ⟨("_renamed", none), "_renamed", "_renamed", defArgs (top 14), defBody (top 14), defScope (top 14), [], []⟩
def d_known_facts : He.DefD := ⟨("known_facts", none), "known_facts", "known_facts", defArgs (top 16), defBody (top 16), defScope (top 16), [], []⟩
def d_as_text : He.DefD := ⟨("as_text", none), "as_text", "as_text", defArgs (top 21), defBody (top 21), defScope (top 21), [], []⟩
def d_as_name : He.DefD := ⟨("as_name", none), "as_name", "as_name", defArgs (top 22), defBody (top 22), defScope (top 22), [], []⟩
def d_as_integer : He.DefD := ⟨("as_integer", none), "as_integer", "as_integer", defArgs (top 23), defBody (top 23), defScope (top 23), [], []⟩
def d_as_list : He.DefD := ⟨("as_list", none), "as_list", "as_list", defArgs (top 24), defBody (top 24), defScope (top 24), [], []⟩
def d__check_names : He.DefD := ⟨("_check_names", none), "_check_names", "_check_names", defArgs (top 27), defBody (top 27), defScope (top 27), [], []⟩
def d__read_numbers : He.DefD := ⟨("_read_numbers", none), "_read_numbers", "_read_numbers", defArgs (top 28), defBody (top 28), defScope (top 28), [], []⟩
def d__law_cell : He.DefD := ⟨("_law_cell", none), "_law_cell", "_law_cell", defArgs (top 30), defBody (top 30), defScope (top 30), [], []⟩
def d__law_row : He.DefD := ⟨("_law_row", none), "_law_row", "_law_row", defArgs (top 31), defBody (top 31), defScope (top 31), [], []⟩
def d__law_spoil : He.DefD := ⟨("_law_spoil", none), "_law_spoil", "_law_spoil", defArgs (top 32), defBody (top 32), defScope (top 32), [], []⟩
def d__law_is_number : He.DefD := ⟨("_law_is_number", none), "_law_is_number", "_law_is_number", defArgs (top 33), defBody (top 33), defScope (top 33), [], []⟩
def d__law_is_name : He.DefD := ⟨("_law_is_name", none), "_law_is_name", "_law_is_name", defArgs (top 34), defBody (top 34), defScope (top 34), [], []⟩
def d__law_due : He.DefD := ⟨("_law_due", none), "_law_due", "_law_due", defArgs (top 35), defBody (top 35), defScope (top 35), [], []⟩
def d__law_met : He.DefD := ⟨("_law_met", none), "_law_met", "_law_met", defArgs (top 36), defBody (top 36), defScope (top 36), [], []⟩
def d_law : He.DefD := ⟨("law", none), "law", "law", defArgs (top 37), defBody (top 37), defScope (top 37), [], []⟩
def d_Known_init : He.DefD := ⟨("Known", some "__init__"), "__init__", "Known.__init__", defArgs (inClass (top 12) 0), defBody (inClass (top 12) 0), defScope (inClass (top 12) 0), [.int 0], []⟩
def d_Known_fork : He.DefD := ⟨("Known", some "fork"), "fork", "Known.fork", defArgs (inClass (top 12) 1), defBody (inClass (top 12) 1), defScope (inClass (top 12) 1), [], []⟩
def d_Known_fresh : He.DefD := ⟨("Known", some "fresh"), "fresh", "Known.fresh", defArgs (inClass (top 12) 2), defBody (inClass (top 12) 2), defScope (inClass (top 12) 2), [], []⟩
def d_Known_leaders : He.DefD := ⟨("Known", some "leaders"), "leaders", "Known.leaders", defArgs (inClass (top 12) 3), defBody (inClass (top 12) 3), defScope (inClass (top 12) 3), [], []⟩
def d_Known_lead_of : He.DefD := ⟨("Known", some "lead_of"), "lead_of", "Known.lead_of", defArgs (inClass (top 12) 4), defBody (inClass (top 12) 4), defScope (inClass (top 12) 4), [], []⟩
def d_Known_share_rows : He.DefD := ⟨("Known", some "share_rows"), "share_rows", "Known.share_rows", defArgs (inClass (top 12) 5), defBody (inClass (top 12) 5), defScope (inClass (top 12) 5), [], []⟩
def d_Known_key : He.DefD := ⟨("Known", some "key"), "key", "Known.key", defArgs (inClass (top 12) 6), defBody (inClass (top 12) 6), defScope (inClass (top 12) 6), [], []⟩
def d_Known_mark : He.DefD := ⟨("Known", some "mark"), "mark", "Known.mark", defArgs (inClass (top 12) 7), defBody (inClass (top 12) 7), defScope (inClass (top 12) 7), [], []⟩
def d_Known_learn : He.DefD := ⟨("Known", some "learn"), "learn", "Known.learn", defArgs (inClass (top 12) 8), defBody (inClass (top 12) 8), defScope (inClass (top 12) 8), [], []⟩
def d_Known_answer : He.DefD := ⟨("Known", some "answer"), "answer", "Known.answer", defArgs (inClass (top 12) 9), defBody (inClass (top 12) 9), defScope (inClass (top 12) 9), [], []⟩
def d_Known_forced : He.DefD := ⟨("Known", some "forced"), "forced", "Known.forced", defArgs (inClass (top 12) 10), defBody (inClass (top 12) 10), defScope (inClass (top 12) 10), [], []⟩
def d_Known_make_equal : He.DefD := ⟨("Known", some "make_equal"), "make_equal", "Known.make_equal", defArgs (inClass (top 12) 11), defBody (inClass (top 12) 11), defScope (inClass (top 12) 11), [], []⟩
def d_Known_make_unlike : He.DefD := ⟨("Known", some "make_unlike"), "make_unlike", "Known.make_unlike", defArgs (inClass (top 12) 12), defBody (inClass (top 12) 12), defScope (inClass (top 12) 12), [], []⟩
def d_Known_set_unlike : He.DefD := ⟨("Known", some "set_unlike"), "set_unlike", "Known.set_unlike", defArgs (inClass (top 12) 13), defBody (inClass (top 12) 13), defScope (inClass (top 12) 13), [], []⟩
def d_Known_can_be_equal : He.DefD := ⟨("Known", some "can_be_equal"), "can_be_equal", "Known.can_be_equal", defArgs (inClass (top 12) 14), defBody (inClass (top 12) 14), defScope (inClass (top 12) 14), [], []⟩
def d_Known__answer_same : He.DefD := ⟨("Known", some "_answer_same"), "_answer_same", "Known._answer_same", defArgs (inClass (top 12) 15), defBody (inClass (top 12) 15), defScope (inClass (top 12) 15), [], []⟩
def d_Known__met : He.DefD := ⟨("Known", some "_met"), "_met", "Known._met", defArgs (inClass (top 12) 16), defBody (inClass (top 12) 16), defScope (inClass (top 12) 16), [], []⟩
def d_Known__join_all : He.DefD := ⟨("Known", some "_join_all"), "_join_all", "Known._join_all", defArgs (inClass (top 12) 17), defBody (inClass (top 12) 17), defScope (inClass (top 12) 17), [], []⟩
def d_Known__unite : He.DefD := ⟨("Known", some "_unite"), "_unite", "Known._unite", defArgs (inClass (top 12) 18), defBody (inClass (top 12) 18), defScope (inClass (top 12) 18), [], []⟩
def d_Known__follow : He.DefD := ⟨("Known", some "_follow"), "_follow", "Known._follow", defArgs (inClass (top 12) 19), defBody (inClass (top 12) 19), defScope (inClass (top 12) 19), [], []⟩
def d_Known__follow_calls : He.DefD := ⟨("Known", some "_follow_calls"), "_follow_calls", "Known._follow_calls", defArgs (inClass (top 12) 20), defBody (inClass (top 12) 20), defScope (inClass (top 12) 20), [], []⟩
def d_Known__follow_shares : He.DefD := ⟨("Known", some "_follow_shares"), "_follow_shares", "Known._follow_shares", defArgs (inClass (top 12) 21), defBody (inClass (top 12) 21), defScope (inClass (top 12) 21), [], []⟩
def d_Known__tell_order : He.DefD := ⟨("Known", some "_tell_order"), "_tell_order", "Known._tell_order", defArgs (inClass (top 12) 22), defBody (inClass (top 12) 22), defScope (inClass (top 12) 22), [], []⟩
def d_Known__pass_on : He.DefD := ⟨("Known", some "_pass_on"), "_pass_on", "Known._pass_on", defArgs (inClass (top 12) 23), defBody (inClass (top 12) 23), defScope (inClass (top 12) 23), [], []⟩
def d_Known_sharpen : He.DefD := ⟨("Known", some "sharpen"), "sharpen", "Known.sharpen", defArgs (inClass (top 12) 24), defBody (inClass (top 12) 24), defScope (inClass (top 12) 24), [], []⟩
def d_Known__tell_over : He.DefD := ⟨("Known", some "_tell_over"), "_tell_over", "Known._tell_over", defArgs (inClass (top 12) 25), defBody (inClass (top 12) 25), defScope (inClass (top 12) 25), [], []⟩
def d_Known__ties : He.DefD := ⟨("Known", some "_ties"), "_ties", "Known._ties", defArgs (inClass (top 12) 26), defBody (inClass (top 12) 26), defScope (inClass (top 12) 26), [], []⟩
def d_Names_init : He.DefD := ⟨("Names", some "__init__"), "__init__", "Names.__init__", defArgs (inClass (top 26) 0), defBody (inClass (top 26) 0), defScope (inClass (top 26) 0), [.adr (He.dflAt ("Names", some "__init__") 0), .non, .non, .non, .non, .adr (He.dflAt ("Names", some "__init__") 5), .adr (He.dflAt ("Names", some "__init__") 6)], []⟩
def d_Names_functions : He.DefD := ⟨("Names", some "functions"), "functions", "Names.functions", defArgs (inClass (top 26) 1), defBody (inClass (top 26) 1), defScope (inClass (top 26) 1), [], []⟩
def d_Names_tests : He.DefD := ⟨("Names", some "tests"), "tests", "Names.tests", defArgs (inClass (top 26) 2), defBody (inClass (top 26) 2), defScope (inClass (top 26) 2), [], []⟩
def d_Names_deeds : He.DefD := ⟨("Names", some "deeds"), "deeds", "Names.deeds", defArgs (inClass (top 26) 3), defBody (inClass (top 26) 3), defScope (inClass (top 26) 3), [], []⟩
def d_Names_rules : He.DefD := ⟨("Names", some "rules"), "rules", "Names.rules", defArgs (inClass (top 26) 4), defBody (inClass (top 26) 4), defScope (inClass (top 26) 4), [], []⟩
def d_Names_facts : He.DefD := ⟨("Names", some "facts"), "facts", "Names.facts", defArgs (inClass (top 26) 5), defBody (inClass (top 26) 5), defScope (inClass (top 26) 5), [], []⟩
def d_Names_apart : He.DefD := ⟨("Names", some "apart"), "apart", "Names.apart", defArgs (inClass (top 26) 6), defBody (inClass (top 26) 6), defScope (inClass (top 26) 6), [], []⟩
def d_Names_eq : He.DefD := ⟨("Names", some "__eq__"), "__eq__", "Names.__eq__", defArgs (inClass (top 26) 7), defBody (inClass (top 26) 7), defScope (inClass (top 26) 7), [], []⟩
def d_Names__read_rules : He.DefD := ⟨("Names", some "_read_rules"), "_read_rules", "Names._read_rules", defArgs (inClass (top 26) 8), defBody (inClass (top 26) 8), defScope (inClass (top 26) 8), [], []⟩
def d_Names__can_have : He.DefD := ⟨("Names", some "_can_have"), "_can_have", "Names._can_have", defArgs (inClass (top 26) 9), defBody (inClass (top 26) 9), defScope (inClass (top 26) 9), [], []⟩
def d_Names__read_facts : He.DefD := ⟨("Names", some "_read_facts"), "_read_facts", "Names._read_facts", defArgs (inClass (top 26) 10), defBody (inClass (top 26) 10), defScope (inClass (top 26) 10), [], []⟩
def d_Names__as_fact : He.DefD := ⟨("Names", some "_as_fact"), "_as_fact", "Names._as_fact", defArgs (inClass (top 26) 11), defBody (inClass (top 26) 11), defScope (inClass (top 26) 11), [], []⟩
def d_Names__read_apart : He.DefD := ⟨("Names", some "_read_apart"), "_read_apart", "Names._read_apart", defArgs (inClass (top 26) 12), defBody (inClass (top 26) 12), defScope (inClass (top 26) 12), [], []⟩
def d_Names__as_constants : He.DefD := ⟨("Names", some "_as_constants"), "_as_constants", "Names._as_constants", defArgs (inClass (top 26) 13), defBody (inClass (top 26) 13), defScope (inClass (top 26) 13), [], []⟩
def d_Names__as_constant : He.DefD := ⟨("Names", some "_as_constant"), "_as_constant", "Names._as_constant", defArgs (inClass (top 26) 14), defBody (inClass (top 26) 14), defScope (inClass (top 26) 14), [], []⟩
def d_Names__has_world : He.DefD := ⟨("Names", some "_has_world"), "_has_world", "Names._has_world", defArgs (inClass (top 26) 15), defBody (inClass (top 26) 15), defScope (inClass (top 26) 15), [], []⟩
def d_BadName_init : He.DefD := ⟨("BadName", some "__init__"), "__init__", "BadName.__init__", defArgs (inClass (top 3) 0), defBody (inClass (top 3) 0), defScope (inClass (top 3) 0), [], []⟩
def d_BadNumber_init : He.DefD := ⟨("BadNumber", some "__init__"), "__init__", "BadNumber.__init__", defArgs (inClass (top 4) 0), defBody (inClass (top 4) 0), defScope (inClass (top 4) 0), [], []⟩
def d_BadRule_init : He.DefD := ⟨("BadRule", some "__init__"), "__init__", "BadRule.__init__", defArgs (inClass (top 5) 0), defBody (inClass (top 5) 0), defScope (inClass (top 5) 0), [], []⟩
def fn0 : List He.DefD := [d__wall, d_bits, d__renamed, d_known_facts, d_as_text, d_as_name, d_as_integer, d_as_list, d__check_names, d__read_numbers]
def fn1 : List He.DefD := [d__law_cell, d__law_row, d__law_spoil, d__law_is_number, d__law_is_name, d__law_due, d__law_met, d_law, d_Known_init, d_Known_fork]
def fn2 : List He.DefD := [d_Known_fresh, d_Known_leaders, d_Known_lead_of, d_Known_share_rows, d_Known_key, d_Known_mark, d_Known_learn, d_Known_answer, d_Known_forced, d_Known_make_equal]
def fn3 : List He.DefD := [d_Known_make_unlike, d_Known_set_unlike, d_Known_can_be_equal, d_Known__answer_same, d_Known__met, d_Known__join_all, d_Known__unite, d_Known__follow, d_Known__follow_calls, d_Known__follow_shares]
def fn4 : List He.DefD := [d_Known__tell_order, d_Known__pass_on, d_Known_sharpen, d_Known__tell_over, d_Known__ties, d_Names_init, d_Names_functions, d_Names_tests, d_Names_deeds, d_Names_rules]
def fn5 : List He.DefD := [d_Names_facts, d_Names_apart, d_Names_eq, d_Names__read_rules, d_Names__can_have, d_Names__read_facts, d_Names__as_fact, d_Names__read_apart, d_Names__as_constants, d_Names__as_constant]
def fn6 : List He.DefD := [d_Names__has_world, d_BadName_init, d_BadNumber_init, d_BadRule_init]
def fn : List He.DefD := fn0 ++ fn1 ++ fn2 ++ fn3 ++ fn4 ++ fn5 ++ fn6
abbrev R : PySem.W.OpenRow := PySem.W.OpenLaw.row PySem.Challenge.rw_unknowncalls_k03_names_refused
def emptyB (K : PySem.W.Frag) (a : Addr) : Bool := match K.lookup a with
  | some ⟨.type c, _, .seq its _, _⟩ => decide (c = "tuple") && its.isEmpty
  | _ => false
def exN : List Str := ["BadName", "BadNumber", "BadRule"]
def exB (K : PySem.W.Frag) : Bool := He.tupB K "RESERVED" [.str "item", .str "same", .str "if", .str "else", .str "do", .str "leave"] && (emptyB K (He.dflAt ("Names", some "__init__") 5 K) && (emptyB K (He.dflAt ("Names", some "__init__") 6 K) &&
  ((exN.all fun x => KV.iniB K x ["name"] && PySem.W.keepIn K (.ref (He.ga K x))) && (exN.all fun x => exN.all fun y => decide (PySem.W.exmOne K (.ref (He.ga K x)) (.ref (He.ga K y)) = some (decide (x = y)))))))
/-- the law makes a lambda: its table of code objects is asked for -/
def tf : List He.Defn := [("law", none)]
abbrev hk : PySem.W.Hook := He.hookX 5 fa fn [] tf exB
def ob (s : PySem.W.SharedT) : He.AlX := He.obsX 5 fa fn [] tf exB (HandSHeadRun.getT s)
theorem ob_eq (s : PySem.W.SharedT) : ob s = hk.obs s.abs := He.obsX_eq (HandSHeadRun.getT_eq s)
theorem run (w : World) : HandSHeadRun.RunEq R (PySem.W.view R.prog [37]) hk ob 12000 loose w := by
  intro os
  kernel_rfl
end K3
/-! What evaluates to something that is told over the known part of the heap alone, whatever stands beside it. -/
namespace GV
open PySem PySem.Spec PyProof.Rows L2 Evl
/-- from the known part H of the heap H1 to the known part H' of H1': what is new in it is new in the heap -/
structure Fm (H H1 H' H1' : Hp) : Prop where
  ex : Ex H H'
  sub : Ex H' H1'
  cur : Ex H1 H1'
  new : ∀ a, H a = none → H' a ≠ none → H1 a = none
section
variable {H H1 H' H1' H2 H2' : Hp}
theorem Fm.refl (e : Ex H H1) : Fm H H1 H H1 := ⟨Ex.refl _, e, Ex.refl _, fun a h n => absurd h n⟩
theorem Fm.trans (a : Fm H H1 H' H1') (b : Fm H' H1' H2 H2') : Fm H H1 H2 H2' where
  ex := a.ex.trans b.ex
  sub := b.sub
  cur := a.cur.trans b.cur
  new := fun x h n => by
    cases q : H' x with
    | none => exact fresh_back a.cur (b.new x q n)
    | some o => exact a.new x h (by rw [q]; exact fun z => nomatch z)
/-- the heap alone grows -/
theorem Fm.gr (e : Ex H H1) (k : Ex H1 H1') : Fm H H1 H H1' := ⟨Ex.refl _, e.trans k, k, fun a h n => absurd h n⟩
/-- a new object, known -/
theorem Fm.newO {p : Addr} {o : HO} (e : Ex H H1) (hp : H1 p = none) : Fm H H1 (upd H p o) (upd H1 p o) where
  ex := Ex.new (fresh_back e hp)
  sub := fun a u h => by
    by_cases q : a = p
    · rw [q, upd_same] at h ⊢
      exact h
    · rw [upd_ne q] at h ⊢
      exact e a u h
  cur := Ex.new hp
  new := fun a h n => by
    by_cases q : a = p
    · rw [q]
      exact hp
    · rw [upd_ne q] at n
      exact absurd h n
end
section
variable {H H1 H' H1' H2 H2' : Hp} {p : Addr} {o : HO}
/-- an object that is neither known nor stood before is changed -/
theorem Fm.put (f : Fm H H1 H' H1') (h1 : H1 p = none) (h2 : H' p = none) : Fm H H1 H' (upd H1' p o) where
  ex := f.ex
  sub := fun a u h => by
    rw [upd_ne (ne_of_none h h2)]
    exact f.sub a u h
  cur := fun a u h => by
    rw [upd_ne (ne_of_none h h1)]
    exact f.cur a u h
  new := f.new
/-- .. and is known from here on -/
theorem Fm.know (f : Fm H H1 H' H1') (h1 : H1 p = none) (h3 : H1' p = some o) (h0 : H' p = none) : Fm H H1 (upd H' p o) H1' where
  ex := f.ex.trans (Ex.new h0)
  sub := fun a u h => by
    by_cases q : a = p
    · rw [q, upd_same] at h
      rw [q, h3]
      exact h
    · rw [upd_ne q] at h
      exact f.sub a u h
  cur := f.cur
  new := fun a h n => by
    by_cases q : a = p
    · rw [q]
      exact h1
    · rw [upd_ne q] at n
      exact f.new a h n
/-- what stands in the heap and is not known does not become known -/
theorem Fm.out (f : Fm H H1 H' H1') (h1 : H1 p = some o) (h2 : H p = none) : H' p = none := by
  cases q : H' p with
  | none => rfl
  | some u =>
    have z := f.new p h2 (by rw [q]; exact fun z => nomatch z)
    rw [h1] at z
    cases z
end
abbrev Pr := V → Hp → Prop
/-- te gives a v of which R is told -/
def Gv (te : TE) (σ : L2.St) (H : Hp) (R : Pr) : Prop := ∀ H1, Ex H H1 → ∀ Q : VK, (∀ v H' H1', Fm H H1 H' H1' → R v H' → Q v H1') → te σ H1 Q
def GvA (ta : TA) (σ : L2.St) (H : Hp) (R : List V → Hp → Prop) : Prop := ∀ H1, Ex H H1 → ∀ Q : List V → Hp → Prop, (∀ vs H' H1', Fm H H1 H' H1' → R vs H' → Q vs H1') → ta σ H1 Q
/-- what stays when the heap grows -/
def Mo (R : Pr) : Prop := ∀ v H H', Ex H H' → R v H → R v H'
def MoA (R : List V → Hp → Prop) : Prop := ∀ v H H', Ex H H' → R v H → R v H'
/-- it is v -/
def Is (u : V) : Pr := fun v _ => v = u
section
variable {σ : L2.St} {H : Hp} {te ta tb : TE} {tr : TA} {t : TT} {v : V} {R S : Pr}
theorem gv_ev (h : Ev te σ H v) : Gv te σ H (Is v) := fun H1 e Q q => h H1 e _ fun H2 e2 => q v H H2 (Fm.gr e e2) rfl
theorem ev_gv (h : Gv te σ H (Is v)) : Ev te σ H v := fun H1 e Q q => h H1 e _ fun u H' H1' f r => by
  rw [show u = v from r]
  exact q H1' f.cur
theorem gv_var {i : Nat} (h : σ[i]? = some (some v)) (r : R v H) : Gv (tVar i) σ H R := fun H1 e Q q => ⟨v, h, q v H H1 (Fm.refl e) r⟩
theorem gv_c (r : R v H) : Gv (tC v) σ H R := fun H1 e Q q => q v H H1 (Fm.refl e) r
theorem gv_w (h : Gv te σ H R) (k : ∀ v H', Ex H H' → R v H' → S v H') : Gv te σ H S := fun H1 e Q q => h H1 e _ fun v H' H1' f r => q v H' H1' f (k v H' f.ex r)
theorem gv_if {b : Bool} (h : EvT t σ H b) (h1 : b = true → Gv ta σ H R) (h2 : b = false → Gv tb σ H R) : Gv (tIf t ta tb) σ H R := fun H1 e Q q => h H1 e _ fun H2 e2 => by
  have f := Fm.gr e e2
  cases b with
  | true => exact h1 rfl H2 (e.trans e2) Q fun v H' H1' g r => q v H' H1' (f.trans g) r
  | false => exact h2 rfl H2 (e.trans e2) Q fun v H' H1' g r => q v H' H1' (f.trans g) r
theorem ga_nil : GvA tNil σ H (fun vs _ => vs = []) := fun H1 e Q q => q [] H H1 (Fm.refl e) rfl
theorem ga_cons {R' : List V → Hp → Prop} (h : Gv te σ H R) (hr : ∀ H', Ex H H' → GvA tr σ H' R') (m : Mo R) : GvA (tCons te tr) σ H (fun vs H' => ∃ v r, vs = v :: r ∧ R v H' ∧ R' r H') := fun H1 e Q q =>
  h H1 e _ fun v H' H1' f r => hr H' f.ex H1' f.sub _ fun rs H2 H2' g r2 => q _ H2 H2' (f.trans g) ⟨v, rs, rfl, m v H' H2 g.ex r, r2⟩
theorem ga_ev {vs : List V} (h : EvA tr σ H vs) : GvA tr σ H (fun us _ => us = vs) := fun H1 e Q q => h H1 e _ fun H2 e2 => q vs H H2 (Fm.gr e e2) rfl
theorem ga_w {R R' : List V → Hp → Prop} (h : GvA tr σ H R) (k : ∀ v H', Ex H H' → R v H' → R' v H') : GvA tr σ H R' := fun H1 e Q q => h H1 e _ fun v H' H1' f r => q v H' H1' f (k v H' f.ex r)
/-- a new list, a new tuple of what is given -/
theorem gv_lst {R : List V → Hp → Prop} (h : GvA tr σ H R) (m : MoA R) (hz : ∀ vs H', R vs H' → vs.length ≤ 100000) : Gv (tLst tr) σ H (fun v H' => ∃ p vs, v = .ref p ∧ H p = none ∧ H' p = some (.lst vs) ∧ R vs H') := fun H1 e Q q =>
  h H1 e _ fun vs H' H1' f r => ⟨sz_of (hz vs H' r), fun p hp => by
    have g := Fm.newO (o := .lst vs) f.sub hp
    exact q _ _ _ (f.trans g) ⟨p, vs, rfl, fresh_back (e.trans f.cur) hp, upd_same, m vs _ _ g.ex r⟩⟩
theorem gv_tup {R : List V → Hp → Prop} (h : GvA tr σ H R) (m : MoA R) (hz : ∀ vs H', R vs H' → vs.length ≤ 100000) : Gv (tTup tr) σ H (fun v H' => ∃ p vs, v = .ref p ∧ H p = none ∧ H' p = some (.tup vs) ∧ R vs H') := fun H1 e Q q =>
  h H1 e _ fun vs H' H1' f r => ⟨sz_of (hz vs H' r), fun p hp => by
    have g := Fm.newO (o := .tup vs) f.sub hp
    exact q _ _ _ (f.trans g) ⟨p, vs, rfl, fresh_back (e.trans f.cur) hp, upd_same, m vs _ _ g.ex r⟩⟩
/-! ### promises of this kind: from the arguments and the known part what is given -/
def spG (P : List V → Hp → Pr → Prop) : Sp := fun vs H1 Q _ => ∃ H R, Ex H H1 ∧ P vs H R ∧ ∀ v H' H1', Fm H H1 H' H1' → R v H' → Q v H1'
theorem gv_call {P : List V → Hp → Pr → Prop} {dvs : List V} {E : XK} {A : List V → Hp → Prop} (h : GvA tr σ H A) (k : ∀ vs H', Ex H H' → A vs H' → P (vs ++ dvs) H' R) : Gv (tCall (spG P) dvs E tr) σ H R := fun H1 e Q q =>
  h H1 e _ fun vs H' H1' f r => ⟨H', R, f.sub, k vs H' f.ex r, fun v H2 H2' g r2 => q v H2 H2' (f.trans g) r2⟩
/-! ### statements: the known part H of the heap H1 -/
variable {D : Ends} {tz tu tw : TS} {H1 : Hp}
theorem g_asg {i : Nat} (e : Ex H H1) (h : Gv te σ H R) (k : ∀ v H' H1', Fm H H1 H' H1' → R v H' → tz D (σ.set i (some v)) H1') : tSeq (tAsg te (gName i)) tz D σ H1 := h H1 e _ fun v H' H1' f r => k v H' H1' f r
theorem g_ret (e : Ex H H1) (h : Gv te σ H R) (k : ∀ v H' H1', Fm H H1 H' H1' → R v H' → D.rt v H1') : tRet te D σ H1 := h H1 e _ k
theorem g_if {b : Bool} (e : Ex H H1) (h : EvT t σ H b) (h1 : b = true → ∀ H1', Fm H H1 H H1' → tu { D with nx := tz D } σ H1') (h2 : b = false → ∀ H1', Fm H H1 H H1' → tw { D with nx := tz D } σ H1') : tSeq (tIfS t tu tw) tz D σ H1 := h H1 e _ fun H2 e2 => by
  cases b with
  | true => exact h1 rfl H2 (Fm.gr e e2)
  | false => exact h2 rfl H2 (Fm.gr e e2)
theorem g_ifL {b : Bool} (e : Ex H H1) (h : EvT t σ H b) (h1 : b = true → ∀ H1', Fm H H1 H H1' → tu D σ H1') (h2 : b = false → ∀ H1', Fm H H1 H H1' → tw D σ H1') : tIfS t tu tw D σ H1 := h H1 e _ fun H2 e2 => by
  cases b with
  | true => exact h1 rfl H2 (Fm.gr e e2)
  | false => exact h2 rfl H2 (Fm.gr e e2)
theorem g_when {b : Bool} (e : Ex H H1) (h : EvT t σ H b) (h1 : b = true → ∀ H1', Fm H H1 H H1' → tu { D with nx := tz D } σ H1') (h2 : b = false → ∀ H1', Fm H H1 H H1' → tz D σ H1') : tSeq (tIfS t tu tNext) tz D σ H1 := h H1 e _ fun H2 e2 => by
  cases b with
  | true => exact h1 rfl H2 (Fm.gr e e2)
  | false => exact h2 rfl H2 (Fm.gr e e2)
end
/-- a target's reading, its end weakened -/
class GMono (g : TG) : Prop where
  mono : ∀ {v : V} {σ : L2.St} {H : Hp} {Q Q' : L2.St → Hp → Prop}, g v σ H Q → (∀ σ2 H2, Q σ2 H2 → Q' σ2 H2) → g v σ H Q'
instance {i : Nat} : GMono (gName i) := ⟨fun h k => k _ _ h⟩
class GsMono (g : TGs) : Prop where
  mono : ∀ {v : List V} {σ : L2.St} {H : Hp} {Q Q' : L2.St → Hp → Prop}, g v σ H Q → (∀ σ2 H2, Q σ2 H2 → Q' σ2 H2) → g v σ H Q'
instance : GsMono gNil := ⟨fun h k => ⟨h.1, k _ _ h.2⟩⟩
instance {t : TG} {u : TGs} [GMono t] [GsMono u] : GsMono (gCons t u) := ⟨fun ⟨v, r, e, h⟩ k => ⟨v, r, e, GMono.mono h fun σ2 H2 h2 => GsMono.mono h2 k⟩⟩
instance {K : PySem.W.Frag} {n : Nat} {t : TGs} [GsMono t] : GMono (gTup K n t) := ⟨fun ⟨a, xs, e, h1, h2, h⟩ k => ⟨a, xs, e, h1, h2, GsMono.mono h k⟩⟩
theorem gmono {g : TG} [GMono g] {v : V} {σ : L2.St} {H : Hp} {Q Q' : L2.St → Hp → Prop} (h : g v σ H Q) (k : ∀ σ2 H2, Q σ2 H2 → Q' σ2 H2) : g v σ H Q' := GMono.mono h k
/-! ### comprehensions -/
section
variable {J : It} {n : Nat} {G : Hp → Prop} {Y : Nat → Hp → V → Hp → Prop} {σ : L2.St} {H : Hp} {g : TG} [GMono g] {tt : TT} {te : TE} {vs : List Nat} {wi : TI}
/-- what the walked thing gives at turn i, over the known part -/
def lcOk (W : L2.St) (vs : List Nat) (g : TG) (tt : TT) (te : TE) (R : Nat → List V → Hp → Prop) (i : Nat) (x : V) (us : List V) (H : Hp) : Prop :=
  ∀ H1, Ex H H1 → g x W H1 fun σ2 H2 => wipe σ2 vs = W ∧ H2 = H1 ∧ ∃ b, EvT tt σ2 H b ∧ (b = true → Gv te σ2 H fun y H' => R (i + 1) (us ++ [y]) H') ∧ (b = false → R (i + 1) us H)
/-- a comprehension over a walk: R by the turn and what stands in the new list so far. Yx: what is known of the item over the known part (Fm where an item is a new tuple) -/
theorem sz_lt' {n : Nat} (h : n ≤ 100000) : n < sizeLine := Nat.lt_of_le_of_lt h (by decide)
theorem gv_lcw (w : Walk J n G Y) (R : Nat → List V → Hp → Prop) (m : ∀ i us H H', Ex H H' → R i us H → R i us H') (hz : ∀ i us H, R i us H → us.length ≤ 100000)
    (hG : ∀ H', Ex H H' → G H') (h0 : R 0 [] H)
    (hY : ∀ i x Hs Hc Hc', i < n → Ex H Hs → Ex Hs Hc → Y i Hc x Hc' → ∃ Hs', Fm Hs Hc Hs' Hc' ∧ ∀ us, R i us Hs → lcOk (wipe σ vs) vs g tt te R i x us Hs')
    {H1 : Hp} (e : Ex H H1) {Qd : Hp → Prop} {Dl : Addr} (hD : H1 Dl = none) (q : ∀ us H' H1', Fm H H1 H' H1' → H' Dl = some (.lst us) → R n us H' → Qd H1') :
    ∃ W : Nat → Nat → Hp → Prop, (∃ m, W 0 m (upd H1 Dl (.lst []))) ∧ ∀ i m H, W i m H →
      (J.stop i H ∧ Qd H) ∨ (J.go i H ∧
        ∃ Nx : Hp → Prop, (∀ H', Nx H' → ∃ m', m' < m ∧ W (i + 1) m' H') ∧ ∀ x H', J.yld i H x H' → g x (wipe σ vs) H' fun σ2 H2 => wipe σ2 vs = wipe σ vs ∧ tt σ2 H2 fun b H3 =>
        if b = true then te σ2 H3 fun y H4 => ∃ acc, H4 Dl = some (.lst acc) ∧ acc.length < sizeLine ∧ Nx (upd H4 Dl (.lst (acc ++ [y]))) else Nx H3) := by
  refine lc_it w (fun i Hc => ∃ us Hs, Fm H H1 Hs Hc ∧ Hs Dl = none ∧ Hc Dl = some (.lst us) ∧ R i us Hs) ⟨[], H, Fm.gr e (Ex.new hD), fresh_back e hD, upd_same, h0⟩ (fun i Hc _ ⟨us, Hs, f, _⟩ => hG Hc (f.ex.trans f.sub)) ?_ ?_
  · rintro i x Hc Hc' hi ⟨us, Hs, f, hs, hl, r⟩ y
    obtain ⟨Hs', f2, hk⟩ := hY i x Hs Hc Hc' hi f.ex f.sub y
    have hs' := f2.out hl hs
    have hl' := f2.cur _ _ hl
    refine gmono (hk us r Hc' f2.sub) ?_
    rintro σ2 H2 ⟨hwp, rfl, b, ht, k1, k2⟩
    refine ⟨hwp, ht H2 f2.sub _ fun H3 e3 => ?_⟩
    cases b with
    | true =>
      refine iteT (k1 rfl H3 (f2.sub.trans e3) _ fun v H4s H4 f4 r4 => ⟨us, f4.cur _ _ (e3 _ _ hl'), sz_lt' (hz _ _ _ r), ?_⟩)
      have hs4 := f4.out (e3 _ _ hl') hs'
      exact ⟨us ++ [v], H4s, (((f.trans f2).trans (Fm.gr f2.sub e3)).trans f4).put hD hs4, hs4, upd_same, r4⟩
    | false => exact iteF ⟨us, Hs', (f.trans f2).trans (Fm.gr f2.sub e3), hs', e3 _ _ hl', k2 rfl⟩
  · rintro Hc ⟨us, Hs, f, hs, hl, r⟩
    exact q us _ Hc (f.know hD hl hs) upd_same (m _ _ _ _ (Ex.new hs) r)
/-- the result of a comprehension: a new list -/
def NewL (H : Hp) (R : List V → Hp → Prop) : Pr := fun v H' => ∃ p us, v = .ref p ∧ H p = none ∧ H' p = some (.lst us) ∧ R us H'
variable {K : PySem.W.Frag} {tl : TE} {S : V → Hp → Prop}
theorem gv_lcL {U : Addr → List V → Hp → Prop} {N : Nat} (R : Nat → List V → Hp → Prop) (ht : Gv tl σ H fun v H' => ∃ a xs, v = .ref a ∧ xs.length = N ∧ SqL K H' a xs ∧ U a xs H')
    (m : ∀ i us H H', Ex H H' → R i us H → R i us H') (hz : ∀ i us H, R i us H → us.length ≤ 100000) (h0 : ∀ H', Ex H H' → R 0 [] H')
    (hs : ∀ a xs H', Ex H H' → SqL K H' a xs → U a xs H' → ∀ Hs, Ex H' Hs → ∀ i x us, xs[i]? = some x → R i us Hs → lcOk (wipe σ vs) vs g tt te R i x us Hs) :
    Gv (tLc (iList K tl) g tt te vs) σ H (NewL H (R N)) := fun H1 e Q q => ht H1 e _ fun v H' H1' f ⟨a, xs, ev, hn, hx, u⟩ => by
  subst ev hn
  refine ⟨a, rfl, ⟨xs, ex_l f.sub hx⟩, fun Dl hD => ?_⟩
  refine gv_lcw (H := H') (walk_list (K := K) (a := a) (xs := xs)) R m hz (fun H2 e2 => ex_l e2 hx) (h0 H' f.ex) (fun i x Hs Hc Hc' hi e1 e2 y => ?_) f.sub hD fun us H2 H2' f2 hl r => q _ H2 H2' (f.trans f2) ⟨Dl, us, rfl, fresh_back (e.trans f.cur) hD, hl, r⟩
  obtain ⟨rfl, hx2⟩ := y
  exact ⟨Hs, Fm.refl e2, fun us r => hs a xs H' f.ex hx u Hs e1 i x us hx2 r⟩
theorem gv_lcT {U : Addr → List V → Hp → Prop} {N : Nat} (R : Nat → List V → Hp → Prop) (ht : Gv tl σ H fun v H' => ∃ a xs, v = .ref a ∧ xs.length = N ∧ SqT K H' a xs ∧ U a xs H')
    (m : ∀ i us H H', Ex H H' → R i us H → R i us H') (hz : ∀ i us H, R i us H → us.length ≤ 100000) (h0 : ∀ H', Ex H H' → R 0 [] H')
    (hs : ∀ a xs H', Ex H H' → SqT K H' a xs → U a xs H' → ∀ Hs, Ex H' Hs → ∀ i x us, xs[i]? = some x → R i us Hs → lcOk (wipe σ vs) vs g tt te R i x us Hs) :
    Gv (tLc (iTup K tl) g tt te vs) σ H (NewL H (R N)) := fun H1 e Q q => ht H1 e _ fun v H' H1' f ⟨a, xs, ev, hn, hx, u⟩ => by
  subst ev hn
  refine ⟨a, rfl, ⟨xs, ex_t f.sub hx⟩, fun Dl hD => ?_⟩
  refine gv_lcw (H := H') (walk_tup (K := K) (a := a) (xs := xs)) R m hz (fun H2 e2 => ex_t e2 hx) (h0 H' f.ex) (fun i x Hs Hc Hc' hi e1 e2 y => ?_) f.sub hD fun us H2 H2' f2 hl r => q _ H2 H2' (f.trans f2) ⟨Dl, us, rfl, fresh_back (e.trans f.cur) hD, hl, r⟩
  obtain ⟨rfl, hx2⟩ := y
  exact ⟨Hs, Fm.refl e2, fun us r => hs a xs H' f.ex hx u Hs e1 i x us hx2 r⟩
theorem gv_lcS {z : Str} (R : Nat → List V → Hp → Prop) (ht : Ev tl σ H (.str z))
    (m : ∀ i us H H', Ex H H' → R i us H → R i us H') (hz : ∀ i us H, R i us H → us.length ≤ 100000) (h0 : R 0 [] H)
    (hs : ∀ Hs, Ex H Hs → ∀ i c us, z.cps[i]? = some c → R i us Hs → lcOk (wipe σ vs) vs g tt te R i (.str ⟨#[c]⟩) us Hs) :
    Gv (tLc (iStr tl) g tt te vs) σ H (NewL H (R z.cps.size)) := fun H1 e Q q => ht H1 e _ fun H2 e2 => ⟨z, rfl, fun Dl hD => by
  refine gv_lcw (H := H) (walk_str (z := z)) R m hz (fun _ _ => trivial) h0 (fun i x Hs Hc Hc' hi e1 e3 y => ?_) (e.trans e2) hD fun us H3 H3' f3 hl r => q _ H3 H3' ((Fm.gr e e2).trans f3) ⟨Dl, us, rfl, fresh_back (e.trans e2) hD, hl, r⟩
  obtain ⟨rfl, c, hc, rfl⟩ := y
  exact ⟨Hs, Fm.refl e3, fun us r => hs Hs e1 i c us hc r⟩⟩
theorem gv_lcR {ta : TA} {N : Int} (R : Nat → List V → Hp → Prop) (ht : EvA ta σ H [.int N]) (hN : 0 ≤ N ∧ N ≤ 100000)
    (m : ∀ i us H H', Ex H H' → R i us H → R i us H') (hz : ∀ i us H, R i us H → us.length ≤ 100000) (h0 : R 0 [] H)
    (hs : ∀ Hs, Ex H Hs → ∀ (i : Nat) us, (i : Int) < N → R i us Hs → lcOk (wipe σ vs) vs g tt te R i (.int (i : Int)) us Hs) :
    Gv (tLc (iRng1 ta) g tt te vs) σ H (NewL H (R N.toNat)) := fun H1 e Q q => ht H1 e _ fun H2 e2 => ⟨N, rfl, by omega, by omega, fun Dl hD => by
  refine gv_lcw (H := H) (walk_range (lo := 0) (n := N.toNat)) R m hz (fun _ _ => trivial) h0 (fun i x Hs Hc Hc' hi e1 e3 y => ?_) (e.trans e2) hD fun us H3 H3' f3 hl r => q _ H3 H3' ((Fm.gr e e2).trans f3) ⟨Dl, us, rfl, fresh_back (e.trans e2) hD, hl, r⟩
  obtain ⟨rfl, rfl⟩ := y
  refine ⟨Hs, Fm.refl e3, fun us r => ?_⟩
  have z := hs Hs e1 i us (by omega) r
  rw [← Int.zero_add (i : Int)] at z
  exact z⟩
theorem ev_allG {bs : List Bool} {R : List V → Hp → Prop} (h : Gv te σ H (NewL H R)) (k : ∀ us H', R us H' → us = bs.map V.bl) : Ev (tCB (rAll K) (tCons te tNil)) σ H (.bl (bs.all id)) := fun H1 e Q q =>
  h H1 e _ fun v H' H1' f ⟨p, us, ev, _, hp, r⟩ => ⟨p, bs, by rw [ev], sq_of (by rw [← k us H' r]; exact f.sub _ _ hp), q H1' f.cur⟩
theorem ev_anyG {bs : List Bool} {R : List V → Hp → Prop} (h : Gv te σ H (NewL H R)) (k : ∀ us H', R us H' → us = bs.map V.bl) : Ev (tCB (rAny K) (tCons te tNil)) σ H (.bl (bs.any id)) := fun H1 e Q q =>
  h H1 e _ fun v H' H1' f ⟨p, us, ev, _, hp, r⟩ => ⟨p, bs, by rw [ev], sq_of (by rw [← k us H' r]; exact f.sub _ _ hp), q H1' f.cur⟩
end
/-! ### new things that are changed later -/
section
variable {σ : L2.St} {H : Hp} {tz : TS} {D : Ends} {i : Nat}
theorem q_set0 {P : Program} {w : World} (k : ∀ p, H p = none → tz D (σ.set i (some (.ref p))) (upd H p (SetK P w p (fun _ => false) 0))) : tSeq (tAsg (tCB (rSet0K P w) tNil) (gName i)) tz D σ H := ⟨rfl, k⟩
theorem q_lst0 (k : ∀ p, H p = none → tz D (σ.set i (some (.ref p))) (upd H p (.lst []))) : tSeq (tAsg (tLst tNil) (gName i)) tz D σ H := ⟨sz_of (by simp), k⟩
end
/-! ### a loop over the entries of a dict, which is locked meanwhile -/
section
variable {K : PySem.W.Frag} {σ : L2.St} {H : Hp} {D : Ends} {j a b : Nat} {d : Addr} {kvs : List (Key × V)} {tb : TS}
theorem s_items (hσ : σ[j]? = some (some (.ref d))) (hd : H d = some (.dK kvs)) (Pv : Obj → Nat → L2.St → Hp → Prop) (h0 : ∀ od, Pv od 0 σ (upd H d (.frz od (.dK kvs))))
    (hG : ∀ od i σ' Hc, Pv od i σ' Hc → Hc d = some (.frz od (.dK kvs)))
    (hs : ∀ od i k v σ' Hc T bk ct rt, kvs[i]? = some (k, v) → Pv od i σ' Hc → Hc T = none → tb ⟨Pv od (i + 1), rt, bk, ct⟩ ((σ'.set a (some (kV k))).set b (some v)) (upd Hc T (.tup [kV k, v])))
    (he : ∀ od σ' Hc, Pv od kvs.length σ' Hc → D.nx σ' (upd Hc d (.dK kvs))) : tLock (tFor (iItems (tVar j)) (gTup K 2 (gCons (gName a) (gCons (gName b) gNil))) tb) D σ H := by
  refine ⟨d, .dK kvs, hd, trivial, fun od => ⟨_, hσ, d, od, kvs, rfl, upd_same, ?_⟩⟩
  refine for_it (walk_items (d := d) (o := od) (kvs := kvs)) (Pv od) (h0 od) (fun i σ' Hc _ h => hG od i σ' Hc h) ?_ fun σ' Hc h => ⟨hG od _ σ' Hc h, he od σ' Hc h⟩
  rintro i x σ' Hc Hc' hi h ⟨T, y, z, rfl, hT, rfl, h1, h2⟩
  obtain ⟨kv, hkv⟩ : ∃ kv, kvs[i]? = some kv := ⟨_, List.getElem?_eq_getElem hi⟩
  obtain ⟨k, v⟩ := kv
  dsimp only at h1 h2
  rw [hkv] at h1 h2
  cases h1
  cases h2
  exact ⟨T, _, rfl, SqT.of upd_same, rfl, _, _, rfl, _, _, rfl, rfl, hs od i k v σ' Hc T _ _ _ hkv h hT⟩
/-- behind the lock what stood stands -/
theorem ex_unlock {Hc : Hp} {od : Obj} (hd : H d = some (.dK kvs)) (h : Ex (upd H d (.frz od (.dK kvs))) Hc) : Ex H (upd Hc d (.dK kvs)) := fun x o e => by
  by_cases q : x = d
  · rw [q, upd_same]
    rw [q, hd] at e
    exact e
  · rw [upd_ne q]
    exact h x o (by rw [upd_ne q]; exact e)
theorem sqT_lock {od : Obj} {t : Addr} {xs : List V} (hd : H d = some (.dK kvs)) (h : SqT K H t xs) : SqT K (upd H d (.frz od (.dK kvs))) t xs := by
  rcases h with (h | ⟨o, h⟩) | h
  · exact .inl (.inl ((upd_ne (ne_of h hd (fun z => nomatch z))).trans h))
  · exact .inl (.inr ⟨o, (upd_ne (ne_of h hd (fun z => nomatch z))).trans h⟩)
  · exact .inr h
end
end GV
namespace K3
open PySem PySem.Spec PyProof.Rows L2 Evl GV
/-- what the head tells -/
structure Tx (K : PySem.W.Frag) (mg : Str → Option Value) : Prop where
  d : He.SaysD fa fn K
  e : exB K = true
  X : ∃ h : Heap, K.In h ∧ h.Ns mainGlobals mg
section
variable {K : PySem.W.Frag} {mg : Str → Option Value}
theorem Tx.gl (T : Tx K mg) (i : Nat) {x : Str} (h : fa[i]? = some (.glo x)) : mg x = some (.ref (He.ga K x)) := by
  obtain ⟨h0, X, G⟩ := T.X
  exact He.glo_ok X G (T.d.fact i h)
theorem Tx.fr (T : Tx K mg) (i : Nat) {x : Str} (h : fa[i]? = some (.free x)) : mg x = none := by
  obtain ⟨h0, X, G⟩ := T.X
  exact He.free_ok X G (T.d.fact i h)
theorem Tx.int (T : Tx K mg) (i : Nat) {x : Str} {n : Int} (h : fa[i]? = some (.int x n)) : ∃ t, mg x = some (.int n t) := by
  obtain ⟨h0, X, G⟩ := T.X
  exact He.int_ok X G (T.d.fact i h)
theorem Tx.str (T : Tx K mg) (i : Nat) {x z : Str} (h : fa[i]? = some (.str x z)) : ∃ t, mg x = some (.str z t) := by
  obtain ⟨h0, X, G⟩ := T.X
  exact He.str_ok X G (T.d.fact i h)
theorem Tx.cls (T : Tx K mg) (i : Nat) {x : Str} (h : fa[i]? = some (.cls x)) : Cls K (He.ga K x) := He.cls_ok (T.d.fact i h)
theorem Tx.mkr (T : Tx K mg) (i : Nat) {x : Str} (h : fa[i]? = some (.mkr x)) : Mk K (He.ga K x) (He.ma K (He.ga K x) "__init__") := He.mkr_ok (T.d.fact i h)
theorem Tx.me (T : Tx K mg) (i : Nat) {x m : Str} (h : fa[i]? = some (.meth x m)) : Meth K (He.ga K x) m (He.ma K (He.ga K x) m) := He.meth_ok (T.d.fact i h)
theorem Tx.na (T : Tx K mg) (i : Nat) {x f : Str} (h : fa[i]? = some (.noat x f)) : NoAttr K (He.ga K x) f := He.noat_ok (T.d.fact i h)
theorem Tx.res (T : Tx K mg) (H : Hp) : SqT K H (He.ga K "RESERVED") [.str "item", .str "same", .str "if", .str "else", .str "do", .str "leave"] := He.tupB_ok (He.ba T.e).1 H
variable {P : Program} {w : World} {base : Heap}
/-! ### words -/
def isStr : V → Bool
  | .str _ => true
  | _ => false
def txt : V → V
  | .str z => .str z
  | _ => .non
theorem join_one (z : Str) : Txt.join "" [z] = z := rfl
/-- a value of a kind that isinstance tells -/
def Kd (K : PySem.W.Frag) (H : Hp) (v : V) (n : String) : Prop := TyX K H v (.type n)
theorem tyOf_ex {K : PySem.W.Frag} {H H' : Hp} {v : V} {t : Value} (e : Ex H H') (h : TyOf K H v t) : TyOf K H' v t := by
  cases h with
  | non => exact .non
  | bl b => exact .bl b
  | int i => exact .int i
  | str z => exact .str z
  | flt z => exact .flt z
  | lst z => exact .lst (e _ _ z)
  | frz z => exact .frz (e _ _ z)
  | tup z => exact .tup (e _ _ z)
  | dK z => exact .dK (e _ _ z)
  | dT z => exact .dT (e _ _ z)
  | ins z a b c d f => exact .ins (e _ _ z) a b c d f
theorem kd_ex {K : PySem.W.Frag} {H H' : Hp} {v : V} {n : String} (e : Ex H H') (h : Kd K H v n) : Kd K H' v n := by
  unfold Kd at h ⊢
  generalize Value.type n = t at h ⊢
  cases h with
  | base z => exact .base (tyOf_ex e z)
  | byt b => exact .byt b
  | set z => exact .set (e _ _ z)
  | kList z c => exact .kList z c
  | kTuple z c => exact .kTuple z c
  | kDict z c => exact .kDict z c
  | fTuple z => exact .fTuple (e _ _ z)
  | fDict z => exact .fDict (e _ _ z)
/-- isinstance(v, a built-in type) -/
theorem ev_isb {K : PySem.W.Frag} {σ : L2.St} {H : Hp} {te : TE} {v : V} {n m : String} {b : Bool} (h : Ev te σ H v) (hk : Kd K H v n) (hb : kitB n m = some b) :
    Ev (tCB (rIsi K) (tCons te (tCons (tC (.ty m)) tNil))) σ H (.bl b) :=
  ev_cb (ea_cons h (ea_cons ev_c ea_nil)) fun H1 e1 Q1 k1 => ⟨v, _, _, _, b, rfl, .ty _, kd_ex e1 hk, kit_ty hb, k1 H1 (Ex.refl H1)⟩
def spText (K : PySem.W.Frag) : Sp := fun vs H Q _ => ∃ (v : V) (n : String), vs = [v] ∧ Kd K H v n ∧ kitB n "str" = some (isStr v) ∧ (∀ z, v = .str z → z.length ≤ 100000) ∧ RetV (txt v) H Q
theorem sc_text : FnScope ["thing"] ["thing"] (defScope (top 21)) := ⟨rfl, rfl, rfl, by decide +kernel, rfl, by decide +kernel, by decide +kernel⟩
theorem ok_text (T : Tx K mg) : ∃ fd, FnOk P w K mg base CX0 1 (He.ga K "as_text") fd ["thing"] (spText K) ∧ Binds K fd ["thing"] [] ∧ PySem.W.keepIn K (.ref (He.ga K "as_text")) = true := by
  obtain ⟨fd, F⟩ := T.d.def_ 4 (d := d_as_text) rfl
  refine ⟨fd, F.ok sc_text (fun vs H Q E h => ?_) (fun cdv A outer s H vs Q E hr h => ?_), FunD.bindsN F fun _ _ _ _ _ _ us hl => match us, hl with | [_], _ => rfl, F.kp⟩
  · obtain ⟨v, n, rfl, _⟩ := h
    rfl
  · refine ⟨_, PSs.nox (pss_one (ps_ret (pe_ifExp (pt_val (pe_callB call_isi (by rfl) (T.fr 31 rfl) PyProof.Rows.boot_isinstance (pa_cons (pv 0) (pa_cons (pe_bltn (v := .ty "str") (by rfl) (T.fr 32 rfl) (by decide +kernel) rfl) pa_nil)))) (pe_join pe_str (pe_lst (pa_cons (pv 0) pa_nil))) pe_non))), ?_⟩
    obtain ⟨v, n, rfl, hk, hb, hz, q⟩ := h
    refine s_ret (v := txt v) (ev_if (b := isStr v) (et_B (ev_isb (ev_var rfl) hk hb)) (fun hs => ?_) (fun hs => ?_)) fun H1 e1 => q H1 e1
    · obtain ⟨z, rfl⟩ : ∃ z, v = .str z := by
        cases v <;> first | exact ⟨_, rfl⟩ | cases hs
      refine fun H1 e1 Q1 k1 => ⟨⟨_, rfl⟩, _, rfl, sz_of (by simp), fun p hp => ⟨"", p, [z], rfl, rfl, .inl (sq_of upd_same), ?_, ?_⟩⟩
      · have := hz z rfl
        show z.length + 0 + 1 * ("" : Str).length ≤ 16777216
        rw [show ("" : Str).length = 0 from rfl]
        omega
      · rw [join_one]
        exact k1 _ (Ex.new hp)
    · have e : txt v = .non := by
        cases v <;> first | rfl | cases hs
      rw [e]
      exact ev_c
/-! ### as_name -/
def resv : List Str := ["item", "same", "if", "else", "do", "leave"]
def letters : Str := "abcdefghijklmnopqrstuvwxyz"
/-- a sign in a text -/
def rInS : R2 := fun u v H Q => ∃ (n : Nat) (t : Str), u = .str ⟨#[n]⟩ ∧ v = .str t ∧ Q (.bl (decide (n ∈ t.cps.toList))) H
def okName (z : Str) : Bool := !(inV (.str z) (resv.map V.str)) && (decide (1 ≤ (z.length : Int)) && (decide ((z.length : Int) ≤ 8) && z.cps.toList.all fun c => decide (c ∈ letters.cps.toList)))
def nam : V → V
  | .str z => if okName z = true then .str z else .non
  | _ => .non
def spName (K : PySem.W.Frag) : Sp := fun vs H Q _ => ∃ (v : V) (n : String), vs = [v] ∧ Kd K H v n ∧ kitB n "str" = some (isStr v) ∧ (∀ z, v = .str z → z.length ≤ 100000) ∧ RetV (nam v) H Q
theorem sc_name : FnScope ["thing", "text", "letter"] ["thing"] (defScope (top 22)) := ⟨rfl, rfl, rfl, by decide +kernel, rfl, by decide +kernel, by decide +kernel⟩
theorem chars_all {z : Str} : ∀ (i : Nat) (h : i ≤ z.cps.size), True := fun _ _ => trivial
theorem ok_name (T : Tx K mg) : ∃ fd, FnOk P w K mg base CX0 2 (He.ga K "as_name") fd ["thing"] (spName K) ∧ Binds K fd ["thing"] [] ∧ PySem.W.keepIn K (.ref (He.ga K "as_name")) = true := by
  obtain ⟨fd, F⟩ := T.d.def_ 5 (d := d_as_name) rfl
  obtain ⟨fd_as_text, G_as_text, b_as_text, k_as_text⟩ := ok_text (P := P) (w := w) (base := base) T
  obtain ⟨tL, gL⟩ := T.int 29 (x := "LONGEST") (n := 8) rfl
  obtain ⟨tS, gS⟩ := T.str 28 (x := "LETTERS") (z := "abcdefghijklmnopqrstuvwxyz") rfl
  refine ⟨fd, F.ok sc_name (fun vs H Q E h => ?_) (fun cdv A outer s H vs Q E hr h => ?_), FunD.bindsN F fun _ _ _ _ _ _ us hl => match us, hl with | [_], _ => rfl, F.kp⟩
  · obtain ⟨v, n, rfl, _⟩ := h
    rfl
  · refine ⟨_, PSs.nox (pss_cons (ps_set (i := 1) sc_name.nd rfl (Or.inl rfl) (pe_call G_as_text (hr.mono (by decide)) rfl (T.gl 12 rfl) k_as_text b_as_text .nil pass0 (pa_cons (pv 0) pa_nil)))
      (pss_cons (ps_if (PW.pt (pw_or (pt_cmpR op_isN (pv 1) pe_non (nomark _)) (pw_or (pt_cmpR op_in_seq (pv 1) (pe_glob (v := .ref (He.ga K "RESERVED")) rfl (T.gl 30 rfl) rfl) (by rfl)) (pw_or1 (pt_not (pt_chain op_le op_le pe_int (pe_callB call_len (by rfl) (T.fr 33 rfl) PySem.boot_len (pa_cons (pv 1) pa_nil)) (pe_glob (v := .int 8) rfl gL ⟨_, rfl⟩))))))) (pss_one (ps_ret pe_non)) pss_nil)
      (pss_one (ps_ret (pe_ifExp (pt_val (pe_callB (cr_all rfl) (by rfl) (T.fr 34 rfl) PyProof.Rows.boot_all (pa_cons (pe_lc (own := [("letter", 2)]) (g := gName 2) rfl sc_name.nd (pi_str (pv 1)) (blkOk_by (own := [("letter", 2)]) (N := ["thing", "text", "letter"]) (sc := defScope (top 22)) (by decide +kernel)) (fun _ _ _ _ _ => pg_name (i := 2) sc_name.nd rfl (Or.inl rfl)) (fun _ _ _ _ _ => pts_nil) (fun _ _ _ _ _ => by exact (pe_cmpR op_in_sign (pv 2) (pe_glob (v := .str letters) rfl gS ⟨_, rfl⟩) (by rfl)))) pa_nil))) (pv 1) pe_non))))), ?_⟩
    obtain ⟨v, n, rfl, hk, hb, hz, q⟩ := h
    refine q_asg (v := txt v) (ev_call (sp := spText K) (vs := [v]) (ea_cons (ev_var rfl) ea_nil) fun H1 e1 Q1 k1 E1 => ⟨v, n, rfl, kd_ex e1 hk, hb, hz, fun H2 e2 => k1 H2 e2⟩) fun H1 e1 => ?_
    cases hv : isStr v with
    | false =>
      have e : txt v = .non := by
        cases v <;> first | rfl | cases hv
      have e2 : nam v = .non := by
        cases v <;> first | rfl | cases hv
      rw [e]
      refine q_when (b := true) (et_or (a := true) (b := true) (et_test fun H2 e2 Q2 k2 => ⟨_, rfl, rfl, k2 H2 (Ex.refl H2)⟩) (fun z => nomatch z)) (fun _ H2 e2' => ?_) (fun z => nomatch z)
      exact s_ret ev_c fun H3 e3 => by
        have := q H3 ((e1.trans e2').trans e3)
        rw [e2] at this
        exact this
    | true =>
      obtain ⟨z, rfl⟩ : ∃ z, v = .str z := by
        cases v <;> first | exact ⟨_, rfl⟩ | cases hv
      have hzz := hz z rfl
      have t1 : ∀ H2, Ex H1 H2 → EvT (tTest (tOp (rIn K false) (tVar 1) (tC (.ref (He.ga K "RESERVED"))))) [some (.str z), some (.str z), none] H2 (inV (.str z) (resv.map V.str)) := fun H2 e2 =>
        et_test (ev_op (ev_var rfl) ev_c (rv_isT (T.res H2) rfl rfl))
      have t2 : ∀ H2, Ex H1 H2 → EvT (tTest (tChain (rI0 fun i j => .bl (decide (i ≤ j))) (rI0 fun i j => .bl (decide (i ≤ j))) (tC (.int 1)) (tCB (fun xs H Q => ∃ x n, xs = [x] ∧ LenV K x H n ∧ Q (.int n) H) (tCons (tVar 1) tNil)) (tC (.int 8)))) [some (.str z), some (.str z), none] H2 (decide (1 ≤ (z.length : Int)) && decide ((z.length : Int) ≤ 8)) := fun H2 e2 H3 e3 Q3 k3 => by
        refine ⟨_, rfl, _, z.length, rfl, ⟨Nat.le_trans hzz (by decide), rfl⟩, 1, (z.length : Int), rfl, rfl, _, rfl, ?_⟩
        cases h1 : decide (1 ≤ (z.length : Int)) with
        | true =>
          rw [h1] at k3
          exact iteT ⟨(z.length : Int), 8, rfl, rfl, _, rfl, k3 H3 (Ex.refl H3)⟩
        | false =>
          rw [h1] at k3
          exact iteF ⟨_, rfl, k3 H3 (Ex.refl H3)⟩
      refine q_when (b := inV (.str z) (resv.map V.str) || !(decide (1 ≤ (z.length : Int)) && decide ((z.length : Int) ≤ 8))) (et_or (a := false) (et_test fun H2 e2 Q2 k2 => ⟨_, rfl, rfl, k2 H2 (Ex.refl H2)⟩) fun _ => et_or (t1 H1 (Ex.refl H1)) fun _ => et_not (t2 H1 (Ex.refl H1))) (fun hb H2 e2 => ?_) (fun hb H2 e2 => ?_)
      · have e3 : nam (.str z) = .non := by
          show (if okName z = true then V.str z else .non) = .non
          refine if_neg fun hh => ?_
          unfold okName at hh
          revert hb hh
          generalize inV (.str z) (resv.map V.str) = a
          generalize decide (1 ≤ (z.length : Int)) = b
          generalize decide ((z.length : Int) ≤ 8) = c
          cases a <;> cases b <;> cases c <;> simp
        exact s_ret ev_c fun H3 e3' => by
          have := q H3 ((e1.trans e2).trans e3')
          rw [e3] at this
          exact this
      · have hall : EvT (tB (tCB (rAll K) (tCons (tLc (iStr (tVar 1)) (gName 2) tYes (tOp rInS (tVar 2) (tC (.str letters))) [2]) tNil))) [some (.str z), some (.str z), none] H2 (z.cps.toList.all fun c => decide (c ∈ letters.cps.toList)) := et_B (by
          rw [show (z.cps.toList.all fun c => decide (c ∈ letters.cps.toList)) = ((z.cps.toList.map fun c => decide (c ∈ letters.cps.toList)).all id) by simp [List.all_map, Function.comp_def]]
          refine ev_allG (gv_lcS (g := gName 2) (H := H2) (z := z) (fun i us _ => us = ((z.cps.toList.take i).map fun c => decide (c ∈ letters.cps.toList)).map V.bl) (ev_var rfl) (fun _ _ _ _ _ h => h) (fun i us _ h => ?_) rfl (fun Hs e4 i c us hc h => ?_)) fun us H' hus => ?_
          · rw [h, List.length_map, List.length_map]
            rw [List.length_take]
            have e : z.cps.toList.length = z.length := by simp [Str.length]
            omega
          · refine fun H4 e5 => ⟨rfl, rfl, true, fun H5 e6 Q5 k5 => k5 H5 (Ex.refl H5), fun _ => ?_, fun z => nomatch z⟩
            refine gv_w (gv_ev (v := .bl (decide (c ∈ letters.cps.toList))) (ev_op (ev_var rfl) ev_c fun H6 _ Q6 k6 => ⟨c, letters, rfl, rfl, k6 H6 (Ex.refl H6)⟩)) fun v H' _ hv => ?_
            rw [show v = _ from hv, h]
            have hci : z.cps.toList[i]? = some c := by simpa using hc
            show _ = ((z.cps.toList.take (i + 1)).map fun c => decide (c ∈ letters.cps.toList)).map V.bl
            rw [List.take_add_one, hci]
            simp
          · rw [List.take_of_length_le (by simp)] at hus
            exact hus)
        have hn : nam (.str z) = if (z.cps.toList.all fun c => decide (c ∈ letters.cps.toList)) = true then .str z else .non := by
          show (if okName z = true then V.str z else .non) = _
          unfold okName
          revert hb
          generalize inV (.str z) (resv.map V.str) = a
          generalize decide (1 ≤ (z.length : Int)) = b
          generalize decide ((z.length : Int) ≤ 8) = c
          cases a <;> cases b <;> cases c <;> simp
        refine s_ret (v := nam (.str z)) (ev_if hall (fun ht => ?_) (fun ht => ?_)) fun H3 e3 => q H3 ((e1.trans e2).trans e3)
        · rw [hn, if_pos ht]
          exact ev_var rfl
        · rw [hn, if_neg (by rw [ht]; exact Bool.false_ne_true)]
          exact ev_c
/-! ### as_integer, as_list -/
def isInt : V → Bool
  | .int _ => true
  | _ => false
def isBl : V → Bool
  | .bl _ => true
  | _ => false
def intV : V → V
  | .int i => .int i
  | _ => .non
def spInteger (K : PySem.W.Frag) : Sp := fun vs H Q _ => ∃ (v : V) (n : String), vs = [v] ∧ Kd K H v n ∧ kitB n "bool" = some (isBl v) ∧ kitB n "int" = some (isBl v || isInt v) ∧ RetV (intV v) H Q
theorem sc_integer : FnScope ["thing"] ["thing"] (defScope (top 23)) := ⟨rfl, rfl, rfl, by decide +kernel, rfl, by decide +kernel, by decide +kernel⟩
theorem ok_integer (T : Tx K mg) : ∃ fd, FnOk P w K mg base CX0 1 (He.ga K "as_integer") fd ["thing"] (spInteger K) ∧ Binds K fd ["thing"] [] ∧ PySem.W.keepIn K (.ref (He.ga K "as_integer")) = true := by
  obtain ⟨fd, F⟩ := T.d.def_ 6 (d := d_as_integer) rfl
  refine ⟨fd, F.ok sc_integer (fun vs H Q E h => ?_) (fun cdv A outer s H vs Q E hr h => ?_), FunD.bindsN F fun _ _ _ _ _ _ us hl => match us, hl with | [_], _ => rfl, F.kp⟩
  · obtain ⟨v, n, rfl, _⟩ := h
    rfl
  · refine ⟨_, PSs.nox (pss_cons (ps_if (PW.pt (pw_or (pt_val (pe_callB call_isi (by rfl) (T.fr 31 rfl) PyProof.Rows.boot_isinstance (pa_cons (pv 0) (pa_cons (pe_bltn (v := .ty "bool") (by rfl) (T.fr 36 rfl) (by decide +kernel) rfl) pa_nil)))) (pw_or1 (pt_not (pt_val (pe_callB call_isi (by rfl) (T.fr 31 rfl) PyProof.Rows.boot_isinstance (pa_cons (pv 0) (pa_cons (pe_bltn (v := .ty "int") (by rfl) (T.fr 37 rfl) (by decide +kernel) rfl) pa_nil)))))))) (pss_one (ps_ret pe_non)) pss_nil)
      (pss_one (ps_ret (pe_callTy call_int1 (by rfl) (T.fr 37 rfl) PyProof.Rows.boot_int (pa_cons (pv 0) pa_nil))))), ?_⟩
    obtain ⟨v, n, rfl, hk, hb, hi, q⟩ := h
    refine q_when (b := isBl v || !(isBl v || isInt v)) (et_or (et_B (ev_isb (ev_var rfl) hk hb)) fun _ => et_not (et_B (ev_isb (ev_var rfl) hk hi))) (fun h1 H1 e1 => ?_) (fun h1 H1 e1 => ?_)
    · have e : intV v = .non := by
        cases v <;> first | rfl | cases h1
      rw [e] at q
      exact s_ret ev_c fun H2 e2 => q H2 (e1.trans e2)
    · obtain ⟨i, rfl⟩ : ∃ i, v = .int i := by
        cases v <;> first | exact ⟨_, rfl⟩ | cases h1
      exact s_ret (v := .int i) (fun H2 e2 Q2 k2 => ⟨_, rfl, .inl ⟨i, rfl, k2 H2 (Ex.refl H2)⟩⟩) fun H2 e2 => q H2 (e1.trans e2)
/-- a list or a tuple of these -/
def Sq (K : PySem.W.Frag) (H : Hp) (a : Addr) (xs : List V) : Prop := SqL K H a xs ∨ SqT K H a xs
theorem sq_ex {H H' : Hp} {a : Addr} {xs : List V} (e : Ex H H') (h : Sq K H a xs) : Sq K H' a xs := h.elim (fun z => .inl (ex_l e z)) fun z => .inr (ex_t e z)
/-- as_list: of a list or a tuple a new list, of another thing None -/
def spList (K : PySem.W.Frag) : Sp := fun vs H Q _ => ∃ (v : V) (n : String) (b1 b2 : Bool), vs = [v] ∧ Kd K H v n ∧ kitB n "list" = some b1 ∧ kitB n "tuple" = some b2 ∧
  ((b1 || b2) = true → ∃ a xs, v = .ref a ∧ Sq K H a xs ∧ RetL xs H Q) ∧ ((b1 || b2) = false → RetV .non H Q)
theorem sc_list : FnScope ["thing"] ["thing"] (defScope (top 24)) := ⟨rfl, rfl, rfl, by decide +kernel, rfl, by decide +kernel, by decide +kernel⟩
theorem ok_list (T : Tx K mg) : ∃ fd, FnOk P w K mg base CX0 1 (He.ga K "as_list") fd ["thing"] (spList K) ∧ Binds K fd ["thing"] [] ∧ PySem.W.keepIn K (.ref (He.ga K "as_list")) = true := by
  obtain ⟨fd, F⟩ := T.d.def_ 7 (d := d_as_list) rfl
  refine ⟨fd, F.ok sc_list (fun vs H Q E h => ?_) (fun cdv A outer s H vs Q E hr h => ?_), FunD.bindsN F fun _ _ _ _ _ _ us hl => match us, hl with | [_], _ => rfl, F.kp⟩
  · obtain ⟨v, n, b1, b2, rfl, _⟩ := h
    rfl
  · refine ⟨_, PSs.nox (pss_one (ps_ret (pe_ifExp (pt_val (pe_callB call_isiT (by rfl) (T.fr 31 rfl) PyProof.Rows.boot_isinstance (pa_cons (pv 0) (pa_cons (pe_tup (pa_cons (pe_bltn (v := .ty "list") (by rfl) (T.fr 38 rfl) (by decide +kernel) rfl) (pa_cons (pe_bltn (v := .ty "tuple") (by rfl) (T.fr 39 rfl) (by decide +kernel) rfl) pa_nil))) pa_nil)))) (pe_callTy call_list_of (by rfl) (T.fr 38 rfl) (by decide +kernel) (pa_cons (pv 0) pa_nil)) pe_non))), ?_⟩
    obtain ⟨v, n, b1, b2, rfl, hk, h1, h2, q1, q2⟩ := h
    have hkit : PySem.W.kitAny K (.type n) [.type "list", .type "tuple"] = some (b1 || b2) := by
      refine kitAny_cons (kit_ty h1) (fun z => ?_) fun z => by rw [z] <;> rfl
      rw [z]
      refine kitAny_cons (kit_ty h2) (fun z => ?_) fun z => z
      rw [z]
      exact kitAny_nil
    have ht : EvT (tB (tCB (rIsiT K) (tCons (tVar 0) (tCons (tTup (tCons (tC (.ty "list")) (tCons (tC (.ty "tuple")) tNil))) tNil)))) [some v] H (b1 || b2) := et_B fun H1 e1 Q1 k1 =>
      ⟨v, rfl, (by show 2 ≤ sizeLine; decide), fun p hp => ⟨v, p, _, _, _, b1 || b2, rfl, upd_same, .cons (.ty _) (.cons (.ty _) .nil), kd_ex (e1.trans (Ex.new hp)) hk, hkit, k1 _ (Ex.new hp)⟩⟩
    refine ht H (Ex.refl H) _ fun H1 e1 => ?_
    cases hb : b1 || b2 with
    | true =>
      obtain ⟨a, xs, rfl, hs, q⟩ := q1 hb
      refine iteT ⟨_, rfl, a, xs, rfl, ?_, fun l hl => q l _ (fresh_back e1 hl) (e1.trans (Ex.new hl)) upd_same⟩
      exact sq_ex e1 hs
    | false => exact iteF (q2 hb H1 e1)
end
end K3
/-! several except clauses, each with a name; first: what is so while clauses are gone through -/
namespace TMA
open PySem PySem.Spec PyProof.Rows L2
section
variable {X : Cx} {pins : List (Addr × Obj)} {σ : L2.St} {H : Hp} {a : Addr} {cls : Value} {d : Option Addr} {s : Shared}
/-- an exception at a is in the hands of a try of this frame: what stood ahead of it (at t) stands, and it is nothing that is known -/
structure Caught (X : Cx) (pins : List (Addr × Obj)) (σ : L2.St) (H : Hp) (a : Addr) (cls : Value) (d : Option Addr) (s : Shared) : Prop where
  stk : X.stack = X.env :: X.outer
  lf : X.env.frame = some X.env.locals
  strange : H a = none
  fly : ∃ (B : Heap) (t : Shared), HandSPX.FlyingZ B (X.env :: X.outer) a (Zc cls d) s.heap ∧ Inv X pins σ H t ∧ t.heap.UpToSlots s.heap ∧ s.os = t.os ∧ AllBare s.gens ∧ ∀ b o, t.heap.get? b = some o → b ∉ frs X.stack → B.get? b = some o
/-- slots alone change -/
theorem Caught.over (c : Caught X pins σ H a cls d s) {g : Heap} (f : ∀ B, HandSPX.FlyingZ B (X.env :: X.outer) a (Zc cls d) s.heap → HandSPX.FlyingZ B (X.env :: X.outer) a (Zc cls d) g) (u : s.heap.UpToSlots g) : Caught X pins σ H a cls d { s with heap := g } := by
  obtain ⟨B, t, q1, q2, q3, q4, q5, q6⟩ := c.fly
  exact ⟨c.stk, c.lf, c.strange, B, t, f B q1, q2, q3.trans u, q4, q5, q6⟩
theorem Caught.inv (c : Caught X pins σ H a cls d s) : Inv X pins σ H s := by
  obtain ⟨B, t, q1, q2, q3, q4, q5, q6⟩ := c.fly
  exact q2.landed q6 q1.1 q3 q4 q5
/-- the exception's object, and the facts under which a suite may be entered -/
theorem Caught.obj (c : Caught X pins σ H a cls d s) : ∃ oe vs, s.heap.get? a = some oe ∧ Zc cls d oe ∧ oe.data = .fields vs ∧ Inv (X.suite a ((a, oe) :: (X.pn ++ pins))) [] σ H s := by
  have I := c.inv
  obtain ⟨B, t, q1, _⟩ := c.fly
  obtain ⟨oe, vs, e1, e2, e3⟩ := q1.there
  have far : a ∉ frs (X.env :: X.outer) := by
    intro m
    obtain ⟨w1, w2, w3, w4⟩ := q1.2.2.1.mem m
    have w5 : w2 = oe := Option.some.inj (w3.symm.trans e1)
    exact w4 _ (w5 ▸ e3)
  refine ⟨oe, vs, e1, e2, e3, I.suite e1 e3 c.strange (fun z => far ?_) fun m => far ?_⟩
  · exact List.mem_filterMap.mpr ⟨X.env, .head _, c.lf.trans (congrArg some z.symm)⟩
  · obtain ⟨v, m1, m2⟩ := List.mem_filterMap.mp m
    exact List.mem_filterMap.mpr ⟨v, .tail _ m1, m2⟩
/-- no clause is left: it leaves the try -/
theorem Caught.out (c : Caught X pins σ H a cls d s) {W : WX} {Q : Flow → Shared → Prop} (tk : Takes X W) (w : W cls d σ H) : wpAny (model X.prog X.w) X.A (handleBy (.ref a) X.env []) Q X.xe s := by
  have I := c.inv
  obtain ⟨B, t, q1, q2, q3, q4, q5, q6⟩ := c.fly
  refine wpAny_handleBy_nil ?_
  obtain ⟨_, _, _, oe, vs, T, oT, ts, e1, _, e3, e4, _⟩ := id q1
  have fin : wpAny (model X.prog X.w) X.A (setFlight (.ref a) X.env.frame) (fun _ u => wpAny (model X.prog X.w) X.A (throw (.ref a) : Sem Flow) Q X.xe u) X.xe s := by
    rw [c.lf]
    refine HandSPX.setFlight_upZ q1 fun g hg ug => wpAny_throw (tk _ _ ⟨a, B, t, pins, σ, H, cls, d, rfl, q2, q6, q3.trans ug, .inr (.inr ?_), c.strange, q4, q5, w⟩)
    rw [c.stk]
    exact hg
  unfold PySem.passOn
  refine wpAny_bind (wpAny_field e1 e3 e4 ?_)
  have nn : ¬ (Value.ref T == Value.none) = true := by simp
  rw [if_neg nn]
  first | exact wpAny_bind fin | exact wpAny_bind (wpAny_pure (wpAny_bind fin))
/-- what a suite leaves when its name goes -/
abbrev dropN (D : Ends) (i : Nat) : Ends := { nx := fun σ' => D.nx (σ'.set i none), rt := D.rt, bk := fun σ' => D.bk (σ'.set i none), ct := fun σ' => D.ct (σ'.set i none) }
variable {x n : Str} {c : Value} {i : Nat} {ts : Addr → Value → Option Addr → TS} {b₀ : Stmt} {suite : List Stmt} {np pos' : Pos} {rest : List ExceptHandler}
/-- a suite and what it is proved of -/
abbrev Suites (X : Cx) (b : List Stmt) (ts : Addr → Value → Option Addr → TS) : Prop := ∀ (a : Addr) (oe : Obj) (cls : Value) (d : Option Addr) (pn : List (Addr × Obj)), Zc cls d oe → (∃ vs, oe.data = .fields vs) → PSs (X.suite a ((a, oe) :: pn)) b (ts a cls d)
/-- one clause with a name -/
theorem Caught.clause (k : Caught X pins σ H a cls d s) {D : Ends} {b : Bool} (hN : X.N.Nodup) (hi : X.N[i]? = some n) (hl : X.env.kindOf n = some .local) (hc : Names X x c) (hu : Suites X (b₀ :: suite) ts)
    (hb : PySem.W.exmOne X.K cls c = some b) (yes : b = true → ts a cls d (dropN D i) (σ.set i (some (.ref a))) H) (no : b = false → wpAny (model X.prog X.w) X.A (handleBy (.ref a) X.env rest) (SP X pins D) X.xe s) :
    wpAny (model X.prog X.w) X.A (handleBy (.ref a) X.env (.ExceptHandler (some (.Name x np)) (some n) (b₀ :: suite) pos' :: rest)) (SP X pins D) X.xe s := by
  obtain ⟨oe, vs, e1, e2, e3, J⟩ := k.obj
  have I := k.inv
  have m : PySem.W.Looks (model X.prog X.w) s.heap (excMatches (.ref a) c) b := PySem.W.exm_one I.kIn (fun A Q E t kp q => wpAny_typeOf_ref (kp _ _ e1) (by rw [e2.1]; exact q)) hb
  refine wpAny_handleBy_cons (codeAny_handlers_test ?_) (fun z => nomatch z)
  have name : ∀ {Q E : Value → Shared → Prop}, Q c s → wpAny (model X.prog X.w) (X.A.mark (some (.ref a))) (eval (.Name x np) X.env) Q E s := by
    intro Q E q
    obtain ⟨g, gd, g1 | ⟨g1, g2, g3⟩⟩ := hc
    · exact ld_glob (X := X.suite a ((a, oe) :: (X.pn ++ pins))) J g g1 q gd
    · exact ld_blt (X := X.suite a ((a, oe) :: (X.pn ++ pins))) J g g1 g2 q g3 gd
  refine name (m.here ?_)
  match b with
  | false => exact no rfl
  | true =>
    obtain ⟨B, t, q1, q2, q3, q4, q5, q6⟩ := k.fly
    refine codeAny_handlers_suite_as (HandSPX.lands_againZ q1 fun g fg ug => ?_)
    have k2 : Caught X pins σ H a cls d { s with heap := g } := ⟨k.stk, k.lf, k.strange, B, t, fg, q2, q3.trans ug, q4, q5, q6⟩
    obtain ⟨o2, v2, f1, f2, f3, J2⟩ := k2.obj
    refine store_ok (X := X.suite a ((a, o2) :: (X.pn ++ pins))) (v := .ref a) J2 hN hi (.inl hl) rfl (fun t2 I2 => ?_) (.inr hl)
    refine wpAny_mono ((hu a o2 cls d (X.pn ++ pins) f2 ⟨v2, f3⟩).run [] t2 _ H _ I2 (yes rfl)) (fun f t3 r => ?_) (fun _ _ z => z.elim)
    have gone : ∀ {σ3 : L2.St} {H3 : Hp} {P : Shared → Prop}, Inv (X.suite a ((a, o2) :: (X.pn ++ pins))) [] σ3 H3 t3 → (∀ u, Inv X pins (σ3.set i none) H3 u → P u) → wpAny (model X.prog X.w) X.A (do bindName X.env n .none; unbindBehindTheSuite X.env n pos') (fun _ u => P u) X.xe t3 :=
      fun I3 h3 => gone_ok (I3.unsuite I.ok) hN hi hl h3
    match f, r with
    | .next, ⟨_, _, I3, w3⟩ => exact gone I3 fun _ I4 => ⟨_, _, I4, w3⟩
    | .brk, ⟨_, _, I3, w3⟩ => exact gone I3 fun _ I4 => ⟨_, _, I4, w3⟩
    | .cont, ⟨_, _, I3, w3⟩ => exact gone I3 fun _ I4 => ⟨_, _, I4, w3⟩
    | .ret _, ⟨_, _, _, I3, r3, w3⟩ => exact gone I3 fun _ I4 => ⟨_, _, _, I4, r3, w3⟩
end
abbrev Cl := Value × Nat × (Addr → Value → Option Addr → TS)
/-- what clauses with names wish of an exception, one behind the other; each has a slot for its name -/
def wMas (K : PySem.W.Frag) (Wout : WX) (D : Ends) : List Cl → WX
  | [], cls, d, σ, H => Wout cls d σ H
  | (c, i, ts) :: r, cls, d, σ, H => ∃ b, PySem.W.exmOne K cls c = some b ∧ (b = true → ∀ a, H a = none → ts a cls d (dropN D i) (σ.set i (some (.ref a))) H) ∧ (b = false → wMas K Wout D r cls d σ H)
inductive HdsAs (X : Cx) : List ExceptHandler → List Cl → Prop
  | nil : HdsAs X [] []
  | cons {x n : Str} {c : Value} {i : Nat} {ts : Addr → Value → Option Addr → TS} {b₀ : Stmt} {suite : List Stmt} {np pos' : Pos} {hds : List ExceptHandler} {l : List Cl} (hi : X.N[i]? = some n) (hl : X.env.kindOf n = some .local) (hc : Names X x c) (hu : Suites X (b₀ :: suite) ts)
      (r : HdsAs X hds l) : HdsAs X (.ExceptHandler (some (.Name x np)) (some n) (b₀ :: suite) pos' :: hds) ((c, i, ts) :: l)
section
variable {X : Cx} {pins : List (Addr × Obj)} {σ : L2.St} {H : Hp} {a : Addr} {cls : Value} {d : Option Addr} {s : Shared}
theorem Caught.all {D : Ends} {W : WX} (hN : X.N.Nodup) (tk : Takes X W) (k : Caught X pins σ H a cls d s) : ∀ {hds : List ExceptHandler} {l : List Cl}, HdsAs X hds l → wMas X.K W D l cls d σ H →
    wpAny (model X.prog X.w) X.A (handleBy (.ref a) X.env hds) (SP X pins D) X.xe s
  | _, _, .nil, w => k.out tk w
  | _, _, .cons hi hl hc hu r, ⟨b, e, yes, no⟩ => k.clause hN hi hl hc hu e (fun z => yes z a k.strange) fun z => Caught.all hN tk k r (no z)
variable {body : List Stmt} {h₀ : ExceptHandler} {hds : List ExceptHandler} {l : List Cl} {pos : Pos} {tb : WX → TS} {W0 : WX}
theorem ps_try_manyAs (hs : X.stack = X.env :: X.outer) (hf : X.env.frame = some X.env.locals) (hN : X.N.Nodup) (tk : Takes X W0)
    (hb : ∀ W pn xe, Takes (X.tr pn xe) W → PassesOwn (model X.prog X.w) X.A X.env xe → PSs (X.tr pn xe) body (tb W))
    (hh : HdsAs X (h₀ :: hds) l) : PS X (.Try body (h₀ :: hds) [] [] pos) (fun D => tb (wMas X.K W0 D l) D) := by
  constructor
  intro pins s σ H D I h
  have hfr : X.A.frames = some (X.env :: X.outer) := I.ok.frames.trans (congrArg some hs)
  refine wpAny_Try_except (wpAny_mono ((hb (wMas X.K W0 D l) (X.pn ++ pins) (fun e t => wpAny (model X.prog X.w) X.A (noteFrame e X.env) (fun _ t2 => wpAny (model X.prog X.w) X.A (setFlight e none) (fun _ t3 =>
    wpAny (model X.prog X.w) X.A (handleBy e X.env (h₀ :: hds)) (SP X pins D) X.xe t3) X.xe t2) X.xe t) (fun u t z => ?_) PassesOwn.looking).run [] s σ H D (I.toTry _) h) (fun f t z => ?_) fun _ _ z => z)
  · obtain ⟨a, B, t0, ps, σ', H', cls, d, rfl, I', nb, up, sk, na, os, ag, w⟩ := z
    refine Sky.land Zc.steady hfr hf (hs ▸ sk) fun g fg ug => ?_
    have k : Caught X pins σ' H' a cls d { t with heap := g } := ⟨hs, hf, na, B, t0, fg, I'.ofTry I.ok, up.trans ug, os, ag, nb⟩
    exact Caught.all hN tk k hh w
  · match f, z with
    | .next, ⟨_, _, I', q⟩ => exact wpAny_execs_nil ⟨_, _, I'.ofTry I.ok, q⟩
    | .brk, ⟨_, _, I', q⟩ => exact ⟨_, _, I'.ofTry I.ok, q⟩
    | .cont, ⟨_, _, I', q⟩ => exact ⟨_, _, I'.ofTry I.ok, q⟩
    | .ret _, ⟨_, _, _, I', r, q⟩ => exact ⟨_, _, _, I'.ofTry I.ok, r, q⟩
end
end TMA
namespace K3
open PySem PySem.Spec PyProof.Rows L2 Evl GV
section
variable {K : PySem.W.Frag} {mg : Str → Option Value} {P : Program} {w : World} {base : Heap}
theorem Tx.ini (T : Tx K mg) {x : Str} (h : x ∈ exN) : KV.Ini K x ["name"] ∧ PySem.W.keepIn K (.ref (He.ga K x)) = true := by
  have z := List.all_eq_true.mp (He.ba (He.ba (He.ba (He.ba T.e).2).2).2).1 x h
  obtain ⟨a, b⟩ := He.ba z
  exact ⟨KV.iniB_ok a, b⟩
theorem Tx.exm (T : Tx K mg) {x y : Str} (h : x ∈ exN) (h2 : y ∈ exN) : PySem.W.exmOne K (.ref (He.ga K x)) (.ref (He.ga K y)) = some (decide (x = y)) :=
  of_decide_eq_true (List.all_eq_true.mp (List.all_eq_true.mp (He.ba (He.ba (He.ba (He.ba T.e).2).2).2).2 x h) y h2)
/-! ### the three exceptions -/
/-- self.name = v, of an exception that is being made -/
def spIniD (K : PySem.W.Frag) (C : Addr) (f : Str) : Sp := fun vs H Q _ => ∃ (a : Addr) (v : V), vs = [.ref a, v] ∧ H a = some (exo a C none) ∧
  ∀ d H2, H d = none → d ≠ a → (∀ b o, b ≠ a → H b = some o → H2 b = some o) → H2 a = some (exo a C (some d)) → H2 d = some (exd d [(f, v)]) → Q .non H2
theorem iniD_run {C : Addr} {f : Str} {N : List Str} (T : OexC K C) (hno : PySem.W.findIn K (.ref C) f = some none) {vs : List V} {H : Hp} {Q : VK} {E : XK}
    (h : spIniD K C f vs H Q E) (h0 : ∀ a v, start N [.ref a, v] = [some (.ref a), some v]) : tOst K f (tVar 0) (tVar 1) { nx := fun _ H' => Q .non H', rt := Q } (start N vs) H := by
  obtain ⟨a, v, rfl, ha, k⟩ := h
  rw [h0]
  refine ⟨v, rfl, .ref a, rfl, a, C, rfl, T, hno, .inl ⟨ha, fun dx hn ne => k dx _ hn ne (fun b o nb hb => ?_) upd_same ?_⟩⟩
  · rw [upd_ne nb, upd_ne (ne_of_none hb hn)]
    exact hb
  · rw [upd_ne ne]
    exact upd_same
theorem sc_BadName : FnScope ["self", "name"] ["self", "name"] (defScope (inClass (top 3) 0)) := ⟨rfl, rfl, rfl, by decide +kernel, rfl, by decide +kernel, by decide +kernel⟩
theorem ok_BadName (T : Tx K mg) : ∃ fd, FnOk P w K mg base CX0 1 (He.ma K (He.ga K "BadName") "__init__") fd ["self", "name"] (spIniD K (He.ga K "BadName") "name") ∧ Binds K fd ["self", "name"] [] := by
  obtain ⟨fd, F⟩ := T.d.def_ 61 (d := d_BadName_init) rfl
  have I := (T.ini (x := "BadName") (by decide)).1
  refine ⟨fd, F.ok sc_BadName (fun vs H Q E h => ?_) (fun cdv A outer s H vs Q E hr h => ?_), FunD.bindsN F fun _ _ _ _ _ _ us hl => match us, hl with | [_, _], _ => rfl⟩
  · obtain ⟨a, v, rfl, _⟩ := h
    rfl
  · exact ⟨_, PSs.nox (pss_one (ps_ost (pv 0) (pv 1))), iniD_run I.T (I.no _ (by simp)) h fun _ _ => rfl⟩
theorem sc_BadNumber : FnScope ["self", "name"] ["self", "name"] (defScope (inClass (top 4) 0)) := ⟨rfl, rfl, rfl, by decide +kernel, rfl, by decide +kernel, by decide +kernel⟩
theorem ok_BadNumber (T : Tx K mg) : ∃ fd, FnOk P w K mg base CX0 1 (He.ma K (He.ga K "BadNumber") "__init__") fd ["self", "name"] (spIniD K (He.ga K "BadNumber") "name") ∧ Binds K fd ["self", "name"] [] := by
  obtain ⟨fd, F⟩ := T.d.def_ 62 (d := d_BadNumber_init) rfl
  have I := (T.ini (x := "BadNumber") (by decide)).1
  refine ⟨fd, F.ok sc_BadNumber (fun vs H Q E h => ?_) (fun cdv A outer s H vs Q E hr h => ?_), FunD.bindsN F fun _ _ _ _ _ _ us hl => match us, hl with | [_, _], _ => rfl⟩
  · obtain ⟨a, v, rfl, _⟩ := h
    rfl
  · exact ⟨_, PSs.nox (pss_one (ps_ost (pv 0) (pv 1))), iniD_run I.T (I.no _ (by simp)) h fun _ _ => rfl⟩
theorem sc_BadRule : FnScope ["self", "name"] ["self", "name"] (defScope (inClass (top 5) 0)) := ⟨rfl, rfl, rfl, by decide +kernel, rfl, by decide +kernel, by decide +kernel⟩
theorem ok_BadRule (T : Tx K mg) : ∃ fd, FnOk P w K mg base CX0 1 (He.ma K (He.ga K "BadRule") "__init__") fd ["self", "name"] (spIniD K (He.ga K "BadRule") "name") ∧ Binds K fd ["self", "name"] [] := by
  obtain ⟨fd, F⟩ := T.d.def_ 63 (d := d_BadRule_init) rfl
  have I := (T.ini (x := "BadRule") (by decide)).1
  refine ⟨fd, F.ok sc_BadRule (fun vs H Q E h => ?_) (fun cdv A outer s H vs Q E hr h => ?_), FunD.bindsN F fun _ _ _ _ _ _ us hl => match us, hl with | [_, _], _ => rfl⟩
  · obtain ⟨a, v, rfl, _⟩ := h
    rfl
  · exact ⟨_, PSs.nox (pss_one (ps_ost (pv 0) (pv 1))), iniD_run I.T (I.no _ (by simp)) h fun _ _ => rfl⟩

/-- a def lets out an exception of this class about v -/
def BadE (K : PySem.W.Frag) (x : Str) (v : V) (H : Hp) (E : XK) : Prop := ∀ d H', H d = none → Ex H H' → H' d = some (.xd [("name", v)]) → E (.ref (He.ga K x)) (some d) H'
theorem BadE.go {x : Str} {v : V} {H H' : Hp} {E : XK} (h : BadE K x v H E) (e : Ex H H') : BadE K x v H' E := fun d H2 hd e2 h2 => h d H2 (fresh_back e hd) (e.trans e2) h2
/-- raise X(te) -/
theorem raise_ok {x : Str} {v : V} {σ : L2.St} {H : Hp} {E : XK} {te : TE} (h : Ev te σ H v) (b : BadE K x v H E) : tMkO (He.ga K x) (spIniD K (He.ga K x) "name") [] (tCons te tNil) σ H (fun cls d H' => E cls d H') := by
  refine ea_cons h ea_nil H (Ex.refl H) _ fun H1 e1 => ⟨(by show 1 ≤ 1000; decide), fun a ha => ⟨a, v, rfl, upd_same, fun d H2 hd ne k h1 h2 => ⟨rfl, d, _, h1, h2, ?_, ?_⟩⟩⟩
  · rw [upd_ne ne] at hd
    exact hd
  · rw [upd_ne ne] at hd
    refine b.go e1 d _ hd (fun c o hc => ?_) upd_same
    have c1 : c ≠ d := ne_of_none hc hd
    have c2 : c ≠ a := ne_of_none hc ha
    rw [upd_ne c1, del_ne c2]
    exact k c o c2 (by rw [upd_ne c2]; exact hc)
end
end K3
namespace K3
open PySem PySem.Spec PyProof.Rows L2 Evl GV
section
variable {K : PySem.W.Frag} {mg : Str → Option Value} {P : Program} {w : World} {base : Heap}
/-! ### things of any kind that the law hands in -/
/-- None, a truth value, an integer, a text, a list -/
inductive Pl (K : PySem.W.Frag) (H : Hp) : V → Prop
  | non : Pl K H .non
  | bl (b : Bool) : Pl K H (.bl b)
  | int (i : Int) : Pl K H (.int i)
  | str (z : Str) (h : z.length ≤ 100000) : Pl K H (.str z)
  | lst (a : Addr) (xs : List V) (h : SqL K H a xs) : Pl K H (.ref a)
theorem Pl.ex {H H' : Hp} {v : V} (e : Ex H H') (h : Pl K H v) : Pl K H' v := by
  cases h with
  | non => exact .non
  | bl b => exact .bl b
  | int i => exact .int i
  | str z h => exact .str z h
  | lst a xs h => exact .lst a xs (ex_l e h)
/-- what isinstance says of a kind -/
structure Kb (n : String) (v : V) : Prop where
  s : kitB n "str" = some (isStr v)
  b : kitB n "bool" = some (isBl v)
  i : kitB n "int" = some (isBl v || isInt v)
theorem kb_non : Kb "NoneType" .non := ⟨by show _ = some false; decide +kernel, by show _ = some false; decide +kernel, by show _ = some false; decide +kernel⟩
theorem kb_bl (b : Bool) : Kb "bool" (.bl b) := ⟨by show _ = some false; decide +kernel, by show _ = some true; decide +kernel, by show _ = some true; decide +kernel⟩
theorem kb_int (i : Int) : Kb "int" (.int i) := ⟨by show _ = some false; decide +kernel, by show _ = some false; decide +kernel, by show _ = some true; decide +kernel⟩
theorem kb_str (z : Str) : Kb "str" (.str z) := ⟨by show _ = some true; decide +kernel, by show _ = some false; decide +kernel, by show _ = some false; decide +kernel⟩
theorem kb_lst (a : Addr) : Kb "list" (.ref a) := ⟨by show _ = some false; decide +kernel, by show _ = some false; decide +kernel, by show _ = some false; decide +kernel⟩
theorem kd_lst {H : Hp} {a : Addr} {xs : List V} (h : SqL K H a xs) : Kd K H (.ref a) "list" := by
  rcases h with (h | ⟨o, h⟩) | ⟨o, its, n, h1, h2, _⟩
  · exact .base (.lst h)
  · exact .base (.frz h)
  · exact .kList h1 h2
theorem Pl.kind {H : Hp} {v : V} (h : Pl K H v) : ∃ n, Kd K H v n ∧ Kb n v ∧ ∀ z, v = .str z → z.length ≤ 100000 := by
  cases h with
  | non => exact ⟨_, .base .non, kb_non, fun z h => nomatch h⟩
  | bl b => exact ⟨_, .base (.bl b), kb_bl b, fun z h => nomatch h⟩
  | int i => exact ⟨_, .base (.int i), kb_int i, fun z h => nomatch h⟩
  | str z h => exact ⟨_, .base (.str z), kb_str z, fun y e => by cases e; exact h⟩
  | lst a xs h => exact ⟨_, kd_lst h, kb_lst a, fun z h => nomatch h⟩
/-! ### _check_names -/
/-- the first that is no name or stood before -/
def firstBad : List Str → List V → Option V
  | _, [] => none
  | seen, v :: r => match nam v with
    | .str z => if z ∈ seen then some v else firstBad (z :: seen) r
    | _ => some v
def seenP (seen : List Str) : Key → Bool
  | .inl _ => false
  | .inr z => decide (z ∈ seen)
theorem seenP_cons (z : Str) (seen : List Str) : seenP (z :: seen) = fun k => seenP seen k || decide (k = Sum.inr z) := by
  funext k
  cases k with
  | inl n =>
    show false = (false || decide ((Sum.inl n : Key) = Sum.inr z))
    rw [key_lr]
    rfl
  | inr y =>
    show decide (y ∈ z :: seen) = (decide (y ∈ seen) || decide ((Sum.inr y : Key) = Sum.inr z))
    rw [key_rr]
    by_cases h : y = z
    · simp [h]
    · simp [h]
theorem seenP_nil : seenP [] = fun _ => false := by
  funext k
  cases k <;> rfl
theorem nam_str {v : V} (h : ∀ z, v ≠ .str z) : nam v = .non := by
  cases v <;> first | rfl | exact absurd rfl (h _)
theorem nam_two (v : V) : nam v = .non ∨ ∃ z, v = .str z ∧ nam v = .str z := by
  cases v with
  | str z =>
    show (if okName z = true then V.str z else .non) = .non ∨ _
    by_cases h : okName z = true
    · exact .inr ⟨z, rfl, if_pos h⟩
    · exact .inl (if_neg h)
  | _ => exact .inl rfl
def spCheck (K : PySem.W.Frag) : Sp := fun vs H Q E => ∃ (l : Addr) (xs : List V), vs = [.ref l] ∧ SqL K H l xs ∧ xs.length ≤ 1000 ∧ (∀ x ∈ xs, Pl K H x) ∧ (firstBad [] xs = none → RetV .non H Q) ∧ ∀ v, firstBad [] xs = some v → BadE K "BadName" v H E
theorem sc_check : FnScope ["things", "seen", "thing", "name"] ["things"] (defScope (top 27)) := ⟨rfl, rfl, rfl, by decide +kernel, rfl, by decide +kernel, by decide +kernel⟩
theorem ok_check (T : Tx K mg) : ∃ fd, FnOk P w K mg base (L2.CX P w) 3 (He.ga K "_check_names") fd ["things"] (spCheck K) ∧ Binds K fd ["things"] [] ∧ PySem.W.keepIn K (.ref (He.ga K "_check_names")) = true := by
  obtain ⟨fd, F⟩ := T.d.def_ 8 (d := d__check_names) rfl
  obtain ⟨fd_as_name, G_as_name, b_as_name, k_as_name⟩ := ok_name (P := P) (w := w) (base := base) T
  have I_BadName := (T.ini (x := "BadName") (by decide)).1
  obtain ⟨fd_BadName, F_BadName, b_BadName⟩ := ok_BadName (P := P) (w := w) (base := base) T
  refine ⟨fd, F.ok sc_check (fun vs H Q E h => ?_) (fun cdv A outer s H vs Q E hr h => ?_), FunD.bindsN F fun _ _ _ _ _ _ us hl => match us, hl with | [_], _ => rfl, F.kp⟩
  · obtain ⟨l, xs, rfl, _⟩ := h
    rfl
  · refine ⟨_, (pss_cons (ps_set (i := 1) sc_check.nd rfl (Or.inl rfl) (pe_callTy0 cr_set0K (by rfl) (T.fr 41 rfl) (by decide +kernel)))
      (pss_one (ps_for (passes_of rfl) rfl (pi_list (pv 0)) (pg_name (i := 2) sc_check.nd rfl (Or.inl rfl)) (pss_cons (ps_set (i := 3) sc_check.nd rfl (Or.inl rfl) (pe_call G_as_name (hr.mono (by decide)) rfl (T.gl 13 rfl) k_as_name b_as_name .nil pass0 (pa_cons (pv 2) pa_nil)))
      (pss_cons (ps_if (PW.pt (pw_or (pt_cmpR op_isN (pv 3) pe_non (nomark _)) (pw_or1 (pt_cmpR or_sinK (pv 3) (pv 1) (by rfl))))) (pss_one (ps_raise rfl (takes_of rfl rfl rfl rfl) (pmk_oex I_BadName.T I_BadName.iC I_BadName.tI F_BadName (hr.mono (by decide)) b_BadName .nil pass0 (by rfl) (T.gl 2 rfl) (pa_cons (pv 2) pa_nil)))) pss_nil)
      (pss_one (ps_expr (pe_saddK (pv 1) (pa_cons (pv 3) pa_nil))))))))), ?_⟩
    obtain ⟨l, xs, rfl, hl, hn, hpl, q1, q2⟩ := h
    refine q_set0 fun p hp => ?_
    have e0 : Ex H (upd H p (SetK P w p (fun _ => false) 0)) := Ex.new hp
    refine s_forLn (a := l) (xs := xs) (ev_var rfl) (ex_l e0 hl) (fun i σ Hc => Ex H Hc ∧ (∃ x y, σ = [some (.ref l), some (.ref p), x, y]) ∧ ∃ seen n, n ≤ i ∧ Hc p = some (SetK P w p (seenP seen) n) ∧ firstBad [] xs = firstBad seen (xs.drop i)) (fun H1 e1 => ⟨e0.trans e1, ⟨_, _, rfl⟩, [], 0, Nat.le_refl _, ?_, rfl⟩) (fun i σ Hc _ h => ex_l h.1 hl) ?_ ?_
    · have z := e1 p _ upd_same
      rw [seenP_nil]
      exact z
    · rintro i x σ Hc hi ⟨ex, ⟨x0, y0, rfl⟩, seen, n, hni, hs, hf⟩
      have hpx := hpl x (List.mem_of_getElem? hi)
      have hi2 : i < xs.length := (List.getElem?_eq_some_iff.mp hi).1
      have hdr : xs.drop i = x :: xs.drop (i + 1) := by
        rw [List.drop_eq_getElem_cons hi2]
        congr 1
        exact Option.some.inj ((List.getElem?_eq_getElem hi2).symm.trans hi)
      rw [hdr] at hf
      obtain ⟨kn, k1, k2, k3⟩ := (hpx.ex ex).kind
      refine q_asg (v := nam x) (ev_call (sp := spName K) (vs := [x]) (ea_cons (ev_var rfl) ea_nil) fun H1 e1 Q1 k1' E1 => ⟨x, kn, rfl, kd_ex e1 k1, k2.s, k3, fun H2 e2 => k1' H2 e2⟩) fun H1 e1 => ?_
      have hs1 := e1 _ _ hs
      rcases nam_two x with hb | ⟨z, rfl, hz⟩
      · rw [hb]
        have hbad : firstBad [] xs = some x := by
          rw [hf]
          unfold firstBad
          rw [hb]
        refine q_when (b := true) (et_or (a := true) (b := true) (et_test fun H2 e2 Q2 k2 => ⟨_, rfl, rfl, k2 H2 (Ex.refl H2)⟩) (fun z => nomatch z)) (fun _ H2 e2 => ?_) (fun z => nomatch z)
        exact raise_ok (ev_var rfl) ((q2 x hbad).go (ex.trans (e1.trans e2)))
      · rw [hz]
        have hfz : firstBad [] xs = if z ∈ seen then some (.str z) else firstBad (z :: seen) (xs.drop (i + 1)) := by
          rw [hf]
          rw [firstBad, hz]
        refine q_when (b := false || seenP seen (.inr z)) (et_or (a := false) (et_test fun H2 e2 Q2 k2 => ⟨_, rfl, rfl, k2 H2 (Ex.refl H2)⟩) fun _ => et_test fun H2 e2 Q2 k2 => ⟨_, rfl, _, rfl, .inr z, p, _, _, rfl, rfl, e2 _ _ hs1, k2 H2 (Ex.refl H2)⟩) (fun hb H2 e2 => ?_) fun hb H2 e2 => ?_
        · have hin : z ∈ seen := of_decide_eq_true hb
          rw [if_pos hin] at hfz
          exact raise_ok (ev_var rfl) ((q2 _ hfz).go (ex.trans (e1.trans e2)))
        · have hin : z ∉ seen := of_decide_eq_false hb
          rw [if_neg hin] at hfz
          have hs2 := e2 _ _ hs1
          refine ⟨_, rfl, ⟨p, _, _, rfl, hs2⟩, _, rfl, p, .inr z, _, _, rfl, rfl, hs2, ?_, ?_⟩
          · have : (n : Nat) + 1 ≤ 2000 := by omega
            exact Nat.lt_of_le_of_lt this (by decide)
          · refine ⟨Ex.mut ((ex.trans e1).trans e2) hp, ⟨_, _, rfl⟩, z :: seen, if seenP seen (Sum.inr z) = true then n else n + 1, ?_, ?_, hfz⟩
            · split <;> omega
            · rw [seenP_cons]
              exact upd_same
    · rintro σ Hc ⟨ex, _, seen, n, _, _, hf⟩
      rw [List.drop_length] at hf
      exact q1 hf Hc ex
end
end K3
/-! general: *d in a list display, list(d.values()), x in d.values() -/
namespace SV
open PySem PySem.Spec PyProof.Rows L2
section
variable {X : Cx} {pins : List (Addr × Obj)} {σ : L2.St} {H : Hp} {s : Shared}
/-- what a star takes out of a list, a tuple, a dict -/
def Src (K : PySem.W.Frag) (x : V) (H : Hp) (xs : List V) : Prop :=
  (∃ p, x = .ref p ∧ (SqT K H p xs ∨ SqL K H p xs)) ∨ ∃ p kvs, x = .ref p ∧ H p = some (.dK kvs) ∧ xs = kvs.map fun kv => kV kv.1
theorem star_dict {a : Addr} {kvs : List (Key × V)} {E : Value → Shared → Prop} {Q : List Value → Shared → Prop} (hc : X.calm = true) (I : Inv X pins σ H s) (h : H a = some (.dK kvs))
    (hQ : ∀ us s', Inv X pins σ H s' → Vals (kvs.map fun kv => kV kv.1) us → Q us s') : PySem.W.StarOf (model X.prog X.w) X.A E (.ref a) Q s := by
  obtain ⟨hz, lo, vs, rkv, hda⟩ := dk_of I.hok h
  obtain ⟨epo, hat⟩ := hda.dictAt
  have hl : kvs.length = vs.length := KV.length rkv
  have hT : s.TypeIs (.ref a) "dict" := hat.dictOf.typeIs
  have zt : wpAny (model X.prog X.w) X.A (collect (.ref a)) Q E s := by
    refine PySem.W.kdu_collect (R := Q) (PySem.W.kdl_dict (knd := mixKind X.prog X.w) (kvs := vs) (ep := epo) lo) (I.ok.hd hc) hat (by rw [← hl]; exact hz) fun h' tkn got hk hgot => ?_
    refine hQ _ _ (I.kept (t' := tkn) hk) ?_
    have hel : got.toList.length = got.size := by simp
    refine vals_of_at (by rw [List.length_map, hel, hgot.1, hl]) fun j x w h1 h2 => ?_
    obtain ⟨k, y, hkk, hi⟩ := hgot.2 j w (by rw [← Array.getElem?_toList]; exact h2)
    have e1x : (kvs.map (·.1))[j]? = some k := by
      rw [KV.keys rkv, List.getElem?_map, hkk] <;> rfl
    have e2x : (kvs.map fun kv => kV kv.1)[j]? = some (kV k) := by
      have e3x : (kvs.map fun kv => kV kv.1) = (kvs.map (·.1)).map kV := by rw [List.map_map] <;> rfl
      rw [e3x, List.getElem?_map, e1x] <;> rfl
    rw [e2x] at h1
    cases h1
    exact keyIs_rel hi
  unfold PySem.W.StarOf
  unfold notIterableAtAll
  exact wpAny_bind (wpAny_specialOf hT PySem.F.slot_dict_iter.lookup (wpAny_pure ⟨rfl, zt⟩))
theorem star_src {x : V} {v : Value} {xs : List V} {E : Value → Shared → Prop} {Q : List Value → Shared → Prop} (hc : X.calm = true) (I : Inv X pins σ H s) (r : RelV x v) (h : Src X.K x H xs)
    (hQ : ∀ us s', Inv X pins σ H s' → Vals xs us → Q us s') : PySem.W.StarOf (model X.prog X.w) X.A E v Q s := by
  rcases h with ⟨p, rfl, h⟩ | ⟨p, kvs, rfl, h, rfl⟩
  · obtain rfl : v = Value.ref p := r
    exact StX.star_any I h hQ
  · obtain rfl : v = Value.ref p := r
    exact star_dict hc I h hQ
end
/-- *e in an argument list or a display: what it holds, a dict's keys -/
def tStarA (K : PySem.W.Frag) (te : TE) (t : TA) : TA := fun σ H Q => te σ H fun x G1 => ∃ xs, Src K x G1 xs ∧ t σ G1 fun ys H2 => Q (xs ++ ys) H2
theorem pa_starA {X : Cx} {e : Expr} {es : List Expr} {te : TE} {t : TA} {p : Pos} (hc : X.calm = true) (he : PE X e te) (hr : PA X es t) (hs : starEach (.Starred e p :: es) X.env = (true, eval e X.env) :: starEach es X.env := by rfl) : PA X (.Starred e p :: es) (tStarA X.K te t) := by
  refine ⟨fun pos pins s σ H Q I h => ?_⟩
  refine PySem.W.items_star (thn (he.run pins s σ H _ I h) fun v u1 ⟨y, G1, J1, ry, xs, hx, q⟩ => ?_) hs
  refine star_src hc J1 ry hx fun us s2 I2 rv => ?_
  exact thn (hr.run pos pins s2 σ G1 _ I2 q) fun ws s3 ⟨vs, H3, I3, r3, q3⟩ => ⟨xs ++ vs, H3, I3, rv.append r3, q3⟩
/-! ### views of values -/
def PVw (X : Cx) (e : Expr) (t : L2.St → Hp → (Addr → List (Key × V) → Hp → Prop) → Prop) : Prop :=
  ∀ (pins : List (Addr × Obj)) (s : Shared) (σ : L2.St) (H : Hp) (Q : Addr → List (Key × V) → Hp → Prop), Inv X pins σ H s → t σ H Q →
    wpAny (model X.prog X.w) X.A (eval e X.env) (fun x s' => ∃ r d kvs H', x = .ref r ∧ s'.heap.IsValuesView r d ∧ Inv X pins σ H' s' ∧ H' d = some (.dK kvs) ∧ Q d kvs H') X.xe s
def tVw (td : TE) : L2.St → Hp → (Addr → List (Key × V) → Hp → Prop) → Prop := fun σ H Q => td σ H fun x G1 => ∃ d kvs, x = V.ref d ∧ G1 d = some (.dK kvs) ∧ Q d kvs G1
variable {X : Cx} {o e : Expr} {td te : TE} {p pos apos mpos : Pos} {t : L2.St → Hp → (Addr → List (Key × V) → Hp → Prop) → Prop}
theorem pvw (hda : PE X o td) (hbase : attributeBase o "values" X.env (eval o X.env) = eval o X.env := by rfl) (hline : (apos.endLine == mpos.line) = true := by rfl) : PVw X (.Call (.Attribute o "values" apos) [] [] mpos) (tVw td) := by
  intro pins s σ H Q I h
  refine wpAny_Call_method0_late hbase hline (thn (hda.run pins s σ H _ I h) fun v u1 ⟨x, G1, J1, rl1, a, kvs, ex, ha, q⟩ => ?_)
  subst ex
  obtain rfl : v = Value.ref a := rl1
  obtain ⟨_, hsy, vs, rel, hdof⟩ := dk_of J1.hok ha
  obtain ⟨epo, hdat0⟩ := hdof.dictAt
  obtain ⟨ob, es, ho, ex, hdat, hko, hpr, hnd⟩ := id hdat0
  refine ⟨"dict", "dict.values", F.plainAttrs_dict, F.slot_dict_values, F.type_dict_values, ⟨ob, ho, ex.1⟩, fun b eb => ?_, Calls.callWith_builtin rfl (PySem.evalArgs_none ?_)⟩
  · cases eb
    exact ⟨ob, ho, ex.2.1⟩
  refine call_meetsIn F.slot_dict_values ⟨ob, ho, ex.1⟩ F.entry_dict_values (F.args_dict_values_1 _) (meets_dict_values (mixKind X.prog X.w) a hsy) ⟨⟨vs, hdof⟩, ?_⟩
  exact ⟨_, a, kvs, G1, rfl, ⟨_, Heap.get?_push_size _ rfl, rfl, rfl⟩, J1.kept (t' := u1.toks) fun b u e => Heap.get?_push_of_some _ e, ha, q⟩
/-- list(d.values()) -/
def tLstVw (t : L2.St → Hp → (Addr → List (Key × V) → Hp → Prop) → Prop) : TE := fun σ H Q => t σ H fun d kvs G1 => ∀ q, G1 q = none → Q (.ref q) (upd G1 q (.lst (kvs.map (·.2))))
theorem pe_listVw {p pos : Pos} (hc : X.calm = true) (hg : Gl X "list") (hm : X.mg "list" = none) (he : PVw X e t) (na : starEach [e] X.env = (false, eval e X.env) :: starEach [] X.env := by rfl) : PE X (.Call (.Name "list" p) [e] [] pos) (tLstVw t) := by
  refine ⟨fun pins s σ H Q I h => ?_⟩
  refine Call_ (ld_blt I hg hm boot_list (PyProof.Rows.callWith_type1 (args_cons (thn (he pins s σ H _ I h) fun x u1 ⟨r, d, kvs, G1, ex, hr, J1, hda, q⟩ => args_nil ?_) na) na))
  subst ex
  obtain ⟨hz, hsy, vs, rel, hdof⟩ := dk_of J1.hok hda
  obtain ⟨epo, hdat0⟩ := hdof.dictAt
  have hl : kvs.length = vs.length := KV.length rel
  refine PySem.W.kdl_call (PySem.W.kdl_values (knd := mixKind X.prog X.w) (kvs := vs) (ep := epo) (r := r) (d := d)) (J1.ok.hd hc) ⟨hr, hdat0⟩ (by rw [← hl]; exact hz) fun h' tkn got' c' hk hLs hgot => ?_
  refine ⟨.ref u1.heap.objs.size, upd G1 u1.heap.objs.size (.lst (kvs.map (·.2))), J1.laid hk (Nat.le_refl _) (show ObjOk X.prog X.w _ _ _ (.lst (kvs.map (·.2))) from ⟨?_, got'.toList, c', ?_, ?_⟩), rfl, q _ (J1.hok.fresh (Nat.le_refl _))⟩
  · rw [List.length_map]; exact hz
  · have hel : got'.toList.length = got'.size := by simp
    refine vals_of_at (by rw [List.length_map, hel, hgot.1, hl]) fun j x w h1 h2 => ?_
    obtain ⟨k, hkk⟩ := hgot.2 j w (by rw [← Array.getElem?_toList]; exact h2)
    obtain ⟨y, hy, ry⟩ := KV.at' rel hkk
    rw [List.getElem?_map, hy] at h1
    cases h1
    exact ry
  · rw [Array.toArray_toList]; exact hLs
/-! ### x in d.values(), x a text and all values texts -/
theorem plain_cit : plainId "proto.contains_iter" = true := by decide +kernel
theorem entry_cit : entryFor table "proto.contains_iter" = some Builtin.«proto.contains_iter» := entryFor_of_tree (by kernel_rfl)
theorem noHas_values : typeLookup (.type "dict_values") "__contains__" = pure none := by rw [typeLookup_type, builtinLookup_eq_fast]; kernel_rfl
section
variable {prog : Program} {w : World} {A : Around} {R : Result → Shared → Prop} {I : Addr} {fp wr : List Addr} {n : Nat} {P : Nat → Value → Prop} {St : Nat → Heap → Prop}
theorem code_cit (W : Walks prog w A.in1 I fp wr n P St) {zt : Str} {t : Tok} (f : Nat → Str) (hf : ∀ i v, P i v → ∃ u, v = .str (f i) u) : ∀ (k i : Nat) (s : Shared), n - i = k → i ≤ n → St i s.heap →
    (∀ h' tkn, (∀ b o, b ∉ wr → s.heap.get? b = some o → h'.get? b = some o) → R (.ok (.ret (.bool (((List.range n).drop i).any fun j => decide (f j = zt))))) { s with heap := h', toks := tkn }) →
    codeAny (model prog w) A (.builtin "proto.contains_iter" ⟨[.ref I, .str zt t], []⟩) R s := by
  intro k
  induction k with
  | zero =>
    intro i s hk hi hin0 hR
    have hin : i = n := by omega
    subst hin
    refine codeAny_builtin entry_cit ?_
    rw [Around.under_plainId plain_cit _]
    show wpAny _ A.in1 (pyNext (.ref I) >>= _) _ _ s
    refine wpAny_bind (W.done s _ _ hin0 fun h' tkn hk' => ?_)
    refine wpAny_bind (wpAny_rule (wpAny_pure ?_))
    have := hR h' tkn hk'
    rw [List.drop_of_length_le (by simp)] at this
    exact this
  | succ k ih =>
    intro i s hk hi hin0 hR
    have hlt : i < n := by omega
    have hda : (List.range n).drop i = i :: (List.range n).drop (i + 1) := by
      simp [List.drop_eq_getElem_cons, hlt]
    refine codeAny_builtin entry_cit ?_
    rw [Around.under_plainId plain_cit _]
    show wpAny _ A.in1 (pyNext (.ref I) >>= _) _ _ s
    refine wpAny_bind (W.item i s _ _ hlt hin0 fun v h' tkn hP hin1 hk' => ?_)
    obtain ⟨u, rfl⟩ := hf i v hP
    refine wpAny_bind (wpAny_eqBool_str ?_)
    cases hb : decide (f i = zt) with
    | true =>
      simp only [if_true]
      refine wpAny_bind (wpAny_rule (wpAny_pure ?_))
      have := hR h' tkn hk'
      rw [hda, List.any_cons, hb, Bool.true_or] at this
      exact this
    | false =>
      simp only [Bool.false_eq_true, if_false]
      refine wpAny_pure ⟨plainId_quiet plain_cit _, ih (i + 1) _ (by omega) hlt hin1 fun h'' tk' hk'' => ?_⟩
      have := hR h'' tk' fun b o hb' e => hk'' b o hb' (hk' b o hb' e)
      rw [hda, List.any_cons, hb, Bool.false_or] at this
      exact this
end
def tInVw (neg : Bool) (ta : TE) (t : L2.St → Hp → (Addr → List (Key × V) → Hp → Prop) → Prop) : TE := fun σ H Q => ta σ H fun x G1 => t σ G1 fun d kvs H2 => ∃ (zt : Str) (zs : List Str), x = .str zt ∧ kvs.map (·.2) = zs.map V.str ∧ Q (.bl (Bool.xor neg (zs.any fun y => decide (y = zt)))) H2
theorem has_view {X : Cx} {pins : List (Addr × Obj)} {σ : L2.St} {H : Hp} {s : Shared} {r d : Addr} {kvs : List (Key × V)} {zt : Str} {zs : List Str} {t : Tok} {Q : Bool → Shared → Prop} (hc : X.calm = true) (I : Inv X pins σ H s) (hr : s.heap.IsValuesView r d) (hda : H d = some (.dK kvs)) (hz : kvs.map (·.2) = zs.map V.str)
    (h : ∀ s', Inv X pins σ H s' → Q (zs.any fun y => decide (y = zt)) s') : wpAny (model X.prog X.w) X.A (contains (.ref r) (.str zt t)) Q X.xe s := by
  obtain ⟨_, hsy, vs, rel, hdof⟩ := dk_of I.hok hda
  obtain ⟨epo, hdat0⟩ := hdof.dictAt
  have hl : kvs.length = vs.length := KV.length rel
  have hl2 : vs.length = zs.length := by
    have := congrArg List.length hz
    rw [List.length_map, List.length_map] at this
    omega
  have hT := hr.typeIs (s := s)
  unfold contains
  refine wpAny_holding ?_
  rw [stdlibNamesSay?_of_typeIs hT]
  refine wpAny_bind (wpAny_specialOf hT noHas_values ?_)
  show wpAny _ _ (if ((none : Option Value) == some Value.none) = true then _ else _) _ _ s
  rw [if_neg (by simp)]
  refine wpAny_bind (wpAny_callSpecialUnlessNone?_none hT noHas_values ?_)
  refine wpAny_bind (wpAny_rule ?_)
  refine wpAny_bind (wpAny_tryCatch (wpAny_pyIter_values (knd := mixKind X.prog X.w) hr hdat0 ?_))
  refine wpAny_bind (wpAny_runValue ?_)
  have W := Walks.dictValues (knd := mixKind X.prog X.w) (A := X.A.in1) (I.ok.hd hc) s.heap.objs.size d (Nat.ne_of_lt hdat0.lt_size) vs epo
  refine code_cit (A := X.A) W (fun i => zs.getD i "") (fun i v ⟨k, hk⟩ => ?_) vs.length 0 _ rfl (Nat.zero_le _) ⟨⟨_, Heap.get?_push_size _ rfl, rfl, rfl⟩, hdat0.push _⟩ fun h' tkn hk => ?_
  · obtain ⟨x, h1, h2⟩ := KV.at' rel hk
    have e1x : (kvs.map (·.2))[i]? = some x := by rw [List.getElem?_map, h1] <;> rfl
    rw [hz, List.getElem?_map] at e1x
    obtain ⟨j, hj, e2x⟩ := Option.map_eq_some_iff.mp e1x
    subst e2x
    obtain ⟨u, e3x⟩ := h2
    refine ⟨u, ?_⟩
    rw [e3x, List.getD_eq_getElem?_getD, hj] <;> rfl
  · refine wpAny_pure ?_
    have e : (((List.range vs.length).drop 0).any fun j => decide (zs.getD j "" = zt)) = (zs.any fun y => decide (y = zt)) := by
      rw [List.drop_zero, hl2]
      have e0 : (List.range zs.length).map (fun j => zs.getD j "") = zs := List.ext_getElem (by simp) fun j h1 h2 => by
        rw [List.getElem_map, List.getElem_range, List.getD_eq_getElem?_getD, List.getElem?_eq_getElem h2]
        rfl
      have e1x := congrArg (fun l => List.any l fun y => decide (y = zt)) e0
      rw [← e1x]
      simp only [List.any_map, Function.comp_def]
    rw [e]
    refine h _ (I.kept (t' := tkn) fun b u eb => hk b u (fun hm => ?_) (Heap.get?_push_of_some _ eb))
    have e1x : b = s.heap.objs.size := List.mem_singleton.mp hm
    have e2x := Heap.lt_size eb
    rw [e1x] at e2x
    exact absurd e2x (Nat.lt_irrefl _)
theorem pc_inVw {a : Expr} {ta : TE} (hc : X.calm = true) (ha : PE X a ta) (hb : PVw X e t) : PC X .In a e (tInVw false ta t) := by
  refine ⟨fun pins s σ H Q I h => ?_⟩
  refine thn (ha.run pins s σ H _ I h) fun v u1 ⟨x, G1, J1, rl1, q1⟩ => thn (hb pins u1 σ G1 _ J1 q1) fun u s2 ⟨r, d, kvs, H2, eu, hr, I2, hda, zt, zs, ex, hz, q2⟩ => ?_
  subst ex eu
  obtain ⟨tkn, rfl⟩ := rl1
  unfold compareOp
  refine wpAny_bind (has_view hc I2 hr hda hz fun s' I3 => wpAny_pure ⟨.bl _, H2, I3, rfl, ?_⟩)
  rw [Bool.false_xor] at q2
  exact q2
theorem pc_notInVw {a : Expr} {ta : TE} (hc : X.calm = true) (ha : PE X a ta) (hb : PVw X e t) : PC X .NotIn a e (tInVw true ta t) := by
  refine ⟨fun pins s σ H Q I h => ?_⟩
  refine thn (ha.run pins s σ H _ I h) fun v u1 ⟨x, G1, J1, rl1, q1⟩ => thn (hb pins u1 σ G1 _ J1 q1) fun u s2 ⟨r, d, kvs, H2, eu, hr, I2, hda, zt, zs, ex, hz, q2⟩ => ?_
  subst ex eu
  obtain ⟨tkn, rfl⟩ := rl1
  unfold compareOp
  refine wpAny_bind (has_view hc I2 hr hda hz fun s' I3 => wpAny_pure ⟨.bl _, H2, I3, rfl, ?_⟩)
  rw [Bool.true_xor] at q2
  exact q2
end SV
/-! dicts whose keys are texts, integers, truth values and None, side by side -/
namespace LD
open PySem PySem.Spec PyProof.Rows L2
/-- the value x is the key k -/
def lV : Leaf → V → Prop
  | .none, x => x = .non
  | .num i, x => x = .int i ∨ ∃ b : Bool, x = .bl b ∧ (if b = true then 1 else 0) = i
  | .text z, x => x = .str z
abbrev LKV := List (Leaf × V)
abbrev prR (p : Leaf × V) (q : Leaf × Value) : Prop := p.1 = q.1 ∧ RelV p.2 q.2
/-- at a: a dict with these keys and values -/
def dL (P : Program) (w : World) (a : Addr) (kvs : LKV) : HO := .ext fun h => kvs.length ≤ sizeLine ∧ (a == sysModules) = false ∧ ∃ vs, Paired prR kvs vs ∧ h.DictOf (leafKind P w) a vs
theorem leaf_rel {k : Leaf} {u : Value} (h : Leaf.isOf k u = true) : ∃ x, RelV x u ∧ lV k x := by
  cases k with
  | none =>
    cases u <;> first | exact ⟨.non, rfl, rfl⟩ | exact absurd h Bool.false_ne_true
  | num i =>
    cases u with
    | int j t =>
      have e : j = i := of_decide_eq_true h
      exact ⟨.int i, ⟨t, by rw [e]⟩, .inl rfl⟩
    | bool b => exact ⟨.bl b, rfl, .inr ⟨b, rfl, of_decide_eq_true h⟩⟩
    | _ => exact absurd h Bool.false_ne_true
  | text z =>
    obtain ⟨t, rfl⟩ := Value.isStrOf_shape (show Value.isStrOf z u = true from h)
    exact ⟨.str z, ⟨t, rfl⟩, rfl⟩
theorem lV_is {k : Leaf} {x : V} {u : Value} (h : lV k x) (r : RelV x u) : Leaf.isOf k u = true := by
  cases k with
  | none =>
    obtain rfl : x = .non := h
    cases r
    rfl
  | num i =>
    rcases h with rfl | ⟨b, rfl, e⟩
    · obtain ⟨t, rfl⟩ := r
      exact decide_eq_true rfl
    · cases r
      exact decide_eq_true e
  | text z =>
    obtain rfl : x = .str z := h
    obtain ⟨t, rfl⟩ := r
    show Value.isStrOf z (.str z t) = true
    simp [Value.isStrOf]
section
variable {P : Program} {w : World} {H : Hp} {h : Heap} {a : Addr} {kvs : LKV}
theorem dL_ok {vs : List (Leaf × Value)} (z : kvs.length ≤ sizeLine) (hs : (a == sysModules) = false) (r : Paired prR kvs vs) (d : h.DictOf (leafKind P w) a vs) : ObjOk P w H h a (dL P w a kvs) := by
  obtain ⟨o, es, ep, ho, rest⟩ := id d
  refine ⟨⟨z, hs, vs, r, d⟩, ⟨o, ho⟩, fun h1 h2 ⟨z1, z2, vs1, r1, o1, es1, ep1, g1, g2⟩ k => ⟨z1, z2, vs1, r1, o1, es1, ep1, k _ g1, g2⟩⟩
theorem dL_rd (ok : HOk P w H h) (e : Rd H a (dL P w a kvs)) : kvs.length ≤ sizeLine ∧ (a == sysModules) = false ∧ ∃ vs, Paired prR kvs vs ∧ h.DictOf (leafKind P w) a vs :=
  (show ObjOk P w H h a (dL P w a kvs) from rd_of ok e).1
end
/-! ### a dict of texts and integers seen so, and back -/
def lf : Key → Leaf
  | .inl n => .num n
  | .inr z => .text z
theorem lf_inj {a b : Key} (h : lf a = lf b) : a = b := by
  cases a <;> cases b <;> first | (injection h with e; rw [e]) | cases h
theorem key_leaf {k : Key} {u : Value} (h : keyIs k u = true) : Leaf.isOf (lf k) u = true := by
  rcases keyIs_shape h with ⟨i, t, rfl, rfl⟩ | ⟨z, t, rfl, rfl⟩
  · exact decide_eq_true rfl
  · exact h
theorem key_hash (w : World) (k : Key) : keyH w k = (lf k).key.hash w := by
  cases k <;> simp [keyH, lf, Leaf.key, NestedKey.hash]
def lfs (kvs : List (Key × V)) : LKV := kvs.map fun p => (lf p.1, p.2)
theorem pairs_up {P : Program} {w : World} : ∀ {es : List DictEntry} {vs : List (Key × Value)}, Pairs (mixKind P w) es vs → Pairs (leafKind P w) es (vs.map fun p => (lf p.1, p.2))
  | _, _, .nil => .nil
  | _, _, .cons h1 h2 t => .cons (key_leaf h1) h2 (pairs_up t)
theorem dict_up {P : Program} {w : World} {h : Heap} {a : Addr} {vs : List (Key × Value)} (d : h.DictOf (mixKind P w) a vs) : h.DictOf (leafKind P w) a (vs.map fun p => (lf p.1, p.2)) := by
  obtain ⟨o, es, ep, h1, h2, h3, h4, h5, h6⟩ := d
  refine ⟨o, es, ep, h1, h2, h3, fun e he => ?_, pairs_up h5, ?_⟩
  · obtain ⟨k, k1, k2⟩ := h4 e he
    exact ⟨lf k, key_leaf k1, k2.trans (key_hash w k)⟩
  · rw [List.map_map]
    have : ((fun p : Leaf × Value => p.1) ∘ fun p : Key × Value => (lf p.1, p.2)) = lf ∘ fun p => p.1 := rfl
    rw [this, ← List.map_map]
    exact h6.map _ fun x y n e => n (lf_inj e)
theorem nodup_back {α β : Type} (f : α → β) : ∀ {l : List α}, (l.map f).Nodup → l.Nodup
  | [], _ => .nil
  | x :: l, h => by
    rw [List.map_cons, List.nodup_cons] at h
    exact List.nodup_cons.mpr ⟨fun m => h.1 (List.mem_map_of_mem m), nodup_back f h.2⟩
/-- all keys are texts -/
def txts : LKV → Option (List (Str × V))
  | [] => some []
  | (.text z, v) :: r => (txts r).map ((z, v) :: ·)
  | _ :: _ => none
theorem pairs_down {P : Program} {w : World} : ∀ {es : List DictEntry} {vs : List (Str × Value)}, Pairs (leafKind P w) es (vs.map fun p => (Leaf.text p.1, p.2)) → Pairs (mixKind P w) es (vs.map fun p => (Sum.inr p.1, p.2))
  | [], [], _ => .nil
  | _ :: _, _ :: _, .cons h1 h2 t => .cons h1 h2 (pairs_down t)
  | [], _ :: _, h => nomatch h
  | _ :: _, [], h => nomatch h
theorem keys_down {P : Program} {w : World} : ∀ {es : List DictEntry} {vs : List (Str × Value)}, Pairs (leafKind P w) es (vs.map fun p => (Leaf.text p.1, p.2)) → ∀ e ∈ es, (∃ k, (leafKind P w).is k e.key = true ∧ e.hash = (leafKind P w).hash k) → ∃ k, (mixKind P w).is k e.key = true ∧ e.hash = (mixKind P w).hash k
  | [], _, _, e, he, _ => absurd he (by simp)
  | _ :: _, [], h, _, _, _ => nomatch h
  | f :: es, p :: vs, .cons h1 h2 t, e, he, hk => by
    rcases List.mem_cons.mp he with rfl | he
    · obtain ⟨k, k1, k2⟩ := hk
      cases (leafKind P w).inj _ _ _ k1 h1
      exact ⟨.inr p.1, h1, k2⟩
    · exact keys_down t e he hk
theorem dict_down {P : Program} {w : World} {h : Heap} {a : Addr} {vs : List (Str × Value)} (d : h.DictOf (leafKind P w) a (vs.map fun p => (Leaf.text p.1, p.2))) : h.DictOf (mixKind P w) a (vs.map fun p => (Sum.inr p.1, p.2)) := by
  obtain ⟨o, es, ep, h1, h2, h3, h4, h5, h6⟩ := d
  refine ⟨o, es, ep, h1, h2, h3, fun e he => keys_down h5 e (by simpa using he) (h4 e he), pairs_down h5, ?_⟩
  rw [List.map_map] at h6 ⊢
  have h7 : (vs.map (·.1)).Nodup := by
    have : ((fun p : Leaf × Value => p.1) ∘ fun p : Str × Value => (Leaf.text p.1, p.2)) = Leaf.text ∘ fun p => p.1 := rfl
    rw [this, ← List.map_map] at h6
    exact nodup_back _ h6
  have : ((fun p : Key × Value => p.1) ∘ fun p : Str × Value => ((Sum.inr p.1 : Key), p.2)) = (fun z : Str => (Sum.inr z : Key)) ∘ fun p => p.1 := rfl
  rw [this, ← List.map_map]
  exact h7.map _ fun x y n e => n (Sum.inr.inj e)
/-- a dict with texts as its keys, told both ways -/
def tkK (l : List (Str × V)) : List (Key × V) := l.map fun p => (Sum.inr p.1, p.2)
def tkL (l : List (Str × V)) : LKV := l.map fun p => (Leaf.text p.1, p.2)
theorem kv_up : ∀ {kvs : List (Key × V)} {vs : List (Key × Value)}, KV kvs vs → Paired prR (lfs kvs) (vs.map fun p => (lf p.1, p.2))
  | _, _, .nil => .nil
  | _, _, .cons ⟨e, r⟩ t => .cons ⟨congrArg lf e, r⟩ (kv_up t)
theorem kv_down : ∀ {l : List (Str × V)} {vs : List (Leaf × Value)}, Paired prR (tkL l) vs → ∃ us : List (Str × Value), vs = us.map (fun p => (Leaf.text p.1, p.2)) ∧ KV (tkK l) (us.map fun p => (Sum.inr p.1, p.2))
  | [], _, .nil => ⟨[], rfl, .nil⟩
  | p :: l, (k, u) :: vs, .cons ⟨e, r⟩ t => by
    obtain ⟨us, rfl, q⟩ := kv_down (l := l) t
    cases (show Leaf.text p.1 = k from e)
    exact ⟨(p.1, u) :: us, rfl, .cons ⟨rfl, r⟩ q⟩
section
variable {X : Cx} {pins : List (Addr × Obj)} {σ : L2.St} {H : Hp} {s : Shared} {a : Addr}
theorem same_view {o : HO} (I : Inv X pins σ H s) (mu : Mut (H a)) (he : ∃ q, s.heap.get? a = some q) (new : ObjOk X.prog X.w (upd H a o) s.heap a o) : Inv X pins σ (upd H a o) s :=
  d_write (h' := s.heap) (t' := s.toks) I mu ⟨rfl, fun _ _ => rfl⟩ he new
theorem view_up {kvs : List (Key × V)} (I : Inv X pins σ H s) (e : H a = some (.dK kvs)) : Inv X pins σ (upd H a (dL X.prog X.w a (lfs kvs))) s := by
  obtain ⟨z, hs, vs, r, d⟩ := dk_of I.hok e
  have ex : ∃ q, s.heap.get? a = some q := let ⟨o, _, _, ho, _⟩ := d; ⟨o, ho⟩
  exact same_view I (by rw [e]; exact True.intro) ex (dL_ok (by rw [lfs, List.length_map]; exact z) hs (kv_up r) (dict_up d))
theorem view_down {l : List (Str × V)} (I : Inv X pins σ H s) (e : H a = some (dL X.prog X.w a (tkL l))) : Inv X pins σ (upd H a (.dK (tkK l))) s := by
  obtain ⟨z, hs, vs, r, d⟩ := dL_rd I.hok (.inl e)
  have ex : ∃ q, s.heap.get? a = some q := let ⟨o, _, _, ho, _⟩ := d; ⟨o, ho⟩
  obtain ⟨us, rfl, q⟩ := kv_down r
  refine same_view I (by rw [e]; exact True.intro) ex (dk_new ?_ hs q (dict_down d))
  rw [tkL, List.length_map] at z
  rw [tkK, List.length_map]
  exact z
/-- one dict is told the other way -/
inductive View (P : Program) (w : World) : Hp → Hp → Prop
  | refl (H : Hp) : View P w H H
  | up {H H' : Hp} {a : Addr} {kvs : List (Key × V)} (e : H a = some (.dK kvs)) (r : View P w (upd H a (dL P w a (lfs kvs))) H') : View P w H H'
  | down {H H' : Hp} {a : Addr} {l : List (Str × V)} (e : H a = some (dL P w a (tkL l))) (r : View P w (upd H a (.dK (tkK l))) H') : View P w H H'
theorem View.inv {H' : Hp} (v : View X.prog X.w H H') : Inv X pins σ H s → Inv X pins σ H' s := by
  induction v with
  | refl H => exact fun I => I
  | up e r ih => exact fun I => ih (view_up I e)
  | down e r ih => exact fun I => ih (view_down I e)
end
/-- statements, the heap told in another way ahead of them -/
def tView (P : Program) (w : World) (t : TS) : TS := fun D σ H => ∃ H', View P w H H' ∧ t D σ H'
theorem pss_view {X : Cx} {b : List Stmt} {t : TS} (h : PSs X b t) : PSs X b (tView X.prog X.w t) := ⟨fun pins s σ H D I ⟨H', v, q⟩ => h.run pins s σ H' D (v.inv I) q⟩
theorem ps_view {X : Cx} {b : Stmt} {t : TS} (h : PS X b t) : PS X b (tView X.prog X.w t) := ⟨fun pins s σ H D I ⟨H', v, q⟩ => h.run pins s σ H' D (v.inv I) q⟩
theorem pe_view {X : Cx} {e : Expr} {t : TE} (h : PE X e t) : PE X e (fun σ H Q => ∃ H', View X.prog X.w H H' ∧ t σ H' Q) := ⟨fun pins s σ H Q I ⟨H', v, q⟩ => h.run pins s σ H' Q (v.inv I) q⟩
end LD
namespace LD
open PySem PySem.Spec PyProof.Rows L2
/-- an exception told of the heap seen another way -/
def eView (P : Program) (w : World) (E : XK) : XK := fun cls d H => ∃ H', View P w H H' ∧ E cls d H'
theorem View.none {P : Program} {w : World} {H H' : Hp} (v : View P w H H') : ∀ {a : Addr}, H a = none → H' a = none := by
  induction v with
  | refl H => exact fun h => h
  | @up H H' b kvs e r ih =>
    intro a h
    exact ih ((upd_ne (ne_of_none e h).symm).trans h)
  | @down H H' b l e r ih =>
    intro a h
    exact ih ((upd_ne (ne_of_none e h).symm).trans h)
theorem takes_view {X : Cx} {E : XK} (t : Takes X (fun cls d _ H => E cls d H)) : Takes X (fun cls d _ H => eView X.prog X.w E cls d H) := by
  rintro u s ⟨e, B, sI, pins, σ, H, cls, d, rfl, I, nb, up, sky, na, os, ag, H', v, w⟩
  exact t _ _ ⟨e, B, sI, pins, σ, H', cls, d, rfl, v.inv I, nb, up, sky, v.none na, os, ag, w⟩
theorem pass_view {X : Cx} {E : XK} (t : Takes X (fun cls d _ H => E cls d H)) : Passes (L2.CX X.prog X.w) X (eView X.prog X.w E) := passes_call (takes_view t) fun _ _ _ _ h => h
theorem pass_of {X : Cx} {E : XK} (t : Takes X (fun cls d _ H => E cls d H)) : Passes (L2.CX X.prog X.w) X E := passes_call t fun _ _ _ _ h => h
end LD
/-! what is done with such dicts: d[k] = v, dict(d), *d, list(d), k in d, d.get(k), walks over d.items() -/
namespace LD
open PySem PySem.Spec PyProof.Rows L2
def valL (kvs : LKV) (k : Leaf) : Option V := (kvs.find? fun p => decide (p.1 = k)).map (·.2)
def putL (kvs : LKV) (k : Leaf) (v : V) : LKV := if kvs.any (fun p => decide (p.1 = k)) = true then kvs.map (fun p => if p.1 = k then (p.1, v) else p) else kvs ++ [(k, v)]
section
variable {kvs : LKV} {vs : List (Leaf × Value)} {k : Leaf} {v : V} {u : Value}
theorem prR_val (r : Paired prR kvs vs) (k : Leaf) : RelO (valL kvs k) (valueAt vs k) := by
  unfold valL valueAt
  induction r with
  | nil => trivial
  | @cons p q ps qs e t ih =>
    rw [List.find?_cons, List.find?_cons, e.1]
    cases h : decide (q.1 = k) with
    | true => exact e.2
    | false => exact ih
theorem prR_any (r : Paired prR kvs vs) (k : Leaf) : (vs.any fun p => decide (p.1 = k)) = kvs.any fun p => decide (p.1 = k) := by
  induction r with
  | nil => rfl
  | cons e t ih => rw [List.any_cons, List.any_cons, ih, e.1]
theorem prR_put (r : Paired prR kvs vs) (k : Leaf) (rv : RelV v u) : Paired prR (putL kvs k v) (stored vs k u) := by
  unfold putL stored
  rw [prR_any r k]
  by_cases h : (kvs.any fun p => decide (p.1 = k)) = true
  · rw [if_pos h, if_pos h]
    clear h
    induction r with
    | nil => exact .nil
    | @cons p q ps qs e t ih =>
      refine .cons ?_ ih
      show prR (if p.1 = k then (p.1, v) else p) (if q.1 = k then (q.1, u) else q)
      rw [e.1]
      by_cases hk : q.1 = k
      · rw [if_pos hk, if_pos hk]
        exact ⟨rfl, rv⟩
      · rw [if_neg hk, if_neg hk]
        exact e
  · rw [if_neg h, if_neg h]
    clear h
    induction r with
    | nil => exact .cons ⟨rfl, rv⟩ .nil
    | cons e t ih => exact .cons e ih
theorem len_put : (putL kvs k v).length ≤ kvs.length + 1 := by
  unfold putL
  split
  · rw [List.length_map]; omega
  · rw [List.length_append]; exact Nat.le_refl _
end
section
variable {X : Cx} {pins : List (Addr × Obj)} {σ : L2.St} {H : Hp} {s : Shared} {a : Addr} {kvs : LKV} {E : Value → Shared → Prop} {A : Around}
/-- what a dict of either sort holds at a key -/
def LGet (P : Program) (w : World) (H : Hp) (a : Addr) (y : V) (o : Option V) : Prop :=
  ∃ k, lV k y ∧ ((∃ kvs, Rd H a (dL P w a kvs) ∧ o = valL kvs k) ∨ ∃ kvs, Rd H a (.dK kvs) ∧ o = valL (lfs kvs) k)
theorem LGet.at (I : Inv X pins σ H s) {y : V} {o : Option V} (g : LGet X.prog X.w H a y o) : ∃ k vs, lV k y ∧ (a == sysModules) = false ∧ s.heap.DictOf (leafKind X.prog X.w) a vs ∧ RelO o (valueAt vs k) := by
  obtain ⟨k, hk, ⟨kvs, h, rfl⟩ | ⟨kvs, h, rfl⟩⟩ := g
  · obtain ⟨_, hs, vs, r, d⟩ := dL_rd I.hok h
    exact ⟨k, vs, hk, hs, d, prR_val r k⟩
  · obtain ⟨_, hs, vs, r, d⟩ := dk_rd I.hok h
    exact ⟨k, _, hk, hs, dict_up d, prR_val (kv_up r) k⟩
theorem relO_some {o : Option V} {q : Option Value} (r : RelO o q) : q.isSome = o.isSome := by
  cases o <;> cases q <;> first | rfl | exact r.elim
theorem relO_get {o : Option V} {q : Option Value} (r : RelO o q) : RelV (o.getD .non) (q.getD .none) := by
  cases o <;> cases q <;> first | rfl | exact r.elim | exact r
theorem l_in {Q : Value → Shared → Prop} {y : V} {u : Value} {o : Option V} (I : Inv X pins σ H s) (g : LGet X.prog X.w H a y o) (ry : RelV y u) (h : ∀ s', Inv X pins σ H s' → Q (.bool o.isSome) s') :
    wpAny (model X.prog X.w) A (compareOp .In u (.ref a)) Q E s := by
  obtain ⟨k, vs, hk, hs, d, r⟩ := g.at I
  refine wpAny_in_of (lV_is hk ry) hs d.mapOf ?_
  rw [relO_some r]
  exact h _ (I.tok _)
theorem l_get {Q : Value → Shared → Prop} {y : V} {u : Value} {o : Option V} (I : Inv X pins σ H s) (g : LGet X.prog X.w H a y o) (ry : RelV y u) (h : ∀ w' s', Inv X pins σ H s' → RelV (o.getD .non) w' → Q w' s') :
    wpAny (model X.prog X.w) A (call (.builtin "dict.get") [.ref a, u]) Q E s := by
  obtain ⟨k, vs, hk, hs, d, r⟩ := g.at I
  exact call_meetsIn PySem.F.slot_dict_get d.typeIs PySem.F.entry_dict_get (PySem.F.args_dict_get_2 _ _) (meets_dict_get (leafKind X.prog X.w) a (lV_is hk ry) hs) ⟨_, d.mapOf, h _ _ (I.tok _) (relO_get r)⟩
theorem l_put {Q : Unit → Shared → Prop} {y v : V} {u r : Value} {k : Leaf} (I : Inv X pins σ H s) (e : H a = some (dL X.prog X.w a kvs)) (hk : lV k y) (ry : RelV y u) (rv : RelV v r) (hz : kvs.length < sizeLine)
    (h : ∀ s', Inv X pins σ (upd H a (dL X.prog X.w a (putL kvs k v))) s' → Q () s') : wpAny (model X.prog X.w) A (setItem (.ref a) u r) Q E s := by
  obtain ⟨z, hs, vs, rel, d⟩ := dL_rd I.hok (.inl e)
  have hl : vs.length ≤ sizeLine := by rw [← Paired.length rel]; exact z
  refine wpAny_setItem_pairs (hsz := hl) (lV_is hk ry) d fun h' d' sb => h _ ?_
  have ex : ∃ q, h'.get? a = some q := let ⟨q, _, _, hq, _⟩ := d'; ⟨q, hq⟩
  exact d_write I (by rw [e]; exact True.intro) sb ex (dL_ok (by have := len_put (kvs := kvs) (k := k) (v := v); omega) hs (prR_put rel k rv) d')
/-- its keys as they are told by a walk -/
def KsL (kvs : LKV) (ks : List V) : Prop := Paired (fun p x => lV p.1 x) kvs ks
theorem ksL_of {vs : List (Leaf × Value)} (r : Paired prR kvs vs) : ∀ {us : List Value}, us.length = kvs.length → (∀ (j : Nat) (u : Value), us[j]? = some u → ∃ (k : Leaf) (x : Value), vs[j]? = some (k, x) ∧ Leaf.isOf k u = true) → ∃ ks, KsL kvs ks ∧ Vals ks us := by
  induction r with
  | nil =>
    intro us hl _
    cases us with
    | nil => exact ⟨[], .nil, .nil⟩
    | cons _ _ => cases hl
  | @cons p q ps qs e t ih =>
    intro us hl f
    cases us with
    | nil => cases hl
    | cons u us =>
      obtain ⟨ks, h1, h2⟩ := ih (us := us) (Nat.succ.inj hl) fun j y hy => f (j + 1) y hy
      obtain ⟨k, x, hx, hi⟩ := f 0 u rfl
      cases Option.some.inj hx
      obtain ⟨y, ry, hy⟩ := leaf_rel hi
      exact ⟨y :: ks, .cons (by show lV p.1 y; rw [e.1]; exact hy) h1, .cons ry h2⟩
theorem l_star {Q : List Value → Shared → Prop} (hc : X.calm = true) (I : Inv X pins σ H s) (h : H a = some (dL X.prog X.w a kvs)) (hQ : ∀ ks us s', KsL kvs ks → Inv X pins σ H s' → Vals ks us → Q us s') :
    PySem.W.StarOf (model X.prog X.w) X.A E (.ref a) Q s := by
  obtain ⟨hz, lo, vs, r, d⟩ := dL_rd I.hok (.inl h)
  obtain ⟨ep, at_⟩ := d.dictAt
  have hl : kvs.length = vs.length := Paired.length r
  have hT : s.TypeIs (.ref a) "dict" := at_.dictOf.typeIs
  unfold PySem.W.StarOf notIterableAtAll
  refine wpAny_bind (wpAny_specialOf hT PySem.F.slot_dict_iter.lookup (wpAny_pure ⟨rfl, ?_⟩))
  refine PySem.W.kdu_collect (PySem.W.kdl_dict (knd := leafKind X.prog X.w) (kvs := vs) (ep := ep) lo) (I.ok.hd hc) at_ (by rw [← hl]; exact hz) fun h' t got kp it => ?_
  have gl : got.toList.length = kvs.length := by rw [Array.length_toList, it.1, hl]
  obtain ⟨ks, k1, k2⟩ := ksL_of r (us := got.toList) gl fun j u hu => it.2 j u (by rw [← Array.getElem?_toList]; exact hu)
  exact hQ ks _ _ k1 (I.kept (t' := t) kp) k2
def rListL (P : Program) (w : World) : List V → Hp → VK → Prop := fun xs H Q => ∃ p kvs, xs = [.ref p] ∧ H p = some (dL P w p kvs) ∧ ∀ q ks, H q = none → KsL kvs ks → Q (.ref q) (upd H q (.lst ks))
theorem call_listL (hc : X.calm = true) : CallR X (.type "list") (rListL X.prog X.w) := by
  intro pins s σ H xs us Q I r h
  obtain ⟨p, kvs, rfl, hk, q⟩ := h
  obtain ⟨u, rfl, rx⟩ := vals1 r
  obtain rfl : u = Value.ref p := rx
  obtain ⟨hz, lo, vs, rr, d⟩ := dL_rd I.hok (.inl hk)
  obtain ⟨ep, at_⟩ := d.dictAt
  have hl : kvs.length = vs.length := Paired.length rr
  refine PySem.W.kdl_call (PySem.W.kdl_dict (knd := leafKind X.prog X.w) (kvs := vs) (ep := ep) lo) (I.ok.hd hc) at_ (by rw [← hl]; exact hz) fun h' t got c kp st it => ?_
  have gl : got.toList.length = kvs.length := by rw [Array.length_toList, it.1, hl]
  obtain ⟨ks, k1, k2⟩ := ksL_of rr (us := got.toList) gl fun j u hu => it.2 j u (by rw [← Array.getElem?_toList]; exact hu)
  have ok : ObjOk X.prog X.w (upd H s.heap.objs.size (.lst ks)) h' s.heap.objs.size (.lst ks) := ⟨by rw [← Paired.length k1]; exact hz, got.toList, c, k2, by rw [Array.toArray_toList]; exact st⟩
  exact ⟨.ref s.heap.objs.size, _, I.laid kp (Nat.le_refl _) ok, rfl, q _ ks (I.hok.fresh (Nat.le_refl _)) k1⟩
def rDictL (P : Program) (w : World) : List V → Hp → VK → Prop := fun xs H Q => ∃ a kvs, xs = [.ref a] ∧ Rd H a (dL P w a kvs) ∧ ∀ p, H p = none → Q (.ref p) (upd H p (dL P w p kvs))
theorem call_dictL : CallR X (.type "dict") (rDictL X.prog X.w) := by
  intro pins s σ H xs us Q I r h
  obtain ⟨a, kvs, rfl, hd, q⟩ := h
  obtain ⟨u, rfl, rx⟩ := vals1 r
  obtain rfl : u = Value.ref a := rx
  obtain ⟨z, lo, vs, rel, d⟩ := dL_rd I.hok hd
  refine kt_call_dict lo d (by rw [← Paired.length rel]; exact z) fun h' d' sb => ?_
  have lo2 : (s.heap.objs.size == sysModules) = false := beq_eq_false_iff_ne.mpr (Nat.ne_of_gt I.big)
  exact ⟨.ref s.heap.objs.size, _, I.laid (t' := s.toks) (fun b o e => (sb.2 b (Nat.ne_of_lt (Heap.lt_size e))).trans (Heap.get?_push_of_some _ e)) (Nat.le_refl _) (dL_ok z lo2 rel d'), rfl, q _ (I.hok.fresh (Nat.le_refl _))⟩
end
section
variable {X : Cx} {i o e value : Expr} {es : List Expr} {ty td tv te : TE} {t : TA} {pos pos' p apos cpos : Pos}
def sLPut (P : Program) (w : World) (td ty tv : TE) : TS := fun D σ H => tv σ H fun v H1 => td σ H1 fun x H2 => ty σ H2 fun y H3 => ∃ a kvs k, x = .ref a ∧ H3 a = some (dL P w a kvs) ∧ lV k y ∧ kvs.length < sizeLine ∧ D.nx σ (upd H3 a (dL P w a (putL kvs k v)))
theorem ps_lput (ho : PE X o td) (hi : PE X i ty) (hv : PE X value tv) (hs : swapsWith value (some (.Subscript o i pos')) pos.line X.env = pure false) : PS X (.Assign [.Subscript o i pos'] value pos) (sLPut X.prog X.w td ty tv) := by
  constructor
  intro pins s σ H D I h
  refine wpAny_Assign_Subscript (thn (hv.run pins s σ H _ I h) fun u1 s1 ⟨v, H1, I1, r1, q1⟩ => thn (ho.run pins s1 σ H1 _ I1 q1) fun u2 s2 ⟨x, H2, I2, r2, q2⟩ => thn (hi.run pins s2 σ H2 _ I2 q2) fun u3 s3 ⟨y, H3, I3, r3, a, kvs, k, ex, ha, hk, hz, q3⟩ => ?_) hs
  subst ex
  obtain rfl : u2 = Value.ref a := r2
  exact l_put I3 ha hk r3 r1 hz fun s4 I4 => ⟨σ, _, I4, q3⟩
def tLIn (P : Program) (w : World) (ty td : TE) : TE := fun σ H Q => ty σ H fun y H1 => td σ H1 fun x H2 => ∃ a o, x = .ref a ∧ LGet P w H2 a y o ∧ Q (.bl o.isSome) H2
theorem pc_lin (hi : PE X i ty) (ho : PE X o td) : PC X .In i o (tLIn X.prog X.w ty td) := by
  constructor
  intro pins s σ H Q I h
  refine thn (hi.run pins s σ H _ I h) fun u1 s1 ⟨y, H1, I1, r1, q1⟩ => thn (ho.run pins s1 σ H1 _ I1 q1) fun u2 s2 ⟨x, H2, I2, r2, a, ov, ex, g, q2⟩ => ?_
  subst ex
  obtain rfl : u2 = Value.ref a := r2
  exact l_in I2 g r1 fun s3 I3 => ⟨.bl ov.isSome, H2, I3, rfl, q2⟩
def tLGet (P : Program) (w : World) (td ty : TE) : TE := fun σ H Q => td σ H fun x H1 => ∃ a, x = .ref a ∧ ((∃ kvs, Rd H1 a (dL P w a kvs)) ∨ ∃ kvs, Rd H1 a (.dK kvs)) ∧ ty σ H1 fun y H2 => ∃ o, LGet P w H2 a y o ∧ Q (o.getD .non) H2
theorem l_type {pins : List (Addr × Obj)} {σ : L2.St} {H : Hp} {s : Shared} {a : Addr} (I : Inv X pins σ H s) (h : (∃ kvs, Rd H a (dL X.prog X.w a kvs)) ∨ ∃ kvs, Rd H a (.dK kvs)) :
    s.TypeIs (.ref a) "dict" ∧ ∀ b, Value.ref a = .ref b → ∃ ob, s.heap.get? b = some ob ∧ ob.dict = none := by
  rcases h with ⟨kvs, h⟩ | ⟨kvs, h⟩
  · obtain ⟨_, _, vs, _, d⟩ := dL_rd I.hok h
    refine ⟨d.typeIs, fun b e => ?_⟩
    cases e
    obtain ⟨ob, _, _, h1, h2, _⟩ := d
    exact ⟨ob, h1, h2.2.1⟩
  · have z := isD_at I (.inl ⟨kvs, h⟩)
    exact ⟨z.1, z.2.1⟩
theorem pe_lget (ho : PE X o td) (he : PE X e ty) (m : M1 X o "get" apos e cpos) : PE X (.Call (.Attribute o "get" apos) [e] [] cpos) (tLGet X.prog X.w td ty) := by
  constructor
  intro pins s σ H Q I h
  refine wpAny_Call_method m.base m.few m.line PySem.F.plainAttrs_dict PySem.F.slot_dict_get PySem.F.type_dict_get (thn (ho.run pins s σ H _ I h) fun u1 s1 ⟨x, H1, I1, r1, a, ex, d, q1⟩ => ?_)
  subst ex
  obtain rfl : u1 = Value.ref a := r1
  obtain ⟨t1, t2⟩ := l_type I1 d
  refine ⟨t1, t2, ?_⟩
  rw [m.trees]
  refine Calls.callWith_builtin rfl (Calls.evalArgs_plain (Calls.spliced_cons (thn (he.run pins s1 σ H1 _ I1 q1) fun u2 s2 ⟨y, H2, I2, r2, ov, g, q2⟩ => Calls.spliced_nil ?_)))
  exact l_get I2 g r2 fun w' s3 I3 rw' => ⟨_, H2, I3, rw', q2⟩
def tStarL (P : Program) (w : World) (te : TE) (t : TA) : TA := fun σ H Q => te σ H fun x H1 => ∃ a kvs, x = .ref a ∧ H1 a = some (dL P w a kvs) ∧ ∀ ks, KsL kvs ks → t σ H1 fun ys H2 => Q (ks ++ ys) H2
theorem pa_starL (hc : X.calm = true) (he : PE X e te) (hr : PA X es t) (hs : starEach (.Starred e p :: es) X.env = (true, eval e X.env) :: starEach es X.env := by rfl) : PA X (.Starred e p :: es) (tStarL X.prog X.w te t) := by
  constructor
  intro pos pins s σ H Q I h
  refine PySem.W.items_star (thn (he.run pins s σ H _ I h) fun u1 s1 ⟨x, H1, I1, r1, a, kvs, ex, ha, q1⟩ => ?_) hs
  subst ex
  obtain rfl : u1 = Value.ref a := r1
  refine l_star hc I1 ha fun ks us s2 hk I2 rk => ?_
  exact thn (hr.run pos pins s2 σ H1 _ I2 (q1 ks hk)) fun ws s3 ⟨ys, H3, I3, r3, q3⟩ => ⟨ks ++ ys, H3, I3, rk.append r3, q3⟩
end
end LD
/-! walks over d.items() of such a dict, which is locked meanwhile -/
namespace LD
open PySem PySem.Spec PyProof.Rows L2
section
variable {X : Cx} {pins : List (Addr × Obj)} {σ : L2.St} {H : Hp} {s : Shared} {d : Addr} {o : Obj} {kvs : LKV}
/-- what is so of a locked one -/
theorem frzL (I : Inv X pins σ H s) (h : H d = some (.frz o (dL X.prog X.w d kvs))) : (d == sysModules) = false ∧ ∃ (es : Array DictEntry) (ep : Nat) (vs : List (Leaf × Value)), o.data = .dict es ep ∧ Paired prR kvs vs ∧ s.heap.DictAt (leafKind X.prog X.w) d vs ep := by
  obtain ⟨g, ⟨_, hs, vs, r, o2, es, ep, h1, h2, h3, h4⟩, _⟩ := I.hok d _ h
  cases h1.symm.trans g
  exact ⟨hs, es, ep, vs, h3, r, o, es, g, h2, h3, h4⟩
end
/-- turn by turn: a new pair of a key and its value -/
def Itl (P : Program) (w : World) (d : Addr) (o : Obj) (kvs : LKV) : It :=
  ⟨fun i H => H d = some (.frz o (dL P w d kvs)) ∧ i < kvs.length, fun i H y H' => ∃ T k x v, kvs[i]? = some (k, v) ∧ lV k x ∧ y = .ref T ∧ H T = none ∧ H' = upd H T (.tup [x, v]), fun i H => H d = some (.frz o (dL P w d kvs)) ∧ kvs.length ≤ i⟩
section
variable {P : Program} {w : World} {K : PySem.W.Frag} {d : Addr} {o : Obj} {es : Array DictEntry} {ep : Nat} {kvs : LKV} {elts : List Expr} {kk : Nat} {tpos : Pos}
theorem turn_itemsL (it : Addr) (hod : o.data = .dict es ep) : Turn P w K (.Tuple elts kk tpos) (Itl P w d o kvs) [it] it (fun i h => ∃ y z, IsItemIter h it d i kvs.length ep y z) where
  mem := List.mem_singleton.mpr rfl
  obj := fun i h ⟨y, z, e⟩ b hb => by
    obtain rfl := List.mem_singleton.mp hb
    exact ⟨_, e, fun _ q => nomatch q⟩
  keep := fun i h h' ⟨y, z, e⟩ k => ⟨y, z, k it (List.mem_singleton.mpr rfl) _ e⟩
  item := by
    intro X e1 e2 e3 hc i pins s σ H E I hf ⟨y, z, it0⟩ ⟨hd, hi⟩
    subst e1 e2 e3
    obtain ⟨hs, es2, ep2, vs, hdt, r, at_⟩ := frzL I hd
    obtain ⟨rfl, rfl⟩ := dict_ep hod hdt
    have hl : kvs.length = vs.length := Paired.length r
    have hkv : kvs[i]? = some (kvs[i].1, kvs[i].2) := List.getElem?_eq_getElem hi
    obtain ⟨u, hu, ru⟩ := kv_get r hkv
    rw [hl] at it0
    have lt : it < s.heap.objs.size := Heap.lt_size it0
    refine wpAny_pyNext_items_item it0 at_ hu fun key g hkey ho hT _ kp => ⟨_, rfl, wpAny_letOwnedTupleGo_items (s := { s with heap := g }) ho fun g2 it2 sb => ?_⟩
    obtain ⟨x, rx, hx⟩ := leaf_rel (show Leaf.isOf _ key = true from hkey)
    have T2 : g2.get? s.heap.objs.size = some { cls := .type "tuple", data := .seq #[key, u] } := by rw [sb.2 _ (Nat.ne_of_gt lt)]; exact hT
    have ok : ObjOk X.prog X.w (upd H s.heap.objs.size (.tup [x, kvs[i].2])) g2 s.heap.objs.size (.tup [x, kvs[i].2]) := ⟨(show 2 ≤ sizeLine by decide), [key, u], .cons rx (.cons ru .nil), _, T2, rfl, _, rfl⟩
    have out : ∀ b, b ∉ [it] → b ≠ it := fun b q e => q (List.mem_singleton.mpr e)
    refine ⟨.ref s.heap.objs.size, _, I.turnedNew (t' := s.toks) (ch := [it]) (fun b ob hb e => (sb.2 b (out b hb)).trans (kp b ob (out b hb) e)) hf (Nat.le_refl _) ok, rfl, ⟨_, _, x, _, hkv, hx, rfl, I.hok.fresh (Nat.le_refl _), rfl⟩, ⟨key, u, by rw [hl]; exact it2⟩, fun b hb => ?_⟩
    obtain rfl := List.mem_singleton.mp hb
    rw [upd_ne (Nat.ne_of_lt lt)]
    exact (hf _ hb).1
  done := by
    intro X e1 e2 e3 hc i pins s σ H E I hf ⟨y, z, it0⟩ ⟨hd, hi⟩
    subst e1 e2 e3
    obtain ⟨q0, q1, _, q3, q4, q5⟩ := hf it (List.mem_singleton.mpr rfl)
    obtain ⟨hs, es2, ep2, vs, hdt, r, at_⟩ := frzL I hd
    obtain ⟨rfl, rfl⟩ := dict_ep hod hdt
    have hl : kvs.length = vs.length := Paired.length r
    rw [hl] at it0
    exact wpAny_pyNext_items_end (I.ok.hd hc) it0 at_ (List.getElem?_eq_none (by omega)) fun g eb => ⟨rfl, I.turned (t' := s.toks) (fun b ob hb e => eb b ob hb e) q0 q1 q3 q4 q5⟩
  self := fun A i s Q E ⟨_, _, e⟩ h => PySem.W.kcp_self e h
end
def iItemsL (P : Program) (w : World) (td : TE) : TI := fun σ H R => td σ H fun x H1 => ∃ d o kvs, x = .ref d ∧ H1 d = some (.frz o (dL P w d kvs)) ∧ R (Itl P w d o kvs) H1
section
variable {X : Cx} {e : Expr} {td : TE} {apos cpos tpos : Pos} {elts : List Expr} {kk : Nat}
theorem pi_itemsL (he : PE X e td) (hbase : attributeBase e "items" X.env (eval e X.env) = eval e X.env := by rfl) (hline : (apos.endLine == cpos.line) = true := by rfl) : PI X (.Tuple elts kk tpos) (.Call (.Attribute e "items" apos) [] [] cpos) (iItemsL X.prog X.w td) := by
  constructor
  intro pins s σ H R I h
  refine wpAny_Call_method (T := "dict") (id := "dict.items") hbase rfl hline F.plainAttrs_dict F.slot_dict_items F.type_dict_items (thn (he.run pins s σ H _ I h) fun u s1 ⟨x, H1, I1, rx, d, o, kvs, ex, hd, q⟩ => ?_)
  subst ex
  obtain rfl : u = Value.ref d := rx
  obtain ⟨hs, es, ep, vs, hdt, r, at_⟩ := frzL I1 hd
  refine ⟨at_.dictOf.typeIs, at_.dictOf.mapOf.noDict, ?_⟩
  have view := fun (b : Addr) (ob : Obj) (q : s1.heap.get? b = some ob) => Heap.get?_push_of_some ({ cls := .type "dict_items", data := .fields #[.ref d] } : Obj) q
  refine method_meetsIn F.slot_dict_items F.entry_dict_items rfl (PySem.evalArgs_none ⟨rfl, at_.dictOf.typeIs, F.args_dict_items_1 _, _, meets_dict_items (leafKind X.prog X.w) d hs, ⟨vs, at_.dictOf⟩, ?_⟩)
  refine wpAny_pyIter_items (d := d) (knd := leafKind X.prog X.w) ⟨_, Heap.get?_push_size _ rfl, rfl, rfl⟩ (at_.push _) (pi_one (tk := s1.toks) (I1.kept (t' := s1.toks) view) _ (turn_itemsL _ hdt) ⟨.none, .none, ?_⟩ q)
  rw [Paired.length r]
  exact Heap.get?_push_size _ rfl
end
end LD
namespace LD
open PySem PySem.Spec PyProof.Rows L2 Evl GV
section
variable {P : Program} {w : World} {K : PySem.W.Frag} {σ : L2.St} {H : Hp} {D : Ends} {j a b : Nat} {d : Addr} {kvs : LKV} {tb : TS}
theorem walk_itemsL {o : Obj} : Walk (Itl P w d o kvs) kvs.length (fun H => H d = some (.frz o (dL P w d kvs))) (fun i H y H' => ∃ T k x v, kvs[i]? = some (k, v) ∧ lV k x ∧ y = .ref T ∧ H T = none ∧ H' = upd H T (.tup [x, v])) :=
  ⟨fun _ _ hi q => ⟨q, hi⟩, fun _ q => ⟨q, Nat.le_refl _⟩, fun _ _ _ _ _ _ y => y⟩
theorem s_itemsL (hσ : σ[j]? = some (some (.ref d))) (hd : H d = some (dL P w d kvs)) (Pv : Obj → Nat → L2.St → Hp → Prop) (h0 : ∀ od, Pv od 0 σ (upd H d (.frz od (dL P w d kvs))))
    (hG : ∀ od i σ' Hc, Pv od i σ' Hc → Hc d = some (.frz od (dL P w d kvs)))
    (hs : ∀ od i k x v σ' Hc T bk ct rt, kvs[i]? = some (k, v) → lV k x → Pv od i σ' Hc → Hc T = none → tb ⟨Pv od (i + 1), rt, bk, ct⟩ ((σ'.set a (some x)).set b (some v)) (upd Hc T (.tup [x, v])))
    (he : ∀ od σ' Hc, Pv od kvs.length σ' Hc → D.nx σ' (upd Hc d (dL P w d kvs))) : tLock (tFor (iItemsL P w (tVar j)) (gTup K 2 (gCons (gName a) (gCons (gName b) gNil))) tb) D σ H := by
  refine ⟨d, dL P w d kvs, hd, trivial, fun od => ⟨_, hσ, d, od, kvs, rfl, upd_same, ?_⟩⟩
  refine for_it (walk_itemsL (P := P) (w := w) (d := d) (o := od) (kvs := kvs)) (Pv od) (h0 od) (fun i s1 H1 _ h => hG od i s1 H1 h) ?_ fun s1 H1 h => ⟨hG od _ s1 H1 h, he od s1 H1 h⟩
  rintro i y s1 H1 H2 hi h ⟨T, k, x, v, hk, hx, rfl, hT, rfl⟩
  exact ⟨T, _, rfl, SqT.of upd_same, rfl, _, _, rfl, _, _, rfl, rfl, hs od i k x v s1 H1 T _ _ _ hk hx h hT⟩
end
end LD
namespace K3
open PySem PySem.Spec PyProof.Rows L2 Evl GV LD
/-! ### an exception out of a walk: what was locked is told unlocked -/
/-- a wish told of the heap behind the lock -/
def wUn (X : Cx) (W : WX) : WX := fun cls d σ H => ∃ a od u, H a = some (.frz od u) ∧ (∀ o' u', X.H_0 a ≠ some (.frz o' u')) ∧ W cls d σ (upd H a u)
theorem takes_un {X : Cx} {W : WX} (t : Takes X W) : Takes X (wUn X W) := by
  rintro u s ⟨e, B, sI, pins, σ, H, cls, d, rfl, I, nb, up, sky, na, os, ag, a, od, u0, ha, hn, w⟩
  refine t _ _ ⟨e, B, sI, pins, σ, upd H a u0, cls, d, rfl, I.unlock ha hn, nb, up, sky, ?_, os, ag, w⟩
  rw [upd_ne (fun z => by rw [z, ha] at na; cases na)]
  exact na
section
variable {K : PySem.W.Frag} {mg : Str → Option Value} {P : Program} {w : World} {base : Heap}
theorem BadE.un {x : Str} {v : V} {H Hc : Hp} {E : XK} {a : Addr} {od : Obj} {u : HO} {H0 : Hp} (b : BadE K x v H E) (hn : ∀ o' u', H0 a ≠ some (.frz o' u')) (ha : H a = some u) (e : Ex (upd H a (.frz od u)) Hc) :
    BadE K x v Hc (fun cls d H' => ∃ a od u, H' a = some (.frz od u) ∧ (∀ o' u', H0 a ≠ some (.frz o' u')) ∧ E cls d (upd H' a u)) := by
  intro d H' hd e2 h2
  have hc : Hc a = some (.frz od u) := e _ _ upd_same
  have hda : d ≠ a := fun z => by rw [z, hc] at hd; cases hd
  refine ⟨a, od, u, e2 _ _ hc, hn, b d _ ?_ (fun c o h => ?_) ?_⟩
  · have z := fresh_back e hd
    rw [upd_ne hda] at z
    exact z
  · by_cases q : c = a
    · rw [q] at h ⊢
      rw [upd_same, ← h, ha]
    · rw [upd_ne q]
      refine e2 _ _ (e _ _ ?_)
      rw [upd_ne q]
      exact h
  · rw [upd_ne hda]
    exact h2
/-! ### _read_numbers -/
theorem small1000 {n : Nat} (h : n < 1000) : n < sizeLine := Nat.lt_trans h (by decide)
/-- a dict from names to numbers -/
def numK (ns : List (Str × Int)) : List (Key × V) := ns.map fun p => (.inr p.1, .int p.2)
theorem numK_app (a b : List (Str × Int)) : numK (a ++ b) = numK a ++ numK b := List.map_append
theorem tkK_at {l : List (Str × V)} {i : Nat} {k : Key} {v : V} (h : (tkK l)[i]? = some (k, v)) : ∃ z, l[i]? = some (z, v) ∧ k = .inr z := by
  unfold tkK at h
  rw [List.getElem?_map] at h
  cases q : l[i]? with
  | none => rw [q] at h; cases h
  | some p => rw [q] at h; cases h; exact ⟨p.1, rfl, rfl⟩
theorem valV_none {kvs : List (Key × V)} {k : Key} (h : ∀ p ∈ kvs, p.1 ≠ k) : valV kvs k = none := by
  unfold valV
  rw [List.find?_eq_none.mpr]
  · rfl
  · intro p hp hh
    exact h p hp (of_decide_eq_true hh)
theorem putK_new {kvs : List (Key × V)} {k : Key} (v : V) (h : valV kvs k = none) : putK kvs k v = kvs ++ [(k, v)] := by
  unfold putK
  rw [valV_any, h]
  rfl
/-- the first name whose number is none of these -/
def badNum (as : List Int) : List (Str × V) → Option Str
  | [] => none
  | (z, v) :: r => if inV (intV v) (as.map V.int) = true then badNum as r else some z
def toInt : V → Int
  | .int i => i
  | _ => 0
def nums (l : List (Str × V)) : List (Str × Int) := l.map fun p => (p.1, toInt p.2)
theorem inV_ints {v : V} {as : List Int} (h : inV (intV v) (as.map V.int) = true) : v = .int (toInt v) := by
  cases v <;> first | rfl | (exfalso; revert h; unfold inV; rw [List.any_map]; intro h; obtain ⟨x, _, q⟩ := List.any_eq_true.mp h; cases q)
theorem drop_one {α : Type} {l : List α} {i : Nat} {x : α} (h : l[i]? = some x) : l.drop i = x :: l.drop (i + 1) := by
  have hi := (List.getElem?_eq_some_iff.mp h).1
  rw [List.drop_eq_getElem_cons hi]
  congr 1
  exact Option.some.inj ((List.getElem?_eq_getElem hi).symm.trans h)
theorem take_one {α : Type} {l : List α} {i : Nat} {x : α} (h : l[i]? = some x) : l.take (i + 1) = l.take i ++ [x] := by
  rw [List.take_add_one, h]
  rfl
theorem nd_new {β : Type} {l : List (Str × β)} {i : Nat} {z : Str} {v : β} (nd : (l.map (·.1)).Nodup) (h : l[i]? = some (z, v)) : ∀ p ∈ l.take i, p.1 ≠ z := by
  intro p hp e
  have h2 : ((l.take (i + 1)).map (·.1)).Nodup := nd.sublist ((List.take_sublist _ _).map _)
  rw [take_one h, List.map_append, List.nodup_append] at h2
  exact h2.2.2 p.1 (List.mem_map_of_mem hp) z (by simp) e
structure NamesOk (l : List (Str × V)) : Prop where
  len : l.length ≤ 1000
  nd : (l.map (·.1)).Nodup
  ok : ∀ p ∈ l, okName p.1 = true
theorem okName_len {z : Str} (h : okName z = true) : 1 ≤ z.length ∧ z.length ≤ 8 := by
  unfold okName at h
  simp only [Bool.and_eq_true, decide_eq_true_eq] at h
  omega
theorem nam_ok {z : Str} (h : okName z = true) : nam (.str z) = .str z := if_pos h
def spNums (K : PySem.W.Frag) : Sp := fun vs H Q E => ∃ (d t : Addr) (l : List (Str × V)) (as : List Int), vs = [.ref d, .ref t] ∧ H d = some (.dK (tkK l)) ∧ SqT K H t (as.map V.int) ∧ d ≠ t ∧ NamesOk l ∧ (∀ p ∈ l, Pl K H p.2) ∧
  (badNum as l = none → ∀ p H2, H p = none → Ex H H2 → H2 p = some (.dK (numK (nums l))) → Q (.ref p) H2) ∧ ∀ z, badNum as l = some z → BadE K "BadNumber" (.str z) H E
theorem pl_frz {H : Hp} {d : Addr} {od : Obj} {u : HO} {v : V} (hd : H d = some u) (hu : ∀ xs, u ≠ .lst xs) (hf : ∀ o xs, u ≠ .frz o (.lst xs)) (h : Pl K H v) : Pl K (upd H d (.frz od u)) v := by
  cases h with
  | non => exact .non
  | bl b => exact .bl b
  | int i => exact .int i
  | str z h => exact .str z h
  | lst a xs h =>
    refine .lst a xs ?_
    rcases h with (h | ⟨o, h⟩) | h
    · exact .inl (.inl ((upd_ne fun z => hu xs (by rw [z, hd] at h; exact Option.some.inj h)).trans h))
    · exact .inl (.inr ⟨o, (upd_ne fun z => hf o xs (by rw [z, hd] at h; exact Option.some.inj h)).trans h⟩)
    · exact .inr h
theorem sc_nums : FnScope ["table", "allowed", "found", "name", "number"] ["table", "allowed"] (defScope (top 28)) := ⟨rfl, rfl, rfl, by decide +kernel, rfl, by decide +kernel, by decide +kernel⟩
theorem ok_nums (T : Tx K mg) : ∃ fd, FnOk P w K mg base (L2.CX P w) 3 (He.ga K "_read_numbers") fd ["table", "allowed"] (spNums K) ∧ Binds K fd ["table", "allowed"] [] ∧ PySem.W.keepIn K (.ref (He.ga K "_read_numbers")) = true := by
  obtain ⟨fd, F⟩ := T.d.def_ 9 (d := d__read_numbers) rfl
  obtain ⟨fd_as_name, G_as_name, b_as_name, k_as_name⟩ := ok_name (P := P) (w := w) (base := base) T
  obtain ⟨fd_as_integer, G_as_integer, b_as_integer, k_as_integer⟩ := ok_integer (P := P) (w := w) (base := base) T
  have I_BadNumber := (T.ini (x := "BadNumber") (by decide)).1
  obtain ⟨fd_BadNumber, F_BadNumber, b_BadNumber⟩ := ok_BadNumber (P := P) (w := w) (base := base) T
  refine ⟨fd, F.ok sc_nums (fun vs H Q E h => ?_) (fun cdv A outer s H vs Q E hr h => ?_), FunD.bindsN F fun _ _ _ _ _ _ us hl => match us, hl with | [_, _], _ => rfl, F.kp⟩
  · obtain ⟨d, t, l, as, rfl, _⟩ := h
    rfl
  · refine ⟨_, (pss_cons (ps_set (i := 2) sc_nums.nd rfl (Or.inl rfl) pe_dnewK)
      (pss_cons (ps_lock (ps_for (passes_of rfl) rfl (pi_items (pv 0)) (pg_tup rfl (pgs_cons (pg_name (i := 3) sc_nums.nd rfl (Or.inl rfl)) (pgs_cons (pg_name (i := 4) sc_nums.nd rfl (Or.inl rfl)) pgs_nil))) (pss_cons (ps_if (pt_cmpR op_notIn_seq (pe_call G_as_integer (hr.mono (by decide)) rfl (T.gl 14 rfl) k_as_integer b_as_integer .nil pass0 (pa_cons (pv 4) pa_nil)) (pv 1) (by rfl)) (pss_one (ps_raise rfl (takes_un (takes_of rfl rfl rfl rfl)) (pmk_oex I_BadNumber.T I_BadNumber.iC I_BadNumber.tI F_BadNumber (hr.mono (by decide)) b_BadNumber .nil pass0 (by rfl) (T.gl 3 rfl) (pa_cons (pv 3) pa_nil)))) pss_nil)
      (pss_one (ps_dput (hu_of hr) (pv 2) (pe_call G_as_name (hr.mono (by decide)) rfl (T.gl 13 rfl) k_as_name b_as_name .nil pass0 (pa_cons (pv 3) pa_nil)) (pe_call G_as_integer (hr.mono (by decide)) rfl (T.gl 14 rfl) k_as_integer b_as_integer .nil pass0 (pa_cons (pv 4) pa_nil)) rfl)))))
      (pss_one (ps_ret (pv 2))))), ?_⟩
    obtain ⟨d, t, l, as, rfl, hd, ht, hdt, hok, hpl, q1, q2⟩ := h
    refine fun p hp => ?_
    have hpd : p ≠ d := fun e => by
      rw [e, hd] at hp
      cases hp
    refine s_items (j := 0) (d := d) (kvs := tkK l) rfl ((upd_ne (Ne.symm hpd)).trans hd) (fun od i σ Hc => Ex (upd H d (.frz od (.dK (tkK l)))) Hc ∧ (∃ x y, σ = [some (.ref d), some (.ref t), some (.ref p), x, y]) ∧ Hc p = some (.dK (numK (nums (l.take i)))) ∧ badNum as l = badNum as (l.drop i)) ?_ ?_ ?_ ?_
    · refine fun od => ⟨fun b o hb => ?_, ⟨_, _, rfl⟩, ?_, rfl⟩
      · by_cases hbd : b = d
        · rw [hbd, upd_same] at hb ⊢
          exact hb
        · rw [upd_ne hbd] at hb ⊢
          rw [upd_ne (ne_of_none hb hp)]
          exact hb
      · rw [upd_ne hpd]
        exact upd_same
    · exact fun od i σ Hc h => h.1 _ _ upd_same
    · rintro od i k v σ Hc T1 bk ct rt hi ⟨ex, ⟨x0, y0, rfl⟩, hf, hbn⟩ hT
      obtain ⟨z, hz, rfl⟩ := tkK_at hi
      have hmem := List.mem_of_getElem? hz
      have ok1 := hok.ok _ hmem
      have hin : i < l.length := (List.getElem?_eq_some_iff.mp hz).1
      have hlen : 1 ≤ z.length ∧ z.length ≤ 8 := okName_len ok1
      have e0 : Ex Hc (upd Hc T1 (.tup [kV (.inr z), v])) := Ex.new hT
      have hpb : upd H d (.frz od (.dK (tkK l))) p = none := (upd_ne hpd).trans hp
      have hpv : Pl K Hc v := (pl_frz (od := od) hd (fun _ e => by cases e) (fun _ _ e => by cases e) (hpl _ hmem)).ex ex
      rw [drop_one hz] at hbn
      have hbn2 : badNum as l = if inV (intV v) (as.map V.int) = true then badNum as (l.drop (i + 1)) else some z := hbn
      have cint : ∀ {H1 : Hp}, Ex Hc H1 → Ev (tCall (spInteger K) [] E0 (tCons (tVar 4) tNil)) [some (.ref d), some (.ref t), some (.ref p), some (kV (.inr z)), some v] H1 (intV v) := fun {H1} e1 => ev_call (sp := spInteger K) (vs := [v]) (ea_cons (ev_var rfl) ea_nil) fun H2 e2 Q2 k2 E2 => by
        obtain ⟨kn, k1, k3, _⟩ := (hpv.ex (e1.trans e2)).kind
        exact ⟨v, kn, rfl, k1, k3.b, k3.i, fun H3 e3 => k2 H3 e3⟩
      have hflat : flatV (intV v) = true := by cases v <;> rfl
      have ht1 : SqT K Hc t (as.map V.int) := by
        refine ex_t ex ?_
        rcases ht with (h | ⟨o, h⟩) | h
        · exact .inl (.inl ((upd_ne (Ne.symm hdt)).trans h))
        · exact .inl (.inr ⟨o, (upd_ne (Ne.symm hdt)).trans h⟩)
        · exact .inr h
      refine q_when (b := !inV (intV v) (as.map V.int)) (et_test (ev_op (cint e0) (ev_var rfl) (rv_niT (ex_t e0 ht1) hflat (by simp [flatV])))) (fun hb H1 e1 => ?_) fun hb H1 e1 => ?_
      · have hb2 : inV (intV v) (as.map V.int) = false := by simpa using hb
        rw [hb2, if_neg Bool.false_ne_true] at hbn2
        refine raise_ok (ev_var rfl) ?_
        exact (q2 z hbn2).un (fun o' u' e => by have e2 : H d = some (.frz o' u') := e; rw [hd] at e2; cases e2) hd (ex.trans (e0.trans e1))
      have hb2 : inV (intV v) (as.map V.int) = true := by simpa using hb
      rw [hb2, if_pos rfl] at hbn2
      have hv := inV_ints hb2
      refine cint (e0.trans e1) H1 (Ex.refl H1) _ fun H2 e2 => ?_
      have cnam : ∀ H1, Ev (tCall (spName K) [] E0 (tCons (tVar 3) tNil)) [some (.ref d), some (.ref t), some (.ref p), some (kV (.inr z)), some v] H1 (.str z) := fun H1 => ev_call (sp := spName K) (vs := [.str z]) (ea_cons (ev_var rfl) ea_nil) fun H2 e2 Q2 k2 E2 =>
        ⟨.str z, "str", rfl, .base (.str z), (kb_str z).s, fun z2 hz2 => by cases hz2; omega, fun H3 e3 => by
          rw [nam_ok ok1]
          exact k2 H3 e3⟩
      refine ⟨.ref p, rfl, cnam H2 H2 (Ex.refl H2) _ fun H3 e3 => ?_⟩
      have e13 : Ex Hc H3 := ((e0.trans e1).trans e2).trans e3
      have hf3 := e13 _ _ hf
      have hnone : valV (numK (nums (l.take i))) (.inr z) = none := by
        refine valV_none fun q hq e => ?_
        obtain ⟨pr, hpr, rfl⟩ := List.mem_map.mp hq
        obtain ⟨pr2, hpr2, rfl⟩ := List.mem_map.mp hpr
        exact nd_new hok.nd hz pr2 hpr2 (Sum.inr.inj e)
      refine ⟨p, _, rfl, DPut.k (k := .inr z) hf3 ?_, Ex.mut (ex.trans e13) hpb, ⟨_, _, rfl⟩, ?_, hbn2⟩
      · unfold numK nums
        rw [List.length_map, List.length_map, List.length_take]
        exact small1000 (by have := hok.len; omega)
      · rw [upd_same, putK_new _ hnone, take_one hz]
        have ev : intV v = .int (toInt v) := by
          rw [hv]
          rfl
        rw [ev]
        unfold nums
        rw [List.map_append, numK_app]
        rfl
    · rintro od σ Hc ⟨ex, ⟨x0, y0, rfl⟩, hf, hbn⟩
      have e9 : (tkK l).length = l.length := List.length_map _
      rw [e9, List.drop_length] at hbn
      refine ⟨.ref p, rfl, q1 hbn p _ hp (ex_unlock hd ex) ?_⟩
      rw [upd_ne hpd, hf, e9, List.take_length]
end
end K3
/-! general: more of the judgement of GV -/
namespace GV
open PySem PySem.Spec PyProof.Rows L2 Evl
section
variable {K : PySem.W.Frag} {σ : L2.St} {H : Hp} {te : TE} {v : V} {xs : List V} {sp : Sp} {E : XK}
/-- a call that gives a new list -/
theorem gv_retl (h : Ev te σ H v) (k : ∀ H' Q, Ex H H' → RetL xs H' Q → sp [v] H' Q E) : Gv (tCall sp [] E (tCons te tNil)) σ H (NewL H (fun us _ => us = xs)) := fun H1 e Q q =>
  h H1 e _ fun H2 e2 => k H2 Q (e.trans e2) fun p H3 hp e3 h3 => q (.ref p) (upd H p (.lst xs)) H3
    ((Fm.gr e (e2.trans e3)).know (fresh_back e2 hp) h3 (fresh_back (e.trans e2) hp)) ⟨p, xs, rfl, fresh_back (e.trans e2) hp, upd_same, rfl⟩
/-- a new tuple -/
def NewT (H : Hp) (R : List V → Hp → Prop) : Pr := fun v H' => ∃ p us, v = .ref p ∧ H p = none ∧ H' p = some (.tup us) ∧ R us H'
def rTupOf (K : PySem.W.Frag) : List V → Hp → VK → Prop := fun xs H Q => ∃ p ys, xs = [.ref p] ∧ ((SqL K H p ys ∧ ∀ l, H l = none → Q (.ref l) (upd H l (.tup ys))) ∨ (SqT K H p ys ∧ Q (.ref p) H))
theorem gv_tupOf {R : List V → Hp → Prop} (h : Gv te σ H (NewL H R)) (m : ∀ us H H', Ex H H' → R us H → R us H') : Gv (tCB (rTupOf K) (tCons te tNil)) σ H (NewT H R) := fun H1 e Q q =>
  h H1 e _ fun v H' H1' f ⟨p, us, ev, hp0, hp, r⟩ => ⟨p, us, by rw [ev], .inl ⟨sq_of (f.sub _ _ hp), fun l hl =>
    q (.ref l) (upd H' l (.tup us)) (upd H1' l (.tup us)) (f.trans (Fm.newO f.sub hl)) ⟨l, us, rfl, fresh_back (f.ex.trans f.sub) hl, upd_same, m _ _ _ (Ex.new (fresh_back f.sub hl)) r⟩⟩⟩
/-- a new list out of a sequence -/
def rListOf (K : PySem.W.Frag) : List V → Hp → VK → Prop := fun xs H Q => ∃ p ys, xs = [.ref p] ∧ (SqL K H p ys ∨ SqT K H p ys) ∧ ∀ l, H l = none → Q (.ref l) (upd H l (.lst ys))
/-- a field -/
theorem ev_fld {a C dx : Addr} {fs : List (Str × V)} {f : Str} {u : V} (h : Ev te σ H (.ref a)) (ha : H a = some (.ins C dx fs)) (c : Cls K C) (n : NoAttr K C f) (hl : fs.lookup f = some u) : Ev (tFld K te f) σ H u := fun H1 e Q k =>
  h H1 e _ fun H2 e2 => ⟨a, C, dx, fs, u, rfl, e2 _ _ (e _ _ ha), c, n, hl, k H2 e2⟩
end
/-! ### dicts that stand still -/
section
variable {σ : L2.St} {H : Hp} {td ty te : TE} {d : Addr} {kvs : List (Key × V)} {k : Key} {v : V}
theorem ev_din (hy : Ev ty σ H (kV k)) (ht : Ev td σ H (.ref d)) (h : H d = some (.dK kvs)) : Ev (tDIn ty td) σ H (.bl (valV kvs k).isSome) := fun H1 e Q q =>
  hy H1 e _ fun H2 e2 => ht H2 (e.trans e2) _ fun H3 e3 => ⟨d, _, rfl, DGet.k (((e.trans e2).trans e3) _ _ h), q H3 (e2.trans e3)⟩
theorem ev_dget (ht : Ev td σ H (.ref d)) (hy : Ev ty σ H (kV k)) (h : H d = some (.dK kvs)) (hv : valV kvs k = some v) : Ev (tDGet td ty) σ H v := fun H1 e Q q =>
  ht H1 e _ fun H2 e2 => hy H2 (e.trans e2) _ fun H3 e3 => ⟨d, v, rfl, by
    have z := DGet.k (k := k) (((e.trans e2).trans e3) _ _ h)
    rw [hv] at z
    exact z, q H3 (e2.trans e3)⟩
theorem ev_dget1 (ht : Ev td σ H (.ref d)) (hy : Ev ty σ H (kV k)) (h : H d = some (.dK kvs)) : Ev (tDGet1 td ty) σ H ((valV kvs k).getD .non) := fun H1 e Q q =>
  ht H1 e _ fun H2 e2 => ⟨d, rfl, .inl ⟨kvs, .inl ((e.trans e2) _ _ h)⟩, hy H2 (e.trans e2) _ fun H3 e3 => ⟨_, DGet.k (k := k) (((e.trans e2).trans e3) _ _ h), q H3 (e2.trans e3)⟩⟩
/-- list(d.values()) -/
theorem el_vals (ht : Ev td σ H (.ref d)) (h : H d = some (.dK kvs)) : EvL (SV.tLstVw (SV.tVw td)) σ H (kvs.map (·.2)) := fun H1 e Q q =>
  ht H1 e _ fun H2 e2 => ⟨d, kvs, rfl, (e.trans e2) _ _ h, fun p hp => q p _ (fresh_back e2 hp) (e2.trans (Ex.new hp)) upd_same⟩
end
/-- `x in d`, d a tuple of flat values -/
theorem inV_strs {z : Str} {zs : List Str} : inV (.str z) (zs.map V.str) = decide (z ∈ zs) := by
  unfold inV
  rw [List.any_map]
  induction zs with
  | nil => rfl
  | cons y ys ih =>
    rw [List.any_cons, ih]
    show (decide (y = z) || decide (z ∈ ys)) = decide (z ∈ y :: ys)
    by_cases h : y = z
    · simp [h]
    · simp [h, Ne.symm h]
end GV
namespace K3
open PySem PySem.Spec PyProof.Rows L2 Evl GV LD
section
variable {K : PySem.W.Frag} {mg : Str → Option Value} {P : Program} {w : World} {base : Heap}
/-! ### _can_have -/
abbrev fld (fs : List (Str × V)) (f : Str) : Option V := fs.lookup f
abbrev cN (K : PySem.W.Frag) : Addr := He.ga K "Names"
/-- the number of a name -/
def num (ns : List (Str × Int)) (z : Str) : Option Int := (ns.find? fun p => decide (p.1 = z)).map (·.2)
theorem valV_num (ns : List (Str × Int)) (z : Str) : valV (numK ns) (.inr z) = (num ns z).map V.int := by
  unfold valV numK num
  rw [List.find?_map]
  have e : ((fun kv : Key × V => decide (kv.1 = (Sum.inr z : Key))) ∘ fun p : Str × Int => ((Sum.inr p.1 : Key), V.int p.2)) = fun p => decide (p.1 = z) := by
    funext p
    show decide ((Sum.inr p.1 : Key) = Sum.inr z) = decide (p.1 = z)
    rw [key_rr]
  rw [e]
  cases List.find? (fun p => decide (p.1 = z)) ns <;> rfl
/-- the number of any thing -/
def numV (ns : List (Str × Int)) : V → Option Int
  | .str z => num ns z
  | _ => none
/-- a text or None -/
def Txt0 (r : V) : Prop := r = .non ∨ ∃ z, r = .str z
theorem lget_num {H : Hp} {a : Addr} {ns : List (Str × Int)} {y : V} (hy : Txt0 y) (h : H a = some (.dK (numK ns))) : LGet P w H a y ((numV ns y).map V.int) := by
  rcases hy with rfl | ⟨z, rfl⟩
  · refine ⟨.none, rfl, .inr ⟨numK ns, .inl h, ?_⟩⟩
    show none = valL (lfs (numK ns)) .none
    unfold valL
    rw [List.find?_eq_none.mpr]
    · rfl
    · intro p hp hh
      obtain ⟨q, hq, rfl⟩ := List.mem_map.mp hp
      obtain ⟨r, hr, rfl⟩ := List.mem_map.mp hq
      cases of_decide_eq_true hh
  · refine ⟨.text z, rfl, .inr ⟨numK ns, .inl h, ?_⟩⟩
    show (num ns z).map V.int = valL (lfs (numK ns)) (.text z)
    unfold valL lfs numK num
    rw [List.map_map, List.find?_map]
    have e : ((fun p : Leaf × V => decide (p.1 = Leaf.text z)) ∘ ((fun p : Key × V => (lf p.1, p.2)) ∘ fun p : Str × Int => ((Sum.inr p.1 : Key), V.int p.2))) = fun p => decide (p.1 = z) := by
      funext p
      show decide (Leaf.text p.1 = Leaf.text z) = decide (p.1 = z)
      by_cases q : p.1 = z
      · rw [q, decide_eq_true rfl, decide_eq_true rfl]
      · rw [decide_eq_false q, decide_eq_false (fun e => q (by injection e))]
    rw [e]
    cases List.find? (fun p => decide (p.1 = z)) ns <;> rfl
def canV (fs ts : List (Str × Int)) (y r : V) : Bool := match numV fs y with
  | some n => decide (r = .str (if n = 1 then "settles" else "swaps"))
  | none => decide (numV ts y = some 2) && inV r [.str "both", .str "order"]
theorem ev_lin {σ : L2.St} {H : Hp} {ty td : TE} {y : V} {d : Addr} {o : Option V} (hy : Ev ty σ H y) (ht : Ev td σ H (.ref d)) (g : ∀ H2, Ex H H2 → LGet P w H2 d y o) : Ev (tLIn P w ty td) σ H (.bl o.isSome) := fun H1 e Q q =>
  hy H1 e _ fun H2 e2 => ht H2 (e.trans e2) _ fun H3 e3 => ⟨d, o, rfl, g H3 ((e.trans e2).trans e3), q H3 (e2.trans e3)⟩
theorem ev_lget {σ : L2.St} {H : Hp} {ty td : TE} {y : V} {d : Addr} {kvs : List (Key × V)} {o : Option V} (ht : Ev td σ H (.ref d)) (hy : Ev ty σ H y) (h : H d = some (.dK kvs)) (g : ∀ H2, Ex H H2 → LGet P w H2 d y o) : Ev (tLGet P w td ty) σ H (o.getD .non) := fun H1 e Q q =>
  ht H1 e _ fun H2 e2 => ⟨d, rfl, .inr ⟨kvs, .inl ((e.trans e2) _ _ h)⟩, hy H2 (e.trans e2) _ fun H3 e3 => ⟨o, g H3 ((e.trans e2).trans e3), q H3 (e2.trans e3)⟩⟩
def spCan (K : PySem.W.Frag) : Sp := fun vs H Q _ => ∃ (a dx f t : Addr) (fl : List (Str × V)) (fs ts : List (Str × Int)) (y r : V), vs = [.ref a, y, r] ∧ H a = some (.ins (cN K) dx fl) ∧ fld fl "_functions" = some (.ref f) ∧ fld fl "_tests" = some (.ref t) ∧
  H f = some (.dK (numK fs)) ∧ H t = some (.dK (numK ts)) ∧ Txt0 y ∧ Txt0 r ∧ RetV (.bl (canV fs ts y r)) H Q
theorem sc_can : FnScope ["self", "name", "rule"] ["self", "name", "rule"] (defScope (inClass (top 26) 9)) := ⟨rfl, rfl, rfl, by decide +kernel, rfl, by decide +kernel, by decide +kernel⟩
theorem ok_can (T : Tx K mg) : ∃ fd, FnOk P w K mg base CX0 1 (He.ma K (cN K) "_can_have") fd ["self", "name", "rule"] (spCan K) ∧ Binds K fd ["self", "name", "rule"] [] := by
  obtain ⟨fd, F⟩ := T.d.def_ 54 (d := d_Names__can_have) rfl
  refine ⟨fd, F.ok sc_can (fun vs H Q E h => ?_) (fun cdv A outer s H vs Q E hr h => ?_), FunD.bindsN F fun _ _ _ _ _ _ us hl => match us, hl with | [_, _, _], _ => rfl⟩
  · obtain ⟨_, _, _, _, _, _, _, _, _, rfl, _⟩ := h
    rfl
  · refine ⟨_, PSs.nox (pss_cons (ps_if (pt_cmp (LD.pc_lin (pv 1) (pe_fld (pv 0) rfl))) (pss_one (ps_ret (pe_cmpR op_eq (pv 2) (pe_ifExp (pt_cmpR op_eq (pe_dget (hu_of hr) (pe_fld (pv 0) rfl) (pv 1) (fun _ _ => rfl)) pe_int (nomark _)) pe_str pe_str) (nomark _)))) pss_nil)
      (pss_one (ps_ret (pe_and (pe_cmpR op_eq (LD.pe_lget (pe_fld (pv 0) rfl) (pv 1) (by exact ⟨rfl, rfl, rfl, rfl⟩)) pe_int (nomark _)) (pe_one (pe_cmpR op_in_seq (pv 2) (pe_tup (pa_cons pe_str (pa_cons pe_str pa_nil))) (by rfl))))))), ?_⟩
    obtain ⟨a, dx, f, t, fl, fs, ts, y, r, rfl, ha, hf, ht, hF, hT, hy0, hr0, q⟩ := h
    have ef : ∀ {H1 : Hp}, Ex H H1 → Ev (tFld K (tVar 0) "_functions") [some (.ref a), some y, some r] H1 (.ref f) := fun e1 => ev_fld (ev_var rfl) (e1 _ _ ha) (T.cls 89 rfl) (T.na 110 rfl) hf
    have et : ∀ {H1 : Hp}, Ex H H1 → Ev (tFld K (tVar 0) "_tests") [some (.ref a), some y, some r] H1 (.ref t) := fun e1 => ev_fld (ev_var rfl) (e1 _ _ ha) (T.cls 89 rfl) (T.na 112 rfl) ht
    have scr : ∀ y : Str, scal r (.str y) = true := fun y => by
      rcases hr0 with rfl | ⟨u, rfl⟩ <;> rfl
    refine q_when (b := (numV fs y).isSome) (et_B (ev_is (ev_lin (P := P) (w := w) (ev_var rfl) (ef (Ex.refl H)) fun H2 e2 => lget_num hy0 (e2 _ _ hF)) (by cases numV fs y <;> rfl))) (fun hb H1 e1 => ?_) (fun hb H1 e1 => ?_)
    · obtain ⟨n, hn⟩ := Option.isSome_iff_exists.mp hb
      obtain ⟨z, rfl⟩ : ∃ z, y = .str z := by
        rcases hy0 with rfl | ⟨z, rfl⟩
        · cases hn
        · exact ⟨z, rfl⟩
      have ez : ∀ {H1 : Hp}, Ev (tVar 1) [some (.ref a), some (.str z), some r] H1 (kV (.inr z)) := ev_var rfl
      have e : canV fs ts (.str z) r = decide (r = .str (if n = 1 then "settles" else "swaps")) := by
        unfold canV
        rw [hn]
      have ex : Ev (tIf (tTest (tOp rEq (tDGet (tFld K (tVar 0) "_functions") (tVar 1)) (tC (.int 1)))) (tC (.str "settles")) (tC (.str "swaps"))) [some (.ref a), some (.str z), some r] H1 (.str (if n = 1 then "settles" else "swaps")) := by
        refine ev_if (b := decide (n = 1)) (et_test (ev_is (ev_op (ev_dget (v := .int n) (ef e1) ez (e1 _ _ hF) (by rw [valV_num, show num fs z = some n from hn]; rfl)) ev_c (rv_eq rfl)) ?_)) (fun h => ?_) (fun h => ?_)
        · congr 1
          by_cases hn1 : n = 1
          · rw [hn1] <;> rfl
          · rw [decide_eq_false hn1]
            exact decide_eq_false fun z => hn1 (by injection z)
        · rw [if_pos (of_decide_eq_true h)]
          exact ev_c
        · rw [if_neg (of_decide_eq_false h)]
          exact ev_c
      refine s_ret (v := .bl (canV fs ts (.str z) r)) ?_ fun H3 e3 => q H3 (e1.trans e3)
      rw [e]
      exact ev_op (ev_var rfl) ex (rv_eq (scr _))
    · have hn : numV fs y = none := by
        cases h : numV fs y with
        | none => rfl
        | some n => rw [h] at hb; cases hb
      have e : canV fs ts y r = (decide (numV ts y = some 2) && inV r [.str "both", .str "order"]) := by
        unfold canV
        rw [hn]
      refine s_ret (v := .bl (canV fs ts y r)) ?_ fun H3 e3 => q H3 (e1.trans e3)
      rw [e]
      refine ev_andV (ev_is (ev_op (ev_lget (P := P) (w := w) (et e1) (ev_var rfl) (e1 _ _ hT) fun H2 e2 => lget_num hy0 ((e1.trans e2) _ _ hT)) ev_c (rv_eq ?_)) ?_) fun _ => ev_inU (ev_var rfl) (eu_tup (ea_cons ev_c (ea_cons ev_c ea_nil)) (by show 2 ≤ 100000; decide)) (by rcases hr0 with rfl | ⟨u, rfl⟩ <;> rfl) rfl
      · cases numV ts y <;> rfl
      · congr 1
        cases numV ts y with
        | none => rfl
        | some m =>
          show decide (V.int m = .int 2) = decide (some m = some 2)
          by_cases hm : m = 2
          · rw [hm] <;> rfl
          · rw [decide_eq_false (fun z => hm (by injection z)), decide_eq_false (fun z => hm (by injection z))]
end
end K3
namespace K3
open PySem PySem.Spec PyProof.Rows L2 Evl GV LD
section
variable {K : PySem.W.Frag} {mg : Str → Option Value} {P : Program} {w : World} {base : Heap}
/-! ### _read_rules -/
def ruK (rs : List (Str × Str)) : List (Key × V) := rs.map fun p => (.inr p.1, .str p.2)
/-- a key as a text, None if it is none -/
def kTxt : Leaf → V
  | .text z => .str z
  | _ => .non
theorem txt_key {k : Leaf} {x : V} (h : lV k x) : txt x = kTxt k := by
  cases k with
  | none => obtain rfl : x = .non := h; rfl
  | num i => rcases h with rfl | ⟨b, rfl, _⟩ <;> rfl
  | text z => obtain rfl : x = .str z := h; rfl
theorem kTxt_0 (k : Leaf) : Txt0 (kTxt k) := by
  cases k <;> first | exact .inl rfl | exact .inr ⟨_, rfl⟩
theorem txt_0 (v : V) : Txt0 (txt v) := by
  cases v <;> first | exact .inl rfl | exact .inr ⟨_, rfl⟩
/-- the first key whose rule is bad; had: an order was told -/
def badRule (fs ts : List (Str × Int)) : Bool → LKV → Option Leaf
  | _, [] => none
  | had, (k, v) :: r => if canV fs ts (kTxt k) (txt v) = true then (if (decide (txt v = .str "order") && had) = true then some k else badRule fs ts (had || decide (txt v = .str "order")) r) else some k
theorem can_txt {fs ts : List (Str × Int)} {k : Leaf} {r : V} (h : canV fs ts (kTxt k) r = true) : (∃ z, k = .text z) ∧ ∃ y, r = .str y := by
  constructor
  · cases k with
    | text z => exact ⟨z, rfl⟩
    | _ => exact absurd h (by unfold canV numV kTxt; simp)
  · unfold canV at h
    split at h
    · exact ⟨_, of_decide_eq_true h⟩
    · rw [Bool.and_eq_true] at h
      obtain ⟨x, hx, e⟩ := List.any_eq_true.mp h.2
      cases r <;> simp at hx <;> rcases hx with rfl | rfl <;> first | exact ⟨_, rfl⟩ | cases e
def spRules (K : PySem.W.Frag) (P : Program) (w : World) : Sp := fun vs H Q E => ∃ (a dx f t d : Addr) (fl : List (Str × V)) (fs ts : List (Str × Int)) (kvs : LKV), vs = [.ref a, .ref d] ∧ H a = some (.ins (cN K) dx fl) ∧ fld fl "_functions" = some (.ref f) ∧ fld fl "_tests" = some (.ref t) ∧ fld fl "_can_have" = none ∧
  H f = some (.dK (numK fs)) ∧ H t = some (.dK (numK ts)) ∧ H d = some (dL P w d kvs) ∧ d ≠ f ∧ d ≠ t ∧ d ≠ a ∧ kvs.length ≤ 1000 ∧ (kvs.map (·.1)).Nodup ∧ (∀ p ∈ kvs, Pl K H p.2 ∧ ∀ z, p.1 = .text z → z.length ≤ 100000) ∧
  (badRule fs ts false kvs = none → ∀ p rs H2, H p = none → Ex H H2 → H2 p = some (.dK (ruK rs)) → Q (.ref p) H2) ∧ ∀ k x, badRule fs ts false kvs = some k → lV k x → BadE K "BadRule" x H E
theorem sc_rules : FnScope ["self", "rules", "found", "name", "rule", "word"] ["self", "rules"] (defScope (inClass (top 26) 8)) := ⟨rfl, rfl, rfl, by decide +kernel, rfl, by decide +kernel, by decide +kernel⟩
theorem Pl.key {H : Hp} {k : Leaf} {x : V} (h : lV k x) (hz : ∀ z, k = .text z → z.length ≤ 100000) : Pl K H x := by
  cases k with
  | none => obtain rfl : x = .non := h; exact .non
  | num i => rcases h with rfl | ⟨b, rfl, _⟩ <;> constructor
  | text z => obtain rfl : x = .str z := h; exact .str z (hz z rfl)
theorem dL_lst {a : Addr} {kvs : LKV} (xs : List V) : dL P w a kvs ≠ .lst xs := fun z => by
  have z' : HO.ext _ = HO.lst xs := z
  cases z'
theorem dL_frz {a : Addr} {kvs : LKV} (o : Obj) (u : HO) : dL P w a kvs ≠ .frz o u := fun z => by
  have z' : HO.ext _ = HO.frz o u := z
  cases z'
theorem ex_unl {H Hc : Hp} {d : Addr} {u : HO} {od : Obj} (hd : H d = some u) (h : Ex (upd H d (.frz od u)) Hc) : Ex H (upd Hc d u) := fun x o e => by
  by_cases q : x = d
  · rw [q] at e ⊢
    rw [upd_same, ← e, hd]
  · rw [upd_ne q]
    exact h _ _ ((upd_ne q).trans e)
theorem ok_rules (T : Tx K mg) : ∃ fd, FnOk P w K mg base (L2.CX P w) 3 (He.ma K (cN K) "_read_rules") fd ["self", "rules"] (spRules K P w) ∧ Binds K fd ["self", "rules"] [] := by
  obtain ⟨fd, F⟩ := T.d.def_ 53 (d := d_Names__read_rules) rfl
  obtain ⟨fd_as_text, G_as_text, b_as_text, k_as_text⟩ := ok_text (P := P) (w := w) (base := base) T
  obtain ⟨fd__can_have, G__can_have, b__can_have⟩ := ok_can (P := P) (w := w) (base := base) T
  have I_BadRule := (T.ini (x := "BadRule") (by decide)).1
  obtain ⟨fd_BadRule, F_BadRule, b_BadRule⟩ := ok_BadRule (P := P) (w := w) (base := base) T
  refine ⟨fd, F.ok sc_rules (fun vs H Q E h => ?_) (fun cdv A outer s H vs Q E hr h => ?_), FunD.bindsN F fun _ _ _ _ _ _ us hl => match us, hl with | [_, _], _ => rfl⟩
  · obtain ⟨_, _, _, _, _, _, _, _, _, rfl, _⟩ := h
    rfl
  · refine ⟨_, (pss_cons (ps_set (i := 2) sc_rules.nd rfl (Or.inl rfl) pe_dnewK)
      (pss_cons (ps_lock (ps_for (passes_of rfl) rfl (LD.pi_itemsL (pv 1)) (pg_tup rfl (pgs_cons (pg_name (i := 3) sc_rules.nd rfl (Or.inl rfl)) (pgs_cons (pg_name (i := 4) sc_rules.nd rfl (Or.inl rfl)) pgs_nil))) (pss_cons (ps_set (i := 5) sc_rules.nd rfl (Or.inl rfl) (pe_call G_as_text (hr.mono (by decide)) rfl (T.gl 12 rfl) k_as_text b_as_text .nil pass0 (pa_cons (pv 4) pa_nil)))
      (pss_cons (ps_if (pt_not (pt_val (pe_meth (pv 0) (T.cls 89 rfl) (T.me 100 rfl) G__can_have (hr.mono (by decide)) b__can_have .nil pass0 (pa_cons (pe_call G_as_text (hr.mono (by decide)) rfl (T.gl 12 rfl) k_as_text b_as_text .nil pass0 (pa_cons (pv 3) pa_nil)) (pa_cons (pv 5) pa_nil))))) (pss_one (ps_raise rfl (takes_un (takes_of rfl rfl rfl rfl)) (pmk_oex I_BadRule.T I_BadRule.iC I_BadRule.tI F_BadRule (hr.mono (by decide)) b_BadRule .nil pass0 (by rfl) (T.gl 4 rfl) (pa_cons (pv 3) pa_nil)))) pss_nil)
      (pss_cons (ps_if (PW.pt (pw_and (pt_cmpR op_eq (pv 5) pe_str (nomark _)) (pw_and1 (pt_cmpR op_in_seq pe_str (SV.pe_listVw rfl rfl (T.fr 38 rfl) (SV.pvw (pv 2))) (by rfl))))) (pss_one (ps_raise rfl (takes_un (takes_of rfl rfl rfl rfl)) (pmk_oex I_BadRule.T I_BadRule.iC I_BadRule.tI F_BadRule (hr.mono (by decide)) b_BadRule .nil pass0 (by rfl) (T.gl 4 rfl) (pa_cons (pv 3) pa_nil)))) pss_nil)
      (pss_one (ps_dput (hu_of hr) (pv 2) (pe_call G_as_text (hr.mono (by decide)) rfl (T.gl 12 rfl) k_as_text b_as_text .nil pass0 (pa_cons (pv 3) pa_nil)) (pv 5) rfl)))))))
      (pss_one (ps_ret (pv 2))))), ?_⟩
    obtain ⟨a, dx, f, t, d, fl, fs, ts, kvs, rfl, ha, hf, ht, hm, hF, hT, hd, hdf, hdt, hda, hlen, hnd, hpl, q1, q2⟩ := h
    refine fun p hp => ?_
    have hpd : p ≠ d := fun e => by
      rw [e, hd] at hp
      cases hp
    refine s_itemsL (P := P) (w := w) (j := 1) (d := d) (kvs := kvs) rfl ((upd_ne (Ne.symm hpd)).trans hd) (fun od i σ Hc => Ex (upd H d (.frz od (dL P w d kvs))) Hc ∧ (∃ x y z, σ = [some (.ref a), some (.ref d), some (.ref p), x, y, z]) ∧
      ∃ rs had, Hc p = some (.dK (ruK rs)) ∧ rs.length ≤ i ∧ (∀ q ∈ rs, Leaf.text q.1 ∈ (kvs.take i).map (·.1)) ∧ inV (.str "order") ((ruK rs).map (·.2)) = had ∧ badRule fs ts false kvs = badRule fs ts had (kvs.drop i)) ?_ ?_ ?_ ?_
    · refine fun od => ⟨fun b o hb => ?_, ⟨_, _, _, rfl⟩, [], false, ?_, Nat.le_refl _, fun q h => absurd h (by simp), rfl, rfl⟩
      · by_cases hbd : b = d
        · rw [hbd, upd_same] at hb ⊢
          exact hb
        · rw [upd_ne hbd] at hb ⊢
          rw [upd_ne (ne_of_none hb hp)]
          exact hb
      · rw [upd_ne hpd]
        exact upd_same
    · exact fun od i σ Hc h => h.1 _ _ upd_same
    · rintro od i k x v σ Hc T1 bk ct rt hz hx ⟨ex, ⟨x0, y0, z0, rfl⟩, rs, had, hfd, hrl, hrk, hhad, hbn⟩ hT1
      have hmem := List.mem_of_getElem? hz
      obtain ⟨hpv0, hkz⟩ := hpl _ hmem
      have hin : i < kvs.length := (List.getElem?_eq_some_iff.mp hz).1
      have e0 : Ex Hc (upd Hc T1 (.tup [x, v])) := Ex.new hT1
      have hpb : upd H d (.frz od (dL P w d kvs)) p = none := (upd_ne hpd).trans hp
      have kp : ∀ {b o}, H b = some o → b ≠ d → upd H d (.frz od (dL P w d kvs)) b = some o := fun h hne => (upd_ne hne).trans h
      have hpv : Pl K Hc v := (pl_frz (od := od) hd dL_lst (fun o xs => dL_frz o _) hpv0).ex ex
      have hpx : Pl K Hc x := Pl.key hx hkz
      rw [drop_one hz] at hbn
      have hbn2 : badRule fs ts false kvs = if canV fs ts (kTxt k) (txt v) = true then (if (decide (txt v = .str "order") && had) = true then some k else badRule fs ts (had || decide (txt v = .str "order")) (kvs.drop (i + 1))) else some k := hbn
      have ctxt : ∀ (j : Nat) (y : V) (σ : L2.St) {H1 : Hp}, Ex Hc H1 → Pl K Hc y → σ[j]? = some (some y) → Ev (tCall (spText K) [] E0 (tCons (tVar j) tNil)) σ H1 (txt y) := fun j y σ {H1} e1 hy hj => ev_call (sp := spText K) (vs := [y]) (ea_cons (ev_var hj) ea_nil) fun H2 e2 Q2 k2 E2 => by
        obtain ⟨kn, k1, k3, k4⟩ := (hy.ex (e1.trans e2)).kind
        exact ⟨y, kn, rfl, k1, k3.s, k4, fun H3 e3 => k2 H3 e3⟩
      have bad : ∀ {H1 : Hp}, Ex Hc H1 → badRule fs ts false kvs = some k → BadE K "BadRule" x H1 _ := fun {H1} e1 hb => (q2 k x hb hx).un (H0 := H) (fun o' u' e => by rw [hd] at e; exact dL_frz o' u' (Option.some.inj e)) hd (ex.trans e1)
      refine q_asg (v := txt v) (ctxt 4 v _ e0 hpv rfl) fun H1 e1 => ?_
      have e01 := e0.trans e1
      refine q_when (b := !canV fs ts (kTxt k) (txt v)) (et_not (et_B fun H2 e2 Q2 k2 => ?_)) (fun hb H2 e2 => ?_) fun hb H2 e2 => ?_
      · refine ⟨_, rfl, a, dx, fl, rfl, ((ex.trans e01).trans e2) _ _ (kp ha (Ne.symm hda)), hm, ?_⟩
        refine ctxt 3 x _ (e01.trans e2) hpx rfl H2 (Ex.refl H2) _ fun H3 e3 => ⟨_, rfl, ?_⟩
        have ee := ((ex.trans e01).trans e2).trans e3
        refine ⟨a, dx, f, t, fl, fs, ts, txt x, txt v, rfl, ee _ _ (kp ha (Ne.symm hda)), hf, ht, ee _ _ (kp hF (Ne.symm hdf)), ee _ _ (kp hT (Ne.symm hdt)), txt_0 x, txt_0 v, fun H4 e4 => ?_⟩
        rw [txt_key hx]
        exact k2 H4 (e3.trans e4)
      · have hb2 : canV fs ts (kTxt k) (txt v) = false := by simpa using hb
        rw [hb2, if_neg Bool.false_ne_true] at hbn2
        exact raise_ok (ev_var rfl) (bad (e01.trans e2) hbn2)
      have hb2 : canV fs ts (kTxt k) (txt v) = true := by simpa using hb
      rw [hb2, if_pos rfl] at hbn2
      obtain ⟨⟨z, rfl⟩, y, hy⟩ := can_txt hb2
      obtain rfl : x = .str z := hx
      rw [hy] at hbn2 ⊢
      have e02 := e01.trans e2
      have hflat : ∀ rs : List (Str × Str), ((ruK rs).map (·.2)).all flatV = true := fun rs => List.all_eq_true.mpr fun x hx => by
        obtain ⟨p2, hp2, rfl⟩ := List.mem_map.mp hx
        obtain ⟨p3, _, rfl⟩ := List.mem_map.mp hp2
        rfl
      refine q_when (b := decide (V.str y = .str "order") && had) (et_and (et_test (ev_op (ev_var rfl) ev_c (rv_eq rfl))) fun _ => et_is (et_test (ev_opL ev_c (el_vals (ev_var rfl) (e02 _ _ hfd)) fun p1 H3 h3 e3 => rv_isL (sq_of h3) rfl (hflat rs))) hhad) (fun hb H3 e3 => ?_) fun hb H3 e3 => ?_
      · rw [hb, if_pos rfl] at hbn2
        exact raise_ok (ev_var rfl) (bad (e02.trans e3) hbn2)
      rw [hb, if_neg Bool.false_ne_true] at hbn2
      refine ⟨_, rfl, .ref p, rfl, ctxt 3 (.str z) _ (e02.trans e3) hpx rfl H3 (Ex.refl H3) _ fun H4 e4 => ?_⟩
      have e14 := (e02.trans e3).trans e4
      have hf4 := e14 _ _ hfd
      have hnone : valV (ruK rs) (.inr z) = none := by
        refine valV_none fun q hq e => ?_
        obtain ⟨pr, hpr, rfl⟩ := List.mem_map.mp hq
        have e2 : pr.1 = z := Sum.inr.inj e
        have hin2 := hrk pr hpr
        rw [e2] at hin2
        have h2 : ((kvs.take (i + 1)).map (·.1)).Nodup := hnd.sublist ((List.take_sublist _ _).map _)
        rw [take_one hz, List.map_append, List.nodup_append] at h2
        exact h2.2.2 _ hin2 (Leaf.text z) (by simp) rfl
      refine ⟨p, _, rfl, DPut.k (k := .inr z) hf4 ?_, Ex.mut (ex.trans e14) hpb, ⟨_, _, _, rfl⟩, rs ++ [(z, y)], had || decide (V.str y = .str "order"), ?_, ?_, ?_, ?_, hbn2⟩
      · unfold ruK
        rw [List.length_map]
        exact small1000 (by omega)
      · rw [upd_same, putK_new _ hnone]
        unfold ruK
        rw [List.map_append]
        rfl
      · rw [List.length_append]
        show rs.length + 1 ≤ i + 1
        omega
      · intro q hq
        rw [take_one hz, List.map_append]
        rcases List.mem_append.mp hq with h | h
        · exact List.mem_append_left _ (hrk q h)
        · rw [List.mem_singleton.mp h]
          exact List.mem_append_right _ (by simp)
      · rw [← hhad]
        unfold ruK inV
        rw [List.map_append, List.map_append, List.any_append]
        congr 1
        show (eqV (.str y) (.str "order") || false) = _
        rw [Bool.or_false]
        show decide (y = "order") = _
        exact decide_eq_decide.mpr ⟨fun e => by rw [e], fun e => by injection e⟩
    · rintro od σ Hc ⟨ex, ⟨x0, y0, z0, rfl⟩, rs, had, hfd, _, _, _, hbn⟩
      rw [List.drop_length] at hbn
      refine ⟨.ref p, rfl, q1 hbn p rs _ hp (ex_unl hd ex) ?_⟩
      rw [upd_ne hpd]
      exact hfd
end
end K3
/-! enumerate over a tuple -/
namespace EnT
open PySem PySem.Spec PyProof.Rows L2
section
open Sem (wp)
open AutoSeq1 (wpAny_loadPart')
theorem made1 {v : Value} {o : Obj} {G : Heap → Prop} (B : Begins v o G) :
    Meets (Builtin.«enumerate.__new__» ⟨[.type "enumerate", v], []⟩) (fun _ R s => G s.heap ∧
      R (.ok (.ret (.ref (s.heap.push o).objs.size))) { s with heap := (s.heap.push o).push { cls := .type "enumerate", data := .fields #[.none, .bool false, .ref s.heap.objs.size, rawInt 0, .none, .none] } }) :=
  .of_wp fun prog w A R s ⟨g1, hR⟩ => by
    obtain ⟨hp, gs, dr, tk, os⟩ := s
    have isb := sub_enumerate
    have it0 : ∀ {A' : Around} {E : Value → Shared → Prop} {Q : Value → Shared → Prop}, Q (.ref hp.objs.size) ⟨hp.push o, gs, dr, tk, os⟩ → wpAny (model prog w) A' (pyIter v) Q E ⟨hp, gs, dr, tk, os⟩ :=
      fun hq => B.iter prog w _ _ ⟨hp, gs, dr, tk, os⟩ _ g1 hq
    wp_walk using it0
    apply wpAny_stack_any; intro st; apply wpAny_pure
    split
    · rename_i cc _ _ _ _ _
      cases (cc == Value.type "enumerate") <;> (wp_walk using it0; exact ⟨_, rfl, hR⟩)
    · wp_walk using it0; exact ⟨_, rfl, hR⟩
end
theorem en_call {prog : Program} {w : World} {A : Around} {E : Value → Shared → Prop} {s : Shared} {v : Value} {o : Obj} {G : Heap → Prop} {Q : Value → Shared → Prop} (B : Begins v o G) (h1 : G s.heap)
    (h : ∀ h', IsEnum h' (s.heap.objs.size + 1) s.heap.objs.size 0 .none → h'.get? s.heap.objs.size = some o → (∀ b u, s.heap.get? b = some u → h'.get? b = some u) → Q (.ref (s.heap.objs.size + 1)) { s with heap := h' }) :
    wpAny (model prog w) A (call (.type "enumerate") [v]) Q E s := by
  refine callType_new F.called_enumerate (by decide) (F.typeCall_enumerate_1 _) (F.newCall_enumerate_1 _) (fun obj => F.args_object_init_2 obj _) F.entry_enumerate_new (made1 B) ⟨h1, ?_⟩
  have size1 : (s.heap.push o).objs.size = s.heap.objs.size + 1 := Heap.size_push ..
  have en : IsEnum ((s.heap.push o).push { cls := .type "enumerate", data := .fields #[.none, .bool false, .ref s.heap.objs.size, rawInt 0, .none, .none] }) (s.heap.objs.size + 1) s.heap.objs.size 0 .none := by
    have z := Heap.get?_push_size (s.heap.push o) (o := { cls := .type "enumerate", data := .fields #[.none, .bool false, .ref s.heap.objs.size, rawInt 0, .none, .none] }) rfl
    rwa [size1] at z
  have goal : Q (.ref (s.heap.objs.size + 1)) { s with heap := (s.heap.push o).push { cls := .type "enumerate", data := .fields #[.none, .bool false, .ref s.heap.objs.size, rawInt 0, .none, .none] } } :=
    h _ en (Heap.get?_push_of_some _ (Heap.get?_push_size _ B.free)) fun b u x => Heap.get?_push_of_some _ (Heap.get?_push_of_some _ x)
  show _ ∧ _
  rw [size1]
  exact ⟨⟨_, en, rfl⟩, goal⟩
/-- the tuple at a, each item in a new pair -/
def IteT (K : PySem.W.Frag) (a : Addr) : It where
  go := fun i H => ∃ (xs : List V) (x : V), SqT K H a xs ∧ xs[i]? = some x
  yld := fun i H v H' => ∃ T x, v = .ref T ∧ H T = none ∧ H' = upd H T (.tup [.int (i : Nat), x]) ∧ ∀ xs, SqT K H a xs → xs[i]? = some x
  stop := fun i H => ∃ xs : List V, SqT K H a xs ∧ xs.length = i
def stT (a e it : Addr) (i : Nat) (h : Heap) : Prop := ((∃ old, IsEnum h e it ((i : Nat) : Int) old) ∧ h.IsTupleIter it a i) ∧ e ≠ it
theorem turnT {P : Program} {w : World} {K : PySem.W.Frag} {elts : List Expr} {kk : Nat} {tpos : Pos} (a e it : Addr) : Turn P w K (.Tuple elts kk tpos) (IteT K a) [e, it] e (stT a e it) where
  mem := List.mem_cons_self
  obj := by
    rintro i h ⟨⟨⟨old, he⟩, o, ho, _, hd⟩, _⟩ b hbm
    rcases List.mem_cons.mp hbm with rfl | hbm
    · exact ⟨_, he, fun _ q => nomatch q⟩
    · cases List.mem_singleton.mp hbm
      exact ⟨o, ho, fun _ q => by rw [hd] at q; cases q⟩
  keep := fun i h h' ⟨⟨⟨old, he⟩, hi⟩, hne⟩ k => ⟨⟨⟨old, k e List.mem_cons_self _ he⟩, hi.at fun o q => k it (by simp) o q⟩, hne⟩
  item := by
    rintro X rfl rfl rfl hc i pins s σ H E I hf ⟨⟨⟨old, he⟩, hit⟩, hne⟩ ⟨xs, x, hq, hx⟩
    obtain ⟨itm, rvl, p, hzz⟩ := I.tuple hq
    obtain ⟨u, hu, ru⟩ := rvl.get hx
    have ptu : s.heap.IsTuple a itm.toArray := p
    have hle1 : e < s.heap.objs.size := Heap.lt_size he
    have hlt1 : it < s.heap.objs.size := by obtain ⟨_, q, _⟩ := hit; exact Heap.lt_size q
    have hae : e ≠ a := fun z => by
      obtain ⟨o, ho, ho2, _⟩ := ptu
      rw [← z, he] at ho
      cases ho
      exact absurd (Value.type.inj ho2) (by decide)
    have hne1 : a ≠ it := fun z => by
      obtain ⟨o, ho, ho2, _⟩ := ptu
      obtain ⟨o', ho', ho2', _⟩ := hit
      rw [z, ho'] at ho
      cases ho
      exact absurd (Value.type.inj (ho2'.symm.trans ho2)) (by decide)
    have hin : i < itm.toArray.size := by
      have := (List.getElem?_eq_some_iff.mp hu).1
      simpa using this
    refine wpAny_pyNext_enum_itemD (Draws.tuple (A := X.A.in1) (I.ok.hd hc) it a hne1 itm.toArray) he ⟨hit, ptu⟩ hin hne (by simp [hne, hae]) ?_
    rintro y h' tk hy ho ⟨hit', _⟩ hT hsz hk
    cases (show u = y by rw [show itm.toArray[i]? = some u by simpa using hu] at hy; exact Option.some.inj hy)
    refine ⟨_, rfl, wpAny_letOwnedTupleGo_enum (s := { s with heap := h', toks := tk + 1 }) ho fun h2 he2 sb => ?_⟩
    have hT2 := (sb.2 s.heap.objs.size (Nat.ne_of_gt hle1)).trans hT
    have pair : ObjOk X.prog X.w (upd H s.heap.objs.size (.tup [.int (i : Nat), x])) h2 s.heap.objs.size (.tup [.int (i : Nat), x]) :=
      ⟨by show 2 ≤ sizeLine; decide, _, .cons ⟨tk, rfl⟩ (.cons ru .nil), ⟨_, hT2, rfl, _, rfl⟩⟩
    have keep2 : ∀ b ob, b ∉ [e, it] → s.heap.get? b = some ob → h2.get? b = some ob := fun b ob hbm q => by
      have hb1 : b ≠ e := fun z => hbm (by simp [z])
      exact (sb.2 b hb1).trans (hk b ob hb1 (fun z => hbm (by simp [z])) q)
    refine ⟨.ref s.heap.objs.size, _, I.turnedNew (ch := [e, it]) (t' := tk + 1) keep2 hf (Nat.le_refl _) pair, rfl, ?_, ⟨⟨⟨u, ?_⟩, hit'.at fun o q => (sb.2 it (Ne.symm hne)).trans q⟩, hne⟩, fun b hbm => ?_⟩
    · exact ⟨_, x, rfl, I.hok.fresh (Nat.le_refl _), rfl, fun ys hy => by rw [I.tuple_inj hy hq]; exact hx⟩
    · rw [show ((i + 1 : Nat) : Int) = (i : Int) + 1 by omega]
      exact he2
    · have hlt : b < s.heap.objs.size := by
        rcases List.mem_cons.mp hbm with rfl | hbm
        · exact hle1
        · rw [List.mem_singleton.mp hbm]
          exact hlt1
      rw [upd_ne (Nat.ne_of_lt hlt)]
      exact (hf b hbm).1
  done := by
    rintro X rfl rfl rfl hc i pins s σ H E I hf ⟨⟨⟨old, he⟩, hit⟩, hne⟩ ⟨xs, hq, hx⟩
    obtain ⟨itm, rvl, p, hzz⟩ := I.tuple hq
    have ptu : s.heap.IsTuple a itm.toArray := p
    have hne1 : a ≠ it := fun z => by
      obtain ⟨o, ho, ho2, _⟩ := ptu
      obtain ⟨o', ho', ho2', _⟩ := hit
      rw [z, ho'] at ho
      cases ho
      exact absurd (Value.type.inj (ho2'.symm.trans ho2)) (by decide)
    obtain ⟨f0, f1, _, f3, f4, f5⟩ := hf it (by simp)
    have hn : itm.toArray.size = i := by
      have := rvl.length
      simp only [List.size_toArray]
      omega
    refine wpAny_pyNext_enum_endD (Draws.tuple (A := X.A.in1) (I.ok.hd hc) it a hne1 itm.toArray) he ⟨?_, ptu⟩ fun h' eb => ⟨rfl, I.turned (t' := s.toks) (fun b o hbm q => eb b o hbm q) f0 f1 f3 f4 f5⟩
    rw [hn]
    exact hit
  self := fun A i s Q E ⟨⟨⟨_, he⟩, _⟩, _⟩ h => wpAny_pyIter_enum he h
def iEnT (K : PySem.W.Frag) (ta : TA) : TI := fun σ H R => ta σ H fun vs H1 => ∃ a xs, vs = [.ref a] ∧ SqT K H1 a xs ∧ R (IteT K a) H1
theorem pi_enT {X : Cx} {e : Expr} {ta : TA} {p pos tpos : Pos} {elts : List Expr} {kk : Nat} (hg : Gl X "enumerate") (hm : X.mg "enumerate" = none) (ha : PA X [e] ta) (hs : starEach [e] X.env = [(false, eval e X.env)] := by rfl) :
    PI X (.Tuple elts kk tpos) (.Call (.Name "enumerate" p) [e] [] pos) (iEnT X.K ta) := by
  constructor
  intro pins s σ H R I h
  refine Call_ (ld_blt I hg hm boot_enumerate (PyProof.Rows.callWith_type1 (thn (ha.run pos pins s σ H _ I h) ?_) hs rfl))
  rintro us u1 ⟨vs, H1, J1, r1, a, xs, rfl, hq, q⟩
  match us, r1 with
  | [u], .cons r .nil =>
    cases (show u = Value.ref a from r)
    obtain ⟨itm, rvl, ptu, hzz⟩ := J1.tuple hq
    refine en_call (begins_tuple a itm.toArray) (show u1.heap.IsTuple a itm.toArray from ptu) fun h' he hit hk => wpAny_pyIter_enum he ?_
    have J2 : Inv X pins σ H1 { u1 with heap := h' } := J1.kept (t' := u1.toks) hk
    refine ⟨_, [u1.heap.objs.size + 1, u1.heap.objs.size], _, _, H1, rfl, J2, turnT a (u1.heap.objs.size + 1) u1.heap.objs.size, ⟨⟨⟨.none, he⟩, ⟨_, hit, rfl, rfl⟩⟩, Nat.succ_ne_self _⟩, fun b hbm => ?_, q⟩
    have hge : u1.heap.objs.size ≤ b := by
      rcases List.mem_cons.mp hbm with rfl | hbm
      · exact Nat.le_succ _
      · exact Nat.le_of_eq (List.mem_singleton.mp hbm).symm
    exact J1.fpOk hge (J1.hok.fresh hge)
theorem walk_enT {K : PySem.W.Frag} {a : Addr} {xs : List V} : Walk (IteT K a) xs.length (fun H => SqT K H a xs) (YPair (fun i => some (.int (i : Nat))) (fun i => xs[i]?)) where
  goes := fun i H hi q => ⟨xs, xs[i], q, List.getElem?_eq_getElem hi⟩
  stops := fun H q => ⟨xs, q, rfl⟩
  yields := fun i H v H' _ q ⟨T, x, h1, h2, h3, h4⟩ => ⟨T, .int (i : Nat), x, h1, h2, h3, rfl, h4 xs q⟩
end EnT
/-! general: walks over a list or a tuple, plain and counted; methods; pairs of names put at once -/
namespace GV
open PySem PySem.Spec PyProof.Rows L2 Evl
/-- a list (true) or a tuple -/
def SqB (K : PySem.W.Frag) : Bool → Hp → Addr → List V → Prop
  | true => SqL K
  | false => SqT K
theorem sqB_ex {K : PySem.W.Frag} {H H' : Hp} {l : Bool} {a : Addr} {xs : List V} (e : Ex H H') (h : SqB K l H a xs) : SqB K l H' a xs := by
  cases l with
  | true => exact ex_l e h
  | false => exact ex_t e h
theorem sqB_of {K : PySem.W.Frag} {H : Hp} {a : Addr} {xs : List V} (h : SqL K H a xs ∨ SqT K H a xs) : ∃ l, SqB K l H a xs := h.elim (fun z => ⟨true, z⟩) fun z => ⟨false, z⟩
def ItB (K : PySem.W.Frag) : Bool → Addr → It
  | true => Itl K
  | false => Itt K
def IteB (K : PySem.W.Frag) : Bool → Addr → It
  | true => Ite K
  | false => EnT.IteT K
theorem walk_B {K : PySem.W.Frag} {l : Bool} {a : Addr} {xs : List V} : Walk (ItB K l a) xs.length (fun H => SqB K l H a xs) (YAt xs) := by
  cases l with
  | true => exact walk_list
  | false => exact walk_tup
theorem walk_eB {K : PySem.W.Frag} {l : Bool} {a : Addr} {xs : List V} : Walk (IteB K l a) xs.length (fun H => SqB K l H a xs) (YPair (fun i => some (.int (i : Nat))) (fun i => xs[i]?)) := by
  cases l with
  | true => exact walk_enum
  | false => exact EnT.walk_enT
def iSq (K : PySem.W.Frag) (tl : TE) : TI := fun σ H R => tl σ H fun x H1 => ∃ a xs l, x = .ref a ∧ SqB K l H1 a xs ∧ R (ItB K l a) H1
def iEnSq (K : PySem.W.Frag) (ta : TA) : TI := fun σ H R => ta σ H fun vs H1 => ∃ a xs l, vs = [.ref a] ∧ SqB K l H1 a xs ∧ R (IteB K l a) H1
theorem pi_sq {X : Cx} {tg l : Expr} {tl : TE} (hl : PE X l tl) : PI X tg l (iSq X.K tl) := by
  refine ⟨fun pins s σ H R I h => ?_⟩
  refine thn (hl.run pins s σ H _ I h) fun v u1 ⟨x, H1, J1, r1, q1⟩ => ?_
  obtain ⟨a, xs, b, e, hq, q⟩ := q1
  subst e
  cases r1
  cases b with
  | true =>
    obtain ⟨itm, rvl, p, hzz⟩ := J1.list hq
    refine wpAny_pyIter_list p.isList ?_
    refine ⟨u1.heap.objs.size, [u1.heap.objs.size], _, _, H1, rfl, J1.kept (t' := u1.toks) fun b o e => Heap.get?_push_of_some _ e, turn_list a _, ⟨_, Heap.get?_push_size _ rfl, rfl, rfl⟩, fun b hbm => ?_, q⟩
    rw [List.mem_singleton.mp hbm]
    exact J1.fpOk (Nat.le_refl _) (J1.hok.fresh (Nat.le_refl _))
  | false =>
    obtain ⟨itm, rvl, p, hzz⟩ := J1.tuple hq
    refine wpAny_pyIter_tuple (show u1.heap.IsTuple a itm.toArray from p) ?_
    refine ⟨u1.heap.objs.size, [u1.heap.objs.size], _, _, H1, rfl, J1.kept (t' := u1.toks) fun b o e => Heap.get?_push_of_some _ e, turn_tuple a _, ⟨_, Heap.get?_push_size _ rfl, rfl, rfl⟩, fun b hbm => ?_, q⟩
    rw [List.mem_singleton.mp hbm]
    exact J1.fpOk (Nat.le_refl _) (J1.hok.fresh (Nat.le_refl _))
theorem pi_enSq {X : Cx} {e : Expr} {ta : TA} {p pos tpos : Pos} {elts : List Expr} {kk : Nat} (hg : Gl X "enumerate") (hm : X.mg "enumerate" = none) (ha : PA X [e] ta) (hs : starEach [e] X.env = [(false, eval e X.env)] := by rfl) :
    PI X (.Tuple elts kk tpos) (.Call (.Name "enumerate" p) [e] [] pos) (iEnSq X.K ta) := by
  constructor
  intro pins s σ H R I h
  refine Call_ (ld_blt I hg hm boot_enumerate (PyProof.Rows.callWith_type1 (thn (ha.run pos pins s σ H _ I h) ?_) hs rfl))
  rintro us u1 ⟨vs, H1, J1, r1, a, xs, l, rfl, hq, q⟩
  match us, r1 with
  | [u], .cons r .nil =>
    cases (show u = Value.ref a from r)
    cases l with
    | true =>
      obtain ⟨itm, rvl, pli, hzz⟩ := J1.list hq
      refine call_enumerate_list pli.isList fun h' he hit hsz hk => wpAny_pyIter_enum he ?_
      have J2 : Inv X pins σ H1 { u1 with heap := h' } := J1.kept (t' := u1.toks) hk
      refine ⟨u1.heap.objs.size + 1, [u1.heap.objs.size + 1, u1.heap.objs.size], _, _, H1, rfl, J2, turn_enum a (u1.heap.objs.size + 1) u1.heap.objs.size, ⟨⟨.none, he⟩, hit, Nat.succ_ne_self _⟩, fun b hbm => ?_, q⟩
      have hge : u1.heap.objs.size ≤ b := by
        rcases List.mem_cons.mp hbm with rfl | hbm
        · exact Nat.le_succ _
        · exact Nat.le_of_eq (List.mem_singleton.mp hbm).symm
      exact J1.fpOk hge (J1.hok.fresh hge)
    | false =>
      obtain ⟨itm, rvl, ptu, hzz⟩ := J1.tuple hq
      refine EnT.en_call (begins_tuple a itm.toArray) (show u1.heap.IsTuple a itm.toArray from ptu) fun h' he hit hk => wpAny_pyIter_enum he ?_
      have J2 : Inv X pins σ H1 { u1 with heap := h' } := J1.kept (t' := u1.toks) hk
      refine ⟨_, [u1.heap.objs.size + 1, u1.heap.objs.size], _, _, H1, rfl, J2, EnT.turnT a (u1.heap.objs.size + 1) u1.heap.objs.size, ⟨⟨⟨.none, he⟩, ⟨_, hit, rfl, rfl⟩⟩, Nat.succ_ne_self _⟩, fun b hbm => ?_, q⟩
      have hge : u1.heap.objs.size ≤ b := by
        rcases List.mem_cons.mp hbm with rfl | hbm
        · exact Nat.le_succ _
        · exact Nat.le_of_eq (List.mem_singleton.mp hbm).symm
      exact J1.fpOk hge (J1.hok.fresh hge)
section
variable {K : PySem.W.Frag} {σ : L2.St} {H : Hp} {D : Ends} {l : Bool} {a : Addr} {xs : List V} {tb tz : TS} {tl : TE} {ta : TA}
/-- for x in a list or a tuple that stays -/
theorem s_forSq {j : Nat} (h : Ev tl σ H (.ref a)) (hx : SqB K l H a xs) (Pv : Nat → L2.St → Hp → Prop) (h0 : ∀ H1, Ex H H1 → Pv 0 σ H1) (hE : ∀ i σ' H', Pv i σ' H' → SqB K l H' a xs)
    (hs : ∀ i x σ' H', xs[i]? = some x → Pv i σ' H' → tb { D with nx := Pv (i + 1), ct := Pv (i + 1), bk := D.nx } (σ'.set j (some x)) H') (hd : ∀ σ' H', Pv xs.length σ' H' → D.nx σ' H') : tFor (iSq K tl) (gName j) tb D σ H := h H (Ex.refl H) _ fun H1 e1 => by
  refine ⟨a, xs, l, rfl, sqB_ex e1 hx, for_it (walk_B (K := K) (l := l) (a := a) (xs := xs)) Pv (h0 H1 e1) (fun i σ' H' _ hp => hE i σ' H' hp) ?_ hd⟩
  rintro i x σ' H' H2 hi hp ⟨rfl, hx2⟩
  exact hs i x σ' H2 hx2 hp
theorem q_forSq {j : Nat} (h : Ev tl σ H (.ref a)) (hx : SqB K l H a xs) (Pv : Nat → L2.St → Hp → Prop) (h0 : ∀ H1, Ex H H1 → Pv 0 σ H1) (hE : ∀ i σ' H', Pv i σ' H' → SqB K l H' a xs)
    (hs : ∀ i x σ' H', xs[i]? = some x → Pv i σ' H' → tb { D with nx := Pv (i + 1), ct := Pv (i + 1), bk := tz D } (σ'.set j (some x)) H') (hd : ∀ σ' H', Pv xs.length σ' H' → tz D σ' H') : tSeq (tFor (iSq K tl) (gName j) tb) tz D σ H :=
  s_forSq (D := { D with nx := tz D }) h hx Pv h0 hE hs hd
/-- for i, x in enumerate(a list or a tuple that stays) -/
theorem s_forEn {j k : Nat} (h : EvA ta σ H [.ref a]) (hx : SqB K l H a xs) (Pv : Nat → L2.St → Hp → Prop) (h0 : ∀ H1, Ex H H1 → Pv 0 σ H1) (hE : ∀ i σ' H', Pv i σ' H' → SqB K l H' a xs)
    (hs : ∀ i x σ' H' T, xs[i]? = some x → Pv i σ' H' → H' T = none → tb { D with nx := Pv (i + 1), ct := Pv (i + 1), bk := D.nx } ((σ'.set j (some (.int (i : Nat)))).set k (some x)) (upd H' T (.tup [.int (i : Nat), x])))
    (hd : ∀ σ' H', Pv xs.length σ' H' → D.nx σ' H') : tFor (iEnSq K ta) (gTup K 2 (gCons (gName j) (gCons (gName k) gNil))) tb D σ H := h H (Ex.refl H) _ fun H1 e1 => by
  refine ⟨a, xs, l, rfl, sqB_ex e1 hx, for_it (walk_eB (K := K) (l := l) (a := a) (xs := xs)) Pv (h0 H1 e1) (fun i σ' H' _ hp => hE i σ' H' hp) ?_ hd⟩
  rintro i x σ' H' H2 hi hp ⟨T, y, z, rfl, hT, rfl, h1, h2⟩
  cases h1
  exact ⟨T, _, rfl, SqT.of upd_same, rfl, _, _, rfl, _, _, rfl, rfl, hs i z σ' H' T h2 hp hT⟩
theorem q_forEn {j k : Nat} (h : EvA ta σ H [.ref a]) (hx : SqB K l H a xs) (Pv : Nat → L2.St → Hp → Prop) (h0 : ∀ H1, Ex H H1 → Pv 0 σ H1) (hE : ∀ i σ' H', Pv i σ' H' → SqB K l H' a xs)
    (hs : ∀ i x σ' H' T, xs[i]? = some x → Pv i σ' H' → H' T = none → tb { D with nx := Pv (i + 1), ct := Pv (i + 1), bk := tz D } ((σ'.set j (some (.int (i : Nat)))).set k (some x)) (upd H' T (.tup [.int (i : Nat), x])))
    (hd : ∀ σ' H', Pv xs.length σ' H' → tz D σ' H') : tSeq (tFor (iEnSq K ta) (gTup K 2 (gCons (gName j) (gCons (gName k) gNil))) tb) tz D σ H :=
  s_forEn (D := { D with nx := tz D }) h hx Pv h0 hE hs hd
variable {te : TE} {g : TG} [GMono g] {tt : TT} {vs : List Nat}
/-- a comprehension over a list or a tuple -/
theorem gv_lcB {N : Nat} (R : Nat → List V → Hp → Prop) (ht : Ev tl σ H (.ref a)) (hx : SqB K l H a xs)
    (m : ∀ i us H H', Ex H H' → R i us H → R i us H') (hzz : ∀ i us H, R i us H → us.length ≤ 100000) (h0 : ∀ H', Ex H H' → R 0 [] H')
    (hs : ∀ Hs, Ex H Hs → ∀ i x us, xs[i]? = some x → R i us Hs → lcOk (wipe σ vs) vs g tt te R i x us Hs) :
    Gv (tLc (iSq K tl) g tt te vs) σ H (NewL H (R xs.length)) := fun H1 e Q q => ht H1 e _ fun H1' e' => by
  refine ⟨a, xs, l, rfl, sqB_ex (e.trans e') hx, fun Dl hD => ?_⟩
  have f := Fm.gr e e'
  refine gv_lcw (H := H) (walk_B (K := K) (l := l) (a := a) (xs := xs)) R m hzz (fun H2 e2 => sqB_ex e2 hx) (h0 H (Ex.refl H)) (fun i x Hs Hc Hc' hi e1 e2 y => ?_) f.sub hD fun us H2 H2' f2 hl r => q _ H2 H2' (f.trans f2) ⟨Dl, us, rfl, fresh_back (e.trans f.cur) hD, hl, r⟩
  obtain ⟨rfl, hx2⟩ := y
  exact ⟨Hs, Fm.refl e2, fun us r => hs Hs e1 i x us hx2 r⟩
/-- a comprehension over an enumeration -/
theorem gv_lcEn {ta : TA} {N : Nat} (R : Nat → List V → Hp → Prop) (ht : EvA ta σ H [.ref a]) (hx : SqB K l H a xs)
    (m : ∀ i us H H', Ex H H' → R i us H → R i us H') (hzz : ∀ i us H, R i us H → us.length ≤ 100000) (h0 : ∀ H', Ex H H' → R 0 [] H')
    (hs : ∀ Hs, Ex H Hs → ∀ i x us T, xs[i]? = some x → R i us Hs → Hs T = some (.tup [.int (i : Nat), x]) → lcOk (wipe σ vs) vs g tt te R i (.ref T) us Hs) :
    Gv (tLc (iEnSq K ta) g tt te vs) σ H (NewL H (R xs.length)) := fun H1 e Q q => ht H1 e _ fun H1' e' => by
  refine ⟨a, xs, l, rfl, sqB_ex (e.trans e') hx, fun Dl hD => ?_⟩
  have f := Fm.gr e e'
  refine gv_lcw (H := H) (walk_eB (K := K) (l := l) (a := a) (xs := xs)) R m hzz (fun H2 e2 => sqB_ex e2 hx) (h0 H (Ex.refl H)) (fun i x Hs Hc Hc' hi e1 e2 y => ?_) f.sub hD fun us H2 H2' f2 hl r => q _ H2 H2' (f.trans f2) ⟨Dl, us, rfl, fresh_back (e.trans f.cur) hD, hl, r⟩
  obtain ⟨T, y, z, rfl, hT, rfl, h1, h2⟩ := y
  cases h1
  have g2 := Fm.newO (o := .tup [.int (i : Nat), z]) e2 hT
  exact ⟨_, g2, fun us r => hs _ (e1.trans g2.ex) i z us T h2 (m _ _ _ _ g2.ex r) upd_same⟩
def rIs0 : R2 := fun x y H Q => y = .non ∧ Q (.bl (decide (x = .non))) H
theorem rv_is0 {x : V} : RV rIs0 x .non H (.bl (decide (x = .non))) := fun H1 _ _ q => ⟨rfl, q H1 (Ex.refl H1)⟩
/-! ### names put at once -/
theorem g_par3 {i j k : Nat} {H1 : Hp} {A : List V → Hp → Prop} (e : Ex H H1) (h : GvA ta σ H A) (q : ∀ vs H' H1', Fm H H1 H' H1' → A vs H' → ∃ u v w, vs = [u, v, w] ∧ tz D (((σ.set i (some u)).set j (some v)).set k (some w)) H1') : tSeq (tPar3 i j k ta) tz D σ H1 := h H1 e _ q
theorem g_par {i j : Nat} {H1 : Hp} {A : List V → Hp → Prop} (e : Ex H H1) (h : GvA ta σ H A) (q : ∀ vs H' H1', Fm H H1 H' H1' → A vs H' → ∃ u v, vs = [u, v] ∧ tz D ((σ.set i (some u)).set j (some v)) H1') : tSeq (tPar i j ta) tz D σ H1 := h H1 e _ q
/-! ### methods -/
theorem gv_meth {C dx : Addr} {fs : List (Str × V)} {mm : Str} {P : List V → Hp → Pr → Prop} {E : XK} {R : Pr} {A : List V → Hp → Prop} (ha : Ev te σ H (.ref a)) (hi : H a = some (.ins C dx fs)) (hm : fs.lookup mm = none) (h : GvA ta σ H A)
    (k : ∀ vs H', Ex H H' → A vs H' → P (.ref a :: vs) H' R) : Gv (tMeth C mm (spG P) [] E te ta) σ H R := fun H1 e Q q =>
  ha H1 e _ fun H2 e2 => ⟨a, dx, fs, rfl, (e.trans e2) _ _ hi, hm, h H2 (e.trans e2) _ fun vs H' H1' f r => by
    rw [List.append_nil]
    exact ⟨H', R, f.sub, k vs H' f.ex r, fun v H3 H3' g r2 => q v H3 H3' ((Fm.gr e e2).trans (f.trans g)) r2⟩⟩
theorem gv_methW {C dx : Addr} {fs : List (Str × V)} {mm : Str} {P : List V → Hp → Pr → Prop} {E : XK} {R : Pr} {A : List V → Hp → Prop} (ha : Ev te σ H (.ref a)) (hi : H a = some (.ins C dx fs)) (hm : fs.lookup mm = none) (h : GvA ta σ H A)
    (k : ∀ vs H', Ex H H' → A vs H' → ∃ R', P (.ref a :: vs) H' R' ∧ ∀ v H2, Ex H' H2 → R' v H2 → R v H2) : Gv (tMeth C mm (spG P) [] E te ta) σ H R := fun H1 e Q q =>
  ha H1 e _ fun H2 e2 => ⟨a, dx, fs, rfl, (e.trans e2) _ _ hi, hm, h H2 (e.trans e2) _ fun vs H' H1' f r => by
    rw [List.append_nil]
    obtain ⟨R', h1, h2⟩ := k vs H' f.ex r
    exact ⟨H', R', f.sub, h1, fun v H3 H3' g r2 => q v H3 H3' ((Fm.gr e e2).trans (f.trans g)) (h2 v H3 g.ex r2)⟩⟩
theorem ev_meth {C dx : Addr} {fs : List (Str × V)} {mm : Str} {sp : Sp} {E : XK} {z : V} {us : List V} (ha : Ev te σ H (.ref a)) (hi : H a = some (.ins C dx fs)) (hm : fs.lookup mm = none) (h : EvA ta σ H us)
    (k : ∀ H1 Q, Ex H H1 → RetV z H1 Q → sp (.ref a :: us) H1 Q E) : Ev (tMeth C mm sp [] E te ta) σ H z := fun H1 e Q q =>
  ha H1 e _ fun H2 e2 => ⟨a, dx, fs, rfl, (e.trans e2) _ _ hi, hm, h H2 (e.trans e2) _ fun H3 e3 => by
    rw [List.append_nil]
    exact k H3 _ ((e.trans e2).trans e3) fun H4 e4 => q H4 ((e2.trans e3).trans e4)⟩
def rLenV (K : PySem.W.Frag) : List V → Hp → VK → Prop := fun xs H Q => ∃ x n, xs = [x] ∧ LenV K x H n ∧ Q (.int n) H
theorem ev_lenV {p : Addr} (ha : Ev te σ H (.ref p)) (h : SqL K H p xs ∨ SqT K H p xs) : Ev (tCB (rLenV K) (tCons te tNil)) σ H (.int (xs.length : Int)) := fun H1 e Q q =>
  ha H1 e _ fun H2 e2 => ⟨.ref p, xs.length, rfl, h.elim (fun z => .inl ⟨xs, ex_l (e.trans e2) z, rfl⟩) fun z => .inr ⟨xs, ex_t (e.trans e2) z, rfl⟩, q H2 e2⟩
theorem ev_lenT {p : Addr} (ha : Ev te σ H (.ref p)) (h : SqT K H p xs) : Ev (tCB (rLenS K) (tCons te tNil)) σ H (.int (xs.length : Int)) := fun H1 e Q q =>
  ha H1 e _ fun H2 e2 => ⟨p, xs, rfl, Or.inr (ex_t (e.trans e2) h), q H2 e2⟩
/-! ### a loop that fills a list -/
theorem paired_take {α β : Type} {G : α → β → Prop} : ∀ {l₁ : List α} {l₂ : List β}, Paired G l₁ l₂ → ∀ {i : Nat} {b : β}, l₂[i]? = some b → ∃ a, l₁[i]? = some a ∧ l₁.take (i + 1) = l₁.take i ++ [a] ∧ G a b
  | _, _, .nil, i, b, e => by simp at e
  | x :: l₁, y :: l₂, .cons r t, 0, b, e => by
    cases e
    exact ⟨x, rfl, rfl, r⟩
  | x :: l₁, y :: l₂, .cons r t, i + 1, b, e => by
    obtain ⟨a, h1, h2, h3⟩ := paired_take t (i := i) (by simpa using e)
    exact ⟨a, by simpa using h1, by rw [List.take_succ_cons, h2, List.take_succ_cons]; rfl, h3⟩
theorem paired_app {α β : Type} {G : α → β → Prop} : ∀ {l₁ : List α} {l₂ : List β} {a : α} {b : β}, Paired G l₁ l₂ → G a b → Paired G (l₁ ++ [a]) (l₂ ++ [b])
  | _, _, _, _, .nil, r => .cons r .nil
  | _, _, _, _, .cons q t, r => .cons q (paired_app t r)
theorem q_coll {F : Type} {In At : Hp → F → V → Prop} (mo : ∀ {H H' f v}, Ex H H' → At H f v → At H' f v) {H0 : Hp} {p : Addr} {fcs : List F} {j k : Nat} (S : L2.St → Prop) (e0 : Ex H0 H) (hp : H p = none) (hx : SqB K l H0 a xs) (pr : Paired (In H0) fcs xs) (hn : fcs.length ≤ 1000)
    (hs : S σ) (ht : EvA ta σ H [.ref a])
    (hbm : ∀ (D : Ends) f x (i : Nat) σ' Hk Hc us, S σ' → f ∈ fcs → In H0 f x → Fm H0 H Hk Hc → Hk p = none → Hc p = some (.lst us) → us.length ≤ 1000 →
      (∀ r Hk' Hc' σ2, Fm H0 H Hk' Hc' → Hk' p = none → Hc' p = some (.lst (us ++ [r])) → Ex Hk Hk' → At Hk' f r → S σ2 → D.nx σ2 Hc') → tb D ((σ'.set j (some (.int (i : Nat)))).set k (some x)) Hc)
    (hd : ∀ us Hk Hc σ', Fm H0 H Hk Hc → Hk p = none → Hc p = some (.lst us) → Paired (At Hk) fcs us → S σ' → tz D σ' Hc) :
    tSeq (tFor (iEnSq K ta) (gTup K 2 (gCons (gName j) (gCons (gName k) gNil))) tb) tz D σ (upd H p (.lst [])) := by
  have e1 : Ex H (upd H p (.lst [])) := Ex.new hp
  refine q_forEn (l := l) (a := a) (xs := xs) (fun H1 e => ht H1 (e1.trans e)) (sqB_ex (e0.trans e1) hx) (fun i σ' Hc => S σ' ∧ ∃ Hk us, Fm H0 H Hk Hc ∧ Hk p = none ∧ Hc p = some (.lst us) ∧ Paired (At Hk) (fcs.take i) us) (fun H1 e2 => ⟨hs, H0, [], Fm.gr e0 (e1.trans e2), fresh_back e0 hp, e2 _ _ upd_same, .nil⟩)
    (fun i σ' Hc ⟨_, Hk, us, f, _⟩ => sqB_ex (f.ex.trans f.sub) hx) ?_ ?_
  · rintro i x σ' Hc T hi ⟨hs', Hk, us, f, h1, h2, h3⟩ hT
    obtain ⟨fc, q1, q2, q3⟩ := paired_take pr hi
    have eT : Ex Hc (upd Hc T (.tup [.int (i : Nat), x])) := Ex.new hT
    have hl := Paired.length h3
    rw [List.length_take] at hl
    refine hbm _ fc x i σ' Hk _ us hs' (List.mem_of_getElem? q1) q3 (f.trans (Fm.gr f.sub eT)) h1 (eT _ _ h2) (by omega) fun r Hk' Hc' σ2 f' g1 g2 ek ha hs2 => ⟨hs2, Hk', us ++ [r], f', g1, g2, ?_⟩
    rw [q2]
    exact paired_app (Paired.mapP h3 fun _ _ z => mo ek z) ha
  · rintro σ' Hc ⟨hs', Hk, us, f, h1, h2, h3⟩
    rw [← Paired.length pr, List.take_length] at h3
    exact hd us Hk Hc σ' f h1 h2 h3 hs'
/-- .. behind which the list is told as a tuple -/
theorem s_retTup {i : Nat} {p : Addr} {us : List V} {H0 H1 Hk Hc : Hp} (hσ : σ[i]? = some (some (.ref p))) (hp : Hc p = some (.lst us)) (f : Fm H0 H1 Hk Hc) (q : ∀ r Hc', Fm H0 H1 (upd Hk r (.tup us)) Hc' → Ex Hk (upd Hk r (.tup us)) → D.rt (.ref r) Hc') : tRet (tCB (rTupOf K) (tCons (tVar i) tNil)) D σ Hc :=
  ⟨_, hσ, p, us, rfl, .inl ⟨sq_of hp, fun r hr => q r _ (f.trans (Fm.newO f.sub hr)) (Ex.new (fresh_back f.sub hr))⟩⟩
end
end GV
/-! general: an object that is being made, its fields put one by one -/
namespace GV
open PySem PySem.Spec PyProof.Rows L2 Evl
def del (x : Addr) (H : Hp) : Hp := fun a => if a = x then none else H a
theorem del_ne {x a : Addr} {H : Hp} (h : a ≠ x) : del x H a = H a := if_neg h
theorem del_same {x : Addr} {H : Hp} : del x H x = none := if_pos rfl
theorem del_ex {x : Addr} {H H' : Hp} (e : Ex H H') (h : H x = none) : Ex H (del x H') := fun a o ha => by
  rw [del_ne (ne_of_none ha h)]
  exact e a o ha
section
variable {H0 H1 Hk Hc Hk' Hc' : Hp} {x : Addr} {o : HO}
/-- a step with x known, x forgotten behind it -/
theorem Fm.del (f : Fm H0 H1 Hk Hc) (h0 : Hk x = none) (hx : Hc x = some o) (g : Fm (upd Hk x o) Hc Hk' Hc') : Fm H0 H1 (del x Hk') Hc' ∧ Ex Hk (GV.del x Hk') ∧ Hk' x = some o ∧ Hc' x = some o := by
  have e : Ex Hk Hk' := (Ex.new h0).trans g.ex
  refine ⟨⟨f.ex.trans (del_ex e h0), fun a u h => ?_, f.cur.trans g.cur, fun a h n => ?_⟩, del_ex e h0, g.ex _ _ upd_same, g.cur _ _ hx⟩
  · by_cases q : a = x
    · rw [q, del_same] at h
      cases h
    · rw [del_ne q] at h
      exact g.sub a u h
  · by_cases q : a = x
    · rw [q, del_same] at n
      exact absurd rfl n
    · rw [del_ne q] at n
      cases hk : Hk a with
      | some u => exact f.new a h (by rw [hk]; exact fun z => nomatch z)
      | none => exact fresh_back f.cur (g.new a (by rw [upd_ne q]; exact hk) n)
end
section
variable {K : PySem.W.Frag} {σ : L2.St} {H : Hp} {D : Ends} {tz : TS} {te : TE} {ta : TA} {R : Pr}
theorem gv_dnewK : Gv tDNewK σ H (fun v H' => ∃ p, v = .ref p ∧ H p = none ∧ H' p = some (.dK [])) := fun H1 e Q q p hp => q (.ref p) _ _ (Fm.newO e hp) ⟨p, rfl, fresh_back e hp, upd_same⟩
theorem ea_star {v : V} {xs ys : List V} (h : Ev te σ H v) (hs : ∀ H1, Ex H H1 → SV.Src K v H1 xs) (hr : EvA ta σ H ys) : EvA (SV.tStarA K te ta) σ H (xs ++ ys) := fun H1 e Q q =>
  h H1 e _ fun H2 e2 => ⟨xs, hs H2 (e.trans e2), hr H2 (e.trans e2) _ fun H3 e3 => q H3 (e2.trans e3)⟩
theorem g_asgG {Hk Hc : Hp} {g : TG} (e : Ex Hk Hc) (h : Gv te σ Hk R) (k : ∀ v H' H1', Fm Hk Hc H' H1' → R v H' → g v σ H1' fun σ2 H2 => tz D σ2 H2) : tSeq (tAsg te g) tz D σ Hc := h Hc e _ k
theorem g_drop {Hk Hc : Hp} {v : V} (e : Ex Hk Hc) (h : Ev te σ Hk v) (k : ∀ H1', Fm Hk Hc Hk H1' → tz D σ H1') : tSeq (tDrop te) tz D σ Hc := h Hc e _ fun H1' e1 => k H1' (Fm.gr e e1)
def rDictOf : List V → Hp → VK → Prop := fun xs H Q => ∃ (a : Addr) (kvs : List (Key × V)), xs = [.ref a] ∧ Rd H a (.dK kvs) ∧ ∀ p, H p = none → Q (.ref p) (upd H p (.dK kvs))
theorem gv_dictOf {d : Addr} {kvs : List (Key × V)} (h : Ev te σ H (.ref d)) (hd : H d = some (.dK kvs)) : Gv (tCB rDictOf (tCons te tNil)) σ H (fun v H' => ∃ p, v = .ref p ∧ H p = none ∧ H' p = some (.dK kvs)) := fun H1 e Q q =>
  h H1 e _ fun H2 e2 => ⟨d, kvs, rfl, .inl ((e.trans e2) _ _ hd), fun p hp => q (.ref p) _ _ ((Fm.gr e e2).trans (Fm.newO (e.trans e2) hp)) ⟨p, rfl, fresh_back (e.trans e2) hp, upd_same⟩⟩
/-- two lists put together: a new one -/
theorem el_cat {tb : TE} {xs ys : List V} (ha : EvL te σ H xs) (hb : ∀ H', Ex H H' → EvL tb σ H' ys) (hz : xs.length + ys.length ≤ 100000) : EvL (tOp rCat te tb) σ H (xs ++ ys) := fun H1 e Q q =>
  ha H1 e _ fun p H2 hp e2 h2 => hb H2 (e.trans e2) H2 (Ex.refl _) _ fun p' H3 hp' e3 h3 => ⟨p, p', xs, ys, rfl, rfl, e3 _ _ h2, h3, sz_of hz, fun r hr => q r _ (fresh_back (e2.trans e3) hr) ((e2.trans e3).trans (Ex.new hr)) upd_same⟩
theorem el_catV {tb : TE} {a b : Addr} {xs ys : List V} (ha : Ev te σ H (.ref a)) (hb : Ev tb σ H (.ref b)) (h1 : H a = some (.lst xs)) (h2 : H b = some (.lst ys)) (hz : xs.length + ys.length ≤ 100000) : EvL (tOp rCat te tb) σ H (xs ++ ys) := fun H1 e Q q =>
  ha H1 e _ fun H2 e2 => hb H2 (e.trans e2) _ fun H3 e3 => ⟨a, b, xs, ys, rfl, rfl, ((e.trans e2).trans e3) _ _ h1, ((e.trans e2).trans e3) _ _ h2, sz_of hz, fun r hr => q r _ (fresh_back (e2.trans e3) hr) ((e2.trans e3).trans (Ex.new hr)) upd_same⟩
/-- a place of a new list -/
theorem ev_ixG {K : PySem.W.Frag} {R' : List V → Hp → Prop} {i : Int} {v : V} (h : Gv te σ H (NewL H R')) (k : ∀ us H', R' us H' → atI us i = some v) : Ev (tOp (rIxL K) te (tC (.int i))) σ H v := fun H1 e Q q =>
  h H1 e _ fun v' H' H1' f ⟨p, us, ev, _, hp, r⟩ => ⟨p, us, i, v, ev, rfl, sq_of (f.sub _ _ hp), k us H' r, q H1' f.cur⟩
/-- a comprehension's list, its items fixed -/
theorem el_gv {xs : List V} {R' : List V → Hp → Prop} (h : Gv te σ H (NewL H R')) (k : ∀ us H', R' us H' → us = xs) : EvL te σ H xs := fun H1 e Q q =>
  h H1 e _ fun v H' H1' f ⟨p, us, ev, h0, hp, r⟩ => by
    have hf : H1 p = none := f.new p h0 (by rw [hp]; exact fun z => nomatch z)
    rw [ev]
    rw [k us H' r] at hp
    exact q p H1' hf f.cur (f.sub _ _ hp)
theorem gv_callW {P : List V → Hp → Pr → Prop} {dvs : List V} {E : XK} {A : List V → Hp → Prop} (h : GvA ta σ H A) (k : ∀ vs H', Ex H H' → A vs H' → ∃ R', P (vs ++ dvs) H' R' ∧ ∀ v H2, Ex H' H2 → R' v H2 → R v H2) : Gv (tCall (spG P) dvs E ta) σ H R := fun H1 e Q q =>
  h H1 e _ fun vs H' H1' f r => by
    obtain ⟨R', h1, h2⟩ := k vs H' f.ex r
    exact ⟨H', R', f.sub, h1, fun v H3 H3' g r2 => q v H3 H3' (f.trans g) (h2 v H3 g.ex r2)⟩
theorem gv_tupV {a : Addr} {us : List V} (h : Ev te σ H (.ref a)) (hl : SqL K H a us) : Gv (tCB (rTupOf K) (tCons te tNil)) σ H (fun v H' => ∃ p, v = .ref p ∧ H p = none ∧ H' p = some (.tup us)) := fun H1 e Q q =>
  h H1 e _ fun H2 e2 => ⟨a, us, rfl, .inl ⟨ex_l (e.trans e2) hl, fun p hp => q (.ref p) _ _ ((Fm.gr e e2).trans (Fm.newO (e.trans e2) hp)) ⟨p, rfl, fresh_back (e.trans e2) hp, upd_same⟩⟩⟩
/-- a new list as a value of the judgement -/
theorem gv_el {xs : List V} (h : EvL te σ H xs) : Gv te σ H (fun v H' => ∃ p, v = .ref p ∧ H p = none ∧ H' p = some (.lst xs)) := fun H1 e Q q =>
  h H1 e _ fun p H2 hp e2 h2 => q (.ref p) (upd H p (.lst xs)) H2 ((Fm.gr e e2).know hp h2 (fresh_back e hp)) ⟨p, rfl, fresh_back e hp, upd_same⟩
theorem gv_listOf {d : Addr} {us : List V} (h : Ev te σ H (.ref d)) (hd : SqL K H d us ∨ SqT K H d us) : Gv (tCB (rListOf K) (tCons te tNil)) σ H (fun v H' => ∃ p, v = .ref p ∧ H p = none ∧ H' p = some (.lst us)) := fun H1 e Q q =>
  h H1 e _ fun H2 e2 => ⟨d, us, rfl, hd.elim (fun z => .inl (ex_l (e.trans e2) z)) (fun z => .inr (ex_t (e.trans e2) z)), fun p hp => q (.ref p) _ _ ((Fm.gr e e2).trans (Fm.newO (e.trans e2) hp)) ⟨p, rfl, fresh_back (e.trans e2) hp, upd_same⟩⟩
/-- x.f = e, x not among the known things -/
theorem g_fld {H0 H1 Hk Hc : Hp} {x C dx : Addr} {fs : List (Str × V)} {f : Str} {i : Nat} (fm : Fm H0 H1 Hk Hc) (h : Gv te σ Hk R) (hσ : σ[i]? = some (some (.ref x))) (hx : Hc x = some (.ins C dx fs)) (h1 : H1 x = none) (h0 : Hk x = none) (c : Cls K C) (n : NoAttr K C f) (hl : fs.length < 1000)
    (k : ∀ v Hk' Hc', Fm H0 H1 Hk' (upd Hc' x (.ins C dx (putF f v fs))) → Ex Hk Hk' → Hk' x = none → R v Hk' → tz D σ (upd Hc' x (.ins C dx (putF f v fs)))) : tSeq (sFld K (tVar i) te f) tz D σ Hc := h Hc fm.sub _ fun v Hk' Hc' g r => by
  have hx' := g.cur _ _ hx
  have h0' := g.out hx h0
  exact ⟨_, hσ, x, C, dx, fs, rfl, hx', c, n, hl, k v Hk' Hc' ((fm.trans g).put h1 h0') g.ex h0' r⟩
theorem q_fldL {x C dx : Addr} {fs : List (Str × V)} {f : Str} {i : Nat} {xs : List V} (h : EvL te σ H xs) (hσ : σ[i]? = some (some (.ref x))) (hx : H x = some (.ins C dx fs)) (c : Cls K C) (n : NoAttr K C f) (hl : fs.length < 1000)
    (k : ∀ l H1, H l = none → Ex H H1 → H1 l = some (.lst xs) → tz D σ (upd H1 x (.ins C dx (putF f (.ref l) fs)))) : tSeq (sFld K (tVar i) te f) tz D σ H := h H (Ex.refl H) _ fun l H1 hl' e h1 => ⟨_, hσ, x, C, dx, fs, rfl, e _ _ hx, c, n, hl, k l H1 hl' e h1⟩
/-- the same where e needs x -/
theorem g_fldX {H0 H1 Hk Hc : Hp} {x C dx : Addr} {fs : List (Str × V)} {f : Str} {i : Nat} (fm : Fm H0 H1 Hk Hc) (hx : Hc x = some (.ins C dx fs)) (h1 : H1 x = none) (h0 : Hk x = none) (h : Gv te σ (upd Hk x (.ins C dx fs)) R) (hσ : σ[i]? = some (some (.ref x))) (c : Cls K C) (n : NoAttr K C f) (hl : fs.length < 1000)
    (k : ∀ v Hk' Hc', Fm H0 H1 (del x Hk') (upd Hc' x (.ins C dx (putF f v fs))) → Ex Hk (del x Hk') → Hk' x = some (.ins C dx fs) → R v Hk' → tz D σ (upd Hc' x (.ins C dx (putF f v fs)))) : tSeq (sFld K (tVar i) te f) tz D σ Hc := by
  have eS : Ex (upd Hk x (.ins C dx fs)) Hc := fun a u ha => by
    by_cases q : a = x
    · rw [q, upd_same] at ha
      rw [q, hx]
      exact ha
    · rw [upd_ne q] at ha
      exact fm.sub a u ha
  refine h Hc eS _ fun v Hk' Hc' g r => ?_
  obtain ⟨g1, g2, g3, g4⟩ := fm.del h0 hx g
  exact ⟨_, hσ, x, C, dx, fs, rfl, g4, c, n, hl, k v Hk' Hc' (g1.put h1 del_same) g2 g3 r⟩
end
end GV
namespace K3
open PySem PySem.Spec PyProof.Rows L2 Evl GV LD
section
variable {K : PySem.W.Frag} {mg : Str → Option Value} {P : Program} {w : World} {base : Heap}
/-! ### Known(..) of constants alone -/
abbrev cK (K : PySem.W.Frag) : Addr := He.ga K "Known"
def zer (n : Nat) : List V := List.replicate n (.int 0)
/-- what a new one holds -/
structure KnAt (K : PySem.W.Frag) (H : Hp) (x : Addr) (n : Nat) (l m : Addr) : Prop where
  obj : ∃ dx fl, H x = some (.ins (cK K) dx fl) ∧ fld fl "leads" = some (.ref l) ∧ fld fl "marks" = some (.ref m) ∧ fld fl "is_possible" = some (.bl true) ∧ fld fl "mark" = none
  leads : H l = some (.lst (rgV 0 n))
  marks : ∃ ms : List Int, H m = some (.lst (ms.map V.int)) ∧ ms.length = n
  ne : l ≠ m
def spKInit (K : PySem.W.Frag) : Sp := fun vs H Q _ => ∃ (x dx : Addr) (H1 : Hp) (v : V) (n : Nat), vs = [.ref x, v, .int n] ∧ H = upd (upd H1 dx (.own x)) x (.ins (cK K) dx []) ∧ H1 x = none ∧ H1 dx = none ∧ dx ≠ x ∧ n ≤ 1000 ∧
  ∀ H2 l m, Ex H1 H2 → H1 l = none → H1 m = none → KnAt K H2 x n l m → Q .non H2
theorem gv_rg {σ : L2.St} {H : Hp} {i : Nat} {n : Nat} (h : σ[i]? = some (some (.int n))) (hn : n ≤ 1000) : Gv (tLstRg (tRg1 (tVar i))) σ H (fun v H' => ∃ p, v = .ref p ∧ H p = none ∧ H' p = some (.lst (rgV 0 n))) := fun H1 e Q q =>
  ⟨_, h, n, rfl, RgOk.of_le (by decide) (by omega) (by decide) (by omega), fun p hp => q (.ref p) _ _ (Fm.newO e hp) ⟨p, rfl, fresh_back e hp, upd_same⟩⟩
theorem zer_eq (n : Nat) : (List.replicate n [V.int 0]).flatten = zer n := by
  unfold zer
  induction n with
  | zero => rfl
  | succ n ih => rw [List.replicate_succ, List.flatten_cons, ih, List.replicate_succ]; rfl
theorem gv_zer {σ : L2.St} {H : Hp} {i : Nat} {n : Nat} (h : σ[i]? = some (some (.int n))) (hn : n ≤ 1000) : Gv (tOp rRep (tLst (tCons (tC (.int 0)) tNil)) (tVar i)) σ H (fun v H' => ∃ p, v = .ref p ∧ H p = none ∧ H' p = some (.lst (zer n))) := fun H1 e Q q => by
  refine ⟨(show 1 ≤ sizeLine by decide), fun a ha => ⟨_, h, a, n, _, rfl, rfl, upd_same, by omega, by omega, ?_, fun p hp => ?_⟩⟩
  · show 1 * n ≤ sizeLine
    exact sz_of (by omega)
  · have e2 : (List.replicate ((n : Int)).toNat [V.int 0]).flatten = zer n := by
      rw [Int.toNat_natCast]
      exact zer_eq n
    rw [e2]
    have g := (Fm.gr e (Ex.new ha) (H1' := upd H1 a (.lst [V.int 0])))
    exact q (.ref p) _ _ (g.trans (Fm.newO g.sub hp)) ⟨p, rfl, fresh_back g.sub hp, upd_same⟩
theorem gv_dnew {σ : L2.St} {H : Hp} : Gv tDNewK σ H (fun _ _ => True) := gv_w gv_dnewK fun _ _ _ _ => trivial
theorem gv_nil {σ : L2.St} {H : Hp} : Gv (tLst tNil) σ H (fun _ _ => True) := gv_w (gv_lst (R := fun vs _ => vs = []) ga_nil (fun _ _ _ _ h => h) (fun vs _ h => by rw [show vs = [] from h]; exact Nat.zero_le _)) fun _ _ _ _ => trivial
theorem sc_kinit : FnScope ["self", "told_rules", "total"] ["self", "told_rules", "total"] (defScope (inClass (top 12) 0)) := ⟨rfl, rfl, rfl, by decide +kernel, rfl, by decide +kernel, by decide +kernel⟩
theorem ok_kinit (T : Tx K mg) : ∃ fd, FnOk P w K mg base CX0 1 (He.ma K (cK K) "__init__") fd ["self", "told_rules", "total"] (spKInit K) ∧ FunD K d_Known_init.name d_Known_init.qual d_Known_init.params d_Known_init.body d_Known_init.scope (He.DefD.dvs K d_Known_init) (He.DefD.kws K d_Known_init) (He.ma K (cK K) "__init__") fd := by
  obtain ⟨fd, F⟩ := T.d.def_ 18 (d := d_Known_init) rfl
  refine ⟨fd, F.ok sc_kinit (fun vs H Q E h => ?_) (fun cdv A outer s H vs Q E hr h => ?_), F⟩
  · obtain ⟨_, _, _, _, _, rfl, _⟩ := h
    rfl
  · refine ⟨_, PSs.nox (pss_cons (ps_fld (pv 0) (pv 1) rfl)
      (pss_cons (ps_fld (pv 0) (pe_listRg rfl rfl (T.fr 38 rfl) (prg_1 rfl (T.fr 42 rfl) (pv 2))) rfl)
      (pss_cons (ps_fld (pv 0) (pe_op op_rep (pe_lst (pa_cons pe_int pa_nil)) (pv 2)) rfl)
      (pss_cons (ps_fld (pv 0) (pe_op op_rep (pe_lst (pa_cons pe_int pa_nil)) (pv 2)) rfl)
      (pss_cons (ps_fld (pv 0) (pe_op op_rep (pe_lst (pa_cons pe_int pa_nil)) (pv 2)) rfl)
      (pss_cons (ps_fld (pv 0) (pe_op op_rep (pe_lst (pa_cons pe_int pa_nil)) (pv 2)) rfl)
      (pss_cons (ps_fld (pv 0) pe_dnewK rfl)
      (pss_cons (ps_fld (pv 0) pe_dnewK rfl)
      (pss_cons (ps_fld (pv 0) (pe_lst pa_nil) rfl)
      (pss_cons (ps_fld (pv 0) (pe_lst pa_nil) rfl)
      (pss_cons (ps_fld (pv 0) pe_bl rfl)
      (pss_cons (ps_fld (pv 0) pe_bl rfl)
      (pss_one (ps_fld (pv 0) pe_bl rfl)))))))))))))), ?_⟩
    obtain ⟨x, dx, H1, v, n, rfl, rfl, hx1, hdx1, hdx, hn, q⟩ := h
    have eM : Ex H1 (upd (upd H1 dx (.own x)) x (.ins (cK K) dx [])) := (Ex.new hdx1).mut hx1
    have fm0 : Fm H1 H1 H1 (upd (upd H1 dx (.own x)) x (.ins (cK K) dx [])) := Fm.gr (Ex.refl _) eM
    refine g_fld (x := x) fm0 (gv_ev (ev_var rfl)) rfl upd_same hx1 hx1 (T.cls 47 rfl) (T.na 86 rfl) (by show 0 < 1000; decide) ?_
    rintro _ Ha Hac fa ea ha rfl
    refine g_fld (x := x) fa (gv_rg (i := 2) rfl hn) rfl upd_same hx1 ha (T.cls 47 rfl) (T.na 80 rfl) (by show 1 < 1000; decide) ?_
    rintro _ Hb Hbc fb eb hb ⟨l, rfl, hl0, hl⟩
    refine g_fld (x := x) fb (gv_zer (i := 2) rfl hn) rfl upd_same hx1 hb (T.cls 47 rfl) (T.na 81 rfl) (by show 2 < 1000; decide) ?_
    rintro _ Hc Hcc fc ec hc ⟨m, rfl, hm0, hm⟩
    refine g_fld (x := x) fc (gv_zer (i := 2) rfl hn) rfl upd_same hx1 hc (T.cls 47 rfl) (T.na 87 rfl) (by show 3 < 1000; decide) ?_
    rintro v1 Hd Hdc fd1 ed hd r1
    refine g_fld (x := x) fd1 (gv_zer (i := 2) rfl hn) rfl upd_same hx1 hd (T.cls 47 rfl) (T.na 88 rfl) (by show 4 < 1000; decide) ?_
    rintro v2 He Hec fe ee he r2
    refine g_fld (x := x) fe (gv_zer (i := 2) rfl hn) rfl upd_same hx1 he (T.cls 47 rfl) (T.na 82 rfl) (by show 5 < 1000; decide) ?_
    rintro v3 Hf Hfc ff ef hf r3
    refine g_fld (x := x) ff gv_dnew rfl upd_same hx1 hf (T.cls 47 rfl) (T.na 76 rfl) (by show 6 < 1000; decide) ?_
    rintro v4 Hg Hgc fg eg hg r4
    refine g_fld (x := x) fg gv_dnew rfl upd_same hx1 hg (T.cls 47 rfl) (T.na 83 rfl) (by show 7 < 1000; decide) ?_
    rintro v5 Hh Hhc fh eh hh r5
    refine g_fld (x := x) fh gv_nil rfl upd_same hx1 hh (T.cls 47 rfl) (T.na 84 rfl) (by show 8 < 1000; decide) ?_
    rintro v6 Hi Hic fi ei hi r6
    refine g_fld (x := x) fi gv_nil rfl upd_same hx1 hi (T.cls 47 rfl) (T.na 85 rfl) (by show 9 < 1000; decide) ?_
    rintro v7 Hj Hjc fj ej hj r7
    refine g_fld (x := x) fj (gv_ev ev_c) rfl upd_same hx1 hj (T.cls 47 rfl) (T.na 78 rfl) (by show 10 < 1000; decide) ?_
    rintro v8 Hk Hkc fk ek hk r8
    refine g_fld (x := x) fk (gv_ev ev_c) rfl upd_same hx1 hk (T.cls 47 rfl) (T.na 79 rfl) (by show 11 < 1000; decide) ?_
    rintro v9 Hl Hlc fl el hl9 rfl
    refine ⟨_, rfl, x, _, _, _, rfl, upd_same, (T.cls 47 rfl), (T.na 77 rfl), by show 12 < 1000; decide, ?_⟩
    have eBL := (((((((((ec.trans ed).trans ee).trans ef).trans eg).trans eh).trans ei).trans ej).trans ek).trans el)
    have hlx : l ≠ x := ne_of_none hl hb
    have hmx : m ≠ x := ne_of_none hm hc
    have hlm : l ≠ m := ne_of_none hl hm0
    have up : ∀ {b : Addr} {o : HO}, Hl b = some o → b ≠ x → ∀ {o2 o3 : HO}, upd (upd Hlc x o2) x o3 b = some o := fun h hne => by
      intro o2 o3
      rw [upd_ne hne, upd_ne hne]
      have z := fl.sub _ _ h
      rw [upd_ne hne] at z
      exact z
    refine q _ l m (fun b o hb => up (fl.ex _ _ hb) (ne_of_none hb hx1)) (fresh_back fa.ex hl0) (fresh_back fb.ex hm0) ⟨⟨dx, _, upd_same, rfl, rfl, rfl, rfl⟩, up (eBL _ _ hl) hlx, ⟨List.replicate n 0, ?_, List.length_replicate ..⟩, hlm⟩
    have e9 : (List.replicate n (0 : Int)).map V.int = zer n := by
      unfold zer
      rw [List.map_replicate]
    rw [e9]
    exact up (((((((((ed.trans ee).trans ef).trans eg).trans eh).trans ei).trans ej).trans ek).trans el) _ _ hm) hmx
end
end K3
namespace K3
open PySem PySem.Spec PyProof.Rows L2 Evl GV LD
section
variable {K : PySem.W.Frag} {mg : Str → Option Value} {P : Program} {w : World} {base : Heap}
/-! ### mark -/
theorem KnAt.ex {H H' : Hp} {x l m : Addr} {n : Nat} (e : Ex H H') (h : KnAt K H x n l m) : KnAt K H' x n l m := by
  obtain ⟨⟨dx, fl, h1, h2⟩, h3, ⟨ms, h4, h5⟩, h6⟩ := h
  exact ⟨⟨dx, fl, e _ _ h1, h2⟩, e _ _ h3, ⟨ms, e _ _ h4, h5⟩, h6⟩
theorem rg_at {n i : Nat} {x : V} (h : (rgV 0 n)[i]? = some x) : i < n ∧ x = .int i := by
  unfold rgV at h
  rw [List.getElem?_map] at h
  have hl : ((n : Int) - 0).toNat = n := by omega
  rw [hl] at h
  cases q : (List.range n)[i]? with
  | none => rw [q] at h; cases h
  | some j =>
    rw [q] at h
    obtain ⟨h1, h2⟩ := List.getElem?_eq_some_iff.mp q
    rw [List.getElem_range] at h2
    rw [List.length_range] at h1
    cases h
    refine ⟨h1, ?_⟩
    rw [← h2]
    show V.int (0 + (i : Int)) = .int i
    rw [Int.zero_add]
theorem at_rg {n i : Nat} (h : i < n) : (rgV 0 n)[i]? = some (.int i) := by
  unfold rgV
  have hl : ((n : Int) - 0).toNat = n := by omega
  rw [hl, List.getElem?_map, List.getElem?_range h]
  show some (V.int (0 + (i : Int))) = _
  rw [Int.zero_add]
def spMark (K : PySem.W.Frag) : Sp := fun vs H Q _ => ∃ (x l0 l m : Addr) (n : Nat), vs = [.ref x, .ref l0, .int 2] ∧ KnAt K H x n l m ∧ H l0 = some (.lst (rgV 0 n)) ∧ l0 ≠ m ∧
  ∀ H2, (∀ b o, b ≠ m → H b = some o → H2 b = some o) → KnAt K H2 x n l m → Q .non H2
theorem sc_mark : FnScope ["self", "values", "level", "value", "lead"] ["self", "values", "level"] (defScope (inClass (top 12) 7)) := ⟨rfl, rfl, rfl, by decide +kernel, rfl, by decide +kernel, by decide +kernel⟩
theorem ok_mark (T : Tx K mg) : ∃ fd, FnOk P w K mg base CX0 1 (He.ma K (cK K) "mark") fd ["self", "values", "level"] (spMark K) ∧ Binds K fd ["self", "values", "level"] [] := by
  obtain ⟨fd, F⟩ := T.d.def_ 25 (d := d_Known_mark) rfl
  refine ⟨fd, F.ok sc_mark (fun vs H Q E h => ?_) (fun cdv A outer s H vs Q E hr h => ?_), FunD.bindsN F fun _ _ _ _ _ _ us hl => match us, hl with | [_, _, _], _ => rfl⟩
  · obtain ⟨_, _, _, _, _, rfl, _⟩ := h
    rfl
  · refine ⟨_, PSs.nox (pss_one (ps_for PassesOwn.never rfl (pi_list (pv 1)) (pg_name (i := 3) sc_mark.nd rfl (Or.inl rfl)) (pss_cons (ps_set (i := 4) sc_mark.nd rfl (Or.inl rfl) (pe_ix ix_list (pe_fld (pv 0) rfl) (pv 3) fun _ _ => rfl))
      (pss_one (ps_asg (pe_callB (call_max2 rfl) (by rfl) (T.fr 46 rfl) (by decide +kernel) (pa_cons (pe_ix ix_list (pe_fld (pv 0) rfl) (pv 4) fun _ _ => rfl) (pa_cons (pv 2) pa_nil))) (pg_sub (pe_fld (pv 0) rfl) (pv 4) set_list)))))), ?_⟩
    obtain ⟨x, l0, l, m, n, rfl, ⟨⟨dx, fl, hx, hfl, hfm, hfp, hfk⟩, hl, ⟨ms0, hm0, hms0⟩, hlm⟩, h0, h0m, q⟩ := h
    have hxm : x ≠ m := ne_of hx hm0 fun z => nomatch z
    refine s_forLn (a := l0) (xs := rgV 0 n) (ev_var rfl) (sq_of h0) (fun i σ Hc => (∀ b o, b ≠ m → H b = some o → Hc b = some o) ∧ (∃ y z, σ = [some (.ref x), some (.ref l0), some (.int 2), y, z]) ∧ ∃ ms : List Int, Hc m = some (.lst (ms.map V.int)) ∧ ms.length = n)
      (fun H1 e1 => ⟨fun b o _ h => e1 _ _ h, ⟨_, _, rfl⟩, ms0, e1 _ _ hm0, hms0⟩) (fun i σ Hc _ h => sq_of (h.1 _ _ h0m h0)) ?_ fun σ Hc ⟨ho, _, ms, hm, hms⟩ => q Hc ho ⟨⟨dx, fl, ho _ _ hxm hx, hfl, hfm, hfp, hfk⟩, ho _ _ hlm hl, ⟨ms, hm, hms⟩, hlm⟩
    rintro i v σ Hc hi ⟨ho, ⟨y, z, rfl⟩, ms, hm, hms⟩
    obtain ⟨hin, rfl⟩ := rg_at hi
    have hxc := ho _ _ hxm hx
    have fl1 : ∀ {H1 : Hp} {σ : L2.St}, Ex Hc H1 → σ[0]? = some (some (.ref x)) → Ev (tFld K (tVar 0) "leads") σ H1 (.ref l) := fun e h => ev_fld (ev_var h) (e _ _ hxc) (T.cls 47 rfl) (T.na 80 rfl) hfl
    have fm1 : ∀ {H1 : Hp} {σ : L2.St}, Ex Hc H1 → σ[0]? = some (some (.ref x)) → Ev (tFld K (tVar 0) "marks") σ H1 (.ref m) := fun e h => ev_fld (ev_var h) (e _ _ hxc) (T.cls 47 rfl) (T.na 81 rfl) hfm
    refine q_asg (v := .int i) (ev_op (fl1 (Ex.refl _) rfl) (ev_var rfl) (rv_ixL (sq_of (ho _ _ hlm hl)) (atI_nat (at_rg hin)))) fun H1 e1 => ?_
    have hj : i < (ms.map V.int).length := by rw [List.length_map]; omega
    have hjm : i < ms.length := by omega
    refine s_setL (l := m) (xs := ms.map V.int) (j := i) (e1 _ _ hm) (ev_max2 (i := ms[i]) (j := 2) (ev_op (fm1 e1 rfl) (ev_var rfl) (rv_ixL (sq_of (e1 _ _ hm)) (atI_nat ?_))) (ev_var rfl)) (fm1 e1 rfl) (ev_var rfl) hj fun H2 e2 => ⟨fun b o hb h => ?_, ⟨_, _, rfl⟩, ms.set i (if (2 : Int) > ms[i] then 2 else ms[i]), ?_, ?_⟩
    · rw [List.getElem?_map, List.getElem?_eq_getElem hjm]
      rfl
    · rw [upd_ne hb]
      exact e2 _ _ (e1 _ _ (ho _ _ hb h))
    · rw [upd_same, List.map_set]
    · rw [List.length_set]
      exact hms
/-! ### known_facts without facts -/
theorem dc_names {σ : L2.St} {H : Hp} {ta : TA} {c : Addr} {zs : List Str} {j k : Nat} (h : EvA ta σ H [.ref c]) (hc : SqT K H c (zs.map V.str)) (hz : zs.length ≤ 1000) (hj : ∀ (i : Nat) (z : Str), let τ := ((wipe σ [k, j]).set k (some (.int i))).set j (some (.str z)); τ[j]? = some (some (.str z)) ∧ τ[k]? = some (some (.int i)) ∧ wipe τ [k, j] = wipe σ [k, j]) :
    Gv (tDc (iEnSq K ta) (gTup K 2 (gCons (gName k) (gCons (gName j) gNil))) tYes (tVar j) (tVar k) [k, j]) σ H (fun v H' => ∃ p kvs, v = .ref p ∧ H p = none ∧ H' p = some (.dK kvs) ∧ kvs.length ≤ zs.length) := fun H1 e Q q => by
  refine h H1 e _ fun H2 e2 => ⟨c, zs.map V.str, false, rfl, ex_t (e.trans e2) hc, fun D hD => ?_⟩
  have hc2 : SqT K H2 c (zs.map V.str) := ex_t (e.trans e2) hc
  refine ⟨fun i m G => m = zs.length - i ∧ i ≤ zs.length ∧ Ex H2 G ∧ ∃ kvs, G D = some (.dK kvs) ∧ kvs.length ≤ i, ⟨zs.length, by simp, Nat.zero_le _, Ex.new hD, [], upd_same, Nat.le_refl _⟩, ?_⟩
  rintro i m G ⟨rfl, hi, eG, kvs, hk, hkl⟩
  have w := walk_eB (K := K) (l := false) (a := c) (xs := zs.map V.str)
  have lz : (zs.map V.str).length = zs.length := List.length_map _
  by_cases hlt : i < zs.length
  · refine .inr ⟨w.goes i G (by rw [lz]; exact hlt) (ex_t eG hc2), fun G' => Ex H2 G' ∧ ∃ kvs, G' D = some (.dK kvs) ∧ kvs.length ≤ i + 1, fun G' ⟨a, b⟩ => ⟨zs.length - (i + 1), by omega, rfl, hlt, a, b⟩, fun y G' hy => ?_⟩
    obtain ⟨T, a, b, rfl, hT, rfl, h1, h2⟩ := w.yields i G y G' (by rw [lz]; exact hlt) (ex_t eG hc2) hy
    cases h1
    replace h2 : (zs.map V.str)[i]? = some b := h2
    rw [List.getElem?_map] at h2
    obtain ⟨z, hz1, rfl⟩ := Option.map_eq_some_iff.mp h2
    obtain ⟨g1, g2, g3⟩ := hj i z
    refine ⟨T, _, rfl, SqT.of upd_same, rfl, _, _, rfl, _, _, rfl, rfl, g3, ?_⟩
    have hDT : D ≠ T := fun q => by rw [q, hT] at hk; cases hk
    dsimp only [tYes]
    rw [if_pos rfl]
    refine ⟨.str z, g1, .int i, g2, kvs, .inr z, rfl, (upd_ne hDT).trans hk, small1000 (by omega), fun x o hx => ?_, putK kvs (.inr z) (.int i), upd_same, ?_⟩
    · have e3 := (eG.trans (Ex.new (o := HO.tup [V.int (i : Nat), V.str z]) hT)) _ _ hx
      rw [upd_ne (ne_of_none hx hD)]
      exact e3
    · have := length_putK kvs (.inr z) (.int i)
      omega
  · have hi2 : i = zs.length := by omega
    subst hi2
    refine .inl ⟨?_, ?_⟩
    · have z := w.stops G (ex_t eG hc2)
      rw [lz] at z
      exact z
    · have f := Fm.gr e (e2.trans eG)
      have hD0 : H1 D = none := fresh_back e2 hD
      exact q (.ref D) (upd H D (.dK kvs)) G (f.know hD0 hk (fresh_back e hD0)) ⟨D, kvs, rfl, fresh_back e hD0, upd_same, hkl⟩
def spKf (K : PySem.W.Frag) : Sp := fun vs H Q _ => ∃ (c e1 e2 : Addr) (v1 v2 : V) (zs : List Str), vs = [.ref c, v1, v2, .ref e1, .ref e2] ∧ SqT K H c (zs.map V.str) ∧ zs.length ≤ 1000 ∧ SqT K H e1 [] ∧ SqT K H e2 [] ∧
  ∀ x n l m H2, Ex H H2 → KnAt K H2 x n l m → Q (.ref x) H2
theorem sc_kf : FnScope ["constants", "functions", "rules", "facts", "apart", "numbers", "known", "name", "given", "worth", "values", "one", "other", "number", "constant"] ["constants", "functions", "rules", "facts", "apart"] (defScope (top 16)) := ⟨rfl, rfl, rfl, by decide +kernel, rfl, by decide +kernel, by decide +kernel⟩
theorem ok_kf (T : Tx K mg) : ∃ fd, FnOk P w K mg base CX0 3 (He.ga K "known_facts") fd ["constants", "functions", "rules", "facts", "apart"] (spKf K) ∧ Binds K fd ["constants", "functions", "rules", "facts", "apart"] [] ∧ PySem.W.keepIn K (.ref (He.ga K "known_facts")) = true := by
  obtain ⟨fd, F⟩ := T.d.def_ 3 (d := d_known_facts) rfl
  obtain ⟨fd_Known, G_Known, FD_Known⟩ := ok_kinit (P := P) (w := w) (base := base) T
  obtain ⟨fd_mark, G_mark, b_mark⟩ := ok_mark (P := P) (w := w) (base := base) T
  have b_Known : Binds K fd_Known ["self", "told_rules", "total"] [] := by
    obtain ⟨ds, h1, h2⟩ := FunD.binds1 (ps := ["self", "told_rules", "total"]) FD_Known 3 1 (fun h => nomatch h) rfl fun T kV doc pm an cdv ct us its h1 h2 => match us, its, h1, h2 with
      | [a, b, c], [i1], _, _ => ⟨_, rfl, rfl⟩
    cases h1
    exact h2
  refine ⟨fd, F.ok sc_kf (fun vs H Q E h => ?_) (fun cdv A outer s H vs Q E hr h => ?_), FunD.bindsN F fun _ _ _ _ _ _ us hl => match us, hl with | [_, _, _, _, _], _ => rfl, F.kp⟩
  · obtain ⟨_, _, _, _, _, _, rfl, _⟩ := h
    rfl
  · refine ⟨_, PSs.nox (pss_cons (ps_set (i := 5) sc_kf.nd rfl (Or.inr rfl) (pe_dc (own := [("number", 13), ("name", 7)]) (g := gTup K 2 (gCons (gName 13) (gCons (gName 7) gNil))) (tk := tVar 7) (tv := tVar 13) rfl sc_kf.nd (GV.pi_enSq (by rfl) (T.fr 43 rfl) (pa_cons (pv 0) pa_nil)) (blkOk_by (own := [("number", 13), ("name", 7)]) (N := ["constants", "functions", "rules", "facts", "apart", "numbers", "known", "name", "given", "worth", "values", "one", "other", "number", "constant"]) (sc := defScope (top 16)) (by decide +kernel)) (fun _ _ _ _ _ => pg_tup rfl (pgs_cons (pg_name (i := 13) sc_kf.nd rfl (Or.inl rfl)) (pgs_cons (pg_name (i := 7) sc_kf.nd rfl (Or.inl rfl)) pgs_nil))) (fun _ _ _ _ _ => pts_nil) (fun _ _ _ _ _ => by exact (pv 7)) (fun _ _ _ _ _ => by exact (pv 13))))
      (pss_cons (ps_set (i := 6) sc_kf.nd rfl (Or.inl rfl) (pe_make (T.mkr 48 rfl) G_Known (hr.mono (by decide)) (by rfl) (T.gl 8 rfl) b_Known .nil pass0 (pa_cons (pv 2) (pa_cons (pe_callB call_lenD (by rfl) (T.fr 33 rfl) PySem.boot_len (pa_cons (pv 5) pa_nil)) pa_nil))))
      (pss_cons (ps_expr (pe_meth (pv 6) (T.cls 47 rfl) (T.me 56 rfl) G_mark (hr.mono (by decide)) b_mark .nil pass0 (pa_cons (pe_listRg rfl rfl (T.fr 38 rfl) (prg_1 rfl (T.fr 42 rfl) (pe_callB call_lenD (by rfl) (T.fr 33 rfl) PySem.boot_len (pa_cons (pv 5) pa_nil)))) (pa_cons pe_int pa_nil))))
      (pss_cons (ps_for PassesOwn.never rfl (pi_tup (pv 3)) (pg_tup rfl (pgs_cons (pg_name (i := 7) sc_kf.nd rfl (Or.inl rfl)) (pgs_cons (pg_name (i := 8) sc_kf.nd rfl (Or.inl rfl)) (pgs_cons (pg_name (i := 9) sc_kf.nd rfl (Or.inl rfl)) pgs_nil)))) (pss_cons ps_never
      (pss_one ps_never)))
      (pss_cons (ps_for PassesOwn.never rfl (pi_tup (pv 4)) (pg_tup rfl (pgs_cons (pg_name (i := 11) sc_kf.nd rfl (Or.inl rfl)) (pgs_cons (pg_name (i := 12) sc_kf.nd rfl (Or.inl rfl)) pgs_nil))) (pss_one ps_never))
      (pss_one (ps_ret (pv 6)))))))), ?_⟩
    obtain ⟨c, e1, e2', v1, v2, zs, rfl, hc, hz, he1, he2, q⟩ := h
    refine g_asg (Ex.refl H) (dc_names (zs := zs) (ea_cons (ev_var rfl) ea_nil) hc hz fun i z => ⟨rfl, rfl, rfl⟩) ?_
    rintro _ Ha Hac fa ⟨p, kvs, rfl, hp0, hp, hkl⟩
    have eA : Ex H Hac := fa.ex.trans fa.sub
    have hpc := fa.sub _ _ hp
    refine ⟨v2, rfl, .ref p, rfl, p, kvs, rfl, hpc, fun x dx hx hdx hne => ⟨x, dx, Hac, v2, kvs.length, rfl, rfl, hx, hdx, hne, Nat.le_trans hkl hz, fun H2 l m e2 hl0 hm0 kn => ⟨rfl, ?_⟩⟩⟩
    obtain ⟨⟨dx2, fl, hx2, _, _, _, hfk⟩, _⟩ := id kn
    refine ⟨.ref x, rfl, x, dx2, fl, rfl, hx2, hfk, .ref p, rfl, p, kvs, rfl, e2 _ _ hpc, kvs.length, rfl, RgOk.of_le (by decide) (by omega) (by decide) (by omega), fun l0 hl0' => ?_⟩
    have e3 : Ex H2 (upd H2 l0 (.lst (rgV 0 kvs.length))) := Ex.new hl0'
    have hl0m : l0 ≠ m := fun z => by
      obtain ⟨_, _, ⟨ms, h4, _⟩, _⟩ := id kn
      rw [z, h4] at hl0'
      cases hl0'
    refine ⟨x, l0, l, m, kvs.length, rfl, kn.ex e3, upd_same, hl0m, fun H3 keep kn3 => ?_⟩
    have eH : Ex H H3 := fun b o h => keep b o (ne_of_none h (fresh_back eA hm0)) (e3 _ _ (e2 _ _ (eA _ _ h)))
    refine s_forT (ev_var rfl) (ex_t eH he1) (fun i σ' H' => σ'[4]? = some (some (.ref e2')) ∧ σ'[6]? = some (some (.ref x)) ∧ Ex H H' ∧ KnAt K H' x kvs.length l m) (fun H4 e4 => ⟨rfl, rfl, eH.trans e4, kn3.ex e4⟩) (fun i σ' H' _ h => ex_t h.2.2.1 he1) (fun i y σ' H' h => nomatch h) ?_
    rintro σ' H' ⟨s4, s6, ex, kn4⟩
    refine s_forT (ev_var s4) (ex_t ex he2) (fun i σ' H' => σ'[6]? = some (some (.ref x)) ∧ Ex H H' ∧ KnAt K H' x kvs.length l m) (fun H4 e4 => ⟨s6, ex.trans e4, kn4.ex e4⟩) (fun i σ' H' _ h => ex_t h.2.1 he2) (fun i y σ' H' h => nomatch h) ?_
    rintro σ2 H2' ⟨s6', ex2, kn5⟩
    exact ⟨_, s6', q x kvs.length l m H2' ex2 kn5⟩
end
end K3
namespace K3
open PySem PySem.Spec PyProof.Rows L2 Evl GV LD
section
variable {K : PySem.W.Frag} {mg : Str → Option Value} {P : Program} {w : World} {base : Heap}
/-! ### without facts and unlike pairs -/
def spEmp (K : PySem.W.Frag) : Sp := fun vs H Q _ => ∃ (v : V) (e : Addr), vs = [v, .ref e] ∧ SqT K H e [] ∧ ∀ p H2, H p = none → Ex H H2 → H2 p = some (.tup []) → Q (.ref p) H2
theorem sc_read_facts : FnScope ["self", "facts", "found", "index", "thing", "fact"] ["self", "facts"] (defScope (inClass (top 26) 10)) := ⟨rfl, rfl, rfl, by decide +kernel, rfl, by decide +kernel, by decide +kernel⟩
theorem ok_read_facts (T : Tx K mg) : ∃ fd, FnOk P w K mg base CX0 1 (He.ma K (cN K) "_read_facts") fd ["self", "facts"] (spEmp K) ∧ Binds K fd ["self", "facts"] [] := by
  obtain ⟨fd, F⟩ := T.d.def_ 55 (d := d_Names__read_facts) rfl
  refine ⟨fd, F.ok sc_read_facts (fun vs H Q E h => ?_) (fun cdv A outer s H vs Q E hr h => ?_), FunD.bindsN F fun _ _ _ _ _ _ us hl => match us, hl with | [_, _], _ => rfl⟩
  · obtain ⟨_, _, rfl, _⟩ := h
    rfl
  · refine ⟨_, PSs.nox (pss_cons (ps_set (i := 2) sc_read_facts.nd rfl (Or.inl rfl) (pe_lst pa_nil))
      (pss_cons (ps_for PassesOwn.never rfl (GV.pi_enSq (by rfl) (T.fr 43 rfl) (pa_cons (pv 1) pa_nil)) (pg_tup rfl (pgs_cons (pg_name (i := 3) sc_read_facts.nd rfl (Or.inl rfl)) (pgs_cons (pg_name (i := 4) sc_read_facts.nd rfl (Or.inl rfl)) pgs_nil))) (pss_cons ps_never
      (pss_cons ps_never
      (pss_one ps_never))))
      (pss_one (ps_ret (pe_callTy call_tuple_of (by rfl) (T.fr 39 rfl) (by decide +kernel) (pa_cons (pv 2) pa_nil)))))), ?_⟩
    obtain ⟨v, e, rfl, he, q⟩ := h
    refine ⟨Nat.zero_le _, fun p hp => ?_⟩
    have e0 : Ex H (upd H p (.lst [])) := Ex.new hp
    refine q_forEn (l := false) (ea_cons (ev_var rfl) ea_nil) (ex_t e0 he) (fun i σ' H' => σ'[2]? = some (some (.ref p)) ∧ Ex (upd H p (.lst [])) H') (fun H1 e1 => ⟨rfl, e1⟩) (fun i σ' H' h => ex_t (e0.trans h.2) he) (fun i x σ' H' T1 h => nomatch h) ?_
    rintro σ' H' ⟨s2, ex⟩
    exact ⟨_, s2, p, [], rfl, .inl ⟨sq_of (ex _ _ upd_same), fun l hl => q l _ (fresh_back (e0.trans ex) hl) ((e0.trans ex).trans (Ex.new hl)) upd_same⟩⟩

theorem sc_read_apart : FnScope ["self", "apart", "found", "index", "thing", "pair"] ["self", "apart"] (defScope (inClass (top 26) 12)) := ⟨rfl, rfl, rfl, by decide +kernel, rfl, by decide +kernel, by decide +kernel⟩
theorem ok_read_apart (T : Tx K mg) : ∃ fd, FnOk P w K mg base CX0 1 (He.ma K (cN K) "_read_apart") fd ["self", "apart"] (spEmp K) ∧ Binds K fd ["self", "apart"] [] := by
  obtain ⟨fd, F⟩ := T.d.def_ 57 (d := d_Names__read_apart) rfl
  refine ⟨fd, F.ok sc_read_apart (fun vs H Q E h => ?_) (fun cdv A outer s H vs Q E hr h => ?_), FunD.bindsN F fun _ _ _ _ _ _ us hl => match us, hl with | [_, _], _ => rfl⟩
  · obtain ⟨_, _, rfl, _⟩ := h
    rfl
  · refine ⟨_, PSs.nox (pss_cons (ps_set (i := 2) sc_read_apart.nd rfl (Or.inl rfl) (pe_lst pa_nil))
      (pss_cons (ps_for PassesOwn.never rfl (GV.pi_enSq (by rfl) (T.fr 43 rfl) (pa_cons (pv 1) pa_nil)) (pg_tup rfl (pgs_cons (pg_name (i := 3) sc_read_apart.nd rfl (Or.inl rfl)) (pgs_cons (pg_name (i := 4) sc_read_apart.nd rfl (Or.inl rfl)) pgs_nil))) (pss_cons ps_never
      (pss_cons ps_never
      (pss_one ps_never))))
      (pss_one (ps_ret (pe_callTy call_tuple_of (by rfl) (T.fr 39 rfl) (by decide +kernel) (pa_cons (pv 2) pa_nil)))))), ?_⟩
    obtain ⟨v, e, rfl, he, q⟩ := h
    refine ⟨Nat.zero_le _, fun p hp => ?_⟩
    have e0 : Ex H (upd H p (.lst [])) := Ex.new hp
    refine q_forEn (l := false) (ea_cons (ev_var rfl) ea_nil) (ex_t e0 he) (fun i σ' H' => σ'[2]? = some (some (.ref p)) ∧ Ex (upd H p (.lst [])) H') (fun H1 e1 => ⟨rfl, e1⟩) (fun i σ' H' h => ex_t (e0.trans h.2) he) (fun i x σ' H' T1 h => nomatch h) ?_
    rintro σ' H' ⟨s2, ex⟩
    exact ⟨_, s2, p, [], rfl, .inl ⟨sq_of (ex _ _ upd_same), fun l hl => q l _ (fresh_back (e0.trans ex) hl) ((e0.trans ex).trans (Ex.new hl)) upd_same⟩⟩

def spWorld (K : PySem.W.Frag) : Sp := fun vs H Q _ => ∃ (a dx c e1 e2 : Addr) (fl : List (Str × V)) (v1 v2 : V) (zs : List Str), vs = [.ref a] ∧ H a = some (.ins (cN K) dx fl) ∧ fld fl "constants" = some (.ref c) ∧ fld fl "_functions" = some v1 ∧ fld fl "_rules" = some v2 ∧ fld fl "_facts" = some (.ref e1) ∧ fld fl "_apart" = some (.ref e2) ∧
  SqT K H c (zs.map V.str) ∧ zs.length ≤ 1000 ∧ SqT K H e1 [] ∧ SqT K H e2 [] ∧ RetV (.bl true) H Q
theorem sc_world : FnScope ["self", "known"] ["self"] (defScope (inClass (top 26) 15)) := ⟨rfl, rfl, rfl, by decide +kernel, rfl, by decide +kernel, by decide +kernel⟩
theorem ok_world (T : Tx K mg) : ∃ fd, FnOk P w K mg base CX0 4 (He.ma K (cN K) "_has_world") fd ["self"] (spWorld K) ∧ Binds K fd ["self"] [] := by
  obtain ⟨fd, F⟩ := T.d.def_ 60 (d := d_Names__has_world) rfl
  obtain ⟨fd_known_facts, G_known_facts, b_known_facts, k_known_facts⟩ := ok_kf (P := P) (w := w) (base := base) T
  refine ⟨fd, F.ok sc_world (fun vs H Q E h => ?_) (fun cdv A outer s H vs Q E hr h => ?_), FunD.bindsN F fun _ _ _ _ _ _ us hl => match us, hl with | [_], _ => rfl⟩
  · obtain ⟨_, _, _, _, _, _, _, _, _, rfl, _⟩ := h
    rfl
  · refine ⟨_, PSs.nox (pss_cons (ps_set (i := 1) sc_world.nd rfl (Or.inl rfl) (pe_call G_known_facts (hr.mono (by decide)) rfl (T.gl 11 rfl) k_known_facts b_known_facts .nil pass0 (pa_cons (pe_fld (pv 0) rfl) (pa_cons (pe_fld (pv 0) rfl) (pa_cons (pe_fld (pv 0) rfl) (pa_cons (pe_fld (pv 0) rfl) (pa_cons (pe_fld (pv 0) rfl) pa_nil)))))))
      (pss_one (ps_ret (pe_fld (pv 1) rfl)))), ?_⟩
    obtain ⟨a, dx, c, e1, e2, fl, v1, v2, zs, rfl, ha, f1, f2, f3, f4, f5, hc, hz, he1, he2, q⟩ := h
    refine ⟨_, rfl, a, _, dx, fl, _, rfl, ha, (T.cls 89 rfl), (T.na 113 rfl), f1, ?_⟩
    refine ⟨_, rfl, a, _, dx, fl, _, rfl, ha, (T.cls 89 rfl), (T.na 110 rfl), f2, ?_⟩
    refine ⟨_, rfl, a, _, dx, fl, _, rfl, ha, (T.cls 89 rfl), (T.na 111 rfl), f3, ?_⟩
    refine ⟨_, rfl, a, _, dx, fl, _, rfl, ha, (T.cls 89 rfl), (T.na 109 rfl), f4, ?_⟩
    refine ⟨_, rfl, a, _, dx, fl, _, rfl, ha, (T.cls 89 rfl), (T.na 107 rfl), f5, ?_⟩
    refine ⟨c, e1, e2, v1, v2, zs, rfl, hc, hz, he1, he2, fun x n l m H2 ex kn => ?_⟩
    obtain ⟨⟨dx2, fl2, hx2, _, _, hp, _⟩, _⟩ := id kn
    exact ⟨.ref x, rfl, x, _, dx2, fl2, _, rfl, hx2, (T.cls 47 rfl), (T.na 79 rfl), hp, q H2 ex⟩
end
end K3
namespace K3
open PySem PySem.Spec PyProof.Rows L2 Evl GV LD
/-! ### what is due, of plain data -/
/-- a key as it is told most plainly -/
def lv : Leaf → V
  | .none => .non
  | .num i => .int i
  | .text z => .str z
theorem lV_lv (k : Leaf) : lV k (lv k) := by
  cases k <;> first | rfl | exact .inl rfl
/-- the same value, or the same number -/
def Sim (x y : V) : Prop := x = y ∨ ∃ i, lV (.num i) x ∧ lV (.num i) y
theorem Sim.refl (x : V) : Sim x x := .inl rfl
theorem sim_key {k : Leaf} {x y : V} (h : lV k x) (h2 : lV k y) : Sim x y := by
  cases k with
  | none => exact .inl ((show x = .non from h).trans (show y = .non from h2).symm)
  | num i => exact .inr ⟨i, h, h2⟩
  | text z => exact .inl ((show x = .str z from h).trans (show y = .str z from h2).symm)
theorem nam_num {i : Int} {x : V} (h : lV (.num i) x) : nam x = .non := by
  rcases h with rfl | ⟨b, rfl, _⟩ <;> rfl
theorem nam_sim {x y : V} (h : Sim x y) : nam x = nam y := by
  rcases h with rfl | ⟨i, h1, h2⟩
  · rfl
  · rw [nam_num h1, nam_num h2]
theorem firstBad_cons (seen : List Str) (v : V) (r : List V) : firstBad seen (v :: r) = match nam v with
    | .str z => if z ∈ seen then some v else firstBad (z :: seen) r
    | _ => some v := rfl
theorem firstBad_sim {xs ys : List V} (h : Paired Sim xs ys) : ∀ seen, (firstBad seen xs = none → firstBad seen ys = none) ∧ ∀ v, firstBad seen xs = some v → ∃ u, firstBad seen ys = some u ∧ Sim v u := by
  induction h with
  | nil => exact fun seen => ⟨fun h => h, fun v h => nomatch h⟩
  | @cons x y xs ys e t ih =>
    intro seen
    rcases nam_two x with hb | ⟨z, _, hz⟩
    · have ex : firstBad seen (x :: xs) = some x := by rw [firstBad_cons, hb]
      have ey : firstBad seen (y :: ys) = some y := by rw [firstBad_cons, ← nam_sim e, hb]
      rw [ex, ey]
      exact ⟨fun h => (nomatch h), fun v h => ⟨y, rfl, by cases h; exact e⟩⟩
    · have ex : firstBad seen (x :: xs) = if z ∈ seen then some x else firstBad (z :: seen) xs := by rw [firstBad_cons, hz]
      have ey : firstBad seen (y :: ys) = if z ∈ seen then some y else firstBad (z :: seen) ys := by rw [firstBad_cons, ← nam_sim e, hz]
      rw [ex, ey]
      by_cases hs : z ∈ seen
      · rw [if_pos hs, if_pos hs]
        exact ⟨fun h => (nomatch h), fun v h => ⟨y, rfl, by cases h; exact e⟩⟩
      · rw [if_neg hs, if_neg hs]
        exact ih (z :: seen)
/-- all are names, each once -/
theorem firstBad_ok : ∀ {xs : List V} {seen : List Str}, firstBad seen xs = none → ∃ zs : List Str, xs = zs.map V.str ∧ (∀ z ∈ zs, okName z = true ∧ z ∉ seen) ∧ zs.Nodup
  | [], _, _ => ⟨[], rfl, fun z h => absurd h (by simp), .nil⟩
  | x :: xs, seen, h => by
    rw [firstBad_cons] at h
    rcases nam_two x with hb | ⟨z, rfl, hz⟩
    · rw [hb] at h
      cases h
    · rw [hz] at h
      have h' : (if z ∈ seen then some (V.str z) else firstBad (z :: seen) xs) = none := h
      by_cases hs : z ∈ seen
      · rw [if_pos hs] at h'
        cases h'
      · rw [if_neg hs] at h'
        obtain ⟨zs, rfl, h1, h2⟩ := firstBad_ok h'
        have okz : okName z = true := by
          have q : (if okName z = true then V.str z else .non) = .str z := hz
          by_cases o : okName z = true
          · exact o
          · rw [if_neg o] at q
            cases q
        refine ⟨z :: zs, rfl, fun y hy => ?_, List.nodup_cons.mpr ⟨fun m => (h1 z m).2 (List.mem_cons_self ..), h2⟩⟩
        rcases List.mem_cons.mp hy with rfl | hy
        · exact ⟨okz, hs⟩
        · exact ⟨(h1 y hy).1, fun m => (h1 y hy).2 (List.mem_cons_of_mem _ m)⟩
theorem ksL_txt : ∀ {k : LKV} {zs : List Str}, KsL k (zs.map V.str) → ∃ l : List (Str × V), k = tkL l ∧ l.map (·.1) = zs
  | [], [], _ => ⟨[], rfl, rfl⟩
  | [], _ :: _, h => nomatch h
  | _ :: _, [], h => nomatch h
  | (k, v) :: r, z :: zs, .cons h t => by
    obtain ⟨l, rfl, e⟩ := ksL_txt t
    have hk : k = .text z := by
      cases k with
      | none => cases (show V.str z = .non from h)
      | num i => rcases h with h | ⟨b, h, _⟩ <;> cases h
      | text y => cases (show V.str z = .str y from h); rfl
    exact ⟨(z, v) :: l, by rw [hk]; rfl, by rw [List.map_cons, e]⟩
theorem ksL_lv (k : LKV) : KsL k (k.map fun p => lv p.1) := by
  induction k with
  | nil => exact .nil
  | cons p k ih => exact .cons (lV_lv p.1) ih
theorem ksL_sim : ∀ {k : LKV} {xs ys : List V}, KsL k xs → KsL k ys → Paired Sim xs ys
  | [], _, _, .nil, .nil => .nil
  | p :: k, _, _, .cons h t, .cons h2 t2 => .cons (sim_key h h2) (ksL_sim t t2)
theorem paired_app' {α β : Type} {R : α → β → Prop} {a c : List α} {b d : List β} (h : Paired R a b) (h2 : Paired R c d) : Paired R (a ++ c) (b ++ d) := by
  induction h with
  | nil => exact h2
  | cons e t ih => exact .cons e ih
theorem sim_self : ∀ (xs : List V), Paired Sim xs xs
  | [] => .nil
  | x :: xs => .cons (.refl x) (sim_self xs)
/-- texts alone -/
def tx : LKV → List (Str × V)
  | [] => []
  | (.text z, v) :: r => (z, v) :: tx r
  | _ :: r => tx r
theorem tx_tkL : ∀ (l : List (Str × V)), tx (tkL l) = l
  | [] => rfl
  | p :: l => congrArg (p :: ·) (tx_tkL l)
theorem lfs_tkK (l : List (Str × V)) : lfs (tkK l) = tkL l := by
  unfold lfs tkK tkL
  rw [List.map_map]
  rfl
def allN (cs : List V) (k1 k2 k3 : LKV) : List V := cs ++ (k1.map (fun p => lv p.1) ++ (k2.map (fun p => lv p.1) ++ k3.map fun p => lv p.1))
/-- what is due where all names are right -/
def dueN (l1 l2 l3 : List (Str × V)) (k5 : LKV) : Option (Str × V) := match badNum [1, 2] l1 with
  | some z => some ("BadNumber", .str z)
  | none => match badNum [1, 2] l2 with
    | some z => some ("BadNumber", .str z)
    | none => match badNum [0, 1, 2] l3 with
      | some z => some ("BadNumber", .str z)
      | none => (badRule (nums l1) (nums l2) false k5).map fun k => ("BadRule", lv k)
/-- the error that is due first: its class, and what it is about -/
def dueP (cs : List V) (k1 k2 k3 k5 : LKV) : Option (Str × V) := match firstBad [] (allN cs k1 k2 k3) with
  | some v => some ("BadName", v)
  | none => dueN (tx k1) (tx k2) (tx k3) k5
/-- all names are right: what the dicts are -/
structure AllOk (cs : List V) (k1 k2 k3 : LKV) (zs : List Str) (l1 l2 l3 : List (Str × V)) : Prop where
  c : cs = zs.map V.str
  e1 : k1 = tkL l1
  e2 : k2 = tkL l2
  e3 : k3 = tkL l3
  nd : (zs ++ (l1.map (·.1) ++ (l2.map (·.1) ++ l3.map (·.1)))).Nodup
  ok : ∀ z ∈ zs ++ (l1.map (·.1) ++ (l2.map (·.1) ++ l3.map (·.1))), okName z = true
theorem allOk {cs : List V} {k1 k2 k3 : LKV} (h : firstBad [] (allN cs k1 k2 k3) = none) : ∃ zs l1 l2 l3, AllOk cs k1 k2 k3 zs l1 l2 l3 := by
  obtain ⟨zs, e, h1, h2⟩ := firstBad_ok h
  unfold allN at e
  obtain ⟨za, zr, rfl, ec, e⟩ := List.map_eq_append_iff.mp e.symm
  obtain ⟨z1, zr2, rfl, e1, e⟩ := List.map_eq_append_iff.mp e
  obtain ⟨z2, z3, rfl, e2, e3⟩ := List.map_eq_append_iff.mp e
  obtain ⟨l1, g1, f1⟩ := ksL_txt (zs := z1) (by rw [e1]; exact ksL_lv k1)
  obtain ⟨l2, g2, f2⟩ := ksL_txt (zs := z2) (by rw [e2]; exact ksL_lv k2)
  obtain ⟨l3, g3, f3⟩ := ksL_txt (zs := z3) (by rw [e3]; exact ksL_lv k3)
  subst f1 f2 f3
  exact ⟨za, l1, l2, l3, ec.symm, g1, g2, g3, h2, fun z hz => (h1 z hz).1⟩
end K3
namespace K3
open PySem PySem.Spec PyProof.Rows L2 Evl GV LD
section
variable {K : PySem.W.Frag} {mg : Str → Option Value} {P : Program} {w : World} {base : Heap}
/-! ### Names.__init__ -/
/-- what is handed over: a list of things, four dicts of their own -/
structure ArgsAt (K : PySem.W.Frag) (P : Program) (w : World) (H : Hp) (ac d1 d2 d3 d5 : Addr) (cs : List V) (k1 k2 k3 k5 : LKV) : Prop where
  c : SqL K H ac cs
  h1 : H d1 = some (dL P w d1 k1)
  h2 : H d2 = some (dL P w d2 k2)
  h3 : H d3 = some (dL P w d3 k3)
  h5 : H d5 = some (dL P w d5 k5)
  n12 : d1 ≠ d2
  n13 : d1 ≠ d3
  n15 : d1 ≠ d5
  n23 : d2 ≠ d3
  n25 : d2 ≠ d5
  n35 : d3 ≠ d5
  lc : cs.length ≤ 100
  l1 : k1.length ≤ 100
  l2 : k2.length ≤ 100
  l3 : k3.length ≤ 100
  l5 : k5.length ≤ 100
  nd5 : (k5.map (·.1)).Nodup
  pc : ∀ v ∈ cs, Pl K H v
  p1 : ∀ p ∈ k1, Pl K H p.2 ∧ ∀ z, p.1 = .text z → z.length ≤ 100000
  p2 : ∀ p ∈ k2, Pl K H p.2 ∧ ∀ z, p.1 = .text z → z.length ≤ 100000
  p3 : ∀ p ∈ k3, Pl K H p.2 ∧ ∀ z, p.1 = .text z → z.length ≤ 100000
  p5 : ∀ p ∈ k5, Pl K H p.2 ∧ ∀ z, p.1 = .text z → z.length ≤ 100000
def spInit (K : PySem.W.Frag) (P : Program) (w : World) : Sp := fun vs H Q E => ∃ (x dx : Addr) (H1 : Hp) (ac d1 d2 d3 d5 e6 e7 : Addr) (cs : List V) (k1 k2 k3 k5 : LKV), vs = [.ref x, .ref ac, .ref d1, .ref d2, .ref d3, .ref d5, .ref e6, .ref e7] ∧
  H = upd (upd H1 dx (.own x)) x (.ins (cN K) dx []) ∧ H1 x = none ∧ H1 dx = none ∧ dx ≠ x ∧ ArgsAt K P w H1 ac d1 d2 d3 d5 cs k1 k2 k3 k5 ∧ SqT K H1 e6 [] ∧ SqT K H1 e7 [] ∧
  (dueP cs k1 k2 k3 k5 = none → ∀ H2, Ex H1 H2 → Q .non H2) ∧ ∀ n v u, dueP cs k1 k2 k3 k5 = some (n, v) → Sim v u → BadE K n u H1 E
/-- three dicts told as dicts of texts -/
def vw (H : Hp) (d1 d2 d3 : Addr) (l1 l2 l3 : List (Str × V)) : Hp := upd (upd (upd H d1 (.dK (tkK l1))) d2 (.dK (tkK l2))) d3 (.dK (tkK l3))
section
variable {H H' : Hp} {d1 d2 d3 : Addr} {l1 l2 l3 : List (Str × V)}
theorem vw_ne {b : Addr} (h1 : b ≠ d1) (h2 : b ≠ d2) (h3 : b ≠ d3) : vw H d1 d2 d3 l1 l2 l3 b = H b := by
  unfold vw
  rw [upd_ne h3, upd_ne h2, upd_ne h1]
theorem vw_1 (h2 : d1 ≠ d2) (h3 : d1 ≠ d3) : vw H d1 d2 d3 l1 l2 l3 d1 = some (.dK (tkK l1)) := by
  unfold vw
  rw [upd_ne h3, upd_ne h2, upd_same]
theorem vw_2 (h3 : d2 ≠ d3) : vw H d1 d2 d3 l1 l2 l3 d2 = some (.dK (tkK l2)) := by
  unfold vw
  rw [upd_ne h3, upd_same]
theorem vw_3 : vw H d1 d2 d3 l1 l2 l3 d3 = some (.dK (tkK l3)) := upd_same
theorem vw_down (n12 : d1 ≠ d2) (n13 : d1 ≠ d3) (n23 : d2 ≠ d3) (h1 : H d1 = some (dL P w d1 (tkL l1))) (h2 : H d2 = some (dL P w d2 (tkL l2))) (h3 : H d3 = some (dL P w d3 (tkL l3))) : View P w H (vw H d1 d2 d3 l1 l2 l3) :=
  .down h1 (.down ((upd_ne (Ne.symm n12)).trans h2) (.down ((upd_ne (Ne.symm n23)).trans ((upd_ne (Ne.symm n13)).trans h3)) (.refl _)))
/-- and back again, behind whatever was done -/
theorem vw_up (n12 : d1 ≠ d2) (n13 : d1 ≠ d3) (n23 : d2 ≠ d3) (h1 : H d1 = some (dL P w d1 (tkL l1))) (h2 : H d2 = some (dL P w d2 (tkL l2))) (h3 : H d3 = some (dL P w d3 (tkL l3))) (e : Ex (vw H d1 d2 d3 l1 l2 l3) H') :
    ∃ H'', View P w H' H'' ∧ Ex H H'' ∧ ∀ b, b ≠ d1 → b ≠ d2 → b ≠ d3 → H'' b = H' b := by
  have g1 := e _ _ (vw_1 (H := H) (l1 := l1) (l2 := l2) (l3 := l3) n12 n13)
  have g2 := e _ _ (vw_2 (H := H) (d1 := d1) (l1 := l1) (l2 := l2) (l3 := l3) n23)
  have g3 := e _ _ (vw_3 (H := H) (d1 := d1) (d2 := d2) (l1 := l1) (l2 := l2) (l3 := l3))
  refine ⟨upd (upd (upd H' d1 (dL P w d1 (lfs (tkK l1)))) d2 (dL P w d2 (lfs (tkK l2)))) d3 (dL P w d3 (lfs (tkK l3))), .up g1 (.up ((upd_ne (Ne.symm n12)).trans g2) (.up ((upd_ne (Ne.symm n23)).trans ((upd_ne (Ne.symm n13)).trans g3)) (.refl _))), fun b o hb => ?_, fun b m1 m2 m3 => ?_⟩
  · rw [lfs_tkK, lfs_tkK, lfs_tkK]
    by_cases q3 : b = d3
    · subst q3
      rw [upd_same]
      exact h3.symm.trans hb
    rw [upd_ne q3]
    by_cases q2 : b = d2
    · subst q2
      rw [upd_same]
      exact h2.symm.trans hb
    rw [upd_ne q2]
    by_cases q1 : b = d1
    · subst q1
      rw [upd_same]
      exact h1.symm.trans hb
    rw [upd_ne q1]
    exact e _ _ ((vw_ne q1 q2 q3).trans hb)
  · rw [upd_ne m3, upd_ne m2, upd_ne m1]
theorem vw_ex {H2 : Hp} (e : Ex H H2) : Ex (vw H d1 d2 d3 l1 l2 l3) (vw H2 d1 d2 d3 l1 l2 l3) := fun b o hb => by
  unfold vw at hb ⊢
  by_cases q3 : b = d3
  · subst q3
    rw [upd_same] at hb ⊢
    exact hb
  rw [upd_ne q3] at hb ⊢
  by_cases q2 : b = d2
  · subst q2
    rw [upd_same] at hb ⊢
    exact hb
  rw [upd_ne q2] at hb ⊢
  by_cases q1 : b = d1
  · subst q1
    rw [upd_same] at hb ⊢
    exact hb
  rw [upd_ne q1] at hb ⊢
  exact e _ _ hb
/-- what is no such dict stays -/
theorem vw_keep {b : Addr} {o : HO} (h1 : H d1 = some (dL P w d1 (tkL l1))) (h2 : H d2 = some (dL P w d2 (tkL l2))) (h3 : H d3 = some (dL P w d3 (tkL l3))) (hb : H b = some o) (no : ∀ d k, o ≠ dL P w d k) : vw H d1 d2 d3 l1 l2 l3 b = some o :=
  (vw_ne (fun q => by subst q; exact no _ _ (Option.some.inj (hb.symm.trans h1))) (fun q => by subst q; exact no _ _ (Option.some.inj (hb.symm.trans h2))) (fun q => by subst q; exact no _ _ (Option.some.inj (hb.symm.trans h3)))).trans hb
theorem vw_l {a : Addr} {xs : List V} (h1 : H d1 = some (dL P w d1 (tkL l1))) (h2 : H d2 = some (dL P w d2 (tkL l2))) (h3 : H d3 = some (dL P w d3 (tkL l3))) (h : SqL K H a xs) : SqL K (vw H d1 d2 d3 l1 l2 l3) a xs := by
  rcases h with (h | ⟨o, h⟩) | h
  · exact .inl (.inl (vw_keep h1 h2 h3 h fun d k e => dL_lst (P := P) (w := w) xs e.symm))
  · exact .inl (.inr ⟨o, vw_keep h1 h2 h3 h fun d k e => dL_frz (P := P) (w := w) o _ e.symm⟩)
  · exact .inr h
theorem dL_tup {P : Program} {w : World} {a : Addr} {kvs : LKV} (xs : List V) : dL P w a kvs ≠ .tup xs := fun z => by
  have z' : HO.ext _ = HO.tup xs := z
  cases z'
theorem vw_t {a : Addr} {xs : List V} (h1 : H d1 = some (dL P w d1 (tkL l1))) (h2 : H d2 = some (dL P w d2 (tkL l2))) (h3 : H d3 = some (dL P w d3 (tkL l3))) (h : SqT K H a xs) : SqT K (vw H d1 d2 d3 l1 l2 l3) a xs := by
  rcases h with (h | ⟨o, h⟩) | h
  · exact .inl (.inl (vw_keep h1 h2 h3 h fun d k e => dL_tup (P := P) (w := w) xs e.symm))
  · exact .inl (.inr ⟨o, vw_keep h1 h2 h3 h fun d k e => dL_frz (P := P) (w := w) o _ e.symm⟩)
  · exact .inr h
theorem vw_pl {v : V} (h1 : H d1 = some (dL P w d1 (tkL l1))) (h2 : H d2 = some (dL P w d2 (tkL l2))) (h3 : H d3 = some (dL P w d3 (tkL l3))) (h : Pl K H v) : Pl K (vw H d1 d2 d3 l1 l2 l3) v := by
  cases h with
  | non => exact .non
  | bl b => exact .bl b
  | int i => exact .int i
  | str z h => exact .str z h
  | lst a xs h => exact .lst a xs (vw_l h1 h2 h3 h)
theorem BadE.vw {x : Str} {v : V} {E : XK} (n12 : d1 ≠ d2) (n13 : d1 ≠ d3) (n23 : d2 ≠ d3) (h1 : H d1 = some (dL P w d1 (tkL l1))) (h2 : H d2 = some (dL P w d2 (tkL l2))) (h3 : H d3 = some (dL P w d3 (tkL l3))) (b : BadE K x v H E) :
    BadE K x v (vw H d1 d2 d3 l1 l2 l3) (eView P w E) := by
  intro d G hd e hx
  obtain ⟨H2, vv, e2, keep⟩ := vw_up n12 n13 n23 h1 h2 h3 e
  have m1 : d ≠ d1 := fun q => by rw [q, vw_1 n12 n13] at hd; cases hd
  have m2 : d ≠ d2 := fun q => by rw [q, vw_2 n23] at hd; cases hd
  have m3 : d ≠ d3 := fun q => by rw [q, vw_3] at hd; cases hd
  rw [vw_ne m1 m2 m3] at hd
  exact ⟨H2, vv, b d H2 hd e2 ((keep d m1 m2 m3).trans hx)⟩
end
theorem el_gvX {σ : L2.St} {H : Hp} {te : TE} {xs : List V} (h : Gv te σ H (fun v H' => ∃ p, v = .ref p ∧ H p = none ∧ H' p = some (.lst xs))) : EvL te σ H xs := fun H1 e Q q =>
  h H1 e _ fun v H' H1' f ⟨p, ev, h0, hp⟩ => by
    have hf : H1 p = none := f.new p h0 (by rw [hp]; exact fun z => nomatch z)
    rw [ev]
    exact q p H1' hf f.cur (f.sub _ _ hp)
theorem gv_nums {σ : L2.St} {H : Hp} {te : TE} {ta : TA} {d : Addr} {l : List (Str × V)} {as : List Int} {E : XK} (ht : Ev te σ H (.ref d)) (hd : H d = some (.dK (tkK l))) (ha : ∀ H', Ex H H' → EvA ta σ H' (as.map V.int)) (hl : as.length ≤ 1000)
    (ok : NamesOk l) (hp : ∀ p ∈ l, Pl K H p.2) (hb : ∀ z, badNum as l = some z → BadE K "BadNumber" (.str z) H E) :
    Gv (tCall (spNums K) [] E (tCons te (tCons (tTup ta) tNil))) σ H (fun r H' => ∃ p, r = .ref p ∧ H p = none ∧ H' p = some (.dK (numK (nums l))) ∧ badNum as l = none) := fun H1 e Q q =>
  ht H1 e _ fun H2 e2 => by
    refine (eu_tup (ha H2 (e.trans e2)) (by rw [List.length_map]; omega)) H2 (Ex.refl _) _ fun t H3 ht3 e3 h3 => ?_
    have e03 := (e.trans e2).trans e3
    have hd2 : H2 d = some (.dK (tkK l)) := (e.trans e2) _ _ hd
    refine ⟨d, t, l, as, rfl, e03 _ _ hd, SqT.of h3, fun z => ?_, ok, fun p h => (hp p h).ex e03, fun hn p H4 hp e4 h4 => ?_, fun z hz => (hb z hz).go e03⟩
    · rw [z, ht3] at hd2
      cases hd2
    · exact q (.ref p) (upd H p (.dK (numK (nums l)))) H4 ((Fm.gr e ((e2.trans e3).trans e4)).know (fresh_back (e2.trans e3) hp) h4 (fresh_back e03 hp)) ⟨p, rfl, fresh_back e03 hp, upd_same, hn⟩
end
end K3
namespace K3
open PySem PySem.Spec PyProof.Rows L2 Evl GV LD
section
variable {K : PySem.W.Frag} {mg : Str → Option Value} {P : Program} {w : World} {base : Heap}
theorem sc_init : FnScope ["self", "constants", "functions", "tests", "deeds", "rules", "facts", "apart", "tables", "table", "name"] ["self", "constants", "functions", "tests", "deeds", "rules", "facts", "apart"] (defScope (inClass (top 26) 0)) := ⟨rfl, rfl, rfl, by decide +kernel, rfl, by decide +kernel, by decide +kernel⟩
theorem keysOk {k : LKV} {l : List (Str × V)} (e : k = tkL l) (hl : k.length ≤ 100) (nd : (l.map (·.1)).Nodup) (ok : ∀ z ∈ l.map (·.1), okName z = true) : NamesOk l :=
  ⟨by rw [e, tkL, List.length_map] at hl; omega, nd, fun p hp => ok p.1 (List.mem_map_of_mem hp)⟩
theorem ok_init (T : Tx K mg) : ∃ fd, FnOk P w K mg base (L2.CX P w) 6 (He.ma K (cN K) "__init__") fd ["self", "constants", "functions", "tests", "deeds", "rules", "facts", "apart"] (spInit K P w) ∧ FunD K d_Names_init.name d_Names_init.qual d_Names_init.params d_Names_init.body d_Names_init.scope (He.DefD.dvs K d_Names_init) (He.DefD.kws K d_Names_init) (He.ma K (cN K) "__init__") fd := by
  obtain ⟨fd, F⟩ := T.d.def_ 45 (d := d_Names_init) rfl
  obtain ⟨fd_as_name, G_as_name, b_as_name, k_as_name⟩ := ok_name (P := P) (w := w) (base := base) T
  obtain ⟨fd__check_names, G__check_names, b__check_names, k__check_names⟩ := ok_check (P := P) (w := w) (base := base) T
  obtain ⟨fd__read_numbers, G__read_numbers, b__read_numbers, k__read_numbers⟩ := ok_nums (P := P) (w := w) (base := base) T
  obtain ⟨fd__read_rules, G__read_rules, b__read_rules⟩ := ok_rules (P := P) (w := w) (base := base) T
  obtain ⟨fd__read_facts, G__read_facts, b__read_facts⟩ := ok_read_facts (P := P) (w := w) (base := base) T
  obtain ⟨fd__read_apart, G__read_apart, b__read_apart⟩ := ok_read_apart (P := P) (w := w) (base := base) T
  obtain ⟨fd__has_world, G__has_world, b__has_world⟩ := ok_world (P := P) (w := w) (base := base) T
  refine ⟨fd, F.ok sc_init (fun vs H Q E h => ?_) (fun cdv A outer s H vs Q E hr h => ?_), F⟩
  · obtain ⟨_, _, _, _, _, _, _, _, _, _, _, _, _, _, _, rfl, _⟩ := h
    rfl
  · refine ⟨_, (pss_cons (ps_setLc (i := 8) (own := [("table", 9)]) (g := gName 9) (by rfl) sc_init.nd rfl rfl (sw_true rfl rfl rfl (by decide +kernel)) (pi_tup (pe_tup (pa_cons (pv 2) (pa_cons (pv 3) (pa_cons (pv 4) pa_nil))))) (blkOk_by (own := [("table", 9)]) (N := ["self", "constants", "functions", "tests", "deeds", "rules", "facts", "apart", "tables", "table", "name"]) (sc := defScope (inClass (top 26) 0)) (by decide +kernel)) (fun _ _ _ _ _ => pg_name (i := 9) sc_init.nd rfl (Or.inl rfl)) (fun _ _ _ _ _ => pts_nil) (fun _ _ _ _ _ => by exact (pe_ifExp (pt_cmpR op_isN (pv 9) pe_non (nomark _)) pe_dnewK (pv 9))))
      (pss_cons (ps_expr (pe_call G__check_names (hr.mono (by decide)) rfl (T.gl 17 rfl) k__check_names b__check_names .nil (LD.pass_of (takes_of rfl rfl rfl rfl)) (pa_cons (pe_lst (SV.pa_starA rfl (pv 1) (LD.pa_starL rfl (pe_ix ix_list (pv 8) pe_int fun _ _ => rfl) (LD.pa_starL rfl (pe_ix ix_list (pv 8) pe_int fun _ _ => rfl) (LD.pa_starL rfl (pe_ix ix_list (pv 8) pe_int fun _ _ => rfl) pa_nil))))) pa_nil)))
      (LD.pss_view (pss_cons (ps_fld (pv 0) (pe_callTy call_tuple_of (by rfl) (T.fr 39 rfl) (by decide +kernel) (pa_cons (pe_lc (own := [("name", 10)]) (g := gName 10) rfl sc_init.nd (GV.pi_sq (pv 1)) (blkOk_by (own := [("name", 10)]) (N := ["self", "constants", "functions", "tests", "deeds", "rules", "facts", "apart", "tables", "table", "name"]) (sc := defScope (inClass (top 26) 0)) (by decide +kernel)) (fun _ _ _ _ _ => pg_name (i := 10) sc_init.nd rfl (Or.inl rfl)) (fun _ _ _ _ _ => pts_nil) (fun _ _ _ _ _ => by exact (pe_call G_as_name (hr.mono (by decide)) rfl (T.gl 13 rfl) k_as_name b_as_name .nil pass0 (pa_cons (pv 10) pa_nil)))) pa_nil)) rfl)
      (pss_cons (ps_fld (pv 0) (pe_call G__read_numbers (hr.mono (by decide)) rfl (T.gl 18 rfl) k__read_numbers b__read_numbers .nil (LD.pass_view (takes_of rfl rfl rfl rfl)) (pa_cons (pe_ix ix_list (pv 8) pe_int fun _ _ => rfl) (pa_cons (pe_tup (pa_cons pe_int (pa_cons pe_int pa_nil))) pa_nil))) rfl)
      (pss_cons (ps_fld (pv 0) (pe_call G__read_numbers (hr.mono (by decide)) rfl (T.gl 18 rfl) k__read_numbers b__read_numbers .nil (LD.pass_view (takes_of rfl rfl rfl rfl)) (pa_cons (pe_ix ix_list (pv 8) pe_int fun _ _ => rfl) (pa_cons (pe_tup (pa_cons pe_int (pa_cons pe_int pa_nil))) pa_nil))) rfl)
      (pss_cons (ps_fld (pv 0) (pe_call G__read_numbers (hr.mono (by decide)) rfl (T.gl 18 rfl) k__read_numbers b__read_numbers .nil (LD.pass_view (takes_of rfl rfl rfl rfl)) (pa_cons (pe_ix ix_list (pv 8) pe_int fun _ _ => rfl) (pa_cons (pe_tup (pa_cons pe_int (pa_cons pe_int (pa_cons pe_int pa_nil)))) pa_nil))) rfl)
      (pss_cons (ps_fld (pv 0) (pe_meth (pv 0) (T.cls 89 rfl) (T.me 99 rfl) G__read_rules (hr.mono (by decide)) b__read_rules .nil (LD.pass_view (takes_of rfl rfl rfl rfl)) (pa_cons (pe_ifExp (pt_cmpR op_isN (pv 5) pe_non (nomark _)) pe_dnewK (pv 5)) pa_nil)) rfl)
      (pss_cons (ps_fld (pv 0) (pe_meth (pv 0) (T.cls 89 rfl) (T.me 101 rfl) G__read_facts (hr.mono (by decide)) b__read_facts .nil pass0 (pa_cons (pv 6) pa_nil)) rfl)
      (pss_cons (ps_fld (pv 0) (pe_meth (pv 0) (T.cls 89 rfl) (T.me 103 rfl) G__read_apart (hr.mono (by decide)) b__read_apart .nil pass0 (pa_cons (pv 7) pa_nil)) rfl)
      (LD.pss_view (pss_one (ps_if (pt_not (pt_val (pe_meth0 (pv 0) (T.cls 89 rfl) (T.me 106 rfl) G__has_world (hr.mono (by decide)) b__has_world .nil pass0))) (pss_one ps_never) pss_nil))))))))))))), ?_⟩
    obtain ⟨x, dx, H1, ac, d1, d2, d3, d5, e6, e7, cs, k1, k2, k3, k5, rfl, rfl, hx1, hdx1, hdx, A1, he6, he7, qn, qb⟩ := h
    have eM : Ex H1 (upd (upd H1 dx (.own x)) x (.ins (cN K) dx [])) := (Ex.new hdx1).mut hx1
    have fm0 : Fm H1 H1 H1 (upd (upd H1 dx (.own x)) x (.ins (cN K) dx [])) := Fm.gr (Ex.refl _) eM
    /- tables -/
    refine g_asg fm0.sub (gv_lcT (g := gName 9) (N := 3) (U := fun _ ys _ => ys = [.ref d1, .ref d2, .ref d3]) (fun i us _ => us = ([.ref d1, .ref d2, .ref d3] : List V).take i)
      (gv_w (gv_tup (ga_ev (ea_cons (ev_var rfl) (ea_cons (ev_var rfl) (ea_cons (ev_var rfl) ea_nil)))) (fun _ _ _ _ h => h) (fun vs _ h => by rw [show vs = _ from h]; show 3 ≤ 100000; decide)) fun v H' _ ⟨p, vs, h1, h2, h3, h4⟩ => ⟨p, vs, h1, by rw [show vs = _ from h4]; rfl, SqT.of h3, h4⟩)
      (fun i us H H' e h => h) (fun i us H h => by rw [h, List.length_take]; exact Nat.le_trans (Nat.min_le_right _ _) (by show 3 ≤ 100000; decide)) (fun _ _ => rfl) ?_) ?_
    · rintro b ys H' e' hx ys' Hs e2 i u us hi hus H4 e5
      rw [show ys = _ from ys'] at hi
      have hu : ∃ d : Addr, u = .ref d := by
        rcases i with _ | _ | _ | i <;> simp at hi <;> exact ⟨_, hi.symm⟩
      obtain ⟨d, rfl⟩ := hu
      refine ⟨rfl, rfl, true, fun H5 e6 Q5 k5 => k5 H5 (Ex.refl H5), fun _ => gv_if (b := false) (et_test (ev_op (ev_var rfl) ev_c rv_is0)) (fun z => nomatch z) fun _ => gv_w (gv_ev (ev_var rfl)) fun v H6 e6 hv => ?_, fun z => nomatch z⟩
      show us ++ [v] = ([.ref d1, .ref d2, .ref d3] : List V).take (i + 1)
      rw [show v = _ from hv, hus, take_one hi]
    rintro _ Hk1 Hc1 f1 ⟨tb, us, rfl, htb0, htb, hus⟩
    replace hus : us = [.ref d1, .ref d2, .ref d3] := hus
    subst hus
    have fm1 := fm0.trans f1
    have hk1 : Hk1 x = none := f1.out upd_same hx1
    have hc1 := f1.cur _ _ (upd_same (H := upd H1 dx (.own x)) (a := x))
    have ixs : ∀ {Hq : Hp} {σ : L2.St} (i : Int) (d : Addr), Ex Hc1 Hq → σ[8]? = some (some (.ref tb)) → atI [V.ref d1, .ref d2, .ref d3] i = some (.ref d) → Ev (tOp (rIxL K) (tVar 8) (tC (.int i))) σ Hq (.ref d) := fun {Hq σ} i d e hσ ha => ev_op (ev_var hσ) ev_c (rv_ixL (sq_of (e _ _ (fm1.sub _ _ htb))) ha)
    have eC : Ex H1 Hc1 := fm1.ex.trans fm1.sub
    /- the names -/
    refine ⟨_, rfl, cs, .inl ⟨ac, rfl, .inr (ex_l eC A1.c)⟩, ?_⟩
    refine ixs 0 d1 (Ex.refl _) rfl rfl Hc1 (Ex.refl _) _ fun Ha ea => ⟨d1, k1, rfl, (eC.trans ea) _ _ A1.h1, fun ks1 hk1' => ?_⟩
    refine ixs 1 d2 ea rfl rfl Ha (Ex.refl _) _ fun Hb eb => ⟨d2, k2, rfl, ((eC.trans ea).trans eb) _ _ A1.h2, fun ks2 hk2' => ?_⟩
    refine ixs 2 d3 (ea.trans eb) rfl rfl Hb (Ex.refl _) _ fun Hc ec => ⟨d3, k3, rfl, (((eC.trans ea).trans eb).trans ec) _ _ A1.h3, fun ks3 hk3' => ?_⟩
    have eac := (ea.trans eb).trans ec
    have len1 : ks1.length = k1.length := (Paired.length hk1').symm
    have len2 : ks2.length = k2.length := (Paired.length hk2').symm
    have len3 : ks3.length = k3.length := (Paired.length hk3').symm
    have lall : (cs ++ (ks1 ++ (ks2 ++ (ks3 ++ [])))).length ≤ 400 := by
      simp only [List.length_append, List.length_nil, len1, len2, len3]
      have := A1.lc
      have := A1.l1
      have := A1.l2
      have := A1.l3
      omega
    refine ⟨sz_of (Nat.le_trans lall (by decide)), fun lst hlst => ?_⟩
    have eL : Ex Hc1 (upd Hc lst (.lst (cs ++ (ks1 ++ (ks2 ++ (ks3 ++ [])))))) := eac.trans (Ex.new hlst)
    have sims : Paired Sim (cs ++ (ks1 ++ (ks2 ++ (ks3 ++ [])))) (allN cs k1 k2 k3) := by
      rw [List.append_nil]
      exact paired_app' (sim_self cs) (paired_app' (ksL_sim hk1' (ksL_lv k1)) (paired_app' (ksL_sim hk2' (ksL_lv k2)) (ksL_sim hk3' (ksL_lv k3))))
    have keyPl : ∀ {k : LKV} {ks : List V}, KsL k ks → (∀ p ∈ k, Pl K H1 p.2 ∧ ∀ z, p.1 = .text z → z.length ≤ 100000) → ∀ v ∈ ks, ∀ {Hq : Hp}, Pl K Hq v := by
      intro k ks h
      induction h with
      | nil => exact fun _ v hv => absurd hv (by simp)
      | @cons p y ps ys e t ih =>
        intro hp v hv Hq
        rcases List.mem_cons.mp hv with rfl | hv
        · exact Pl.key e (hp p (List.mem_cons_self ..)).2
        · exact ih (fun q hq => hp q (List.mem_cons_of_mem _ hq)) v hv
    refine ⟨lst, _, rfl, sq_of upd_same, Nat.le_trans lall (by decide), fun v hv => ?_, fun hfb H2 e2 => ?_, fun v hfb => ?_⟩
    · rcases List.mem_append.mp hv with h | h
      · exact (A1.pc v h).ex (eC.trans eL)
      rcases List.mem_append.mp h with h | h
      · exact keyPl hk1' A1.p1 v h
      rcases List.mem_append.mp h with h | h
      · exact keyPl hk2' A1.p2 v h
      · rw [List.append_nil] at h
        exact keyPl hk3' A1.p3 v h
    rotate_left
    · obtain ⟨u, hu, hs⟩ := (firstBad_sim sims []).2 v hfb
      have hd : dueP cs k1 k2 k3 k5 = some (("BadName" : Str), u) := by
        unfold dueP
        rw [hu]
      refine (qb "BadName" u v hd ?_).go (eC.trans eL)
      rcases hs with h | ⟨i, h1, h2⟩
      · exact .inl h.symm
      · exact .inr ⟨i, h2, h1⟩
    have hfb0 := (firstBad_sim sims []).1 hfb
    obtain ⟨zs, l1, l2, l3, AO⟩ := allOk hfb0
    obtain ⟨rfl, rfl, rfl, rfl, nd, okn⟩ := AO
    obtain ⟨ndz, nd1, _⟩ := List.nodup_append.mp nd
    obtain ⟨nda, nd2, _⟩ := List.nodup_append.mp nd1
    obtain ⟨ndb, ndc, _⟩ := List.nodup_append.mp nd2
    have okz : ∀ z ∈ zs, okName z = true := fun z hz => okn z (List.mem_append_left _ hz)
    have ok1 := keysOk rfl A1.l1 nda fun z hz => okn z (List.mem_append_right _ (List.mem_append_left _ hz))
    have ok2 := keysOk rfl A1.l2 ndb fun z hz => okn z (List.mem_append_right _ (List.mem_append_right _ (List.mem_append_left _ hz)))
    have ok3 := keysOk rfl A1.l3 ndc fun z hz => okn z (List.mem_append_right _ (List.mem_append_right _ (List.mem_append_right _ hz)))
    have e12 : Ex Hc1 H2 := eL.trans e2
    /- the dicts told as dicts of texts from here on -/
    refine ⟨vw H2 d1 d2 d3 l1 l2 l3, vw_down A1.n12 A1.n13 A1.n23 ((eC.trans e12) _ _ A1.h1) ((eC.trans e12) _ _ A1.h2) ((eC.trans e12) _ _ A1.h3), ?_⟩
    have h1v := (eC.trans e12) _ _ A1.h1
    have h2v := (eC.trans e12) _ _ A1.h2
    have h3v := (eC.trans e12) _ _ A1.h3
    have eVV : Ex (vw H1 d1 d2 d3 l1 l2 l3) (vw H2 d1 d2 d3 l1 l2 l3) := vw_ex (eC.trans e12)
    have nx : ∀ {b : Addr} {o : HO}, H1 b = some o → x ≠ b := fun h q => by rw [q, h] at hx1; cases hx1
    have hVx : vw H1 d1 d2 d3 l1 l2 l3 x = none := (vw_ne (nx A1.h1) (nx A1.h2) (nx A1.h3)).trans hx1
    have hx2 : vw H2 d1 d2 d3 l1 l2 l3 x = some (.ins (cN K) dx []) := (vw_ne (nx A1.h1) (nx A1.h2) (nx A1.h3)).trans (e12 _ _ hc1)
    have htb2 : SqL K (vw H2 d1 d2 d3 l1 l2 l3) tb [.ref d1, .ref d2, .ref d3] := vw_l h1v h2v h3v (sq_of (e12 _ _ (fm1.sub _ _ htb)))
    have hac2 : SqL K (vw H1 d1 d2 d3 l1 l2 l3) ac (zs.map V.str) := vw_l A1.h1 A1.h2 A1.h3 A1.c
    have hb1 := vw_1 (H := H1) (l1 := l1) (l2 := l2) (l3 := l3) A1.n12 A1.n13
    have hb2 := vw_2 (H := H1) (d1 := d1) (l1 := l1) (l2 := l2) (l3 := l3) A1.n23
    have hb3 := vw_3 (H := H1) (d1 := d1) (d2 := d2) (d3 := d3) (l1 := l1) (l2 := l2) (l3 := l3)
    have hb5 : vw H1 d1 d2 d3 l1 l2 l3 d5 = some (dL P w d5 k5) := (vw_ne (Ne.symm A1.n15) (Ne.symm A1.n25) (Ne.symm A1.n35)).trans A1.h5
    have hq6 := vw_t A1.h1 A1.h2 A1.h3 he6
    have hq7 := vw_t A1.h1 A1.h2 A1.h3 he7
    have pq : ∀ {v : V}, Pl K H1 v → Pl K (vw H1 d1 d2 d3 l1 l2 l3) v := fun h => vw_pl A1.h1 A1.h2 A1.h3 h
    have bad : ∀ {n : Str} {v : V}, dueP (zs.map V.str) (tkL l1) (tkL l2) (tkL l3) k5 = some (n, v) → BadE K n v (vw H1 d1 d2 d3 l1 l2 l3) (eView P w E) := fun hd => (qb _ _ _ hd (Sim.refl _)).vw A1.n12 A1.n13 A1.n23 A1.h1 A1.h2 A1.h3
    have fin : ∀ {H' : Hp}, Ex (vw H1 d1 d2 d3 l1 l2 l3) H' → ∃ H'', View P w H' H'' ∧ Ex H1 H'' ∧ ∀ b, b ≠ d1 → b ≠ d2 → b ≠ d3 → H'' b = H' b := fun e => vw_up A1.n12 A1.n13 A1.n23 A1.h1 A1.h2 A1.h3 e
    have nxd : ∀ (b : Addr), H1 b = none → b ≠ d1 ∧ b ≠ d2 ∧ b ≠ d3 := fun b hb => ⟨fun q => (by rw [q, A1.h1] at hb; cases hb), fun q => (by rw [q, A1.h2] at hb; cases hb), fun q => (by rw [q, A1.h3] at hb; cases hb)⟩
    have hV1 : ∀ b, vw H1 d1 d2 d3 l1 l2 l3 b = none → H1 b = none := fun b hb => by
      have m1 : b ≠ d1 := fun q => by rw [q, hb1] at hb; cases hb
      have m2 : b ≠ d2 := fun q => by rw [q, hb2] at hb; cases hb
      have m3 : b ≠ d3 := fun q => by rw [q, hb3] at hb; cases hb
      rw [vw_ne m1 m2 m3] at hb
      exact hb
    have due0 : dueP (zs.map V.str) (tkL l1) (tkL l2) (tkL l3) k5 = dueN l1 l2 l3 k5 := by
      unfold dueP
      rw [hfb0]
      dsimp only
      rw [tx_tkL, tx_tkL, tx_tkL]
    generalize hW : vw H1 d1 d2 d3 l1 l2 l3 = W1 at *
    generalize hW2 : vw H2 d1 d2 d3 l1 l2 l3 = W2 at *
    have hG0 : GV.del x W2 x = none := GV.del_same
    have eG : Ex (GV.del x W2) W2 := fun b o h => by
      by_cases q : b = x
      · rw [q, GV.del_same] at h
        cases h
      · rw [GV.del_ne q] at h
        exact h
    have e1G : Ex W1 (GV.del x W2) := GV.del_ex eVV hVx
    have fm2 : Fm (GV.del x W2) (GV.del x W2) (GV.del x W2) W2 := Fm.gr (Ex.refl _) eG
    have htbG : SqL K (GV.del x W2) tb [.ref d1, .ref d2, .ref d3] := by
      have ntb : tb ≠ x := ne_of_none htb hk1
      rcases htb2 with (h | ⟨o, h⟩) | h
      · exact .inl (.inl ((GV.del_ne ntb).trans h))
      · exact .inl (.inr ⟨o, (GV.del_ne ntb).trans h⟩)
      · exact .inr h
    have ixs2 : ∀ {Hq : Hp} {σ : L2.St} (i : Int) (d : Addr), Ex (GV.del x W2) Hq → σ[8]? = some (some (.ref tb)) → atI [V.ref d1, .ref d2, .ref d3] i = some (.ref d) → Ev (tOp (rIxL K) (tVar 8) (tC (.int i))) σ Hq (.ref d) := fun {Hq σ} i d e hσ ha => ev_op (ev_var hσ) ev_c (rv_ixL (ex_l e htbG) ha)
    have hall : zs.length ≤ 100 := by
      have := A1.lc
      rw [List.length_map] at this
      exact this
    /- self.constants -/
    refine g_fld (x := x) fm2 (gv_tupOf (K := K) (gv_lcB (l := true) (g := gName 10) (N := zs.length) (fun i us _ => us = (zs.take i).map V.str) (ev_var rfl) (ex_l e1G hac2) (fun _ _ _ _ _ h => h) (fun i us _ h => ?_) (fun _ _ => rfl) ?_) fun _ _ _ _ h => h) rfl hx2 hG0 hG0 (T.cls 89 rfl) (T.na 113 rfl) (by show 0 < 1000; decide) ?_
    · rw [h, List.length_map, List.length_take]
      omega
    · intro Hs e3 i v us hi hus H4 e5
      rw [List.getElem?_map] at hi
      obtain ⟨z, hz, rfl⟩ : ∃ z, zs[i]? = some z ∧ v = V.str z := by
        cases hzi : zs[i]? with
        | none => rw [hzi] at hi; cases hi
        | some z => rw [hzi] at hi; exact ⟨z, rfl, (Option.some.inj hi).symm⟩
      have hokz := okz z (List.mem_of_getElem? hz)
      have hlz := okName_len hokz
      refine ⟨rfl, rfl, true, fun H5 e6 Q5 k5 => k5 H5 (Ex.refl H5), fun _ => gv_w (gv_ev (v := .str z) (ev_call (sp := spName K) (vs := [.str z]) (ea_cons (ev_var rfl) ea_nil) fun H6 e6 Q6 k6 E6 => ⟨.str z, "str", rfl, .base (.str z), (kb_str z).s, fun z2 hz2 => by cases hz2; omega, fun H7 e7 => ?_⟩)) fun v H6 e6 hv => ?_, fun z => nomatch z⟩
      · rw [nam_ok hokz]
        exact k6 H7 e7
      · rw [show v = _ from hv, show us = _ from hus]
        show _ = (zs.take (i + 1)).map V.str
        rw [take_one hz, List.map_append]
        rfl
    rintro _ Hk3 Hc3 fm3 ek3 hk3 ⟨c, ucs, rfl, hc0, hc, hcs⟩
    have hcc : Hk3 c = some (.tup (zs.map V.str)) := by
      rw [hc, show ucs = _ from hcs, List.length_map, List.take_length]
    have ew3 : Ex W1 Hk3 := e1G.trans ek3
    /- self._functions, self._tests, self._deeds -/
    refine g_fld (x := x) fm3 (gv_nums (as := [1, 2]) (E := eView P w E) (ixs2 0 d1 ek3 rfl rfl) (ew3 _ _ hb1) (fun H' e' => ea_cons ev_c (ea_cons ev_c ea_nil)) (by show 2 ≤ 1000; decide) ok1 (fun p hp => (pq (A1.p1 (Leaf.text p.1, p.2) (List.mem_map_of_mem hp)).1).ex ew3) fun z hz => (bad (by rw [due0, dueN, hz])).go ew3) rfl upd_same hG0 hk3 (T.cls 89 rfl) (T.na 110 rfl) (by show 1 < 1000; decide) ?_
    rintro _ Hk4 Hc4 fm4 ek4 hk4 ⟨f, rfl, hf0, hf, hn1⟩
    have ek14 := ek3.trans ek4
    have ew4 := ew3.trans ek4
    refine g_fld (x := x) fm4 (gv_nums (as := [1, 2]) (E := eView P w E) (ixs2 1 d2 ek14 rfl rfl) (ew4 _ _ hb2) (fun H' e' => ea_cons ev_c (ea_cons ev_c ea_nil)) (by show 2 ≤ 1000; decide) ok2 (fun p hp => (pq (A1.p2 (Leaf.text p.1, p.2) (List.mem_map_of_mem hp)).1).ex ew4) fun z hz => (bad (by rw [due0, dueN, hn1]; dsimp only; rw [hz])).go ew4) rfl upd_same hG0 hk4 (T.cls 89 rfl) (T.na 112 rfl) (by show 2 < 1000; decide) ?_
    rintro _ Hk5 Hc5 fm5 ek5 hk5 ⟨t, rfl, ht0, ht, hn2⟩
    have ek15 := ek14.trans ek5
    have ew5 := ew4.trans ek5
    refine g_fld (x := x) fm5 (gv_nums (as := [0, 1, 2]) (E := eView P w E) (ixs2 2 d3 ek15 rfl rfl) (ew5 _ _ hb3) (fun H' e' => ea_cons ev_c (ea_cons ev_c (ea_cons ev_c ea_nil))) (by show 3 ≤ 1000; decide) ok3 (fun p hp => (pq (A1.p3 (Leaf.text p.1, p.2) (List.mem_map_of_mem hp)).1).ex ew5) fun z hz => (bad (by rw [due0, dueN, hn1]; dsimp only; rw [hn2]; dsimp only; rw [hz])).go ew5) rfl upd_same hG0 hk5 (T.cls 89 rfl) (T.na 108 rfl) (by show 3 < 1000; decide) ?_
    rintro _ Hk6 Hc6 fm6 ek6 hk6 ⟨g, rfl, hg0, hg, hn3⟩
    have ew6 := ew5.trans ek6
    have hf6 := (ek5.trans ek6) _ _ hf
    have ht6 := ek6 _ _ ht
    have hd6 := ew6 _ _ hb5
    have dueR : ∀ k, badRule (nums l1) (nums l2) false k5 = some k → dueP (zs.map V.str) (tkL l1) (tkL l2) (tkL l3) k5 = some (("BadRule" : Str), lv k) := fun k hk => by
      rw [due0, dueN, hn1]
      dsimp only
      rw [hn2]
      dsimp only
      rw [hn3]
      dsimp only
      rw [hk]
      rfl
    have dueN' : badRule (nums l1) (nums l2) false k5 = none → dueP (zs.map V.str) (tkL l1) (tkL l2) (tkL l3) k5 = none := fun hk => by
      rw [due0, dueN, hn1]
      dsimp only
      rw [hn2]
      dsimp only
      rw [hn3]
      dsimp only
      rw [hk]
      rfl
    have fxn : ∀ {a : Addr} {o : HO}, Hk6 a = some o → a ≠ x := fun h => ne_of_none h hk6
    have nz : ∀ {b : Addr}, GV.del x W2 b = none → H1 b = none := fun h => hV1 _ (fresh_back e1G h)
    have hd5f : d5 ≠ f := fun q => by
      have z := (e1G.trans ek3) _ _ hb5
      rw [q, hf0] at z
      cases z
    have hd5t : d5 ≠ t := fun q => by
      have z := ew4 _ _ hb5
      rw [q, ht0] at z
      cases z
    /- self._rules -/
    refine g_fldX (x := x) (R := fun r _ => (∃ p, r = .ref p) ∧ badRule (nums l1) (nums l2) false k5 = none) fm6 upd_same hG0 hk6 (fun Ha ea Q q => ⟨_, rfl, x, dx, _, rfl, ea _ _ upd_same, rfl, ?_⟩) rfl (T.cls 89 rfl) (T.na 111 rfl) (by show 4 < 1000; decide) ?_
    · refine (gv_if (b := false) (et_test (ev_op (ev_var (v := .ref d5) rfl) ev_c rv_is0)) (fun z => nomatch z) fun _ => gv_ev (ev_var (v := .ref d5) rfl)) Ha ea _ fun u H' H1' gg hu => ?_
      rw [show u = _ from hu]
      have hff : H' f = some (.dK (numK (nums l1))) := gg.ex _ _ (by rw [upd_ne (fxn hf6)]; exact hf6)
      have htt : H' t = some (.dK (numK (nums l2))) := gg.ex _ _ (by rw [upd_ne (fxn ht6)]; exact ht6)
      have h55 : H' d5 = some (dL P w d5 k5) := gg.ex _ _ (by rw [upd_ne (fxn hd6)]; exact hd6)
      have eW : Ex W1 H1' := fun b o hb => by
        have z := ew6 _ _ hb
        exact gg.sub _ _ (gg.ex _ _ (by rw [upd_ne (fxn z)]; exact z))
      refine ⟨x, dx, f, t, d5, _, nums l1, nums l2, k5, rfl, gg.sub _ _ (gg.ex _ _ upd_same), rfl, rfl, rfl, gg.sub _ _ hff, gg.sub _ _ htt, gg.sub _ _ h55, hd5f, hd5t, fxn hd6, by have := A1.l5; omega, A1.nd5, fun p hp => ⟨(pq (A1.p5 p hp).1).ex eW, (A1.p5 p hp).2⟩, fun hn p rs H2' hp e2' h2' => ?_, fun k y hk hy => ?_⟩
      · exact q (.ref p) (upd H' p _) H2' (gg.trans ((Fm.gr gg.sub e2').know hp h2' (fresh_back gg.sub hp))) ⟨⟨p, rfl⟩, hn⟩
      · have hb := dueR k hk
        have z := ((qb _ _ y hb (sim_key (lV_lv k) hy)).vw (P := P) (w := w) (l1 := l1) (l2 := l2) (l3 := l3) A1.n12 A1.n13 A1.n23 A1.h1 A1.h2 A1.h3)
        rw [hW] at z
        exact z.go eW
    rintro _ Hk7 Hc7 fm7 ek7 hk7 ⟨⟨r, rfl⟩, hnR⟩
    /- self._facts -/
    refine g_fldX (x := x) (R := fun r H' => ∃ p, r = .ref p ∧ H' p = some (.tup [])) fm7 upd_same hG0 GV.del_same (fun Ha ea Q q => ⟨_, rfl, x, dx, _, rfl, ea _ _ upd_same, rfl, .ref e6, rfl, .ref x, e6, rfl, ex_t ((ew6.trans ek7).trans ((Ex.new GV.del_same).trans ea)) hq6, fun p H2' hp e2' h2' => q (.ref p) (upd _ p _) H2' ((Fm.gr ea e2').know hp h2' (fresh_back ea hp)) ⟨p, rfl, upd_same⟩⟩) rfl (T.cls 89 rfl) (T.na 109 rfl) (by show 5 < 1000; decide) ?_
    rintro _ Hk8 Hc8 fm8 ek8 hk8 ⟨fa, rfl, hfa8⟩
    /- self._apart -/
    refine g_fldX (x := x) (R := fun r H' => ∃ p, r = .ref p ∧ H' p = some (.tup [])) fm8 upd_same hG0 GV.del_same (fun Ha ea Q q => ⟨_, rfl, x, dx, _, rfl, ea _ _ upd_same, rfl, .ref e7, rfl, .ref x, e7, rfl, ex_t (((ew6.trans ek7).trans ek8).trans ((Ex.new GV.del_same).trans ea)) hq7, fun p H2' hp e2' h2' => q (.ref p) (upd _ p _) H2' ((Fm.gr ea e2').know hp h2' (fresh_back ea hp)) ⟨p, rfl, upd_same⟩⟩) rfl (T.cls 89 rfl) (T.na 107 rfl) (by show 6 < 1000; decide) ?_
    rintro _ Hk9 Hc9 fm9 ek9 hk9 ⟨ap, rfl, hap9⟩
    have ew9 : Ex W1 (upd Hc9 x (.ins (cN K) dx (putF "_apart" (.ref ap) (putF "_facts" (.ref fa) (putF "_rules" (.ref r) (putF "_deeds" (.ref g) (putF "_tests" (.ref t) (putF "_functions" (.ref f) (putF "constants" (.ref c) []))))))))) := (((ew6.trans ek7).trans ek8).trans ek9).trans fm9.sub
    obtain ⟨H'', vv, eH, keep⟩ := fin ew9
    refine ⟨H'', vv, ?_⟩
    have at' : ∀ {b : Addr} {o : HO}, upd Hc9 x (.ins (cN K) dx (putF "_apart" (.ref ap) (putF "_facts" (.ref fa) (putF "_rules" (.ref r) (putF "_deeds" (.ref g) (putF "_tests" (.ref t) (putF "_functions" (.ref f) (putF "constants" (.ref c) [])))))))) b = some o → (∀ d k, o ≠ .dK k) → H'' b = some o := fun {b o} hb no => by
      refine (keep b (fun q => ?_) (fun q => ?_) fun q => ?_).trans hb
      · rw [q, ew9 _ _ hb1] at hb
        exact no 0 _ (Option.some.inj hb).symm
      · rw [q, ew9 _ _ hb2] at hb
        exact no 0 _ (Option.some.inj hb).symm
      · rw [q, ew9 _ _ hb3] at hb
        exact no 0 _ (Option.some.inj hb).symm
    have hxx := at' (upd_same (H := Hc9) (a := x)) (fun _ _ z => nomatch z)
    have hc9 : H'' c = some (.tup (zs.map V.str)) := at' ((((((ek4.trans ek5).trans ek6).trans ek7).trans ek8).trans ek9).trans fm9.sub _ _ hcc) (fun _ _ z => nomatch z)
    have nfa : fa ≠ x := ne_of hfa8 hk8 fun z => nomatch z
    have nap : ap ≠ x := ne_of hap9 hk9 fun z => nomatch z
    have hfa9 : H'' fa = some (.tup []) := at' ((ek9.trans fm9.sub) _ _ ((GV.del_ne nfa).trans hfa8)) (fun _ _ z => nomatch z)
    have hap9' : H'' ap = some (.tup []) := at' (fm9.sub _ _ ((GV.del_ne nap).trans hap9)) (fun _ _ z => nomatch z)
    refine s_when (b := false) (et_not (a := true) (et_B fun H2' e2' Q2 k2 => ⟨_, rfl, x, dx, _, rfl, e2' _ _ hxx, rfl, x, dx, c, fa, ap, _, _, _, zs, rfl, e2' _ _ hxx, rfl, rfl, rfl, rfl, rfl, ex_t e2' (SqT.of hc9), by omega, ex_t e2' (SqT.of hfa9), ex_t e2' (SqT.of hap9'), k2⟩)) (fun z => nomatch z) fun _ H2' e2' => ?_
    exact qn (dueN' hnR) _ (eH.trans e2')
end
end K3
namespace K3
open PySem PySem.Spec PyProof.Rows L2 Evl GV LD
section
variable {K : PySem.W.Frag} {mg : Str → Option Value} {P : Program} {w : World} {base : Heap}
/-! ### _law_cell -/
def spC (K : PySem.W.Frag) : Sp := fun vs H Q _ => ∃ (l : Addr) (ns : List Int) (j : Nat), vs = [.ref l, .int (j : Nat)] ∧ SqL K H l (ns.map V.int) ∧ ns.length ≤ 1000 ∧ RetV (.int (ns.getD j 0)) H Q
theorem sc_cell : FnScope ["_law_script", "_law_k"] ["_law_script", "_law_k"] (defScope (top 30)) := ⟨rfl, rfl, rfl, by decide +kernel, rfl, by decide +kernel, by decide +kernel⟩
theorem atI_nat {xs : List V} {j : Nat} {v : V} (h : xs[j]? = some v) : atI xs (j : Int) = some v := by
  have hj := (List.getElem?_eq_some_iff.mp h).1
  unfold atI ixN
  rw [if_pos (by omega), if_pos (by omega)]
  simpa using h
theorem ok_cell (T : Tx K mg) : ∃ fd, FnOk P w K mg base CX0 1 (He.ga K "_law_cell") fd ["_law_script", "_law_k"] (spC K) ∧ Binds K fd ["_law_script", "_law_k"] [] ∧ PySem.W.keepIn K (.ref (He.ga K "_law_cell")) = true := by
  obtain ⟨fd, F⟩ := T.d.def_ 10 (d := d__law_cell) rfl
  refine ⟨fd, F.ok sc_cell (fun vs H Q E h => ?_) (fun cdv A outer s H vs Q E hr h => ?_), FunD.bindsN F fun _ _ _ _ _ _ us hl => match us, hl with | [_, _], _ => rfl, F.kp⟩
  · obtain ⟨_, _, _, rfl, _⟩ := h
    rfl
  · refine ⟨_, PSs.nox (pss_cons (ps_if (pt_cmpR op_lt (pv 1) (pe_callB call_len (by rfl) (T.fr 33 rfl) PySem.boot_len (pa_cons (pv 0) pa_nil)) (nomark _)) (pss_one (ps_ret (pe_ix ix_list (pv 0) (pv 1) fun _ _ => rfl))) pss_nil)
      (pss_one (ps_ret pe_int))), ?_⟩
    obtain ⟨l, ns, j, rfl, hl, hn, q⟩ := h
    refine q_when (b := decide (((j : Nat) : Int) < ((ns.map V.int).length : Nat))) (et_test (ev_op (ev_var rfl) (ev_lenV (K := K) (ev_var rfl) (.inl hl)) rv_I0)) (fun hb H1 e1 => ?_) (fun hb H1 e1 => ?_)
    · have hj : j < ns.length := by
        have := of_decide_eq_true hb
        rw [List.length_map] at this
        omega
      refine s_ret (v := .int (ns.getD j 0)) (ev_op (ev_var rfl) (ev_var rfl) (rv_ixL (ex_l e1 hl) (atI_nat ?_))) fun H2 e2 => q H2 (e1.trans e2)
      rw [List.getElem?_map, List.getElem?_eq_getElem hj, List.getD_eq_getElem?_getD, List.getElem?_eq_getElem hj]
      rfl
    · have hj : ¬ j < ns.length := fun h => by
        have := of_decide_eq_false hb
        rw [List.length_map] at this
        omega
      rw [List.getD_eq_getElem?_getD, List.getElem?_eq_none (by omega)] at q
      exact s_ret ev_c fun H2 e2 => q H2 (e1.trans e2)
/-! ### _law_row: of its numbers only their bounds are told -/
def RowOk (ss rs : List Int) : Prop := Paired (fun (s r : Int) => 0 ≤ r ∧ r < s) ss rs
def spRow (K : PySem.W.Frag) : Sp := fun vs H Q _ => ∃ (c : Int) (z : Addr) (ss : List Int), vs = [.int c, .ref z] ∧ SqL K H z (ss.map V.int) ∧ ss.length ≤ 1000 ∧ (∀ s ∈ ss, 0 < s ∧ s < 2 ^ 100) ∧ ∀ rs p H2, RowOk ss rs → H p = none → Ex H H2 → H2 p = some (.lst (rs.map V.int)) → Q (.ref p) H2
theorem sc_row : FnScope ["_law_cell_here", "_law_sizes", "_law_out", "_law_size", "_law_seed", "_law_k", "_law_mixed"] ["_law_cell_here", "_law_sizes"] (defScope (top 31)) := ⟨rfl, rfl, rfl, by decide +kernel, rfl, by decide +kernel, by decide +kernel⟩
def rInt1 : List V → Hp → VK → Prop := fun xs H Q => (∃ i, xs = [.int i] ∧ Q (.int i) H) ∨ ∃ k, xs = [.bl k] ∧ Q (.int (if k then 1 else 0)) H
theorem ev_int1 {σ : L2.St} {H : Hp} {te : TE} {i : Int} (h : Ev te σ H (.int i)) : Ev (tCB rInt1 (tCons te tNil)) σ H (.int i) := ev_cb (ea_cons h ea_nil) fun H1 _ Q q => .inl ⟨i, rfl, q H1 (Ex.refl H1)⟩
theorem emod_ok {i j : Int} (h : 0 < j) : 0 ≤ i % j ∧ i % j < j := ⟨Int.emod_nonneg i (by omega), Int.emod_lt_of_pos i h⟩
theorem ok_row (T : Tx K mg) : ∃ fd, FnOk P w K mg base CX0 1 (He.ga K "_law_row") fd ["_law_cell_here", "_law_sizes"] (spRow K) ∧ Binds K fd ["_law_cell_here", "_law_sizes"] [] ∧ PySem.W.keepIn K (.ref (He.ga K "_law_row")) = true := by
  obtain ⟨fd, F⟩ := T.d.def_ 11 (d := d__law_row) rfl
  refine ⟨fd, F.ok sc_row (fun vs H Q E h => ?_) (fun cdv A outer s H vs Q E hr h => ?_), FunD.bindsN F fun _ _ _ _ _ _ us hl => match us, hl with | [_, _], _ => rfl, F.kp⟩
  · obtain ⟨_, _, _, rfl, _⟩ := h
    rfl
  · refine ⟨_, PSs.nox (pss_cons (ps_set (i := 2) sc_row.nd rfl (Or.inl rfl) (pe_lst pa_nil))
      (pss_cons (ps_if (pt_cmpR op_ge (pv 0) (pe_op op_pow pe_int pe_int) (nomark _)) (pss_cons (ps_for PassesOwn.never rfl (pi_list (pv 1)) (pg_name (i := 3) sc_row.nd rfl (Or.inl rfl)) (pss_cons (ps_expr (pe_bm PySem.F.plainAttrs_list PySem.F.slot_list_append PySem.F.type_list_append mt_append (pv 2) (pa_cons (pe_op op_mod (pe_callTy call_int1 (by rfl) (T.fr 37 rfl) PyProof.Rows.boot_int (pa_cons (pv 0) pa_nil)) (pv 3)) pa_nil)))
      (pss_one (ps_set (i := 0) sc_row.nd rfl (Or.inl rfl) (pe_op op_fdivW (pv 0) (pv 3))))))
      (pss_one (ps_ret (pv 2)))) pss_nil)
      (pss_cons (ps_set (i := 4) sc_row.nd rfl (Or.inl rfl) (pe_op op_mod (pe_callTy call_int1 (by rfl) (T.fr 37 rfl) PyProof.Rows.boot_int (pa_cons (pv 0) pa_nil)) pe_int))
      (pss_cons (ps_for PassesOwn.never rfl (pi_range1 (by rfl) (T.fr 42 rfl) (pa_cons (pe_callB call_len (by rfl) (T.fr 33 rfl) PySem.boot_len (pa_cons (pv 1) pa_nil)) pa_nil)) (pg_name (i := 5) sc_row.nd rfl (Or.inl rfl)) (pss_cons (ps_set (i := 6) sc_row.nd rfl (Or.inl rfl) (pe_op op_add (pe_op op_mod (pe_callTy call_int1 (by rfl) (T.fr 37 rfl) PyProof.Rows.boot_int (pa_cons (pe_op op_pow (pe_op op_add (pe_op op_add (pv 4) (pe_op op_mul pe_int (pv 5))) pe_int) pe_int) pa_nil)) pe_int) (pv 5)))
      (pss_one (ps_expr (pe_bm PySem.F.plainAttrs_list PySem.F.slot_list_append PySem.F.type_list_append mt_append (pv 2) (pa_cons (pe_op op_mod (pe_callTy call_int1 (by rfl) (T.fr 37 rfl) PyProof.Rows.boot_int (pa_cons (pe_op op_mod (pe_callTy call_int1 (by rfl) (T.fr 37 rfl) PyProof.Rows.boot_int (pa_cons (pe_op op_mul (pv 6) pe_int) pa_nil)) pe_int) pa_nil)) (pe_ix ix_list (pv 1) (pv 5) fun _ _ => rfl)) pa_nil))))))
      (pss_one (ps_ret (pv 2))))))), ?_⟩
    obtain ⟨c, z, ss, rfl, hz, hn, hs, q⟩ := h
    refine q_lst0 fun p hp => ?_
    have ep : Ex H (upd H p (.lst [])) := Ex.new hp
    refine q_when (b := decide ((10 : Int) ^ (18 : Int).toNat ≤ c)) (et_test (ev_op (ev_var rfl) (ev_op ev_c ev_c (rv_I (by refine ⟨by decide, by decide, by decide⟩))) rv_I0)) (fun hb H1 e1 => ?_) (fun hb H1 e1 => ?_)
    · refine q_forLn (a := z) (xs := ss.map V.int) (ev_var rfl) (ex_l (ep.trans e1) hz) (fun i σ Hc => Ex H Hc ∧ (∃ c' x1 x2 x3 x4, σ = [some (.int c'), some (.ref z), some (.ref p), x1, x2, x3, x4]) ∧ ∃ rs, Hc p = some (.lst (rs.map V.int)) ∧ RowOk (ss.take i) rs)
        (fun H2 e2 => ⟨(ep.trans e1).trans e2, ⟨_, _, _, _, _, rfl⟩, [], (e1.trans e2) _ _ upd_same, .nil⟩) (fun i σ Hc _ h => ex_l h.1 hz) ?_ ?_
      · rintro i x σ Hc hi ⟨ex, ⟨c', x1, x2, x3, x4, rfl⟩, rs, hr1, hr2⟩
        rw [List.getElem?_map] at hi
        obtain ⟨sz, hsz, rfl⟩ := Option.map_eq_some_iff.mp hi
        obtain ⟨s0, s1⟩ := hs sz (List.mem_of_getElem? hsz)
        have hl := Paired.length hr2
        rw [List.length_take] at hl
        refine q_app hr1 (ev_var rfl) (ev_op (ev_int1 (ev_var rfl)) (ev_var rfl) (rv_I s0)) (by rw [List.length_map]; omega) fun H2 e2 => ?_
        refine s_asg (v := .int (c' / sz)) (ev_op (ev_var rfl) (ev_var rfl) (rv_I (wide_div (b := 100) s0 (by have := s1; have := s0; omega) (by decide) (by decide)))) fun H3 e3 => ?_
        refine ⟨?_, ⟨_, _, _, _, _, rfl⟩, rs ++ [c' % sz], ?_, ?_⟩
        · exact (Ex.mut (ex.trans e2) hp).trans e3
        · rw [e3 _ _ upd_same, List.map_append]
          rfl
        · have ht : ss.take (i + 1) = ss.take i ++ [sz] := by
            rw [List.take_add_one, hsz]
            rfl
          show RowOk (ss.take (i + 1)) _
          rw [ht]
          exact paired_app hr2 (emod_ok s0)
      · rintro σ Hc ⟨ex, ⟨c', x1, x2, x3, x4, rfl⟩, rs, hr1, hr2⟩
        rw [List.length_map, List.take_length] at hr2
        exact s_ret (ev_var rfl) fun H2 e2 => q rs p H2 hr2 hp (ex.trans e2) (e2 _ _ hr1)
    · refine q_asg (v := .int (c % 2147483647)) (ev_op (ev_int1 (ev_var rfl)) ev_c (rv_I (by decide))) fun H2 e2 => ?_
      have sd := emod_ok (i := c) (j := 2147483647) (by decide)
      refine q_forR1 (n := ((ss.map V.int).length : Nat)) (ea_cons (ev_lenV (K := K) (ev_var rfl) (.inl (ex_l ((ep.trans e1).trans e2) hz))) ea_nil) (by rw [List.length_map]; omega) (fun i σ Hc => Ex H Hc ∧ (∃ x1 x2 x3, σ = [some (.int c), some (.ref z), some (.ref p), x1, some (.int (c % 2147483647)), x2, x3]) ∧ ∃ rs, Hc p = some (.lst (rs.map V.int)) ∧ RowOk (ss.take i) rs)
        (fun H3 e3 => ⟨((ep.trans e1).trans e2).trans e3, ⟨_, _, _, rfl⟩, [], ((e1.trans e2).trans e3) _ _ upd_same, .nil⟩) ?_ ?_
      · rintro i σ Hc hi ⟨ex, ⟨x1, x2, x3, rfl⟩, rs, hr1, hr2⟩
        have hi' : i < ss.length := by
          rw [List.length_map] at hi
          omega
        have hsz : ss[i]? = some ss[i] := List.getElem?_eq_getElem hi'
        obtain ⟨s0, s1⟩ := hs ss[i] (List.getElem_mem hi')
        have hl := Paired.length hr2
        rw [List.length_take] at hl
        refine q_asg (v := .int ((c % 2147483647 + 7919 * (i : Int) + 104729) ^ (5 : Int).toNat % 2147483647 + (i : Int))) (ev_op (ev_op (ev_int1 (ev_op (ev_op (ev_op (ev_var rfl) (ev_op ev_c (ev_var rfl) (rv_I (by unfold CMul; omega))) rv_I0) ev_c rv_I0) ev_c (rv_I ⟨by decide, by decide, by omega⟩))) ev_c (rv_I (by decide))) (ev_var rfl) rv_I0) fun H3 e3 => ?_
        have mx := emod_ok (i := (c % 2147483647 + 7919 * (i : Int) + 104729) ^ (5 : Int).toNat) (j := 2147483647) (by decide)
        generalize hm : (c % 2147483647 + 7919 * (i : Int) + 104729) ^ (5 : Int).toNat % 2147483647 = m at mx
        refine s_app (e3 _ _ hr1) (ev_var rfl) (ev_op (ev_int1 (ev_op (ev_int1 (ev_op (ev_var rfl) ev_c (rv_I (by unfold CMul; omega)))) ev_c (rv_I (by decide)))) (ev_op (ev_var rfl) (ev_var rfl) (rv_ixL (ex_l (ex.trans e3) hz) (atI_nat (by rw [List.getElem?_map, hsz]; rfl)))) (rv_I s0)) (by rw [List.length_map]; omega) fun H4 e4 => ?_
        refine ⟨Ex.mut ((ex.trans e3).trans e4) hp, ⟨_, _, _, rfl⟩, rs ++ [(m + (i : Int)) * 40692 % 2147483629 % ss[i]], ?_, ?_⟩
        · rw [upd_same, List.map_append]
          rfl
        · have ht : ss.take (i + 1) = ss.take i ++ [ss[i]] := by
            rw [List.take_add_one, hsz]
            rfl
          show RowOk (ss.take (i + 1)) _
          rw [ht]
          exact paired_app hr2 (emod_ok s0)
      · rintro σ Hc ⟨ex, ⟨x1, x2, x3, rfl⟩, rs, hr1, hr2⟩
        rw [show ((ss.map V.int).length : Int).toNat = ss.length by rw [List.length_map]; rfl, List.take_length] at hr2
        exact s_ret (ev_var rfl) fun H2 e2 => q rs p H2 hr2 hp (ex.trans e2) (e2 _ _ hr1)
end
end K3
/-! general: == of two dicts with flat values, both answers; of data -/
namespace GQ2
open PySem PySem.Spec PyProof.Rows L2 Evl GV
/-- whether two dicts are the same, their order aside -/
def dEq (ks ls : List (Key × V)) : Bool := (ks.length == ls.length) && ks.all fun p => match valV ls p.1 with
  | none => false
  | some u => eqV p.2 u
theorem hits_flat {P : Program} {w : World} {A : Around} {s : Shared} {ls : List (Key × V)} {vb : List (Key × Value)} (rb : KV ls vb) (fl : ∀ p ∈ ls, flatV p.2 = true) : ∀ {ks : List (Key × V)} {va : List (Key × Value)}, KV ks va → (∀ p ∈ ks, flatV p.2 = true) →
    PySem.W.KeqHitsP P w A s vb va (ks.all fun p => match valV ls p.1 with
      | none => false
      | some u => eqV p.2 u) := by
  intro ks va ra
  unfold KV at ra
  induction ra with
  | nil => exact fun _ => .nil
  | @cons p q ps qs h t ih =>
    intro fk
    obtain ⟨g1, g2⟩ := h
    obtain ⟨key, v⟩ := q
    have g1' : p.1 = key := g1
    have rr : RelO (valV ls key) (valueAt vb key) := rb.val key
    rw [List.all_cons, g1']
    cases hv : valV ls key with
    | none =>
      rw [hv] at rr
      cases hw : valueAt vb key with
      | none => exact .miss hw
      | some y => rw [hw] at rr; exact (show False from rr).elim
    | some u =>
      rw [hv] at rr
      obtain ⟨y, hy, ry⟩ := rr.some_of
      have fu : flatV u = true := by
        unfold valV at hv
        obtain ⟨kv, hkv, rfl⟩ := Option.map_eq_some_iff.mp hv
        exact fl kv (List.mem_of_find?_eq_some hkv)
      exact .hit hy (eqAt_V g2 ry (fk p List.mem_cons_self) fu).eqP (ih fun p' hp' => fk p' (List.mem_cons_of_mem _ hp'))
def rEqK : R2 := fun x y H Q => ∃ a b ks ls, x = .ref a ∧ y = .ref b ∧ H a = some (.dK ks) ∧ H b = some (.dK ls) ∧ (∀ p ∈ ks, flatV p.2 = true) ∧ (∀ p ∈ ls, flatV p.2 = true) ∧ Q (.bl (dEq ks ls)) H
theorem op_eqK {X : Cx} (hu : X.A.units < cLine) : OpR X (compareOp .Eq) rEqK := by
  intro pins s σ H x y v u Q I rx ry h
  obtain ⟨a, b, ks, ls, rfl, rfl, ha, hb, fk, fl, q⟩ := h
  cases (show v = Value.ref a from rx)
  cases (show u = Value.ref b from ry)
  obtain ⟨_, ya, va, ra, da⟩ := dk_of I.hok ha
  obtain ⟨_, yb, vb, rb, db⟩ := dk_of I.hok hb
  refine PySem.W.rcP_dicts (knd := mixKind X.prog X.w) ya yb da db hu (fun _ => hits_flat rb fl ra fk) _ _ ⟨.bl _, H, I, ?_, q⟩
  show Value.bool _ = Value.bool _
  unfold dEq
  rw [KV.length ra, KV.length rb]
theorem hits_flatA {A : Around} {s : Shared} {ls : List (Key × V)} {vb : List (Key × Value)} (rb : KV ls vb) (fl : ∀ p ∈ ls, flatV p.2 = true) : ∀ {ks : List (Key × V)} {va : List (Key × Value)}, KV ks va → (∀ p ∈ ks, flatV p.2 = true) →
    PySem.W.KeqHits A s vb va (ks.all fun p => match valV ls p.1 with
      | none => false
      | some u => eqV p.2 u) := by
  intro ks va ra
  unfold KV at ra
  induction ra with
  | nil => exact fun _ => .nil
  | @cons p q ps qs h t ih =>
    intro fk
    obtain ⟨g1, g2⟩ := h
    obtain ⟨key, v⟩ := q
    have g1' : p.1 = key := g1
    have rr : RelO (valV ls key) (valueAt vb key) := rb.val key
    rw [List.all_cons, g1']
    cases hv : valV ls key with
    | none =>
      rw [hv] at rr
      cases hw : valueAt vb key with
      | none => exact .miss hw
      | some y => rw [hw] at rr; exact (show False from rr).elim
    | some u =>
      rw [hv] at rr
      obtain ⟨y, hy, ry⟩ := rr.some_of
      have fu : flatV u = true := by
        unfold valV at hv
        obtain ⟨kv, hkv, rfl⟩ := Option.map_eq_some_iff.mp hv
        exact fl kv (List.mem_of_find?_eq_some hkv)
      exact .hit hy (eqAt_V g2 ry (fk p List.mem_cons_self) fu) (ih fun p' hp' => fk p' (List.mem_cons_of_mem _ hp'))
def rNeK : R2 := fun x y H Q => ∃ a b ks ls, x = .ref a ∧ y = .ref b ∧ H a = some (.dK ks) ∧ H b = some (.dK ls) ∧ (∀ p ∈ ks, flatV p.2 = true) ∧ (∀ p ∈ ls, flatV p.2 = true) ∧ Q (.bl (!dEq ks ls)) H
theorem op_neK {X : Cx} (hu : X.A.units < cLine) : OpR X (compareOp .NotEq) rNeK := by
  intro pins s σ H x y v u Q I rx ry h
  obtain ⟨a, b, ks, ls, rfl, rfl, ha, hb, fk, fl, q⟩ := h
  cases (show v = Value.ref a from rx)
  cases (show u = Value.ref b from ry)
  obtain ⟨_, ya, va, ra, da⟩ := dk_of I.hok ha
  obtain ⟨_, yb, vb, rb, db⟩ := dk_of I.hok hb
  refine PySem.W.keq_ne (knd := mixKind X.prog X.w) ya yb da db hu (fun _ => hits_flatA rb fl ra fk) ⟨.bl _, H, I, ?_, q⟩
  show Value.bool _ = Value.bool _
  unfold dEq
  rw [KV.length ra, KV.length rb]
section
variable {K : PySem.W.Frag} {σ : L2.St} {H : Hp} {ta tb : TE}
theorem rv_eqK {a b : Addr} {ks ls : List (Key × V)} (ha : H a = some (.dK ks)) (hb : H b = some (.dK ls)) (fk : ∀ p ∈ ks, flatV p.2 = true) (fl : ∀ p ∈ ls, flatV p.2 = true) : RV rEqK (.ref a) (.ref b) H (.bl (dEq ks ls)) :=
  fun H1 e Q q => ⟨a, b, ks, ls, rfl, rfl, e _ _ ha, e _ _ hb, fk, fl, q H1 (Ex.refl H1)⟩
theorem rv_neK {a b : Addr} {ks ls : List (Key × V)} (ha : H a = some (.dK ks)) (hb : H b = some (.dK ls)) (fk : ∀ p ∈ ks, flatV p.2 = true) (fl : ∀ p ∈ ls, flatV p.2 = true) : RV rNeK (.ref a) (.ref b) H (.bl (!dEq ks ls)) :=
  fun H1 e Q q => ⟨a, b, ks, ls, rfl, rfl, e _ _ ha, e _ _ hb, fk, fl, q H1 (Ex.refl H1)⟩
mutual
theorem dp_ex {H H' : Hp} (e : Ex H H') : ∀ (d : PyData) (v : V), Dp K H v d → Dp K H' v d
  | .none, _, h => by cases h; exact .non
  | .bool _, _, h => by cases h; exact .bl _
  | .int _, _, h => by cases h; exact .int _
  | .str _, _, h => by cases h; exact .str _
  | .list ds, _, h => by
    cases h with
    | lst a b => exact .lst (ex_l e a) (dpAll_ex e ds _ b)
  | .tuple ds, _, h => by
    cases h with
    | tup a b => exact .tup (ex_t e a) (dpAll_ex e ds _ b)
  | .dict _, _, h => by cases h
theorem dpAll_ex {H H' : Hp} (e : Ex H H') : ∀ (ds : List PyData) (vs : List V), DpAll K H vs ds → DpAll K H' vs ds
  | [], _, h => by cases h; exact .nil
  | d :: ds, _, h => by
    cases h with
    | cons a b => exact .cons (dp_ex e d _ a) (dpAll_ex e ds _ b)
end
theorem rv_eqD {x y : V} {d e : PyData} (hx : Dp K H x d) (hy : Dp K H y e) (sd : SeqAt.shaped d = true) (se : SeqAt.shaped e = true) : RV (rEqD K) x y H (.bl (PyData.eqv d e)) :=
  fun H1 ex Q q => ⟨d, e, dp_ex ex _ _ hx, dp_ex ex _ _ hy, sd, se, q H1 (Ex.refl H1)⟩
theorem rv_neD {x y : V} {d e : PyData} (hx : Dp K H x d) (hy : Dp K H y e) (sd : SeqAt.shaped d = true) (se : SeqAt.shaped e = true) : RV (rNeD K) x y H (.bl (!PyData.eqv d e)) :=
  fun H1 ex Q q => ⟨d, e, dp_ex ex _ _ hx, dp_ex ex _ _ hy, sd, se, q H1 (Ex.refl H1)⟩
theorem dp_strs (H : Hp) : ∀ zs : List Str, DpAll K H (zs.map V.str) (zs.map PyData.str)
  | [] => .nil
  | z :: zs => .cons (.str z) (dp_strs H zs)
end
/-! ### data whose equality is equality -/
mutual
/-- neither a number nor a dict within: == is then the same as being the same -/
def plain : PyData → Bool
  | .none => true
  | .bool _ => true
  | .int _ => false
  | .str _ => true
  | .list xs => plains xs
  | .tuple xs => plains xs
  | .dict _ => false
def plains : List PyData → Bool
  | [] => true
  | x :: xs => plain x && plains xs
end
mutual
theorem eqv_iff : ∀ (d e : PyData), plain d = true → plain e = true → (PyData.eqv d e = true ↔ d = e)
  | .none, e, _, _ => by cases e <;> simp [PyData.eqv]
  | .bool b, e, _, he => by cases e <;> simp_all [PyData.eqv, plain]
  | .int _, _, h, _ => by simp [plain] at h
  | .str x, e, _, _ => by cases e <;> simp [PyData.eqv]
  | .list xs, e, h, he => by
    cases e with
    | list ys =>
      rw [PyData.eqv, eqvs_iff xs ys (by simpa [plain] using h) (by simpa [plain] using he)]
      simp
    | _ => simp [PyData.eqv]
  | .tuple xs, e, h, he => by
    cases e with
    | tuple ys =>
      rw [PyData.eqv, eqvs_iff xs ys (by simpa [plain] using h) (by simpa [plain] using he)]
      simp
    | _ => simp [PyData.eqv]
  | .dict _, _, h, _ => by simp [plain] at h
theorem eqvs_iff : ∀ (xs ys : List PyData), plains xs = true → plains ys = true → (PyData.eqvAll xs ys = true ↔ xs = ys)
  | [], [], _, _ => by simp [PyData.eqvAll]
  | [], _ :: _, _, _ => by simp [PyData.eqvAll]
  | _ :: _, [], _, _ => by simp [PyData.eqvAll]
  | x :: xs, y :: ys, h, he => by
    rw [plains, Bool.and_eq_true] at h he
    rw [PyData.eqvAll, Bool.and_eq_true, eqv_iff x y h.1 he.1, eqvs_iff xs ys h.2 he.2]
    simp
end
theorem plains_all {xs : List PyData} : plains xs = xs.all plain := by
  induction xs with
  | nil => rfl
  | cons x xs ih => rw [plains, List.all_cons, ih]
end GQ2
namespace K3
open PySem PySem.Spec PyProof.Rows L2 Evl GV LD GQ2
section
variable {K : PySem.W.Frag} {mg : Str → Option Value} {P : Program} {w : World} {base : Heap}
/-! ### _law_is_number -/
def asN (b : Bool) : List Int := if b = true then [0, 1, 2] else [1, 2]
def leN (b : Bool) : Int := if b = true then 0 else 1
theorem rgN (b : Bool) : rgV (leN b) 3 = (asN b).map V.int := by cases b <;> rfl
def numB (b : Bool) (v : V) : Bool := inV (intV v) ((asN b).map V.int)
def spIsNum (K : PySem.W.Frag) : Sp := fun vs H Q _ => ∃ (v : V) (b : Bool), vs = [v, .int (leN b)] ∧ Pl K H v ∧ RetV (.bl (numB b v)) H Q
theorem sc_isnum : FnScope ["_law_thing", "_law_least"] ["_law_thing", "_law_least"] (defScope (top 33)) := ⟨rfl, rfl, rfl, by decide +kernel, rfl, by decide +kernel, by decide +kernel⟩
theorem inV_non (as : List Int) : inV .non (as.map V.int) = false := by
  unfold inV
  rw [List.any_map]
  exact List.any_eq_false.mpr fun x _ => by show ¬ (eqV (.int x) .non = true); exact fun z => nomatch z
theorem el_rg {a b : Int} {σ : L2.St} {H : Hp} {ta tb : TE} (ha : Ev ta σ H (.int a)) (hb : Ev tb σ H (.int b)) (ok : RgOk a b) : EvL (tLstRg (tRg2 ta tb)) σ H (rgV a b) := fun H1 e Q q =>
  ha H1 e _ fun H2 e2 => hb H2 (e.trans e2) _ fun H3 e3 => ⟨a, b, rfl, rfl, ok, fun p hp => q p _ (fresh_back (e2.trans e3) hp) ((e2.trans e3).trans (Ex.new hp)) upd_same⟩
theorem ok_isnum (T : Tx K mg) : ∃ fd, FnOk P w K mg base CX0 1 (He.ga K "_law_is_number") fd ["_law_thing", "_law_least"] (spIsNum K) ∧ Binds K fd ["_law_thing", "_law_least"] [] ∧ PySem.W.keepIn K (.ref (He.ga K "_law_is_number")) = true := by
  obtain ⟨fd, F⟩ := T.d.def_ 13 (d := d__law_is_number) rfl
  refine ⟨fd, F.ok sc_isnum (fun vs H Q E h => ?_) (fun cdv A outer s H vs Q E hr h => ?_), FunD.bindsN F fun _ _ _ _ _ _ us hl => match us, hl with | [_, _], _ => rfl, F.kp⟩
  · obtain ⟨_, _, rfl, _⟩ := h
    rfl
  · refine ⟨_, PSs.nox (pss_one (ps_ret (pe_and (pe_callB call_isi (by rfl) (T.fr 31 rfl) PyProof.Rows.boot_isinstance (pa_cons (pv 0) (pa_cons (pe_bltn (v := .ty "int") (by rfl) (T.fr 37 rfl) (by decide +kernel) rfl) pa_nil))) (pe_and (pe_not (pe_callB call_isi (by rfl) (T.fr 31 rfl) PyProof.Rows.boot_isinstance (pa_cons (pv 0) (pa_cons (pe_bltn (v := .ty "bool") (by rfl) (T.fr 36 rfl) (by decide +kernel) rfl) pa_nil)))) (pe_one (pe_cmpR op_in_seq (pv 0) (pe_listRg rfl rfl (T.fr 38 rfl) (prg_2 rfl (T.fr 42 rfl) (pv 1) pe_int)) (by rfl))))))), ?_⟩
    obtain ⟨v, b, rfl, pv, q⟩ := h
    obtain ⟨n, kd, kb, _⟩ := pv.kind
    have hb : numB b v = ((isBl v || isInt v) && (!isBl v && numB b v)) := by
      cases v with
      | int i => rfl
      | bl c => exact inV_non _
      | _ => exact inV_non _
    refine s_ret (v := .bl (numB b v)) ?_ fun H1 e1 => q H1 e1
    rw [hb]
    refine ev_andV (ev_isb (ev_var rfl) kd kb.i) fun h1 => ev_andV (ev_notV (ev_isb (ev_var rfl) kd kb.b)) fun h2 => ?_
    obtain ⟨i, rfl⟩ : ∃ i, v = .int i := by
      cases v <;> first | exact ⟨_, rfl⟩ | (exfalso; revert h1 h2; simp [isBl, isInt])
    intro H1 e1 Q1 k1
    refine ev_var (i := 0) rfl H1 e1 _ fun H2 e2 => el_rg (ev_var rfl) ev_c ?_ H2 (e1.trans e2) _ fun p H4 hp e4 h4 => ?_
    · cases b <;> exact ⟨by decide, by decide, by decide, by decide, by decide⟩
    · rw [rgN] at h4
      exact rv_isL (sq_of h4) rfl (by cases b <;> rfl) H4 (Ex.refl H4) Q1 fun H5 e5 => k1 H5 ((e2.trans e4).trans e5)
/-! ### _law_is_name -/
def nameB : V → Bool
  | .str z => okName z
  | _ => false
def spIsName (K : PySem.W.Frag) : Sp := fun vs H Q _ => ∃ (v : V), vs = [v] ∧ Pl K H v ∧ (∀ z, v = .str z → PyData.strOk z = true) ∧ RetV (.bl (nameB v)) H Q
theorem sc_isname : FnScope ["_law_thing", "_law_letters", "_law_sign"] ["_law_thing"] (defScope (top 34)) := ⟨rfl, rfl, rfl, by decide +kernel, rfl, by decide +kernel, by decide +kernel⟩
theorem canLayAll {xs : List PyData} : PyData.canLayAll0 xs = xs.all PyData.canLay0 := by
  induction xs with
  | nil => rfl
  | cons x xs ih => rw [PyData.canLayAll0, List.all_cons, ih]
theorem depthAll_le {n : Nat} : ∀ {xs : List PyData}, (∀ x ∈ xs, x.depth ≤ n) → PyData.depthAll xs ≤ n
  | [], _ => Nat.zero_le _
  | x :: xs, h => by
    rw [PyData.depthAll]
    exact Nat.max_le.mpr ⟨h x List.mem_cons_self, depthAll_le fun y hy => h y (List.mem_cons_of_mem _ hy)⟩
theorem strs_shaped {zs : List Str} (h : ∀ z ∈ zs, PyData.strOk z = true) : SeqAt.shaped (.list (zs.map PyData.str)) = true := by
  unfold SeqAt.shaped
  rw [PyData.canLay0, PyData.depth, canLayAll, List.all_map, Bool.and_eq_true]
  refine ⟨List.all_eq_true.mpr fun z hz => h z hz, decide_eq_true ?_⟩
  have : PyData.depthAll (zs.map PyData.str) ≤ 0 := depthAll_le fun x hx => by
    obtain ⟨z, hz, rfl⟩ := List.mem_map.mp hx
    exact Nat.le_refl _
  omega
def sgn (n : Nat) : Str := ⟨#[n]⟩
def strange (z : Str) (i : Nat) : List Str := ((z.cps.toList.take i).filter fun c => !decide (c ∈ letters.cps.toList)).map sgn
theorem strange_eqv (l : List Str) : PyData.eqv (.list (l.map PyData.str)) (.list []) = l.isEmpty := by cases l <;> rfl
theorem strange_all (z : Str) : (strange z z.cps.size).isEmpty = z.cps.toList.all fun c => decide (c ∈ letters.cps.toList) := by
  unfold strange
  rw [List.take_of_length_le (by simp)]
  generalize z.cps.toList = l
  induction l with
  | nil => rfl
  | cons c l ih =>
    rw [List.all_cons, ← ih]
    cases hc : decide (c ∈ letters.cps.toList) with
    | true => rw [List.filter_cons_of_neg (by rw [hc]; exact Bool.false_ne_true)]; rfl
    | false => rw [List.filter_cons_of_pos (by rw [hc]; rfl)]; rfl
theorem ok_isname (T : Tx K mg) : ∃ fd, FnOk P w K mg base CX0 1 (He.ga K "_law_is_name") fd ["_law_thing"] (spIsName K) ∧ Binds K fd ["_law_thing"] [] ∧ PySem.W.keepIn K (.ref (He.ga K "_law_is_name")) = true := by
  obtain ⟨fd, F⟩ := T.d.def_ 14 (d := d__law_is_name) rfl
  refine ⟨fd, F.ok sc_isname (fun vs H Q E h => ?_) (fun cdv A outer s H vs Q E hr h => ?_), FunD.bindsN F fun _ _ _ _ _ _ us hl => match us, hl with | [_], _ => rfl, F.kp⟩
  · obtain ⟨_, rfl, _⟩ := h
    rfl
  · refine ⟨_, PSs.nox (pss_cons (ps_set (i := 1) sc_isname.nd rfl (Or.inr rfl) pe_str)
      (pss_cons (ps_if (PW.pt (pw_or (pt_not (pt_val (pe_callB call_isi (by rfl) (T.fr 31 rfl) PyProof.Rows.boot_isinstance (pa_cons (pv 0) (pa_cons (pe_bltn (v := .ty "str") (by rfl) (T.fr 32 rfl) (by decide +kernel) rfl) pa_nil))))) (pw_or1 (pt_not (pt_chain op_lt op_lt pe_int (pe_callB call_len (by rfl) (T.fr 33 rfl) PySem.boot_len (pa_cons (pv 0) pa_nil)) pe_int))))) (pss_one (ps_ret pe_bl)) pss_nil)
      (pss_cons (ps_if (pt_cmpR op_in_seq (pv 0) (pe_tup (pa_cons pe_str (pa_cons pe_str (pa_cons pe_str (pa_cons pe_str (pa_cons pe_str (pa_cons pe_str pa_nil))))))) (by rfl)) (pss_one (ps_ret pe_bl)) pss_nil)
      (pss_one (ps_ret (pe_cmpR (op_eqD hr.units) (pe_lc (own := [("_law_sign", 2)]) (g := gName 2) rfl sc_isname.nd (pi_str (pv 0)) (blkOk_by (own := [("_law_sign", 2)]) (N := ["_law_thing", "_law_letters", "_law_sign"]) (sc := defScope (top 34)) (by decide +kernel)) (fun _ _ _ _ _ => pg_name (i := 2) sc_isname.nd rfl (Or.inl rfl)) (fun _ _ _ _ _ => (by exact pts_one (pt_cmpR op_notIn_sign (pv 2) (pv 1) (by rfl)))) (fun _ _ _ _ _ => by exact (pv 2))) (pe_lst pa_nil) (nomark _))))))), ?_⟩
    obtain ⟨v, rfl, pv, so, q⟩ := h
    obtain ⟨n, kd, kb, hz⟩ := pv.kind
    refine q_asg (v := .str letters) ev_c fun H0 e0 => ?_
    have t1 : ∀ {Hq : Hp}, Ex H Hq → EvT (tB (tCB (rIsi K) (tCons (tVar 0) (tCons (tC (.ty "str")) tNil)))) [some v, some (.str letters), none] Hq (isStr v) := fun {Hq} e => et_B (ev_isb (ev_var rfl) (kd_ex e kd) kb.s)
    cases hv : isStr v with
    | false =>
      have e2 : nameB v = false := by
        cases v <;> first | rfl | cases hv
      rw [e2] at q
      refine q_when (b := true) (et_or (a := true) (b := true) (by have z := et_not (t1 e0); rw [hv] at z; exact z) (fun z => nomatch z)) (fun _ H2 e2' => ?_) (fun z => nomatch z)
      exact s_ret ev_c fun H3 e3 => q H3 ((e0.trans e2').trans e3)
    | true =>
      obtain ⟨z, rfl⟩ : ∃ z, v = .str z := by
        cases v <;> first | exact ⟨_, rfl⟩ | cases hv
      have hzz := hz z rfl
      have t2 : EvT (tTest (tChain (rI0 fun i j => .bl (decide (i < j))) (rI0 fun i j => .bl (decide (i < j))) (tC (.int 0)) (tCB (fun xs H Q => ∃ x n, xs = [x] ∧ LenV K x H n ∧ Q (.int n) H) (tCons (tVar 0) tNil)) (tC (.int 9)))) [some (.str z), some (.str letters), none] H0 (decide (0 < (z.length : Int)) && decide ((z.length : Int) < 9)) := fun H3 e3 Q3 k3 => by
        refine ⟨_, rfl, _, z.length, rfl, ⟨Nat.le_trans hzz (by decide), rfl⟩, 0, (z.length : Int), rfl, rfl, _, rfl, ?_⟩
        cases h1 : decide (0 < (z.length : Int)) with
        | true =>
          rw [h1] at k3
          exact iteT ⟨(z.length : Int), 9, rfl, rfl, _, rfl, k3 H3 (Ex.refl H3)⟩
        | false =>
          rw [h1] at k3
          exact iteF ⟨_, rfl, k3 H3 (Ex.refl H3)⟩
      have hname : nameB (.str z) = (!inV (.str z) (resv.map V.str) && (decide (0 < (z.length : Int)) && (decide ((z.length : Int) < 9) && z.cps.toList.all fun c => decide (c ∈ letters.cps.toList)))) := by
        show okName z = _
        unfold okName
        rw [show decide (0 < (z.length : Int)) = decide (1 ≤ (z.length : Int)) from decide_eq_decide.mpr (by omega), show decide ((z.length : Int) < 9) = decide ((z.length : Int) ≤ 8) from decide_eq_decide.mpr (by omega)]
      refine q_when (b := !isStr (.str z) || !(decide (0 < (z.length : Int)) && decide ((z.length : Int) < 9))) (et_or (et_not (t1 e0)) fun _ => et_not t2) (fun hb H2 e2 => ?_) (fun hb H2 e2 => ?_)
      · have e3 : nameB (.str z) = false := by
          rw [hname]
          have hb' : (!(decide (0 < (z.length : Int)) && decide ((z.length : Int) < 9))) = true := hb
          revert hb'
          generalize decide (0 < (z.length : Int)) = a
          generalize decide ((z.length : Int) < 9) = b
          cases a <;> cases b <;> simp
        rw [e3] at q
        exact s_ret ev_c fun H3 e3' => q H3 ((e0.trans e2).trans e3')
      · have hb' : (decide (0 < (z.length : Int)) && decide ((z.length : Int) < 9)) = true := by
          have : (!(decide (0 < (z.length : Int)) && decide ((z.length : Int) < 9))) = false := hb
          revert this
          cases (decide (0 < (z.length : Int)) && decide ((z.length : Int) < 9)) <;> simp
        obtain ⟨b1, b2⟩ := Bool.and_eq_true_iff.mp hb'
        rw [b1, b2, Bool.true_and, Bool.true_and] at hname
        refine q_when (b := inV (.str z) (resv.map V.str)) (et_test (fun H3 e3 Q3 k3 => ⟨_, rfl, (by show 6 ≤ sizeLine; decide), fun p hp => rv_isT (SqT.of (H := upd H3 p _) upd_same) rfl rfl _ (Ex.refl _) Q3 fun H4 e4 => k3 H4 ((Ex.new hp).trans e4)⟩)) (fun hi H3 e3 => ?_) (fun hi H3 e3 => ?_)
        · rw [hname, hi] at q
          exact s_ret ev_c fun H4 e4 => q H4 (((e0.trans e2).trans e3).trans e4)
        · rw [hname, hi] at q
          refine s_ret (v := .bl (z.cps.toList.all fun c => decide (c ∈ letters.cps.toList))) (fun H4 e4 Q4 k4 => ?_) fun H4 e4 => q H4 (((e0.trans e2).trans e3).trans e4)
          refine gv_lcS (g := gName 2) (H := H3) (z := z) (fun i us _ => us = (strange z i).map V.str) (ev_var rfl) (fun _ _ _ _ _ h => h) (fun i us _ h => ?_) rfl (fun Hs e5 i c us hc h => ?_) H4 e4 _ fun u H5 H5' f5 ⟨p, us, eu, _, hp, hus⟩ => ?_
          · rw [h, List.length_map, strange, List.length_map]
            refine Nat.le_trans (List.length_filter_le _ _) ?_
            rw [List.length_take]
            have e : z.cps.toList.length = z.length := by simp [Str.length]
            omega
          · have hci : z.cps.toList[i]? = some c := by simpa using hc
            refine fun H6 e6 => ⟨rfl, rfl, !decide (c ∈ letters.cps.toList), et_test (ev_op (ev_var rfl) (ev_var rfl) fun H7 _ Q7 k7 => ⟨c, letters, rfl, rfl, k7 H7 (Ex.refl H7)⟩), fun hn => ?_, fun hn => ?_⟩
            · refine gv_w (gv_ev (v := .str (sgn c)) (ev_var rfl)) fun v H' _ hv => ?_
              rw [show v = _ from hv, h]
              show (strange z i).map V.str ++ [V.str (sgn c)] = (strange z (i + 1)).map V.str
              unfold strange
              rw [List.take_add_one, hci, List.filter_append, Option.toList_some, List.filter_cons_of_pos (by exact hn)]
              simp
            · rw [h]
              show (strange z i).map V.str = (strange z (i + 1)).map V.str
              unfold strange
              rw [List.take_add_one, hci, List.filter_append, Option.toList_some, List.filter_cons_of_neg (by rw [hn]; exact Bool.false_ne_true)]
              simp
          · subst eu hus
            refine ⟨by show 0 ≤ sizeLine; decide, fun p2 hp2 => ?_⟩
            have hl : ∀ y ∈ strange z z.cps.size, PyData.strOk y = true := fun y hy => by
              unfold strange at hy
              obtain ⟨c, hc, rfl⟩ := List.mem_map.mp hy
              have hc2 : c ∈ z.cps.toList := List.mem_of_mem_take (List.mem_filter.mp hc).1
              obtain ⟨j, hj, rfl⟩ := List.mem_iff_getElem.mp hc2
              have := Array.all_eq_true.mp (so z rfl) j (by simpa using hj)
              refine Array.all_eq_true.mpr fun i hi => ?_
              have hi' : i < 1 := hi
              obtain rfl : i = 0 := by omega
              show decide (z.cps.toList[j] < 1114112) = true
              rw [Array.getElem_toList]
              exact this
            refine rv_eqD (K := K) (d := .list ((strange z z.cps.size).map PyData.str)) (e := .list []) (.lst (sq_of (((f5.sub.trans (Ex.new hp2)) _ _ hp))) (dp_strs _ _)) (.lst (sq_of upd_same) .nil) (strs_shaped hl) (by decide) _ (Ex.refl _) _ fun H7 e7 => ?_
            rw [strange_eqv, strange_all]
            exact k4 H7 ((f5.cur.trans (Ex.new hp2)).trans e7)
end
end K3
namespace K3
open PySem PySem.Spec PyProof.Rows L2 Evl GV LD GQ2
/-! ### dicts told another way at the end of a block, whichever end it takes -/
def outE (P : Program) (w : World) (D : Ends) : Ends where
  nx := fun σ H => ∃ H', View P w H H' ∧ D.nx σ H'
  rt := fun v H => ∃ H', View P w H H' ∧ D.rt v H'
  bk := fun σ H => ∃ H', View P w H H' ∧ D.bk σ H'
  ct := fun σ H => ∃ H', View P w H H' ∧ D.ct σ H'
theorem pss_out {X : Cx} {b : List Stmt} {t : TS} (h : PSs X b t) : PSs X b (fun D => t (outE X.prog X.w D)) :=
  ⟨fun pins s σ H D I q => wpAny_mono (h.run pins s σ H _ I q) (fun f t z => match f, z with
    | .next, ⟨_, _, I', _, v, q⟩ => ⟨_, _, v.inv I', q⟩
    | .brk, ⟨_, _, I', _, v, q⟩ => ⟨_, _, v.inv I', q⟩
    | .cont, ⟨_, _, I', _, v, q⟩ => ⟨_, _, v.inv I', q⟩
    | .ret _, ⟨_, _, _, I', r, _, v, q⟩ => ⟨_, _, _, v.inv I', r, q⟩) fun _ _ z => z⟩
theorem pss_io {X : Cx} {b : List Stmt} {t : TS} (h : PSs X b t) : PSs X b (tView X.prog X.w fun D => t (outE X.prog X.w D)) := pss_view (pss_out h)
section
variable {P : Program} {w : World} {K : PySem.W.Frag} {σ : L2.St} {H : Hp} {D : Ends} {tb tz : TS} {d : Addr}
theorem s_keysK {j a : Nat} {kvs : List (Key × V)} (hσ : σ[j]? = some (some (.ref d))) (hd : H d = some (.dK kvs)) (Pv : Obj → Nat → L2.St → Hp → Prop) (h0 : ∀ od, Pv od 0 σ (upd H d (.frz od (.dK kvs))))
    (hG : ∀ od i σ' Hc, Pv od i σ' Hc → Hc d = some (.frz od (.dK kvs)))
    (hs : ∀ od i k v σ' Hc bk ct, kvs[i]? = some (k, v) → Pv od i σ' Hc → tb ⟨Pv od (i + 1), fun v H' => H' d = some (.frz od (.dK kvs)) ∧ D.rt v (upd H' d (.dK kvs)), bk, ct⟩ (σ'.set a (some (kV k))) Hc)
    (he : ∀ od σ' Hc, Pv od kvs.length σ' Hc → D.nx σ' (upd Hc d (.dK kvs))) : tLock (tFor (iKeys (tVar j)) (gName a) tb) D σ H := by
  refine ⟨d, .dK kvs, hd, trivial, fun od => ⟨_, hσ, d, od, rfl, .inl ⟨kvs, upd_same, ?_⟩⟩⟩
  refine for_it (walk_keys (d := d) (o := od) (kvs := kvs)) (Pv od) (h0 od) (fun i σ' Hc _ h => hG od i σ' Hc h) ?_ fun σ' Hc h => ⟨hG od _ σ' Hc h, he od σ' Hc h⟩
  rintro i x σ' Hc Hc' hi h ⟨rfl, k, v, hk, rfl⟩
  exact hs od i k v σ' _ _ _ hk h
theorem s_itemsLR {j a b : Nat} {kvs : LKV} (hσ : σ[j]? = some (some (.ref d))) (hd : H d = some (dL P w d kvs)) (Pv : Obj → Nat → L2.St → Hp → Prop) (h0 : ∀ od, Pv od 0 σ (upd H d (.frz od (dL P w d kvs))))
    (hG : ∀ od i σ' Hc, Pv od i σ' Hc → Hc d = some (.frz od (dL P w d kvs)))
    (hs : ∀ od i k x v σ' Hc T bk ct, kvs[i]? = some (k, v) → lV k x → Pv od i σ' Hc → Hc T = none → tb ⟨Pv od (i + 1), fun v H' => H' d = some (.frz od (dL P w d kvs)) ∧ D.rt v (upd H' d (dL P w d kvs)), bk, ct⟩ ((σ'.set a (some x)).set b (some v)) (upd Hc T (.tup [x, v])))
    (he : ∀ od σ' Hc, Pv od kvs.length σ' Hc → D.nx σ' (upd Hc d (dL P w d kvs))) : tLock (tFor (iItemsL P w (tVar j)) (gTup K 2 (gCons (gName a) (gCons (gName b) gNil))) tb) D σ H := by
  refine ⟨d, dL P w d kvs, hd, trivial, fun od => ⟨_, hσ, d, od, kvs, rfl, upd_same, ?_⟩⟩
  refine for_it (walk_itemsL (P := P) (w := w) (d := d) (o := od) (kvs := kvs)) (Pv od) (h0 od) (fun i s1 H1 _ h => hG od i s1 H1 h) ?_ fun s1 H1 h => ⟨hG od _ s1 H1 h, he od s1 H1 h⟩
  rintro i y s1 H1 H2 hi h ⟨T, k, x, v, hk, hx, rfl, hT, rfl⟩
  exact ⟨T, _, rfl, SqT.of upd_same, rfl, _, _, rfl, _, _, rfl, rfl, hs od i k x v s1 H1 T _ _ hk hx h hT⟩
/-- for a target of any form -/
theorem s_forSqG {l : Bool} {a : Addr} {xs : List V} {tl : TE} {g : TG} (h : Ev tl σ H (.ref a)) (hx : SqB K l H a xs) (Pv : Nat → L2.St → Hp → Prop) (h0 : ∀ H1, Ex H H1 → Pv 0 σ H1) (hE : ∀ i σ' H', Pv i σ' H' → SqB K l H' a xs)
    (hs : ∀ i x σ' H', xs[i]? = some x → Pv i σ' H' → g x σ' H' fun σ2 H2 => tb { D with nx := Pv (i + 1), ct := Pv (i + 1), bk := D.nx } σ2 H2) (hd : ∀ σ' H', Pv xs.length σ' H' → D.nx σ' H') : tFor (iSq K tl) g tb D σ H := h H (Ex.refl H) _ fun H1 e1 => by
  refine ⟨a, xs, l, rfl, sqB_ex e1 hx, for_it (walk_B (K := K) (l := l) (a := a) (xs := xs)) Pv (h0 H1 e1) (fun i σ' H' _ hp => hE i σ' H' hp) ?_ hd⟩
  rintro i x σ' H' H2 hi hp ⟨rfl, hx2⟩
  exact hs i x σ' _ hx2 hp
theorem ex_lock {u : HO} {od : Obj} {Hc : Hp} (hd : H d = some u) (h : Ex (upd H d (.frz od u)) Hc) : Ex H (upd Hc d u) := fun x o e => by
  by_cases q : x = d
  · rw [q, upd_same]
    rw [q, hd] at e
    exact e
  · rw [upd_ne q]
    exact h x o (by rw [upd_ne q]; exact e)
/-! ### lists put together -/
def LstR (R : List V → Prop) : Pr := fun v H' => ∃ p us, v = .ref p ∧ H' p = some (.lst us) ∧ R us
theorem gv_cat {ta tb : TE} {R1 R2 : List V → Prop} (ha : Gv ta σ H (LstR R1)) (hb : ∀ H', Ex H H' → Gv tb σ H' (LstR R2)) (hz : ∀ xs ys, R1 xs → R2 ys → xs.length + ys.length ≤ 100000) :
    Gv (tOp rCat ta tb) σ H (LstR fun us => ∃ xs ys, us = xs ++ ys ∧ R1 xs ∧ R2 ys) := fun H1 e Q q =>
  ha H1 e _ fun v H' H1' f ⟨p, xs, ev, hp, r1⟩ => hb H' f.ex H1' f.sub _ fun v2 H2 H2' f2 ⟨p2, ys, ev2, hp2, r2⟩ =>
    ⟨p, p2, xs, ys, ev, ev2, f2.sub _ _ (f2.ex _ _ hp), f2.sub _ _ hp2, Nat.le_trans (hz xs ys r1 r2) (by decide), fun l hl => q (.ref l) _ _ ((f.trans f2).trans (Fm.newO f2.sub hl)) ⟨l, _, rfl, upd_same, xs, ys, rfl, r1, r2⟩⟩
theorem gv_listL {te : TE} {kvs : LKV} (h : Ev te σ H (.ref d)) (hd : H d = some (dL P w d kvs)) : Gv (tCB (rListL P w) (tCons te tNil)) σ H (LstR (KsL kvs)) := fun H1 e Q q =>
  h H1 e _ fun H2 e2 => ⟨d, kvs, rfl, (e.trans e2) _ _ hd, fun p ks hp hk => q (.ref p) _ _ ((Fm.gr e e2).trans (Fm.newO (e.trans e2) hp)) ⟨p, ks, rfl, upd_same, hk⟩⟩
end
theorem cut_take {xs : List V} {i : Nat} (h : i ≤ xs.length) : cutV xs none (some (i : Int)) = xs.take i := by
  have e : HT.sIx xs.length xs.length (some (i : Int)) = i := by
    unfold HT.sIx
    dsimp only
    first
      | (rw [if_neg (by omega)]; omega)
      | (rw [if_neg (by omega)]; simp; omega)
      | (split <;> simp <;> omega)
  unfold cutV
  rw [e]
  show List.take (i - 0) (List.drop 0 xs) = _
  rw [List.drop_zero, Nat.sub_zero]
/-! ### what is fine in a rule -/
section
variable {P : Program} {w : World}
theorem badNum_ints : ∀ {l : List (Str × V)} {as : List Int}, badNum as l = none → tkK l = numK (nums l) ∧ ∀ z v, (z, v) ∈ l → inV (intV v) (as.map V.int) = true
  | [], _, _ => ⟨rfl, fun z v h => absurd h (by simp)⟩
  | (z, v) :: r, as, h => by
    have h' : (if inV (intV v) (as.map V.int) = true then badNum as r else some z) = none := h
    by_cases q : inV (intV v) (as.map V.int) = true
    · rw [if_pos q] at h'
      obtain ⟨i1, i2⟩ := badNum_ints h'
      have e : v = .int (toInt v) := inV_ints q
      refine ⟨?_, fun z2 v2 hm => ?_⟩
      · show (Sum.inr z, v) :: tkK r = (Sum.inr z, V.int (toInt v)) :: numK (nums r)
        rw [i1, ← e]
      · rcases List.mem_cons.mp hm with h1 | h1
        · cases h1
          exact q
        · exact i2 z2 v2 h1
    · rw [if_neg q] at h'
      cases h'
theorem num_some {ns : List (Str × Int)} {z : Str} {n : Int} (h : num ns z = some n) : (z, n) ∈ ns := by
  unfold num at h
  obtain ⟨p, hp, e⟩ := Option.map_eq_some_iff.mp h
  have h1 := List.mem_of_find?_eq_some hp
  have h2 := List.find?_some hp
  have h3 : p.1 = z := of_decide_eq_true h2
  rw [← h3, ← e]
  exact h1
theorem lget_any {H : Hp} {a : Addr} {ns : List (Str × Int)} {k : Leaf} {x : V} (hx : lV k x) (h : H a = some (.dK (numK ns))) : LGet P w H a x ((numV ns (kTxt k)).map V.int) := by
  cases k with
  | none =>
    obtain rfl : x = .non := hx
    exact lget_num (.inl rfl) h
  | text z =>
    obtain rfl : x = .str z := hx
    exact lget_num (.inr ⟨z, rfl⟩) h
  | num i =>
    refine ⟨.num i, hx, .inr ⟨numK ns, .inl h, ?_⟩⟩
    show none = valL (lfs (numK ns)) (.num i)
    unfold valL
    rw [List.find?_eq_none.mpr]
    · rfl
    · intro p hp hh
      obtain ⟨q, hq, rfl⟩ := List.mem_map.mp hp
      obtain ⟨r, hr, rfl⟩ := List.mem_map.mp hq
      cases of_decide_eq_true hh
/-- the law's four ways -/
def wayB (v : V) (s : Str) (b : Bool) : Bool := isStr v && (decide (v = .str s) && b)
def fineB (o1 o2 : Option Int) (n : Int) (v : V) : Bool :=
  [wayB v "settles" (decide (o1 = some 1)), wayB v "swaps" (decide (o1 = some 2)), wayB v "both" (decide (o2 = some 2)), wayB v "order" (decide (o2 = some 2) && decide (n = 0))].any id
theorem str_ne {a b : Str} (h : decide (a = b) = false) : (V.str a = V.str b) = False := by
  refine eq_false fun e => ?_
  cases e
  rw [decide_eq_true rfl] at h
  cases h
theorem fine_can {fs ts : List (Str × Int)} {n : Int} {y v : V} (h1 : ∀ m, numV fs y = some m → m = 1 ∨ m = 2) (h2 : ∀ m, numV fs y = some m → numV ts y = none) :
    fineB (numV fs y) (numV ts y) n v = (canV fs ts y (txt v) && !(decide (txt v = .str "order") && !decide (n = 0))) := by
  cases hv : isStr v with
  | false =>
    have e : txt v = .non := by
      cases v <;> first | rfl | cases hv
    rw [e]
    have c0 : canV fs ts y .non = false := by
      unfold canV
      split
      · exact decide_eq_false fun z => nomatch z
      · rw [show inV .non [.str "both", .str "order"] = false from rfl, Bool.and_false]
    rw [c0]
    unfold fineB wayB
    rw [hv]
    rfl
  | true =>
    obtain ⟨z, rfl⟩ : ∃ z, v = .str z := by
      cases v <;> first | exact ⟨_, rfl⟩ | cases hv
    have e : txt (.str z) = .str z := rfl
    rw [e]
    have d : ∀ a b : Str, decide (V.str a = V.str b) = decide (a = b) := fun a b => decide_eq_decide.mpr ⟨fun h => by injection h, fun h => by rw [h]⟩
    have hin : inV (.str z) [.str "both", .str "order"] = (decide (z = "both") || decide (z = "order")) := by
      have := inV_strs (z := z) (zs := ["both", "order"])
      show inV (.str z) ((["both", "order"] : List Str).map V.str) = _
      rw [this]
      by_cases q1 : z = "both"
      · rw [decide_eq_true q1, Bool.true_or]
        exact decide_eq_true (by rw [q1]; simp)
      · by_cases q2 : z = "order"
        · rw [decide_eq_true q2, Bool.or_true]
          exact decide_eq_true (by rw [q2]; simp)
        · rw [decide_eq_false q1, decide_eq_false q2]
          exact decide_eq_false (by simp [q1, q2])
    have n1 : decide (("settles" : Str) = "swaps") = false := by decide +kernel
    have n2 : decide (("settles" : Str) = "both") = false := by decide +kernel
    have n3 : decide (("settles" : Str) = "order") = false := by decide +kernel
    have n4 : decide (("swaps" : Str) = "both") = false := by decide +kernel
    have n5 : decide (("swaps" : Str) = "order") = false := by decide +kernel
    have n6 : decide (("both" : Str) = "order") = false := by decide +kernel
    unfold fineB wayB canV
    rw [hin]
    simp only [List.any_cons, List.any_nil, id, show isStr (.str z) = true from rfl, Bool.true_and, Bool.or_false, d]
    cases ho : numV fs y with
    | none =>
      simp only [show decide ((none : Option Int) = some 1) = false from rfl, show decide ((none : Option Int) = some 2) = false from rfl, Bool.and_false, Bool.false_or]
      generalize decide (numV ts y = some 2) = c
      generalize decide (n = 0) = g
      by_cases q1 : z = "both"
      · subst q1
        rw [n6, decide_eq_true rfl]
        cases c <;> cases g <;> rfl
      · rw [decide_eq_false q1]
        generalize decide (z = "order") = f
        cases c <;> cases g <;> cases f <;> rfl
    | some m =>
      rw [h2 m ho]
      simp only [show decide ((none : Option Int) = some 2) = false from rfl, Bool.and_false, Bool.false_and, Bool.or_false]
      rcases h1 m ho with rfl | rfl
      · simp only [show decide (some (1 : Int) = some 1) = true from rfl, show decide (some (1 : Int) = some 2) = false from rfl, Bool.and_true, Bool.and_false, Bool.or_false, d, if_true]
        by_cases q1 : z = "settles"
        · subst q1
          rw [n3, decide_eq_true rfl]
          rfl
        · rw [decide_eq_false q1]
          rfl
      · simp only [show decide (some (2 : Int) = some 1) = false from rfl, show decide (some (2 : Int) = some 2) = true from rfl, Bool.and_true, Bool.and_false, Bool.false_or, d, show ((2 : Int) = 1) = False from eq_false (by decide), if_false]
        by_cases q1 : z = "swaps"
        · subst q1
          rw [n5, decide_eq_true rfl]
          rfl
        · rw [decide_eq_false q1]
          rfl
end
end K3
namespace K3
open PySem PySem.Spec PyProof.Rows L2 Evl GV LD GQ2
section
variable {K : PySem.W.Frag} {mg : Str → Option Value} {P : Program} {w : World} {base : Heap}
/-! ### _law_due -/
def wordOf (n : Str) : Str := if n = "BadName" then "name" else if n = "BadNumber" then "number" else "rule"
theorem Sim.symm {x y : V} (h : Sim x y) : Sim y x := by
  rcases h with rfl | ⟨i, h1, h2⟩
  · exact .inl rfl
  · exact .inr ⟨i, h2, h1⟩
def SOk (v : V) : Prop := ∀ z, v = .str z → PyData.strOk z = true
def KOk (k : LKV) : Prop := ∀ p ∈ k, ∀ z, p.1 = .text z → PyData.strOk z = true
def spDue (K : PySem.W.Frag) (P : Program) (w : World) : Sp := fun vs H Q _ => ∃ (z ac d1 d2 d3 d5 : Addr) (cs : List V) (k1 k2 k3 k5 : LKV), vs = [.ref z] ∧ SqT K H z [.ref ac, .ref d1, .ref d2, .ref d3, .ref d5] ∧
  ArgsAt K P w H ac d1 d2 d3 d5 cs k1 k2 k3 k5 ∧ H ac = some (.lst cs) ∧ (∀ v ∈ cs, SOk v) ∧ KOk k1 ∧ KOk k2 ∧ KOk k3 ∧
  (dueP cs k1 k2 k3 k5 = none → RetV .non H Q) ∧ ∀ n v u p H2, dueP cs k1 k2 k3 k5 = some (n, v) → Sim v u → H p = none → Ex H H2 → H2 p = some (.tup [.str (wordOf n), u]) → Q (.ref p) H2
theorem nameB_nam (x : V) : (nameB x = false ∧ nam x = .non) ∨ ∃ z, x = .str z ∧ nameB x = true ∧ nam x = .str z := by
  cases x with
  | str z =>
    cases h : okName z with
    | true => exact .inr ⟨z, rfl, h, if_pos h⟩
    | false => exact .inl ⟨h, if_neg (by rw [h]; exact Bool.false_ne_true)⟩
  | _ => exact .inl ⟨rfl, rfl⟩
theorem ksL_ok {k : LKV} {ks : List V} (h : KsL k ks) : (∀ p ∈ k, ∀ z, p.1 = .text z → z.length ≤ 100000) → KOk k → ∀ v ∈ ks, (∀ Hq : Hp, Pl K Hq v) ∧ SOk v := by
  induction h with
  | nil => exact fun _ _ v hv => absurd hv (by simp)
  | @cons p y ps ys e t ih =>
    intro hp ho v hv
    rcases List.mem_cons.mp hv with rfl | hv
    · refine ⟨fun Hq => Pl.key e (hp p (List.mem_cons_self ..)), fun z hz => ?_⟩
      cases hk : p.1 with
      | none =>
        rw [hk] at e
        cases (show v = .non from e).symm.trans hz
      | num i =>
        rw [hk] at e
        rcases e with e | ⟨b, e, _⟩ <;> cases e.symm.trans hz
      | text y =>
        rw [hk] at e
        cases (show v = .str y from e).symm.trans hz
        exact ho p (List.mem_cons_self ..) z hk
    · exact ih (fun q hq => hp q (List.mem_cons_of_mem _ hq)) (fun q hq => ho q (List.mem_cons_of_mem _ hq)) v hv
/-- pairs of a word and a truth value -/
def PairAt (H : Hp) (p : Str × Bool) (v : V) : Prop := ∃ T, v = .ref T ∧ H T = some (.tup [.str p.1, .bl p.2])
def LstP (ps : List (Str × Bool)) : Pr := fun v H => ∃ p us, v = .ref p ∧ H p = some (.lst us) ∧ Paired (PairAt H) ps us
theorem pairAt_ex {H H' : Hp} (e : Ex H H') : ∀ {ps : List (Str × Bool)} {us : List V}, Paired (PairAt H) ps us → Paired (PairAt H') ps us
  | _, _, .nil => .nil
  | _, _, .cons ⟨T, h1, h2⟩ t => .cons ⟨T, h1, e _ _ h2⟩ (pairAt_ex e t)
theorem lstP_ex {ps : List (Str × Bool)} {v : V} {H H' : Hp} (e : Ex H H') : LstP ps v H → LstP ps v H' := fun ⟨p, us, h1, h2, h3⟩ => ⟨p, us, h1, e _ _ h2, pairAt_ex e h3⟩
section
variable {σ : L2.St} {H : Hp} {ta tb te : TE}
theorem gv_pair {s : Str} {b : Bool} (h : Ev te σ H (.bl b)) : Gv (tTup (tCons (tC (.str s)) (tCons te tNil))) σ H (fun v H' => PairAt H' (s, b) v) :=
  gv_w (gv_tup (ga_ev (ea_cons ev_c (ea_cons h ea_nil))) (fun _ _ _ _ h => h) fun vs _ h => by rw [show vs = _ from h]; show 2 ≤ 100000; decide) fun v H' _ ⟨p, vs, h1, _, h3, h4⟩ => ⟨p, h1, by rw [h3, show vs = _ from h4]⟩
theorem gv_two {p q : Str × Bool} (ha : Gv ta σ H fun v H' => PairAt H' p v) (hb : ∀ H', Ex H H' → Gv tb σ H' fun v H'' => PairAt H'' q v) : Gv (tLst (tCons ta (tCons tb tNil))) σ H (LstP [p, q]) :=
  gv_w (gv_lst (R := fun us H' => Paired (PairAt H') [p, q] us) (ga_w (ga_cons ha (fun H' e => ga_cons (hb H' e) (fun _ _ => ga_nil) (fun v H1 H2 e2 ⟨T, h1, h2⟩ => ⟨T, h1, e2 _ _ h2⟩)) fun v H1 H2 e2 ⟨T, h1, h2⟩ => ⟨T, h1, e2 _ _ h2⟩) fun vs H' _ ⟨v, r, h1, h2, v2, r2, h3, h4, h5⟩ => by
    rw [h1, h3, show r2 = [] from h5]
    exact .cons h2 (.cons h4 .nil)) (fun _ _ _ e h => pairAt_ex e h) fun vs H' h => by rw [← Paired.length h]; show 2 ≤ 100000; decide) fun v H' _ ⟨p, vs, h1, _, h3, h4⟩ => ⟨p, vs, h1, h3, h4⟩
theorem gv_catP {ps qs : List (Str × Bool)} (ha : Gv ta σ H (LstP ps)) (hb : ∀ H', Ex H H' → Gv tb σ H' (LstP qs)) (hz : ps.length + qs.length ≤ 100000) : Gv (tOp rCat ta tb) σ H (LstP (ps ++ qs)) := fun H1 e Q q =>
  ha H1 e _ fun v H' H1' f ⟨p, xs, ev, hp, r1⟩ => hb H' f.ex H1' f.sub _ fun v2 H2 H2' f2 ⟨p2, ys, ev2, hp2, r2⟩ =>
    ⟨p, p2, xs, ys, ev, ev2, f2.sub _ _ (f2.ex _ _ hp), f2.sub _ _ hp2, by rw [← Paired.length r1, ← Paired.length r2]; exact Nat.le_trans hz (by decide), fun l hl => by
      have hl2 := fresh_back f2.sub hl
      exact q (.ref l) _ _ ((f.trans f2).trans (Fm.newO f2.sub hl)) ⟨l, _, rfl, upd_same, paired_app' (pairAt_ex (f2.ex.trans (Ex.new hl2)) r1) (pairAt_ex (Ex.new hl2) r2)⟩⟩
theorem q_forNew {te : TE} {g : TG} {tb tz : TS} {D : Ends} (h : te σ H fun v H1 => tSeq (tFor (iSq K (tC v)) g tb) tz D σ H1) : tSeq (tFor (iSq K te) g tb) tz D σ H := h
theorem opt_dec {o : Option Int} {m : Int} : decide ((o.map V.int).getD .non = V.int m) = decide (o = some m) := by
  cases o with
  | none => rfl
  | some n => exact decide_eq_decide.mpr ⟨fun h => by cases h; rfl, fun h => by cases h; rfl⟩
end
end
end K3
namespace K3
open PySem PySem.Spec PyProof.Rows L2 Evl GV LD GQ2
section
variable {K : PySem.W.Frag} {mg : Str → Option Value} {P : Program} {w : World} {base : Heap}
theorem sc_due : FnScope ["_law_parts", "_law_constants", "_law_functions", "_law_tests", "_law_acts", "_law_rules", "_law_names", "_law_k", "_law_name", "_law_some", "_law_least", "_law_orders", "_law_word", "_law_fine", "_law_one", "_law_is_so"] ["_law_parts"] (defScope (top 35)) := ⟨rfl, rfl, rfl, by decide +kernel, rfl, by decide +kernel, by decide +kernel⟩
theorem ok_due (T : Tx K mg) : ∃ fd, FnOk P w K mg base CX0 2 (He.ga K "_law_due") fd ["_law_parts"] (spDue K P w) ∧ Binds K fd ["_law_parts"] [] ∧ PySem.W.keepIn K (.ref (He.ga K "_law_due")) = true := by
  obtain ⟨fd, F⟩ := T.d.def_ 15 (d := d__law_due) rfl
  obtain ⟨fd__law_is_name, G__law_is_name, b__law_is_name, k__law_is_name⟩ := ok_isname (P := P) (w := w) (base := base) T
  obtain ⟨fd__law_is_number, G__law_is_number, b__law_is_number, k__law_is_number⟩ := ok_isnum (P := P) (w := w) (base := base) T
  refine ⟨fd, F.ok sc_due (fun vs H Q E h => ?_) (fun cdv A outer s H vs Q E hr h => ?_), FunD.bindsN F fun _ _ _ _ _ _ us hl => match us, hl with | [_], _ => rfl, F.kp⟩
  · obtain ⟨_, _, _, _, _, _, _, _, _, _, _, rfl, _⟩ := h
    rfl
  · refine ⟨_, PSs.nox (pss_cons (ps_asg (pv 0) (pg_tup rfl (pgs_cons (pg_name (i := 1) sc_due.nd rfl (Or.inl rfl)) (pgs_cons (pg_name (i := 2) sc_due.nd rfl (Or.inl rfl)) (pgs_cons (pg_name (i := 3) sc_due.nd rfl (Or.inl rfl)) (pgs_cons (pg_name (i := 4) sc_due.nd rfl (Or.inl rfl)) (pgs_cons (pg_name (i := 5) sc_due.nd rfl (Or.inl rfl)) pgs_nil)))))))
      (pss_cons (ps_set (i := 6) sc_due.nd rfl (Or.inl rfl) (pe_op op_cat (pe_op op_cat (pe_op op_cat (pv 1) (pe_callTy (call_listL rfl) (by rfl) (T.fr 38 rfl) (by decide +kernel) (pa_cons (pv 2) pa_nil))) (pe_callTy (call_listL rfl) (by rfl) (T.fr 38 rfl) (by decide +kernel) (pa_cons (pv 3) pa_nil))) (pe_callTy (call_listL rfl) (by rfl) (T.fr 38 rfl) (by decide +kernel) (pa_cons (pv 4) pa_nil))))
      (pss_cons (ps_for PassesOwn.never rfl (GV.pi_enSq (by rfl) (T.fr 43 rfl) (pa_cons (pv 6) pa_nil)) (pg_tup rfl (pgs_cons (pg_name (i := 7) sc_due.nd rfl (Or.inl rfl)) (pgs_cons (pg_name (i := 8) sc_due.nd rfl (Or.inl rfl)) pgs_nil))) (pss_one (ps_if (PW.pt (pw_or (pt_not (pt_val (pe_call G__law_is_name (hr.mono (by decide)) rfl (T.gl 23 rfl) k__law_is_name b__law_is_name .nil pass0 (pa_cons (pv 8) pa_nil)))) (pw_or1 (pt_cmpR op_in_seq (pv 8) (pe_slice sl_list (pv 6) po_none (po_some (pv 7))) (by rfl))))) (pss_one (ps_ret (pe_tup (pa_cons pe_str (pa_cons (pv 8) pa_nil))))) pss_nil)))
      (pss_io (pss_cons (ps_for PassesOwn.never rfl (GV.pi_sq (pe_tup (pa_cons (pe_tup (pa_cons (pv 2) (pa_cons pe_int pa_nil))) (pa_cons (pe_tup (pa_cons (pv 3) (pa_cons pe_int pa_nil))) (pa_cons (pe_tup (pa_cons (pv 4) (pa_cons pe_int pa_nil))) pa_nil))))) (pg_tup rfl (pgs_cons (pg_name (i := 9) sc_due.nd rfl (Or.inl rfl)) (pgs_cons (pg_name (i := 10) sc_due.nd rfl (Or.inl rfl)) pgs_nil))) (pss_one (ps_lock (ps_for PassesOwn.never rfl (pi_keys (pv 9)) (pg_name (i := 8) sc_due.nd rfl (Or.inl rfl)) (pss_one (ps_if (pt_not (pt_val (pe_call G__law_is_number (hr.mono (by decide)) rfl (T.gl 22 rfl) k__law_is_number b__law_is_number .nil pass0 (pa_cons (pe_dget (hu_of hr) (pv 9) (pv 8) (fun _ _ => rfl)) (pa_cons (pv 10) pa_nil))))) (pss_one (ps_ret (pe_tup (pa_cons pe_str (pa_cons (pv 8) pa_nil))))) pss_nil))))))
      (pss_cons (ps_set (i := 11) sc_due.nd rfl (Or.inl rfl) pe_int)
      (pss_cons (ps_lock (ps_for PassesOwn.never rfl (pi_itemsL (pv 5)) (pg_tup rfl (pgs_cons (pg_name (i := 8) sc_due.nd rfl (Or.inl rfl)) (pgs_cons (pg_name (i := 12) sc_due.nd rfl (Or.inr rfl)) pgs_nil))) (pss_cons (ps_set (i := 13) sc_due.nd rfl (Or.inl rfl) (pe_lst (pa_cons (pe_tup (pa_cons pe_str (pa_cons (pe_cmpR op_eq (pe_lget (pv 2) (pv 8) (by exact ⟨rfl, rfl, rfl, rfl⟩)) pe_int (nomark _)) pa_nil))) (pa_cons (pe_tup (pa_cons pe_str (pa_cons (pe_cmpR op_eq (pe_lget (pv 2) (pv 8) (by exact ⟨rfl, rfl, rfl, rfl⟩)) pe_int (nomark _)) pa_nil))) pa_nil))))
      (pss_cons (ps_set (i := 13) sc_due.nd rfl (Or.inl rfl) (pe_op op_cat (pv 13) (pe_lst (pa_cons (pe_tup (pa_cons pe_str (pa_cons (pe_cmpR op_eq (pe_lget (pv 3) (pv 8) (by exact ⟨rfl, rfl, rfl, rfl⟩)) pe_int (nomark _)) pa_nil))) (pa_cons (pe_tup (pa_cons pe_str (pa_cons (pe_and (pe_cmpR op_eq (pe_lget (pv 3) (pv 8) (by exact ⟨rfl, rfl, rfl, rfl⟩)) pe_int (nomark _)) (pe_one (pe_cmpR op_eq (pv 11) pe_int (nomark _)))) pa_nil))) pa_nil)))))
      (pss_cons (ps_if (pt_not (pt_val (pe_callB (cr_any rfl) (by rfl) (T.fr 35 rfl) PyProof.Rows.boot_any (pa_cons (pe_lc (own := [("_law_one", 14), ("_law_is_so", 15)]) (g := gTup K 2 (gCons (gName 14) (gCons (gName 15) gNil))) (te := tAndV (tCB (rIsi K) (tCons (tVar 12) (tCons (tC (.ty "str")) tNil))) (tAndV (tOp rEq (tVar 12) (tVar 14)) (tVar 15))) rfl sc_due.nd (pi_list (pv 13)) (blkOk_by (own := [("_law_one", 14), ("_law_is_so", 15)]) (N := ["_law_parts", "_law_constants", "_law_functions", "_law_tests", "_law_acts", "_law_rules", "_law_names", "_law_k", "_law_name", "_law_some", "_law_least", "_law_orders", "_law_word", "_law_fine", "_law_one", "_law_is_so"]) (sc := defScope (top 35)) (by decide +kernel)) (fun _ _ _ _ _ => pg_tup rfl (pgs_cons (pg_name (i := 14) sc_due.nd rfl (Or.inl rfl)) (pgs_cons (pg_name (i := 15) sc_due.nd rfl (Or.inl rfl)) pgs_nil))) (fun _ _ _ _ _ => pts_nil) (fun _ _ _ _ _ => by exact (pe_and (pe_callB call_isi (by rfl) (T.fr 31 rfl) PyProof.Rows.boot_isinstance (pa_cons (pv 12) (pa_cons (pe_bltn (v := .ty "str") (by rfl) (T.fr 32 rfl) (by decide +kernel) rfl) pa_nil))) (pe_and (pe_cmpR op_eq (pv 12) (pv 14) (nomark _)) (pe_one (pv 15)))))) pa_nil)))) (pss_one (ps_ret (pe_tup (pa_cons pe_str (pa_cons (pv 8) pa_nil))))) pss_nil)
      (pss_one (ps_set (i := 11) sc_due.nd rfl (Or.inl rfl) (pe_op op_add (pv 11) (pe_callTy call_int1 (by rfl) (T.fr 37 rfl) PyProof.Rows.boot_int (pa_cons (pe_cmpR op_eq (pv 12) pe_str (nomark _)) pa_nil))))))))))
      (pss_one (ps_ret pe_non))))))))), ?_⟩
    obtain ⟨z, ac, d1, d2, d3, d5, cs, k1, k2, k3, k5, rfl, hz, A1, hac, so, sk1, sk2, sk3, q1, q2⟩ := h
    refine ⟨.ref z, rfl, z, _, rfl, hz, rfl, _, _, rfl, _, _, rfl, _, _, rfl, _, _, rfl, _, _, rfl, rfl, ?_⟩
    have ll : ∀ {k : LKV} {ys : List V}, KsL k ys → k.length ≤ 100 → ys.length ≤ 100 := fun h hl => by rw [← Paired.length h]; exact hl
    refine g_asg (Ex.refl H) (gv_cat (R1 := fun us => ∃ xs ys, us = xs ++ ys ∧ (∃ xs1 ys1, xs = xs1 ++ ys1 ∧ xs1 = cs ∧ KsL k1 ys1) ∧ KsL k2 ys) (R2 := KsL k3) (gv_cat (R1 := fun xs => ∃ xs1 ys1, xs = xs1 ++ ys1 ∧ xs1 = cs ∧ KsL k1 ys1) (R2 := KsL k2) (gv_cat (R1 := fun xs => xs = cs) (R2 := KsL k1) (gv_var rfl ⟨ac, cs, rfl, hac, rfl⟩) (fun H' e => gv_listL (ev_var rfl) (e _ _ A1.h1)) ?_) (fun H' e => gv_listL (ev_var rfl) (e _ _ A1.h2)) ?_) (fun H' e => gv_listL (ev_var rfl) (e _ _ A1.h3)) ?_) fun v Hk H1 fk r => ?_
    · rintro xs ys rfl h
      have := ll h A1.l1
      have := A1.lc
      omega
    · rintro xs ys ⟨xs1, ys1, rfl, rfl, h1⟩ h
      have := ll h A1.l2
      have := ll h1 A1.l1
      have := A1.lc
      rw [List.length_append]
      omega
    · rintro xs ys ⟨xs2, ys2, rfl, ⟨xs1, ys1, rfl, rfl, h1⟩, h2⟩ h
      have := ll h A1.l3
      have := ll h2 A1.l2
      have := ll h1 A1.l1
      have := A1.lc
      rw [List.length_append, List.length_append]
      omega
    obtain ⟨pn, ns, rfl, hpn, xs3, ys3, hns, ⟨xs2, ys2, rfl, ⟨xs1, ys1, rfl, rfl, hk1⟩, hk2⟩, hk3⟩ := r
    have sims : Paired Sim ns (allN xs1 k1 k2 k3) := by
      rw [hns, List.append_assoc, List.append_assoc]
      exact paired_app' (sim_self _) (paired_app' (ksL_sim hk1 (ksL_lv k1)) (paired_app' (ksL_sim hk2 (ksL_lv k2)) (ksL_sim hk3 (ksL_lv k3))))
    have hel : ∀ v ∈ ns, (∀ Hq : Hp, Ex H Hq → Pl K Hq v) ∧ SOk v := by
      rw [hns]
      intro v hv
      have fr : ∀ {k : LKV} {ys : List V}, KsL k ys → (∀ p ∈ k, Pl K H p.2 ∧ ∀ z, p.1 = .text z → z.length ≤ 100000) → KOk k → v ∈ ys → (∀ Hq : Hp, Ex H Hq → Pl K Hq v) ∧ SOk v := fun hk hp ho hv => ⟨fun Hq _ => (ksL_ok (K := K) hk (fun p m => (hp p m).2) ho v hv).1 Hq, (ksL_ok (K := K) hk (fun p m => (hp p m).2) ho v hv).2⟩
      rcases List.mem_append.mp hv with hv | hv
      · rcases List.mem_append.mp hv with hv | hv
        · rcases List.mem_append.mp hv with hv | hv
          · exact ⟨fun Hq e => (A1.pc v hv).ex e, so v hv⟩
          · exact fr hk1 A1.p1 sk1 hv
        · exact fr hk2 A1.p2 sk2 hv
      · exact fr hk3 A1.p3 sk3 hv
    have e1 : Ex H H1 := fk.cur
    have hpn1 : H1 pn = some (.lst ns) := fk.sub _ _ hpn
    clear hns
    /- the names -/
    refine q_forEn (l := true) (a := pn) (xs := ns) (ea_cons (ev_var rfl) ea_nil) (sq_of hpn1) (fun i σ Hc => Ex H1 Hc ∧ (∃ x y, σ = [some (.ref z), some (.ref ac), some (.ref d1), some (.ref d2), some (.ref d3), some (.ref d5), some (.ref pn), x, y, none, none, none, none, none, none, none]) ∧ ∃ zs : List Str, ns.take i = zs.map V.str ∧ firstBad [] ns = firstBad zs.reverse (ns.drop i))
      (fun H2 e2 => ⟨e2, ⟨_, _, rfl⟩, [], rfl, rfl⟩) (fun i σ Hc h => sq_of (h.1 _ _ hpn1)) ?_ ?_
    · rintro i x σ Hc Tt hi ⟨ex, ⟨x0, y0, rfl⟩, zs, hzs, hf⟩ hT
      have eT : Ex Hc (upd Hc Tt (.tup [.int (i : Nat), x])) := Ex.new hT
      have hi2 : i < ns.length := (List.getElem?_eq_some_iff.mp hi).1
      rw [drop_one hi] at hf
      obtain ⟨px, sx⟩ := hel x (List.mem_of_getElem? hi)
      have call : ∀ {Hq : Hp}, Ex Hc Hq → EvT (tNot (tB (tCall (spIsName K) [] E0 (tCons (tVar 8) tNil)))) [some (.ref z), some (.ref ac), some (.ref d1), some (.ref d2), some (.ref d3), some (.ref d5), some (.ref pn), some (.int (i : Nat)), some x, none, none, none, none, none, none, none] Hq (!nameB x) := fun {Hq} e => et_not (et_B (ev_call (sp := spIsName K) (vs := [x]) (ea_cons (ev_var rfl) ea_nil) fun H2 e2 Q2 k2 E2 => ⟨x, rfl, px _ ((e1.trans ex).trans (e.trans e2)), sx, fun H3 e3 => k2 H3 e3⟩))
      have bad : firstBad [] ns = some x → ∀ {Hq : Hp}, Ex Hc Hq → ∀ p, Hq p = none → Q (.ref p) (upd Hq p (.tup [.str "name", x])) := fun hb Hq e p hp => by
        obtain ⟨u, hu, hs⟩ := (firstBad_sim sims []).2 x hb
        have hd : dueP xs1 k1 k2 k3 k5 = some (("BadName" : Str), u) := by
          unfold dueP
          rw [hu]
        have ee := (e1.trans ex).trans e
        exact q2 "BadName" u x p _ hd hs.symm (fresh_back ee hp) (ee.trans (Ex.new hp)) upd_same
      rcases nameB_nam x with ⟨hb, hn⟩ | ⟨zx, rfl, hb, hn⟩
      · refine s_when (b := !nameB x || true) (et_or (call eT) fun h => absurd h (by rw [hb]; exact fun z => nomatch z)) (fun _ H2 e2 => ?_) (fun h => absurd h (by rw [hb]; exact fun z => nomatch z))
        exact ⟨_, rfl, (by show 2 ≤ sizeLine; decide), fun p hp => bad (by rw [hf, firstBad_cons, hn]) (eT.trans e2) p hp⟩
      · have hfz : firstBad [] ns = if zx ∈ zs.reverse then some (.str zx) else firstBad (zx :: zs.reverse) (ns.drop (i + 1)) := by rw [hf, firstBad_cons, hn]
        refine s_when (b := !nameB (.str zx) || inV (.str zx) (zs.map V.str)) (et_or (call eT) fun _ => et_test fun H3 e3 Q3 k3 => ?_) (fun hh H2 e2 => ?_) (fun hh H2 e2 => ?_)
        · refine ⟨_, rfl, _, rfl, _, rfl, (i : Int), rfl, pn, ns, rfl, sq_of (((ex.trans eT).trans e3) _ _ hpn1), fun p hp => ?_⟩
          rw [cut_take (Nat.le_of_lt hi2), hzs]
          exact rv_isL (sq_of upd_same) rfl (by rw [List.all_map]; exact List.all_eq_true.mpr fun _ _ => rfl) _ (Ex.refl _) Q3 fun H4 e4 => k3 H4 ((Ex.new hp).trans e4)
        · rw [hb, Bool.not_true, Bool.false_or, inV_strs] at hh
          rw [if_pos (List.mem_reverse.mpr (of_decide_eq_true hh))] at hfz
          exact ⟨_, rfl, (by show 2 ≤ sizeLine; decide), fun p hp => bad hfz (eT.trans e2) p hp⟩
        · rw [hb, Bool.not_true, Bool.false_or, inV_strs] at hh
          rw [if_neg (fun m => of_decide_eq_false hh (List.mem_reverse.mp m))] at hfz
          refine ⟨(ex.trans eT).trans e2, ⟨_, _, rfl⟩, zs ++ [zx], ?_, ?_⟩
          · rw [take_one hi, hzs, List.map_append]
            rfl
          · rw [List.reverse_append]
            exact hfz
    rintro σ Hc ⟨ex, ⟨x0, y0, rfl⟩, zs0, hzs0, hf⟩
    rw [List.drop_length] at hf
    have hfb0 := (firstBad_sim sims []).1 hf
    obtain ⟨zs, l1, l2, l3, AO⟩ := allOk hfb0
    obtain ⟨rfl, rfl, rfl, rfl, nd, okn⟩ := AO
    obtain ⟨ndz, nd1, _⟩ := List.nodup_append.mp nd
    obtain ⟨nda, nd2, djf⟩ := List.nodup_append.mp nd1
    obtain ⟨ndb, ndc, _⟩ := List.nodup_append.mp nd2
    have due0 : dueP (zs.map V.str) (tkL l1) (tkL l2) (tkL l3) k5 = dueN l1 l2 l3 k5 := by
      unfold dueP
      rw [hfb0]
      dsimp only
      rw [tx_tkL, tx_tkL, tx_tkL]
    have eC : Ex H Hc := e1.trans ex
    have h1c := eC _ _ A1.h1
    have h2c := eC _ _ A1.h2
    have h3c := eC _ _ A1.h3
    have h5c := eC _ _ A1.h5
    /- the dicts as dicts of texts -/
    refine ⟨vw Hc d1 d2 d3 l1 l2 l3, vw_down A1.n12 A1.n13 A1.n23 h1c h2c h3c, ?_⟩
    have hb1 := vw_1 (H := Hc) (l1 := l1) (l2 := l2) (l3 := l3) A1.n12 A1.n13
    have hb2 := vw_2 (H := Hc) (d1 := d1) (l1 := l1) (l2 := l2) (l3 := l3) A1.n23
    have hb3 := vw_3 (H := Hc) (d1 := d1) (d2 := d2) (d3 := d3) (l1 := l1) (l2 := l2) (l3 := l3)
    have hb5 : vw Hc d1 d2 d3 l1 l2 l3 d5 = some (dL P w d5 k5) := (vw_ne (Ne.symm A1.n15) (Ne.symm A1.n25) (Ne.symm A1.n35)).trans h5c
    have pq : ∀ {v : V}, Pl K H v → Pl K (vw Hc d1 d2 d3 l1 l2 l3) v := fun h => vw_pl h1c h2c h3c (h.ex eC)
    have ret : ∀ {n : Str} {v u : V} {p : Addr} {H' : Hp}, dueP (zs.map V.str) (tkL l1) (tkL l2) (tkL l3) k5 = some (n, v) → Sim v u → Ex (vw Hc d1 d2 d3 l1 l2 l3) H' → vw Hc d1 d2 d3 l1 l2 l3 p = none → H' p = some (.tup [.str (wordOf n), u]) → ∃ H'', View P w H' H'' ∧ Q (.ref p) H'' := by
      intro n v u p H' hd hs e hp hpt
      obtain ⟨H'', vv, eH, keep⟩ := vw_up A1.n12 A1.n13 A1.n23 h1c h2c h3c e
      have m1 : p ≠ d1 := fun q => by rw [q, hb1] at hp; cases hp
      have m2 : p ≠ d2 := fun q => by rw [q, hb2] at hp; cases hp
      have m3 : p ≠ d3 := fun q => by rw [q, hb3] at hp; cases hp
      rw [vw_ne m1 m2 m3] at hp
      exact ⟨H'', vv, q2 n v u p H'' hd hs (fresh_back eC hp) (eC.trans eH) ((keep p m1 m2 m3).trans hpt)⟩
    have retN : dueP (zs.map V.str) (tkL l1) (tkL l2) (tkL l3) k5 = none → ∀ {H' : Hp}, Ex (vw Hc d1 d2 d3 l1 l2 l3) H' → ∃ H'', View P w H' H'' ∧ Q .non H'' := by
      intro hd H' e
      obtain ⟨H'', vv, eH, keep⟩ := vw_up A1.n12 A1.n13 A1.n23 h1c h2c h3c e
      exact ⟨H'', vv, q1 hd H'' (eC.trans eH)⟩
    generalize hW : vw Hc d1 d2 d3 l1 l2 l3 = W at *
    /- the numbers -/
    refine q_forNew ⟨_, rfl, (by show 2 ≤ sizeLine; decide), fun T1 hT1 => ⟨_, rfl, (by show 2 ≤ sizeLine; decide), fun T2 hT2 => ⟨_, rfl, (by show 2 ≤ sizeLine; decide), fun T3 hT3 => ⟨(by show 3 ≤ sizeLine; decide), fun pt hpt => ?_⟩⟩⟩⟩
    have eT1 : Ex W (upd W T1 (.tup [.ref d1, .int 1])) := Ex.new hT1
    have eT2 := eT1.trans (Ex.new (o := .tup [.ref d2, .int 1]) hT2)
    have eT3 := eT2.trans (Ex.new (o := .tup [.ref d3, .int 0]) hT3)
    have eP := eT3.trans (Ex.new (o := .tup [.ref T1, .ref T2, .ref T3]) hpt)
    have aT3 := (Ex.new (o := .tup [.ref T1, .ref T2, .ref T3]) hpt) T3 _ upd_same
    have aT2 := ((Ex.new (o := .tup [.ref d3, .int 0]) hT3).trans (Ex.new (o := .tup [.ref T1, .ref T2, .ref T3]) hpt)) T2 _ upd_same
    have aT1 := ((Ex.new (o := .tup [.ref d2, .int 1]) hT2).trans ((Ex.new (o := .tup [.ref d3, .int 0]) hT3).trans (Ex.new (o := .tup [.ref T1, .ref T2, .ref T3]) hpt))) T1 _ upd_same
    have aP : SqT K (upd (upd (upd (upd W T1 (.tup [.ref d1, .int 1])) T2 (.tup [.ref d2, .int 1])) T3 (.tup [.ref d3, .int 0])) pt (.tup [.ref T1, .ref T2, .ref T3])) pt [.ref T1, .ref T2, .ref T3] := SqT.of upd_same
    generalize hP0 : upd (upd (upd (upd W T1 (.tup [.ref d1, .int 1])) T2 (.tup [.ref d2, .int 1])) T3 (.tup [.ref d3, .int 0])) pt (.tup [.ref T1, .ref T2, .ref T3]) = P0 at eP aT1 aT2 aT3 aP ⊢
    have tab : ∀ (i : Nat) (x : V), [V.ref T1, .ref T2, .ref T3][i]? = some x → ∃ Ti d b l, x = .ref Ti ∧ P0 Ti = some (.tup [.ref d, .int (leN b)]) ∧ W d = some (.dK (tkK l)) ∧ [(d1, false, l1), (d2, false, l2), (d3, true, l3)][i]? = some (d, b, l) ∧ l.length ≤ 100 ∧ (l.map (·.1)).Nodup ∧ (∀ p ∈ l, Pl K W p.2) ∧
        ((∀ j t, j < i → [(d1, false, l1), (d2, false, l2), (d3, true, l3)][j]? = some t → badNum (asN t.2.1) t.2.2 = none) → ∀ zz, badNum (asN b) l = some zz → dueN l1 l2 l3 k5 = some (("BadNumber" : Str), .str zz)) := by
      have lt : ∀ {l : List (Str × V)}, (tkL l).length ≤ 100 → l.length ≤ 100 := fun h => by rw [tkL, List.length_map] at h; exact h
      intro i x hx
      match i, hx with
      | 0, hx =>
        cases hx
        refine ⟨T1, d1, false, l1, rfl, aT1, hb1, rfl, lt A1.l1, nda, fun p hp => pq (A1.p1 (Leaf.text p.1, p.2) (List.mem_map_of_mem hp)).1, fun hj zz hzz => ?_⟩
        have e : badNum [1, 2] l1 = some zz := hzz
        unfold dueN
        rw [e]
      | 1, hx =>
        cases hx
        refine ⟨T2, d2, false, l2, rfl, aT2, hb2, rfl, lt A1.l2, ndb, fun p hp => pq (A1.p2 (Leaf.text p.1, p.2) (List.mem_map_of_mem hp)).1, fun hj zz hzz => ?_⟩
        have e1 : badNum [1, 2] l1 = none := hj 0 _ (by omega) rfl
        have e : badNum [1, 2] l2 = some zz := hzz
        unfold dueN
        rw [e1]
        dsimp only
        rw [e]
      | 2, hx =>
        cases hx
        refine ⟨T3, d3, true, l3, rfl, aT3, hb3, rfl, lt A1.l3, ndc, fun p hp => pq (A1.p3 (Leaf.text p.1, p.2) (List.mem_map_of_mem hp)).1, fun hj zz hzz => ?_⟩
        have e1 : badNum [1, 2] l1 = none := hj 0 _ (by omega) rfl
        have e2 : badNum [1, 2] l2 = none := hj 1 _ (by omega) rfl
        have e : badNum [0, 1, 2] l3 = some zz := hzz
        unfold dueN
        rw [e1]
        dsimp only
        rw [e2]
        dsimp only
        rw [e]
      | n + 3, hx => cases hx
    refine s_forSqG (l := false) (a := pt) (xs := [.ref T1, .ref T2, .ref T3]) ev_c aP (fun i σ H2 => Ex P0 H2 ∧ (∃ x7 x8 x9 x10, σ = [some (.ref z), some (.ref ac), some (.ref d1), some (.ref d2), some (.ref d3), some (.ref d5), some (.ref pn), x7, x8, x9, x10, none, none, none, none, none]) ∧ ∀ j t, j < i → [(d1, false, l1), (d2, false, l2), (d3, true, l3)][j]? = some t → badNum (asN t.2.1) t.2.2 = none)
      (fun H2 e2 => ⟨e2, ⟨_, _, _, _, rfl⟩, fun j t hj => absurd hj (by omega)⟩) (fun i σ H2 h => ex_t h.1 aP) ?_ ?_
    · rintro i x σ H2 hi ⟨ex2, ⟨x7, x8, x9, x10, rfl⟩, hj⟩
      obtain ⟨Ti, d, b, l, rfl, hTi, hd, hti, hl, ndl, plv, hbad⟩ := tab i x hi
      have hbad := hbad hj
      refine ⟨Ti, _, rfl, SqT.of (ex2 _ _ hTi), rfl, _, _, rfl, _, _, rfl, rfl, ?_⟩
      have hd2 := (eP.trans ex2) _ _ hd
      refine s_keysK (j := 9) (d := d) (kvs := tkK l) rfl hd2 (fun od m σ Hm => Ex (upd H2 d (.frz od (.dK (tkK l)))) Hm ∧ (∃ y, σ = [some (.ref z), some (.ref ac), some (.ref d1), some (.ref d2), some (.ref d3), some (.ref d5), some (.ref pn), x7, y, some (.ref d), some (.int (leN b)), none, none, none, none, none]) ∧ badNum (asN b) l = badNum (asN b) (l.drop m))
        (fun od => ⟨Ex.refl _, ⟨_, rfl⟩, rfl⟩) (fun od m σ Hm h => h.1 _ _ upd_same) ?_ ?_
      · rintro od m k v σ Hm bk ct hk ⟨em, ⟨y, rfl⟩, hb⟩
        obtain ⟨zz, hlm, rfl⟩ := tkK_at hk
        have hdm := em _ _ upd_same
        have plm : Pl K Hm v := (pl_frz hd2 (fun _ q => nomatch q) (fun _ _ q => nomatch q) ((plv (zz, v) (List.mem_of_getElem? hlm)).ex (eP.trans ex2))).ex em
        have hval : valV (tkK l) (.inr zz) = some v := by
          have hne := nd_new ndl hlm
          have hsp : l = l.take m ++ (zz, v) :: l.drop (m + 1) := by rw [← drop_one hlm, List.take_append_drop]
          unfold valV tkK
          rw [hsp, List.map_append, List.find?_append, List.find?_eq_none.mpr, List.map_cons, List.find?_cons_of_pos (by exact decide_eq_true rfl)]
          · rfl
          · intro p hp hh
            obtain ⟨q, hq, rfl⟩ := List.mem_map.mp hp
            have := of_decide_eq_true hh
            injection this with this
            exact hne q hq this
        rw [drop_one hlm] at hb
        have hbc : badNum (asN b) l = if numB b v = true then badNum (asN b) (l.drop (m + 1)) else some zz := hb
        refine s_when (b := !numB b v) (et_not (et_B (ev_call (sp := spIsNum K) (vs := [v, .int (leN b)]) (ea_cons (fun H3 e3 Q3 k3 => ⟨_, rfl, _, rfl, d, v, rfl, .inl ⟨tkK l, .inr zz, .inr ⟨od, e3 _ _ hdm⟩, rfl, hval.symm⟩, k3 H3 (Ex.refl H3)⟩) (ea_cons (ev_var rfl) ea_nil)) fun H3 e3 Q3 k3 E3 => ⟨v, b, rfl, plm.ex e3, fun H4 e4 => k3 H4 e4⟩))) (fun hh H3 e3 => ?_) (fun hh H3 e3 => ?_)
        · have hnb : numB b v = false := by
            revert hh
            cases numB b v <;> simp
          rw [hnb, if_neg Bool.false_ne_true] at hbc
          refine ⟨_, rfl, (by show 2 ≤ sizeLine; decide), fun p hp => ?_⟩
          have hdp := (em.trans e3) _ _ upd_same
          have npd : p ≠ d := fun q => by rw [q, hdp] at hp; cases hp
          refine ⟨(upd_ne (Ne.symm npd)).trans hdp, ?_⟩
          have eU : Ex H2 (upd (upd H3 p (.tup [.str "number", .str zz])) d (.dK (tkK l))) := ex_lock (od := od) hd2 ((em.trans e3).trans (Ex.new hp))
          refine ret (n := "BadNumber") (v := .str zz) (u := .str zz) (by rw [due0, hbad zz hbc]) (Sim.refl _) ((eP.trans ex2).trans eU) ?_ ((upd_ne npd).trans upd_same)
          have hpm : (upd H2 d (.frz od (.dK (tkK l)))) p = none := fresh_back (em.trans e3) hp
          rw [upd_ne npd] at hpm
          exact fresh_back (eP.trans ex2) hpm
        · have hnb : numB b v = true := by
            revert hh
            cases numB b v <;> simp
          rw [if_pos hnb] at hbc
          exact ⟨em.trans e3, ⟨_, rfl⟩, hbc⟩
      · rintro od σ Hm ⟨em, ⟨y, rfl⟩, hb⟩
        rw [show (tkK l).length = l.length by rw [tkK, List.length_map], List.drop_length] at hb
        refine ⟨ex2.trans (ex_lock (od := od) hd2 em), ⟨_, _, _, _, rfl⟩, fun j t hjt ht => ?_⟩
        by_cases q : j = i
        · rw [q, hti] at ht
          cases ht
          exact hb
        · exact hj j t (by omega) ht
    rintro σ H2 ⟨ex2, ⟨x7, x8, x9, x10, rfl⟩, hj⟩
    have bn1 : badNum [1, 2] l1 = none := hj 0 (d1, false, l1) (by show 0 < 3; omega) rfl
    have bn2 : badNum [1, 2] l2 = none := hj 1 (d2, false, l2) (by show 1 < 3; omega) rfl
    have bn3 : badNum [0, 1, 2] l3 = none := hj 2 (d3, true, l3) (by show 2 < 3; omega) rfl
    have dueR : dueN l1 l2 l3 k5 = (badRule (nums l1) (nums l2) false k5).map fun k => (("BadRule" : Str), lv k) := by
      unfold dueN
      rw [bn1]
      dsimp only
      rw [bn2]
      dsimp only
      rw [bn3]
    obtain ⟨tk1, in1⟩ := badNum_ints bn1
    obtain ⟨tk2, in2⟩ := badNum_ints bn2
    rw [tk1] at hb1
    rw [tk2] at hb2
    generalize hF : nums l1 = F at *
    generalize hG : nums l2 = G at *
    refine q_asg (v := .int 0) ev_c fun H3 e3 => ?_
    have e03 : Ex W H3 := (eP.trans ex2).trans e3
    have h5 := e03 _ _ hb5
    refine s_itemsLR (P := P) (w := w) (j := 5) (d := d5) (kvs := k5) rfl h5 (fun od i σ Hm => Ex (upd H3 d5 (.frz od (dL P w d5 k5))) Hm ∧ ∃ x8 x12 x13 n, σ = [some (.ref z), some (.ref ac), some (.ref d1), some (.ref d2), some (.ref d3), some (.ref d5), some (.ref pn), x7, x8, x9, x10, some (.int n), x12, x13, none, none] ∧ 0 ≤ n ∧ badRule F G false k5 = badRule F G (!decide (n = 0)) (k5.drop i))
      (fun od => ⟨Ex.refl _, _, _, _, 0, rfl, Int.le_refl _, rfl⟩) (fun od i σ Hm h => h.1 _ _ upd_same) ?_ ?_
    · rintro od i k x v σ Hm Tt bk ct hk hx ⟨em, x8, x12, x13, n, rfl, hn, hbr⟩ hTt
      have eT : Ex Hm (upd Hm Tt (.tup [x, v])) := Ex.new hTt
      rw [drop_one hk] at hbr
      have hbn : badRule F G false k5 = if canV F G (kTxt k) (txt v) = true then (if (decide (txt v = .str "order") && !decide (n = 0)) = true then some k else badRule F G (!decide (n = 0) || decide (txt v = .str "order")) (k5.drop (i + 1))) else some k := hbr
      have g1 : Hm d1 = some (.dK (numK F)) := em _ _ ((upd_ne A1.n15).trans (e03 _ _ hb1))
      have g2 : Hm d2 = some (.dK (numK G)) := em _ _ ((upd_ne A1.n25).trans (e03 _ _ hb2))
      have pv : Pl K Hm v := (pl_frz h5 (fun xs q => dL_lst (P := P) (w := w) xs q) (fun o xs q => dL_frz (P := P) (w := w) o _ q) ((pq (A1.p5 (k, v) (List.mem_of_getElem? hk)).1).ex e03)).ex em
      obtain ⟨kn, kd, kb, _⟩ := pv.kind
      have ge : ∀ {ns : List (Str × Int)} {dd : Addr} {j : Nat} {σ : L2.St} {Hq : Hp} (m : Int), Hm dd = some (.dK (numK ns)) → Ex Hm Hq → σ[j]? = some (some (.ref dd)) → σ[8]? = some (some x) → Ev (tOp rEq (tLGet P w (tVar j) (tVar 8)) (tC (.int m))) σ Hq (.bl (decide (numV ns (kTxt k) = some m))) := fun {ns dd j σ Hq} m hd e h1 h2 => by
        rw [← opt_dec]
        exact ev_op (ev_lget (ev_var h1) (ev_var h2) (e _ _ hd) fun H4 e4 => lget_any hx ((e.trans e4) _ _ hd)) ev_c (rv_eq (by cases numV ns (kTxt k) <;> rfl))
      refine g_asg (Ex.refl _) (gv_two (p := ("settles", decide (numV F (kTxt k) = some 1))) (q := ("swaps", decide (numV F (kTxt k) = some 2))) (gv_pair (ge 1 g1 eT rfl rfl)) fun H' e => gv_pair (ge 2 g1 (eT.trans e) rfl rfl)) fun vf Hk1 Hc1 f1 r1 => ?_
      have e1c : Ex Hm Hc1 := eT.trans f1.cur
      have r1' := lstP_ex f1.sub r1
      refine g_asg (Ex.refl _) (gv_catP (qs := [("both", decide (numV G (kTxt k) = some 2)), ("order", decide (numV G (kTxt k) = some 2) && decide (n = 0))]) (gv_var rfl r1') (fun H' e => gv_two (gv_pair (ge 2 g2 (e1c.trans e) rfl rfl)) fun H'' e' => gv_pair (ev_andV (ge 2 g2 ((e1c.trans e).trans e') rfl rfl) fun _ => ?_)) (by show 2 + 2 ≤ 100000; decide)) fun vf2 Hk2 Hc2 f2 r2 => ?_
      · rw [show decide (n = 0) = decide (V.int n = V.int 0) from decide_eq_decide.mpr ⟨fun h => by rw [h], fun h => by cases h; rfl⟩]
        exact ev_op (ev_var rfl) ev_c (rv_eq rfl)
      obtain ⟨pf, us, rfl, hpf, hps⟩ := lstP_ex f2.sub r2
      have e2c : Ex Hm Hc2 := e1c.trans f2.cur
      have hlen : us.length = 4 := (Paired.length hps).symm
      have hany : Ev (tCB (rAny K) (tCons (tLc (iList K (tVar 13)) (gTup K 2 (gCons (gName 14) (gCons (gName 15) gNil))) tYes (tAndV (tCB (rIsi K) (tCons (tVar 12) (tCons (tC (.ty "str")) tNil))) (tAndV (tOp rEq (tVar 12) (tVar 14)) (tVar 15))) [14, 15]) tNil)) [some (.ref z), some (.ref ac), some (.ref d1), some (.ref d2), some (.ref d3), some (.ref d5), some (.ref pn), x7, some x, x9, x10, some (.int n), some v, some (.ref pf), none, none] Hc2 (.bl (fineB (numV F (kTxt k)) (numV G (kTxt k)) n v)) := by
        refine ev_anyG (bs := [wayB v "settles" (decide (numV F (kTxt k) = some 1)), wayB v "swaps" (decide (numV F (kTxt k) = some 2)), wayB v "both" (decide (numV G (kTxt k) = some 2)), wayB v "order" (decide (numV G (kTxt k) = some 2) && decide (n = 0))])
          (gv_lcL (U := fun a xs _ => xs = us) (N := 4) (fun i ys _ => ys = (((([("settles", decide (numV F (kTxt k) = some 1)), ("swaps", decide (numV F (kTxt k) = some 2))] : List (Str × Bool)) ++ ([("both", decide (numV G (kTxt k) = some 2)), ("order", decide (numV G (kTxt k) = some 2) && decide (n = 0))] : List (Str × Bool))).take i).map fun p => wayB v p.1 p.2).map V.bl)
            (gv_var rfl ⟨pf, us, rfl, hlen, sq_of hpf, rfl⟩) (fun _ _ _ _ _ h => h) (fun i ys _ h => ?_) (fun _ _ => rfl) fun a xs H' e hsq hu Hs e2 i y ys hy r => ?_) fun ys H' r => ?_
        · rw [h, List.length_map, List.length_map, List.length_take]
          exact Nat.le_trans (Nat.min_le_right _ _) (by show 4 ≤ 100000; decide)
        · rw [show xs = us from hu] at hy
          obtain ⟨p, hp1, hp2, Ty, rfl, hTy⟩ := paired_take hps hy
          refine fun H4 e4 => ⟨Ty, _, rfl, SqT.of (((e.trans e2).trans e4) _ _ hTy), rfl, _, _, rfl, _, _, rfl, rfl, rfl, rfl, true, fun H5 e6 Q5 k5 => k5 H5 (Ex.refl H5), fun _ => gv_w (gv_ev (v := .bl (wayB v p.1 p.2)) ?_) fun u H5 _ hu => ?_, fun q => nomatch q⟩
          · refine ev_andV (ev_isb (ev_var rfl) (kd_ex ((e2c.trans e).trans e2) kd) kb.s) fun hs => ev_andV (ev_op (ev_var rfl) (ev_var rfl) (rv_eq ?_)) fun _ => ev_var rfl
            cases v <;> first | rfl | cases hs
          · rw [show u = _ from hu, r]
            refine Eq.trans ?_ (congrArg (fun l : List (Str × Bool) => (l.map fun p => wayB v p.1 p.2).map V.bl) hp2).symm
            show _ = ((_ ++ [p]).map fun p => wayB v p.1 p.2).map V.bl
            rw [List.map_append, List.map_append]
            rfl
        · rw [r]
          rfl
      have hfc := fine_can (fs := F) (ts := G) (n := n) (y := kTxt k) (v := v) (fun m hm => ?_) (fun m hm => ?_)
      rotate_left
      · cases hkk : kTxt k with
        | str zz =>
          rw [hkk] at hm
          have hmem := num_some (show num F zz = some m from hm)
          rw [← hF] at hmem
          obtain ⟨q, hq, hqe⟩ := List.mem_map.mp hmem
          have hiv := in1 q.1 q.2 hq
          have hvi := inV_ints hiv
          have hmv : toInt q.2 = m := congrArg (·.2) hqe
          rw [hvi, hmv] at hiv
          have hor : (eqV (.int 1) (.int m) || (eqV (.int 2) (.int m) || false)) = true := hiv
          rw [Bool.or_false, Bool.or_eq_true] at hor
          rcases hor with h | h
          · exact .inl (of_decide_eq_true h).symm
          · exact .inr (of_decide_eq_true h).symm
        | _ => rw [hkk] at hm; cases hm
      · cases hkk : kTxt k with
        | str zz =>
          rw [hkk] at hm
          have hmem := num_some (show num F zz = some m from hm)
          rw [← hF] at hmem
          obtain ⟨q, hq, hqe⟩ := List.mem_map.mp hmem
          have hz1 : zz ∈ l1.map (·.1) := by
            rw [show zz = q.1 from (congrArg (·.1) hqe).symm]
            exact List.mem_map_of_mem hq
          show num G zz = none
          cases hn2 : num G zz with
          | none => rfl
          | some m2 =>
            have hmem2 := num_some hn2
            rw [← hG] at hmem2
            obtain ⟨q2, hq2, hqe2⟩ := List.mem_map.mp hmem2
            have hz2 : zz ∈ l2.map (·.1) := by
              rw [show zz = q2.1 from (congrArg (·.1) hqe2).symm]
              exact List.mem_map_of_mem hq2
            exact absurd rfl (djf zz hz1 zz (List.mem_append_left _ hz2))
        | _ => rw [hkk] at hm; cases hm
      refine q_when (b := !fineB (numV F (kTxt k)) (numV G (kTxt k)) n v) (et_not (et_B hany)) (fun hh H4 e4 => ?_) (fun hh H4 e4 => ?_)
      · have hfine : fineB (numV F (kTxt k)) (numV G (kTxt k)) n v = false := by
          revert hh
          cases fineB (numV F (kTxt k)) (numV G (kTxt k)) n v <;> simp
        rw [hfine] at hfc
        have hbk : badRule F G false k5 = some k := by
          rw [hbn]
          by_cases c : canV F G (kTxt k) (txt v) = true
          · rw [if_pos c]
            rw [c, Bool.true_and] at hfc
            rw [if_pos]
            revert hfc
            cases (decide (txt v = .str "order") && !decide (n = 0)) <;> simp
          · rw [if_neg c]
        refine ⟨_, rfl, (by show 2 ≤ sizeLine; decide), fun p hp => ?_⟩
        have e5 : Ex (upd H3 d5 (.frz od (dL P w d5 k5))) H4 := em.trans (e2c.trans e4)
        have hdp := e5 _ _ upd_same
        have npd : p ≠ d5 := fun q => by rw [q, hdp] at hp; cases hp
        refine ⟨(upd_ne (Ne.symm npd)).trans hdp, ?_⟩
        have eU : Ex H3 (upd (upd H4 p (.tup [.str "rule", x])) d5 (dL P w d5 k5)) := ex_lock (od := od) h5 (e5.trans (Ex.new hp))
        refine ret (n := "BadRule") (v := lv k) (u := x) (by rw [due0, dueR, hbk]; rfl) (sim_key (lV_lv k) hx) (e03.trans eU) ?_ ((upd_ne npd).trans upd_same)
        have hpm : (upd H3 d5 (.frz od (dL P w d5 k5))) p = none := fresh_back e5 hp
        rw [upd_ne npd] at hpm
        exact fresh_back e03 hpm
      · have hfine : fineB (numV F (kTxt k)) (numV G (kTxt k)) n v = true := by
          revert hh
          cases fineB (numV F (kTxt k)) (numV G (kTxt k)) n v <;> simp
        rw [hfine] at hfc
        obtain ⟨hc, ho⟩ := Bool.and_eq_true_iff.mp hfc.symm
        have ho' : (decide (txt v = .str "order") && !decide (n = 0)) = false := by
          revert ho
          cases (decide (txt v = .str "order") && !decide (n = 0)) <;> simp
        rw [if_pos hc, ho', if_neg Bool.false_ne_true] at hbn
        obtain ⟨zv, rfl⟩ : ∃ zv, v = .str zv := by
          cases v <;> first | exact ⟨_, rfl⟩ | cases hfine
        refine s_asg (v := .int (n + if decide (V.str zv = .str "order") = true then 1 else 0)) (ev_op (ev_var rfl) (ev_cb (ea_cons (ev_op (ev_var rfl) ev_c (rv_eq rfl)) ea_nil) fun H5 _ Q5 k5 => .inr ⟨_, rfl, k5 H5 (Ex.refl H5)⟩) rv_I0) fun H5 e5 => ?_
        refine ⟨((em.trans e2c).trans e4).trans e5, _, _, _, _, rfl, ?_, ?_⟩
        · split <;> omega
        · rw [hbn]
          congr 1
          show (!decide (n = 0) || decide (V.str zv = .str "order")) = _
          cases decide (V.str zv = .str "order") with
          | true =>
            rw [Bool.or_true, if_pos rfl]
            have : decide (n + 1 = 0) = false := decide_eq_false (by omega)
            rw [this]
            rfl
          | false => rw [Bool.or_false, if_neg Bool.false_ne_true, Int.add_zero]
    · rintro od σ Hm ⟨em, x8, x12, x13, n, rfl, hn, hbr⟩
      rw [List.drop_length] at hbr
      exact retN (by rw [due0, dueR, show badRule F G false k5 = none from hbr]; rfl) (e03.trans (ex_lock (od := od) h5 em))
end
end K3
namespace K3
open PySem PySem.Spec PyProof.Rows L2 Evl GV LD GQ2
section
variable {K : PySem.W.Frag} {P : Program} {w : World}
/-! ### what the law hands over -/
structure PartsAt (K : PySem.W.Frag) (P : Program) (w : World) (n : Nat) (H : Hp) (ac d1 d2 d3 d5 : Addr) (cs : List V) (k1 k2 k3 k5 : LKV) : Prop where
  a : ArgsAt K P w H ac d1 d2 d3 d5 cs k1 k2 k3 k5
  l : H ac = some (.lst cs)
  dt : ∀ v ∈ cs, ∃ d, Dp K H v d ∧ d.canLay0 = true ∧ d.depth ≤ n
  o1 : KOk k1
  o2 : KOk k2
  o3 : KOk k3
  o5 : KOk k5
  n0 : cs.length ≤ 5 + n
  n1 : k1.length ≤ 5 + n
  n2 : k2.length ≤ 5 + n
  n3 : k3.length ≤ 5 + n
  n5 : k5.length ≤ 5 + n
/-- a value that is a key, too -/
def goodV : V → Bool
  | .non => true
  | .int _ => true
  | .bl _ => true
  | .str z => decide (z.length ≤ 100000) && PyData.strOk z
  | _ => false
def KF (k : Leaf) : Prop := ∀ z, k = .text z → z.length ≤ 100000 ∧ PyData.strOk z = true
theorem good_leaf {v : V} (h : goodV v = true) : ∃ k, lV k v ∧ KF k := by
  cases v with
  | non => exact ⟨.none, rfl, fun z e => nomatch e⟩
  | int i => exact ⟨.num i, .inl rfl, fun z e => nomatch e⟩
  | bl b => exact ⟨.num (if b = true then 1 else 0), .inr ⟨b, rfl, rfl⟩, fun z e => nomatch e⟩
  | str z =>
    obtain ⟨h1, h2⟩ := Bool.and_eq_true_iff.mp h
    exact ⟨.text z, rfl, fun y e => by cases e; exact ⟨of_decide_eq_true h1, h2⟩⟩
  | _ => cases h
theorem good_pl {v : V} (h : goodV v = true) (H : Hp) : Pl K H v := by
  cases v with
  | non => exact .non
  | int i => exact .int i
  | bl b => exact .bl b
  | str z => exact .str z (of_decide_eq_true (Bool.and_eq_true_iff.mp h).1)
  | _ => cases h
theorem good_dat {v : V} (h : goodV v = true) (H : Hp) : ∃ d, Dp K H v d ∧ d.canLay0 = true ∧ d.depth ≤ 0 := by
  cases v with
  | non => exact ⟨_, .non, rfl, Nat.le_refl _⟩
  | int i => exact ⟨_, .int i, rfl, Nat.le_refl _⟩
  | bl b => exact ⟨_, .bl b, rfl, Nat.le_refl _⟩
  | str z => exact ⟨_, .str z, (Bool.and_eq_true_iff.mp h).2, Nat.le_refl _⟩
  | _ => cases h
theorem dat_list {H : Hp} {a : Addr} {n : Nat} : ∀ {xs : List V}, (∀ v ∈ xs, ∃ d, Dp K H v d ∧ d.canLay0 = true ∧ d.depth ≤ n) → ∃ ds, DpAll K H xs ds ∧ PyData.canLayAll0 ds = true ∧ PyData.depthAll ds ≤ n
  | [], _ => ⟨[], .nil, rfl, Nat.zero_le _⟩
  | x :: xs, h => by
    obtain ⟨d, h1, h2, h3⟩ := h x (List.mem_cons_self ..)
    obtain ⟨ds, g1, g2, g3⟩ := dat_list (a := a) fun v hv => h v (List.mem_cons_of_mem _ hv)
    exact ⟨d :: ds, .cons h1 g1, by rw [PyData.canLayAll0, h2, g2]; rfl, by rw [PyData.depthAll]; exact Nat.max_le.mpr ⟨h3, g3⟩⟩
theorem dat_of {H : Hp} {a : Addr} {n : Nat} {xs : List V} (hl : SqL K H a xs) (h : ∀ v ∈ xs, ∃ d, Dp K H v d ∧ d.canLay0 = true ∧ d.depth ≤ n) : ∃ d, Dp K H (.ref a) d ∧ d.canLay0 = true ∧ d.depth ≤ n + 1 := by
  obtain ⟨ds, g1, g2, g3⟩ := dat_list (a := a) h
  exact ⟨.list ds, .lst hl g1, by rw [PyData.canLay0]; exact g2, by rw [PyData.depth]; exact Nat.succ_le_succ g3⟩
/-! ### one key more -/
structure Nxt (K : PySem.W.Frag) (Hf : Hp) (k k' : LKV) : Prop where
  len : k'.length ≤ k.length + 1
  nd : (k.map (·.1)).Nodup → (k'.map (·.1)).Nodup
  ke : ∀ p ∈ k', (∃ q ∈ k, q.1 = p.1) ∨ KF p.1
  va : ∀ p ∈ k', (∃ q ∈ k, q.2 = p.2) ∨ Pl K Hf p.2
theorem Nxt.same {Hf : Hp} (k : LKV) : Nxt K Hf k k := ⟨Nat.le_succ _, fun h => h, fun p hp => .inl ⟨p, hp, rfl⟩, fun p hp => .inl ⟨p, hp, rfl⟩⟩
theorem Nxt.put {Hf : Hp} {k : LKV} {x : Leaf} {v : V} (hx : KF x) (hv : Pl K Hf v) : Nxt K Hf k (putL k x v) := by
  unfold putL
  by_cases h : k.any (fun p => decide (p.1 = x)) = true
  · rw [if_pos h]
    refine ⟨by rw [List.length_map]; omega, fun nd => ?_, fun p hp => ?_, fun p hp => ?_⟩
    · rw [List.map_map, show ((fun p : Leaf × V => p.1) ∘ fun p => if p.1 = x then (p.1, v) else p) = fun p => p.1 from funext fun p => by show (if p.1 = x then (p.1, v) else p).1 = p.1; split <;> rfl]
      exact nd
    · obtain ⟨q, hq, rfl⟩ := List.mem_map.mp hp
      exact .inl ⟨q, hq, by split <;> rfl⟩
    · obtain ⟨q, hq, rfl⟩ := List.mem_map.mp hp
      by_cases e : q.1 = x
      · rw [if_pos e]
        exact .inr hv
      · rw [if_neg e]
        exact .inl ⟨q, hq, rfl⟩
  · rw [if_neg h]
    refine ⟨by rw [List.length_append]; exact Nat.le_refl _, fun nd => ?_, fun p hp => ?_, fun p hp => ?_⟩
    · rw [List.map_append]
      refine List.nodup_append.mpr ⟨nd, (List.nodup_cons.mpr ⟨by simp, .nil⟩), fun a ha b hb => ?_⟩
      obtain ⟨q, hq, rfl⟩ := List.mem_map.mp ha
      have hb' : b = x := by simpa using hb
      rw [hb']
      intro e
      exact h (List.any_eq_true.mpr ⟨q, hq, decide_eq_true e⟩)
    · rcases List.mem_append.mp hp with hp | hp
      · exact .inl ⟨p, hp, rfl⟩
      · rw [List.mem_singleton.mp hp]
        exact .inr hx
    · rcases List.mem_append.mp hp with hp | hp
      · exact .inl ⟨p, hp, rfl⟩
      · rw [List.mem_singleton.mp hp]
        exact .inr hv
theorem parts_next {n : Nat} {H Hf : Hp} {ac d1 d2 d3 d5 c0 q1 q2 q3 q5 : Addr} {cs cs' : List V} {k1 k2 k3 k5 k1' k2' k3' k5' : LKV} (hn : n ≤ 10) (A : PartsAt K P w n H ac d1 d2 d3 d5 cs k1 k2 k3 k5) (e : Ex H Hf)
    (hc : Hf c0 = some (.lst cs')) (h1 : Hf q1 = some (dL P w q1 k1')) (h2 : Hf q2 = some (dL P w q2 k2')) (h3 : Hf q3 = some (dL P w q3 k3')) (h5 : Hf q5 = some (dL P w q5 k5')) (nd : [q1, q2, q3, q5].Nodup)
    (hl : cs'.length ≤ cs.length + 1) (hm : ∀ v ∈ cs', v ∈ cs ∨ (Pl K Hf v ∧ ∃ d, Dp K Hf v d ∧ d.canLay0 = true ∧ d.depth ≤ n + 1)) (g1 : Nxt K Hf k1 k1') (g2 : Nxt K Hf k2 k2') (g3 : Nxt K Hf k3 k3') (g5 : Nxt K Hf k5 k5') :
    PartsAt K P w (n + 1) Hf c0 q1 q2 q3 q5 cs' k1' k2' k3' k5' := by
  have l1 := g1.len
  have l2 := g2.len
  have l3 := g3.len
  have l5 := g5.len
  have m0 := A.n0
  have m1 := A.n1
  have m2 := A.n2
  have m3 := A.n3
  have m5 := A.n5
  have pp : ∀ {k k' : LKV}, (∀ p ∈ k, Pl K H p.2 ∧ ∀ z, p.1 = .text z → z.length ≤ 100000) → Nxt K Hf k k' → ∀ p ∈ k', Pl K Hf p.2 ∧ ∀ z, p.1 = .text z → z.length ≤ 100000 := fun h g p hp => ⟨(g.va p hp).elim (fun ⟨q, hq, e2⟩ => e2 ▸ ((h q hq).1.ex e)) id, fun z hz => (g.ke p hp).elim (fun ⟨q, hq, e2⟩ => (h q hq).2 z (e2.trans hz)) fun kf => (kf z hz).1⟩
  have oo : ∀ {k k' : LKV}, KOk k → Nxt K Hf k k' → KOk k' := fun h g p hp z hz => (g.ke p hp).elim (fun ⟨q, hq, e2⟩ => h q hq z (e2.trans hz)) fun kf => (kf z hz).2
  simp only [List.nodup_cons, List.mem_cons, List.mem_singleton, not_or, List.not_mem_nil, not_false_eq_true] at nd
  refine ⟨⟨sq_of hc, h1, h2, h3, h5, nd.1.1, nd.1.2.1, nd.1.2.2.1, nd.2.1.1, nd.2.1.2.1, nd.2.2.1.1, by omega, by omega, by omega, by omega, by omega, g5.nd A.a.nd5, fun v hv => (hm v hv).elim (fun h => (A.a.pc v h).ex e) fun h => h.1, pp A.a.p1 g1, pp A.a.p2 g2, pp A.a.p3 g3, pp A.a.p5 g5⟩, hc, fun v hv => ?_, oo A.o1 g1, oo A.o2 g2, oo A.o3 g3, oo A.o5 g5, by omega, by omega, by omega, by omega, by omega⟩
  rcases hm v hv with h | h
  · obtain ⟨d, h1, h2, h3⟩ := A.dt v h
    exact ⟨d, dp_ex e _ _ h1, h2, Nat.le_succ_of_le h3⟩
  · exact h.2
theorem PartsAt.so {n : Nat} {H : Hp} {ac d1 d2 d3 d5 : Addr} {cs : List V} {k1 k2 k3 k5 : LKV} (A : PartsAt K P w n H ac d1 d2 d3 d5 cs k1 k2 k3 k5) : ∀ v ∈ cs, SOk v := fun v hv z hz => by
  obtain ⟨d, h1, h2, _⟩ := A.dt v hv
  subst hz
  cases h1
  exact h2
end
end K3
namespace K3
open PySem PySem.Spec PyProof.Rows L2 Evl GV LD GQ2
section
variable {K : PySem.W.Frag} {mg : Str → Option Value} {P : Program} {w : World} {base : Heap}
/-! ### _law_spoil -/
theorem Nxt.ex {Hf Hg : Hp} {k k' : LKV} (e : Ex Hf Hg) (g : Nxt K Hf k k') : Nxt K Hg k k' := ⟨g.len, g.nd, g.ke, fun p hp => (g.va p hp).imp_right fun h => h.ex e⟩
def LstH (R : List V → Hp → Prop) : Pr := fun v H' => ∃ p us, v = .ref p ∧ H' p = some (.lst us) ∧ R us H'
section
variable {σ : L2.St} {H : Hp} {ta tb ti te : TE} {R1 R2 : List V → Hp → Prop}
theorem gv_catH (m1 : MoA R1) (m2 : MoA R2) (ha : Gv ta σ H (LstH R1)) (hb : ∀ H', Ex H H' → Gv tb σ H' (LstH R2)) (hz : ∀ xs ys H', R1 xs H' → R2 ys H' → xs.length + ys.length ≤ 100000) :
    Gv (tOp rCat ta tb) σ H (LstH fun us H' => ∃ xs ys, us = xs ++ ys ∧ R1 xs H' ∧ R2 ys H') := fun H1 e Q q =>
  ha H1 e _ fun v H' H1' f ⟨p, xs, ev, hp, r1⟩ => hb H' f.ex H1' f.sub _ fun v2 H2 H2' f2 ⟨p2, ys, ev2, hp2, r2⟩ =>
    ⟨p, p2, xs, ys, ev, ev2, f2.sub _ _ (f2.ex _ _ hp), f2.sub _ _ hp2, Nat.le_trans (hz xs ys H2 (m1 _ _ _ f2.ex r1) r2) (by decide), fun l hl => by
      have hl2 := fresh_back f2.sub hl
      exact q (.ref l) _ _ ((f.trans f2).trans (Fm.newO f2.sub hl)) ⟨l, _, rfl, upd_same, xs, ys, rfl, m1 _ _ _ (f2.ex.trans (Ex.new hl2)) r1, m2 _ _ _ (Ex.new hl2) r2⟩⟩
theorem gv_ixH {i : Int} (ha : Gv ta σ H (LstH R1)) (hi : ∀ H', Ex H H' → Ev ti σ H' (.int i)) (hat : ∀ us H', R1 us H' → ∃ v, atI us i = some v) (m : MoA R1) : Gv (tOp (rIxL K) ta ti) σ H (fun v H' => ∃ us, R1 us H' ∧ atI us i = some v) := fun H1 e Q q =>
  ha H1 e _ fun v H' H1' f ⟨p, us, ev, hp, r1⟩ => hi H' f.ex H1' f.sub _ fun H2 e2 => by
    obtain ⟨y, hy⟩ := hat us H' r1
    exact ⟨p, us, i, y, ev, rfl, sq_of (e2 _ _ (f.sub _ _ hp)), hy, q y H' H2 (f.trans (Fm.gr f.sub e2)) ⟨us, r1, hy⟩⟩
theorem gv_dictL {d : Addr} {k : LKV} (h : Ev te σ H (.ref d)) (hd : H d = some (dL P w d k)) : Gv (tCB (rDictL P w) (tCons te tNil)) σ H (fun v H' => ∃ p, v = .ref p ∧ H p = none ∧ H' p = some (dL P w p k)) := fun H1 e Q q =>
  h H1 e _ fun H2 e2 => ⟨d, k, rfl, .inl ((e.trans e2) _ _ hd), fun p hp => q (.ref p) _ _ ((Fm.gr e e2).trans (Fm.newO (e.trans e2) hp)) ⟨p, rfl, fresh_back (e.trans e2) hp, upd_same⟩⟩
theorem ev_ixC {xs : List V} {i : Nat} {v : V} (ha : Gv ta σ H (LstH fun us _ => us = xs)) (hi : ∀ H', Ex H H' → Ev ti σ H' (.int (i : Nat))) (h : xs[i]? = some v) : Ev (tOp (rIxL K) ta ti) σ H v :=
  ev_gv (gv_w (gv_ixH ha hi (fun us _ e => ⟨v, by rw [e]; exact atI_nat h⟩) fun _ _ _ _ h => h) fun u _ _ ⟨us, e, hu⟩ => by
    rw [e, atI_nat h] at hu
    exact (Option.some.inj hu).symm)
end
def D5 (P : Program) (w : World) (H0 H' : Hp) (ks : List LKV) (us : List V) : Prop := Paired (fun (k : LKV) (v : V) => ∃ q, v = .ref q ∧ H0 q = none ∧ H' q = some (dL P w q k)) ks us ∧ us.Nodup
theorem paired_imp {α β : Type} {R S : α → β → Prop} (h : ∀ a b, R a b → S a b) : ∀ {xs : List α} {ys : List β}, Paired R xs ys → Paired S xs ys
  | _, _, .nil => .nil
  | _, _, .cons e t => .cons (h _ _ e) (paired_imp h t)
theorem paired_mem {α β : Type} {R : α → β → Prop} : ∀ {xs : List α} {ys : List β}, Paired R xs ys → ∀ y ∈ ys, ∃ x, R x y
  | _, _, .nil, y, h => absurd h (by simp)
  | _, _, .cons e t, y, h => by
    rcases List.mem_cons.mp h with rfl | h
    · exact ⟨_, e⟩
    · exact paired_mem t y h
theorem D5.ex {H0 H H' : Hp} {ks : List LKV} {us : List V} (e : Ex H H') (h : D5 P w H0 H ks us) : D5 P w H0 H' ks us := ⟨paired_imp (fun k v ⟨q, h1, h2, h3⟩ => ⟨q, h1, h2, e _ _ h3⟩) h.1, h.2⟩
def oddA : List V := [.non, .int 5, .str "", .str "A", .str "item", .str "ninesigns", .str "f", .str "a", .str "tell", .str "p", .str "a b", .bl true]
def oddB : List V := [.str "same", .str "if", .str "else", .str "do", .str "leave"]
theorem odd_good : ∀ v ∈ oddA ++ oddB, goodV v = true := List.all_eq_true.mp (by decide +kernel)
def namesV : List V := [.str "f", .str "g", .str "p", .str "q", .str "tell", .str "a", .str "zz", .non, .str "lt"]
theorem names_good : ∀ v ∈ namesV, goodV v = true := List.all_eq_true.mp (by decide +kernel)
def numsV (r : Addr) : List V := [.int 0, .int 3, .int (-1), .bl true, .non, .str "1", .ref r, .int 2, .int 1]
def kindsV (r : Addr) : List V := [.str "swaps", .str "settles", .str "both", .str "order", .str "same", .non, .int 5, .ref r]
theorem nums_pl {r : Addr} {H : Hp} (h : H r = some (.lst [.int 1])) : ∀ v ∈ numsV r, Pl K H v := by
  intro v hv
  have g : v = .ref r ∨ goodV v = true := by
    unfold numsV at hv
    simp only [List.mem_cons, List.not_mem_nil, or_false] at hv
    rcases hv with rfl | rfl | rfl | rfl | rfl | rfl | rfl | rfl | rfl <;> first | exact .inl rfl | exact .inr (by decide +kernel)
  rcases g with rfl | g
  · exact .lst r _ (sq_of h)
  · exact good_pl g H
theorem kinds_pl {r : Addr} {H : Hp} (h : H r = some (.lst [.str "both"])) : ∀ v ∈ kindsV r, Pl K H v := by
  intro v hv
  have g : v = .ref r ∨ goodV v = true := by
    unfold kindsV at hv
    simp only [List.mem_cons, List.not_mem_nil, or_false] at hv
    rcases hv with rfl | rfl | rfl | rfl | rfl | rfl | rfl | rfl <;> first | exact .inl rfl | exact .inr (by decide +kernel)
  rcases g with rfl | g
  · exact .lst r _ (sq_of h)
  · exact good_pl g H
theorem gv_one {x : V} {σ : L2.St} {H : Hp} : Gv (tLst (tCons (tC x) tNil)) σ H (fun v H' => ∃ p, v = .ref p ∧ H p = none ∧ H' p = some (.lst [x])) := fun H1 e Q q =>
  ⟨(by show 1 ≤ sizeLine; decide), fun p hp => q (.ref p) _ _ (Fm.newO e hp) ⟨p, rfl, fresh_back e hp, upd_same⟩⟩
theorem at_mem {us : List V} {i : Nat} {v : V} (hi : i < us.length) (h : atI us (i : Int) = some v) : v ∈ us := by
  rw [atI_nat (List.getElem?_eq_getElem hi)] at h
  rw [← Option.some.inj h]
  exact List.getElem_mem hi
def spSpoil (K : PySem.W.Frag) (P : Program) (w : World) : Sp := fun vs H Q _ => ∃ (z : Addr) (way dn n : Nat) (ac d1 d2 d3 d5 : Addr) (cs : List V) (k1 k2 k3 k5 : LKV), vs = [.ref z, .int (way : Nat), .int (dn : Nat)] ∧ n ≤ 10 ∧ SqT K H z [.ref ac, .ref d1, .ref d2, .ref d3, .ref d5] ∧ PartsAt K P w n H ac d1 d2 d3 d5 cs k1 k2 k3 k5 ∧
  ∀ (p c0 q1 q2 q3 q5 : Addr) (cs' : List V) (k1' k2' k3' k5' : LKV) (H2 : Hp), Ex H H2 → H2 p = some (.tup [.ref c0, .ref q1, .ref q2, .ref q3, .ref q5]) → PartsAt K P w (n + 1) H2 c0 q1 q2 q3 q5 cs' k1' k2' k3' k5' → Q (.ref p) H2
theorem sc_spoil : FnScope ["_law_parts", "_law_way", "_law_draw", "_law_constants", "_law_functions", "_law_tests", "_law_acts", "_law_rules", "_law_odd", "_law_some", "_law_name", "_law_one"] ["_law_parts", "_law_way", "_law_draw"] (defScope (top 32)) := ⟨rfl, rfl, rfl, by decide +kernel, rfl, by decide +kernel, by decide +kernel⟩
theorem ok_spoil (T : Tx K mg) : ∃ fd, FnOk P w K mg base CX0 1 (He.ga K "_law_spoil") fd ["_law_parts", "_law_way", "_law_draw"] (spSpoil K P w) ∧ Binds K fd ["_law_parts", "_law_way", "_law_draw"] [] ∧ PySem.W.keepIn K (.ref (He.ga K "_law_spoil")) = true := by
  obtain ⟨fd, F⟩ := T.d.def_ 12 (d := d__law_spoil) rfl
  refine ⟨fd, F.ok sc_spoil (fun vs H Q E h => ?_) (fun cdv A outer s H vs Q E hr h => ?_), FunD.bindsN F fun _ _ _ _ _ _ us hl => match us, hl with | [_, _, _], _ => rfl, F.kp⟩
  · obtain ⟨_, _, _, _, _, _, _, _, _, _, _, _, _, _, rfl, _⟩ := h
    rfl
  · refine ⟨_, PSs.nox (pss_cons (ps_asg (pe_op op_cat (pe_lst (pa_cons (pe_callTy call_list_of (by rfl) (T.fr 38 rfl) (by decide +kernel) (pa_cons (pe_ix ix_tup (pv 0) pe_int fun _ _ => rfl) pa_nil)) pa_nil)) (pe_lc (own := [("_law_one", 11)]) (g := gName 11) (te := tCB (rDictL P w) (tCons (tVar 11) tNil)) rfl sc_spoil.nd (pi_tup (pe_slice sl_tup (pv 0) (po_some pe_int) po_none)) (blkOk_by (own := [("_law_one", 11)]) (N := ["_law_parts", "_law_way", "_law_draw", "_law_constants", "_law_functions", "_law_tests", "_law_acts", "_law_rules", "_law_odd", "_law_some", "_law_name", "_law_one"]) (sc := defScope (top 32)) (by decide +kernel)) (fun _ _ _ _ _ => pg_name (i := 11) sc_spoil.nd rfl (Or.inl rfl)) (fun _ _ _ _ _ => pts_nil) (fun _ _ _ _ _ => by exact (pe_callTy call_dictL (by rfl) (T.fr 40 rfl) (by decide +kernel) (pa_cons (pv 11) pa_nil))))) (pg_unl rfl (pgs_cons (pg_name (i := 3) sc_spoil.nd rfl (Or.inl rfl)) (pgs_cons (pg_name (i := 4) sc_spoil.nd rfl (Or.inl rfl)) (pgs_cons (pg_name (i := 5) sc_spoil.nd rfl (Or.inl rfl)) (pgs_cons (pg_name (i := 6) sc_spoil.nd rfl (Or.inl rfl)) (pgs_cons (pg_name (i := 7) sc_spoil.nd rfl (Or.inl rfl)) pgs_nil)))))))
      (pss_cons (ps_set (i := 8) sc_spoil.nd rfl (Or.inl rfl) (pe_lst (pa_cons pe_non (pa_cons pe_int (pa_cons pe_str (pa_cons pe_str (pa_cons pe_str (pa_cons pe_str (pa_cons pe_str (pa_cons pe_str (pa_cons pe_str (pa_cons pe_str (pa_cons pe_str (pa_cons pe_bl pa_nil))))))))))))))
      (pss_cons (ps_set (i := 8) sc_spoil.nd rfl (Or.inl rfl) (pe_op op_cat (pv 8) (pe_lst (pa_cons pe_str (pa_cons pe_str (pa_cons pe_str (pa_cons pe_str (pa_cons pe_str pa_nil))))))))
      (pss_cons (ps_if (pt_cmpR op_eq (pv 1) pe_int (nomark _)) (pss_one (ps_expr (pe_bm PySem.F.plainAttrs_list PySem.F.slot_list_insert PySem.F.type_list_insert mt_insert (pv 3) (pa_cons (pe_op op_mod (pv 2) (pe_op op_add (pe_callB call_len (by rfl) (T.fr 33 rfl) PySem.boot_len (pa_cons (pv 3) pa_nil)) pe_int)) (pa_cons (pe_ix ix_list (pe_op op_cat (pv 8) (pe_lst (pa_cons (pe_lst (pa_cons pe_int pa_nil)) (pa_cons (pe_callTy call_list_of (by rfl) (T.fr 38 rfl) (by decide +kernel) (pa_cons (pv 3) pa_nil)) pa_nil)))) (pe_op op_mod (pv 2) pe_int) fun _ _ => rfl) pa_nil))))) (pss_one (ps_if (pt_cmpR op_eq (pv 1) pe_int (nomark _)) (pss_cons (ps_set (i := 9) sc_spoil.nd rfl (Or.inl rfl) (pe_ix ix_list (pe_lst (pa_cons (pv 4) (pa_cons (pv 5) (pa_cons (pv 6) pa_nil)))) (pe_op op_mod (pv 2) pe_int) fun _ _ => rfl))
      (pss_one (ps_lput (pv 9) (pe_ix ix_list (pv 8) (pe_op op_mod (pe_op op_fdivW (pv 2) pe_int) pe_int) fun _ _ => rfl) pe_int rfl))) (pss_one (ps_if (pt_cmpR op_eq (pv 1) pe_int (nomark _)) (pss_cons (ps_set (i := 9) sc_spoil.nd rfl (Or.inl rfl) (pe_ix ix_list (pe_lst (pa_cons (pv 4) (pa_cons (pv 5) (pa_cons (pv 6) pa_nil)))) (pe_op op_mod (pv 2) pe_int) fun _ _ => rfl))
      (pss_one (ps_lput (pv 9) pe_str (pe_ix ix_list (pe_lst (pa_cons pe_int (pa_cons pe_int (pa_cons (pe_un un_neg pe_int) (pa_cons pe_bl (pa_cons pe_non (pa_cons pe_str (pa_cons (pe_lst (pa_cons pe_int pa_nil)) (pa_cons pe_int (pa_cons pe_int pa_nil)))))))))) (pe_op op_mod (pe_op op_fdivW (pv 2) pe_int) pe_int) fun _ _ => rfl) rfl))) (pss_one (ps_if (pt_cmpR op_eq (pv 1) pe_int (nomark _)) (pss_cons (ps_set (i := 10) sc_spoil.nd rfl (Or.inl rfl) (pe_ix ix_list (pe_lst (pa_cons pe_str (pa_cons pe_str (pa_cons pe_str (pa_cons pe_str (pa_cons pe_str (pa_cons pe_str (pa_cons pe_str (pa_cons pe_non (pa_cons pe_str pa_nil)))))))))) (pe_op op_mod (pv 2) pe_int) fun _ _ => rfl))
      (pss_one (ps_lput (pv 7) (pv 10) (pe_ix ix_list (pe_lst (pa_cons pe_str (pa_cons pe_str (pa_cons pe_str (pa_cons pe_str (pa_cons pe_str (pa_cons pe_non (pa_cons pe_int (pa_cons (pe_lst (pa_cons pe_str pa_nil)) pa_nil))))))))) (pe_op op_mod (pe_op op_fdivW (pv 2) pe_int) pe_int) fun _ _ => rfl) rfl))) pss_nil)))))))
      (pss_one (ps_ret (pe_tup (pa_cons (pv 3) (pa_cons (pv 4) (pa_cons (pv 5) (pa_cons (pv 6) (pa_cons (pv 7) pa_nil)))))))))))), ?_⟩
    obtain ⟨z, way, dn, n, ac, d1, d2, d3, d5, cs, k1, k2, k3, k5, rfl, hn, hz, A1, q⟩ := h
    have tabs : ∀ (i : Nat) (x : V), [V.ref d1, .ref d2, .ref d3, .ref d5][i]? = some x → ∃ d k, x = .ref d ∧ H d = some (dL P w d k) ∧ [k1, k2, k3, k5].take (i + 1) = [k1, k2, k3, k5].take i ++ [k] := by
      intro i x hx
      match i, hx with
      | 0, hx => cases hx; exact ⟨_, _, rfl, A1.a.h1, rfl⟩
      | 1, hx => cases hx; exact ⟨_, _, rfl, A1.a.h2, rfl⟩
      | 2, hx => cases hx; exact ⟨_, _, rfl, A1.a.h3, rfl⟩
      | 3, hx => cases hx; exact ⟨_, _, rfl, A1.a.h5, rfl⟩
      | n + 4, hx => cases hx
    refine g_asgG (Ex.refl H) (gv_catH (R1 := fun us H' => ∃ c0, us = [.ref c0] ∧ H c0 = none ∧ H' c0 = some (.lst cs)) (R2 := fun us H' => D5 P w H H' [k1, k2, k3, k5] us) (fun us Ha Hb e ⟨c0, h1, h2, h3⟩ => ⟨c0, h1, h2, e _ _ h3⟩) (fun us Ha Hb e h => h.ex e)
      (gv_w (gv_lst (R := fun us H' => ∃ c0, us = [.ref c0] ∧ H c0 = none ∧ H' c0 = some (.lst cs)) (ga_w (ga_cons (gv_listOf (us := cs) (ev_op (ev_var rfl) ev_c (rv_ixT hz rfl)) (.inl (sq_of A1.l))) (fun _ _ => ga_nil) fun v Ha Hb e ⟨p, h1, h2, h3⟩ => ⟨p, h1, h2, e _ _ h3⟩) fun vs H' _ ⟨v, r, h1, ⟨p, h2, h3, h4⟩, h5⟩ => ⟨p, by rw [h1, h2, show r = [] from h5], h3, h4⟩) (fun us Ha Hb e ⟨c0, h1, h2, h3⟩ => ⟨c0, h1, h2, e _ _ h3⟩) fun us _ ⟨c0, h1, _⟩ => by rw [h1]; show 1 ≤ 100000; decide) fun v H' _ ⟨p, us, h1, h2, h3, h4⟩ => ⟨p, us, h1, h3, h4⟩)
      (fun Hx ex => gv_w (gv_lcT (K := K) (g := gName 11) (U := fun a xs _ => xs = [.ref d1, .ref d2, .ref d3, .ref d5]) (N := 4) (fun i us H' => D5 P w H H' ([k1, k2, k3, k5].take i) us)
        (fun H1 e Q q => ⟨_, rfl, 1, rfl, z, _, rfl, ex_t (ex.trans e) hz, (fun h => absurd (show HT.sIx 5 0 (some 1) = 0 from h.1) (by decide)), fun p hp => q (.ref p) _ _ (Fm.newO e hp) ⟨p, _, rfl, rfl, SqT.of upd_same, rfl⟩⟩) (fun i us Ha Hb e h => h.ex e) (fun i us Ha h => ?_) (fun _ _ => ⟨.nil, .nil⟩) fun a xs H' e hsq hu Hs e2 i x us hx r => ?_) fun v H' _ ⟨p, us, h1, _, h3, h4⟩ => ⟨p, us, h1, h3, h4⟩)
      (fun xs ys H' ⟨c0, h1, _⟩ h2 => by rw [h1, ← Paired.length h2.1]; show 1 + 4 ≤ 100000; decide)) fun v Hk H1 fk r => ?_
    · rw [← Paired.length h.1, List.length_take]
      exact Nat.le_trans (Nat.min_le_right _ _) (by show 4 ≤ 100000; decide)
    · rw [show xs = _ from hu] at hx
      obtain ⟨d, k, rfl, hd, ht⟩ := tabs i x hx
      refine fun H4 e4 => ⟨rfl, rfl, true, fun H5 e6 Q5 k5 => k5 H5 (Ex.refl H5), fun _ => gv_w (gv_dictL (P := P) (w := w) (ev_var rfl) (((ex.trans e).trans e2) _ _ hd)) fun v H5 e5 ⟨p, hv, hp0, hp⟩ => ?_, fun z => nomatch z⟩
      show D5 P w H H5 ([k1, k2, k3, k5].take (i + 1)) (us ++ [v])
      have r5 := D5.ex e5 r
      refine ⟨?_, ?_⟩
      · rw [ht]
        exact paired_app r5.1 ⟨p, hv, fresh_back ((ex.trans e).trans e2) hp0, hp⟩
      · refine List.nodup_append.mpr ⟨r5.2, List.nodup_cons.mpr ⟨by simp, .nil⟩, fun a ha b hb => ?_⟩
        rw [List.mem_singleton.mp hb, hv]
        obtain ⟨k', q', hq1, hq2, hq3⟩ := paired_mem (show D5 P w H Hs _ us from r).1 a ha
        intro he
        rw [hq1] at he
        cases he
        rw [hp0] at hq3
        cases hq3
    obtain ⟨pl, xs, rfl, hpl, us1, us, rfl, ⟨c0, rfl, hc0, hc⟩, hd5⟩ := r
    obtain ⟨hd5, hnd⟩ := hd5
    cases hd5 with | cons e1 t1 => ?_
    cases t1 with | cons e2 t2 => ?_
    cases t2 with | cons e3 t3 => ?_
    cases t3 with | cons e5 t5 => ?_
    cases t5
    obtain ⟨q1, rfl, n1, g1⟩ := e1
    obtain ⟨q2, rfl, n2, g2⟩ := e2
    obtain ⟨q3, rfl, n3, g3⟩ := e3
    obtain ⟨q5, rfl, n5, g5⟩ := e5
    have nd : [q1, q2, q3, q5].Nodup := nodup_back V.ref hnd
    refine ⟨pl, _, rfl, sq_of (fk.sub _ _ hpl), rfl, _, _, rfl, _, _, rfl, _, _, rfl, _, _, rfl, _, _, rfl, rfl, ?_⟩
    have e1 : Ex H H1 := fk.cur
    have hc1 := fk.sub _ _ hc
    have f1 := fk.sub _ _ g1
    have f2 := fk.sub _ _ g2
    have f3 := fk.sub _ _ g3
    have f5 := fk.sub _ _ g5
    have cne : ∀ {d : Addr} {k : LKV}, H1 d = some (dL P w d k) → d ≠ c0 := fun h q => by
      rw [q, hc1] at h
      exact dL_lst (P := P) (w := w) cs (Option.some.inj h).symm
    refine ⟨(by show 12 ≤ sizeLine; decide), fun po hpo => ?_⟩
    refine ⟨_, rfl, (by show 5 ≤ sizeLine; decide), fun p2 hp2 => ⟨po, p2, oddA, oddB, rfl, rfl, (Ex.new hp2) _ _ upd_same, upd_same, (by show 12 + 5 ≤ sizeLine; decide), fun p3 hp3 => ?_⟩⟩
    have e13 : Ex H1 (upd (upd (upd H1 po (.lst oddA)) p2 (.lst oddB)) p3 (.lst (oddA ++ oddB))) := ((Ex.new hpo).trans (Ex.new hp2)).trans (Ex.new hp3)
    have hodd : (upd (upd (upd H1 po (.lst oddA)) p2 (.lst oddB)) p3 (.lst (oddA ++ oddB))) p3 = some (.lst (oddA ++ oddB)) := upd_same
    have fin : ∀ {cs' : List V} {k1' k2' k3' k5' : LKV} {Hf : Hp} {s8 s9 s10 : Option V} {D : Ends}, (∀ v H', Q v H' → D.rt v H') → Ex H Hf → Hf c0 = some (.lst cs') → Hf q1 = some (dL P w q1 k1') → Hf q2 = some (dL P w q2 k2') → Hf q3 = some (dL P w q3 k3') → Hf q5 = some (dL P w q5 k5') → cs'.length ≤ cs.length + 1 →
        (∀ v ∈ cs', v ∈ cs ∨ (Pl K Hf v ∧ ∃ d, Dp K Hf v d ∧ d.canLay0 = true ∧ d.depth ≤ n + 1)) → Nxt K Hf k1 k1' → Nxt K Hf k2 k2' → Nxt K Hf k3 k3' → Nxt K Hf k5 k5' →
        tRet (tTup (tCons (tVar 3) (tCons (tVar 4) (tCons (tVar 5) (tCons (tVar 6) (tCons (tVar 7) tNil)))))) D [some (.ref z), some (.int (way : Nat)), some (.int (dn : Nat)), some (.ref c0), some (.ref q1), some (.ref q2), some (.ref q3), some (.ref q5), s8, s9, s10, none] Hf := by
      intro cs' k1' k2' k3' k5' Hf s8 s9 s10 D hD e hc h1 h2 h3 h5 hl hm x1 x2 x3 x5
      refine ⟨_, rfl, _, rfl, _, rfl, _, rfl, _, rfl, (by show 5 ≤ sizeLine; decide), fun p hp => ?_⟩
      have en : Ex Hf (upd Hf p (.tup [.ref c0, .ref q1, .ref q2, .ref q3, .ref q5])) := Ex.new hp
      refine hD _ _ (q p c0 q1 q2 q3 q5 cs' k1' k2' k3' k5' _ (e.trans en) upd_same (parts_next hn A1 (e.trans en) (en _ _ hc) (en _ _ h1) (en _ _ h2) (en _ _ h3) (en _ _ h5) nd hl (fun v hv => (hm v hv).imp_right fun ⟨a, d, b, c⟩ => ⟨a.ex en, d, dp_ex en _ _ b, c⟩) (x1.ex en) (x2.ex en) (x3.ex en) (x5.ex en)))
    have nd' := nd
    simp only [List.nodup_cons, List.mem_cons, List.mem_singleton, not_or, List.not_mem_nil, not_false_eq_true] at nd'
    obtain ⟨⟨n12, n13, n15, _⟩, ⟨n23, n25, _⟩, ⟨n35, _⟩, _⟩ := nd'
    have put : ∀ j : Nat, j < 4 → ∃ qj kj, [V.ref q1, .ref q2, .ref q3, .ref q5][j]? = some (.ref qj) ∧ H1 qj = some (dL P w qj kj) ∧ kj.length ≤ 100 ∧ ∀ {Hf : Hp} {x : Leaf} {v : V} {s8 s9 s10 : Option V} {D : Ends}, (∀ v H', Q v H' → D.rt v H') → Ex H1 Hf → KF x → Pl K (upd Hf qj (dL P w qj (putL kj x v))) v →
        tRet (tTup (tCons (tVar 3) (tCons (tVar 4) (tCons (tVar 5) (tCons (tVar 6) (tCons (tVar 7) tNil)))))) D [some (.ref z), some (.int (way : Nat)), some (.int (dn : Nat)), some (.ref c0), some (.ref q1), some (.ref q2), some (.ref q3), some (.ref q5), s8, s9, s10, none] (upd Hf qj (dL P w qj (putL kj x v))) := by
      intro j hj
      match j, hj with
      | 0, _ => exact ⟨q1, k1, rfl, f1, A1.a.l1, fun hD e hx hv => fin hD ((e1.trans e).mut n1) ((upd_ne (Ne.symm (cne f1))).trans (e _ _ hc1)) upd_same ((upd_ne (Ne.symm n12)).trans (e _ _ f2)) ((upd_ne (Ne.symm n13)).trans (e _ _ f3)) ((upd_ne (Ne.symm n15)).trans (e _ _ f5)) (Nat.le_succ _) (fun v hv => .inl hv) (.put hx hv) (.same _) (.same _) (.same _)⟩
      | 1, _ => exact ⟨q2, k2, rfl, f2, A1.a.l2, fun hD e hx hv => fin hD ((e1.trans e).mut n2) ((upd_ne (Ne.symm (cne f2))).trans (e _ _ hc1)) ((upd_ne n12).trans (e _ _ f1)) upd_same ((upd_ne (Ne.symm n23)).trans (e _ _ f3)) ((upd_ne (Ne.symm n25)).trans (e _ _ f5)) (Nat.le_succ _) (fun v hv => .inl hv) (.same _) (.put hx hv) (.same _) (.same _)⟩
      | 2, _ => exact ⟨q3, k3, rfl, f3, A1.a.l3, fun hD e hx hv => fin hD ((e1.trans e).mut n3) ((upd_ne (Ne.symm (cne f3))).trans (e _ _ hc1)) ((upd_ne n13).trans (e _ _ f1)) ((upd_ne n23).trans (e _ _ f2)) upd_same ((upd_ne (Ne.symm n35)).trans (e _ _ f5)) (Nat.le_succ _) (fun v hv => .inl hv) (.same _) (.same _) (.put hx hv) (.same _)⟩
      | 3, _ => exact ⟨q5, k5, rfl, f5, A1.a.l5, fun hD e hx hv => fin hD ((e1.trans e).mut n5) ((upd_ne (Ne.symm (cne f5))).trans (e _ _ hc1)) ((upd_ne n15).trans (e _ _ f1)) ((upd_ne n25).trans (e _ _ f2)) ((upd_ne n35).trans (e _ _ f3)) upd_same (Nat.le_succ _) (fun v hv => .inl hv) (.same _) (.same _) (.same _) (.put hx hv)⟩
    have md : ∀ {σ : L2.St} {Hq : Hp} (m : Int) (mm : Nat), m = mm → 0 < m → σ[2]? = some (some (.int (dn : Nat))) → Ev (tOp (rI (fun _ j => 0 < j) fun i j => V.int (i % j)) (tVar 2) (tC (.int m))) σ Hq (.int ((dn % mm : Nat) : Int)) := by
      intro σ Hq m mm hm h0 hσ
      subst hm
      exact ev_op (ev_var hσ) ev_c (rv_I h0)
    have md2 : ∀ {σ : L2.St} {Hq : Hp} (a b : Int) (aa bb : Nat), a = aa → b = bb → 0 < a → a.natAbs < 2 ^ 100 → 0 < b → σ[2]? = some (some (.int (dn : Nat))) → Ev (tOp (rI (fun _ j => 0 < j) fun i j => V.int (i % j)) (tOp (rI CDivW fun i j => V.int (i / j)) (tVar 2) (tC (.int a))) (tC (.int b))) σ Hq (.int ((dn / aa % bb : Nat) : Int)) := by
      intro σ Hq a b aa bb ha hb h0 h1 h2 hσ
      subst ha hb
      exact ev_op (ev_op (ev_var hσ) ev_c (rv_I (wide_div (b := 100) h0 h1 (by decide) (by decide)))) ev_c (rv_I h2)
    have lst3 : ∀ {Hq : Hp} {s8 s9 s10 : Option V}, Gv (tLst (tCons (tVar 4) (tCons (tVar 5) (tCons (tVar 6) tNil)))) [some (.ref z), some (.int (way : Nat)), some (.int (dn : Nat)), some (.ref c0), some (.ref q1), some (.ref q2), some (.ref q3), some (.ref q5), s8, s9, s10, none] Hq (LstH fun us _ => us = [.ref q1, .ref q2, .ref q3]) := fun {Hq s8 s9 s10} H1 e Q q =>
      ⟨_, rfl, _, rfl, _, rfl, (by show 3 ≤ sizeLine; decide), fun p hp => q (.ref p) _ _ (Fm.newO e hp) ⟨p, _, rfl, upd_same, rfl⟩⟩
    have pick3 : ∀ {j : Nat} {v : V}, j < 3 → [V.ref q1, .ref q2, .ref q3, .ref q5][j]? = some v → [V.ref q1, .ref q2, .ref q3][j]? = some v := fun {j v} hj h => by
      match j, hj with
      | 0, _ => exact h
      | 1, _ => exact h
      | 2, _ => exact h
    refine q_if (et_test (ev_op (ev_var rfl) ev_c (rv_eq rfl))) (fun _ H4 e4 => ?_) (fun _ H4 e4 => s_if (et_test (ev_op (ev_var rfl) ev_c (rv_eq rfl))) (fun _ H5 e5 => ?_) (fun _ H5 e5 => s_if (et_test (ev_op (ev_var rfl) ev_c (rv_eq rfl))) (fun _ H6 e6 => ?_) (fun _ H6 e6 => s_when (et_test (ev_op (ev_var rfl) ev_c (rv_eq rfl))) (fun _ H7 e7 => ?_) (fun _ H7 e7 => ?_))))
    · /- a constant more -/
      have hc4 := (e13.trans e4) _ _ hc1
      have hodd4 := e4 _ _ hodd
      have two : ∀ Hx, Ex H4 Hx → Gv (tLst (tCons (tLst (tCons (tC (.int 1)) tNil)) (tCons (tCB (rListOf K) (tCons (tVar 3) tNil)) tNil))) [some (.ref z), some (.int (way : Nat)), some (.int (dn : Nat)), some (.ref c0), some (.ref q1), some (.ref q2), some (.ref q3), some (.ref q5), some (.ref p3), none, none, none] Hx (LstH fun ys H' => ∃ r1 r2, ys = [.ref r1, .ref r2] ∧ H4 r1 = none ∧ H4 r2 = none ∧ H' r1 = some (.lst [.int 1]) ∧ H' r2 = some (.lst cs)) := fun Hx ex =>
        gv_w (gv_lst (R := fun ys H' => ∃ r1 r2, ys = [V.ref r1, .ref r2] ∧ H4 r1 = none ∧ H4 r2 = none ∧ H' r1 = some (.lst [.int 1]) ∧ H' r2 = some (.lst cs)) (ga_w (ga_cons gv_one (fun H' e' => ga_cons (gv_w (gv_listOf (us := cs) (ev_var (v := .ref c0) rfl) (.inl (sq_of ((ex.trans e') _ _ hc4)))) (S := fun v H'' => ∃ p, v = V.ref p ∧ H4 p = none ∧ H'' p = some (.lst cs)) fun v H'' _ ⟨p, a, b, c⟩ => ⟨p, a, fresh_back (ex.trans e') b, c⟩) (fun _ _ => ga_nil) fun v Ha Hb e ⟨p, a, b, c⟩ => ⟨p, a, b, e _ _ c⟩) fun v Ha Hb e ⟨p, a, b, c⟩ => ⟨p, a, b, e _ _ c⟩)
          fun vs H' _ ⟨v, r, h1, ⟨r1, h2, h3, h4⟩, v2, r2, h5, ⟨r2', h6, h7, h8⟩, h9⟩ => ⟨r1, r2', by rw [h1, h2, h5, h6, show r2 = [] from h9], fresh_back ex h3, h7, h4, h8⟩) (fun us Ha Hb e ⟨r1, r2, a, b, c, d, f⟩ => ⟨r1, r2, a, b, c, e _ _ d, e _ _ f⟩) fun us _ ⟨r1, r2, a, _⟩ => by rw [a]; show 2 ≤ 100000; decide) fun v H' _ ⟨p, us, h1, _, h3, h4⟩ => ⟨p, us, h1, h3, h4⟩
      have hj0 : (0 : Int) < (cs.length : Int) + 1 := by omega
      have hjb := emod_ok (i := (dn : Nat)) hj0
      refine ⟨_, rfl, .inl ⟨rfl, _, sq_of hc4⟩, ?_⟩
      refine (ga_cons (gv_ev (v := .int ((dn : Nat) % ((cs.length : Int) + 1))) (ev_op (ev_var rfl) (ev_op (ev_lenV (K := K) (ev_var rfl) (.inl (sq_of hc4))) ev_c rv_I0) (rv_I (C := fun _ j => 0 < j) (g := fun i j => V.int (i % j)) hj0))) (fun Hx ex => ga_cons (gv_ixH (i := ((dn % 19 : Nat) : Int)) (gv_catH (R1 := fun us _ => us = oddA ++ oddB) (R2 := fun ys H' => ∃ r1 r2, ys = [V.ref r1, .ref r2] ∧ H4 r1 = none ∧ H4 r2 = none ∧ H' r1 = some (.lst [.int 1]) ∧ H' r2 = some (.lst cs)) (fun _ _ _ _ h => h) (fun us Ha Hb e ⟨r1, r2, a, b, c, d, f⟩ => ⟨r1, r2, a, b, c, e _ _ d, e _ _ f⟩) (gv_var rfl ⟨p3, _, rfl, ex _ _ hodd4, rfl⟩) (fun Hy ey => two Hy (ex.trans ey)) ?_) (fun Hy ey => md 19 19 rfl (by decide) rfl) ?_ ?_) (fun _ _ => ga_nil) ?_) fun _ _ _ _ h => h) H4 (Ex.refl _) _ fun vs Hk H5 fk ⟨v, r, h1, h2, y, r', h3, ⟨us, ⟨xs, ys, h4, h5, r1, r2, h6, m1, m2, hr1, hr2⟩, hat⟩, h7⟩ => ?_
      · rintro xs ys H' h ⟨r1, r2, h2, _⟩
        rw [show xs = _ from h, h2]
        show 17 + 2 ≤ 100000
        decide
      · rintro us H' ⟨xs, ys, rfl, h, r1, r2, rfl, _⟩
        have hlt : dn % 19 < (xs ++ [V.ref r1, .ref r2]).length := by
          rw [show xs = _ from h]
          show dn % 19 < 19
          omega
        exact ⟨_, atI_nat (List.getElem?_eq_getElem hlt)⟩
      · rintro us Ha Hb e ⟨xs, ys, h1, h2, r1, r2, a, b, c, d, f⟩
        exact ⟨xs, ys, h1, h2, r1, r2, a, b, c, e _ _ d, e _ _ f⟩
      · rintro v Ha Hb e ⟨us, ⟨xs, ys, h1, h2, r1, r2, a, b, c, d, f⟩, hat⟩
        exact ⟨us, ⟨xs, ys, h1, h2, r1, r2, a, b, c, e _ _ d, e _ _ f⟩, hat⟩
      · have hv : v = .int ((dn : Nat) % ((cs.length : Int) + 1)) := h2
        have hr' : r' = [] := h7
        subst h1 h3 h4 h6 hv hr'
        have e5 : Ex H H5 := ((e1.trans e13).trans e4).trans fk.cur
        have e15 : Ex H1 H5 := (e13.trans e4).trans fk.cur
        have c5 := e15 _ _ hc1
        have ne1 : r1 ≠ c0 := fun q => by rw [q, hc4] at m1; cases m1
        have ne2 : r2 ≠ c0 := fun q => by rw [q, hc4] at m2; cases m2
        have a1 := fk.sub _ _ hr1
        have a2 := fk.sub _ _ hr2
        refine ⟨c0, cs, _, y, rfl, rfl, c5, ?_, hjb.1, ?_, ?_⟩
        · have := A1.n0
          exact Nat.lt_of_le_of_lt (show cs.length ≤ 100 by omega) (by decide)
        · have := A1.n0
          omega
        · refine fin (fun _ _ h => h) (e5.mut hc0) upd_same ((upd_ne (cne f1)).trans (e15 _ _ f1)) ((upd_ne (cne f2)).trans (e15 _ _ f2)) ((upd_ne (cne f3)).trans (e15 _ _ f3)) ((upd_ne (cne f5)).trans (e15 _ _ f5)) ?_ (fun v hv => ?_) (.same _) (.same _) (.same _) (.same _)
          · rw [List.length_append, List.length_append, List.length_take, List.length_drop]
            show min _ _ + 1 + _ ≤ _
            omega
          · rcases List.mem_append.mp hv with hv | hv
            · rcases List.mem_append.mp hv with hv | hv
              · exact .inl (List.mem_of_mem_take hv)
              · rw [List.mem_singleton.mp hv]
                refine .inr ?_
                have hy := at_mem (by rw [show xs = _ from h5]; show dn % 19 < 19; omega) hat
                rw [show xs = _ from h5] at hy
                rcases List.mem_append.mp hy with hy | hy
                · obtain ⟨d, b1, b2, b3⟩ := good_dat (K := K) (odd_good y hy) (upd H5 c0 (.lst (cs.take ((dn : Nat) % ((cs.length : Int) + 1)).toNat ++ [y] ++ cs.drop ((dn : Nat) % ((cs.length : Int) + 1)).toNat)))
                  exact ⟨good_pl (odd_good y hy) _, d, b1, b2, Nat.le_trans b3 (Nat.zero_le _)⟩
                · simp only [List.mem_cons, List.not_mem_nil, or_false] at hy
                  rcases hy with rfl | rfl
                  · refine ⟨.lst r1 _ (sq_of ((upd_ne ne1).trans a1)), ?_⟩
                    obtain ⟨d, b1, b2, b3⟩ := dat_of (K := K) (n := 0) (sq_of ((upd_ne ne1).trans a1)) (fun v hv => by rw [List.mem_singleton.mp hv]; exact ⟨_, .int 1, rfl, Nat.le_refl _⟩)
                    exact ⟨d, b1, b2, Nat.le_trans b3 (by omega)⟩
                  · refine ⟨.lst r2 _ (sq_of ((upd_ne ne2).trans a2)), ?_⟩
                    exact dat_of (sq_of ((upd_ne ne2).trans a2)) fun v hv => by
                      obtain ⟨d, b1, b2, b3⟩ := A1.dt v hv
                      exact ⟨d, dp_ex (e5.mut hc0) _ _ b1, b2, b3⟩
            · exact .inl (List.mem_of_mem_drop hv)
    · /- an odd name -/
      obtain ⟨qj, kj, hq, hqk, hl, pf⟩ := put (dn % 3) (by omega)
      refine q_asg (v := .ref qj) (ev_ixC (i := dn % 3) lst3 (fun H' e => md 3 3 rfl (by decide) rfl) (pick3 (by omega) hq)) fun H6 e6 => ?_
      have hlt : dn / 3 % 17 < (oddA ++ oddB).length := by
        show dn / 3 % 17 < 17
        omega
      obtain ⟨lf, hlf, kf⟩ := good_leaf (odd_good _ (List.getElem_mem hlt))
      refine ⟨_, rfl, ev_ixC (xs := oddA ++ oddB) (i := dn / 3 % 17) (gv_var rfl ⟨p3, _, rfl, ((e4.trans e5).trans e6) _ _ hodd, rfl⟩) (fun H' e => md2 3 17 3 17 rfl rfl (by decide) (by decide) (by decide) rfl) (List.getElem?_eq_getElem hlt) H6 (Ex.refl _) _ fun H7 e7 => ?_⟩
      have e17 : Ex H1 H7 := (((e13.trans e4).trans e5).trans e6).trans e7
      exact ⟨qj, kj, lf, rfl, e17 _ _ hqk, hlf, Nat.lt_of_le_of_lt hl (by decide), pf (fun _ _ h => h) e17 kf (.int 1)⟩
    · /- an odd number -/
      obtain ⟨qj, kj, hq, hqk, hl, pf⟩ := put (dn % 3) (by omega)
      refine q_asg (v := .ref qj) (ev_ixC (i := dn % 3) lst3 (fun H' e => md 3 3 rfl (by decide) rfl) (pick3 (by omega) hq)) fun H7 e7 => ?_
      refine gv_ixH (K := K) (i := ((dn / 3 % 9 : Nat) : Int)) (R1 := fun us H' => ∃ r, us = numsV r ∧ H' r = some (.lst [.int 1])) (fun Hy ey Q q => ⟨1, rfl, (by show 1 ≤ sizeLine; decide), fun r hr => ⟨(by show 9 ≤ sizeLine; decide), fun p hp => q (.ref p) _ _ ((Fm.newO ey hr).trans (Fm.newO (Fm.newO ey hr).sub hp)) ⟨p, numsV r, rfl, upd_same, r, rfl, (Ex.new (fresh_back (Fm.newO ey hr).sub hp)) _ _ upd_same⟩⟩⟩) (fun H' e => md2 3 9 3 9 rfl rfl (by decide) (by decide) (by decide) rfl) (fun us H' ⟨r, h, _⟩ => ?_) (fun us Ha Hb e ⟨r, a, b⟩ => ⟨r, a, e _ _ b⟩) H7 (Ex.refl _) _ fun v Hk H8 fk ⟨us, ⟨r, h1, h2⟩, hat⟩ => ?_
      · have hlt : dn / 3 % 9 < us.length := by
          rw [h]
          show dn / 3 % 9 < 9
          omega
        exact ⟨_, atI_nat (List.getElem?_eq_getElem hlt)⟩
      · have e18 : Ex H1 H8 := (((((e13.trans e4).trans e5).trans e6).trans e7)).trans fk.cur
        have hr8 := fk.sub _ _ h2
        have nr : r ≠ qj := fun q => by
          rw [q, e18 _ _ hqk] at hr8
          exact dL_lst (P := P) (w := w) _ (Option.some.inj hr8)
        refine ⟨_, rfl, qj, kj, .text "z", rfl, e18 _ _ hqk, rfl, Nat.lt_of_le_of_lt hl (by decide), pf (fun _ _ h => h) e18 (fun z h => by cases h; exact ⟨by decide +kernel, by decide +kernel⟩) ?_⟩
        rw [h1] at hat
        exact nums_pl ((upd_ne nr).trans hr8) v (at_mem (by show dn / 3 % 9 < 9; omega) hat)
    · /- an odd rule -/
      obtain ⟨qj, kj, hq, hqk, hl, pf⟩ := put 3 (by omega)
      cases hq
      have hlt : dn % 9 < namesV.length := by
        show dn % 9 < 9
        omega
      obtain ⟨lf, hlf, kf⟩ := good_leaf (names_good _ (List.getElem_mem hlt))
      refine q_asg (v := namesV[dn % 9]) (ev_ixC (xs := namesV) (i := dn % 9) (fun Hy ey Q q => ⟨(by show 9 ≤ sizeLine; decide), fun p hp => q (.ref p) _ _ (Fm.newO ey hp) ⟨p, _, rfl, upd_same, rfl⟩⟩) (fun H' e => md 9 9 rfl (by decide) rfl) (List.getElem?_eq_getElem hlt)) fun H8 e8 => ?_
      refine gv_ixH (K := K) (i := ((dn / 9 % 8 : Nat) : Int)) (R1 := fun us H' => ∃ r, us = kindsV r ∧ H' r = some (.lst [.str "both"])) (fun Hy ey Q q => ⟨(by show 1 ≤ sizeLine; decide), fun r hr => ⟨(by show 8 ≤ sizeLine; decide), fun p hp => q (.ref p) _ _ ((Fm.newO ey hr).trans (Fm.newO (Fm.newO ey hr).sub hp)) ⟨p, kindsV r, rfl, upd_same, r, rfl, (Ex.new (fresh_back (Fm.newO ey hr).sub hp)) _ _ upd_same⟩⟩⟩) (fun H' e => md2 9 8 9 8 rfl rfl (by decide) (by decide) (by decide) rfl) (fun us H' ⟨r, h, _⟩ => ?_) (fun us Ha Hb e ⟨r, a, b⟩ => ⟨r, a, e _ _ b⟩) H8 (Ex.refl _) _ fun v Hk H9 fk ⟨us, ⟨r, h1, h2⟩, hat⟩ => ?_
      · have hlt : dn / 9 % 8 < us.length := by
          rw [h]
          show dn / 9 % 8 < 8
          omega
        exact ⟨_, atI_nat (List.getElem?_eq_getElem hlt)⟩
      · have e19 : Ex H1 H9 := ((((((e13.trans e4).trans e5).trans e6).trans e7)).trans e8).trans fk.cur
        have hr9 := fk.sub _ _ h2
        have nr : r ≠ q5 := fun q => by
          rw [q, e19 _ _ hqk] at hr9
          exact dL_lst (P := P) (w := w) _ (Option.some.inj hr9)
        refine ⟨_, rfl, _, rfl, q5, kj, lf, rfl, e19 _ _ hqk, hlf, Nat.lt_of_le_of_lt hl (by decide), pf (fun _ _ h => h) e19 kf ?_⟩
        rw [h1] at hat
        exact kinds_pl ((upd_ne nr).trans hr9) v (at_mem (by show dn / 9 % 8 < 8; omega) hat)
    · /- all stays -/
      have e17 : Ex H1 H7 := (((e13.trans e4).trans e5).trans e6).trans e7
      exact fin (fun _ _ h => h) (e1.trans e17) (e17 _ _ hc1) (e17 _ _ f1) (e17 _ _ f2) (e17 _ _ f3) (e17 _ _ f5) (Nat.le_succ _) (fun v hv => .inl hv) (.same _) (.same _) (.same _) (.same _)
end
end K3
namespace K3
open PySem PySem.Spec PyProof.Rows L2 Evl GV LD GQ2
/-! ### _law_met -/
/-- what may come out of what is asked: one of the three, told by its word -/
def Emet (K : PySem.W.Frag) (Q : VK) : XK := fun cls d H' => ∃ (n : Str) (v : V) (dd : Addr), n ∈ exN ∧ cls = .ref (He.ga K n) ∧ d = some dd ∧ H' dd = some (.xd [("name", v)]) ∧ ∀ p, H' p = none → Q (.ref p) (upd H' p (.tup [.str (wordOf n), v]))
def TTmet (K : PySem.W.Frag) : (XK → Hp → VK → Prop) → Hp → VK → Prop := fun tl H Q => tl (Emet K Q) H fun _ H' => Q .non H'
theorem takes_len {X : Cx} {W : WX} (t : Takes X W) : Takes X (fun cls d σ H => σ.length = X.N.length → W cls d σ H) := fun u s ⟨e, B, sI, pins, σ, H, cls, d, h1, I, nb, up, sky, na, os, ag, w⟩ =>
  t u s ⟨e, B, sI, pins, σ, H, cls, d, h1, I, nb, up, sky, na, os, ag, w I.len⟩
theorem met_gives {X : Cx} (T : Tx X.K X.mg) (g : Addr) (cdg : Value) (q : Str) : LamX.GivesTo X ["_law_ask", "e"] "_law_met" (defScope (top 36)) g cdg (defBody (top 36)) "_law_ask" q (TTmet X.K) := by
  intro f c' s H Q tl act hc h
  refine ⟨_, pss_cons (TMA.ps_try_manyAs (X := (cxOf C8.CX0 X.prog X.w X.K X.mg X.base ["_law_ask", "e"] "_law_met" (defScope (top 36)) g cdg X.A X.stack s H C8.E0).nox) (W0 := fun _ _ _ _ => False)
    (tb := fun W D σ H => ∃ Ech : XK, (∀ cls d σ' H', Ech cls d H' → σ'.length = 2 → W cls d σ' H') ∧ σ[0]? = some (some (.ref f)) ∧ H c' = some (LamX.CodeO c' q) ∧ tl Ech H fun _ H' => D.nx σ H')
    rfl rfl (show (["_law_ask", "e"] : List Str).Nodup from by decide +kernel) LamX.takes0 (fun W pn xe tk _ => ?_) (.cons (x := "BadName") (c := .ref (He.ga X.K "BadName")) (i := 1) (n := "e") (ts := fun a cls d => tRet (tTup (tCons (tC (.str "name")) (tCons (tXf a cls d (He.ga X.K "BadName") "name" (tVar 1)) tNil)))) rfl rfl ⟨rfl, by decide, .inl (T.gl 2 rfl)⟩ (fun a oe cls d pn hz hf => pss_one (ps_ret (pe_tup (pa_cons pe_str (pa_cons (pe_xf (T.ini (x := "BadName") (by decide)).1.xf ((T.ini (x := "BadName") (by decide)).1.no _ (by simp)) hz hf (pv 1)) pa_nil))))) (.cons (x := "BadNumber") (c := .ref (He.ga X.K "BadNumber")) (i := 1) (n := "e") (ts := fun a cls d => tRet (tTup (tCons (tC (.str "number")) (tCons (tXf a cls d (He.ga X.K "BadNumber") "name" (tVar 1)) tNil)))) rfl rfl ⟨rfl, by decide, .inl (T.gl 3 rfl)⟩ (fun a oe cls d pn hz hf => pss_one (ps_ret (pe_tup (pa_cons pe_str (pa_cons (pe_xf (T.ini (x := "BadNumber") (by decide)).1.xf ((T.ini (x := "BadNumber") (by decide)).1.no _ (by simp)) hz hf (pv 1)) pa_nil))))) (.cons (x := "BadRule") (c := .ref (He.ga X.K "BadRule")) (i := 1) (n := "e") (ts := fun a cls d => tRet (tTup (tCons (tC (.str "rule")) (tCons (tXf a cls d (He.ga X.K "BadRule") "name" (tVar 1)) tNil)))) rfl rfl ⟨rfl, by decide, .inl (T.gl 4 rfl)⟩ (fun a oe cls d pn hz hf => pss_one (ps_ret (pe_tup (pa_cons pe_str (pa_cons (pe_xf (T.ini (x := "BadRule") (by decide)).1.xf ((T.ini (x := "BadRule") (by decide)).1.no _ (by simp)) hz hf (pv 1)) pa_nil))))) .nil))))
    (pss_one (ps_ret pe_non)), ?_⟩
  · refine ⟨fun pins s' σ H' D I h' => ?_⟩
    obtain ⟨Ech, hW, h1, h2, h3⟩ := h'
    have hp := fun p1 p2 => act (fun cls d σ H => σ.length = 2 → W cls d σ H) pn xe Ech p1 p2 (takes_len tk) hW
    exact (pss_one (ps_expr (hp _ _))).run pins s' σ H' D I ⟨h1, h2, h3⟩
  · refine ⟨Emet X.K Q, ?_, rfl, hc, h⟩
    rintro cls d σ' H' ⟨n, v, dd, hn, rfl, rfl, hdd, hq⟩ hl
    obtain ⟨x0, x1, rfl⟩ : ∃ x0 x1, σ' = [x0, x1] := match σ', hl with
      | [a, b], _ => ⟨a, b, rfl⟩
    have e1 := T.exm hn (y := "BadName") (by decide)
    have e2 := T.exm hn (y := "BadNumber") (by decide)
    have e3 := T.exm hn (y := "BadRule") (by decide)
    have hn' : n = "BadName" ∨ n = "BadNumber" ∨ n = "BadRule" := by
      unfold exN at hn
      simpa using hn
    have t1 : decide (("BadName" : Str) = "BadName") = true := decide_eq_true rfl
    have t2 : decide (("BadNumber" : Str) = "BadName") = false := by decide +kernel
    have t3 : decide (("BadNumber" : Str) = "BadNumber") = true := decide_eq_true rfl
    have t4 : decide (("BadRule" : Str) = "BadName") = false := by decide +kernel
    have t5 : decide (("BadRule" : Str) = "BadNumber") = false := by decide +kernel
    have t6 : decide (("BadRule" : Str) = "BadRule") = true := decide_eq_true rfl
    rcases hn' with rfl | rfl | rfl
    · rw [t1] at e1
      exact ⟨true, e1, fun _ a ha => ⟨_, rfl, rfl, rfl, dd, _, v, rfl, hdd, rfl, (by show 2 ≤ sizeLine; decide), fun p hp => hq p hp⟩, fun z => nomatch z⟩
    · rw [t2] at e1
      rw [t3] at e2
      exact ⟨false, e1, fun z => (nomatch z), fun _ => ⟨true, e2, fun _ a ha => ⟨_, rfl, rfl, rfl, dd, _, v, rfl, hdd, rfl, (by show 2 ≤ sizeLine; decide), fun p hp => hq p hp⟩, fun z => nomatch z⟩⟩
    · rw [t4] at e1
      rw [t5] at e2
      rw [t6] at e3
      exact ⟨false, e1, fun z => (nomatch z), fun _ => ⟨false, e2, fun z => (nomatch z), fun _ => ⟨true, e3, fun _ a ha => ⟨_, rfl, rfl, rfl, dd, _, v, rfl, hdd, rfl, (by show 2 ≤ sizeLine; decide), fun p hp => hq p hp⟩, fun z => nomatch z⟩⟩⟩
end K3
namespace K3
open PySem PySem.Spec PyProof.Rows L2 Evl GV LD GQ2
section
variable {K : PySem.W.Frag} {P : Program} {w : World}
/-! ### what is handed over stays, tables of code objects aside -/
/-- as much as is asked: lists, tuples and dicts stay -/
structure Sty (P : Program) (w : World) (H H' : Hp) : Prop where
  l : ∀ a xs, H a = some (.lst xs) → H' a = some (.lst xs)
  lf : ∀ a o xs, H a = some (.frz o (.lst xs)) → H' a = some (.frz o (.lst xs))
  t : ∀ a xs, H a = some (.tup xs) → H' a = some (.tup xs)
  tf : ∀ a o xs, H a = some (.frz o (.tup xs)) → H' a = some (.frz o (.tup xs))
  d : ∀ a b k, H a = some (dL P w b k) → H' a = some (dL P w b k)
theorem Sty.of {H H' : Hp} (e : Ex H H') : Sty P w H H' := ⟨fun a xs h => e _ _ h, fun a o xs h => e _ _ h, fun a xs h => e _ _ h, fun a o xs h => e _ _ h, fun a b k h => e _ _ h⟩
theorem dL_tbl {b : Addr} {k : LKV} (ps : Array Value) : dL P w b k ≠ .tbl ps := fun z => by
  have z' : HO.ext _ = HO.tbl ps := z
  cases z'
theorem Sty.ofN {H H' : Hp} (e : LamX.ExtN H H') : Sty P w H H' := ⟨fun a xs h => e _ _ h (fun _ z => nomatch z), fun a o xs h => e _ _ h (fun _ z => nomatch z), fun a xs h => e _ _ h (fun _ z => nomatch z), fun a o xs h => e _ _ h (fun _ z => nomatch z), fun a b k h => e _ _ h fun ps z => dL_tbl ps z⟩
section
variable {H H' : Hp} (s : Sty P w H H')
include s
theorem Sty.sl {a : Addr} {xs : List V} (h : SqL K H a xs) : SqL K H' a xs := by
  rcases h with (h | ⟨o, h⟩) | h
  · exact .inl (.inl (s.l _ _ h))
  · exact .inl (.inr ⟨o, s.lf _ _ _ h⟩)
  · exact .inr h
theorem Sty.st {a : Addr} {xs : List V} (h : SqT K H a xs) : SqT K H' a xs := by
  rcases h with (h | ⟨o, h⟩) | h
  · exact .inl (.inl (s.t _ _ h))
  · exact .inl (.inr ⟨o, s.tf _ _ _ h⟩)
  · exact .inr h
theorem Sty.pl {v : V} (h : Pl K H v) : Pl K H' v := by
  cases h with
  | non => exact .non
  | bl b => exact .bl b
  | int i => exact .int i
  | str z h => exact .str z h
  | lst a xs h => exact .lst a xs (s.sl h)
mutual
theorem Sty.dp : ∀ (d : PyData) (v : V), Dp K H v d → Dp K H' v d
  | .none, _, h => by cases h; exact .non
  | .bool _, _, h => by cases h; exact .bl _
  | .int _, _, h => by cases h; exact .int _
  | .str _, _, h => by cases h; exact .str _
  | .list ds, _, h => by
    cases h with
    | lst a b => exact .lst (s.sl a) (Sty.dpA ds _ b)
  | .tuple ds, _, h => by
    cases h with
    | tup a b => exact .tup (s.st a) (Sty.dpA ds _ b)
  | .dict _, _, h => by cases h
theorem Sty.dpA : ∀ (ds : List PyData) (vs : List V), DpAll K H vs ds → DpAll K H' vs ds
  | [], _, h => by cases h; exact .nil
  | d :: ds, _, h => by
    cases h with
    | cons a b => exact .cons (Sty.dp d _ a) (Sty.dpA ds _ b)
end
theorem PartsAt.sty {n : Nat} {ac d1 d2 d3 d5 : Addr} {cs : List V} {k1 k2 k3 k5 : LKV} (A : PartsAt K P w n H ac d1 d2 d3 d5 cs k1 k2 k3 k5) : PartsAt K P w n H' ac d1 d2 d3 d5 cs k1 k2 k3 k5 := by
  have pp : ∀ {k : LKV}, (∀ p ∈ k, Pl K H p.2 ∧ ∀ z, p.1 = .text z → z.length ≤ 100000) → ∀ p ∈ k, Pl K H' p.2 ∧ ∀ z, p.1 = .text z → z.length ≤ 100000 := fun h p hp => ⟨s.pl (h p hp).1, (h p hp).2⟩
  obtain ⟨a, l, dt, o1, o2, o3, o5, n0, n1, n2, n3, n5⟩ := A
  exact ⟨⟨s.sl a.c, s.d _ _ _ a.h1, s.d _ _ _ a.h2, s.d _ _ _ a.h3, s.d _ _ _ a.h5, a.n12, a.n13, a.n15, a.n23, a.n25, a.n35, a.lc, a.l1, a.l2, a.l3, a.l5, a.nd5, fun v hv => s.pl (a.pc v hv), pp a.p1, pp a.p2, pp a.p3, pp a.p5⟩, s.l _ _ l, fun v hv => by
    obtain ⟨d, h1, h2, h3⟩ := dt v hv
    exact ⟨d, s.dp _ _ h1, h2, h3⟩, o1, o2, o3, o5, n0, n1, n2, n3, n5⟩
end
/-! ### the value that is due, as data -/
mutual
theorem eqv_self : ∀ d : PyData, d.canLay0 = true → PyData.eqv d d = true
  | .none, _ => rfl
  | .bool b, _ => by show (b == b) = true; exact beq_self_eq_true b
  | .int i, _ => by show (i == i) = true; exact beq_self_eq_true i
  | .str z, _ => by show (z == z) = true; exact beq_self_eq_true z
  | .list ds, h => eqvs_self ds h
  | .tuple ds, h => eqvs_self ds h
  | .dict _, h => by cases h
theorem eqvs_self : ∀ ds : List PyData, PyData.canLayAll0 ds = true → PyData.eqvAll ds ds = true
  | [], _ => rfl
  | d :: ds, h => by
    rw [PyData.canLayAll0, Bool.and_eq_true] at h
    rw [PyData.eqvAll, eqv_self d h.1, eqvs_self ds h.2]
    rfl
end
theorem num_dat {i : Int} {u : V} (h : lV (.num i) u) (H : Hp) : ∃ d, Dp K H u d ∧ d.canLay0 = true ∧ d.depth ≤ 0 ∧ (d = .int i ∨ ∃ b : Bool, d = .bool b ∧ (if b = true then 1 else 0) = i) := by
  rcases h with rfl | ⟨b, rfl, e⟩
  · exact ⟨.int i, .int i, rfl, Nat.le_refl _, .inl rfl⟩
  · exact ⟨.bool b, .bl b, rfl, Nat.le_refl _, .inr ⟨b, rfl, e⟩⟩
theorem num_eqv {i : Int} {d e : PyData} (h : d = .int i ∨ ∃ b : Bool, d = .bool b ∧ (if b = true then 1 else 0) = i) (g : e = .int i ∨ ∃ b : Bool, e = .bool b ∧ (if b = true then 1 else 0) = i) : PyData.eqv d e = true := by
  rcases h with rfl | ⟨b, rfl, h⟩
  · rcases g with rfl | ⟨c, rfl, g⟩
    · exact beq_self_eq_true i
    · show (i == if c = true then 1 else 0) = true
      rw [g]
      exact beq_self_eq_true i
  · rcases g with rfl | ⟨c, rfl, g⟩
    · show ((if b = true then 1 else 0) == i) = true
      rw [h]
      exact beq_self_eq_true i
    · show (b == c) = true
      cases b <;> cases c <;> first | rfl | (exfalso; rw [← g] at h; revert h; decide)
theorem num_one {i j : Int} {v : V} (h : lV (.num i) v) (g : lV (.num j) v) : i = j := by
  rcases h with rfl | ⟨b, rfl, e⟩
  · rcases g with g | ⟨c, g, _⟩
    · cases g; rfl
    · cases g
  · rcases g with g | ⟨c, g, e2⟩
    · cases g
    · cases g
      exact e.symm.trans e2
/-- a value with its data: whatever is similar has data that is equal -/
theorem sim_dat {H : Hp} {n : Nat} {v u1 u2 : V} (hv : ∃ d, Dp K H v d ∧ d.canLay0 = true ∧ d.depth ≤ n) (h1 : Sim v u1) (h2 : Sim v u2) :
    ∃ d e, Dp K H u1 d ∧ Dp K H u2 e ∧ d.canLay0 = true ∧ e.canLay0 = true ∧ d.depth ≤ n ∧ e.depth ≤ n ∧ PyData.eqv d e = true := by
  by_cases hn : ∃ i, lV (.num i) v
  · obtain ⟨i, hi⟩ := hn
    have g : ∀ {u : V}, Sim v u → lV (.num i) u := fun h => by
      rcases h with rfl | ⟨j, a, b⟩
      · exact hi
      · rw [num_one hi a]
        exact b
    obtain ⟨d, a1, a2, a3, a4⟩ := num_dat (K := K) (g h1) H
    obtain ⟨e, b1, b2, b3, b4⟩ := num_dat (K := K) (g h2) H
    exact ⟨d, e, a1, b1, a2, b2, Nat.le_trans a3 (Nat.zero_le _), Nat.le_trans b3 (Nat.zero_le _), num_eqv a4 b4⟩
  · have g : ∀ {u : V}, Sim v u → u = v := fun h => by
      rcases h with rfl | ⟨j, a, b⟩
      · rfl
      · exact absurd ⟨j, a⟩ hn
    obtain ⟨d, a, b, c⟩ := hv
    rw [g h1, g h2]
    exact ⟨d, d, a, a, b, b, c, c, eqv_self d b⟩
theorem firstBad_mem : ∀ {xs : List V} {seen : List Str} {v : V}, firstBad seen xs = some v → v ∈ xs
  | [], _, _, h => nomatch h
  | x :: xs, seen, v, h => by
    rw [firstBad_cons] at h
    rcases nam_two x with hb | ⟨z, _, hz⟩
    · rw [hb] at h
      cases h
      exact List.mem_cons_self ..
    · rw [hz] at h
      have h' : (if z ∈ seen then some x else firstBad (z :: seen) xs) = some v := h
      by_cases hs : z ∈ seen
      · rw [if_pos hs] at h'
        cases h'
        exact List.mem_cons_self ..
      · rw [if_neg hs] at h'
        exact List.mem_cons_of_mem _ (firstBad_mem h')
theorem badNum_mem : ∀ {l : List (Str × V)} {as : List Int} {z : Str}, badNum as l = some z → ∃ v, (z, v) ∈ l
  | [], _, _, h => nomatch h
  | (y, v) :: r, as, z, h => by
    have h' : (if inV (intV v) (as.map V.int) = true then badNum as r else some y) = some z := h
    by_cases q : inV (intV v) (as.map V.int) = true
    · rw [if_pos q] at h'
      obtain ⟨u, hu⟩ := badNum_mem h'
      exact ⟨u, List.mem_cons_of_mem _ hu⟩
    · rw [if_neg q] at h'
      cases h'
      exact ⟨v, List.mem_cons_self ..⟩
theorem badRule_mem {F G : List (Str × Int)} : ∀ {l : LKV} {had : Bool} {k : Leaf}, badRule F G had l = some k → ∃ v, (k, v) ∈ l
  | [], _, _, h => nomatch h
  | (y, v) :: r, had, k, h => by
    have h' : (if canV F G (kTxt y) (txt v) = true then (if (decide (txt v = .str "order") && had) = true then some y else badRule F G (had || decide (txt v = .str "order")) r) else some y) = some k := h
    by_cases c : canV F G (kTxt y) (txt v) = true
    · rw [if_pos c] at h'
      by_cases e : (decide (txt v = .str "order") && had) = true
      · rw [if_pos e] at h'
        cases h'
        exact ⟨v, List.mem_cons_self ..⟩
      · rw [if_neg e] at h'
        obtain ⟨u, hu⟩ := badRule_mem h'
        exact ⟨u, List.mem_cons_of_mem _ hu⟩
    · rw [if_neg c] at h'
      cases h'
      exact ⟨v, List.mem_cons_self ..⟩
theorem tx_mem : ∀ {k : LKV} {z : Str} {v : V}, (z, v) ∈ tx k → (Leaf.text z, v) ∈ k
  | [], _, _, h => absurd h (by simp [tx])
  | (.none, u) :: r, z, v, h => List.mem_cons_of_mem _ (tx_mem (k := r) h)
  | (.num i, u) :: r, z, v, h => List.mem_cons_of_mem _ (tx_mem (k := r) h)
  | (.text y, u) :: r, z, v, h => by
    rcases List.mem_cons.mp (show (z, v) ∈ (y, u) :: tx r from h) with e | h
    · cases e
      exact List.mem_cons_self ..
    · exact List.mem_cons_of_mem _ (tx_mem (k := r) h)
theorem lv_dat {k : LKV} (h : KOk k) {p : Leaf × V} (hp : p ∈ k) (H : Hp) : ∃ d, Dp K H (lv p.1) d ∧ d.canLay0 = true ∧ d.depth ≤ 0 := by
  cases hk : p.1 with
  | none => exact ⟨_, .non, rfl, Nat.le_refl _⟩
  | num i => exact ⟨_, .int i, rfl, Nat.le_refl _⟩
  | text z => exact ⟨_, .str z, h p hp z hk, Nat.le_refl _⟩
theorem due_dat {n : Nat} {H : Hp} {ac d1 d2 d3 d5 : Addr} {cs : List V} {k1 k2 k3 k5 : LKV} {m : Str} {v : V} (A : PartsAt K P w n H ac d1 d2 d3 d5 cs k1 k2 k3 k5) (h : dueP cs k1 k2 k3 k5 = some (m, v)) :
    m ∈ exN ∧ ∃ d, Dp K H v d ∧ d.canLay0 = true ∧ d.depth ≤ n := by
  have w0 : (∃ d, Dp K H v d ∧ d.canLay0 = true ∧ d.depth ≤ 0) → ∃ d, Dp K H v d ∧ d.canLay0 = true ∧ d.depth ≤ n := fun ⟨d, a, b, c⟩ => ⟨d, a, b, Nat.le_trans c (Nat.zero_le _)⟩
  unfold dueP at h
  cases hf : firstBad [] (allN cs k1 k2 k3) with
  | some u =>
    rw [hf] at h
    cases h
    refine ⟨by simp [exN], ?_⟩
    have hm := firstBad_mem hf
    unfold allN at hm
    rcases List.mem_append.mp hm with hm | hm
    · exact A.dt v hm
    refine w0 ?_
    rcases List.mem_append.mp hm with hm | hm
    · obtain ⟨p, hp, rfl⟩ := List.mem_map.mp hm
      exact lv_dat A.o1 hp H
    rcases List.mem_append.mp hm with hm | hm
    · obtain ⟨p, hp, rfl⟩ := List.mem_map.mp hm
      exact lv_dat A.o2 hp H
    · obtain ⟨p, hp, rfl⟩ := List.mem_map.mp hm
      exact lv_dat A.o3 hp H
  | none =>
    rw [hf] at h
    dsimp only at h
    have st : ∀ {k : LKV} {as : List Int} {z : Str}, KOk k → badNum as (tx k) = some z → ∃ d, Dp K H (.str z) d ∧ d.canLay0 = true ∧ d.depth ≤ n := fun {k as z} ho hb => by
      obtain ⟨u, hu⟩ := badNum_mem hb
      exact ⟨.str z, .str z, ho _ (tx_mem hu) z rfl, Nat.zero_le _⟩
    unfold dueN at h
    cases h1 : badNum [1, 2] (tx k1) with
    | some z =>
      rw [h1] at h
      cases h
      exact ⟨by simp [exN], st A.o1 h1⟩
    | none =>
      rw [h1] at h
      dsimp only at h
      cases h2 : badNum [1, 2] (tx k2) with
      | some z =>
        rw [h2] at h
        cases h
        exact ⟨by simp [exN], st A.o2 h2⟩
      | none =>
        rw [h2] at h
        dsimp only at h
        cases h3 : badNum [0, 1, 2] (tx k3) with
        | some z =>
          rw [h3] at h
          cases h
          exact ⟨by simp [exN], st A.o3 h3⟩
        | none =>
          rw [h3] at h
          dsimp only at h
          obtain ⟨k, hk, e⟩ := Option.map_eq_some_iff.mp h
          cases e
          obtain ⟨u, hu⟩ := badRule_mem hk
          exact ⟨by simp [exN], w0 (lv_dat A.o5 hu H)⟩
theorem tup_shaped {xs : List PyData} (h : PyData.canLayAll0 xs = true) (hd : PyData.depthAll xs ≤ 60) : SeqAt.shaped (.tuple xs) = true := by
  unfold SeqAt.shaped
  rw [PyData.canLay0, h, PyData.depth, Bool.true_and]
  exact decide_eq_true (by omega)
end
end K3
namespace K3
open PySem PySem.Spec PyProof.Rows L2 Evl GV LD GQ2
section
variable {K : PySem.W.Frag} {mg : Str → Option Value} {P : Program} {w : World} {base : Heap}
/-! ### law -/
abbrev tabP (K : PySem.W.Frag) : Addr := (He.cT K ("law", none)).2
def spLaw (K : PySem.W.Frag) : Sp := fun vs H Q _ => ∃ (l : Addr) (ns : List Int), vs = [.ref l] ∧ ns.length ≤ 1000 ∧ SqL K H l (ns.map V.int) ∧ H (tabP K) = some (.tbl #[]) ∧ ∀ H', Q (.bl true) H'
theorem sc_law : FnScope ["_law_script", "_law_row_here", "_law_parts", "_law_k", "_law_told"] ["_law_script"] (defScope (top 37)) := ⟨rfl, rfl, rfl, by decide +kernel, rfl, by decide +kernel, by decide +kernel⟩
theorem sc_met : FnScope ["_law_ask", "e"] ["_law_ask"] (defScope (top 36)) := ⟨rfl, rfl, rfl, by decide +kernel, rfl, by decide +kernel, by decide +kernel⟩
theorem upd_twice {H : Hp} {p : Addr} {a b : HO} : upd (upd H p a) p b = upd H p b := by
  funext x
  by_cases h : x = p
  · rw [h, upd_same, upd_same]
  · rw [upd_ne h, upd_ne h, upd_ne h]
/-- a dict of texts written down -/
theorem gv_dispC {trs : List (TE × TE)} {σ : L2.St} {H : Hp} {l : List (Str × V)} (h : ∀ (H2 : Hp) (Q : List (V × V) → Hp → Prop), Q (l.map fun p => (V.str p.1, p.2)) H2 → tPairs trs σ H2 Q) (hm : mergeK [] (tkK l) = tkK l) (hl : l.length ≤ 15) :
    Gv (tDisp trs) σ H (fun v H' => ∃ p, v = .ref p ∧ H p = none ∧ H' p = some (.dK (tkK l))) := fun H1 e Q q p hp => h _ _ ⟨upd_same, tkK l, by rw [tkK, List.map_map]; rfl, by rw [tkK, List.length_map]; exact hl, by
  rw [hm, upd_twice]
  exact q (.ref p) _ _ (Fm.newO e hp) ⟨p, rfl, fresh_back e hp, upd_same⟩⟩
def tf1 : List (Str × V) := [("f", .int 1), ("g", .int 2)]
def tf2 : List (Str × V) := [("p", .int 2), ("q", .int 1), ("lt", .int 2)]
def tf3 : List (Str × V) := [("tell", .int 1), ("beep", .int 0)]
def tfs : List (List (Str × V)) := [[], [("f", .str "settles")], [("lt", .str "order")], [("g", .str "swaps"), ("p", .str "both")], [("p", .str "order")]]
theorem empty_sq {a : Addr} (h : emptyB K a = true) (H : Hp) : SqT K H a [] := by
  unfold emptyB at h
  cases q : K.lookup a with
  | none => rw [q] at h; cases h
  | some o =>
    obtain ⟨oc, od, dt, osl⟩ := o
    rw [q] at h
    cases oc with
    | type c =>
      cases dt with
      | seq its n =>
        obtain ⟨h1, h2⟩ := Bool.and_eq_true_iff.mp (show (decide (c = "tuple") && its.isEmpty) = true from h)
        have hc : c = "tuple" := of_decide_eq_true h1
        have hi : its = #[] := Array.isEmpty_iff.mp h2
        subst hc hi
        exact .inr ⟨_, #[], n, q, rfl, rfl, Nat.zero_le _, .nil⟩
      | _ => cases h
    | _ => cases h
theorem Tx.e5 (T : Tx K mg) : emptyB K (He.dflAt ("Names", some "__init__") 5 K) = true := (He.ba (He.ba T.e).2).1
theorem Tx.e6 (T : Tx K mg) : emptyB K (He.dflAt ("Names", some "__init__") 6 K) = true := (He.ba (He.ba (He.ba T.e).2).2).1
def okL (l : List (Str × V)) : Bool := l.all fun p => goodV p.2 && goodV (.str p.1)
theorem okL_p {l : List (Str × V)} (h : okL l = true) : ∀ p ∈ tkL l, (∀ H, Pl K H p.2) ∧ ∀ z, p.1 = .text z → z.length ≤ 100000 ∧ PyData.strOk z = true := fun p hp => by
  obtain ⟨q, hq, rfl⟩ := List.mem_map.mp hp
  obtain ⟨h1, h2⟩ := Bool.and_eq_true_iff.mp (List.all_eq_true.mp h q hq)
  refine ⟨fun H => good_pl h1 H, fun z hz => ?_⟩
  cases hz
  obtain ⟨h3, h4⟩ := Bool.and_eq_true_iff.mp (show (decide (q.1.length ≤ 100000) && PyData.strOk q.1) = true from h2)
  exact ⟨of_decide_eq_true h3, h4⟩
theorem tfs_ok : ∀ l ∈ tfs, okL l = true ∧ ((tkL l).map (·.1)).Nodup ∧ l.length ≤ 2 ∧ tkK l ≠ tkK tf1 ∧ tkK l ≠ tkK tf2 ∧ tkK l ≠ tkK tf3 := by
  have h : tfs.all (fun l => okL l && (decide ((tkL l).map (·.1)).Nodup && (decide (l.length ≤ 2) && (decide (tkK l ≠ tkK tf1) && (decide (tkK l ≠ tkK tf2) && decide (tkK l ≠ tkK tf3)))))) = true := by decide +kernel
  intro l hl
  have := List.all_eq_true.mp h l hl
  simp only [Bool.and_eq_true, decide_eq_true_eq] at this
  exact ⟨this.1, this.2.1, this.2.2.1, this.2.2.2.1, this.2.2.2.2.1, this.2.2.2.2.2⟩
theorem tf_ne : tkK tf1 ≠ tkK tf2 ∧ tkK tf1 ≠ tkK tf3 ∧ tkK tf2 ≠ tkK tf3 := by
  have h : (decide (tkK tf1 ≠ tkK tf2) && (decide (tkK tf1 ≠ tkK tf3) && decide (tkK tf2 ≠ tkK tf3))) = true := by decide +kernel
  simp only [Bool.and_eq_true, decide_eq_true_eq] at h
  exact ⟨h.1, h.2.1, h.2.2⟩
/-- the parts with which it begins -/
theorem parts_first {H : Hp} {ac d1 d2 d3 d5 : Addr} {l : List (Str × V)} (hc : H ac = some (.lst [.str "a", .str "b"])) (h1 : H d1 = some (dL P w d1 (tkL tf1))) (h2 : H d2 = some (dL P w d2 (tkL tf2))) (h3 : H d3 = some (dL P w d3 (tkL tf3))) (h5 : H d5 = some (dL P w d5 (tkL l)))
    (n12 : d1 ≠ d2) (n13 : d1 ≠ d3) (n15 : d1 ≠ d5) (n23 : d2 ≠ d3) (n25 : d2 ≠ d5) (n35 : d3 ≠ d5) (hl : l ∈ tfs) : PartsAt K P w 0 H ac d1 d2 d3 d5 [.str "a", .str "b"] (tkL tf1) (tkL tf2) (tkL tf3) (tkL l) := by
  obtain ⟨ok5, nd5, ln5, _⟩ := tfs_ok l hl
  have ok1 : okL tf1 = true := by decide +kernel
  have ok2 : okL tf2 = true := by decide +kernel
  have ok3 : okL tf3 = true := by decide +kernel
  have pp : ∀ {l : List (Str × V)}, okL l = true → ∀ p ∈ tkL l, Pl K H p.2 ∧ ∀ z, p.1 = .text z → z.length ≤ 100000 := fun h p hp => ⟨(okL_p (K := K) h p hp).1 H, fun z hz => ((okL_p (K := K) h p hp).2 z hz).1⟩
  have oo : ∀ {l : List (Str × V)}, okL l = true → KOk (tkL l) := fun h p hp z hz => ((okL_p (K := K) h p hp).2 z hz).2
  have ll : (tkL l).length ≤ 2 := by rw [tkL, List.length_map]; exact ln5
  have ga : goodV (.str "a") = true := by decide +kernel
  have gb : goodV (.str "b") = true := by decide +kernel
  have cs : ∀ v ∈ [V.str "a", .str "b"], goodV v = true := fun v hv => by
    simp only [List.mem_cons, List.not_mem_nil, or_false] at hv
    rcases hv with rfl | rfl
    · exact ga
    · exact gb
  exact ⟨⟨sq_of hc, h1, h2, h3, h5, n12, n13, n15, n23, n25, n35, by decide, by show 2 ≤ 100; decide, by show 3 ≤ 100; decide, by show 2 ≤ 100; decide, Nat.le_trans ll (by decide), nd5, fun v hv => good_pl (cs v hv) H, pp ok1, pp ok2, pp ok3, pp ok5⟩, hc, fun v hv => good_dat (cs v hv) H, oo ok1, oo ok2, oo ok3, oo ok5, by decide, by show 2 ≤ 5; decide, by show 3 ≤ 5; decide, by show 2 ≤ 5; decide, Nat.le_trans ll (by decide)⟩
theorem q_lastAsg {sp : Sp} {E : XK} {ta : TA} {D : Ends} {σ : L2.St} {H : Hp} {i : Nat} {vs : List V} (h : EvA ta σ H vs) (k : ∀ H2, Ex H H2 → sp (vs ++ []) H2 (fun v H3 => D.nx (σ.set i (some v)) H3) E) : tAsg (tCall sp [] E ta) (gName i) D σ H := h H (Ex.refl H) _ fun H2 e2 => k H2 e2
theorem make_go {C : Addr} {sp : Sp} {dvs : List V} {E : XK} {ta : TA} {σ : L2.St} {H : Hp} {Q : VK} {vs : List V} (h : EvA ta σ H vs) (k : ∀ H1, Ex H H1 → ∀ x dx, H1 x = none → H1 dx = none → dx ≠ x → sp (.ref x :: (vs ++ dvs)) (upd (upd H1 dx (.own x)) x (.ins C dx [])) (fun v H2 => v = .non ∧ Q (.ref x) H2) E) : tMake C sp dvs E ta σ H Q := h H (Ex.refl H) _ fun H1 e1 => k H1 e1
theorem q_asgR {te : TE} {tz : TS} {D : Ends} {σ : L2.St} {H : Hp} {i : Nat} (h : te σ H fun v H1 => tz D (σ.set i (some v)) H1) : tSeq (tAsg te (gName i)) tz D σ H := h
theorem at_turn (r0 : Int) (m1 m2 m3 m4 m5 : Nat) {i : Nat} (hi : i < 2) : ∃ wv dv : Nat, atI ([r0, (m1 : Int), (m2 : Int), (m3 : Int), (m4 : Int), (m5 : Int)].map V.int) (1 + 2 * (i : Int)) = some (.int (wv : Nat)) ∧ atI ([r0, (m1 : Int), (m2 : Int), (m3 : Int), (m4 : Int), (m5 : Int)].map V.int) (2 + 2 * (i : Int)) = some (.int (dv : Nat)) := by
  have h : i = 0 ∨ i = 1 := by omega
  rcases h with rfl | rfl
  · refine ⟨m1, m2, ?_, ?_⟩
    · rw [show (1 + 2 * ((0 : Nat) : Int)) = ((1 : Nat) : Int) by decide]
      exact atI_nat rfl
    · rw [show (2 + 2 * ((0 : Nat) : Int)) = ((2 : Nat) : Int) by decide]
      exact atI_nat rfl
  · refine ⟨m3, m4, ?_, ?_⟩
    · rw [show (1 + 2 * ((1 : Nat) : Int)) = ((3 : Nat) : Int) by decide]
      exact atI_nat rfl
    · rw [show (2 + 2 * ((1 : Nat) : Int)) = ((4 : Nat) : Int) by decide]
      exact atI_nat rfl
theorem turn_lt {r0 : Int} {i : Nat} (h : (i : Int) < if (2 : Int) < r0 then 2 else r0) : i < 2 := by
  split at h <;> omega
theorem ne_dK {W : Hp} {a b : Addr} {x y : List (Key × V)} (h1 : W a = some (.dK x)) (h2 : W b = some (.dK y)) (n : x ≠ y) : a ≠ b := fun q => by
  rw [q, h2] at h1
  injection h1 with h1
  injection h1 with h1
  exact n h1.symm
theorem ne_oth {W : Hp} {a b : Addr} {o : HO} {y : List (Key × V)} (h1 : W a = some o) (h2 : W b = some (.dK y)) (n : o ≠ .dK y) : a ≠ b := fun q => by
  rw [q, h2] at h1
  exact n (Option.some.inj h1).symm
theorem law_binds {fd : FuncData} (F : FunD K d_law.name d_law.qual d_law.params d_law.body d_law.scope (d_law.dvs K) (d_law.kws K) (He.fAd K d_law.at_) fd) : ∀ (s : Shared) (u : Value), BindsTo s fd ⟨[u], []⟩ [("_law_script", u)] := fun s u => FunD.bindsA (ps := ["_law_script"]) F (fun _ _ _ _ _ _ us hl => match us, hl with | [_], _ => rfl) s [u] rfl
theorem ok_law (T : Tx K mg) (TB : LamX.TabB base mg (He.cT K ("law", none)).1 (tabP K)) {fd : FuncData} (F : FunD K d_law.name d_law.qual d_law.params d_law.body d_law.scope (d_law.dvs K) (d_law.kws K) (He.fAd K d_law.at_) fd) : FnOk P w K mg base CX0 10 (He.ga K "law") fd ["_law_script"] (spLaw K) := by
  obtain ⟨fd_met, F_met⟩ := T.d.def_ 16 (d := d__law_met) rfl
  obtain ⟨fd__law_cell, G__law_cell, b__law_cell, k__law_cell⟩ := ok_cell (P := P) (w := w) (base := base) T
  obtain ⟨fd__law_row, G__law_row, b__law_row, k__law_row⟩ := ok_row (P := P) (w := w) (base := base) T
  obtain ⟨fd__law_spoil, G__law_spoil, b__law_spoil, k__law_spoil⟩ := ok_spoil (P := P) (w := w) (base := base) T
  obtain ⟨fd__law_due, G__law_due, b__law_due, k__law_due⟩ := ok_due (P := P) (w := w) (base := base) T
  obtain ⟨fd_init, G_init, F_init⟩ := ok_init (P := P) (w := w) (base := base) T
  obtain ⟨ds, hds, b_init⟩ := FunD.binds1 (ps := ["self", "constants", "functions", "tests", "deeds", "rules", "facts", "apart"]) F_init 6 5 (fun h => nomatch h) rfl fun T kV doc pm an cdv ct us its h1 h2 => match us, its, h1, h2 with
    | [a, b, c, d, e, f], [i1, i2, i3, i4, i5, i6, i7], _, _ => ⟨_, rfl, rfl⟩
  have b_met : L2.Binds K fd_met ["_law_ask"] [] := FunD.bindsN F_met fun _ _ _ _ _ _ us hl => match us, hl with | [_], _ => rfl
  have k_met := F_met.kp
  obtain ⟨moc, mod, mdV, mkV, mdoc, mpm, man, mcdv, mct, mosl, rfl, mlk, mhcd, _, _⟩ := F_met.ex
  obtain ⟨oc, od, dV, kV, doc, pm, an, cdv, ct, osl, rfl, lk, hcd, hdv, hkv⟩ := F.ex
  obtain ⟨cc, rfl⟩ := He.codeIn_ref hcd
  have hcc : He.codeOf K ("law", none) = cc := He.codeOf_eq lk rfl
  have TB' : LamX.TabB base mg cc (tabP K) := by
    have z := TB
    rw [show (He.cT K ("law", none)).1 = cc from hcc] at z
    exact z
  refine fn_of lk hcd sc_law (fun vs H Q E h => ?_) (fun A outer s H vs Q E hr h => ?_)
  · obtain ⟨_, _, rfl, _⟩ := h
    rfl
  · refine ⟨_, PSs.nox (pss_cons (ps_set (i := 1) sc_law.nd rfl (Or.inl rfl) (pe_call G__law_row (hr.mono (by decide)) rfl (T.gl 20 rfl) k__law_row b__law_row .nil pass0 (pa_cons (pe_call G__law_cell (hr.mono (by decide)) rfl (T.gl 19 rfl) k__law_cell b__law_cell .nil pass0 (pa_cons (pv 0) (pa_cons pe_int pa_nil))) (pa_cons (pe_lst (pa_cons pe_int (pa_cons pe_int (pa_cons pe_int (pa_cons pe_int (pa_cons pe_int (pa_cons pe_int pa_nil))))))) pa_nil))))
      (pss_cons (ps_set (i := 2) sc_law.nd rfl (Or.inr rfl) (pe_tup (pa_cons (pe_lst (pa_cons pe_str (pa_cons pe_str pa_nil))) (pa_cons (pe_disp (pps_cons pe_str pe_int (pps_cons pe_str pe_int pps_nil)) rfl rfl (fun h => nomatch h) (by decide)) (pa_cons (pe_disp (pps_cons pe_str pe_int (pps_cons pe_str pe_int (pps_cons pe_str pe_int pps_nil))) rfl rfl (fun h => nomatch h) (by decide)) (pa_cons (pe_disp (pps_cons pe_str pe_int (pps_cons pe_str pe_int pps_nil)) rfl rfl (fun h => nomatch h) (by decide)) pa_nil))))))
      (pss_cons (ps_set (i := 2) sc_law.nd rfl (Or.inr rfl) (pe_op op_catA (pv 2) (pe_tup (pa_cons (pe_ix ix_list (pe_lst (pa_cons pe_dnewK (pa_cons (pe_disp (pps_cons pe_str pe_str pps_nil) rfl rfl (fun h => nomatch h) (by decide)) (pa_cons (pe_disp (pps_cons pe_str pe_str pps_nil) rfl rfl (fun h => nomatch h) (by decide)) (pa_cons (pe_disp (pps_cons pe_str pe_str (pps_cons pe_str pe_str pps_nil)) rfl rfl (fun h => nomatch h) (by decide)) (pa_cons (pe_disp (pps_cons pe_str pe_str pps_nil) rfl rfl (fun h => nomatch h) (by decide)) pa_nil)))))) (pe_ix ix_list (pv 1) pe_int fun _ _ => rfl) fun _ _ => rfl) pa_nil))))
      (LD.pss_view (pss_cons (ps_for PassesOwn.never rfl (pi_range1 (by rfl) (T.fr 42 rfl) (pa_cons (pe_callB (call_min2 rfl) (by rfl) (T.fr 114 rfl) (by decide +kernel) (pa_cons (pe_ix ix_list (pv 1) pe_int fun _ _ => rfl) (pa_cons pe_int pa_nil))) pa_nil)) (pg_name (i := 3) sc_law.nd rfl (Or.inl rfl)) (pss_one (ps_set (i := 2) sc_law.nd rfl (Or.inr rfl) (pe_call G__law_spoil (hr.mono (by decide)) rfl (T.gl 21 rfl) k__law_spoil b__law_spoil .nil pass0 (pa_cons (pv 2) (pa_cons (pe_ix ix_list (pv 1) (pe_op op_add pe_int (pe_op op_mul pe_int (pv 3))) fun _ _ => rfl) (pa_cons (pe_ix ix_list (pv 1) (pe_op op_add pe_int (pe_op op_mul pe_int (pv 3))) fun _ _ => rfl) pa_nil)))))))
      (pss_cons (ps_set (i := 4) sc_law.nd rfl (Or.inl rfl) (LamX.pe_lamcall (T := [(tabP K, "law.<locals>.<lambda>")]) (TT := TTmet K) (k := 7) (t := fun E => tMake (cN K) (spInit K P w) ((He.DefD.dvs K d_Names_init).drop 5) E (tCons (tOp (rIxT K) (tVar 2) (tC (.int 0))) (tCons (tOp (rIxT K) (tVar 2) (tC (.int 1))) (tCons (tOp (rIxT K) (tVar 2) (tC (.int 2))) (tCons (tOp (rIxT K) (tVar 2) (tC (.int 3))) (tCons (tOp (rIxT K) (tVar 2) (tC (.int 4))) tNil)))))) rfl (T.gl 25 rfl) k_met mlk mhcd b_met sc_met rfl (.inl rfl) (met_gives T _ _ _) TB' rfl (by exact List.mem_cons_self ..) (fun p hp _ => by rw [List.mem_singleton.mp hp]; rfl) (hr.mono (by decide)) (by exact LamX.lamS_by (sc := defScope (top 37)) (by decide +kernel)) rfl (fun _ _ _ _ _ => rfl) (fun A outer s H E f c' hr2 => (pe_make (T.mkr 90 rfl) G_init (hr2.mono (by decide)) (by rfl) (T.gl 16 rfl) b_init hds (LD.pass_of (takes_of rfl rfl rfl rfl)) (pa_cons (pe_ix ix_tup (pv 2) pe_int fun _ _ => rfl) (pa_cons (pe_ix ix_tup (pv 2) pe_int fun _ _ => rfl) (pa_cons (pe_ix ix_tup (pv 2) pe_int fun _ _ => rfl) (pa_cons (pe_ix ix_tup (pv 2) pe_int fun _ _ => rfl) (pa_cons (pe_ix ix_tup (pv 2) pe_int fun _ _ => rfl) pa_nil)))))))))
      (pss_one (ps_ret (pe_cmpR (op_eqD hr.units) (pv 4) (pe_call G__law_due (hr.mono (by decide)) rfl (T.gl 24 rfl) k__law_due b__law_due .nil pass0 (pa_cons (pv 2) pa_nil)) (nomark _)))))))))), ?_⟩
    obtain ⟨l, ns, rfl, hnl, hl, htb, q⟩ := h
    /- the row -/
    refine q_asgR ⟨_, rfl, l, ns, 0, rfl, hl, hnl, fun H0 e0 => ⟨(by show 6 ≤ sizeLine; decide), fun pz hpz => ⟨_, pz, [4, 4, 90, 4, 90, 5], rfl, sq_of upd_same, by decide, ?_, fun rs pr H2 hro hpr e2 hr2 => ?_⟩⟩⟩
    · intro s hs
      simp only [List.mem_cons, List.not_mem_nil, or_false] at hs
      rcases hs with rfl | rfl | rfl | rfl | rfl | rfl <;> exact ⟨by decide, by decide⟩
    have e02 : Ex H H2 := (e0.trans (Ex.new hpz)).trans e2
    have htb2 := e02 _ _ htb
    unfold RowOk at hro
    cases hro with | cons b0 hro => ?_
    cases hro with | cons b1 hro => ?_
    cases hro with | cons b2 hro => ?_
    cases hro with | cons b3 hro => ?_
    cases hro with | cons b4 hro => ?_
    cases hro with | cons b5 hro => ?_
    cases hro
    rename_i r0 r1 r2 r3 r4 r5
    obtain ⟨m1, rfl⟩ := Int.eq_ofNat_of_zero_le b1.1
    obtain ⟨m2, rfl⟩ := Int.eq_ofNat_of_zero_le b2.1
    obtain ⟨m3, rfl⟩ := Int.eq_ofNat_of_zero_le b3.1
    obtain ⟨m4, rfl⟩ := Int.eq_ofNat_of_zero_le b4.1
    obtain ⟨m5, rfl⟩ := Int.eq_ofNat_of_zero_le b5.1
    have hm5 : m5 < 5 := by have := b5.2; omega
    /- the parts -/
    have mo1 : ∀ {l : List (Str × V)}, Mo (fun v H' => ∃ p, v = .ref p ∧ H' p = some (.dK (tkK l))) := fun v Ha Hb e ⟨p, a, b⟩ => ⟨p, a, e _ _ b⟩
    have wk : ∀ {l : List (Str × V)} {te : TE} {σ : L2.St} {Hq : Hp}, Gv te σ Hq (fun v H' => ∃ p, v = .ref p ∧ Hq p = none ∧ H' p = some (.dK (tkK l))) → Gv te σ Hq (fun v H' => ∃ p, v = .ref p ∧ H' p = some (.dK (tkK l))) := fun h => gv_w h fun v H' _ ⟨p, a, b, c⟩ => ⟨p, a, c⟩
    refine g_asg (Ex.refl H2) (gv_tup (R := fun us H' => ∃ ac a1 a2 a3, us = [.ref ac, .ref a1, .ref a2, .ref a3] ∧ H' ac = some (.lst [.str "a", .str "b"]) ∧ H' a1 = some (.dK (tkK tf1)) ∧ H' a2 = some (.dK (tkK tf2)) ∧ H' a3 = some (.dK (tkK tf3)))
      (ga_w (ga_cons (R := fun v H' => ∃ p, v = .ref p ∧ H' p = some (.lst [.str "a", .str "b"])) (fun Ha ea Q1 k1 => ⟨(by show 2 ≤ sizeLine; decide), fun p hp => k1 (.ref p) _ _ (Fm.newO ea hp) ⟨p, rfl, upd_same⟩⟩)
        (fun Ha ea => ga_cons (wk (gv_dispC (l := tf1) (fun _ _ k => k) (by decide +kernel) (by decide))) (fun Hb eb => ga_cons (wk (gv_dispC (l := tf2) (fun _ _ k => k) (by decide +kernel) (by decide))) (fun Hc ec => ga_cons (wk (gv_dispC (l := tf3) (fun _ _ k => k) (by decide +kernel) (by decide))) (fun _ _ => ga_nil) mo1) mo1) mo1) fun v Ha Hb e ⟨p, a, b⟩ => ⟨p, a, e _ _ b⟩)
        fun us H' _ ⟨v0, t0, g0, ⟨c0, g1, g2⟩, v1, t1, g3, ⟨c1, g4, g5⟩, v2, t2, g6, ⟨c2, g7, g8⟩, v3, t3, g9, ⟨c3, g10, g11⟩, g12⟩ => ⟨c0, c1, c2, c3, by rw [g0, g1, g3, g4, g6, g7, g9, g10, show t3 = [] from g12], g2, g5, g8, g11⟩)
      (fun us Ha Hb e ⟨c0, c1, c2, c3, h0, h1, h2, h3, h4⟩ => ⟨c0, c1, c2, c3, h0, e _ _ h1, e _ _ h2, e _ _ h3, e _ _ h4⟩) fun us _ ⟨c0, c1, c2, c3, h0, _⟩ => by rw [h0]; show 4 ≤ 100000; decide) fun v Hk3 H3 fk3 ⟨z0, us0, hz0, _, hzt, ac, a1, a2, a3, hus, hac, ha1, ha2, ha3⟩ => ?_
    subst hz0 hus
    have e23 := fk3.cur
    have hr3 := e23 _ _ hr2
    have dsp : ∀ {l : List (Str × V)} {trs : List (TE × TE)} {σ : L2.St} {Hq : Hp}, (∀ (H2 : Hp) (Q : List (V × V) → Hp → Prop), Q (l.map fun p => (V.str p.1, p.2)) H2 → tPairs trs σ H2 Q) → mergeK [] (tkK l) = tkK l → l.length ≤ 15 → Gv (tDisp trs) σ Hq (fun v H' => ∃ p, v = .ref p ∧ H' p = some (.dK (tkK l))) := fun h1 h2 h3 => wk (gv_dispC h1 h2 h3)
    refine ⟨_, rfl, ?_⟩
    refine gv_tup (R := fun us H' => ∃ d5 l5, us = [V.ref d5] ∧ l5 ∈ tfs ∧ H' d5 = some (.dK (tkK l5))) (ga_w (ga_cons (R := fun v H' => ∃ d5 l5, v = .ref d5 ∧ l5 ∈ tfs ∧ H' d5 = some (.dK (tkK l5))) (gv_w (gv_ixH (K := K) (i := ((m5 : Nat) : Int)) (R1 := fun us H' => Paired (fun (l : List (Str × V)) v => ∃ d, v = V.ref d ∧ H' d = some (.dK (tkK l))) tfs us)
      (gv_w (gv_lst (R := fun us H' => Paired (fun (l : List (Str × V)) v => ∃ d, v = V.ref d ∧ H' d = some (.dK (tkK l))) tfs us)
        (ga_w (ga_cons (gv_w gv_dnewK fun v H' _ ⟨p, a, b, c⟩ => (⟨p, a, c⟩ : ∃ p, v = .ref p ∧ H' p = some (.dK (tkK [])))) (fun Ha ea => ga_cons (dsp (l := [("f", .str "settles")]) (trs := [(tC (.str "f"), tC (.str "settles"))]) (fun _ _ k => k) (by decide +kernel) (by decide)) (fun Hb eb => ga_cons (dsp (l := [("lt", .str "order")]) (trs := [(tC (.str "lt"), tC (.str "order"))]) (fun _ _ k => k) (by decide +kernel) (by decide)) (fun Hc ec => ga_cons (dsp (l := [("g", .str "swaps"), ("p", .str "both")]) (trs := [(tC (.str "g"), tC (.str "swaps")), (tC (.str "p"), tC (.str "both"))]) (fun _ _ k => k) (by decide +kernel) (by decide)) (fun Hd ed => ga_cons (dsp (l := [("p", .str "order")]) (trs := [(tC (.str "p"), tC (.str "order"))]) (fun _ _ k => k) (by decide +kernel) (by decide)) (fun _ _ => ga_nil) mo1) mo1) mo1) mo1) mo1)
          fun us H' _ ⟨v0, t0, g0, h0, v1, t1, g1, h1, v2, t2, g2, h2, v3, t3, g3, h3, v4, t4, g4, h4, g5⟩ => by
            rw [g0, g1, g2, g3, g4, show t4 = [] from g5]
            exact .cons h0 (.cons h1 (.cons h2 (.cons h3 (.cons h4 .nil)))))
        (fun us Ha Hb e h => paired_imp (fun l v ⟨d, a, b⟩ => ⟨d, a, e _ _ b⟩) h) fun us _ h => by rw [← Paired.length h]; show 5 ≤ 100000; decide) fun v H' _ ⟨p, us, a, _, b, c⟩ => ⟨p, us, a, b, c⟩)
      (fun H' e => ev_op (ev_var rfl) ev_c (rv_ixL (sq_of (e _ _ hr3)) (by rfl))) (fun us H' h => ?_) (fun us Ha Hb e h => paired_imp (fun l v ⟨d, a, b⟩ => ⟨d, a, e _ _ b⟩) h)) fun v H' _ ⟨us, h, hat⟩ => ?_) (fun _ _ => ga_nil) fun v Ha Hb e ⟨d, l, a, b, c⟩ => ⟨d, l, a, b, e _ _ c⟩) fun us H' _ ⟨v, t, g0, ⟨d, l, a, b, c⟩, g1⟩ => ⟨d, l, by rw [g0, a, show t = [] from g1], b, c⟩) (fun us Ha Hb e ⟨d, l, a, b, c⟩ => ⟨d, l, a, b, e _ _ c⟩) (fun us _ ⟨d, l, a, _⟩ => by rw [a]; show 1 ≤ 100000; decide) H3 (Ex.refl _) _ fun v Hk4 H4 fk4 ⟨p5, us5, hp5, _, hp5t, d5, l5, hus5, hl5, hd5⟩ => ?_
    · have hlt : m5 < us.length := by rw [← Paired.length h]; exact hm5
      exact ⟨_, atI_nat (List.getElem?_eq_getElem hlt)⟩
    · have hlt : m5 < us.length := by rw [← Paired.length h]; exact hm5
      rw [atI_nat (List.getElem?_eq_getElem hlt)] at hat
      obtain ⟨l, hl1, _, d, hd1, hd2⟩ := paired_take h (List.getElem?_eq_getElem hlt)
      exact ⟨d, l, by rw [← Option.some.inj hat]; exact hd1, List.mem_of_getElem? hl1, hd2⟩
    subst hp5 hus5
    have s3 := fk3.sub
    have e34 := fk4.cur
    refine ⟨z0, p5, _, _, rfl, rfl, SqT.of (e34 _ _ (s3 _ _ hzt)), SqT.of (fk4.sub _ _ hp5t), (by show 4 + 1 ≤ sizeLine; decide), fun z => (nomatch z), fun _ z => (nomatch z), fun _ _ zz hzz => ?_⟩
    have e4 : Ex H4 (upd H4 zz (.tup ([.ref ac, .ref a1, .ref a2, .ref a3] ++ [.ref d5]))) := Ex.new hzz
    have hzz4 : (upd H4 zz (.tup ([.ref ac, .ref a1, .ref a2, .ref a3] ++ [.ref d5]))) zz = some (.tup [.ref ac, .ref a1, .ref a2, .ref a3, .ref d5]) := upd_same
    have ek : Ex Hk3 (upd H4 zz (.tup ([.ref ac, .ref a1, .ref a2, .ref a3] ++ [.ref d5]))) := (s3.trans e34).trans e4
    have wac := ek _ _ hac
    have w1 := ek _ _ ha1
    have w2 := ek _ _ ha2
    have w3 := ek _ _ ha3
    have w5 := (fk4.sub.trans e4) _ _ hd5
    have wr := (e34.trans e4) _ _ hr3
    have wt := ((e23.trans e34).trans e4) _ _ htb2
    generalize upd H4 zz (.tup ([.ref ac, .ref a1, .ref a2, .ref a3] ++ [.ref d5])) = W at hzz4 wac w1 w2 w3 w5 wr wt ⊢
    obtain ⟨_, _, _, x51, x52, x53⟩ := tfs_ok l5 hl5
    have n12 := ne_dK w1 w2 tf_ne.1
    have n13 := ne_dK w1 w3 tf_ne.2.1
    have n23 := ne_dK w2 w3 tf_ne.2.2
    have n15 := ne_dK w1 w5 (Ne.symm x51)
    have n25 := ne_dK w2 w5 (Ne.symm x52)
    have n35 := ne_dK w3 w5 (Ne.symm x53)
    refine ⟨upd (upd (upd (upd W a1 (dL P w a1 (lfs (tkK tf1)))) a2 (dL P w a2 (lfs (tkK tf2)))) a3 (dL P w a3 (lfs (tkK tf3)))) d5 (dL P w d5 (lfs (tkK l5))), .up w1 (.up ((upd_ne (Ne.symm n12)).trans w2) (.up ((upd_ne (Ne.symm n23)).trans ((upd_ne (Ne.symm n13)).trans w3)) (.up ((upd_ne (Ne.symm n35)).trans ((upd_ne (Ne.symm n25)).trans ((upd_ne (Ne.symm n15)).trans w5))) (.refl _)))), ?_⟩
    have oth : ∀ {b : Addr} {o : HO}, W b = some o → (∀ k, o ≠ .dK k) → upd (upd (upd (upd W a1 (dL P w a1 (lfs (tkK tf1)))) a2 (dL P w a2 (lfs (tkK tf2)))) a3 (dL P w a3 (lfs (tkK tf3)))) d5 (dL P w d5 (lfs (tkK l5))) b = some o := fun h n => by
      rw [upd_ne (ne_oth h w5 (n _)), upd_ne (ne_oth h w3 (n _)), upd_ne (ne_oth h w2 (n _)), upd_ne (ne_oth h w1 (n _))]
      exact h
    have v1 : upd (upd (upd (upd W a1 (dL P w a1 (lfs (tkK tf1)))) a2 (dL P w a2 (lfs (tkK tf2)))) a3 (dL P w a3 (lfs (tkK tf3)))) d5 (dL P w d5 (lfs (tkK l5))) a1 = some (dL P w a1 (tkL tf1)) := by
      rw [upd_ne n15, upd_ne n13, upd_ne n12, upd_same, lfs_tkK]
    have v2 : upd (upd (upd (upd W a1 (dL P w a1 (lfs (tkK tf1)))) a2 (dL P w a2 (lfs (tkK tf2)))) a3 (dL P w a3 (lfs (tkK tf3)))) d5 (dL P w d5 (lfs (tkK l5))) a2 = some (dL P w a2 (tkL tf2)) := by
      rw [upd_ne n25, upd_ne n23, upd_same, lfs_tkK]
    have v3 : upd (upd (upd (upd W a1 (dL P w a1 (lfs (tkK tf1)))) a2 (dL P w a2 (lfs (tkK tf2)))) a3 (dL P w a3 (lfs (tkK tf3)))) d5 (dL P w d5 (lfs (tkK l5))) a3 = some (dL P w a3 (tkL tf3)) := by
      rw [upd_ne n35, upd_same, lfs_tkK]
    have v5 : upd (upd (upd (upd W a1 (dL P w a1 (lfs (tkK tf1)))) a2 (dL P w a2 (lfs (tkK tf2)))) a3 (dL P w a3 (lfs (tkK tf3)))) d5 (dL P w d5 (lfs (tkK l5))) d5 = some (dL P w d5 (tkL l5)) := by
      rw [upd_same, lfs_tkK]
    have vac := oth wac fun _ z => nomatch z
    have vz := oth hzz4 fun _ z => nomatch z
    have vr := oth wr fun _ z => nomatch z
    have vt := oth wt fun _ z => nomatch z
    have A0 := parts_first (K := K) vac v1 v2 v3 v5 n12 n13 n15 n23 n25 n35 hl5
    generalize upd (upd (upd (upd W a1 (dL P w a1 (lfs (tkK tf1)))) a2 (dL P w a2 (lfs (tkK tf2)))) a3 (dL P w a3 (lfs (tkK tf3)))) d5 (dL P w d5 (lfs (tkK l5))) = V0 at A0 vz vr vt ⊢
    clear oth v1 v2 v3 v5 vac
    have ixr : ∀ {Hq : Hp} {i : Int} {v : V} {σ : L2.St} {ti : TE}, Hq pr = some (.lst ([r0, (m1 : Int), (m2 : Int), (m3 : Int), (m4 : Int), (m5 : Int)].map V.int)) → σ[1]? = some (some (.ref pr)) → Ev ti σ Hq (.int i) → atI ([r0, (m1 : Int), (m2 : Int), (m3 : Int), (m4 : Int), (m5 : Int)].map V.int) i = some v → Ev (tOp (rIxL K) (tVar 1) ti) σ Hq v := fun h hσ hi ha => ev_op (ev_var hσ) hi (rv_ixL (sq_of h) ha)
    /- spoilt so often -/
    refine q_forR1 (n := if (2 : Int) < r0 then 2 else r0) (ea_cons (ev_cb (ea_cons (ixr vr rfl ev_c rfl) (ea_cons ev_c ea_nil)) fun H1 _ Q1 k1 => ⟨r0, 2, rfl, k1 H1 (Ex.refl H1)⟩) ea_nil) ?_ (fun i σ Hc => i ≤ 2 ∧ Hc pr = some (.lst ([r0, (m1 : Int), (m2 : Int), (m3 : Int), (m4 : Int), (m5 : Int)].map V.int)) ∧ Hc (tabP K) = some (.tbl #[]) ∧ ∃ z x c0 q1 q2 q3 q5 cs k1 k2 k3 k5, σ = [some (.ref l), some (.ref pr), some (.ref z), x, none] ∧ SqT K Hc z [.ref c0, .ref q1, .ref q2, .ref q3, .ref q5] ∧ PartsAt K P w i Hc c0 q1 q2 q3 q5 cs k1 k2 k3 k5) ?_ ?_ ?_
    · have := b0.1
      split <;> omega
    · exact fun H1 e1 => ⟨Nat.zero_le _, e1 _ _ vr, e1 _ _ vt, zz, _, ac, a1, a2, a3, d5, _, _, _, _, _, rfl, ex_t e1 (SqT.of vz), A0.sty (Sty.of e1)⟩
    · rintro i σ Hc hi ⟨hi2, hcr, hct, z, x, c0, q1, q2, q3, q5, cs, k1, k2, k3, k5, rfl, hz, A⟩
      have hi3 : i < 2 := turn_lt hi
      obtain ⟨wv, dv, hw1, hw2⟩ := at_turn r0 m1 m2 m3 m4 m5 hi3
      refine q_lastAsg (vs := [.ref z, .int (wv : Nat), .int (dv : Nat)]) (ea_cons (ev_var rfl) (ea_cons (ixr hcr rfl (ev_op ev_c (ev_op ev_c (ev_var rfl) (rv_I (by unfold CMul; omega))) rv_I0) hw1) (ea_cons (ixr hcr rfl (ev_op ev_c (ev_op ev_c (ev_var rfl) (rv_I (by unfold CMul; omega))) rv_I0) hw2) ea_nil))) fun H2 e2 => ⟨z, wv, dv, i, c0, q1, q2, q3, q5, cs, k1, k2, k3, k5, rfl, by omega, ex_t e2 hz, A.sty (Sty.of e2), fun p c0' q1' q2' q3' q5' cs' k1' k2' k3' k5' H3 e3 hp A' => ?_⟩
      exact ⟨by omega, (e2.trans e3) _ _ hcr, (e2.trans e3) _ _ hct, p, _, c0', q1', q2', q3', q5', cs', k1', k2', k3', k5', rfl, SqT.of hp, A'⟩
    rintro σ Hc ⟨hi2, hcr, hct, z, x, c0, q1, q2, q3, q5, cs, k1, k2, k3, k5, rfl, hz, A⟩
    generalize (if (2 : Int) < r0 then 2 else r0).toNat = n at hi2 A
    /- told -/
    refine q_asgR ⟨fun p hp => by rw [List.mem_singleton.mp hp]; exact .nil hct, fun H5 eN T5 => ?_⟩
    have sN : Sty P w Hc H5 := Sty.ofN eN
    have A5 := A.sty sN
    have hz5 := sN.st hz
    have rest : ∀ {tv : V} {Hx : Hp}, Ex H5 Hx → ((dueP cs k1 k2 k3 k5 = none ∧ tv = .non) ∨ ∃ m v u p, dueP cs k1 k2 k3 k5 = some (m, v) ∧ Sim v u ∧ tv = .ref p ∧ Hx p = some (.tup [.str (wordOf m), u])) → tRet (tOp (rEqD K) (tVar 4) (tCall (spDue K P w) [] E0 (tCons (tVar 2) tNil))) { nx := fun _ H' => Q .non H', rt := Q } [some (.ref l), some (.ref pr), some (.ref z), x, some tv] Hx := by
      intro tv Hx ex ht
      have Ax := A5.sty (Sty.of ex)
      refine ⟨tv, rfl, .ref z, rfl, z, c0, q1, q2, q3, q5, cs, k1, k2, k3, k5, rfl, ex_t ex hz5, Ax.a, Ax.l, Ax.so, Ax.o1, Ax.o2, Ax.o3, fun hd H2 e2 => ?_, fun m v u p H2 hd hs hp e2 h2 => ?_⟩
      · rcases ht with ⟨_, rfl⟩ | ⟨m, v, u, p, hd', _⟩
        · exact rv_eqD (K := K) .non .non (by decide) (by decide) H2 (Ex.refl H2) _ fun H3 _ => q H3
        · rw [hd] at hd'
          cases hd'
      · rcases ht with ⟨hd', _⟩ | ⟨m', v', u', p', hd', hs', rfl, hp'⟩
        · rw [hd] at hd'
          cases hd'
        · rw [hd] at hd'
          cases hd'
          obtain ⟨hm, hv⟩ := due_dat ((Ax.sty (Sty.of e2))) hd
          obtain ⟨d, e, x1, x2, x3, x4, x5, x6, x7⟩ := sim_dat hv hs' hs
          have hw : PyData.strOk (wordOf m) = true := by
            unfold wordOf
            split
            · decide +kernel
            · split <;> decide +kernel
          have sh : ∀ {d : PyData}, d.canLay0 = true → d.depth ≤ n → SeqAt.shaped (.tuple [.str (wordOf m), d]) = true := fun {d} h1 h2 => by
            refine tup_shaped ?_ ?_
            · rw [PyData.canLayAll0, PyData.canLayAll0, PyData.canLayAll0, PyData.canLay0, hw, h1]
              rfl
            · rw [PyData.depthAll, PyData.depthAll, PyData.depthAll, PyData.depth]
              omega
          refine rv_eqD (K := K) (d := .tuple [.str (wordOf m), d]) (e := .tuple [.str (wordOf m), e]) (.tup (SqT.of (e2 _ _ hp')) (.cons (.str _) (.cons x1 .nil))) (.tup (SqT.of h2) (.cons (.str _) (.cons x2 .nil))) (sh x3 x5) (sh x4 x6) H2 (Ex.refl H2) _ fun H3 _ => ?_
          have : PyData.eqv (.tuple [.str (wordOf m), d]) (.tuple [.str (wordOf m), e]) = true := by
            show PyData.eqvAll [.str (wordOf m), d] [.str (wordOf m), e] = true
            rw [PyData.eqvAll, PyData.eqvAll, x7, eqv_self (.str (wordOf m)) hw]
            rfl
          rw [this]
          exact q H3
    have ix5 : ∀ {Hq : Hp} {i : Int} {v : V}, Ex H5 Hq → atI [V.ref c0, .ref q1, .ref q2, .ref q3, .ref q5] i = some v → Ev (tOp (rIxT K) (tVar 2) (tC (.int i))) [some (.ref l), some (.ref pr), some (.ref z), x, none] Hq v := fun e ha => ev_op (ev_var rfl) ev_c (rv_ixT (ex_t e hz5) ha)
    unfold TTmet
    refine make_go (vs := [.ref c0, .ref q1, .ref q2, .ref q3, .ref q5]) (ea_cons (ix5 (Ex.refl _) rfl) (ea_cons (ix5 (Ex.refl _) rfl) (ea_cons (ix5 (Ex.refl _) rfl) (ea_cons (ix5 (Ex.refl _) rfl) (ea_cons (ix5 (Ex.refl _) rfl) ea_nil))))) fun H6 e6 xx dx hxx hdx hne => ?_
    have A6 := A5.sty (Sty.of e6)
    refine ⟨xx, dx, H6, c0, q1, q2, q3, q5, _, _, cs, k1, k2, k3, k5, rfl, rfl, hxx, hdx, hne, A6.a, empty_sq T.e5 H6, empty_sq T.e6 H6, fun hd H7 e7 => ⟨rfl, rest (e6.trans e7) (.inl ⟨hd, rfl⟩)⟩, fun m v u hd hs dd H7 hdd e7 hx7 => ?_⟩
    obtain ⟨hm, _⟩ := due_dat A6 hd
    exact ⟨m, u, dd, hm, rfl, rfl, hx7, fun p hp => rest ((e6.trans e7).trans (Ex.new hp)) (.inr ⟨m, v, u, p, hd, hs, rfl, upd_same⟩)⟩
end
end K3
namespace K3
open PySem PySem.Spec PyProof.Rows L2 Evl
/-- the end: the written part, the tables and the promise told by what the head tells -/
theorem walk_tabs {lw : PySem.W.OpenLaw} {most lev : Nat} {qq : Program} {ls : List Str} {XP : (Str → Option Value) → Heap → Prop} {YP : World → Heap → Prop} {dr : DefRec} {CX : CXT} {par : Str} (h1 : lw.most = some most) (h2 : most ≤ sizeLine) (h3 : dr.params.defaults = []) (h4 : Room lev callerA)
    (told : ∀ (w : World) (mg : Str → Option Value) (at_ : Addr) (g : Heap), YP w g → g.Ns mainGlobals mg → mg dr.name = some (.ref at_) → ∃ (K : PySem.W.Frag) (fd : FuncData) (cs : List (Addr × Addr)) (sp : Sp), K.In g ∧ (∀ p ∈ cs, g.get? p.2 = some { cls := .none, data := .fields #[] }) ∧ (∀ p ∈ cs, K.lookup p.2 = none) ∧ (∀ p ∈ cs, PySem.W.CodeHd g p.1 p.2) ∧
      (∀ (s : Shared) (u : Value), BindsTo s fd ⟨[u], []⟩ [(par, u)]) ∧ (∀ (H : Hp) (b : Addr) (zs : List Int), zs.length ≤ most → (∀ p ∈ cs, H p.2 = some (.tbl #[])) → SqL K H b (zs.map V.int) → sp [.ref b] H (fun v _ => v = .bl true) fun _ _ _ => False) ∧
      ∀ bs : Heap, K.In bs → bs.Ns mainGlobals mg → (∀ p ∈ cs, LamX.TabB bs mg p.1 p.2) → FnOk lw.prog w K mg bs CX lev at_ fd [par] sp)
    (h5 : ∀ (H : Hp) (s : Shared) (e : Value) (t : Shared), CX [] H s (fun _ _ _ => False) e t → False) : PySem.W.WalkO qq ls XP YP lw.row.toRowW dr [] (fun f vs => PySem.call f vs) := by
  apply Att.attach_callB h1 h3
  intro w s0 s1 mg mb at_ ob pm cd doc b vs zs G Y _ _ _ hat hlst hint hlen _ hgen
  obtain ⟨K, fd, cs, sp, kin, t1, t2, t3, bnd, prm, ok⟩ := told w mg at_ _ Y G.T.g hat
  exact LamX.law_callTs kin G.T.g G.T.b G.T.builtins G.T.nolimit hgen t1 t2 t3 G.T.bmain hlst hint (Nat.le_trans hlen h2) h4 ok bnd (fun H hH hS => prm H b zs hlen hH hS) fun H e t => h5 H s1 e t
theorem all_facts {P : Program} {w : World} {K : PySem.W.Frag} {h : Heap} {mg : Str → Option Value} {f : Addr} (X : K.In h) (G : h.Ns mainGlobals mg) (hfa : mg ("law" : Str) = some (.ref f))
    (c : He.SaysX fa fn [] tf exB w h K) : ∃ fd : FuncData, (∀ (s : Shared) (v : Value), BindsTo s fd ⟨[v], []⟩ [("_law_script", v)]) ∧ ∀ base : Heap, K.In base → base.Ns mainGlobals mg → (∀ p ∈ [He.cT K ("law", none)], LamX.TabB base mg p.1 p.2) → FnOk P w K mg base CX0 10 f fd ["_law_script"] (spLaw K) := by
  have cd : He.SaysD fa fn K := congrArg (fun z : He.AlT => z.1) c.t
  have T : Tx K mg := ⟨cd, c.more, h, X, G⟩
  have e := hfa.symm.trans (T.gl 26 rfl)
  cases e
  obtain ⟨fd, F⟩ := T.d.def_ 17 (d := d_law) rfl
  exact ⟨fd, law_binds F, fun base _ _ tb => ok_law (base := base) T (tb _ (List.mem_cons_self ..)) F⟩
end K3
open PySem PySem.W PySem.Calls PyProof.Rows
theorem PySem.Challenge.cw_unknowncalls_k03_names_refused_holds : PySem.Challenge.rw_unknowncalls_k03_names_refused.Holds := by
  w_on; o_law
  refine HandSHeadRun.head_any (r := OpenLaw.row PySem.Challenge.rw_unknowncalls_k03_names_refused) (q := view (OpenLaw.row PySem.Challenge.rw_unknowncalls_k03_names_refused).prog [37]) (H := K3.hk) (ob := K3.ob) (M := 12000) (loose := K3.loose) (d := HandSHeadRun.topDef (OpenLaw.row PySem.Challenge.rw_unknowncalls_k03_names_refused).prog 37) (kwd := []) K3.ob_eq
    (by kernel_rfl) (fun s => by kernel_rfl) K3.run (by kernel_rfl) (by kernel_rfl) (by kernel_rfl) (by rfl) (by first | assumption | decide +kernel) (by decide +kernel) ⟨rfl, rfl, rfl, rfl, rfl, by decide +kernel⟩ ?hw ?hc
  case hw => w_witness2
  case hc =>
    refine K3.walk_tabs (lw := PySem.Challenge.rw_unknowncalls_k03_names_refused) (most := 63) (lev := 10) (par := "_law_script") (CX := L2.CX0) rfl (by decide) (by kernel_rfl) ⟨rfl, by decide, by decide⟩ ?F (fun _ _ _ _ z => z)
    intro w mg fa h Y G hmg0
    obtain ⟨K, KX, c⟩ := Y
    have hmg : mg ("law" : PySem.Str) = some (.ref fa) := by
      have e : (HandSHeadRun.topDef (OpenLaw.row PySem.Challenge.rw_unknowncalls_k03_names_refused).prog 37).name = ("law" : PySem.Str) := by kernel_rfl
      rw [← e]
      exact hmg0
    obtain ⟨fd, hb, hF⟩ := K3.all_facts (P := (PySem.Challenge.rw_unknowncalls_k03_names_refused).prog) (w := w) KX G hmg c
    have inT : (("law", none) : He.Defn) ∈ K3.tf := List.mem_cons_self ..
    exact ⟨K, fd, [He.cT K ("law", none)], K3.spLaw K, KX, fun p hp => by rw [List.mem_singleton.mp hp]; exact c.empty _ inT, fun p hp => by rw [List.mem_singleton.mp hp]; exact c.out _ inT, fun p hp => by rw [List.mem_singleton.mp hp]; exact PySem.W.codeHd_of_K KX (c.hd _ inT), hb,
      fun H a ns hl hT hS => ⟨a, ns, rfl, Nat.le_trans hl (by decide), hS, hT _ (List.mem_cons_self ..), fun _ => rfl⟩, hF⟩
