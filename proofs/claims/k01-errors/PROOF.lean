import PyProof.Rows.All
import Wide.All
import OpenK.AllK
import Wide.FinOn
import KE.KExcIs
import HandS.ForExc
import HandS.ExcInit
import HandS.ExcField
import HandS.ExcValue
import HandS.ExcIs
import HandS.IsInst
import HandS.Evl
import HandS.HeadHook4
import KE.KStateDown
import Lean
import HandS.ForMost
import HandS.Head0
import HandS.Head1
import HandS.Head2
import HandS.HeadEnd
import HandS.SetFor
import PySem.Challenge.RW_unknowncalls_k01_errors
set_option Elab.async false
set_option linter.all false
set_option maxRecDepth 100000
set_option maxHeartbeats 0
/-! Exceptions of the program's own as values: made by a call, their attributes read, asked by isinstance. -/
namespace KV
open PySem PySem.Spec PyProof.Rows L2 Evl

/-- an exception of the class at C that has the attributes fs -/
def IsEx (H : Hp) (a C : Addr) (fs : List (Str × V)) : Prop :=
  (fs = [] ∧ H a = some (exo a C none)) ∨ ∃ d, H a = some (exo a C (some d)) ∧ H d = some (exd d fs)
theorem IsEx.ex {H H' : Hp} {a C : Addr} {fs : List (Str × V)} (e : Ex H H') (h : IsEx H a C fs) : IsEx H' a C fs := by
  rcases h with ⟨z, h⟩ | ⟨d, h1, h2⟩
  · exact .inl ⟨z, e _ _ h⟩
  · exact .inr ⟨d, e _ _ h1, e _ _ h2⟩

/-- C(..) of a class with its own __init__: the new exception is tracked -/
def tNewE (C : Addr) (sp : Sp) (ta : TA) : TE := fun σ H Q =>
  ta σ H fun vs H1 => vs.length ≤ 1000 ∧ ∀ a, H1 a = none →
    sp (.ref a :: vs) (upd H1 a (exo a C none)) (fun v H2 => v = .non ∧ Q (.ref a) H2) (fun _ _ _ => False)
section
variable {X : Cx} {e : Expr} {es : List Expr} {ta te : TE} {t : TA} {x f : Str} {p pos : Pos} {C fI : Addr} {k : Nat} {fd : FuncData} {ps : List Str} {sp : Sp}
theorem pe_newE (T : OexC X.K C) (iC : PySem.W.findIn X.K (.ref C) "__init__" = some (some (.ref fI)))
    (tI : PySem.W.typeIn X.K (.ref fI) = some (.type "function"))
    (F1 : FnOk X.prog X.w X.K X.mg X.base CX0 k fI fd ps sp) (hr : Room (k + 1) X.A) (hb : Binds X.K fd ps [])
    (hg : Gl X x) (hm : X.mg x = some (.ref C)) (ha : PA X (e :: es) t)
    (hdb : (x == ("__debug__" : Str)) = false := by decide)
    (he : starEach (e :: es) X.env = (false, eval e X.env) :: starEach es X.env := by rfl)
    (hpl : (backTo pos (starEach es X.env)).any (·.1) = false := by rfl) :
    PE X (.Call (.Name x p) (e :: es) [] pos) (tNewE C sp t) := by
  constructor
  intro pins s σ H Q I h
  obtain ⟨c1, c2, c3, c4, bm, c6, c7, c8, c9, c10, k0, k1, k2, k3, k5, hC, hbm⟩ := T.cls
  refine wpAny_Call_Name_kw (ld_glob I hg hm ?_ hdb)
  refine PySem.W.callWith_K (h₀ := X.base) I.ok.mod.kin T.kC (thn (ha.run pos pins s σ H _ I h) ?_) he hpl
  rintro us ⟨hp, g, dr, tk, os⟩ ⟨vs, H1, I1, r1, hz, q1⟩
  refine ⟨I1.kIn, ?_⟩
  have hn : H1 (hp.objs.size + 1) = none := I1.hok.fresh (Nat.le_succ _)
  have q2 := q1 (hp.objs.size + 1) hn
  have old : ∀ b o, hp.get? b = some o →
      ((hp.push (PySem.W.kdv_tup us)).push (PySem.HandSPX.excO C hp.objs.size)).get? b = some o :=
    fun b o z => Heap.get?_push_of_some _ (Heap.get?_push_of_some _ z)
  have there : ((hp.push (PySem.W.kdv_tup us)).push (PySem.HandSPX.excO C hp.objs.size)).get? (hp.objs.size + 1)
      = some (PySem.HandSPX.excO C hp.objs.size) := by heap_get
  have I2 := I1.laid (t' := tk) (a := hp.objs.size + 1) (o := exo (hp.objs.size + 1) C none)
    (h' := (hp.push (PySem.W.kdv_tup us)).push (PySem.HandSPX.excO C hp.objs.size)) old (Nat.le_succ _) (exo_ok there)
  have r2 : Vals (V.ref (hp.objs.size + 1) :: vs) (Value.ref (hp.objs.size + 1) :: us) := .cons rfl r1
  have hl : (Value.ref (hp.objs.size + 1) :: us ++ []).length = ps.length := by
    rw [List.append_nil, ← r2.length]
    exact F1.len _ _ _ _ q2
  have r3 : Vals (V.ref (hp.objs.size + 1) :: vs) (Value.ref (hp.objs.size + 1) :: us ++ []) := by
    rw [List.append_nil]
    exact r2
  have hus : us.length ≤ sizeLine := by
    rw [← r1.length, sizeLine_eq]
    omega
  refine wpAny_call (PySem.HandSPX.call_own F.excBase_ValueError (fun Y => PySem.HandSPX.refsVE_contains Y bm hbm)
    (I1.kIn _ _ hC) (PySem.W.looks_findIn I1.kIn iC) (fun self => PySem.W.bind_fn I1.kIn self tI) hus ?_)
  refine codeAny_mono (F1.run _ X.stack _ _ ⟨Value.ref (hp.objs.size + 1) :: us, []⟩ _ _ _ _ (hr.make C us [])
    (I2.env0.make C us []) (hb _ (Value.ref (hp.objs.size + 1) :: us) I2.kIn hl) r3 q2) ?_
  intro r s' hq
  match r, hq with
  | .error e, hq => exact hq.elim
  | .ok (.ret u), hq =>
    obtain ⟨v, H', I3, rv, ev, q3⟩ := I2.after hq
    subst ev
    exact ⟨rv, V.ref (hp.objs.size + 1), H', I3, rfl, q3⟩
  | .ok .next, hq => exact False.elim hq
  | .ok .brk, hq => exact False.elim hq
  | .ok .cont, hq => exact False.elim hq
/-- C() of a class without an own __init__ -/
theorem pe_newE0 (q : PySem.W.excIn X.K C He.veBase "ValueError.__new__" = true) (kC : PySem.W.keepIn X.K (.ref C) = true)
    (hg : Gl X x) (hm : X.mg x = some (.ref C)) (hdb : (x == ("__debug__" : Str)) = false := by decide) :
    PE X (.Call (.Name x p) [] [] pos) (fun _ H Q => ∀ a, H a = none → Q (.ref a) (upd H a (exo a C none))) := by
  constructor
  intro pins s σ H Q I h
  refine wpAny_Call_Name_kw (ld_glob I hg hm ?_ hdb)
  refine PySem.W.callWith_K0 I.kIn kC ?_
  obtain ⟨bm, N, c1, c2, c3, c4, c5, c6, c7, c8, c9, k0, k1, k2, k3, k5, mN, hC, hN, hni, T⟩ := exc_obj I.kIn q
  refine wpAny_call_exc_subT F.excBase_ValueError T hC hN hni (fun h' a hm => ?_) (by show 0 ≤ sizeLine; omega)
  have hn : H a = none := I.hok.gone hm.new
  obtain ⟨t, ht, _, _⟩ := hm.there
  exact ⟨.ref a, upd H a (exo a C none), I.laidN hm.keeps hm.new hn (exo_ok ht), rfl, h a hn⟩

/-! ### attributes -/
def tFldE (C : Addr) (f : Str) (te : TE) : TE := fun σ H Q => te σ H fun y H1 =>
  ∃ a d fs v, y = .ref a ∧ H1 a = some (exo a C (some d)) ∧ H1 d = some (exd d fs) ∧ fs.lookup f = some v ∧ Q v H1
theorem pe_fldE (T : XfC X.K C) (hno : PySem.W.findIn X.K (.ref C) f = some none) (he : PE X e te)
    (hb : attributeBase e f X.env (eval e X.env) = eval e X.env := by rfl) :
    PE X (.Attribute e f pos) (tFldE C f te) := by
  constructor
  intro pins s σ H Q I h
  refine attr_of hb (thn (he.run pins s σ H _ I h) ?_)
  rintro u s1 ⟨y, H1, I1, ry, a, d, fs, v, ey, ea, ed, l, q⟩
  subst ey
  cases (show u = Value.ref a from ry)
  obtain ⟨t0, ha⟩ := exo_at I1.hok ea
  obtain ⟨mA, hns, hr⟩ := exd_at I1.hok ed
  obtain ⟨od, ho, hl⟩ := lookIn_ns hns
  have hrf := hr f
  rw [l] at hrf
  obtain ⟨u, hu, ru⟩ := RelO.some_of hrf
  have J : PySem.W.InstAt s1.heap a _ C (some od) := ⟨ha, rfl, rfl, ho⟩
  exact HandSPX.exc_get I1.kIn J T.ga T.gg T.exC (PySem.W.findObj_own T.hdC hno rfl (by rw [hl, hu])) (handed_of ru)
    ⟨v, H1, I1.tok _, ru, q⟩

/-! ### isinstance -/
theorem kit_ex {pins : List (Addr × Obj)} {σ : L2.St} {H : Hp} {s : Shared} {a : Addr} {fs : List (Str × V)} (G : L2.ExcC X.K C) (I : Inv X pins σ H s)
    (h : IsEx H a C fs) : ∃ R : Heap → Prop, PySem.W.KitX X.K (.ref a) (.ref C) R ∧ R s.heap := by
  have hc : (PySem.W.clsIn X.K C).isSome = true := by
    obtain ⟨cd, z, _⟩ := PySem.W.any_some G.hd
    rw [z]
    rfl
  have hkt {oe : Obj} {od : Option Obj} := PySem.W.kitx_exc (x := a) (ox := oe) (od := od) hc G.hg G.hk G.hs G.ha G.hn G.ht G.hm
  rcases h with ⟨_, h1⟩ | ⟨d, h1, h2⟩
  · obtain ⟨t0, z⟩ := exo_at I.hok h1
    exact ⟨_, hkt (od := none), ⟨z, rfl, rfl, trivial⟩⟩
  · obtain ⟨t0, z⟩ := exo_at I.hok h1
    obtain ⟨mA, hns, _⟩ := exd_at I.hok h2
    obtain ⟨od, ho, _⟩ := lookIn_ns hns
    exact ⟨_, hkt (od := some od), ⟨z, rfl, rfl, ho⟩⟩
def rIsX (K : PySem.W.Frag) : List V → Hp → VK → Prop := fun xs H Q => ∃ (a C : Addr) (fs : List (Str × V)) (c : V) (u : Value) (b : Bool),
  xs = [.ref a, c] ∧ IsEx H a C fs ∧ L2.ExcC K C ∧ ClsV c u ∧ PySem.W.kitOne K (.ref C) u = some b ∧ Q (.bl b) H
def rIsXT (K : PySem.W.Frag) : List V → Hp → VK → Prop := fun xs H Q => ∃ (a C tp : Addr) (fs : List (Str × V)) (cs : List V) (us : List Value) (b : Bool),
  xs = [.ref a, .ref tp] ∧ IsEx H a C fs ∧ L2.ExcC K C ∧ H tp = some (.tup cs) ∧ Paired ClsV cs us ∧ PySem.W.kitAny K (.ref C) us = some b ∧ Q (.bl b) H
theorem call_isX : CallR X (.builtin "isinstance") (rIsX X.K) := by
  rintro pins s σ H xs us Q I r ⟨a, C, fs, c, u, b, rfl, hx, G, k, e, q⟩
  obtain ⟨u1, u2, rfl, r1, r2⟩ := vals2 r
  cases (show u1 = Value.ref a from r1)
  cases k.eq r2
  obtain ⟨R, Z, z⟩ := kit_ex G I hx
  exact PySem.W.kia_one Z I.kIn z e (fun z => nomatch z) fun tk => ⟨.bl b, H, I.tok tk, rfl, q⟩
theorem call_isXT : CallR X (.builtin "isinstance") (rIsXT X.K) := by
  rintro pins s σ H xs us Q I r ⟨a, C, tp, fs, cs, ws, b, rfl, hx, G, hT, k, e, q⟩
  obtain ⟨u1, u2, rfl, r1, r2⟩ := vals2 r
  cases (show u1 = Value.ref a from r1)
  cases (show u2 = Value.ref tp from r2)
  obtain ⟨R, Z, z⟩ := kit_ex G I hx
  obtain ⟨_, its, rv, o, h1, h2, n, h3⟩ := (show ObjOk X.prog X.w H s.heap tp (.tup cs) from I.hok tp _ hT)
  cases ClsV.all k rv
  obtain ⟨oc, od, dt, sl⟩ := o
  simp only at h2 h3
  subst h2 h3
  exact PySem.W.kia_tup Z I.kIn z h1 e (fun z => nomatch z) fun tk => ⟨.bl b, H, I.tok tk, rfl, q⟩
end

/-! ### __init__ that stores its parameters -/
/-- what self.f = v does to an exception that has the attributes fs -/
def spIni1 (K : PySem.W.Frag) (C : Addr) (f : Str) : Sp := fun vs H Q _ => ∃ (a : Addr) (v : V), vs = [.ref a, v] ∧ H a = some (exo a C none) ∧
  ∀ H2, (∀ b o, b ≠ a → H b = some o → H2 b = some o) → IsEx H2 a C [(f, v)] → Q .non H2
def spIni2 (K : PySem.W.Frag) (C : Addr) (f g : Str) : Sp := fun vs H Q _ => ∃ (a : Addr) (v u : V), vs = [.ref a, v, u] ∧ H a = some (exo a C none) ∧
  ∀ H2, (∀ b o, b ≠ a → H b = some o → H2 b = some o) → IsEx H2 a C [(g, u), (f, v)] → Q .non H2
def spIni3 (K : PySem.W.Frag) (C : Addr) (f g i : Str) : Sp := fun vs H Q _ => ∃ (a : Addr) (v u z : V), vs = [.ref a, v, u, z] ∧ H a = some (exo a C none) ∧
  ∀ H2, (∀ b o, b ≠ a → H b = some o → H2 b = some o) → IsEx H2 a C [(i, z), (g, u), (f, v)] → Q .non H2
theorem ini1_run {K : PySem.W.Frag} {C : Addr} {f : Str} {N : List Str} (T : OexC K C) (hno : PySem.W.findIn K (.ref C) f = some none) {vs : List V} {H : Hp} {Q : VK} {E : XK}
    (h : spIni1 K C f vs H Q E) (h0 : ∀ a v, start N [.ref a, v] = [some (.ref a), some v]) : tOst K f (tVar 0) (tVar 1) { nx := fun _ H' => Q .non H', rt := Q } (start N vs) H := by
  obtain ⟨a, v, rfl, ha, k⟩ := h
  rw [h0]
  refine ⟨v, rfl, .ref a, rfl, a, C, rfl, T, hno, .inl ⟨ha, fun dx hn ne => k _ (fun b o nb hb => ?_) (.inr ⟨dx, upd_same, ?_⟩)⟩⟩
  · rw [upd_ne nb, upd_ne (ne_of_none hb hn)]
    exact hb
  · rw [upd_ne ne]
    exact upd_same
theorem ini2_run {K : PySem.W.Frag} {C : Addr} {f g : Str} {N : List Str} (T : OexC K C) (n1 : PySem.W.findIn K (.ref C) f = some none) (n2 : PySem.W.findIn K (.ref C) g = some none) {vs : List V} {H : Hp} {Q : VK} {E : XK}
    (h : spIni2 K C f g vs H Q E) (h0 : ∀ a v u, start N [.ref a, v, u] = [some (.ref a), some v, some u]) :
    tSeq (tOst K f (tVar 0) (tVar 1)) (tOst K g (tVar 0) (tVar 2)) { nx := fun _ H' => Q .non H', rt := Q } (start N vs) H := by
  obtain ⟨a, v, u, rfl, ha, k⟩ := h
  rw [h0]
  refine ⟨v, rfl, .ref a, rfl, a, C, rfl, T, n1, .inl ⟨ha, fun dx hn ne => ?_⟩⟩
  refine ⟨u, rfl, .ref a, rfl, a, C, rfl, T, n2, .inr ⟨dx, [(f, v)], upd_same, (upd_ne ne).trans upd_same, by simp, ?_⟩⟩
  refine k _ (fun b o nb hb => ?_) (.inr ⟨dx, (upd_ne (Ne.symm ne)).trans upd_same, upd_same⟩)
  have hbd := ne_of_none hb hn
  rw [upd_ne hbd, upd_ne nb, upd_ne hbd]
  exact hb
theorem ini3_run {K : PySem.W.Frag} {C : Addr} {f g i : Str} {N : List Str} (T : OexC K C) (n1 : PySem.W.findIn K (.ref C) f = some none) (n2 : PySem.W.findIn K (.ref C) g = some none) (n3 : PySem.W.findIn K (.ref C) i = some none) {vs : List V} {H : Hp} {Q : VK} {E : XK}
    (h : spIni3 K C f g i vs H Q E) (h0 : ∀ a v u z, start N [.ref a, v, u, z] = [some (.ref a), some v, some u, some z]) :
    tSeq (tOst K f (tVar 0) (tVar 1)) (tSeq (tOst K g (tVar 0) (tVar 2)) (tOst K i (tVar 0) (tVar 3))) { nx := fun _ H' => Q .non H', rt := Q } (start N vs) H := by
  obtain ⟨a, v, u, z, rfl, ha, k⟩ := h
  rw [h0]
  refine ⟨v, rfl, .ref a, rfl, a, C, rfl, T, n1, .inl ⟨ha, fun dx hn ne => ?_⟩⟩
  have na : ∀ {H0 : Hp} {o : HO}, upd (upd H0 a (exo a C (some dx))) dx o a = some (exo a C (some dx)) := (upd_ne (Ne.symm ne)).trans upd_same
  refine ⟨u, rfl, .ref a, rfl, a, C, rfl, T, n2, .inr ⟨dx, [(f, v)], upd_same, (upd_ne ne).trans upd_same, by simp, ?_⟩⟩
  refine ⟨z, rfl, .ref a, rfl, a, C, rfl, T, n3, .inr ⟨dx, [(g, u), (f, v)], na, upd_same, by simp, ?_⟩⟩
  refine k _ (fun b o nb hb => ?_) (.inr ⟨dx, (upd_ne (Ne.symm ne)).trans na, upd_same⟩)
  have hbd := ne_of_none hb hn
  rw [upd_ne hbd, upd_ne hbd, upd_ne nb, upd_ne hbd]
  exact hb

/-! ### what the head tells of a class -/
def oexB (K : PySem.W.Frag) (C : Addr) : Bool :=
  (match K.lookup C with
    | some ⟨.type t, _, .cls cd, sl⟩ => decide (t = "type") && (cd.hasDict && (!cd.hasDel && ((match cd.mro with
        | .ref c :: bm => decide (c = C) && PySem.HandSPX.refsVE bm
        | _ => false) && (match sl.toList with
        | [_, _, _, _, some (.builtin n), _] => decide (n = "ValueError.__new__")
        | _ => false))))
    | _ => false) && (decide (PySem.W.findIn K (.ref C) "__setattr__" = some (some (.builtin "object.__setattr__"))) &&
  (decide (PySem.W.subIn K (.ref C) (.type "BaseException") = some true) && (decide (PySem.W.typeIn K (.ref C) = some (.type "type")) && PySem.W.keepIn K (.ref C))))
theorem oexB_ok {K : PySem.W.Frag} {C : Addr} (h : oexB K C = true) : OexC K C := by
  obtain ⟨h0, h⟩ := He.ba h
  obtain ⟨h1, h⟩ := He.ba h
  obtain ⟨h2, h⟩ := He.ba h
  obtain ⟨h3, h4⟩ := He.ba h
  refine ⟨?_, of_decide_eq_true h1, of_decide_eq_true h2, of_decide_eq_true h3, h4⟩
  split at h0
  · rename_i t dd cd sl hl
    obtain ⟨g1, h0⟩ := He.ba h0
    obtain ⟨g2, h0⟩ := He.ba h0
    obtain ⟨g3, h0⟩ := He.ba h0
    obtain ⟨g4, g5⟩ := He.ba h0
    obtain ⟨nm, bs, mro, ns, qn, hd, sn, sub, ab, col, del⟩ := cd
    obtain ⟨sl⟩ := sl
    split at g4
    · rename_i c bm e1
      obtain ⟨g6, g7⟩ := He.ba g4
      split at g5
      · rename_i k0 k1 k2 k3 n k5 e2
        have e3 := of_decide_eq_true g1
        have e4 := of_decide_eq_true g6
        have e5 := of_decide_eq_true g5
        have e6 : del = false := by simpa using g3
        have e7 : hd = true := g2
        dsimp only at e1 e2
        subst e1 e2 e3 e4 e5 e6 e7
        exact ⟨nm, qn, ns, bs, bm, sn, sub, ab, col, dd, k0, k1, k2, k3, k5, hl, g7⟩
      · cases g5
    · cases g4
  · cases h0
def ixB (K : PySem.W.Frag) (C : Addr) : Bool := decide (PySem.W.findIn K (.ref C) "__getattribute__" = some (some (.builtin "BaseException.__getattribute__"))) &&
  (decide (PySem.W.findIn K (.ref C) "__getattr__" = some none) && (decide (PySem.W.subIn K (.ref C) (.type "BaseException") = some true) && (PySem.W.hasDictIn K C &&
  (decide (PySem.W.findIn K (.ref C) "__class__" = some (some (.builtin "object.__class__"))) && (decide (PySem.W.specialIn K (.builtin "object.__class__") "__get__" = some (some (.builtin "getset_descriptor.__get__"))) &&
  (decide (PySem.W.takesIn K (.builtin "object.__class__") = some true) && decide (PySem.W.mroIn K C (.type "object") = some true)))))))
theorem ixB_ok {K : PySem.W.Frag} {C : Addr} (h : ixB K C = true) : L2.ExcC K C := by
  obtain ⟨h1, h⟩ := He.ba h
  obtain ⟨h2, h⟩ := He.ba h
  obtain ⟨h3, h⟩ := He.ba h
  obtain ⟨h4, h⟩ := He.ba h
  obtain ⟨h5, h⟩ := He.ba h
  obtain ⟨h6, h⟩ := He.ba h
  obtain ⟨h7, h8⟩ := He.ba h
  exact ⟨of_decide_eq_true h1, of_decide_eq_true h2, of_decide_eq_true h3, h4, of_decide_eq_true h5, of_decide_eq_true h6, of_decide_eq_true h7, of_decide_eq_true h8⟩
/-- a class with its own __init__ of these fields -/
structure Ini (K : PySem.W.Frag) (x : Str) (fs : List Str) : Prop where
  T : OexC K (He.ga K x)
  xf : L2.XfC K (He.ga K x)
  iC : PySem.W.findIn K (.ref (He.ga K x)) "__init__" = some (some (.ref (He.ma K (He.ga K x) "__init__")))
  tI : PySem.W.typeIn K (.ref (He.ma K (He.ga K x) "__init__")) = some (.type "function")
  no : ∀ f ∈ fs, PySem.W.findIn K (.ref (He.ga K x)) f = some none
def iniB (K : PySem.W.Frag) (x : Str) (fs : List Str) : Bool := oexB K (He.ga K x) && (L2.xfB K (He.ga K x) &&
  (decide (PySem.W.findIn K (.ref (He.ga K x)) "__init__" = some (some (.ref (He.ma K (He.ga K x) "__init__")))) &&
  (decide (PySem.W.typeIn K (.ref (He.ma K (He.ga K x) "__init__")) = some (.type "function")) && fs.all fun f => decide (PySem.W.findIn K (.ref (He.ga K x)) f = some none))))
theorem iniB_ok {K : PySem.W.Frag} {x : Str} {fs : List Str} (h : iniB K x fs = true) : Ini K x fs := by
  obtain ⟨h1, h⟩ := He.ba h
  obtain ⟨h2, h⟩ := He.ba h
  obtain ⟨h3, h⟩ := He.ba h
  obtain ⟨h4, h5⟩ := He.ba h
  exact ⟨oexB_ok h1, L2.xfB_ok h2, of_decide_eq_true h3, of_decide_eq_true h4, fun f hf => of_decide_eq_true (List.all_eq_true.mp h5 f hf)⟩
end KV
namespace K1
open PySem PySem.Spec PyProof.Rows L2 KV Evl
def top (i : Nat) : Stmt := PySem.Challenge.pw_unknowncalls_k01_errors.main.body.getD i (.Pass ⟨0, 0, 0, 0⟩)
def ini (i : Nat) : Stmt := inClass (top i) 0
def nm0 : List Str := ["BadAnswers", "BadBlock", "BadFact", "BadLine", "BadMachine", "BadName", "BadNumber", "BadPair", "BadResults", "BadRule", "BadSide", "BadStatement"]
def nm1 : List Str := ["BadTruth", "BadWeight", "BadWorld", "Forgotten", "HasDeeds", "HasLeave", "Impossible", "IsOver", "NoConstant", "NoDeed", "NoName", "NoNumber"]
def nm2 : List Str := ["NoPlace", "NoQuestion", "NoRegister", "NoSection", "NoTest", "NoThing", "NoThings", "NoValue", "NoWorld", "Parted", "TooMany", "Unanswered"]
def nm3 : List Str := ["UnlikeNames", "UsedResult"]
def nm : List Str := nm0 ++ nm1 ++ nm2 ++ nm3
def zs0 : List Str := ["IsOver", "NoConstant", "NoQuestion", "NoWorld", "Parted", "Unanswered", "UnlikeNames"]
def zs : List Str := zs0
def ins0 : List (Str × List Str) := [("BadAnswers", ["index"]), ("BadBlock", ["index"]), ("BadFact", ["index"]), ("BadLine", ["index"]), ("BadMachine", ["machine"]), ("BadName", ["name"]), ("BadNumber", ["name"]), ("BadPair", ["index"]), ("BadResults", ["index"]), ("BadRule", ["name"]), ("BadSide", ["side"]), ("BadStatement", ["place"])]
def ins1 : List (Str × List Str) := [("BadTruth", ["truth"]), ("BadWeight", ["name"]), ("BadWorld", ["word"]), ("Forgotten", ["side", "place", "answers"]), ("HasDeeds", ["place"]), ("HasLeave", ["place"]), ("Impossible", ["index", "side", "at"]), ("NoDeed", ["name"]), ("NoName", ["name"]), ("NoNumber", ["n"]), ("NoPlace", ["place"]), ("NoRegister", ["side", "name"])]
def ins2 : List (Str × List Str) := [("NoSection", ["word"]), ("NoTest", ["name"]), ("NoThing", ["index"]), ("NoThings", ["things"]), ("NoValue", ["thing"]), ("TooMany", ["total"]), ("UsedResult", ["place"])]
def ins : List (Str × List Str) := ins0 ++ ins1 ++ ins2
def loose0 : List Str := ["CallError", "BadName", "BadNumber", "BadRule", "BadFact", "BadPair", "NoWorld", "BadStatement", "NoSection", "UnlikeNames", "Parted", "Forgotten"]
def loose1 : List Str := ["BadWorld", "NoName", "NoThings", "NoThing", "BadResults", "BadAnswers", "Impossible", "NoValue", "NoRegister", "BadSide", "TooMany", "NoPlace"]
def loose2 : List Str := ["NoConstant", "BadTruth", "NoQuestion", "Unanswered", "IsOver", "HasDeeds", "NoTest", "NoDeed", "UsedResult", "HasLeave", "BadLine", "BadMachine"]
def loose3 : List Str := ["BadBlock", "BadWeight", "NoNumber", "_law_cell", "_law_value", "_law_flags", "_law_alone", "_law_ones", "_law_made"]
def loose : List Str := loose0 ++ loose1 ++ loose2 ++ loose3
def fa0 : List He.Fa := [.glo "BadAnswers", .glo "BadBlock", .glo "BadFact", .glo "BadLine", .glo "BadMachine", .glo "BadName", .glo "BadNumber", .glo "BadPair", .glo "BadResults", .glo "BadRule", .glo "BadSide", .glo "BadStatement"]
def fa1 : List He.Fa := [.glo "BadTruth", .glo "BadWeight", .glo "BadWorld", .glo "Forgotten", .glo "HasDeeds", .glo "HasLeave", .glo "Impossible", .glo "IsOver", .glo "NoConstant", .glo "NoDeed", .glo "NoName", .glo "NoNumber"]
def fa2 : List He.Fa := [.glo "NoPlace", .glo "NoQuestion", .glo "NoRegister", .glo "NoSection", .glo "NoTest", .glo "NoThing", .glo "NoThings", .glo "NoValue", .glo "NoWorld", .glo "Parted", .glo "TooMany", .glo "Unanswered"]
def fa3 : List He.Fa := [.glo "UnlikeNames", .glo "UsedResult", .glo "CallError", .glo "_law_cell", .glo "_law_value", .glo "_law_flags", .glo "_law_alone", .glo "_law_ones", .glo "_law_made", .glo "law", .free "len", .free "int"]
def fa4 : List He.Fa := [.free "isinstance", .free "all", .free "any", .free "LookupError", .free "TypeError", .free "ArithmeticError", .free "ValueError"]
def fa : List He.Fa := fa0 ++ fa1 ++ fa2 ++ fa3 ++ fa4
def d_BadAnswers : He.DefD := ⟨("BadAnswers", some "__init__"), "__init__", "BadAnswers.__init__", defArgs (ini 18), defBody (ini 18), defScope (ini 18), [], []⟩
def d_BadBlock : He.DefD := ⟨("BadBlock", some "__init__"), "__init__", "BadBlock.__init__", defArgs (ini 37), defBody (ini 37), defScope (ini 37), [], []⟩
def d_BadFact : He.DefD := ⟨("BadFact", some "__init__"), "__init__", "BadFact.__init__", defArgs (ini 5), defBody (ini 5), defScope (ini 5), [], []⟩
def d_BadLine : He.DefD := ⟨("BadLine", some "__init__"), "__init__", "BadLine.__init__", defArgs (ini 35), defBody (ini 35), defScope (ini 35), [], []⟩
def d_BadMachine : He.DefD := ⟨("BadMachine", some "__init__"), "__init__", "BadMachine.__init__", defArgs (ini 36), defBody (ini 36), defScope (ini 36), [], []⟩
def d_BadName : He.DefD := ⟨("BadName", some "__init__"), "__init__", "BadName.__init__", defArgs (ini 2), defBody (ini 2), defScope (ini 2), [], []⟩
def d_BadNumber : He.DefD := ⟨("BadNumber", some "__init__"), "__init__", "BadNumber.__init__", defArgs (ini 3), defBody (ini 3), defScope (ini 3), [], []⟩
def d_BadPair : He.DefD := ⟨("BadPair", some "__init__"), "__init__", "BadPair.__init__", defArgs (ini 6), defBody (ini 6), defScope (ini 6), [], []⟩
def d_BadResults : He.DefD := ⟨("BadResults", some "__init__"), "__init__", "BadResults.__init__", defArgs (ini 17), defBody (ini 17), defScope (ini 17), [], []⟩
def d_BadRule : He.DefD := ⟨("BadRule", some "__init__"), "__init__", "BadRule.__init__", defArgs (ini 4), defBody (ini 4), defScope (ini 4), [], []⟩
def d_BadSide : He.DefD := ⟨("BadSide", some "__init__"), "__init__", "BadSide.__init__", defArgs (ini 22), defBody (ini 22), defScope (ini 22), [], []⟩
def d_BadStatement : He.DefD := ⟨("BadStatement", some "__init__"), "__init__", "BadStatement.__init__", defArgs (ini 8), defBody (ini 8), defScope (ini 8), [], []⟩
def d_BadTruth : He.DefD := ⟨("BadTruth", some "__init__"), "__init__", "BadTruth.__init__", defArgs (ini 26), defBody (ini 26), defScope (ini 26), [], []⟩
def d_BadWeight : He.DefD := ⟨("BadWeight", some "__init__"), "__init__", "BadWeight.__init__", defArgs (ini 38), defBody (ini 38), defScope (ini 38), [], []⟩
def d_BadWorld : He.DefD := ⟨("BadWorld", some "__init__"), "__init__", "BadWorld.__init__", defArgs (ini 13), defBody (ini 13), defScope (ini 13), [], []⟩
def d_Forgotten : He.DefD := ⟨("Forgotten", some "__init__"), "__init__", "Forgotten.__init__", defArgs (ini 12), defBody (ini 12), defScope (ini 12), [], []⟩
def d_HasDeeds : He.DefD := ⟨("HasDeeds", some "__init__"), "__init__", "HasDeeds.__init__", defArgs (ini 30), defBody (ini 30), defScope (ini 30), [], []⟩
def d_HasLeave : He.DefD := ⟨("HasLeave", some "__init__"), "__init__", "HasLeave.__init__", defArgs (ini 34), defBody (ini 34), defScope (ini 34), [], []⟩
def d_Impossible : He.DefD := ⟨("Impossible", some "__init__"), "__init__", "Impossible.__init__", defArgs (ini 19), defBody (ini 19), defScope (ini 19), [], []⟩
def d_NoDeed : He.DefD := ⟨("NoDeed", some "__init__"), "__init__", "NoDeed.__init__", defArgs (ini 32), defBody (ini 32), defScope (ini 32), [], []⟩
def d_NoName : He.DefD := ⟨("NoName", some "__init__"), "__init__", "NoName.__init__", defArgs (ini 14), defBody (ini 14), defScope (ini 14), [], []⟩
def d_NoNumber : He.DefD := ⟨("NoNumber", some "__init__"), "__init__", "NoNumber.__init__", defArgs (ini 39), defBody (ini 39), defScope (ini 39), [], []⟩
def d_NoPlace : He.DefD := ⟨("NoPlace", some "__init__"), "__init__", "NoPlace.__init__", defArgs (ini 24), defBody (ini 24), defScope (ini 24), [], []⟩
def d_NoRegister : He.DefD := ⟨("NoRegister", some "__init__"), "__init__", "NoRegister.__init__", defArgs (ini 21), defBody (ini 21), defScope (ini 21), [], []⟩
def d_NoSection : He.DefD := ⟨("NoSection", some "__init__"), "__init__", "NoSection.__init__", defArgs (ini 9), defBody (ini 9), defScope (ini 9), [], []⟩
def d_NoTest : He.DefD := ⟨("NoTest", some "__init__"), "__init__", "NoTest.__init__", defArgs (ini 31), defBody (ini 31), defScope (ini 31), [], []⟩
def d_NoThing : He.DefD := ⟨("NoThing", some "__init__"), "__init__", "NoThing.__init__", defArgs (ini 16), defBody (ini 16), defScope (ini 16), [], []⟩
def d_NoThings : He.DefD := ⟨("NoThings", some "__init__"), "__init__", "NoThings.__init__", defArgs (ini 15), defBody (ini 15), defScope (ini 15), [], []⟩
def d_NoValue : He.DefD := ⟨("NoValue", some "__init__"), "__init__", "NoValue.__init__", defArgs (ini 20), defBody (ini 20), defScope (ini 20), [], []⟩
def d_TooMany : He.DefD := ⟨("TooMany", some "__init__"), "__init__", "TooMany.__init__", defArgs (ini 23), defBody (ini 23), defScope (ini 23), [], []⟩
def d_UsedResult : He.DefD := ⟨("UsedResult", some "__init__"), "__init__", "UsedResult.__init__", defArgs (ini 33), defBody (ini 33), defScope (ini 33), [], []⟩
def d__law_cell : He.DefD := ⟨("_law_cell", none), "_law_cell", "_law_cell", defArgs (top 41), defBody (top 41), defScope (top 41), [], []⟩
def d__law_value : He.DefD := ⟨("_law_value", none), "_law_value", "_law_value", defArgs (top 42), defBody (top 42), defScope (top 42), [], []⟩
def d__law_flags : He.DefD := ⟨("_law_flags", none), "_law_flags", "_law_flags", defArgs (top 43), defBody (top 43), defScope (top 43), [], []⟩
def d__law_alone : He.DefD := ⟨("_law_alone", none), "_law_alone", "_law_alone", defArgs (top 44), defBody (top 44), defScope (top 44), [], []⟩
def d__law_ones : He.DefD := ⟨("_law_ones", none), "_law_ones", "_law_ones", defArgs (top 45), defBody (top 45), defScope (top 45), [], []⟩
def d__law_made : He.DefD := ⟨("_law_made", none), "_law_made", "_law_made", defArgs (top 46), defBody (top 46), defScope (top 46), [], []⟩
def d_law : He.DefD := ⟨("law", none), "law", "law", defArgs (top 47), defBody (top 47), defScope (top 47), [], []⟩
def fn0 : List He.DefD := [d_BadAnswers, d_BadBlock, d_BadFact, d_BadLine, d_BadMachine, d_BadName, d_BadNumber, d_BadPair, d_BadResults, d_BadRule, d_BadSide, d_BadStatement]
def fn1 : List He.DefD := [d_BadTruth, d_BadWeight, d_BadWorld, d_Forgotten, d_HasDeeds, d_HasLeave, d_Impossible, d_NoDeed, d_NoName, d_NoNumber, d_NoPlace, d_NoRegister]
def fn2 : List He.DefD := [d_NoSection, d_NoTest, d_NoThing, d_NoThings, d_NoValue, d_TooMany, d_UsedResult, d__law_cell, d__law_value, d__law_flags, d__law_alone, d__law_ones]
def fn3 : List He.DefD := [d__law_made, d_law]
def fn : List He.DefD := fn0 ++ fn1 ++ fn2 ++ fn3
def cl (K : PySem.W.Frag) (i : Nat) : Addr := He.ga K (nm.getD i "")
def matB (K : PySem.W.Frag) : Bool := (List.range 38).all fun i => (List.range 38).all fun j => decide (PySem.W.kitOne K (.ref (cl K i)) (.ref (cl K j)) = some (decide (i = j)))
def upB (K : PySem.W.Frag) : Bool := nm.all fun x => KV.ixB K (He.ga K x) && (PySem.W.keepIn K (.ref (He.ga K x)) && (decide (PySem.W.kitOne K (.ref (He.ga K x)) (.ref (He.ga K "CallError")) = some true) &&
  (decide (PySem.W.kitOne K (.ref (He.ga K x)) (.type "ValueError") = some true) && decide (PySem.W.kitAny K (.ref (He.ga K x)) [.type "LookupError", .type "TypeError", .type "ArithmeticError"] = some false))))
def exB (K : PySem.W.Frag) : Bool := matB K && (upB K && ((ins.all fun p => KV.iniB K p.1 p.2) && zs.all fun x => PySem.W.excIn K (He.ga K x) He.veBase "ValueError.__new__"))
abbrev R : PySem.W.OpenRow := PySem.W.OpenLaw.row PySem.Challenge.rw_unknowncalls_k01_errors

abbrev hk : PySem.W.Hook := He.hookX 5 fa fn [] [] exB
def ob (s : PySem.W.SharedT) : He.AlX := He.obsX 5 fa fn [] [] exB (HandSHeadRun.getT s)
theorem ob_eq (s : PySem.W.SharedT) : ob s = hk.obs s.abs := He.obsX_eq (HandSHeadRun.getT_eq s)
theorem run (w : World) : HandSHeadRun.RunEq R (PySem.W.view R.prog [47]) hk ob 12000 loose w := by
  intro os
  kernel_rfl
end K1
namespace K1
open PySem PySem.Spec PyProof.Rows L2 KV Evl
/-- what the head tells -/
structure Tx (K : PySem.W.Frag) (mg : Str → Option Value) : Prop where
  d : He.SaysD fa fn K
  e : exB K = true
  X : ∃ h : Heap, K.In h ∧ h.Ns mainGlobals mg
section
variable {K : PySem.W.Frag} {mg : Str → Option Value}
theorem Tx.gl (T : Tx K mg) (i : Nat) {x : Str} (h : fa[i]? = some (.glo x)) : mg x = some (.ref (He.ga K x)) := by
  obtain ⟨h0, X, G⟩ := T.X
  exact He.glo_ok X G (T.d.fact i h)
theorem Tx.fr (T : Tx K mg) (i : Nat) {x : Str} (h : fa[i]? = some (.free x)) : mg x = none := by
  obtain ⟨h0, X, G⟩ := T.X
  exact He.free_ok X G (T.d.fact i h)
theorem Tx.mat (T : Tx K mg) {i j : Nat} (hi : i < 38) (hj : j < 38) : PySem.W.kitOne K (.ref (cl K i)) (.ref (cl K j)) = some (decide (i = j)) := by
  have h := (He.ba T.e).1
  have h2 := List.all_eq_true.mp h i (List.mem_range.mpr hi)
  exact of_decide_eq_true (List.all_eq_true.mp h2 j (List.mem_range.mpr hj))
theorem nm_mem {i : Nat} (hi : i < 38) : nm.getD i "" ∈ nm := by
  have hl : nm.length = 38 := by decide +kernel
  rw [List.getD_eq_getElem?_getD, List.getElem?_eq_getElem (by omega)]
  exact List.getElem_mem _
structure Up (K : PySem.W.Frag) (C : Addr) : Prop where
  ix : L2.ExcC K C
  kp : PySem.W.keepIn K (.ref C) = true
  ce : PySem.W.kitOne K (.ref C) (.ref (He.ga K "CallError")) = some true
  ve : PySem.W.kitOne K (.ref C) (.type "ValueError") = some true
  no : PySem.W.kitAny K (.ref C) [.type "LookupError", .type "TypeError", .type "ArithmeticError"] = some false
theorem Tx.up (T : Tx K mg) {i : Nat} (hi : i < 38) : Up K (cl K i) := by
  have h := List.all_eq_true.mp (He.ba (He.ba T.e).2).1 _ (nm_mem hi)
  obtain ⟨h1, h⟩ := He.ba h
  obtain ⟨h2, h⟩ := He.ba h
  obtain ⟨h3, h⟩ := He.ba h
  obtain ⟨h4, h5⟩ := He.ba h
  exact ⟨ixB_ok h1, h2, of_decide_eq_true h3, of_decide_eq_true h4, of_decide_eq_true h5⟩
theorem Tx.ini (T : Tx K mg) (i : Nat) {x : Str} {fs : List Str} (h : ins[i]? = some (x, fs)) : Ini K x fs :=
  iniB_ok (List.all_eq_true.mp (He.ba (He.ba (He.ba T.e).2).2).1 (x, fs) (List.mem_of_getElem? h))
theorem Tx.zer (T : Tx K mg) (i : Nat) {x : Str} (h : zs[i]? = some x) : PySem.W.excIn K (He.ga K x) He.veBase "ValueError.__new__" = true :=
  List.all_eq_true.mp (He.ba (He.ba (He.ba T.e).2).2).2 x (List.mem_of_getElem? h)
variable {P : Program} {w : World} {base : Heap}
theorem ok_BadAnswers (T : Tx K mg) : ∃ fd, FnOk P w K mg base CX0 1 (He.ma K (He.ga K "BadAnswers") "__init__") fd ["self", "index"] (spIni1 K (He.ga K "BadAnswers") "index") ∧ Binds K fd ["self", "index"] [] := by
  obtain ⟨fd, F⟩ := T.d.def_ 0 (d := d_BadAnswers) rfl
  have I := T.ini 0 (x := "BadAnswers") (fs := ["index"]) rfl
  have sc : FnScope ["self", "index"] ["self", "index"] (defScope (ini 18)) := ⟨rfl, rfl, rfl, by decide +kernel, rfl, by decide +kernel, by decide +kernel⟩
  refine ⟨fd, F.ok sc (fun vs H Q E h => ?_) (fun cdv A outer s H vs Q E hr h => ?_), FunD.bindsN F fun _ _ _ _ _ _ us hl => match us, hl with | [_, _], _ => rfl⟩
  · obtain ⟨a, v, rfl, _⟩ := h
    rfl
  · exact ⟨_, PSs.nox (pss_one (ps_ost (pv 0) (pv 1))), ini1_run I.T (I.no _ (by simp)) h fun _ _ => rfl⟩
theorem ok_BadBlock (T : Tx K mg) : ∃ fd, FnOk P w K mg base CX0 1 (He.ma K (He.ga K "BadBlock") "__init__") fd ["self", "index"] (spIni1 K (He.ga K "BadBlock") "index") ∧ Binds K fd ["self", "index"] [] := by
  obtain ⟨fd, F⟩ := T.d.def_ 1 (d := d_BadBlock) rfl
  have I := T.ini 1 (x := "BadBlock") (fs := ["index"]) rfl
  have sc : FnScope ["self", "index"] ["self", "index"] (defScope (ini 37)) := ⟨rfl, rfl, rfl, by decide +kernel, rfl, by decide +kernel, by decide +kernel⟩
  refine ⟨fd, F.ok sc (fun vs H Q E h => ?_) (fun cdv A outer s H vs Q E hr h => ?_), FunD.bindsN F fun _ _ _ _ _ _ us hl => match us, hl with | [_, _], _ => rfl⟩
  · obtain ⟨a, v, rfl, _⟩ := h
    rfl
  · exact ⟨_, PSs.nox (pss_one (ps_ost (pv 0) (pv 1))), ini1_run I.T (I.no _ (by simp)) h fun _ _ => rfl⟩
theorem ok_BadFact (T : Tx K mg) : ∃ fd, FnOk P w K mg base CX0 1 (He.ma K (He.ga K "BadFact") "__init__") fd ["self", "index"] (spIni1 K (He.ga K "BadFact") "index") ∧ Binds K fd ["self", "index"] [] := by
  obtain ⟨fd, F⟩ := T.d.def_ 2 (d := d_BadFact) rfl
  have I := T.ini 2 (x := "BadFact") (fs := ["index"]) rfl
  have sc : FnScope ["self", "index"] ["self", "index"] (defScope (ini 5)) := ⟨rfl, rfl, rfl, by decide +kernel, rfl, by decide +kernel, by decide +kernel⟩
  refine ⟨fd, F.ok sc (fun vs H Q E h => ?_) (fun cdv A outer s H vs Q E hr h => ?_), FunD.bindsN F fun _ _ _ _ _ _ us hl => match us, hl with | [_, _], _ => rfl⟩
  · obtain ⟨a, v, rfl, _⟩ := h
    rfl
  · exact ⟨_, PSs.nox (pss_one (ps_ost (pv 0) (pv 1))), ini1_run I.T (I.no _ (by simp)) h fun _ _ => rfl⟩
theorem ok_BadLine (T : Tx K mg) : ∃ fd, FnOk P w K mg base CX0 1 (He.ma K (He.ga K "BadLine") "__init__") fd ["self", "index"] (spIni1 K (He.ga K "BadLine") "index") ∧ Binds K fd ["self", "index"] [] := by
  obtain ⟨fd, F⟩ := T.d.def_ 3 (d := d_BadLine) rfl
  have I := T.ini 3 (x := "BadLine") (fs := ["index"]) rfl
  have sc : FnScope ["self", "index"] ["self", "index"] (defScope (ini 35)) := ⟨rfl, rfl, rfl, by decide +kernel, rfl, by decide +kernel, by decide +kernel⟩
  refine ⟨fd, F.ok sc (fun vs H Q E h => ?_) (fun cdv A outer s H vs Q E hr h => ?_), FunD.bindsN F fun _ _ _ _ _ _ us hl => match us, hl with | [_, _], _ => rfl⟩
  · obtain ⟨a, v, rfl, _⟩ := h
    rfl
  · exact ⟨_, PSs.nox (pss_one (ps_ost (pv 0) (pv 1))), ini1_run I.T (I.no _ (by simp)) h fun _ _ => rfl⟩
theorem ok_BadMachine (T : Tx K mg) : ∃ fd, FnOk P w K mg base CX0 1 (He.ma K (He.ga K "BadMachine") "__init__") fd ["self", "machine"] (spIni1 K (He.ga K "BadMachine") "machine") ∧ Binds K fd ["self", "machine"] [] := by
  obtain ⟨fd, F⟩ := T.d.def_ 4 (d := d_BadMachine) rfl
  have I := T.ini 4 (x := "BadMachine") (fs := ["machine"]) rfl
  have sc : FnScope ["self", "machine"] ["self", "machine"] (defScope (ini 36)) := ⟨rfl, rfl, rfl, by decide +kernel, rfl, by decide +kernel, by decide +kernel⟩
  refine ⟨fd, F.ok sc (fun vs H Q E h => ?_) (fun cdv A outer s H vs Q E hr h => ?_), FunD.bindsN F fun _ _ _ _ _ _ us hl => match us, hl with | [_, _], _ => rfl⟩
  · obtain ⟨a, v, rfl, _⟩ := h
    rfl
  · exact ⟨_, PSs.nox (pss_one (ps_ost (pv 0) (pv 1))), ini1_run I.T (I.no _ (by simp)) h fun _ _ => rfl⟩
theorem ok_BadName (T : Tx K mg) : ∃ fd, FnOk P w K mg base CX0 1 (He.ma K (He.ga K "BadName") "__init__") fd ["self", "name"] (spIni1 K (He.ga K "BadName") "name") ∧ Binds K fd ["self", "name"] [] := by
  obtain ⟨fd, F⟩ := T.d.def_ 5 (d := d_BadName) rfl
  have I := T.ini 5 (x := "BadName") (fs := ["name"]) rfl
  have sc : FnScope ["self", "name"] ["self", "name"] (defScope (ini 2)) := ⟨rfl, rfl, rfl, by decide +kernel, rfl, by decide +kernel, by decide +kernel⟩
  refine ⟨fd, F.ok sc (fun vs H Q E h => ?_) (fun cdv A outer s H vs Q E hr h => ?_), FunD.bindsN F fun _ _ _ _ _ _ us hl => match us, hl with | [_, _], _ => rfl⟩
  · obtain ⟨a, v, rfl, _⟩ := h
    rfl
  · exact ⟨_, PSs.nox (pss_one (ps_ost (pv 0) (pv 1))), ini1_run I.T (I.no _ (by simp)) h fun _ _ => rfl⟩
theorem ok_BadNumber (T : Tx K mg) : ∃ fd, FnOk P w K mg base CX0 1 (He.ma K (He.ga K "BadNumber") "__init__") fd ["self", "name"] (spIni1 K (He.ga K "BadNumber") "name") ∧ Binds K fd ["self", "name"] [] := by
  obtain ⟨fd, F⟩ := T.d.def_ 6 (d := d_BadNumber) rfl
  have I := T.ini 6 (x := "BadNumber") (fs := ["name"]) rfl
  have sc : FnScope ["self", "name"] ["self", "name"] (defScope (ini 3)) := ⟨rfl, rfl, rfl, by decide +kernel, rfl, by decide +kernel, by decide +kernel⟩
  refine ⟨fd, F.ok sc (fun vs H Q E h => ?_) (fun cdv A outer s H vs Q E hr h => ?_), FunD.bindsN F fun _ _ _ _ _ _ us hl => match us, hl with | [_, _], _ => rfl⟩
  · obtain ⟨a, v, rfl, _⟩ := h
    rfl
  · exact ⟨_, PSs.nox (pss_one (ps_ost (pv 0) (pv 1))), ini1_run I.T (I.no _ (by simp)) h fun _ _ => rfl⟩
theorem ok_BadPair (T : Tx K mg) : ∃ fd, FnOk P w K mg base CX0 1 (He.ma K (He.ga K "BadPair") "__init__") fd ["self", "index"] (spIni1 K (He.ga K "BadPair") "index") ∧ Binds K fd ["self", "index"] [] := by
  obtain ⟨fd, F⟩ := T.d.def_ 7 (d := d_BadPair) rfl
  have I := T.ini 7 (x := "BadPair") (fs := ["index"]) rfl
  have sc : FnScope ["self", "index"] ["self", "index"] (defScope (ini 6)) := ⟨rfl, rfl, rfl, by decide +kernel, rfl, by decide +kernel, by decide +kernel⟩
  refine ⟨fd, F.ok sc (fun vs H Q E h => ?_) (fun cdv A outer s H vs Q E hr h => ?_), FunD.bindsN F fun _ _ _ _ _ _ us hl => match us, hl with | [_, _], _ => rfl⟩
  · obtain ⟨a, v, rfl, _⟩ := h
    rfl
  · exact ⟨_, PSs.nox (pss_one (ps_ost (pv 0) (pv 1))), ini1_run I.T (I.no _ (by simp)) h fun _ _ => rfl⟩
theorem ok_BadResults (T : Tx K mg) : ∃ fd, FnOk P w K mg base CX0 1 (He.ma K (He.ga K "BadResults") "__init__") fd ["self", "index"] (spIni1 K (He.ga K "BadResults") "index") ∧ Binds K fd ["self", "index"] [] := by
  obtain ⟨fd, F⟩ := T.d.def_ 8 (d := d_BadResults) rfl
  have I := T.ini 8 (x := "BadResults") (fs := ["index"]) rfl
  have sc : FnScope ["self", "index"] ["self", "index"] (defScope (ini 17)) := ⟨rfl, rfl, rfl, by decide +kernel, rfl, by decide +kernel, by decide +kernel⟩
  refine ⟨fd, F.ok sc (fun vs H Q E h => ?_) (fun cdv A outer s H vs Q E hr h => ?_), FunD.bindsN F fun _ _ _ _ _ _ us hl => match us, hl with | [_, _], _ => rfl⟩
  · obtain ⟨a, v, rfl, _⟩ := h
    rfl
  · exact ⟨_, PSs.nox (pss_one (ps_ost (pv 0) (pv 1))), ini1_run I.T (I.no _ (by simp)) h fun _ _ => rfl⟩
theorem ok_BadRule (T : Tx K mg) : ∃ fd, FnOk P w K mg base CX0 1 (He.ma K (He.ga K "BadRule") "__init__") fd ["self", "name"] (spIni1 K (He.ga K "BadRule") "name") ∧ Binds K fd ["self", "name"] [] := by
  obtain ⟨fd, F⟩ := T.d.def_ 9 (d := d_BadRule) rfl
  have I := T.ini 9 (x := "BadRule") (fs := ["name"]) rfl
  have sc : FnScope ["self", "name"] ["self", "name"] (defScope (ini 4)) := ⟨rfl, rfl, rfl, by decide +kernel, rfl, by decide +kernel, by decide +kernel⟩
  refine ⟨fd, F.ok sc (fun vs H Q E h => ?_) (fun cdv A outer s H vs Q E hr h => ?_), FunD.bindsN F fun _ _ _ _ _ _ us hl => match us, hl with | [_, _], _ => rfl⟩
  · obtain ⟨a, v, rfl, _⟩ := h
    rfl
  · exact ⟨_, PSs.nox (pss_one (ps_ost (pv 0) (pv 1))), ini1_run I.T (I.no _ (by simp)) h fun _ _ => rfl⟩
theorem ok_BadSide (T : Tx K mg) : ∃ fd, FnOk P w K mg base CX0 1 (He.ma K (He.ga K "BadSide") "__init__") fd ["self", "side"] (spIni1 K (He.ga K "BadSide") "side") ∧ Binds K fd ["self", "side"] [] := by
  obtain ⟨fd, F⟩ := T.d.def_ 10 (d := d_BadSide) rfl
  have I := T.ini 10 (x := "BadSide") (fs := ["side"]) rfl
  have sc : FnScope ["self", "side"] ["self", "side"] (defScope (ini 22)) := ⟨rfl, rfl, rfl, by decide +kernel, rfl, by decide +kernel, by decide +kernel⟩
  refine ⟨fd, F.ok sc (fun vs H Q E h => ?_) (fun cdv A outer s H vs Q E hr h => ?_), FunD.bindsN F fun _ _ _ _ _ _ us hl => match us, hl with | [_, _], _ => rfl⟩
  · obtain ⟨a, v, rfl, _⟩ := h
    rfl
  · exact ⟨_, PSs.nox (pss_one (ps_ost (pv 0) (pv 1))), ini1_run I.T (I.no _ (by simp)) h fun _ _ => rfl⟩
theorem ok_BadStatement (T : Tx K mg) : ∃ fd, FnOk P w K mg base CX0 1 (He.ma K (He.ga K "BadStatement") "__init__") fd ["self", "place"] (spIni1 K (He.ga K "BadStatement") "place") ∧ Binds K fd ["self", "place"] [] := by
  obtain ⟨fd, F⟩ := T.d.def_ 11 (d := d_BadStatement) rfl
  have I := T.ini 11 (x := "BadStatement") (fs := ["place"]) rfl
  have sc : FnScope ["self", "place"] ["self", "place"] (defScope (ini 8)) := ⟨rfl, rfl, rfl, by decide +kernel, rfl, by decide +kernel, by decide +kernel⟩
  refine ⟨fd, F.ok sc (fun vs H Q E h => ?_) (fun cdv A outer s H vs Q E hr h => ?_), FunD.bindsN F fun _ _ _ _ _ _ us hl => match us, hl with | [_, _], _ => rfl⟩
  · obtain ⟨a, v, rfl, _⟩ := h
    rfl
  · exact ⟨_, PSs.nox (pss_one (ps_ost (pv 0) (pv 1))), ini1_run I.T (I.no _ (by simp)) h fun _ _ => rfl⟩
theorem ok_BadTruth (T : Tx K mg) : ∃ fd, FnOk P w K mg base CX0 1 (He.ma K (He.ga K "BadTruth") "__init__") fd ["self", "truth"] (spIni1 K (He.ga K "BadTruth") "truth") ∧ Binds K fd ["self", "truth"] [] := by
  obtain ⟨fd, F⟩ := T.d.def_ 12 (d := d_BadTruth) rfl
  have I := T.ini 12 (x := "BadTruth") (fs := ["truth"]) rfl
  have sc : FnScope ["self", "truth"] ["self", "truth"] (defScope (ini 26)) := ⟨rfl, rfl, rfl, by decide +kernel, rfl, by decide +kernel, by decide +kernel⟩
  refine ⟨fd, F.ok sc (fun vs H Q E h => ?_) (fun cdv A outer s H vs Q E hr h => ?_), FunD.bindsN F fun _ _ _ _ _ _ us hl => match us, hl with | [_, _], _ => rfl⟩
  · obtain ⟨a, v, rfl, _⟩ := h
    rfl
  · exact ⟨_, PSs.nox (pss_one (ps_ost (pv 0) (pv 1))), ini1_run I.T (I.no _ (by simp)) h fun _ _ => rfl⟩
theorem ok_BadWeight (T : Tx K mg) : ∃ fd, FnOk P w K mg base CX0 1 (He.ma K (He.ga K "BadWeight") "__init__") fd ["self", "name"] (spIni1 K (He.ga K "BadWeight") "name") ∧ Binds K fd ["self", "name"] [] := by
  obtain ⟨fd, F⟩ := T.d.def_ 13 (d := d_BadWeight) rfl
  have I := T.ini 13 (x := "BadWeight") (fs := ["name"]) rfl
  have sc : FnScope ["self", "name"] ["self", "name"] (defScope (ini 38)) := ⟨rfl, rfl, rfl, by decide +kernel, rfl, by decide +kernel, by decide +kernel⟩
  refine ⟨fd, F.ok sc (fun vs H Q E h => ?_) (fun cdv A outer s H vs Q E hr h => ?_), FunD.bindsN F fun _ _ _ _ _ _ us hl => match us, hl with | [_, _], _ => rfl⟩
  · obtain ⟨a, v, rfl, _⟩ := h
    rfl
  · exact ⟨_, PSs.nox (pss_one (ps_ost (pv 0) (pv 1))), ini1_run I.T (I.no _ (by simp)) h fun _ _ => rfl⟩
theorem ok_BadWorld (T : Tx K mg) : ∃ fd, FnOk P w K mg base CX0 1 (He.ma K (He.ga K "BadWorld") "__init__") fd ["self", "word"] (spIni1 K (He.ga K "BadWorld") "word") ∧ Binds K fd ["self", "word"] [] := by
  obtain ⟨fd, F⟩ := T.d.def_ 14 (d := d_BadWorld) rfl
  have I := T.ini 14 (x := "BadWorld") (fs := ["word"]) rfl
  have sc : FnScope ["self", "word"] ["self", "word"] (defScope (ini 13)) := ⟨rfl, rfl, rfl, by decide +kernel, rfl, by decide +kernel, by decide +kernel⟩
  refine ⟨fd, F.ok sc (fun vs H Q E h => ?_) (fun cdv A outer s H vs Q E hr h => ?_), FunD.bindsN F fun _ _ _ _ _ _ us hl => match us, hl with | [_, _], _ => rfl⟩
  · obtain ⟨a, v, rfl, _⟩ := h
    rfl
  · exact ⟨_, PSs.nox (pss_one (ps_ost (pv 0) (pv 1))), ini1_run I.T (I.no _ (by simp)) h fun _ _ => rfl⟩
theorem ok_Forgotten (T : Tx K mg) : ∃ fd, FnOk P w K mg base CX0 1 (He.ma K (He.ga K "Forgotten") "__init__") fd ["self", "side", "place", "answers"] (spIni3 K (He.ga K "Forgotten") "side" "place" "answers") ∧ Binds K fd ["self", "side", "place", "answers"] [] := by
  obtain ⟨fd, F⟩ := T.d.def_ 15 (d := d_Forgotten) rfl
  have I := T.ini 15 (x := "Forgotten") (fs := ["side", "place", "answers"]) rfl
  have sc : FnScope ["self", "side", "place", "answers"] ["self", "side", "place", "answers"] (defScope (ini 12)) := ⟨rfl, rfl, rfl, by decide +kernel, rfl, by decide +kernel, by decide +kernel⟩
  refine ⟨fd, F.ok sc (fun vs H Q E h => ?_) (fun cdv A outer s H vs Q E hr h => ?_), FunD.bindsN F fun _ _ _ _ _ _ us hl => match us, hl with | [_, _, _, _], _ => rfl⟩
  · obtain ⟨a, v, u, z, rfl, _⟩ := h
    rfl
  · exact ⟨_, PSs.nox (pss_cons (ps_ost (pv 0) (pv 1)) (pss_cons (ps_ost (pv 0) (pv 2)) (pss_one (ps_ost (pv 0) (pv 3))))), ini3_run I.T (I.no _ (by simp)) (I.no _ (by simp)) (I.no _ (by simp)) h fun _ _ _ _ => rfl⟩
theorem ok_HasDeeds (T : Tx K mg) : ∃ fd, FnOk P w K mg base CX0 1 (He.ma K (He.ga K "HasDeeds") "__init__") fd ["self", "place"] (spIni1 K (He.ga K "HasDeeds") "place") ∧ Binds K fd ["self", "place"] [] := by
  obtain ⟨fd, F⟩ := T.d.def_ 16 (d := d_HasDeeds) rfl
  have I := T.ini 16 (x := "HasDeeds") (fs := ["place"]) rfl
  have sc : FnScope ["self", "place"] ["self", "place"] (defScope (ini 30)) := ⟨rfl, rfl, rfl, by decide +kernel, rfl, by decide +kernel, by decide +kernel⟩
  refine ⟨fd, F.ok sc (fun vs H Q E h => ?_) (fun cdv A outer s H vs Q E hr h => ?_), FunD.bindsN F fun _ _ _ _ _ _ us hl => match us, hl with | [_, _], _ => rfl⟩
  · obtain ⟨a, v, rfl, _⟩ := h
    rfl
  · exact ⟨_, PSs.nox (pss_one (ps_ost (pv 0) (pv 1))), ini1_run I.T (I.no _ (by simp)) h fun _ _ => rfl⟩
theorem ok_HasLeave (T : Tx K mg) : ∃ fd, FnOk P w K mg base CX0 1 (He.ma K (He.ga K "HasLeave") "__init__") fd ["self", "place"] (spIni1 K (He.ga K "HasLeave") "place") ∧ Binds K fd ["self", "place"] [] := by
  obtain ⟨fd, F⟩ := T.d.def_ 17 (d := d_HasLeave) rfl
  have I := T.ini 17 (x := "HasLeave") (fs := ["place"]) rfl
  have sc : FnScope ["self", "place"] ["self", "place"] (defScope (ini 34)) := ⟨rfl, rfl, rfl, by decide +kernel, rfl, by decide +kernel, by decide +kernel⟩
  refine ⟨fd, F.ok sc (fun vs H Q E h => ?_) (fun cdv A outer s H vs Q E hr h => ?_), FunD.bindsN F fun _ _ _ _ _ _ us hl => match us, hl with | [_, _], _ => rfl⟩
  · obtain ⟨a, v, rfl, _⟩ := h
    rfl
  · exact ⟨_, PSs.nox (pss_one (ps_ost (pv 0) (pv 1))), ini1_run I.T (I.no _ (by simp)) h fun _ _ => rfl⟩
theorem ok_Impossible (T : Tx K mg) : ∃ fd, FnOk P w K mg base CX0 1 (He.ma K (He.ga K "Impossible") "__init__") fd ["self", "index", "side", "at"] (spIni3 K (He.ga K "Impossible") "index" "side" "at") ∧ Binds K fd ["self", "index", "side", "at"] [] := by
  obtain ⟨fd, F⟩ := T.d.def_ 18 (d := d_Impossible) rfl
  have I := T.ini 18 (x := "Impossible") (fs := ["index", "side", "at"]) rfl
  have sc : FnScope ["self", "index", "side", "at"] ["self", "index", "side", "at"] (defScope (ini 19)) := ⟨rfl, rfl, rfl, by decide +kernel, rfl, by decide +kernel, by decide +kernel⟩
  refine ⟨fd, F.ok sc (fun vs H Q E h => ?_) (fun cdv A outer s H vs Q E hr h => ?_), FunD.bindsN F fun _ _ _ _ _ _ us hl => match us, hl with | [_, _, _, _], _ => rfl⟩
  · obtain ⟨a, v, u, z, rfl, _⟩ := h
    rfl
  · exact ⟨_, PSs.nox (pss_cons (ps_ost (pv 0) (pv 1)) (pss_cons (ps_ost (pv 0) (pv 2)) (pss_one (ps_ost (pv 0) (pv 3))))), ini3_run I.T (I.no _ (by simp)) (I.no _ (by simp)) (I.no _ (by simp)) h fun _ _ _ _ => rfl⟩
theorem ok_NoDeed (T : Tx K mg) : ∃ fd, FnOk P w K mg base CX0 1 (He.ma K (He.ga K "NoDeed") "__init__") fd ["self", "name"] (spIni1 K (He.ga K "NoDeed") "name") ∧ Binds K fd ["self", "name"] [] := by
  obtain ⟨fd, F⟩ := T.d.def_ 19 (d := d_NoDeed) rfl
  have I := T.ini 19 (x := "NoDeed") (fs := ["name"]) rfl
  have sc : FnScope ["self", "name"] ["self", "name"] (defScope (ini 32)) := ⟨rfl, rfl, rfl, by decide +kernel, rfl, by decide +kernel, by decide +kernel⟩
  refine ⟨fd, F.ok sc (fun vs H Q E h => ?_) (fun cdv A outer s H vs Q E hr h => ?_), FunD.bindsN F fun _ _ _ _ _ _ us hl => match us, hl with | [_, _], _ => rfl⟩
  · obtain ⟨a, v, rfl, _⟩ := h
    rfl
  · exact ⟨_, PSs.nox (pss_one (ps_ost (pv 0) (pv 1))), ini1_run I.T (I.no _ (by simp)) h fun _ _ => rfl⟩
theorem ok_NoName (T : Tx K mg) : ∃ fd, FnOk P w K mg base CX0 1 (He.ma K (He.ga K "NoName") "__init__") fd ["self", "name"] (spIni1 K (He.ga K "NoName") "name") ∧ Binds K fd ["self", "name"] [] := by
  obtain ⟨fd, F⟩ := T.d.def_ 20 (d := d_NoName) rfl
  have I := T.ini 20 (x := "NoName") (fs := ["name"]) rfl
  have sc : FnScope ["self", "name"] ["self", "name"] (defScope (ini 14)) := ⟨rfl, rfl, rfl, by decide +kernel, rfl, by decide +kernel, by decide +kernel⟩
  refine ⟨fd, F.ok sc (fun vs H Q E h => ?_) (fun cdv A outer s H vs Q E hr h => ?_), FunD.bindsN F fun _ _ _ _ _ _ us hl => match us, hl with | [_, _], _ => rfl⟩
  · obtain ⟨a, v, rfl, _⟩ := h
    rfl
  · exact ⟨_, PSs.nox (pss_one (ps_ost (pv 0) (pv 1))), ini1_run I.T (I.no _ (by simp)) h fun _ _ => rfl⟩
theorem ok_NoNumber (T : Tx K mg) : ∃ fd, FnOk P w K mg base CX0 1 (He.ma K (He.ga K "NoNumber") "__init__") fd ["self", "n"] (spIni1 K (He.ga K "NoNumber") "n") ∧ Binds K fd ["self", "n"] [] := by
  obtain ⟨fd, F⟩ := T.d.def_ 21 (d := d_NoNumber) rfl
  have I := T.ini 21 (x := "NoNumber") (fs := ["n"]) rfl
  have sc : FnScope ["self", "n"] ["self", "n"] (defScope (ini 39)) := ⟨rfl, rfl, rfl, by decide +kernel, rfl, by decide +kernel, by decide +kernel⟩
  refine ⟨fd, F.ok sc (fun vs H Q E h => ?_) (fun cdv A outer s H vs Q E hr h => ?_), FunD.bindsN F fun _ _ _ _ _ _ us hl => match us, hl with | [_, _], _ => rfl⟩
  · obtain ⟨a, v, rfl, _⟩ := h
    rfl
  · exact ⟨_, PSs.nox (pss_one (ps_ost (pv 0) (pv 1))), ini1_run I.T (I.no _ (by simp)) h fun _ _ => rfl⟩
theorem ok_NoPlace (T : Tx K mg) : ∃ fd, FnOk P w K mg base CX0 1 (He.ma K (He.ga K "NoPlace") "__init__") fd ["self", "place"] (spIni1 K (He.ga K "NoPlace") "place") ∧ Binds K fd ["self", "place"] [] := by
  obtain ⟨fd, F⟩ := T.d.def_ 22 (d := d_NoPlace) rfl
  have I := T.ini 22 (x := "NoPlace") (fs := ["place"]) rfl
  have sc : FnScope ["self", "place"] ["self", "place"] (defScope (ini 24)) := ⟨rfl, rfl, rfl, by decide +kernel, rfl, by decide +kernel, by decide +kernel⟩
  refine ⟨fd, F.ok sc (fun vs H Q E h => ?_) (fun cdv A outer s H vs Q E hr h => ?_), FunD.bindsN F fun _ _ _ _ _ _ us hl => match us, hl with | [_, _], _ => rfl⟩
  · obtain ⟨a, v, rfl, _⟩ := h
    rfl
  · exact ⟨_, PSs.nox (pss_one (ps_ost (pv 0) (pv 1))), ini1_run I.T (I.no _ (by simp)) h fun _ _ => rfl⟩
theorem ok_NoRegister (T : Tx K mg) : ∃ fd, FnOk P w K mg base CX0 1 (He.ma K (He.ga K "NoRegister") "__init__") fd ["self", "side", "name"] (spIni2 K (He.ga K "NoRegister") "side" "name") ∧ Binds K fd ["self", "side", "name"] [] := by
  obtain ⟨fd, F⟩ := T.d.def_ 23 (d := d_NoRegister) rfl
  have I := T.ini 23 (x := "NoRegister") (fs := ["side", "name"]) rfl
  have sc : FnScope ["self", "side", "name"] ["self", "side", "name"] (defScope (ini 21)) := ⟨rfl, rfl, rfl, by decide +kernel, rfl, by decide +kernel, by decide +kernel⟩
  refine ⟨fd, F.ok sc (fun vs H Q E h => ?_) (fun cdv A outer s H vs Q E hr h => ?_), FunD.bindsN F fun _ _ _ _ _ _ us hl => match us, hl with | [_, _, _], _ => rfl⟩
  · obtain ⟨a, v, u, rfl, _⟩ := h
    rfl
  · exact ⟨_, PSs.nox (pss_cons (ps_ost (pv 0) (pv 1)) (pss_one (ps_ost (pv 0) (pv 2)))), ini2_run I.T (I.no _ (by simp)) (I.no _ (by simp)) h fun _ _ _ => rfl⟩
theorem ok_NoSection (T : Tx K mg) : ∃ fd, FnOk P w K mg base CX0 1 (He.ma K (He.ga K "NoSection") "__init__") fd ["self", "word"] (spIni1 K (He.ga K "NoSection") "word") ∧ Binds K fd ["self", "word"] [] := by
  obtain ⟨fd, F⟩ := T.d.def_ 24 (d := d_NoSection) rfl
  have I := T.ini 24 (x := "NoSection") (fs := ["word"]) rfl
  have sc : FnScope ["self", "word"] ["self", "word"] (defScope (ini 9)) := ⟨rfl, rfl, rfl, by decide +kernel, rfl, by decide +kernel, by decide +kernel⟩
  refine ⟨fd, F.ok sc (fun vs H Q E h => ?_) (fun cdv A outer s H vs Q E hr h => ?_), FunD.bindsN F fun _ _ _ _ _ _ us hl => match us, hl with | [_, _], _ => rfl⟩
  · obtain ⟨a, v, rfl, _⟩ := h
    rfl
  · exact ⟨_, PSs.nox (pss_one (ps_ost (pv 0) (pv 1))), ini1_run I.T (I.no _ (by simp)) h fun _ _ => rfl⟩
theorem ok_NoTest (T : Tx K mg) : ∃ fd, FnOk P w K mg base CX0 1 (He.ma K (He.ga K "NoTest") "__init__") fd ["self", "name"] (spIni1 K (He.ga K "NoTest") "name") ∧ Binds K fd ["self", "name"] [] := by
  obtain ⟨fd, F⟩ := T.d.def_ 25 (d := d_NoTest) rfl
  have I := T.ini 25 (x := "NoTest") (fs := ["name"]) rfl
  have sc : FnScope ["self", "name"] ["self", "name"] (defScope (ini 31)) := ⟨rfl, rfl, rfl, by decide +kernel, rfl, by decide +kernel, by decide +kernel⟩
  refine ⟨fd, F.ok sc (fun vs H Q E h => ?_) (fun cdv A outer s H vs Q E hr h => ?_), FunD.bindsN F fun _ _ _ _ _ _ us hl => match us, hl with | [_, _], _ => rfl⟩
  · obtain ⟨a, v, rfl, _⟩ := h
    rfl
  · exact ⟨_, PSs.nox (pss_one (ps_ost (pv 0) (pv 1))), ini1_run I.T (I.no _ (by simp)) h fun _ _ => rfl⟩
theorem ok_NoThing (T : Tx K mg) : ∃ fd, FnOk P w K mg base CX0 1 (He.ma K (He.ga K "NoThing") "__init__") fd ["self", "index"] (spIni1 K (He.ga K "NoThing") "index") ∧ Binds K fd ["self", "index"] [] := by
  obtain ⟨fd, F⟩ := T.d.def_ 26 (d := d_NoThing) rfl
  have I := T.ini 26 (x := "NoThing") (fs := ["index"]) rfl
  have sc : FnScope ["self", "index"] ["self", "index"] (defScope (ini 16)) := ⟨rfl, rfl, rfl, by decide +kernel, rfl, by decide +kernel, by decide +kernel⟩
  refine ⟨fd, F.ok sc (fun vs H Q E h => ?_) (fun cdv A outer s H vs Q E hr h => ?_), FunD.bindsN F fun _ _ _ _ _ _ us hl => match us, hl with | [_, _], _ => rfl⟩
  · obtain ⟨a, v, rfl, _⟩ := h
    rfl
  · exact ⟨_, PSs.nox (pss_one (ps_ost (pv 0) (pv 1))), ini1_run I.T (I.no _ (by simp)) h fun _ _ => rfl⟩
theorem ok_NoThings (T : Tx K mg) : ∃ fd, FnOk P w K mg base CX0 1 (He.ma K (He.ga K "NoThings") "__init__") fd ["self", "things"] (spIni1 K (He.ga K "NoThings") "things") ∧ Binds K fd ["self", "things"] [] := by
  obtain ⟨fd, F⟩ := T.d.def_ 27 (d := d_NoThings) rfl
  have I := T.ini 27 (x := "NoThings") (fs := ["things"]) rfl
  have sc : FnScope ["self", "things"] ["self", "things"] (defScope (ini 15)) := ⟨rfl, rfl, rfl, by decide +kernel, rfl, by decide +kernel, by decide +kernel⟩
  refine ⟨fd, F.ok sc (fun vs H Q E h => ?_) (fun cdv A outer s H vs Q E hr h => ?_), FunD.bindsN F fun _ _ _ _ _ _ us hl => match us, hl with | [_, _], _ => rfl⟩
  · obtain ⟨a, v, rfl, _⟩ := h
    rfl
  · exact ⟨_, PSs.nox (pss_one (ps_ost (pv 0) (pv 1))), ini1_run I.T (I.no _ (by simp)) h fun _ _ => rfl⟩
theorem ok_NoValue (T : Tx K mg) : ∃ fd, FnOk P w K mg base CX0 1 (He.ma K (He.ga K "NoValue") "__init__") fd ["self", "thing"] (spIni1 K (He.ga K "NoValue") "thing") ∧ Binds K fd ["self", "thing"] [] := by
  obtain ⟨fd, F⟩ := T.d.def_ 28 (d := d_NoValue) rfl
  have I := T.ini 28 (x := "NoValue") (fs := ["thing"]) rfl
  have sc : FnScope ["self", "thing"] ["self", "thing"] (defScope (ini 20)) := ⟨rfl, rfl, rfl, by decide +kernel, rfl, by decide +kernel, by decide +kernel⟩
  refine ⟨fd, F.ok sc (fun vs H Q E h => ?_) (fun cdv A outer s H vs Q E hr h => ?_), FunD.bindsN F fun _ _ _ _ _ _ us hl => match us, hl with | [_, _], _ => rfl⟩
  · obtain ⟨a, v, rfl, _⟩ := h
    rfl
  · exact ⟨_, PSs.nox (pss_one (ps_ost (pv 0) (pv 1))), ini1_run I.T (I.no _ (by simp)) h fun _ _ => rfl⟩
theorem ok_TooMany (T : Tx K mg) : ∃ fd, FnOk P w K mg base CX0 1 (He.ma K (He.ga K "TooMany") "__init__") fd ["self", "total"] (spIni1 K (He.ga K "TooMany") "total") ∧ Binds K fd ["self", "total"] [] := by
  obtain ⟨fd, F⟩ := T.d.def_ 29 (d := d_TooMany) rfl
  have I := T.ini 29 (x := "TooMany") (fs := ["total"]) rfl
  have sc : FnScope ["self", "total"] ["self", "total"] (defScope (ini 23)) := ⟨rfl, rfl, rfl, by decide +kernel, rfl, by decide +kernel, by decide +kernel⟩
  refine ⟨fd, F.ok sc (fun vs H Q E h => ?_) (fun cdv A outer s H vs Q E hr h => ?_), FunD.bindsN F fun _ _ _ _ _ _ us hl => match us, hl with | [_, _], _ => rfl⟩
  · obtain ⟨a, v, rfl, _⟩ := h
    rfl
  · exact ⟨_, PSs.nox (pss_one (ps_ost (pv 0) (pv 1))), ini1_run I.T (I.no _ (by simp)) h fun _ _ => rfl⟩
theorem ok_UsedResult (T : Tx K mg) : ∃ fd, FnOk P w K mg base CX0 1 (He.ma K (He.ga K "UsedResult") "__init__") fd ["self", "place"] (spIni1 K (He.ga K "UsedResult") "place") ∧ Binds K fd ["self", "place"] [] := by
  obtain ⟨fd, F⟩ := T.d.def_ 30 (d := d_UsedResult) rfl
  have I := T.ini 30 (x := "UsedResult") (fs := ["place"]) rfl
  have sc : FnScope ["self", "place"] ["self", "place"] (defScope (ini 33)) := ⟨rfl, rfl, rfl, by decide +kernel, rfl, by decide +kernel, by decide +kernel⟩
  refine ⟨fd, F.ok sc (fun vs H Q E h => ?_) (fun cdv A outer s H vs Q E hr h => ?_), FunD.bindsN F fun _ _ _ _ _ _ us hl => match us, hl with | [_, _], _ => rfl⟩
  · obtain ⟨a, v, rfl, _⟩ := h
    rfl
  · exact ⟨_, PSs.nox (pss_one (ps_ost (pv 0) (pv 1))), ini1_run I.T (I.no _ (by simp)) h fun _ _ => rfl⟩
end
end K1
namespace KV
open PySem PySem.Spec PyProof.Rows L2 Evl
/-! ### data -/
/-- a value with its data -/
def XV (H : Hp) (v : V) (d : PyData) : Prop := (∃ n, v = .int n ∧ d = .int n) ∨ (∃ z, PyData.strOk z = true ∧ v = .str z ∧ d = .str z) ∨
  (∃ p n z, PyData.strOk z = true ∧ v = .ref p ∧ H p = some (.tup [.str z, .int n]) ∧ d = .tuple [.str z, .int n]) ∨ (v = .non ∧ d = .none)
theorem XV.ex {H H' : Hp} {v : V} {d : PyData} (e : Ex H H') (h : XV H v d) : XV H' v d := by
  rcases h with h | h | ⟨p, n, z, h0, h1, h2, h3⟩ | h
  · exact .inl h
  · exact .inr (.inl h)
  · exact .inr (.inr (.inl ⟨p, n, z, h0, h1, e _ _ h2, h3⟩))
  · exact .inr (.inr (.inr h))
theorem XV.dp {K : PySem.W.Frag} {H : Hp} {v : V} {d : PyData} (h : XV H v d) : Dp K H v d := by
  rcases h with ⟨n, rfl, rfl⟩ | ⟨z, hz, rfl, rfl⟩ | ⟨p, n, z, hz, rfl, h2, rfl⟩ | ⟨rfl, rfl⟩
  · exact .int n
  · exact .str z
  · exact .tup (SqT.of h2) (.cons (.str z) (.cons (.int n) .nil))
  · exact .non
theorem XV.eqv {H : Hp} {v : V} {d : PyData} (h : XV H v d) : PyData.eqv d d = true := by
  rcases h with ⟨n, rfl, rfl⟩ | ⟨z, hz, rfl, rfl⟩ | ⟨p, n, z, hz, rfl, h2, rfl⟩ | ⟨rfl, rfl⟩ <;> simp [PyData.eqv, PyData.eqvAll]
theorem XV.shaped {H : Hp} {v : V} {d : PyData} (h : XV H v d) : SeqAt.shaped d = true := by
  rcases h with ⟨n, rfl, rfl⟩ | ⟨z, hz, rfl, rfl⟩ | ⟨p, n, z, hz, rfl, h2, rfl⟩ | ⟨rfl, rfl⟩ 
  · rfl
  · simp [SeqAt.shaped, PyData.canLay0, PyData.depth, hz]
  · simp [SeqAt.shaped, PyData.canLay0, PyData.canLayAll0, PyData.depth, PyData.depthAll, hz]
  · rfl
/-! ### expressions that make a list of what is told -/
theorem el_cat {σ : L2.St} {H : Hp} {ta tb : TE} {l : Addr} {xs ys : List V} (ha : Ev ta σ H (.ref l)) (hl : H l = some (.lst xs)) (hb : EvL tb σ H ys) (hz : xs.length + ys.length ≤ 100000) : EvL (tOp rCat ta tb) σ H (xs ++ ys) := fun H1 e Q q =>
  ha H1 e _ fun H2 e2 => hb H2 (e.trans e2) _ fun b H3 _ e3 h3 => ⟨l, b, xs, ys, rfl, rfl, e3 _ _ (e2 _ _ (e _ _ hl)), h3, sz_of hz, fun p hp =>
    q p _ (fresh_back (e2.trans e3) hp) ((e2.trans e3).trans (Ex.new hp)) upd_same⟩
/-- xs.extend(e), e a new list -/
theorem q_ext {K : PySem.W.Frag} {σ : L2.St} {H : Hp} {ta te : TE} {tz : TS} {D : Ends} {l : Addr} {xs ys : List V} (hl : H l = some (.lst xs)) (ha : Ev ta σ H (.ref l)) (h : EvL te σ H ys) (hz : xs.length + ys.length ≤ 100000)
    (k : ∀ H1, Ex H H1 → tz D σ (upd H1 l (.lst (xs ++ ys)))) : tSeq (tDrop (tBM K "list" rExtend ta (tCons te tNil))) tz D σ H := ha H (Ex.refl H) _ fun H1 e1 =>
  ⟨.inl ⟨rfl, xs, sq_of (e1 l _ hl)⟩, h H1 e1 _ fun p H2 _ e2 h2 => ⟨l, p, xs, ys, rfl, rfl, e2 l _ (e1 l _ hl), h2, sz_of hz, k H2 (e1.trans e2)⟩⟩
/-! ### how often a truth value stands in a list -/
theorem reads_bools {h : Heap} : ∀ {bs : List Bool} {us : List Value}, Vals (bs.map V.bl) us → ∃ as, ReadsAll h us (bs.map PyData.bool) as
  | [], _, .nil => ⟨_, .nil⟩
  | b :: bs, u :: us, .cons r t => by
    obtain ⟨as, z⟩ := reads_bools t
    cases (show u = Value.bool b from r)
    exact ⟨_, .cons (.bool b) z⟩
theorem countIn_bools (k : Bool) : ∀ bs : List Bool, countIn (.bool k) (bs.map PyData.bool) = ((bs.count k : Nat) : Int)
  | [] => rfl
  | b :: bs => by
    show (if same (.bool b) (.bool k) = true then (1 : Int) else 0) + countIn (.bool k) (bs.map PyData.bool) = _
    rw [countIn_bools k bs, List.count_cons]
    cases b <;> cases k <;> simp [same] <;> omega
def rCntB (K : PySem.W.Frag) : V → List V → Hp → VK → Prop := fun x xs H Q => ∃ (p : Addr) (bs : List Bool) (k : Bool), x = .ref p ∧ xs = [.bl k] ∧ SqL K H p (bs.map V.bl) ∧ Q (.int (bs.count k : Nat)) H
theorem mt_cntB {X : Cx} : MtR X "list.count" (rCntB X.K) := by
  rintro pins s σ H x xs v us Q I rx rxs ⟨p, bs, k, rfl, rfl, hs, q⟩
  cases rx
  obtain ⟨u, rfl, ru⟩ := rxs.one
  cases (show u = Value.bool k from ru)
  obtain ⟨its, rv, ⟨o, n, ho, hc, _, hd⟩, _⟩ := I.list hs
  obtain ⟨as, ra⟩ := reads_bools (h := s.heap) rv
  refine PyProof.Rows.count_list_bools ⟨o, ho, hc, n, hd⟩ ra ?_ ⟨.int (bs.count k : Nat), H, I.tok _, ⟨s.toks, ?_⟩, q⟩
  · simp [List.all_map, Function.comp_def, PySem.Spec.Shape.has]
  · rw [countIn_bools]
end KV
namespace K1
open PySem PySem.Spec PyProof.Rows L2 KV Evl
section
variable {K : PySem.W.Frag} {mg : Str → Option Value} {P : Program} {w : World} {base : Heap}
/-! ### _law_cell(script, 0) -/
def spC (K : PySem.W.Frag) : Sp := fun vs H Q _ => ∃ (l : Addr) (ns : List Int), vs = [.ref l, .int 0] ∧ SqL K H l (ns.map V.int) ∧ Q (.int (ns.getD 0 0)) H
theorem sc_cell : FnScope ["_law_script", "_law_k"] ["_law_script", "_law_k"] (defScope (top 41)) := ⟨rfl, rfl, rfl, by decide +kernel, rfl, by decide +kernel, by decide +kernel⟩
theorem ok_cell (T : Tx K mg) : ∃ fd, FnOk P w K mg base CX0 1 (He.ga K "_law_cell") fd ["_law_script", "_law_k"] (spC K) ∧ Binds K fd ["_law_script", "_law_k"] [] := by
  obtain ⟨fd, F⟩ := T.d.def_ 31 (d := d__law_cell) rfl
  refine ⟨fd, F.ok sc_cell (fun vs H Q E h => ?_) (fun cdv A outer s H vs Q E hr h => ?_), FunD.bindsN F fun _ _ _ _ _ _ us hl => match us, hl with | [_, _], _ => rfl⟩
  · obtain ⟨l, ns, rfl, _⟩ := h
    rfl
  · refine ⟨_, PSs.nox (pss_cons (ps_if (pt_cmpR op_lt (pv 1) (pe_callB call_len rfl (T.fr 46 rfl) boot_len (pa_cons (pv 0) pa_nil)) (nomark _)) (pss_one (ps_ret (pe_ix ix_list (pv 0) (pv 1) fun _ _ => rfl))) pss_nil) (pss_one (ps_ret pe_int))), ?_⟩
    obtain ⟨l, ns, rfl, hs, q⟩ := h
    refine ⟨_, rfl, _, rfl, _, (ns.map V.int).length, rfl, .inl ⟨_, hs, rfl⟩, _, _, rfl, rfl, _, rfl, ?_⟩
    cases ns with
    | nil => exact iteF q
    | cons n r =>
      have hd : decide ((0 : Int) < (((n :: r).map V.int).length : Nat)) = true := decide_eq_true (by simp)
      rw [hd]
      exact iteT ⟨_, rfl, _, rfl, l, _, 0, _, rfl, rfl, hs, atI_nat (j := 0) rfl, q⟩
/-! ### _law_value(cell) -/
def spV : Sp := fun vs H Q _ => ∃ c : Int, vs = [.int c] ∧ ∀ v d H2, Ex H H2 → XV H2 v d → Q v H2
theorem sc_value : FnScope ["_law_cell_here", "_law_number"] ["_law_cell_here"] (defScope (top 42)) := ⟨rfl, rfl, rfl, by decide +kernel, rfl, by decide +kernel, by decide +kernel⟩
theorem mod_lt {i : Int} {k : Nat} (hk : 0 < k) : ∃ j : Nat, j < k ∧ i.fmod (k : Int) = (j : Int) := by
  have h0 : (0 : Int) ≤ (k : Int) := Int.natCast_nonneg k
  have h1 := Int.fmod_nonneg_of_pos i (show (0 : Int) < (k : Int) by omega)
  have h2 := Int.fmod_lt_of_pos i (show (0 : Int) < (k : Int) by omega)
  exact ⟨(i.fmod (k : Int)).toNat, by omega, by omega⟩
theorem ok_value (T : Tx K mg) : ∃ fd, FnOk P w K mg base CX0 1 (He.ga K "_law_value") fd ["_law_cell_here"] spV ∧ Binds K fd ["_law_cell_here"] [] := by
  obtain ⟨fd, F⟩ := T.d.def_ 32 (d := d__law_value) rfl
  refine ⟨fd, F.ok sc_value (fun vs H Q E h => ?_) (fun cdv A outer s H vs Q E hr h => ?_), FunD.bindsN F fun _ _ _ _ _ _ us hl => match us, hl with | [_], _ => rfl⟩
  · obtain ⟨c, rfl, _⟩ := h
    rfl
  · refine ⟨_, PSs.nox (pss_cons (ps_set (i := 1) sc_value.nd rfl (Or.inl rfl) (pe_op op_modN (pe_callTy call_int1 (by rfl) (T.fr 47 rfl) PyProof.Rows.boot_int (pa_cons (pv 0) pa_nil)) (pe_op op_pow pe_int pe_int)))
      (pss_one (ps_ret (pe_ix ix_list (pe_lst (pa_cons (pv 1) (pa_cons (pe_op op_add_str pe_str (pe_ix ix_str pe_str (pe_op op_modN (pv 1) pe_int) fun _ _ => rfl)) (pa_cons (pe_tup (pa_cons pe_str (pa_cons (pv 1) pa_nil))) (pa_cons pe_non pa_nil)))))
        (pe_op op_modN (pv 1) pe_int) fun _ _ => rfl)))), ?_⟩
    obtain ⟨c, rfl, q⟩ := h
    refine ⟨_, rfl, .inl ⟨c, rfl, 10, 60, rfl, rfl, ⟨by decide, by decide, by decide⟩, c, (10 : Int) ^ (60 : Int).toNat, rfl, rfl, (by show (10 : Int) ^ (60 : Int).toNat ≠ 0; decide), ?_⟩⟩
    show gName 1 (V.int (c.fmod ((10 : Int) ^ (60 : Int).toNat))) _ _ _
    generalize hn : c.fmod ((10 : Int) ^ (60 : Int).toNat) = n
    obtain ⟨j, hj, ej⟩ := mod_lt (i := n) (k := 3) (by decide)
    obtain ⟨i, hi, ei⟩ := mod_lt (i := n) (k := 4) (by decide)
    have e3 : n.fmod 3 = (j : Int) := ej
    have e4 : n.fmod 4 = (i : Int) := ei
    have hc : ∃ ch : Nat, atI ("abc" : Str).cps.toList (n.fmod 3) = some ch ∧ PyData.strOk (("v" : Str) ++ ⟨#[ch]⟩) = true := by
      rw [e3]
      match j, hj with
      | 0, _ => exact ⟨97, by decide +kernel, by decide +kernel⟩
      | 1, _ => exact ⟨98, by decide +kernel, by decide +kernel⟩
      | 2, _ => exact ⟨99, by decide +kernel, by decide +kernel⟩
    obtain ⟨ch, hch, hok⟩ := hc
    refine ⟨_, rfl, _, rfl, n, 3, rfl, rfl, (by show (3 : Int) ≠ 0; decide), _, _, ch, rfl, rfl, (by decide +kernel), hch, _, _, rfl, rfl, (by show ("v" : Str).length + 1 ≤ sizeLine; decide +kernel), ?_⟩
    refine ⟨_, rfl, (by show 2 ≤ sizeLine; decide), fun p hp => ⟨(by show 4 ≤ sizeLine; decide), fun l hl => ⟨_, rfl, n, 4, rfl, rfl, (by show (4 : Int) ≠ 0; decide), ?_⟩⟩⟩
    have hpl : p ≠ l := ne_of_none (o := .tup [.str "start", .int n]) upd_same hl
    have e0 : Ex H (upd (upd H p (.tup [.str "start", .int n])) l (.lst [.int n, .str (("v" : Str) ++ ⟨#[ch]⟩), .ref p, .non])) := (Ex.new hp).trans (Ex.new hl)
    refine ⟨l, _, n.fmod 4, [V.int n, V.str (("v" : Str) ++ ⟨#[ch]⟩), V.ref p, V.non].getD i .non, rfl, rfl, SqL.of upd_same, ?_, ?_⟩
    · rw [e4]
      match i, hi with
      | 0, _ => exact atI_nat (j := 0) rfl
      | 1, _ => exact atI_nat (j := 1) rfl
      | 2, _ => exact atI_nat (j := 2) rfl
      | 3, _ => exact atI_nat (j := 3) rfl
    · match i, hi with
      | 0, _ => exact q _ _ _ e0 (.inl ⟨n, rfl, rfl⟩)
      | 1, _ => exact q _ _ _ e0 (.inr (.inl ⟨_, hok, rfl, rfl⟩))
      | 2, _ => exact q _ _ _ e0 (.inr (.inr (.inl ⟨p, n, _, by decide +kernel, rfl, (upd_ne hpl).trans upd_same, rfl⟩)))
      | 3, _ => exact q _ _ _ e0 (.inr (.inr (.inr ⟨rfl, rfl⟩)))
end
end K1
namespace K1
open PySem PySem.Spec PyProof.Rows L2 KV Evl
section
variable {K : PySem.W.Frag} {mg : Str → Option Value} {P : Program} {w : World} {base : Heap}
/-! ### _law_flags(e) -/
def fl (i j : Nat) : Bool := decide (i = j)
def flagsL (i : Nat) : List V := ((List.range 38).map (fl i)).map V.bl
def spF (K : PySem.W.Frag) : Sp := fun vs H Q _ => ∃ (a : Addr) (i : Nat) (fs : List (Str × V)), vs = [.ref a] ∧ i < 38 ∧ IsEx H a (cl K i) fs ∧ RetL (flagsL i) H Q
theorem ev_isi (T : Tx K mg) {σ : L2.St} {H H0 : Hp} {a : Addr} {i j : Nat} {fs : List (Str × V)} (h0 : σ[0]? = some (some (.ref a))) (hi : i < 38) (hj : j < 38) (hx : IsEx H0 a (cl K i) fs) (e0 : Ex H0 H) :
    Ev (tCB (rIsX K) (tCons (tVar 0) (tCons (tC (.ref (cl K j))) tNil))) σ H (.bl (fl i j)) :=
  ev_cb (ea_cons (ev_var h0) (ea_cons ev_c ea_nil)) fun H1 e Q q => ⟨a, cl K i, fs, _, _, _, rfl, hx.ex (e0.trans e), (T.up hi).ix, .own _, T.mat hi hj, q H1 (Ex.refl H1)⟩
theorem sc_flags : FnScope ["_law_e", "_law_out"] ["_law_e"] (defScope (top 43)) := ⟨rfl, rfl, rfl, by decide +kernel, rfl, by decide +kernel, by decide +kernel⟩
theorem ok_flags (T : Tx K mg) : ∃ fd, FnOk P w K mg base CX0 1 (He.ga K "_law_flags") fd ["_law_e"] (spF K) ∧ Binds K fd ["_law_e"] [] := by
  obtain ⟨fd, F⟩ := T.d.def_ 33 (d := d__law_flags) rfl
  refine ⟨fd, F.ok sc_flags (fun vs H Q E h => ?_) (fun cdv A outer s H vs Q E hr h => ?_), FunD.bindsN F fun _ _ _ _ _ _ us hl => match us, hl with | [_], _ => rfl⟩
  · obtain ⟨a, i, fs, rfl, _⟩ := h
    rfl
  · have gi : mg "isinstance" = none := (T.fr 48 rfl)
    refine ⟨_, PSs.nox (pss_cons (ps_set (i := 1) sc_flags.nd rfl (Or.inl rfl) (pe_lst (pa_cons (pe_callB call_isX (by rfl) gi PyProof.Rows.boot_isinstance (pa_cons (pv 0) (pa_cons (pe_glob (v := .ref (cl K 0)) rfl (T.gl 0 rfl) rfl) pa_nil))) (pa_cons (pe_callB call_isX (by rfl) gi PyProof.Rows.boot_isinstance (pa_cons (pv 0) (pa_cons (pe_glob (v := .ref (cl K 1)) rfl (T.gl 1 rfl) rfl) pa_nil))) (pa_cons (pe_callB call_isX (by rfl) gi PyProof.Rows.boot_isinstance (pa_cons (pv 0) (pa_cons (pe_glob (v := .ref (cl K 2)) rfl (T.gl 2 rfl) rfl) pa_nil))) (pa_cons (pe_callB call_isX (by rfl) gi PyProof.Rows.boot_isinstance (pa_cons (pv 0) (pa_cons (pe_glob (v := .ref (cl K 3)) rfl (T.gl 3 rfl) rfl) pa_nil))) pa_nil))))))
      (pss_cons (ps_expr (pe_bm PySem.F.plainAttrs_list PySem.F.slot_list_extend PySem.F.type_list_extend mt_extend (pv 1) (pa_cons (pe_lst (pa_cons (pe_callB call_isX (by rfl) gi PyProof.Rows.boot_isinstance (pa_cons (pv 0) (pa_cons (pe_glob (v := .ref (cl K 4)) rfl (T.gl 4 rfl) rfl) pa_nil))) (pa_cons (pe_callB call_isX (by rfl) gi PyProof.Rows.boot_isinstance (pa_cons (pv 0) (pa_cons (pe_glob (v := .ref (cl K 5)) rfl (T.gl 5 rfl) rfl) pa_nil))) (pa_cons (pe_callB call_isX (by rfl) gi PyProof.Rows.boot_isinstance (pa_cons (pv 0) (pa_cons (pe_glob (v := .ref (cl K 6)) rfl (T.gl 6 rfl) rfl) pa_nil))) pa_nil)))) pa_nil)))
      (pss_cons (ps_expr (pe_bm PySem.F.plainAttrs_list PySem.F.slot_list_extend PySem.F.type_list_extend mt_extend (pv 1) (pa_cons (pe_lst (pa_cons (pe_callB call_isX (by rfl) gi PyProof.Rows.boot_isinstance (pa_cons (pv 0) (pa_cons (pe_glob (v := .ref (cl K 7)) rfl (T.gl 7 rfl) rfl) pa_nil))) (pa_cons (pe_callB call_isX (by rfl) gi PyProof.Rows.boot_isinstance (pa_cons (pv 0) (pa_cons (pe_glob (v := .ref (cl K 8)) rfl (T.gl 8 rfl) rfl) pa_nil))) (pa_cons (pe_callB call_isX (by rfl) gi PyProof.Rows.boot_isinstance (pa_cons (pv 0) (pa_cons (pe_glob (v := .ref (cl K 9)) rfl (T.gl 9 rfl) rfl) pa_nil))) pa_nil)))) pa_nil)))
      (pss_cons (ps_expr (pe_bm PySem.F.plainAttrs_list PySem.F.slot_list_extend PySem.F.type_list_extend mt_extend (pv 1) (pa_cons (pe_lst (pa_cons (pe_callB call_isX (by rfl) gi PyProof.Rows.boot_isinstance (pa_cons (pv 0) (pa_cons (pe_glob (v := .ref (cl K 10)) rfl (T.gl 10 rfl) rfl) pa_nil))) (pa_cons (pe_callB call_isX (by rfl) gi PyProof.Rows.boot_isinstance (pa_cons (pv 0) (pa_cons (pe_glob (v := .ref (cl K 11)) rfl (T.gl 11 rfl) rfl) pa_nil))) (pa_cons (pe_callB call_isX (by rfl) gi PyProof.Rows.boot_isinstance (pa_cons (pv 0) (pa_cons (pe_glob (v := .ref (cl K 12)) rfl (T.gl 12 rfl) rfl) pa_nil))) pa_nil)))) pa_nil)))
      (pss_cons (ps_expr (pe_bm PySem.F.plainAttrs_list PySem.F.slot_list_extend PySem.F.type_list_extend mt_extend (pv 1) (pa_cons (pe_lst (pa_cons (pe_callB call_isX (by rfl) gi PyProof.Rows.boot_isinstance (pa_cons (pv 0) (pa_cons (pe_glob (v := .ref (cl K 13)) rfl (T.gl 13 rfl) rfl) pa_nil))) (pa_cons (pe_callB call_isX (by rfl) gi PyProof.Rows.boot_isinstance (pa_cons (pv 0) (pa_cons (pe_glob (v := .ref (cl K 14)) rfl (T.gl 14 rfl) rfl) pa_nil))) (pa_cons (pe_callB call_isX (by rfl) gi PyProof.Rows.boot_isinstance (pa_cons (pv 0) (pa_cons (pe_glob (v := .ref (cl K 15)) rfl (T.gl 15 rfl) rfl) pa_nil))) pa_nil)))) pa_nil)))
      (pss_cons (ps_expr (pe_bm PySem.F.plainAttrs_list PySem.F.slot_list_extend PySem.F.type_list_extend mt_extend (pv 1) (pa_cons (pe_lst (pa_cons (pe_callB call_isX (by rfl) gi PyProof.Rows.boot_isinstance (pa_cons (pv 0) (pa_cons (pe_glob (v := .ref (cl K 16)) rfl (T.gl 16 rfl) rfl) pa_nil))) (pa_cons (pe_callB call_isX (by rfl) gi PyProof.Rows.boot_isinstance (pa_cons (pv 0) (pa_cons (pe_glob (v := .ref (cl K 17)) rfl (T.gl 17 rfl) rfl) pa_nil))) (pa_cons (pe_callB call_isX (by rfl) gi PyProof.Rows.boot_isinstance (pa_cons (pv 0) (pa_cons (pe_glob (v := .ref (cl K 18)) rfl (T.gl 18 rfl) rfl) pa_nil))) pa_nil)))) pa_nil)))
      (pss_cons (ps_expr (pe_bm PySem.F.plainAttrs_list PySem.F.slot_list_extend PySem.F.type_list_extend mt_extend (pv 1) (pa_cons (pe_lst (pa_cons (pe_callB call_isX (by rfl) gi PyProof.Rows.boot_isinstance (pa_cons (pv 0) (pa_cons (pe_glob (v := .ref (cl K 19)) rfl (T.gl 19 rfl) rfl) pa_nil))) (pa_cons (pe_callB call_isX (by rfl) gi PyProof.Rows.boot_isinstance (pa_cons (pv 0) (pa_cons (pe_glob (v := .ref (cl K 20)) rfl (T.gl 20 rfl) rfl) pa_nil))) (pa_cons (pe_callB call_isX (by rfl) gi PyProof.Rows.boot_isinstance (pa_cons (pv 0) (pa_cons (pe_glob (v := .ref (cl K 21)) rfl (T.gl 21 rfl) rfl) pa_nil))) (pa_cons (pe_callB call_isX (by rfl) gi PyProof.Rows.boot_isinstance (pa_cons (pv 0) (pa_cons (pe_glob (v := .ref (cl K 22)) rfl (T.gl 22 rfl) rfl) pa_nil))) pa_nil))))) pa_nil)))
      (pss_cons (ps_expr (pe_bm PySem.F.plainAttrs_list PySem.F.slot_list_extend PySem.F.type_list_extend mt_extend (pv 1) (pa_cons (pe_lst (pa_cons (pe_callB call_isX (by rfl) gi PyProof.Rows.boot_isinstance (pa_cons (pv 0) (pa_cons (pe_glob (v := .ref (cl K 23)) rfl (T.gl 23 rfl) rfl) pa_nil))) (pa_cons (pe_callB call_isX (by rfl) gi PyProof.Rows.boot_isinstance (pa_cons (pv 0) (pa_cons (pe_glob (v := .ref (cl K 24)) rfl (T.gl 24 rfl) rfl) pa_nil))) (pa_cons (pe_callB call_isX (by rfl) gi PyProof.Rows.boot_isinstance (pa_cons (pv 0) (pa_cons (pe_glob (v := .ref (cl K 25)) rfl (T.gl 25 rfl) rfl) pa_nil))) pa_nil)))) pa_nil)))
      (pss_cons (ps_expr (pe_bm PySem.F.plainAttrs_list PySem.F.slot_list_extend PySem.F.type_list_extend mt_extend (pv 1) (pa_cons (pe_lst (pa_cons (pe_callB call_isX (by rfl) gi PyProof.Rows.boot_isinstance (pa_cons (pv 0) (pa_cons (pe_glob (v := .ref (cl K 26)) rfl (T.gl 26 rfl) rfl) pa_nil))) (pa_cons (pe_callB call_isX (by rfl) gi PyProof.Rows.boot_isinstance (pa_cons (pv 0) (pa_cons (pe_glob (v := .ref (cl K 27)) rfl (T.gl 27 rfl) rfl) pa_nil))) (pa_cons (pe_callB call_isX (by rfl) gi PyProof.Rows.boot_isinstance (pa_cons (pv 0) (pa_cons (pe_glob (v := .ref (cl K 28)) rfl (T.gl 28 rfl) rfl) pa_nil))) pa_nil)))) pa_nil)))
      (pss_cons (ps_expr (pe_bm PySem.F.plainAttrs_list PySem.F.slot_list_extend PySem.F.type_list_extend mt_extend (pv 1) (pa_cons (pe_lst (pa_cons (pe_callB call_isX (by rfl) gi PyProof.Rows.boot_isinstance (pa_cons (pv 0) (pa_cons (pe_glob (v := .ref (cl K 29)) rfl (T.gl 29 rfl) rfl) pa_nil))) (pa_cons (pe_callB call_isX (by rfl) gi PyProof.Rows.boot_isinstance (pa_cons (pv 0) (pa_cons (pe_glob (v := .ref (cl K 30)) rfl (T.gl 30 rfl) rfl) pa_nil))) (pa_cons (pe_callB call_isX (by rfl) gi PyProof.Rows.boot_isinstance (pa_cons (pv 0) (pa_cons (pe_glob (v := .ref (cl K 31)) rfl (T.gl 31 rfl) rfl) pa_nil))) pa_nil)))) pa_nil)))
      (pss_cons (ps_expr (pe_bm PySem.F.plainAttrs_list PySem.F.slot_list_extend PySem.F.type_list_extend mt_extend (pv 1) (pa_cons (pe_lst (pa_cons (pe_callB call_isX (by rfl) gi PyProof.Rows.boot_isinstance (pa_cons (pv 0) (pa_cons (pe_glob (v := .ref (cl K 32)) rfl (T.gl 32 rfl) rfl) pa_nil))) (pa_cons (pe_callB call_isX (by rfl) gi PyProof.Rows.boot_isinstance (pa_cons (pv 0) (pa_cons (pe_glob (v := .ref (cl K 33)) rfl (T.gl 33 rfl) rfl) pa_nil))) (pa_cons (pe_callB call_isX (by rfl) gi PyProof.Rows.boot_isinstance (pa_cons (pv 0) (pa_cons (pe_glob (v := .ref (cl K 34)) rfl (T.gl 34 rfl) rfl) pa_nil))) pa_nil)))) pa_nil)))
      (pss_cons (ps_expr (pe_bm PySem.F.plainAttrs_list PySem.F.slot_list_extend PySem.F.type_list_extend mt_extend (pv 1) (pa_cons (pe_lst (pa_cons (pe_callB call_isX (by rfl) gi PyProof.Rows.boot_isinstance (pa_cons (pv 0) (pa_cons (pe_glob (v := .ref (cl K 35)) rfl (T.gl 35 rfl) rfl) pa_nil))) (pa_cons (pe_callB call_isX (by rfl) gi PyProof.Rows.boot_isinstance (pa_cons (pv 0) (pa_cons (pe_glob (v := .ref (cl K 36)) rfl (T.gl 36 rfl) rfl) pa_nil))) (pa_cons (pe_callB call_isX (by rfl) gi PyProof.Rows.boot_isinstance (pa_cons (pv 0) (pa_cons (pe_glob (v := .ref (cl K 37)) rfl (T.gl 37 rfl) rfl) pa_nil))) pa_nil)))) pa_nil)))
      (pss_one (ps_ret (pv 1))))))))))))))), ?_⟩
    obtain ⟨a, i, fs, rfl, hi, hx, q⟩ := h
    refine q_asgL (el_lst (ea_cons (ev_isi T rfl hi (j := 0) (by decide) hx (Ex.refl H)) (ea_cons (ev_isi T rfl hi (j := 1) (by decide) hx (Ex.refl H)) (ea_cons (ev_isi T rfl hi (j := 2) (by decide) hx (Ex.refl H)) (ea_cons (ev_isi T rfl hi (j := 3) (by decide) hx (Ex.refl H)) ea_nil)))) (by simp)) fun l H1 hl e1 h1 => ?_
    refine q_ext h1 (ev_var rfl) (el_lst (ea_cons (ev_isi T rfl hi (j := 4) (by decide) hx e1) (ea_cons (ev_isi T rfl hi (j := 5) (by decide) hx e1) (ea_cons (ev_isi T rfl hi (j := 6) (by decide) hx e1) ea_nil))) (by simp)) (by simp) fun H2 g2 => ?_
    have h2 := @upd_same H2 l (.lst ([V.bl (fl i 0), V.bl (fl i 1), V.bl (fl i 2), V.bl (fl i 3)] ++ [V.bl (fl i 4), V.bl (fl i 5), V.bl (fl i 6)]))
    have e2 := Ex.mut (o := .lst ([V.bl (fl i 0), V.bl (fl i 1), V.bl (fl i 2), V.bl (fl i 3)] ++ [V.bl (fl i 4), V.bl (fl i 5), V.bl (fl i 6)])) (e1.trans g2) hl
    refine q_ext h2 (ev_var rfl) (el_lst (ea_cons (ev_isi T rfl hi (j := 7) (by decide) hx e2) (ea_cons (ev_isi T rfl hi (j := 8) (by decide) hx e2) (ea_cons (ev_isi T rfl hi (j := 9) (by decide) hx e2) ea_nil))) (by simp)) (by simp) fun H3 g3 => ?_
    have h3 := @upd_same H3 l (.lst ([V.bl (fl i 0), V.bl (fl i 1), V.bl (fl i 2), V.bl (fl i 3)] ++ [V.bl (fl i 4), V.bl (fl i 5), V.bl (fl i 6)] ++ [V.bl (fl i 7), V.bl (fl i 8), V.bl (fl i 9)]))
    have e3 := Ex.mut (o := .lst ([V.bl (fl i 0), V.bl (fl i 1), V.bl (fl i 2), V.bl (fl i 3)] ++ [V.bl (fl i 4), V.bl (fl i 5), V.bl (fl i 6)] ++ [V.bl (fl i 7), V.bl (fl i 8), V.bl (fl i 9)])) (e2.trans g3) hl
    refine q_ext h3 (ev_var rfl) (el_lst (ea_cons (ev_isi T rfl hi (j := 10) (by decide) hx e3) (ea_cons (ev_isi T rfl hi (j := 11) (by decide) hx e3) (ea_cons (ev_isi T rfl hi (j := 12) (by decide) hx e3) ea_nil))) (by simp)) (by simp) fun H4 g4 => ?_
    have h4 := @upd_same H4 l (.lst ([V.bl (fl i 0), V.bl (fl i 1), V.bl (fl i 2), V.bl (fl i 3)] ++ [V.bl (fl i 4), V.bl (fl i 5), V.bl (fl i 6)] ++ [V.bl (fl i 7), V.bl (fl i 8), V.bl (fl i 9)] ++ [V.bl (fl i 10), V.bl (fl i 11), V.bl (fl i 12)]))
    have e4 := Ex.mut (o := .lst ([V.bl (fl i 0), V.bl (fl i 1), V.bl (fl i 2), V.bl (fl i 3)] ++ [V.bl (fl i 4), V.bl (fl i 5), V.bl (fl i 6)] ++ [V.bl (fl i 7), V.bl (fl i 8), V.bl (fl i 9)] ++ [V.bl (fl i 10), V.bl (fl i 11), V.bl (fl i 12)])) (e3.trans g4) hl
    refine q_ext h4 (ev_var rfl) (el_lst (ea_cons (ev_isi T rfl hi (j := 13) (by decide) hx e4) (ea_cons (ev_isi T rfl hi (j := 14) (by decide) hx e4) (ea_cons (ev_isi T rfl hi (j := 15) (by decide) hx e4) ea_nil))) (by simp)) (by simp) fun H5 g5 => ?_
    have h5 := @upd_same H5 l (.lst ([V.bl (fl i 0), V.bl (fl i 1), V.bl (fl i 2), V.bl (fl i 3)] ++ [V.bl (fl i 4), V.bl (fl i 5), V.bl (fl i 6)] ++ [V.bl (fl i 7), V.bl (fl i 8), V.bl (fl i 9)] ++ [V.bl (fl i 10), V.bl (fl i 11), V.bl (fl i 12)] ++ [V.bl (fl i 13), V.bl (fl i 14), V.bl (fl i 15)]))
    have e5 := Ex.mut (o := .lst ([V.bl (fl i 0), V.bl (fl i 1), V.bl (fl i 2), V.bl (fl i 3)] ++ [V.bl (fl i 4), V.bl (fl i 5), V.bl (fl i 6)] ++ [V.bl (fl i 7), V.bl (fl i 8), V.bl (fl i 9)] ++ [V.bl (fl i 10), V.bl (fl i 11), V.bl (fl i 12)] ++ [V.bl (fl i 13), V.bl (fl i 14), V.bl (fl i 15)])) (e4.trans g5) hl
    refine q_ext h5 (ev_var rfl) (el_lst (ea_cons (ev_isi T rfl hi (j := 16) (by decide) hx e5) (ea_cons (ev_isi T rfl hi (j := 17) (by decide) hx e5) (ea_cons (ev_isi T rfl hi (j := 18) (by decide) hx e5) ea_nil))) (by simp)) (by simp) fun H6 g6 => ?_
    have h6 := @upd_same H6 l (.lst ([V.bl (fl i 0), V.bl (fl i 1), V.bl (fl i 2), V.bl (fl i 3)] ++ [V.bl (fl i 4), V.bl (fl i 5), V.bl (fl i 6)] ++ [V.bl (fl i 7), V.bl (fl i 8), V.bl (fl i 9)] ++ [V.bl (fl i 10), V.bl (fl i 11), V.bl (fl i 12)] ++ [V.bl (fl i 13), V.bl (fl i 14), V.bl (fl i 15)] ++ [V.bl (fl i 16), V.bl (fl i 17), V.bl (fl i 18)]))
    have e6 := Ex.mut (o := .lst ([V.bl (fl i 0), V.bl (fl i 1), V.bl (fl i 2), V.bl (fl i 3)] ++ [V.bl (fl i 4), V.bl (fl i 5), V.bl (fl i 6)] ++ [V.bl (fl i 7), V.bl (fl i 8), V.bl (fl i 9)] ++ [V.bl (fl i 10), V.bl (fl i 11), V.bl (fl i 12)] ++ [V.bl (fl i 13), V.bl (fl i 14), V.bl (fl i 15)] ++ [V.bl (fl i 16), V.bl (fl i 17), V.bl (fl i 18)])) (e5.trans g6) hl
    refine q_ext h6 (ev_var rfl) (el_lst (ea_cons (ev_isi T rfl hi (j := 19) (by decide) hx e6) (ea_cons (ev_isi T rfl hi (j := 20) (by decide) hx e6) (ea_cons (ev_isi T rfl hi (j := 21) (by decide) hx e6) (ea_cons (ev_isi T rfl hi (j := 22) (by decide) hx e6) ea_nil)))) (by simp)) (by simp) fun H7 g7 => ?_
    have h7 := @upd_same H7 l (.lst ([V.bl (fl i 0), V.bl (fl i 1), V.bl (fl i 2), V.bl (fl i 3)] ++ [V.bl (fl i 4), V.bl (fl i 5), V.bl (fl i 6)] ++ [V.bl (fl i 7), V.bl (fl i 8), V.bl (fl i 9)] ++ [V.bl (fl i 10), V.bl (fl i 11), V.bl (fl i 12)] ++ [V.bl (fl i 13), V.bl (fl i 14), V.bl (fl i 15)] ++ [V.bl (fl i 16), V.bl (fl i 17), V.bl (fl i 18)] ++ [V.bl (fl i 19), V.bl (fl i 20), V.bl (fl i 21), V.bl (fl i 22)]))
    have e7 := Ex.mut (o := .lst ([V.bl (fl i 0), V.bl (fl i 1), V.bl (fl i 2), V.bl (fl i 3)] ++ [V.bl (fl i 4), V.bl (fl i 5), V.bl (fl i 6)] ++ [V.bl (fl i 7), V.bl (fl i 8), V.bl (fl i 9)] ++ [V.bl (fl i 10), V.bl (fl i 11), V.bl (fl i 12)] ++ [V.bl (fl i 13), V.bl (fl i 14), V.bl (fl i 15)] ++ [V.bl (fl i 16), V.bl (fl i 17), V.bl (fl i 18)] ++ [V.bl (fl i 19), V.bl (fl i 20), V.bl (fl i 21), V.bl (fl i 22)])) (e6.trans g7) hl
    refine q_ext h7 (ev_var rfl) (el_lst (ea_cons (ev_isi T rfl hi (j := 23) (by decide) hx e7) (ea_cons (ev_isi T rfl hi (j := 24) (by decide) hx e7) (ea_cons (ev_isi T rfl hi (j := 25) (by decide) hx e7) ea_nil))) (by simp)) (by simp) fun H8 g8 => ?_
    have h8 := @upd_same H8 l (.lst ([V.bl (fl i 0), V.bl (fl i 1), V.bl (fl i 2), V.bl (fl i 3)] ++ [V.bl (fl i 4), V.bl (fl i 5), V.bl (fl i 6)] ++ [V.bl (fl i 7), V.bl (fl i 8), V.bl (fl i 9)] ++ [V.bl (fl i 10), V.bl (fl i 11), V.bl (fl i 12)] ++ [V.bl (fl i 13), V.bl (fl i 14), V.bl (fl i 15)] ++ [V.bl (fl i 16), V.bl (fl i 17), V.bl (fl i 18)] ++ [V.bl (fl i 19), V.bl (fl i 20), V.bl (fl i 21), V.bl (fl i 22)] ++ [V.bl (fl i 23), V.bl (fl i 24), V.bl (fl i 25)]))
    have e8 := Ex.mut (o := .lst ([V.bl (fl i 0), V.bl (fl i 1), V.bl (fl i 2), V.bl (fl i 3)] ++ [V.bl (fl i 4), V.bl (fl i 5), V.bl (fl i 6)] ++ [V.bl (fl i 7), V.bl (fl i 8), V.bl (fl i 9)] ++ [V.bl (fl i 10), V.bl (fl i 11), V.bl (fl i 12)] ++ [V.bl (fl i 13), V.bl (fl i 14), V.bl (fl i 15)] ++ [V.bl (fl i 16), V.bl (fl i 17), V.bl (fl i 18)] ++ [V.bl (fl i 19), V.bl (fl i 20), V.bl (fl i 21), V.bl (fl i 22)] ++ [V.bl (fl i 23), V.bl (fl i 24), V.bl (fl i 25)])) (e7.trans g8) hl
    refine q_ext h8 (ev_var rfl) (el_lst (ea_cons (ev_isi T rfl hi (j := 26) (by decide) hx e8) (ea_cons (ev_isi T rfl hi (j := 27) (by decide) hx e8) (ea_cons (ev_isi T rfl hi (j := 28) (by decide) hx e8) ea_nil))) (by simp)) (by simp) fun H9 g9 => ?_
    have h9 := @upd_same H9 l (.lst ([V.bl (fl i 0), V.bl (fl i 1), V.bl (fl i 2), V.bl (fl i 3)] ++ [V.bl (fl i 4), V.bl (fl i 5), V.bl (fl i 6)] ++ [V.bl (fl i 7), V.bl (fl i 8), V.bl (fl i 9)] ++ [V.bl (fl i 10), V.bl (fl i 11), V.bl (fl i 12)] ++ [V.bl (fl i 13), V.bl (fl i 14), V.bl (fl i 15)] ++ [V.bl (fl i 16), V.bl (fl i 17), V.bl (fl i 18)] ++ [V.bl (fl i 19), V.bl (fl i 20), V.bl (fl i 21), V.bl (fl i 22)] ++ [V.bl (fl i 23), V.bl (fl i 24), V.bl (fl i 25)] ++ [V.bl (fl i 26), V.bl (fl i 27), V.bl (fl i 28)]))
    have e9 := Ex.mut (o := .lst ([V.bl (fl i 0), V.bl (fl i 1), V.bl (fl i 2), V.bl (fl i 3)] ++ [V.bl (fl i 4), V.bl (fl i 5), V.bl (fl i 6)] ++ [V.bl (fl i 7), V.bl (fl i 8), V.bl (fl i 9)] ++ [V.bl (fl i 10), V.bl (fl i 11), V.bl (fl i 12)] ++ [V.bl (fl i 13), V.bl (fl i 14), V.bl (fl i 15)] ++ [V.bl (fl i 16), V.bl (fl i 17), V.bl (fl i 18)] ++ [V.bl (fl i 19), V.bl (fl i 20), V.bl (fl i 21), V.bl (fl i 22)] ++ [V.bl (fl i 23), V.bl (fl i 24), V.bl (fl i 25)] ++ [V.bl (fl i 26), V.bl (fl i 27), V.bl (fl i 28)])) (e8.trans g9) hl
    refine q_ext h9 (ev_var rfl) (el_lst (ea_cons (ev_isi T rfl hi (j := 29) (by decide) hx e9) (ea_cons (ev_isi T rfl hi (j := 30) (by decide) hx e9) (ea_cons (ev_isi T rfl hi (j := 31) (by decide) hx e9) ea_nil))) (by simp)) (by simp) fun H10 g10 => ?_
    have h10 := @upd_same H10 l (.lst ([V.bl (fl i 0), V.bl (fl i 1), V.bl (fl i 2), V.bl (fl i 3)] ++ [V.bl (fl i 4), V.bl (fl i 5), V.bl (fl i 6)] ++ [V.bl (fl i 7), V.bl (fl i 8), V.bl (fl i 9)] ++ [V.bl (fl i 10), V.bl (fl i 11), V.bl (fl i 12)] ++ [V.bl (fl i 13), V.bl (fl i 14), V.bl (fl i 15)] ++ [V.bl (fl i 16), V.bl (fl i 17), V.bl (fl i 18)] ++ [V.bl (fl i 19), V.bl (fl i 20), V.bl (fl i 21), V.bl (fl i 22)] ++ [V.bl (fl i 23), V.bl (fl i 24), V.bl (fl i 25)] ++ [V.bl (fl i 26), V.bl (fl i 27), V.bl (fl i 28)] ++ [V.bl (fl i 29), V.bl (fl i 30), V.bl (fl i 31)]))
    have e10 := Ex.mut (o := .lst ([V.bl (fl i 0), V.bl (fl i 1), V.bl (fl i 2), V.bl (fl i 3)] ++ [V.bl (fl i 4), V.bl (fl i 5), V.bl (fl i 6)] ++ [V.bl (fl i 7), V.bl (fl i 8), V.bl (fl i 9)] ++ [V.bl (fl i 10), V.bl (fl i 11), V.bl (fl i 12)] ++ [V.bl (fl i 13), V.bl (fl i 14), V.bl (fl i 15)] ++ [V.bl (fl i 16), V.bl (fl i 17), V.bl (fl i 18)] ++ [V.bl (fl i 19), V.bl (fl i 20), V.bl (fl i 21), V.bl (fl i 22)] ++ [V.bl (fl i 23), V.bl (fl i 24), V.bl (fl i 25)] ++ [V.bl (fl i 26), V.bl (fl i 27), V.bl (fl i 28)] ++ [V.bl (fl i 29), V.bl (fl i 30), V.bl (fl i 31)])) (e9.trans g10) hl
    refine q_ext h10 (ev_var rfl) (el_lst (ea_cons (ev_isi T rfl hi (j := 32) (by decide) hx e10) (ea_cons (ev_isi T rfl hi (j := 33) (by decide) hx e10) (ea_cons (ev_isi T rfl hi (j := 34) (by decide) hx e10) ea_nil))) (by simp)) (by simp) fun H11 g11 => ?_
    have h11 := @upd_same H11 l (.lst ([V.bl (fl i 0), V.bl (fl i 1), V.bl (fl i 2), V.bl (fl i 3)] ++ [V.bl (fl i 4), V.bl (fl i 5), V.bl (fl i 6)] ++ [V.bl (fl i 7), V.bl (fl i 8), V.bl (fl i 9)] ++ [V.bl (fl i 10), V.bl (fl i 11), V.bl (fl i 12)] ++ [V.bl (fl i 13), V.bl (fl i 14), V.bl (fl i 15)] ++ [V.bl (fl i 16), V.bl (fl i 17), V.bl (fl i 18)] ++ [V.bl (fl i 19), V.bl (fl i 20), V.bl (fl i 21), V.bl (fl i 22)] ++ [V.bl (fl i 23), V.bl (fl i 24), V.bl (fl i 25)] ++ [V.bl (fl i 26), V.bl (fl i 27), V.bl (fl i 28)] ++ [V.bl (fl i 29), V.bl (fl i 30), V.bl (fl i 31)] ++ [V.bl (fl i 32), V.bl (fl i 33), V.bl (fl i 34)]))
    have e11 := Ex.mut (o := .lst ([V.bl (fl i 0), V.bl (fl i 1), V.bl (fl i 2), V.bl (fl i 3)] ++ [V.bl (fl i 4), V.bl (fl i 5), V.bl (fl i 6)] ++ [V.bl (fl i 7), V.bl (fl i 8), V.bl (fl i 9)] ++ [V.bl (fl i 10), V.bl (fl i 11), V.bl (fl i 12)] ++ [V.bl (fl i 13), V.bl (fl i 14), V.bl (fl i 15)] ++ [V.bl (fl i 16), V.bl (fl i 17), V.bl (fl i 18)] ++ [V.bl (fl i 19), V.bl (fl i 20), V.bl (fl i 21), V.bl (fl i 22)] ++ [V.bl (fl i 23), V.bl (fl i 24), V.bl (fl i 25)] ++ [V.bl (fl i 26), V.bl (fl i 27), V.bl (fl i 28)] ++ [V.bl (fl i 29), V.bl (fl i 30), V.bl (fl i 31)] ++ [V.bl (fl i 32), V.bl (fl i 33), V.bl (fl i 34)])) (e10.trans g11) hl
    refine q_ext h11 (ev_var rfl) (el_lst (ea_cons (ev_isi T rfl hi (j := 35) (by decide) hx e11) (ea_cons (ev_isi T rfl hi (j := 36) (by decide) hx e11) (ea_cons (ev_isi T rfl hi (j := 37) (by decide) hx e11) ea_nil))) (by simp)) (by simp) fun H12 g12 => ?_
    have h12 := @upd_same H12 l (.lst ([V.bl (fl i 0), V.bl (fl i 1), V.bl (fl i 2), V.bl (fl i 3)] ++ [V.bl (fl i 4), V.bl (fl i 5), V.bl (fl i 6)] ++ [V.bl (fl i 7), V.bl (fl i 8), V.bl (fl i 9)] ++ [V.bl (fl i 10), V.bl (fl i 11), V.bl (fl i 12)] ++ [V.bl (fl i 13), V.bl (fl i 14), V.bl (fl i 15)] ++ [V.bl (fl i 16), V.bl (fl i 17), V.bl (fl i 18)] ++ [V.bl (fl i 19), V.bl (fl i 20), V.bl (fl i 21), V.bl (fl i 22)] ++ [V.bl (fl i 23), V.bl (fl i 24), V.bl (fl i 25)] ++ [V.bl (fl i 26), V.bl (fl i 27), V.bl (fl i 28)] ++ [V.bl (fl i 29), V.bl (fl i 30), V.bl (fl i 31)] ++ [V.bl (fl i 32), V.bl (fl i 33), V.bl (fl i 34)] ++ [V.bl (fl i 35), V.bl (fl i 36), V.bl (fl i 37)]))
    have e12 := Ex.mut (o := .lst ([V.bl (fl i 0), V.bl (fl i 1), V.bl (fl i 2), V.bl (fl i 3)] ++ [V.bl (fl i 4), V.bl (fl i 5), V.bl (fl i 6)] ++ [V.bl (fl i 7), V.bl (fl i 8), V.bl (fl i 9)] ++ [V.bl (fl i 10), V.bl (fl i 11), V.bl (fl i 12)] ++ [V.bl (fl i 13), V.bl (fl i 14), V.bl (fl i 15)] ++ [V.bl (fl i 16), V.bl (fl i 17), V.bl (fl i 18)] ++ [V.bl (fl i 19), V.bl (fl i 20), V.bl (fl i 21), V.bl (fl i 22)] ++ [V.bl (fl i 23), V.bl (fl i 24), V.bl (fl i 25)] ++ [V.bl (fl i 26), V.bl (fl i 27), V.bl (fl i 28)] ++ [V.bl (fl i 29), V.bl (fl i 30), V.bl (fl i 31)] ++ [V.bl (fl i 32), V.bl (fl i 33), V.bl (fl i 34)] ++ [V.bl (fl i 35), V.bl (fl i 36), V.bl (fl i 37)])) (e11.trans g12) hl
    refine s_ret (ev_var rfl) fun H2 z => ?_
    exact q l H2 hl (e12.trans z) (z l _ h12)
end
end K1
namespace K1
open PySem PySem.Spec PyProof.Rows L2 KV Evl
section
variable {K : PySem.W.Frag} {mg : Str → Option Value} {P : Program} {w : World} {base : Heap}
/-! ### _law_alone(e, place) -/
def spA (K : PySem.W.Frag) : Sp := fun vs H Q _ => ∃ (a : Addr) (i : Nat) (fs : List (Str × V)), vs = [.ref a, .int (i : Int)] ∧ i < 38 ∧ IsEx H a (cl K i) fs ∧ RetV (.bl true) H Q
theorem flags_at {i : Nat} (hi : i < 38) : (flagsL i)[i]? = some (.bl true) := by
  unfold flagsL
  rw [List.getElem?_map, List.getElem?_map, List.getElem?_range hi]
  show some (V.bl (decide (i = i))) = _
  rw [decide_eq_true rfl]
theorem flags_count : ∀ i : Nat, i < 38 → ((List.range 38).map (fl i)).count true = 1 := by decide +kernel
theorem sc_alone : FnScope ["_law_e", "_law_place", "_law_some"] ["_law_e", "_law_place"] (defScope (top 44)) := ⟨rfl, rfl, rfl, by decide +kernel, rfl, by decide +kernel, by decide +kernel⟩
theorem ok_alone (T : Tx K mg) : ∃ fd, FnOk P w K mg base CX0 2 (He.ga K "_law_alone") fd ["_law_e", "_law_place"] (spA K) ∧ Binds K fd ["_law_e", "_law_place"] [] := by
  obtain ⟨fd, F⟩ := T.d.def_ 34 (d := d__law_alone) rfl
  obtain ⟨fdF, GF, bF⟩ := ok_flags (P := P) (w := w) (base := base) T
  obtain ⟨fdF', FF⟩ := T.d.def_ 33 (d := d__law_flags) rfl
  refine ⟨fd, F.ok sc_alone (fun vs H Q E h => ?_) (fun cdv A outer s H vs Q E hr h => ?_), FunD.bindsN F fun _ _ _ _ _ _ us hl => match us, hl with | [_, _], _ => rfl⟩
  · obtain ⟨a, i, fs, rfl, _⟩ := h
    rfl
  · have gi : mg "isinstance" = none := (T.fr 48 rfl)
    refine ⟨_, PSs.nox (pss_cons (ps_set (i := 2) sc_alone.nd rfl (Or.inl rfl) (pe_call GF hr rfl (T.gl 41 rfl) FF.kp bF .nil pass0 (pa_cons (pv 0) pa_nil)))
      (pss_cons (ps_if (pt_val (pe_callB call_isXT (by rfl) gi PyProof.Rows.boot_isinstance (pa_cons (pv 0) (pa_cons (pe_tup (pa_cons (pe_bltn (v := .ty "LookupError") rfl (T.fr 51 rfl) (by decide +kernel) rfl)
          (pa_cons (pe_bltn (v := .ty "TypeError") rfl (T.fr 52 rfl) (by decide +kernel) rfl) (pa_cons (pe_bltn (v := .ty "ArithmeticError") rfl (T.fr 53 rfl) (by decide +kernel) rfl) pa_nil)))) pa_nil))))
        (pss_one (ps_ret pe_bl)) pss_nil)
      (pss_one (ps_ret (pe_and (pe_callB call_isX (by rfl) gi PyProof.Rows.boot_isinstance (pa_cons (pv 0) (pa_cons (pe_glob (v := .ref (He.ga K "CallError")) rfl (T.gl 38 rfl) rfl) pa_nil)))
        (pe_and (pe_callB call_isX (by rfl) gi PyProof.Rows.boot_isinstance (pa_cons (pv 0) (pa_cons (pe_bltn (v := .ty "ValueError") rfl (T.fr 54 rfl) (by decide +kernel) rfl) pa_nil)))
        (pe_and (pe_cmpR op_eq (pe_bm PySem.F.plainAttrs_list PySem.F.slot_list_count PySem.F.type_list_count mt_cntB (pv 2) (pa_cons pe_bl pa_nil)) pe_int (nomark _))
        (pe_one (pe_ix ix_list (pv 2) (pv 1) fun _ _ => rfl))))))))), ?_⟩
    obtain ⟨a, i, fs, rfl, hi, hx, q⟩ := h
    have U := T.up hi
    refine q_asgL (el_call (sp := spF K) (vs := [.ref a]) (ea_cons (ev_var rfl) ea_nil) fun H1 e1 Q1 k1 E1 => ⟨a, i, fs, rfl, hi, hx.ex e1, fun p H2 hp e2 h2 => k1 p H2 hp e2 h2⟩) fun l H1 hl e1 h1 => ?_
    refine q_when (b := false) (et_B fun H2 e2 Q2 k2 => ⟨_, rfl, ?_⟩) (fun hb => nomatch hb) fun _ H2 e2 => ?_
    · refine ⟨(by show 3 ≤ sizeLine; decide), fun p hp => ⟨a, cl K i, p, fs, _, _, false, rfl, hx.ex ((e1.trans e2).trans (Ex.new hp)), U.ix, upd_same, .cons (.ty _) (.cons (.ty _) (.cons (.ty _) .nil)), U.no, k2 _ (Ex.new hp)⟩⟩
    · have ex2 := hx.ex (e1.trans e2)
      refine s_ret (v := .bl true) (ev_is (v := .bl (true && (true && (true && true)))) (ev_andV (ev_cb (ea_cons (ev_var rfl) (ea_cons ev_c ea_nil)) fun H3 e3 Q3 k3 => ⟨a, cl K i, fs, _, _, true, rfl, ex2.ex e3, U.ix, .own _, U.ce, k3 H3 (Ex.refl H3)⟩) fun _ =>
        ev_andV (ev_cb (ea_cons (ev_var rfl) (ea_cons ev_c ea_nil)) fun H3 e3 Q3 k3 => ⟨a, cl K i, fs, _, _, true, rfl, ex2.ex e3, U.ix, .ty _, U.ve, k3 H3 (Ex.refl H3)⟩) fun _ =>
        ev_andV (ev_is (v := .bl (decide (V.int ((((List.range 38).map (fl i)).count true : Nat) : Int) = V.int 1))) (ev_op (x := .int ((((List.range 38).map (fl i)).count true : Nat) : Int)) (fun H3 e3 Q3 k3 => ?_) ev_c (rv_eq rfl)) ?_) fun _ =>
        ev_op (ev_var rfl) (ev_var rfl) (rv_ixL (sq_of (e2 l _ h1)) (atI_nat (flags_at hi)))) rfl) fun H3 e3 => q H3 ((e1.trans e2).trans e3)
      · exact ⟨_, rfl, .inl ⟨rfl, _, sq_of (e3 l _ (e2 l _ h1))⟩, l, (List.range 38).map (fl i), true, rfl, rfl, sq_of (e3 l _ (e2 l _ h1)), k3 H3 (Ex.refl H3)⟩
      · rw [flags_count i hi] <;> rfl
end
end K1
namespace KV
open PySem PySem.Spec PyProof.Rows L2 Evl
/-- C(v).f is v -/
theorem ev_one {σ : L2.St} {H : Hp} {K : PySem.W.Frag} {C : Addr} {f : Str} {te : TE} {v : V} (h : Ev te σ H v) : Ev (tFldE C f (tNewE C (spIni1 K C f) (tCons te tNil))) σ H v := fun H1 e Q q =>
  h H1 e _ fun H2 e2 => ⟨by simp, fun a ha => ⟨a, v, rfl, upd_same, fun H3 k ix => ⟨rfl, by
    have e3 : Ex H2 H3 := fun b o hb => k b o (ne_of_none hb ha) ((upd_ne (ne_of_none hb ha)).trans hb)
    rcases ix with ⟨z, _⟩ | ⟨d, h1, h2⟩
    · cases z
    · exact ⟨a, d, _, v, rfl, h1, h2, by simp [List.lookup], q H3 (e2.trans e3)⟩⟩⟩⟩
/-- what evaluates to something of a kind that stays -/
def EvP (te : TE) (σ : L2.St) (H : Hp) (R : V → Hp → Prop) : Prop := ∀ H1, Ex H H1 → ∀ Q : VK, (∀ v H2, Ex H1 H2 → R v H2 → Q v H2) → te σ H1 Q
def EvAP (ta : TA) (σ : L2.St) (H : Hp) (R : List V → Hp → Prop) : Prop := ∀ H1, Ex H H1 → ∀ Q : List V → Hp → Prop, (∀ v H2, Ex H1 H2 → R v H2 → Q v H2) → ta σ H1 Q
theorem evp_new1 {σ : L2.St} {H : Hp} {K : PySem.W.Frag} {C : Addr} {f : Str} {te : TE} {v : V} (h : Ev te σ H v) : EvP (tNewE C (spIni1 K C f) (tCons te tNil)) σ H (fun u H2 => ∃ a fs, u = .ref a ∧ IsEx H2 a C fs) := fun H1 e Q q =>
  h H1 e _ fun H2 e2 => ⟨by simp, fun a ha => ⟨a, v, rfl, upd_same, fun H3 k ix => ⟨rfl,
    q _ H3 (e2.trans fun b o hb => k b o (ne_of_none hb ha) ((upd_ne (ne_of_none hb ha)).trans hb)) ⟨a, _, rfl, ix⟩⟩⟩⟩
theorem evp_new2 {σ : L2.St} {H : Hp} {K : PySem.W.Frag} {C : Addr} {f g : Str} {ta : TA} {v u : V} (h : EvA ta σ H [v, u]) : EvP (tNewE C (spIni2 K C f g) ta) σ H (fun u H2 => ∃ a fs, u = .ref a ∧ IsEx H2 a C fs) := fun H1 e Q q =>
  h H1 e _ fun H2 e2 => ⟨by simp, fun a ha => ⟨a, v, u, rfl, upd_same, fun H3 k ix => ⟨rfl,
    q _ H3 (e2.trans fun b o hb => k b o (ne_of_none hb ha) ((upd_ne (ne_of_none hb ha)).trans hb)) ⟨a, _, rfl, ix⟩⟩⟩⟩
theorem evp_new3 {σ : L2.St} {H : Hp} {K : PySem.W.Frag} {C : Addr} {f g i : Str} {ta : TA} (h : EvAP ta σ H fun vs _ => vs.length = 3) : EvP (tNewE C (spIni3 K C f g i) ta) σ H (fun u H2 => ∃ a fs, u = .ref a ∧ IsEx H2 a C fs) := fun H1 e Q q =>
  h H1 e _ fun vs H2 e2 hv => match vs, hv with
  | [v, u, z], _ => ⟨by simp, fun a ha => ⟨a, v, u, z, rfl, upd_same, fun H3 k ix => ⟨rfl,
    q _ H3 (e2.trans fun b o hb => k b o (ne_of_none hb ha) ((upd_ne (ne_of_none hb ha)).trans hb)) ⟨a, _, rfl, ix⟩⟩⟩⟩
theorem evp_new0 {σ : L2.St} {H : Hp} {C : Addr} : EvP (fun _ H Q => ∀ a, H a = none → Q (.ref a) (upd H a (exo a C none))) σ H (fun u H2 => ∃ a fs, u = .ref a ∧ IsEx H2 a C fs) := fun H1 e Q q a ha =>
  q _ _ (Ex.new ha) ⟨a, [], rfl, .inl ⟨rfl, upd_same⟩⟩
/-! ### the pairs (e, i) -/
section
variable (K : PySem.W.Frag) (c : Nat → Addr)
def PR (i : Nat) (v : V) (H : Hp) : Prop := ∃ t a fs, v = .ref t ∧ H t = some (.tup [.ref a, .int (i : Int)]) ∧ IsEx H a (c i) fs
theorem PR.ex {i : Nat} {v : V} {H H' : Hp} (e : Ex H H') (h : PR c i v H) : PR c i v H' := by
  obtain ⟨t, a, fs, h1, h2, h3⟩ := h
  exact ⟨t, a, fs, h1, e _ _ h2, h3.ex e⟩
def PRs : Nat → Nat → List V → Hp → Prop
  | _, 0, vs, _ => vs = []
  | i, n + 1, vs, H => ∃ v r, vs = v :: r ∧ PR c i v H ∧ PRs (i + 1) n r H
theorem PRs.ex {H H' : Hp} (e : Ex H H') : ∀ {n i : Nat} {vs : List V}, PRs c i n vs H → PRs c i n vs H'
  | 0, _, _, h => h
  | _ + 1, _, _, ⟨v, r, h1, h2, h3⟩ => ⟨v, r, h1, h2.ex c e, PRs.ex e h3⟩
theorem PRs.len {H : Hp} : ∀ {n i : Nat} {vs : List V}, PRs c i n vs H → vs.length = n
  | 0, _, _, h => by rw [show _ = [] from h] <;> rfl
  | n + 1, _, _, ⟨v, r, h1, h2, h3⟩ => by rw [h1, List.length_cons, PRs.len h3]
theorem PRs.app {H : Hp} : ∀ {n i k : Nat} {vs us : List V}, PRs c i n vs H → PRs c (i + n) k us H → PRs c i (n + k) (vs ++ us) H
  | 0, i, k, vs, us, h, g => by
    rw [show vs = [] from h, Nat.zero_add]
    exact g
  | n + 1, i, k, vs, us, ⟨v, r, h1, h2, h3⟩, g => by
    rw [h1, Nat.add_right_comm]
    refine ⟨v, r ++ us, rfl, h2, PRs.app h3 ?_⟩
    rw [show i + 1 + n = i + (n + 1) by omega]
    exact g
theorem PRs.at {H : Hp} : ∀ {n i : Nat} {vs : List V}, PRs c i n vs H → ∀ {k : Nat} {v : V}, vs[k]? = some v → k < n ∧ PR c (i + k) v H
  | 0, _, _, h, k, v, hk => by
    rw [show _ = [] from h] at hk
    cases hk
  | n + 1, i, _, ⟨u, r, h1, h2, h3⟩, k, v, hk => by
    rw [h1] at hk
    cases k with
    | zero =>
      cases hk
      exact ⟨Nat.succ_pos _, h2⟩
    | succ k =>
      obtain ⟨z1, z2⟩ := PRs.at h3 (show r[k]? = some v from hk)
      rw [show i + (k + 1) = i + 1 + k by omega]
      exact ⟨by omega, z2⟩
theorem evp_pair {σ : L2.St} {H : Hp} {te : TE} {i : Nat} (h : EvP te σ H fun u H2 => ∃ a fs, u = .ref a ∧ IsEx H2 a (c i) fs) : EvP (tTup (tCons te (tCons (tC (.int (i : Int))) tNil))) σ H (PR c i) := fun H1 e Q q =>
  h H1 e _ fun u H2 e2 ⟨a, fs, h1, h2⟩ => ⟨(by show 2 ≤ sizeLine; decide), fun p hp => q _ _ (e2.trans (Ex.new hp)) ⟨p, a, fs, rfl, by rw [upd_same, h1], h2.ex (Ex.new hp)⟩⟩
theorem eap_nil {σ : L2.St} {H : Hp} {i : Nat} : EvAP tNil σ H (PRs c i 0) := fun H1 e Q q => q [] H1 (Ex.refl H1) rfl
theorem eap_cons {σ : L2.St} {H : Hp} {te : TE} {tr : TA} {i n : Nat} (h : EvP te σ H (PR c i)) (hr : EvAP tr σ H (PRs c (i + 1) n)) : EvAP (tCons te tr) σ H (PRs c i (n + 1)) := fun H1 e Q q =>
  h H1 e _ fun v H2 e2 h1 => hr H2 (e.trans e2) _ fun r H3 e3 h2 => q _ H3 (e2.trans e3) ⟨v, r, rfl, h1.ex c e3, h2⟩
/-- out = [..] -/
theorem q_first {σ : L2.St} {H : Hp} {ta : TA} {tz : TS} {D : Ends} {j n : Nat} (h : EvAP ta σ H (PRs c 0 n)) (hn : n ≤ 1000) (k : ∀ l vs H1, Ex H H1 → H1 l = some (.lst vs) → PRs c 0 n vs H1 → tz D (σ.set j (some (.ref l))) H1) : tSeq (tAsg (tLst ta) (gName j)) tz D σ H :=
  h H (Ex.refl H) _ fun vs H1 e1 h1 => ⟨by rw [PRs.len c h1]; exact sz_of (by omega), fun p hp => k p vs _ (e1.trans (Ex.new hp)) upd_same (h1.ex c (Ex.new hp))⟩
/-- out = out + [..] -/
theorem q_more {σ : L2.St} {H : Hp} {ta : TA} {tz : TS} {D : Ends} {j n m : Nat} {l : Addr} {vs : List V} (hσ : σ[j]? = some (some (.ref l))) (hl : H l = some (.lst vs)) (hv : PRs c 0 n vs H) (h : EvAP ta σ H (PRs c n m)) (hn : n + m ≤ 1000)
    (k : ∀ l vs H1, Ex H H1 → H1 l = some (.lst vs) → PRs c 0 (n + m) vs H1 → tz D (σ.set j (some (.ref l))) H1) : tSeq (tAsg (tOp rCat (tVar j) (tLst ta)) (gName j)) tz D σ H :=
  ⟨_, hσ, h H (Ex.refl H) _ fun us H1 e1 h1 => ⟨by rw [PRs.len c h1]; exact sz_of (by omega), fun p hp =>
    ⟨l, p, vs, us, rfl, rfl, (upd_ne (ne_of_none (e1 _ _ hl) hp)).trans (e1 _ _ hl), upd_same, by rw [PRs.len c hv, PRs.len c h1]; exact sz_of (by omega), fun p2 hp2 =>
      k p2 _ _ ((e1.trans (Ex.new hp)).trans (Ex.new hp2)) upd_same (PRs.app c ((hv.ex c e1).ex c ((Ex.new hp).trans (Ex.new hp2))) (by rw [Nat.zero_add]; exact h1.ex c ((Ex.new hp).trans (Ex.new hp2))))⟩⟩⟩
end
end KV
namespace K1
open PySem PySem.Spec PyProof.Rows L2 KV Evl
section
variable {K : PySem.W.Frag} {mg : Str → Option Value} {P : Program} {w : World} {base : Heap}
def spO : Sp := fun vs H Q _ => ∃ v : V, vs = [v] ∧ RetL (List.replicate 28 v) H Q
theorem sc_ones : FnScope ["_law_x", "_law_out"] ["_law_x"] (defScope (top 45)) := ⟨rfl, rfl, rfl, by decide +kernel, rfl, by decide +kernel, by decide +kernel⟩
theorem ok_ones (T : Tx K mg) : ∃ fd, FnOk P w K mg base CX0 3 (He.ga K "_law_ones") fd ["_law_x"] spO ∧ Binds K fd ["_law_x"] [] := by
  obtain ⟨fd, F⟩ := T.d.def_ 35 (d := d__law_ones) rfl
  obtain ⟨fd_BadAnswers, F_BadAnswers, b_BadAnswers⟩ := ok_BadAnswers (P := P) (w := w) (base := base) T
  obtain ⟨fd_BadBlock, F_BadBlock, b_BadBlock⟩ := ok_BadBlock (P := P) (w := w) (base := base) T
  obtain ⟨fd_BadFact, F_BadFact, b_BadFact⟩ := ok_BadFact (P := P) (w := w) (base := base) T
  obtain ⟨fd_BadLine, F_BadLine, b_BadLine⟩ := ok_BadLine (P := P) (w := w) (base := base) T
  obtain ⟨fd_BadMachine, F_BadMachine, b_BadMachine⟩ := ok_BadMachine (P := P) (w := w) (base := base) T
  obtain ⟨fd_BadName, F_BadName, b_BadName⟩ := ok_BadName (P := P) (w := w) (base := base) T
  obtain ⟨fd_BadNumber, F_BadNumber, b_BadNumber⟩ := ok_BadNumber (P := P) (w := w) (base := base) T
  obtain ⟨fd_BadPair, F_BadPair, b_BadPair⟩ := ok_BadPair (P := P) (w := w) (base := base) T
  obtain ⟨fd_BadResults, F_BadResults, b_BadResults⟩ := ok_BadResults (P := P) (w := w) (base := base) T
  obtain ⟨fd_BadRule, F_BadRule, b_BadRule⟩ := ok_BadRule (P := P) (w := w) (base := base) T
  obtain ⟨fd_BadSide, F_BadSide, b_BadSide⟩ := ok_BadSide (P := P) (w := w) (base := base) T
  obtain ⟨fd_BadStatement, F_BadStatement, b_BadStatement⟩ := ok_BadStatement (P := P) (w := w) (base := base) T
  obtain ⟨fd_BadTruth, F_BadTruth, b_BadTruth⟩ := ok_BadTruth (P := P) (w := w) (base := base) T
  obtain ⟨fd_BadWeight, F_BadWeight, b_BadWeight⟩ := ok_BadWeight (P := P) (w := w) (base := base) T
  obtain ⟨fd_BadWorld, F_BadWorld, b_BadWorld⟩ := ok_BadWorld (P := P) (w := w) (base := base) T
  obtain ⟨fd_HasDeeds, F_HasDeeds, b_HasDeeds⟩ := ok_HasDeeds (P := P) (w := w) (base := base) T
  obtain ⟨fd_HasLeave, F_HasLeave, b_HasLeave⟩ := ok_HasLeave (P := P) (w := w) (base := base) T
  obtain ⟨fd_NoDeed, F_NoDeed, b_NoDeed⟩ := ok_NoDeed (P := P) (w := w) (base := base) T
  obtain ⟨fd_NoName, F_NoName, b_NoName⟩ := ok_NoName (P := P) (w := w) (base := base) T
  obtain ⟨fd_NoNumber, F_NoNumber, b_NoNumber⟩ := ok_NoNumber (P := P) (w := w) (base := base) T
  obtain ⟨fd_NoPlace, F_NoPlace, b_NoPlace⟩ := ok_NoPlace (P := P) (w := w) (base := base) T
  obtain ⟨fd_NoSection, F_NoSection, b_NoSection⟩ := ok_NoSection (P := P) (w := w) (base := base) T
  obtain ⟨fd_NoTest, F_NoTest, b_NoTest⟩ := ok_NoTest (P := P) (w := w) (base := base) T
  obtain ⟨fd_NoThing, F_NoThing, b_NoThing⟩ := ok_NoThing (P := P) (w := w) (base := base) T
  obtain ⟨fd_NoThings, F_NoThings, b_NoThings⟩ := ok_NoThings (P := P) (w := w) (base := base) T
  obtain ⟨fd_NoValue, F_NoValue, b_NoValue⟩ := ok_NoValue (P := P) (w := w) (base := base) T
  obtain ⟨fd_TooMany, F_TooMany, b_TooMany⟩ := ok_TooMany (P := P) (w := w) (base := base) T
  obtain ⟨fd_UsedResult, F_UsedResult, b_UsedResult⟩ := ok_UsedResult (P := P) (w := w) (base := base) T
  refine ⟨fd, F.ok sc_ones (fun vs H Q E h => ?_) (fun cdv A outer s H vs Q E hr h => ?_), FunD.bindsN F fun _ _ _ _ _ _ us hl => match us, hl with | [_], _ => rfl⟩
  · obtain ⟨v, rfl, _⟩ := h
    rfl
  · refine ⟨_, PSs.nox (pss_cons (ps_set (i := 1) sc_ones.nd rfl (Or.inl rfl) (pe_lst (pa_cons (pe_fldE (T.ini 0 (x := "BadAnswers") (fs := ["index"]) rfl).xf ((T.ini 0 (x := "BadAnswers") (fs := ["index"]) rfl).no _ (by simp)) (pe_newE (T.ini 0 (x := "BadAnswers") (fs := ["index"]) rfl).T (T.ini 0 (x := "BadAnswers") (fs := ["index"]) rfl).iC (T.ini 0 (x := "BadAnswers") (fs := ["index"]) rfl).tI F_BadAnswers hr b_BadAnswers rfl (T.gl 0 rfl) (pa_cons (pv 0) pa_nil))) (pa_cons (pe_fldE (T.ini 1 (x := "BadBlock") (fs := ["index"]) rfl).xf ((T.ini 1 (x := "BadBlock") (fs := ["index"]) rfl).no _ (by simp)) (pe_newE (T.ini 1 (x := "BadBlock") (fs := ["index"]) rfl).T (T.ini 1 (x := "BadBlock") (fs := ["index"]) rfl).iC (T.ini 1 (x := "BadBlock") (fs := ["index"]) rfl).tI F_BadBlock hr b_BadBlock rfl (T.gl 1 rfl) (pa_cons (pv 0) pa_nil))) (pa_cons (pe_fldE (T.ini 2 (x := "BadFact") (fs := ["index"]) rfl).xf ((T.ini 2 (x := "BadFact") (fs := ["index"]) rfl).no _ (by simp)) (pe_newE (T.ini 2 (x := "BadFact") (fs := ["index"]) rfl).T (T.ini 2 (x := "BadFact") (fs := ["index"]) rfl).iC (T.ini 2 (x := "BadFact") (fs := ["index"]) rfl).tI F_BadFact hr b_BadFact rfl (T.gl 2 rfl) (pa_cons (pv 0) pa_nil))) (pa_cons (pe_fldE (T.ini 3 (x := "BadLine") (fs := ["index"]) rfl).xf ((T.ini 3 (x := "BadLine") (fs := ["index"]) rfl).no _ (by simp)) (pe_newE (T.ini 3 (x := "BadLine") (fs := ["index"]) rfl).T (T.ini 3 (x := "BadLine") (fs := ["index"]) rfl).iC (T.ini 3 (x := "BadLine") (fs := ["index"]) rfl).tI F_BadLine hr b_BadLine rfl (T.gl 3 rfl) (pa_cons (pv 0) pa_nil))) (pa_cons (pe_fldE (T.ini 4 (x := "BadMachine") (fs := ["machine"]) rfl).xf ((T.ini 4 (x := "BadMachine") (fs := ["machine"]) rfl).no _ (by simp)) (pe_newE (T.ini 4 (x := "BadMachine") (fs := ["machine"]) rfl).T (T.ini 4 (x := "BadMachine") (fs := ["machine"]) rfl).iC (T.ini 4 (x := "BadMachine") (fs := ["machine"]) rfl).tI F_BadMachine hr b_BadMachine rfl (T.gl 4 rfl) (pa_cons (pv 0) pa_nil))) pa_nil)))))))
      (pss_cons (ps_set (i := 1) sc_ones.nd rfl (Or.inl rfl) (pe_op op_cat (pv 1) (pe_lst (pa_cons (pe_fldE (T.ini 5 (x := "BadName") (fs := ["name"]) rfl).xf ((T.ini 5 (x := "BadName") (fs := ["name"]) rfl).no _ (by simp)) (pe_newE (T.ini 5 (x := "BadName") (fs := ["name"]) rfl).T (T.ini 5 (x := "BadName") (fs := ["name"]) rfl).iC (T.ini 5 (x := "BadName") (fs := ["name"]) rfl).tI F_BadName hr b_BadName rfl (T.gl 5 rfl) (pa_cons (pv 0) pa_nil))) (pa_cons (pe_fldE (T.ini 6 (x := "BadNumber") (fs := ["name"]) rfl).xf ((T.ini 6 (x := "BadNumber") (fs := ["name"]) rfl).no _ (by simp)) (pe_newE (T.ini 6 (x := "BadNumber") (fs := ["name"]) rfl).T (T.ini 6 (x := "BadNumber") (fs := ["name"]) rfl).iC (T.ini 6 (x := "BadNumber") (fs := ["name"]) rfl).tI F_BadNumber hr b_BadNumber rfl (T.gl 6 rfl) (pa_cons (pv 0) pa_nil))) (pa_cons (pe_fldE (T.ini 7 (x := "BadPair") (fs := ["index"]) rfl).xf ((T.ini 7 (x := "BadPair") (fs := ["index"]) rfl).no _ (by simp)) (pe_newE (T.ini 7 (x := "BadPair") (fs := ["index"]) rfl).T (T.ini 7 (x := "BadPair") (fs := ["index"]) rfl).iC (T.ini 7 (x := "BadPair") (fs := ["index"]) rfl).tI F_BadPair hr b_BadPair rfl (T.gl 7 rfl) (pa_cons (pv 0) pa_nil))) (pa_cons (pe_fldE (T.ini 8 (x := "BadResults") (fs := ["index"]) rfl).xf ((T.ini 8 (x := "BadResults") (fs := ["index"]) rfl).no _ (by simp)) (pe_newE (T.ini 8 (x := "BadResults") (fs := ["index"]) rfl).T (T.ini 8 (x := "BadResults") (fs := ["index"]) rfl).iC (T.ini 8 (x := "BadResults") (fs := ["index"]) rfl).tI F_BadResults hr b_BadResults rfl (T.gl 8 rfl) (pa_cons (pv 0) pa_nil))) (pa_cons (pe_fldE (T.ini 9 (x := "BadRule") (fs := ["name"]) rfl).xf ((T.ini 9 (x := "BadRule") (fs := ["name"]) rfl).no _ (by simp)) (pe_newE (T.ini 9 (x := "BadRule") (fs := ["name"]) rfl).T (T.ini 9 (x := "BadRule") (fs := ["name"]) rfl).iC (T.ini 9 (x := "BadRule") (fs := ["name"]) rfl).tI F_BadRule hr b_BadRule rfl (T.gl 9 rfl) (pa_cons (pv 0) pa_nil))) pa_nil))))))))
      (pss_cons (ps_set (i := 1) sc_ones.nd rfl (Or.inl rfl) (pe_op op_cat (pv 1) (pe_lst (pa_cons (pe_fldE (T.ini 10 (x := "BadSide") (fs := ["side"]) rfl).xf ((T.ini 10 (x := "BadSide") (fs := ["side"]) rfl).no _ (by simp)) (pe_newE (T.ini 10 (x := "BadSide") (fs := ["side"]) rfl).T (T.ini 10 (x := "BadSide") (fs := ["side"]) rfl).iC (T.ini 10 (x := "BadSide") (fs := ["side"]) rfl).tI F_BadSide hr b_BadSide rfl (T.gl 10 rfl) (pa_cons (pv 0) pa_nil))) (pa_cons (pe_fldE (T.ini 11 (x := "BadStatement") (fs := ["place"]) rfl).xf ((T.ini 11 (x := "BadStatement") (fs := ["place"]) rfl).no _ (by simp)) (pe_newE (T.ini 11 (x := "BadStatement") (fs := ["place"]) rfl).T (T.ini 11 (x := "BadStatement") (fs := ["place"]) rfl).iC (T.ini 11 (x := "BadStatement") (fs := ["place"]) rfl).tI F_BadStatement hr b_BadStatement rfl (T.gl 11 rfl) (pa_cons (pv 0) pa_nil))) (pa_cons (pe_fldE (T.ini 12 (x := "BadTruth") (fs := ["truth"]) rfl).xf ((T.ini 12 (x := "BadTruth") (fs := ["truth"]) rfl).no _ (by simp)) (pe_newE (T.ini 12 (x := "BadTruth") (fs := ["truth"]) rfl).T (T.ini 12 (x := "BadTruth") (fs := ["truth"]) rfl).iC (T.ini 12 (x := "BadTruth") (fs := ["truth"]) rfl).tI F_BadTruth hr b_BadTruth rfl (T.gl 12 rfl) (pa_cons (pv 0) pa_nil))) (pa_cons (pe_fldE (T.ini 13 (x := "BadWeight") (fs := ["name"]) rfl).xf ((T.ini 13 (x := "BadWeight") (fs := ["name"]) rfl).no _ (by simp)) (pe_newE (T.ini 13 (x := "BadWeight") (fs := ["name"]) rfl).T (T.ini 13 (x := "BadWeight") (fs := ["name"]) rfl).iC (T.ini 13 (x := "BadWeight") (fs := ["name"]) rfl).tI F_BadWeight hr b_BadWeight rfl (T.gl 13 rfl) (pa_cons (pv 0) pa_nil))) (pa_cons (pe_fldE (T.ini 14 (x := "BadWorld") (fs := ["word"]) rfl).xf ((T.ini 14 (x := "BadWorld") (fs := ["word"]) rfl).no _ (by simp)) (pe_newE (T.ini 14 (x := "BadWorld") (fs := ["word"]) rfl).T (T.ini 14 (x := "BadWorld") (fs := ["word"]) rfl).iC (T.ini 14 (x := "BadWorld") (fs := ["word"]) rfl).tI F_BadWorld hr b_BadWorld rfl (T.gl 14 rfl) (pa_cons (pv 0) pa_nil))) pa_nil))))))))
      (pss_cons (ps_set (i := 1) sc_ones.nd rfl (Or.inl rfl) (pe_op op_cat (pv 1) (pe_lst (pa_cons (pe_fldE (T.ini 16 (x := "HasDeeds") (fs := ["place"]) rfl).xf ((T.ini 16 (x := "HasDeeds") (fs := ["place"]) rfl).no _ (by simp)) (pe_newE (T.ini 16 (x := "HasDeeds") (fs := ["place"]) rfl).T (T.ini 16 (x := "HasDeeds") (fs := ["place"]) rfl).iC (T.ini 16 (x := "HasDeeds") (fs := ["place"]) rfl).tI F_HasDeeds hr b_HasDeeds rfl (T.gl 16 rfl) (pa_cons (pv 0) pa_nil))) (pa_cons (pe_fldE (T.ini 17 (x := "HasLeave") (fs := ["place"]) rfl).xf ((T.ini 17 (x := "HasLeave") (fs := ["place"]) rfl).no _ (by simp)) (pe_newE (T.ini 17 (x := "HasLeave") (fs := ["place"]) rfl).T (T.ini 17 (x := "HasLeave") (fs := ["place"]) rfl).iC (T.ini 17 (x := "HasLeave") (fs := ["place"]) rfl).tI F_HasLeave hr b_HasLeave rfl (T.gl 17 rfl) (pa_cons (pv 0) pa_nil))) (pa_cons (pe_fldE (T.ini 19 (x := "NoDeed") (fs := ["name"]) rfl).xf ((T.ini 19 (x := "NoDeed") (fs := ["name"]) rfl).no _ (by simp)) (pe_newE (T.ini 19 (x := "NoDeed") (fs := ["name"]) rfl).T (T.ini 19 (x := "NoDeed") (fs := ["name"]) rfl).iC (T.ini 19 (x := "NoDeed") (fs := ["name"]) rfl).tI F_NoDeed hr b_NoDeed rfl (T.gl 21 rfl) (pa_cons (pv 0) pa_nil))) (pa_cons (pe_fldE (T.ini 20 (x := "NoName") (fs := ["name"]) rfl).xf ((T.ini 20 (x := "NoName") (fs := ["name"]) rfl).no _ (by simp)) (pe_newE (T.ini 20 (x := "NoName") (fs := ["name"]) rfl).T (T.ini 20 (x := "NoName") (fs := ["name"]) rfl).iC (T.ini 20 (x := "NoName") (fs := ["name"]) rfl).tI F_NoName hr b_NoName rfl (T.gl 22 rfl) (pa_cons (pv 0) pa_nil))) (pa_cons (pe_fldE (T.ini 21 (x := "NoNumber") (fs := ["n"]) rfl).xf ((T.ini 21 (x := "NoNumber") (fs := ["n"]) rfl).no _ (by simp)) (pe_newE (T.ini 21 (x := "NoNumber") (fs := ["n"]) rfl).T (T.ini 21 (x := "NoNumber") (fs := ["n"]) rfl).iC (T.ini 21 (x := "NoNumber") (fs := ["n"]) rfl).tI F_NoNumber hr b_NoNumber rfl (T.gl 23 rfl) (pa_cons (pv 0) pa_nil))) pa_nil))))))))
      (pss_cons (ps_set (i := 1) sc_ones.nd rfl (Or.inl rfl) (pe_op op_cat (pv 1) (pe_lst (pa_cons (pe_fldE (T.ini 22 (x := "NoPlace") (fs := ["place"]) rfl).xf ((T.ini 22 (x := "NoPlace") (fs := ["place"]) rfl).no _ (by simp)) (pe_newE (T.ini 22 (x := "NoPlace") (fs := ["place"]) rfl).T (T.ini 22 (x := "NoPlace") (fs := ["place"]) rfl).iC (T.ini 22 (x := "NoPlace") (fs := ["place"]) rfl).tI F_NoPlace hr b_NoPlace rfl (T.gl 24 rfl) (pa_cons (pv 0) pa_nil))) (pa_cons (pe_fldE (T.ini 24 (x := "NoSection") (fs := ["word"]) rfl).xf ((T.ini 24 (x := "NoSection") (fs := ["word"]) rfl).no _ (by simp)) (pe_newE (T.ini 24 (x := "NoSection") (fs := ["word"]) rfl).T (T.ini 24 (x := "NoSection") (fs := ["word"]) rfl).iC (T.ini 24 (x := "NoSection") (fs := ["word"]) rfl).tI F_NoSection hr b_NoSection rfl (T.gl 27 rfl) (pa_cons (pv 0) pa_nil))) (pa_cons (pe_fldE (T.ini 25 (x := "NoTest") (fs := ["name"]) rfl).xf ((T.ini 25 (x := "NoTest") (fs := ["name"]) rfl).no _ (by simp)) (pe_newE (T.ini 25 (x := "NoTest") (fs := ["name"]) rfl).T (T.ini 25 (x := "NoTest") (fs := ["name"]) rfl).iC (T.ini 25 (x := "NoTest") (fs := ["name"]) rfl).tI F_NoTest hr b_NoTest rfl (T.gl 28 rfl) (pa_cons (pv 0) pa_nil))) (pa_cons (pe_fldE (T.ini 26 (x := "NoThing") (fs := ["index"]) rfl).xf ((T.ini 26 (x := "NoThing") (fs := ["index"]) rfl).no _ (by simp)) (pe_newE (T.ini 26 (x := "NoThing") (fs := ["index"]) rfl).T (T.ini 26 (x := "NoThing") (fs := ["index"]) rfl).iC (T.ini 26 (x := "NoThing") (fs := ["index"]) rfl).tI F_NoThing hr b_NoThing rfl (T.gl 29 rfl) (pa_cons (pv 0) pa_nil))) (pa_cons (pe_fldE (T.ini 27 (x := "NoThings") (fs := ["things"]) rfl).xf ((T.ini 27 (x := "NoThings") (fs := ["things"]) rfl).no _ (by simp)) (pe_newE (T.ini 27 (x := "NoThings") (fs := ["things"]) rfl).T (T.ini 27 (x := "NoThings") (fs := ["things"]) rfl).iC (T.ini 27 (x := "NoThings") (fs := ["things"]) rfl).tI F_NoThings hr b_NoThings rfl (T.gl 30 rfl) (pa_cons (pv 0) pa_nil))) pa_nil))))))))
      (pss_cons (ps_set (i := 1) sc_ones.nd rfl (Or.inl rfl) (pe_op op_cat (pv 1) (pe_lst (pa_cons (pe_fldE (T.ini 28 (x := "NoValue") (fs := ["thing"]) rfl).xf ((T.ini 28 (x := "NoValue") (fs := ["thing"]) rfl).no _ (by simp)) (pe_newE (T.ini 28 (x := "NoValue") (fs := ["thing"]) rfl).T (T.ini 28 (x := "NoValue") (fs := ["thing"]) rfl).iC (T.ini 28 (x := "NoValue") (fs := ["thing"]) rfl).tI F_NoValue hr b_NoValue rfl (T.gl 31 rfl) (pa_cons (pv 0) pa_nil))) (pa_cons (pe_fldE (T.ini 29 (x := "TooMany") (fs := ["total"]) rfl).xf ((T.ini 29 (x := "TooMany") (fs := ["total"]) rfl).no _ (by simp)) (pe_newE (T.ini 29 (x := "TooMany") (fs := ["total"]) rfl).T (T.ini 29 (x := "TooMany") (fs := ["total"]) rfl).iC (T.ini 29 (x := "TooMany") (fs := ["total"]) rfl).tI F_TooMany hr b_TooMany rfl (T.gl 34 rfl) (pa_cons (pv 0) pa_nil))) (pa_cons (pe_fldE (T.ini 30 (x := "UsedResult") (fs := ["place"]) rfl).xf ((T.ini 30 (x := "UsedResult") (fs := ["place"]) rfl).no _ (by simp)) (pe_newE (T.ini 30 (x := "UsedResult") (fs := ["place"]) rfl).T (T.ini 30 (x := "UsedResult") (fs := ["place"]) rfl).iC (T.ini 30 (x := "UsedResult") (fs := ["place"]) rfl).tI F_UsedResult hr b_UsedResult rfl (T.gl 37 rfl) (pa_cons (pv 0) pa_nil))) pa_nil))))))
      (pss_one (ps_ret (pv 1))))))))), ?_⟩
    obtain ⟨v, rfl, q⟩ := h
    refine q_asgL (el_lst (ea_cons (ev_one (ev_var rfl)) (ea_cons (ev_one (ev_var rfl)) (ea_cons (ev_one (ev_var rfl)) (ea_cons (ev_one (ev_var rfl)) (ea_cons (ev_one (ev_var rfl)) ea_nil))))) (by simp)) fun l1 H1 p1 e1 h1 => ?_
    refine q_asgL (el_cat (ev_var rfl) h1 (el_lst (ea_cons (ev_one (ev_var rfl)) (ea_cons (ev_one (ev_var rfl)) (ea_cons (ev_one (ev_var rfl)) (ea_cons (ev_one (ev_var rfl)) (ea_cons (ev_one (ev_var rfl)) ea_nil))))) (by simp)) (by simp)) fun l2 H2 p2 e2 h2 => ?_
    refine q_asgL (el_cat (ev_var rfl) h2 (el_lst (ea_cons (ev_one (ev_var rfl)) (ea_cons (ev_one (ev_var rfl)) (ea_cons (ev_one (ev_var rfl)) (ea_cons (ev_one (ev_var rfl)) (ea_cons (ev_one (ev_var rfl)) ea_nil))))) (by simp)) (by simp)) fun l3 H3 p3 e3 h3 => ?_
    refine q_asgL (el_cat (ev_var rfl) h3 (el_lst (ea_cons (ev_one (ev_var rfl)) (ea_cons (ev_one (ev_var rfl)) (ea_cons (ev_one (ev_var rfl)) (ea_cons (ev_one (ev_var rfl)) (ea_cons (ev_one (ev_var rfl)) ea_nil))))) (by simp)) (by simp)) fun l4 H4 p4 e4 h4 => ?_
    refine q_asgL (el_cat (ev_var rfl) h4 (el_lst (ea_cons (ev_one (ev_var rfl)) (ea_cons (ev_one (ev_var rfl)) (ea_cons (ev_one (ev_var rfl)) (ea_cons (ev_one (ev_var rfl)) (ea_cons (ev_one (ev_var rfl)) ea_nil))))) (by simp)) (by simp)) fun l5 H5 p5 e5 h5 => ?_
    refine q_asgL (el_cat (ev_var rfl) h5 (el_lst (ea_cons (ev_one (ev_var rfl)) (ea_cons (ev_one (ev_var rfl)) (ea_cons (ev_one (ev_var rfl)) ea_nil))) (by simp)) (by simp)) fun l6 H6 p6 e6 h6 => ?_
    refine s_ret (ev_var rfl) fun H0 e0 => ?_
    exact q l6 H0 (fresh_back ((((e1.trans e2).trans e3).trans e4).trans e5) p6) ((((((e1.trans e2).trans e3).trans e4).trans e5).trans e6).trans e0) (e0 _ _ h6)
def spM (K : PySem.W.Frag) : Sp := fun vs H Q _ => ∃ v : V, vs = [v] ∧ ∀ p us H2, Ex H H2 → H2 p = some (.lst us) → PRs (cl K) 0 38 us H2 → Q (.ref p) H2
theorem sc_made : FnScope ["_law_x", "_law_out"] ["_law_x"] (defScope (top 46)) := ⟨rfl, rfl, rfl, by decide +kernel, rfl, by decide +kernel, by decide +kernel⟩
theorem ok_made (T : Tx K mg) : ∃ fd, FnOk P w K mg base CX0 3 (He.ga K "_law_made") fd ["_law_x"] (spM K) ∧ Binds K fd ["_law_x"] [] := by
  obtain ⟨fd, F⟩ := T.d.def_ 36 (d := d__law_made) rfl
  obtain ⟨fd_BadAnswers, F_BadAnswers, b_BadAnswers⟩ := ok_BadAnswers (P := P) (w := w) (base := base) T
  obtain ⟨fd_BadBlock, F_BadBlock, b_BadBlock⟩ := ok_BadBlock (P := P) (w := w) (base := base) T
  obtain ⟨fd_BadFact, F_BadFact, b_BadFact⟩ := ok_BadFact (P := P) (w := w) (base := base) T
  obtain ⟨fd_BadLine, F_BadLine, b_BadLine⟩ := ok_BadLine (P := P) (w := w) (base := base) T
  obtain ⟨fd_BadMachine, F_BadMachine, b_BadMachine⟩ := ok_BadMachine (P := P) (w := w) (base := base) T
  obtain ⟨fd_BadName, F_BadName, b_BadName⟩ := ok_BadName (P := P) (w := w) (base := base) T
  obtain ⟨fd_BadNumber, F_BadNumber, b_BadNumber⟩ := ok_BadNumber (P := P) (w := w) (base := base) T
  obtain ⟨fd_BadPair, F_BadPair, b_BadPair⟩ := ok_BadPair (P := P) (w := w) (base := base) T
  obtain ⟨fd_BadResults, F_BadResults, b_BadResults⟩ := ok_BadResults (P := P) (w := w) (base := base) T
  obtain ⟨fd_BadRule, F_BadRule, b_BadRule⟩ := ok_BadRule (P := P) (w := w) (base := base) T
  obtain ⟨fd_BadSide, F_BadSide, b_BadSide⟩ := ok_BadSide (P := P) (w := w) (base := base) T
  obtain ⟨fd_BadStatement, F_BadStatement, b_BadStatement⟩ := ok_BadStatement (P := P) (w := w) (base := base) T
  obtain ⟨fd_BadTruth, F_BadTruth, b_BadTruth⟩ := ok_BadTruth (P := P) (w := w) (base := base) T
  obtain ⟨fd_BadWeight, F_BadWeight, b_BadWeight⟩ := ok_BadWeight (P := P) (w := w) (base := base) T
  obtain ⟨fd_BadWorld, F_BadWorld, b_BadWorld⟩ := ok_BadWorld (P := P) (w := w) (base := base) T
  obtain ⟨fd_Forgotten, F_Forgotten, b_Forgotten⟩ := ok_Forgotten (P := P) (w := w) (base := base) T
  obtain ⟨fd_HasDeeds, F_HasDeeds, b_HasDeeds⟩ := ok_HasDeeds (P := P) (w := w) (base := base) T
  obtain ⟨fd_HasLeave, F_HasLeave, b_HasLeave⟩ := ok_HasLeave (P := P) (w := w) (base := base) T
  obtain ⟨fd_Impossible, F_Impossible, b_Impossible⟩ := ok_Impossible (P := P) (w := w) (base := base) T
  obtain ⟨fd_NoDeed, F_NoDeed, b_NoDeed⟩ := ok_NoDeed (P := P) (w := w) (base := base) T
  obtain ⟨fd_NoName, F_NoName, b_NoName⟩ := ok_NoName (P := P) (w := w) (base := base) T
  obtain ⟨fd_NoNumber, F_NoNumber, b_NoNumber⟩ := ok_NoNumber (P := P) (w := w) (base := base) T
  obtain ⟨fd_NoPlace, F_NoPlace, b_NoPlace⟩ := ok_NoPlace (P := P) (w := w) (base := base) T
  obtain ⟨fd_NoRegister, F_NoRegister, b_NoRegister⟩ := ok_NoRegister (P := P) (w := w) (base := base) T
  obtain ⟨fd_NoSection, F_NoSection, b_NoSection⟩ := ok_NoSection (P := P) (w := w) (base := base) T
  obtain ⟨fd_NoTest, F_NoTest, b_NoTest⟩ := ok_NoTest (P := P) (w := w) (base := base) T
  obtain ⟨fd_NoThing, F_NoThing, b_NoThing⟩ := ok_NoThing (P := P) (w := w) (base := base) T
  obtain ⟨fd_NoThings, F_NoThings, b_NoThings⟩ := ok_NoThings (P := P) (w := w) (base := base) T
  obtain ⟨fd_NoValue, F_NoValue, b_NoValue⟩ := ok_NoValue (P := P) (w := w) (base := base) T
  obtain ⟨fd_TooMany, F_TooMany, b_TooMany⟩ := ok_TooMany (P := P) (w := w) (base := base) T
  obtain ⟨fd_UsedResult, F_UsedResult, b_UsedResult⟩ := ok_UsedResult (P := P) (w := w) (base := base) T
  refine ⟨fd, F.ok sc_made (fun vs H Q E h => ?_) (fun cdv A outer s H vs Q E hr h => ?_), FunD.bindsN F fun _ _ _ _ _ _ us hl => match us, hl with | [_], _ => rfl⟩
  · obtain ⟨v, rfl, _⟩ := h
    rfl
  · refine ⟨_, PSs.nox (pss_cons (ps_set (i := 1) sc_made.nd rfl (Or.inl rfl) (pe_lst (pa_cons (pe_tup (pa_cons (pe_newE (T.ini 0 (x := "BadAnswers") (fs := ["index"]) rfl).T (T.ini 0 (x := "BadAnswers") (fs := ["index"]) rfl).iC (T.ini 0 (x := "BadAnswers") (fs := ["index"]) rfl).tI F_BadAnswers hr b_BadAnswers rfl (T.gl 0 rfl) (pa_cons (pv 0) pa_nil)) (pa_cons pe_int pa_nil))) (pa_cons (pe_tup (pa_cons (pe_newE (T.ini 1 (x := "BadBlock") (fs := ["index"]) rfl).T (T.ini 1 (x := "BadBlock") (fs := ["index"]) rfl).iC (T.ini 1 (x := "BadBlock") (fs := ["index"]) rfl).tI F_BadBlock hr b_BadBlock rfl (T.gl 1 rfl) (pa_cons (pv 0) pa_nil)) (pa_cons pe_int pa_nil))) (pa_cons (pe_tup (pa_cons (pe_newE (T.ini 2 (x := "BadFact") (fs := ["index"]) rfl).T (T.ini 2 (x := "BadFact") (fs := ["index"]) rfl).iC (T.ini 2 (x := "BadFact") (fs := ["index"]) rfl).tI F_BadFact hr b_BadFact rfl (T.gl 2 rfl) (pa_cons (pv 0) pa_nil)) (pa_cons pe_int pa_nil))) (pa_cons (pe_tup (pa_cons (pe_newE (T.ini 3 (x := "BadLine") (fs := ["index"]) rfl).T (T.ini 3 (x := "BadLine") (fs := ["index"]) rfl).iC (T.ini 3 (x := "BadLine") (fs := ["index"]) rfl).tI F_BadLine hr b_BadLine rfl (T.gl 3 rfl) (pa_cons (pv 0) pa_nil)) (pa_cons pe_int pa_nil))) (pa_cons (pe_tup (pa_cons (pe_newE (T.ini 4 (x := "BadMachine") (fs := ["machine"]) rfl).T (T.ini 4 (x := "BadMachine") (fs := ["machine"]) rfl).iC (T.ini 4 (x := "BadMachine") (fs := ["machine"]) rfl).tI F_BadMachine hr b_BadMachine rfl (T.gl 4 rfl) (pa_cons (pv 0) pa_nil)) (pa_cons pe_int pa_nil))) pa_nil)))))))
      (pss_cons (ps_set (i := 1) sc_made.nd rfl (Or.inl rfl) (pe_op op_cat (pv 1) (pe_lst (pa_cons (pe_tup (pa_cons (pe_newE (T.ini 5 (x := "BadName") (fs := ["name"]) rfl).T (T.ini 5 (x := "BadName") (fs := ["name"]) rfl).iC (T.ini 5 (x := "BadName") (fs := ["name"]) rfl).tI F_BadName hr b_BadName rfl (T.gl 5 rfl) (pa_cons (pv 0) pa_nil)) (pa_cons pe_int pa_nil))) (pa_cons (pe_tup (pa_cons (pe_newE (T.ini 6 (x := "BadNumber") (fs := ["name"]) rfl).T (T.ini 6 (x := "BadNumber") (fs := ["name"]) rfl).iC (T.ini 6 (x := "BadNumber") (fs := ["name"]) rfl).tI F_BadNumber hr b_BadNumber rfl (T.gl 6 rfl) (pa_cons (pv 0) pa_nil)) (pa_cons pe_int pa_nil))) (pa_cons (pe_tup (pa_cons (pe_newE (T.ini 7 (x := "BadPair") (fs := ["index"]) rfl).T (T.ini 7 (x := "BadPair") (fs := ["index"]) rfl).iC (T.ini 7 (x := "BadPair") (fs := ["index"]) rfl).tI F_BadPair hr b_BadPair rfl (T.gl 7 rfl) (pa_cons (pv 0) pa_nil)) (pa_cons pe_int pa_nil))) (pa_cons (pe_tup (pa_cons (pe_newE (T.ini 8 (x := "BadResults") (fs := ["index"]) rfl).T (T.ini 8 (x := "BadResults") (fs := ["index"]) rfl).iC (T.ini 8 (x := "BadResults") (fs := ["index"]) rfl).tI F_BadResults hr b_BadResults rfl (T.gl 8 rfl) (pa_cons (pv 0) pa_nil)) (pa_cons pe_int pa_nil))) (pa_cons (pe_tup (pa_cons (pe_newE (T.ini 9 (x := "BadRule") (fs := ["name"]) rfl).T (T.ini 9 (x := "BadRule") (fs := ["name"]) rfl).iC (T.ini 9 (x := "BadRule") (fs := ["name"]) rfl).tI F_BadRule hr b_BadRule rfl (T.gl 9 rfl) (pa_cons (pv 0) pa_nil)) (pa_cons pe_int pa_nil))) pa_nil))))))))
      (pss_cons (ps_set (i := 1) sc_made.nd rfl (Or.inl rfl) (pe_op op_cat (pv 1) (pe_lst (pa_cons (pe_tup (pa_cons (pe_newE (T.ini 10 (x := "BadSide") (fs := ["side"]) rfl).T (T.ini 10 (x := "BadSide") (fs := ["side"]) rfl).iC (T.ini 10 (x := "BadSide") (fs := ["side"]) rfl).tI F_BadSide hr b_BadSide rfl (T.gl 10 rfl) (pa_cons (pv 0) pa_nil)) (pa_cons pe_int pa_nil))) (pa_cons (pe_tup (pa_cons (pe_newE (T.ini 11 (x := "BadStatement") (fs := ["place"]) rfl).T (T.ini 11 (x := "BadStatement") (fs := ["place"]) rfl).iC (T.ini 11 (x := "BadStatement") (fs := ["place"]) rfl).tI F_BadStatement hr b_BadStatement rfl (T.gl 11 rfl) (pa_cons (pv 0) pa_nil)) (pa_cons pe_int pa_nil))) (pa_cons (pe_tup (pa_cons (pe_newE (T.ini 12 (x := "BadTruth") (fs := ["truth"]) rfl).T (T.ini 12 (x := "BadTruth") (fs := ["truth"]) rfl).iC (T.ini 12 (x := "BadTruth") (fs := ["truth"]) rfl).tI F_BadTruth hr b_BadTruth rfl (T.gl 12 rfl) (pa_cons (pv 0) pa_nil)) (pa_cons pe_int pa_nil))) (pa_cons (pe_tup (pa_cons (pe_newE (T.ini 13 (x := "BadWeight") (fs := ["name"]) rfl).T (T.ini 13 (x := "BadWeight") (fs := ["name"]) rfl).iC (T.ini 13 (x := "BadWeight") (fs := ["name"]) rfl).tI F_BadWeight hr b_BadWeight rfl (T.gl 13 rfl) (pa_cons (pv 0) pa_nil)) (pa_cons pe_int pa_nil))) pa_nil)))))))
      (pss_cons (ps_set (i := 1) sc_made.nd rfl (Or.inl rfl) (pe_op op_cat (pv 1) (pe_lst (pa_cons (pe_tup (pa_cons (pe_newE (T.ini 14 (x := "BadWorld") (fs := ["word"]) rfl).T (T.ini 14 (x := "BadWorld") (fs := ["word"]) rfl).iC (T.ini 14 (x := "BadWorld") (fs := ["word"]) rfl).tI F_BadWorld hr b_BadWorld rfl (T.gl 14 rfl) (pa_cons (pv 0) pa_nil)) (pa_cons pe_int pa_nil))) (pa_cons (pe_tup (pa_cons (pe_newE (T.ini 15 (x := "Forgotten") (fs := ["side", "place", "answers"]) rfl).T (T.ini 15 (x := "Forgotten") (fs := ["side", "place", "answers"]) rfl).iC (T.ini 15 (x := "Forgotten") (fs := ["side", "place", "answers"]) rfl).tI F_Forgotten hr b_Forgotten rfl (T.gl 15 rfl) (pa_cons pe_int (pa_cons (pv 0) (pa_cons (pe_lst pa_nil) pa_nil)))) (pa_cons pe_int pa_nil))) (pa_cons (pe_tup (pa_cons (pe_newE (T.ini 16 (x := "HasDeeds") (fs := ["place"]) rfl).T (T.ini 16 (x := "HasDeeds") (fs := ["place"]) rfl).iC (T.ini 16 (x := "HasDeeds") (fs := ["place"]) rfl).tI F_HasDeeds hr b_HasDeeds rfl (T.gl 16 rfl) (pa_cons (pv 0) pa_nil)) (pa_cons pe_int pa_nil))) (pa_cons (pe_tup (pa_cons (pe_newE (T.ini 17 (x := "HasLeave") (fs := ["place"]) rfl).T (T.ini 17 (x := "HasLeave") (fs := ["place"]) rfl).iC (T.ini 17 (x := "HasLeave") (fs := ["place"]) rfl).tI F_HasLeave hr b_HasLeave rfl (T.gl 17 rfl) (pa_cons (pv 0) pa_nil)) (pa_cons pe_int pa_nil))) pa_nil)))))))
      (pss_cons (ps_set (i := 1) sc_made.nd rfl (Or.inl rfl) (pe_op op_cat (pv 1) (pe_lst (pa_cons (pe_tup (pa_cons (pe_newE (T.ini 18 (x := "Impossible") (fs := ["index", "side", "at"]) rfl).T (T.ini 18 (x := "Impossible") (fs := ["index", "side", "at"]) rfl).iC (T.ini 18 (x := "Impossible") (fs := ["index", "side", "at"]) rfl).tI F_Impossible hr b_Impossible rfl (T.gl 18 rfl) (pa_cons pe_int (pa_cons pe_int (pa_cons (pv 0) pa_nil)))) (pa_cons pe_int pa_nil))) (pa_cons (pe_tup (pa_cons (pe_newE0 (T.zer 0 (x := "IsOver") rfl) (T.up (i := 19) (by decide)).kp rfl (T.gl 19 rfl)) (pa_cons pe_int pa_nil))) (pa_cons (pe_tup (pa_cons (pe_newE0 (T.zer 1 (x := "NoConstant") rfl) (T.up (i := 20) (by decide)).kp rfl (T.gl 20 rfl)) (pa_cons pe_int pa_nil))) (pa_cons (pe_tup (pa_cons (pe_newE (T.ini 19 (x := "NoDeed") (fs := ["name"]) rfl).T (T.ini 19 (x := "NoDeed") (fs := ["name"]) rfl).iC (T.ini 19 (x := "NoDeed") (fs := ["name"]) rfl).tI F_NoDeed hr b_NoDeed rfl (T.gl 21 rfl) (pa_cons (pv 0) pa_nil)) (pa_cons pe_int pa_nil))) pa_nil)))))))
      (pss_cons (ps_set (i := 1) sc_made.nd rfl (Or.inl rfl) (pe_op op_cat (pv 1) (pe_lst (pa_cons (pe_tup (pa_cons (pe_newE (T.ini 20 (x := "NoName") (fs := ["name"]) rfl).T (T.ini 20 (x := "NoName") (fs := ["name"]) rfl).iC (T.ini 20 (x := "NoName") (fs := ["name"]) rfl).tI F_NoName hr b_NoName rfl (T.gl 22 rfl) (pa_cons (pv 0) pa_nil)) (pa_cons pe_int pa_nil))) (pa_cons (pe_tup (pa_cons (pe_newE (T.ini 21 (x := "NoNumber") (fs := ["n"]) rfl).T (T.ini 21 (x := "NoNumber") (fs := ["n"]) rfl).iC (T.ini 21 (x := "NoNumber") (fs := ["n"]) rfl).tI F_NoNumber hr b_NoNumber rfl (T.gl 23 rfl) (pa_cons (pv 0) pa_nil)) (pa_cons pe_int pa_nil))) (pa_cons (pe_tup (pa_cons (pe_newE (T.ini 22 (x := "NoPlace") (fs := ["place"]) rfl).T (T.ini 22 (x := "NoPlace") (fs := ["place"]) rfl).iC (T.ini 22 (x := "NoPlace") (fs := ["place"]) rfl).tI F_NoPlace hr b_NoPlace rfl (T.gl 24 rfl) (pa_cons (pv 0) pa_nil)) (pa_cons pe_int pa_nil))) (pa_cons (pe_tup (pa_cons (pe_newE0 (T.zer 2 (x := "NoQuestion") rfl) (T.up (i := 25) (by decide)).kp rfl (T.gl 25 rfl)) (pa_cons pe_int pa_nil))) pa_nil)))))))
      (pss_cons (ps_set (i := 1) sc_made.nd rfl (Or.inl rfl) (pe_op op_cat (pv 1) (pe_lst (pa_cons (pe_tup (pa_cons (pe_newE (T.ini 23 (x := "NoRegister") (fs := ["side", "name"]) rfl).T (T.ini 23 (x := "NoRegister") (fs := ["side", "name"]) rfl).iC (T.ini 23 (x := "NoRegister") (fs := ["side", "name"]) rfl).tI F_NoRegister hr b_NoRegister rfl (T.gl 26 rfl) (pa_cons pe_int (pa_cons (pv 0) pa_nil))) (pa_cons pe_int pa_nil))) (pa_cons (pe_tup (pa_cons (pe_newE (T.ini 24 (x := "NoSection") (fs := ["word"]) rfl).T (T.ini 24 (x := "NoSection") (fs := ["word"]) rfl).iC (T.ini 24 (x := "NoSection") (fs := ["word"]) rfl).tI F_NoSection hr b_NoSection rfl (T.gl 27 rfl) (pa_cons (pv 0) pa_nil)) (pa_cons pe_int pa_nil))) (pa_cons (pe_tup (pa_cons (pe_newE (T.ini 25 (x := "NoTest") (fs := ["name"]) rfl).T (T.ini 25 (x := "NoTest") (fs := ["name"]) rfl).iC (T.ini 25 (x := "NoTest") (fs := ["name"]) rfl).tI F_NoTest hr b_NoTest rfl (T.gl 28 rfl) (pa_cons (pv 0) pa_nil)) (pa_cons pe_int pa_nil))) (pa_cons (pe_tup (pa_cons (pe_newE (T.ini 26 (x := "NoThing") (fs := ["index"]) rfl).T (T.ini 26 (x := "NoThing") (fs := ["index"]) rfl).iC (T.ini 26 (x := "NoThing") (fs := ["index"]) rfl).tI F_NoThing hr b_NoThing rfl (T.gl 29 rfl) (pa_cons (pv 0) pa_nil)) (pa_cons pe_int pa_nil))) pa_nil)))))))
      (pss_cons (ps_set (i := 1) sc_made.nd rfl (Or.inl rfl) (pe_op op_cat (pv 1) (pe_lst (pa_cons (pe_tup (pa_cons (pe_newE (T.ini 27 (x := "NoThings") (fs := ["things"]) rfl).T (T.ini 27 (x := "NoThings") (fs := ["things"]) rfl).iC (T.ini 27 (x := "NoThings") (fs := ["things"]) rfl).tI F_NoThings hr b_NoThings rfl (T.gl 30 rfl) (pa_cons (pv 0) pa_nil)) (pa_cons pe_int pa_nil))) (pa_cons (pe_tup (pa_cons (pe_newE (T.ini 28 (x := "NoValue") (fs := ["thing"]) rfl).T (T.ini 28 (x := "NoValue") (fs := ["thing"]) rfl).iC (T.ini 28 (x := "NoValue") (fs := ["thing"]) rfl).tI F_NoValue hr b_NoValue rfl (T.gl 31 rfl) (pa_cons (pv 0) pa_nil)) (pa_cons pe_int pa_nil))) (pa_cons (pe_tup (pa_cons (pe_newE0 (T.zer 3 (x := "NoWorld") rfl) (T.up (i := 32) (by decide)).kp rfl (T.gl 32 rfl)) (pa_cons pe_int pa_nil))) (pa_cons (pe_tup (pa_cons (pe_newE0 (T.zer 4 (x := "Parted") rfl) (T.up (i := 33) (by decide)).kp rfl (T.gl 33 rfl)) (pa_cons pe_int pa_nil))) (pa_cons (pe_tup (pa_cons (pe_newE (T.ini 29 (x := "TooMany") (fs := ["total"]) rfl).T (T.ini 29 (x := "TooMany") (fs := ["total"]) rfl).iC (T.ini 29 (x := "TooMany") (fs := ["total"]) rfl).tI F_TooMany hr b_TooMany rfl (T.gl 34 rfl) (pa_cons (pv 0) pa_nil)) (pa_cons pe_int pa_nil))) pa_nil))))))))
      (pss_cons (ps_set (i := 1) sc_made.nd rfl (Or.inl rfl) (pe_op op_cat (pv 1) (pe_lst (pa_cons (pe_tup (pa_cons (pe_newE0 (T.zer 5 (x := "Unanswered") rfl) (T.up (i := 35) (by decide)).kp rfl (T.gl 35 rfl)) (pa_cons pe_int pa_nil))) (pa_cons (pe_tup (pa_cons (pe_newE0 (T.zer 6 (x := "UnlikeNames") rfl) (T.up (i := 36) (by decide)).kp rfl (T.gl 36 rfl)) (pa_cons pe_int pa_nil))) (pa_cons (pe_tup (pa_cons (pe_newE (T.ini 30 (x := "UsedResult") (fs := ["place"]) rfl).T (T.ini 30 (x := "UsedResult") (fs := ["place"]) rfl).iC (T.ini 30 (x := "UsedResult") (fs := ["place"]) rfl).tI F_UsedResult hr b_UsedResult rfl (T.gl 37 rfl) (pa_cons (pv 0) pa_nil)) (pa_cons pe_int pa_nil))) pa_nil))))))
      (pss_one (ps_ret (pv 1)))))))))))), ?_⟩
    obtain ⟨v, rfl, q⟩ := h
    refine q_first (cl K) (eap_cons (cl K) (evp_pair (cl K) (i := 0) (evp_new1 (ev_var rfl))) (eap_cons (cl K) (evp_pair (cl K) (i := 1) (evp_new1 (ev_var rfl))) (eap_cons (cl K) (evp_pair (cl K) (i := 2) (evp_new1 (ev_var rfl))) (eap_cons (cl K) (evp_pair (cl K) (i := 3) (evp_new1 (ev_var rfl))) (eap_cons (cl K) (evp_pair (cl K) (i := 4) (evp_new1 (ev_var rfl))) (eap_nil (cl K))))))) (by decide) fun l1 us1 H1 e1 h1 r1 => ?_
    refine q_more (cl K) rfl h1 r1 (eap_cons (cl K) (evp_pair (cl K) (i := 5) (evp_new1 (ev_var rfl))) (eap_cons (cl K) (evp_pair (cl K) (i := 6) (evp_new1 (ev_var rfl))) (eap_cons (cl K) (evp_pair (cl K) (i := 7) (evp_new1 (ev_var rfl))) (eap_cons (cl K) (evp_pair (cl K) (i := 8) (evp_new1 (ev_var rfl))) (eap_cons (cl K) (evp_pair (cl K) (i := 9) (evp_new1 (ev_var rfl))) (eap_nil (cl K))))))) (by decide) fun l2 us2 H2 e2 h2 r2 => ?_
    refine q_more (cl K) rfl h2 r2 (eap_cons (cl K) (evp_pair (cl K) (i := 10) (evp_new1 (ev_var rfl))) (eap_cons (cl K) (evp_pair (cl K) (i := 11) (evp_new1 (ev_var rfl))) (eap_cons (cl K) (evp_pair (cl K) (i := 12) (evp_new1 (ev_var rfl))) (eap_cons (cl K) (evp_pair (cl K) (i := 13) (evp_new1 (ev_var rfl))) (eap_nil (cl K)))))) (by decide) fun l3 us3 H3 e3 h3 r3 => ?_
    refine q_more (cl K) rfl h3 r3 (eap_cons (cl K) (evp_pair (cl K) (i := 14) (evp_new1 (ev_var rfl))) (eap_cons (cl K) (evp_pair (cl K) (i := 15) (evp_new3 fun H1 e Q q => ⟨_, rfl, sz_of (by simp), fun p hp => q _ _ (Ex.new hp) rfl⟩)) (eap_cons (cl K) (evp_pair (cl K) (i := 16) (evp_new1 (ev_var rfl))) (eap_cons (cl K) (evp_pair (cl K) (i := 17) (evp_new1 (ev_var rfl))) (eap_nil (cl K)))))) (by decide) fun l4 us4 H4 e4 h4 r4 => ?_
    refine q_more (cl K) rfl h4 r4 (eap_cons (cl K) (evp_pair (cl K) (i := 18) (evp_new3 fun H1 e Q q => ⟨_, rfl, q _ _ (Ex.refl H1) rfl⟩)) (eap_cons (cl K) (evp_pair (cl K) (i := 19) evp_new0) (eap_cons (cl K) (evp_pair (cl K) (i := 20) evp_new0) (eap_cons (cl K) (evp_pair (cl K) (i := 21) (evp_new1 (ev_var rfl))) (eap_nil (cl K)))))) (by decide) fun l5 us5 H5 e5 h5 r5 => ?_
    refine q_more (cl K) rfl h5 r5 (eap_cons (cl K) (evp_pair (cl K) (i := 22) (evp_new1 (ev_var rfl))) (eap_cons (cl K) (evp_pair (cl K) (i := 23) (evp_new1 (ev_var rfl))) (eap_cons (cl K) (evp_pair (cl K) (i := 24) (evp_new1 (ev_var rfl))) (eap_cons (cl K) (evp_pair (cl K) (i := 25) evp_new0) (eap_nil (cl K)))))) (by decide) fun l6 us6 H6 e6 h6 r6 => ?_
    refine q_more (cl K) rfl h6 r6 (eap_cons (cl K) (evp_pair (cl K) (i := 26) (evp_new2 (ea_cons ev_c (ea_cons (ev_var rfl) ea_nil)))) (eap_cons (cl K) (evp_pair (cl K) (i := 27) (evp_new1 (ev_var rfl))) (eap_cons (cl K) (evp_pair (cl K) (i := 28) (evp_new1 (ev_var rfl))) (eap_cons (cl K) (evp_pair (cl K) (i := 29) (evp_new1 (ev_var rfl))) (eap_nil (cl K)))))) (by decide) fun l7 us7 H7 e7 h7 r7 => ?_
    refine q_more (cl K) rfl h7 r7 (eap_cons (cl K) (evp_pair (cl K) (i := 30) (evp_new1 (ev_var rfl))) (eap_cons (cl K) (evp_pair (cl K) (i := 31) (evp_new1 (ev_var rfl))) (eap_cons (cl K) (evp_pair (cl K) (i := 32) evp_new0) (eap_cons (cl K) (evp_pair (cl K) (i := 33) evp_new0) (eap_cons (cl K) (evp_pair (cl K) (i := 34) (evp_new1 (ev_var rfl))) (eap_nil (cl K))))))) (by decide) fun l8 us8 H8 e8 h8 r8 => ?_
    refine q_more (cl K) rfl h8 r8 (eap_cons (cl K) (evp_pair (cl K) (i := 35) evp_new0) (eap_cons (cl K) (evp_pair (cl K) (i := 36) evp_new0) (eap_cons (cl K) (evp_pair (cl K) (i := 37) (evp_new1 (ev_var rfl))) (eap_nil (cl K))))) (by decide) fun l9 us9 H9 e9 h9 r9 => ?_
    refine s_ret (ev_var rfl) fun H0 e0 => ?_
    exact q l9 us9 H0 (((((((((e1.trans e2).trans e3).trans e4).trans e5).trans e6).trans e7).trans e8).trans e9).trans e0) (e0 _ _ h9) (r9.ex (cl K) e0)
end
end K1
namespace KV
open PySem PySem.Spec PyProof.Rows L2 Evl
section
variable {K : PySem.W.Frag} {σ : L2.St} {H H' : Hp}
mutual
theorem dp_ex (e : Ex H H') : ∀ (d : PyData) (v : V), Dp K H v d → Dp K H' v d
  | _, _, .non => .non
  | _, _, .bl b => .bl b
  | _, _, .int i => .int i
  | _, _, .str z => .str z
  | .list ds, _, .lst h a => .lst (ex_l e h) (dps_ex e ds _ a)
  | .tuple ds, _, .tup h a => .tup (ex_t e h) (dps_ex e ds _ a)
theorem dps_ex (e : Ex H H') : ∀ (ds : List PyData) (vs : List V), DpAll K H vs ds → DpAll K H' vs ds
  | _, _, .nil => .nil
  | d :: ds, _, .cons h a => .cons (dp_ex e d _ h) (dps_ex e ds _ a)
end
/-- evaluates to something with this data -/
def EvD (K : PySem.W.Frag) (te : TE) (σ : L2.St) (H : Hp) (d : PyData) : Prop := EvP te σ H fun v H2 => Dp K H2 v d
def EvAD (K : PySem.W.Frag) (ta : TA) (σ : L2.St) (H : Hp) (ds : List PyData) : Prop := EvAP ta σ H fun vs H2 => DpAll K H2 vs ds
theorem evd_ev {te : TE} {v : V} {d : PyData} (h : Ev te σ H v) (hd : Dp K H v d) : EvD K te σ H d := fun H1 e Q q => h H1 e _ fun H2 e2 => q v H2 e2 (dp_ex (e.trans e2) d v hd)
theorem ead_nil : EvAD K tNil σ H [] := fun H1 e Q q => q [] H1 (Ex.refl H1) .nil
theorem ead_cons {te : TE} {tr : TA} {d : PyData} {ds : List PyData} (h : EvD K te σ H d) (hr : EvAD K tr σ H ds) : EvAD K (tCons te tr) σ H (d :: ds) := fun H1 e Q q =>
  h H1 e _ fun v H2 e2 h1 => hr H2 (e.trans e2) _ fun r H3 e3 h2 => q _ H3 (e2.trans e3) (.cons (dp_ex e3 d v h1) h2)
theorem dps_len : ∀ {ds : List PyData} {vs : List V}, DpAll K H vs ds → vs.length = ds.length
  | _, _, .nil => rfl
  | _ :: _, _, .cons _ a => congrArg Nat.succ (dps_len a)
theorem evd_tup {ta : TA} {ds : List PyData} (h : EvAD K ta σ H ds) (hn : ds.length ≤ 1000) : EvD K (tTup ta) σ H (.tuple ds) := fun H1 e Q q =>
  h H1 e _ fun vs H2 e2 h1 => ⟨by rw [dps_len h1]; exact sz_of (by omega), fun p hp => q _ _ (e2.trans (Ex.new hp)) (.tup (st_of upd_same) (dps_ex (Ex.new hp) ds vs h1))⟩
theorem evd_lst {ta : TA} {ds : List PyData} (h : EvAD K ta σ H ds) (hn : ds.length ≤ 1000) : EvD K (tLst ta) σ H (.list ds) := fun H1 e Q q =>
  h H1 e _ fun vs H2 e2 h1 => ⟨by rw [dps_len h1]; exact sz_of (by omega), fun p hp => q _ _ (e2.trans (Ex.new hp)) (.lst (sq_of upd_same) (dps_ex (Ex.new hp) ds vs h1))⟩
theorem ev_neD {ta tb : TE} {d f : PyData} (ha : EvD K ta σ H d) (hb : EvD K tb σ H f) (sd : SeqAt.shaped d = true) (sf : SeqAt.shaped f = true) : Ev (tOp (rNeD K) ta tb) σ H (.bl (!PyData.eqv d f)) := fun H1 e Q q =>
  ha H1 e _ fun v H2 e2 h1 => hb H2 (e.trans e2) _ fun u H3 e3 h2 => ⟨d, f, dp_ex e3 d v h1, h2, sd, sf, q H3 (e2.trans e3)⟩
theorem ev_eqD {ta tb : TE} {d f : PyData} (ha : EvD K ta σ H d) (hb : EvD K tb σ H f) (sd : SeqAt.shaped d = true) (sf : SeqAt.shaped f = true) : Ev (tOp (rEqD K) ta tb) σ H (.bl (PyData.eqv d f)) := fun H1 e Q q =>
  ha H1 e _ fun v H2 e2 h1 => hb H2 (e.trans e2) _ fun u H3 e3 h2 => ⟨d, f, dp_ex e3 d v h1, h2, sd, sf, q H3 (e2.trans e3)⟩
theorem ev_fld {C : Addr} {f : Str} {j : Nat} {a : Addr} {fs : List (Str × V)} {v : V} (hσ : σ[j]? = some (some (.ref a))) (hx : IsEx H a C fs) (hl : fs.lookup f = some v) : Ev (tFldE C f (tVar j)) σ H v := fun H1 e Q q => by
  rcases hx with ⟨z, _⟩ | ⟨d, h1, h2⟩
  · rw [z] at hl
    cases hl
  · exact ⟨_, hσ, a, d, fs, v, rfl, e _ _ h1, e _ _ h2, hl, q H1 (Ex.refl H1)⟩
theorem ev_two {C : Addr} {f g i : Str} {ta : TA} {v u z : V} (h : EvA ta σ H [v, u]) (hl : List.lookup i [(g, u), (f, v)] = some z) : Ev (tFldE C i (tNewE C (spIni2 K C f g) ta)) σ H z := fun H1 e Q q =>
  h H1 e _ fun H2 e2 => ⟨by simp, fun a ha => ⟨a, v, u, rfl, upd_same, fun H3 k ix => ⟨rfl, by
    have e3 : Ex H2 H3 := fun b o hb => k b o (ne_of_none hb ha) ((upd_ne (ne_of_none hb ha)).trans hb)
    rcases ix with ⟨y, _⟩ | ⟨d, h1, h2⟩
    · cases y
    · exact ⟨a, d, _, z, rfl, h1, h2, hl, q H3 (e2.trans e3)⟩⟩⟩⟩
/-- C(x, y, z) of three fields, their data told -/
theorem evp_three {C : Addr} {f g i : Str} {ta : TA} {d1 d2 d3 : PyData} (h : EvAD K ta σ H [d1, d2, d3]) :
    EvP (tNewE C (spIni3 K C f g i) ta) σ H (fun y H2 => ∃ a v u z, y = .ref a ∧ IsEx H2 a C [(i, z), (g, u), (f, v)] ∧ Dp K H2 v d1 ∧ Dp K H2 u d2 ∧ Dp K H2 z d3) := fun H1 e Q q =>
  h H1 e _ fun vs H2 e2 hv => by
    obtain ⟨v, u, z, rfl, p1, p2, p3⟩ : ∃ v u z, vs = [v, u, z] ∧ Dp K H2 v d1 ∧ Dp K H2 u d2 ∧ Dp K H2 z d3 := by
      match vs, hv with
      | [v, u, z], .cons p1 (.cons p2 (.cons p3 _)) => exact ⟨v, u, z, rfl, p1, p2, p3⟩
    refine ⟨by simp, fun a ha => ⟨a, v, u, z, rfl, upd_same, fun H3 k ix => ⟨rfl, ?_⟩⟩⟩
    have e3 : Ex H2 H3 := fun b o hb => k b o (ne_of_none hb ha) ((upd_ne (ne_of_none hb ha)).trans hb)
    exact q _ H3 (e2.trans e3) ⟨a, v, u, z, rfl, ix, dp_ex e3 _ _ p1, dp_ex e3 _ _ p2, dp_ex e3 _ _ p3⟩
/-- [x] * 6 -/
theorem evd_six {te : TE} {v : V} {d : PyData} (h : Ev te σ H v) (hd : Dp K H v d) : EvD K (tOp rRep (tLst (tCons te tNil)) (tC (.int 6))) σ H (.list [d, d, d, d, d, d]) := fun H1 e Q q =>
  h H1 e _ fun H2 e2 => ⟨sz_of (by simp), fun l hl => ⟨l, 6, [v], rfl, rfl, upd_same, by decide, by decide, by show 1 * (6 : Int).toNat ≤ sizeLine; decide, fun p hp => by
    have e4 := (e2.trans (Ex.new (o := .lst [v]) hl)).trans (Ex.new (o := .lst (List.replicate (6 : Int).toNat [v]).flatten) hp)
    have d4 := dp_ex (e.trans e4) d v hd
    exact q _ _ e4 (.lst (sq_of upd_same) (.cons d4 (.cons d4 (.cons d4 (.cons d4 (.cons d4 (.cons d4 .nil)))))))⟩⟩
end
end KV
namespace K1
open PySem PySem.Spec PyProof.Rows L2 KV Evl
section
variable {K : PySem.W.Frag} {mg : Str → Option Value} {P : Program} {w : World} {base : Heap}
theorem q_par {σ : L2.St} {H : Hp} {te1 te2 : TE} {tz : TS} {D : Ends} {i j : Nat} {R1 R2 : V → Hp → Prop} (h1 : EvP te1 σ H R1) (h2 : EvP te2 σ H R2)
    (k : ∀ v u H1 H2, Ex H H1 → R1 v H1 → Ex H1 H2 → R2 u H2 → tz D ((σ.set i (some v)).set j (some u)) H2) : tSeq (tPar i j (tCons te1 (tCons te2 tNil))) tz D σ H :=
  h1 H (Ex.refl H) _ fun v H1 e1 r1 => h2 H1 e1 _ fun u H2 e2 r2 => ⟨v, u, rfl, k v u H1 H2 e1 r1 e2 r2⟩
theorem gd_shaped {d : PyData} (h1 : d.canLay0 = true) (h2 : d.depth ≤ 10) : SeqAt.shaped d = true := by
  unfold SeqAt.shaped
  rw [h1, decide_eq_true (show d.depth ≤ 64 by omega)] <;> rfl
theorem xv_can {H : Hp} {v : V} {d : PyData} (h : XV H v d) : d.canLay0 = true := SeqAt.canLay_of_shaped h.shaped
theorem xv_dep {H : Hp} {v : V} {d : PyData} (h : XV H v d) : d.depth ≤ 1 := by
  rcases h with ⟨n, rfl, rfl⟩ | ⟨z, hz, rfl, rfl⟩ | ⟨p, n, z, hz, rfl, h2, rfl⟩ | ⟨rfl, rfl⟩ <;> simp [PyData.depth, PyData.depthAll]
def spL (K : PySem.W.Frag) : Sp := fun vs H Q _ => ∃ (l : Addr) (ns : List Int), vs = [.ref l] ∧ SqL K H l (ns.map V.int) ∧ ∀ H', Q (.bl true) H'
theorem sc_law : FnScope ["_law_script", "_law_x", "_law_lost", "_law_far", "_law_all_x", "_law_more_x", "_law_e", "_law_place", "_law_told"] ["_law_script"] (defScope (top 47)) := ⟨rfl, rfl, rfl, by decide +kernel, rfl, by decide +kernel, by decide +kernel⟩
theorem ev_all {σ : L2.St} {H : Hp} {v : V} (h1 : σ[1]? = some (some v)) (hw : ∀ x y, wipe (((wipe σ [6, 7]).set 6 (some x)).set 7 (some y)) [6, 7] = wipe σ [6, 7])
    (hg6 : ∀ x y, (((wipe σ [6, 7]).set 6 (some x)).set 7 (some y))[6]? = some (some x)) (hg7 : ∀ x y, (((wipe σ [6, 7]).set 6 (some x)).set 7 (some y))[7]? = some (some y)) :
    Ev (tCB (rAll K) (tCons (tLc (iList K (tCall (spM K) [] E0 (tCons (tVar 1) tNil))) (gTup K 2 (gCons (gName 6) (gCons (gName 7) gNil))) tYes (tCall (spA K) [] E0 (tCons (tVar 6) (tCons (tVar 7) tNil))) [6, 7]) tNil)) σ H (.bl true) := fun H1 e Q q => by
  refine ⟨v, h1, v, rfl, fun p us H2 e2 hp hr => ⟨p, rfl, ⟨us, sq_of hp⟩, fun Dl hD => ?_⟩⟩
  refine lc_list (K := K) (a := p) (xs := us) (fun i H' => Ex H2 H' ∧ H' Dl = some (.lst ((List.replicate i true).map V.bl))) ⟨Ex.new hD, upd_same⟩ (fun i H' _ z => sq_of (z.1 _ _ hp)) ?_ ?_
  · rintro i x H' hi ⟨ex, hl⟩
    obtain ⟨hi2, t, a, fs, rfl, ht, hx⟩ := PRs.at (cl K) hr hi
    rw [Nat.zero_add] at ht hx
    refine ⟨t, _, rfl, st_of (ex _ _ ht), rfl, _, _, rfl, _, _, rfl, rfl, hw _ _, _, hg6 _ _, _, hg7 _ _, a, i, fs, rfl, hi2, hx.ex ex, fun H3 e3 => ⟨_, e3 _ _ hl, ?_, ?_, ?_⟩⟩
    · rw [List.length_map, List.length_replicate]
      exact sz_lt (by omega)
    · exact Ex.mut (ex.trans e3) hD
    · rw [List.replicate_succ', List.map_append]
      exact upd_same
  · rintro H' ⟨ex, hl⟩
    rw [PRs.len (cl K) hr] at hl
    exact ⟨Dl, List.replicate 38 true, rfl, sq_of hl, q H' (e2.trans ex)⟩
theorem ev_any {σ : L2.St} {H : Hp} {v : V} {d : PyData} (h1 : σ[1]? = some (some v)) (hw : ∀ x, wipe ((wipe σ [8]).set 8 (some x)) [8] = wipe σ [8]) (hd : Dp K H v d) (hs : SeqAt.shaped d = true) (he : PyData.eqv d d = true)
    (hg8 : ∀ x, ((wipe σ [8]).set 8 (some x))[8]? = some (some x)) (hg1 : ∀ x, ((wipe σ [8]).set 8 (some x))[1]? = some (some v)) :
    Ev (tCB (rAny K) (tCons (tLc (iList K (tCall spO [] E0 (tCons (tVar 1) tNil))) (gName 8) tYes (tOp (rNeD K) (tVar 8) (tVar 1)) [8]) tNil)) σ H (.bl false) := fun H1 e Q q => by
  refine ⟨v, h1, v, rfl, fun p H2 _ e2 hp => ⟨p, rfl, ⟨_, sq_of hp⟩, fun Dl hD => ?_⟩⟩
  refine lc_list (K := K) (a := p) (xs := List.replicate 28 v) (fun i H' => Ex H2 H' ∧ H' Dl = some (.lst ((List.replicate i false).map V.bl))) ⟨Ex.new hD, upd_same⟩ (fun i H' _ z => sq_of (z.1 _ _ hp)) ?_ ?_
  · rintro i x H' hi ⟨ex, hl⟩
    obtain ⟨hi2, hxv⟩ := List.getElem?_eq_some_iff.mp hi
    rw [List.getElem_replicate] at hxv
    subst hxv
    rw [List.length_replicate] at hi2
    have d2 := dp_ex ((e.trans e2).trans ex) d v hd
    refine ⟨hw _, _, hg8 _, _, hg1 _, d, d, d2, d2, hs, hs, _, hl, ?_, Ex.mut ex hD, ?_⟩
    · rw [List.length_map, List.length_replicate]
      exact sz_lt (by omega)
    · rw [he, List.replicate_succ', List.map_append]
      exact upd_same
  · rintro H' ⟨ex, hl⟩
    rw [List.length_replicate] at hl
    exact ⟨Dl, List.replicate 28 false, rfl, sq_of hl, q H' (e2.trans ex)⟩
theorem ok_law (T : Tx K mg) {fd : FuncData} (F : FunD K d_law.name d_law.qual d_law.params d_law.body d_law.scope (d_law.dvs K) (d_law.kws K) (He.fAd K d_law.at_) fd) :
    (∀ (s : Shared) (u : Value), BindsTo s fd ⟨[u], []⟩ [("_law_script", u)]) ∧ FnOk P w K mg base CX0 4 (He.ga K "law") fd ["_law_script"] (spL K) := by
  obtain ⟨fd_cell, G_cell, b_cell⟩ := ok_cell (P := P) (w := w) (base := base) T
  have k_cell := (T.d.def_ 31 (d := d__law_cell) rfl).choose_spec.kp
  obtain ⟨fd_value, G_value, b_value⟩ := ok_value (P := P) (w := w) (base := base) T
  have k_value := (T.d.def_ 32 (d := d__law_value) rfl).choose_spec.kp
  obtain ⟨fd_alone, G_alone, b_alone⟩ := ok_alone (P := P) (w := w) (base := base) T
  have k_alone := (T.d.def_ 34 (d := d__law_alone) rfl).choose_spec.kp
  obtain ⟨fd_ones, G_ones, b_ones⟩ := ok_ones (P := P) (w := w) (base := base) T
  have k_ones := (T.d.def_ 35 (d := d__law_ones) rfl).choose_spec.kp
  obtain ⟨fd_made, G_made, b_made⟩ := ok_made (P := P) (w := w) (base := base) T
  have k_made := (T.d.def_ 36 (d := d__law_made) rfl).choose_spec.kp
  obtain ⟨fd_Forgotten, F_Forgotten, b_Forgotten⟩ := ok_Forgotten (P := P) (w := w) (base := base) T
  obtain ⟨fd_Impossible, F_Impossible, b_Impossible⟩ := ok_Impossible (P := P) (w := w) (base := base) T
  obtain ⟨fd_NoRegister, F_NoRegister, b_NoRegister⟩ := ok_NoRegister (P := P) (w := w) (base := base) T
  refine ⟨fun s u => FunD.bindsA (ps := ["_law_script"]) F (fun _ _ _ _ _ _ us hl => match us, hl with | [_], _ => rfl) s [u] rfl, F.ok sc_law (fun vs H Q E h => ?_) (fun cdv A outer s H vs Q E hr h => ?_)⟩
  · obtain ⟨l, ns, rfl, _⟩ := h
    rfl
  · refine ⟨_, PSs.nox (pss_cons (ps_set (i := 1) sc_law.nd rfl (Or.inr rfl) (pe_call G_value (hr.mono (by decide)) rfl (T.gl 40 rfl) k_value b_value .nil pass0 (pa_cons (pe_call G_cell (hr.mono (by decide)) rfl (T.gl 39 rfl) k_cell b_cell .nil pass0 (pa_cons (pv 0) (pa_cons pe_int pa_nil))) pa_nil)))
      (pss_cons (ps_if (PW.pt (pw_or (pt_not (pt_val (pe_callB (cr_all rfl) (by rfl) (T.fr 49 rfl) PyProof.Rows.boot_all (pa_cons (pe_lc (own := [("_law_e", 6), ("_law_place", 7)]) (g := gTup K 2 (gCons (gName 6) (gCons (gName 7) gNil))) rfl sc_law.nd (pi_list (pe_call G_made (hr.mono (by decide)) rfl (T.gl 44 rfl) k_made b_made .nil pass0 (pa_cons (pv 1) pa_nil))) (blkOk_by (own := [("_law_e", 6), ("_law_place", 7)]) (N := ["_law_script", "_law_x", "_law_lost", "_law_far", "_law_all_x", "_law_more_x", "_law_e", "_law_place", "_law_told"]) (sc := defScope (top 47)) (by decide +kernel)) (fun _ _ _ _ _ => pg_tup rfl (pgs_cons (pg_name (i := 6) sc_law.nd rfl (Or.inl rfl)) (pgs_cons (pg_name (i := 7) sc_law.nd rfl (Or.inl rfl)) pgs_nil))) (fun _ _ _ _ _ => pts_nil) (fun _ _ _ _ _ => (pe_call G_alone (hr.mono (by decide)) rfl (T.gl 42 rfl) k_alone b_alone .nil pass0 (pa_cons (pv 6) (pa_cons (pv 7) pa_nil))))) pa_nil)))) (pw_or1 (pt_val (pe_callB (cr_any rfl) (by rfl) (T.fr 50 rfl) PyProof.Rows.boot_any (pa_cons (pe_lc (own := [("_law_told", 8)]) (g := gName 8) (te := tOp (rNeD K) (tVar 8) (tVar 1)) rfl sc_law.nd (pi_list (pe_call G_ones (hr.mono (by decide)) rfl (T.gl 43 rfl) k_ones b_ones .nil pass0 (pa_cons (pv 1) pa_nil))) (blkOk_by (own := [("_law_told", 8)]) (N := ["_law_script", "_law_x", "_law_lost", "_law_far", "_law_all_x", "_law_more_x", "_law_e", "_law_place", "_law_told"]) (sc := defScope (top 47)) (by decide +kernel)) (fun _ _ _ _ _ => pg_name (i := 8) sc_law.nd rfl (Or.inl rfl)) (fun _ _ _ _ _ => pts_nil) (fun _ _ _ _ _ => pe_cmpR (r := rNeD K) (by exact op_neD (by exact hr.units)) (pv 8) (pv 1) (nomark _))) pa_nil)))))) (pss_one (ps_ret pe_bl)) pss_nil)
      (pss_cons (ps_par (i := 2) (j := 3) rfl sc_law.nd rfl rfl (by decide) rfl rfl (pa_cons (pe_newE (T.ini 15 (x := "Forgotten") (fs := ["side", "place", "answers"]) rfl).T (T.ini 15 (x := "Forgotten") (fs := ["side", "place", "answers"]) rfl).iC (T.ini 15 (x := "Forgotten") (fs := ["side", "place", "answers"]) rfl).tI F_Forgotten (hr.mono (by decide)) b_Forgotten rfl (T.gl 15 rfl) (pa_cons pe_int (pa_cons (pe_tup (pa_cons pe_str (pa_cons pe_int pa_nil))) (pa_cons (pe_lst (pa_cons (pv 1) pa_nil)) pa_nil)))) (pa_cons (pe_newE (T.ini 18 (x := "Impossible") (fs := ["index", "side", "at"]) rfl).T (T.ini 18 (x := "Impossible") (fs := ["index", "side", "at"]) rfl).iC (T.ini 18 (x := "Impossible") (fs := ["index", "side", "at"]) rfl).tI F_Impossible (hr.mono (by decide)) b_Impossible rfl (T.gl 18 rfl) (pa_cons pe_int (pa_cons pe_int (pa_cons (pv 1) pa_nil)))) pa_nil)) rfl)
      (pss_cons (ps_if (pt_cmpR (op_neD hr.units) (pe_tup (pa_cons (pe_fldE (T.ini 15 (x := "Forgotten") (fs := ["side", "place", "answers"]) rfl).xf ((T.ini 15 (x := "Forgotten") (fs := ["side", "place", "answers"]) rfl).no "side" (by simp)) (pv 2)) (pa_cons (pe_fldE (T.ini 15 (x := "Forgotten") (fs := ["side", "place", "answers"]) rfl).xf ((T.ini 15 (x := "Forgotten") (fs := ["side", "place", "answers"]) rfl).no "place" (by simp)) (pv 2)) (pa_cons (pe_fldE (T.ini 15 (x := "Forgotten") (fs := ["side", "place", "answers"]) rfl).xf ((T.ini 15 (x := "Forgotten") (fs := ["side", "place", "answers"]) rfl).no "answers" (by simp)) (pv 2)) pa_nil)))) (pe_tup (pa_cons pe_int (pa_cons (pe_tup (pa_cons pe_str (pa_cons pe_int pa_nil))) (pa_cons (pe_lst (pa_cons (pv 1) pa_nil)) pa_nil)))) (nomark _)) (pss_one (ps_ret pe_bl)) pss_nil)
      (pss_cons (ps_par (i := 4) (j := 5) rfl sc_law.nd rfl rfl (by decide) rfl rfl (pa_cons (pe_newE (T.ini 15 (x := "Forgotten") (fs := ["side", "place", "answers"]) rfl).T (T.ini 15 (x := "Forgotten") (fs := ["side", "place", "answers"]) rfl).iC (T.ini 15 (x := "Forgotten") (fs := ["side", "place", "answers"]) rfl).tI F_Forgotten (hr.mono (by decide)) b_Forgotten rfl (T.gl 15 rfl) (pa_cons (pv 1) (pa_cons (pv 1) (pa_cons (pv 1) pa_nil)))) (pa_cons (pe_newE (T.ini 18 (x := "Impossible") (fs := ["index", "side", "at"]) rfl).T (T.ini 18 (x := "Impossible") (fs := ["index", "side", "at"]) rfl).iC (T.ini 18 (x := "Impossible") (fs := ["index", "side", "at"]) rfl).tI F_Impossible (hr.mono (by decide)) b_Impossible rfl (T.gl 18 rfl) (pa_cons (pv 1) (pa_cons (pv 1) (pa_cons (pv 1) pa_nil)))) pa_nil)) rfl)
      (pss_cons (ps_if (pt_cmpR (op_neD hr.units) (pe_lst (pa_cons (pe_fldE (T.ini 15 (x := "Forgotten") (fs := ["side", "place", "answers"]) rfl).xf ((T.ini 15 (x := "Forgotten") (fs := ["side", "place", "answers"]) rfl).no "side" (by simp)) (pv 4)) (pa_cons (pe_fldE (T.ini 15 (x := "Forgotten") (fs := ["side", "place", "answers"]) rfl).xf ((T.ini 15 (x := "Forgotten") (fs := ["side", "place", "answers"]) rfl).no "place" (by simp)) (pv 4)) (pa_cons (pe_fldE (T.ini 15 (x := "Forgotten") (fs := ["side", "place", "answers"]) rfl).xf ((T.ini 15 (x := "Forgotten") (fs := ["side", "place", "answers"]) rfl).no "answers" (by simp)) (pv 4)) (pa_cons (pe_fldE (T.ini 18 (x := "Impossible") (fs := ["index", "side", "at"]) rfl).xf ((T.ini 18 (x := "Impossible") (fs := ["index", "side", "at"]) rfl).no "index" (by simp)) (pv 5)) (pa_cons (pe_fldE (T.ini 18 (x := "Impossible") (fs := ["index", "side", "at"]) rfl).xf ((T.ini 18 (x := "Impossible") (fs := ["index", "side", "at"]) rfl).no "side" (by simp)) (pv 5)) (pa_cons (pe_fldE (T.ini 18 (x := "Impossible") (fs := ["index", "side", "at"]) rfl).xf ((T.ini 18 (x := "Impossible") (fs := ["index", "side", "at"]) rfl).no "at" (by simp)) (pv 5)) pa_nil))))))) (pe_op op_rep (pe_lst (pa_cons (pv 1) pa_nil)) pe_int) (nomark _)) (pss_one (ps_ret pe_bl)) pss_nil)
      (pss_one (ps_ret (pe_and (pe_cmpR (op_eqD hr.units) (pe_tup (pa_cons (pe_fldE (T.ini 18 (x := "Impossible") (fs := ["index", "side", "at"]) rfl).xf ((T.ini 18 (x := "Impossible") (fs := ["index", "side", "at"]) rfl).no "index" (by simp)) (pv 3)) (pa_cons (pe_fldE (T.ini 18 (x := "Impossible") (fs := ["index", "side", "at"]) rfl).xf ((T.ini 18 (x := "Impossible") (fs := ["index", "side", "at"]) rfl).no "side" (by simp)) (pv 3)) (pa_cons (pe_fldE (T.ini 18 (x := "Impossible") (fs := ["index", "side", "at"]) rfl).xf ((T.ini 18 (x := "Impossible") (fs := ["index", "side", "at"]) rfl).no "at" (by simp)) (pv 3)) pa_nil)))) (pe_tup (pa_cons pe_int (pa_cons pe_int (pa_cons (pv 1) pa_nil)))) (nomark _)) (pe_one (pe_cmpR (op_eqD hr.units) (pe_tup (pa_cons (pe_fldE (T.ini 23 (x := "NoRegister") (fs := ["side", "name"]) rfl).xf ((T.ini 23 (x := "NoRegister") (fs := ["side", "name"]) rfl).no "side" (by simp)) (pe_newE (T.ini 23 (x := "NoRegister") (fs := ["side", "name"]) rfl).T (T.ini 23 (x := "NoRegister") (fs := ["side", "name"]) rfl).iC (T.ini 23 (x := "NoRegister") (fs := ["side", "name"]) rfl).tI F_NoRegister (hr.mono (by decide)) b_NoRegister rfl (T.gl 26 rfl) (pa_cons (pv 1) (pa_cons pe_str pa_nil)))) (pa_cons (pe_fldE (T.ini 23 (x := "NoRegister") (fs := ["side", "name"]) rfl).xf ((T.ini 23 (x := "NoRegister") (fs := ["side", "name"]) rfl).no "name" (by simp)) (pe_newE (T.ini 23 (x := "NoRegister") (fs := ["side", "name"]) rfl).T (T.ini 23 (x := "NoRegister") (fs := ["side", "name"]) rfl).iC (T.ini 23 (x := "NoRegister") (fs := ["side", "name"]) rfl).tI F_NoRegister (hr.mono (by decide)) b_NoRegister rfl (T.gl 26 rfl) (pa_cons pe_int (pa_cons (pv 1) pa_nil)))) pa_nil))) (pe_tup (pa_cons (pv 1) (pa_cons (pv 1) pa_nil))) (nomark _)))))))))))), ?_⟩
    obtain ⟨l, ns, rfl, hs, q⟩ := h
    refine ⟨_, rfl, l, ns, rfl, hs, _, rfl, fun v d H1 e1 hx => ?_⟩
    have hd : Dp K H1 v d := hx.dp
    have he := hx.eqv
    have hc := xv_can hx
    have hp := xv_dep hx
    show tSeq _ _ _ [some (.ref l), some v, none, none, none, none, none, none, none] H1
    refine q_when (b := false) (et_is (et_or (et_not (et_B (ev_all (v := v) rfl (fun _ _ => rfl) (fun _ _ => rfl) (fun _ _ => rfl)))) fun _ => et_B (ev_any (v := v) (d := d) rfl (fun _ => rfl) hd hx.shaped he (fun _ => rfl) (fun _ => rfl))) rfl) (fun hb => nomatch hb) fun _ H2 e2 => ?_
    have hd2 := dp_ex e2 d v hd
    refine q_par (evp_three (d1 := .int 2) (d2 := .tuple [.str "end", .int 0]) (d3 := .list [d]) (ead_cons (evd_ev ev_c (.int _)) (ead_cons (evd_tup (ead_cons (evd_ev ev_c (.str _)) (ead_cons (evd_ev ev_c (.int _)) ead_nil)) (by simp)) (ead_cons (evd_lst (ead_cons (evd_ev (ev_var rfl) hd2) ead_nil) (by simp)) ead_nil))))
      (evp_three (d1 := .int 1) (d2 := .int 2) (d3 := d) (ead_cons (evd_ev ev_c (.int _)) (ead_cons (evd_ev ev_c (.int _)) (ead_cons (evd_ev (ev_var rfl) hd2) ead_nil)))) fun y1 y2 H3 H4 e3 p1 e4 p2 => ?_
    obtain ⟨a1, v1, u1, z1, rfl, x1, g1, g2, g3⟩ := p1
    obtain ⟨a2, v2, u2, z2, rfl, x2, g4, g5, g6⟩ := p2
    have hd3 := dp_ex e3 d v hd2
    have hd4 := dp_ex e4 d v hd3
    have x1 := x1.ex e4
    have g1 := dp_ex e4 _ _ g1
    have g2 := dp_ex e4 _ _ g2
    have g3 := dp_ex e4 _ _ g3
    refine q_when (b := false) (et_is (b := false) (et_test (ev_neD (d := .tuple [.int 2, .tuple [.str "end", .int 0], .list [d]]) (f := .tuple [.int 2, .tuple [.str "end", .int 0], .list [d]])
      (evd_tup (ead_cons (evd_ev (ev_fld rfl x1 (v := v1) (by first | rfl | with_unfolding_all rfl | kernel_rfl)) g1) (ead_cons (evd_ev (ev_fld rfl x1 (v := u1) (by first | rfl | with_unfolding_all rfl | kernel_rfl)) g2) (ead_cons (evd_ev (ev_fld rfl x1 (v := z1) (by first | rfl | with_unfolding_all rfl | kernel_rfl)) g3) ead_nil))) (by simp))
      (evd_tup (ead_cons (evd_ev ev_c (.int _)) (ead_cons (evd_tup (ead_cons (evd_ev ev_c (.str _)) (ead_cons (evd_ev ev_c (.int _)) ead_nil)) (by simp)) (ead_cons (evd_lst (ead_cons (evd_ev (ev_var rfl) hd4) ead_nil) (by simp)) ead_nil))) (by simp)) ?s1 ?s1)) ?t1) (fun hb => nomatch hb) fun _ H5 e5 => ?_
    case s1 =>
      refine gd_shaped ?_ ?_
      · have hk : (PyData.str "end").canLay0 = true := by decide +kernel
        simp only [PyData.canLay0, PyData.canLayAll0, hc] at hk ⊢
        simpa using hk
      · simp only [PyData.depth, PyData.depthAll]
        omega
    case t1 => simp [PyData.eqv, PyData.eqvAll, he]
    have hd5 := dp_ex e5 d v hd4
    refine q_par (evp_three (d1 := d) (d2 := d) (d3 := d) (ead_cons (evd_ev (ev_var rfl) hd5) (ead_cons (evd_ev (ev_var rfl) hd5) (ead_cons (evd_ev (ev_var rfl) hd5) ead_nil))))
      (evp_three (d1 := d) (d2 := d) (d3 := d) (ead_cons (evd_ev (ev_var rfl) hd5) (ead_cons (evd_ev (ev_var rfl) hd5) (ead_cons (evd_ev (ev_var rfl) hd5) ead_nil)))) fun y3 y4 H6 H7 e6 p3 e7 p4 => ?_
    obtain ⟨a3, v3, u3, z3, rfl, x3, k1, k2, k3⟩ := p3
    obtain ⟨a4, v4, u4, z4, rfl, x4, k4, k5, k6⟩ := p4
    have hd6 := dp_ex e6 d v hd5
    have hd7 := dp_ex e7 d v hd6
    have x3 := x3.ex e7
    have k1 := dp_ex e7 _ _ k1
    have k2 := dp_ex e7 _ _ k2
    have k3 := dp_ex e7 _ _ k3
    refine q_when (b := false) (et_is (b := false) (et_test (ev_neD (d := .list [d, d, d, d, d, d]) (f := .list [d, d, d, d, d, d])
      (evd_lst (ead_cons (evd_ev (ev_fld rfl x3 (v := v3) (by first | rfl | with_unfolding_all rfl | kernel_rfl)) k1) (ead_cons (evd_ev (ev_fld rfl x3 (v := u3) (by first | rfl | with_unfolding_all rfl | kernel_rfl)) k2) (ead_cons (evd_ev (ev_fld rfl x3 (v := z3) (by first | rfl | with_unfolding_all rfl | kernel_rfl)) k3)
        (ead_cons (evd_ev (ev_fld rfl x4 (v := v4) (by first | rfl | with_unfolding_all rfl | kernel_rfl)) k4) (ead_cons (evd_ev (ev_fld rfl x4 (v := u4) (by first | rfl | with_unfolding_all rfl | kernel_rfl)) k5) (ead_cons (evd_ev (ev_fld rfl x4 (v := z4) (by first | rfl | with_unfolding_all rfl | kernel_rfl)) k6) ead_nil)))))) (by simp))
      (evd_six (ev_var rfl) hd7) ?s2 ?s2)) ?t2) (fun hb => nomatch hb) fun _ H8 e8 => ?_
    case s2 =>
      refine gd_shaped ?_ ?_
      · simp only [PyData.canLay0, PyData.canLayAll0, hc]
        rfl
      · simp only [PyData.depth, PyData.depthAll]
        omega
    case t2 => simp [PyData.eqv, PyData.eqvAll, he]
    have hd8 := dp_ex e8 d v hd7
    have e48 := ((e5.trans e6).trans e7).trans e8
    have x2 := x2.ex e48
    have g4 := dp_ex e48 _ _ g4
    have g5 := dp_ex e48 _ _ g5
    have g6 := dp_ex e48 _ _ g6
    refine s_ret (v := .bl true) (ev_is (v := .bl (true && true)) (ev_andV (ev_is (ev_eqD (d := .tuple [.int 1, .int 2, d]) (f := .tuple [.int 1, .int 2, d])
      (evd_tup (ead_cons (evd_ev (ev_fld rfl x2 (v := v2) (by first | rfl | with_unfolding_all rfl | kernel_rfl)) g4) (ead_cons (evd_ev (ev_fld rfl x2 (v := u2) (by first | rfl | with_unfolding_all rfl | kernel_rfl)) g5) (ead_cons (evd_ev (ev_fld rfl x2 (v := z2) (by first | rfl | with_unfolding_all rfl | kernel_rfl)) g6) ead_nil))) (by simp))
      (evd_tup (ead_cons (evd_ev ev_c (.int _)) (ead_cons (evd_ev ev_c (.int _)) (ead_cons (evd_ev (ev_var rfl) hd8) ead_nil))) (by simp)) ?s3 ?s3) ?t3) fun _ =>
      ev_is (ev_eqD (d := .tuple [d, d]) (f := .tuple [d, d])
        (evd_tup (ead_cons (evd_ev (ev_two (v := v) (u := .str "r") (ea_cons (ev_var rfl) (ea_cons ev_c ea_nil)) (by first | rfl | with_unfolding_all rfl | kernel_rfl)) hd8) (ead_cons (evd_ev (ev_two (v := .int 1) (u := v) (ea_cons ev_c (ea_cons (ev_var rfl) ea_nil)) (by first | rfl | with_unfolding_all rfl | kernel_rfl)) hd8) ead_nil)) (by simp))
        (evd_tup (ead_cons (evd_ev (ev_var rfl) hd8) (ead_cons (evd_ev (ev_var rfl) hd8) ead_nil)) (by simp)) ?s4 ?s4) ?t4) rfl) fun H9 e9 => q H9
    case s3 =>
      refine gd_shaped ?_ ?_
      · simp only [PyData.canLay0, PyData.canLayAll0, hc]
        rfl
      · simp only [PyData.depth, PyData.depthAll]
        omega
    case s4 =>
      refine gd_shaped ?_ ?_
      · simp only [PyData.canLay0, PyData.canLayAll0, hc]
        rfl
      · simp only [PyData.depth, PyData.depthAll]
        omega
    case t3 => simp [PyData.eqv, PyData.eqvAll, he]
    case t4 => simp [PyData.eqv, PyData.eqvAll, he]
end
end K1
namespace K1
open PySem PySem.Spec PyProof.Rows L2 KV Evl
theorem all_facts {P : Program} {w : World} {K : PySem.W.Frag} {h : Heap} {mg : Str → Option Value} {f : Addr} (X : K.In h) (G : h.Ns mainGlobals mg) (hfa : mg ("law" : Str) = some (.ref f))
    (c : He.SaysX fa fn [] [] exB w h K) : ∃ fd : FuncData, (∀ (s : Shared) (v : Value), BindsTo s fd ⟨[v], []⟩ [("_law_script", v)]) ∧ ∀ base : Heap, K.In base → base.Ns mainGlobals mg → FnOk P w K mg base CX0 4 f fd ["_law_script"] (spL K) := by
  have cd : He.SaysD fa fn K := congrArg (fun z : He.AlT => z.1) c.t
  have T : Tx K mg := ⟨cd, c.more, h, X, G⟩
  have e := hfa.symm.trans (T.gl 45 rfl)
  cases e
  obtain ⟨fd, F⟩ := T.d.def_ 37 (d := d_law) rfl
  exact ⟨fd, (ok_law (P := P) (w := w) (base := h) T F).1, fun base _ _ => (ok_law (base := base) T F).2⟩
end K1
open PySem PySem.W PySem.Calls PyProof.Rows
theorem PySem.Challenge.cw_unknowncalls_k01_errors_holds : PySem.Challenge.rw_unknowncalls_k01_errors.Holds := by
  w_on; o_law
  refine HandSHeadRun.head_any (r := OpenLaw.row PySem.Challenge.rw_unknowncalls_k01_errors) (q := view (OpenLaw.row PySem.Challenge.rw_unknowncalls_k01_errors).prog [47]) (H := K1.hk) (ob := K1.ob) (M := 12000) (loose := K1.loose) (d := HandSHeadRun.topDef (OpenLaw.row PySem.Challenge.rw_unknowncalls_k01_errors).prog 47) (kwd := []) K1.ob_eq
    (by kernel_rfl) (fun s => by kernel_rfl) K1.run (by kernel_rfl) (by kernel_rfl) (by kernel_rfl) (by rfl) (by first | assumption | decide +kernel) (by decide +kernel) ⟨rfl, rfl, rfl, rfl, rfl, by decide +kernel⟩ ?hw ?hc
  case hw => w_witness2
  case hc =>
    refine L2.walk_ofE (l := PySem.Challenge.rw_unknowncalls_k01_errors) (n := 63) (k := 4) (x := "_law_script") (CX := L2.CX0) rfl (by decide) (by kernel_rfl) ⟨rfl, by decide, by decide⟩ ?F (fun _ _ _ _ z => z)
    intro w mg fa h Y G hmg0
    obtain ⟨K, KX, c⟩ := Y
    have hmg : mg ("law" : PySem.Str) = some (.ref fa) := by
      have e : (HandSHeadRun.topDef (OpenLaw.row PySem.Challenge.rw_unknowncalls_k01_errors).prog 47).name = ("law" : PySem.Str) := by kernel_rfl
      rw [← e]
      exact hmg0
    obtain ⟨fd, hb, hF⟩ := K1.all_facts (P := (PySem.Challenge.rw_unknowncalls_k01_errors).prog) (w := w) KX G hmg c
    exact ⟨K, fd, K1.spL K, KX, hb, fun H a ns hl _ hS => ⟨a, ns, rfl, hS, fun _ => rfl⟩, hF⟩
