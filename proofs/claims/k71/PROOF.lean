import PyProof.Rows.All
import Wide.All
import OpenK.AllK
import Wide.FinOn
import HandS.ForExc
import HandS.FStr
import HandS.FStrTup
import KE.KExcIs
import HandS.ExcInit
import HandS.ExcField
import HandS.ClsMeth
import HandS.IsInst
import HandS.ForMost
import HandS.Defaults
import HandS.Wide
import HandS.Codes
import HandS.HeadHook2
import HandS.EndBits
import HandS.HeadEnd
import PySem.Challenge.RW_partlymet_k71_errors
import HandS.Walk
import HandS.Head0
import HandS.Head1
import HandS.Head2
import HandS.HeadHook1
import HandS.HeadHook3
import HandS.HeadHook4
section
set_option Elab.async false
set_option linter.all false
set_option maxRecDepth 100000
set_option maxHeartbeats 4000000
namespace L2
open PySem PySem.Spec PyProof.Rows
section
variable {X : Cx}
/-- repr of data (lists, tuples of ints and texts): the text of the data -/
def rRepr (K : PySem.W.Frag) : List V → Hp → VK → Prop := fun xs H Q => ∃ (a : Addr) (d : PyData), xs = [.ref a] ∧ Dp K H (.ref a) d ∧ d.showable = true ∧ d.hasDict = false ∧ d.depth ≤ 60 ∧ d.shown.length ≤ sizeLine ∧ Q (.str d.shown) H
theorem call_reprD (hg : X.A.guards = some []) (hu : X.A.units + 64 < cLine) : CallR X (.builtin "repr") (rRepr X.K) := by
  intro pins s σ H xs us Q I r h
  obtain ⟨a, d, rfl, hd, hs, hn, hdp, hz, q⟩ := h
  obtain ⟨u, rfl, ru⟩ := vals1 r
  cases ru
  obtain ⟨as, rd⟩ := Dp.reads I d _ _ hd rfl
  exact repr_of_reads' rd hs (fun z => by rw [hn] at z; cases z) hg (by omega) (fun _ _ e => e) (fun h' u tk k => ⟨.str d.shown, H, I.kept (t' := tk) k, ⟨u, rfl⟩, q⟩) hz
/-- {t}, t a tuple of ints: some bounded text -/
def tFmtI (K : PySem.W.Frag) (te : TE) : TE := fun σ H Q => te σ H fun x H1 => ∃ (a : Addr) (l : List Int), x = .ref a ∧ SqT K H1 a (l.map V.int) ∧ (∀ i ∈ l, i.natAbs.log2 < 1920) ∧ l.length ≤ 100 ∧ ∀ m : Str, m.length ≤ 200000 → Q (.str m) H1
theorem repr_ints {prog : Program} {w : World} : ∀ {l : List Int} {its : List Value}, Vals (l.map V.int) its → (∀ i ∈ l, i.natAbs.log2 < 1920) → ReprAll prog w its (l.map fun i => ((toString i : String) : Str))
  | [], _, r, _ => by
    cases r
    exact .nil
  | i :: l, _, r, h => by
    cases r with
    | cons r1 r2 =>
      obtain ⟨t, rfl⟩ := r1
      exact .cons (ReprIs.int t (h i List.mem_cons_self)) (repr_ints r2 fun z hz => h z (List.mem_cons_of_mem _ hz))
theorem piled_ints : ∀ l : List Int, (∀ i ∈ l, i.natAbs.log2 < 1920) → piled (l.map fun i => ((toString i : String) : Str)) ≤ 1923 * l.length
  | [], _ => Nat.zero_le _
  | i :: l, h => by
    have h1 := int_text_len_1921 (h i List.mem_cons_self)
    have h2 := piled_ints l fun z hz => h z (List.mem_cons_of_mem _ hz)
    rw [List.map_cons, piled_cons, List.length_cons]
    omega
theorem pe_fmtI {e : Expr} {te : TE} {pos : Pos} {k : Nat} (hr : Room k X.A) (he : PE X e te) : PE X (.FormattedValue e (-1) none pos) (tFmtI X.K te) := by
  refine ⟨fun pins s σ H Q I h => wpAny_FormattedValue_plain (thn (he.run pins s σ H _ I h) fun v s1 hv => ?_)⟩
  obtain ⟨x, H1, I1, r1, a, l, rfl, ht, hc, hl, q⟩ := hv
  cases r1
  obtain ⟨its, rv, ⟨o, ho, hcl, n, hd⟩, _⟩ := I1.tuple ht
  have hp := piled_ints l hc
  have htx := fmt_text (l.map fun i => ((toString i : String) : Str))
  have hsl : (200000 : Nat) ≤ sizeLine := by decide
  refine fmt_tuple (ts := l.map fun i => ((toString i : String) : Str)) (by have := hr.units; omega) ho hcl hd (repr_ints rv hc) (by omega) fun m u tk hm => ⟨.str m, H1, I1.tok _, ⟨u, rfl⟩, q m (by omega)⟩
end
end L2
end
section
set_option Elab.async false
set_option linter.all false
set_option maxRecDepth 100000
set_option maxHeartbeats 4000000
namespace L2
open PySem PySem.Spec PyProof.Rows
/-! exceptions of own classes, with an own __init__, held as values -/
/-- C(e, ..) as a value: __init__ keeps sp at the new exception a -/
def tMkE (C : Addr) (sp : Sp) (dvs : List V) (ta : TA) : TE := fun σ H Q => ta σ H fun vs H1 => vs.length ≤ 1000 ∧ ∀ a, H1 a = none → sp (.ref a :: (vs ++ dvs)) (upd H1 a (exo a C none)) (fun v H2 => v = .non ∧ Q (.ref a) H2) (fun _ _ _ => False)
section
variable {X : Cx} {x : Str} {C fI : Addr} {k : Nat} {fd : FuncData} {ps : List Str} {sp : Sp} {ds : List Value} {dvs : List V} {e : Expr} {es : List Expr} {ta : TA} {p pos : Pos}
theorem run_mkE {pins : List (Addr × Obj)} {σ : St} {H : Hp} {s : Shared} {Q : VK} {us : List Value} {vs : List V} (T : OexC X.K C) (iC : PySem.W.findIn X.K (.ref C) "__init__" = some (some (.ref fI))) (tI : PySem.W.typeIn X.K (.ref fI) = some (.type "function"))
    (FO : FnOk X.prog X.w X.K X.mg X.base CX0 k fI fd ps sp) (hr : Room (k + 1) X.A) (hb : Binds X.K fd ps ds) (hd : Vals dvs ds) (I : Inv X pins σ H s) (r : Vals vs us) (hz : vs.length ≤ 1000)
    (q : ∀ a, H a = none → sp (.ref a :: (vs ++ dvs)) (upd H a (exo a C none)) (fun v H2 => v = .non ∧ Q (.ref a) H2) (fun _ _ _ => False)) :
    wpAny (model X.prog X.w) X.A (call (.ref C) us) (EP X pins σ Q) X.xe s := by
  obtain ⟨nm, qn, N, bs, bm, sn, sub, ab, col, dd, k0, k1, k2, k3, k5, hC, hbm⟩ := T.cls
  obtain ⟨hp, g, dr, tk, os⟩ := s
  have big : hp.objs.size ≤ hp.objs.size + 1 := Nat.le_succ _
  have new : H (hp.objs.size + 1) = none := I.hok.fresh big
  have hq := q (hp.objs.size + 1) new
  let h2 : Heap := (hp.push (PySem.W.kdv_tup us)).push (PySem.HandSPX.excO C hp.objs.size)
  have keep : ∀ b o, hp.get? b = some o → h2.get? b = some o := fun b o z => Heap.get?_push_of_some _ (Heap.get?_push_of_some _ z)
  have here : h2.get? (hp.objs.size + 1) = some (PySem.HandSPX.excO C hp.objs.size) := by
    show ((hp.push (PySem.W.kdv_tup us)).push (PySem.HandSPX.excO C hp.objs.size)).get? (hp.objs.size + 1) = _
    heap_get
  have J : Inv X pins σ (upd H (hp.objs.size + 1) (exo (hp.objs.size + 1) C none)) ⟨h2, g, dr, tk, os⟩ := I.laid (t' := tk) (h' := h2) keep big (exo_ok here)
  have rr : Vals (V.ref (hp.objs.size + 1) :: (vs ++ dvs)) (Value.ref (hp.objs.size + 1) :: (us ++ ds)) := .cons rfl (r.append hd)
  have hlen : (Value.ref (hp.objs.size + 1) :: us ++ ds).length = ps.length := by
    have z := rr.length
    rw [FO.len _ _ _ _ hq] at z
    exact z.symm
  have few : us.length ≤ sizeLine := by
    rw [← Paired.length r, sizeLine_eq]
    omega
  refine wpAny_call (PySem.HandSPX.call_own F.excBase_ValueError (fun Y => PySem.HandSPX.refsVE_contains Y bm hbm) (I.kIn _ _ hC) (PySem.W.looks_findIn I.kIn iC) (fun self => PySem.W.bind_fn I.kIn self tI) few ?_)
  refine codeAny_mono (FO.run _ X.stack _ _ ⟨Value.ref (hp.objs.size + 1) :: us, []⟩ _ _ _ (fun _ _ _ => False) (hr.make C us []) (J.env0.make C us []) (hb _ (Value.ref (hp.objs.size + 1) :: us) J.kIn hlen) rr hq) fun res s' z => ?_
  cases res with
  | error er => exact z.elim
  | ok fl =>
    cases fl with
    | ret u =>
      obtain ⟨v, H', J2, rv, ev, q2⟩ := J.after z
      subst ev
      exact ⟨rv, .ref (hp.objs.size + 1), H', J2, rfl, q2⟩
    | next => exact False.elim z
    | brk => exact False.elim z
    | cont => exact False.elim z
theorem pe_mkE (T : OexC X.K C) (iC : PySem.W.findIn X.K (.ref C) "__init__" = some (some (.ref fI))) (tI : PySem.W.typeIn X.K (.ref fI) = some (.type "function"))
    (FO : FnOk X.prog X.w X.K X.mg X.base CX0 k fI fd ps sp) (hr : Room (k + 1) X.A) (hb : Binds X.K fd ps ds) (hd : Vals dvs ds) (hg : Gl X x) (hm : X.mg x = some (.ref C)) (ha : PA X (e :: es) ta)
    (hdb : (x == ("__debug__" : Str)) = false := by decide) (he : starEach (e :: es) X.env = (false, eval e X.env) :: starEach es X.env := by rfl) (hpl : (backTo pos (starEach es X.env)).any (·.1) = false := by rfl) :
    PE X (.Call (.Name x p) (e :: es) [] pos) (tMkE C sp dvs ta) :=
  ⟨fun pins s σ H Q I h => wpAny_Call_Name_kw (ld_glob I hg hm (PySem.W.callWith_K (h₀ := X.base) I.ok.mod.kin T.kC (thn (ha.run pos pins s σ H _ I h) fun us s1 ⟨vs, H1, I1, r1, hz, q1⟩ => ⟨I1.kIn, run_mkE T iC tI FO hr hb hd I1 r1 hz q1⟩) he hpl) hdb)⟩
theorem pe_mkE0 (T : OexC X.K C) (iC : PySem.W.findIn X.K (.ref C) "__init__" = some (some (.ref fI))) (tI : PySem.W.typeIn X.K (.ref fI) = some (.type "function"))
    (FO : FnOk X.prog X.w X.K X.mg X.base CX0 k fI fd ps sp) (hr : Room (k + 1) X.A) (hb : Binds X.K fd ps ds) (hd : Vals dvs ds) (hg : Gl X x) (hm : X.mg x = some (.ref C))
    (hdb : (x == ("__debug__" : Str)) = false := by decide) : PE X (.Call (.Name x p) [] [] pos) (tMkE C sp dvs tNil) :=
  ⟨fun pins s σ H Q I h => wpAny_Call_Name_kw (ld_glob I hg hm (PySem.W.callWith_K0 I.kIn T.kC (run_mkE (us := []) T iC tI FO hr hb hd I .nil h.1 h.2)) hdb)⟩
end
/-! Base.__init__(self, e): Base an own class that has ValueError's __init__ -/
section
variable {X : Cx} {x : Str} {B : Addr} {e : Expr} {es : List Expr} {ta : TA} {p1 p2 pos : Pos}
theorem pe_binit {pl : Sem Bool} {mc : Value} (hg : Gl X x) (hm : X.mg x = some (.ref B)) (rd : ClX.CRead X.K B mc) (fv : PySem.W.findCls X.K (.ref B) mc "__init__" = some (.val (.builtin "ValueError.__init__"))) (ha : PA X (e :: es) ta)
    (hdb : (x == ("__debug__" : Str)) = false := by decide)
    (hc : eval (.Call (.Attribute (.Name x p1) "__init__" p2) (e :: es) [] pos) X.env = (do
      let ov ← eval (.Name x p1) X.env
      standAt p2.atName
      let (f, first) ← holding [ov] (getMethod ov "__init__" pl)
      callWith pos f first (backTo pos (starEach (e :: es) X.env)) (backToKw pos (keywordEach [] X.env))) := by rfl)
    (he : starEach (e :: es) X.env = (false, eval e X.env) :: starEach es X.env := by rfl) (hpl : (backTo pos (starEach es X.env)).any (·.1) = false := by rfl) :
    PE X (.Call (.Attribute (.Name x p1) "__init__" p2) (e :: es) [] pos) (tVeI X.K ta) := by
  refine ⟨fun pins s σ H Q I h => PySem.W.methodCall_KW (ld_glob I hg hm ?_ hdb) hc⟩
  refine PySem.W.method_cls I.kIn rd.ga (PySem.W.cls_value I.kIn rd.rd fv (by decide +kernel) ?_)
  show wpAny _ _ (callWith pos (Value.builtin "ValueError.__init__") [] (backTo pos (starEach (e :: es) X.env)) []) _ _ _
  refine PyProof.Rows.callWith_method1 (thn (ha.run pos pins _ σ H _ (I.tok _) h) fun us s1 ⟨vs, H1, J, r1, a, C, ws, ev, hl, T, ea, q⟩ => ?_) he hpl
  subst ev
  cases r1 with
  | @cons _ u0 _ ur ra rw' =>
    obtain rfl : u0 = Value.ref a := ra
    exact oinit_ok T J ea (by rw [← Paired.length rw', sizeLine_eq]; omega) fun s' J2 => ⟨.non, H1, J2, rfl, q⟩
end
/-! err.f, isinstance(err, C) -/
/-- what the top says of an own exception class, so that its exceptions are asked -/
structure ExV (K : PySem.W.Frag) (C : Addr) : Prop where
  xf : XfC K C
  cl : (PySem.W.clsIn K C).isSome = true
  ca : PySem.W.findIn K (.ref C) "__class__" = some (some (.builtin "object.__class__"))
  cg : PySem.W.specialIn K (.builtin "object.__class__") "__get__" = some (some (.builtin "getset_descriptor.__get__"))
  ct : PySem.W.takesIn K (.builtin "object.__class__") = some true
  ob : PySem.W.mroIn K C (.type "object") = some true
/-- an exception stands at a: of the class C, its dict (if it has one) with the fields fs -/
def ExAt (H : Hp) (a C : Addr) (fs : List (Str × V)) : Prop := (fs = [] ∧ H a = some (exo a C none)) ∨ ∃ dx, H a = some (exo a C (some dx)) ∧ H dx = some (exd dx fs)
section
variable {X : Cx}
theorem exAt_inst {pins : List (Addr × Obj)} {σ : St} {H : Hp} {s : Shared} {a C : Addr} {fs : List (Str × V)} (I : Inv X pins σ H s) (h : ExAt H a C fs) :
    ∃ ox od, PySem.W.InstAt s.heap a ox C od ∧ ∀ (f : Str) (v : V), fs.lookup f = some v → ∃ o u, od = some o ∧ PySem.W.lookIn f o = some (some u) ∧ RelV v u := by
  rcases h with ⟨rfl, h⟩ | ⟨dx, h, hd⟩
  · obtain ⟨t1, ho⟩ := exo_at I.hok h
    exact ⟨_, none, ⟨ho, rfl, rfl, trivial⟩, fun f v z => by cases z⟩
  · obtain ⟨t1, ho⟩ := exo_at I.hok h
    obtain ⟨mA, hn, rel⟩ := exd_at I.hok hd
    obtain ⟨od, h1, h2⟩ := lookIn_ns hn
    refine ⟨_, some od, ⟨ho, rfl, rfl, h1⟩, fun f v z => ?_⟩
    obtain ⟨u, hu, ru⟩ := RelO.some_of (v := v) (o := mA f) (by rw [← z]; exact rel f)
    exact ⟨od, u, rfl, by rw [h2, hu], ru⟩
/-- the reading of err.f -/
def tEf (K : PySem.W.Frag) (f : Str) (te : TE) : TE := fun σ H Q => te σ H fun x H1 => ∃ (a C : Addr) (fs : List (Str × V)) (v : V), x = .ref a ∧ ExAt H1 a C fs ∧ ExV K C ∧ PySem.W.findIn K (.ref C) f = some none ∧ fs.lookup f = some v ∧ Q v H1
theorem pe_ef {e : Expr} {te : TE} {f : Str} {pos : Pos} (he : PE X e te) (hb : attributeBase e f X.env (eval e X.env) = eval e X.env := by rfl) : PE X (.Attribute e f pos) (tEf X.K f te) := by
  refine ⟨fun pins s σ H Q I h => attr_of hb (thn (he.run pins s σ H _ I h) fun u s1 hh => ?_)⟩
  obtain ⟨x, H1, J, rx, a, C, fs, v, rfl, ha, T, hno, l, q⟩ := hh
  obtain rfl : u = Value.ref a := rx
  obtain ⟨ox, od, O, z⟩ := exAt_inst J ha
  obtain ⟨o, w, rfl, hw, rv⟩ := z f v l
  exact HandSPX.exc_get J.kIn O T.xf.ga T.xf.gg T.xf.exC (PySem.W.findObj_own T.xf.hdC hno rfl hw) (handed_of rv) ⟨v, H1, J.tok _, rv, q⟩
/-- isinstance(err, c) -/
def rIsEx (K : PySem.W.Frag) : List V → Hp → VK → Prop := fun xs H Q => ∃ (a C : Addr) (fs : List (Str × V)) (c : V) (u : Value) (b : Bool), xs = [.ref a, c] ∧ ExAt H a C fs ∧ ExV K C ∧ ClsV c u ∧ PySem.W.kitOne K (.ref C) u = some b ∧ Q (.bl b) H
theorem call_isEx : CallR X (.builtin "isinstance") (rIsEx X.K) := by
  intro pins s σ H xs us Q I r h
  obtain ⟨a, C, fs, c, u, b, rfl, ha, T, k, e, q⟩ := h
  obtain ⟨u1, u2, rfl, r1, r2⟩ := vals2 r
  obtain rfl : u1 = Value.ref a := r1
  have e2 := k.eq r2
  subst e2
  obtain ⟨ox, od, O, _⟩ := exAt_inst I ha
  exact PySem.W.kia_one (PySem.W.kitx_exc (od := od) T.cl T.xf.ga T.xf.gg T.xf.exC T.ca T.cg T.ct T.ob) I.kIn O e (fun z => nomatch z) fun tk => ⟨.bl b, H, I.tok tk, rfl, q⟩
end
end L2
end
section
set_option Elab.async false
set_option linter.all false
set_option maxRecDepth 100000
set_option maxHeartbeats 4000000
namespace L2
open PySem PySem.Spec PyProof.Rows
/-! a def of the text behind the top, and its promise, by its name -/
structure Def (K : PySem.W.Frag) (mg : Str → Option Value) (x : Str) (st : Stmt) : Prop where
  ex : ∃ f fd, FunD K x x (defArgs st) (defBody st) (defScope st) [] [] f fd ∧ mg x = some (.ref f)
structure Cal (P : Program) (w : World) (K : PySem.W.Frag) (mg : Str → Option Value) (base : Heap) (k : Nat) (x : Str) (ps : List Str) (sp : Sp) : Prop where
  ex : ∃ f fd, FnOk P w K mg base CX0 k f fd ps sp ∧ mg x = some (.ref f) ∧ PySem.W.keepIn K (.ref f) = true ∧ Binds K fd ps []
section
variable {P : Program} {w : World} {K : PySem.W.Frag} {mg : Str → Option Value} {base : Heap} {k : Nat} {x : Str} {N ps : List Str} {sp : Sp} {st : Stmt}
theorem Def.cal (D : Def K mg x st) (S : FnScope N ps (defScope st)) (len : ∀ vs H Q E, sp vs H Q E → vs.length = ps.length)
    (hb : ∀ (kV doc pm : Value) (an : Option Addr) (cdv ct : Value) (us : List Value), us.length = ps.length → bindArgs (PySem.W.fnOf x x (defArgs st) (defBody st) (defScope st) .none kV doc pm an cdv ct) ⟨us, []⟩ = pure (ps.zip us))
    (body : ∀ (f : Addr) (cdv : Value) (A : Around) (outer : List Env) (s : Shared) (H : Hp) (vs : List V) (Q : VK) (E : XK), Room k (A.deeper (envOfC x (defScope st) s.heap.objs.size f cdv)) → sp vs H Q E →
      ∃ t, PSs (cxOf CX0 P w K mg base N x (defScope st) f cdv A outer s H E).nox (defBody st) t ∧ t { nx := fun _ H' => Q .non H', rt := Q } (start N vs) H) : Cal P w K mg base (k + 1) x ps sp := by
  obtain ⟨f, fd, F, hm⟩ := D.ex
  refine ⟨f, fd, F.ok S len (fun cdv A outer s H vs Q E hr h => ?_), hm, F.kp, F.bindsN hb⟩
  obtain ⟨t, h1, h2⟩ := body f cdv A outer s H vs Q E hr h
  exact ⟨t, h1.nox, h2⟩
theorem Cal.mono {j : Nat} (C : Cal P w K mg base j x ps sp) (h : j ≤ k) : Cal P w K mg base k x ps sp := by
  obtain ⟨f, fd, G, m, kp, b⟩ := C.ex
  exact ⟨f, fd, G.mono h, m, kp, b⟩
end
section
variable {X : Cx} {k : Nat} {x : Str} {ps : List Str} {sp : Sp} {e : Expr} {es : List Expr} {t : TA} {p pos : Pos}
theorem pe_cal (C : Cal X.prog X.w X.K X.mg X.base k x ps sp) (hr : Room k X.A) (hg : Gl X x) (ha : PA X (e :: es) t) (hdb : (x == ("__debug__" : Str)) = false := by decide)
    (he : starEach (e :: es) X.env = (false, eval e X.env) :: starEach es X.env := by rfl) (hpl : (backTo pos (starEach es X.env)).any (·.1) = false := by rfl) : PE X (.Call (.Name x p) (e :: es) [] pos) (tCall sp [] E0 t) := by
  obtain ⟨f, fd, G, m, kp, b⟩ := C.ex
  exact pe_call G hr hg m kp b .nil pass0 ha hdb he hpl
theorem pe_cal0 (C : Cal X.prog X.w X.K X.mg X.base k x ps sp) (hr : Room k X.A) (hg : Gl X x) (hdb : (x == ("__debug__" : Str)) = false := by decide) : PE X (.Call (.Name x p) [] [] pos) (tCall sp [] E0 tNil) := by
  obtain ⟨f, fd, G, m, kp, b⟩ := C.ex
  exact pe_call0 G hr hg m kp b .nil pass0 hdb
end
section
variable {X : Cx} {x : Str} {a : Addr} {pos : Pos}
theorem pe_gref (hg : Gl X x) (hm : X.mg x = some (.ref a)) (hd : (x == ("__debug__" : Str)) = false := by decide) : PE X (.Name x pos) (tC (.ref a)) := pe_glob hg hm rfl hd
theorem pe_gint {i : Int} (hg : Gl X x) (hm : ∃ t, X.mg x = some (.int i t)) (hd : (x == ("__debug__" : Str)) = false := by decide) : PE X (.Name x pos) (tC (.int i)) := by
  obtain ⟨t, e⟩ := hm
  exact pe_glob hg e ⟨t, rfl⟩ hd
theorem pe_gstr {z : Str} (hg : Gl X x) (hm : ∃ t, X.mg x = some (.str z t)) (hd : (x == ("__debug__" : Str)) = false := by decide) : PE X (.Name x pos) (tC (.str z)) := by
  obtain ⟨t, e⟩ := hm
  exact pe_glob hg e ⟨t, rfl⟩ hd
theorem pe_gty {T : String} (hg : Gl X x) (hm : X.mg x = none) (hv : bootBuiltins x = some (.type T)) (hn : x ≠ "__name__" := by decide) (hd : (x == ("__debug__" : Str)) = false := by decide) : PE X (.Name x pos) (tC (.ty T)) := pe_bltn hg hm hv rfl hn hd
end
/-! what stays: all but the object at p -/
def But (p : Addr) (H H' : Hp) : Prop := ∀ b o, b ≠ p → H b = some o → H' b = some o
theorem But.refl (p : Addr) (H : Hp) : But p H H := fun _ _ _ h => h
theorem But.trans {p : Addr} {H H1 H2 : Hp} (a : But p H H1) (b : But p H1 H2) : But p H H2 := fun c o n h => b c o n (a c o n h)
theorem But.of {p : Addr} {H H' : Hp} (a : Same H H') : But p H H' := fun c o _ h => a c o h
theorem But.upd {p : Addr} {o : HO} (H : Hp) : But p H (upd H p o) := fun c u n h => by rw [upd_ne n]; exact h
theorem Same.new {H : Hp} {p : Addr} {o : HO} (h : H p = none) : Same H (upd H p o) := fun c u e => by rw [upd_ne (ne_of_none e h)]; exact e
theorem Same.put {H H' : Hp} {p : Addr} {o : HO} (s : Same H H') (h : H p = none) : Same H (upd H' p o) := fun c u e => by rw [upd_ne (ne_of_none e h)]; exact s c u e
theorem But.put {q : Addr} {H H' : Hp} {p : Addr} {o : HO} (s : But q H H') (h : H p = none) : But q H (L2.upd H' p o) := fun c u n e => by rw [upd_ne (ne_of_none e h)]; exact s c u n e
theorem But.free {p : Addr} {H H' : Hp} (s : But p H H') {a : Addr} (n : a ≠ p) (h : H' a = none) : H a = none := by
  cases e : H a with
  | none => rfl
  | some o => rw [s a o n e] at h; cases h
theorem But.seq {K : PySem.W.Frag} {p a : Addr} {H H' : Hp} {xs : List V} (s : But p H H') (n : a ≠ p) (h : SqL K H a xs) : SqL K H' a xs := by
  rcases h with (h | ⟨o, h⟩) | h
  · exact .inl (.inl (s _ _ n h))
  · exact .inl (.inr ⟨o, s _ _ n h⟩)
  · exact .inr h
/-! the pen: where the draws come from -/
def penV (l : Addr) (t lf : Int) : List (Key × V) := [(Sum.inr "cells", .ref l), (Sum.inr "turn", .int t), (Sum.inr "left", .int lf)]
structure Pen (H : Hp) (p l : Addr) (t : Int) : Prop where
  ex : ∃ (ns : List Int) (lf : Int), H p = some (.dK (penV l t lf)) ∧ H l = some (.lst (ns.map V.int)) ∧ 0 ≤ lf
  pos : 0 ≤ t
theorem Pen.ne {H : Hp} {p l : Addr} {t : Int} (h : Pen H p l t) : l ≠ p := by
  obtain ⟨ns, lf, h1, h2, _⟩ := h.ex
  exact ne_of h2 h1 (by intro z; cases z)
theorem Pen.at_ {H : Hp} {p l : Addr} {t : Int} (h : Pen H p l t) : ∃ o, H p = some o := by
  obtain ⟨ns, lf, h1, h2, _⟩ := h.ex
  exact ⟨_, h1⟩
theorem Pen.same {H H' : Hp} {p l : Addr} {t : Int} (h : Pen H p l t) (s : Same H H') : Pen H' p l t := by
  obtain ⟨ns, lf, h1, h2, h3⟩ := h.ex
  exact ⟨⟨ns, lf, s _ _ h1, s _ _ h2, h3⟩, h.pos⟩
theorem Pen.new {H : Hp} {p l q : Addr} {t : Int} {o : HO} (h : Pen H p l t) (n : H q = none) : Pen (upd H q o) p l t := h.same (Same.new n)
theorem Pen.put {H : Hp} {p l q : Addr} {t : Int} {o : HO} (h : Pen H p l t) (n1 : q ≠ p) (n2 : q ≠ l) : Pen (upd H q o) p l t := by
  obtain ⟨ns, lf, h1, h2, h3⟩ := h.ex
  exact ⟨⟨ns, lf, by rw [upd_ne n1.symm]; exact h1, by rw [upd_ne n2.symm]; exact h2, h3⟩, h.pos⟩
/-- what every drawing def leaves: the pen a few turns on, all else as it was -/
def Drew (c : Int) (p l : Addr) (t : Int) (H : Hp) (H' : Hp) : Prop := (∃ t', Pen H' p l t' ∧ t ≤ t' ∧ t' ≤ t + c) ∧ But p H H'
/-- draw(pen, span) -/
def spDraw : Sp := fun vs H Q _ => ∃ (p l : Addr) (t span : Int), vs = [.ref p, .int span] ∧ Pen H p l t ∧ t ≤ 1000000000 ∧ 0 < span ∧ span.natAbs < 2 ^ 250 ∧ ∀ (v : Int) (H' : Hp) (t' : Int), 0 ≤ v → v < span → Pen H' p l t' → t ≤ t' → t' ≤ t + 1 → But p H H' → Q (.int v) H'
end L2
end
section
set_option Elab.async false
set_option linter.all false
set_option maxRecDepth 100000
set_option maxHeartbeats 4000000
namespace L2
open PySem PySem.Spec PyProof.Rows
/-! a def run in one setting A (where it is known that no repr is under way) -/
section
variable {CX : CXT} {P : Program} {w : World} {K : PySem.W.Frag} {mg : Str → Option Value} {base : Heap}
theorem fun_at {k : Nat} {f : Addr} {x qual : Str} {params : Arguments} {body : List Stmt} {scope : Scope} {fd : FuncData} {N ps : List Str} {sp : Sp} (D : FunD K x qual params body scope [] [] f fd) (S : FnScope N ps scope)
    (len : ∀ vs H Q E, sp vs H Q E → vs.length = ps.length) (A : Around)
    (red : ∀ (cdv : Value) (outer : List Env) (s : Shared) (H : Hp) (vs : List V) (Q : VK) (E : XK), Room k (A.deeper (envOfC qual scope s.heap.objs.size f cdv)) → sp vs H Q E →
      ∃ t, PSs (cxOf CX P w K mg base N qual scope f cdv A outer s H E) body t ∧ t { nx := fun _ H' => Q .non H', rt := Q } (start N vs) H)
    {outer : List Env} {s : Shared} {H : Hp} {args : Args} {us : List Value} {vs : List V} {Q : VK} {E : XK} (hr : Room (k + 1) A) (e0 : Env0 P w K mg base A outer s H) (hb : BindsTo s fd args (ps.zip us)) (r : Vals vs us) (h : sp vs H Q E) :
    codeAny (model P w) A (.call (.ref f) args) (CR CX outer P w H s Q E) s := by
  obtain ⟨oc, od, dV, kV, doc, pm, an, cdv, ct, osl, rfl, lk, hcd, _, _⟩ := D.ex
  have here : ∀ b o, base.get? b = some o → s.heap.get? b = some o := fun b o z => (e0.bs b o z).1
  have KX : K.In s.heap := e0.mod.kin.keeps here
  have places : ∀ y ∈ ps.zip us, scope.names.lookup y.1 = some .local ∨ (scope.names.lookup y.1 = some .cell ∧ ((cellsFrom (s.heap.objs.size + 1) scope.names []).lookup y.1).isSome = true) := by
    rintro ⟨n, v⟩ hy
    rcases S.par n (List.of_mem_zip hy).1 with z | z
    · exact Or.inl z
    · exact Or.inr ⟨z, PySem.W.cellsFrom_some _ _ _ (Or.inl z)⟩
  refine codeAny_call_function hr.depth (KX _ _ lk) rfl S.co S.gen rfl (PySem.W.codeRec_of KX hcd) (hb _ _ _ _ (wpAny_newFunctionEnv_cells S.kind places fun env he s1 inside => ?_))
  subst he
  refine ⟨(e0.mod.nolimit.keeps here).keeps inside.toInCall.keep, codeAny_func ?_⟩
  obtain ⟨t, ht, hq⟩ := red cdv outer s H vs Q E (hr.deeper _) h
  have I := inv_start (CX := CX) (E := E) S hr.hd e0 (len _ _ _ _ h) r inside
  refine wpAny_mono (ht.run [] s1 (start N vs) H _ I hq) (fun fl s' z => ?_) fun e s' z => z
  match fl, z with
  | .ret u, ⟨v, σ', H', J, rv, q⟩ => exact ⟨v, H', J.os, J.bare, J.base, J.hok, rv, q⟩
  | .next, ⟨σ', H', J, q⟩ => exact ⟨.non, H', J.os, J.bare, J.base, J.hok, rfl, q⟩
  | .brk, ⟨_, _, _, q⟩ => exact q.elim
  | .cont, ⟨_, _, _, q⟩ => exact q.elim
/-- the script among what is tracked, or among the module's own objects -/
theorem script_hp {s₁ : Shared} {a : Addr} {vs : List Value} {ns : List Int} (KX : K.In s₁.heap) (ha : s₁.heap.get? a = some { cls := .type "list", data := .seq vs.toArray }) (hi : IntsAre vs ns) (hl : ns.length ≤ sizeLine) :
    ∃ H : Hp, Only H ∧ SqL K H a (ns.map V.int) ∧ HOk P w H s₁.heap ∧ (∀ b, H b ≠ none → b = a) ∧ (H a ≠ none → K.lookup a = none) := by
  have rv := vals_ints hi
  cases hk : K.lookup a with
  | some o =>
    have z := KX a o hk
    rw [ha] at z
    cases z
    exact ⟨fun _ => none, fun _ => Or.inl rfl, Or.inr ⟨_, vs.toArray, _, hk, rfl, rfl, rfl, by rw [List.size_toArray, hi.length]; exact hl, by simpa using rv⟩, fun b u z => (nomatch z), fun b z => absurd rfl z, fun z => absurd rfl z⟩
  | none =>
    refine ⟨fun b => if b = a then some (.frz { cls := .type "list", data := .seq vs.toArray } (.lst (ns.map V.int))) else none, fun b => ?_, Or.inl (Or.inr ⟨_, if_pos rfl⟩), fun b u z => ?_, fun b z => ?_, fun _ => rfl⟩
    · by_cases e : b = a
      · exact Or.inr ⟨_, _, if_pos e⟩
      · exact Or.inl (if_neg e)
    · have z' : (if b = a then some (HO.frz { cls := .type "list", data := .seq vs.toArray } (.lst (ns.map V.int))) else none) = some u := z
      by_cases e : b = a
      · rw [if_pos e] at z'
        cases z'
        rw [e]
        exact ⟨ha, by rw [List.length_map]; exact hl, vs, _, rv, ha⟩
      · rw [if_neg e] at z'
        cases z'
    · by_cases e : b = a
      · exact e
      · exact absurd (if_neg e) z
/-- the law's call, its def's promise given in the caller's setting alone -/
theorem law_at {fa a : Addr} {s₁ : Shared} {mb : Str → Option Value} {vs : List Value} {ns : List Int}
    (KX : K.In s₁.heap) (hns : s₁.heap.Ns mainGlobals mg) (hb : s₁.heap.Ns builtinsNs mb) (hbb : ∀ x : Str, x ≠ "__name__" → mb x = bootBuiltins x) (hlim : s₁.heap.NoLimit) (hg : s₁.gens = #[])
    (ha : s₁.heap.get? a = some { cls := .type "list", data := .seq vs.toArray }) (hi : IntsAre vs ns) (hl : ns.length ≤ sizeLine)
    (run : ∀ base : Heap, K.In base → base.Ns mainGlobals mg → ∀ H : Hp, Only H → SqL K H a (ns.map V.int) → Env0 P w K mg base callerA [] s₁ H →
      codeAny (model P w) callerA (.call (.ref fa) ⟨[.ref a], []⟩) (CR CX0 [] P w H s₁ (fun v _ => v = .bl true) fun _ _ _ => False) s₁) :
    codeAny (model P w) callerA (.call (.ref fa) ⟨[.ref a], []⟩) (fun r s' => r = .ok (.ret (.bool true)) ∧ OldK s₁.heap s'.heap ∧ s'.os = s₁.os ∧ AllBare s'.gens) s₁ := by
  obtain ⟨H, hO, hS, hok, hA, hK⟩ := script_hp (P := P) (w := w) KX ha hi hl
  have lists : ∀ {b : Addr} {o : Obj} {es : Array DictEntry} {ep : Nat}, s₁.heap.get? b = some o → o.data = .dict es ep → H b = none := by
    intro b o es ep z d
    cases q : H b with
    | none => rfl
    | some u =>
      have e : b = a := hA b (by rw [q]; exact Option.some_ne_none _)
      rw [e, ha] at z
      cases z
      cases d
  have names : ∀ {b : Addr} {m : Str → Option Value}, s₁.heap.Ns b m → (hidT s₁.heap H).Ns b m := fun ⟨o, es, ep, z, d, r⟩ => ⟨o, es, ep, hidT_get z (lists z d), d, r⟩
  have KB : K.In (hidT s₁.heap H) := fun b o z => hidT_get (KX b o z) (by
    cases q : H b with
    | none => rfl
    | some u =>
      have e : b = a := hA b (by rw [q]; exact Option.some_ne_none _)
      rw [e] at z q
      rw [hK (by rw [q]; exact Option.some_ne_none _)] at z
      cases z)
  obtain ⟨mc, l1, l2⟩ := id hlim
  refine codeAny_mono (run _ KB (names hns) H hO hS ⟨rfl, ⟨KB, names hns, ⟨mb, names hb, hbb⟩, mc, names l1, l2⟩, fun b o z => of_hidT z, Nat.le_of_eq (hidT_size _ _), trivial, fun b z => (nomatch z), hok, .of_eq hg⟩) fun r s' z => ?_
  match r, z with
  | .error e, z => exact z.elim
  | .ok .next, z => exact z.elim
  | .ok .brk, z => exact z.elim
  | .ok .cont, z => exact z.elim
  | .ok (.ret u), ⟨v, H', os, bare, un, hok', rv, q⟩ =>
    have q2 : v = .bl true := q
    subst q2
    obtain rfl : u = Value.bool true := rv
    refine ⟨rfl, OldK.of_keep fun b o e => ?_, os, bare⟩
    cases z : H b with
    | none => exact un.keep b o e z (fun y => nomatch y) (fun y => nomatch y)
    | some u =>
      rcases hO b with y | ⟨ob, xs, y⟩
      · rw [z] at y
        cases y
      · obtain ⟨e1, _⟩ := hok b _ y
        obtain ⟨e2, _⟩ := hok' b _ (un.frzs b ob _ y)
        rw [e] at e1
        cases e1
        exact e2
end
end L2
end
section
set_option Elab.async false
set_option linter.all false
set_option maxRecDepth 100000
set_option maxHeartbeats 4000000
namespace K71
open PySem.W (ke_shaped_ints)
open PySem PySem.Spec PyProof.Rows L2
def topS (i : Nat) : Stmt := PySem.Challenge.pw_partlymet_k71_errors.main.body.getD i (.Pass ⟨0, 0, 0, 0⟩)
structure Txt (mg : Str → Option Value) : Prop where
  f_int : mg "int" = none
  f_len : mg "len" = none
  f_abs : mg "abs" = none
  f_list : mg "list" = none
  f_range : mg "range" = none
  f_tuple : mg "tuple" = none
  f_isinstance : mg "isinstance" = none
  f_repr : mg "repr" = none
section
variable {P : Program} {w : World} {K : PySem.W.Frag} {mg : Str → Option Value} {base : Heap}
abbrev s_draw : Stmt := topS 22
theorem sc_draw : FnScope ["pen", "span", "digit", "turn", "cell", "mixed"] ["pen", "span"] (defScope s_draw) := ⟨rfl, rfl, rfl, by decide +kernel, rfl, by decide +kernel, by decide +kernel⟩

theorem pen_left (l : Addr) (t lf x : Int) : putK (penV l t lf) (Sum.inr "left" : Key) (.int x) = penV l t x := rfl
theorem pen_turn (l : Addr) (t lf x : Int) : putK (penV l t lf) (Sum.inr "turn" : Key) (.int x) = penV l x lf := rfl
theorem pen_size (l : Addr) (t lf : Int) : (penV l t lf).length < sizeLine := by
  show 3 < sizeLine
  decide
theorem mod_of {a b : Int} (h : 0 < b) : 0 ≤ a % b ∧ a % b < b := ⟨Int.emod_nonneg _ (by omega), Int.emod_lt_of_pos _ h⟩
theorem div_of {a b : Int} (h : 0 < b) (ha : 0 ≤ a) : 0 ≤ a / b := Int.ediv_nonneg ha (by omega)
theorem wide_span {i j : Int} (h : 0 < j) (hb : j.natAbs < 2 ^ 250) : CDivW i j := wide_div h hb (by decide) (by decide)
theorem dps_ints (K : PySem.W.Frag) (H : Hp) : ∀ ns : List Int, DpAll K H (ns.map V.int) (ns.map PyData.int)
  | [] => .nil
  | i :: r => .cons (.int i) (dps_ints K H r)
theorem at_ints {ns : List Int} {i : Int} (h : 0 ≤ i ∧ i < ((ns.map V.int).length : Int)) : ∃ c, atI (ns.map V.int) i = some (V.int c) := by
  have hj : i.toNat < ns.length := by
    have := h.2
    rw [List.length_map] at this
    omega
  exact ⟨ns[i.toNat], at_of (j := i.toNat) (by omega) (by rw [List.getElem?_map, List.getElem?_eq_getElem hj]; rfl)⟩
theorem ten18 : CPow 10 18 := ⟨by decide, by decide, by decide⟩
theorem abs_nn (i : Int) : 0 ≤ (if i < 0 then -i else i) := by split <;> omega
local macro_rules | `(tactic| walk_at "go") => `(tactic| first | refine ⟨_, rfl, ?_⟩ | refine .inl ⟨_, rfl, ?_⟩ | refine ⟨_, _, rfl, rfl, (by first | (show (0 : Int) < _; decide) | exact Or.inl ⟨by decide, by decide⟩ | exact Or.inr ⟨by decide, by decide⟩), ?_⟩ | refine ⟨_, _, rfl, rfl, ?_⟩)
theorem ok_draw (T : Txt mg) (D : Def K mg "_law_draw" s_draw) : Cal P w K mg base 1 "_law_draw" ["pen", "span"] spDraw := by
  refine D.cal sc_draw (fun vs H Q E h => ?_) (fun _ _ _ _ _ _ us hl => match us, hl with | [_, _], _ => rfl) (fun f cdv A outer s H vs Q E hr h => ?_)
  · obtain ⟨p, l, t, span, rfl, _⟩ := h
    rfl
  obtain ⟨p, l, t, span, rfl, pen, ht, hs, hz, k⟩ := h
  have hlp := pen.ne
  obtain ⟨⟨ns, lf, hp, hl, hlf⟩, h0⟩ := id pen
  have hu := hu_of hr
  refine ⟨_, (pss_cons (ps_if (pt_cmpR op_gt (pe_dget hu (pv 0) pe_str (fun _ _ => rfl)) pe_int (nomark _)) (pss_cons (ps_set (i := 2) sc_draw.nd rfl (by first | exact Or.inl rfl | exact Or.inr rfl) (pe_op op_mod (pe_callTy call_int1 (by rfl) T.f_int (by decide +kernel) (pa_cons (pe_dget hu (pv 0) pe_str (fun _ _ => rfl)) pa_nil)) (pv 1)))
      (pss_cons (ps_dput hu (pv 0) pe_str (pe_op op_fdivW (pe_dget hu (pv 0) pe_str (fun _ _ => rfl)) (pv 1)) rfl)
      (pss_one (ps_ret (pv 2))))) pss_nil)
      (pss_cons (ps_set (i := 3) sc_draw.nd rfl (by first | exact Or.inl rfl | exact Or.inr rfl) (pe_dget hu (pv 0) pe_str (fun _ _ => rfl)))
      (pss_cons (ps_dput hu (pv 0) pe_str (pe_op op_add (pv 3) pe_int) rfl)
      (pss_cons (ps_set (i := 4) sc_draw.nd rfl (by first | exact Or.inl rfl | exact Or.inr rfl) (pe_op op_add (pe_op op_mul pe_int (pv 3)) pe_int))
      (C8.pss_cut (ps_if (pt_cmpR (op_neD hr.units) (pe_dget hu (pv 0) pe_str (fun _ _ => rfl)) (pe_lst pa_nil) (nomark _)) (pss_one (ps_set (i := 4) sc_draw.nd rfl (by first | exact Or.inl rfl | exact Or.inr rfl) (pe_ix ix_list (pe_dget hu (pv 0) pe_str (fun _ _ => rfl)) (pe_op op_mod (pe_callTy call_int1 (by rfl) T.f_int (by decide +kernel) (pa_cons (pv 3) pa_nil)) (pe_callB call_len (by rfl) T.f_len PySem.boot_len (pa_cons (pe_dget hu (pv 0) pe_str (fun _ _ => rfl)) pa_nil))) (fun _ _ => rfl)))) pss_nil)
      (C8.pss_cut (ps_if (PW.pt (pw_and (pt_cmpR op_lt (pv 3) (pe_callB call_len (by rfl) T.f_len PySem.boot_len (pa_cons (pe_dget hu (pv 0) pe_str (fun _ _ => rfl)) pa_nil)) (nomark _)) (pw_and1 (pt_cmpR op_ge (pe_callB call_abs (by rfl) T.f_abs (by decide +kernel) (pa_cons (pv 4) pa_nil)) (pe_op op_pow pe_int pe_int) (nomark _))))) (pss_cons (ps_dput hu (pv 0) pe_str (pe_op op_fdivW (pe_op op_sub (pe_callB call_abs (by rfl) T.f_abs (by decide +kernel) (pa_cons (pv 4) pa_nil)) (pe_op op_pow pe_int pe_int)) (pv 1)) rfl)
      (pss_one (ps_ret (pe_op op_mod (pe_callTy call_int1 (by rfl) T.f_int (by decide +kernel) (pa_cons (pe_op op_sub (pe_callB call_abs (by rfl) T.f_abs (by decide +kernel) (pa_cons (pv 4) pa_nil)) (pe_op op_pow pe_int pe_int)) pa_nil)) (pv 1))))) pss_nil)
      (pss_cons (ps_set (i := 5) sc_draw.nd rfl (by first | exact Or.inl rfl | exact Or.inr rfl) (pe_op op_mul (pe_op op_mod (pe_callTy call_int1 (by rfl) T.f_int (by decide +kernel) (pa_cons (pv 4) pa_nil)) pe_int) pe_int))
      (pss_cons (ps_set (i := 5) sc_draw.nd rfl (by first | exact Or.inl rfl | exact Or.inr rfl) (pe_op op_mod (pe_callTy call_int1 (by rfl) T.f_int (by decide +kernel) (pa_cons (pe_op op_add (pe_op op_add (pv 5) (pe_op op_mul (pv 3) (pe_op op_add (pe_op op_mul (pv 3) pe_int) pe_int))) pe_int) pa_nil)) pe_int))
      (pss_cons (ps_set (i := 5) sc_draw.nd rfl (by first | exact Or.inl rfl | exact Or.inr rfl) (pe_op op_mod (pe_callTy call_int1 (by rfl) T.f_int (by decide +kernel) (pa_cons (pe_op op_mul (pv 5) (pe_op op_add (pv 5) pe_int)) pa_nil)) pe_int))
      (pss_cons (ps_set (i := 5) sc_draw.nd rfl (by first | exact Or.inl rfl | exact Or.inr rfl) (pe_op op_mod (pe_callTy call_int1 (by rfl) T.f_int (by decide +kernel) (pa_cons (pe_op op_add (pe_op op_add (pe_op op_mul (pv 5) (pv 5)) (pe_op op_mul pe_int (pv 5))) (pe_op op_mul pe_int (pv 3))) pa_nil)) pe_int))
      (pss_one (ps_ret (pe_op op_mod (pe_callTy call_int1 (by rfl) T.f_int (by decide +kernel) (pa_cons (pe_op op_fdivW (pe_op op_mod (pe_callTy call_int1 (by rfl) T.f_int (by decide +kernel) (pa_cons (pe_op op_mul (pv 5) (pe_op op_add (pv 5) pe_int)) pa_nil)) pe_int) pe_int) pa_nil)) (pv 1)))))))))))))), ?_⟩
  -- if pen['left'] > 0
  refine ⟨_, rfl, p, _, rfl, DGet.k (k := Sum.inr "left") hp, _, _, rfl, rfl, _, rfl, ?_⟩
  refine ite2 (fun c => ?_) (fun c => ?_)
  · have c1 : 0 < lf := of_decide_eq_true c
    have hm := mod_of (a := lf) hs
    refine ⟨_, rfl, p, _, rfl, DGet.k (k := Sum.inr "left") hp, .inl ⟨_, rfl, ?_⟩⟩
    refine ⟨_, rfl, _, _, rfl, rfl, hs, ?_⟩
    refine ⟨_, rfl, p, _, rfl, DGet.k (k := Sum.inr "left") hp, _, rfl, _, _, rfl, rfl, wide_span hs hz, _, rfl, p, _, rfl, DPut.k (k := Sum.inr "left") hp (pen_size _ _ _), ?_⟩
    rw [pen_left]
    refine ⟨_, rfl, k _ _ t hm.1 hm.2 ⟨⟨ns, _, upd_same, (upd_ne hlp).trans hl, div_of hs hlf⟩, h0⟩ (Int.le_refl _) (by omega) (But.upd H)⟩
  -- turn = pen['turn']; pen['turn'] = turn + 1; cell = ..
  refine ⟨_, rfl, p, _, rfl, DGet.k (k := Sum.inr "turn") hp, ?_⟩
  refine ⟨_, rfl, _, _, rfl, rfl, _, rfl, p, _, rfl, DPut.k (k := Sum.inr "turn") hp (pen_size _ _ _), ?_⟩
  rw [pen_turn]
  have hp1 : upd H p (.dK (penV l (t + 1) lf)) p = some (.dK (penV l (t + 1) lf)) := upd_same
  have hl1 : upd H p (.dK (penV l (t + 1) lf)) l = some (.lst (ns.map V.int)) := (upd_ne hlp).trans hl
  have b1 : But p H (upd H p (.dK (penV l (t + 1) lf))) := But.upd H
  generalize upd H p (.dK (penV l (t + 1) lf)) = H1 at hp1 hl1 b1 ⊢
  refine ⟨_, rfl, _, _, rfl, rfl, .inl ⟨by decide, by decide⟩, _, _, rfl, rfl, ?_⟩
  -- if pen['cells'] != []
  refine ⟨fun σ' H' => ∃ c : Int, σ' = [some (.ref p), some (.int span), none, some (.int t), some (.int c), none] ∧ H' p = some (.dK (penV l (t + 1) lf)) ∧ H' l = some (.lst (ns.map V.int)) ∧ But p H H', ?_, ?_⟩
  · refine ⟨_, rfl, p, _, rfl, DGet.k (k := Sum.inr "cells") hp1, Nat.zero_le _, fun e he => ?_⟩
    have hp2 := (upd_ne (o := .lst []) (ne_of_none hp1 he)).trans hp1
    have hl2 := (upd_ne (o := .lst []) (ne_of_none hl1 he)).trans hl1
    have b2 : But p H (upd H1 e (.lst [])) := fun c o n z => (Same.new he) c o (b1 c o n z)
    refine ⟨.list (ns.map PyData.int), .list [], .lst (SqL.of hl2) (dps_ints _ _ ns), .lst (SqL.of upd_same) .nil, ke_shaped_ints ns, ke_shaped_ints [], _, rfl, ?_⟩
    generalize upd H1 e (.lst []) = H2 at hp2 hl2 b2 ⊢
    refine ite2 (fun c1 => ?_) (fun c1 => ?_)
    · have hne : ns ≠ [] := by
        rintro rfl
        cases c1
      have hpos : (0 : Int) < ((ns.map V.int).length : Int) := by
        rw [List.length_map]
        have := List.length_pos_iff.mpr hne
        omega
      refine ⟨_, rfl, p, _, rfl, DGet.k (k := Sum.inr "cells") hp2, _, rfl, .inl ⟨_, rfl, ?_⟩⟩
      refine ⟨_, rfl, p, _, rfl, DGet.k (k := Sum.inr "cells") hp2, _, _, rfl, .inl ⟨_, SqL.of hl2, rfl⟩, ?_⟩
      refine ⟨_, _, rfl, rfl, hpos, ?_⟩
      obtain ⟨cell, hcell⟩ := at_ints (ns := ns) (i := t % ((ns.map V.int).length : Int)) (mod_of hpos)
      refine ⟨l, _, _, _, rfl, rfl, SqL.of hl2, hcell, ?_⟩
      exact ⟨cell, rfl, hp2, hl2, b2⟩
    · exact ⟨_, rfl, hp2, hl2, b2⟩
  rintro σ' H2 ⟨c, rfl, hp2, hl2, b2⟩
  -- if turn < len(..) and abs(cell) >= 10 ** 18
  refine ⟨fun σ' H' => σ' = [some (.ref p), some (.int span), none, some (.int t), some (.int c), none] ∧ H' p = some (.dK (penV l (t + 1) lf)) ∧ H' l = some (.lst (ns.map V.int)) ∧ But p H H', ?_, ?_⟩
  · refine ⟨_, rfl, _, rfl, p, _, rfl, DGet.k (k := Sum.inr "cells") hp2, _, _, rfl, .inl ⟨_, SqL.of hl2, rfl⟩, _, _, rfl, rfl, _, rfl, ?_⟩
    refine ite2 (fun _ => ?_) (fun _ => ⟨rfl, hp2, hl2, b2⟩)
    refine ⟨_, rfl, _, rfl, _, _, rfl, rfl, ten18, _, _, rfl, rfl, _, rfl, ?_⟩
    refine ite2 (fun big => ?_) (fun _ => ⟨rfl, hp2, hl2, b2⟩)
    have big' := of_decide_eq_true big
    have hd := mod_of (a := (if c < 0 then -c else c) - (10 : Int) ^ (18 : Int).toNat) hs
    refine ⟨_, rfl, _, rfl, _, _, rfl, rfl, ten18, _, _, rfl, rfl, _, rfl, _, _, rfl, rfl, wide_span hs hz, _, rfl, p, _, rfl, DPut.k (k := Sum.inr "left") hp2 (pen_size _ _ _), ?_⟩
    rw [pen_left]
    refine ⟨_, rfl, _, rfl, _, _, rfl, rfl, ten18, _, _, rfl, rfl, .inl ⟨_, rfl, _, rfl, _, _, rfl, rfl, hs, ?_⟩⟩
    exact k _ _ (t + 1) hd.1 hd.2 ⟨⟨ns, _, upd_same, (upd_ne hlp).trans hl2, div_of hs (by have : (10 : Int) ^ (18 : Int).toNat ≤ (if c < 0 then -c else c) := big'; omega)⟩, by omega⟩ (by omega) (by omega) (b2.trans (But.upd H2))
  rintro σ' H3 ⟨rfl, hp3, hl3, b3⟩
  have fin : Pen H3 p l (t + 1) := ⟨⟨ns, lf, hp3, hl3, hlf⟩, by omega⟩
  -- mixed = ..
  repeat walk_at "go"
  refine ⟨.inl ⟨by omega, by omega⟩, ?_⟩
  repeat walk_at "go"
  have m2 := mod_of (a := c % 4294967087 * 48611 + t * (t * 27919 + 10601) + 41) (b := 4294967029) (by decide)
  dsimp only
  generalize (c % 4294967087 * 48611 + t * (t * 27919 + 10601) + 41) % 4294967029 = m at m2 ⊢
  refine ⟨.inl ⟨by omega, by omega⟩, ?_⟩
  repeat walk_at "go"
  have m3 := mod_of (a := m * (m + 75013)) (b := 4294966997) (by decide)
  dsimp only
  generalize m * (m + 75013) % 4294966997 = n at m3 ⊢
  refine ⟨.inl ⟨by omega, by omega⟩, ?_⟩
  repeat walk_at "go"
  have m4 := mod_of (a := n * n + 30427 * n + 19 * t) (b := 4294966981) (by decide)
  dsimp only
  generalize (n * n + 30427 * n + 19 * t) % 4294966981 = o at m4 ⊢
  refine ⟨.inl ⟨by omega, by omega⟩, ?_⟩
  repeat walk_at "go"
  refine ⟨wide_span (by decide) (by decide), ?_⟩
  repeat walk_at "go"
  have m5 := mod_of (a := o * (o + 58111) % 4294966943 / 64) hs
  exact ⟨hs, k _ _ (t + 1) m5.1 m5.2 fin (by omega) (by omega) b3⟩
end
end K71
end
section
set_option Elab.async false
set_option linter.all false
set_option maxRecDepth 100000
set_option maxHeartbeats 4000000
namespace K71
open PySem PySem.Spec PyProof.Rows L2
open PySem.W (ke_shaped_ints)
local macro_rules | `(tactic| walk_at "go") => `(tactic| first | refine ⟨_, rfl, ?_⟩ | refine .inl ⟨_, rfl, ?_⟩ | refine ⟨_, _, rfl, rfl, (by first | (show (0 : Int) < _; decide) | exact Or.inl ⟨by decide, by decide⟩ | exact Or.inr ⟨by decide, by decide⟩), ?_⟩ | refine ⟨_, _, rfl, rfl, ?_⟩)
section
variable {P : Program} {w : World} {K : PySem.W.Frag} {mg : Str → Option Value} {base : Heap}

/-- begun_pen(script) -/
def spBegun (K : PySem.W.Frag) : Sp := fun vs H Q _ => ∃ (a : Addr) (ns : List Int), vs = [.ref a] ∧ SqL K H a (ns.map V.int) ∧ ∀ (p l : Addr) (H' : Hp), H p = none → H l = none → Same H H' → Pen H' p l 0 → Q (.ref p) H'
theorem cut_ints (ns : List Int) (lo hi : Option Int) : ∃ ms : List Int, cutV (ns.map V.int) lo hi = ms.map V.int :=
  ⟨(ns.drop (HT.sIx (ns.map V.int).length 0 lo)).take (HT.sIx (ns.map V.int).length (ns.map V.int).length hi - HT.sIx (ns.map V.int).length 0 lo), by
    unfold cutV
    rw [List.map_take, List.map_drop]⟩
abbrev s_begun_pen : Stmt := topS 21
theorem sc_begun_pen : FnScope ["script"] ["script"] (defScope s_begun_pen) := ⟨rfl, rfl, rfl, by decide +kernel, rfl, by decide +kernel, by decide +kernel⟩
theorem ok_begun_pen (T : Txt mg) (D : Def K mg "_law_begun_pen" s_begun_pen) : Cal P w K mg base 1 "_law_begun_pen" ["script"] (spBegun K) := by
  refine D.cal sc_begun_pen (fun vs H Q E h => ?_) (fun _ _ _ _ _ _ us hl => match us, hl with | [_], _ => rfl) (fun f cdv A outer s H vs Q E hr h => ?_)
  · obtain ⟨a, ns, rfl, _⟩ := h
    rfl

  obtain ⟨a, ns, rfl, hS, k⟩ := h
  refine ⟨_, (pss_one (ps_ret (pe_disp (pps_cons pe_str (pe_callTy call_list_of (by rfl) T.f_list (by decide +kernel) (pa_cons (pe_slice sl_list (pv 0) po_none (po_some pe_int)) pa_nil)) (pps_cons pe_str pe_int (pps_cons pe_str pe_int pps_nil))) (by rfl) (by rfl) (fun z => by cases z) (by decide)))), ?_⟩
  intro p hp
  refine ⟨_, rfl, 63, rfl, a, _, rfl, (Same.new hp).seq hS, fun q hq => ?_⟩
  refine ⟨q, _, rfl, .inl (SqL.of upd_same), fun l hl => ?_⟩
  obtain ⟨ms, hms⟩ := cut_ints ns none (some 63)
  rw [hms]
  have hqp : q ≠ p := fun z => by rw [z, upd_same] at hq; cases hq
  have hlq : l ≠ q := fun z => by rw [z, upd_same] at hl; cases hl
  have hlp : l ≠ p := fun z => by rw [z, upd_ne hqp.symm, upd_same] at hl; cases hl
  have hl0 : H l = none := by rw [upd_ne hlq, upd_ne hlp] at hl; exact hl
  have hq0 : H q = none := by rw [upd_ne hqp] at hq; exact hq
  refine ⟨by rw [upd_ne hlp.symm, upd_ne hqp.symm, upd_same], penV l 0 0, rfl, by show 3 ≤ 15; decide, ?_⟩
  refine k p l _ hp hl0 ((((Same.new hp).put hq0).put hl0).put hp) ⟨⟨ms, 0, upd_same, (upd_ne hlp).trans upd_same, Int.le_refl _⟩, Int.le_refl _⟩



/-- pick(pen, options): one of the options -/
def spPick (K : PySem.W.Frag) : Sp := fun vs H Q _ => ∃ (p l a : Addr) (t : Int) (xs : List V), vs = [.ref p, .ref a] ∧ Pen H p l t ∧ t ≤ 1000000000 ∧ a ≠ p ∧ (SqL K H a xs ∨ SqT K H a xs) ∧ 0 < xs.length ∧ xs.length ≤ 1000000 ∧
  ∀ (j : Nat) (v : V) (H' : Hp) (t' : Int), xs[j]? = some v → Pen H' p l t' → t ≤ t' → t' ≤ t + 1 → But p H H' → Q v H'
theorem small_span {n : Nat} (h : n ≤ 1000000) : ((n : Int)).natAbs < 2 ^ 250 := by
  have e : ((n : Int)).natAbs = n := Int.natAbs_natCast n
  rw [e]
  exact Nat.lt_of_le_of_lt h (by decide)
theorem _root_.L2.But.tup {K : PySem.W.Frag} {p a : Addr} {H H' : Hp} {xs : List V} (s : But p H H') (n : a ≠ p) (h : SqT K H a xs) : SqT K H' a xs := by
  rcases h with (h | ⟨o, h⟩) | h
  · exact .inl (.inl (s _ _ n h))
  · exact .inl (.inr ⟨o, s _ _ n h⟩)
  · exact .inr h
abbrev s_pick : Stmt := topS 23
theorem sc_pick : FnScope ["pen", "options"] ["pen", "options"] (defScope s_pick) := ⟨rfl, rfl, rfl, by decide +kernel, rfl, by decide +kernel, by decide +kernel⟩
theorem ok_pick (T : Txt mg) (D : Def K mg "_law_pick" s_pick) (C__law_draw : Cal P w K mg base 1 "_law_draw" ["pen", "span"] spDraw) : Cal P w K mg base 2 "_law_pick" ["pen", "options"] (spPick K) := by
  refine D.cal sc_pick (fun vs H Q E h => ?_) (fun _ _ _ _ _ _ us hl => match us, hl with | [_, _], _ => rfl) (fun f cdv A outer s H vs Q E hr h => ?_)
  · obtain ⟨p, l, a, t, xs, rfl, _⟩ := h
    rfl

  obtain ⟨p, l, a, t, xs, rfl, pen, ht, hap, hx, h0, hz, k⟩ := h
  refine ⟨_, (pss_one (ps_ret (pe_ix ix_seq (pv 1) (pe_cal C__law_draw (hr.mono (by decide)) rfl (pa_cons (pv 0) (pa_cons (pe_callB call_len (by rfl) T.f_len PySem.boot_len (pa_cons (pv 1) pa_nil)) pa_nil))) (fun _ _ => rfl)))), ?_⟩
  refine ⟨_, rfl, _, rfl, _, rfl, _, xs.length, rfl, ?_, p, l, t, (xs.length : Int), rfl, pen, ht, by omega, small_span hz, fun v H' t' h1 h2 pen' h3 h4 but => ?_⟩
  · rcases hx with h | h
    · exact .inl ⟨xs, h, rfl⟩
    · exact .inr ⟨xs, h, rfl⟩
  have hj : v.toNat < xs.length := by omega
  have hv : xs[v.toNat]? = some (xs[v.toNat]) := List.getElem?_eq_getElem hj
  have hat : atI xs v = some (xs[v.toNat]) := at_of (j := v.toNat) (by omega) hv
  rcases hx with h | h
  · exact .inl ⟨a, xs, v, _, rfl, rfl, but.seq hap h, hat, k _ _ H' t' hv pen' h3 h4 but⟩
  · exact .inr (.inl ⟨a, xs, v, _, rfl, rfl, but.tup hap h, hat, k _ _ H' t' hv pen' h3 h4 but⟩)



/-- far_number(pen) -/
def spFar : Sp := fun vs H Q _ => ∃ (p l : Addr) (t : Int), vs = [.ref p] ∧ Pen H p l t ∧ t ≤ 1000000 ∧ ∀ (v : Int) (H' : Hp) (t' : Int), v.natAbs < 10 ^ 42 → Pen H' p l t' → t ≤ t' → t' ≤ t + 8 → But p H H' → Q (.int v) H'
theorem ten6 : CPow 10 6 := ⟨by decide, by decide, by decide⟩
abbrev s_far_number : Stmt := topS 24
theorem sc_far_number : FnScope ["pen", "found", "k"] ["pen"] (defScope s_far_number) := ⟨rfl, rfl, rfl, by decide +kernel, rfl, by decide +kernel, by decide +kernel⟩
theorem ok_far_number (T : Txt mg) (D : Def K mg "_law_far_number" s_far_number) (C__law_draw : Cal P w K mg base 1 "_law_draw" ["pen", "span"] spDraw) : Cal P w K mg base 2 "_law_far_number" ["pen"] spFar := by
  refine D.cal sc_far_number (fun vs H Q E h => ?_) (fun _ _ _ _ _ _ us hl => match us, hl with | [_], _ => rfl) (fun f cdv A outer s H vs Q E hr h => ?_)
  · obtain ⟨p, l, t, rfl, _⟩ := h
    rfl

  obtain ⟨p, l, t, rfl, pen, ht, k⟩ := h
  refine ⟨_, (pss_cons (ps_set (i := 1) sc_far_number.nd rfl (by first | exact Or.inl rfl | exact Or.inr rfl) pe_int)
      (pss_cons (ps_for PassesOwn.never rfl (pi_range1 rfl T.f_range (pa_cons pe_int pa_nil)) (pg_name (i := 2) sc_far_number.nd rfl (by first | exact Or.inl rfl | exact Or.inr rfl)) (pss_one (ps_set (i := 1) sc_far_number.nd rfl (by first | exact Or.inl rfl | exact Or.inr rfl) (pe_op op_add (pe_op op_mul (pv 1) (pe_op op_pow pe_int pe_int)) (pe_cal C__law_draw (hr.mono (by decide)) rfl (pa_cons (pv 0) (pa_cons (pe_op op_pow pe_int pe_int) pa_nil)))))))
      (pss_one (ps_ret (pe_ifExp (pt_cmpR op_eq (pe_cal C__law_draw (hr.mono (by decide)) rfl (pa_cons (pv 0) (pa_cons pe_int pa_nil))) pe_int (nomark _)) (pe_un un_neg (pv 1)) (pv 1)))))), ?_⟩
  refine ⟨7, rfl, by decide, by decide, for_range (n := 7) (fun i σ H1 => ∃ (z : Int) (v : Option V) (t1 : Int), σ = [some (.ref p), some (.int z), v] ∧ 0 ≤ z ∧ z < 10 ^ (6 * i) ∧ Pen H1 p l t1 ∧ t ≤ t1 ∧ t1 ≤ t + i ∧ But p H H1)
    ⟨0, none, t, rfl, Int.le_refl _, by decide, pen, Int.le_refl _, by omega, But.refl p H⟩ ?_ ?_⟩
  · rintro i σ H1 hi ⟨z, v, t1, rfl, z0, z1, pen1, h1, h2, b1⟩
    refine ⟨_, rfl, _, _, rfl, rfl, ten6, _, _, rfl, rfl, .inr ⟨by decide, by decide⟩, ?_⟩
    refine ⟨_, rfl, _, _, rfl, rfl, ten6, p, l, t1, _, rfl, pen1, by omega, by decide, by decide, fun d H2 t2 d0 d1 pen2 g1 g2 b2 => ?_⟩
    refine ⟨_, _, rfl, rfl, _, _, t2, rfl, ?_, ?_, pen2, by omega, by omega, b1.trans b2⟩
    · have e : (10 : Int) ^ (6 : Int).toNat = 1000000 := by decide
      show 0 ≤ z * (10 : Int) ^ (6 : Int).toNat + d
      rw [e]
      omega
    · have e : (10 : Int) ^ (6 : Int).toNat = 1000000 := by decide
      have e2 : (10 : Int) ^ (6 * (i + 1)) = 10 ^ (6 * i) * 1000000 := by
        rw [Nat.mul_add, Int.pow_add]
        rfl
      have d2 : d < 1000000 := by rw [e] at d1; exact d1
      show z * (10 : Int) ^ (6 : Int).toNat + d < 10 ^ (6 * (i + 1))
      rw [e, e2]
      generalize (10 : Int) ^ (6 * i) = y at z1 ⊢
      omega
  · rintro σ H1 ⟨z, v, t1, rfl, z0, z1, pen1, h1, h2, b1⟩
    have z2 : z < 10 ^ 42 := z1
    refine ⟨_, rfl, p, l, t1, 2, rfl, pen1, by omega, by decide, by decide, fun d H2 t2 d0 d1 pen2 g1 g2 b2 => ?_⟩
    refine ⟨rfl, _, rfl, ?_⟩
    have e : (10 : Int) ^ 42 = ((10 ^ 42 : Nat) : Int) := by decide
    refine ite2 (fun _ => ?_) (fun _ => ?_)
    · refine ⟨_, rfl, _, rfl, k _ H2 t2 ?_ pen2 (by omega) (by omega) (b1.trans b2)⟩
      show (-z).natAbs < _
      rw [e] at z2
      omega
    · refine ⟨_, rfl, k _ H2 t2 ?_ pen2 (by omega) (by omega) (b1.trans b2)⟩
      rw [e] at z2
      omega

end
end K71
end
section
set_option Elab.async false
set_option linter.all false
set_option maxRecDepth 100000
set_option maxHeartbeats 4000000
namespace K71
open PySem PySem.Spec PyProof.Rows L2
open PySem.W (ke_shaped_ints)
local macro_rules | `(tactic| walk_at "go") => `(tactic| first | refine ⟨_, rfl, ?_⟩ | refine .inl ⟨_, rfl, ?_⟩ | refine ⟨_, _, rfl, rfl, (by first | (show (0 : Int) < _; decide) | exact Or.inl ⟨by decide, by decide⟩ | exact Or.inr ⟨by decide, by decide⟩), ?_⟩ | refine ⟨_, _, rfl, rfl, ?_⟩)
section
variable {P : Program} {w : World} {K : PySem.W.Frag} {mg : Str → Option Value} {base : Heap}

/-- barred(): a list of texts -/
def barred : List Str := Txt.split (("input load store set join part each copy up down fill step when else end times give call" : Str) ++ (" to from upto is apart by" : Str)) (" " : Str)
def spBarred : Sp := fun vs H Q _ => vs = [] ∧ ∀ (p : Addr) (H' : Hp), H p = none → Same H H' → H' p = some (.lst (barred.map V.str)) → Q (.ref p) H'
theorem barred_len : (("input load store set join part each copy up down fill step when else end times give call" : Str)).length = 88 := by decide +kernel
theorem barred_len2 : ((" to from upto is apart by" : Str)).length = 25 := by decide +kernel
theorem len_app (x y : Str) : (x ++ y).length = x.length + y.length := strLen_append x y
abbrev s_barred : Stmt := topS 25
theorem sc_barred : FnScope ["words"] [] (defScope s_barred) := ⟨rfl, rfl, rfl, by decide +kernel, rfl, by decide +kernel, by decide +kernel⟩
theorem ok_barred (T : Txt mg) (D : Def K mg "_law_barred" s_barred) : Cal P w K mg base 1 "_law_barred" [] spBarred := by
  refine D.cal sc_barred (fun vs H Q E h => ?_) (fun _ _ _ _ _ _ us hl => match us, hl with | [], _ => rfl) (fun f cdv A outer s H vs Q E hr h => ?_)
  · obtain ⟨rfl, _⟩ := h
    rfl

  obtain ⟨rfl, k⟩ := h
  refine ⟨_, (pss_cons (ps_set (i := 0) sc_barred.nd rfl (by first | exact Or.inl rfl | exact Or.inr rfl) pe_str)
      (pss_one (ps_ret (pe_split (pe_op op_add_str (pv 0) pe_str) pe_str)))), ?_⟩
  refine ⟨_, rfl, _, _, rfl, rfl, ?_, ⟨_, rfl⟩, _, _, rfl, rfl, by decide +kernel, ?_, fun p new => ?_⟩
  · rw [barred_len, barred_len2, sizeLine_eq]
    decide
  · rw [len_app, barred_len, barred_len2, sizeLine_eq]
    decide
  · exact k p _ new (Same.new new) upd_same



theorem flat_strs (ys : List Str) : (ys.map V.str).all flatV = true := by
  rw [List.all_map]
  exact List.all_eq_true.mpr fun _ _ => rfl
theorem dps_strs (K : PySem.W.Frag) (H : Hp) : ∀ ys : List Str, DpAll K H (ys.map V.str) (ys.map PyData.str)
  | [] => .nil
  | y :: r => .cons (.str y) (dps_strs K H r)
/-- a text of small codes -/
def Low (z : Str) : Prop := ∀ c ∈ z.cps.toList, c < 256
theorem low_ok {z : Str} (h : Low z) : PyData.strOk z = true := by
  unfold PyData.strOk
  rw [← Array.all_toList]
  exact List.all_eq_true.mpr fun c hc => decide_eq_true (Nat.lt_trans (h c hc) (by decide))
theorem shaped_strs {ys : List Str} (h : ∀ y ∈ ys, Low y) : SeqAt.shaped (.list (ys.map PyData.str)) = true := by
  have h1 : ∀ ys : List Str, (∀ y ∈ ys, Low y) → PyData.canLayAll0 (ys.map PyData.str) = true ∧ PyData.depthAll (ys.map PyData.str) = 0 := by
    intro ys
    induction ys with
    | nil => intro _; exact ⟨rfl, rfl⟩
    | cons y r ih =>
      intro h
      obtain ⟨a, b⟩ := ih fun z hz => h z (List.mem_cons_of_mem _ hz)
      refine ⟨?_, ?_⟩
      · rw [List.map_cons]
        show (PyData.canLay0 (.str y) && PyData.canLayAll0 (r.map PyData.str)) = true
        rw [a, Bool.and_true]
        exact low_ok (h y List.mem_cons_self)
      · rw [List.map_cons]
        show max (PyData.depth (.str y)) (PyData.depthAll (r.map PyData.str)) = 0
        rw [b]
        rfl
  obtain ⟨a, b⟩ := h1 ys h
  show (PyData.canLayAll0 (ys.map PyData.str) && decide (PyData.depthAll (ys.map PyData.str) + 1 ≤ 64)) = true
  rw [a, b]
  rfl
/-- is_name(word): some answer -/
def spIsName : Sp := fun vs H Q _ => ∃ z : Str, vs = [.str z] ∧ z.length ≤ 10000 ∧ Low z ∧ ∀ (b : Bool) (H' : Hp), Same H H' → Q (.bl b) H'
abbrev s_is_name : Stmt := topS 26
theorem sc_is_name : FnScope ["word", "odd", "sign"] ["word"] (defScope s_is_name) := ⟨rfl, rfl, rfl, by decide +kernel, rfl, by decide +kernel, by decide +kernel⟩
theorem ok_is_name (T : Txt mg) (D : Def K mg "_law_is_name" s_is_name) (C__law_barred : Cal P w K mg base 1 "_law_barred" [] spBarred) : Cal P w K mg base 2 "_law_is_name" ["word"] spIsName := by
  refine D.cal sc_is_name (fun vs H Q E h => ?_) (fun _ _ _ _ _ _ us hl => match us, hl with | [_], _ => rfl) (fun f cdv A outer s H vs Q E hr h => ?_)
  · obtain ⟨z, rfl, _⟩ := h
    rfl

  obtain ⟨z, rfl, hz, low, k⟩ := h
  have hsz : z.length ≤ sizeLine := by rw [sizeLine_eq]; omega
  refine ⟨_, (pss_cons (ps_setLc (i := 1) (own := [("sign", 2)]) (g := gName 2) rfl sc_is_name.nd rfl rfl (sw_true rfl rfl rfl (by decide +kernel)) (pi_str (pv 0)) (blkOk_by (N := ["word", "odd", "sign"]) (sc := defScope s_is_name) (by decide +kernel)) (fun _ _ _ _ _ => pg_name (i := 2) sc_is_name.nd rfl (Or.inl rfl)) (fun _ _ _ _ _ => (pts_one (pt_cmpR op_notIn_sign (pv 2) pe_str (by rfl)))) (fun _ _ _ _ _ => (pv 2)))
      (pss_one (ps_ret (pe_and (pe_chain op_le op_le pe_int (pe_callB call_len (by rfl) T.f_len PySem.boot_len (pa_cons (pv 0) pa_nil)) pe_int) (pe_and (pe_cmpR (op_eqD hr.units) (pv 1) (pe_lst pa_nil) (nomark _)) (pe_one (pe_cmpR op_notIn_seq (pv 0) (pe_cal0 C__law_barred (hr.mono (by decide)) rfl) (by rfl)))))))), ?_⟩
  refine ⟨_, rfl, z, rfl, fun Dl hD => lc_it walk_str (fun i H' => Same H H' ∧ ∃ ys : List Str, H' Dl = some (.lst (ys.map V.str)) ∧ ys.length ≤ i ∧ ∀ y ∈ ys, Low y)
    ⟨Same.new hD, [], upd_same, Nat.le_refl _, by simp⟩ (fun _ _ _ _ => True.intro) ?_ ?_⟩
  · rintro i x H1 H2 hi ⟨s1, ys, h1, h2, h3⟩ ⟨rfl, c, hc, rfl⟩
    refine ⟨rfl, _, rfl, c, _, rfl, rfl, _, rfl, ite2 (fun _ => ?_) (fun _ => ⟨s1, ys, h1, Nat.le_succ_of_le h2, h3⟩)⟩
    have hzs : z.cps.size = z.length := rfl
    refine ⟨_, rfl, _, h1, ?_, s1.put hD, ys ++ [⟨#[c]⟩], ?_, ?_, ?_⟩
    · rw [List.length_map, sizeLine_eq]
      omega
    · rw [List.map_append]
      exact upd_same
    · rw [List.length_append, List.length_singleton]
      omega
    · intro y hy
      rcases List.mem_append.mp hy with h | h
      · exact h3 y h
      · rw [List.mem_singleton.mp h]
        intro d hd
        have e : d = c := by simpa using hd
        rw [e]
        exact low c (by rw [← Array.getElem?_toList] at hc; exact List.mem_of_getElem? hc)
  · rintro H1 ⟨s1, ys, h1, _, h3⟩
    -- 1 <= len(word) <= 12
    refine ⟨_, rfl, _, z.length, rfl, ⟨hsz, rfl⟩, _, _, rfl, rfl, _, rfl, ite2 (fun _ => ?_) (fun _ => ⟨_, rfl, iteF (k false _ s1)⟩)⟩
    refine ⟨_, _, rfl, rfl, _, rfl, ite2 (fun _ => ?_) (fun _ => k false _ s1)⟩
    refine ⟨_, rfl, Nat.zero_le _, fun e he => ?_⟩
    have h2 := (upd_ne (o := .lst []) (ne_of_none h1 he)).trans h1
    have s2 : Same H (upd H1 e (.lst [])) := s1.trans (Same.new he)
    refine ⟨.list (ys.map PyData.str), .list [], .lst (SqL.of h2) (dps_strs _ _ ys), .lst (SqL.of upd_same) .nil, shaped_strs h3, shaped_strs (ys := []) (by simp), _, rfl, ite2 (fun _ => ?_) (fun _ => k false _ s2)⟩
    refine ⟨_, rfl, rfl, fun p H3 hp s3 h4 => ?_⟩
    exact ⟨p, _, rfl, .inl (SqL.of h4), rfl, flat_strs _, k _ _ (s2.trans s3)⟩

end
end K71
end
section
set_option Elab.async false
set_option linter.all false
set_option maxRecDepth 100000
set_option maxHeartbeats 4000000
namespace K71
open PySem PySem.Spec PyProof.Rows L2
open PySem.W (ke_shaped_ints)
local macro_rules | `(tactic| walk_at "go") => `(tactic| first | refine ⟨_, rfl, ?_⟩ | refine .inl ⟨_, rfl, ?_⟩ | refine ⟨_, _, rfl, rfl, (by first | (show (0 : Int) < _; decide) | exact Or.inl ⟨by decide, by decide⟩ | exact Or.inr ⟨by decide, by decide⟩), ?_⟩ | refine ⟨_, _, rfl, rfl, ?_⟩)
section
variable {P : Program} {w : World} {K : PySem.W.Frag} {mg : Str → Option Value} {base : Heap}

theorem join_signs (cs : List Nat) : Txt.join (⟨#[]⟩ : Str) (cs.map fun c => (⟨#[c]⟩ : Str)) = ⟨cs.toArray⟩ := by
  have e := PyProof.Rows.join_nil_signs ⟨cs.toArray⟩
  rw [TL.join_eq]
  exact e
theorem sum_signs : ∀ cs : List Nat, ((cs.map fun c => (⟨#[c]⟩ : Str)).map (·.length)).sum = cs.length
  | [] => rfl
  | c :: r => by
    rw [List.map_cons, List.map_cons, List.sum_cons, sum_signs r, List.length_cons]
    show 1 + r.length = r.length + 1
    omega
theorem low_mk {cs : List Nat} (h : ∀ c ∈ cs, c < 256) : Low ⟨cs.toArray⟩ := h
def letters : Str := ("abcdefghijklmnopqrstuvwxyz" : Str)
theorem letters_len : letters.cps.toList.length = 26 := by decide +kernel
theorem letters_low : Low letters := by
  have h : letters.cps.toList.all (fun c => decide (c < 256)) = true := by decide +kernel
  intro c hc
  exact of_decide_eq_true (List.all_eq_true.mp h c hc)
theorem letter_at {i : Int} (h0 : 0 ≤ i) (h1 : i < 26) : ∃ c, atI letters.cps.toList i = some c ∧ c < 256 := by
  have hj : i.toNat < letters.cps.toList.length := by rw [letters_len]; omega
  refine ⟨letters.cps.toList[i.toNat], ?_, letters_low _ (List.getElem_mem hj)⟩
  have h := atI_nat (xs := letters.cps.toList) (List.getElem?_eq_getElem hj)
  rwa [show ((i.toNat : Nat) : Int) = i by omega] at h
theorem pick6 {d : Int} {j : Nat} {v : V} (h0 : 0 ≤ d) (h1 : d < 12) (h : ([.int 0, .int 0, .int 1, .int 2, .int 11, .int d] : List V)[j]? = some v) : ∃ i : Int, v = .int i ∧ 0 ≤ i ∧ i ≤ 11 := by
  have hm := List.mem_of_getElem? h
  simp only [List.mem_cons, List.not_mem_nil, or_false] at hm
  rcases hm with rfl | rfl | rfl | rfl | rfl | rfl
  · exact ⟨0, rfl, by decide, by decide⟩
  · exact ⟨0, rfl, by decide, by decide⟩
  · exact ⟨1, rfl, by decide, by decide⟩
  · exact ⟨2, rfl, by decide, by decide⟩
  · exact ⟨11, rfl, by decide, by decide⟩
  · exact ⟨d, rfl, h0, by omega⟩
/-- new_words(pen, 1): a list of one text -/
def spNewWords : Sp := fun vs H Q _ => ∃ (p l : Addr) (t : Int), vs = [.ref p, .int 1] ∧ Pen H p l t ∧ t ≤ 1000000 ∧
  ∀ (r : Addr) (z : Str) (H' : Hp) (t' : Int), H r = none → z.length ≤ 100 → Low z → H' r = some (.lst [.str z]) → Pen H' p l t' → t ≤ t' → t' ≤ t + 20 → But p H H' → Q (.ref r) H'
abbrev s_new_words : Stmt := topS 27
theorem sc_new_words : FnScope ["pen", "many", "letters", "found", "k", "size", "word", "pairs", "j", "sign", "pair"] ["pen", "many"] (defScope s_new_words) := ⟨rfl, rfl, rfl, by decide +kernel, rfl, by decide +kernel, by decide +kernel⟩
theorem ok_new_words (T : Txt mg) (D : Def K mg "_law_new_words" s_new_words) (C__law_draw : Cal P w K mg base 1 "_law_draw" ["pen", "span"] spDraw) (C__law_pick : Cal P w K mg base 2 "_law_pick" ["pen", "options"] (spPick K)) (C__law_is_name : Cal P w K mg base 2 "_law_is_name" ["word"] spIsName) : Cal P w K mg base 3 "_law_new_words" ["pen", "many"] spNewWords := by
  refine D.cal sc_new_words (fun vs H Q E h => ?_) (fun _ _ _ _ _ _ us hl => match us, hl with | [_, _], _ => rfl) (fun f cdv A outer s H vs Q E hr h => ?_)
  · obtain ⟨p, l, t, rfl, _⟩ := h
    rfl

  obtain ⟨p, l, t, rfl, pen, ht, k⟩ := h
  have hpl := pen.ne
  obtain ⟨op, hop⟩ := pen.at_
  refine ⟨_, (pss_cons (ps_asg (pe_tup (pa_cons pe_str (pa_cons (pe_lst pa_nil) pa_nil))) (pg_tup rfl (pgs_cons (pg_name (i := 2) sc_new_words.nd rfl (by first | exact Or.inl rfl | exact Or.inr rfl)) (pgs_cons (pg_name (i := 3) sc_new_words.nd rfl (by first | exact Or.inl rfl | exact Or.inr rfl)) pgs_nil))))
      (pss_cons (ps_for PassesOwn.never rfl (pi_range1 rfl T.f_range (pa_cons (pv 1) pa_nil)) (pg_name (i := 4) sc_new_words.nd rfl (by first | exact Or.inl rfl | exact Or.inr rfl)) (pss_cons (ps_set (i := 5) sc_new_words.nd rfl (by first | exact Or.inl rfl | exact Or.inr rfl) (pe_op op_add pe_int (pe_cal C__law_pick (hr.mono (by decide)) rfl (pa_cons (pv 0) (pa_cons (pe_lst (pa_cons pe_int (pa_cons pe_int (pa_cons pe_int (pa_cons pe_int (pa_cons pe_int (pa_cons (pe_cal C__law_draw (hr.mono (by decide)) rfl (pa_cons (pv 0) (pa_cons pe_int pa_nil))) pa_nil))))))) pa_nil)))))
      (pss_cons (ps_set (i := 6) sc_new_words.nd rfl (by first | exact Or.inl rfl | exact Or.inr rfl) (pe_join pe_str (pe_lc (own := [("j", 8)]) (g := gName 8) (tt := tYes) rfl sc_new_words.nd (pi_range1 rfl T.f_range (pa_cons (pv 5) pa_nil)) (blkOk_by (N := ["pen", "many", "letters", "found", "k", "size", "word", "pairs", "j", "sign", "pair"]) (sc := defScope s_new_words) (by decide +kernel)) (fun _ _ _ _ _ => pg_name (i := 8) sc_new_words.nd rfl (Or.inl rfl)) (fun _ _ _ _ _ => pts_nil) (fun _ _ _ _ _ => (pe_ix ix_str (pv 2) (pe_cal C__law_draw (hr.mono (by decide)) rfl (pa_cons (pv 0) (pa_cons pe_int pa_nil))) (fun _ _ => rfl))))))
      (C8.pss_cut (ps_if (PW.pt (pw_or (pt_not (pt_val (pe_cal C__law_is_name (hr.mono (by decide)) rfl (pa_cons (pv 6) pa_nil)))) (pw_or1 (pt_cmpR op_in_seq (pv 6) (pv 3) (by rfl))))) (pss_cons (ps_setLc (i := 7) (own := [("sign", 9)]) (g := gName 9) (tt := tYes) rfl sc_new_words.nd rfl rfl (sw_true rfl rfl rfl (by decide +kernel)) (pi_str (pv 2)) (blkOk_by (N := ["pen", "many", "letters", "found", "k", "size", "word", "pairs", "j", "sign", "pair"]) (sc := defScope s_new_words) (by decide +kernel)) (fun _ _ _ _ _ => pg_name (i := 9) sc_new_words.nd rfl (Or.inl rfl)) (fun _ _ _ _ _ => pts_nil) (fun _ _ _ _ _ => (pe_op op_add_str (pv 9) (pv 9))))
      (pss_one (ps_set (i := 6) sc_new_words.nd rfl (by first | exact Or.inl rfl | exact Or.inr rfl) (pe_ix ix_list (pe_lc (own := [("pair", 10)]) (g := gName 10) (tt := tTest (tOp (rIn K true) (tVar 10) (tVar 3))) rfl sc_new_words.nd (pi_list (pv 7)) (blkOk_by (N := ["pen", "many", "letters", "found", "k", "size", "word", "pairs", "j", "sign", "pair"]) (sc := defScope s_new_words) (by decide +kernel)) (fun _ _ _ _ _ => pg_name (i := 10) sc_new_words.nd rfl (Or.inl rfl)) (fun _ _ _ _ _ => (pts_one (pt_cmpR op_notIn_seq (pv 10) (pv 3) (by rfl)))) (fun _ _ _ _ _ => (pv 10))) pe_int (fun _ _ => rfl))))) pss_nil)
      (pss_one (ps_expr (pe_bm PySem.F.plainAttrs_list PySem.F.slot_list_append PySem.F.type_list_append mt_append (pv 3) (pa_cons (pv 6) pa_nil))))))))
      (pss_one (ps_ret (pv 3))))), ?_⟩
  -- letters, found = (.., [])
  refine ⟨Nat.zero_le _, fun f hf => ⟨by show 2 ≤ sizeLine; decide, fun tp htp => ⟨tp, _, rfl, SqT.of upd_same, rfl, _, _, rfl, _, _, rfl, rfl, ?_⟩⟩⟩
  have hfp : f ≠ p := fun z => by rw [z, hop] at hf; cases hf
  have hftp : f ≠ tp := fun z => by rw [← z, upd_same] at htp; cases htp
  have hfl : f ≠ l := fun z => by
    obtain ⟨ns, lf, g1, g2, _⟩ := pen.ex
    rw [z, g2] at hf
    cases hf
  have pen0 : Pen (upd (upd H f (.lst [])) tp (.tup [.str letters, .ref f])) p l t := (pen.new hf).new htp
  have b0 : But p H (upd (upd H f (.lst [])) tp (.tup [.str letters, .ref f])) := But.of ((Same.new hf).trans (Same.new htp))
  have hf0 : (upd (upd H f (.lst [])) tp (.tup [.str letters, .ref f])) f = some (.lst []) := (upd_ne hftp).trans upd_same
  refine ⟨_, rfl, 1, rfl, by decide, by decide, for_range (n := 1) (fun i σ H1 => ∃ (v4 v5 v6 v7 v8 v9 v10 : Option V) (zs : List Str) (t1 : Int), σ = [some (.ref p), some (.int 1), some (.str letters), some (.ref f), v4, v5, v6, v7, v8, v9, v10] ∧ H1 f = some (.lst (zs.map V.str)) ∧ zs.length = i ∧ (∀ z ∈ zs, z.length ≤ 100 ∧ Low z) ∧
      Pen H1 p l t1 ∧ t ≤ t1 ∧ t1 ≤ t + 20 * i ∧ But p H H1)
    ⟨none, none, none, none, none, none, none, [], t, rfl, hf0, rfl, by simp, pen0, Int.le_refl _, by omega, b0⟩ ?_ ?_⟩
  · rintro i σ H1 hi ⟨v4, v5, v6, v7, v8, v9, v10, zs, t1, rfl, hf1, hzs, hz, pen1, g1, g2, b1⟩
    have hi0 : i = 0 := by omega
    subst hi0
    obtain rfl : zs = [] := List.length_eq_zero_iff.mp hzs
    -- size = 1 + pick(..)
    refine ⟨_, rfl, _, rfl, p, l, t1, 12, rfl, pen1, by omega, by decide, by decide, fun d H2 t2 d0 d1 pen2 g3 g4 b2 => ⟨by show 6 ≤ sizeLine; decide, fun q hq => ?_⟩⟩
    obtain ⟨o2, ho2⟩ := pen2.at_
    have hqp : q ≠ p := fun z => by rw [z, ho2] at hq; cases hq
    have hf2 : (upd H2 q (.lst [.int 0, .int 0, .int 1, .int 2, .int 11, .int d])) f = some (.lst []) := (Same.new hq) _ _ (b2 f _ hfp hf1)
    refine ⟨p, l, q, t2, _, rfl, pen2.new hq, by omega, hqp, .inl (SqL.of upd_same), by show 0 < 6; decide, by show 6 ≤ 1000000; decide, fun j v H3 t3 hv pen3 g5 g6 b3 => ?_⟩
    obtain ⟨i, rfl, i0, i1⟩ := pick6 d0 d1 hv
    have hf3 := b3 f _ hfp hf2
    have b13 : But p H1 H3 := (b2.trans (But.of (Same.new hq))).trans b3
    refine ⟨_, _, rfl, rfl, ?_⟩
    -- word = ''.join(..)
    refine ⟨⟨_, rfl⟩, _, rfl, 1 + i, rfl, by omega, by omega, fun Dl hD => lc_it walk_range (fun m H4 => ∃ (cs : List Nat) (t4 : Int), H4 Dl = some (.lst ((cs.map fun c => (⟨#[c]⟩ : Str)).map V.str)) ∧ cs.length = m ∧ (∀ c ∈ cs, c < 256) ∧ Pen H4 p l t4 ∧ t3 ≤ t4 ∧ t4 ≤ t3 + m ∧ But p H3 H4)
      ⟨[], t3, upd_same, rfl, by simp, pen3.new hD, Int.le_refl _, by omega, But.of (Same.new hD)⟩ (fun _ _ _ _ => True.intro) ?_ ?_⟩
    · rintro m x H4 H5 hm ⟨cs, t4, hd4, hc, low, pen4, g7, g8, b4⟩ ⟨rfl, rfl⟩
      obtain ⟨o3, ho3⟩ := pen3.at_
      have hDp : Dl ≠ p := fun z => by rw [z, ho3] at hD; cases hD
      have hDl : Dl ≠ l := fun z => by
        obtain ⟨ns, lf, e1, e2, _⟩ := pen3.ex
        rw [z, e2] at hD
        cases hD
      refine ⟨rfl, _, rfl, _, rfl, p, l, t4, 26, rfl, pen4, by omega, by decide, by decide, fun c H6 t6 c0 c1 pen6 g9 g10 b6 => ?_⟩
      obtain ⟨s, hs, hs2⟩ := letter_at c0 c1
      refine ⟨letters, c, s, rfl, rfl, by show 26 ≤ sizeLine; decide, hs, _, b6 Dl _ hDp hd4, ?_, cs ++ [s], t6, ?_, ?_, ?_, pen6.put hDp hDl, by omega, by omega, ?_⟩
      · rw [List.length_map, List.length_map, sizeLine_eq]
        omega
      · rw [List.map_append, List.map_append]
        exact upd_same
      · rw [List.length_append, hc]
        rfl
      · intro y hy
        rcases List.mem_append.mp hy with h | h
        · exact low y h
        · rw [List.mem_singleton.mp h]
          exact hs2
      · exact (b4.trans b6).put hD
    · rintro H4 ⟨cs, t4, hd4, hc, low, pen4, g7, g8, b4⟩
      refine ⟨_, Dl, _, rfl, rfl, .inl (SqL.of hd4), ?_, ?_⟩
      · rw [sum_signs, List.length_map]
        show cs.length + cs.length * 0 ≤ 16777216
        omega
      rw [show (("" : String) : Str) = ⟨#[]⟩ from rfl, join_signs]
      have hf4 := b4 f _ hfp hf3
      have zl : (⟨cs.toArray⟩ : Str).length ≤ 100 := by
        show cs.toArray.size ≤ 100
        rw [List.size_toArray]
        omega
      have lowz : Low ⟨cs.toArray⟩ := low
      generalize (⟨cs.toArray⟩ : Str) = z at zl lowz
      -- if not is_name(word) or word in found
      refine ⟨fun σ' H' => ∃ (v7 v8 v9 v10 : Option V) (z' : Str), σ' = [some (.ref p), some (.int 1), some (.str letters), some (.ref f), some (.int (0 + ((0 : Nat) : Int))), some (.int (1 + i)), some (.str z'), v7, v8, v9, v10] ∧ z'.length ≤ 100 ∧ Low z' ∧ H' f = some (.lst []) ∧ Pen H' p l t4 ∧ But p H1 H', ?_, ?_⟩
      · refine ⟨_, rfl, z, rfl, by omega, lowz, fun b H5 s5 => ⟨b, rfl, ?_⟩⟩
        have hf5 := s5 f _ hf4
        have b5 : But p H1 H5 := (b13.trans b4).trans (But.of s5)
        cases b with
        | true =>
          refine iteF ?_
          refine ⟨_, rfl, _, rfl, f, _, rfl, .inl (SqL.of hf5), rfl, rfl, _, rfl, iteF ?_⟩
          exact ⟨_, _, _, _, z, rfl, zl, lowz, hf5, pen4.same s5, b5⟩
        | false =>
          refine iteT (iteT ?_)
          -- pairs = [..]
          refine ⟨_, rfl, letters, rfl, fun D2 hD2 => lc_it walk_str (fun m H' => Same H5 H' ∧ ∃ ys : List Str, H' D2 = some (.lst (ys.map V.str)) ∧ ys.length = m ∧ ∀ y ∈ ys, y.length ≤ 100 ∧ Low y)
            ⟨Same.new hD2, [], upd_same, rfl, by simp⟩ (fun _ _ _ _ => True.intro) ?_ ?_⟩
          · rintro m x H6 H7 hm ⟨s6, ys, h1, h2, h3⟩ ⟨rfl, c, hc, rfl⟩
            have hm26 : m < 26 := by
              have e : letters.cps.size = 26 := letters_len
              omega
            refine ⟨rfl, _, rfl, _, rfl, _, _, rfl, rfl, by show 1 + 1 ≤ sizeLine; decide, _, h1, ?_, s6.put hD2, ys ++ [(⟨#[c]⟩ : Str) ++ ⟨#[c]⟩], ?_, ?_, ?_⟩
            · rw [List.length_map, sizeLine_eq]
              omega
            · rw [List.map_append]
              exact upd_same
            · rw [List.length_append, h2]
              rfl
            · intro y hy
              rcases List.mem_append.mp hy with h | h
              · exact h3 y h
              · rw [List.mem_singleton.mp h]
                refine ⟨by rw [len_app]; show 1 + 1 ≤ 100; decide, fun e he => ?_⟩
                have he2 : e ∈ ([c, c] : List Nat) := by
                  have z2 : ((⟨#[c]⟩ : Str) ++ ⟨#[c]⟩).cps.toList = [c, c] := TL.tl_append ⟨#[c]⟩ ⟨#[c]⟩
                  rw [← z2]
                  exact he
                have hcl : c < 256 := letters_low c (by rw [← Array.getElem?_toList] at hc; exact List.mem_of_getElem? hc)
                simp at he2
                rw [he2]
                exact hcl
          · rintro H6 ⟨s6, ys, h1, h2, h3⟩
            have e26 : letters.cps.size = 26 := letters_len
            have hf6 := s6 f _ hf5
            refine ⟨_, rfl, D2, rfl, ⟨_, SqL.of h1⟩, fun D3 hD3 => lc_it walk_list (fun m H' => Same H6 H' ∧ H' D3 = some (.lst ((ys.map V.str).take m)))
              ⟨Same.new hD3, upd_same⟩ (fun m H' _ z => SqL.of (z.1 _ _ h1)) ?_ ?_⟩
            · rintro m x H7 H8 hm ⟨s7, h7⟩ ⟨rfl, hx⟩
              obtain ⟨y, hy, rfl⟩ : ∃ y, ys[m]? = some y ∧ V.str y = x := by
                rw [List.getElem?_map] at hx
                exact Option.map_eq_some_iff.mp hx
              refine ⟨rfl, _, rfl, _, rfl, f, _, rfl, .inl (SqL.of (s7 f _ hf6)), rfl, rfl, _, rfl, iteT ⟨_, rfl, _, h7, ?_, s7.put hD3, ?_⟩⟩
              · rw [List.length_take, List.length_map, sizeLine_eq]
                omega
              · rw [List.take_add_one, hx]
                exact upd_same
            · rintro H7 ⟨s7, h7⟩
              rw [List.take_length] at h7
              have hpos : 0 < ys.length := by omega
              have h0 : (ys.map V.str)[0]? = some (V.str ys[0]) := by rw [List.getElem?_map, List.getElem?_eq_getElem hpos]; rfl
              obtain ⟨a1, a2⟩ := h3 ys[0] (List.getElem_mem hpos)
              refine ⟨D3, _, 0, _, rfl, rfl, SqL.of h7, at_of (j := 0) rfl h0, ?_⟩
              exact ⟨_, _, _, _, ys[0], rfl, a1, a2, s7 f _ hf6, (pen4.same s5).same (s6.trans s7), b5.trans (But.of (s6.trans s7))⟩
      · rintro σ' H6 ⟨w7, w8, w9, w10, z', rfl, zl', lowz', hf6, pen6, b6⟩
        refine ⟨_, rfl, .inl ⟨rfl, _, SqL.of hf6⟩, _, rfl, f, _, _, rfl, rfl, hf6, by decide, ?_⟩
        exact ⟨_, _, _, _, _, _, _, [z'], t4, rfl, upd_same, rfl, fun y hy => by rw [List.mem_singleton.mp hy]; exact ⟨zl', lowz'⟩, pen6.put hfp hfl, by omega, by omega, (b1.trans b6).put hf⟩
  · rintro σ H1 ⟨v4, v5, v6, v7, v8, v9, v10, zs, t1, rfl, hf1, hzs, hz, pen1, g1, g2, b1⟩
    obtain ⟨z, rfl⟩ := List.length_eq_one_iff.mp hzs
    obtain ⟨a1, a2⟩ := hz z (List.mem_singleton.mpr rfl)
    exact ⟨_, rfl, k f z H1 t1 hf a1 a2 hf1 pen1 g1 (by omega) b1⟩

end
end K71
end
section
set_option Elab.async false
set_option linter.all false
set_option maxRecDepth 100000
set_option maxHeartbeats 4000000
namespace K71
open PySem PySem.Spec PyProof.Rows L2
local macro_rules | `(tactic| walk_at "go") => `(tactic| first | refine ⟨_, rfl, ?_⟩ | refine .inl ⟨_, rfl, ?_⟩ | refine ⟨_, _, rfl, rfl, (by first | (show (0 : Int) < _; decide) | exact Or.inl ⟨by decide, by decide⟩ | exact Or.inr ⟨by decide, by decide⟩), ?_⟩ | refine ⟨_, _, rfl, rfl, ?_⟩)
section
variable {P : Program} {w : World} {K : PySem.W.Frag} {mg : Str → Option Value} {base : Heap}

theorem fit2 {x y : Str} {a b : Nat} (hx : x.length ≤ a) (hy : y.length ≤ b) : (x ++ y).length ≤ a + b := by
  rw [len_app]
  omega
theorem fit_line {x : Str} {a : Nat} (h : x.length ≤ a) (ha : a ≤ 1000000) : x.length ≤ sizeLine := by
  rw [sizeLine_eq]
  omega
/-- what a field's value must be, so that the error's text can be written -/
def okI (x : V) (_ : Hp) : Prop := ∃ i : Int, x = .int i ∧ i.natAbs.log2 < 1920
def okS (x : V) (_ : Hp) : Prop := ∃ y : Str, x = .str y ∧ y.length ≤ 200
def okT (K : PySem.W.Frag) (x : V) (H : Hp) : Prop := ∃ (q : Addr) (l : List Int), x = .ref q ∧ SqT K H q (l.map V.int) ∧ (∀ i ∈ l, i.natAbs.log2 < 1920) ∧ l.length ≤ 100
/-- C.__init__(self, x): the field f is kept -/
def spIni (C : Addr) (f : Str) (ok : V → Hp → Prop) : Sp := fun vs H Q _ => ∃ (a : Addr) (x : V), vs = [.ref a, x] ∧ H a = some (exo a C none) ∧ ok x H ∧ ∀ dx, H dx = none → dx ≠ a → Q .non (upd (upd H dx (exd dx [(f, x)])) a (exo a C (some dx)))
def spIni0 (C : Addr) : Sp := fun vs H Q _ => ∃ a : Addr, vs = [.ref a] ∧ H a = some (exo a C none) ∧ Q .non H
/-- the base of the errors, as the top has made it -/
structure TxtE (K : PySem.W.Frag) (mg : Str → Option Value) (B : Addr) : Prop where
  f_tuple : mg "tuple" = none
  g_PartlyError : mg "PartlyError" = some (.ref B)
  r_PartlyError : ClX.CRead K B (.type "type")
  i_PartlyError : PySem.W.findCls K (.ref B) (.type "type") "__init__" = some (.val (.builtin "ValueError.__init__"))

abbrev s_BadPointers : Stmt := inClass (topS 2) 0
theorem sc_BadPointers : FnScope ["self", "index"] ["self", "index"] (defScope s_BadPointers) := ⟨rfl, rfl, rfl, by decide +kernel, rfl, by decide +kernel, by decide +kernel⟩
theorem ok_BadPointers {B C f : Addr} {fd : FuncData} (T : TxtE K mg B) (F : FunD K "__init__" "BadPointers.__init__" (defArgs s_BadPointers) (defBody s_BadPointers) (defScope s_BadPointers) [] [] f fd) (O : OexC K C) (hno : PySem.W.findIn K (.ref C) "index" = some none) : FnOk P w K mg base CX0 1 f fd ["self", "index"] (spIni C "index" okI) := by
  refine F.ok sc_BadPointers (fun vs H Q E h => by obtain ⟨a, x, rfl, _⟩ := h; rfl) (fun cdv A outer s H vs Q E hr h => ?_)
  suffices z : ∃ t, PSs (cxOf CX0 P w K mg base ["self", "index"] "BadPointers.__init__" (defScope s_BadPointers) f cdv A outer s H E).nox (defBody s_BadPointers) t ∧ t { nx := fun _ H' => Q .non H', rt := Q } (start ["self", "index"] vs) H by
    obtain ⟨t, h1, h2⟩ := z
    exact ⟨t, h1.nox, h2⟩

  obtain ⟨a, x, rfl, ha, ⟨i, rfl, hi⟩, k⟩ := h
  refine ⟨_, (pss_cons (ps_expr (pe_binit (by rfl) T.g_PartlyError T.r_PartlyError T.i_PartlyError (pa_cons (pv 0) (pa_cons (pe_joined (.cons pe_str (.cons (pe_fmt (pv 1)) (.cons pe_str .nil)))) pa_nil))))
      (pss_one (ps_ost (pv 0) (pv 1)))), ?_⟩
  refine ⟨_, rfl, _, rfl, fit_line (a := 1000) (by decide +kernel) (by decide), _, rfl, .inr ⟨i, rfl, hi, _, rfl, fit_line (fit2 (a := 1000) (by decide +kernel) (int_text_len_1921 hi)) (by decide), _, rfl, fit_line (fit2 (fit2 (a := 1000) (by decide +kernel) (int_text_len_1921 hi)) (b := 1000) (by decide +kernel)) (by decide), a, C, _, rfl, (by show 1 ≤ 1000; decide), O, ha, ?_⟩⟩
  exact ⟨_, rfl, _, rfl, a, C, rfl, O, hno, .inl ⟨ha, k⟩⟩

abbrev s_BadContract : Stmt := inClass (topS 3) 0
theorem sc_BadContract : FnScope ["self", "line"] ["self", "line"] (defScope s_BadContract) := ⟨rfl, rfl, rfl, by decide +kernel, rfl, by decide +kernel, by decide +kernel⟩
theorem ok_BadContract {B C f : Addr} {fd : FuncData} (T : TxtE K mg B) (F : FunD K "__init__" "BadContract.__init__" (defArgs s_BadContract) (defBody s_BadContract) (defScope s_BadContract) [] [] f fd) (O : OexC K C) (hno : PySem.W.findIn K (.ref C) "line" = some none) : FnOk P w K mg base CX0 1 f fd ["self", "line"] (spIni C "line" okI) := by
  refine F.ok sc_BadContract (fun vs H Q E h => by obtain ⟨a, x, rfl, _⟩ := h; rfl) (fun cdv A outer s H vs Q E hr h => ?_)
  suffices z : ∃ t, PSs (cxOf CX0 P w K mg base ["self", "line"] "BadContract.__init__" (defScope s_BadContract) f cdv A outer s H E).nox (defBody s_BadContract) t ∧ t { nx := fun _ H' => Q .non H', rt := Q } (start ["self", "line"] vs) H by
    obtain ⟨t, h1, h2⟩ := z
    exact ⟨t, h1.nox, h2⟩

  obtain ⟨a, x, rfl, ha, ⟨i, rfl, hi⟩, k⟩ := h
  refine ⟨_, (pss_cons (ps_expr (pe_binit (by rfl) T.g_PartlyError T.r_PartlyError T.i_PartlyError (pa_cons (pv 0) (pa_cons (pe_joined (.cons pe_str (.cons (pe_fmt (pv 1)) (.cons pe_str .nil)))) pa_nil))))
      (pss_one (ps_ost (pv 0) (pv 1)))), ?_⟩
  refine ⟨_, rfl, _, rfl, fit_line (a := 1000) (by decide +kernel) (by decide), _, rfl, .inr ⟨i, rfl, hi, _, rfl, fit_line (fit2 (a := 1000) (by decide +kernel) (int_text_len_1921 hi)) (by decide), _, rfl, fit_line (fit2 (fit2 (a := 1000) (by decide +kernel) (int_text_len_1921 hi)) (b := 1000) (by decide +kernel)) (by decide), a, C, _, rfl, (by show 1 ≤ 1000; decide), O, ha, ?_⟩⟩
  exact ⟨_, rfl, _, rfl, a, C, rfl, O, hno, .inl ⟨ha, k⟩⟩

abbrev s_BadProgram : Stmt := inClass (topS 4) 0
theorem sc_BadProgram : FnScope ["self", "line"] ["self", "line"] (defScope s_BadProgram) := ⟨rfl, rfl, rfl, by decide +kernel, rfl, by decide +kernel, by decide +kernel⟩
theorem ok_BadProgram {B C f : Addr} {fd : FuncData} (T : TxtE K mg B) (F : FunD K "__init__" "BadProgram.__init__" (defArgs s_BadProgram) (defBody s_BadProgram) (defScope s_BadProgram) [] [] f fd) (O : OexC K C) (hno : PySem.W.findIn K (.ref C) "line" = some none) : FnOk P w K mg base CX0 1 f fd ["self", "line"] (spIni C "line" okI) := by
  refine F.ok sc_BadProgram (fun vs H Q E h => by obtain ⟨a, x, rfl, _⟩ := h; rfl) (fun cdv A outer s H vs Q E hr h => ?_)
  suffices z : ∃ t, PSs (cxOf CX0 P w K mg base ["self", "line"] "BadProgram.__init__" (defScope s_BadProgram) f cdv A outer s H E).nox (defBody s_BadProgram) t ∧ t { nx := fun _ H' => Q .non H', rt := Q } (start ["self", "line"] vs) H by
    obtain ⟨t, h1, h2⟩ := z
    exact ⟨t, h1.nox, h2⟩

  obtain ⟨a, x, rfl, ha, ⟨i, rfl, hi⟩, k⟩ := h
  refine ⟨_, (pss_cons (ps_expr (pe_binit (by rfl) T.g_PartlyError T.r_PartlyError T.i_PartlyError (pa_cons (pv 0) (pa_cons (pe_joined (.cons pe_str (.cons (pe_fmt (pv 1)) (.cons pe_str .nil)))) pa_nil))))
      (pss_one (ps_ost (pv 0) (pv 1)))), ?_⟩
  refine ⟨_, rfl, _, rfl, fit_line (a := 1000) (by decide +kernel) (by decide), _, rfl, .inr ⟨i, rfl, hi, _, rfl, fit_line (fit2 (a := 1000) (by decide +kernel) (int_text_len_1921 hi)) (by decide), _, rfl, fit_line (fit2 (fit2 (a := 1000) (by decide +kernel) (int_text_len_1921 hi)) (b := 1000) (by decide +kernel)) (by decide), a, C, _, rfl, (by show 1 ≤ 1000; decide), O, ha, ?_⟩⟩
  exact ⟨_, rfl, _, rfl, a, C, rfl, O, hno, .inl ⟨ha, k⟩⟩

abbrev s_BadPlaces : Stmt := inClass (topS 5) 0
theorem sc_BadPlaces : FnScope ["self"] ["self"] (defScope s_BadPlaces) := ⟨rfl, rfl, rfl, by decide +kernel, rfl, by decide +kernel, by decide +kernel⟩
theorem ok_BadPlaces {B C f : Addr} {fd : FuncData} (T : TxtE K mg B) (F : FunD K "__init__" "BadPlaces.__init__" (defArgs s_BadPlaces) (defBody s_BadPlaces) (defScope s_BadPlaces) [] [] f fd) (O : OexC K C) : FnOk P w K mg base CX0 1 f fd ["self"] (spIni0 C) := by
  refine F.ok sc_BadPlaces (fun vs H Q E h => by obtain ⟨a, rfl, _⟩ := h; rfl) (fun cdv A outer s H vs Q E hr h => ?_)
  suffices z : ∃ t, PSs (cxOf CX0 P w K mg base ["self"] "BadPlaces.__init__" (defScope s_BadPlaces) f cdv A outer s H E).nox (defBody s_BadPlaces) t ∧ t { nx := fun _ H' => Q .non H', rt := Q } (start ["self"] vs) H by
    obtain ⟨t, h1, h2⟩ := z
    exact ⟨t, h1.nox, h2⟩

  obtain ⟨a, rfl, ha, k⟩ := h
  refine ⟨_, (pss_one (ps_expr (pe_binit (by rfl) T.g_PartlyError T.r_PartlyError T.i_PartlyError (pa_cons (pv 0) (pa_cons pe_str pa_nil))))), ?_⟩
  exact ⟨_, rfl, a, C, _, rfl, by decide, O, ha, k⟩

abbrev s_BadCount : Stmt := inClass (topS 6) 0
theorem sc_BadCount : FnScope ["self", "count"] ["self", "count"] (defScope s_BadCount) := ⟨rfl, rfl, rfl, by decide +kernel, rfl, by decide +kernel, by decide +kernel⟩
theorem ok_BadCount {B C f : Addr} {fd : FuncData} (T : TxtE K mg B) (F : FunD K "__init__" "BadCount.__init__" (defArgs s_BadCount) (defBody s_BadCount) (defScope s_BadCount) [] [] f fd) (O : OexC K C) (hno : PySem.W.findIn K (.ref C) "count" = some none) : FnOk P w K mg base CX0 1 f fd ["self", "count"] (spIni C "count" okI) := by
  refine F.ok sc_BadCount (fun vs H Q E h => by obtain ⟨a, x, rfl, _⟩ := h; rfl) (fun cdv A outer s H vs Q E hr h => ?_)
  suffices z : ∃ t, PSs (cxOf CX0 P w K mg base ["self", "count"] "BadCount.__init__" (defScope s_BadCount) f cdv A outer s H E).nox (defBody s_BadCount) t ∧ t { nx := fun _ H' => Q .non H', rt := Q } (start ["self", "count"] vs) H by
    obtain ⟨t, h1, h2⟩ := z
    exact ⟨t, h1.nox, h2⟩

  obtain ⟨a, x, rfl, ha, ⟨i, rfl, hi⟩, k⟩ := h
  refine ⟨_, (pss_cons (ps_expr (pe_binit (by rfl) T.g_PartlyError T.r_PartlyError T.i_PartlyError (pa_cons (pv 0) (pa_cons (pe_joined (.cons pe_str (.cons (pe_fmt (pv 1)) (.cons pe_str .nil)))) pa_nil))))
      (pss_one (ps_ost (pv 0) (pv 1)))), ?_⟩
  refine ⟨_, rfl, _, rfl, fit_line (a := 1000) (by decide +kernel) (by decide), _, rfl, .inr ⟨i, rfl, hi, _, rfl, fit_line (fit2 (a := 1000) (by decide +kernel) (int_text_len_1921 hi)) (by decide), _, rfl, fit_line (fit2 (fit2 (a := 1000) (by decide +kernel) (int_text_len_1921 hi)) (b := 1000) (by decide +kernel)) (by decide), a, C, _, rfl, (by show 1 ≤ 1000; decide), O, ha, ?_⟩⟩
  exact ⟨_, rfl, _, rfl, a, C, rfl, O, hno, .inl ⟨ha, k⟩⟩

abbrev s_OtherPointers : Stmt := inClass (topS 7) 0
theorem sc_OtherPointers : FnScope ["self"] ["self"] (defScope s_OtherPointers) := ⟨rfl, rfl, rfl, by decide +kernel, rfl, by decide +kernel, by decide +kernel⟩
theorem ok_OtherPointers {B C f : Addr} {fd : FuncData} (T : TxtE K mg B) (F : FunD K "__init__" "OtherPointers.__init__" (defArgs s_OtherPointers) (defBody s_OtherPointers) (defScope s_OtherPointers) [] [] f fd) (O : OexC K C) : FnOk P w K mg base CX0 1 f fd ["self"] (spIni0 C) := by
  refine F.ok sc_OtherPointers (fun vs H Q E h => by obtain ⟨a, rfl, _⟩ := h; rfl) (fun cdv A outer s H vs Q E hr h => ?_)
  suffices z : ∃ t, PSs (cxOf CX0 P w K mg base ["self"] "OtherPointers.__init__" (defScope s_OtherPointers) f cdv A outer s H E).nox (defBody s_OtherPointers) t ∧ t { nx := fun _ H' => Q .non H', rt := Q } (start ["self"] vs) H by
    obtain ⟨t, h1, h2⟩ := z
    exact ⟨t, h1.nox, h2⟩

  obtain ⟨a, rfl, ha, k⟩ := h
  refine ⟨_, (pss_one (ps_expr (pe_binit (by rfl) T.g_PartlyError T.r_PartlyError T.i_PartlyError (pa_cons (pv 0) (pa_cons pe_str pa_nil))))), ?_⟩
  exact ⟨_, rfl, a, C, _, rfl, by decide, O, ha, k⟩

abbrev s_HasRegisters : Stmt := inClass (topS 8) 0
theorem sc_HasRegisters : FnScope ["self"] ["self"] (defScope s_HasRegisters) := ⟨rfl, rfl, rfl, by decide +kernel, rfl, by decide +kernel, by decide +kernel⟩
theorem ok_HasRegisters {B C f : Addr} {fd : FuncData} (T : TxtE K mg B) (F : FunD K "__init__" "HasRegisters.__init__" (defArgs s_HasRegisters) (defBody s_HasRegisters) (defScope s_HasRegisters) [] [] f fd) (O : OexC K C) : FnOk P w K mg base CX0 1 f fd ["self"] (spIni0 C) := by
  refine F.ok sc_HasRegisters (fun vs H Q E h => by obtain ⟨a, rfl, _⟩ := h; rfl) (fun cdv A outer s H vs Q E hr h => ?_)
  suffices z : ∃ t, PSs (cxOf CX0 P w K mg base ["self"] "HasRegisters.__init__" (defScope s_HasRegisters) f cdv A outer s H E).nox (defBody s_HasRegisters) t ∧ t { nx := fun _ H' => Q .non H', rt := Q } (start ["self"] vs) H by
    obtain ⟨t, h1, h2⟩ := z
    exact ⟨t, h1.nox, h2⟩

  obtain ⟨a, rfl, ha, k⟩ := h
  refine ⟨_, (pss_one (ps_expr (pe_binit (by rfl) T.g_PartlyError T.r_PartlyError T.i_PartlyError (pa_cons (pv 0) (pa_cons pe_str pa_nil))))), ?_⟩
  exact ⟨_, rfl, a, C, _, rfl, by decide, O, ha, k⟩

abbrev s_NoLine : Stmt := inClass (topS 9) 0
theorem sc_NoLine : FnScope ["self", "line"] ["self", "line"] (defScope s_NoLine) := ⟨rfl, rfl, rfl, by decide +kernel, rfl, by decide +kernel, by decide +kernel⟩
theorem ok_NoLine {B C f : Addr} {fd : FuncData} (T : TxtE K mg B) (F : FunD K "__init__" "NoLine.__init__" (defArgs s_NoLine) (defBody s_NoLine) (defScope s_NoLine) [] [] f fd) (O : OexC K C) (hno : PySem.W.findIn K (.ref C) "line" = some none) : FnOk P w K mg base CX0 1 f fd ["self", "line"] (spIni C "line" okI) := by
  refine F.ok sc_NoLine (fun vs H Q E h => by obtain ⟨a, x, rfl, _⟩ := h; rfl) (fun cdv A outer s H vs Q E hr h => ?_)
  suffices z : ∃ t, PSs (cxOf CX0 P w K mg base ["self", "line"] "NoLine.__init__" (defScope s_NoLine) f cdv A outer s H E).nox (defBody s_NoLine) t ∧ t { nx := fun _ H' => Q .non H', rt := Q } (start ["self", "line"] vs) H by
    obtain ⟨t, h1, h2⟩ := z
    exact ⟨t, h1.nox, h2⟩

  obtain ⟨a, x, rfl, ha, ⟨i, rfl, hi⟩, k⟩ := h
  refine ⟨_, (pss_cons (ps_expr (pe_binit (by rfl) T.g_PartlyError T.r_PartlyError T.i_PartlyError (pa_cons (pv 0) (pa_cons (pe_joined (.cons pe_str (.cons (pe_fmt (pv 1)) (.cons pe_str .nil)))) pa_nil))))
      (pss_one (ps_ost (pv 0) (pv 1)))), ?_⟩
  refine ⟨_, rfl, _, rfl, fit_line (a := 1000) (by decide +kernel) (by decide), _, rfl, .inr ⟨i, rfl, hi, _, rfl, fit_line (fit2 (a := 1000) (by decide +kernel) (int_text_len_1921 hi)) (by decide), _, rfl, fit_line (fit2 (fit2 (a := 1000) (by decide +kernel) (int_text_len_1921 hi)) (b := 1000) (by decide +kernel)) (by decide), a, C, _, rfl, (by show 1 ≤ 1000; decide), O, ha, ?_⟩⟩
  exact ⟨_, rfl, _, rfl, a, C, rfl, O, hno, .inl ⟨ha, k⟩⟩

abbrev s_NotTwo : Stmt := inClass (topS 10) 0
theorem sc_NotTwo : FnScope ["self"] ["self"] (defScope s_NotTwo) := ⟨rfl, rfl, rfl, by decide +kernel, rfl, by decide +kernel, by decide +kernel⟩
theorem ok_NotTwo {B C f : Addr} {fd : FuncData} (T : TxtE K mg B) (F : FunD K "__init__" "NotTwo.__init__" (defArgs s_NotTwo) (defBody s_NotTwo) (defScope s_NotTwo) [] [] f fd) (O : OexC K C) : FnOk P w K mg base CX0 1 f fd ["self"] (spIni0 C) := by
  refine F.ok sc_NotTwo (fun vs H Q E h => by obtain ⟨a, rfl, _⟩ := h; rfl) (fun cdv A outer s H vs Q E hr h => ?_)
  suffices z : ∃ t, PSs (cxOf CX0 P w K mg base ["self"] "NotTwo.__init__" (defScope s_NotTwo) f cdv A outer s H E).nox (defBody s_NotTwo) t ∧ t { nx := fun _ H' => Q .non H', rt := Q } (start ["self"] vs) H by
    obtain ⟨t, h1, h2⟩ := z
    exact ⟨t, h1.nox, h2⟩

  obtain ⟨a, rfl, ha, k⟩ := h
  refine ⟨_, (pss_one (ps_expr (pe_binit (by rfl) T.g_PartlyError T.r_PartlyError T.i_PartlyError (pa_cons (pv 0) (pa_cons pe_str pa_nil))))), ?_⟩
  exact ⟨_, rfl, a, C, _, rfl, by decide, O, ha, k⟩

abbrev s_TooMany : Stmt := inClass (topS 11) 0
theorem sc_TooMany : FnScope ["self", "limit"] ["self", "limit"] (defScope s_TooMany) := ⟨rfl, rfl, rfl, by decide +kernel, rfl, by decide +kernel, by decide +kernel⟩
theorem ok_TooMany {B C f : Addr} {fd : FuncData} (T : TxtE K mg B) (F : FunD K "__init__" "TooMany.__init__" (defArgs s_TooMany) (defBody s_TooMany) (defScope s_TooMany) [] [] f fd) (O : OexC K C) (hno : PySem.W.findIn K (.ref C) "limit" = some none) : FnOk P w K mg base CX0 1 f fd ["self", "limit"] (spIni C "limit" okI) := by
  refine F.ok sc_TooMany (fun vs H Q E h => by obtain ⟨a, x, rfl, _⟩ := h; rfl) (fun cdv A outer s H vs Q E hr h => ?_)
  suffices z : ∃ t, PSs (cxOf CX0 P w K mg base ["self", "limit"] "TooMany.__init__" (defScope s_TooMany) f cdv A outer s H E).nox (defBody s_TooMany) t ∧ t { nx := fun _ H' => Q .non H', rt := Q } (start ["self", "limit"] vs) H by
    obtain ⟨t, h1, h2⟩ := z
    exact ⟨t, h1.nox, h2⟩

  obtain ⟨a, x, rfl, ha, ⟨i, rfl, hi⟩, k⟩ := h
  refine ⟨_, (pss_cons (ps_expr (pe_binit (by rfl) T.g_PartlyError T.r_PartlyError T.i_PartlyError (pa_cons (pv 0) (pa_cons (pe_joined (.cons pe_str (.cons (pe_fmt (pv 1)) .nil))) pa_nil))))
      (pss_one (ps_ost (pv 0) (pv 1)))), ?_⟩
  refine ⟨_, rfl, _, rfl, fit_line (a := 1000) (by decide +kernel) (by decide), _, rfl, .inr ⟨i, rfl, hi, _, rfl, fit_line (fit2 (a := 1000) (by decide +kernel) (int_text_len_1921 hi)) (by decide), a, C, _, rfl, (by show 1 ≤ 1000; decide), O, ha, ?_⟩⟩
  exact ⟨_, rfl, _, rfl, a, C, rfl, O, hno, .inl ⟨ha, k⟩⟩

abbrev s_Stuck : Stmt := inClass (topS 12) 0
theorem sc_Stuck : FnScope ["self", "places"] ["self", "places"] (defScope s_Stuck) := ⟨rfl, rfl, rfl, by decide +kernel, rfl, by decide +kernel, by decide +kernel⟩
theorem ok_Stuck {B C f : Addr} {fd : FuncData} (T : TxtE K mg B) (F : FunD K "__init__" "Stuck.__init__" (defArgs s_Stuck) (defBody s_Stuck) (defScope s_Stuck) [] [] f fd) (O : OexC K C) (hno : PySem.W.findIn K (.ref C) "places" = some none) : FnOk P w K mg base CX0 1 f fd ["self", "places"] (spIni C "places" (okT K)) := by
  refine F.ok sc_Stuck (fun vs H Q E h => by obtain ⟨a, x, rfl, _⟩ := h; rfl) (fun cdv A outer s H vs Q E hr h => ?_)
  suffices z : ∃ t, PSs (cxOf CX0 P w K mg base ["self", "places"] "Stuck.__init__" (defScope s_Stuck) f cdv A outer s H E).nox (defBody s_Stuck) t ∧ t { nx := fun _ H' => Q .non H', rt := Q } (start ["self", "places"] vs) H by
    obtain ⟨t, h1, h2⟩ := z
    exact ⟨t, h1.nox, h2⟩

  obtain ⟨a, x, rfl, ha, ⟨q, l, rfl, hT, hi, hl⟩, k⟩ := h
  refine ⟨_, (pss_cons (ps_expr (pe_binit (by rfl) T.g_PartlyError T.r_PartlyError T.i_PartlyError (pa_cons (pv 0) (pa_cons (pe_joined (.cons pe_str (.cons (pe_fmtI hr (pv 1)) .nil))) pa_nil))))
      (pss_one (ps_ost (pv 0) (pe_callTy call_tuple_of (by rfl) T.f_tuple (by decide +kernel) (pa_cons (pv 1) pa_nil))))), ?_⟩
  refine ⟨_, rfl, _, rfl, fit_line (a := 1000) (by decide +kernel) (by decide), _, rfl, q, l, rfl, hT, hi, hl, fun m hm => ⟨_, rfl, fit_line (fit2 (a := 1000) (by decide +kernel) hm) (by decide), a, C, _, rfl, (by show 1 ≤ 1000; decide), O, ha, ?_⟩⟩
  exact ⟨_, rfl, q, _, rfl, .inr ⟨hT, _, rfl, a, C, rfl, O, hno, .inl ⟨ha, k⟩⟩⟩

abbrev s_BadName : Stmt := inClass (topS 13) 0
theorem sc_BadName : FnScope ["self", "name"] ["self", "name"] (defScope s_BadName) := ⟨rfl, rfl, rfl, by decide +kernel, rfl, by decide +kernel, by decide +kernel⟩
theorem ok_BadName {B C f : Addr} {fd : FuncData} (T : TxtE K mg B) (F : FunD K "__init__" "BadName.__init__" (defArgs s_BadName) (defBody s_BadName) (defScope s_BadName) [] [] f fd) (O : OexC K C) (hno : PySem.W.findIn K (.ref C) "name" = some none) : FnOk P w K mg base CX0 1 f fd ["self", "name"] (spIni C "name" okS) := by
  refine F.ok sc_BadName (fun vs H Q E h => by obtain ⟨a, x, rfl, _⟩ := h; rfl) (fun cdv A outer s H vs Q E hr h => ?_)
  suffices z : ∃ t, PSs (cxOf CX0 P w K mg base ["self", "name"] "BadName.__init__" (defScope s_BadName) f cdv A outer s H E).nox (defBody s_BadName) t ∧ t { nx := fun _ H' => Q .non H', rt := Q } (start ["self", "name"] vs) H by
    obtain ⟨t, h1, h2⟩ := z
    exact ⟨t, h1.nox, h2⟩

  obtain ⟨a, x, rfl, ha, ⟨y, rfl, hy⟩, k⟩ := h
  refine ⟨_, (pss_cons (ps_expr (pe_binit (by rfl) T.g_PartlyError T.r_PartlyError T.i_PartlyError (pa_cons (pv 0) (pa_cons (pe_joined (.cons pe_str (.cons (pe_fmt (pv 1)) .nil))) pa_nil))))
      (pss_one (ps_ost (pv 0) (pv 1)))), ?_⟩
  refine ⟨_, rfl, _, rfl, fit_line (a := 1000) (by decide +kernel) (by decide), _, rfl, .inl ⟨y, rfl, fit_line hy (by decide), _, rfl, fit_line (fit2 (a := 1000) (by decide +kernel) hy) (by decide), a, C, _, rfl, (by show 1 ≤ 1000; decide), O, ha, ?_⟩⟩
  exact ⟨_, rfl, _, rfl, a, C, rfl, O, hno, .inl ⟨ha, k⟩⟩

abbrev s_Taken : Stmt := inClass (topS 14) 0
theorem sc_Taken : FnScope ["self", "name"] ["self", "name"] (defScope s_Taken) := ⟨rfl, rfl, rfl, by decide +kernel, rfl, by decide +kernel, by decide +kernel⟩
theorem ok_Taken {B C f : Addr} {fd : FuncData} (T : TxtE K mg B) (F : FunD K "__init__" "Taken.__init__" (defArgs s_Taken) (defBody s_Taken) (defScope s_Taken) [] [] f fd) (O : OexC K C) (hno : PySem.W.findIn K (.ref C) "name" = some none) : FnOk P w K mg base CX0 1 f fd ["self", "name"] (spIni C "name" okS) := by
  refine F.ok sc_Taken (fun vs H Q E h => by obtain ⟨a, x, rfl, _⟩ := h; rfl) (fun cdv A outer s H vs Q E hr h => ?_)
  suffices z : ∃ t, PSs (cxOf CX0 P w K mg base ["self", "name"] "Taken.__init__" (defScope s_Taken) f cdv A outer s H E).nox (defBody s_Taken) t ∧ t { nx := fun _ H' => Q .non H', rt := Q } (start ["self", "name"] vs) H by
    obtain ⟨t, h1, h2⟩ := z
    exact ⟨t, h1.nox, h2⟩

  obtain ⟨a, x, rfl, ha, ⟨y, rfl, hy⟩, k⟩ := h
  refine ⟨_, (pss_cons (ps_expr (pe_binit (by rfl) T.g_PartlyError T.r_PartlyError T.i_PartlyError (pa_cons (pv 0) (pa_cons (pe_joined (.cons pe_str (.cons (pe_fmt (pv 1)) .nil))) pa_nil))))
      (pss_one (ps_ost (pv 0) (pv 1)))), ?_⟩
  refine ⟨_, rfl, _, rfl, fit_line (a := 1000) (by decide +kernel) (by decide), _, rfl, .inl ⟨y, rfl, fit_line hy (by decide), _, rfl, fit_line (fit2 (a := 1000) (by decide +kernel) hy) (by decide), a, C, _, rfl, (by show 1 ≤ 1000; decide), O, ha, ?_⟩⟩
  exact ⟨_, rfl, _, rfl, a, C, rfl, O, hno, .inl ⟨ha, k⟩⟩

abbrev s_NoFunction : Stmt := inClass (topS 15) 0
theorem sc_NoFunction : FnScope ["self", "name"] ["self", "name"] (defScope s_NoFunction) := ⟨rfl, rfl, rfl, by decide +kernel, rfl, by decide +kernel, by decide +kernel⟩
theorem ok_NoFunction {B C f : Addr} {fd : FuncData} (T : TxtE K mg B) (F : FunD K "__init__" "NoFunction.__init__" (defArgs s_NoFunction) (defBody s_NoFunction) (defScope s_NoFunction) [] [] f fd) (O : OexC K C) (hno : PySem.W.findIn K (.ref C) "name" = some none) : FnOk P w K mg base CX0 1 f fd ["self", "name"] (spIni C "name" okS) := by
  refine F.ok sc_NoFunction (fun vs H Q E h => by obtain ⟨a, x, rfl, _⟩ := h; rfl) (fun cdv A outer s H vs Q E hr h => ?_)
  suffices z : ∃ t, PSs (cxOf CX0 P w K mg base ["self", "name"] "NoFunction.__init__" (defScope s_NoFunction) f cdv A outer s H E).nox (defBody s_NoFunction) t ∧ t { nx := fun _ H' => Q .non H', rt := Q } (start ["self", "name"] vs) H by
    obtain ⟨t, h1, h2⟩ := z
    exact ⟨t, h1.nox, h2⟩

  obtain ⟨a, x, rfl, ha, ⟨y, rfl, hy⟩, k⟩ := h
  refine ⟨_, (pss_cons (ps_expr (pe_binit (by rfl) T.g_PartlyError T.r_PartlyError T.i_PartlyError (pa_cons (pv 0) (pa_cons (pe_joined (.cons pe_str (.cons (pe_fmt (pv 1)) .nil))) pa_nil))))
      (pss_one (ps_ost (pv 0) (pv 1)))), ?_⟩
  refine ⟨_, rfl, _, rfl, fit_line (a := 1000) (by decide +kernel) (by decide), _, rfl, .inl ⟨y, rfl, fit_line hy (by decide), _, rfl, fit_line (fit2 (a := 1000) (by decide +kernel) hy) (by decide), a, C, _, rfl, (by show 1 ≤ 1000; decide), O, ha, ?_⟩⟩
  exact ⟨_, rfl, _, rfl, a, C, rfl, O, hno, .inl ⟨ha, k⟩⟩

abbrev s_Parted : Stmt := inClass (topS 16) 0
theorem sc_Parted : FnScope ["self", "places"] ["self", "places"] (defScope s_Parted) := ⟨rfl, rfl, rfl, by decide +kernel, rfl, by decide +kernel, by decide +kernel⟩
theorem ok_Parted {B C f : Addr} {fd : FuncData} (T : TxtE K mg B) (F : FunD K "__init__" "Parted.__init__" (defArgs s_Parted) (defBody s_Parted) (defScope s_Parted) [] [] f fd) (O : OexC K C) (hno : PySem.W.findIn K (.ref C) "places" = some none) : FnOk P w K mg base CX0 1 f fd ["self", "places"] (spIni C "places" (okT K)) := by
  refine F.ok sc_Parted (fun vs H Q E h => by obtain ⟨a, x, rfl, _⟩ := h; rfl) (fun cdv A outer s H vs Q E hr h => ?_)
  suffices z : ∃ t, PSs (cxOf CX0 P w K mg base ["self", "places"] "Parted.__init__" (defScope s_Parted) f cdv A outer s H E).nox (defBody s_Parted) t ∧ t { nx := fun _ H' => Q .non H', rt := Q } (start ["self", "places"] vs) H by
    obtain ⟨t, h1, h2⟩ := z
    exact ⟨t, h1.nox, h2⟩

  obtain ⟨a, x, rfl, ha, ⟨q, l, rfl, hT, hi, hl⟩, k⟩ := h
  refine ⟨_, (pss_cons (ps_expr (pe_binit (by rfl) T.g_PartlyError T.r_PartlyError T.i_PartlyError (pa_cons (pv 0) (pa_cons (pe_joined (.cons pe_str (.cons (pe_fmtI hr (pv 1)) .nil))) pa_nil))))
      (pss_one (ps_ost (pv 0) (pe_callTy call_tuple_of (by rfl) T.f_tuple (by decide +kernel) (pa_cons (pv 1) pa_nil))))), ?_⟩
  refine ⟨_, rfl, _, rfl, fit_line (a := 1000) (by decide +kernel) (by decide), _, rfl, q, l, rfl, hT, hi, hl, fun m hm => ⟨_, rfl, fit_line (fit2 (a := 1000) (by decide +kernel) hm) (by decide), a, C, _, rfl, (by show 1 ≤ 1000; decide), O, ha, ?_⟩⟩
  exact ⟨_, rfl, q, _, rfl, .inr ⟨hT, _, rfl, a, C, rfl, O, hno, .inl ⟨ha, k⟩⟩⟩

abbrev s_Clash : Stmt := inClass (topS 17) 0
theorem sc_Clash : FnScope ["self"] ["self"] (defScope s_Clash) := ⟨rfl, rfl, rfl, by decide +kernel, rfl, by decide +kernel, by decide +kernel⟩
theorem ok_Clash {B C f : Addr} {fd : FuncData} (T : TxtE K mg B) (F : FunD K "__init__" "Clash.__init__" (defArgs s_Clash) (defBody s_Clash) (defScope s_Clash) [] [] f fd) (O : OexC K C) : FnOk P w K mg base CX0 1 f fd ["self"] (spIni0 C) := by
  refine F.ok sc_Clash (fun vs H Q E h => by obtain ⟨a, rfl, _⟩ := h; rfl) (fun cdv A outer s H vs Q E hr h => ?_)
  suffices z : ∃ t, PSs (cxOf CX0 P w K mg base ["self"] "Clash.__init__" (defScope s_Clash) f cdv A outer s H E).nox (defBody s_Clash) t ∧ t { nx := fun _ H' => Q .non H', rt := Q } (start ["self"] vs) H by
    obtain ⟨t, h1, h2⟩ := z
    exact ⟨t, h1.nox, h2⟩

  obtain ⟨a, rfl, ha, k⟩ := h
  refine ⟨_, (pss_one (ps_expr (pe_binit (by rfl) T.g_PartlyError T.r_PartlyError T.i_PartlyError (pa_cons (pv 0) (pa_cons pe_str pa_nil))))), ?_⟩
  exact ⟨_, rfl, a, C, _, rfl, by decide, O, ha, k⟩

abbrev s_NoFact : Stmt := inClass (topS 18) 0
theorem sc_NoFact : FnScope ["self", "index"] ["self", "index"] (defScope s_NoFact) := ⟨rfl, rfl, rfl, by decide +kernel, rfl, by decide +kernel, by decide +kernel⟩
theorem ok_NoFact {B C f : Addr} {fd : FuncData} (T : TxtE K mg B) (F : FunD K "__init__" "NoFact.__init__" (defArgs s_NoFact) (defBody s_NoFact) (defScope s_NoFact) [] [] f fd) (O : OexC K C) (hno : PySem.W.findIn K (.ref C) "index" = some none) : FnOk P w K mg base CX0 1 f fd ["self", "index"] (spIni C "index" okI) := by
  refine F.ok sc_NoFact (fun vs H Q E h => by obtain ⟨a, x, rfl, _⟩ := h; rfl) (fun cdv A outer s H vs Q E hr h => ?_)
  suffices z : ∃ t, PSs (cxOf CX0 P w K mg base ["self", "index"] "NoFact.__init__" (defScope s_NoFact) f cdv A outer s H E).nox (defBody s_NoFact) t ∧ t { nx := fun _ H' => Q .non H', rt := Q } (start ["self", "index"] vs) H by
    obtain ⟨t, h1, h2⟩ := z
    exact ⟨t, h1.nox, h2⟩

  obtain ⟨a, x, rfl, ha, ⟨i, rfl, hi⟩, k⟩ := h
  refine ⟨_, (pss_cons (ps_expr (pe_binit (by rfl) T.g_PartlyError T.r_PartlyError T.i_PartlyError (pa_cons (pv 0) (pa_cons (pe_joined (.cons pe_str (.cons (pe_fmt (pv 1)) .nil))) pa_nil))))
      (pss_one (ps_ost (pv 0) (pv 1)))), ?_⟩
  refine ⟨_, rfl, _, rfl, fit_line (a := 1000) (by decide +kernel) (by decide), _, rfl, .inr ⟨i, rfl, hi, _, rfl, fit_line (fit2 (a := 1000) (by decide +kernel) (int_text_len_1921 hi)) (by decide), a, C, _, rfl, (by show 1 ≤ 1000; decide), O, ha, ?_⟩⟩
  exact ⟨_, rfl, _, rfl, a, C, rfl, O, hno, .inl ⟨ha, k⟩⟩

abbrev s_NothingToUndo : Stmt := inClass (topS 19) 0
theorem sc_NothingToUndo : FnScope ["self"] ["self"] (defScope s_NothingToUndo) := ⟨rfl, rfl, rfl, by decide +kernel, rfl, by decide +kernel, by decide +kernel⟩
theorem ok_NothingToUndo {B C f : Addr} {fd : FuncData} (T : TxtE K mg B) (F : FunD K "__init__" "NothingToUndo.__init__" (defArgs s_NothingToUndo) (defBody s_NothingToUndo) (defScope s_NothingToUndo) [] [] f fd) (O : OexC K C) : FnOk P w K mg base CX0 1 f fd ["self"] (spIni0 C) := by
  refine F.ok sc_NothingToUndo (fun vs H Q E h => by obtain ⟨a, rfl, _⟩ := h; rfl) (fun cdv A outer s H vs Q E hr h => ?_)
  suffices z : ∃ t, PSs (cxOf CX0 P w K mg base ["self"] "NothingToUndo.__init__" (defScope s_NothingToUndo) f cdv A outer s H E).nox (defBody s_NothingToUndo) t ∧ t { nx := fun _ H' => Q .non H', rt := Q } (start ["self"] vs) H by
    obtain ⟨t, h1, h2⟩ := z
    exact ⟨t, h1.nox, h2⟩

  obtain ⟨a, rfl, ha, k⟩ := h
  refine ⟨_, (pss_one (ps_expr (pe_binit (by rfl) T.g_PartlyError T.r_PartlyError T.i_PartlyError (pa_cons (pv 0) (pa_cons pe_str pa_nil))))), ?_⟩
  exact ⟨_, rfl, a, C, _, rfl, by decide, O, ha, k⟩
end
end K71
end
section
set_option Elab.async false
set_option linter.all false
set_option maxRecDepth 100000
set_option maxHeartbeats 4000000
namespace K71
open PySem PySem.Spec PyProof.Rows L2
local macro_rules | `(tactic| walk_at "go") => `(tactic| first | refine ⟨_, rfl, ?_⟩ | refine .inl ⟨_, rfl, ?_⟩ | refine ⟨_, _, rfl, rfl, (by first | (show (0 : Int) < _; decide) | exact Or.inl ⟨by decide, by decide⟩ | exact Or.inr ⟨by decide, by decide⟩), ?_⟩ | refine ⟨_, _, rfl, rfl, ?_⟩)
section
variable {P : Program} {w : World} {K : PySem.W.Frag} {mg : Str → Option Value} {base : Heap}

/-- the classes of the package's errors, as the law counts them -/
def names : List Str := ["BadContract", "BadCount", "BadName", "BadPlaces", "BadPointers", "BadProgram", "Clash", "HasRegisters", "NoFact", "NoFunction", "NoLine", "NotTwo", "NothingToUndo", "OtherPointers", "Parted", "Stuck", "Taken", "TooMany"]
structure TxtX (K : PySem.W.Frag) (mg : Str → Option Value) : Prop where
  f_len : mg "len" = none
  f_range : mg "range" = none
  f_isinstance : mg "isinstance" = none
  f_ValueError : mg "ValueError" = none
  g_PartlyError : mg "PartlyError" = some (.ref (He.ga K "PartlyError"))
  g_BadContract : mg "BadContract" = some (.ref (He.ga K "BadContract"))
  g_BadCount : mg "BadCount" = some (.ref (He.ga K "BadCount"))
  g_BadName : mg "BadName" = some (.ref (He.ga K "BadName"))
  g_BadPlaces : mg "BadPlaces" = some (.ref (He.ga K "BadPlaces"))
  g_BadPointers : mg "BadPointers" = some (.ref (He.ga K "BadPointers"))
  g_BadProgram : mg "BadProgram" = some (.ref (He.ga K "BadProgram"))
  g_Clash : mg "Clash" = some (.ref (He.ga K "Clash"))
  g_HasRegisters : mg "HasRegisters" = some (.ref (He.ga K "HasRegisters"))
  g_NoFact : mg "NoFact" = some (.ref (He.ga K "NoFact"))
  g_NoFunction : mg "NoFunction" = some (.ref (He.ga K "NoFunction"))
  g_NoLine : mg "NoLine" = some (.ref (He.ga K "NoLine"))
  g_NotTwo : mg "NotTwo" = some (.ref (He.ga K "NotTwo"))
  g_NothingToUndo : mg "NothingToUndo" = some (.ref (He.ga K "NothingToUndo"))
  g_OtherPointers : mg "OtherPointers" = some (.ref (He.ga K "OtherPointers"))
  g_Parted : mg "Parted" = some (.ref (He.ga K "Parted"))
  g_Stuck : mg "Stuck" = some (.ref (He.ga K "Stuck"))
  g_Taken : mg "Taken" = some (.ref (He.ga K "Taken"))
  g_TooMany : mg "TooMany" = some (.ref (He.ga K "TooMany"))
  exv : ∀ x ∈ names, ExV K (He.ga K x)
  isi : ∀ x ∈ names, ∀ y ∈ names, PySem.W.kitOne K (.ref (He.ga K x)) (.ref (He.ga K y)) = some (decide (x = y))
  isB : ∀ x ∈ names, PySem.W.kitOne K (.ref (He.ga K x)) (.ref (He.ga K "PartlyError")) = some true
  isV : ∀ x ∈ names, PySem.W.kitOne K (.ref (He.ga K x)) (.type "ValueError") = some true

theorem _root_.L2.ExAt.same {H H' : Hp} {a C : Addr} {fs : List (Str × V)} (h : ExAt H a C fs) (s : Same H H') : ExAt H' a C fs := by
  rcases h with ⟨e, h⟩ | ⟨dx, h1, h2⟩
  · exact .inl ⟨e, s _ _ h⟩
  · exact .inr ⟨dx, s _ _ h1, s _ _ h2⟩
/-- an exception of one of the classes stands at a -/
def Err (K : PySem.W.Frag) (H : Hp) (x : Str) (a : Addr) (fs : List (Str × V)) : Prop := x ∈ names ∧ ExAt H a (He.ga K x) fs
theorem Err.same {K : PySem.W.Frag} {H H' : Hp} {a : Addr} {x : Str} {fs : List (Str × V)} (h : Err K H x a fs) (s : Same H H') : Err K H' x a fs := ⟨h.1, h.2.same s⟩
theorem one_class : ∀ x ∈ names, ((names.map fun y => decide (x = y)).filter id).length = 1 := by decide +kernel
/-- classes(e): one -/
def spClasses (K : PySem.W.Frag) : Sp := fun vs H Q _ => ∃ (a : Addr) (x : Str) (fs : List (Str × V)), vs = [.ref a] ∧ Err K H x a fs ∧ ∀ H', Same H H' → Q (.int 1) H'
theorem isi_read {K : PySem.W.Frag} {mg : Str → Option Value} {H : Hp} {a : Addr} {x y : Str} {fs : List (Str × V)} {Q : VK} (T : TxtX K mg) (e : Err K H x a fs) (hy : y ∈ names) (q : Q (.bl (decide (x = y))) H) :
    rIsEx K [.ref a, .ref (He.ga K y)] H Q := ⟨a, _, fs, _, _, _, rfl, e.2, T.exv x e.1, .own _, T.isi x e.1 y hy, q⟩

abbrev s_classes : Stmt := topS 28
theorem sc_classes : FnScope ["e", "found", "one"] ["e"] (defScope s_classes) := ⟨rfl, rfl, rfl, by decide +kernel, rfl, by decide +kernel, by decide +kernel⟩
theorem ok_classes (T : TxtX K mg) (D : Def K mg "_law_classes" s_classes) : Cal P w K mg base 1 "_law_classes" ["e"] (spClasses K) := by
  refine D.cal sc_classes (fun vs H Q E h => ?_) (fun _ _ _ _ _ _ us hl => match us, hl with | [_], _ => rfl) (fun f cdv A outer s H vs Q E hr h => ?_)
  · obtain ⟨a, x, fs, rfl, _⟩ := h
    rfl

  obtain ⟨a, x, fs, rfl, e, k⟩ := h
  refine ⟨_, (pss_cons (ps_set (i := 1) sc_classes.nd rfl (by first | exact Or.inl rfl | exact Or.inr rfl) (pe_lst (pa_cons (pe_callB call_isEx (by rfl) T.f_isinstance (by decide +kernel) (pa_cons (pv 0) (pa_cons (pe_gref (by rfl) T.g_BadContract) pa_nil))) (pa_cons (pe_callB call_isEx (by rfl) T.f_isinstance (by decide +kernel) (pa_cons (pv 0) (pa_cons (pe_gref (by rfl) T.g_BadCount) pa_nil))) (pa_cons (pe_callB call_isEx (by rfl) T.f_isinstance (by decide +kernel) (pa_cons (pv 0) (pa_cons (pe_gref (by rfl) T.g_BadName) pa_nil))) pa_nil)))))
      (pss_cons (ps_set (i := 1) sc_classes.nd rfl (by first | exact Or.inl rfl | exact Or.inr rfl) (pe_op op_cat (pv 1) (pe_lst (pa_cons (pe_callB call_isEx (by rfl) T.f_isinstance (by decide +kernel) (pa_cons (pv 0) (pa_cons (pe_gref (by rfl) T.g_BadPlaces) pa_nil))) (pa_cons (pe_callB call_isEx (by rfl) T.f_isinstance (by decide +kernel) (pa_cons (pv 0) (pa_cons (pe_gref (by rfl) T.g_BadPointers) pa_nil))) pa_nil)))))
      (pss_cons (ps_set (i := 1) sc_classes.nd rfl (by first | exact Or.inl rfl | exact Or.inr rfl) (pe_op op_cat (pv 1) (pe_lst (pa_cons (pe_callB call_isEx (by rfl) T.f_isinstance (by decide +kernel) (pa_cons (pv 0) (pa_cons (pe_gref (by rfl) T.g_BadProgram) pa_nil))) (pa_cons (pe_callB call_isEx (by rfl) T.f_isinstance (by decide +kernel) (pa_cons (pv 0) (pa_cons (pe_gref (by rfl) T.g_Clash) pa_nil))) pa_nil)))))
      (pss_cons (ps_expr (pe_bm PySem.F.plainAttrs_list PySem.F.slot_list_append PySem.F.type_list_append mt_append (pv 1) (pa_cons (pe_callB call_isEx (by rfl) T.f_isinstance (by decide +kernel) (pa_cons (pv 0) (pa_cons (pe_gref (by rfl) T.g_HasRegisters) pa_nil))) pa_nil)))
      (pss_cons (ps_set (i := 1) sc_classes.nd rfl (by first | exact Or.inl rfl | exact Or.inr rfl) (pe_op op_cat (pv 1) (pe_lst (pa_cons (pe_callB call_isEx (by rfl) T.f_isinstance (by decide +kernel) (pa_cons (pv 0) (pa_cons (pe_gref (by rfl) T.g_NoFact) pa_nil))) (pa_cons (pe_callB call_isEx (by rfl) T.f_isinstance (by decide +kernel) (pa_cons (pv 0) (pa_cons (pe_gref (by rfl) T.g_NoFunction) pa_nil))) (pa_cons (pe_callB call_isEx (by rfl) T.f_isinstance (by decide +kernel) (pa_cons (pv 0) (pa_cons (pe_gref (by rfl) T.g_NoLine) pa_nil))) pa_nil))))))
      (pss_cons (ps_set (i := 1) sc_classes.nd rfl (by first | exact Or.inl rfl | exact Or.inr rfl) (pe_op op_cat (pv 1) (pe_lst (pa_cons (pe_callB call_isEx (by rfl) T.f_isinstance (by decide +kernel) (pa_cons (pv 0) (pa_cons (pe_gref (by rfl) T.g_NotTwo) pa_nil))) (pa_cons (pe_callB call_isEx (by rfl) T.f_isinstance (by decide +kernel) (pa_cons (pv 0) (pa_cons (pe_gref (by rfl) T.g_NothingToUndo) pa_nil))) pa_nil)))))
      (pss_cons (ps_set (i := 1) sc_classes.nd rfl (by first | exact Or.inl rfl | exact Or.inr rfl) (pe_op op_cat (pv 1) (pe_lst (pa_cons (pe_callB call_isEx (by rfl) T.f_isinstance (by decide +kernel) (pa_cons (pv 0) (pa_cons (pe_gref (by rfl) T.g_OtherPointers) pa_nil))) (pa_cons (pe_callB call_isEx (by rfl) T.f_isinstance (by decide +kernel) (pa_cons (pv 0) (pa_cons (pe_gref (by rfl) T.g_Parted) pa_nil))) (pa_cons (pe_callB call_isEx (by rfl) T.f_isinstance (by decide +kernel) (pa_cons (pv 0) (pa_cons (pe_gref (by rfl) T.g_Stuck) pa_nil))) pa_nil))))))
      (pss_cons (ps_set (i := 1) sc_classes.nd rfl (by first | exact Or.inl rfl | exact Or.inr rfl) (pe_op op_cat (pv 1) (pe_lst (pa_cons (pe_callB call_isEx (by rfl) T.f_isinstance (by decide +kernel) (pa_cons (pv 0) (pa_cons (pe_gref (by rfl) T.g_Taken) pa_nil))) (pa_cons (pe_callB call_isEx (by rfl) T.f_isinstance (by decide +kernel) (pa_cons (pv 0) (pa_cons (pe_gref (by rfl) T.g_TooMany) pa_nil))) pa_nil)))))
      (pss_one (ps_ret (pe_callB call_len (by rfl) T.f_len PySem.boot_len (pa_cons (pe_lc (own := [("one", 2)]) (g := gName 2) rfl sc_classes.nd (pi_list (pv 1)) (blkOk_by (N := ["e", "found", "one"]) (sc := defScope s_classes) (by decide +kernel)) (fun _ _ _ _ _ => pg_name (i := 2) sc_classes.nd rfl (Or.inl rfl)) (fun _ _ _ _ _ => (pts_one (pt_val (pv 2)))) (fun _ _ _ _ _ => (pv 2))) pa_nil)))))))))))), ?_⟩
  refine ⟨_, rfl, a, _, fs, _, _, _, rfl, (e.same (Same.refl _)).2, T.exv _ e.1, .own _, T.isi _ e.1 "BadContract" (by decide +kernel), ⟨_, rfl, a, _, fs, _, _, _, rfl, (e.same (Same.refl _)).2, T.exv _ e.1, .own _, T.isi _ e.1 "BadCount" (by decide +kernel), ⟨_, rfl, a, _, fs, _, _, _, rfl, (e.same (Same.refl _)).2, T.exv _ e.1, .own _, T.isi _ e.1 "BadName" (by decide +kernel), ⟨by show 3 ≤ sizeLine; decide, fun p0 f0 => ?_⟩⟩⟩⟩
  have h0 := upd_same (H := H) (a := p0) (o := .lst [V.bl (decide (x = "BadContract")), V.bl (decide (x = "BadCount")), V.bl (decide (x = "BadName"))])
  have s0 : Same H _ := Same.new (o := .lst [V.bl (decide (x = "BadContract")), V.bl (decide (x = "BadCount")), V.bl (decide (x = "BadName"))]) f0
  generalize upd H p0 (.lst [V.bl (decide (x = "BadContract")), V.bl (decide (x = "BadCount")), V.bl (decide (x = "BadName"))]) = H0 at h0 s0 ⊢
  refine ⟨_, rfl, ⟨_, rfl, a, _, fs, _, _, _, rfl, (e.same s0).2, T.exv _ e.1, .own _, T.isi _ e.1 "BadPlaces" (by decide +kernel), ⟨_, rfl, a, _, fs, _, _, _, rfl, (e.same s0).2, T.exv _ e.1, .own _, T.isi _ e.1 "BadPointers" (by decide +kernel), ⟨by show 2 ≤ sizeLine; decide, fun q1 m1 => ⟨p0, q1, _, _, rfl, rfl, Same.new m1 _ _ h0, upd_same, by show 5 ≤ sizeLine; decide, fun p1 r1 => ?_⟩⟩⟩⟩⟩
  have f1 : H p1 = none := (s0.trans (Same.new m1)).free r1
  have s1 : Same H (upd (upd H0 q1 (.lst [V.bl (decide (x = "BadPlaces")), V.bl (decide (x = "BadPointers"))])) p1 (.lst ([V.bl (decide (x = "BadContract")), V.bl (decide (x = "BadCount")), V.bl (decide (x = "BadName"))] ++ [V.bl (decide (x = "BadPlaces")), V.bl (decide (x = "BadPointers"))]))) := (s0.trans (Same.new m1)).trans (Same.new r1)
  have h1 : (upd (upd H0 q1 (.lst [V.bl (decide (x = "BadPlaces")), V.bl (decide (x = "BadPointers"))])) p1 (.lst ([V.bl (decide (x = "BadContract")), V.bl (decide (x = "BadCount")), V.bl (decide (x = "BadName"))] ++ [V.bl (decide (x = "BadPlaces")), V.bl (decide (x = "BadPointers"))]))) p1 = some (.lst ([V.bl (decide (x = "BadContract")), V.bl (decide (x = "BadCount")), V.bl (decide (x = "BadName"))] ++ [V.bl (decide (x = "BadPlaces")), V.bl (decide (x = "BadPointers"))])) := upd_same
  generalize upd (upd H0 q1 (.lst [V.bl (decide (x = "BadPlaces")), V.bl (decide (x = "BadPointers"))])) p1 (.lst ([V.bl (decide (x = "BadContract")), V.bl (decide (x = "BadCount")), V.bl (decide (x = "BadName"))] ++ [V.bl (decide (x = "BadPlaces")), V.bl (decide (x = "BadPointers"))])) = H1 at s1 h1 ⊢
  refine ⟨_, rfl, ⟨_, rfl, a, _, fs, _, _, _, rfl, (e.same s1).2, T.exv _ e.1, .own _, T.isi _ e.1 "BadProgram" (by decide +kernel), ⟨_, rfl, a, _, fs, _, _, _, rfl, (e.same s1).2, T.exv _ e.1, .own _, T.isi _ e.1 "Clash" (by decide +kernel), ⟨by show 2 ≤ sizeLine; decide, fun q2 m2 => ⟨p1, q2, _, _, rfl, rfl, Same.new m2 _ _ h1, upd_same, by show 7 ≤ sizeLine; decide, fun p2 r2 => ?_⟩⟩⟩⟩⟩
  have f2 : H p2 = none := (s1.trans (Same.new m2)).free r2
  have s2 : Same H (upd (upd H1 q2 (.lst [V.bl (decide (x = "BadProgram")), V.bl (decide (x = "Clash"))])) p2 (.lst (([V.bl (decide (x = "BadContract")), V.bl (decide (x = "BadCount")), V.bl (decide (x = "BadName"))] ++ [V.bl (decide (x = "BadPlaces")), V.bl (decide (x = "BadPointers"))]) ++ [V.bl (decide (x = "BadProgram")), V.bl (decide (x = "Clash"))]))) := (s1.trans (Same.new m2)).trans (Same.new r2)
  have h2 : (upd (upd H1 q2 (.lst [V.bl (decide (x = "BadProgram")), V.bl (decide (x = "Clash"))])) p2 (.lst (([V.bl (decide (x = "BadContract")), V.bl (decide (x = "BadCount")), V.bl (decide (x = "BadName"))] ++ [V.bl (decide (x = "BadPlaces")), V.bl (decide (x = "BadPointers"))]) ++ [V.bl (decide (x = "BadProgram")), V.bl (decide (x = "Clash"))]))) p2 = some (.lst (([V.bl (decide (x = "BadContract")), V.bl (decide (x = "BadCount")), V.bl (decide (x = "BadName"))] ++ [V.bl (decide (x = "BadPlaces")), V.bl (decide (x = "BadPointers"))]) ++ [V.bl (decide (x = "BadProgram")), V.bl (decide (x = "Clash"))])) := upd_same
  generalize upd (upd H1 q2 (.lst [V.bl (decide (x = "BadProgram")), V.bl (decide (x = "Clash"))])) p2 (.lst (([V.bl (decide (x = "BadContract")), V.bl (decide (x = "BadCount")), V.bl (decide (x = "BadName"))] ++ [V.bl (decide (x = "BadPlaces")), V.bl (decide (x = "BadPointers"))]) ++ [V.bl (decide (x = "BadProgram")), V.bl (decide (x = "Clash"))])) = H2 at s2 h2 ⊢
  refine ⟨_, rfl, .inl ⟨rfl, _, SqL.of h2⟩, ⟨_, rfl, a, _, fs, _, _, _, rfl, (e.same s2).2, T.exv _ e.1, .own _, T.isi _ e.1 "HasRegisters" (by decide +kernel), ⟨p2, _, _, rfl, rfl, h2, by show 7 < sizeLine; decide, ?_⟩⟩⟩
  have s3 : Same H (upd H2 p2 (.lst ((([V.bl (decide (x = "BadContract")), V.bl (decide (x = "BadCount")), V.bl (decide (x = "BadName"))] ++ [V.bl (decide (x = "BadPlaces")), V.bl (decide (x = "BadPointers"))]) ++ [V.bl (decide (x = "BadProgram")), V.bl (decide (x = "Clash"))]) ++ [V.bl (decide (x = "HasRegisters"))]))) := s2.put f2
  have h3 : (upd H2 p2 (.lst ((([V.bl (decide (x = "BadContract")), V.bl (decide (x = "BadCount")), V.bl (decide (x = "BadName"))] ++ [V.bl (decide (x = "BadPlaces")), V.bl (decide (x = "BadPointers"))]) ++ [V.bl (decide (x = "BadProgram")), V.bl (decide (x = "Clash"))]) ++ [V.bl (decide (x = "HasRegisters"))]))) p2 = some (.lst ((([V.bl (decide (x = "BadContract")), V.bl (decide (x = "BadCount")), V.bl (decide (x = "BadName"))] ++ [V.bl (decide (x = "BadPlaces")), V.bl (decide (x = "BadPointers"))]) ++ [V.bl (decide (x = "BadProgram")), V.bl (decide (x = "Clash"))]) ++ [V.bl (decide (x = "HasRegisters"))])) := upd_same
  generalize upd H2 p2 (.lst ((([V.bl (decide (x = "BadContract")), V.bl (decide (x = "BadCount")), V.bl (decide (x = "BadName"))] ++ [V.bl (decide (x = "BadPlaces")), V.bl (decide (x = "BadPointers"))]) ++ [V.bl (decide (x = "BadProgram")), V.bl (decide (x = "Clash"))]) ++ [V.bl (decide (x = "HasRegisters"))])) = H3 at s3 h3 ⊢
  obtain ⟨p3, e3⟩ : ∃ q, q = p2 := ⟨_, rfl⟩
  rw [← e3] at h3 ⊢
  have f3 : H p3 = none := by rw [e3]; exact f2
  refine ⟨_, rfl, ⟨_, rfl, a, _, fs, _, _, _, rfl, (e.same s3).2, T.exv _ e.1, .own _, T.isi _ e.1 "NoFact" (by decide +kernel), ⟨_, rfl, a, _, fs, _, _, _, rfl, (e.same s3).2, T.exv _ e.1, .own _, T.isi _ e.1 "NoFunction" (by decide +kernel), ⟨_, rfl, a, _, fs, _, _, _, rfl, (e.same s3).2, T.exv _ e.1, .own _, T.isi _ e.1 "NoLine" (by decide +kernel), ⟨by show 3 ≤ sizeLine; decide, fun q4 m4 => ⟨p3, q4, _, _, rfl, rfl, Same.new m4 _ _ h3, upd_same, by show 11 ≤ sizeLine; decide, fun p4 r4 => ?_⟩⟩⟩⟩⟩⟩
  have f4 : H p4 = none := (s3.trans (Same.new m4)).free r4
  have s4 : Same H (upd (upd H3 q4 (.lst [V.bl (decide (x = "NoFact")), V.bl (decide (x = "NoFunction")), V.bl (decide (x = "NoLine"))])) p4 (.lst (((([V.bl (decide (x = "BadContract")), V.bl (decide (x = "BadCount")), V.bl (decide (x = "BadName"))] ++ [V.bl (decide (x = "BadPlaces")), V.bl (decide (x = "BadPointers"))]) ++ [V.bl (decide (x = "BadProgram")), V.bl (decide (x = "Clash"))]) ++ [V.bl (decide (x = "HasRegisters"))]) ++ [V.bl (decide (x = "NoFact")), V.bl (decide (x = "NoFunction")), V.bl (decide (x = "NoLine"))]))) := (s3.trans (Same.new m4)).trans (Same.new r4)
  have h4 : (upd (upd H3 q4 (.lst [V.bl (decide (x = "NoFact")), V.bl (decide (x = "NoFunction")), V.bl (decide (x = "NoLine"))])) p4 (.lst (((([V.bl (decide (x = "BadContract")), V.bl (decide (x = "BadCount")), V.bl (decide (x = "BadName"))] ++ [V.bl (decide (x = "BadPlaces")), V.bl (decide (x = "BadPointers"))]) ++ [V.bl (decide (x = "BadProgram")), V.bl (decide (x = "Clash"))]) ++ [V.bl (decide (x = "HasRegisters"))]) ++ [V.bl (decide (x = "NoFact")), V.bl (decide (x = "NoFunction")), V.bl (decide (x = "NoLine"))]))) p4 = some (.lst (((([V.bl (decide (x = "BadContract")), V.bl (decide (x = "BadCount")), V.bl (decide (x = "BadName"))] ++ [V.bl (decide (x = "BadPlaces")), V.bl (decide (x = "BadPointers"))]) ++ [V.bl (decide (x = "BadProgram")), V.bl (decide (x = "Clash"))]) ++ [V.bl (decide (x = "HasRegisters"))]) ++ [V.bl (decide (x = "NoFact")), V.bl (decide (x = "NoFunction")), V.bl (decide (x = "NoLine"))])) := upd_same
  generalize upd (upd H3 q4 (.lst [V.bl (decide (x = "NoFact")), V.bl (decide (x = "NoFunction")), V.bl (decide (x = "NoLine"))])) p4 (.lst (((([V.bl (decide (x = "BadContract")), V.bl (decide (x = "BadCount")), V.bl (decide (x = "BadName"))] ++ [V.bl (decide (x = "BadPlaces")), V.bl (decide (x = "BadPointers"))]) ++ [V.bl (decide (x = "BadProgram")), V.bl (decide (x = "Clash"))]) ++ [V.bl (decide (x = "HasRegisters"))]) ++ [V.bl (decide (x = "NoFact")), V.bl (decide (x = "NoFunction")), V.bl (decide (x = "NoLine"))])) = H4 at s4 h4 ⊢
  refine ⟨_, rfl, ⟨_, rfl, a, _, fs, _, _, _, rfl, (e.same s4).2, T.exv _ e.1, .own _, T.isi _ e.1 "NotTwo" (by decide +kernel), ⟨_, rfl, a, _, fs, _, _, _, rfl, (e.same s4).2, T.exv _ e.1, .own _, T.isi _ e.1 "NothingToUndo" (by decide +kernel), ⟨by show 2 ≤ sizeLine; decide, fun q5 m5 => ⟨p4, q5, _, _, rfl, rfl, Same.new m5 _ _ h4, upd_same, by show 13 ≤ sizeLine; decide, fun p5 r5 => ?_⟩⟩⟩⟩⟩
  have f5 : H p5 = none := (s4.trans (Same.new m5)).free r5
  have s5 : Same H (upd (upd H4 q5 (.lst [V.bl (decide (x = "NotTwo")), V.bl (decide (x = "NothingToUndo"))])) p5 (.lst ((((([V.bl (decide (x = "BadContract")), V.bl (decide (x = "BadCount")), V.bl (decide (x = "BadName"))] ++ [V.bl (decide (x = "BadPlaces")), V.bl (decide (x = "BadPointers"))]) ++ [V.bl (decide (x = "BadProgram")), V.bl (decide (x = "Clash"))]) ++ [V.bl (decide (x = "HasRegisters"))]) ++ [V.bl (decide (x = "NoFact")), V.bl (decide (x = "NoFunction")), V.bl (decide (x = "NoLine"))]) ++ [V.bl (decide (x = "NotTwo")), V.bl (decide (x = "NothingToUndo"))]))) := (s4.trans (Same.new m5)).trans (Same.new r5)
  have h5 : (upd (upd H4 q5 (.lst [V.bl (decide (x = "NotTwo")), V.bl (decide (x = "NothingToUndo"))])) p5 (.lst ((((([V.bl (decide (x = "BadContract")), V.bl (decide (x = "BadCount")), V.bl (decide (x = "BadName"))] ++ [V.bl (decide (x = "BadPlaces")), V.bl (decide (x = "BadPointers"))]) ++ [V.bl (decide (x = "BadProgram")), V.bl (decide (x = "Clash"))]) ++ [V.bl (decide (x = "HasRegisters"))]) ++ [V.bl (decide (x = "NoFact")), V.bl (decide (x = "NoFunction")), V.bl (decide (x = "NoLine"))]) ++ [V.bl (decide (x = "NotTwo")), V.bl (decide (x = "NothingToUndo"))]))) p5 = some (.lst ((((([V.bl (decide (x = "BadContract")), V.bl (decide (x = "BadCount")), V.bl (decide (x = "BadName"))] ++ [V.bl (decide (x = "BadPlaces")), V.bl (decide (x = "BadPointers"))]) ++ [V.bl (decide (x = "BadProgram")), V.bl (decide (x = "Clash"))]) ++ [V.bl (decide (x = "HasRegisters"))]) ++ [V.bl (decide (x = "NoFact")), V.bl (decide (x = "NoFunction")), V.bl (decide (x = "NoLine"))]) ++ [V.bl (decide (x = "NotTwo")), V.bl (decide (x = "NothingToUndo"))])) := upd_same
  generalize upd (upd H4 q5 (.lst [V.bl (decide (x = "NotTwo")), V.bl (decide (x = "NothingToUndo"))])) p5 (.lst ((((([V.bl (decide (x = "BadContract")), V.bl (decide (x = "BadCount")), V.bl (decide (x = "BadName"))] ++ [V.bl (decide (x = "BadPlaces")), V.bl (decide (x = "BadPointers"))]) ++ [V.bl (decide (x = "BadProgram")), V.bl (decide (x = "Clash"))]) ++ [V.bl (decide (x = "HasRegisters"))]) ++ [V.bl (decide (x = "NoFact")), V.bl (decide (x = "NoFunction")), V.bl (decide (x = "NoLine"))]) ++ [V.bl (decide (x = "NotTwo")), V.bl (decide (x = "NothingToUndo"))])) = H5 at s5 h5 ⊢
  refine ⟨_, rfl, ⟨_, rfl, a, _, fs, _, _, _, rfl, (e.same s5).2, T.exv _ e.1, .own _, T.isi _ e.1 "OtherPointers" (by decide +kernel), ⟨_, rfl, a, _, fs, _, _, _, rfl, (e.same s5).2, T.exv _ e.1, .own _, T.isi _ e.1 "Parted" (by decide +kernel), ⟨_, rfl, a, _, fs, _, _, _, rfl, (e.same s5).2, T.exv _ e.1, .own _, T.isi _ e.1 "Stuck" (by decide +kernel), ⟨by show 3 ≤ sizeLine; decide, fun q6 m6 => ⟨p5, q6, _, _, rfl, rfl, Same.new m6 _ _ h5, upd_same, by show 16 ≤ sizeLine; decide, fun p6 r6 => ?_⟩⟩⟩⟩⟩⟩
  have f6 : H p6 = none := (s5.trans (Same.new m6)).free r6
  have s6 : Same H (upd (upd H5 q6 (.lst [V.bl (decide (x = "OtherPointers")), V.bl (decide (x = "Parted")), V.bl (decide (x = "Stuck"))])) p6 (.lst (((((([V.bl (decide (x = "BadContract")), V.bl (decide (x = "BadCount")), V.bl (decide (x = "BadName"))] ++ [V.bl (decide (x = "BadPlaces")), V.bl (decide (x = "BadPointers"))]) ++ [V.bl (decide (x = "BadProgram")), V.bl (decide (x = "Clash"))]) ++ [V.bl (decide (x = "HasRegisters"))]) ++ [V.bl (decide (x = "NoFact")), V.bl (decide (x = "NoFunction")), V.bl (decide (x = "NoLine"))]) ++ [V.bl (decide (x = "NotTwo")), V.bl (decide (x = "NothingToUndo"))]) ++ [V.bl (decide (x = "OtherPointers")), V.bl (decide (x = "Parted")), V.bl (decide (x = "Stuck"))]))) := (s5.trans (Same.new m6)).trans (Same.new r6)
  have h6 : (upd (upd H5 q6 (.lst [V.bl (decide (x = "OtherPointers")), V.bl (decide (x = "Parted")), V.bl (decide (x = "Stuck"))])) p6 (.lst (((((([V.bl (decide (x = "BadContract")), V.bl (decide (x = "BadCount")), V.bl (decide (x = "BadName"))] ++ [V.bl (decide (x = "BadPlaces")), V.bl (decide (x = "BadPointers"))]) ++ [V.bl (decide (x = "BadProgram")), V.bl (decide (x = "Clash"))]) ++ [V.bl (decide (x = "HasRegisters"))]) ++ [V.bl (decide (x = "NoFact")), V.bl (decide (x = "NoFunction")), V.bl (decide (x = "NoLine"))]) ++ [V.bl (decide (x = "NotTwo")), V.bl (decide (x = "NothingToUndo"))]) ++ [V.bl (decide (x = "OtherPointers")), V.bl (decide (x = "Parted")), V.bl (decide (x = "Stuck"))]))) p6 = some (.lst (((((([V.bl (decide (x = "BadContract")), V.bl (decide (x = "BadCount")), V.bl (decide (x = "BadName"))] ++ [V.bl (decide (x = "BadPlaces")), V.bl (decide (x = "BadPointers"))]) ++ [V.bl (decide (x = "BadProgram")), V.bl (decide (x = "Clash"))]) ++ [V.bl (decide (x = "HasRegisters"))]) ++ [V.bl (decide (x = "NoFact")), V.bl (decide (x = "NoFunction")), V.bl (decide (x = "NoLine"))]) ++ [V.bl (decide (x = "NotTwo")), V.bl (decide (x = "NothingToUndo"))]) ++ [V.bl (decide (x = "OtherPointers")), V.bl (decide (x = "Parted")), V.bl (decide (x = "Stuck"))])) := upd_same
  generalize upd (upd H5 q6 (.lst [V.bl (decide (x = "OtherPointers")), V.bl (decide (x = "Parted")), V.bl (decide (x = "Stuck"))])) p6 (.lst (((((([V.bl (decide (x = "BadContract")), V.bl (decide (x = "BadCount")), V.bl (decide (x = "BadName"))] ++ [V.bl (decide (x = "BadPlaces")), V.bl (decide (x = "BadPointers"))]) ++ [V.bl (decide (x = "BadProgram")), V.bl (decide (x = "Clash"))]) ++ [V.bl (decide (x = "HasRegisters"))]) ++ [V.bl (decide (x = "NoFact")), V.bl (decide (x = "NoFunction")), V.bl (decide (x = "NoLine"))]) ++ [V.bl (decide (x = "NotTwo")), V.bl (decide (x = "NothingToUndo"))]) ++ [V.bl (decide (x = "OtherPointers")), V.bl (decide (x = "Parted")), V.bl (decide (x = "Stuck"))])) = H6 at s6 h6 ⊢
  refine ⟨_, rfl, ⟨_, rfl, a, _, fs, _, _, _, rfl, (e.same s6).2, T.exv _ e.1, .own _, T.isi _ e.1 "Taken" (by decide +kernel), ⟨_, rfl, a, _, fs, _, _, _, rfl, (e.same s6).2, T.exv _ e.1, .own _, T.isi _ e.1 "TooMany" (by decide +kernel), ⟨by show 2 ≤ sizeLine; decide, fun q7 m7 => ⟨p6, q7, _, _, rfl, rfl, Same.new m7 _ _ h6, upd_same, by show 18 ≤ sizeLine; decide, fun p7 r7 => ?_⟩⟩⟩⟩⟩
  have f7 : H p7 = none := (s6.trans (Same.new m7)).free r7
  have s7 : Same H (upd (upd H6 q7 (.lst [V.bl (decide (x = "Taken")), V.bl (decide (x = "TooMany"))])) p7 (.lst ((((((([V.bl (decide (x = "BadContract")), V.bl (decide (x = "BadCount")), V.bl (decide (x = "BadName"))] ++ [V.bl (decide (x = "BadPlaces")), V.bl (decide (x = "BadPointers"))]) ++ [V.bl (decide (x = "BadProgram")), V.bl (decide (x = "Clash"))]) ++ [V.bl (decide (x = "HasRegisters"))]) ++ [V.bl (decide (x = "NoFact")), V.bl (decide (x = "NoFunction")), V.bl (decide (x = "NoLine"))]) ++ [V.bl (decide (x = "NotTwo")), V.bl (decide (x = "NothingToUndo"))]) ++ [V.bl (decide (x = "OtherPointers")), V.bl (decide (x = "Parted")), V.bl (decide (x = "Stuck"))]) ++ [V.bl (decide (x = "Taken")), V.bl (decide (x = "TooMany"))]))) := (s6.trans (Same.new m7)).trans (Same.new r7)
  have h7 : (upd (upd H6 q7 (.lst [V.bl (decide (x = "Taken")), V.bl (decide (x = "TooMany"))])) p7 (.lst ((((((([V.bl (decide (x = "BadContract")), V.bl (decide (x = "BadCount")), V.bl (decide (x = "BadName"))] ++ [V.bl (decide (x = "BadPlaces")), V.bl (decide (x = "BadPointers"))]) ++ [V.bl (decide (x = "BadProgram")), V.bl (decide (x = "Clash"))]) ++ [V.bl (decide (x = "HasRegisters"))]) ++ [V.bl (decide (x = "NoFact")), V.bl (decide (x = "NoFunction")), V.bl (decide (x = "NoLine"))]) ++ [V.bl (decide (x = "NotTwo")), V.bl (decide (x = "NothingToUndo"))]) ++ [V.bl (decide (x = "OtherPointers")), V.bl (decide (x = "Parted")), V.bl (decide (x = "Stuck"))]) ++ [V.bl (decide (x = "Taken")), V.bl (decide (x = "TooMany"))]))) p7 = some (.lst ((((((([V.bl (decide (x = "BadContract")), V.bl (decide (x = "BadCount")), V.bl (decide (x = "BadName"))] ++ [V.bl (decide (x = "BadPlaces")), V.bl (decide (x = "BadPointers"))]) ++ [V.bl (decide (x = "BadProgram")), V.bl (decide (x = "Clash"))]) ++ [V.bl (decide (x = "HasRegisters"))]) ++ [V.bl (decide (x = "NoFact")), V.bl (decide (x = "NoFunction")), V.bl (decide (x = "NoLine"))]) ++ [V.bl (decide (x = "NotTwo")), V.bl (decide (x = "NothingToUndo"))]) ++ [V.bl (decide (x = "OtherPointers")), V.bl (decide (x = "Parted")), V.bl (decide (x = "Stuck"))]) ++ [V.bl (decide (x = "Taken")), V.bl (decide (x = "TooMany"))])) := upd_same
  generalize upd (upd H6 q7 (.lst [V.bl (decide (x = "Taken")), V.bl (decide (x = "TooMany"))])) p7 (.lst ((((((([V.bl (decide (x = "BadContract")), V.bl (decide (x = "BadCount")), V.bl (decide (x = "BadName"))] ++ [V.bl (decide (x = "BadPlaces")), V.bl (decide (x = "BadPointers"))]) ++ [V.bl (decide (x = "BadProgram")), V.bl (decide (x = "Clash"))]) ++ [V.bl (decide (x = "HasRegisters"))]) ++ [V.bl (decide (x = "NoFact")), V.bl (decide (x = "NoFunction")), V.bl (decide (x = "NoLine"))]) ++ [V.bl (decide (x = "NotTwo")), V.bl (decide (x = "NothingToUndo"))]) ++ [V.bl (decide (x = "OtherPointers")), V.bl (decide (x = "Parted")), V.bl (decide (x = "Stuck"))]) ++ [V.bl (decide (x = "Taken")), V.bl (decide (x = "TooMany"))])) = H7 at s7 h7 ⊢

  have one := one_class x e.1
  have len : (names.map fun y => decide (x = y)).length = 18 := by rw [List.length_map]; rfl
  have eL : ((((((([V.bl (decide (x = "BadContract")), V.bl (decide (x = "BadCount")), V.bl (decide (x = "BadName"))] ++ [V.bl (decide (x = "BadPlaces")), V.bl (decide (x = "BadPointers"))]) ++ [V.bl (decide (x = "BadProgram")), V.bl (decide (x = "Clash"))]) ++ [V.bl (decide (x = "HasRegisters"))]) ++ [V.bl (decide (x = "NoFact")), V.bl (decide (x = "NoFunction")), V.bl (decide (x = "NoLine"))]) ++ [V.bl (decide (x = "NotTwo")), V.bl (decide (x = "NothingToUndo"))]) ++ [V.bl (decide (x = "OtherPointers")), V.bl (decide (x = "Parted")), V.bl (decide (x = "Stuck"))]) ++ [V.bl (decide (x = "Taken")), V.bl (decide (x = "TooMany"))]) = (names.map fun y => decide (x = y)).map V.bl := rfl
  rw [eL] at h7
  generalize names.map (fun y => decide (x = y)) = bs at h7 one len
  refine ⟨_, rfl, p7, rfl, ⟨_, SqL.of h7⟩, fun D hD => lc_it walk_list (fun m H' => Same H7 H' ∧ H' D = some (.lst (((bs.take m).filter id).map V.bl)))
    ⟨Same.new hD, upd_same⟩ (fun m H' _ z => SqL.of (z.1 _ _ h7)) ?_ ?_⟩
  · rintro m y H1 H2 hm ⟨s1, h1⟩ ⟨rfl, hx⟩
    obtain ⟨b, hb, rfl⟩ : ∃ b, bs[m]? = some b ∧ V.bl b = y := by
      rw [List.getElem?_map] at hx
      exact Option.map_eq_some_iff.mp hx
    refine ⟨rfl, _, rfl, b, rfl, ?_⟩
    cases b with
    | true =>
      refine iteT ⟨_, rfl, _, h1, ?_, s1.put hD, ?_⟩
      · rw [List.length_map, sizeLine_eq]
        have := List.length_filter_le id (bs.take m)
        have := List.length_take_le m bs
        rw [List.length_map] at hm
        have : bs.length = 18 := len
        omega
      · rw [List.take_add_one, hb, List.filter_append, List.map_append]
        exact upd_same
    | false =>
      refine iteF ⟨s1, ?_⟩
      rw [List.take_add_one, hb, List.filter_append]
      rw [show List.filter id (Option.toList (some false)) = [] from rfl, List.append_nil]
      exact h1
  · rintro H1 ⟨s1, h1⟩
    rw [List.length_map, List.take_length] at h1
    refine ⟨_, _, rfl, .inl ⟨_, SqL.of h1, rfl⟩, ?_⟩
    rw [List.length_map, one]
    exact k H1 (s7.trans s1)

end
end K71
end
section
set_option Elab.async false
set_option linter.all false
set_option maxRecDepth 100000
set_option maxHeartbeats 4000000
namespace K71
open PySem PySem.Spec PyProof.Rows L2
local macro_rules | `(tactic| walk_at "go") => `(tactic| first | refine ⟨_, rfl, ?_⟩ | refine .inl ⟨_, rfl, ?_⟩ | refine ⟨_, _, rfl, rfl, (by first | (show (0 : Int) < _; decide) | exact Or.inl ⟨by decide, by decide⟩ | exact Or.inr ⟨by decide, by decide⟩), ?_⟩ | refine ⟨_, _, rfl, rfl, ?_⟩)
section
variable {P : Program} {w : World} {K : PySem.W.Frag} {mg : Str → Option Value} {base : Heap}

/-- is_one(e, True) -/
def spIsOne (K : PySem.W.Frag) : Sp := fun vs H Q _ => ∃ (a : Addr) (x : Str) (fs : List (Str × V)), vs = [.ref a, .bl true] ∧ Err K H x a fs ∧ ∀ H', Same H H' → Q (.bl true) H'
abbrev s_is_one : Stmt := topS 29
theorem sc_is_one : FnScope ["e", "is_own", "is_based"] ["e", "is_own"] (defScope s_is_one) := ⟨rfl, rfl, rfl, by decide +kernel, rfl, by decide +kernel, by decide +kernel⟩
theorem ok_is_one (T : TxtX K mg) (D : Def K mg "_law_is_one" s_is_one) (C__law_classes : Cal P w K mg base 1 "_law_classes" ["e"] (spClasses K)) : Cal P w K mg base 2 "_law_is_one" ["e", "is_own"] (spIsOne K) := by
  refine D.cal sc_is_one (fun vs H Q E h => ?_) (fun _ _ _ _ _ _ us hl => match us, hl with | [_, _], _ => rfl) (fun f cdv A outer s H vs Q E hr h => ?_)
  · obtain ⟨a, x, fs, rfl, _⟩ := h
    rfl

  obtain ⟨a, x, fs, rfl, e, k⟩ := h
  refine ⟨_, (pss_cons (ps_set (i := 2) sc_is_one.nd rfl (by first | exact Or.inl rfl | exact Or.inr rfl) (pe_and (pe_callB call_isEx (by rfl) T.f_isinstance (by decide +kernel) (pa_cons (pv 0) (pa_cons (pe_gref (by rfl) T.g_PartlyError) pa_nil))) (pe_one (pe_callB call_isEx (by rfl) T.f_isinstance (by decide +kernel) (pa_cons (pv 0) (pa_cons (pe_gty (by rfl) T.f_ValueError (T := "ValueError") (by decide +kernel)) pa_nil))))))
      (pss_one (ps_ret (pe_and (pv 1) (pe_and (pv 2) (pe_one (pe_cmpR op_eq (pe_cal C__law_classes (hr.mono (by decide)) rfl (pa_cons (pv 0) pa_nil)) pe_int (nomark _)))))))), ?_⟩
  refine ⟨_, rfl, a, _, fs, _, _, _, rfl, e.2, T.exv _ e.1, .own _, T.isB _ e.1, _, rfl, iteT ?_⟩
  refine ⟨_, rfl, a, _, fs, _, _, _, rfl, e.2, T.exv _ e.1, .ty _, T.isV _ e.1, ?_⟩
  refine ⟨_, rfl, _, rfl, iteT ⟨_, rfl, _, rfl, iteT ?_⟩⟩
  exact ⟨_, rfl, a, x, fs, rfl, e, fun H1 s1 => ⟨rfl, k H1 s1⟩⟩



/-- a new error, its field kept -/
theorem mk_go {C : Addr} {f : Str} {ok : V → Hp → Prop} {x : V} {H : Hp} {Q : VK} (ho : ∀ H', Same H H' → ok x H') (k : ∀ a H', H a = none → Same H H' → ExAt H' a C [(f, x)] → Q (.ref a) H') :
    [x].length ≤ 1000 ∧ ∀ a, H a = none → spIni C f ok (.ref a :: ([x] ++ [])) (upd H a (exo a C none)) (fun v H2 => v = .non ∧ Q (.ref a) H2) (fun _ _ _ => False) := by
  refine ⟨by show 1 ≤ 1000; decide, fun a ha => ⟨a, x, rfl, upd_same, ho _ (Same.new ha), fun dx hd hn => ⟨rfl, ?_⟩⟩⟩
  have hd0 : H dx = none := by rwa [upd_ne hn] at hd
  refine k a _ ha (((Same.new ha).put hd0).put ha) (.inr ⟨dx, upd_same, (upd_ne hn).trans upd_same⟩)
theorem mk_go0 {C : Addr} {H : Hp} {Q : VK} (k : ∀ a H', H a = none → Same H H' → ExAt H' a C [] → Q (.ref a) H') :
    ([] : List V).length ≤ 1000 ∧ ∀ a, H a = none → spIni0 C (.ref a :: ([] ++ [])) (upd H a (exo a C none)) (fun v H2 => v = .non ∧ Q (.ref a) H2) (fun _ _ _ => False) :=
  ⟨by show 0 ≤ 1000; decide, fun a ha => ⟨a, rfl, upd_same, rfl, k a _ ha (Same.new ha) (.inl ⟨rfl, upd_same⟩)⟩⟩
/-- C(..) of one of the errors' classes: its __init__ keeps sp -/
structure ExK (P : Program) (w : World) (K : PySem.W.Frag) (mg : Str → Option Value) (base : Heap) (x : Str) (ps : List Str) (sp : Sp) : Prop where
  o : OexC K (He.ga K x)
  g : mg x = some (.ref (He.ga K x))
  ex : ∃ f fd, FnOk P w K mg base CX0 1 f fd ps sp ∧ Binds K fd ps [] ∧ PySem.W.findIn K (.ref (He.ga K x)) "__init__" = some (some (.ref f)) ∧ PySem.W.typeIn K (.ref f) = some (.type "function")
section
variable {X : Cx} {x : Str} {ps : List Str} {sp : Sp} {e : Expr} {es : List Expr} {ta : TA} {p pos : Pos}
/-- C(e): a new error of the class, e its field -/
def tNewE (C : Addr) (f : Str) (ok : V → Hp → Prop) (te : TE) : TE := fun σ H Q => te σ H fun x H1 => (∀ H', Same H1 H' → ok x H') ∧ ∀ a H', H1 a = none → Same H1 H' → ExAt H' a C [(f, x)] → Q (.ref a) H'
theorem pe_exc {f : Str} {ok : V → Hp → Prop} {te : TE} (C : ExK X.prog X.w X.K X.mg X.base x ps (spIni (He.ga X.K x) f ok)) (hr : Room 2 X.A) (hg : Gl X x) (ha : PA X [e] (tCons te tNil)) (hdb : (x == ("__debug__" : Str)) = false := by decide)
    (he : starEach [e] X.env = (false, eval e X.env) :: starEach [] X.env := by rfl) : PE X (.Call (.Name x p) [e] [] pos) (tNewE (He.ga X.K x) f ok te) := by
  obtain ⟨g, fd, G, b, i, t⟩ := C.ex
  refine ⟨fun pins s σ H Q I h => wpAny_Call_Name_kw (ld_glob I hg C.g (PySem.W.callWith_K (h₀ := X.base) I.ok.mod.kin C.o.kC (thn (ha.run pos pins s σ H
    (fun vs H1 => match vs with | [v] => (∀ H', Same H1 H' → ok v H') ∧ ∀ a H', H1 a = none → Same H1 H' → ExAt H' a (He.ga X.K x) [(f, v)] → Q (.ref a) H' | _ => False) I h) fun us s1 hh => ?_) he (by rfl)) hdb)⟩
  obtain ⟨vs, H1, I1, r1, q1⟩ := hh
  match vs, q1 with
  | [v], q1 =>
    obtain ⟨o, k⟩ := q1
    obtain ⟨z1, z2⟩ := mk_go (Q := Q) o k
    exact ⟨I1.kIn, run_mkE C.o i t G hr b .nil I1 r1 z1 z2⟩
def tNewE0 (C : Addr) : TE := fun _ H Q => ∀ a H', H a = none → Same H H' → ExAt H' a C [] → Q (.ref a) H'
theorem pe_exc0 (C : ExK X.prog X.w X.K X.mg X.base x ps (spIni0 (He.ga X.K x))) (hr : Room 2 X.A) (hg : Gl X x) (hdb : (x == ("__debug__" : Str)) = false := by decide) : PE X (.Call (.Name x p) [] [] pos) (tNewE0 (He.ga X.K x)) := by
  obtain ⟨g, fd, G, b, i, t⟩ := C.ex
  refine ⟨fun pins s σ H Q I h => wpAny_Call_Name_kw (ld_glob I hg C.g (PySem.W.callWith_K0 I.kIn C.o.kC ?_) hdb)⟩
  obtain ⟨z1, z2⟩ := mk_go0 (Q := Q) h
  exact run_mkE (us := []) C.o i t G hr b .nil I .nil z1 z2
end
/-- the errors in a list, each with its class, its field, its value -/
inductive Made (K : PySem.W.Frag) (H : Hp) : List (Str × Str × V) → List V → Prop
  | nil : Made K H [] []
  | cons {x f : Str} {v : V} {a : Addr} {l : List (Str × Str × V)} {as : List V} : Err K H x a [(f, v)] → Made K H l as → Made K H ((x, f, v) :: l) (.ref a :: as)
theorem Made.same {K : PySem.W.Frag} {H H' : Hp} {l : List (Str × Str × V)} {as : List V} (h : Made K H l as) (s : Same H H') : Made K H' l as := by
  induction h with
  | nil => exact .nil
  | cons e _ ih => exact .cons (e.same s) ih
theorem Made.at_ {K : PySem.W.Frag} {H : Hp} {l : List (Str × Str × V)} {as : List V} (h : Made K H l as) : ∀ {k : Nat} {x f : Str} {v : V}, l[k]? = some (x, f, v) → ∃ a, as[k]? = some (.ref a) ∧ Err K H x a [(f, v)] := by
  induction h with
  | nil => intro k x f v e; simp at e
  | cons e0 _ ih =>
    intro k x f v e
    cases k with
    | zero =>
      simp at e
      obtain ⟨rfl, rfl, rfl⟩ := e
      exact ⟨_, rfl, e0⟩
    | succ k => exact ih (by simpa using e)
def numC (i : V) : List (Str × Str × V) := [("BadPointers", "index", i), ("BadContract", "line", i), ("BadProgram", "line", i), ("BadCount", "count", i), ("NoLine", "line", i), ("TooMany", "limit", i), ("NoFact", "index", i)]
def toldC (t r : V) : List (Str × Str × V) := [("BadName", "name", t), ("Taken", "name", t), ("NoFunction", "name", t), ("Stuck", "places", r), ("Parted", "places", r)]


structure TxtF (K : PySem.W.Frag) (mg : Str → Option Value) : Prop extends TxtX K mg where
  no_BadPointers_index : PySem.W.findIn K (.ref (He.ga K "BadPointers")) "index" = some none
  no_BadContract_line : PySem.W.findIn K (.ref (He.ga K "BadContract")) "line" = some none
  no_BadProgram_line : PySem.W.findIn K (.ref (He.ga K "BadProgram")) "line" = some none
  no_BadCount_count : PySem.W.findIn K (.ref (He.ga K "BadCount")) "count" = some none
  no_NoLine_line : PySem.W.findIn K (.ref (He.ga K "NoLine")) "line" = some none
  no_TooMany_limit : PySem.W.findIn K (.ref (He.ga K "TooMany")) "limit" = some none
  no_NoFact_index : PySem.W.findIn K (.ref (He.ga K "NoFact")) "index" = some none
  no_BadName_name : PySem.W.findIn K (.ref (He.ga K "BadName")) "name" = some none
  no_Taken_name : PySem.W.findIn K (.ref (He.ga K "Taken")) "name" = some none
  no_NoFunction_name : PySem.W.findIn K (.ref (He.ga K "NoFunction")) "name" = some none
  no_Stuck_places : PySem.W.findIn K (.ref (He.ga K "Stuck")) "places" = some none
  no_Parted_places : PySem.W.findIn K (.ref (He.ga K "Parted")) "places" = some none


def spNumbered (K : PySem.W.Frag) : Sp := fun vs H Q _ => ∃ i : Int, vs = [.int i] ∧ i.natAbs.log2 < 1920 ∧ ∀ (r : Addr) (as : List V) (H' : Hp), H r = none → Same H H' → H' r = some (.lst as) → Made K H' (numC (.int i)) as → Q (.ref r) H'
abbrev s_numbered : Stmt := topS 30
theorem sc_numbered : FnScope ["number", "found"] ["number"] (defScope s_numbered) := ⟨rfl, rfl, rfl, by decide +kernel, rfl, by decide +kernel, by decide +kernel⟩
theorem ok_numbered (T : TxtX K mg) (D : Def K mg "_law_numbered" s_numbered) (E_BadPointers : ExK P w K mg base "BadPointers" ["self", "index"] (spIni (He.ga K "BadPointers") "index" okI)) (E_BadContract : ExK P w K mg base "BadContract" ["self", "line"] (spIni (He.ga K "BadContract") "line" okI)) (E_BadProgram : ExK P w K mg base "BadProgram" ["self", "line"] (spIni (He.ga K "BadProgram") "line" okI)) (E_BadCount : ExK P w K mg base "BadCount" ["self", "count"] (spIni (He.ga K "BadCount") "count" okI)) (E_NoLine : ExK P w K mg base "NoLine" ["self", "line"] (spIni (He.ga K "NoLine") "line" okI)) (E_TooMany : ExK P w K mg base "TooMany" ["self", "limit"] (spIni (He.ga K "TooMany") "limit" okI)) (E_NoFact : ExK P w K mg base "NoFact" ["self", "index"] (spIni (He.ga K "NoFact") "index" okI)) : Cal P w K mg base 3 "_law_numbered" ["number"] (spNumbered K) := by
  refine D.cal sc_numbered (fun vs H Q E h => ?_) (fun _ _ _ _ _ _ us hl => match us, hl with | [_], _ => rfl) (fun f cdv A outer s H vs Q E hr h => ?_)
  · obtain ⟨i, rfl, _⟩ := h
    rfl

  obtain ⟨i, rfl, hi, k⟩ := h
  have ok : ∀ (H0 H' : Hp), Same H0 H' → okI (.int i) H' := fun _ _ _ => ⟨i, rfl, hi⟩
  refine ⟨_, (pss_cons (ps_set (i := 1) sc_numbered.nd rfl (by first | exact Or.inl rfl | exact Or.inr rfl) (pe_lst (pa_cons (pe_exc E_BadPointers (hr.mono (by decide)) rfl (pa_cons (pv 0) pa_nil)) (pa_cons (pe_exc E_BadContract (hr.mono (by decide)) rfl (pa_cons (pv 0) pa_nil)) (pa_cons (pe_exc E_BadProgram (hr.mono (by decide)) rfl (pa_cons (pv 0) pa_nil)) (pa_cons (pe_exc E_BadCount (hr.mono (by decide)) rfl (pa_cons (pv 0) pa_nil)) pa_nil))))))
      (pss_one (ps_ret (pe_op op_cat (pv 1) (pe_lst (pa_cons (pe_exc E_NoLine (hr.mono (by decide)) rfl (pa_cons (pv 0) pa_nil)) (pa_cons (pe_exc E_TooMany (hr.mono (by decide)) rfl (pa_cons (pv 0) pa_nil)) (pa_cons (pe_exc E_NoFact (hr.mono (by decide)) rfl (pa_cons (pv 0) pa_nil)) pa_nil)))))))), ?_⟩
  refine ⟨_, rfl, ok _, fun a1 G1 n1 s1 x1 => ⟨_, rfl, ok _, fun a2 G2 n2 s2 x2 => ⟨_, rfl, ok _, fun a3 G3 n3 s3 x3 => ⟨_, rfl, ok _, fun a4 G4 n4 s4 x4 => ⟨by show 4 ≤ sizeLine; decide, fun p hp => ?_⟩⟩⟩⟩⟩
  have s5 := Same.new (o := .lst [.ref a1, .ref a2, .ref a3, .ref a4]) hp
  have h5 := upd_same (H := G4) (a := p) (o := .lst [.ref a1, .ref a2, .ref a3, .ref a4])
  generalize upd G4 p (.lst [.ref a1, .ref a2, .ref a3, .ref a4]) = G5 at s5 h5 ⊢
  refine ⟨_, rfl, ⟨_, rfl, ok _, fun a6 G6 n6 s6 x6 => ⟨_, rfl, ok _, fun a7 G7 n7 s7 x7 => ⟨_, rfl, ok _, fun a8 G8 n8 s8 x8 => ⟨by show 3 ≤ sizeLine; decide, fun q hq => ⟨p, q, _, _, rfl, rfl, ((s6.trans s7).trans s8).trans (Same.new hq) _ _ h5, upd_same, by show 4 + 3 ≤ sizeLine; decide, fun r hr2 => ?_⟩⟩⟩⟩⟩⟩
  have s9 := (Same.new (o := .lst [.ref a6, .ref a7, .ref a8]) hq).trans (Same.new (o := .lst ([.ref a1, .ref a2, .ref a3, .ref a4] ++ [.ref a6, .ref a7, .ref a8])) hr2)
  have all : Same H _ := (((((((s1.trans s2).trans s3).trans s4).trans s5).trans s6).trans s7).trans s8)
  refine k r _ _ ((all.trans (Same.new hq)).free hr2) (all.trans s9) upd_same ?_
  exact .cons ⟨by decide +kernel, (x1.same (((((((s2.trans s3).trans s4).trans s5).trans s6).trans s7).trans s8).trans s9))⟩ (.cons ⟨by decide +kernel, (x2.same ((((((s3.trans s4).trans s5).trans s6).trans s7).trans s8).trans s9))⟩ (.cons ⟨by decide +kernel, (x3.same (((((s4.trans s5).trans s6).trans s7).trans s8).trans s9))⟩ (.cons ⟨by decide +kernel, (x4.same ((((s5.trans s6).trans s7).trans s8).trans s9))⟩ (.cons ⟨by decide +kernel, (x6.same ((s7.trans s8).trans s9))⟩ (.cons ⟨by decide +kernel, (x7.same (s8.trans s9))⟩ (.cons ⟨by decide +kernel, (x8.same s9)⟩ (.nil)))))))



def spTold (K : PySem.W.Frag) : Sp := fun vs H Q _ => ∃ (t : Str) (q : Addr) (l : List Int), vs = [.str t, .ref q] ∧ t.length ≤ 200 ∧ SqT K H q (l.map V.int) ∧ (∀ i ∈ l, i.natAbs.log2 < 1920) ∧ l.length ≤ 100 ∧
  ∀ (r : Addr) (as : List V) (H' : Hp), H r = none → Same H H' → H' r = some (.lst as) → Made K H' (toldC (.str t) (.ref q)) as → Q (.ref r) H'
theorem _root_.L2.Same.tup {K : PySem.W.Frag} {a : Addr} {H H' : Hp} {xs : List V} (s : Same H H') (h : SqT K H a xs) : SqT K H' a xs := by
  rcases h with (h | ⟨o, h⟩) | h
  · exact .inl (.inl (s _ _ h))
  · exact .inl (.inr ⟨o, s _ _ h⟩)
  · exact .inr h
abbrev s_told : Stmt := topS 33
theorem sc_told : FnScope ["text", "places"] ["text", "places"] (defScope s_told) := ⟨rfl, rfl, rfl, by decide +kernel, rfl, by decide +kernel, by decide +kernel⟩
theorem ok_told (T : TxtX K mg) (D : Def K mg "_law_told" s_told) (E_BadName : ExK P w K mg base "BadName" ["self", "name"] (spIni (He.ga K "BadName") "name" okS)) (E_Taken : ExK P w K mg base "Taken" ["self", "name"] (spIni (He.ga K "Taken") "name" okS)) (E_NoFunction : ExK P w K mg base "NoFunction" ["self", "name"] (spIni (He.ga K "NoFunction") "name" okS)) (E_Stuck : ExK P w K mg base "Stuck" ["self", "places"] (spIni (He.ga K "Stuck") "places" (okT K))) (E_Parted : ExK P w K mg base "Parted" ["self", "places"] (spIni (He.ga K "Parted") "places" (okT K))) : Cal P w K mg base 3 "_law_told" ["text", "places"] (spTold K) := by
  refine D.cal sc_told (fun vs H Q E h => ?_) (fun _ _ _ _ _ _ us hl => match us, hl with | [_, _], _ => rfl) (fun f cdv A outer s H vs Q E hr h => ?_)
  · obtain ⟨t, q, l, rfl, _⟩ := h
    rfl

  obtain ⟨t, q, l, rfl, ht, hT, hi, hl, k⟩ := h
  have okS1 : ∀ (H0 H' : Hp), Same H0 H' → okS (.str t) H' := fun _ _ _ => ⟨t, rfl, ht⟩
  have okT1 : ∀ (H0 H' : Hp), Same H H0 → Same H0 H' → okT K (.ref q) H' := fun _ _ u v => ⟨q, l, rfl, (u.trans v).tup hT, hi, hl⟩
  refine ⟨_, (pss_one (ps_ret (pe_lst (pa_cons (pe_exc E_BadName (hr.mono (by decide)) rfl (pa_cons (pv 0) pa_nil)) (pa_cons (pe_exc E_Taken (hr.mono (by decide)) rfl (pa_cons (pv 0) pa_nil)) (pa_cons (pe_exc E_NoFunction (hr.mono (by decide)) rfl (pa_cons (pv 0) pa_nil)) (pa_cons (pe_exc E_Stuck (hr.mono (by decide)) rfl (pa_cons (pv 1) pa_nil)) (pa_cons (pe_exc E_Parted (hr.mono (by decide)) rfl (pa_cons (pv 1) pa_nil)) pa_nil)))))))), ?_⟩
  refine ⟨_, rfl, okS1 _, fun a1 G1 n1 s1 x1 => ⟨_, rfl, okS1 _, fun a2 G2 n2 s2 x2 => ⟨_, rfl, okS1 _, fun a3 G3 n3 s3 x3 => ⟨_, rfl, (fun _ => okT1 _ _ (((s1.trans s2).trans s3))), fun a4 G4 n4 s4 x4 => ⟨_, rfl, (fun _ => okT1 _ _ ((((s1.trans s2).trans s3).trans s4))), fun a5 G5 n5 s5 x5 => ⟨by show 5 ≤ sizeLine; decide, fun r hp => ?_⟩⟩⟩⟩⟩⟩
  have s6 := Same.new (o := .lst [.ref a1, .ref a2, .ref a3, .ref a4, .ref a5]) hp
  refine k r _ _ (((((s1.trans s2).trans s3).trans s4).trans s5).free hp) ((((((s1.trans s2).trans s3).trans s4).trans s5).trans s6)) upd_same ?_
  exact .cons ⟨by decide +kernel, (x1.same ((((s2.trans s3).trans s4).trans s5).trans s6))⟩ (.cons ⟨by decide +kernel, (x2.same (((s3.trans s4).trans s5).trans s6))⟩ (.cons ⟨by decide +kernel, (x3.same ((s4.trans s5).trans s6))⟩ (.cons ⟨by decide +kernel, (x4.same (s5.trans s6))⟩ (.cons ⟨by decide +kernel, (x5.same s6)⟩ (.nil)))))



def spNumbers (K : PySem.W.Frag) : Sp := fun vs H Q _ => ∃ (r : Addr) (as : List V) (v : V), vs = [.ref r] ∧ H r = some (.lst as) ∧ Made K H (numC v) as ∧ ∀ (q : Addr) (H' : Hp), H q = none → Same H H' → H' q = some (.lst (List.replicate 7 v)) → Q (.ref q) H'
abbrev s_numbers : Stmt := topS 31
theorem sc_numbers : FnScope ["made", "found"] ["made"] (defScope s_numbers) := ⟨rfl, rfl, rfl, by decide +kernel, rfl, by decide +kernel, by decide +kernel⟩
theorem ok_numbers (T : TxtF K mg) (D : Def K mg "_law_numbers" s_numbers) : Cal P w K mg base 1 "_law_numbers" ["made"] (spNumbers K) := by
  refine D.cal sc_numbers (fun vs H Q E h => ?_) (fun _ _ _ _ _ _ us hl => match us, hl with | [_], _ => rfl) (fun f cdv A outer s H vs Q E hr h => ?_)
  · obtain ⟨r, as, v, rfl, _⟩ := h
    rfl

  obtain ⟨r, as, v, rfl, hr1, M, k⟩ := h
  obtain ⟨a0, e0, x0⟩ := M.at_ (k := 0) rfl
  obtain ⟨a1, e1, x1⟩ := M.at_ (k := 1) rfl
  obtain ⟨a2, e2, x2⟩ := M.at_ (k := 2) rfl
  obtain ⟨a3, e3, x3⟩ := M.at_ (k := 3) rfl
  obtain ⟨a4, e4, x4⟩ := M.at_ (k := 4) rfl
  obtain ⟨a5, e5, x5⟩ := M.at_ (k := 5) rfl
  obtain ⟨a6, e6, x6⟩ := M.at_ (k := 6) rfl
  refine ⟨_, (pss_cons (ps_set (i := 1) sc_numbers.nd rfl (by first | exact Or.inl rfl | exact Or.inr rfl) (pe_lst (pa_cons (pe_ef (pe_ix ix_list (pv 0) pe_int (fun _ _ => rfl)) rfl) (pa_cons (pe_ef (pe_ix ix_list (pv 0) pe_int (fun _ _ => rfl)) rfl) (pa_cons (pe_ef (pe_ix ix_list (pv 0) pe_int (fun _ _ => rfl)) rfl) (pa_cons (pe_ef (pe_ix ix_list (pv 0) pe_int (fun _ _ => rfl)) rfl) pa_nil))))))
      (pss_one (ps_ret (pe_op op_cat (pv 1) (pe_lst (pa_cons (pe_ef (pe_ix ix_list (pv 0) pe_int (fun _ _ => rfl)) rfl) (pa_cons (pe_ef (pe_ix ix_list (pv 0) pe_int (fun _ _ => rfl)) rfl) (pa_cons (pe_ef (pe_ix ix_list (pv 0) pe_int (fun _ _ => rfl)) rfl) pa_nil)))))))), ?_⟩
  refine ⟨_, rfl, r, as, 0, _, rfl, rfl, SqL.of ((Same.refl _) _ _ hr1), at_of (j := 0) rfl e0, a0, _, _, _, rfl, (x0.same (Same.refl _)).2, T.exv _ x0.1, T.no_BadPointers_index, rfl, _, rfl, r, as, 1, _, rfl, rfl, SqL.of ((Same.refl _) _ _ hr1), at_of (j := 1) rfl e1, a1, _, _, _, rfl, (x1.same (Same.refl _)).2, T.exv _ x1.1, T.no_BadContract_line, rfl, _, rfl, r, as, 2, _, rfl, rfl, SqL.of ((Same.refl _) _ _ hr1), at_of (j := 2) rfl e2, a2, _, _, _, rfl, (x2.same (Same.refl _)).2, T.exv _ x2.1, T.no_BadProgram_line, rfl, _, rfl, r, as, 3, _, rfl, rfl, SqL.of ((Same.refl _) _ _ hr1), at_of (j := 3) rfl e3, a3, _, _, _, rfl, (x3.same (Same.refl _)).2, T.exv _ x3.1, T.no_BadCount_count, rfl, by show 4 ≤ sizeLine; decide, fun p hp => ?_⟩
  have s1 := Same.new (o := .lst [v, v, v, v]) hp
  have h1 := upd_same (H := H) (a := p) (o := .lst [v, v, v, v])
  generalize upd H p (.lst [v, v, v, v]) = H1 at s1 h1 ⊢
  refine ⟨_, rfl, _, rfl, r, as, 4, _, rfl, rfl, SqL.of (s1 _ _ hr1), at_of (j := 4) rfl e4, a4, _, _, _, rfl, (x4.same s1).2, T.exv _ x4.1, T.no_NoLine_line, rfl, _, rfl, r, as, 5, _, rfl, rfl, SqL.of (s1 _ _ hr1), at_of (j := 5) rfl e5, a5, _, _, _, rfl, (x5.same s1).2, T.exv _ x5.1, T.no_TooMany_limit, rfl, _, rfl, r, as, 6, _, rfl, rfl, SqL.of (s1 _ _ hr1), at_of (j := 6) rfl e6, a6, _, _, _, rfl, (x6.same s1).2, T.exv _ x6.1, T.no_NoFact_index, rfl, by show 3 ≤ sizeLine; decide, fun q hq => ⟨p, q, _, _, rfl, rfl, Same.new hq _ _ h1, upd_same, by show 4 + 3 ≤ sizeLine; decide, fun u hu1 => ?_⟩⟩
  exact k u _ ((s1.trans (Same.new hq)).free hu1) ((s1.trans (Same.new hq)).trans (Same.new hu1)) upd_same



def spToldF (K : PySem.W.Frag) : Sp := fun vs H Q _ => ∃ (r : Addr) (as : List V) (t u : V), vs = [.ref r] ∧ H r = some (.lst as) ∧ Made K H (toldC t u) as ∧ ∀ (q : Addr) (H' : Hp), H q = none → Same H H' → H' q = some (.lst [t, t, t, u, u]) → Q (.ref q) H'
abbrev s_told_fields : Stmt := topS 34
theorem sc_told_fields : FnScope ["made"] ["made"] (defScope s_told_fields) := ⟨rfl, rfl, rfl, by decide +kernel, rfl, by decide +kernel, by decide +kernel⟩
theorem ok_told_fields (T : TxtF K mg) (D : Def K mg "_law_told_fields" s_told_fields) : Cal P w K mg base 1 "_law_told_fields" ["made"] (spToldF K) := by
  refine D.cal sc_told_fields (fun vs H Q E h => ?_) (fun _ _ _ _ _ _ us hl => match us, hl with | [_], _ => rfl) (fun f cdv A outer s H vs Q E hr h => ?_)
  · obtain ⟨r, as, t, u, rfl, _⟩ := h
    rfl

  obtain ⟨r, as, t, u, rfl, hr1, M, k⟩ := h
  obtain ⟨a0, e0, x0⟩ := M.at_ (k := 0) rfl
  obtain ⟨a1, e1, x1⟩ := M.at_ (k := 1) rfl
  obtain ⟨a2, e2, x2⟩ := M.at_ (k := 2) rfl
  obtain ⟨a3, e3, x3⟩ := M.at_ (k := 3) rfl
  obtain ⟨a4, e4, x4⟩ := M.at_ (k := 4) rfl
  refine ⟨_, (pss_one (ps_ret (pe_lst (pa_cons (pe_ef (pe_ix ix_list (pv 0) pe_int (fun _ _ => rfl)) rfl) (pa_cons (pe_ef (pe_ix ix_list (pv 0) pe_int (fun _ _ => rfl)) rfl) (pa_cons (pe_ef (pe_ix ix_list (pv 0) pe_int (fun _ _ => rfl)) rfl) (pa_cons (pe_ef (pe_ix ix_list (pv 0) pe_int (fun _ _ => rfl)) rfl) (pa_cons (pe_ef (pe_ix ix_list (pv 0) pe_int (fun _ _ => rfl)) rfl) pa_nil)))))))), ?_⟩
  refine ⟨_, rfl, r, as, 0, _, rfl, rfl, SqL.of ((Same.refl _) _ _ hr1), at_of (j := 0) rfl e0, a0, _, _, _, rfl, (x0.same (Same.refl _)).2, T.exv _ x0.1, T.no_BadName_name, rfl, _, rfl, r, as, 1, _, rfl, rfl, SqL.of ((Same.refl _) _ _ hr1), at_of (j := 1) rfl e1, a1, _, _, _, rfl, (x1.same (Same.refl _)).2, T.exv _ x1.1, T.no_Taken_name, rfl, _, rfl, r, as, 2, _, rfl, rfl, SqL.of ((Same.refl _) _ _ hr1), at_of (j := 2) rfl e2, a2, _, _, _, rfl, (x2.same (Same.refl _)).2, T.exv _ x2.1, T.no_NoFunction_name, rfl, _, rfl, r, as, 3, _, rfl, rfl, SqL.of ((Same.refl _) _ _ hr1), at_of (j := 3) rfl e3, a3, _, _, _, rfl, (x3.same (Same.refl _)).2, T.exv _ x3.1, T.no_Stuck_places, rfl, _, rfl, r, as, 4, _, rfl, rfl, SqL.of ((Same.refl _) _ _ hr1), at_of (j := 4) rfl e4, a4, _, _, _, rfl, (x4.same (Same.refl _)).2, T.exv _ x4.1, T.no_Parted_places, rfl, by show 5 ≤ sizeLine; decide, fun p hp => ?_⟩
  exact k p _ hp (Same.new hp) upd_same

end
end K71
end
section
set_option Elab.async false
set_option linter.all false
set_option maxRecDepth 100000
set_option maxHeartbeats 4000000
namespace K71
open PySem PySem.Spec PyProof.Rows L2
local macro_rules | `(tactic| walk_at "go") => `(tactic| first | refine ⟨_, rfl, ?_⟩ | refine .inl ⟨_, rfl, ?_⟩ | refine ⟨_, _, rfl, rfl, (by first | (show (0 : Int) < _; decide) | exact Or.inl ⟨by decide, by decide⟩ | exact Or.inr ⟨by decide, by decide⟩), ?_⟩ | refine ⟨_, _, rfl, rfl, ?_⟩)
section
variable {P : Program} {w : World} {K : PySem.W.Frag} {mg : Str → Option Value} {base : Heap}

theorem TxtX.self {K : PySem.W.Frag} {mg : Str → Option Value} (T : TxtX K mg) {x : Str} (h : x ∈ names) : PySem.W.kitOne K (.ref (He.ga K x)) (.ref (He.ga K x)) = some true := by
  have z := T.isi x h x h
  rwa [decide_eq_true rfl] at z
theorem trip {l : List (Str × Str × V)} {i : Nat} (h : i < l.length) : ∃ x f v, l[i]? = some (x, f, v) := ⟨l[i].1, l[i].2.1, l[i].2.2, List.getElem?_eq_getElem h⟩


def spNumR (K : PySem.W.Frag) : Sp := fun vs H Q _ => ∃ (r : Addr) (as : List V) (v : V), vs = [.ref r] ∧ H r = some (.lst as) ∧ Made K H (numC v) as ∧ ∀ H', Same H H' → Q (.bl true) H'
abbrev s_numbered_right : Stmt := topS 32
theorem sc_numbered_right : FnScope ["made", "found", "k"] ["made"] (defScope s_numbered_right) := ⟨rfl, rfl, rfl, by decide +kernel, rfl, by decide +kernel, by decide +kernel⟩
theorem ok_numbered_right (T : TxtX K mg) (D : Def K mg "_law_numbered_right" s_numbered_right) (C__law_is_one : Cal P w K mg base 2 "_law_is_one" ["e", "is_own"] (spIsOne K)) : Cal P w K mg base 3 "_law_numbered_right" ["made"] (spNumR K) := by
  refine D.cal sc_numbered_right (fun vs H Q E h => ?_) (fun _ _ _ _ _ _ us hl => match us, hl with | [_], _ => rfl) (fun f cdv A outer s H vs Q E hr h => ?_)
  · obtain ⟨r, as, v, rfl, _⟩ := h
    rfl

  obtain ⟨r, as, v, rfl, hr1, M, k⟩ := h
  obtain ⟨a0, e0, x0⟩ := M.at_ (k := 0) rfl
  obtain ⟨a1, e1, x1⟩ := M.at_ (k := 1) rfl
  obtain ⟨a2, e2, x2⟩ := M.at_ (k := 2) rfl
  obtain ⟨a3, e3, x3⟩ := M.at_ (k := 3) rfl
  obtain ⟨a4, e4, x4⟩ := M.at_ (k := 4) rfl
  obtain ⟨a5, e5, x5⟩ := M.at_ (k := 5) rfl
  obtain ⟨a6, e6, x6⟩ := M.at_ (k := 6) rfl
  refine ⟨_, (pss_cons (ps_set (i := 1) sc_numbered_right.nd rfl (by first | exact Or.inl rfl | exact Or.inr rfl) (pe_lst (pa_cons (pe_callB call_isEx (by rfl) T.f_isinstance (by decide +kernel) (pa_cons (pe_ix ix_list (pv 0) pe_int (fun _ _ => rfl)) (pa_cons (pe_gref (by rfl) T.g_BadPointers) pa_nil))) (pa_cons (pe_callB call_isEx (by rfl) T.f_isinstance (by decide +kernel) (pa_cons (pe_ix ix_list (pv 0) pe_int (fun _ _ => rfl)) (pa_cons (pe_gref (by rfl) T.g_BadContract) pa_nil))) pa_nil))))
      (pss_cons (ps_set (i := 1) sc_numbered_right.nd rfl (by first | exact Or.inl rfl | exact Or.inr rfl) (pe_op op_cat (pv 1) (pe_lst (pa_cons (pe_callB call_isEx (by rfl) T.f_isinstance (by decide +kernel) (pa_cons (pe_ix ix_list (pv 0) pe_int (fun _ _ => rfl)) (pa_cons (pe_gref (by rfl) T.g_BadProgram) pa_nil))) (pa_cons (pe_callB call_isEx (by rfl) T.f_isinstance (by decide +kernel) (pa_cons (pe_ix ix_list (pv 0) pe_int (fun _ _ => rfl)) (pa_cons (pe_gref (by rfl) T.g_BadCount) pa_nil))) pa_nil)))))
      (pss_cons (ps_set (i := 1) sc_numbered_right.nd rfl (by first | exact Or.inl rfl | exact Or.inr rfl) (pe_op op_cat (pv 1) (pe_lst (pa_cons (pe_callB call_isEx (by rfl) T.f_isinstance (by decide +kernel) (pa_cons (pe_ix ix_list (pv 0) pe_int (fun _ _ => rfl)) (pa_cons (pe_gref (by rfl) T.g_NoLine) pa_nil))) (pa_cons (pe_callB call_isEx (by rfl) T.f_isinstance (by decide +kernel) (pa_cons (pe_ix ix_list (pv 0) pe_int (fun _ _ => rfl)) (pa_cons (pe_gref (by rfl) T.g_TooMany) pa_nil))) (pa_cons (pe_callB call_isEx (by rfl) T.f_isinstance (by decide +kernel) (pa_cons (pe_ix ix_list (pv 0) pe_int (fun _ _ => rfl)) (pa_cons (pe_gref (by rfl) T.g_NoFact) pa_nil))) pa_nil))))))
      (pss_cons (ps_for PassesOwn.never rfl (pi_range1 rfl T.f_range (pa_cons pe_int pa_nil)) (pg_name (i := 2) sc_numbered_right.nd rfl (by first | exact Or.inl rfl | exact Or.inr rfl)) (pss_one (ps_if (pt_not (pt_val (pe_cal C__law_is_one (hr.mono (by decide)) rfl (pa_cons (pe_ix ix_list (pv 0) (pv 2) (fun _ _ => rfl)) (pa_cons (pe_ix ix_list (pv 1) (pv 2) (fun _ _ => rfl)) pa_nil))))) (pss_one (ps_ret pe_bl)) pss_nil)))
      (pss_one (ps_ret pe_bl)))))), ?_⟩
  refine ⟨_, rfl, r, as, 0, _, rfl, rfl, SqL.of ((Same.refl _) _ _ hr1), at_of (j := 0) rfl e0, a0, _, _, _, _, _, rfl, (x0.same (Same.refl _)).2, T.exv _ x0.1, .own _, T.self x0.1, ⟨_, rfl, r, as, 1, _, rfl, rfl, SqL.of ((Same.refl _) _ _ hr1), at_of (j := 1) rfl e1, a1, _, _, _, _, _, rfl, (x1.same (Same.refl _)).2, T.exv _ x1.1, .own _, T.self x1.1, ⟨by show 2 ≤ sizeLine; decide, fun p0 f0 => ?_⟩⟩⟩
  have h0 := upd_same (H := H) (a := p0) (o := .lst [V.bl true, V.bl true])
  have s0 : Same H _ := Same.new (o := .lst [V.bl true, V.bl true]) f0
  generalize upd H p0 (.lst [V.bl true, V.bl true]) = H0 at h0 s0 ⊢
  refine ⟨_, rfl, ⟨_, rfl, r, as, 2, _, rfl, rfl, SqL.of (s0 _ _ hr1), at_of (j := 2) rfl e2, a2, _, _, _, _, _, rfl, (x2.same s0).2, T.exv _ x2.1, .own _, T.self x2.1, ⟨_, rfl, r, as, 3, _, rfl, rfl, SqL.of (s0 _ _ hr1), at_of (j := 3) rfl e3, a3, _, _, _, _, _, rfl, (x3.same s0).2, T.exv _ x3.1, .own _, T.self x3.1, ⟨by show 2 ≤ sizeLine; decide, fun q1 m1 => ⟨p0, q1, _, _, rfl, rfl, Same.new m1 _ _ h0, upd_same, by show 4 ≤ sizeLine; decide, fun p1 r1 => ?_⟩⟩⟩⟩⟩
  have f1 : H p1 = none := (s0.trans (Same.new m1)).free r1
  have s1 : Same H (upd (upd H0 q1 (.lst [V.bl true, V.bl true])) p1 (.lst ([V.bl true, V.bl true] ++ [V.bl true, V.bl true]))) := (s0.trans (Same.new m1)).trans (Same.new r1)
  have h1 : (upd (upd H0 q1 (.lst [V.bl true, V.bl true])) p1 (.lst ([V.bl true, V.bl true] ++ [V.bl true, V.bl true]))) p1 = some (.lst ([V.bl true, V.bl true] ++ [V.bl true, V.bl true])) := upd_same
  generalize upd (upd H0 q1 (.lst [V.bl true, V.bl true])) p1 (.lst ([V.bl true, V.bl true] ++ [V.bl true, V.bl true])) = H1 at s1 h1 ⊢
  refine ⟨_, rfl, ⟨_, rfl, r, as, 4, _, rfl, rfl, SqL.of (s1 _ _ hr1), at_of (j := 4) rfl e4, a4, _, _, _, _, _, rfl, (x4.same s1).2, T.exv _ x4.1, .own _, T.self x4.1, ⟨_, rfl, r, as, 5, _, rfl, rfl, SqL.of (s1 _ _ hr1), at_of (j := 5) rfl e5, a5, _, _, _, _, _, rfl, (x5.same s1).2, T.exv _ x5.1, .own _, T.self x5.1, ⟨_, rfl, r, as, 6, _, rfl, rfl, SqL.of (s1 _ _ hr1), at_of (j := 6) rfl e6, a6, _, _, _, _, _, rfl, (x6.same s1).2, T.exv _ x6.1, .own _, T.self x6.1, ⟨by show 3 ≤ sizeLine; decide, fun q2 m2 => ⟨p1, q2, _, _, rfl, rfl, Same.new m2 _ _ h1, upd_same, by show 7 ≤ sizeLine; decide, fun p2 r2 => ?_⟩⟩⟩⟩⟩⟩
  have f2 : H p2 = none := (s1.trans (Same.new m2)).free r2
  have s2 : Same H (upd (upd H1 q2 (.lst [V.bl true, V.bl true, V.bl true])) p2 (.lst (([V.bl true, V.bl true] ++ [V.bl true, V.bl true]) ++ [V.bl true, V.bl true, V.bl true]))) := (s1.trans (Same.new m2)).trans (Same.new r2)
  have h2 : (upd (upd H1 q2 (.lst [V.bl true, V.bl true, V.bl true])) p2 (.lst (([V.bl true, V.bl true] ++ [V.bl true, V.bl true]) ++ [V.bl true, V.bl true, V.bl true]))) p2 = some (.lst (([V.bl true, V.bl true] ++ [V.bl true, V.bl true]) ++ [V.bl true, V.bl true, V.bl true])) := upd_same
  generalize upd (upd H1 q2 (.lst [V.bl true, V.bl true, V.bl true])) p2 (.lst (([V.bl true, V.bl true] ++ [V.bl true, V.bl true]) ++ [V.bl true, V.bl true, V.bl true])) = H2 at s2 h2 ⊢

  have hL : H2 p2 = some (.lst (List.replicate 7 (V.bl true))) := h2
  refine ⟨7, rfl, by decide, by decide, for_range (n := 7) (fun i σ H' => ∃ v : Option V, σ = [some (.ref r), some (.ref p2), v] ∧ Same H H' ∧ H' p2 = some (.lst (List.replicate 7 (V.bl true)))) ⟨none, rfl, s2, hL⟩ ?_ ?_⟩
  · rintro i σ H2 hi ⟨vo, rfl, s2, h2⟩
    obtain ⟨x, f1, v1, hx⟩ := trip (l := numC v) (i := i) hi
    obtain ⟨a, ea, xa⟩ := M.at_ hx
    have hb : (List.replicate 7 (V.bl true))[i]? = some (V.bl true) := by
      rw [List.getElem?_replicate, if_pos hi]
    refine ⟨_, rfl, _, rfl, r, as, _, _, rfl, rfl, SqL.of (s2 _ _ hr1), at_of (Int.zero_add _) ea, _, rfl, _, rfl, p2, _, _, _, rfl, rfl, SqL.of h2, at_of (Int.zero_add _) hb, ?_⟩
    exact ⟨a, x, _, rfl, xa.same s2, fun H3 s3 => ⟨true, rfl, iteF ⟨_, rfl, s2.trans s3, s3 _ _ h2⟩⟩⟩
  · rintro σ H2 ⟨vo, rfl, s2, h2⟩
    exact k H2 s2



def spToldR (K : PySem.W.Frag) : Sp := fun vs H Q _ => ∃ (r : Addr) (as : List V) (t u : V), vs = [.ref r] ∧ H r = some (.lst as) ∧ Made K H (toldC t u) as ∧ ∀ H', Same H H' → Q (.bl true) H'
abbrev s_told_right : Stmt := topS 35
theorem sc_told_right : FnScope ["made", "found", "k"] ["made"] (defScope s_told_right) := ⟨rfl, rfl, rfl, by decide +kernel, rfl, by decide +kernel, by decide +kernel⟩
theorem ok_told_right (T : TxtX K mg) (D : Def K mg "_law_told_right" s_told_right) (C__law_is_one : Cal P w K mg base 2 "_law_is_one" ["e", "is_own"] (spIsOne K)) : Cal P w K mg base 3 "_law_told_right" ["made"] (spToldR K) := by
  refine D.cal sc_told_right (fun vs H Q E h => ?_) (fun _ _ _ _ _ _ us hl => match us, hl with | [_], _ => rfl) (fun f cdv A outer s H vs Q E hr h => ?_)
  · obtain ⟨r, as, t, u, rfl, _⟩ := h
    rfl

  obtain ⟨r, as, t, u, rfl, hr1, M, k⟩ := h
  obtain ⟨a0, e0, x0⟩ := M.at_ (k := 0) rfl
  obtain ⟨a1, e1, x1⟩ := M.at_ (k := 1) rfl
  obtain ⟨a2, e2, x2⟩ := M.at_ (k := 2) rfl
  obtain ⟨a3, e3, x3⟩ := M.at_ (k := 3) rfl
  obtain ⟨a4, e4, x4⟩ := M.at_ (k := 4) rfl
  refine ⟨_, (pss_cons (ps_set (i := 1) sc_told_right.nd rfl (by first | exact Or.inl rfl | exact Or.inr rfl) (pe_lst (pa_cons (pe_callB call_isEx (by rfl) T.f_isinstance (by decide +kernel) (pa_cons (pe_ix ix_list (pv 0) pe_int (fun _ _ => rfl)) (pa_cons (pe_gref (by rfl) T.g_BadName) pa_nil))) (pa_cons (pe_callB call_isEx (by rfl) T.f_isinstance (by decide +kernel) (pa_cons (pe_ix ix_list (pv 0) pe_int (fun _ _ => rfl)) (pa_cons (pe_gref (by rfl) T.g_Taken) pa_nil))) (pa_cons (pe_callB call_isEx (by rfl) T.f_isinstance (by decide +kernel) (pa_cons (pe_ix ix_list (pv 0) pe_int (fun _ _ => rfl)) (pa_cons (pe_gref (by rfl) T.g_NoFunction) pa_nil))) pa_nil)))))
      (pss_cons (ps_set (i := 1) sc_told_right.nd rfl (by first | exact Or.inl rfl | exact Or.inr rfl) (pe_op op_cat (pv 1) (pe_lst (pa_cons (pe_callB call_isEx (by rfl) T.f_isinstance (by decide +kernel) (pa_cons (pe_ix ix_list (pv 0) pe_int (fun _ _ => rfl)) (pa_cons (pe_gref (by rfl) T.g_Stuck) pa_nil))) (pa_cons (pe_callB call_isEx (by rfl) T.f_isinstance (by decide +kernel) (pa_cons (pe_ix ix_list (pv 0) pe_int (fun _ _ => rfl)) (pa_cons (pe_gref (by rfl) T.g_Parted) pa_nil))) pa_nil)))))
      (pss_cons (ps_for PassesOwn.never rfl (pi_range1 rfl T.f_range (pa_cons pe_int pa_nil)) (pg_name (i := 2) sc_told_right.nd rfl (by first | exact Or.inl rfl | exact Or.inr rfl)) (pss_one (ps_if (pt_not (pt_val (pe_cal C__law_is_one (hr.mono (by decide)) rfl (pa_cons (pe_ix ix_list (pv 0) (pv 2) (fun _ _ => rfl)) (pa_cons (pe_ix ix_list (pv 1) (pv 2) (fun _ _ => rfl)) pa_nil))))) (pss_one (ps_ret pe_bl)) pss_nil)))
      (pss_one (ps_ret pe_bl))))), ?_⟩
  refine ⟨_, rfl, r, as, 0, _, rfl, rfl, SqL.of ((Same.refl _) _ _ hr1), at_of (j := 0) rfl e0, a0, _, _, _, _, _, rfl, (x0.same (Same.refl _)).2, T.exv _ x0.1, .own _, T.self x0.1, ⟨_, rfl, r, as, 1, _, rfl, rfl, SqL.of ((Same.refl _) _ _ hr1), at_of (j := 1) rfl e1, a1, _, _, _, _, _, rfl, (x1.same (Same.refl _)).2, T.exv _ x1.1, .own _, T.self x1.1, ⟨_, rfl, r, as, 2, _, rfl, rfl, SqL.of ((Same.refl _) _ _ hr1), at_of (j := 2) rfl e2, a2, _, _, _, _, _, rfl, (x2.same (Same.refl _)).2, T.exv _ x2.1, .own _, T.self x2.1, ⟨by show 3 ≤ sizeLine; decide, fun p0 f0 => ?_⟩⟩⟩⟩
  have h0 := upd_same (H := H) (a := p0) (o := .lst [V.bl true, V.bl true, V.bl true])
  have s0 : Same H _ := Same.new (o := .lst [V.bl true, V.bl true, V.bl true]) f0
  generalize upd H p0 (.lst [V.bl true, V.bl true, V.bl true]) = H0 at h0 s0 ⊢
  refine ⟨_, rfl, ⟨_, rfl, r, as, 3, _, rfl, rfl, SqL.of (s0 _ _ hr1), at_of (j := 3) rfl e3, a3, _, _, _, _, _, rfl, (x3.same s0).2, T.exv _ x3.1, .own _, T.self x3.1, ⟨_, rfl, r, as, 4, _, rfl, rfl, SqL.of (s0 _ _ hr1), at_of (j := 4) rfl e4, a4, _, _, _, _, _, rfl, (x4.same s0).2, T.exv _ x4.1, .own _, T.self x4.1, ⟨by show 2 ≤ sizeLine; decide, fun q1 m1 => ⟨p0, q1, _, _, rfl, rfl, Same.new m1 _ _ h0, upd_same, by show 5 ≤ sizeLine; decide, fun p1 r1 => ?_⟩⟩⟩⟩⟩
  have f1 : H p1 = none := (s0.trans (Same.new m1)).free r1
  have s1 : Same H (upd (upd H0 q1 (.lst [V.bl true, V.bl true])) p1 (.lst ([V.bl true, V.bl true, V.bl true] ++ [V.bl true, V.bl true]))) := (s0.trans (Same.new m1)).trans (Same.new r1)
  have h1 : (upd (upd H0 q1 (.lst [V.bl true, V.bl true])) p1 (.lst ([V.bl true, V.bl true, V.bl true] ++ [V.bl true, V.bl true]))) p1 = some (.lst ([V.bl true, V.bl true, V.bl true] ++ [V.bl true, V.bl true])) := upd_same
  generalize upd (upd H0 q1 (.lst [V.bl true, V.bl true])) p1 (.lst ([V.bl true, V.bl true, V.bl true] ++ [V.bl true, V.bl true])) = H1 at s1 h1 ⊢

  have hL : H1 p1 = some (.lst (List.replicate 5 (V.bl true))) := h1
  refine ⟨5, rfl, by decide, by decide, for_range (n := 5) (fun i σ H' => ∃ v : Option V, σ = [some (.ref r), some (.ref p1), v] ∧ Same H H' ∧ H' p1 = some (.lst (List.replicate 5 (V.bl true)))) ⟨none, rfl, s1, hL⟩ ?_ ?_⟩
  · rintro i σ H2 hi ⟨vo, rfl, s2, h2⟩
    obtain ⟨x, f1, v1, hx⟩ := trip (l := toldC t u) (i := i) hi
    obtain ⟨a, ea, xa⟩ := M.at_ hx
    have hb : (List.replicate 5 (V.bl true))[i]? = some (V.bl true) := by
      rw [List.getElem?_replicate, if_pos hi]
    refine ⟨_, rfl, _, rfl, r, as, _, _, rfl, rfl, SqL.of (s2 _ _ hr1), at_of (Int.zero_add _) ea, _, rfl, _, rfl, p1, _, _, _, rfl, rfl, SqL.of h2, at_of (Int.zero_add _) hb, ?_⟩
    exact ⟨a, x, _, rfl, xa.same s2, fun H3 s3 => ⟨true, rfl, iteF ⟨_, rfl, s2.trans s3, s3 _ _ h2⟩⟩⟩
  · rintro σ H2 ⟨vo, rfl, s2, h2⟩
    exact k H2 s2



def spPlain : Sp := fun vs H Q _ => vs = [] ∧ ∀ H', Same H H' → Q (.bl true) H'
abbrev s_plain_right : Stmt := topS 36
theorem sc_plain_right : FnScope ["one", "two", "three", "four", "five", "six", "found"] [] (defScope s_plain_right) := ⟨rfl, rfl, rfl, by decide +kernel, rfl, by decide +kernel, by decide +kernel⟩
theorem ok_plain_right (T : TxtX K mg) (D : Def K mg "_law_plain_right" s_plain_right) (C__law_is_one : Cal P w K mg base 2 "_law_is_one" ["e", "is_own"] (spIsOne K)) (E_BadPlaces : ExK P w K mg base "BadPlaces" ["self"] (spIni0 (He.ga K "BadPlaces"))) (E_OtherPointers : ExK P w K mg base "OtherPointers" ["self"] (spIni0 (He.ga K "OtherPointers"))) (E_HasRegisters : ExK P w K mg base "HasRegisters" ["self"] (spIni0 (He.ga K "HasRegisters"))) (E_NotTwo : ExK P w K mg base "NotTwo" ["self"] (spIni0 (He.ga K "NotTwo"))) (E_Clash : ExK P w K mg base "Clash" ["self"] (spIni0 (He.ga K "Clash"))) (E_NothingToUndo : ExK P w K mg base "NothingToUndo" ["self"] (spIni0 (He.ga K "NothingToUndo"))) : Cal P w K mg base 3 "_law_plain_right" [] spPlain := by
  refine D.cal sc_plain_right (fun vs H Q E h => ?_) (fun _ _ _ _ _ _ us hl => match us, hl with | [], _ => rfl) (fun f cdv A outer s H vs Q E hr h => ?_)
  · obtain ⟨rfl, _⟩ := h
    rfl

  obtain ⟨rfl, k⟩ := h
  refine ⟨_, (pss_cons (ps_asg (pe_tup (pa_cons (pe_exc0 E_BadPlaces (hr.mono (by decide)) rfl) (pa_cons (pe_exc0 E_OtherPointers (hr.mono (by decide)) rfl) (pa_cons (pe_exc0 E_HasRegisters (hr.mono (by decide)) rfl) (pa_cons (pe_exc0 E_NotTwo (hr.mono (by decide)) rfl) pa_nil))))) (pg_tup rfl (pgs_cons (pg_name (i := 0) sc_plain_right.nd rfl (by first | exact Or.inl rfl | exact Or.inr rfl)) (pgs_cons (pg_name (i := 1) sc_plain_right.nd rfl (by first | exact Or.inl rfl | exact Or.inr rfl)) (pgs_cons (pg_name (i := 2) sc_plain_right.nd rfl (by first | exact Or.inl rfl | exact Or.inr rfl)) (pgs_cons (pg_name (i := 3) sc_plain_right.nd rfl (by first | exact Or.inl rfl | exact Or.inr rfl)) pgs_nil))))))
      (pss_cons (ps_par (i := 4) (j := 5) (by rfl) sc_plain_right.nd rfl rfl (by decide) rfl rfl (pa_cons (pe_exc0 E_Clash (hr.mono (by decide)) rfl) (pa_cons (pe_exc0 E_NothingToUndo (hr.mono (by decide)) rfl) pa_nil)) (by rfl))
      (pss_cons (ps_set (i := 6) sc_plain_right.nd rfl (by first | exact Or.inl rfl | exact Or.inr rfl) (pe_lst (pa_cons (pe_cal C__law_is_one (hr.mono (by decide)) rfl (pa_cons (pv 0) (pa_cons (pe_callB call_isEx (by rfl) T.f_isinstance (by decide +kernel) (pa_cons (pv 0) (pa_cons (pe_gref (by rfl) T.g_BadPlaces) pa_nil))) pa_nil))) pa_nil)))
      (pss_cons (ps_expr (pe_bm PySem.F.plainAttrs_list PySem.F.slot_list_append PySem.F.type_list_append mt_append (pv 6) (pa_cons (pe_cal C__law_is_one (hr.mono (by decide)) rfl (pa_cons (pv 1) (pa_cons (pe_callB call_isEx (by rfl) T.f_isinstance (by decide +kernel) (pa_cons (pv 1) (pa_cons (pe_gref (by rfl) T.g_OtherPointers) pa_nil))) pa_nil))) pa_nil)))
      (pss_cons (ps_expr (pe_bm PySem.F.plainAttrs_list PySem.F.slot_list_append PySem.F.type_list_append mt_append (pv 6) (pa_cons (pe_cal C__law_is_one (hr.mono (by decide)) rfl (pa_cons (pv 2) (pa_cons (pe_callB call_isEx (by rfl) T.f_isinstance (by decide +kernel) (pa_cons (pv 2) (pa_cons (pe_gref (by rfl) T.g_HasRegisters) pa_nil))) pa_nil))) pa_nil)))
      (pss_cons (ps_expr (pe_bm PySem.F.plainAttrs_list PySem.F.slot_list_append PySem.F.type_list_append mt_append (pv 6) (pa_cons (pe_cal C__law_is_one (hr.mono (by decide)) rfl (pa_cons (pv 3) (pa_cons (pe_callB call_isEx (by rfl) T.f_isinstance (by decide +kernel) (pa_cons (pv 3) (pa_cons (pe_gref (by rfl) T.g_NotTwo) pa_nil))) pa_nil))) pa_nil)))
      (pss_cons (ps_expr (pe_bm PySem.F.plainAttrs_list PySem.F.slot_list_append PySem.F.type_list_append mt_append (pv 6) (pa_cons (pe_cal C__law_is_one (hr.mono (by decide)) rfl (pa_cons (pv 4) (pa_cons (pe_callB call_isEx (by rfl) T.f_isinstance (by decide +kernel) (pa_cons (pv 4) (pa_cons (pe_gref (by rfl) T.g_Clash) pa_nil))) pa_nil))) pa_nil)))
      (pss_cons (ps_expr (pe_bm PySem.F.plainAttrs_list PySem.F.slot_list_append PySem.F.type_list_append mt_append (pv 6) (pa_cons (pe_cal C__law_is_one (hr.mono (by decide)) rfl (pa_cons (pv 5) (pa_cons (pe_callB call_isEx (by rfl) T.f_isinstance (by decide +kernel) (pa_cons (pv 5) (pa_cons (pe_gref (by rfl) T.g_NothingToUndo) pa_nil))) pa_nil))) pa_nil)))
      (pss_one (ps_ret (pe_cmpR op_notIn_seq pe_bl (pv 6) (by rfl)))))))))))), ?_⟩
  refine fun a1 G1 n1 s1 x1 => fun a2 G2 n2 s2 x2 => fun a3 G3 n3 s3 x3 => fun a4 G4 n4 s4 x4 => ⟨by show 4 ≤ sizeLine; decide, fun tp htp => ⟨tp, _, rfl, SqT.of upd_same, rfl, _, _, rfl, _, _, rfl, _, _, rfl, _, _, rfl, rfl, ?_⟩⟩
  have t1 := Same.new (o := .tup [.ref a1, .ref a2, .ref a3, .ref a4]) htp
  generalize upd G4 tp (.tup [.ref a1, .ref a2, .ref a3, .ref a4]) = G5 at t1 ⊢
  refine fun a5 G6 n5 s5 x5 => fun a6 G7 n6 s6 x6 => ⟨_, _, rfl, ?_⟩
  have b1 : Err K G7 "BadPlaces" a1 [] := ⟨by decide +kernel, x1.same (((((s2.trans s3).trans s4).trans t1).trans s5).trans s6)⟩
  have b2 : Err K G7 "OtherPointers" a2 [] := ⟨by decide +kernel, x2.same ((((s3.trans s4).trans t1).trans s5).trans s6)⟩
  have b3 : Err K G7 "HasRegisters" a3 [] := ⟨by decide +kernel, x3.same (((s4.trans t1).trans s5).trans s6)⟩
  have b4 : Err K G7 "NotTwo" a4 [] := ⟨by decide +kernel, x4.same ((t1.trans s5).trans s6)⟩
  have b5 : Err K G7 "Clash" a5 [] := ⟨by decide +kernel, x5.same s6⟩
  have b6 : Err K G7 "NothingToUndo" a6 [] := ⟨by decide +kernel, x6⟩
  have s7 : Same H G7 := ((((((s1.trans s2).trans s3).trans s4).trans t1).trans s5).trans s6)
  refine ⟨_, rfl, _, rfl, a1, _, [], _, _, _, rfl, (b1.same (Same.refl _)).2, T.exv _ b1.1, .own _, T.self b1.1, a1, _, [], rfl, b1.same (Same.refl _), fun H11 t11 => ⟨by show 1 ≤ sizeLine; decide, fun p hp => ?_⟩⟩
  have u1 : Same G7 _ := t11.trans (Same.new (o := .lst [.bl true]) hp)
  have h1 := upd_same (H := H11) (a := p) (o := .lst [.bl true])
  have f1 : G7 p = none := t11.free hp
  generalize upd H11 p (.lst [.bl true]) = J1 at u1 h1 ⊢
  refine ⟨_, rfl, .inl ⟨rfl, _, SqL.of h1⟩, _, rfl, _, rfl, a2, _, [], _, _, _, rfl, (b2.same u1).2, T.exv _ b2.1, .own _, T.self b2.1, a2, _, [], rfl, b2.same u1, fun H12 t12 => ⟨p, _, _, rfl, rfl, t12 _ _ h1, by show 1 < sizeLine; decide, ?_⟩⟩
  have u2 : Same G7 _ := (u1.trans t12).put (o := .lst ([.bl true] ++ [.bl true])) f1
  have h2 := upd_same (H := H12) (a := p) (o := .lst ([.bl true] ++ [.bl true]))
  generalize upd H12 p (.lst ([.bl true] ++ [.bl true])) = J2 at u2 h2 ⊢
  refine ⟨_, rfl, .inl ⟨rfl, _, SqL.of h2⟩, _, rfl, _, rfl, a3, _, [], _, _, _, rfl, (b3.same u2).2, T.exv _ b3.1, .own _, T.self b3.1, a3, _, [], rfl, b3.same u2, fun H13 t13 => ⟨p, _, _, rfl, rfl, t13 _ _ h2, by show 2 < sizeLine; decide, ?_⟩⟩
  have u3 : Same G7 _ := (u2.trans t13).put (o := .lst (([.bl true] ++ [.bl true]) ++ [.bl true])) f1
  have h3 := upd_same (H := H13) (a := p) (o := .lst (([.bl true] ++ [.bl true]) ++ [.bl true]))
  generalize upd H13 p (.lst (([.bl true] ++ [.bl true]) ++ [.bl true])) = J3 at u3 h3 ⊢
  refine ⟨_, rfl, .inl ⟨rfl, _, SqL.of h3⟩, _, rfl, _, rfl, a4, _, [], _, _, _, rfl, (b4.same u3).2, T.exv _ b4.1, .own _, T.self b4.1, a4, _, [], rfl, b4.same u3, fun H14 t14 => ⟨p, _, _, rfl, rfl, t14 _ _ h3, by show 3 < sizeLine; decide, ?_⟩⟩
  have u4 : Same G7 _ := (u3.trans t14).put (o := .lst ((([.bl true] ++ [.bl true]) ++ [.bl true]) ++ [.bl true])) f1
  have h4 := upd_same (H := H14) (a := p) (o := .lst ((([.bl true] ++ [.bl true]) ++ [.bl true]) ++ [.bl true]))
  generalize upd H14 p (.lst ((([.bl true] ++ [.bl true]) ++ [.bl true]) ++ [.bl true])) = J4 at u4 h4 ⊢
  refine ⟨_, rfl, .inl ⟨rfl, _, SqL.of h4⟩, _, rfl, _, rfl, a5, _, [], _, _, _, rfl, (b5.same u4).2, T.exv _ b5.1, .own _, T.self b5.1, a5, _, [], rfl, b5.same u4, fun H15 t15 => ⟨p, _, _, rfl, rfl, t15 _ _ h4, by show 4 < sizeLine; decide, ?_⟩⟩
  have u5 : Same G7 _ := (u4.trans t15).put (o := .lst (((([.bl true] ++ [.bl true]) ++ [.bl true]) ++ [.bl true]) ++ [.bl true])) f1
  have h5 := upd_same (H := H15) (a := p) (o := .lst (((([.bl true] ++ [.bl true]) ++ [.bl true]) ++ [.bl true]) ++ [.bl true]))
  generalize upd H15 p (.lst (((([.bl true] ++ [.bl true]) ++ [.bl true]) ++ [.bl true]) ++ [.bl true])) = J5 at u5 h5 ⊢
  refine ⟨_, rfl, .inl ⟨rfl, _, SqL.of h5⟩, _, rfl, _, rfl, a6, _, [], _, _, _, rfl, (b6.same u5).2, T.exv _ b6.1, .own _, T.self b6.1, a6, _, [], rfl, b6.same u5, fun H16 t16 => ⟨p, _, _, rfl, rfl, t16 _ _ h5, by show 5 < sizeLine; decide, ?_⟩⟩
  have u6 : Same G7 _ := (u5.trans t16).put (o := .lst ((((([.bl true] ++ [.bl true]) ++ [.bl true]) ++ [.bl true]) ++ [.bl true]) ++ [.bl true])) f1
  have h6 := upd_same (H := H16) (a := p) (o := .lst ((((([.bl true] ++ [.bl true]) ++ [.bl true]) ++ [.bl true]) ++ [.bl true]) ++ [.bl true]))
  generalize upd H16 p (.lst ((((([.bl true] ++ [.bl true]) ++ [.bl true]) ++ [.bl true]) ++ [.bl true]) ++ [.bl true])) = J6 at u6 h6 ⊢
  refine ⟨_, rfl, p, _, rfl, .inl (SqL.of h6), rfl, rfl, ?_⟩
  exact k J6 (s7.trans u6)

end
end K71
end
section
set_option Elab.async false
set_option linter.all false
set_option maxRecDepth 100000
set_option maxHeartbeats 4000000
namespace K71
open PySem PySem.Spec PyProof.Rows L2
/-! ### what repr tells -/
/-- data whose text can be written -/
structure Good (d : PyData) : Prop where
  sh : d.showable = true
  nd : d.hasDict = false
  dp : d.depth ≤ 60
  le : d.shown.length ≤ 100000
theorem Good.line {d : PyData} (g : Good d) : d.shown.length ≤ sizeLine := by
  have := g.le
  rw [sizeLine_eq]
  omega
theorem list_len (xs : List PyData) : (PyData.list xs).shown.length ≤ piled (PyData.shownAll xs) + 2 := by
  rw [PyData.shown_list, len_app, len_app]
  have e1 : (("[" : String) : Str).length = 1 := rfl
  have e2 : (("]" : String) : Str).length = 1 := rfl
  rw [e1, e2]
  by_cases h : PyData.shownAll xs = []
  · rw [h]
    decide +kernel
  · have := join_length_add _ h
    omega
theorem tup_len (xs : List PyData) : (PyData.tuple xs).shown.length ≤ piled (PyData.shownAll xs) + 2 := by
  have e : (PyData.tuple xs).shown = tupleText (PyData.shownAll xs) := by simp only [PyData.shown]
  rw [e]
  exact fmt_text _
theorem good_int {i : Int} (h : i.natAbs.log2 < 1920) : (PyData.int i).showable = true ∧ (PyData.int i).shown.length ≤ 1921 := by
  refine ⟨?_, ?_⟩
  · have z := PyData.showableAll_ints [i] (by simpa using h)
    simpa [PyData.showableAll] using z
  · rw [PyData.shown_int]
    exact int_text_len_1921 h
def D7 (i : Int) : PyData := .list [.int i, .int i, .int i, .int i, .int i, .int i, .int i]
theorem good7 {i : Int} (h : i.natAbs.log2 < 1920) : Good (D7 i) := by
  obtain ⟨h1, h2⟩ := good_int h
  refine ⟨?_, rfl, by show 1 ≤ 60; decide, ?_⟩
  · unfold D7
    simp only [PyData.showable, PyData.showableAll, Bool.and_true, Bool.and_self] at h1 ⊢
    exact h1
  · have z := list_len [.int i, .int i, .int i, .int i, .int i, .int i, .int i]
    simp only [PyData.shownAll_cons, PyData.shownAll_nil, piled_cons, piled_nil] at z
    unfold D7
    omega
theorem dp7 {K : PySem.W.Frag} {H : Hp} {q : Addr} {i : Int} (h : H q = some (.lst [.int i, .int i, .int i, .int i, .int i, .int i, .int i])) : Dp K H (.ref q) (D7 i) :=
  .lst (SqL.of h) (.cons (.int i) (.cons (.int i) (.cons (.int i) (.cons (.int i) (.cons (.int i) (.cons (.int i) (.cons (.int i) .nil)))))))
theorem dps_int (K : PySem.W.Frag) (H : Hp) : ∀ ns : List Int, DpAll K H (ns.map V.int) (ns.map PyData.int)
  | [] => .nil
  | i :: r => .cons (.int i) (dps_int K H r)
theorem low_big {z : Str} (h : Low z) : ∀ c ∈ z.cps.toList, c < 16 ^ 8 := fun c hc => Nat.lt_trans (h c hc) (by decide)
def D5 (z : Str) (l : List Int) : PyData := .list [.str z, .str z, .str z, .tuple (l.map .int), .tuple (l.map .int)]
theorem all_ints : ∀ {l : List Int}, (∀ i ∈ l, i.natAbs.log2 < 1920) → piled (PyData.shownAll (l.map PyData.int)) ≤ 1923 * l.length ∧ PyData.depthAll (l.map PyData.int) = 0 ∧ PyData.hasDictAll (l.map PyData.int) = false
  | [], _ => ⟨Nat.zero_le _, rfl, rfl⟩
  | i :: r, h => by
    obtain ⟨a, b, c⟩ := all_ints (l := r) fun z hz => h z (List.mem_cons_of_mem _ hz)
    have h1 := (good_int (h i List.mem_cons_self)).2
    refine ⟨?_, ?_, ?_⟩
    · rw [List.map_cons, PyData.shownAll_cons, piled_cons, List.length_cons]
      omega
    · rw [List.map_cons]
      show max 0 (PyData.depthAll (r.map PyData.int)) = 0
      rw [b]
      rfl
    · rw [List.map_cons]
      simp only [PyData.hasDictAll, PyData.hasDict, c, Bool.or_self, Bool.false_or]
theorem good5 {z : Str} {l : List Int} (hz : z.length ≤ 200) (low : Low z) (hi : ∀ i ∈ l, i.natAbs.log2 < 1920) (hl : l.length ≤ 3) : Good (D5 z l) := by
  obtain ⟨a, b, c⟩ := all_ints hi
  have t := tup_len (l.map PyData.int)
  have r := StrLaws.reprText_len z (low_big low)
  have s := PyData.showableAll_ints l hi
  refine ⟨?_, ?_, ?_, ?_⟩
  · unfold D5
    simp only [PyData.showable, PyData.showableAll, s, Bool.and_true, Bool.and_self]
  · unfold D5
    simp only [PyData.hasDict, PyData.hasDictAll, c, Bool.or_self, Bool.or_false]
  · unfold D5
    simp only [PyData.depth, PyData.depthAll, b]
    decide
  · have q := list_len [.str z, .str z, .str z, .tuple (l.map .int), .tuple (l.map .int)]
    simp only [PyData.shownAll_cons, PyData.shownAll_nil, piled_cons, piled_nil, PyData.shown_str] at q
    unfold D5
    omega
theorem dp5 {K : PySem.W.Frag} {H : Hp} {q u : Addr} {z : Str} {l : List Int} (h : H q = some (.lst [.str z, .str z, .str z, .ref u, .ref u])) (hu : SqT K H u (l.map V.int)) : Dp K H (.ref q) (D5 z l) :=
  .lst (SqL.of h) (.cons (.str z) (.cons (.str z) (.cons (.str z) (.cons (.tup hu (dps_int K H l)) (.cons (.tup hu (dps_int K H l)) .nil)))))
end K71
end
section
set_option Elab.async false
set_option linter.all false
set_option maxRecDepth 100000
set_option maxHeartbeats 4000000
namespace K71
open PySem PySem.Spec PyProof.Rows L2
local macro_rules | `(tactic| walk_at "go") => `(tactic| first | refine ⟨_, rfl, ?_⟩ | refine .inl ⟨_, rfl, ?_⟩ | refine ⟨_, _, rfl, rfl, (by first | (show (0 : Int) < _; decide) | exact Or.inl ⟨by decide, by decide⟩ | exact Or.inr ⟨by decide, by decide⟩), ?_⟩ | refine ⟨_, _, rfl, rfl, ?_⟩)
section
variable {P : Program} {w : World} {K : PySem.W.Frag} {mg : Str → Option Value} {base : Heap}

theorem pow60 : CPow 10 60 := ⟨by decide, by decide, by decide⟩
theorem pow59 : CPow 10 59 := ⟨by decide, by decide, by decide⟩
theorem pick3 {j : Nat} {v : V} (h : ([.int 0, .int 0, .int ((10 : Int) ^ (59 : Int).toNat)] : List V)[j]? = some v) : ∃ e : Int, v = .int e ∧ 0 ≤ e ∧ e ≤ 10 ^ 59 := by
  have hm := List.mem_of_getElem? h
  simp only [List.mem_cons, List.not_mem_nil, or_false] at hm
  rcases hm with rfl | rfl | rfl
  · exact ⟨0, rfl, by decide, by decide⟩
  · exact ⟨0, rfl, by decide, by decide⟩
  · exact ⟨10 ^ 59, rfl, by decide, by decide⟩
theorem log_ok {i : Int} (h : i.natAbs < 2 ^ 240) : i.natAbs.log2 < 1920 := log2_small (Nat.lt_of_lt_of_le h (Nat.pow_le_pow_right (by decide) (by decide)))
/-- what stands behind the making -/
structure Five (K : PySem.W.Frag) (H : Hp) (p l m o td mv r w : Addr) (as bs cs ds : List V) (n : Int) (z : Str) (ls : List Int) (t : Int) : Prop where
  hm : H m = some (.lst as)
  Mm : Made K H (numC (.int n)) as
  ho : H o = some (.lst bs)
  Mo : Made K H (numC (.int (n + 1))) bs
  ht : H td = some (.lst cs)
  Mt : Made K H (toldC (.str z) (.ref r)) cs
  hv : H mv = some (.lst ds)
  Mv : Made K H (toldC (.str (("x" : Str) ++ z)) (.ref w)) ds
  hr : H r = some (.tup (ls.map V.int))
  hw : H w = some (.tup ((ls.map (· + 1)).map V.int))
  pen : Pen H p l t
theorem Five.same {K : PySem.W.Frag} {H H' : Hp} {p l m o td mv r w : Addr} {as bs cs ds : List V} {n : Int} {z : Str} {ls : List Int} {t : Int} (h : Five K H p l m o td mv r w as bs cs ds n z ls t) (s : Same H H') : Five K H' p l m o td mv r w as bs cs ds n z ls t :=
  ⟨s _ _ h.hm, h.Mm.same s, s _ _ h.ho, h.Mo.same s, s _ _ h.ht, h.Mt.same s, s _ _ h.hv, h.Mv.same s, s _ _ h.hr, s _ _ h.hw, h.pen.same s⟩
def spLaw (K : PySem.W.Frag) : Sp := fun vs H Q _ => ∃ (a : Addr) (ns : List Int), vs = [.ref a] ∧ SqL K H a (ns.map V.int) ∧ ∀ H', Q (.bl true) H'

abbrev s_law : Stmt := topS 37
theorem sc_law : FnScope ["script", "pen", "turn", "number", "text", "places", "k", "row", "away", "made", "others", "told", "moved", "place"] ["script"] (defScope s_law) := ⟨rfl, rfl, rfl, by decide +kernel, rfl, by decide +kernel, by decide +kernel⟩
theorem law_red (T : TxtF K mg) (TT : Txt mg)
    (C__law_begun_pen : Cal P w K mg base 1 "_law_begun_pen" ["script"] (spBegun K))
    (C__law_draw : Cal P w K mg base 1 "_law_draw" ["pen", "span"] spDraw)
    (C__law_pick : Cal P w K mg base 2 "_law_pick" ["pen", "options"] (spPick K))
    (C__law_far_number : Cal P w K mg base 2 "_law_far_number" ["pen"] spFar)
    (C__law_new_words : Cal P w K mg base 3 "_law_new_words" ["pen", "many"] spNewWords)
    (C__law_numbered : Cal P w K mg base 3 "_law_numbered" ["number"] (spNumbered K))
    (C__law_told : Cal P w K mg base 3 "_law_told" ["text", "places"] (spTold K))
    (C__law_numbers : Cal P w K mg base 1 "_law_numbers" ["made"] (spNumbers K))
    (C__law_told_fields : Cal P w K mg base 1 "_law_told_fields" ["made"] (spToldF K))
    (C__law_numbered_right : Cal P w K mg base 3 "_law_numbered_right" ["made"] (spNumR K))
    (C__law_told_right : Cal P w K mg base 3 "_law_told_right" ["made"] (spToldR K))
    (C__law_plain_right : Cal P w K mg base 3 "_law_plain_right" [] spPlain)
    (A : Around) (hA : A.guards = some []) (f : Addr) (cdv : Value) (outer : List Env) (s : Shared) (H : Hp) (vs : List V) (Q : VK) (E : XK) (hr : Room 3 (A.deeper (envOfC "law" (defScope s_law) s.heap.objs.size f cdv))) (h : spLaw K vs H Q E) :
    ∃ t, PSs (cxOf CX0 P w K mg base ["script", "pen", "turn", "number", "text", "places", "k", "row", "away", "made", "others", "told", "moved", "place"] "law" (defScope s_law) f cdv A outer s H E).nox (defBody s_law) t ∧ t { nx := fun _ H' => Q .non H', rt := Q } (start ["script", "pen", "turn", "number", "text", "places", "k", "row", "away", "made", "others", "told", "moved", "place"] vs) H := by
  have hG : (cxOf CX0 P w K mg base ["script", "pen", "turn", "number", "text", "places", "k", "row", "away", "made", "others", "told", "moved", "place"] "law" (defScope s_law) f cdv A outer s H E).nox.A.guards = some [] := hA
  obtain ⟨a, ns, rfl, hS, k⟩ := h
  refine ⟨_, (pss_cons (ps_set (i := 1) sc_law.nd rfl (by first | exact Or.inl rfl | exact Or.inr rfl) (pe_cal C__law_begun_pen (hr.mono (by decide)) rfl (pa_cons (pv 0) pa_nil)))
      (pss_cons (ps_for PassesOwn.never rfl (pi_range1 rfl T.f_range (pa_cons pe_int pa_nil)) (pg_name (i := 2) sc_law.nd rfl (by first | exact Or.inl rfl | exact Or.inr rfl)) (C8.pss_cut (ps_set (i := 3) sc_law.nd rfl (by first | exact Or.inl rfl | exact Or.inr rfl) (pe_op op_sub (pe_cal C__law_draw (hr.mono (by decide)) rfl (pa_cons (pv 1) (pa_cons (pe_op op_pow pe_int pe_int) pa_nil))) (pe_cal C__law_pick (hr.mono (by decide)) rfl (pa_cons (pv 1) (pa_cons (pe_lst (pa_cons pe_int (pa_cons pe_int (pa_cons (pe_op op_pow pe_int pe_int) pa_nil)))) pa_nil)))))
      (C8.pss_cut (ps_par (i := 4) (j := 5) (by rfl) sc_law.nd rfl rfl (by decide) rfl rfl (pa_cons (pe_ix ix_list (pe_cal C__law_new_words (hr.mono (by decide)) rfl (pa_cons (pv 1) (pa_cons pe_int pa_nil))) pe_int (fun _ _ => rfl)) (pa_cons (pe_lst pa_nil) pa_nil)) (by rfl))
      (C8.pss_cut (ps_for PassesOwn.never rfl (pi_range1 rfl T.f_range (pa_cons (pe_op op_add pe_int (pe_cal C__law_draw (hr.mono (by decide)) rfl (pa_cons (pv 1) (pa_cons pe_int pa_nil)))) pa_nil)) (pg_name (i := 6) sc_law.nd rfl (by first | exact Or.inl rfl | exact Or.inr rfl)) (pss_one (ps_expr (pe_bm PySem.F.plainAttrs_list PySem.F.slot_list_append PySem.F.type_list_append mt_append (pv 5) (pa_cons (pe_cal C__law_far_number (hr.mono (by decide)) rfl (pa_cons (pv 1) pa_nil)) pa_nil)))))
      (C8.pss_cut (ps_par (i := 7) (j := 8) (by rfl) sc_law.nd rfl rfl (by decide) rfl rfl (pa_cons (pe_callTy call_tuple_of (by rfl) TT.f_tuple (by decide +kernel) (pa_cons (pv 5) pa_nil)) (pa_cons (pe_callTy call_tuple_of (by rfl) TT.f_tuple (by decide +kernel) (pa_cons (pe_lc (own := [("place", 13)]) (g := gName 13) (tt := tYes) rfl sc_law.nd (pi_list (pv 5)) (blkOk_by (N := ["script", "pen", "turn", "number", "text", "places", "k", "row", "away", "made", "others", "told", "moved", "place"]) (sc := defScope s_law) (by decide +kernel)) (fun _ _ _ _ _ => pg_name (i := 13) sc_law.nd rfl (Or.inl rfl)) (fun _ _ _ _ _ => pts_nil) (fun _ _ _ _ _ => (pe_op op_add (pv 13) pe_int))) pa_nil)) pa_nil)) (by rfl))
      (C8.pss_cut (ps_par (i := 9) (j := 10) (by rfl) sc_law.nd rfl rfl (by decide) rfl rfl (pa_cons (pe_cal C__law_numbered (hr.mono (by decide)) rfl (pa_cons (pv 3) pa_nil)) (pa_cons (pe_cal C__law_numbered (hr.mono (by decide)) rfl (pa_cons (pe_op op_add (pv 3) pe_int) pa_nil)) pa_nil)) (by rfl))
      (C8.pss_cut (ps_par (i := 11) (j := 12) (by rfl) sc_law.nd rfl rfl (by decide) rfl rfl (pa_cons (pe_cal C__law_told (hr.mono (by decide)) rfl (pa_cons (pv 4) (pa_cons (pv 7) pa_nil))) (pa_cons (pe_cal C__law_told (hr.mono (by decide)) rfl (pa_cons (pe_op op_add_str pe_str (pv 4)) (pa_cons (pv 8) pa_nil))) pa_nil)) (by rfl))
      (C8.pss_cut (ps_if (pt_cmpR op_ne (pe_callB (call_reprD hG hr.units) (by rfl) TT.f_repr (by decide +kernel) (pa_cons (pe_cal C__law_numbers (hr.mono (by decide)) rfl (pa_cons (pv 9) pa_nil)) pa_nil)) (pe_callB (call_reprD hG hr.units) (by rfl) TT.f_repr (by decide +kernel) (pa_cons (pe_op op_rep (pe_lst (pa_cons (pv 3) pa_nil)) pe_int) pa_nil)) (nomark _)) (pss_one (ps_ret pe_bl)) pss_nil)
      (C8.pss_cut (ps_if (pt_cmpR op_ne (pe_callB (call_reprD hG hr.units) (by rfl) TT.f_repr (by decide +kernel) (pa_cons (pe_cal C__law_numbers (hr.mono (by decide)) rfl (pa_cons (pv 10) pa_nil)) pa_nil)) (pe_callB (call_reprD hG hr.units) (by rfl) TT.f_repr (by decide +kernel) (pa_cons (pe_op op_rep (pe_lst (pa_cons (pe_op op_add (pv 3) pe_int) pa_nil)) pe_int) pa_nil)) (nomark _)) (pss_one (ps_ret pe_bl)) pss_nil)
      (C8.pss_cut (ps_if (pt_cmpR op_ne (pe_callB (call_reprD hG hr.units) (by rfl) TT.f_repr (by decide +kernel) (pa_cons (pe_cal C__law_told_fields (hr.mono (by decide)) rfl (pa_cons (pv 11) pa_nil)) pa_nil)) (pe_callB (call_reprD hG hr.units) (by rfl) TT.f_repr (by decide +kernel) (pa_cons (pe_op op_cat (pe_op op_rep (pe_lst (pa_cons (pv 4) pa_nil)) pe_int) (pe_op op_rep (pe_lst (pa_cons (pv 7) pa_nil)) pe_int)) pa_nil)) (nomark _)) (pss_one (ps_ret pe_bl)) pss_nil)
      (C8.pss_cut (ps_if (pt_cmpR op_ne (pe_callB (call_reprD hG hr.units) (by rfl) TT.f_repr (by decide +kernel) (pa_cons (pe_cal C__law_told_fields (hr.mono (by decide)) rfl (pa_cons (pv 12) pa_nil)) pa_nil)) (pe_callB (call_reprD hG hr.units) (by rfl) TT.f_repr (by decide +kernel) (pa_cons (pe_op op_cat (pe_op op_rep (pe_lst (pa_cons (pe_op op_add_str pe_str (pv 4)) pa_nil)) pe_int) (pe_op op_rep (pe_lst (pa_cons (pv 8) pa_nil)) pe_int)) pa_nil)) (nomark _)) (pss_one (ps_ret pe_bl)) pss_nil)
      (pss_one (ps_if (PW.pt (pw_or (pt_not (pt_val (pe_cal C__law_numbered_right (hr.mono (by decide)) rfl (pa_cons (pv 9) pa_nil)))) (pw_or (pt_not (pt_val (pe_cal C__law_told_right (hr.mono (by decide)) rfl (pa_cons (pv 11) pa_nil)))) (pw_or1 (pt_not (pt_val (pe_cal0 C__law_plain_right (hr.mono (by decide)) rfl))))))) (pss_one (ps_ret pe_bl)) pss_nil)))))))))))))
      (pss_one (ps_ret pe_bl)))), ?_⟩

  refine ⟨_, rfl, a, ns, rfl, hS, fun p l H1 np nl s1 pen1 => ?_⟩
  refine ⟨3, rfl, by decide, by decide, for_range (n := 3) (fun i σ H' => ∃ (v2 v3 v4 v5 v6 v7 v8 v9 v10 v11 v12 v13 : Option V) (t : Int), σ = [some (.ref a), some (.ref p), v2, v3, v4, v5, v6, v7, v8, v9, v10, v11, v12, v13] ∧ Pen H' p l t ∧ t ≤ 200 * i)
    ⟨none, none, none, none, none, none, none, none, none, none, none, none, 0, rfl, pen1, by omega⟩ ?_ ?_⟩
  rotate_left
  · rintro σ H2 ⟨v2, v3, v4, v5, v6, v7, v8, v9, v10, v11, v12, v13, t, rfl, pen2, ht⟩
    exact k H2
  rintro i σ H2 hi ⟨v2, v3, v4, v5, v6, v7, v8, v9, v10, v11, v12, v13, t, rfl, pen2, ht⟩
  -- number
  refine ⟨fun σ' H' => ∃ (n t' : Int), σ' = [some (.ref a), some (.ref p), some (.int (0 + (i : Int))), some (.int n), v4, v5, v6, v7, v8, v9, v10, v11, v12, v13] ∧ n.natAbs < 2 ^ 239 ∧ Pen H' p l t' ∧ t' ≤ t + 2, ?_, ?_⟩
  · refine ⟨_, rfl, _, _, rfl, rfl, pow60, p, l, t, _, rfl, pen2, by omega, by decide, by decide, fun d H3 t3 d0 d1 pen3 g1 g2 b3 => ?_⟩
    refine ⟨_, rfl, _, _, rfl, rfl, pow59, by show 3 ≤ sizeLine; decide, fun q hq => ?_⟩
    obtain ⟨o, ho⟩ := pen3.at_
    have hqp : q ≠ p := fun z => by rw [z, ho] at hq; cases hq
    refine ⟨p, l, q, t3, _, rfl, pen3.new hq, by omega, hqp, .inl (SqL.of upd_same), by show 0 < 3; decide, by show 3 ≤ 1000000; decide, fun j v H4 t4 hv pen4 g3 g4 b4 => ?_⟩
    obtain ⟨e, rfl, e0, e1⟩ := pick3 hv
    refine ⟨_, _, rfl, rfl, _, t4, rfl, ?_, pen4, by omega⟩
    have d2 : d < 10 ^ 60 := d1
    have c1 : (10 : Int) ^ 60 = 1000000000000000000000000000000000000000000000000000000000000 := by decide
    have c2 : (10 : Int) ^ 59 = 100000000000000000000000000000000000000000000000000000000000 := by decide
    have c3 : (2 : Nat) ^ 239 = 883423532389192164791648750371459257913741948437809479060803100646309888 := by decide
    rw [c1] at d2
    rw [c2] at e1
    rw [c3]
    omega
  rintro σ' H5 ⟨n, t5, rfl, hn, pen5, ht5⟩
  have lg0 : n.natAbs.log2 < 1920 := log_ok (by omega)
  have lg1 : (n + 1).natAbs.log2 < 1920 := log_ok (by omega)
  -- text, places
  refine ⟨fun σ' H' => ∃ (z : Str) (pl : Addr) (t' : Int), σ' = [some (.ref a), some (.ref p), some (.int (0 + (i : Int))), some (.int n), some (.str z), some (.ref pl), v6, v7, v8, v9, v10, v11, v12, v13] ∧ z.length ≤ 100 ∧ Low z ∧ H' pl = some (.lst []) ∧ pl ≠ p ∧ pl ≠ l ∧ Pen H' p l t' ∧ t' ≤ t5 + 20, ?_, ?_⟩
  · refine ⟨_, rfl, p, l, t5, rfl, pen5, by omega, fun r z H6 t6 hr6 zl zlow h6 pen6 g1 g2 b6 => ⟨r, _, 0, _, rfl, rfl, SqL.of h6, at_of (j := 0) rfl rfl, Nat.zero_le _, fun pl hpl => ?_⟩⟩
    obtain ⟨ns6, lf6, e1, e2, _⟩ := pen6.ex
    refine ⟨_, _, rfl, z, pl, t6, rfl, zl, zlow, upd_same, fun y => ?_, fun y => ?_, pen6.new hpl, g2⟩
    · rw [y, e1] at hpl
      cases hpl
    · rw [y, e2] at hpl
      cases hpl
  rintro σ' H7 ⟨z, pl, t7, rfl, zl, zlow, h7, nplp, npll, pen7, ht7⟩
  -- the places
  refine ⟨fun σ' H' => ∃ (w6 : Option V) (ls : List Int) (t' : Int), σ' = [some (.ref a), some (.ref p), some (.int (0 + (i : Int))), some (.int n), some (.str z), some (.ref pl), w6, v7, v8, v9, v10, v11, v12, v13] ∧ H' pl = some (.lst (ls.map V.int)) ∧ ls.length ≤ 3 ∧ (∀ x ∈ ls, x.natAbs < 10 ^ 42) ∧ Pen H' p l t' ∧ t' ≤ t7 + 40, ?_, ?_⟩
  · refine ⟨_, rfl, p, l, t7, 3, rfl, pen7, by omega, by decide, by decide, fun d H8 t8 d0 d1 pen8 g1 g2 b8 => ⟨_, _, rfl, rfl, 1 + d, rfl, by omega, by omega, for_range (n := (1 + d).toNat) (fun j σ H' => ∃ (w6 : Option V) (ls : List Int) (t' : Int), σ = [some (.ref a), some (.ref p), some (.int (0 + (i : Int))), some (.int n), some (.str z), some (.ref pl), w6, v7, v8, v9, v10, v11, v12, v13] ∧ H' pl = some (.lst (ls.map V.int)) ∧ ls.length = j ∧ (∀ x ∈ ls, x.natAbs < 10 ^ 42) ∧ Pen H' p l t' ∧ t' ≤ t8 + 8 * j)
      ⟨v6, [], t8, rfl, b8 _ _ nplp h7, rfl, by simp, pen8, by omega⟩ ?_ ?_⟩⟩
    · rintro j σ H9 hj ⟨w6, ls, t9, rfl, h9, hl9, hx9, pen9, ht9⟩
      refine ⟨_, rfl, .inl ⟨rfl, _, SqL.of h9⟩, _, rfl, p, l, t9, rfl, pen9, by omega, fun x H10 t10 hx pen10 g3 g4 b10 => ⟨pl, _, _, rfl, rfl, b10 _ _ nplp h9, ?_, ?_⟩⟩
      · rw [List.length_map, sizeLine_eq]
        omega
      · refine ⟨_, ls ++ [x], t10, rfl, ?_, ?_, ?_, pen10.put nplp npll, by omega⟩
        · rw [List.map_append]
          exact upd_same
        · rw [List.length_append, hl9]
          rfl
        · intro y hy
          rcases List.mem_append.mp hy with h | h
          · exact hx9 y h
          · rw [List.mem_singleton.mp h]
            exact hx
    · rintro σ H9 ⟨w6, ls, t9, rfl, h9, hl9, hx9, pen9, ht9⟩
      exact ⟨w6, ls, t9, rfl, h9, by omega, hx9, pen9, by omega⟩
  rintro σ' H11 ⟨w6, ls, t9, rfl, h11, hl, hx, pen11, ht9⟩
  have li : ∀ x ∈ ls, x.natAbs.log2 < 1920 := fun x hm => log_ok (Nat.lt_trans (hx x hm) (by decide))
  have li1 : ∀ x ∈ ls.map (· + 1), x.natAbs.log2 < 1920 := fun x hm => by
    obtain ⟨y, hy, rfl⟩ := List.mem_map.mp hm
    have h1 := hx y hy
    have c1 : (10 : Nat) ^ 42 = 1000000000000000000000000000000000000000000 := by decide
    have c3 : (2 : Nat) ^ 240 = 1766847064778384329583297500742918515827483896875618958121606201292619776 := by decide
    refine log_ok ?_
    rw [c1] at h1
    rw [c3]
    omega
  have hl1 : (ls.map (· + 1)).length ≤ 3 := by rw [List.length_map]; exact hl
  have xz : (("x" : Str)).length + z.length ≤ sizeLine := by
    rw [sizeLine_eq]
    have e : (("x" : Str)).length = 1 := rfl
    omega
  have xl : (("x" : Str) ++ z).length ≤ 200 := by
    rw [len_app]
    have e : (("x" : Str)).length = 1 := rfl
    omega
  have xlow : Low (("x" : Str) ++ z) := by
    intro c hc
    have e : (("x" : Str) ++ z).cps.toList = 120 :: z.cps.toList := TL.tl_append _ _
    rw [e] at hc
    rcases List.mem_cons.mp hc with h | h
    · rw [h]
      decide
    · exact zlow c h
  have zl2 : z.length ≤ 200 := by omega
  -- row, away
  refine ⟨fun σ' H' => ∃ (r w : Addr) (w13 : Option V), σ' = [some (.ref a), some (.ref p), some (.int (0 + (i : Int))), some (.int n), some (.str z), some (.ref pl), w6, some (.ref r), some (.ref w), v9, v10, v11, v12, w13] ∧ H' r = some (.tup (ls.map V.int)) ∧ H' w = some (.tup ((ls.map (· + 1)).map V.int)) ∧ Pen H' p l t9, ?_, ?_⟩
  · refine ⟨_, rfl, pl, _, rfl, .inl ⟨SqL.of h11, fun r hr11 => ?_⟩⟩
    have hp12 := Same.new (o := .tup (ls.map V.int)) hr11 _ _ h11
    refine ⟨_, rfl, pl, rfl, ⟨_, SqL.of hp12⟩, fun D hD => lc_it walk_list (fun m H' => Same (upd H11 r (.tup (ls.map V.int))) H' ∧ H' D = some (.lst (((ls.take m).map (· + 1)).map V.int)))
      ⟨Same.new hD, upd_same⟩ (fun m H' _ z => SqL.of (z.1 _ _ hp12)) ?_ ?_⟩
    · rintro m y H13 H14 hm ⟨s13, h13⟩ ⟨rfl, hy⟩
      obtain ⟨x, hxm, rfl⟩ : ∃ x, ls[m]? = some x ∧ V.int x = y := by
        rw [List.getElem?_map] at hy
        exact Option.map_eq_some_iff.mp hy
      refine ⟨rfl, _, rfl, _, _, rfl, rfl, _, h13, ?_, s13.put hD, ?_⟩
      · rw [List.length_map, List.length_map, List.length_take, sizeLine_eq]
        omega
      · rw [List.take_add_one, hxm, List.map_append, List.map_append]
        exact upd_same
    · rintro H13 ⟨s13, h13⟩
      rw [List.length_map, List.take_length] at h13
      refine ⟨D, _, rfl, .inl ⟨SqL.of h13, fun w hw => ⟨_, _, rfl, ?_⟩⟩⟩
      exact ⟨r, w, _, rfl, (s13.trans (Same.new hw)) _ _ upd_same, upd_same, ((pen11.new hr11).same s13).new hw⟩
  rintro σ' H15 ⟨r, w, w13, rfl, hr15, hw15, pen15⟩
  -- made, others
  refine ⟨fun σ' H' => ∃ (m o : Addr) (as bs : List V), σ' = [some (.ref a), some (.ref p), some (.int (0 + (i : Int))), some (.int n), some (.str z), some (.ref pl), w6, some (.ref r), some (.ref w), some (.ref m), some (.ref o), v11, v12, w13] ∧ Same H15 H' ∧ H' m = some (.lst as) ∧ Made K H' (numC (.int n)) as ∧ H' o = some (.lst bs) ∧ Made K H' (numC (.int (n + 1))) bs, ?_, ?_⟩
  · refine ⟨_, rfl, n, rfl, lg0, fun m as H16 nm s16 hm Mm => ⟨_, rfl, _, _, rfl, rfl, _, rfl, lg1, fun o bs H17 no s17 ho Mo => ⟨_, _, rfl, ?_⟩⟩⟩
    exact ⟨m, o, as, bs, rfl, s16.trans s17, s17 _ _ hm, Mm.same s17, ho, Mo⟩
  rintro σ' H18 ⟨m, o, as, bs, rfl, s18, hm, Mm, ho, Mo⟩
  -- told, moved
  refine ⟨fun σ' H' => ∃ (td mv : Addr) (cs ds : List V), σ' = [some (.ref a), some (.ref p), some (.int (0 + (i : Int))), some (.int n), some (.str z), some (.ref pl), w6, some (.ref r), some (.ref w), some (.ref m), some (.ref o), some (.ref td), some (.ref mv), w13] ∧ Five K H' p l m o td mv r w as bs cs ds n z ls t9, ?_, ?_⟩
  · refine ⟨_, rfl, _, rfl, z, r, ls, rfl, zl2, SqT.of (s18 _ _ hr15), li, by omega, fun td cs H19 nt s19 ht19 Mt => ?_⟩
    refine ⟨_, rfl, _, _, rfl, rfl, xz, _, rfl, _, w, ls.map (· + 1), rfl, xl, SqT.of (s19 _ _ (s18 _ _ hw15)), li1, by omega, fun mv ds H20 nv s20 hv20 Mv => ⟨_, _, rfl, ?_⟩⟩
    have all := s19.trans s20
    exact ⟨td, mv, cs, ds, rfl, all _ _ hm, Mm.same all, all _ _ ho, Mo.same all, s20 _ _ ht19, Mt.same s20, hv20, Mv, all _ _ (s18 _ _ hr15), all _ _ (s18 _ _ hw15), (pen15.same s18).same all⟩
  rintro σ' H21 ⟨td, mv, cs, ds, rfl, F⟩
  -- the four tests
  refine ⟨fun σ' H' => σ' = [some (.ref a), some (.ref p), some (.int (0 + (i : Int))), some (.int n), some (.str z), some (.ref pl), w6, some (.ref r), some (.ref w), some (.ref m), some (.ref o), some (.ref td), some (.ref mv), w13] ∧ Five K H' p l m o td mv r w as bs cs ds n z ls t9, ?_, ?_⟩
  · refine ⟨_, rfl, m, _, _, rfl, F.hm, F.Mm, fun q G1 nq u1 hq => ⟨q, D7 n, rfl, dp7 hq, (good7 lg0).sh, (good7 lg0).nd, (good7 lg0).dp, (good7 lg0).line, ?_⟩⟩
    refine ⟨_, rfl, by show 1 ≤ sizeLine; decide, fun u hu1 => ⟨u, 7, _, rfl, rfl, upd_same, by decide, by decide, by show 1 * 7 ≤ sizeLine; decide, fun y hy => ⟨y, D7 n, rfl, dp7 upd_same, (good7 lg0).sh, (good7 lg0).nd, (good7 lg0).dp, (good7 lg0).line, rfl, _, rfl, iteNS rfl ?_⟩⟩⟩
    exact ⟨rfl, F.same ((u1.trans (Same.new hu1)).trans (Same.new hy))⟩
  rintro σ' H22 ⟨rfl, F⟩
  refine ⟨fun σ' H' => σ' = [some (.ref a), some (.ref p), some (.int (0 + (i : Int))), some (.int n), some (.str z), some (.ref pl), w6, some (.ref r), some (.ref w), some (.ref m), some (.ref o), some (.ref td), some (.ref mv), w13] ∧ Five K H' p l m o td mv r w as bs cs ds n z ls t9, ?_, ?_⟩
  · refine ⟨_, rfl, o, _, _, rfl, F.ho, F.Mo, fun q G1 nq u1 hq => ⟨q, D7 (n + 1), rfl, dp7 hq, (good7 lg1).sh, (good7 lg1).nd, (good7 lg1).dp, (good7 lg1).line, ?_⟩⟩
    refine ⟨_, rfl, _, _, rfl, rfl, by show 1 ≤ sizeLine; decide, fun u hu1 => ⟨u, 7, _, rfl, rfl, upd_same, by decide, by decide, by show 1 * 7 ≤ sizeLine; decide, fun y hy => ⟨y, D7 (n + 1), rfl, dp7 upd_same, (good7 lg1).sh, (good7 lg1).nd, (good7 lg1).dp, (good7 lg1).line, rfl, _, rfl, iteNS rfl ?_⟩⟩⟩
    exact ⟨rfl, F.same ((u1.trans (Same.new hu1)).trans (Same.new hy))⟩
  rintro σ' H23 ⟨rfl, F⟩
  refine ⟨fun σ' H' => σ' = [some (.ref a), some (.ref p), some (.int (0 + (i : Int))), some (.int n), some (.str z), some (.ref pl), w6, some (.ref r), some (.ref w), some (.ref m), some (.ref o), some (.ref td), some (.ref mv), w13] ∧ Five K H' p l m o td mv r w as bs cs ds n z ls t9, ?_, ?_⟩
  · refine ⟨_, rfl, td, _, _, _, rfl, F.ht, F.Mt, fun q G1 nq u1 hq => ⟨q, D5 z ls, rfl, dp5 hq ((F.same u1).hr |> SqT.of), (good5 zl2 zlow li hl).sh, (good5 zl2 zlow li hl).nd, (good5 zl2 zlow li hl).dp, (good5 zl2 zlow li hl).line, ?_⟩⟩
    refine ⟨_, rfl, by show 1 ≤ sizeLine; decide, fun u hu1 => ⟨u, 3, _, rfl, rfl, upd_same, by decide, by decide, by show 1 * 3 ≤ sizeLine; decide, fun y hy => ?_⟩⟩
    refine ⟨_, rfl, by show 1 ≤ sizeLine; decide, fun u2 hu2 => ⟨u2, 2, _, rfl, rfl, upd_same, by decide, by decide, by show 1 * 2 ≤ sizeLine; decide, fun y2 hy2 => ?_⟩⟩
    have w1 := fun o2 => ((((u1.trans (Same.new hu1)).trans (Same.new hy)).trans (Same.new hu2)).trans (Same.new (o := o2) hy2))
    refine ⟨y, y2, _, _, rfl, rfl, ((Same.new hu2).trans (Same.new hy2)) _ _ upd_same, upd_same, by show 3 + 2 ≤ sizeLine; decide, fun c hc => ?_⟩
    exact ⟨c, D5 z ls, rfl, dp5 upd_same (SqT.of ((F.same ((w1 _).trans (Same.new hc))).hr)), (good5 zl2 zlow li hl).sh, (good5 zl2 zlow li hl).nd, (good5 zl2 zlow li hl).dp, (good5 zl2 zlow li hl).line, rfl, _, rfl, iteNS rfl ⟨rfl, F.same ((w1 _).trans (Same.new hc))⟩⟩
  rintro σ' H24 ⟨rfl, F⟩
  refine ⟨fun σ' H' => σ' = [some (.ref a), some (.ref p), some (.int (0 + (i : Int))), some (.int n), some (.str z), some (.ref pl), w6, some (.ref r), some (.ref w), some (.ref m), some (.ref o), some (.ref td), some (.ref mv), w13] ∧ Five K H' p l m o td mv r w as bs cs ds n z ls t9, ?_, ?_⟩
  · refine ⟨_, rfl, mv, _, _, _, rfl, F.hv, F.Mv, fun q G1 nq u1 hq => ⟨q, D5 (("x" : Str) ++ z) (ls.map (· + 1)), rfl, dp5 hq ((F.same u1).hw |> SqT.of), (good5 xl xlow li1 hl1).sh, (good5 xl xlow li1 hl1).nd, (good5 xl xlow li1 hl1).dp, (good5 xl xlow li1 hl1).line, ?_⟩⟩
    refine ⟨_, rfl, _, _, rfl, rfl, xz, by show 1 ≤ sizeLine; decide, fun u hu1 => ⟨u, 3, _, rfl, rfl, upd_same, by decide, by decide, by show 1 * 3 ≤ sizeLine; decide, fun y hy => ?_⟩⟩
    refine ⟨_, rfl, by show 1 ≤ sizeLine; decide, fun u2 hu2 => ⟨u2, 2, _, rfl, rfl, upd_same, by decide, by decide, by show 1 * 2 ≤ sizeLine; decide, fun y2 hy2 => ?_⟩⟩
    have w1 := fun o2 => ((((u1.trans (Same.new hu1)).trans (Same.new hy)).trans (Same.new hu2)).trans (Same.new (o := o2) hy2))
    refine ⟨y, y2, _, _, rfl, rfl, ((Same.new hu2).trans (Same.new hy2)) _ _ upd_same, upd_same, by show 3 + 2 ≤ sizeLine; decide, fun c hc => ?_⟩
    exact ⟨c, D5 (("x" : Str) ++ z) (ls.map (· + 1)), rfl, dp5 upd_same (SqT.of ((F.same ((w1 _).trans (Same.new hc))).hw)), (good5 xl xlow li1 hl1).sh, (good5 xl xlow li1 hl1).nd, (good5 xl xlow li1 hl1).dp, (good5 xl xlow li1 hl1).line, rfl, _, rfl, iteNS rfl ⟨rfl, F.same ((w1 _).trans (Same.new hc))⟩⟩
  rintro σ' H25 ⟨rfl, F⟩
  -- all right
  refine ⟨_, rfl, m, as, _, rfl, F.hm, F.Mm, fun G1 u1 => ⟨true, rfl, iteF ?_⟩⟩
  refine ⟨_, rfl, td, cs, _, _, rfl, (F.same u1).ht, (F.same u1).Mt, fun G2 u2 => ⟨true, rfl, iteF ?_⟩⟩
  refine ⟨rfl, fun G3 u3 => ⟨true, rfl, iteF ?_⟩⟩
  exact ⟨_, _, _, _, _, _, _, _, _, _, _, _, t9, rfl, (((F.same u1).same u2).same u3).pen, by omega⟩
end
end K71
end
section
set_option Elab.async false
set_option linter.all false
set_option maxRecDepth 100000
set_option maxHeartbeats 0
namespace K71
open PySem PySem.Spec PyProof.Rows L2
/-! what the top leaves: the classes -/
def oexB (K : PySem.W.Frag) (C : Addr) : Bool :=
  (match K.lookup C with
  | some { cls := .type t, dict := _, data := .cls cd, slots := sl } =>
    match cd.mro, sl.toList with
    | .ref C' :: bm, [_, _, _, _, some (.builtin n), _] => decide (t = "type") && (decide (C' = C) && (decide (n = "ValueError.__new__") && (cd.hasDict && (!cd.hasDel && HandSPX.refsVE bm))))
    | _, _ => false
  | _ => false) && (decide (PySem.W.findIn K (.ref C) "__setattr__" = some (some (.builtin "object.__setattr__"))) && (decide (PySem.W.subIn K (.ref C) (.type "BaseException") = some true) && (decide (PySem.W.typeIn K (.ref C) = some (.type "type")) && PySem.W.keepIn K (.ref C))))
theorem oexB_ok {K : PySem.W.Frag} {C : Addr} (h : oexB K C = true) : OexC K C := by
  unfold oexB at h
  simp only [Bool.and_eq_true, decide_eq_true_eq] at h
  obtain ⟨h1, h2, h3, h4, h5⟩ := h
  refine ⟨?_, h2, h3, h4, h5⟩
  revert h1
  split
  · rename_i t dd cd sl e
    split
    · rename_i C' bm k0 k1 k2 k3 n k5 em es
      intro h
      simp only [Bool.and_eq_true, decide_eq_true_eq, Bool.not_eq_true'] at h
      obtain ⟨a1, a2, a3, a4, a5, a6⟩ := h
      subst a1 a2 a3
      obtain ⟨nm, bs, mro, N, qn, hdct, sn, sub, ab, col, hd⟩ := cd
      simp only at em a4 a5
      subst em a4 a5
      obtain ⟨sl⟩ := sl
      simp only at es
      subst es
      exact ⟨nm, qn, N, bs, bm, sn, sub, ab, col, dd, k0, k1, k2, k3, k5, e, a6⟩
    · intro h
      cases h
  · intro h
    cases h
def exvB (K : PySem.W.Frag) (C : Addr) : Bool :=
  xfB K C && ((PySem.W.clsIn K C).isSome && (decide (PySem.W.findIn K (.ref C) "__class__" = some (some (.builtin "object.__class__"))) && decide (PySem.W.mroIn K C (.type "object") = some true)))
def clsB (K : PySem.W.Frag) : Bool :=
  decide (PySem.W.specialIn K (.builtin "object.__class__") "__get__" = some (some (.builtin "getset_descriptor.__get__"))) && decide (PySem.W.takesIn K (.builtin "object.__class__") = some true)
theorem exvB_ok {K : PySem.W.Frag} {C : Addr} (c : clsB K = true) (h : exvB K C = true) : ExV K C := by
  unfold exvB at h
  unfold clsB at c
  simp only [Bool.and_eq_true, decide_eq_true_eq] at h c
  exact ⟨xfB_ok h.1, h.2.1, h.2.2.1, c.1, c.2, h.2.2.2⟩
def isiB (K : PySem.W.Frag) (x : Str) : Bool := (names.all fun y => decide (PySem.W.kitOne K (.ref (He.ga K x)) (.ref (He.ga K y)) = some (decide (x = y)))) && (decide (PySem.W.kitOne K (.ref (He.ga K x)) (.ref (He.ga K "PartlyError")) = some true) && decide (PySem.W.kitOne K (.ref (He.ga K x)) (.type "ValueError") = some true))
def iniB (K : PySem.W.Frag) (x : Str) : Bool := decide (PySem.W.findIn K (.ref (He.ga K x)) "__init__" = some (some (.ref (He.ma K (He.ga K x) "__init__")))) && decide (PySem.W.typeIn K (.ref (He.ma K (He.ga K x) "__init__")) = some (.type "function"))
def noB (K : PySem.W.Frag) (p : Str × Str) : Bool := decide (PySem.W.findIn K (.ref (He.ga K p.1)) p.2 = some none)
def partB (K : PySem.W.Frag) : Bool :=
  PySem.W.readsIn K (He.ga K "PartlyError") (.type "type") && (decide (PySem.W.specialIn K (.ref (He.ga K "PartlyError")) "__getattribute__" = some (some (.builtin "type.__getattribute__"))) &&
  (match PySem.W.findCls K (.ref (He.ga K "PartlyError")) (.type "type") "__init__" with
  | some (.val (.builtin n)) => decide (n = "ValueError.__init__")
  | _ => false))
def nos : List (Str × Str) := [("BadPointers", "index"), ("BadContract", "line"), ("BadProgram", "line"), ("BadCount", "count"), ("NoLine", "line"), ("TooMany", "limit"), ("NoFact", "index"), ("BadName", "name"), ("Taken", "name"), ("NoFunction", "name"), ("Stuck", "places"), ("Parted", "places")]
def exB (K : PySem.W.Frag) : Bool := (names.all fun x => oexB K (He.ga K x) && (exvB K (He.ga K x) && (isiB K x && iniB K x))) && (clsB K && (nos.all (noB K) && partB K))
/-! the defs, the facts -/
def d_begun_pen : He.DefD := ⟨("_law_begun_pen", none), "_law_begun_pen", "_law_begun_pen", defArgs s_begun_pen, defBody s_begun_pen, defScope s_begun_pen, [], []⟩
def d_draw : He.DefD := ⟨("_law_draw", none), "_law_draw", "_law_draw", defArgs s_draw, defBody s_draw, defScope s_draw, [], []⟩
def d_pick : He.DefD := ⟨("_law_pick", none), "_law_pick", "_law_pick", defArgs s_pick, defBody s_pick, defScope s_pick, [], []⟩
def d_far_number : He.DefD := ⟨("_law_far_number", none), "_law_far_number", "_law_far_number", defArgs s_far_number, defBody s_far_number, defScope s_far_number, [], []⟩
def d_barred : He.DefD := ⟨("_law_barred", none), "_law_barred", "_law_barred", defArgs s_barred, defBody s_barred, defScope s_barred, [], []⟩
def d_is_name : He.DefD := ⟨("_law_is_name", none), "_law_is_name", "_law_is_name", defArgs s_is_name, defBody s_is_name, defScope s_is_name, [], []⟩
def d_new_words : He.DefD := ⟨("_law_new_words", none), "_law_new_words", "_law_new_words", defArgs s_new_words, defBody s_new_words, defScope s_new_words, [], []⟩
def d_classes : He.DefD := ⟨("_law_classes", none), "_law_classes", "_law_classes", defArgs s_classes, defBody s_classes, defScope s_classes, [], []⟩
def d_is_one : He.DefD := ⟨("_law_is_one", none), "_law_is_one", "_law_is_one", defArgs s_is_one, defBody s_is_one, defScope s_is_one, [], []⟩
def d_numbered : He.DefD := ⟨("_law_numbered", none), "_law_numbered", "_law_numbered", defArgs s_numbered, defBody s_numbered, defScope s_numbered, [], []⟩
def d_numbers : He.DefD := ⟨("_law_numbers", none), "_law_numbers", "_law_numbers", defArgs s_numbers, defBody s_numbers, defScope s_numbers, [], []⟩
def d_numbered_right : He.DefD := ⟨("_law_numbered_right", none), "_law_numbered_right", "_law_numbered_right", defArgs s_numbered_right, defBody s_numbered_right, defScope s_numbered_right, [], []⟩
def d_told : He.DefD := ⟨("_law_told", none), "_law_told", "_law_told", defArgs s_told, defBody s_told, defScope s_told, [], []⟩
def d_told_fields : He.DefD := ⟨("_law_told_fields", none), "_law_told_fields", "_law_told_fields", defArgs s_told_fields, defBody s_told_fields, defScope s_told_fields, [], []⟩
def d_told_right : He.DefD := ⟨("_law_told_right", none), "_law_told_right", "_law_told_right", defArgs s_told_right, defBody s_told_right, defScope s_told_right, [], []⟩
def d_plain_right : He.DefD := ⟨("_law_plain_right", none), "_law_plain_right", "_law_plain_right", defArgs s_plain_right, defBody s_plain_right, defScope s_plain_right, [], []⟩
def d_law : He.DefD := ⟨("law", none), "law", "law", defArgs s_law, defBody s_law, defScope s_law, [], []⟩
def d_BadContract : He.DefD := ⟨("BadContract", some "__init__"), "__init__", "BadContract.__init__", defArgs s_BadContract, defBody s_BadContract, defScope s_BadContract, [], []⟩
def d_BadCount : He.DefD := ⟨("BadCount", some "__init__"), "__init__", "BadCount.__init__", defArgs s_BadCount, defBody s_BadCount, defScope s_BadCount, [], []⟩
def d_BadName : He.DefD := ⟨("BadName", some "__init__"), "__init__", "BadName.__init__", defArgs s_BadName, defBody s_BadName, defScope s_BadName, [], []⟩
def d_BadPlaces : He.DefD := ⟨("BadPlaces", some "__init__"), "__init__", "BadPlaces.__init__", defArgs s_BadPlaces, defBody s_BadPlaces, defScope s_BadPlaces, [], []⟩
def d_BadPointers : He.DefD := ⟨("BadPointers", some "__init__"), "__init__", "BadPointers.__init__", defArgs s_BadPointers, defBody s_BadPointers, defScope s_BadPointers, [], []⟩
def d_BadProgram : He.DefD := ⟨("BadProgram", some "__init__"), "__init__", "BadProgram.__init__", defArgs s_BadProgram, defBody s_BadProgram, defScope s_BadProgram, [], []⟩
def d_Clash : He.DefD := ⟨("Clash", some "__init__"), "__init__", "Clash.__init__", defArgs s_Clash, defBody s_Clash, defScope s_Clash, [], []⟩
def d_HasRegisters : He.DefD := ⟨("HasRegisters", some "__init__"), "__init__", "HasRegisters.__init__", defArgs s_HasRegisters, defBody s_HasRegisters, defScope s_HasRegisters, [], []⟩
def d_NoFact : He.DefD := ⟨("NoFact", some "__init__"), "__init__", "NoFact.__init__", defArgs s_NoFact, defBody s_NoFact, defScope s_NoFact, [], []⟩
def d_NoFunction : He.DefD := ⟨("NoFunction", some "__init__"), "__init__", "NoFunction.__init__", defArgs s_NoFunction, defBody s_NoFunction, defScope s_NoFunction, [], []⟩
def d_NoLine : He.DefD := ⟨("NoLine", some "__init__"), "__init__", "NoLine.__init__", defArgs s_NoLine, defBody s_NoLine, defScope s_NoLine, [], []⟩
def d_NotTwo : He.DefD := ⟨("NotTwo", some "__init__"), "__init__", "NotTwo.__init__", defArgs s_NotTwo, defBody s_NotTwo, defScope s_NotTwo, [], []⟩
def d_NothingToUndo : He.DefD := ⟨("NothingToUndo", some "__init__"), "__init__", "NothingToUndo.__init__", defArgs s_NothingToUndo, defBody s_NothingToUndo, defScope s_NothingToUndo, [], []⟩
def d_OtherPointers : He.DefD := ⟨("OtherPointers", some "__init__"), "__init__", "OtherPointers.__init__", defArgs s_OtherPointers, defBody s_OtherPointers, defScope s_OtherPointers, [], []⟩
def d_Parted : He.DefD := ⟨("Parted", some "__init__"), "__init__", "Parted.__init__", defArgs s_Parted, defBody s_Parted, defScope s_Parted, [], []⟩
def d_Stuck : He.DefD := ⟨("Stuck", some "__init__"), "__init__", "Stuck.__init__", defArgs s_Stuck, defBody s_Stuck, defScope s_Stuck, [], []⟩
def d_Taken : He.DefD := ⟨("Taken", some "__init__"), "__init__", "Taken.__init__", defArgs s_Taken, defBody s_Taken, defScope s_Taken, [], []⟩
def d_TooMany : He.DefD := ⟨("TooMany", some "__init__"), "__init__", "TooMany.__init__", defArgs s_TooMany, defBody s_TooMany, defScope s_TooMany, [], []⟩
def fn : List He.DefD := [d_begun_pen, d_draw, d_pick, d_far_number, d_barred, d_is_name, d_new_words, d_classes, d_is_one, d_numbered, d_numbers, d_numbered_right, d_told, d_told_fields, d_told_right, d_plain_right, d_law, d_BadContract, d_BadCount, d_BadName, d_BadPlaces, d_BadPointers, d_BadProgram, d_Clash, d_HasRegisters, d_NoFact, d_NoFunction, d_NoLine, d_NotTwo, d_NothingToUndo, d_OtherPointers, d_Parted, d_Stuck, d_Taken, d_TooMany]
def fa1 : List He.Fa := [.glo "_law_begun_pen", .glo "_law_draw", .glo "_law_pick", .glo "_law_far_number", .glo "_law_barred", .glo "_law_is_name", .glo "_law_new_words", .glo "_law_classes", .glo "_law_is_one", .glo "_law_numbered", .glo "_law_numbers", .glo "_law_numbered_right", .glo "_law_told", .glo "_law_told_fields", .glo "_law_told_right", .glo "_law_plain_right", .glo "law", .glo "BadContract", .glo "BadCount", .glo "BadName", .glo "BadPlaces", .glo "BadPointers", .glo "BadProgram", .glo "Clash", .glo "HasRegisters", .glo "NoFact", .glo "NoFunction", .glo "NoLine", .glo "NotTwo", .glo "NothingToUndo"]
def fa2 : List He.Fa := [.glo "OtherPointers", .glo "Parted", .glo "Stuck", .glo "Taken", .glo "TooMany", .glo "PartlyError", .free "int", .free "len", .free "abs", .free "list", .free "range", .free "tuple", .free "isinstance", .free "repr", .free "ValueError"]
def fa : List He.Fa := fa1 ++ fa2
abbrev R : PySem.W.OpenRow := PySem.W.OpenLaw.row PySem.Challenge.rw_partlymet_k71_errors
/-- what stands at the top's end, the statics with it -/
def frY (g : Addr → Option Obj) : PySem.W.Frag := He.frT g (cStatics :: He.asD g 5)
def obY (g : Addr → Option Obj) : He.AlX := (He.obsT fa fn [] (frY g), exB (frY g))
def SaysY (w : World) (h : Heap) : Prop := ∃ K : PySem.W.Frag, K.In h ∧ He.SaysT fa fn [] w K ∧ exB K = true
def hk : PySem.W.Hook where
  α := He.AlX
  obs s := obY s.heap.get?
  val w := He.valX fn [] w
  says := SaysY
  of w s e := ⟨frY s.heap.get?, He.frT_in, congrArg Prod.fst e, congrArg Prod.snd e⟩
  keeps w h h' z k := z.elim fun K y => ⟨K, PySem.W.Frag.In.keeps y.1 k, y.2⟩
def ob (s : PySem.W.SharedT) : He.AlX := obY (HandSHeadRun.getT s)
theorem ob_eq (s : PySem.W.SharedT) : ob s = hk.obs s.abs := congrArg obY (funext fun a => HandSHeadRun.getT_eq s a)
def lo1 : List Str := ["_law_begun_pen", "_law_draw", "_law_pick", "_law_far_number", "_law_barred", "_law_is_name", "_law_new_words", "_law_classes", "_law_is_one", "_law_numbered", "_law_numbers", "_law_numbered_right", "_law_told", "_law_told_fields", "_law_told_right", "_law_plain_right"]
def lo2 : List Str := ["BadContract", "BadCount", "BadName", "BadPlaces", "BadPointers", "BadProgram", "Clash", "HasRegisters", "NoFact", "NoFunction", "NoLine", "NotTwo", "NothingToUndo", "OtherPointers", "Parted", "Stuck", "Taken", "TooMany", "PartlyError"]
abbrev loose : List Str := lo1 ++ lo2
end K71
end
section
set_option Elab.async false
set_option linter.all false
set_option maxRecDepth 100000
set_option maxHeartbeats 0
namespace K71
open PySem PySem.Spec PyProof.Rows L2
theorem run (w : World) : HandSHeadRun.RunEq R (PySem.W.view R.prog [37]) hk ob 6000 loose w := by
  intro os
  kernel_rfl
end K71
end
section
set_option Elab.async false
set_option linter.all false
set_option maxRecDepth 100000
set_option maxHeartbeats 4000000
namespace K71
open PySem PySem.Spec PyProof.Rows L2
section
variable {P : Program} {w : World} {K : PySem.W.Frag} {h : Heap} {mg : Str → Option Value} {base : Heap}
theorem glo (X : K.In h) (G : h.Ns mainGlobals mg) (c : He.SaysD fa fn K) (i : Nat) {x : Str} (e : fa[i]? = some (.glo x)) : mg x = some (.ref (He.ga K x)) := He.glo_ok X G (c.fact i e)
theorem fre (X : K.In h) (G : h.Ns mainGlobals mg) (c : He.SaysD fa fn K) (i : Nat) {x : Str} (e : fa[i]? = some (.free x)) : mg x = none := He.free_ok X G (c.fact i e)
theorem ex_parts (e : exB K = true) : (∀ x ∈ names, oexB K (He.ga K x) = true ∧ exvB K (He.ga K x) = true ∧ isiB K x = true ∧ iniB K x = true) ∧ clsB K = true ∧ (∀ p ∈ nos, noB K p = true) ∧ partB K = true := by
  unfold exB at e
  simp only [Bool.and_eq_true, List.all_eq_true] at e
  exact e
theorem isi_parts {x : Str} (e : isiB K x = true) : (∀ y ∈ names, PySem.W.kitOne K (.ref (He.ga K x)) (.ref (He.ga K y)) = some (decide (x = y))) ∧ PySem.W.kitOne K (.ref (He.ga K x)) (.ref (He.ga K "PartlyError")) = some true ∧ PySem.W.kitOne K (.ref (He.ga K x)) (.type "ValueError") = some true := by
  unfold isiB at e
  simp only [Bool.and_eq_true, List.all_eq_true, decide_eq_true_eq] at e
  exact e
theorem no_of (e : exB K = true) {p : Str × Str} (hp : p ∈ nos) : PySem.W.findIn K (.ref (He.ga K p.1)) p.2 = some none := by
  have z := (ex_parts e).2.2.1 p hp
  unfold noB at z
  exact of_decide_eq_true z
theorem part_of (e : exB K = true) : ClX.CRead K (He.ga K "PartlyError") (.type "type") ∧ PySem.W.findCls K (.ref (He.ga K "PartlyError")) (.type "type") "__init__" = some (.val (.builtin "ValueError.__init__")) := by
  have z := (ex_parts e).2.2.2
  unfold partB at z
  simp only [Bool.and_eq_true, decide_eq_true_eq] at z
  refine ⟨⟨z.1, z.2.1⟩, ?_⟩
  have y := z.2.2
  revert y
  split
  · rename_i n en
    intro y
    rw [en, of_decide_eq_true y]
  · intro y
    cases y
theorem ini_of (e : exB K = true) {x : Str} (hx : x ∈ names) : PySem.W.findIn K (.ref (He.ga K x)) "__init__" = some (some (.ref (He.ma K (He.ga K x) "__init__"))) ∧ PySem.W.typeIn K (.ref (He.ma K (He.ga K x) "__init__")) = some (.type "function") := by
  have z := ((ex_parts e).1 x hx).2.2.2
  unfold iniB at z
  simp only [Bool.and_eq_true, decide_eq_true_eq] at z
  exact z
theorem oex_of (e : exB K = true) {x : Str} (hx : x ∈ names) : OexC K (He.ga K x) := oexB_ok ((ex_parts e).1 x hx).1
theorem txtX (X : K.In h) (G : h.Ns mainGlobals mg) (c : He.SaysD fa fn K) (e : exB K = true) : TxtX K mg where
  f_len := fre X G c 37 rfl
  f_range := fre X G c 40 rfl
  f_isinstance := fre X G c 42 rfl
  f_ValueError := fre X G c 44 rfl
  g_PartlyError := glo X G c 35 rfl
  g_BadContract := glo X G c 17 rfl
  g_BadCount := glo X G c 18 rfl
  g_BadName := glo X G c 19 rfl
  g_BadPlaces := glo X G c 20 rfl
  g_BadPointers := glo X G c 21 rfl
  g_BadProgram := glo X G c 22 rfl
  g_Clash := glo X G c 23 rfl
  g_HasRegisters := glo X G c 24 rfl
  g_NoFact := glo X G c 25 rfl
  g_NoFunction := glo X G c 26 rfl
  g_NoLine := glo X G c 27 rfl
  g_NotTwo := glo X G c 28 rfl
  g_NothingToUndo := glo X G c 29 rfl
  g_OtherPointers := glo X G c 30 rfl
  g_Parted := glo X G c 31 rfl
  g_Stuck := glo X G c 32 rfl
  g_Taken := glo X G c 33 rfl
  g_TooMany := glo X G c 34 rfl
  exv x hx := exvB_ok (ex_parts e).2.1 ((ex_parts e).1 x hx).2.1
  isi x hx y hy := (isi_parts ((ex_parts e).1 x hx).2.2.1).1 y hy
  isB x hx := (isi_parts ((ex_parts e).1 x hx).2.2.1).2.1
  isV x hx := (isi_parts ((ex_parts e).1 x hx).2.2.1).2.2
theorem txtF (X : K.In h) (G : h.Ns mainGlobals mg) (c : He.SaysD fa fn K) (e : exB K = true) : TxtF K mg where
  toTxtX := txtX X G c e
  no_BadPointers_index := no_of e (p := ("BadPointers", "index")) (by decide +kernel)
  no_BadContract_line := no_of e (p := ("BadContract", "line")) (by decide +kernel)
  no_BadProgram_line := no_of e (p := ("BadProgram", "line")) (by decide +kernel)
  no_BadCount_count := no_of e (p := ("BadCount", "count")) (by decide +kernel)
  no_NoLine_line := no_of e (p := ("NoLine", "line")) (by decide +kernel)
  no_TooMany_limit := no_of e (p := ("TooMany", "limit")) (by decide +kernel)
  no_NoFact_index := no_of e (p := ("NoFact", "index")) (by decide +kernel)
  no_BadName_name := no_of e (p := ("BadName", "name")) (by decide +kernel)
  no_Taken_name := no_of e (p := ("Taken", "name")) (by decide +kernel)
  no_NoFunction_name := no_of e (p := ("NoFunction", "name")) (by decide +kernel)
  no_Stuck_places := no_of e (p := ("Stuck", "places")) (by decide +kernel)
  no_Parted_places := no_of e (p := ("Parted", "places")) (by decide +kernel)
theorem txt (X : K.In h) (G : h.Ns mainGlobals mg) (c : He.SaysD fa fn K) : Txt mg where
  f_int := fre X G c 36 rfl
  f_len := fre X G c 37 rfl
  f_abs := fre X G c 38 rfl
  f_list := fre X G c 39 rfl
  f_range := fre X G c 40 rfl
  f_tuple := fre X G c 41 rfl
  f_isinstance := fre X G c 42 rfl
  f_repr := fre X G c 43 rfl
theorem txtE (X : K.In h) (G : h.Ns mainGlobals mg) (c : He.SaysD fa fn K) (e : exB K = true) : TxtE K mg (He.ga K "PartlyError") where
  f_tuple := fre X G c 41 rfl
  g_PartlyError := glo X G c 35 rfl
  r_PartlyError := (part_of e).1
  i_PartlyError := (part_of e).2
theorem deff (X : K.In h) (G : h.Ns mainGlobals mg) (c : He.SaysD fa fn K) {x : Str} {st : Stmt} (i j : Nat) (ei : fn[i]? = some ⟨(x, none), x, x, defArgs st, defBody st, defScope st, [], []⟩) (ej : fa[j]? = some (.glo x)) : Def K mg x st := by
  obtain ⟨fd, F⟩ := c.def_ i ei
  exact ⟨_, fd, F, glo X G c j ej⟩
theorem e_BadContract (X : K.In h) (G : h.Ns mainGlobals mg) (c : He.SaysD fa fn K) (e : exB K = true) : ExK P w K mg base "BadContract" ["self", "line"] (spIni (He.ga K "BadContract") "line" okI) := by
  obtain ⟨fd, F⟩ := c.def_ 17 (d := d_BadContract) rfl
  have hx : ("BadContract" : Str) ∈ names := by decide +kernel
  exact ⟨oex_of e hx, glo X G c 17 rfl, _, fd, ok_BadContract (txtE X G c e) F (oex_of e hx) (no_of e (p := ("BadContract", "line")) (by decide +kernel)), F.bindsN (ps := ["self", "line"]) fun _ _ _ _ _ _ us hl => match us, hl with | [_, _], _ => rfl, (ini_of e hx).1, (ini_of e hx).2⟩
theorem e_BadCount (X : K.In h) (G : h.Ns mainGlobals mg) (c : He.SaysD fa fn K) (e : exB K = true) : ExK P w K mg base "BadCount" ["self", "count"] (spIni (He.ga K "BadCount") "count" okI) := by
  obtain ⟨fd, F⟩ := c.def_ 18 (d := d_BadCount) rfl
  have hx : ("BadCount" : Str) ∈ names := by decide +kernel
  exact ⟨oex_of e hx, glo X G c 18 rfl, _, fd, ok_BadCount (txtE X G c e) F (oex_of e hx) (no_of e (p := ("BadCount", "count")) (by decide +kernel)), F.bindsN (ps := ["self", "count"]) fun _ _ _ _ _ _ us hl => match us, hl with | [_, _], _ => rfl, (ini_of e hx).1, (ini_of e hx).2⟩
theorem e_BadName (X : K.In h) (G : h.Ns mainGlobals mg) (c : He.SaysD fa fn K) (e : exB K = true) : ExK P w K mg base "BadName" ["self", "name"] (spIni (He.ga K "BadName") "name" okS) := by
  obtain ⟨fd, F⟩ := c.def_ 19 (d := d_BadName) rfl
  have hx : ("BadName" : Str) ∈ names := by decide +kernel
  exact ⟨oex_of e hx, glo X G c 19 rfl, _, fd, ok_BadName (txtE X G c e) F (oex_of e hx) (no_of e (p := ("BadName", "name")) (by decide +kernel)), F.bindsN (ps := ["self", "name"]) fun _ _ _ _ _ _ us hl => match us, hl with | [_, _], _ => rfl, (ini_of e hx).1, (ini_of e hx).2⟩
theorem e_BadPlaces (X : K.In h) (G : h.Ns mainGlobals mg) (c : He.SaysD fa fn K) (e : exB K = true) : ExK P w K mg base "BadPlaces" ["self"] (spIni0 (He.ga K "BadPlaces")) := by
  obtain ⟨fd, F⟩ := c.def_ 20 (d := d_BadPlaces) rfl
  have hx : ("BadPlaces" : Str) ∈ names := by decide +kernel
  exact ⟨oex_of e hx, glo X G c 20 rfl, _, fd, ok_BadPlaces (txtE X G c e) F (oex_of e hx), F.bindsN (ps := ["self"]) fun _ _ _ _ _ _ us hl => match us, hl with | [_], _ => rfl, (ini_of e hx).1, (ini_of e hx).2⟩
theorem e_BadPointers (X : K.In h) (G : h.Ns mainGlobals mg) (c : He.SaysD fa fn K) (e : exB K = true) : ExK P w K mg base "BadPointers" ["self", "index"] (spIni (He.ga K "BadPointers") "index" okI) := by
  obtain ⟨fd, F⟩ := c.def_ 21 (d := d_BadPointers) rfl
  have hx : ("BadPointers" : Str) ∈ names := by decide +kernel
  exact ⟨oex_of e hx, glo X G c 21 rfl, _, fd, ok_BadPointers (txtE X G c e) F (oex_of e hx) (no_of e (p := ("BadPointers", "index")) (by decide +kernel)), F.bindsN (ps := ["self", "index"]) fun _ _ _ _ _ _ us hl => match us, hl with | [_, _], _ => rfl, (ini_of e hx).1, (ini_of e hx).2⟩
theorem e_BadProgram (X : K.In h) (G : h.Ns mainGlobals mg) (c : He.SaysD fa fn K) (e : exB K = true) : ExK P w K mg base "BadProgram" ["self", "line"] (spIni (He.ga K "BadProgram") "line" okI) := by
  obtain ⟨fd, F⟩ := c.def_ 22 (d := d_BadProgram) rfl
  have hx : ("BadProgram" : Str) ∈ names := by decide +kernel
  exact ⟨oex_of e hx, glo X G c 22 rfl, _, fd, ok_BadProgram (txtE X G c e) F (oex_of e hx) (no_of e (p := ("BadProgram", "line")) (by decide +kernel)), F.bindsN (ps := ["self", "line"]) fun _ _ _ _ _ _ us hl => match us, hl with | [_, _], _ => rfl, (ini_of e hx).1, (ini_of e hx).2⟩
theorem e_Clash (X : K.In h) (G : h.Ns mainGlobals mg) (c : He.SaysD fa fn K) (e : exB K = true) : ExK P w K mg base "Clash" ["self"] (spIni0 (He.ga K "Clash")) := by
  obtain ⟨fd, F⟩ := c.def_ 23 (d := d_Clash) rfl
  have hx : ("Clash" : Str) ∈ names := by decide +kernel
  exact ⟨oex_of e hx, glo X G c 23 rfl, _, fd, ok_Clash (txtE X G c e) F (oex_of e hx), F.bindsN (ps := ["self"]) fun _ _ _ _ _ _ us hl => match us, hl with | [_], _ => rfl, (ini_of e hx).1, (ini_of e hx).2⟩
theorem e_HasRegisters (X : K.In h) (G : h.Ns mainGlobals mg) (c : He.SaysD fa fn K) (e : exB K = true) : ExK P w K mg base "HasRegisters" ["self"] (spIni0 (He.ga K "HasRegisters")) := by
  obtain ⟨fd, F⟩ := c.def_ 24 (d := d_HasRegisters) rfl
  have hx : ("HasRegisters" : Str) ∈ names := by decide +kernel
  exact ⟨oex_of e hx, glo X G c 24 rfl, _, fd, ok_HasRegisters (txtE X G c e) F (oex_of e hx), F.bindsN (ps := ["self"]) fun _ _ _ _ _ _ us hl => match us, hl with | [_], _ => rfl, (ini_of e hx).1, (ini_of e hx).2⟩
theorem e_NoFact (X : K.In h) (G : h.Ns mainGlobals mg) (c : He.SaysD fa fn K) (e : exB K = true) : ExK P w K mg base "NoFact" ["self", "index"] (spIni (He.ga K "NoFact") "index" okI) := by
  obtain ⟨fd, F⟩ := c.def_ 25 (d := d_NoFact) rfl
  have hx : ("NoFact" : Str) ∈ names := by decide +kernel
  exact ⟨oex_of e hx, glo X G c 25 rfl, _, fd, ok_NoFact (txtE X G c e) F (oex_of e hx) (no_of e (p := ("NoFact", "index")) (by decide +kernel)), F.bindsN (ps := ["self", "index"]) fun _ _ _ _ _ _ us hl => match us, hl with | [_, _], _ => rfl, (ini_of e hx).1, (ini_of e hx).2⟩
theorem e_NoFunction (X : K.In h) (G : h.Ns mainGlobals mg) (c : He.SaysD fa fn K) (e : exB K = true) : ExK P w K mg base "NoFunction" ["self", "name"] (spIni (He.ga K "NoFunction") "name" okS) := by
  obtain ⟨fd, F⟩ := c.def_ 26 (d := d_NoFunction) rfl
  have hx : ("NoFunction" : Str) ∈ names := by decide +kernel
  exact ⟨oex_of e hx, glo X G c 26 rfl, _, fd, ok_NoFunction (txtE X G c e) F (oex_of e hx) (no_of e (p := ("NoFunction", "name")) (by decide +kernel)), F.bindsN (ps := ["self", "name"]) fun _ _ _ _ _ _ us hl => match us, hl with | [_, _], _ => rfl, (ini_of e hx).1, (ini_of e hx).2⟩
theorem e_NoLine (X : K.In h) (G : h.Ns mainGlobals mg) (c : He.SaysD fa fn K) (e : exB K = true) : ExK P w K mg base "NoLine" ["self", "line"] (spIni (He.ga K "NoLine") "line" okI) := by
  obtain ⟨fd, F⟩ := c.def_ 27 (d := d_NoLine) rfl
  have hx : ("NoLine" : Str) ∈ names := by decide +kernel
  exact ⟨oex_of e hx, glo X G c 27 rfl, _, fd, ok_NoLine (txtE X G c e) F (oex_of e hx) (no_of e (p := ("NoLine", "line")) (by decide +kernel)), F.bindsN (ps := ["self", "line"]) fun _ _ _ _ _ _ us hl => match us, hl with | [_, _], _ => rfl, (ini_of e hx).1, (ini_of e hx).2⟩
theorem e_NotTwo (X : K.In h) (G : h.Ns mainGlobals mg) (c : He.SaysD fa fn K) (e : exB K = true) : ExK P w K mg base "NotTwo" ["self"] (spIni0 (He.ga K "NotTwo")) := by
  obtain ⟨fd, F⟩ := c.def_ 28 (d := d_NotTwo) rfl
  have hx : ("NotTwo" : Str) ∈ names := by decide +kernel
  exact ⟨oex_of e hx, glo X G c 28 rfl, _, fd, ok_NotTwo (txtE X G c e) F (oex_of e hx), F.bindsN (ps := ["self"]) fun _ _ _ _ _ _ us hl => match us, hl with | [_], _ => rfl, (ini_of e hx).1, (ini_of e hx).2⟩
theorem e_NothingToUndo (X : K.In h) (G : h.Ns mainGlobals mg) (c : He.SaysD fa fn K) (e : exB K = true) : ExK P w K mg base "NothingToUndo" ["self"] (spIni0 (He.ga K "NothingToUndo")) := by
  obtain ⟨fd, F⟩ := c.def_ 29 (d := d_NothingToUndo) rfl
  have hx : ("NothingToUndo" : Str) ∈ names := by decide +kernel
  exact ⟨oex_of e hx, glo X G c 29 rfl, _, fd, ok_NothingToUndo (txtE X G c e) F (oex_of e hx), F.bindsN (ps := ["self"]) fun _ _ _ _ _ _ us hl => match us, hl with | [_], _ => rfl, (ini_of e hx).1, (ini_of e hx).2⟩
theorem e_OtherPointers (X : K.In h) (G : h.Ns mainGlobals mg) (c : He.SaysD fa fn K) (e : exB K = true) : ExK P w K mg base "OtherPointers" ["self"] (spIni0 (He.ga K "OtherPointers")) := by
  obtain ⟨fd, F⟩ := c.def_ 30 (d := d_OtherPointers) rfl
  have hx : ("OtherPointers" : Str) ∈ names := by decide +kernel
  exact ⟨oex_of e hx, glo X G c 30 rfl, _, fd, ok_OtherPointers (txtE X G c e) F (oex_of e hx), F.bindsN (ps := ["self"]) fun _ _ _ _ _ _ us hl => match us, hl with | [_], _ => rfl, (ini_of e hx).1, (ini_of e hx).2⟩
theorem e_Parted (X : K.In h) (G : h.Ns mainGlobals mg) (c : He.SaysD fa fn K) (e : exB K = true) : ExK P w K mg base "Parted" ["self", "places"] (spIni (He.ga K "Parted") "places" (okT K)) := by
  obtain ⟨fd, F⟩ := c.def_ 31 (d := d_Parted) rfl
  have hx : ("Parted" : Str) ∈ names := by decide +kernel
  exact ⟨oex_of e hx, glo X G c 31 rfl, _, fd, ok_Parted (txtE X G c e) F (oex_of e hx) (no_of e (p := ("Parted", "places")) (by decide +kernel)), F.bindsN (ps := ["self", "places"]) fun _ _ _ _ _ _ us hl => match us, hl with | [_, _], _ => rfl, (ini_of e hx).1, (ini_of e hx).2⟩
theorem e_Stuck (X : K.In h) (G : h.Ns mainGlobals mg) (c : He.SaysD fa fn K) (e : exB K = true) : ExK P w K mg base "Stuck" ["self", "places"] (spIni (He.ga K "Stuck") "places" (okT K)) := by
  obtain ⟨fd, F⟩ := c.def_ 32 (d := d_Stuck) rfl
  have hx : ("Stuck" : Str) ∈ names := by decide +kernel
  exact ⟨oex_of e hx, glo X G c 32 rfl, _, fd, ok_Stuck (txtE X G c e) F (oex_of e hx) (no_of e (p := ("Stuck", "places")) (by decide +kernel)), F.bindsN (ps := ["self", "places"]) fun _ _ _ _ _ _ us hl => match us, hl with | [_, _], _ => rfl, (ini_of e hx).1, (ini_of e hx).2⟩
theorem e_Taken (X : K.In h) (G : h.Ns mainGlobals mg) (c : He.SaysD fa fn K) (e : exB K = true) : ExK P w K mg base "Taken" ["self", "name"] (spIni (He.ga K "Taken") "name" okS) := by
  obtain ⟨fd, F⟩ := c.def_ 33 (d := d_Taken) rfl
  have hx : ("Taken" : Str) ∈ names := by decide +kernel
  exact ⟨oex_of e hx, glo X G c 33 rfl, _, fd, ok_Taken (txtE X G c e) F (oex_of e hx) (no_of e (p := ("Taken", "name")) (by decide +kernel)), F.bindsN (ps := ["self", "name"]) fun _ _ _ _ _ _ us hl => match us, hl with | [_, _], _ => rfl, (ini_of e hx).1, (ini_of e hx).2⟩
theorem e_TooMany (X : K.In h) (G : h.Ns mainGlobals mg) (c : He.SaysD fa fn K) (e : exB K = true) : ExK P w K mg base "TooMany" ["self", "limit"] (spIni (He.ga K "TooMany") "limit" okI) := by
  obtain ⟨fd, F⟩ := c.def_ 34 (d := d_TooMany) rfl
  have hx : ("TooMany" : Str) ∈ names := by decide +kernel
  exact ⟨oex_of e hx, glo X G c 34 rfl, _, fd, ok_TooMany (txtE X G c e) F (oex_of e hx) (no_of e (p := ("TooMany", "limit")) (by decide +kernel)), F.bindsN (ps := ["self", "limit"]) fun _ _ _ _ _ _ us hl => match us, hl with | [_, _], _ => rfl, (ini_of e hx).1, (ini_of e hx).2⟩
theorem red_all (X : K.In h) (G : h.Ns mainGlobals mg) (c : He.SaysD fa fn K) (e : exB K = true) (A : Around) (hA : A.guards = some []) (f : Addr) (cdv : Value) (outer : List Env) (s : Shared) (H : Hp) (vs : List V) (Q : VK) (E : XK) (hr : Room 3 (A.deeper (envOfC "law" (defScope s_law) s.heap.objs.size f cdv))) (hs : spLaw K vs H Q E) :
    ∃ t, PSs (cxOf CX0 P w K mg base ["script", "pen", "turn", "number", "text", "places", "k", "row", "away", "made", "others", "told", "moved", "place"] "law" (defScope s_law) f cdv A outer s H E).nox (defBody s_law) t ∧ t { nx := fun _ H' => Q .non H', rt := Q } (start ["script", "pen", "turn", "number", "text", "places", "k", "row", "away", "made", "others", "told", "moved", "place"] vs) H := by
  have T := txtX X G c e
  have TF := txtF X G c e
  have TT := txt X G c
  have c_draw : Cal P w K mg base 1 "_law_draw" ["pen", "span"] spDraw := ok_draw TT (deff X G c 1 1 rfl rfl) 
  have c_begun_pen : Cal P w K mg base 1 "_law_begun_pen" ["script"] (spBegun K) := ok_begun_pen TT (deff X G c 0 0 rfl rfl) 
  have c_pick : Cal P w K mg base 2 "_law_pick" ["pen", "options"] (spPick K) := ok_pick TT (deff X G c 2 2 rfl rfl) c_draw
  have c_far_number : Cal P w K mg base 2 "_law_far_number" ["pen"] spFar := ok_far_number TT (deff X G c 3 3 rfl rfl) c_draw
  have c_barred : Cal P w K mg base 1 "_law_barred" [] spBarred := ok_barred TT (deff X G c 4 4 rfl rfl) 
  have c_is_name : Cal P w K mg base 2 "_law_is_name" ["word"] spIsName := ok_is_name TT (deff X G c 5 5 rfl rfl) c_barred
  have c_new_words : Cal P w K mg base 3 "_law_new_words" ["pen", "many"] spNewWords := ok_new_words TT (deff X G c 6 6 rfl rfl) c_draw c_pick c_is_name
  have c_classes : Cal P w K mg base 1 "_law_classes" ["e"] (spClasses K) := ok_classes T (deff X G c 7 7 rfl rfl) 
  have c_is_one : Cal P w K mg base 2 "_law_is_one" ["e", "is_own"] (spIsOne K) := ok_is_one T (deff X G c 8 8 rfl rfl) c_classes
  have c_numbered : Cal P w K mg base 3 "_law_numbered" ["number"] (spNumbered K) := ok_numbered T (deff X G c 9 9 rfl rfl) (e_BadPointers X G c e) (e_BadContract X G c e) (e_BadProgram X G c e) (e_BadCount X G c e) (e_NoLine X G c e) (e_TooMany X G c e) (e_NoFact X G c e)
  have c_told : Cal P w K mg base 3 "_law_told" ["text", "places"] (spTold K) := ok_told T (deff X G c 12 12 rfl rfl) (e_BadName X G c e) (e_Taken X G c e) (e_NoFunction X G c e) (e_Stuck X G c e) (e_Parted X G c e)
  have c_numbers : Cal P w K mg base 1 "_law_numbers" ["made"] (spNumbers K) := ok_numbers TF (deff X G c 10 10 rfl rfl) 
  have c_told_fields : Cal P w K mg base 1 "_law_told_fields" ["made"] (spToldF K) := ok_told_fields TF (deff X G c 13 13 rfl rfl) 
  have c_numbered_right : Cal P w K mg base 3 "_law_numbered_right" ["made"] (spNumR K) := ok_numbered_right T (deff X G c 11 11 rfl rfl) c_is_one
  have c_told_right : Cal P w K mg base 3 "_law_told_right" ["made"] (spToldR K) := ok_told_right T (deff X G c 14 14 rfl rfl) c_is_one
  have c_plain_right : Cal P w K mg base 3 "_law_plain_right" [] spPlain := ok_plain_right T (deff X G c 15 15 rfl rfl) c_is_one (e_BadPlaces X G c e) (e_OtherPointers X G c e) (e_HasRegisters X G c e) (e_NotTwo X G c e) (e_Clash X G c e) (e_NothingToUndo X G c e)
  exact law_red TF TT c_begun_pen c_draw c_pick c_far_number c_new_words c_numbered c_told c_numbers c_told_fields c_numbered_right c_told_right c_plain_right A hA f cdv outer s H vs Q E hr hs
end
end K71
end
set_option Elab.async false
set_option linter.all false
set_option maxRecDepth 100000
set_option maxHeartbeats 4000000
open PySem PySem.W PySem.Calls PyProof.Rows PySem.Spec
theorem PySem.Challenge.cw_partlymet_k71_errors_holds : PySem.Challenge.rw_partlymet_k71_errors.Holds := by
  w_on; o_law
  refine HandSHeadRun.head_any (r := OpenLaw.row PySem.Challenge.rw_partlymet_k71_errors) (q := view (OpenLaw.row PySem.Challenge.rw_partlymet_k71_errors).prog [37]) (H := K71.hk) (ob := K71.ob) (M := 6000) (loose := K71.loose) (d := HandSHeadRun.topDef (OpenLaw.row PySem.Challenge.rw_partlymet_k71_errors).prog 37) (kwd := []) K71.ob_eq
    (by kernel_rfl) (fun s => by kernel_rfl) K71.run (by kernel_rfl) (by kernel_rfl) (by kernel_rfl) (by rfl) (by first | assumption | decide +kernel) (by decide +kernel) ⟨rfl, rfl, rfl, rfl, rfl, by decide +kernel⟩ ?hw ?hc
  case hw => w_witness2
  case hc =>
    refine Att.attach_call (l := PySem.Challenge.rw_partlymet_k71_errors) (n := 63) rfl (by kernel_rfl) fun w s₀ s₁ mg mb fa o pm cd doc a vs ns G Y ho hd hcd hmg0 hobj hints hlen hg => ?_
    obtain ⟨K, KX, y, e⟩ := Y
    have c : He.SaysD K71.fa K71.fn K := congrArg Prod.fst y
    have hmg : mg ("law" : PySem.Str) = some (.ref fa) := by
      have e : (HandSHeadRun.topDef (OpenLaw.row PySem.Challenge.rw_partlymet_k71_errors).prog 37).name = ("law" : PySem.Str) := by kernel_rfl
      rw [← e]
      exact hmg0
    obtain ⟨fd, F⟩ := c.def_ 16 (d := K71.d_law) rfl
    have ea := hmg.symm.trans (K71.glo KX G.T.g c 16 rfl)
    cases ea
    exact L2.law_at KX G.T.g G.T.b G.T.builtins G.T.nolimit hg hobj hints (Nat.le_trans hlen (by decide)) fun base KB hns H hO hS e0 =>
      L2.fun_at (k := 3) (vs := [L2.V.ref a]) (us := [Value.ref a]) (sp := K71.spLaw K) (ps := ["script"]) F K71.sc_law (fun vs H Q E h => by
          obtain ⟨a, ns, rfl, _⟩ := h
          rfl) callerA (fun cdv outer s H vs Q E hr hs => by
          obtain ⟨t, ht, q⟩ := K71.red_all KB hns c e callerA rfl _ cdv outer s H vs Q E hr hs
          exact ⟨t, ht.nox, q⟩)
        ⟨rfl, by decide, by decide⟩ e0 (L2.FunD.bindsA (ps := ["script"]) F (fun _ _ _ _ _ _ us hl => match us, hl with | [_], _ => rfl) _ [_] rfl) (.cons rfl .nil) ⟨a, ns, rfl, hS, fun _ => rfl⟩
