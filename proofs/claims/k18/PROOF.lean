import PyProof.Rows.All
import Wide.All
import OpenK.AllK
import Wide.FinOn
import HandS.ForExc
import HandS.FStr
import HandS.FStrTup
import KE.KExcIs
import HandS.ExcInit
import HandS.ExcField
import HandS.ClsMeth
import HandS.IsInst
import HandS.ForMost
import HandS.Defaults
import HandS.Wide
import HandS.Codes
import HandS.ExcOwn
import HandS.HeadHook2
import HandS.HeadHook4
import HandS.Lambda
import HandS.Nested
import HandS.Head0
import HandS.Head1
import HandS.Head2
import HandS.HeadEnd
import HandS.HeadHook1
import HandS.HeadHook3
import HandS.ExcIs
import HandS.EndBits
import HandS.Deep
import HandS.StrMore
import HandS.More
import HandS.Walk
import PySem.Challenge.RW_partlymet_k18_put_together_refused
import HandS.Zip
import HandS.SortRule
import HandS.SortKw
import HandS.Style
import HandS.TupAny
import HandS.NoneIn
import HandS.Flow
import PyProof.DictUpdate
import HandS.DictComp
import HandS.Iter
import PyProof.EqAt
import PyProof.EqKinds
import PyProof.TupleCall
import HandS.TryMany
section
set_option Elab.async false
set_option linter.all false
set_option maxRecDepth 100000
set_option maxHeartbeats 4000000
namespace L2
open PySem PySem.Spec PyProof.Rows
section
variable {X : Cx}
/-- repr of data (lists, tuples of ints and texts): the text of the data -/
def rRepr (K : PySem.W.Frag) : List V → Hp → VK → Prop := fun xs H Q => ∃ (a : Addr) (d : PyData), xs = [.ref a] ∧ Dp K H (.ref a) d ∧ d.showable = true ∧ d.hasDict = false ∧ d.depth ≤ 60 ∧ d.shown.length ≤ sizeLine ∧ Q (.str d.shown) H
theorem call_reprD (hg : X.A.guards = some []) (hu : X.A.units + 64 < cLine) : CallR X (.builtin "repr") (rRepr X.K) := by
  intro pins s σ H xs us Q I r h
  obtain ⟨a, d, rfl, hd, hs, hn, hdp, hz, q⟩ := h
  obtain ⟨u, rfl, ru⟩ := vals1 r
  cases ru
  obtain ⟨as, rd⟩ := Dp.reads I d _ _ hd rfl
  exact repr_of_reads' rd hs (fun z => by rw [hn] at z; cases z) hg (by omega) (fun _ _ e => e) (fun h' u tk k => ⟨.str d.shown, H, I.kept (t' := tk) k, ⟨u, rfl⟩, q⟩) hz
/-- {t}, t a tuple of ints: some bounded text -/
def tFmtI (K : PySem.W.Frag) (te : TE) : TE := fun σ H Q => te σ H fun x H1 => ∃ (a : Addr) (l : List Int), x = .ref a ∧ SqT K H1 a (l.map V.int) ∧ (∀ i ∈ l, i.natAbs.log2 < 1920) ∧ l.length ≤ 100 ∧ ∀ m : Str, m.length ≤ 200000 → Q (.str m) H1
theorem repr_ints {prog : Program} {w : World} : ∀ {l : List Int} {its : List Value}, Vals (l.map V.int) its → (∀ i ∈ l, i.natAbs.log2 < 1920) → ReprAll prog w its (l.map fun i => ((toString i : String) : Str))
  | [], _, r, _ => by
    cases r
    exact .nil
  | i :: l, _, r, h => by
    cases r with
    | cons r1 r2 =>
      obtain ⟨t, rfl⟩ := r1
      exact .cons (ReprIs.int t (h i List.mem_cons_self)) (repr_ints r2 fun z hz => h z (List.mem_cons_of_mem _ hz))
theorem piled_ints : ∀ l : List Int, (∀ i ∈ l, i.natAbs.log2 < 1920) → piled (l.map fun i => ((toString i : String) : Str)) ≤ 1923 * l.length
  | [], _ => Nat.zero_le _
  | i :: l, h => by
    have h1 := int_text_len_1921 (h i List.mem_cons_self)
    have h2 := piled_ints l fun z hz => h z (List.mem_cons_of_mem _ hz)
    rw [List.map_cons, piled_cons, List.length_cons]
    omega
theorem pe_fmtI {e : Expr} {te : TE} {pos : Pos} {k : Nat} (hr : Room k X.A) (he : PE X e te) : PE X (.FormattedValue e (-1) none pos) (tFmtI X.K te) := by
  refine ⟨fun pins s σ H Q I h => wpAny_FormattedValue_plain (thn (he.run pins s σ H _ I h) fun v s1 hv => ?_)⟩
  obtain ⟨x, H1, I1, r1, a, l, rfl, ht, hc, hl, q⟩ := hv
  cases r1
  obtain ⟨its, rv, ⟨o, ho, hcl, n, hd⟩, _⟩ := I1.tuple ht
  have hp := piled_ints l hc
  have htx := fmt_text (l.map fun i => ((toString i : String) : Str))
  have hsl : (200000 : Nat) ≤ sizeLine := by decide
  refine fmt_tuple (ts := l.map fun i => ((toString i : String) : Str)) (by have := hr.units; omega) ho hcl hd (repr_ints rv hc) (by omega) fun m u tk hm => ⟨.str m, H1, I1.tok _, ⟨u, rfl⟩, q m (by omega)⟩
end
end L2
end
section
set_option Elab.async false
set_option linter.all false
set_option maxRecDepth 100000
set_option maxHeartbeats 4000000
namespace L2
open PySem PySem.Spec PyProof.Rows
/-! exceptions of own classes, with an own __init__, held as values -/
/-- C(e, ..) as a value: __init__ keeps sp at the new exception a -/
def tMkE (C : Addr) (sp : Sp) (dvs : List V) (ta : TA) : TE := fun σ H Q => ta σ H fun vs H1 => vs.length ≤ 1000 ∧ ∀ a, H1 a = none → sp (.ref a :: (vs ++ dvs)) (upd H1 a (exo a C none)) (fun v H2 => v = .non ∧ Q (.ref a) H2) (fun _ _ _ => False)
section
variable {X : Cx} {x : Str} {C fI : Addr} {k : Nat} {fd : FuncData} {ps : List Str} {sp : Sp} {ds : List Value} {dvs : List V} {e : Expr} {es : List Expr} {ta : TA} {p pos : Pos}
theorem run_mkE {pins : List (Addr × Obj)} {σ : St} {H : Hp} {s : Shared} {Q : VK} {us : List Value} {vs : List V} (T : OexC X.K C) (iC : PySem.W.findIn X.K (.ref C) "__init__" = some (some (.ref fI))) (tI : PySem.W.typeIn X.K (.ref fI) = some (.type "function"))
    (FO : FnOk X.prog X.w X.K X.mg X.base CX0 k fI fd ps sp) (hr : Room (k + 1) X.A) (hb : Binds X.K fd ps ds) (hd : Vals dvs ds) (I : Inv X pins σ H s) (r : Vals vs us) (hz : vs.length ≤ 1000)
    (q : ∀ a, H a = none → sp (.ref a :: (vs ++ dvs)) (upd H a (exo a C none)) (fun v H2 => v = .non ∧ Q (.ref a) H2) (fun _ _ _ => False)) :
    wpAny (model X.prog X.w) X.A (call (.ref C) us) (EP X pins σ Q) X.xe s := by
  obtain ⟨nm, qn, N, bs, bm, sn, sub, ab, col, dd, k0, k1, k2, k3, k5, hC, hbm⟩ := T.cls
  obtain ⟨hp, g, dr, tk, os⟩ := s
  have big : hp.objs.size ≤ hp.objs.size + 1 := Nat.le_succ _
  have new : H (hp.objs.size + 1) = none := I.hok.fresh big
  have hq := q (hp.objs.size + 1) new
  let h2 : Heap := (hp.push (PySem.W.kdv_tup us)).push (PySem.HandSPX.excO C hp.objs.size)
  have keep : ∀ b o, hp.get? b = some o → h2.get? b = some o := fun b o z => Heap.get?_push_of_some _ (Heap.get?_push_of_some _ z)
  have here : h2.get? (hp.objs.size + 1) = some (PySem.HandSPX.excO C hp.objs.size) := by
    show ((hp.push (PySem.W.kdv_tup us)).push (PySem.HandSPX.excO C hp.objs.size)).get? (hp.objs.size + 1) = _
    heap_get
  have J : Inv X pins σ (upd H (hp.objs.size + 1) (exo (hp.objs.size + 1) C none)) ⟨h2, g, dr, tk, os⟩ := I.laid (t' := tk) (h' := h2) keep big (exo_ok here)
  have rr : Vals (V.ref (hp.objs.size + 1) :: (vs ++ dvs)) (Value.ref (hp.objs.size + 1) :: (us ++ ds)) := .cons rfl (r.append hd)
  have hlen : (Value.ref (hp.objs.size + 1) :: us ++ ds).length = ps.length := by
    have z := rr.length
    rw [FO.len _ _ _ _ hq] at z
    exact z.symm
  have few : us.length ≤ sizeLine := by
    rw [← Paired.length r, sizeLine_eq]
    omega
  refine wpAny_call (PySem.HandSPX.call_own F.excBase_ValueError (fun Y => PySem.HandSPX.refsVE_contains Y bm hbm) (I.kIn _ _ hC) (PySem.W.looks_findIn I.kIn iC) (fun self => PySem.W.bind_fn I.kIn self tI) few ?_)
  refine codeAny_mono (FO.run _ X.stack _ _ ⟨Value.ref (hp.objs.size + 1) :: us, []⟩ _ _ _ (fun _ _ _ => False) (hr.make C us []) (J.env0.make C us []) (hb _ (Value.ref (hp.objs.size + 1) :: us) J.kIn hlen) rr hq) fun res s' z => ?_
  cases res with
  | error er => exact z.elim
  | ok fl =>
    cases fl with
    | ret u =>
      obtain ⟨v, H', J2, rv, ev, q2⟩ := J.after z
      subst ev
      exact ⟨rv, .ref (hp.objs.size + 1), H', J2, rfl, q2⟩
    | next => exact False.elim z
    | brk => exact False.elim z
    | cont => exact False.elim z
theorem pe_mkE (T : OexC X.K C) (iC : PySem.W.findIn X.K (.ref C) "__init__" = some (some (.ref fI))) (tI : PySem.W.typeIn X.K (.ref fI) = some (.type "function"))
    (FO : FnOk X.prog X.w X.K X.mg X.base CX0 k fI fd ps sp) (hr : Room (k + 1) X.A) (hb : Binds X.K fd ps ds) (hd : Vals dvs ds) (hg : Gl X x) (hm : X.mg x = some (.ref C)) (ha : PA X (e :: es) ta)
    (hdb : (x == ("__debug__" : Str)) = false := by decide) (he : starEach (e :: es) X.env = (false, eval e X.env) :: starEach es X.env := by rfl) (hpl : (backTo pos (starEach es X.env)).any (·.1) = false := by rfl) :
    PE X (.Call (.Name x p) (e :: es) [] pos) (tMkE C sp dvs ta) :=
  ⟨fun pins s σ H Q I h => wpAny_Call_Name_kw (ld_glob I hg hm (PySem.W.callWith_K (h₀ := X.base) I.ok.mod.kin T.kC (thn (ha.run pos pins s σ H _ I h) fun us s1 ⟨vs, H1, I1, r1, hz, q1⟩ => ⟨I1.kIn, run_mkE T iC tI FO hr hb hd I1 r1 hz q1⟩) he hpl) hdb)⟩
theorem pe_mkE0 (T : OexC X.K C) (iC : PySem.W.findIn X.K (.ref C) "__init__" = some (some (.ref fI))) (tI : PySem.W.typeIn X.K (.ref fI) = some (.type "function"))
    (FO : FnOk X.prog X.w X.K X.mg X.base CX0 k fI fd ps sp) (hr : Room (k + 1) X.A) (hb : Binds X.K fd ps ds) (hd : Vals dvs ds) (hg : Gl X x) (hm : X.mg x = some (.ref C))
    (hdb : (x == ("__debug__" : Str)) = false := by decide) : PE X (.Call (.Name x p) [] [] pos) (tMkE C sp dvs tNil) :=
  ⟨fun pins s σ H Q I h => wpAny_Call_Name_kw (ld_glob I hg hm (PySem.W.callWith_K0 I.kIn T.kC (run_mkE (us := []) T iC tI FO hr hb hd I .nil h.1 h.2)) hdb)⟩
end
/-! Base.__init__(self, e): Base an own class that has ValueError's __init__ -/
section
variable {X : Cx} {x : Str} {B : Addr} {e : Expr} {es : List Expr} {ta : TA} {p1 p2 pos : Pos}
theorem pe_binit {pl : Sem Bool} {mc : Value} (hg : Gl X x) (hm : X.mg x = some (.ref B)) (rd : ClX.CRead X.K B mc) (fv : PySem.W.findCls X.K (.ref B) mc "__init__" = some (.val (.builtin "ValueError.__init__"))) (ha : PA X (e :: es) ta)
    (hdb : (x == ("__debug__" : Str)) = false := by decide)
    (hc : eval (.Call (.Attribute (.Name x p1) "__init__" p2) (e :: es) [] pos) X.env = (do
      let ov ← eval (.Name x p1) X.env
      standAt p2.atName
      let (f, first) ← holding [ov] (getMethod ov "__init__" pl)
      callWith pos f first (backTo pos (starEach (e :: es) X.env)) (backToKw pos (keywordEach [] X.env))) := by rfl)
    (he : starEach (e :: es) X.env = (false, eval e X.env) :: starEach es X.env := by rfl) (hpl : (backTo pos (starEach es X.env)).any (·.1) = false := by rfl) :
    PE X (.Call (.Attribute (.Name x p1) "__init__" p2) (e :: es) [] pos) (tVeI X.K ta) := by
  refine ⟨fun pins s σ H Q I h => PySem.W.methodCall_KW (ld_glob I hg hm ?_ hdb) hc⟩
  refine PySem.W.method_cls I.kIn rd.ga (PySem.W.cls_value I.kIn rd.rd fv (by decide +kernel) ?_)
  show wpAny _ _ (callWith pos (Value.builtin "ValueError.__init__") [] (backTo pos (starEach (e :: es) X.env)) []) _ _ _
  refine PyProof.Rows.callWith_method1 (thn (ha.run pos pins _ σ H _ (I.tok _) h) fun us s1 ⟨vs, H1, J, r1, a, C, ws, ev, hl, T, ea, q⟩ => ?_) he hpl
  subst ev
  cases r1 with
  | @cons _ u0 _ ur ra rw' =>
    obtain rfl : u0 = Value.ref a := ra
    exact oinit_ok T J ea (by rw [← Paired.length rw', sizeLine_eq]; omega) fun s' J2 => ⟨.non, H1, J2, rfl, q⟩
end
/-! err.f, isinstance(err, C) -/
/-- what the top says of an own exception class, so that its exceptions are asked -/
structure ExV (K : PySem.W.Frag) (C : Addr) : Prop where
  xf : XfC K C
  cl : (PySem.W.clsIn K C).isSome = true
  ca : PySem.W.findIn K (.ref C) "__class__" = some (some (.builtin "object.__class__"))
  cg : PySem.W.specialIn K (.builtin "object.__class__") "__get__" = some (some (.builtin "getset_descriptor.__get__"))
  ct : PySem.W.takesIn K (.builtin "object.__class__") = some true
  ob : PySem.W.mroIn K C (.type "object") = some true
/-- an exception stands at a: of the class C, its dict (if it has one) with the fields fs -/
def ExAt (H : Hp) (a C : Addr) (fs : List (Str × V)) : Prop := (fs = [] ∧ H a = some (exo a C none)) ∨ ∃ dx, H a = some (exo a C (some dx)) ∧ H dx = some (exd dx fs)
section
variable {X : Cx}
theorem exAt_inst {pins : List (Addr × Obj)} {σ : St} {H : Hp} {s : Shared} {a C : Addr} {fs : List (Str × V)} (I : Inv X pins σ H s) (h : ExAt H a C fs) :
    ∃ ox od, PySem.W.InstAt s.heap a ox C od ∧ ∀ (f : Str) (v : V), fs.lookup f = some v → ∃ o u, od = some o ∧ PySem.W.lookIn f o = some (some u) ∧ RelV v u := by
  rcases h with ⟨rfl, h⟩ | ⟨dx, h, hd⟩
  · obtain ⟨t1, ho⟩ := exo_at I.hok h
    exact ⟨_, none, ⟨ho, rfl, rfl, trivial⟩, fun f v z => by cases z⟩
  · obtain ⟨t1, ho⟩ := exo_at I.hok h
    obtain ⟨mA, hn, rel⟩ := exd_at I.hok hd
    obtain ⟨od, h1, h2⟩ := lookIn_ns hn
    refine ⟨_, some od, ⟨ho, rfl, rfl, h1⟩, fun f v z => ?_⟩
    obtain ⟨u, hu, ru⟩ := RelO.some_of (v := v) (o := mA f) (by rw [← z]; exact rel f)
    exact ⟨od, u, rfl, by rw [h2, hu], ru⟩
/-- the reading of err.f -/
def tEf (K : PySem.W.Frag) (f : Str) (te : TE) : TE := fun σ H Q => te σ H fun x H1 => ∃ (a C : Addr) (fs : List (Str × V)) (v : V), x = .ref a ∧ ExAt H1 a C fs ∧ ExV K C ∧ PySem.W.findIn K (.ref C) f = some none ∧ fs.lookup f = some v ∧ Q v H1
theorem pe_ef {e : Expr} {te : TE} {f : Str} {pos : Pos} (he : PE X e te) (hb : attributeBase e f X.env (eval e X.env) = eval e X.env := by rfl) : PE X (.Attribute e f pos) (tEf X.K f te) := by
  refine ⟨fun pins s σ H Q I h => attr_of hb (thn (he.run pins s σ H _ I h) fun u s1 hh => ?_)⟩
  obtain ⟨x, H1, J, rx, a, C, fs, v, rfl, ha, T, hno, l, q⟩ := hh
  obtain rfl : u = Value.ref a := rx
  obtain ⟨ox, od, O, z⟩ := exAt_inst J ha
  obtain ⟨o, w, rfl, hw, rv⟩ := z f v l
  exact HandSPX.exc_get J.kIn O T.xf.ga T.xf.gg T.xf.exC (PySem.W.findObj_own T.xf.hdC hno rfl hw) (handed_of rv) ⟨v, H1, J.tok _, rv, q⟩
/-- isinstance(err, c) -/
def rIsEx (K : PySem.W.Frag) : List V → Hp → VK → Prop := fun xs H Q => ∃ (a C : Addr) (fs : List (Str × V)) (c : V) (u : Value) (b : Bool), xs = [.ref a, c] ∧ ExAt H a C fs ∧ ExV K C ∧ ClsV c u ∧ PySem.W.kitOne K (.ref C) u = some b ∧ Q (.bl b) H
theorem call_isEx : CallR X (.builtin "isinstance") (rIsEx X.K) := by
  intro pins s σ H xs us Q I r h
  obtain ⟨a, C, fs, c, u, b, rfl, ha, T, k, e, q⟩ := h
  obtain ⟨u1, u2, rfl, r1, r2⟩ := vals2 r
  obtain rfl : u1 = Value.ref a := r1
  have e2 := k.eq r2
  subst e2
  obtain ⟨ox, od, O, _⟩ := exAt_inst I ha
  exact PySem.W.kia_one (PySem.W.kitx_exc (od := od) T.cl T.xf.ga T.xf.gg T.xf.exC T.ca T.cg T.ct T.ob) I.kIn O e (fun z => nomatch z) fun tk => ⟨.bl b, H, I.tok tk, rfl, q⟩
end
end L2
end
section
set_option Elab.async false
set_option linter.all false
set_option maxRecDepth 100000
set_option maxHeartbeats 4000000
namespace L2
open PySem PySem.Spec PyProof.Rows
/-! a def of the text behind the top, and its promise, by its name -/
structure Def (K : PySem.W.Frag) (mg : Str → Option Value) (x : Str) (st : Stmt) : Prop where
  ex : ∃ f fd, FunD K x x (defArgs st) (defBody st) (defScope st) [] [] f fd ∧ mg x = some (.ref f)
structure Cal (P : Program) (w : World) (K : PySem.W.Frag) (mg : Str → Option Value) (base : Heap) (k : Nat) (x : Str) (ps : List Str) (sp : Sp) : Prop where
  ex : ∃ f fd, FnOk P w K mg base CX0 k f fd ps sp ∧ mg x = some (.ref f) ∧ PySem.W.keepIn K (.ref f) = true ∧ Binds K fd ps []
section
variable {P : Program} {w : World} {K : PySem.W.Frag} {mg : Str → Option Value} {base : Heap} {k : Nat} {x : Str} {N ps : List Str} {sp : Sp} {st : Stmt}
theorem Def.cal (D : Def K mg x st) (S : FnScope N ps (defScope st)) (len : ∀ vs H Q E, sp vs H Q E → vs.length = ps.length)
    (hb : ∀ (kV doc pm : Value) (an : Option Addr) (cdv ct : Value) (us : List Value), us.length = ps.length → bindArgs (PySem.W.fnOf x x (defArgs st) (defBody st) (defScope st) .none kV doc pm an cdv ct) ⟨us, []⟩ = pure (ps.zip us))
    (body : ∀ (f : Addr) (cdv : Value) (A : Around) (outer : List Env) (s : Shared) (H : Hp) (vs : List V) (Q : VK) (E : XK), Room k (A.deeper (envOfC x (defScope st) s.heap.objs.size f cdv)) → sp vs H Q E →
      ∃ t, PSs (cxOf CX0 P w K mg base N x (defScope st) f cdv A outer s H E).nox (defBody st) t ∧ t { nx := fun _ H' => Q .non H', rt := Q } (start N vs) H) : Cal P w K mg base (k + 1) x ps sp := by
  obtain ⟨f, fd, F, hm⟩ := D.ex
  refine ⟨f, fd, F.ok S len (fun cdv A outer s H vs Q E hr h => ?_), hm, F.kp, F.bindsN hb⟩
  obtain ⟨t, h1, h2⟩ := body f cdv A outer s H vs Q E hr h
  exact ⟨t, h1.nox, h2⟩
theorem Cal.mono {j : Nat} (C : Cal P w K mg base j x ps sp) (h : j ≤ k) : Cal P w K mg base k x ps sp := by
  obtain ⟨f, fd, G, m, kp, b⟩ := C.ex
  exact ⟨f, fd, G.mono h, m, kp, b⟩
end
section
variable {X : Cx} {k : Nat} {x : Str} {ps : List Str} {sp : Sp} {e : Expr} {es : List Expr} {t : TA} {p pos : Pos}
theorem pe_cal (C : Cal X.prog X.w X.K X.mg X.base k x ps sp) (hr : Room k X.A) (hg : Gl X x) (ha : PA X (e :: es) t) (hdb : (x == ("__debug__" : Str)) = false := by decide)
    (he : starEach (e :: es) X.env = (false, eval e X.env) :: starEach es X.env := by rfl) (hpl : (backTo pos (starEach es X.env)).any (·.1) = false := by rfl) : PE X (.Call (.Name x p) (e :: es) [] pos) (tCall sp [] E0 t) := by
  obtain ⟨f, fd, G, m, kp, b⟩ := C.ex
  exact pe_call G hr hg m kp b .nil pass0 ha hdb he hpl
theorem pe_cal0 (C : Cal X.prog X.w X.K X.mg X.base k x ps sp) (hr : Room k X.A) (hg : Gl X x) (hdb : (x == ("__debug__" : Str)) = false := by decide) : PE X (.Call (.Name x p) [] [] pos) (tCall sp [] E0 tNil) := by
  obtain ⟨f, fd, G, m, kp, b⟩ := C.ex
  exact pe_call0 G hr hg m kp b .nil pass0 hdb
end
section
variable {X : Cx} {x : Str} {a : Addr} {pos : Pos}
theorem pe_gref (hg : Gl X x) (hm : X.mg x = some (.ref a)) (hd : (x == ("__debug__" : Str)) = false := by decide) : PE X (.Name x pos) (tC (.ref a)) := pe_glob hg hm rfl hd
theorem pe_gint {i : Int} (hg : Gl X x) (hm : ∃ t, X.mg x = some (.int i t)) (hd : (x == ("__debug__" : Str)) = false := by decide) : PE X (.Name x pos) (tC (.int i)) := by
  obtain ⟨t, e⟩ := hm
  exact pe_glob hg e ⟨t, rfl⟩ hd
theorem pe_gstr {z : Str} (hg : Gl X x) (hm : ∃ t, X.mg x = some (.str z t)) (hd : (x == ("__debug__" : Str)) = false := by decide) : PE X (.Name x pos) (tC (.str z)) := by
  obtain ⟨t, e⟩ := hm
  exact pe_glob hg e ⟨t, rfl⟩ hd
theorem pe_gty {T : String} (hg : Gl X x) (hm : X.mg x = none) (hv : bootBuiltins x = some (.type T)) (hn : x ≠ "__name__" := by decide) (hd : (x == ("__debug__" : Str)) = false := by decide) : PE X (.Name x pos) (tC (.ty T)) := pe_bltn hg hm hv rfl hn hd
end
/-! what stays: all but the object at p -/
def But (p : Addr) (H H' : Hp) : Prop := ∀ b o, b ≠ p → H b = some o → H' b = some o
theorem But.refl (p : Addr) (H : Hp) : But p H H := fun _ _ _ h => h
theorem But.trans {p : Addr} {H H1 H2 : Hp} (a : But p H H1) (b : But p H1 H2) : But p H H2 := fun c o n h => b c o n (a c o n h)
theorem But.of {p : Addr} {H H' : Hp} (a : Same H H') : But p H H' := fun c o _ h => a c o h
theorem But.upd {p : Addr} {o : HO} (H : Hp) : But p H (upd H p o) := fun c u n h => by rw [upd_ne n]; exact h
theorem Same.new {H : Hp} {p : Addr} {o : HO} (h : H p = none) : Same H (upd H p o) := fun c u e => by rw [upd_ne (ne_of_none e h)]; exact e
theorem Same.put {H H' : Hp} {p : Addr} {o : HO} (s : Same H H') (h : H p = none) : Same H (upd H' p o) := fun c u e => by rw [upd_ne (ne_of_none e h)]; exact s c u e
theorem But.put {q : Addr} {H H' : Hp} {p : Addr} {o : HO} (s : But q H H') (h : H p = none) : But q H (L2.upd H' p o) := fun c u n e => by rw [upd_ne (ne_of_none e h)]; exact s c u n e
theorem But.free {p : Addr} {H H' : Hp} (s : But p H H') {a : Addr} (n : a ≠ p) (h : H' a = none) : H a = none := by
  cases e : H a with
  | none => rfl
  | some o => rw [s a o n e] at h; cases h
theorem But.seq {K : PySem.W.Frag} {p a : Addr} {H H' : Hp} {xs : List V} (s : But p H H') (n : a ≠ p) (h : SqL K H a xs) : SqL K H' a xs := by
  rcases h with (h | ⟨o, h⟩) | h
  · exact .inl (.inl (s _ _ n h))
  · exact .inl (.inr ⟨o, s _ _ n h⟩)
  · exact .inr h
/-! the pen: where the draws come from -/
def penV (l : Addr) (t lf : Int) : List (Key × V) := [(Sum.inr "cells", .ref l), (Sum.inr "turn", .int t), (Sum.inr "left", .int lf)]
structure Pen (H : Hp) (p l : Addr) (t : Int) : Prop where
  ex : ∃ (ns : List Int) (lf : Int), H p = some (.dK (penV l t lf)) ∧ H l = some (.lst (ns.map V.int)) ∧ 0 ≤ lf
  pos : 0 ≤ t
theorem Pen.ne {H : Hp} {p l : Addr} {t : Int} (h : Pen H p l t) : l ≠ p := by
  obtain ⟨ns, lf, h1, h2, _⟩ := h.ex
  exact ne_of h2 h1 (by intro z; cases z)
theorem Pen.at_ {H : Hp} {p l : Addr} {t : Int} (h : Pen H p l t) : ∃ o, H p = some o := by
  obtain ⟨ns, lf, h1, h2, _⟩ := h.ex
  exact ⟨_, h1⟩
theorem Pen.same {H H' : Hp} {p l : Addr} {t : Int} (h : Pen H p l t) (s : Same H H') : Pen H' p l t := by
  obtain ⟨ns, lf, h1, h2, h3⟩ := h.ex
  exact ⟨⟨ns, lf, s _ _ h1, s _ _ h2, h3⟩, h.pos⟩
theorem Pen.new {H : Hp} {p l q : Addr} {t : Int} {o : HO} (h : Pen H p l t) (n : H q = none) : Pen (upd H q o) p l t := h.same (Same.new n)
theorem Pen.put {H : Hp} {p l q : Addr} {t : Int} {o : HO} (h : Pen H p l t) (n1 : q ≠ p) (n2 : q ≠ l) : Pen (upd H q o) p l t := by
  obtain ⟨ns, lf, h1, h2, h3⟩ := h.ex
  exact ⟨⟨ns, lf, by rw [upd_ne n1.symm]; exact h1, by rw [upd_ne n2.symm]; exact h2, h3⟩, h.pos⟩
/-- what every drawing def leaves: the pen a few turns on, all else as it was -/
def Drew (c : Int) (p l : Addr) (t : Int) (H : Hp) (H' : Hp) : Prop := (∃ t', Pen H' p l t' ∧ t ≤ t' ∧ t' ≤ t + c) ∧ But p H H'
/-- draw(pen, span) -/
def spDraw : Sp := fun vs H Q _ => ∃ (p l : Addr) (t span : Int), vs = [.ref p, .int span] ∧ Pen H p l t ∧ t ≤ 1000000000 ∧ 0 < span ∧ span.natAbs < 2 ^ 250 ∧ ∀ (v : Int) (H' : Hp) (t' : Int), 0 ≤ v → v < span → Pen H' p l t' → t ≤ t' → t' ≤ t + 1 → But p H H' → Q (.int v) H'
end L2
end
section
set_option Elab.async false
set_option linter.all false
set_option maxRecDepth 100000
set_option maxHeartbeats 4000000
namespace L2
open PySem PySem.Spec PyProof.Rows
/-- an own class with the method of an operation -/
structure OpX (P : Program) (w : World) (K : PySem.W.Frag) (mg : Str → Option Value) (base : Heap) (CX : CXT) (k : Nat) (C : Addr) (op : Operator) (ps : List Str) (sp : Sp) : Prop where
  first : PySem.W.selfFirst K C = true
  ex : ∃ f fd, FnOk P w K mg base CX k f fd ps sp ∧ PySem.W.findIn K (.ref C) (PySem.dunder op.info.2) = some (some (.ref f)) ∧ PySem.W.isFn K (.ref f) = true ∧ Binds K fd ps []
/-- an int on its right does not take it -/
structure OpI (K : PySem.W.Frag) (C : Addr) (op : Operator) : Prop where
  no : PySem.W.findIn K (.ref C) (dunderR op.info.2) = some none
  h1 : ∃ fo, PySem.W.findIn K (.type "int") (PySem.dunder op.info.2) = some fo
  h2 : ∃ ro, PySem.W.findIn K (.type "int") (dunderR op.info.2) = some ro
  sub : PySem.W.subIn K (.type "int") (.ref C) = some false
def rOpS (C : Addr) (sp : Sp) (E : XK) : R2 := fun x y H Q => ∃ (a b dx dx' : Addr) (fs fs' : List (Str × V)), x = .ref a ∧ y = .ref b ∧ H a = some (.ins C dx fs) ∧ H b = some (.ins C dx' fs') ∧ sp [x, y] H Q E
def rOpI (C : Addr) (sp : Sp) (E : XK) : R2 := fun x y H Q => ∃ (a dx : Addr) (fs : List (Str × V)) (n : Int), x = .ref a ∧ y = .int n ∧ H a = some (.ins C dx fs) ∧ sp [x, y] H Q E
def tOpS (C : Addr) (sp : Sp) (E : St → XK) (ta tb : TE) : TE := fun σ H Q => tOp (rOpS C sp (E σ)) ta tb σ H Q
def tOpI (C : Addr) (sp : Sp) (E : St → XK) (ta tb : TE) : TE := fun σ H Q => tOp (rOpI C sp (E σ)) ta tb σ H Q
section
variable {X : Cx} {CX : CXT} {k : Nat} {C : Addr} {op : Operator} {ps : List Str} {sp : Sp} {E : St → XK} {a b : Expr} {ta tb : TE} {pos : Pos}
theorem back {pins : List (Addr × Obj)} {σ : St} {Q : VK} {v : Value} {s : Shared} (h : EP X pins σ Q v s) : PySem.W.CmpBack (EP X pins σ Q) v s := by
  have ne : v ≠ .notImplemented := by
    obtain ⟨x, H, I, r, q⟩ := h
    intro e
    subst e
    cases x <;> (first | (obtain ⟨t, e⟩ := r; cases e; done) | (cases r; done))
  cases v <;> first | exact h | exact absurd rfl ne
theorem pe_opS (M : OpX X.prog X.w X.K X.mg X.base CX k C op ps sp) (ha : PE X a ta) (hb : PE X b tb) (hr : Room k X.A) (hx : ∀ σ, PassesAt CX X σ (E σ)) : PE X (.BinOp a op b pos) (tOpS C sp E ta tb) := by
  obtain ⟨f, fd, F, h1, h2, bd⟩ := M.ex
  refine ⟨fun pins s σ H Q I h => ?_⟩
  refine wpAny_BinOp (binT ha hb I h fun v u s2 x y H2 I2 rx ry ⟨p, q, dx, dx', fs, fs', ex, ey, hp, hq, g⟩ => ?_)
  subst ex ey
  obtain rfl : v = Value.ref p := rx
  obtain rfl : u = Value.ref q := ry
  obtain ⟨mA, O, _, _, _⟩ := ins_get I2.hok hp
  obtain ⟨mB, O', _, _, _⟩ := ins_get I2.hok hq
  obtain ⟨od, J, _⟩ := O.look
  obtain ⟨od', J', _⟩ := O'.look
  obtain ⟨m, hF⟩ := I2.fr
  exact PySem.W.binop_K hF I2.ok.mod.kin J J'.type M.first h1 h2 (wpAny_mono (run_fnS (vs := [.ref p, .ref q]) F hr bd (hx σ) I2 (.cons rfl (.cons rfl .nil)) g) (fun _ _ z => back z) fun _ _ z => z)
theorem pe_opI (M : OpX X.prog X.w X.K X.mg X.base CX k C op ps sp) (N : OpI X.K C op) (ha : PE X a ta) (hb : PE X b tb) (hr : Room k X.A) (hx : ∀ σ, PassesAt CX X σ (E σ)) : PE X (.BinOp a op b pos) (tOpI C sp E ta tb) := by
  obtain ⟨f, fd, F, h1, h2, bd⟩ := M.ex
  obtain ⟨fo, g1⟩ := N.h1
  obtain ⟨ro, g2⟩ := N.h2
  refine ⟨fun pins s σ H Q I h => ?_⟩
  refine wpAny_BinOp (binT ha hb I h fun v u s2 x y H2 I2 rx ry ⟨p, dx, fs, n, ex, ey, hp, g⟩ => ?_)
  subst ex ey
  obtain rfl : v = Value.ref p := rx
  obtain ⟨t, rfl⟩ := ry
  obtain ⟨mA, O, _, _, _⟩ := ins_get I2.hok hp
  obtain ⟨od, J, _⟩ := O.look
  obtain ⟨m, hF⟩ := I2.fr
  exact PySem.W.ksp_binT (T := "int") hF I2.ok.mod.kin J rfl M.first h1 h2 N.no (.inl rfl) g1 g2 N.sub (wpAny_mono (run_fnS (vs := [.ref p, .int n]) F hr bd (hx σ) I2 (.cons rfl (.cons ⟨t, rfl⟩ .nil)) g) (fun _ _ z => back z) fun _ _ z => z)
end
end L2
end
section
set_option Elab.async false
set_option linter.all false
set_option maxRecDepth 100000
set_option maxHeartbeats 4000000
namespace L2
open PySem PySem.Spec PyProof.Rows
/-! defs that may raise, by name -/
theorem FunD.okX {P : Program} {w : World} {K : PySem.W.Frag} {mg : Str → Option Value} {base : Heap} {x qual : Str} {params : Arguments} {body : List Stmt} {scope : Scope} {f : Addr} {fd : FuncData} {N ps : List Str} {k : Nat} {sp : Sp} (F : FunD K x qual params body scope [] [] f fd) (S : FnScope N ps scope) (len : ∀ vs H Q E, sp vs H Q E → vs.length = ps.length)
    (hbody : ∀ (cdv : Value) (A : Around) (outer : List Env) (s : Shared) (H : Hp) (vs : List V) (Q : VK) (E : XK), Room k (A.deeper (envOfC qual scope s.heap.objs.size f cdv)) → sp vs H Q E →
      ∃ t, PSs (cxOf (CX P w) P w K mg base N qual scope f cdv A outer s H E) body t ∧ t { nx := fun _ H' => Q .non H', rt := Q } (start N vs) H) : FnOk P w K mg base (CX P w) (k + 1) f fd ps sp := by
  obtain ⟨oc, od, dV, kV, doc, pm, an, cdv, ct, osl, rfl, lk, hcd, _, _⟩ := F.ex
  exact fn_of lk hcd S len fun A outer s H vs Q E hr hsp => hbody cdv A outer s H vs Q E hr hsp
/-- nothing is let out -/
theorem passN {P : Program} {w : World} {X : Cx} : Passes (CX P w) X E0 := fun _ _ _ _ _ _ _ ⟨_, _, _, _, _, _, _, _, _, _, _, _, h⟩ => h.elim
theorem passV {P : Program} {w : World} {X : Cx} {E : XK} (h : ∀ cls d H, ¬ E cls d H) : Passes (CX P w) X E := fun _ _ _ _ _ _ _ ⟨_, _, H', cls, d, _, _, _, _, _, _, _, q⟩ => (h cls d H' q).elim
structure CalX (P : Program) (w : World) (K : PySem.W.Frag) (mg : Str → Option Value) (base : Heap) (k : Nat) (x : Str) (ps : List Str) (sp : Sp) : Prop where
  ex : ∃ f fd, FnOk P w K mg base (CX P w) k f fd ps sp ∧ mg x = some (.ref f) ∧ PySem.W.keepIn K (.ref f) = true ∧ Binds K fd ps []
section
variable {P : Program} {w : World} {K : PySem.W.Frag} {mg : Str → Option Value} {base : Heap} {k : Nat} {x : Str} {N ps : List Str} {sp : Sp} {st : Stmt}
theorem Def.calX (D : Def K mg x st) (S : FnScope N ps (defScope st)) (len : ∀ vs H Q E, sp vs H Q E → vs.length = ps.length)
    (hb : ∀ (kV doc pm : Value) (an : Option Addr) (cdv ct : Value) (us : List Value), us.length = ps.length → bindArgs (PySem.W.fnOf x x (defArgs st) (defBody st) (defScope st) .none kV doc pm an cdv ct) ⟨us, []⟩ = pure (ps.zip us))
    (body : ∀ (f : Addr) (cdv : Value) (A : Around) (outer : List Env) (s : Shared) (H : Hp) (vs : List V) (Q : VK) (E : XK), Room k (A.deeper (envOfC x (defScope st) s.heap.objs.size f cdv)) → sp vs H Q E →
      ∃ t, PSs (cxOf (CX P w) P w K mg base N x (defScope st) f cdv A outer s H E) (defBody st) t ∧ t { nx := fun _ H' => Q .non H', rt := Q } (start N vs) H) : CalX P w K mg base (k + 1) x ps sp := by
  obtain ⟨f, fd, F, hm⟩ := D.ex
  exact ⟨f, fd, F.okX S len (fun cdv A outer s H vs Q E hr h => body f cdv A outer s H vs Q E hr h), hm, F.kp, F.bindsN hb⟩
end
section
variable {X : Cx} {k : Nat} {x : Str} {ps : List Str} {sp : Sp} {e : Expr} {es : List Expr} {t : TA} {p pos : Pos} {W : WX}
/-- called where what it raises is taken -/
theorem pe_calX (tk : Takes X W) (C : CalX X.prog X.w X.K X.mg X.base k x ps sp) (hr : Room k X.A) (hg : Gl X x) (ha : PA X (e :: es) t) (hdb : (x == ("__debug__" : Str)) = false := by decide)
    (he : starEach (e :: es) X.env = (false, eval e X.env) :: starEach es X.env := by rfl) (hpl : (backTo pos (starEach es X.env)).any (·.1) = false := by rfl) : PE X (.Call (.Name x p) (e :: es) [] pos) (tCallS sp (WE W) t) := by
  obtain ⟨f, fd, G, m, kp, b⟩ := C.ex
  exact pe_callS G hr hg m kp b (fun σ => passAt tk σ) ha hdb he hpl
/-- called where nothing is raised -/
theorem pe_calN (C : CalX X.prog X.w X.K X.mg X.base k x ps sp) (hr : Room k X.A) (hg : Gl X x) (ha : PA X (e :: es) t) (hdb : (x == ("__debug__" : Str)) = false := by decide)
    (he : starEach (e :: es) X.env = (false, eval e X.env) :: starEach es X.env := by rfl) (hpl : (backTo pos (starEach es X.env)).any (·.1) = false := by rfl) : PE X (.Call (.Name x p) (e :: es) [] pos) (tCall sp [] E0 t) := by
  obtain ⟨f, fd, G, m, kp, b⟩ := C.ex
  exact pe_call G hr hg m kp b .nil passN ha hdb he hpl
end
/-- a method of a class -/
structure MthX (P : Program) (w : World) (K : PySem.W.Frag) (mg : Str → Option Value) (base : Heap) (CX : CXT) (k : Nat) (C : Addr) (m : Str) (ps : List Str) (sp : Sp) : Prop where
  cl : Cls K C
  ex : ∃ f fd, FnOk P w K mg base CX k f fd ps sp ∧ Meth K C m f ∧ Binds K fd ps []
section
variable {X : Cx} {CX0' : CXT} {k : Nat} {C : Addr} {m : Str} {ps : List Str} {sp : Sp} {o e : Expr} {es : List Expr} {to : TE} {t : TA} {apos pos : Pos} {E : XK}
theorem pe_mth {pl : Sem Bool} (M : MthX X.prog X.w X.K X.mg X.base CX0' k C m ps sp) (he : PE X o to) (hr : Room k X.A) (hx : Passes CX0' X E) (ha : PA X (e :: es) t)
    (hst : starEach (e :: es) X.env = (false, eval e X.env) :: starEach es X.env := by rfl) (hpl : (backTo pos (starEach es X.env)).any (·.1) = false := by rfl)
    (ht : eval (.Call (.Attribute o m apos) (e :: es) [] pos) X.env = (do
      let ov ← eval o X.env
      standAt apos.atName
      let (f, first) ← holding [ov] (getMethod ov m pl)
      callWith pos f first (backTo pos (starEach (e :: es) X.env)) (backToKw pos (keywordEach [] X.env))) := by rfl) :
    PE X (.Call (.Attribute o m apos) (e :: es) [] pos) (tMeth C m sp [] E to t) := by
  obtain ⟨f, fd, F, hm, hb⟩ := M.ex
  exact pe_meth he M.cl hm F hr hb .nil hx ha hst hpl ht
theorem pe_mth0 {pl : Sem Bool} (M : MthX X.prog X.w X.K X.mg X.base CX0' k C m ps sp) (he : PE X o to) (hr : Room k X.A) (hx : Passes CX0' X E)
    (ht : eval (.Call (.Attribute o m apos) [] [] pos) X.env = (do
      let ov ← eval o X.env
      standAt apos.atName
      let (f, first) ← holding [ov] (getMethod ov m pl)
      callWith pos f first (backTo pos (starEach [] X.env)) (backToKw pos (keywordEach [] X.env))) := by rfl) :
    PE X (.Call (.Attribute o m apos) [] [] pos) (tMeth C m sp [] E to tNil) := by
  obtain ⟨f, fd, F, hm, hb⟩ := M.ex
  exact pe_meth0 he M.cl hm F hr hb .nil hx ht
end
end L2
end
section
set_option Elab.async false
set_option linter.all false
set_option maxRecDepth 100000
set_option maxHeartbeats 4000000
namespace L2
open PySem PySem.Spec PyProof.Rows
/-! defs whose code object is known: they make functions -/
structure DefT (K : PySem.W.Frag) (mg : Str → Option Value) (x : Str) (st : Stmt) (c : Addr) : Prop where
  ex : ∃ f fd, FunD K x x (defArgs st) (defBody st) (defScope st) [] [] f fd ∧ mg x = some (.ref f) ∧ fd.code = .ref c
section
variable {P : Program} {w : World} {K : PySem.W.Frag} {mg : Str → Option Value} {base : Heap} {k : Nat} {x : Str} {N ps : List Str} {sp : Sp} {st : Stmt} {c : Addr}
theorem DefT.calCX {CX : CXT} (D : DefT K mg x st c) (S : FnScope N ps (defScope st)) (len : ∀ vs H Q E, sp vs H Q E → vs.length = ps.length)
    (hb : ∀ (kV doc pm : Value) (an : Option Addr) (cdv ct : Value) (us : List Value), us.length = ps.length → bindArgs (PySem.W.fnOf x x (defArgs st) (defBody st) (defScope st) .none kV doc pm an cdv ct) ⟨us, []⟩ = pure (ps.zip us))
    (body : ∀ (f : Addr) (A : Around) (outer : List Env) (s : Shared) (H : Hp) (vs : List V) (Q : VK) (E : XK), Room k (A.deeper (envOfC x (defScope st) s.heap.objs.size f (.ref c))) → sp vs H Q E →
      ∃ t, PSs (cxOf CX P w K mg base N x (defScope st) f (.ref c) A outer s H E) (defBody st) t ∧ t { nx := fun _ H' => Q .non H', rt := Q } (start N vs) H) :
    ∃ f fd, FnOk P w K mg base CX (k + 1) f fd ps sp ∧ mg x = some (.ref f) ∧ PySem.W.keepIn K (.ref f) = true ∧ Binds K fd ps [] := by
  obtain ⟨f, fd, F, hm, hc⟩ := D.ex
  have B := F.bindsN hb
  have kp := F.kp
  obtain ⟨oc, od, dV, kV, doc, pm, an, cdv, ct, osl, rfl, lk, hcd, _, _⟩ := F.ex
  have e : cdv = .ref c := hc
  subst e
  exact ⟨f, _, fn_of lk hcd S len fun A outer s H vs Q E hr hsp => body f A outer s H vs Q E hr hsp, hm, kp, B⟩
theorem DefT.cal (D : DefT K mg x st c) (S : FnScope N ps (defScope st)) (len : ∀ vs H Q E, sp vs H Q E → vs.length = ps.length)
    (hb : ∀ (kV doc pm : Value) (an : Option Addr) (cdv ct : Value) (us : List Value), us.length = ps.length → bindArgs (PySem.W.fnOf x x (defArgs st) (defBody st) (defScope st) .none kV doc pm an cdv ct) ⟨us, []⟩ = pure (ps.zip us))
    (body : ∀ (f : Addr) (A : Around) (outer : List Env) (s : Shared) (H : Hp) (vs : List V) (Q : VK) (E : XK), Room k (A.deeper (envOfC x (defScope st) s.heap.objs.size f (.ref c))) → sp vs H Q E →
      ∃ t, PSs (cxOf CX0 P w K mg base N x (defScope st) f (.ref c) A outer s H E) (defBody st) t ∧ t { nx := fun _ H' => Q .non H', rt := Q } (start N vs) H) : Cal P w K mg base (k + 1) x ps sp := ⟨D.calCX S len hb body⟩
/-- from the head -/
theorem defT_of {p : He.Defn} {fd : FuncData} (F : FunD K x x (defArgs st) (defBody st) (defScope st) [] [] (He.fAd K p) fd) (hm : mg x = some (.ref (He.fAd K p))) : DefT K mg x st (He.codeOf K p) := by
  refine ⟨_, fd, F, hm, ?_⟩
  obtain ⟨oc, od, dV, kV, doc, pm, an, cdv, ct, osl, rfl, lk, hcd, _, _⟩ := F.ex
  obtain ⟨c, rfl⟩ := He.codeIn_ref hcd
  rw [He.codeOf_eq lk (c := c) rfl]
end
/-- a suite that is read only where a fact holds -/
theorem pss_if {X : Cx} {ss : List Stmt} {t : TS} {p : Prop} (h : p → PSs X ss t) : PSs X ss (fun D σ H => p ∧ t D σ H) := ⟨fun pins s σ H D I ⟨hp, q⟩ => (h hp).run pins s σ H D I q⟩
end L2
end
section
set_option Elab.async false
set_option linter.all false
set_option maxRecDepth 100000
set_option maxHeartbeats 4000000
namespace He
open PySem PySem.Spec PyProof.Rows L2
/-! a Hook with the statics and with tables -/
def frZ (g : Addr → Option Obj) (n : Nat) : PySem.W.Frag := frT g (cStatics :: asD g n)
def obsZ (n : Nat) (fa : List Fa) (fn : List DefD) (tf : List Defn) (ex : PySem.W.Frag → Bool) (g : Addr → Option Obj) : AlX := (obsT fa fn [] (frZ g n), ex (frZ g n) && tabsB g tf (frZ g n))
theorem saysZ_of {n : Nat} {fa : List Fa} {fn : List DefD} {tf : List Defn} {ex : PySem.W.Frag → Bool} {w : World} {h : Heap} (e : obsZ n fa fn tf ex h.get? = valX fn [] w) : SaysX fa fn [] tf ex w h (frZ h.get? n) := by
  have e1 : obsT fa fn [] (frZ h.get? n) = valT fn [] w := congrArg (fun z : AlX => z.1) e
  have e2 : (ex (frZ h.get? n) && tabsB h.get? tf (frZ h.get? n)) = true := congrArg (fun z : AlX => z.2) e
  rw [Bool.and_eq_true] at e2
  obtain ⟨h1, h2⟩ := e2
  have key : ∀ p ∈ tf, PySem.W.codeHdIn (frZ h.get? n) (cT (frZ h.get? n) p).1 (cT (frZ h.get? n) p).2 = true ∧ ∃ o, h.get? (cT (frZ h.get? n) p).2 = some o ∧ emptyTab o = true := fun p hp => by
    have z := List.all_eq_true.mp h2 p hp
    rw [Bool.and_eq_true] at z
    obtain ⟨h3, h4⟩ := z
    refine ⟨h3, ?_⟩
    cases q : h.get? (cT (frZ h.get? n) p).2 with
    | none =>
      rw [q] at h4
      cases h4
    | some o =>
      rw [q] at h4
      exact ⟨o, rfl, h4⟩
  exact ⟨e1, h1, fun p hp => (key p hp).1, fun p hp => by
    obtain ⟨_, o, q, z⟩ := key p hp
    exact frT_none q z, fun p hp => by
    obtain ⟨_, o, q, z⟩ := key p hp
    rw [q, emptyTab_eq z]⟩
def hookZ (n : Nat) (fa : List Fa) (fn : List DefD) (tf : List Defn) (ex : PySem.W.Frag → Bool) : PySem.W.Hook where
  α := AlX
  obs := fun s => obsZ n fa fn tf ex s.heap.get?
  val := fun w => valX fn [] w
  says := fun w h => ∃ K : PySem.W.Frag, K.In h ∧ SaysX fa fn [] tf ex w h K
  of := fun _ _ e => ⟨_, frT_in, saysZ_of e⟩
  keeps := fun _ _ _ ⟨K, hK, c⟩ k => ⟨K, PySem.W.Frag.In.keeps hK k, ⟨c.t, c.more, c.hd, c.out, fun p hp => k _ _ (c.empty p hp)⟩⟩
end He
namespace L2
open PySem PySem.Spec PyProof.Rows
/-! what the top leaves: own exceptions -/
def oexB (K : PySem.W.Frag) (C : Addr) : Bool :=
  (match K.lookup C with
  | some { cls := .type t, dict := _, data := .cls cd, slots := sl } =>
    match cd.mro, sl.toList with
    | .ref C' :: bm, [_, _, _, _, some (.builtin n), _] => decide (t = "type") && (decide (C' = C) && (decide (n = "ValueError.__new__") && (cd.hasDict && (!cd.hasDel && HandSPX.refsVE bm))))
    | _, _ => false
  | _ => false) && (decide (PySem.W.findIn K (.ref C) "__setattr__" = some (some (.builtin "object.__setattr__"))) && (decide (PySem.W.subIn K (.ref C) (.type "BaseException") = some true) && (decide (PySem.W.typeIn K (.ref C) = some (.type "type")) && PySem.W.keepIn K (.ref C))))
theorem oexB_ok {K : PySem.W.Frag} {C : Addr} (h : oexB K C = true) : OexC K C := by
  unfold oexB at h
  simp only [Bool.and_eq_true, decide_eq_true_eq] at h
  obtain ⟨h1, h2, h3, h4, h5⟩ := h
  refine ⟨?_, h2, h3, h4, h5⟩
  revert h1
  split
  · rename_i t dd cd sl e
    split
    · rename_i C' bm k0 k1 k2 k3 n k5 em es
      intro h
      simp only [Bool.and_eq_true, decide_eq_true_eq, Bool.not_eq_true'] at h
      obtain ⟨a1, a2, a3, a4, a5, a6⟩ := h
      subst a1 a2 a3
      obtain ⟨nm, bs, mro, N, qn, hdct, sn, sub, ab, col, hd⟩ := cd
      simp only at em a4 a5
      subst em a4 a5
      obtain ⟨sl⟩ := sl
      simp only at es
      subst es
      exact ⟨nm, qn, N, bs, bm, sn, sub, ab, col, dd, k0, k1, k2, k3, k5, e, a6⟩
    · intro h
      cases h
  · intro h
    cases h
def iniB (K : PySem.W.Frag) (x : Str) : Bool := decide (PySem.W.findIn K (.ref (He.ga K x)) "__init__" = some (some (.ref (He.ma K (He.ga K x) "__init__")))) && decide (PySem.W.typeIn K (.ref (He.ma K (He.ga K x) "__init__")) = some (.type "function"))
theorem iniB_ok {K : PySem.W.Frag} {x : Str} (h : iniB K x = true) : PySem.W.findIn K (.ref (He.ga K x)) "__init__" = some (some (.ref (He.ma K (He.ga K x) "__init__"))) ∧ PySem.W.typeIn K (.ref (He.ma K (He.ga K x) "__init__")) = some (.type "function") := by
  unfold iniB at h
  simp only [Bool.and_eq_true, decide_eq_true_eq] at h
  exact h
def partB (K : PySem.W.Frag) : Bool :=
  PySem.W.readsIn K (He.ga K "PartlyError") (.type "type") && (decide (PySem.W.specialIn K (.ref (He.ga K "PartlyError")) "__getattribute__" = some (some (.builtin "type.__getattribute__"))) &&
  (match PySem.W.findCls K (.ref (He.ga K "PartlyError")) (.type "type") "__init__" with
  | some (.val (.builtin n)) => decide (n = "ValueError.__init__")
  | _ => false))
theorem partB_ok {K : PySem.W.Frag} (z : partB K = true) : ClX.CRead K (He.ga K "PartlyError") (.type "type") ∧ PySem.W.findCls K (.ref (He.ga K "PartlyError")) (.type "type") "__init__" = some (.val (.builtin "ValueError.__init__")) := by
  unfold partB at z
  simp only [Bool.and_eq_true, decide_eq_true_eq] at z
  refine ⟨⟨z.1, z.2.1⟩, ?_⟩
  have y := z.2.2
  revert y
  split
  · rename_i n en
    intro y
    rw [en, of_decide_eq_true y]
  · intro y
    cases y
def excB (K : PySem.W.Frag) (D : Addr) : Bool :=
  decide (PySem.W.findIn K (.ref D) "__getattribute__" = some (some (.builtin "BaseException.__getattribute__"))) && (decide (PySem.W.findIn K (.ref D) "__getattr__" = some none) && (decide (PySem.W.subIn K (.ref D) (.type "BaseException") = some true) && (PySem.W.hasDictIn K D && (decide (PySem.W.findIn K (.ref D) "__class__" = some (some (.builtin "object.__class__"))) && (decide (PySem.W.specialIn K (.builtin "object.__class__") "__get__" = some (some (.builtin "getset_descriptor.__get__"))) && (decide (PySem.W.takesIn K (.builtin "object.__class__") = some true) && decide (PySem.W.mroIn K D (.type "object") = some true)))))))
theorem excB_ok {K : PySem.W.Frag} {D : Addr} (h : excB K D = true) : ExcC K D := by
  unfold excB at h
  simp only [Bool.and_eq_true, decide_eq_true_eq] at h
  obtain ⟨h1, h2, h3, h4, h5, h6, h7, h8⟩ := h
  exact ⟨h1, h2, h3, h4, h5, h6, h7, h8⟩
end L2
end
section
set_option Elab.async false
set_option linter.all false
set_option maxRecDepth 100000
set_option maxHeartbeats 4000000
namespace L2
open PySem PySem.Spec PyProof.Rows
/-! what the top leaves: written dicts of pairs and of texts, exceptions as values, operations -/
def tup2B (K : PySem.W.Frag) (t : Addr) (zs : List Int) : Bool := match K.lookup t with
  | some ⟨.type ty, _, .seq its _, _⟩ => decide (ty = "tuple") && decide (its.toList.map (fun v => match v with | .int z _ => some z | _ => none) = zs.map some)
  | _ => false
theorem vals_ints2 : ∀ {zs : List Int} {its : List Value}, its.map (fun v => match v with | .int z _ => some z | _ => none) = zs.map some → Vals (zs.map V.int) its
  | [], [], _ => .nil
  | [], _ :: _, h => by cases h
  | _ :: _, [], h => by cases h
  | z :: r, v :: its, h => by
    rw [List.map_cons, List.map_cons, List.cons.injEq] at h
    obtain ⟨h1, h2⟩ := h
    refine .cons ?_ (vals_ints2 h2)
    revert h1
    cases v <;> intro h1 <;> first | (cases h1; exact ⟨_, rfl⟩) | cases h1
theorem tup2B_ok {K : PySem.W.Frag} {t : Addr} {zs : List Int} (hz : zs.length ≤ 1000) (h : tup2B K t zs = true) (H : Hp) : SqT K H t (zs.map V.int) := by
  unfold tup2B at h
  revert h
  split
  · rename_i ty d its n sl e
    intro h
    simp only [Bool.and_eq_true, decide_eq_true_eq] at h
    obtain ⟨rfl, h2⟩ := h
    have r := vals_ints2 h2
    exact .inr ⟨_, its, n, e, rfl, rfl, by have h1 := r.length; have h2 : its.toList.length = its.size := Array.length_toList; rw [List.length_map] at h1; rw [sizeLine_eq]; omega, r⟩
  · intro h
    cases h
def dictP (K : PySem.W.Frag) (d : Str) (l : List (Str × Int × Int)) : Bool := l.all fun q => match PySem.W.nsIn K (He.ga K d) q.1 with
  | some (some (.ref t)) => tup2B K t [q.2.1, q.2.2]
  | _ => false
theorem dictP_ok {K : PySem.W.Frag} {d : Str} {l : List (Str × Int × Int)} (h : dictP K d l = true) : ∀ x lo hi, (x, lo, hi) ∈ l → ∃ t, PySem.W.nsIn K (He.ga K d) x = some (some (.ref t)) ∧ ∀ H : Hp, SqT K H t [.int lo, .int hi] := by
  intro x lo hi hm
  have z := List.all_eq_true.mp h _ hm
  dsimp only at z
  revert z
  split
  · rename_i t e
    intro z
    exact ⟨t, e, fun H => tup2B_ok (zs := [lo, hi]) (by show 2 ≤ 1000; decide) z H⟩
  · intro z
    cases z
def dictS (K : PySem.W.Frag) (d : Str) (l : List (Str × Str)) : Bool := l.all fun q => match PySem.W.nsIn K (He.ga K d) q.1 with
  | some (some (.str z _)) => decide (z = q.2)
  | _ => false
theorem dictS_ok {K : PySem.W.Frag} {d : Str} {l : List (Str × Str)} (h : dictS K d l = true) : ∀ x f, (x, f) ∈ l → ∃ t, PySem.W.nsIn K (He.ga K d) x = some (some (.str f t)) := by
  intro x f hm
  have z := List.all_eq_true.mp h _ hm
  dsimp only at z
  revert z
  split
  · rename_i y t e
    intro z
    rw [← of_decide_eq_true z]
    exact ⟨t, e⟩
  · intro z
    cases z
def dictN (K : PySem.W.Frag) (d : Str) (l : List Str) : Bool := l.all fun x => match PySem.W.nsIn K (He.ga K d) x with
  | some none => true
  | _ => false
theorem dictN_ok {K : PySem.W.Frag} {d : Str} {l : List Str} (h : dictN K d l = true) : ∀ x ∈ l, PySem.W.nsIn K (He.ga K d) x = some none := by
  intro x hm
  have z := List.all_eq_true.mp h _ hm
  revert z
  split
  · rename_i e
    intro _
    exact e
  · intro z
    cases z
def exvB (K : PySem.W.Frag) (C : Addr) : Bool :=
  xfB K C && ((PySem.W.clsIn K C).isSome && (decide (PySem.W.findIn K (.ref C) "__class__" = some (some (.builtin "object.__class__"))) && decide (PySem.W.mroIn K C (.type "object") = some true)))
def clsB (K : PySem.W.Frag) : Bool :=
  decide (PySem.W.specialIn K (.builtin "object.__class__") "__get__" = some (some (.builtin "getset_descriptor.__get__"))) && decide (PySem.W.takesIn K (.builtin "object.__class__") = some true)
theorem exvB_ok {K : PySem.W.Frag} {C : Addr} (c : clsB K = true) (h : exvB K C = true) : ExV K C := by
  unfold exvB at h
  unfold clsB at c
  simp only [Bool.and_eq_true, decide_eq_true_eq] at h c
  exact ⟨xfB_ok h.1, h.2.1, h.2.2.1, c.1, c.2, h.2.2.2⟩
def opiB (K : PySem.W.Frag) (C : Addr) (op : Operator) : Bool := decide (PySem.W.findIn K (.ref C) (dunderR op.info.2) = some none) && ((PySem.W.findIn K (.type "int") (PySem.dunder op.info.2)).isSome && ((PySem.W.findIn K (.type "int") (dunderR op.info.2)).isSome && decide (PySem.W.subIn K (.type "int") (.ref C) = some false)))
theorem opiB_ok {K : PySem.W.Frag} {C : Addr} {op : Operator} (h : opiB K C op = true) : OpI K C op := by
  unfold opiB at h
  simp only [Bool.and_eq_true, decide_eq_true_eq] at h
  obtain ⟨h1, h2, h3, h4⟩ := h
  exact ⟨h1, Option.isSome_iff_exists.mp h2, Option.isSome_iff_exists.mp h3, h4⟩
def isxB (K : PySem.W.Frag) (x : Str) : Bool := decide (PySem.W.kitOne K (.ref (He.ga K x)) (.ref (He.ga K "PartlyError")) = some true) && decide (PySem.W.kitOne K (.ref (He.ga K x)) (.type "ValueError") = some true)
theorem isxB_ok {K : PySem.W.Frag} {x : Str} (h : isxB K x = true) : PySem.W.kitOne K (.ref (He.ga K x)) (.ref (He.ga K "PartlyError")) = some true ∧ PySem.W.kitOne K (.ref (He.ga K x)) (.type "ValueError") = some true := by
  unfold isxB at h
  simp only [Bool.and_eq_true, decide_eq_true_eq] at h
  exact h
end L2
end
section
set_option Elab.async false
set_option linter.all false
set_option maxRecDepth 100000
set_option maxHeartbeats 4000000
namespace L2
open PySem PySem.Spec PyProof.Rows
/-! a def run in one setting A (where it is known that no repr is under way) -/
section
variable {CX : CXT} {P : Program} {w : World} {K : PySem.W.Frag} {mg : Str → Option Value} {base : Heap}
theorem fun_at {k : Nat} {f : Addr} {x qual : Str} {params : Arguments} {body : List Stmt} {scope : Scope} {fd : FuncData} {N ps : List Str} {sp : Sp} (D : FunD K x qual params body scope [] [] f fd) (S : FnScope N ps scope)
    (len : ∀ vs H Q E, sp vs H Q E → vs.length = ps.length) (A : Around)
    (red : ∀ (cdv : Value) (outer : List Env) (s : Shared) (H : Hp) (vs : List V) (Q : VK) (E : XK), Room k (A.deeper (envOfC qual scope s.heap.objs.size f cdv)) → sp vs H Q E →
      ∃ t, PSs (cxOf CX P w K mg base N qual scope f cdv A outer s H E) body t ∧ t { nx := fun _ H' => Q .non H', rt := Q } (start N vs) H)
    {outer : List Env} {s : Shared} {H : Hp} {args : Args} {us : List Value} {vs : List V} {Q : VK} {E : XK} (hr : Room (k + 1) A) (e0 : Env0 P w K mg base A outer s H) (hb : BindsTo s fd args (ps.zip us)) (r : Vals vs us) (h : sp vs H Q E) :
    codeAny (model P w) A (.call (.ref f) args) (CR CX outer P w H s Q E) s := by
  obtain ⟨oc, od, dV, kV, doc, pm, an, cdv, ct, osl, rfl, lk, hcd, _, _⟩ := D.ex
  have here : ∀ b o, base.get? b = some o → s.heap.get? b = some o := fun b o z => (e0.bs b o z).1
  have KX : K.In s.heap := e0.mod.kin.keeps here
  have places : ∀ y ∈ ps.zip us, scope.names.lookup y.1 = some .local ∨ (scope.names.lookup y.1 = some .cell ∧ ((cellsFrom (s.heap.objs.size + 1) scope.names []).lookup y.1).isSome = true) := by
    rintro ⟨n, v⟩ hy
    rcases S.par n (List.of_mem_zip hy).1 with z | z
    · exact Or.inl z
    · exact Or.inr ⟨z, PySem.W.cellsFrom_some _ _ _ (Or.inl z)⟩
  refine codeAny_call_function hr.depth (KX _ _ lk) rfl S.co S.gen rfl (PySem.W.codeRec_of KX hcd) (hb _ _ _ _ (wpAny_newFunctionEnv_cells S.kind places fun env he s1 inside => ?_))
  subst he
  refine ⟨(e0.mod.nolimit.keeps here).keeps inside.toInCall.keep, codeAny_func ?_⟩
  obtain ⟨t, ht, hq⟩ := red cdv outer s H vs Q E (hr.deeper _) h
  have I := inv_start (CX := CX) (E := E) S hr.hd e0 (len _ _ _ _ h) r inside
  refine wpAny_mono (ht.run [] s1 (start N vs) H _ I hq) (fun fl s' z => ?_) fun e s' z => z
  match fl, z with
  | .ret u, ⟨v, σ', H', J, rv, q⟩ => exact ⟨v, H', J.os, J.bare, J.base, J.hok, rv, q⟩
  | .next, ⟨σ', H', J, q⟩ => exact ⟨.non, H', J.os, J.bare, J.base, J.hok, rfl, q⟩
  | .brk, ⟨_, _, _, q⟩ => exact q.elim
  | .cont, ⟨_, _, _, q⟩ => exact q.elim
/-- the script among what is tracked, or among the module's own objects -/
theorem script_hp {s₁ : Shared} {a : Addr} {vs : List Value} {ns : List Int} (KX : K.In s₁.heap) (ha : s₁.heap.get? a = some { cls := .type "list", data := .seq vs.toArray }) (hi : IntsAre vs ns) (hl : ns.length ≤ sizeLine) :
    ∃ H : Hp, Only H ∧ SqL K H a (ns.map V.int) ∧ HOk P w H s₁.heap ∧ (∀ b, H b ≠ none → b = a) ∧ (H a ≠ none → K.lookup a = none) := by
  have rv := vals_ints hi
  cases hk : K.lookup a with
  | some o =>
    have z := KX a o hk
    rw [ha] at z
    cases z
    exact ⟨fun _ => none, fun _ => Or.inl rfl, Or.inr ⟨_, vs.toArray, _, hk, rfl, rfl, rfl, by rw [List.size_toArray, hi.length]; exact hl, by simpa using rv⟩, fun b u z => (nomatch z), fun b z => absurd rfl z, fun z => absurd rfl z⟩
  | none =>
    refine ⟨fun b => if b = a then some (.frz { cls := .type "list", data := .seq vs.toArray } (.lst (ns.map V.int))) else none, fun b => ?_, Or.inl (Or.inr ⟨_, if_pos rfl⟩), fun b u z => ?_, fun b z => ?_, fun _ => rfl⟩
    · by_cases e : b = a
      · exact Or.inr ⟨_, _, if_pos e⟩
      · exact Or.inl (if_neg e)
    · have z' : (if b = a then some (HO.frz { cls := .type "list", data := .seq vs.toArray } (.lst (ns.map V.int))) else none) = some u := z
      by_cases e : b = a
      · rw [if_pos e] at z'
        cases z'
        rw [e]
        exact ⟨ha, by rw [List.length_map]; exact hl, vs, _, rv, ha⟩
      · rw [if_neg e] at z'
        cases z'
    · by_cases e : b = a
      · exact e
      · exact absurd (if_neg e) z
/-- the law's call, its def's promise given in the caller's setting alone -/
theorem law_at {fa a : Addr} {s₁ : Shared} {mb : Str → Option Value} {vs : List Value} {ns : List Int}
    (KX : K.In s₁.heap) (hns : s₁.heap.Ns mainGlobals mg) (hb : s₁.heap.Ns builtinsNs mb) (hbb : ∀ x : Str, x ≠ "__name__" → mb x = bootBuiltins x) (hlim : s₁.heap.NoLimit) (hg : s₁.gens = #[])
    (ha : s₁.heap.get? a = some { cls := .type "list", data := .seq vs.toArray }) (hi : IntsAre vs ns) (hl : ns.length ≤ sizeLine)
    (run : ∀ base : Heap, K.In base → base.Ns mainGlobals mg → ∀ H : Hp, Only H → SqL K H a (ns.map V.int) → Env0 P w K mg base callerA [] s₁ H →
      codeAny (model P w) callerA (.call (.ref fa) ⟨[.ref a], []⟩) (CR CX0 [] P w H s₁ (fun v _ => v = .bl true) fun _ _ _ => False) s₁) :
    codeAny (model P w) callerA (.call (.ref fa) ⟨[.ref a], []⟩) (fun r s' => r = .ok (.ret (.bool true)) ∧ OldK s₁.heap s'.heap ∧ s'.os = s₁.os ∧ AllBare s'.gens) s₁ := by
  obtain ⟨H, hO, hS, hok, hA, hK⟩ := script_hp (P := P) (w := w) KX ha hi hl
  have lists : ∀ {b : Addr} {o : Obj} {es : Array DictEntry} {ep : Nat}, s₁.heap.get? b = some o → o.data = .dict es ep → H b = none := by
    intro b o es ep z d
    cases q : H b with
    | none => rfl
    | some u =>
      have e : b = a := hA b (by rw [q]; exact Option.some_ne_none _)
      rw [e, ha] at z
      cases z
      cases d
  have names : ∀ {b : Addr} {m : Str → Option Value}, s₁.heap.Ns b m → (hidT s₁.heap H).Ns b m := fun ⟨o, es, ep, z, d, r⟩ => ⟨o, es, ep, hidT_get z (lists z d), d, r⟩
  have KB : K.In (hidT s₁.heap H) := fun b o z => hidT_get (KX b o z) (by
    cases q : H b with
    | none => rfl
    | some u =>
      have e : b = a := hA b (by rw [q]; exact Option.some_ne_none _)
      rw [e] at z q
      rw [hK (by rw [q]; exact Option.some_ne_none _)] at z
      cases z)
  obtain ⟨mc, l1, l2⟩ := id hlim
  refine codeAny_mono (run _ KB (names hns) H hO hS ⟨rfl, ⟨KB, names hns, ⟨mb, names hb, hbb⟩, mc, names l1, l2⟩, fun b o z => of_hidT z, Nat.le_of_eq (hidT_size _ _), trivial, fun b z => (nomatch z), hok, .of_eq hg⟩) fun r s' z => ?_
  match r, z with
  | .error e, z => exact z.elim
  | .ok .next, z => exact z.elim
  | .ok .brk, z => exact z.elim
  | .ok .cont, z => exact z.elim
  | .ok (.ret u), ⟨v, H', os, bare, un, hok', rv, q⟩ =>
    have q2 : v = .bl true := q
    subst q2
    obtain rfl : u = Value.bool true := rv
    refine ⟨rfl, OldK.of_keep fun b o e => ?_, os, bare⟩
    cases z : H b with
    | none => exact un.keep b o e z (fun y => nomatch y) (fun y => nomatch y)
    | some u =>
      rcases hO b with y | ⟨ob, xs, y⟩
      · rw [z] at y
        cases y
      · obtain ⟨e1, _⟩ := hok b _ y
        obtain ⟨e2, _⟩ := hok' b _ (un.frzs b ob _ y)
        rw [e] at e1
        cases e1
        exact e2
end
end L2
end
section
set_option Elab.async false
set_option linter.all false
set_option maxRecDepth 100000
set_option maxHeartbeats 4000000
namespace L2
open PySem PySem.Spec PyProof.Rows
theorem But.nw {p q : Addr} {H H1 : Hp} {o : HO} (B : But p H H1) (h : H1 q = none) : But p H (L2.upd H1 q o) := B.trans (But.of (Same.new h))
theorem Same.tup {K : PySem.W.Frag} {a : Addr} {H H' : Hp} {xs : List V} (s : Same H H') (h : SqT K H a xs) : SqT K H' a xs := by
  rcases h with (h | ⟨o, h⟩) | h
  · exact .inl (.inl (s _ _ h))
  · exact .inl (.inr ⟨o, s _ _ h⟩)
  · exact .inr h
theorem But.tupI {K : PySem.W.Frag} {o a C dx : Addr} {fs : List (Str × V)} {H H' : Hp} {xs : List V} (b : But o H H') (ho : H o = some (.ins C dx fs)) (h : SqT K H a xs) : SqT K H' a xs := by
  rcases h with (h | ⟨u, h⟩) | h
  · exact .inl (.inl (b _ _ (fun z => by rw [z, ho] at h; cases h) h))
  · exact .inl (.inr ⟨u, b _ _ (fun z => by rw [z, ho] at h; cases h) h⟩)
  · exact .inr h
theorem units65 {k : Nat} {A : Around} (hr : Room k A) : A.units + 65 < cLine := by
  have := hr.un
  omega
end L2
namespace CF
open PySem PySem.Spec PyProof.Rows L2
/-! facts as the laws write them down -/
inductive FD where
  | by_ (a : Str) (m r : Int)
  | gap (a b : Str) (m r : Int)
  | apart (a : Str) (k n : Int) (b : Str) (e c : Int)
  | dist (w a b : Str) (n : Int)
  deriving DecidableEq
/-- the law's tuple -/
def FD.vs : FD → List V
  | .by_ a m r => [.str "by", .str a, .int m, .int r]
  | .gap a b m r => [.str "gap", .str a, .str b, .int m, .int r]
  | .apart a k n b e c => [.str "apart", .str a, .int k, .int n, .str b, .int e, .int c]
  | .dist w a b n => [.str w, .str a, .str b, .int n]
/-- its data -/
def FD.ds : FD → List PyData
  | .by_ a m r => [.str "by", .str a, .int m, .int r]
  | .gap a b m r => [.str "gap", .str a, .str b, .int m, .int r]
  | .apart a k n b e c => [.str "apart", .str a, .int k, .int n, .str b, .int e, .int c]
  | .dist w a b n => [.str w, .str a, .str b, .int n]
def Sorts : List Str := ["from", "upto", "is"]
def Rem (m r : Int) : Prop := (m = 2 ∨ m = 4 ∨ m = 8) ∧ 0 ≤ r ∧ r < m
def Off (k : Int) : Prop := -30 ≤ k ∧ k ≤ 30
def Many (n : Int) : Prop := 1 ≤ n ∧ n ≤ 16
/-- a fact over the pointers ps -/
def FD.Ok (ps : List Str) : FD → Prop
  | .by_ a m r => a ∈ ps ∧ Rem m r
  | .gap a b m r => a ∈ ps ∧ b ∈ ps ∧ b ≠ a ∧ Rem m r
  | .apart a k n b e c => a ∈ ps ∧ b ∈ ps ∧ b ≠ a ∧ Off k ∧ Many n ∧ Off e ∧ Many c
  | .dist w a b n => w ∈ Sorts ∧ a ∈ ps ∧ b ∈ ps ∧ b ≠ a ∧ -40 ≤ n ∧ n ≤ 40
/-- words that no pointer is named with -/
def Reserved : List Str := ["input", "load", "store", "set", "join", "part", "each", "copy", "up", "down", "fill", "step", "when", "else", "end", "times", "give", "call", "to", "from", "upto", "is", "apart", "by"]
/-- a pointer's name -/
structure NameOk (z : Str) : Prop where
  free : z ∉ Reserved
  lo : 1 ≤ z.length
  hi : z.length ≤ 12
  letters : ∀ c ∈ TL.tl z, 97 ≤ c ∧ c ≤ 122
def Names (ps : List Str) : Prop := (∀ z ∈ ps, NameOk z) ∧ ps.Nodup ∧ 1 ≤ ps.length ∧ ps.length ≤ 3
theorem dps_vs (K : PySem.W.Frag) (H : Hp) (f : FD) : DpAll K H f.vs f.ds := by
  cases f <;> repeat (first | exact .nil | refine .cons (by first | exact .str _ | exact .int _) ?_)
/-- facts at their places -/
inductive FAt (H : Hp) : List Addr → List FD → Prop
  | nil : FAt H [] []
  | cons {q : Addr} {f : FD} {qs : List Addr} {fs : List FD} : H q = some (.tup f.vs) → FAt H qs fs → FAt H (q :: qs) (f :: fs)
theorem FAt.same {H H' : Hp} {qs : List Addr} {fs : List FD} (h : FAt H qs fs) (s : Same H H') : FAt H' qs fs := by
  induction h with
  | nil => exact .nil
  | cons a _ ih => exact .cons (s _ _ a) ih
theorem FAt.but {p : Addr} {H H' : Hp} {kvs : List (Key × V)} {qs : List Addr} {fs : List FD} (h : FAt H qs fs) (hp : H p = some (.dK kvs)) (s : But p H H') : FAt H' qs fs := by
  induction h with
  | nil => exact .nil
  | cons a _ ih => exact .cons (s _ _ (fun z => by rw [z, hp] at a; cases a) a) ih
theorem FAt.app {H : Hp} {q : Addr} {f : FD} {qs : List Addr} {fs : List FD} (h : FAt H qs fs) (a : H q = some (.tup f.vs)) : FAt H (qs ++ [q]) (fs ++ [f]) := by
  induction h with
  | nil => exact .cons a .nil
  | cons b _ ih => exact .cons b ih
theorem FAt.up {H : Hp} {p : Addr} {xs : List V} {o : HO} {qs : List Addr} {fs : List FD} (h : FAt H qs fs) (hp : H p = some (.lst xs)) : FAt (upd H p o) qs fs := by
  induction h with
  | nil => exact .nil
  | cons a _ ih => exact .cons (by rw [upd_ne (fun z => by rw [z, hp] at a; cases a)]; exact a) ih
theorem FAt.len {H : Hp} {qs : List Addr} {fs : List FD} (h : FAt H qs fs) : qs.length = fs.length := by
  induction h with
  | nil => rfl
  | cons _ _ ih => rw [List.length_cons, List.length_cons, ih]
theorem FAt.at_ {H : Hp} {qs : List Addr} {fs : List FD} (h : FAt H qs fs) : ∀ {i : Nat} {q : Addr}, qs[i]? = some q → ∃ f, fs[i]? = some f ∧ H q = some (.tup f.vs) := by
  induction h with
  | nil => intro i q z; cases z
  | @cons q0 f qs fs a _ ih =>
    intro i q z
    cases i with
    | zero =>
      simp only [List.getElem?_cons_zero, Option.some.injEq] at z
      subst z
      exact ⟨f, rfl, a⟩
    | succ j =>
      rw [List.getElem?_cons_succ] at z ⊢
      exact ih z
theorem FAt.dps {K : PySem.W.Frag} {H : Hp} {qs : List Addr} {fs : List FD} (h : FAt H qs fs) : DpAll K H (qs.map V.ref) (fs.map fun f => PyData.tuple f.ds) := by
  induction h with
  | nil => exact .nil
  | cons a _ ih => exact .cons (.tup (SqT.of a) (dps_vs _ _ _)) ih
/-! data that is shaped -/
def Flat (d : PyData) : Prop := d.canLay0 = true ∧ d.depth = 0
theorem flats : ∀ ds : List PyData, (∀ d ∈ ds, Flat d) → PyData.canLayAll0 ds = true ∧ PyData.depthAll ds = 0
  | [], _ => ⟨rfl, rfl⟩
  | d :: r, h => by
    obtain ⟨a, b⟩ := flats r fun x hx => h x (List.mem_cons_of_mem _ hx)
    obtain ⟨c, e⟩ := h d List.mem_cons_self
    refine ⟨?_, ?_⟩
    · show (PyData.canLay0 d && PyData.canLayAll0 r) = true
      rw [a, c]
      rfl
    · show max (PyData.depth d) (PyData.depthAll r) = 0
      rw [b, e]
      rfl
theorem shaped_tup {ds : List PyData} (h : ∀ d ∈ ds, Flat d) : SeqAt.shaped (.tuple ds) = true := by
  obtain ⟨a, b⟩ := flats ds h
  show (PyData.canLayAll0 ds && decide (PyData.depthAll ds + 1 ≤ 64)) = true
  rw [a, b]
  rfl
theorem tups : ∀ ls : List (List PyData), (∀ ds ∈ ls, ∀ d ∈ ds, Flat d) → PyData.canLayAll0 (ls.map PyData.tuple) = true ∧ PyData.depthAll (ls.map PyData.tuple) ≤ 1
  | [], _ => ⟨rfl, by show 0 ≤ 1; decide⟩
  | ds :: r, h => by
    obtain ⟨a, b⟩ := tups r fun x hx => h x (List.mem_cons_of_mem _ hx)
    obtain ⟨c, e⟩ := flats ds (h ds List.mem_cons_self)
    refine ⟨?_, ?_⟩
    · show (PyData.canLayAll0 ds && PyData.canLayAll0 (r.map PyData.tuple)) = true
      rw [a, c]
      rfl
    · show max (PyData.depthAll ds + 1) (PyData.depthAll (r.map PyData.tuple)) ≤ 1
      rw [e]
      omega
theorem shaped_tups {ls : List (List PyData)} (h : ∀ ds ∈ ls, ∀ d ∈ ds, Flat d) : SeqAt.shaped (.list (ls.map PyData.tuple)) = true := by
  obtain ⟨a, b⟩ := tups ls h
  show (PyData.canLayAll0 (ls.map PyData.tuple) && decide (PyData.depthAll (ls.map PyData.tuple) + 1 ≤ 64)) = true
  rw [a, Bool.true_and]
  exact decide_eq_true (by omega)
def Lo (z : Str) : Prop := ∀ c ∈ z.cps.toList, c < 256
instance (z : Str) : Decidable (Lo z) := inferInstanceAs (Decidable (∀ c ∈ z.cps.toList, c < 256))
theorem lo_ok {z : Str} (h : Lo z) : PyData.strOk z = true := by
  unfold PyData.strOk
  rw [← Array.all_toList]
  exact List.all_eq_true.mpr fun c hc => decide_eq_true (Nat.lt_trans (h c hc) (by decide))
theorem flat_str {z : Str} (h : Lo z) : Flat (.str z) := ⟨lo_ok h, rfl⟩
theorem flat_int (i : Int) : Flat (.int i) := ⟨rfl, rfl⟩
theorem FD.flat {ps : List Str} (hp : ∀ z ∈ ps, Lo z) : ∀ {f : FD}, f.Ok ps → ∀ d ∈ f.ds, Flat d
  | .by_ a m r, ⟨h, _⟩ => by
    intro d hd
    simp only [FD.ds, List.mem_cons, List.not_mem_nil, or_false] at hd
    rcases hd with rfl | rfl | rfl | rfl
    · exact flat_str (by decide +kernel)
    · exact flat_str (hp _ h)
    · exact flat_int _
    · exact flat_int _
  | .gap a b m r, ⟨h, g, _⟩ => by
    intro d hd
    simp only [FD.ds, List.mem_cons, List.not_mem_nil, or_false] at hd
    rcases hd with rfl | rfl | rfl | rfl | rfl
    · exact flat_str (by decide +kernel)
    · exact flat_str (hp _ h)
    · exact flat_str (hp _ g)
    · exact flat_int _
    · exact flat_int _
  | .apart a k n b e c, ⟨h, g, _⟩ => by
    intro d hd
    simp only [FD.ds, List.mem_cons, List.not_mem_nil, or_false] at hd
    rcases hd with rfl | rfl | rfl | rfl | rfl | rfl | rfl
    · exact flat_str (by decide +kernel)
    · exact flat_str (hp _ h)
    · exact flat_int _
    · exact flat_int _
    · exact flat_str (hp _ g)
    · exact flat_int _
    · exact flat_int _
  | .dist w a b n, ⟨hw, h, g, _⟩ => by
    intro d hd
    simp only [FD.ds, List.mem_cons, List.not_mem_nil, or_false] at hd
    rcases hd with rfl | rfl | rfl | rfl
    · simp only [Sorts, List.mem_cons, List.not_mem_nil, or_false] at hw
      rcases hw with rfl | rfl | rfl <;> exact flat_str (by decide +kernel)
    · exact flat_str (hp _ h)
    · exact flat_str (hp _ g)
    · exact flat_int _
/-- what is in is found -/
theorem any_in {f : FD} {fs : List FD} (h : f ∈ fs) (hf : ∀ d ∈ f.ds, Flat d) : ((fs.map fun g => PyData.tuple g.ds).any fun z => PyData.eqv z (.tuple f.ds)) = true := by
  rw [List.any_map]
  refine List.any_eq_true.mpr ⟨f, h, ?_⟩
  exact SeqAt.eqv_refl _ (flats _ hf).1
/-! the texts of facts -/
def num (i : Int) : Str := Str.ofString (toString i)
def spot (z : Str) (k : Int) : Str := z ++ (if 0 < k then ("+" : Str) ++ num k else "") ++ (if k < 0 then num k else "")
def FD.words : FD → List Str
  | .by_ a m r => [a, "by", num m, num r]
  | .gap a b m r => [a, "to", b, "by", num m, num r]
  | .apart a k n b e c => ["apart", spot a k, num n, spot b e, num c]
  | .dist w a b n => [a, "to", b, w, num n]
def FD.text (f : FD) : Str := Txt.join " " f.words
/-- what holds of all small numbers -/
theorem small_all {p : Int → Bool} (h : ((List.range 201).all fun n => p ((n : Int) - 100)) = true) {i : Int} (h0 : -100 ≤ i) (h1 : i ≤ 100) : p i = true := by
  have z := List.all_eq_true.mp h (i + 100).toNat (List.mem_range.mpr (by omega))
  have e : (((i + 100).toNat : Nat) : Int) - 100 = i := by omega
  rw [e] at z
  exact z
theorem num_len {i : Int} (h0 : -100 ≤ i) (h1 : i ≤ 100) : (num i).length ≤ 4 :=
  of_decide_eq_true (small_all (p := fun i => decide ((num i).length ≤ 4)) (by decide +kernel) h0 h1)
theorem num_lo {i : Int} (h0 : -100 ≤ i) (h1 : i ≤ 100) : Lo (num i) :=
  of_decide_eq_true (small_all (p := fun i => decide (Lo (num i))) (by decide +kernel) h0 h1)
theorem log_small {i : Int} (h0 : -100 ≤ i) (h1 : i ≤ 100) : i.natAbs.log2 < 1920 :=
  of_decide_eq_true (small_all (p := fun i => decide (i.natAbs.log2 < 1920)) (by decide +kernel) h0 h1)
theorem len_app (x y : Str) : (x ++ y).length = x.length + y.length := strLen_append x y
theorem spot_len {z : Str} {k : Int} (hz : z.length ≤ 12) (h0 : -100 ≤ k) (h1 : k ≤ 100) : (spot z k).length ≤ 30 := by
  have := num_len h0 h1
  unfold spot
  rw [len_app, len_app]
  have e : ("+" : Str).length = 1 := rfl
  have e0 : ("" : Str).length = 0 := rfl
  split <;> split <;> (try rw [len_app]) <;> omega
theorem Rem.small {m r : Int} (h : Rem m r) : (-100 ≤ m ∧ m ≤ 100) ∧ (-100 ≤ r ∧ r ≤ 100) := by
  obtain ⟨h, h0, h1⟩ := h
  omega
/-- its words are short -/
theorem FD.short {ps : List Str} (hp : ∀ z ∈ ps, z.length ≤ 12) : ∀ {f : FD}, f.Ok ps → ∀ w ∈ f.words, w.length ≤ 30
  | .by_ a m r, ⟨h, g⟩ => by
    intro w hw
    have s := g.small
    have n1 := num_len s.1.1 s.1.2
    have n2 := num_len s.2.1 s.2.2
    have na := hp _ h
    simp only [FD.words, List.mem_cons, List.not_mem_nil, or_false] at hw
    rcases hw with rfl | rfl | rfl | rfl
    · omega
    · exact (by decide : ("by" : Str).length ≤ 30)
    · omega
    · omega
  | .gap a b m r, ⟨h, h2, _, g⟩ => by
    intro w hw
    have s := g.small
    have n1 := num_len s.1.1 s.1.2
    have n2 := num_len s.2.1 s.2.2
    have na := hp _ h
    have nb := hp _ h2
    simp only [FD.words, List.mem_cons, List.not_mem_nil, or_false] at hw
    rcases hw with rfl | rfl | rfl | rfl | rfl | rfl
    · omega
    · exact (by decide : ("to" : Str).length ≤ 30)
    · omega
    · exact (by decide : ("by" : Str).length ≤ 30)
    · omega
    · omega
  | .apart a k n b e c, ⟨h, h2, _, o1, m1, o2, m2⟩ => by
    obtain ⟨o11, o12⟩ := o1
    obtain ⟨m11, m12⟩ := m1
    obtain ⟨o21, o22⟩ := o2
    obtain ⟨m21, m22⟩ := m2
    intro w hw
    have s1 := spot_len (k := k) (hp _ h) (by omega) (by omega)
    have s2 := spot_len (k := e) (hp _ h2) (by omega) (by omega)
    have n1 := num_len (i := n) (by omega) (by omega)
    have n2 := num_len (i := c) (by omega) (by omega)
    simp only [FD.words, List.mem_cons, List.not_mem_nil, or_false] at hw
    rcases hw with rfl | rfl | rfl | rfl | rfl
    · exact (by decide : ("apart" : Str).length ≤ 30)
    · omega
    · omega
    · omega
    · omega
  | .dist w a b n, ⟨hw0, h, h2, _, n0, n1⟩ => by
    intro w hw
    have na := hp _ h
    have nb := hp _ h2
    have n1 := num_len (i := n) (by omega) (by omega)
    simp only [FD.words, List.mem_cons, List.not_mem_nil, or_false] at hw
    rcases hw with rfl | rfl | rfl | rfl | rfl
    · omega
    · exact (by decide : ("to" : Str).length ≤ 30)
    · omega
    · simp only [Sorts, List.mem_cons, List.not_mem_nil, or_false] at hw0
      rcases hw0 with rfl | rfl | rfl <;> decide
    · omega
theorem sum_le {ws : List Str} {b : Nat} (h : ∀ w ∈ ws, w.length ≤ b) : (ws.map (·.length)).sum ≤ ws.length * b := by
  induction ws with
  | nil => exact Nat.zero_le _
  | cons w r ih =>
    rw [List.map_cons, List.sum_cons, List.length_cons, Nat.succ_mul]
    have := h w List.mem_cons_self
    have := ih fun x hx => h x (List.mem_cons_of_mem _ hx)
    omega
theorem FD.few (f : FD) : f.words.length ≤ 6 := by
  cases f <;> exact Nat.le_of_ble_eq_true rfl
theorem FD.fits {ps : List Str} (hp : ∀ z ∈ ps, z.length ≤ 12) {f : FD} (h : f.Ok ps) : (f.words.map (·.length)).sum + f.words.length * (" " : Str).length ≤ 16777216 := by
  have a := sum_le (FD.short hp h)
  have b := f.few
  have e : (" " : Str).length = 1 := rfl
  have c : f.words.length * 30 ≤ 6 * 30 := Nat.mul_le_mul_right _ b
  rw [e]
  omega
theorem joinL_len (S : List Nat) : ∀ ps : List (List Nat), (TL.joinL S ps).length ≤ (ps.map List.length).sum + ps.length * S.length
  | [] => by simp [TL.joinL]
  | [p] => by simp [TL.joinL]
  | p :: q :: r => by
    have h := joinL_len S (q :: r)
    have e : TL.joinL S (p :: q :: r) = p ++ (S ++ TL.joinL S (q :: r)) := by
      first | rfl | simp [TL.joinL]
    rw [e, List.length_append, List.length_append, List.map_cons, List.sum_cons, List.length_cons, Nat.succ_mul]
    omega
theorem join_len (y : Str) (ws : List Str) : (Txt.join y ws).length ≤ (ws.map (·.length)).sum + ws.length * y.length := by
  rw [TL.join_eq, TL.len_tl, TL.tl_join]
  have h := joinL_len (TL.tl y) (ws.map TL.tl)
  have e : ((ws.map TL.tl).map List.length) = ws.map (·.length) := by
    rw [List.map_map]
    exact List.map_congr_left fun x _ => (TL.len_tl x).symm
  rw [e, List.length_map, ← TL.len_tl] at h
  exact h
theorem FD.text_len {ps : List Str} (hp : ∀ z ∈ ps, z.length ≤ 12) {f : FD} (h : f.Ok ps) : f.text.length ≤ 200 := by
  have j := join_len " " f.words
  have a := sum_le (FD.short hp h)
  have b := f.few
  have e : (" " : Str).length = 1 := rfl
  have c : f.words.length * 30 ≤ 6 * 30 := Nat.mul_le_mul_right _ b
  rw [e] at j
  unfold FD.text
  omega
def textOf (fs : List FD) : Str := Txt.join "\n" (fs.map FD.text)
theorem lines_fit {ps : List Str} (hp : ∀ z ∈ ps, z.length ≤ 12) {fs : List FD} (h : ∀ f ∈ fs, f.Ok ps) (n : fs.length ≤ 13) : ((fs.map FD.text).map (·.length)).sum + (fs.map FD.text).length * ("\n" : Str).length ≤ 4000 := by
  have a := sum_le (ws := fs.map FD.text) (b := 200) (fun w hw => by
    obtain ⟨f, hf, rfl⟩ := List.mem_map.mp hw
    exact FD.text_len hp (h f hf))
  have e : ("\n" : Str).length = 1 := rfl
  rw [List.length_map] at a ⊢
  have c : fs.length * 200 ≤ 13 * 200 := Nat.mul_le_mul_right _ n
  rw [e]
  omega
theorem text_fit {ps : List Str} (hp : ∀ z ∈ ps, z.length ≤ 12) {fs : List FD} (h : ∀ f ∈ fs, f.Ok ps) (n : fs.length ≤ 13) : (textOf fs).length ≤ 4000 :=
  Nat.le_trans (join_len _ _) (lines_fit hp h n)
/-! how far, which modulus -/
def ab (i : Int) : Int := if i < 0 then -i else i
def FD.far : FD → Int
  | .apart _ k n _ e c => ab k + n + ab e + c
  | .dist _ _ _ n => ab n
  | _ => 0
def FD.mod : FD → Int
  | .by_ _ m _ => m
  | .gap _ _ m _ => m
  | _ => 1
def mx (a b : Int) : Int := if b > a then b else a
def farOf (fs : List FD) : Int := fs.foldl (fun a f => mx a f.far) 0
def modOf (fs : List FD) : Int := fs.foldl (fun a f => mx a f.mod) 1
theorem NameOk.lo_ {z : Str} (h : NameOk z) : Lo z := fun c hc => by
  have := h.letters c hc
  omega
instance (z : Str) : Decidable (NameOk z) := decidable_of_iff (z ∉ Reserved ∧ 1 ≤ z.length ∧ z.length ≤ 12 ∧ ∀ c ∈ TL.tl z, 97 ≤ c ∧ c ≤ 122) ⟨fun h => ⟨h.1, h.2.1, h.2.2.1, h.2.2.2⟩, fun h => ⟨h.free, h.lo, h.hi, h.letters⟩⟩
theorem inV_strs (z : Str) (ns : List Str) : inV (.str z) (ns.map V.str) = decide (z ∈ ns) := by
  induction ns with
  | nil => rfl
  | cons w r ih =>
    have e : inV (.str z) ((w :: r).map V.str) = (decide (w = z) || inV (.str z) (r.map V.str)) := rfl
    rw [e, ih]
    by_cases h : w = z
    · rw [decide_eq_true h, Bool.true_or, decide_eq_true (List.mem_cons.mpr (.inl h.symm))]
    · rw [decide_eq_false h, Bool.false_or]
      exact decide_eq_decide.mpr ⟨fun y => List.mem_cons_of_mem _ y, fun y => (List.mem_cons.mp y).resolve_left fun e => h e.symm⟩
theorem flat_strs (ys : List Str) : (ys.map V.str).all flatV = true := by
  rw [List.all_map]
  exact List.all_eq_true.mpr fun _ _ => rfl
theorem cut_to (xs : List V) {m : Int} (h : 0 ≤ m) : cutV xs none (some m) = xs.take m.toNat := by
  unfold cutV HT.sIx
  simp only [if_neg (show ¬ m < 0 by omega), List.drop_zero, Nat.sub_zero]
  by_cases e : m.toNat ≤ xs.length
  · rw [Nat.min_eq_left e]
  · rw [Nat.min_eq_right (by omega), List.take_length, List.take_of_length_le (by omega)]
theorem drop_one {α : Type} [DecidableEq α] (x : α) : ∀ l : List α, l.Nodup → l.length ≤ (l.filter fun y => !decide (y = x)).length + 1
  | [], _ => Nat.zero_le _
  | y :: r, h => by
    have hr := (List.nodup_cons.mp h).2
    by_cases e : y = x
    · rw [List.filter_cons_of_neg (by rw [decide_eq_true e]; decide), List.length_cons]
      have : (r.filter fun y => !decide (y = x)) = r := List.filter_eq_self.mpr fun z hz => by
        have : z ≠ x := fun q => (List.nodup_cons.mp h).1 (e.symm ▸ q ▸ hz)
        rw [decide_eq_false this]
        rfl
      rw [this]
      omega
    · rw [List.filter_cons_of_pos (by rw [decide_eq_false e]; rfl), List.length_cons, List.length_cons]
      have := drop_one x r hr
      omega
theorem drop_all {α : Type} [DecidableEq α] (l : List α) (h : l.Nodup) : ∀ ns : List α, l.length ≤ (l.filter fun y => !decide (y ∈ ns)).length + ns.length
  | [] => by
    have : (l.filter fun y => !decide (y ∈ ([] : List α))) = l := List.filter_eq_self.mpr fun z _ => by simp
    rw [this]
    exact Nat.le_refl _
  | x :: ns => by
    have ih := drop_all l h ns
    have d := drop_one x (l.filter fun y => !decide (y ∈ ns)) (h.sublist List.filter_sublist)
    rw [List.filter_filter] at d
    have e : (l.filter fun a => (!decide (a = x)) && !decide (a ∈ ns)) = l.filter fun y => !decide (y ∈ x :: ns) := by
      refine List.filter_congr fun a _ => ?_
      by_cases e1 : a = x <;> by_cases e2 : a ∈ ns <;> simp [e1, e2]
    rw [e] at d
    rw [List.length_cons]
    omega
/-- a text joined out of letters -/
theorem joinL_nil : ∀ ps : List (List Nat), TL.joinL [] ps = ps.flatten
  | [] => rfl
  | [p] => by simp [TL.joinL]
  | p :: q :: r => by
    have h := joinL_nil (q :: r)
    have e : TL.joinL [] (p :: q :: r) = p ++ ([] ++ TL.joinL [] (q :: r)) := by
      first | rfl | simp [TL.joinL]
    rw [e, h]
    rfl
theorem join_letters {ys : List Str} (h : ∀ y ∈ ys, ∃ c, TL.tl y = [c] ∧ 97 ≤ c ∧ c ≤ 122) : (Txt.join "" ys).length = ys.length ∧ ∀ c ∈ TL.tl (Txt.join "" ys), 97 ≤ c ∧ c ≤ 122 := by
  have e : TL.tl (Txt.join "" ys) = (ys.map TL.tl).flatten := by
    rw [TL.join_eq, TL.tl_join]
    exact joinL_nil _
  have l : ∀ ys : List Str, (∀ y ∈ ys, ∃ c, TL.tl y = [c] ∧ 97 ≤ c ∧ c ≤ 122) → ((ys.map TL.tl).flatten).length = ys.length ∧ ∀ c ∈ (ys.map TL.tl).flatten, 97 ≤ c ∧ c ≤ 122 := by
    intro ys
    induction ys with
    | nil => intro _; exact ⟨rfl, by simp⟩
    | cons y r ih =>
      intro h
      obtain ⟨a, b⟩ := ih fun z hz => h z (List.mem_cons_of_mem _ hz)
      obtain ⟨c, hc, c0, c1⟩ := h y List.mem_cons_self
      rw [List.map_cons, List.flatten_cons, hc]
      refine ⟨by rw [List.length_append, a, List.length_cons]; simp [Nat.add_comm], fun d hd => ?_⟩
      rcases List.mem_append.mp hd with x | x
      · rw [List.mem_singleton.mp x]
        exact ⟨c0, c1⟩
      · exact b d x
  rw [TL.len_tl, e]
  exact l ys h
/-! a spot's text, taken apart -/
theorem num_plus {i : Int} (h0 : -100 ≤ i) (h1 : i ≤ 100) : 43 ∉ TL.tl (num i) :=
  of_decide_eq_true (small_all (p := fun i => decide (43 ∉ TL.tl (num i))) (by decide +kernel) h0 h1)
theorem num_neg {i : Int} (h0 : -100 ≤ i) (h1 : i ≤ 100) (h : i < 0) : num i = ("-" : Str) ++ num (-i) := by
  have z := of_decide_eq_true (small_all (p := fun i => decide (i < 0 → num i = ("-" : Str) ++ num (-i))) (by decide +kernel) h0 h1)
  exact z h
theorem NameOk.no {z : Str} (h : NameOk z) {c : Nat} (hc : c < 97) : c ∉ TL.tl z := fun hm => by
  have := h.letters c hm
  omega
theorem app_nil (z : Str) : z ++ ("" : Str) = z := TL.ext_tl (by rw [TL.tl_append]; exact List.append_nil _)
theorem app_as (x y z : Str) : (x ++ y) ++ z = x ++ (y ++ z) := TL.ext_tl (by rw [TL.tl_append, TL.tl_append, TL.tl_append, TL.tl_append, List.append_assoc])
theorem spot_pos {z : Str} {k : Int} (h : 0 < k) : spot z k = z ++ ("+" : Str) ++ num k := by
  unfold spot
  rw [if_pos h, if_neg (by omega), app_nil, app_as]
theorem spot_neg {z : Str} {k : Int} (h : k < 0) (h0 : -100 ≤ k) : spot z k = z ++ ("-" : Str) ++ num (-k) := by
  unfold spot
  rw [if_neg (by omega), if_pos h, app_nil, num_neg h0 (by omega) h, app_as]
theorem spot_zero {z : Str} : spot z 0 = z := by
  unfold spot
  rw [if_neg (by decide), if_neg (by decide), app_nil, app_nil]
def sgn (k : Int) : Str := if 0 < k then "+" else "-"
theorem spot_sign {z : Str} (hz : NameOk z) {k : Int} (h0 : -100 ≤ k) (h1 : k ≤ 100) : decide (43 ∈ (spot z k).cps.toList) = decide (0 < k) := by
  have hn := hz.no (c := 43) (by decide)
  refine decide_eq_decide.mpr ⟨fun hm => ?_, fun h => ?_⟩
  · have hm' : 43 ∈ TL.tl (spot z k) := hm
    rcases Int.lt_trichotomy k 0 with h | h | h
    · rw [spot_neg h h0, TL.tl_append, TL.tl_append] at hm'
      rcases List.mem_append.mp hm' with x | x
      · rcases List.mem_append.mp x with y | y
        · exact absurd y hn
        · exact absurd y (by decide +kernel)
      · exact absurd x (num_plus (by omega) (by omega))
    · rw [h, spot_zero] at hm'
      exact absurd hm' hn
    · exact h
  · show 43 ∈ TL.tl (spot z k)
    rw [spot_pos h, TL.tl_append, TL.tl_append]
    exact List.mem_append_left _ (List.mem_append_right _ (by decide +kernel))
theorem spot_parts {z : Str} (hz : NameOk z) {k : Int} (h0 : -100 ≤ k) (h1 : k ≤ 100) : Txt.partition (spot z k) (sgn k) = (z, (if k = 0 then ("" : Str) else sgn k), (if k = 0 then ("" : Str) else num (ab k))) := by
  unfold sgn ab
  rcases Int.lt_trichotomy k 0 with h | h | h
  · rw [if_neg (by omega), if_neg (by omega), if_neg (by omega), if_pos h, spot_neg h h0]
    exact TL.partition_app (s := 45) (S := []) rfl (hz.no (by decide))
  · subst h
    rw [if_neg (by decide), if_pos rfl, if_pos rfl, spot_zero]
    exact TL.partition_none (s := 45) (S := []) rfl (hz.no (by decide))
  · rw [if_pos h, if_neg (by omega), if_neg (by omega), if_neg (by omega), spot_pos h]
    exact TL.partition_app (s := 43) (S := []) rfl (hz.no (by decide))
/-! the greatest -/
theorem mxl (l : List Int) : ∀ a : Int, a ≤ l.foldl mx a ∧ (∀ y ∈ l, y ≤ l.foldl mx a) ∧ (l.foldl mx a = a ∨ l.foldl mx a ∈ l) := by
  induction l with
  | nil => exact fun a => ⟨Int.le_refl _, by simp, .inl rfl⟩
  | cons x r ih =>
    intro a
    obtain ⟨h1, h2, h3⟩ := ih (mx a x)
    have m1 : a ≤ mx a x ∧ x ≤ mx a x ∧ (mx a x = a ∨ mx a x = x) := by
      unfold mx
      split <;> omega
    rw [List.foldl_cons]
    refine ⟨by omega, fun y hy => ?_, ?_⟩
    · rcases List.mem_cons.mp hy with rfl | h
      · omega
      · exact h2 y h
    · rcases h3 with h | h
      · rcases m1.2.2 with e | e
        · exact .inl (h.trans e)
        · exact .inr (List.mem_cons.mpr (.inl (h.trans e)))
      · exact .inr (List.mem_cons_of_mem _ h)
theorem mx_is {l : List Int} {a m : Int} (hm : m ∈ l) (hle : ∀ y ∈ l, y ≤ m) (ha : ∀ y ∈ l, a ≤ y) : l.foldl mx a = m := by
  obtain ⟨h1, h2, h3⟩ := mxl l a
  have h4 := h2 m hm
  rcases h3 with h | h
  · have := ha m hm
    omega
  · have := hle _ h
    omega
theorem farOf_map (fs : List FD) : farOf fs = (fs.map FD.far).foldl mx 0 := by
  unfold farOf
  rw [List.foldl_map]
theorem modOf_map (fs : List FD) : modOf fs = (fs.map FD.mod).foldl mx 1 := by
  unfold modOf
  rw [List.foldl_map]
theorem far_nn {ps : List Str} {f : FD} (h : f.Ok ps) : 0 ≤ f.far := by
  have a (i : Int) : 0 ≤ ab i := by
    unfold ab
    split <;> omega
  cases f with
  | by_ a m r => exact Int.le_refl _
  | gap a b m r => exact Int.le_refl _
  | apart z k n y e c =>
    obtain ⟨_, _, _, _, m1, _, m2⟩ := h
    have := m1.1
    have := m2.1
    have := a k
    have := a e
    show 0 ≤ ab k + n + ab e + c
    omega
  | dist w z y n => exact a n
theorem mod_pos {ps : List Str} {f : FD} (h : f.Ok ps) : 1 ≤ f.mod := by
  cases f with
  | by_ a m r =>
    obtain ⟨_, hm, _⟩ := h
    show 1 ≤ m
    omega
  | gap a b m r =>
    obtain ⟨_, _, _, hm, _⟩ := h
    show 1 ≤ m
    omega
  | apart z k n y e c => exact Int.le_refl _
  | dist w z y n => exact Int.le_refl _
/-! a fact's text can be taken apart, and tells the fact -/
theorem num_space {i : Int} (h0 : -100 ≤ i) (h1 : i ≤ 100) : 32 ∉ TL.tl (num i) ∧ 10 ∉ TL.tl (num i) :=
  of_decide_eq_true (small_all (p := fun i => decide (32 ∉ TL.tl (num i) ∧ 10 ∉ TL.tl (num i))) (by decide +kernel) h0 h1)
theorem num_int {i : Int} (h0 : -100 ≤ i) (h1 : i ≤ 100) : PySem.intText? (num i) = some i :=
  of_decide_eq_true (small_all (p := fun i => decide (PySem.intText? (num i) = some i)) (by decide +kernel) h0 h1)
theorem num_inj {i j : Int} (h0 : -100 ≤ i) (h1 : i ≤ 100) (g0 : -100 ≤ j) (g1 : j ≤ 100) (e : num i = num j) : i = j := by
  have a := num_int h0 h1
  rw [e, num_int g0 g1] at a
  exact (Option.some.inj a).symm
theorem spot_space {z : Str} (hz : NameOk z) {k : Int} (h0 : -100 ≤ k) (h1 : k ≤ 100) {c : Nat} (hc : c = 32 ∨ c = 10) : c ∉ TL.tl (spot z k) := by
  have hn := hz.no (c := c) (by omega)
  have hk : c ∉ TL.tl (num k) := by
    rcases hc with rfl | rfl
    · exact (num_space h0 h1).1
    · exact (num_space h0 h1).2
  unfold spot
  rw [TL.tl_append, TL.tl_append]
  intro hm
  rcases List.mem_append.mp hm with hm | hm
  · rcases List.mem_append.mp hm with hm | hm
    · exact hn hm
    · split at hm
      · rw [TL.tl_append] at hm
        rcases List.mem_append.mp hm with hm | hm
        · rcases hc with rfl | rfl <;> exact absurd hm (by decide +kernel)
        · exact hk hm
      · cases hm
  · split at hm
    · exact hk hm
    · cases hm
theorem spot_inj {z y : Str} (hz : NameOk z) (hy : NameOk y) {k e : Int} (k0 : -30 ≤ k) (k1 : k ≤ 30) (e0 : -30 ≤ e) (e1 : e ≤ 30) (h : spot z k = spot y e) : z = y ∧ k = e := by
  have a := spot_sign hz (k := k) (by omega) (by omega)
  have b := spot_sign hy (k := e) (by omega) (by omega)
  rw [h, b] at a
  have sg : sgn k = sgn e := by
    unfold sgn
    have := decide_eq_decide.mp a
    by_cases kp : 0 < k
    · rw [if_pos kp, if_pos (this.mpr kp)]
    · rw [if_neg kp, if_neg (fun x => kp (this.mp x))]
  have p1 := spot_parts hz (k := k) (by omega) (by omega)
  have p2 := spot_parts hy (k := e) (by omega) (by omega)
  rw [h, sg, p2] at p1
  have q1 := (Prod.mk.inj p1).1
  have q2 := (Prod.mk.inj (Prod.mk.inj p1).2).1
  have q3 := (Prod.mk.inj (Prod.mk.inj p1).2).2
  refine ⟨q1.symm, ?_⟩
  have sne : ∀ k : Int, sgn k ≠ "" := fun k => by
    unfold sgn
    split <;> decide
  by_cases ke : k = 0
  · by_cases ee : e = 0
    · rw [ke, ee]
    · rw [if_neg ee, if_pos ke] at q2
      exact absurd q2 (sne e)
  · by_cases ee : e = 0
    · rw [if_pos ee, if_neg ke] at q2
      exact absurd q2.symm (fun x => sne e x)
    · rw [if_neg ee, if_neg ke] at q3
      have abk : 0 ≤ ab k ∧ ab k ≤ 30 ∧ (0 < k → ab k = k) ∧ (¬ 0 < k → ab k = -k) := by
        unfold ab
        split <;> omega
      have abe : 0 ≤ ab e ∧ ab e ≤ 30 ∧ (0 < e → ab e = e) ∧ (¬ 0 < e → ab e = -e) := by
        unfold ab
        split <;> omega
      have n := num_inj (by omega) (by omega) (by omega) (by omega) q3
      have d := decide_eq_decide.mp a
      by_cases kp : 0 < k
      · have := abk.2.2.1 kp
        have := abe.2.2.1 (d.mpr kp)
        omega
      · have := abk.2.2.2 kp
        have := abe.2.2.2 (fun x => kp (d.mp x))
        omega
theorem FD.nosp {ps : List Str} (hp : ∀ z ∈ ps, NameOk z) {c : Nat} (hc : c = 32 ∨ c = 10) : ∀ {f : FD}, f.Ok ps → ∀ w ∈ f.words, c ∉ TL.tl w := by
  have lit : ∀ w ∈ (["by", "to", "apart", "from", "upto", "is"] : List Str), c ∉ TL.tl w := by
    rcases hc with rfl | rfl <;> decide +kernel
  have nn : ∀ {i : Int}, -100 ≤ i → i ≤ 100 → c ∉ TL.tl (num i) := fun h0 h1 => by
    rcases hc with rfl | rfl
    · exact (num_space h0 h1).1
    · exact (num_space h0 h1).2
  have nz : ∀ z ∈ ps, c ∉ TL.tl z := fun z hz => (hp z hz).no (by omega)
  intro f ok w hw
  cases f with
  | by_ a m r =>
    obtain ⟨h, g⟩ := ok
    have s := g.small
    simp only [FD.words, List.mem_cons, List.not_mem_nil, or_false] at hw
    rcases hw with rfl | rfl | rfl | rfl
    · exact nz _ h
    · exact lit _ (by decide)
    · exact nn s.1.1 s.1.2
    · exact nn s.2.1 s.2.2
  | gap a b m r =>
    obtain ⟨h, h2, _, g⟩ := ok
    have s := g.small
    simp only [FD.words, List.mem_cons, List.not_mem_nil, or_false] at hw
    rcases hw with rfl | rfl | rfl | rfl | rfl | rfl
    · exact nz _ h
    · exact lit _ (by decide)
    · exact nz _ h2
    · exact lit _ (by decide)
    · exact nn s.1.1 s.1.2
    · exact nn s.2.1 s.2.2
  | apart a k n b e c2 =>
    obtain ⟨h, h2, _, o1, m1, o2, m2⟩ := ok
    obtain ⟨o11, o12⟩ := o1
    obtain ⟨m11, m12⟩ := m1
    obtain ⟨o21, o22⟩ := o2
    obtain ⟨m21, m22⟩ := m2
    simp only [FD.words, List.mem_cons, List.not_mem_nil, or_false] at hw
    rcases hw with rfl | rfl | rfl | rfl | rfl
    · exact lit _ (by decide)
    · exact spot_space (hp _ h) (by omega) (by omega) hc
    · exact nn (by omega) (by omega)
    · exact spot_space (hp _ h2) (by omega) (by omega) hc
    · exact nn (by omega) (by omega)
  | dist v a b n =>
    obtain ⟨hv, h, h2, _, n0, n1⟩ := ok
    simp only [FD.words, List.mem_cons, List.not_mem_nil, or_false] at hw
    rcases hw with rfl | rfl | rfl | rfl | rfl
    · exact nz _ h
    · exact lit _ (by decide)
    · exact nz _ h2
    · simp only [Sorts, List.mem_cons, List.not_mem_nil, or_false] at hv
      rcases hv with rfl | rfl | rfl <;> exact lit _ (by decide)
    · exact nn (by omega) (by omega)
theorem FD.split {ps : List Str} (hp : ∀ z ∈ ps, NameOk z) {f : FD} (ok : f.Ok ps) : Txt.split f.text " " = f.words :=
  TL.split_join (s := 32) (S := []) rfl (by decide +kernel) (by cases f <;> exact fun e => by cases e) (FD.nosp hp (.inl rfl) ok)
theorem FD.words_inj {ps : List Str} (hp : ∀ z ∈ ps, NameOk z) {f g : FD} (okf : f.Ok ps) (okg : g.Ok ps) (e : f.words = g.words) : f = g := by
  have noap : ∀ z ∈ ps, z ≠ "apart" := fun z hz x => (hp z hz).free (x ▸ by decide +kernel)
  cases f with
  | by_ a m r =>
    cases g with
    | by_ a2 m2 r2 =>
      obtain ⟨_, h1⟩ := okf
      obtain ⟨_, h2⟩ := okg
      have s1 := h1.small
      have s2 := h2.small
      simp only [FD.words, List.cons.injEq, and_true, true_and] at e
      obtain ⟨e1, e2, e3⟩ := e
      rw [e1, num_inj s1.1.1 s1.1.2 s2.1.1 s2.1.2 e2, num_inj s1.2.1 s1.2.2 s2.2.1 s2.2.2 e3]
    | gap => simp [FD.words] at e
    | apart => simp [FD.words] at e
    | dist => simp [FD.words] at e
  | gap a b m r =>
    cases g with
    | gap a2 b2 m2 r2 =>
      obtain ⟨_, _, _, h1⟩ := okf
      obtain ⟨_, _, _, h2⟩ := okg
      have s1 := h1.small
      have s2 := h2.small
      simp only [FD.words, List.cons.injEq, and_true, true_and] at e
      obtain ⟨e0, e1, e2, e3⟩ := e
      rw [e0, e1, num_inj s1.1.1 s1.1.2 s2.1.1 s2.1.2 e2, num_inj s1.2.1 s1.2.2 s2.2.1 s2.2.2 e3]
    | by_ => simp [FD.words] at e
    | apart => simp [FD.words] at e
    | dist => simp [FD.words] at e
  | apart a k n b j c =>
    cases g with
    | apart a2 k2 n2 b2 j2 c2 =>
      obtain ⟨h1, h2, _, ⟨o1, o2⟩, ⟨o3, o4⟩, ⟨o5, o6⟩, ⟨o7, o8⟩⟩ := okf
      obtain ⟨g1, g2, _, ⟨p1, p2⟩, ⟨p3, p4⟩, ⟨p5, p6⟩, ⟨p7, p8⟩⟩ := okg
      simp only [FD.words, List.cons.injEq, and_true, true_and] at e
      obtain ⟨e0, e1, e2, e3⟩ := e
      obtain ⟨x1, x2⟩ := spot_inj (hp _ h1) (hp _ g1) o1 o2 p1 p2 e0
      obtain ⟨x3, x4⟩ := spot_inj (hp _ h2) (hp _ g2) o5 o6 p5 p6 e2
      rw [x1, x2, x3, x4, num_inj (by omega) (by omega) (by omega) (by omega) e1, num_inj (by omega) (by omega) (by omega) (by omega) e3]
    | by_ => simp [FD.words] at e
    | gap => simp [FD.words] at e
    | dist v a2 b2 n2 =>
      simp only [FD.words, List.cons.injEq] at e
      exact absurd e.1.symm (noap _ okg.2.1)
  | dist v a b n =>
    cases g with
    | dist v2 a2 b2 n2 =>
      obtain ⟨_, _, _, _, n0, n1⟩ := okf
      obtain ⟨_, _, _, _, m0, m1⟩ := okg
      simp only [FD.words, List.cons.injEq, and_true, true_and] at e
      obtain ⟨e0, e1, e2, e3⟩ := e
      rw [e0, e1, e2, num_inj (by omega) (by omega) (by omega) (by omega) e3]
    | by_ => simp [FD.words] at e
    | gap => simp [FD.words] at e
    | apart a2 k2 n2 b2 j2 c2 =>
      simp only [FD.words, List.cons.injEq] at e
      exact absurd e.1 (noap _ okf.2.1)
theorem FD.text_inj {ps : List Str} (hp : ∀ z ∈ ps, NameOk z) {f g : FD} (okf : f.Ok ps) (okg : g.Ok ps) (e : f.text = g.text) : f = g := by
  refine FD.words_inj hp okf okg ?_
  rw [← FD.split hp okf, ← FD.split hp okg, e]
theorem joinL_mem {S : List Nat} {c : Nat} : ∀ {ps : List (List Nat)}, c ∈ TL.joinL S ps → c ∈ S ∨ ∃ p ∈ ps, c ∈ p
  | [], h => by cases h
  | [p], h => .inr ⟨p, List.mem_cons_self, by simpa [TL.joinL] using h⟩
  | p :: q :: r, h => by
    have e : TL.joinL S (p :: q :: r) = p ++ (S ++ TL.joinL S (q :: r)) := by
      first | rfl | simp [TL.joinL]
    rw [e] at h
    rcases List.mem_append.mp h with x | x
    · exact .inr ⟨p, List.mem_cons_self, x⟩
    · rcases List.mem_append.mp x with y | y
      · exact .inl y
      · rcases joinL_mem y with z | ⟨w, hw, hc⟩
        · exact .inl z
        · exact .inr ⟨w, List.mem_cons_of_mem _ hw, hc⟩
theorem FD.line_ok {ps : List Str} (hp : ∀ z ∈ ps, NameOk z) {f : FD} (ok : f.Ok ps) : 1 ≤ f.text.length ∧ 10 ∉ TL.tl f.text := by
  refine ⟨?_, fun hm => ?_⟩
  · unfold FD.text
    rw [TL.join_eq, TL.len_tl, TL.tl_join]
    have two : ∃ p q r, f.words = p :: q :: r := by cases f <;> exact ⟨_, _, _, rfl⟩
    obtain ⟨p, q, r, e⟩ := two
    rw [e]
    have e2 : TL.joinL (TL.tl " ") ((p :: q :: r).map TL.tl) = TL.tl p ++ (TL.tl " " ++ TL.joinL (TL.tl " ") ((q :: r).map TL.tl)) := by
      first | rfl | simp [TL.joinL]
    rw [e2, List.length_append, List.length_append]
    have : (TL.tl " ").length = 1 := rfl
    omega
  · unfold FD.text at hm
    rw [TL.join_eq, TL.tl_join] at hm
    rcases joinL_mem hm with h | ⟨p, h, hc⟩
    · exact absurd h (by decide +kernel)
    · obtain ⟨w, hw, rfl⟩ := List.mem_map.mp h
      exact FD.nosp hp (.inr rfl) ok w hw hc
end CF
end
section
set_option Elab.async false
set_option linter.all false
set_option maxRecDepth 100000
set_option maxHeartbeats 4000000
namespace PL
open PySem PySem.Spec PyProof.Rows L2
/-! the lines of programs -/
def ranges : List (Str × Int × Int) := [("wide", 1, 8), ("many", 1, 16), ("index", 0, 15), ("cell", 0, 255), ("jump", -30, 30), ("laps", 1, 5), ("chunk", 1, 8)]
def forms : List (Str × Str) := [("input", "name wide"), ("load", "name chunk spot"), ("store", "name spot"), ("join", "name name name"), ("part", "name name index many"), ("each", "name name"), ("copy", "many from spot to spot"),
  ("up", "many from spot to spot"), ("down", "many from spot to spot"), ("fill", "many name spot"), ("step", "pointer jump"), ("times", "laps"), ("else", ""), ("end", "")]
def useds : List (Str × Int × Int) := [("store", 0, 1), ("each", 1, 2), ("fill", 1, 2), ("give", 0, 4), ("join", 1, 3), ("part", 1, 2)]
def Opening : List Str := ["when", "times"]
def Setting : List Str := ["input", "load", "set", "join", "part"]
def Copying : List Str := ["copy", "up", "down"]
def Fixed : List Str := ["from", "to"]
/-- a word behind the first one -/
inductive Wd
  | name (z : Str)
  | spot (z : Str) (k : Int)
  | ptr (z : Str)
  | fix (z : Str)
  | num (kd : Str) (n : Int)
namespace Wd
def kind : Wd → Str
  | name _ => "name"
  | spot _ _ => "spot"
  | ptr _ => "pointer"
  | fix z => z
  | num kd _ => kd
def text : Wd → Str
  | name z => z
  | spot z k => CF.spot z k
  | ptr z => z
  | fix z => z
  | num _ n => CF.num n
def Ok (ps : List Str) : Wd → Prop
  | name z => CF.NameOk z
  | spot z k => z ∈ ps ∧ -30 ≤ k ∧ k ≤ 30
  | ptr z => z ∈ ps
  | fix z => z ∈ Fixed
  | num kd n => -100 ≤ n ∧ n ≤ 100 ∧ (∃ lo hi, (kd, lo, hi) ∈ ranges ∧ lo ≤ n ∧ n ≤ hi) ∧ (kd = "chunk" → n = 1 ∨ n = 2 ∨ n = 4 ∨ n = 8)
end Wd
/-- what such a word tells -/
def Val (H : Hp) (ps : List Str) : Wd → V → Prop
  | .name z, v => v = .str z
  | .spot z k, v => ∃ (r : Addr) (i : Nat), v = .ref r ∧ ps[i]? = some z ∧ H r = some (.tup [.int (i : Nat), .int k])
  | .ptr z, v => ∃ i : Nat, ps[i]? = some z ∧ v = .int (i : Nat)
  | .fix z, v => v = .str z
  | .num _ n, v => v = .int n
theorem Val.same {H H' : Hp} {ps : List Str} {d : Wd} {v : V} (h : Val H ps d v) (s : Same H H') : Val H' ps d v := by
  cases d with
  | spot z k => obtain ⟨r, i, a, b, c⟩ := h; exact ⟨r, i, a, b, s _ _ c⟩
  | _ => exact h
theorem Val.not_none {H : Hp} {ps : List Str} {d : Wd} {v : V} (h : Val H ps d v) : v ≠ .non := by
  cases d with
  | spot z k => obtain ⟨r, i, a, b, c⟩ := h; rw [a]; exact fun z => by cases z
  | ptr z => obtain ⟨i, a, b⟩ := h; rw [b]; exact fun z => by cases z
  | name z => rw [show v = .str z from h]; exact fun z => by cases z
  | fix z => rw [show v = .str z from h]; exact fun z => by cases z
  | num k n => rw [show v = .int n from h]; exact fun z => by cases z
/-- the kinds behind a first word -/
inductive Kinds : Str → List Str → Prop
  | form {w f : Str} (h : (w, f) ∈ forms) : Kinds w (Txt.words f)
  | set (n : Nat) (h1 : 1 ≤ n) (h2 : n ≤ 8) : Kinds "set" ("name" :: List.replicate n "cell")
  | give (n : Nat) (h1 : 1 ≤ n) (h2 : n ≤ 4) : Kinds "give" (List.replicate n "name")
/-- a line that is neither when nor call -/
structure Ln where
  w : Str
  ds : List Wd
namespace Ln
def words (l : Ln) : List Str := l.w :: l.ds.map Wd.text
def text (l : Ln) : Str := Txt.join " " l.words
structure Ok (ps : List Str) (l : Ln) : Prop where
  kinds : Kinds l.w (l.ds.map Wd.kind)
  ds : ∀ d ∈ l.ds, d.Ok ps
/-- the words that are told -/
def told (l : Ln) : List Wd := l.ds.filter fun d => match d with | .fix _ => false | _ => true
end Ln
/-- what a line is read as: the word and the tuple of what is told -/
structure RowAt (H : Hp) (ps : List Str) (l : Ln) (r : Addr) : Prop where
  ex : ∃ (t : Addr) (vs : List V), H r = some (.tup [.str l.w, .ref t]) ∧ H t = some (.tup vs) ∧ Paired (Val H ps) l.told vs
theorem paired_same {H H' : Hp} {ps : List Str} (s : Same H H') : ∀ {ds : List Wd} {vs : List V}, Paired (Val H ps) ds vs → Paired (Val H' ps) ds vs
  | _, _, .nil => .nil
  | _, _, .cons r t => .cons (Val.same r s) (paired_same s t)
theorem RowAt.same {H H' : Hp} {ps : List Str} {l : Ln} {r : Addr} (h : RowAt H ps l r) (s : Same H H') : RowAt H' ps l r := by
  obtain ⟨t, vs, a, b, c⟩ := h.ex
  exact ⟨t, vs, s _ _ a, s _ _ b, paired_same s c⟩
/-- what the program's own names are -/
structure TxtQ (K : PySem.W.Frag) (w : World) (mg : Str → Option Value) : Prop where
  f_zip : mg "zip" = none
  f_any : mg "any" = none
  f_all : mg "all" = none
  f_min : mg "min" = none
  f_max : mg "max" = none
  f_len : mg "len" = none
  f_range : mg "range" = none
  f_tuple : mg "tuple" = none
  f_list : mg "list" = none
  f_enumerate : mg "enumerate" = none
  c_MOST_SET : ∃ t, mg "MOST_SET" = some (.int 8 t)
  c_MOST_GIVEN : ∃ t, mg "MOST_GIVEN" = some (.int 4 t)
  c_MOST_LINES : ∃ t, mg "MOST_LINES" = some (.int 40 t)
  c_MOST_OPEN : ∃ t, mg "MOST_OPEN" = some (.int 5 t)
  c_WIDEST : ∃ t, mg "WIDEST" = some (.int 16 t)
  c_MOST_TIMES : ∃ t, mg "MOST_TIMES" = some (.int 5 t)
  g_RANGES : mg "RANGES" = some (.ref (He.ga K "RANGES"))
  d_RANGES : ∃ es n, KDict K w (He.ga K "RANGES") es n
  v_RANGES : ∀ kd lo hi, (kd, lo, hi) ∈ ranges → ∃ t, PySem.W.nsIn K (He.ga K "RANGES") kd = some (some (.ref t)) ∧ ∀ H : Hp, SqT K H t [.int lo, .int hi]
  g_FORMS : mg "FORMS" = some (.ref (He.ga K "FORMS"))
  d_FORMS : ∃ es n, KDict K w (He.ga K "FORMS") es n
  v_FORMS : ∀ x f, (x, f) ∈ forms → ∃ t, PySem.W.nsIn K (He.ga K "FORMS") x = some (some (.str f t))
  g_USED : mg "USED" = some (.ref (He.ga K "USED"))
  d_USED : ∃ es n, KDict K w (He.ga K "USED") es n
  v_USED : ∀ x lo hi, (x, lo, hi) ∈ useds → ∃ t, PySem.W.nsIn K (He.ga K "USED") x = some (some (.ref t)) ∧ ∀ H : Hp, SqT K H t [.int lo, .int hi]
  n_USED : ∀ x ∈ (["input", "load", "set", "copy", "up", "down", "step"] : List Str), PySem.W.nsIn K (He.ga K "USED") x = some none
  g_OPENING : mg "OPENING" = some (.ref (He.ga K "OPENING"))
  t_OPENING : ∀ H : Hp, SqT K H (He.ga K "OPENING") (Opening.map V.str)
  g_SETTING : mg "SETTING" = some (.ref (He.ga K "SETTING"))
  t_SETTING : ∀ H : Hp, SqT K H (He.ga K "SETTING") (Setting.map V.str)
  g_COPYING : mg "COPYING" = some (.ref (He.ga K "COPYING"))
  t_COPYING : ∀ H : Hp, SqT K H (He.ga K "COPYING") (Copying.map V.str)
  g_FIXED : mg "FIXED" = some (.ref (He.ga K "FIXED"))
  t_FIXED : ∀ H : Hp, SqT K H (He.ga K "FIXED") (Fixed.map V.str)
  g_CHUNKS : mg "CHUNKS" = some (.ref (He.ga K "CHUNKS"))
  t_CHUNKS : ∀ H : Hp, SqT K H (He.ga K "CHUNKS") [.int 1, .int 2, .int 4, .int 8]
theorem pe_never {X : Cx} {e : Expr} : PE X e (fun _ _ _ => False) := ⟨fun _ _ _ _ _ _ h => h.elim⟩
theorem kdct {K : PySem.W.Frag} {w : World} {d : Addr} {x : Str} {u : Value} {v : V} (h : ∃ es n, KDict K w d es n) (e : PySem.W.nsIn K d x = some (some u)) (r : RelV v u) : KDct K w d x v := by
  obtain ⟨es, n, D⟩ := h
  exact ⟨es, n, u, D.at_, D.lit, e, r⟩
end PL
namespace PL
open PySem PySem.Spec PyProof.Rows L2
/-- whether a line may stand behind another one in open blocks (no else among them) -/
def stand (word before : Str) (around : List Str) : Bool :=
  if before = "give" then false else if word = "input" then decide (before = "input") else if word = "give" then around.isEmpty else if word = "end" then !around.isEmpty else !decide (word ∈ Opening) || decide (around.length < 5)
def push (word : Str) (around : List Str) : List Str := if word ∈ Opening then around ++ [word] else if word = "end" then around.dropLast else around
def placed : List Str → Str → List Str → Option (List Str)
  | [], _, ar => some ar
  | w :: ws, b, ar => if stand w b ar = true then placed ws w (push w ar) else none
def lastW : Str → List Str → Str
  | b, [] => b
  | _, w :: ws => lastW w ws
theorem lastW_snoc {w : Str} : ∀ (b : Str) (ws : List Str), lastW b (ws ++ [w]) = w
  | _, [] => rfl
  | _, x :: ws => lastW_snoc x ws
theorem placed_append {ys : List Str} : ∀ (xs : List Str) (b : Str) (ar : List Str), placed (xs ++ ys) b ar = (placed xs b ar).bind fun ar' => placed ys (lastW b xs) ar'
  | [], _, _ => rfl
  | x :: xs, b, ar => by
    show (if stand x b ar = true then placed (xs ++ ys) x (push x ar) else none) = ((if stand x b ar = true then placed xs x (push x ar) else none)).bind _
    by_cases h : stand x b ar = true
    · rw [if_pos h, if_pos h, placed_append xs]
      rfl
    · rw [if_neg h, if_neg h]
      rfl
theorem placed_at {ws : List Str} {b : Str} {ar z : List Str} (h : placed ws b ar = some z) {i : Nat} {w : Str} (hw : ws[i]? = some w) :
    ∃ ar', placed (ws.take i) b ar = some ar' ∧ stand w (lastW b (ws.take i)) ar' = true ∧ placed (ws.take (i + 1)) b ar = some (push w ar') := by
  have e : ws = ws.take i ++ w :: ws.drop (i + 1) := by
    have h1 := (List.take_append_drop i ws).symm
    have h2 : ws.drop i = w :: ws.drop (i + 1) := by
      have hi := (List.getElem?_eq_some_iff.mp hw)
      obtain ⟨hi, e⟩ := hi
      rw [List.drop_eq_getElem_cons hi, e]
    rw [h2] at h1
    exact h1
  rw [e, placed_append] at h
  cases q : placed (ws.take i) b ar with
  | none => rw [q] at h; cases h
  | some ar' =>
    rw [q] at h
    have h3 : (if stand w (lastW b (ws.take i)) ar' = true then placed (ws.drop (i + 1)) w (push w ar') else none) = some z := h
    by_cases hs : stand w (lastW b (ws.take i)) ar' = true
    · refine ⟨ar', rfl, hs, ?_⟩
      have e2 : ws.take (i + 1) = ws.take i ++ [w] := by rw [List.take_add_one, hw]; rfl
      rw [e2, placed_append, q]
      show (if stand w (lastW b (ws.take i)) ar' = true then placed [] w (push w ar') else none) = _
      rw [if_pos hs]
      rfl
    · rw [if_neg hs] at h3
      cases h3
theorem push_len (w : Str) (ar : List Str) : (push w ar).length ≤ ar.length + 1 := by
  unfold push
  split
  · rw [List.length_append, List.length_singleton]; omega
  · split
    · rw [List.length_dropLast]; omega
    · omega
theorem placed_len : ∀ {ws : List Str} {b : Str} {ar z : List Str}, placed ws b ar = some z → z.length ≤ ar.length + ws.length
  | [], _, _, _, h => by
    cases h
    exact Nat.le_refl _
  | w :: ws, b, ar, z, h => by
    have h3 : (if stand w b ar = true then placed ws w (push w ar) else none) = some z := h
    by_cases hs : stand w b ar = true
    · rw [if_pos hs] at h3
      have := placed_len h3
      have := push_len w ar
      rw [List.length_cons]
      omega
    · rw [if_neg hs] at h3
      cases h3
end PL
end
section
set_option Elab.async false
set_option linter.all false
set_option maxRecDepth 100000
set_option maxHeartbeats 4000000
namespace K18
open PySem.W (ke_shaped_ints)
open PySem PySem.Spec PyProof.Rows L2
def topS (i : Nat) : Stmt := PySem.Challenge.pw_partlymet_k18_put_together_refused.main.body.getD i (.Pass ⟨0, 0, 0, 0⟩)
structure Txt (mg : Str → Option Value) : Prop where
  f_int : mg "int" = none
  f_len : mg "len" = none
  f_abs : mg "abs" = none
  f_list : mg "list" = none
  f_range : mg "range" = none
  f_tuple : mg "tuple" = none
  f_isinstance : mg "isinstance" = none
  f_str : mg "str" = none
  f_bool : mg "bool" = none
  f_max : mg "max" = none
  f_sum : mg "sum" = none
section
variable {P : Program} {w : World} {K : PySem.W.Frag} {mg : Str → Option Value} {base : Heap}
abbrev s_draw : Stmt := topS 114
theorem sc_draw : FnScope ["pen", "span", "digit", "turn", "cell", "mixed"] ["pen", "span"] (defScope s_draw) := ⟨rfl, rfl, rfl, by decide +kernel, rfl, by decide +kernel, by decide +kernel⟩

theorem pen_left (l : Addr) (t lf x : Int) : putK (penV l t lf) (Sum.inr "left" : Key) (.int x) = penV l t x := rfl
theorem pen_turn (l : Addr) (t lf x : Int) : putK (penV l t lf) (Sum.inr "turn" : Key) (.int x) = penV l x lf := rfl
theorem pen_size (l : Addr) (t lf : Int) : (penV l t lf).length < sizeLine := by
  show 3 < sizeLine
  decide
theorem mod_of {a b : Int} (h : 0 < b) : 0 ≤ a % b ∧ a % b < b := ⟨Int.emod_nonneg _ (by omega), Int.emod_lt_of_pos _ h⟩
theorem div_of {a b : Int} (h : 0 < b) (ha : 0 ≤ a) : 0 ≤ a / b := Int.ediv_nonneg ha (by omega)
theorem wide_span {i j : Int} (h : 0 < j) (hb : j.natAbs < 2 ^ 250) : CDivW i j := wide_div h hb (by decide) (by decide)
theorem dps_ints (K : PySem.W.Frag) (H : Hp) : ∀ ns : List Int, DpAll K H (ns.map V.int) (ns.map PyData.int)
  | [] => .nil
  | i :: r => .cons (.int i) (dps_ints K H r)
theorem at_ints {ns : List Int} {i : Int} (h : 0 ≤ i ∧ i < ((ns.map V.int).length : Int)) : ∃ c, atI (ns.map V.int) i = some (V.int c) := by
  have hj : i.toNat < ns.length := by
    have := h.2
    rw [List.length_map] at this
    omega
  exact ⟨ns[i.toNat], at_of (j := i.toNat) (by omega) (by rw [List.getElem?_map, List.getElem?_eq_getElem hj]; rfl)⟩
theorem ten18 : CPow 10 18 := ⟨by decide, by decide, by decide⟩
theorem abs_nn (i : Int) : 0 ≤ (if i < 0 then -i else i) := by split <;> omega
local macro_rules | `(tactic| walk_at "go") => `(tactic| first | refine ⟨_, rfl, ?_⟩ | refine .inl ⟨_, rfl, ?_⟩ | refine ⟨_, _, rfl, rfl, (by first | (show (0 : Int) < _; decide) | exact Or.inl ⟨by decide, by decide⟩ | exact Or.inr ⟨by decide, by decide⟩), ?_⟩ | refine ⟨_, _, rfl, rfl, ?_⟩)
theorem ok_draw (T : Txt mg) (D : Def K mg "_law_draw" s_draw) : Cal P w K mg base 1 "_law_draw" ["pen", "span"] spDraw := by
  refine D.cal sc_draw (fun vs H Q E h => ?_) (fun _ _ _ _ _ _ us hl => match us, hl with | [_, _], _ => rfl) (fun f cdv A outer s H vs Q E hr h => ?_)
  · obtain ⟨p, l, t, span, rfl, _⟩ := h
    rfl
  obtain ⟨p, l, t, span, rfl, pen, ht, hs, hz, k⟩ := h
  have hlp := pen.ne
  obtain ⟨⟨ns, lf, hp, hl, hlf⟩, h0⟩ := id pen
  have hu := hu_of hr
  refine ⟨_, (pss_cons (ps_if (pt_cmpR op_gt (pe_dget hu (pv 0) pe_str (fun _ _ => rfl)) pe_int (nomark _)) (pss_cons (ps_set (i := 2) sc_draw.nd rfl (by first | exact Or.inl rfl | exact Or.inr rfl) (pe_op op_mod (pe_callTy call_int1 (by rfl) T.f_int (by decide +kernel) (pa_cons (pe_dget hu (pv 0) pe_str (fun _ _ => rfl)) pa_nil)) (pv 1)))
      (pss_cons (ps_dput hu (pv 0) pe_str (pe_op op_fdivW (pe_dget hu (pv 0) pe_str (fun _ _ => rfl)) (pv 1)) rfl)
      (pss_one (ps_ret (pv 2))))) pss_nil)
      (pss_cons (ps_set (i := 3) sc_draw.nd rfl (by first | exact Or.inl rfl | exact Or.inr rfl) (pe_dget hu (pv 0) pe_str (fun _ _ => rfl)))
      (pss_cons (ps_dput hu (pv 0) pe_str (pe_op op_add (pv 3) pe_int) rfl)
      (pss_cons (ps_set (i := 4) sc_draw.nd rfl (by first | exact Or.inl rfl | exact Or.inr rfl) (pe_op op_add (pe_op op_mul pe_int (pv 3)) pe_int))
      (C8.pss_cut (ps_if (pt_cmpR (op_neD hr.units) (pe_dget hu (pv 0) pe_str (fun _ _ => rfl)) (pe_lst pa_nil) (nomark _)) (pss_one (ps_set (i := 4) sc_draw.nd rfl (by first | exact Or.inl rfl | exact Or.inr rfl) (pe_ix ix_list (pe_dget hu (pv 0) pe_str (fun _ _ => rfl)) (pe_op op_mod (pe_callTy call_int1 (by rfl) T.f_int (by decide +kernel) (pa_cons (pv 3) pa_nil)) (pe_callB call_len (by rfl) T.f_len PySem.boot_len (pa_cons (pe_dget hu (pv 0) pe_str (fun _ _ => rfl)) pa_nil))) (fun _ _ => rfl)))) pss_nil)
      (C8.pss_cut (ps_if (PW.pt (pw_and (pt_cmpR op_lt (pv 3) (pe_callB call_len (by rfl) T.f_len PySem.boot_len (pa_cons (pe_dget hu (pv 0) pe_str (fun _ _ => rfl)) pa_nil)) (nomark _)) (pw_and1 (pt_cmpR op_ge (pe_callB call_abs (by rfl) T.f_abs (by decide +kernel) (pa_cons (pv 4) pa_nil)) (pe_op op_pow pe_int pe_int) (nomark _))))) (pss_cons (ps_dput hu (pv 0) pe_str (pe_op op_fdivW (pe_op op_sub (pe_callB call_abs (by rfl) T.f_abs (by decide +kernel) (pa_cons (pv 4) pa_nil)) (pe_op op_pow pe_int pe_int)) (pv 1)) rfl)
      (pss_one (ps_ret (pe_op op_mod (pe_callTy call_int1 (by rfl) T.f_int (by decide +kernel) (pa_cons (pe_op op_sub (pe_callB call_abs (by rfl) T.f_abs (by decide +kernel) (pa_cons (pv 4) pa_nil)) (pe_op op_pow pe_int pe_int)) pa_nil)) (pv 1))))) pss_nil)
      (pss_cons (ps_set (i := 5) sc_draw.nd rfl (by first | exact Or.inl rfl | exact Or.inr rfl) (pe_op op_mul (pe_op op_mod (pe_callTy call_int1 (by rfl) T.f_int (by decide +kernel) (pa_cons (pv 4) pa_nil)) pe_int) pe_int))
      (pss_cons (ps_set (i := 5) sc_draw.nd rfl (by first | exact Or.inl rfl | exact Or.inr rfl) (pe_op op_mod (pe_callTy call_int1 (by rfl) T.f_int (by decide +kernel) (pa_cons (pe_op op_add (pe_op op_add (pv 5) (pe_op op_mul (pv 3) (pe_op op_add (pe_op op_mul (pv 3) pe_int) pe_int))) pe_int) pa_nil)) pe_int))
      (pss_cons (ps_set (i := 5) sc_draw.nd rfl (by first | exact Or.inl rfl | exact Or.inr rfl) (pe_op op_mod (pe_callTy call_int1 (by rfl) T.f_int (by decide +kernel) (pa_cons (pe_op op_mul (pv 5) (pe_op op_add (pv 5) pe_int)) pa_nil)) pe_int))
      (pss_cons (ps_set (i := 5) sc_draw.nd rfl (by first | exact Or.inl rfl | exact Or.inr rfl) (pe_op op_mod (pe_callTy call_int1 (by rfl) T.f_int (by decide +kernel) (pa_cons (pe_op op_add (pe_op op_add (pe_op op_mul (pv 5) (pv 5)) (pe_op op_mul pe_int (pv 5))) (pe_op op_mul pe_int (pv 3))) pa_nil)) pe_int))
      (pss_one (ps_ret (pe_op op_mod (pe_callTy call_int1 (by rfl) T.f_int (by decide +kernel) (pa_cons (pe_op op_fdivW (pe_op op_mod (pe_callTy call_int1 (by rfl) T.f_int (by decide +kernel) (pa_cons (pe_op op_mul (pv 5) (pe_op op_add (pv 5) pe_int)) pa_nil)) pe_int) pe_int) pa_nil)) (pv 1)))))))))))))), ?_⟩
  -- if pen['left'] > 0
  refine ⟨_, rfl, p, _, rfl, DGet.k (k := Sum.inr "left") hp, _, _, rfl, rfl, _, rfl, ?_⟩
  refine ite2 (fun c => ?_) (fun c => ?_)
  · have c1 : 0 < lf := of_decide_eq_true c
    have hm := mod_of (a := lf) hs
    refine ⟨_, rfl, p, _, rfl, DGet.k (k := Sum.inr "left") hp, .inl ⟨_, rfl, ?_⟩⟩
    refine ⟨_, rfl, _, _, rfl, rfl, hs, ?_⟩
    refine ⟨_, rfl, p, _, rfl, DGet.k (k := Sum.inr "left") hp, _, rfl, _, _, rfl, rfl, wide_span hs hz, _, rfl, p, _, rfl, DPut.k (k := Sum.inr "left") hp (pen_size _ _ _), ?_⟩
    rw [pen_left]
    refine ⟨_, rfl, k _ _ t hm.1 hm.2 ⟨⟨ns, _, upd_same, (upd_ne hlp).trans hl, div_of hs hlf⟩, h0⟩ (Int.le_refl _) (by omega) (But.upd H)⟩
  -- turn = pen['turn']; pen['turn'] = turn + 1; cell = ..
  refine ⟨_, rfl, p, _, rfl, DGet.k (k := Sum.inr "turn") hp, ?_⟩
  refine ⟨_, rfl, _, _, rfl, rfl, _, rfl, p, _, rfl, DPut.k (k := Sum.inr "turn") hp (pen_size _ _ _), ?_⟩
  rw [pen_turn]
  have hp1 : upd H p (.dK (penV l (t + 1) lf)) p = some (.dK (penV l (t + 1) lf)) := upd_same
  have hl1 : upd H p (.dK (penV l (t + 1) lf)) l = some (.lst (ns.map V.int)) := (upd_ne hlp).trans hl
  have b1 : But p H (upd H p (.dK (penV l (t + 1) lf))) := But.upd H
  generalize upd H p (.dK (penV l (t + 1) lf)) = H1 at hp1 hl1 b1 ⊢
  refine ⟨_, rfl, _, _, rfl, rfl, .inl ⟨by decide, by decide⟩, _, _, rfl, rfl, ?_⟩
  -- if pen['cells'] != []
  refine ⟨fun σ' H' => ∃ c : Int, σ' = [some (.ref p), some (.int span), none, some (.int t), some (.int c), none] ∧ H' p = some (.dK (penV l (t + 1) lf)) ∧ H' l = some (.lst (ns.map V.int)) ∧ But p H H', ?_, ?_⟩
  · refine ⟨_, rfl, p, _, rfl, DGet.k (k := Sum.inr "cells") hp1, Nat.zero_le _, fun e he => ?_⟩
    have hp2 := (upd_ne (o := .lst []) (ne_of_none hp1 he)).trans hp1
    have hl2 := (upd_ne (o := .lst []) (ne_of_none hl1 he)).trans hl1
    have b2 : But p H (upd H1 e (.lst [])) := fun c o n z => (Same.new he) c o (b1 c o n z)
    refine ⟨.list (ns.map PyData.int), .list [], .lst (SqL.of hl2) (dps_ints _ _ ns), .lst (SqL.of upd_same) .nil, ke_shaped_ints ns, ke_shaped_ints [], _, rfl, ?_⟩
    generalize upd H1 e (.lst []) = H2 at hp2 hl2 b2 ⊢
    refine ite2 (fun c1 => ?_) (fun c1 => ?_)
    · have hne : ns ≠ [] := by
        rintro rfl
        cases c1
      have hpos : (0 : Int) < ((ns.map V.int).length : Int) := by
        rw [List.length_map]
        have := List.length_pos_iff.mpr hne
        omega
      refine ⟨_, rfl, p, _, rfl, DGet.k (k := Sum.inr "cells") hp2, _, rfl, .inl ⟨_, rfl, ?_⟩⟩
      refine ⟨_, rfl, p, _, rfl, DGet.k (k := Sum.inr "cells") hp2, _, _, rfl, .inl ⟨_, SqL.of hl2, rfl⟩, ?_⟩
      refine ⟨_, _, rfl, rfl, hpos, ?_⟩
      obtain ⟨cell, hcell⟩ := at_ints (ns := ns) (i := t % ((ns.map V.int).length : Int)) (mod_of hpos)
      refine ⟨l, _, _, _, rfl, rfl, SqL.of hl2, hcell, ?_⟩
      exact ⟨cell, rfl, hp2, hl2, b2⟩
    · exact ⟨_, rfl, hp2, hl2, b2⟩
  rintro σ' H2 ⟨c, rfl, hp2, hl2, b2⟩
  -- if turn < len(..) and abs(cell) >= 10 ** 18
  refine ⟨fun σ' H' => σ' = [some (.ref p), some (.int span), none, some (.int t), some (.int c), none] ∧ H' p = some (.dK (penV l (t + 1) lf)) ∧ H' l = some (.lst (ns.map V.int)) ∧ But p H H', ?_, ?_⟩
  · refine ⟨_, rfl, _, rfl, p, _, rfl, DGet.k (k := Sum.inr "cells") hp2, _, _, rfl, .inl ⟨_, SqL.of hl2, rfl⟩, _, _, rfl, rfl, _, rfl, ?_⟩
    refine ite2 (fun _ => ?_) (fun _ => ⟨rfl, hp2, hl2, b2⟩)
    refine ⟨_, rfl, _, rfl, _, _, rfl, rfl, ten18, _, _, rfl, rfl, _, rfl, ?_⟩
    refine ite2 (fun big => ?_) (fun _ => ⟨rfl, hp2, hl2, b2⟩)
    have big' := of_decide_eq_true big
    have hd := mod_of (a := (if c < 0 then -c else c) - (10 : Int) ^ (18 : Int).toNat) hs
    refine ⟨_, rfl, _, rfl, _, _, rfl, rfl, ten18, _, _, rfl, rfl, _, rfl, _, _, rfl, rfl, wide_span hs hz, _, rfl, p, _, rfl, DPut.k (k := Sum.inr "left") hp2 (pen_size _ _ _), ?_⟩
    rw [pen_left]
    refine ⟨_, rfl, _, rfl, _, _, rfl, rfl, ten18, _, _, rfl, rfl, .inl ⟨_, rfl, _, rfl, _, _, rfl, rfl, hs, ?_⟩⟩
    exact k _ _ (t + 1) hd.1 hd.2 ⟨⟨ns, _, upd_same, (upd_ne hlp).trans hl2, div_of hs (by have : (10 : Int) ^ (18 : Int).toNat ≤ (if c < 0 then -c else c) := big'; omega)⟩, by omega⟩ (by omega) (by omega) (b2.trans (But.upd H2))
  rintro σ' H3 ⟨rfl, hp3, hl3, b3⟩
  have fin : Pen H3 p l (t + 1) := ⟨⟨ns, lf, hp3, hl3, hlf⟩, by omega⟩
  -- mixed = ..
  repeat walk_at "go"
  refine ⟨.inl ⟨by omega, by omega⟩, ?_⟩
  repeat walk_at "go"
  have m2 := mod_of (a := c % 4294967087 * 48611 + t * (t * 27919 + 10601) + 41) (b := 4294967029) (by decide)
  dsimp only
  generalize (c % 4294967087 * 48611 + t * (t * 27919 + 10601) + 41) % 4294967029 = m at m2 ⊢
  refine ⟨.inl ⟨by omega, by omega⟩, ?_⟩
  repeat walk_at "go"
  have m3 := mod_of (a := m * (m + 75013)) (b := 4294966997) (by decide)
  dsimp only
  generalize m * (m + 75013) % 4294966997 = n at m3 ⊢
  refine ⟨.inl ⟨by omega, by omega⟩, ?_⟩
  repeat walk_at "go"
  have m4 := mod_of (a := n * n + 30427 * n + 19 * t) (b := 4294966981) (by decide)
  dsimp only
  generalize (n * n + 30427 * n + 19 * t) % 4294966981 = o at m4 ⊢
  refine ⟨.inl ⟨by omega, by omega⟩, ?_⟩
  repeat walk_at "go"
  refine ⟨wide_span (by decide) (by decide), ?_⟩
  repeat walk_at "go"
  have m5 := mod_of (a := o * (o + 58111) % 4294966943 / 64) hs
  exact ⟨hs, k _ _ (t + 1) m5.1 m5.2 fin (by omega) (by omega) b3⟩
end
end K18
end
section
set_option Elab.async false
set_option linter.all false
set_option maxRecDepth 100000
set_option maxHeartbeats 4000000
namespace K18
open PySem PySem.Spec PyProof.Rows L2
open PySem.W (ke_shaped_ints)
local macro_rules | `(tactic| walk_at "go") => `(tactic| first | refine ⟨_, rfl, ?_⟩ | refine .inl ⟨_, rfl, ?_⟩ | refine ⟨_, _, rfl, rfl, (by first | (show (0 : Int) < _; decide) | exact Or.inl ⟨by decide, by decide⟩ | exact Or.inr ⟨by decide, by decide⟩), ?_⟩ | refine ⟨_, _, rfl, rfl, ?_⟩)
section
variable {P : Program} {w : World} {K : PySem.W.Frag} {mg : Str → Option Value} {base : Heap}

/-- begun_pen(script) -/
def spBegun (K : PySem.W.Frag) : Sp := fun vs H Q _ => ∃ (a : Addr) (ns : List Int), vs = [.ref a] ∧ SqL K H a (ns.map V.int) ∧ ∀ (p l : Addr) (H' : Hp), H p = none → H l = none → Same H H' → Pen H' p l 0 → Q (.ref p) H'
theorem cut_ints (ns : List Int) (lo hi : Option Int) : ∃ ms : List Int, cutV (ns.map V.int) lo hi = ms.map V.int :=
  ⟨(ns.drop (HT.sIx (ns.map V.int).length 0 lo)).take (HT.sIx (ns.map V.int).length (ns.map V.int).length hi - HT.sIx (ns.map V.int).length 0 lo), by
    unfold cutV
    rw [List.map_take, List.map_drop]⟩
abbrev s_begun_pen : Stmt := topS 113
theorem sc_begun_pen : FnScope ["script"] ["script"] (defScope s_begun_pen) := ⟨rfl, rfl, rfl, by decide +kernel, rfl, by decide +kernel, by decide +kernel⟩
theorem ok_begun_pen (T : Txt mg) (D : Def K mg "_law_begun_pen" s_begun_pen) : Cal P w K mg base 1 "_law_begun_pen" ["script"] (spBegun K) := by
  refine D.cal sc_begun_pen (fun vs H Q E h => ?_) (fun _ _ _ _ _ _ us hl => match us, hl with | [_], _ => rfl) (fun f cdv A outer s H vs Q E hr h => ?_)
  · obtain ⟨a, ns, rfl, _⟩ := h
    rfl

  obtain ⟨a, ns, rfl, hS, k⟩ := h
  refine ⟨_, (pss_one (ps_ret (pe_disp (pps_cons pe_str (pe_callTy call_list_of (by rfl) T.f_list (by decide +kernel) (pa_cons (pe_slice sl_list (pv 0) po_none (po_some pe_int)) pa_nil)) (pps_cons pe_str pe_int (pps_cons pe_str pe_int pps_nil))) (by rfl) (by rfl) (fun z => by cases z) (by decide)))), ?_⟩
  intro p hp
  refine ⟨_, rfl, 63, rfl, a, _, rfl, (Same.new hp).seq hS, fun q hq => ?_⟩
  refine ⟨q, _, rfl, .inl (SqL.of upd_same), fun l hl => ?_⟩
  obtain ⟨ms, hms⟩ := cut_ints ns none (some 63)
  rw [hms]
  have hqp : q ≠ p := fun z => by rw [z, upd_same] at hq; cases hq
  have hlq : l ≠ q := fun z => by rw [z, upd_same] at hl; cases hl
  have hlp : l ≠ p := fun z => by rw [z, upd_ne hqp.symm, upd_same] at hl; cases hl
  have hl0 : H l = none := by rw [upd_ne hlq, upd_ne hlp] at hl; exact hl
  have hq0 : H q = none := by rw [upd_ne hqp] at hq; exact hq
  refine ⟨by rw [upd_ne hlp.symm, upd_ne hqp.symm, upd_same], penV l 0 0, rfl, by show 3 ≤ 15; decide, ?_⟩
  refine k p l _ hp hl0 ((((Same.new hp).put hq0).put hl0).put hp) ⟨⟨ms, 0, upd_same, (upd_ne hlp).trans upd_same, Int.le_refl _⟩, Int.le_refl _⟩



/-- pick(pen, options): one of the options -/
def spPick (K : PySem.W.Frag) : Sp := fun vs H Q _ => ∃ (p l a : Addr) (t : Int) (xs : List V), vs = [.ref p, .ref a] ∧ Pen H p l t ∧ t ≤ 1000000000 ∧ a ≠ p ∧ (SqL K H a xs ∨ SqT K H a xs) ∧ 0 < xs.length ∧ xs.length ≤ 1000000 ∧
  ∀ (j : Nat) (v : V) (H' : Hp) (t' : Int), xs[j]? = some v → Pen H' p l t' → t ≤ t' → t' ≤ t + 1 → But p H H' → Q v H'
theorem small_span {n : Nat} (h : n ≤ 1000000) : ((n : Int)).natAbs < 2 ^ 250 := by
  have e : ((n : Int)).natAbs = n := Int.natAbs_natCast n
  rw [e]
  exact Nat.lt_of_le_of_lt h (by decide)
theorem _root_.L2.But.tup {K : PySem.W.Frag} {p a : Addr} {H H' : Hp} {xs : List V} (s : But p H H') (n : a ≠ p) (h : SqT K H a xs) : SqT K H' a xs := by
  rcases h with (h | ⟨o, h⟩) | h
  · exact .inl (.inl (s _ _ n h))
  · exact .inl (.inr ⟨o, s _ _ n h⟩)
  · exact .inr h
abbrev s_pick : Stmt := topS 115
theorem sc_pick : FnScope ["pen", "options"] ["pen", "options"] (defScope s_pick) := ⟨rfl, rfl, rfl, by decide +kernel, rfl, by decide +kernel, by decide +kernel⟩
theorem ok_pick (T : Txt mg) (D : Def K mg "_law_pick" s_pick) (C__law_draw : Cal P w K mg base 1 "_law_draw" ["pen", "span"] spDraw) : Cal P w K mg base 2 "_law_pick" ["pen", "options"] (spPick K) := by
  refine D.cal sc_pick (fun vs H Q E h => ?_) (fun _ _ _ _ _ _ us hl => match us, hl with | [_, _], _ => rfl) (fun f cdv A outer s H vs Q E hr h => ?_)
  · obtain ⟨p, l, a, t, xs, rfl, _⟩ := h
    rfl

  obtain ⟨p, l, a, t, xs, rfl, pen, ht, hap, hx, h0, hz, k⟩ := h
  refine ⟨_, (pss_one (ps_ret (pe_ix ix_seq (pv 1) (pe_cal C__law_draw (hr.mono (by decide)) rfl (pa_cons (pv 0) (pa_cons (pe_callB call_len (by rfl) T.f_len PySem.boot_len (pa_cons (pv 1) pa_nil)) pa_nil))) (fun _ _ => rfl)))), ?_⟩
  refine ⟨_, rfl, _, rfl, _, rfl, _, xs.length, rfl, ?_, p, l, t, (xs.length : Int), rfl, pen, ht, by omega, small_span hz, fun v H' t' h1 h2 pen' h3 h4 but => ?_⟩
  · rcases hx with h | h
    · exact .inl ⟨xs, h, rfl⟩
    · exact .inr ⟨xs, h, rfl⟩
  have hj : v.toNat < xs.length := by omega
  have hv : xs[v.toNat]? = some (xs[v.toNat]) := List.getElem?_eq_getElem hj
  have hat : atI xs v = some (xs[v.toNat]) := at_of (j := v.toNat) (by omega) hv
  rcases hx with h | h
  · exact .inl ⟨a, xs, v, _, rfl, rfl, but.seq hap h, hat, k _ _ H' t' hv pen' h3 h4 but⟩
  · exact .inr (.inl ⟨a, xs, v, _, rfl, rfl, but.tup hap h, hat, k _ _ H' t' hv pen' h3 h4 but⟩)



/-- far_number(pen) -/
def spFar : Sp := fun vs H Q _ => ∃ (p l : Addr) (t : Int), vs = [.ref p] ∧ Pen H p l t ∧ t ≤ 1000000 ∧ ∀ (v : Int) (H' : Hp) (t' : Int), v.natAbs < 10 ^ 42 → Pen H' p l t' → t ≤ t' → t' ≤ t + 8 → But p H H' → Q (.int v) H'
theorem ten6 : CPow 10 6 := ⟨by decide, by decide, by decide⟩
abbrev s_far_number : Stmt := topS 116
theorem sc_far_number : FnScope ["pen", "found", "k"] ["pen"] (defScope s_far_number) := ⟨rfl, rfl, rfl, by decide +kernel, rfl, by decide +kernel, by decide +kernel⟩
theorem ok_far_number (T : Txt mg) (D : Def K mg "_law_far_number" s_far_number) (C__law_draw : Cal P w K mg base 1 "_law_draw" ["pen", "span"] spDraw) : Cal P w K mg base 2 "_law_far_number" ["pen"] spFar := by
  refine D.cal sc_far_number (fun vs H Q E h => ?_) (fun _ _ _ _ _ _ us hl => match us, hl with | [_], _ => rfl) (fun f cdv A outer s H vs Q E hr h => ?_)
  · obtain ⟨p, l, t, rfl, _⟩ := h
    rfl

  obtain ⟨p, l, t, rfl, pen, ht, k⟩ := h
  refine ⟨_, (pss_cons (ps_set (i := 1) sc_far_number.nd rfl (by first | exact Or.inl rfl | exact Or.inr rfl) pe_int)
      (pss_cons (ps_for PassesOwn.never rfl (pi_range1 rfl T.f_range (pa_cons pe_int pa_nil)) (pg_name (i := 2) sc_far_number.nd rfl (by first | exact Or.inl rfl | exact Or.inr rfl)) (pss_one (ps_set (i := 1) sc_far_number.nd rfl (by first | exact Or.inl rfl | exact Or.inr rfl) (pe_op op_add (pe_op op_mul (pv 1) (pe_op op_pow pe_int pe_int)) (pe_cal C__law_draw (hr.mono (by decide)) rfl (pa_cons (pv 0) (pa_cons (pe_op op_pow pe_int pe_int) pa_nil)))))))
      (pss_one (ps_ret (pe_ifExp (pt_cmpR op_eq (pe_cal C__law_draw (hr.mono (by decide)) rfl (pa_cons (pv 0) (pa_cons pe_int pa_nil))) pe_int (nomark _)) (pe_un un_neg (pv 1)) (pv 1)))))), ?_⟩
  refine ⟨7, rfl, by decide, by decide, for_range (n := 7) (fun i σ H1 => ∃ (z : Int) (v : Option V) (t1 : Int), σ = [some (.ref p), some (.int z), v] ∧ 0 ≤ z ∧ z < 10 ^ (6 * i) ∧ Pen H1 p l t1 ∧ t ≤ t1 ∧ t1 ≤ t + i ∧ But p H H1)
    ⟨0, none, t, rfl, Int.le_refl _, by decide, pen, Int.le_refl _, by omega, But.refl p H⟩ ?_ ?_⟩
  · rintro i σ H1 hi ⟨z, v, t1, rfl, z0, z1, pen1, h1, h2, b1⟩
    refine ⟨_, rfl, _, _, rfl, rfl, ten6, _, _, rfl, rfl, .inr ⟨by decide, by decide⟩, ?_⟩
    refine ⟨_, rfl, _, _, rfl, rfl, ten6, p, l, t1, _, rfl, pen1, by omega, by decide, by decide, fun d H2 t2 d0 d1 pen2 g1 g2 b2 => ?_⟩
    refine ⟨_, _, rfl, rfl, _, _, t2, rfl, ?_, ?_, pen2, by omega, by omega, b1.trans b2⟩
    · have e : (10 : Int) ^ (6 : Int).toNat = 1000000 := by decide
      show 0 ≤ z * (10 : Int) ^ (6 : Int).toNat + d
      rw [e]
      omega
    · have e : (10 : Int) ^ (6 : Int).toNat = 1000000 := by decide
      have e2 : (10 : Int) ^ (6 * (i + 1)) = 10 ^ (6 * i) * 1000000 := by
        rw [Nat.mul_add, Int.pow_add]
        rfl
      have d2 : d < 1000000 := by rw [e] at d1; exact d1
      show z * (10 : Int) ^ (6 : Int).toNat + d < 10 ^ (6 * (i + 1))
      rw [e, e2]
      generalize (10 : Int) ^ (6 * i) = y at z1 ⊢
      omega
  · rintro σ H1 ⟨z, v, t1, rfl, z0, z1, pen1, h1, h2, b1⟩
    have z2 : z < 10 ^ 42 := z1
    refine ⟨_, rfl, p, l, t1, 2, rfl, pen1, by omega, by decide, by decide, fun d H2 t2 d0 d1 pen2 g1 g2 b2 => ?_⟩
    refine ⟨rfl, _, rfl, ?_⟩
    have e : (10 : Int) ^ 42 = ((10 ^ 42 : Nat) : Int) := by decide
    refine ite2 (fun _ => ?_) (fun _ => ?_)
    · refine ⟨_, rfl, _, rfl, k _ H2 t2 ?_ pen2 (by omega) (by omega) (b1.trans b2)⟩
      show (-z).natAbs < _
      rw [e] at z2
      omega
    · refine ⟨_, rfl, k _ H2 t2 ?_ pen2 (by omega) (by omega) (b1.trans b2)⟩
      rw [e] at z2
      omega

end
end K18
end
section
set_option Elab.async false
set_option linter.all false
set_option maxRecDepth 100000
set_option maxHeartbeats 4000000
namespace K18
open PySem PySem.Spec PyProof.Rows L2
open PySem.W (ke_shaped_ints)
local macro_rules | `(tactic| walk_at "go") => `(tactic| first | refine ⟨_, rfl, ?_⟩ | refine .inl ⟨_, rfl, ?_⟩ | refine ⟨_, _, rfl, rfl, (by first | (show (0 : Int) < _; decide) | exact Or.inl ⟨by decide, by decide⟩ | exact Or.inr ⟨by decide, by decide⟩), ?_⟩ | refine ⟨_, _, rfl, rfl, ?_⟩)
section
variable {P : Program} {w : World} {K : PySem.W.Frag} {mg : Str → Option Value} {base : Heap}

/-- barred(): a list of texts -/
def barred : List Str := Txt.split (("input load store set join part each copy up down fill step when else end times give call" : Str) ++ (" to from upto is apart by" : Str)) (" " : Str)
def spBarred : Sp := fun vs H Q _ => vs = [] ∧ ∀ (p : Addr) (H' : Hp), H p = none → Same H H' → H' p = some (.lst (barred.map V.str)) → Q (.ref p) H'
theorem barred_len : (("input load store set join part each copy up down fill step when else end times give call" : Str)).length = 88 := by decide +kernel
theorem barred_len2 : ((" to from upto is apart by" : Str)).length = 25 := by decide +kernel
theorem len_app (x y : Str) : (x ++ y).length = x.length + y.length := strLen_append x y
abbrev s_barred : Stmt := topS 117
theorem sc_barred : FnScope ["words"] [] (defScope s_barred) := ⟨rfl, rfl, rfl, by decide +kernel, rfl, by decide +kernel, by decide +kernel⟩
theorem ok_barred (T : Txt mg) (D : Def K mg "_law_barred" s_barred) : Cal P w K mg base 1 "_law_barred" [] spBarred := by
  refine D.cal sc_barred (fun vs H Q E h => ?_) (fun _ _ _ _ _ _ us hl => match us, hl with | [], _ => rfl) (fun f cdv A outer s H vs Q E hr h => ?_)
  · obtain ⟨rfl, _⟩ := h
    rfl

  obtain ⟨rfl, k⟩ := h
  refine ⟨_, (pss_cons (ps_set (i := 0) sc_barred.nd rfl (by first | exact Or.inl rfl | exact Or.inr rfl) pe_str)
      (pss_one (ps_ret (pe_split (pe_op op_add_str (pv 0) pe_str) pe_str)))), ?_⟩
  refine ⟨_, rfl, _, _, rfl, rfl, ?_, ⟨_, rfl⟩, _, _, rfl, rfl, by decide +kernel, ?_, fun p new => ?_⟩
  · rw [barred_len, barred_len2, sizeLine_eq]
    decide
  · rw [len_app, barred_len, barred_len2, sizeLine_eq]
    decide
  · exact k p _ new (Same.new new) upd_same



theorem flat_strs (ys : List Str) : (ys.map V.str).all flatV = true := by
  rw [List.all_map]
  exact List.all_eq_true.mpr fun _ _ => rfl
theorem dps_strs (K : PySem.W.Frag) (H : Hp) : ∀ ys : List Str, DpAll K H (ys.map V.str) (ys.map PyData.str)
  | [] => .nil
  | y :: r => .cons (.str y) (dps_strs K H r)
/-- a text of small codes -/
def Low (z : Str) : Prop := ∀ c ∈ z.cps.toList, c < 256
theorem low_ok {z : Str} (h : Low z) : PyData.strOk z = true := by
  unfold PyData.strOk
  rw [← Array.all_toList]
  exact List.all_eq_true.mpr fun c hc => decide_eq_true (Nat.lt_trans (h c hc) (by decide))
theorem shaped_strs {ys : List Str} (h : ∀ y ∈ ys, Low y) : SeqAt.shaped (.list (ys.map PyData.str)) = true := by
  have h1 : ∀ ys : List Str, (∀ y ∈ ys, Low y) → PyData.canLayAll0 (ys.map PyData.str) = true ∧ PyData.depthAll (ys.map PyData.str) = 0 := by
    intro ys
    induction ys with
    | nil => intro _; exact ⟨rfl, rfl⟩
    | cons y r ih =>
      intro h
      obtain ⟨a, b⟩ := ih fun z hz => h z (List.mem_cons_of_mem _ hz)
      refine ⟨?_, ?_⟩
      · rw [List.map_cons]
        show (PyData.canLay0 (.str y) && PyData.canLayAll0 (r.map PyData.str)) = true
        rw [a, Bool.and_true]
        exact low_ok (h y List.mem_cons_self)
      · rw [List.map_cons]
        show max (PyData.depth (.str y)) (PyData.depthAll (r.map PyData.str)) = 0
        rw [b]
        rfl
  obtain ⟨a, b⟩ := h1 ys h
  show (PyData.canLayAll0 (ys.map PyData.str) && decide (PyData.depthAll (ys.map PyData.str) + 1 ≤ 64)) = true
  rw [a, b]
  rfl
end
end K18
end
section
set_option Elab.async false
set_option linter.all false
set_option maxRecDepth 100000
set_option maxHeartbeats 4000000
namespace L2
open PySem PySem.Spec PyProof.Rows
theorem meets_enumerate_newT (l : Addr) (items : Array Value) (n : Nat) (dct : Option Addr) (sl : Array (Option Value)) :
    Meets (Builtin.«enumerate.__new__» { pos := [Value.type "enumerate", Value.ref l] }) fun x R s =>
      s.heap.get? l = some { cls := Value.type "tuple", dict := dct, data := Data.seq items n, slots := sl } ∧
      R (Except.ok (Flow.ret (Value.ref (s.heap.push { cls := Value.type "tuple_iterator", data := Data.fields #[Value.ref l, Value.int 0 0] }).objs.size)))
        { heap := (s.heap.push { cls := Value.type "tuple_iterator", data := Data.fields #[Value.ref l, Value.int 0 0] }).push
              { cls := Value.type "enumerate", data := Data.fields #[Value.none, Value.bool false, Value.ref s.heap.objs.size, rawInt 0, Value.none, Value.none] },
          gens := s.gens, drawn := s.drawn, toks := s.toks, os := s.os } := by
  refine Meets.of_wp fun prog w A R s h => ?_
  obtain ⟨hp, g, d, tk, os⟩ := s
  obtain ⟨hl, h⟩ := h
  have hsub := sub_enumerate
  have hT : hp.IsTuple l items := ⟨_, hl, rfl, n, rfl⟩
  unfold Builtin.«enumerate.__new__»
  refine wpAny_bind ?_
  unfold Builtin.SmallTypes.newClass
  refine wpAny_bind ?_
  refine wpAny_pure ?_
  refine wpAny_ite_false rfl ?_
  refine wpAny_bind ?_
  rw [hsub]
  refine wpAny_pure ?_
  refine wpAny_ite_false rfl ?_
  refine wpAny_pure ?_
  refine wpAny_ite_true rfl ?_
  refine wpAny_bind ?_
  unfold Builtin.SmallTypes.calledThroughType
  refine wpAny_bind ?_
  refine wpAny_stack_any fun st => ?_
  refine wpAny_pure ?_
  have fin : wpAny (model prog w) A.in1 (do
              let __do_lift ← pyIter (Value.ref l)
              let __do_lift ← Builtin.SmallTypes.newRecord (Value.type "enumerate") (Builtin.SmallTypes.ownedTupleFields ++ [__do_lift, rawInt 0, Value.none, Value.none])
              ret __do_lift) (fun fin s' => ∃ v, fin = Fin.done (Flow.ret v) ∧ R (Except.ok (Flow.ret v)) s') (fun e s' => R (Except.error e) s') { heap := hp, gens := g, drawn := d, toks := tk, os := os } := by
    refine wpAny_bind (wpAny_pyIter_tuple hT ?_)
    refine wpAny_bind ?_
    unfold Builtin.SmallTypes.newRecord
    refine wpAny_newObj_type ?_ (by show 6 ≤ sizeLine + 2; decide)
    exact wpAny_pure ⟨_, rfl, h⟩
  split
  · generalize (_ == Value.type "enumerate") = short
    cases short
    · refine wpAny_ite_false rfl ?_
      refine wpAny_bind ?_
      show wpAny _ _ (pure (Value.ref l, none)) _ _ _
      exact wpAny_pure fin
    · refine wpAny_ite_true rfl ?_
      refine wpAny_bind ?_
      show wpAny _ _ (pure (Value.ref l, none)) _ _ _
      exact wpAny_pure fin
  · refine wpAny_ite_false rfl ?_
    refine wpAny_bind ?_
    show wpAny _ _ (pure (Value.ref l, none)) _ _ _
    exact wpAny_pure fin
theorem call_enumerate_tuple {prog : Program} {w : World} {A : Around} {E : Value → Shared → Prop} {s : Shared} {l : Addr} {items : Array Value} {Q : Value → Shared → Prop} (hT : s.heap.IsTuple l items)
    (h : ∀ h' : Heap, IsEnum h' (s.heap.objs.size + 1) s.heap.objs.size 0 Value.none → h'.IsTupleIter s.heap.objs.size l 0 → h'.objs.size = s.heap.objs.size + 2 → (∀ (b : Addr) (o : Obj), s.heap.get? b = some o → h'.get? b = some o) →
      Q (Value.ref (s.heap.objs.size + 1)) { heap := h', gens := s.gens, drawn := s.drawn, toks := s.toks, os := s.os }) :
    wpAny (model prog w) A (call (Value.type "enumerate") [Value.ref l]) Q E s := by
  obtain ⟨⟨c, dct, dt, sl⟩, hl, hc, n, hd⟩ := hT
  simp only at hc hd
  subst hc hd
  refine callType_new F.called_enumerate (by decide) (F.typeCall_enumerate_1 (Value.ref l)) (F.newCall_enumerate_1 (Value.ref l)) (fun obj => F.args_object_init_2 obj (Value.ref l)) F.entry_enumerate_new (meets_enumerate_newT l items n dct sl) ⟨hl, ?_⟩
  have hz := Heap.size_push s.heap { cls := Value.type "tuple_iterator", data := Data.fields #[Value.ref l, Value.int 0 0] }
  have he := Heap.get?_push_size (s.heap.push { cls := Value.type "tuple_iterator", data := Data.fields #[Value.ref l, Value.int 0 0] }) (o := { cls := Value.type "enumerate", data := Data.fields #[Value.none, Value.bool false, Value.ref s.heap.objs.size, rawInt 0, Value.none, Value.none] }) rfl
  show _ ∧ Q (Value.ref (s.heap.push _).objs.size) _
  rw [hz] at he ⊢
  refine ⟨⟨_, he, rfl⟩, h _ he ⟨_, Heap.get?_push_of_some _ (Heap.get?_push_size s.heap rfl), rfl, rfl⟩ ?_ fun b o x => Heap.get?_push_of_some _ (Heap.get?_push_of_some _ x)⟩
  rw [Heap.size_push, hz]
theorem draws_tuple {prog : Program} {w : World} {A : Around} (hh : A.handled = none) (it l : Addr) (hne : l ≠ it) (items : Array Value) :
    Draws prog w A it [it, l] items.size (fun i v => items[i]? = some v) fun i h => h.IsTupleIter it l i ∧ h.IsTuple l items where
  live _ _ st := by
    obtain ⟨⟨o, ho, _⟩, _⟩ := st
    exact ⟨o, ho⟩
  frame _ _ _ st hk := ⟨st.1.at fun o e => hk it (by simp) o e, by
    obtain ⟨o, ho, r⟩ := st.2
    exact ⟨o, hk l (by simp) o ho, r⟩⟩
  item i s Q E hi st hQ := RZ.nextOf_tuple_item (x := items[i]) st.1 st.2 (by simp [hi]) fun h' hit' hs' => hQ items[i] h' s.toks (by simp [hi]) ⟨hit', by
    obtain ⟨o, ho, r⟩ := st.2
    exact ⟨o, (hs'.right l hne).trans ho, r⟩⟩ hs'
  done s Q E st hE := RZ.nextOf_tuple_end hh st.1 st.2 (by simp) hE
/-- enumerate of a tuple -/
def IteT (K : PySem.W.Frag) (a : Addr) : It where
  go i H := ∃ xs x, SqT K H a xs ∧ xs[i]? = some x
  yld i H v H' := ∃ (T : Addr) (x : V), v = .ref T ∧ H T = none ∧ H' = upd H T (.tup [.int (i : Nat), x]) ∧ ∀ xs : List V, SqT K H a xs → xs[i]? = some x
  stop i H := ∃ xs, SqT K H a xs ∧ xs.length = i
theorem walk_enumT {K : PySem.W.Frag} {a : Addr} {xs : List V} : Walk (IteT K a) xs.length (fun H => SqT K H a xs) (YPair (fun i => some (.int (i : Nat))) (fun i => xs[i]?)) where
  goes i x hi q := ⟨xs, xs[i], q, by simp [hi]⟩
  stops x q := ⟨xs, q, rfl⟩
  yields i H v H' x q y := by
    obtain ⟨T, z, h1, h2, h3, h4⟩ := y
    exact ⟨T, _, z, h1, h2, h3, rfl, h4 xs q⟩
theorem turn_enumT {P : Program} {w : World} {K : PySem.W.Frag} {elts : List Expr} {kk : Nat} {tpos : Pos} (a e it : Addr) :
    Turn P w K (.Tuple elts kk tpos) (IteT K a) [e, it] e fun i h => (∃ old, IsEnum h e it (i : Nat) old) ∧ h.IsTupleIter it a i ∧ e ≠ it ∧ a ≠ it ∧ a ≠ e where
  mem := by simp
  obj i h st b hb := by
    obtain ⟨⟨old, he⟩, ⟨o, ho, hc, hd⟩, _⟩ := st
    have e' : b = e ∨ b = it := by simpa using hb
    rcases e' with rfl | rfl
    · exact ⟨_, he, fun v q => nomatch q⟩
    · exact ⟨o, ho, fun v q => by rw [hd] at q; cases q⟩
  keep i h h' st k := by
    obtain ⟨⟨old, he⟩, hi, hne⟩ := st
    exact ⟨⟨old, k e (by simp) _ he⟩, hi.at fun o q => k it (by simp) o q, hne⟩
  item X hP hw hK hc i pins s σ H E I hf st hg := by
    subst hP hw hK
    obtain ⟨⟨old, he⟩, hit, hne, hai, hae⟩ := st
    obtain ⟨xs, x, hq, hx⟩ := hg
    obtain ⟨its, rv, p, hz⟩ := I.tuple hq
    obtain ⟨u, hu, ru⟩ := Vals.get rv hx
    have hel := Heap.lt_size he
    have hil : it < s.heap.objs.size := by
      obtain ⟨o, q, _⟩ := hit
      exact Heap.lt_size q
    have hnil : a < s.heap.objs.size := by
      obtain ⟨o, q, _⟩ := p
      exact Heap.lt_size q
    have D : Draws X.prog X.w X.A.in1 it [it, a] its.toArray.size (fun i v => its.toArray[i]? = some v) fun i h => h.IsTupleIter it a i ∧ h.IsTuple a its.toArray := draws_tuple (A := X.A.in1) (I.ok.hd hc) it a hai its.toArray
    have hi : i < its.toArray.size := by
      rw [List.size_toArray]
      exact (List.getElem?_eq_some_iff.mp hu).1
    refine wpAny_pyNext_enum_itemD D he ⟨hit, p⟩ hi hne (by simp; exact ⟨hne, fun z => hae z.symm⟩) fun y h' tk hy ho st' hT hsz hk => ?_
    obtain rfl : y = u := by
      have hy' : its.toArray[i]? = some y := hy
      rw [List.getElem?_toArray, hu] at hy'
      exact (Option.some.inj hy').symm
    refine ⟨_, rfl, wpAny_letOwnedTupleGo_enum ho fun h'' he' sb => ?_⟩
    have hT2 := (sb.right s.heap.objs.size (Nat.ne_of_gt hel)).trans hT
    have I1 := Inv.turnedNew (t' := tk + 1) I (fun b ob hb q => (sb.right b fun z => hb (by rw [z]; simp)).trans (hk b ob (fun z => hb (by rw [z]; simp)) (fun z => hb (by rw [z]; simp)) q)) hf (Nat.le_refl s.heap.objs.size) (h' := h'') (ob := .tup [.int (i : Nat), x]) ⟨by show 2 ≤ sizeLine; decide, [Value.int (i : Nat) tk, y], .cons ⟨tk, rfl⟩ (.cons ru .nil), _, hT2, rfl, 0, rfl⟩
    refine ⟨.ref s.heap.objs.size, upd H s.heap.objs.size (.tup [.int (i : Nat), x]), I1, rfl, ⟨_, x, rfl, HOk.fresh I.hok (Nat.le_refl _), rfl, fun ys hy => ?_⟩, ⟨⟨y, ?_⟩, ?_, hne, hai, hae⟩, fun b hb => ?_⟩
    · rw [Inv.tuple_inj I hy hq]
      exact hx
    · have e1 : ((i + 1 : Nat) : Int) = (i : Int) + 1 := by omega
      rw [e1]
      exact he'
    · exact Heap.IsTupleIter.at st'.1 fun o q => (sb.right it hne.symm).trans q
    · have hb' : b < s.heap.objs.size := by
        have e' : b = e ∨ b = it := by simpa using hb
        rcases e' with rfl | rfl
        · exact hel
        · exact hil
      rw [upd_ne (Nat.ne_of_lt hb')]
      exact (hf b hb).1
  done X hP hw hK hc i pins s σ H E I hf st hg := by
    subst hP hw hK
    obtain ⟨⟨old, he⟩, hit, hne, hai, hae⟩ := st
    obtain ⟨xs, hq, hx⟩ := hg
    obtain ⟨its, rv, p, hz⟩ := I.tuple hq
    have D : Draws X.prog X.w X.A.in1 it [it, a] its.toArray.size (fun i v => its.toArray[i]? = some v) fun i h => h.IsTupleIter it a i ∧ h.IsTuple a its.toArray := draws_tuple (A := X.A.in1) (I.ok.hd hc) it a hai its.toArray
    have hl := Vals.length rv
    obtain ⟨f0, f1, f2, f3, f4, f5⟩ := hf it (by simp)
    have en : its.toArray.size = i := by
      rw [List.size_toArray]
      omega
    refine wpAny_pyNext_enum_endD D he (by rw [en]; exact ⟨hit, p⟩) fun h' eb => ⟨rfl, Inv.turned I (fun b o hb q => eb b o hb q) f0 f1 f3 f4 f5⟩
  self A i s Q E st h := by
    obtain ⟨⟨old, he⟩, _⟩ := st
    exact wpAny_pyIter_enum he h
def iEnumT (K : PySem.W.Frag) (ta : TA) : TI := fun σ H R => ta σ H fun vs H1 => ∃ (a : Addr) (xs : List V), vs = [.ref a] ∧ SqT K H1 a xs ∧ R (IteT K a) H1
theorem pi_enumT {X : Cx} {e : Expr} {ta : TA} {p pos tpos : Pos} {elts : List Expr} {kk : Nat} (hg : Gl X "enumerate") (hm : X.mg "enumerate" = none) (ha : PA X [e] ta) (hs : starEach [e] X.env = [(false, eval e X.env)] := by rfl) :
    PI X (.Tuple elts kk tpos) (.Call (.Name "enumerate" p) [e] [] pos) (iEnumT X.K ta) := by
  refine ⟨fun pins s σ H R I h => Call_ (ld_blt I hg hm boot_enumerate (PyProof.Rows.callWith_type1 (thn (ha.run pos pins s σ H _ I h) fun us s1 ⟨vs, H1, I1, r1, a, xs, ex, hq, q⟩ => ?_) hs rfl) (by decide) (by decide)) rfl⟩
  subst ex
  obtain ⟨u, rfl, ru⟩ := vals1 r1
  obtain rfl : u = Value.ref a := ru
  obtain ⟨its, rv, p', hz⟩ := I1.tuple hq
  have hla : a < s1.heap.objs.size := by
    obtain ⟨o, z, _⟩ := p'
    exact Heap.lt_size z
  refine call_enumerate_tuple p' fun h' he hit hsz hk => wpAny_pyIter_enum he ?_
  have I2 := I1.kept (t' := s1.toks) hk
  refine ⟨s1.heap.objs.size + 1, [s1.heap.objs.size + 1, s1.heap.objs.size], _, IteT X.K a, H1, rfl, I2, turn_enumT a _ _, ⟨⟨_, he⟩, hit, Nat.succ_ne_self _, Nat.ne_of_lt hla, Nat.ne_of_lt (Nat.lt_succ_of_lt hla)⟩, fun b hb => ?_, q⟩
  have e' : b = s1.heap.objs.size + 1 ∨ b = s1.heap.objs.size := by simpa using hb
  have le : s1.heap.objs.size ≤ b := by
    rcases e' with rfl | rfl
    · exact Nat.le_succ _
    · exact Nat.le_refl _
  exact I1.fpOk le (I1.hok.fresh le)
end L2
end
section
set_option Elab.async false
set_option linter.all false
set_option maxRecDepth 100000
set_option maxHeartbeats 4000000
namespace L2
open PySem PySem.Spec PyProof.Rows
/-! max(xs, default=d) of whole numbers -/
abbrev dArgs (I S : Addr) (d : Value) : Args := ⟨[.ref I, .none, .ref S], [("default", d)]⟩
theorem maxD_loop {prog : Program} {w : World} {A : Around} {R : Result → Shared → Prop} {I : Addr} {fp wr : List Addr} {n : Nat} {P : Nat → Value → Prop} {St : Nat → Heap → Prop} (d : Value)
    (W : Walks prog w A.in1 I fp wr n P St) (bt : Nat → Nat → Bool) (hcmp : CmpOf prog w A.in1 .Gt P bt) (S : Addr) (hSf : S ∉ fp) :
    ∀ (k j : Nat) (s : Shared) (vb : Value) (c : Nat), n - (j + 1) = k → j + 1 ≤ n → St (j + 1) s.heap → P (argBest bt j) vb → s.heap.get? S = some { cls := .type "list", data := .seq #[vb, vb] c } →
      (∀ (v : Value) (h' : Heap) (tk : Nat), P (argBest bt (n - 1)) v → (∀ (b : Addr) (o : Obj), b ∉ wr → b ≠ S → s.heap.get? b = some o → h'.get? b = some o) → R (.ok (.ret v)) { heap := h', gens := s.gens, drawn := s.drawn, toks := tk, os := s.os }) →
      codeAny (model prog w) A (.builtin "max.loop" (dArgs I S d)) R s := by
  have hSw : S ∉ wr := fun h => hSf (W.sub S h)
  intro k
  induction k with
  | zero =>
    intro j s vb c hk hj hst hPb hS hR
    have hin : j + 1 = n := by omega
    refine codeAny_builtin F.entry_max_loop ?_
    rw [Around.under_plainId F.plain_max_loop]
    refine wpAny_bind (wpAny_seqItems hS rfl ?_)
    refine wpAny_bind (wpAny_tryCatch (W.done s _ _ (by rw [← hin]; exact hst) fun h' tk hk' => ?_))
    have hS' := hk' S _ hSw hS
    refine wpAny_bind (wpAny_updateSeq hS' rfl ?_ (by first | exact Nat.zero_le _ | (show 2 ≤ _; decide)) (by first | exact Nat.zero_le _ | (show 2 ≤ _; decide)))
    refine wpAny_bind (wpAny_letGo (wpAny_pure ?_))
    exact hR vb _ tk (by rw [← hin]; exact hPb) fun b o hbw hbS e => (Heap.get?_update_other _ _ (Ne.symm hbS)).trans (hk' b o hbw e)
  | succ k ih =>
    intro j s vb c hk hj hst hPb hS hR
    refine codeAny_builtin F.entry_max_loop ?_
    rw [Around.under_plainId F.plain_max_loop]
    refine wpAny_bind (wpAny_seqItems hS rfl ?_)
    refine wpAny_bind (wpAny_tryCatch (W.item (j + 1) s _ _ (by omega) hst fun v h' tk hP hst' hk' => ?_))
    have hS' := hk' S _ hSw hS
    refine wpAny_bind (wpAny_pure ?_)
    refine wpAny_bind (wpAny_tryCatch (wpAny_holding ?_))
    refine wpAny_bind (hcmp (j + 1) (argBest bt j) v vb _ _ _ hP hPb ?_)
    refine wpAny_bind (wpAny_holding (wpAny_truthy_bool ?_))
    refine wpAny_bind (wpAny_letGo (wpAny_pure ?_))
    have best : argBest bt (j + 1) = if bt (j + 1) (argBest bt j) = true then j + 1 else argBest bt j := rfl
    have hname : toString "max" ++ toString ".loop" = "max.loop" := by decide
    cases hb : bt (j + 1) (argBest bt j) with
    | true =>
      rw [hb, if_pos rfl] at best
      refine wpAny_ite_true rfl ?_
      refine wpAny_bind (wpAny_updateSeq hS' rfl ?_ (by first | exact Nat.zero_le _ | (show 2 ≤ _; decide)) (by first | exact Nat.zero_le _ | (show 2 ≤ _; decide)))
      refine wpAny_bind (wpAny_letGo ?_)
      rw [hname]
      refine wpAny_pure ⟨plainId_quiet F.plain_max_loop (dArgs I S d), ih (j + 1) _ v _ (by omega) (by omega) (W.frame (j + 1 + 1) h' _ hst' fun b hbf o e => (Heap.get?_update_other _ _ fun h => hSf (by rw [h]; exact hbf)).trans e) (by rw [best]; exact hP) (Heap.get?_update_self _ hS' rfl) fun v' h'' tk'' hP' hk'' => hR v' h'' tk'' hP' fun b o hbw hbS e => hk'' b o hbw hbS ((Heap.get?_update_other _ _ (Ne.symm hbS)).trans (hk' b o hbw e))⟩
    | false =>
      rw [hb, if_neg (by decide)] at best
      refine wpAny_ite_false rfl ?_
      refine wpAny_bind (wpAny_letGo ?_)
      rw [hname]
      refine wpAny_pure ⟨plainId_quiet F.plain_max_loop (dArgs I S d), ih (j + 1) _ vb _ (by omega) (by omega) hst' (by rw [best]; exact hPb) hS' fun v' h'' tk'' hP' hk'' => hR v' h'' tk'' hP' fun b o hbw hbS e => hk'' b o hbw hbS (hk' b o hbw e)⟩
theorem maxD_first {prog : Program} {w : World} {A : Around} {R : Result → Shared → Prop} {I : Addr} {fp wr : List Addr} {n : Nat} {P : Nat → Value → Prop} {St : Nat → Heap → Prop} (d : Value)
    (W : Walks prog w A.in1 I fp wr n P St) (bt : Nat → Nat → Bool) (hcmp : CmpOf prog w A.in1 .Gt P bt) (S : Addr) (hSf : S ∉ fp) {s : Shared} {c : Nat} (hst : St 0 s.heap) (hS : s.heap.get? S = some { cls := .type "list", data := .seq #[] c })
    (hR : ∀ (v : Value) (h' : Heap) (tk : Nat), (n = 0 ∧ v = d) ∨ (0 < n ∧ P (argBest bt (n - 1)) v) → (∀ (b : Addr) (o : Obj), b ∉ wr → b ≠ S → s.heap.get? b = some o → h'.get? b = some o) → R (.ok (.ret v)) { heap := h', gens := s.gens, drawn := s.drawn, toks := tk, os := s.os }) :
    codeAny (model prog w) A (.builtin "max.loop" (dArgs I S d)) R s := by
  have hSw : S ∉ wr := fun h => hSf (W.sub S h)
  refine codeAny_builtin F.entry_max_loop ?_
  rw [Around.under_plainId F.plain_max_loop]
  refine wpAny_bind (wpAny_seqItems hS rfl ?_)
  cases n with
  | zero =>
    refine wpAny_bind (wpAny_tryCatch (W.done s _ _ hst fun h' tk hk' => ?_))
    refine wpAny_bind (wpAny_rule ?_)
    exact wpAny_pure (hR d h' tk (.inl ⟨rfl, rfl⟩) fun b o hbw _ e => hk' b o hbw e)
  | succ n =>
    refine wpAny_bind (wpAny_tryCatch (W.item 0 s _ _ (Nat.succ_pos _) hst fun v h' tk hP hst' hk' => ?_))
    have hS' := hk' S _ hSw hS
    have hname : toString "max" ++ toString ".loop" = "max.loop" := by decide
    refine wpAny_bind (wpAny_pure ?_)
    refine wpAny_bind (wpAny_updateSeq hS' rfl ?_ (by first | exact Nat.zero_le _ | (show 2 ≤ _; decide)) (by first | exact Nat.zero_le _ | (show 2 ≤ _; decide)))
    rw [hname]
    refine wpAny_pure ⟨plainId_quiet F.plain_max_loop (dArgs I S d), maxD_loop d W bt hcmp S hSf (n + 1 - (0 + 1)) 0 _ v _ rfl (by omega) (W.frame (0 + 1) h' _ hst' fun b hbf o e => (Heap.get?_update_other _ _ fun h => hSf (by rw [h]; exact hbf)).trans e) hP (Heap.get?_update_self _ hS' rfl) fun v' h'' tk'' hP' hk'' => hR v' h'' tk'' (.inr ⟨Nat.succ_pos _, hP'⟩) fun b o hbw hbS e => hk'' b o hbw hbS ((Heap.get?_update_other _ _ (Ne.symm hbS)).trans (hk' b o hbw e))⟩
end L2
end
section
set_option Elab.async false
set_option linter.all false
set_option maxRecDepth 100000
set_option maxHeartbeats 4000000
namespace L2
open PySem PySem.Spec PyProof.Rows
theorem call_tree_kw {prog : Program} {w : World} {A : Around} {E : Value → Shared → Prop} {s : Shared} {id : String} {b : Builtin} {args : List Value} {kw : List (Str × Value)} {Q : Value → Shared → Prop}
    (hk : builtinKind id = none) (hp : plainId id = true) (hb : entryFor table id = some b) (ha : argsOk id { pos := args, kw := kw })
    (hc : wpAny (model prog w) A.in1 (b { pos := args, kw := kw }) (fun fin s' => match fin with
        | Fin.done f => match (Except.ok f : Result) with
          | Except.ok (Flow.ret v) => Q v s'
          | Except.ok _ => False
          | Except.error e => E e s'
        | Fin.again c' => c'.quiet = true ∧ codeAny (model prog w) A c' (fun r s' => match r with
          | Except.ok (Flow.ret v) => Q v s'
          | Except.ok _ => False
          | Except.error e => E e s') s') E s) :
    wpAny (model prog w) A (call (Value.builtin id) args kw) Q E s := by
  refine wpAny_call (codeAny_call_builtin hp hb ?_)
  unfold checkBuiltinCall
  simp only [hk]
  unfold argsOk at ha
  cases h : Manifest.signature? id with
  | none =>
    simp only
    exact wpAny_pure hc
  | some sig =>
    rw [h] at ha
    simp only at ha ⊢
    rw [ha]
    exact wpAny_pure hc
/-- max(xs, default=d): d if there is nothing, else the greatest -/
def rMaxD (K : PySem.W.Frag) : List V → List V → Hp → VK → Prop := fun xs zs H Q => ∃ (a : Addr) (ns : List Int) (d : Int), xs = [.ref a] ∧ zs = [.int d] ∧ SqL K H a (ns.map V.int) ∧ (ns = [] → Q (.int d) H) ∧ ∀ m : Int, m ∈ ns → (∀ y ∈ ns, y ≤ m) → Q (.int m) H
theorem cr_maxD {X : Cx} (hc : X.calm = true) : CallRK X (.builtin "max") ["default"] (rMaxD X.K) := by
  intro pins s σ H xs zs us ws Q I rx rz h
  obtain ⟨a, ns, d, rfl, rfl, hs, q0, q⟩ := h
  obtain ⟨u, rfl, ru⟩ := vals1 rx
  obtain rfl : u = Value.ref a := ru
  obtain ⟨v, rfl, t0, rfl⟩ := vals1 rz
  obtain ⟨its, rv, hl0, hz⟩ := I.list hs
  have hh := I.ok.hd hc
  have hi := Vals.ints rv
  obtain ⟨xs, e⟩ := hi.allInts.items
  have hl : s.heap.IsList a (intItems xs) := by
    rw [← e]
    exact hl0.isList
  have hn : xs.toList.map (fun x => x.1) = ns := by
    rw [← nums_intItems xs, ← e]
    exact hi.numsOf
  have hsz : xs.size = ns.length := by
    rw [← hn, List.length_map, Array.length_toList]
  show wpAny _ _ (call (.builtin "max") [.ref a] [("default", .int d t0)]) _ _ _
  refine call_tree_kw F.kind_max F.plain_max F.entry_max ?_ ?_
  · show argsOk "max" _
    rfl
  refine wpAny_bind ?_
  refine wpAny_of_eq (a := [none, some (.int d t0)]) rfl ?_
  refine wpAny_bind (wpAny_pure ?_)
  refine wpAny_bind (iter_intList hl fun s₂ e2 st hfp hlI => ?_)
  subst e2
  refine wpAny_bind (wpAny_newList ?_ (by exact Nat.zero_le _))
  have hname : toString "max" ++ toString ".loop" = "max.loop" := by decide
  rw [hname]
  refine wpAny_pure ⟨plainId_quiet F.plain_max_loop _, ?_⟩
  have W : Walks X.prog X.w X.A.in1 s.heap.objs.size [s.heap.objs.size, a] [s.heap.objs.size] (intItems xs).size (fun i v => (intItems xs)[i]? = some v) (fun i h => h.IsListIter s.heap.objs.size a i ∧ h.IsList a (intItems xs)) := Walks.list (A := X.A.in1) hh _ a hlI (intItems xs)
  have size2 : ∀ o : Obj, (s.heap.push o).objs.size = s.heap.objs.size + 1 := fun o => Heap.size_push _ _
  have hSf : (s.heap.push { cls := Value.type "list_iterator", data := Data.fields #[Value.ref a, Value.int 0 0] }).objs.size ∉ [s.heap.objs.size, a] := fun hm => Nat.lt_irrefl _ (hfp _ hm)
  refine maxD_first (.int d t0) W (fun i j => decide (numAt xs i > numAt xs j)) (CmpOf.ints_gt (numAt xs) fun i v => intItems_at) _ hSf (W.frame 0 _ _ st fun b x o e => Heap.get?_push_of_some _ e) (Heap.get?_push_size _ rfl) fun v h' tk hv hk => ?_
  have keep : ∀ (b : Addr) (o : Obj), s.heap.get? b = some o → h'.get? b = some o := fun b o z => by
    have lt := Heap.lt_size z
    refine hk b o (by simp; exact Nat.ne_of_lt lt) ?_ (Heap.get?_push_of_some _ (Heap.get?_push_of_some _ z))
    rw [size2]
    exact Nat.ne_of_lt (Nat.lt_succ_of_lt lt)
  have I1 := I.kept (t' := tk) keep
  have isz : (intItems xs).size = ns.length := by
    rw [← hsz]
    exact Array.size_map
  rcases hv with ⟨n0, rfl⟩ | ⟨n0, hv⟩
  · refine ⟨.int d, H, I1, ⟨t0, rfl⟩, q0 (List.length_eq_zero_iff.mp (by omega))⟩
  · obtain ⟨t, rfl⟩ := intItems_at hv
    obtain ⟨h1, h2⟩ := argBest_gt (numAt xs) ((intItems xs).size - 1)
    refine ⟨.int _, H, I1, ⟨t, rfl⟩, q _ ?_ fun y hy => ?_⟩
    · rw [numAt_eq, hn]
      exact PySem.getD_mem (by omega)
    · rw [← hn] at hy
      obtain ⟨j, hj, rfl⟩ := mem_getD hy
      rw [← numAt_eq]
      rw [hn] at hj
      exact h2 j (by omega)
end L2
end
section
set_option Elab.async false
set_option linter.all false
set_option maxRecDepth 100000
set_option maxHeartbeats 4000000
namespace K18
open PySem PySem.Spec PyProof.Rows L2
open PySem.W (ke_shaped_ints)
local macro_rules | `(tactic| walk_at "go") => `(tactic| first | refine ⟨_, rfl, ?_⟩ | refine .inl ⟨_, rfl, ?_⟩ | refine ⟨_, _, rfl, rfl, (by first | (show (0 : Int) < _; decide) | exact Or.inl ⟨by decide, by decide⟩ | exact Or.inr ⟨by decide, by decide⟩), ?_⟩ | refine ⟨_, _, rfl, rfl, ?_⟩)
section
variable {P : Program} {w : World} {K : PySem.W.Frag} {mg : Str → Option Value} {base : Heap}
/-- what the program's own names are -/
structure TxtP (K : PySem.W.Frag) (mg : Str → Option Value) : Prop where
  f_len : mg "len" = none
  f_all : mg "all" = none
  f_tuple : mg "tuple" = none
  f_int : mg "int" = none
  f_abs : mg "abs" = none
  f_max : mg "max" = none
  f_enumerate : mg "enumerate" = none
  c_LETTERS : ∃ t, mg "LETTERS" = some (.str "abcdefghijklmnopqrstuvwxyz" t)
  g_RESERVED : mg "RESERVED" = some (.ref (He.ga K "RESERVED"))
  t_RESERVED : ∀ H : Hp, SqT K H (He.ga K "RESERVED") (CF.Reserved.map V.str)
  c_LONGEST_NAME : ∃ t, mg "LONGEST_NAME" = some (.int 12 t)
  c_MOST_POINTERS : ∃ t, mg "MOST_POINTERS" = some (.int 3 t)
  c_FARTHEST_SPOT : ∃ t, mg "FARTHEST_SPOT" = some (.int 30 t)
  c_LONGEST_NUMBER : ∃ t, mg "LONGEST_NUMBER" = some (.int 3 t)
  c_FARTHEST : ∃ t, mg "FARTHEST" = some (.int 40 t)
  c_MOST_CELLS : ∃ t, mg "MOST_CELLS" = some (.int 16 t)
  g_MODULI : mg "MODULI" = some (.ref (He.ga K "MODULI"))
  t_MODULI : ∀ H : Hp, SqT K H (He.ga K "MODULI") [.int 2, .int 4, .int 8]

/-- is_name(word) of a pointer's name -/
def spName : Sp := fun vs H Q _ => ∃ z : Str, vs = [.str z] ∧ CF.NameOk z ∧ ∀ H', Same H H' → Q (.bl true) H'
theorem sign_in {c : Nat} (h : 97 ≤ c ∧ c ≤ 122) : c ∈ (("abcdefghijklmnopqrstuvwxyz" : Str)).cps.toList := by
  have all : ∀ n : Nat, n < 26 → (n + 97) ∈ (("abcdefghijklmnopqrstuvwxyz" : Str)).cps.toList := by decide +kernel
  have e : c = (c - 97) + 97 := by omega
  rw [e]
  exact all _ (by omega)
abbrev s_is_name : Stmt := topS 17
theorem sc_is_name : FnScope ["word", "letter"] ["word"] (defScope s_is_name) := ⟨rfl, rfl, rfl, by decide +kernel, rfl, by decide +kernel, by decide +kernel⟩
theorem ok_is_name (T : TxtP K mg) (D : Def K mg "is_name" s_is_name) : Cal P w K mg base 1 "is_name" ["word"] spName := by
  refine D.cal sc_is_name (fun vs H Q E h => ?_) (fun _ _ _ _ _ _ us hl => match us, hl with | [_], _ => rfl) (fun f cdv A outer s H vs Q E hr h => ?_)
  · obtain ⟨z, rfl, _⟩ := h
    rfl
  have hu := hu_of hr

  obtain ⟨z, rfl, nm, k⟩ := h
  refine ⟨_, (C8.pss_cut (ps_if (PW.pt (pw_or (pt_not (pt_chain op_le op_le pe_int (pe_callB call_len (by rfl) T.f_len PySem.boot_len (pa_cons (pv 0) pa_nil)) (pe_gint (by rfl) T.c_LONGEST_NAME))) (pw_or1 (pt_cmpR op_in_seq (pv 0) (pe_gref (by rfl) T.g_RESERVED) (by rfl))))) (pss_one (ps_ret pe_bl)) pss_nil)
      (pss_one (ps_ret (pe_callB (cr_all rfl) (by rfl) T.f_all (by decide +kernel) (pa_cons (pe_lc (own := [("letter", 1)]) (g := gName 1) (tt := tYes) rfl sc_is_name.nd (pi_str (pv 0)) (blkOk_by (N := ["word", "letter"]) (sc := defScope s_is_name) (by decide +kernel)) (fun _ _ _ _ _ => (pg_name (i := 1) sc_is_name.nd rfl (Or.inl rfl))) (fun _ _ _ _ _ => pts_nil) (fun _ _ _ _ _ => (pe_cmpR op_in_sign (pv 1) (pe_gstr (by rfl) T.c_LETTERS) (by rfl)))) pa_nil))))), ?_⟩
  have n1 := nm.lo
  have n2 := nm.hi
  refine ⟨fun σ' H' => σ' = [some (.str z), none] ∧ H' = H, ?_, ?_⟩
  · refine ⟨_, rfl, _, z.length, rfl, ⟨by rw [sizeLine_eq]; omega, rfl⟩, _, _, rfl, rfl, _, rfl, ite2 (fun _ => ?_) (fun c => absurd (decide_eq_true (by omega)) c)⟩
    refine ⟨_, _, rfl, rfl, _, rfl, ?_⟩
    rw [decide_eq_true (show (z.length : Int) ≤ 12 by omega)]
    refine iteF ?_
    refine ⟨_, rfl, _, _, rfl, .inr (T.t_RESERVED _), rfl, CF.flat_strs _, _, rfl, ?_⟩
    rw [if_neg (by decide), CF.inV_strs, decide_eq_false nm.free]
    exact iteF ⟨rfl, rfl⟩
  rintro σ' H' ⟨rfl, rfl⟩
  refine ⟨_, rfl, z, rfl, fun D hD => lc_it walk_str (fun i H1 => Same H' H1 ∧ H1 D = some (.lst ((List.replicate i true).map V.bl)))
    ⟨Same.new hD, upd_same⟩ (fun _ _ _ _ => True.intro) ?_ ?_⟩
  · rintro i x H1 H2 hi ⟨s1, h1⟩ ⟨rfl, c, hc, rfl⟩
    rw [← Array.getElem?_toList] at hc
    have inl : decide (c ∈ (("abcdefghijklmnopqrstuvwxyz" : Str)).cps.toList) = true := decide_eq_true (sign_in (nm.letters c (List.mem_of_getElem? hc)))
    refine ⟨rfl, _, rfl, c, _, rfl, rfl, _, h1, ?_, s1.put hD, ?_⟩
    · have e : z.cps.size = z.length := rfl
      rw [List.length_map, List.length_replicate, sizeLine_eq]
      omega
    · rw [inl, List.replicate_succ', List.map_append]
      exact upd_same
  · rintro H1 ⟨s1, h1⟩
    refine ⟨D, _, rfl, SqL.of h1, ?_⟩
    have al : (List.replicate z.cps.size true).all id = true := by
      rw [List.all_replicate]
      split <;> rfl
    rw [al]
    exact k _ s1



/-- lines_of(text) of lines joined -/
def spLinesOf : Sp := fun vs H Q _ => ∃ ws : List Str, vs = [.str (Txt.join "\n" ws)] ∧ (∀ w ∈ ws, 1 ≤ w.length ∧ 10 ∉ TL.tl w) ∧ (Txt.join "\n" ws).length ≤ 100000 ∧ ∀ (r : Addr) (H' : Hp), H r = none → Same H H' → H' r = some (.lst (ws.map V.str)) → Q (.ref r) H'
theorem join_one {ws : List Str} (h : ∀ w ∈ ws, 1 ≤ w.length ∧ 10 ∉ TL.tl w) (hn : ws ≠ []) : 1 ≤ (Txt.join "\n" ws).length := by
  rw [TL.join_eq, TL.len_tl, TL.tl_join]
  cases ws with
  | nil => exact absurd rfl hn
  | cons w r =>
    have hw := (h w List.mem_cons_self).1
    rw [TL.len_tl] at hw
    cases r with
    | nil => simpa [TL.joinL] using hw
    | cons w2 r =>
      have e : TL.joinL (TL.tl "\n") ((w :: w2 :: r).map TL.tl) = TL.tl w ++ (TL.tl "\n" ++ TL.joinL (TL.tl "\n") ((w2 :: r).map TL.tl)) := by
        first | rfl | simp [TL.joinL]
      rw [e, List.length_append]
      omega
theorem split_back {ws : List Str} (h : ∀ w ∈ ws, 1 ≤ w.length ∧ 10 ∉ TL.tl w) (hn : ws ≠ []) : Txt.split (Txt.join "\n" ws) "\n" = ws :=
  TL.split_join (s := 10) (S := []) rfl (by decide +kernel) hn fun p hp => (h p hp).2
abbrev s_lines_of : Stmt := topS 16
theorem sc_lines_of : FnScope ["text"] ["text"] (defScope s_lines_of) := ⟨rfl, rfl, rfl, by decide +kernel, rfl, by decide +kernel, by decide +kernel⟩
theorem ok_lines_of (T : TxtP K mg) (D : Def K mg "lines_of" s_lines_of) : Cal P w K mg base 1 "lines_of" ["text"] spLinesOf := by
  refine D.cal sc_lines_of (fun vs H Q E h => ?_) (fun _ _ _ _ _ _ us hl => match us, hl with | [_], _ => rfl) (fun f cdv A outer s H vs Q E hr h => ?_)
  · obtain ⟨ws, rfl, _⟩ := h
    rfl
  have hu := hu_of hr

  obtain ⟨ws, rfl, hw, hz, k⟩ := h
  refine ⟨_, (pss_one (ps_ret (pe_ifExp (pt_truth (pv 0) (by intro _; rfl)) (pe_split (pv 0) pe_str) (pe_lst pa_nil)))), ?_⟩
  have big : sizeLine = 16777216 := sizeLine_eq
  refine ⟨_, rfl, _, ⟨by omega, rfl⟩, ?_⟩
  cases ws with
  | nil =>
    have e : (Txt.join "\n" []).length = 0 := by
      rw [TL.join_eq, TL.len_tl, TL.tl_join]
      rfl
    have e2 : (((Txt.join "\n" []).length : Int) != 0) = false := by
      rw [e]
      rfl
    rw [e2]
    exact iteF ⟨Nat.zero_le _, fun r hr => k r _ hr (Same.new hr) upd_same⟩
  | cons w r0 =>
    have n1 := join_one hw (by simp)
    have e : (((Txt.join "\n" (w :: r0)).length : Int) != 0) = true := by
      simp only [bne_iff_ne, ne_eq]
      omega
    rw [e]
    refine iteT ⟨_, rfl, ⟨_, rfl⟩, _, _, rfl, rfl, by decide +kernel, by omega, fun r hr => ?_⟩
    rw [split_back hw (by simp)]
    exact k r _ hr (Same.new hr) upd_same

end
end K18
end
section
set_option Elab.async false
set_option linter.all false
set_option maxRecDepth 100000
set_option maxHeartbeats 4000000
namespace K18
open PySem PySem.Spec PyProof.Rows L2
open PySem.W (ke_shaped_ints)
local macro_rules | `(tactic| walk_at "go") => `(tactic| first | refine ⟨_, rfl, ?_⟩ | refine .inl ⟨_, rfl, ?_⟩ | refine ⟨_, _, rfl, rfl, (by first | (show (0 : Int) < _; decide) | exact Or.inl ⟨by decide, by decide⟩ | exact Or.inr ⟨by decide, by decide⟩), ?_⟩ | refine ⟨_, _, rfl, rfl, ?_⟩)
section
variable {P : Program} {w : World} {K : PySem.W.Frag} {mg : Str → Option Value} {base : Heap}

/-- read_pointers(pointers) of right names -/
def spReadPointers (K : PySem.W.Frag) : Sp := fun vs H Q _ => ∃ (a : Addr) (ps : List Str), vs = [.ref a] ∧ (SqL K H a (ps.map V.str) ∨ SqT K H a (ps.map V.str)) ∧ CF.Names ps ∧ ∀ (r : Addr) (H' : Hp), Same H H' → SqT K H' r (ps.map V.str) → Q (.ref r) H'
theorem not_before {α : Type} {l : List α} (h : l.Nodup) {i : Nat} {x : α} (e : l[i]? = some x) : x ∉ l.take i := by
  intro hm
  have a := List.take_append_drop i l
  rw [← a] at h
  have hd : x ∈ l.drop i := List.mem_of_getElem? (i := 0) (by rw [List.getElem?_drop]; exact e)
  exact (List.nodup_append.mp h).2.2 x hm x hd rfl
abbrev s_read_pointers : Stmt := topS 18
theorem sc_read_pointers : FnScope ["pointers", "names", "index", "name"] ["pointers"] (defScope s_read_pointers) := ⟨rfl, rfl, rfl, by decide +kernel, rfl, by decide +kernel, by decide +kernel⟩
theorem ok_read_pointers (T : TxtP K mg) (D : Def K mg "read_pointers" s_read_pointers) (C_is_name : Cal P w K mg base 1 "is_name" ["word"] spName) : Cal P w K mg base 2 "read_pointers" ["pointers"] (spReadPointers K) := by
  refine D.cal sc_read_pointers (fun vs H Q E h => ?_) (fun _ _ _ _ _ _ us hl => match us, hl with | [_], _ => rfl) (fun f cdv A outer s H vs Q E hr h => ?_)
  · obtain ⟨a, ps, rfl, _⟩ := h
    rfl
  have hu := hu_of hr

  obtain ⟨a, ps, rfl, hs, nm, k⟩ := h
  refine ⟨_, (C8.pss_cut (ps_set (i := 1) sc_read_pointers.nd rfl (by first | exact Or.inl rfl | exact Or.inr rfl) (pe_callTy call_tuple_of (by rfl) T.f_tuple (by decide +kernel) (pa_cons (pv 0) pa_nil)))
      (C8.pss_cut (ps_if (pt_not (pt_truth (pv 1) (by intro _; rfl))) (pss_one ps_never) pss_nil)
      (pss_cons (ps_for PassesOwn.never rfl (pi_enumT (by rfl) T.f_enumerate (pa_cons (pv 1) pa_nil)) (pg_tup rfl (pgs_cons (pg_name (i := 2) sc_read_pointers.nd rfl (by first | exact Or.inl rfl | exact Or.inr rfl)) (pgs_cons (pg_name (i := 3) sc_read_pointers.nd rfl (by first | exact Or.inl rfl | exact Or.inr rfl)) pgs_nil))) (pss_one (ps_if (PW.pt (pw_or (pt_cmpR op_eq (pv 2) (pe_gint (by rfl) T.c_MOST_POINTERS) (nomark _)) (pw_or (pt_not (pt_val (pe_cal C_is_name (hr.mono (by decide)) rfl (pa_cons (pv 3) pa_nil)))) (pw_or1 (pt_cmpR op_in_seq (pv 3) (pe_slice sl_tup (pv 1) po_none (po_some (pv 2))) (by rfl)))))) (pss_one ps_never) pss_nil)))
      (pss_one (ps_ret (pv 1)))))), ?_⟩
  refine ⟨fun σ' H' => ∃ t, σ' = [some (.ref a), some (.ref t), none, none] ∧ Same H H' ∧ SqT K H' t (ps.map V.str), ?_, ?_⟩
  · refine ⟨_, rfl, a, ps.map V.str, rfl, ?_⟩
    rcases hs with h | h
    · exact .inl ⟨h, fun l hl => ⟨l, rfl, Same.new hl, SqT.of upd_same⟩⟩
    · exact .inr ⟨h, a, rfl, fun _ _ z => z, h⟩
  rintro σ' H1 ⟨t, rfl, s1, hT⟩
  obtain ⟨oks, nd, n1, n3⟩ := nm
  have ne : (!(ps.map V.str).isEmpty) = true := by
    cases ps with
    | nil => cases n1
    | cons _ _ => rfl
  refine ⟨fun σ' H' => σ' = [some (.ref a), some (.ref t), none, none] ∧ H' = H1, ?_, ?_⟩
  · refine ⟨_, rfl, _, .inr (.inl ⟨_, hT, rfl⟩), ?_⟩
    rw [ne]
    exact iteF ⟨rfl, rfl⟩
  rintro σ' H' ⟨rfl, rfl⟩
  refine ⟨_, rfl, t, _, rfl, hT, for_it walk_enumT (fun i σ H2 => ∃ v2 v3, σ = [some (.ref a), some (.ref t), v2, v3] ∧ Same H' H2) ⟨none, none, rfl, fun _ _ z => z⟩ (fun i σ H2 _ ⟨_, _, _, s2⟩ => s2.tup hT) ?_ ?_⟩
  · rintro i x σ H2 H3 hi ⟨v2, v3, rfl, s2⟩ ⟨T0, x1, x2, rfl, hT0, rfl, e1, e2⟩
    cases e1
    have e2' : (ps.map V.str)[i]? = some x2 := e2
    rw [List.getElem?_map] at e2'
    obtain ⟨z, hz, rfl⟩ := Option.map_eq_some_iff.mp e2'
    rw [List.length_map] at hi
    have s3 := s2.trans (Same.new (o := .tup [.int (i : Nat), .str z]) hT0)
    refine ⟨T0, _, rfl, SqT.of upd_same, rfl, _, _, rfl, _, _, rfl, rfl, ?_⟩
    generalize upd H2 T0 (.tup [.int (i : Nat), .str z]) = H4 at s3 ⊢
    refine ⟨_, rfl, rfl, _, rfl, ite2 (fun c => absurd (of_decide_eq_true c) (fun e => by have := V.int.inj e; omega)) (fun _ => ?_)⟩
    refine ⟨_, rfl, z, rfl, oks z (List.mem_of_getElem? hz), fun H5 s5 => ⟨true, rfl, ?_⟩⟩
    refine iteF ?_
    have s35 := s3.trans s5
    have cut : cutV (ps.map V.str) none (some ((i : Nat) : Int)) = (ps.take i).map V.str := by
      rw [CF.cut_to _ (by omega), ← List.map_take]
      rfl
    refine ⟨_, rfl, _, rfl, _, rfl, _, rfl, t, _, rfl, s35.tup hT, ?_, fun p hp => ⟨p, _, rfl, .inr (SqT.of upd_same), rfl, ?_, _, rfl, ?_⟩⟩
    · rintro ⟨_, h⟩
      unfold HT.sIx at h
      simp only [if_neg (show ¬ ((i : Nat) : Int) < 0 by omega), List.length_map, Int.toNat_natCast] at h
      omega
    · rw [cut]
      exact CF.flat_strs _
    · rw [if_neg (by decide), cut, CF.inV_strs, decide_eq_false (not_before nd hz)]
      exact iteF ⟨_, _, rfl, s35.trans (Same.new hp)⟩
  · rintro σ H2 ⟨v2, v3, rfl, s2⟩
    exact ⟨_, rfl, k t H2 (s1.trans s2) (s2.tup hT)⟩

end
end K18
end
section
set_option Elab.async false
set_option linter.all false
set_option maxRecDepth 100000
set_option maxHeartbeats 4000000
namespace K18
open PySem PySem.Spec PyProof.Rows L2
open PySem.W (ke_shaped_ints)
local macro_rules | `(tactic| walk_at "go") => `(tactic| first | refine ⟨_, rfl, ?_⟩ | refine .inl ⟨_, rfl, ?_⟩ | refine ⟨_, _, rfl, rfl, (by first | (show (0 : Int) < _; decide) | exact Or.inl ⟨by decide, by decide⟩ | exact Or.inr ⟨by decide, by decide⟩), ?_⟩ | refine ⟨_, _, rfl, rfl, ?_⟩)
section
variable {P : Program} {w : World} {K : PySem.W.Frag} {mg : Str → Option Value} {base : Heap}

/-- read_number(word, low, high) of a number within -/
def spReadNumber : Sp := fun vs H Q _ => ∃ (n lo hi : Int), vs = [.str (CF.num n), .int lo, .int hi] ∧ -100 ≤ n ∧ n ≤ 100 ∧ lo ≤ n ∧ n ≤ hi ∧ Q (.int n) H
def dig (n : Int) : Str := if Txt.startswith (CF.num n) "-" = true then cutS (CF.num n) (some 1) none else CF.num n
theorem num_all : ((List.range 201).all fun k => (fun n : Int => Txt.isdigit (dig n) && (decide ((dig n).length ≤ 3) && (!(Txt.startswith (dig n) "0" && !decide (CF.num n = "0")) && decide (PySem.intText? (CF.num n) = some n)))) ((k : Int) - 100)) = true := by decide +kernel
theorem num_ok {n : Int} (h0 : -100 ≤ n) (h1 : n ≤ 100) : Txt.isdigit (dig n) = true ∧ (dig n).length ≤ 3 ∧ (Txt.startswith (dig n) "0" && !decide (CF.num n = "0")) = false ∧ PySem.intText? (CF.num n) = some n := by
  have z := CF.small_all (p := fun n : Int => Txt.isdigit (dig n) && (decide ((dig n).length ≤ 3) && (!(Txt.startswith (dig n) "0" && !decide (CF.num n = "0")) && decide (PySem.intText? (CF.num n) = some n)))) num_all h0 h1
  simp only [Bool.and_eq_true, decide_eq_true_eq, Bool.not_eq_true'] at z
  exact z
abbrev s_read_number : Stmt := topS 20
theorem sc_read_number : FnScope ["word", "low", "high", "digits", "number"] ["word", "low", "high"] (defScope s_read_number) := ⟨rfl, rfl, rfl, by decide +kernel, rfl, by decide +kernel, by decide +kernel⟩
theorem ok_read_number (T : TxtP K mg) (D : Def K mg "read_number" s_read_number) : Cal P w K mg base 1 "read_number" ["word", "low", "high"] spReadNumber := by
  refine D.cal sc_read_number (fun vs H Q E h => ?_) (fun _ _ _ _ _ _ us hl => match us, hl with | [_, _, _], _ => rfl) (fun f cdv A outer s H vs Q E hr h => ?_)
  · obtain ⟨n, lo, hi, rfl, _⟩ := h
    rfl
  have hu := hu_of hr

  obtain ⟨n, lo, hi, rfl, n0, n1, l0, l1, k⟩ := h
  obtain ⟨d1, d2, d3, d4⟩ := num_ok n0 n1
  have hl := CF.num_len n0 n1
  have big : sizeLine = 16777216 := sizeLine_eq
  refine ⟨_, (C8.pss_cut (ps_set (i := 3) sc_read_number.nd rfl (by first | exact Or.inl rfl | exact Or.inr rfl) (pe_ifExp (pt_val (pe_m1 PySem.F.slot_str_startswith PySem.F.type_str_startswith mt_startswith (pv 0) pe_str)) (pe_slice sl_str (pv 0) (po_some pe_int) po_none) (pv 0)))
      (C8.pss_cut (ps_if (PW.pt (pw_or (pt_not (pt_val (pe_m0 PySem.F.slot_str_isdigit PySem.F.type_str_isdigit mt_isdigit (pv 3)))) (pw_or1 (pt_cmpR op_gt (pe_callB call_len (by rfl) T.f_len PySem.boot_len (pa_cons (pv 3) pa_nil)) (pe_gint (by rfl) T.c_LONGEST_NUMBER) (nomark _))))) (pss_one (ps_ret pe_non)) pss_nil)
      (C8.pss_cut (ps_if (PW.pt (pw_and (pt_val (pe_m1 PySem.F.slot_str_startswith PySem.F.type_str_startswith mt_startswith (pv 3) pe_str)) (pw_and1 (pt_cmpR op_ne (pv 0) pe_str (nomark _))))) (pss_one (ps_ret pe_non)) pss_nil)
      (pss_cons (ps_set (i := 4) sc_read_number.nd rfl (by first | exact Or.inl rfl | exact Or.inr rfl) (pe_callTy call_int_str (by rfl) T.f_int (by decide +kernel) (pa_cons (pv 0) pa_nil)))
      (pss_one (ps_ret (pe_ifExp (pt_chain op_le op_le (pv 1) (pv 4) (pv 2)) (pv 4) pe_non))))))), ?_⟩
  refine ⟨fun σ' H' => σ' = [some (.str (CF.num n)), some (.int lo), some (.int hi), some (.str (dig n)), none] ∧ H' = H, ?_, ?_⟩
  · refine ⟨_, rfl, ⟨_, rfl⟩, _, _, rfl, rfl, _, rfl, ite2 (fun c => ?_) (fun c => ?_)⟩
    · exact ⟨_, rfl, 1, rfl, _, rfl, by omega, by rw [show dig n = _ from if_pos c]; rfl, rfl⟩
    · exact ⟨_, rfl, by rw [show dig n = _ from if_neg c]; rfl, rfl⟩
  rintro σ' H' ⟨rfl, rfl⟩
  refine ⟨fun σ H => σ = [some (.str (CF.num n)), some (.int lo), some (.int hi), some (.str (dig n)), none] ∧ H = H', ?_, ?_⟩
  · refine ⟨_, rfl, ⟨_, rfl⟩, _, rfl, rfl, trivial, _, rfl, ?_⟩
    rw [d1]
    refine iteF ?_
    exact ⟨_, rfl, _, (dig n).length, rfl, ⟨by omega, rfl⟩, _, _, rfl, rfl, _, rfl, ite2 (fun c => absurd (of_decide_eq_true c) (by omega)) (fun _ => ⟨rfl, rfl⟩)⟩
  rintro σ' H ⟨rfl, rfl⟩
  refine ⟨fun σ H1 => σ = [some (.str (CF.num n)), some (.int lo), some (.int hi), some (.str (dig n)), none] ∧ H1 = H, ?_, ?_⟩
  · refine ⟨_, rfl, ⟨_, rfl⟩, _, _, rfl, rfl, _, rfl, ite2 (fun c => ?_) (fun _ => ⟨rfl, rfl⟩)⟩
    refine ⟨_, rfl, rfl, _, rfl, ?_⟩
    have e : CF.num n = "0" := by
      rw [c, Bool.true_and] at d3
      simpa using d3
    have e2 : decide (V.str (CF.num n) = V.str "0") = true := decide_eq_true (by rw [e])
    rw [e2]
    exact iteF ⟨rfl, rfl⟩
  rintro σ' H1 ⟨rfl, rfl⟩
  refine ⟨_, rfl, _, n, rfl, d4, by omega, ?_⟩
  refine ⟨_, rfl, _, rfl, _, _, rfl, rfl, _, rfl, ite2 (fun _ => ?_) (fun c => absurd (decide_eq_true l0) c)⟩
  exact ⟨_, rfl, _, _, rfl, rfl, _, rfl, ite2 (fun _ => ⟨_, rfl, k⟩) (fun c => absurd (decide_eq_true l1) c)⟩



/-- read_pointer(word, pointers): the place of the name, if it is one -/
def spReadPointer (K : PySem.W.Frag) : Sp := fun vs H Q _ => ∃ (z : Str) (a : Addr) (ps : List Str), vs = [.str z, .ref a] ∧ SqT K H a (ps.map V.str) ∧ CF.Names ps ∧ ((∃ i : Nat, ps[i]? = some z ∧ ∀ H', Same H H' → Q (.int (i : Nat)) H') ∨ (z ∉ ps ∧ ∀ H', Same H H' → Q .non H'))
/-- read_spot(word, pointers) of a spot -/
def spReadSpot (K : PySem.W.Frag) : Sp := fun vs H Q _ => ∃ (z : Str) (k : Int) (i : Nat) (a : Addr) (ps : List Str), vs = [.str (CF.spot z k), .ref a] ∧ SqT K H a (ps.map V.str) ∧ CF.Names ps ∧ ps[i]? = some z ∧ -30 ≤ k ∧ k ≤ 30 ∧ ∀ (r : Addr) (H' : Hp), Same H H' → H r = none → H' r = some (.tup [.int (i : Nat), .int k]) → Q (.ref r) H'
abbrev s_read_spot : Stmt := topS 22
theorem sc_read_spot : FnScope ["word", "pointers", "sign", "name", "found", "digits", "pointer", "number"] ["word", "pointers"] (defScope s_read_spot) := ⟨rfl, rfl, rfl, by decide +kernel, rfl, by decide +kernel, by decide +kernel⟩
theorem ok_read_spot (T : TxtP K mg) (D : Def K mg "read_spot" s_read_spot) (C_read_pointer : Cal P w K mg base 3 "read_pointer" ["word", "pointers"] (spReadPointer K)) (C_read_number : Cal P w K mg base 1 "read_number" ["word", "low", "high"] spReadNumber) : Cal P w K mg base 4 "read_spot" ["word", "pointers"] (spReadSpot K) := by
  refine D.cal sc_read_spot (fun vs H Q E h => ?_) (fun _ _ _ _ _ _ us hl => match us, hl with | [_, _], _ => rfl) (fun f cdv A outer s H vs Q E hr h => ?_)
  · obtain ⟨z, k, i, a, ps, rfl, _⟩ := h
    rfl
  have hu := hu_of hr

  obtain ⟨z, k, i, a, ps, rfl, hT, nm, hi, k0, k1, kk⟩ := h
  refine ⟨_, (C8.pss_cut (ps_set (i := 2) sc_read_spot.nd rfl (by first | exact Or.inl rfl | exact Or.inr rfl) (pe_ifExp (pt_cmpR op_in_sign pe_str (pv 0) (by rfl)) pe_str pe_str))
      (C8.pss_cut (ps_asg (pe_partition (pv 0) (pv 2)) (pg_tup rfl (pgs_cons (pg_name (i := 3) sc_read_spot.nd rfl (by first | exact Or.inl rfl | exact Or.inr rfl)) (pgs_cons (pg_name (i := 4) sc_read_spot.nd rfl (by first | exact Or.inl rfl | exact Or.inr rfl)) (pgs_cons (pg_name (i := 5) sc_read_spot.nd rfl (by first | exact Or.inl rfl | exact Or.inr rfl)) pgs_nil)))))
      (C8.pss_cut (ps_set (i := 6) sc_read_spot.nd rfl (by first | exact Or.inl rfl | exact Or.inr rfl) (pe_cal C_read_pointer (hr.mono (by decide)) rfl (pa_cons (pv 3) (pa_cons (pv 1) pa_nil))))
      (C8.pss_cut (ps_if (pt_cmpR op_isN (pv 6) pe_non (nomark _)) (pss_one (ps_ret pe_non)) pss_nil)
      (C8.pss_cut (ps_if (pt_not (pt_truth (pv 4) (by intro _; rfl))) (pss_one (ps_ret (pe_tup (pa_cons (pv 6) (pa_cons pe_int pa_nil))))) pss_nil)
      (C8.pss_cut (ps_set (i := 7) sc_read_spot.nd rfl (by first | exact Or.inl rfl | exact Or.inr rfl) (pe_cal C_read_number (hr.mono (by decide)) rfl (pa_cons (pv 5) (pa_cons pe_int (pa_cons (pe_gint (by rfl) T.c_FARTHEST_SPOT) pa_nil)))))
      (C8.pss_cut (ps_if (pt_cmpR op_isN (pv 7) pe_non (nomark _)) (pss_one (ps_ret pe_non)) pss_nil)
      (pss_one (ps_ret (pe_tup (pa_cons (pv 6) (pa_cons (pe_ifExp (pt_cmpR op_eq (pv 2) pe_str (nomark _)) (pv 7) (pe_un un_neg (pv 7))) pa_nil)))))))))))), ?_⟩
  have zm : z ∈ ps := List.mem_of_getElem? hi
  have hz := nm.1 z zm
  have sl := CF.spot_len (k := k) hz.hi (by omega) (by omega)
  have sg := CF.spot_sign hz (k := k) (by omega) (by omega)
  have sp := CF.spot_parts hz (k := k) (by omega) (by omega)
  have big : sizeLine = 16777216 := sizeLine_eq
  generalize hw : CF.spot z k = wd at sl sg sp ⊢
  generalize hf : (if k = 0 then ("" : Str) else CF.sgn k) = fo at sp
  generalize hd : (if k = 0 then ("" : Str) else CF.num (CF.ab k)) = dg at sp
  have i3 : i < ps.length := (List.getElem?_eq_some_iff.mp hi).1
  -- sign
  refine ⟨fun σ' H' => σ' = [some (.str wd), some (.ref a), some (.str (CF.sgn k)), none, none, none, none, none] ∧ H' = H, ?_, ?_⟩
  · refine ⟨_, rfl, 43, wd, rfl, rfl, _, rfl, ?_⟩
    rw [sg]
    unfold CF.sgn
    refine ite2 (fun c => ?_) (fun c => ?_)
    · exact ⟨by rw [if_pos (of_decide_eq_true c)]; rfl, rfl⟩
    · exact ⟨by rw [if_neg (fun e => c (decide_eq_true e))]; rfl, rfl⟩
  rintro σ' H' ⟨rfl, rfl⟩
  -- partition
  refine ⟨fun σ' H1 => σ' = [some (.str wd), some (.ref a), some (.str (CF.sgn k)), some (.str z), some (.str fo), some (.str dg), none, none] ∧ Same H' H1, ?_, ?_⟩
  · refine ⟨_, rfl, ⟨_, rfl⟩, _, rfl, _, _, rfl, rfl, ?_, by omega, fun tp htp => ⟨tp, _, rfl, SqT.of upd_same, rfl, _, _, rfl, _, _, rfl, _, _, rfl, rfl, ?_⟩⟩
    · unfold CF.sgn
      split <;> decide +kernel
    · rw [sp]
      exact ⟨rfl, Same.new htp⟩
  rintro σ' H1 ⟨rfl, s1⟩
  -- pointer
  refine ⟨fun σ' H2 => σ' = [some (.str wd), some (.ref a), some (.str (CF.sgn k)), some (.str z), some (.str fo), some (.str dg), some (.int (i : Nat)), none] ∧ Same H' H2, ?_, ?_⟩
  · refine ⟨_, rfl, _, rfl, z, a, ps, rfl, s1.tup hT, nm, .inl ⟨i, hi, fun H2 s2 => ⟨rfl, s1.trans s2⟩⟩⟩
  rintro σ' H2 ⟨rfl, s2⟩
  refine ⟨fun σ' H3 => σ' = [some (.str wd), some (.ref a), some (.str (CF.sgn k)), some (.str z), some (.str fo), some (.str dg), some (.int (i : Nat)), none] ∧ H3 = H2, ?_, ?_⟩
  · refine ⟨_, rfl, rfl, _, rfl, ite2 (fun c => absurd (of_decide_eq_true c) (fun e => by cases e)) (fun _ => ⟨rfl, rfl⟩)⟩
  rintro σ' H3 ⟨rfl, rfl⟩
  -- found
  refine ⟨fun σ' H4 => σ' = [some (.str wd), some (.ref a), some (.str (CF.sgn k)), some (.str z), some (.str fo), some (.str dg), some (.int (i : Nat)), none] ∧ H4 = H3 ∧ k ≠ 0, ?_, ?_⟩
  · by_cases k0' : k = 0
    · rw [if_pos k0'] at hf
      subst hf
      have e : ("" : Str).length = 0 := rfl
      refine ⟨_, rfl, _, ⟨by rw [e]; omega, rfl⟩, ?_⟩
      refine iteT ⟨_, rfl, by show 2 ≤ sizeLine; decide, fun r hr => ?_⟩
      refine kk r _ (s2.put (s2.free hr)) (s2.free hr) ?_
      rw [k0']
      exact upd_same
    · rw [if_neg k0'] at hf
      have e : fo.length = 1 := by
        rw [← hf]
        unfold CF.sgn
        split <;> rfl
      refine ⟨_, rfl, _, ⟨by rw [e]; omega, rfl⟩, ?_⟩
      have e2 : ((fo.length : Int) != 0) = true := by
        rw [e]
        rfl
      rw [e2]
      exact iteF ⟨rfl, rfl, k0'⟩
  rintro σ' H4 ⟨rfl, rfl, kn⟩
  rw [if_neg kn] at hd
  have an : 1 ≤ CF.ab k ∧ CF.ab k ≤ 30 := by
    unfold CF.ab
    split <;> omega
  refine ⟨fun σ' H5 => σ' = [some (.str wd), some (.ref a), some (.str (CF.sgn k)), some (.str z), some (.str fo), some (.str dg), some (.int (i : Nat)), some (.int (CF.ab k))] ∧ H5 = H4, ?_, ?_⟩
  · exact ⟨_, rfl, CF.ab k, 1, 30, by rw [← hd]; rfl, by omega, by omega, an.1, an.2, rfl, rfl⟩
  rintro σ' H5 ⟨rfl, rfl⟩
  refine ⟨fun σ' H6 => σ' = [some (.str wd), some (.ref a), some (.str (CF.sgn k)), some (.str z), some (.str fo), some (.str dg), some (.int (i : Nat)), some (.int (CF.ab k))] ∧ H6 = H5, ?_, ?_⟩
  · refine ⟨_, rfl, rfl, _, rfl, ite2 (fun c => absurd (of_decide_eq_true c) (fun e => by cases e)) (fun _ => ⟨rfl, rfl⟩)⟩
  rintro σ' H6 ⟨rfl, rfl⟩
  have fin : ∀ r, H6 r = none → Q (.ref r) (upd H6 r (.tup [.int (i : Nat), .int k])) := fun r hr => kk r _ (s2.put (s2.free hr)) (s2.free hr) upd_same
  refine ⟨_, rfl, _, rfl, rfl, _, rfl, ?_⟩
  by_cases kp : 0 < k
  · have e : CF.sgn k = "+" := if_pos kp
    have e2 : CF.ab k = k := if_neg (by omega)
    rw [decide_eq_true (by rw [e]), e2]
    exact iteT ⟨_, rfl, by show 2 ≤ sizeLine; decide, fin⟩
  · have e : CF.sgn k = "-" := if_neg kp
    have e2 : -(CF.ab k) = k := by
      unfold CF.ab
      rw [if_pos (by omega)]
      omega
    have ne : ¬ (V.str (CF.sgn k) = V.str "+") := by
      rw [e]
      intro h
      exact absurd (V.str.inj h) (by decide)
    rw [decide_eq_false ne]
    refine iteF ⟨_, rfl, _, rfl, by show 2 ≤ sizeLine; decide, ?_⟩
    intro r hr
    show Q (.ref r) (upd H6 r (.tup [.int (i : Nat), .int (-(CF.ab k))]))
    rw [e2]
    exact fin r hr

end
end K18
end
section
set_option Elab.async false
set_option linter.all false
set_option maxRecDepth 100000
set_option maxHeartbeats 4000000
namespace K18
open PySem PySem.Spec PyProof.Rows L2
open PySem.W (ke_shaped_ints)
local macro_rules | `(tactic| walk_at "go") => `(tactic| first | refine ⟨_, rfl, ?_⟩ | refine .inl ⟨_, rfl, ?_⟩ | refine ⟨_, _, rfl, rfl, (by first | (show (0 : Int) < _; decide) | exact Or.inl ⟨by decide, by decide⟩ | exact Or.inr ⟨by decide, by decide⟩), ?_⟩ | refine ⟨_, _, rfl, rfl, ?_⟩)
section
variable {P : Program} {w : World} {K : PySem.W.Frag} {mg : Str → Option Value} {base : Heap}
abbrev s_read_pointer : Stmt := topS 21
theorem sc_read_pointer : FnScope ["word", "pointers", "index", "name"] ["word", "pointers"] (defScope s_read_pointer) := ⟨rfl, rfl, rfl, by decide +kernel, rfl, by decide +kernel, by decide +kernel⟩
theorem ok_read_pointer (T : TxtP K mg) (D : Def K mg "read_pointer" s_read_pointer) : Cal P w K mg base 3 "read_pointer" ["word", "pointers"] (spReadPointer K) := by
  refine D.cal sc_read_pointer (fun vs H Q E h => ?_) (fun _ _ _ _ _ _ us hl => match us, hl with | [_, _], _ => rfl) (fun f cdv A outer s H vs Q E hr h => ?_)
  · obtain ⟨z, a, ps, rfl, _⟩ := h
    rfl
  have hu := hu_of hr

  obtain ⟨z, a, ps, rfl, hT, nm, alt⟩ := h
  refine ⟨_, (pss_cons (ps_for PassesOwn.never rfl (pi_enumT (by rfl) T.f_enumerate (pa_cons (pv 1) pa_nil)) (pg_tup rfl (pgs_cons (pg_name (i := 2) sc_read_pointer.nd rfl (by first | exact Or.inl rfl | exact Or.inr rfl)) (pgs_cons (pg_name (i := 3) sc_read_pointer.nd rfl (by first | exact Or.inl rfl | exact Or.inr rfl)) pgs_nil))) (pss_one (ps_if (pt_cmpR op_eq (pv 3) (pv 0) (nomark _)) (pss_one (ps_ret (pv 2))) pss_nil)))
      (pss_one (ps_ret pe_non))), ?_⟩
  obtain ⟨oks, nd, n1, n3⟩ := nm
  refine ⟨_, rfl, a, _, rfl, hT, for_it walk_enumT (fun i σ H2 => ∃ v2 v3, σ = [some (.str z), some (.ref a), v2, v3] ∧ Same H H2 ∧ z ∉ ps.take i) ⟨none, none, rfl, fun _ _ z => z, by simp⟩ (fun i σ H2 _ ⟨_, _, _, s2, _⟩ => s2.tup hT) ?_ ?_⟩
  · rintro i x σ H2 H3 hi ⟨v2, v3, rfl, s2, no⟩ ⟨T0, x1, x2, rfl, hT0, rfl, e1, e2⟩
    cases e1
    have e2' : (ps.map V.str)[i]? = some x2 := e2
    rw [List.getElem?_map] at e2'
    obtain ⟨y, hy, rfl⟩ := Option.map_eq_some_iff.mp e2'
    have s3 := s2.trans (Same.new (o := .tup [.int (i : Nat), .str y]) hT0)
    refine ⟨T0, _, rfl, SqT.of upd_same, rfl, _, _, rfl, _, _, rfl, rfl, ?_⟩
    generalize upd H2 T0 (.tup [.int (i : Nat), .str y]) = H4 at s3 ⊢
    refine ⟨_, rfl, _, rfl, rfl, _, rfl, ite2 (fun c => ?_) (fun c => ?_)⟩
    · have e := V.str.inj (of_decide_eq_true c)
      rw [e] at hy
      rcases alt with ⟨j, hj, k⟩ | ⟨nin, k⟩
      · have ij : i = j := by
          have hi2 := (List.getElem?_eq_some_iff.mp hy).1
          exact (List.getElem?_inj hi2 nd).mp (hy.trans hj.symm)
        rw [← ij] at k
        exact ⟨_, rfl, k _ s3⟩
      · exact absurd (List.mem_of_getElem? hy) nin
    · refine ⟨_, _, rfl, s3, ?_⟩
      rw [List.take_add_one, hy]
      simp only [Option.toList_some, List.mem_append, List.mem_singleton, not_or]
      exact ⟨no, fun e => c (decide_eq_true (by rw [e]))⟩
  · rintro σ H2 ⟨v2, v3, rfl, s2, no⟩
    have nin : z ∉ ps := by
      have : (ps.map V.str).length = ps.length := List.length_map ..
      rw [this, List.take_length] at no
      exact no
    rcases alt with ⟨j, hj, k⟩ | ⟨_, k⟩
    · exact absurd (List.mem_of_getElem? hj) nin
    · exact k _ s2

end
end K18
end
section
set_option Elab.async false
set_option linter.all false
set_option maxRecDepth 100000
set_option maxHeartbeats 4000000
namespace L2
open PySem PySem.Spec PyProof.Rows
/-! raise X(): an own class whose __init__ takes nothing and keeps no field -/
section
variable {X : Cx}
theorem mk_endN {pins : List (Addr × Obj)} {σ : St} {H1 H2 : Hp} {Q : XK} {hp hp2 h2 : Heap} {g1 g2 : Array GenState} {d1 d2 : Drawn} {t1 t2 : Nat} {os1 os2 : OsState} {a C : Addr} (T : Raises X (.ref C)) (I1 : Inv X pins σ H1 ⟨hp, g1, d1, t1, os1⟩)
    (ha : hp.objs.size ≤ a) (k : ∀ b o, hp.get? b = some o → hp2.get? b = some o) (un : Un (frs X.stack) [] (upd H1 a (exo a C none)) H2 hp2 h2) (hok : HOk X.prog X.w H2 h2) (ho : os2 = os1) (hb : AllBare g2)
    (ea : H2 a = some (exo a C none)) (q : Q (.ref C) none (del H2 a)) : MkP X pins σ Q (.ref a) ⟨h2, g2, d2, t2, os2⟩ := by
  obtain ⟨t0, hoe⟩ := exo_at hok ea
  have hn : H1 a = none := I1.hok.fresh ha
  obtain ⟨G, g1', g2'⟩ := restrict h2 fun b => decide (b ≠ a)
  have gk : ∀ b, b ≠ a → G.get? b = h2.get? b := fun b hb => g1' b (decide_eq_true hb)
  have ge : G.get? a = none := g2' a (by simp)
  have nha : ∀ {b : Addr} {o : Obj}, hp.get? b = some o → b ≠ a := fun {b o} z => Nat.ne_of_lt (Nat.lt_of_lt_of_le (Heap.lt_size z) ha)
  have up : ∀ {b : Addr}, b ≠ a → H1 b = none → upd H1 a (exo a C none) b = none := fun {b} hb n => by rw [upd_ne hb]; exact n
  have U : Un (frs X.stack) [] H1 (del H2 a) hp G := {
    keep := fun b o z n hf hx => by
      rw [gk b (nha z)]
      exact un.keep b o (k b o z) (up (nha z) n) hf hx
    slot := fun b o z n hf hx => by
      rw [gk b (nha z)]
      exact un.slot b o (k b o z) (up (nha z) n) hf hx
    free := fun b o z n hx => by
      rw [del_ne (nha z)]
      exact un.free b o (k b o z) (up (nha z) n) hx
    there := fun b o z hx => by
      rw [gk b (nha z)]
      exact un.there b o (k b o z) hx
    tups := fun b xs z => by
      rw [del_ne (ne_of_none z hn)]
      exact un.tups b xs (by rw [upd_ne (ne_of_none z hn)]; exact z)
    frzs := fun b o v z => by
      rw [del_ne (ne_of_none z hn)]
      exact un.frzs b o v (by rw [upd_ne (ne_of_none z hn)]; exact z)
    tbls := fun b ps z => by
      rw [del_ne (ne_of_none z hn)]
      exact un.tbls b ps (by rw [upd_ne (ne_of_none z hn)]; exact z) }
  have hok3 : HOk X.prog X.w (del H2 a) G := fun b o z => by
    have hba : b ≠ a := fun e => by
      rw [e, del_same] at z
      cases z
    rw [del_ne hba] at z
    have noa : ∀ {c : Addr}, H2 c = some (.own b) → c ≠ a := fun {c} hc => at_ne ea hc exo_own
    exact (hok b o z).stay (fun c v hc y => by
        have hca : c ≠ a := by
          rcases hc with hc | hc
          · rw [hc]
            exact hba
          · exact noa hc
        rw [gk c hca]
        exact y)
      (fun c hc => by rw [del_ne (noa hc)]; exact hc) (fun c xs hc => by rw [del_ne (at_ne ea hc exo_tup)]; exact hc)
  have J : Inv X pins σ (del H2 a) ⟨G, g2, d2, t2, os2⟩ := I1.call' (ch := []) ho U hok3 hb (fun b z => absurd z (by simp))
  exact ⟨a, _, _, ⟨G, g2, d2, t2, os2⟩, _, .ref C, none, rfl, J, fun b o z => (gk b (fun e => by rw [e, ge] at z; cases z)).symm.trans z, ge, hoe, ⟨rfl, rfl⟩, rfl, rfl, del_same, rfl, hb, T, q⟩
def tMkN (C : Addr) (sp : Sp) : St → Hp → XK → Prop := fun _ H1 Q => ∀ a, H1 a = none → sp [.ref a] (upd H1 a (exo a C none)) (fun v H2 => v = .non ∧ H2 a = some (exo a C none) ∧ Q (.ref C) none (del H2 a)) (fun _ _ _ => False)
theorem pmk_oexN {CX : CXT} {x : Str} {C fI : Addr} {k : Nat} {fd : FuncData} {ps : List Str} {sp : Sp} {p pos : Pos} (T : OexC X.K C) (iC : PySem.W.findIn X.K (.ref C) "__init__" = some (some (.ref fI))) (tI : PySem.W.typeIn X.K (.ref fI) = some (.type "function"))
    (F1 : FnOk X.prog X.w X.K X.mg X.base CX k fI fd ps sp) (hr : Room (k + 1) X.A) (hb : Binds X.K fd ps []) (hx : Passes CX X (fun _ _ _ => False)) (hg : Gl X x) (hm : X.mg x = some (.ref C))
    (hdb : (x == ("__debug__" : Str)) = false := by decide) : PMk X (.Call (.Name x p) [] [] pos) (tMkN C sp) := by
  intro pins s σ H Q I q1
  obtain ⟨nm, q, N, bs, bm, sn, sub, ab, col, dd, k0, k1, k2, k3, k5, hC, hbm⟩ := T.cls
  refine wpAny_Call_Name_kw (ld_glob I hg hm (PySem.W.callWith_K0 I.kIn T.kC ?_) hdb)
  show wpAny _ _ (call (.ref C) []) _ _ _
  obtain ⟨hp, g, dr, tk, os⟩ := s
  have hsz : hp.objs.size ≤ hp.objs.size + 1 := Nat.le_succ _
  have hn : H (hp.objs.size + 1) = none := I.hok.fresh hsz
  have hq := q1 (hp.objs.size + 1) hn
  have kk : ∀ b o, hp.get? b = some o → ((hp.push (PySem.W.kdv_tup [])).push (PySem.HandSPX.excO C hp.objs.size)).get? b = some o := fun b o e => Heap.get?_push_of_some _ (Heap.get?_push_of_some _ e)
  have hget : ((hp.push (PySem.W.kdv_tup [])).push (PySem.HandSPX.excO C hp.objs.size)).get? (hp.objs.size + 1) = some (PySem.HandSPX.excO C hp.objs.size) := by heap_get
  have I2 : Inv X pins σ (upd H (hp.objs.size + 1) (exo (hp.objs.size + 1) C none)) ⟨(hp.push (PySem.W.kdv_tup [])).push (PySem.HandSPX.excO C hp.objs.size), g, dr, tk, os⟩ :=
    I.laid (t' := tk) (a := hp.objs.size + 1) (o := exo (hp.objs.size + 1) C none) (h' := (hp.push (PySem.W.kdv_tup [])).push (PySem.HandSPX.excO C hp.objs.size)) kk hsz (exo_ok hget)
  have r2 : Vals [V.ref (hp.objs.size + 1)] [Value.ref (hp.objs.size + 1)] := .cons rfl .nil
  have hl : [Value.ref (hp.objs.size + 1)].length = ps.length := by
    have e := r2.length
    rw [F1.len _ _ _ _ hq] at e
    exact e.symm
  refine wpAny_call (PySem.HandSPX.call_own F.excBase_ValueError (fun Y => PySem.HandSPX.refsVE_contains Y bm hbm) (I.kIn _ _ hC) (PySem.W.looks_findIn I.kIn iC) (fun self => PySem.W.bind_fn I.kIn self tI) (Nat.zero_le _)
    (codeAny_mono (F1.run _ X.stack _ _ ⟨[Value.ref (hp.objs.size + 1)], []⟩ [Value.ref (hp.objs.size + 1)] _ _ (fun _ _ _ => False) (hr.make C [] []) (I2.env0.make C [] []) (by
      have := hb ⟨(hp.push (PySem.W.kdv_tup [])).push (PySem.HandSPX.excO C hp.objs.size), g, dr, tk, os⟩ [Value.ref (hp.objs.size + 1)] I2.kIn (by simpa using hl)
      simpa using this) r2 hq) fun r s' hq' => ?_))
  cases r with
  | error er => exact hx pins σ _ _ er s' I2 hq'
  | ok fl =>
    cases fl with
    | ret u =>
      obtain ⟨v, H2, os2, bare2, un2, hok2, rv, ev, ea, q2⟩ := hq'
      subst ev
      obtain ⟨h2, g2, d2, t2, os'⟩ := s'
      exact ⟨rv, mk_endN (raises_own T.exC T.tyC) I hsz kk un2 hok2 os2 bare2 ea q2⟩
    | next => exact False.elim hq'
    | brk => exact False.elim hq'
    | cont => exact False.elim hq'
end
end L2
end
section
set_option Elab.async false
set_option linter.all false
set_option maxRecDepth 100000
set_option maxHeartbeats 4000000
namespace K18
open PySem PySem.Spec PyProof.Rows L2
open PySem.W (ke_shaped_ints)
local macro_rules | `(tactic| walk_at "go") => `(tactic| first | refine ⟨_, rfl, ?_⟩ | refine .inl ⟨_, rfl, ?_⟩ | refine ⟨_, _, rfl, rfl, (by first | (show (0 : Int) < _; decide) | exact Or.inl ⟨by decide, by decide⟩ | exact Or.inr ⟨by decide, by decide⟩), ?_⟩ | refine ⟨_, _, rfl, rfl, ?_⟩)
section
variable {P : Program} {w : World} {K : PySem.W.Frag} {mg : Str → Option Value} {base : Heap}

theorem fit2 {x y : Str} {a b : Nat} (hx : x.length ≤ a) (hy : y.length ≤ b) : (x ++ y).length ≤ a + b := by
  rw [len_app]
  omega
theorem fit_line {x : Str} {a : Nat} (h : x.length ≤ a) (ha : a ≤ 1000000) : x.length ≤ sizeLine := by
  rw [sizeLine_eq]
  omega
/-- what a field's value must be, so that the error's text can be written -/
def okI (x : V) (_ : Hp) : Prop := ∃ i : Int, x = .int i ∧ i.natAbs.log2 < 1920
def okS (x : V) (_ : Hp) : Prop := ∃ y : Str, x = .str y ∧ y.length ≤ 200
def okT (K : PySem.W.Frag) (x : V) (H : Hp) : Prop := ∃ (q : Addr) (l : List Int), x = .ref q ∧ SqT K H q (l.map V.int) ∧ (∀ i ∈ l, i.natAbs.log2 < 1920) ∧ l.length ≤ 100
/-- C.__init__(self, x): the field f is kept -/
def spIni (C : Addr) (f : Str) (ok : V → Hp → Prop) : Sp := fun vs H Q _ => ∃ (a : Addr) (x : V), vs = [.ref a, x] ∧ H a = some (exo a C none) ∧ ok x H ∧ ∀ dx, H dx = none → dx ≠ a → Q .non (upd (upd H dx (exd dx [(f, x)])) a (exo a C (some dx)))
def spIni0 (C : Addr) : Sp := fun vs H Q _ => ∃ a : Addr, vs = [.ref a] ∧ H a = some (exo a C none) ∧ Q .non H
/-- the base of the errors, as the top has made it -/
structure TxtE (K : PySem.W.Frag) (mg : Str → Option Value) (B : Addr) : Prop where
  f_tuple : mg "tuple" = none
  g_PartlyError : mg "PartlyError" = some (.ref B)
  r_PartlyError : ClX.CRead K B (.type "type")
  i_PartlyError : PySem.W.findCls K (.ref B) (.type "type") "__init__" = some (.val (.builtin "ValueError.__init__"))



abbrev s_BadPointers : Stmt := inClass (topS 3) 0
theorem sc_BadPointers : FnScope ["self", "index"] ["self", "index"] (defScope s_BadPointers) := ⟨rfl, rfl, rfl, by decide +kernel, rfl, by decide +kernel, by decide +kernel⟩
theorem ok_BadPointers {B C f : Addr} {fd : FuncData} (T : TxtE K mg B) (F : FunD K "__init__" "BadPointers.__init__" (defArgs s_BadPointers) (defBody s_BadPointers) (defScope s_BadPointers) [] [] f fd) (O : OexC K C) (hno : PySem.W.findIn K (.ref C) "index" = some none) : FnOk P w K mg base CX0 1 f fd ["self", "index"] (spIni C "index" okI) := by
  refine F.ok sc_BadPointers (fun vs H Q E h => by obtain ⟨a, x, rfl, _⟩ := h; rfl) (fun cdv A outer s H vs Q E hr h => ?_)
  suffices z : ∃ t, PSs (cxOf CX0 P w K mg base ["self", "index"] "BadPointers.__init__" (defScope s_BadPointers) f cdv A outer s H E).nox (defBody s_BadPointers) t ∧ t { nx := fun _ H' => Q .non H', rt := Q } (start ["self", "index"] vs) H by
    obtain ⟨t, h1, h2⟩ := z
    exact ⟨t, h1.nox, h2⟩

  obtain ⟨a, x, rfl, ha, ⟨i, rfl, hi⟩, k⟩ := h
  refine ⟨_, (pss_cons (ps_expr (pe_binit (by rfl) T.g_PartlyError T.r_PartlyError T.i_PartlyError (pa_cons (pv 0) (pa_cons (pe_joined (.cons pe_str (.cons (pe_fmt (pv 1)) (.cons pe_str .nil)))) pa_nil))))
      (pss_one (ps_ost (pv 0) (pv 1)))), ?_⟩
  refine ⟨_, rfl, _, rfl, fit_line (a := 1000) (by decide +kernel) (by decide), _, rfl, .inr ⟨i, rfl, hi, _, rfl, fit_line (fit2 (a := 1000) (by decide +kernel) (int_text_len_1921 hi)) (by decide), _, rfl, fit_line (fit2 (fit2 (a := 1000) (by decide +kernel) (int_text_len_1921 hi)) (b := 1000) (by decide +kernel)) (by decide), a, C, _, rfl, (by show 1 ≤ 1000; decide), O, ha, ?_⟩⟩
  exact ⟨_, rfl, _, rfl, a, C, rfl, O, hno, .inl ⟨ha, k⟩⟩


abbrev s_BadProgram : Stmt := inClass (topS 4) 0
theorem sc_BadProgram : FnScope ["self", "line"] ["self", "line"] (defScope s_BadProgram) := ⟨rfl, rfl, rfl, by decide +kernel, rfl, by decide +kernel, by decide +kernel⟩
theorem ok_BadProgram {B C f : Addr} {fd : FuncData} (T : TxtE K mg B) (F : FunD K "__init__" "BadProgram.__init__" (defArgs s_BadProgram) (defBody s_BadProgram) (defScope s_BadProgram) [] [] f fd) (O : OexC K C) (hno : PySem.W.findIn K (.ref C) "line" = some none) : FnOk P w K mg base CX0 1 f fd ["self", "line"] (spIni C "line" okI) := by
  refine F.ok sc_BadProgram (fun vs H Q E h => by obtain ⟨a, x, rfl, _⟩ := h; rfl) (fun cdv A outer s H vs Q E hr h => ?_)
  suffices z : ∃ t, PSs (cxOf CX0 P w K mg base ["self", "line"] "BadProgram.__init__" (defScope s_BadProgram) f cdv A outer s H E).nox (defBody s_BadProgram) t ∧ t { nx := fun _ H' => Q .non H', rt := Q } (start ["self", "line"] vs) H by
    obtain ⟨t, h1, h2⟩ := z
    exact ⟨t, h1.nox, h2⟩

  obtain ⟨a, x, rfl, ha, ⟨i, rfl, hi⟩, k⟩ := h
  refine ⟨_, (pss_cons (ps_expr (pe_binit (by rfl) T.g_PartlyError T.r_PartlyError T.i_PartlyError (pa_cons (pv 0) (pa_cons (pe_joined (.cons pe_str (.cons (pe_fmt (pv 1)) (.cons pe_str .nil)))) pa_nil))))
      (pss_one (ps_ost (pv 0) (pv 1)))), ?_⟩
  refine ⟨_, rfl, _, rfl, fit_line (a := 1000) (by decide +kernel) (by decide), _, rfl, .inr ⟨i, rfl, hi, _, rfl, fit_line (fit2 (a := 1000) (by decide +kernel) (int_text_len_1921 hi)) (by decide), _, rfl, fit_line (fit2 (fit2 (a := 1000) (by decide +kernel) (int_text_len_1921 hi)) (b := 1000) (by decide +kernel)) (by decide), a, C, _, rfl, (by show 1 ≤ 1000; decide), O, ha, ?_⟩⟩
  exact ⟨_, rfl, _, rfl, a, C, rfl, O, hno, .inl ⟨ha, k⟩⟩


abbrev s_BadPlaces : Stmt := inClass (topS 5) 0
theorem sc_BadPlaces : FnScope ["self"] ["self"] (defScope s_BadPlaces) := ⟨rfl, rfl, rfl, by decide +kernel, rfl, by decide +kernel, by decide +kernel⟩
theorem ok_BadPlaces {B C f : Addr} {fd : FuncData} (T : TxtE K mg B) (F : FunD K "__init__" "BadPlaces.__init__" (defArgs s_BadPlaces) (defBody s_BadPlaces) (defScope s_BadPlaces) [] [] f fd) (O : OexC K C) : FnOk P w K mg base CX0 1 f fd ["self"] (spIni0 C) := by
  refine F.ok sc_BadPlaces (fun vs H Q E h => by obtain ⟨a, rfl, _⟩ := h; rfl) (fun cdv A outer s H vs Q E hr h => ?_)
  suffices z : ∃ t, PSs (cxOf CX0 P w K mg base ["self"] "BadPlaces.__init__" (defScope s_BadPlaces) f cdv A outer s H E).nox (defBody s_BadPlaces) t ∧ t { nx := fun _ H' => Q .non H', rt := Q } (start ["self"] vs) H by
    obtain ⟨t, h1, h2⟩ := z
    exact ⟨t, h1.nox, h2⟩

  obtain ⟨a, rfl, ha, k⟩ := h
  refine ⟨_, (pss_one (ps_expr (pe_binit (by rfl) T.g_PartlyError T.r_PartlyError T.i_PartlyError (pa_cons (pv 0) (pa_cons pe_str pa_nil))))), ?_⟩
  exact ⟨_, rfl, a, C, _, rfl, by decide, O, ha, k⟩


abbrev s_BadCount : Stmt := inClass (topS 6) 0
theorem sc_BadCount : FnScope ["self", "count"] ["self", "count"] (defScope s_BadCount) := ⟨rfl, rfl, rfl, by decide +kernel, rfl, by decide +kernel, by decide +kernel⟩
theorem ok_BadCount {B C f : Addr} {fd : FuncData} (T : TxtE K mg B) (F : FunD K "__init__" "BadCount.__init__" (defArgs s_BadCount) (defBody s_BadCount) (defScope s_BadCount) [] [] f fd) (O : OexC K C) (hno : PySem.W.findIn K (.ref C) "count" = some none) : FnOk P w K mg base CX0 1 f fd ["self", "count"] (spIni C "count" okI) := by
  refine F.ok sc_BadCount (fun vs H Q E h => by obtain ⟨a, x, rfl, _⟩ := h; rfl) (fun cdv A outer s H vs Q E hr h => ?_)
  suffices z : ∃ t, PSs (cxOf CX0 P w K mg base ["self", "count"] "BadCount.__init__" (defScope s_BadCount) f cdv A outer s H E).nox (defBody s_BadCount) t ∧ t { nx := fun _ H' => Q .non H', rt := Q } (start ["self", "count"] vs) H by
    obtain ⟨t, h1, h2⟩ := z
    exact ⟨t, h1.nox, h2⟩

  obtain ⟨a, x, rfl, ha, ⟨i, rfl, hi⟩, k⟩ := h
  refine ⟨_, (pss_cons (ps_expr (pe_binit (by rfl) T.g_PartlyError T.r_PartlyError T.i_PartlyError (pa_cons (pv 0) (pa_cons (pe_joined (.cons pe_str (.cons (pe_fmt (pv 1)) (.cons pe_str .nil)))) pa_nil))))
      (pss_one (ps_ost (pv 0) (pv 1)))), ?_⟩
  refine ⟨_, rfl, _, rfl, fit_line (a := 1000) (by decide +kernel) (by decide), _, rfl, .inr ⟨i, rfl, hi, _, rfl, fit_line (fit2 (a := 1000) (by decide +kernel) (int_text_len_1921 hi)) (by decide), _, rfl, fit_line (fit2 (fit2 (a := 1000) (by decide +kernel) (int_text_len_1921 hi)) (b := 1000) (by decide +kernel)) (by decide), a, C, _, rfl, (by show 1 ≤ 1000; decide), O, ha, ?_⟩⟩
  exact ⟨_, rfl, _, rfl, a, C, rfl, O, hno, .inl ⟨ha, k⟩⟩


abbrev s_OtherPointers : Stmt := inClass (topS 7) 0
theorem sc_OtherPointers : FnScope ["self"] ["self"] (defScope s_OtherPointers) := ⟨rfl, rfl, rfl, by decide +kernel, rfl, by decide +kernel, by decide +kernel⟩
theorem ok_OtherPointers {B C f : Addr} {fd : FuncData} (T : TxtE K mg B) (F : FunD K "__init__" "OtherPointers.__init__" (defArgs s_OtherPointers) (defBody s_OtherPointers) (defScope s_OtherPointers) [] [] f fd) (O : OexC K C) : FnOk P w K mg base CX0 1 f fd ["self"] (spIni0 C) := by
  refine F.ok sc_OtherPointers (fun vs H Q E h => by obtain ⟨a, rfl, _⟩ := h; rfl) (fun cdv A outer s H vs Q E hr h => ?_)
  suffices z : ∃ t, PSs (cxOf CX0 P w K mg base ["self"] "OtherPointers.__init__" (defScope s_OtherPointers) f cdv A outer s H E).nox (defBody s_OtherPointers) t ∧ t { nx := fun _ H' => Q .non H', rt := Q } (start ["self"] vs) H by
    obtain ⟨t, h1, h2⟩ := z
    exact ⟨t, h1.nox, h2⟩

  obtain ⟨a, rfl, ha, k⟩ := h
  refine ⟨_, (pss_one (ps_expr (pe_binit (by rfl) T.g_PartlyError T.r_PartlyError T.i_PartlyError (pa_cons (pv 0) (pa_cons pe_str pa_nil))))), ?_⟩
  exact ⟨_, rfl, a, C, _, rfl, by decide, O, ha, k⟩


abbrev s_HasRegisters : Stmt := inClass (topS 8) 0
theorem sc_HasRegisters : FnScope ["self"] ["self"] (defScope s_HasRegisters) := ⟨rfl, rfl, rfl, by decide +kernel, rfl, by decide +kernel, by decide +kernel⟩
theorem ok_HasRegisters {B C f : Addr} {fd : FuncData} (T : TxtE K mg B) (F : FunD K "__init__" "HasRegisters.__init__" (defArgs s_HasRegisters) (defBody s_HasRegisters) (defScope s_HasRegisters) [] [] f fd) (O : OexC K C) : FnOk P w K mg base CX0 1 f fd ["self"] (spIni0 C) := by
  refine F.ok sc_HasRegisters (fun vs H Q E h => by obtain ⟨a, rfl, _⟩ := h; rfl) (fun cdv A outer s H vs Q E hr h => ?_)
  suffices z : ∃ t, PSs (cxOf CX0 P w K mg base ["self"] "HasRegisters.__init__" (defScope s_HasRegisters) f cdv A outer s H E).nox (defBody s_HasRegisters) t ∧ t { nx := fun _ H' => Q .non H', rt := Q } (start ["self"] vs) H by
    obtain ⟨t, h1, h2⟩ := z
    exact ⟨t, h1.nox, h2⟩

  obtain ⟨a, rfl, ha, k⟩ := h
  refine ⟨_, (pss_one (ps_expr (pe_binit (by rfl) T.g_PartlyError T.r_PartlyError T.i_PartlyError (pa_cons (pv 0) (pa_cons pe_str pa_nil))))), ?_⟩
  exact ⟨_, rfl, a, C, _, rfl, by decide, O, ha, k⟩



/-- an error of the package, as a class that is made -/
structure ExK (P : Program) (w : World) (K : PySem.W.Frag) (mg : Str → Option Value) (base : Heap) (x : Str) (ps : List Str) (sp : Sp) : Prop where
  o : OexC K (He.ga K x)
  g : mg x = some (.ref (He.ga K x))
  ex : ∃ f fd, FnOk P w K mg base CX0 1 f fd ps sp ∧ Binds K fd ps [] ∧ PySem.W.findIn K (.ref (He.ga K x)) "__init__" = some (some (.ref f)) ∧ PySem.W.typeIn K (.ref f) = some (.type "function")
section
variable {X : Cx} {x : Str} {ps : List Str} {sp : Sp} {e : Expr} {es : List Expr} {ta : TA} {p pos : Pos}
theorem pmk_ek0 (M : ExK X.prog X.w X.K X.mg X.base x ps sp) (hr : Room 2 X.A) (hg : Gl X x) (hdb : (x == ("__debug__" : Str)) = false := by decide) : PMk X (.Call (.Name x p) [] [] pos) (tMkN (He.ga X.K x) sp) := by
  obtain ⟨f, fd, F1, b, i, t⟩ := M.ex
  exact pmk_oexN M.o i t F1 hr b pass0 hg M.g hdb
theorem pmk_ek1 (M : ExK X.prog X.w X.K X.mg X.base x ps sp) (hr : Room 2 X.A) (hg : Gl X x) (ha : PA X (e :: es) ta) (hdb : (x == ("__debug__" : Str)) = false := by decide)
    (he : starEach (e :: es) X.env = (false, eval e X.env) :: starEach es X.env := by rfl) (hpl : (backTo pos (starEach es X.env)).any (·.1) = false := by rfl) : PMk X (.Call (.Name x p) (e :: es) [] pos) (tMkO (He.ga X.K x) sp [] ta) := by
  obtain ⟨f, fd, F1, b, i, t⟩ := M.ex
  exact pmk_oex M.o i t F1 hr b .nil pass0 hg M.g ha hdb he hpl
end
end
end K18
end
section
set_option Elab.async false
set_option linter.all false
set_option maxRecDepth 100000
set_option maxHeartbeats 4000000
namespace L2
open PySem PySem.Spec PyProof.Rows
/-- a class of the text, made by its __init__ with the promise sp -/
structure Mkc (P : Program) (w : World) (K : PySem.W.Frag) (mg : Str → Option Value) (base : Heap) (k : Nat) (x : Str) (C : Addr) (ps : List Str) (sp : Sp) : Prop where
  ex : ∃ f fd, FnOk P w K mg base CX0 k f fd ps sp ∧ mg x = some (.ref C) ∧ Mk K C f ∧ Binds K fd ps []
section
variable {X : Cx} {k : Nat} {x : Str} {C : Addr} {ps : List Str} {sp : Sp} {e : Expr} {es : List Expr} {t : TA} {p pos : Pos}
theorem pe_mkc (M : Mkc X.prog X.w X.K X.mg X.base k x C ps sp) (hr : Room (k + 1) X.A) (hg : Gl X x) (ha : PA X (e :: es) t) (hdb : (x == ("__debug__" : Str)) = false := by decide)
    (he : starEach (e :: es) X.env = (false, eval e X.env) :: starEach es X.env := by rfl) (hpl : (backTo pos (starEach es X.env)).any (·.1) = false := by rfl) : PE X (.Call (.Name x p) (e :: es) [] pos) (tMake C sp [] E0 t) := by
  obtain ⟨f, fd, G, m, mk, b⟩ := M.ex
  exact pe_make mk G hr hg m b .nil pass0 ha hdb he hpl
end
end L2
end
section
set_option Elab.async false
set_option linter.all false
set_option maxRecDepth 100000
set_option maxHeartbeats 4000000
namespace K18
open PySem PySem.Spec PyProof.Rows L2
open PySem.W (ke_shaped_ints)
local macro_rules | `(tactic| walk_at "go") => `(tactic| first | refine ⟨_, rfl, ?_⟩ | refine .inl ⟨_, rfl, ?_⟩ | refine ⟨_, _, rfl, rfl, (by first | (show (0 : Int) < _; decide) | exact Or.inl ⟨by decide, by decide⟩ | exact Or.inr ⟨by decide, by decide⟩), ?_⟩ | refine ⟨_, _, rfl, rfl, ?_⟩)
section
variable {P : Program} {w : World} {K : PySem.W.Frag} {mg : Str → Option Value} {base : Heap}

/-- kinds_of(word, many) -/
def spKindsOf : Sp := fun vs H Q _ => ∃ (wd : Str) (ks : List Str), vs = [.str wd, .int (ks.length : Nat)] ∧ PL.Kinds wd ks ∧ ∀ (r : Addr) (H' : Hp), Same H H' → H r = none → H' r = some (.lst (ks.map V.str)) → Q (.ref r) H'
theorem form_no {wd f : Str} (h : (wd, f) ∈ PL.forms) : wd ≠ "set" ∧ wd ≠ "give" ∧ f.length + 2 ≤ 100 ∧ (Txt.words f).length ≤ 10 := by
  simp only [PL.forms, List.mem_cons, List.not_mem_nil, or_false, Prod.mk.injEq] at h
  rcases h with ⟨rfl, rfl⟩ | ⟨rfl, rfl⟩ | ⟨rfl, rfl⟩ | ⟨rfl, rfl⟩ | ⟨rfl, rfl⟩ | ⟨rfl, rfl⟩ | ⟨rfl, rfl⟩ | ⟨rfl, rfl⟩ | ⟨rfl, rfl⟩ | ⟨rfl, rfl⟩ | ⟨rfl, rfl⟩ | ⟨rfl, rfl⟩ | ⟨rfl, rfl⟩ | ⟨rfl, rfl⟩ <;> decide +kernel
theorem flat_rep {α : Type} (x : α) : ∀ n : Nat, (List.replicate n [x]).flatten = List.replicate n x
  | 0 => rfl
  | n + 1 => by rw [List.replicate_succ, List.flatten_cons, flat_rep x n]; rfl
abbrev s_kinds_of : Stmt := topS 44
theorem sc_kinds_of : FnScope ["word", "many", "kinds"] ["word", "many"] (defScope s_kinds_of) := ⟨rfl, rfl, rfl, by decide +kernel, rfl, by decide +kernel, by decide +kernel⟩
theorem ok_kinds_of (T : TxtP K mg) (Tq : PL.TxtQ K w mg) (D : Def K mg "kinds_of" s_kinds_of) : Cal P w K mg base 1 "kinds_of" ["word", "many"] spKindsOf := by
  refine D.cal sc_kinds_of (fun vs H Q E h => ?_) (fun _ _ _ _ _ _ us hl => match us, hl with | [_, _], _ => rfl) (fun f cdv A outer s H vs Q E hr h => ?_)
  · obtain ⟨wd, ks, rfl, _⟩ := h
    rfl
  have hu := hu_of hr

  obtain ⟨wd, ks, rfl, hk, k⟩ := h
  obtain ⟨es, nn, Df⟩ := Tq.d_FORMS
  have big : sizeLine = 16777216 := sizeLine_eq
  refine ⟨_, (pss_cons (ps_if (pt_cmpR op_eq (pv 0) pe_str (nomark _)) (pss_one (ps_ret (pe_ifExp (pt_chain op_le op_le pe_int (pv 1) (pe_op op_add pe_int (pe_gint (by rfl) Tq.c_MOST_SET))) (pe_op op_cat (pe_lst (pa_cons pe_str pa_nil)) (pe_op op_rep (pe_lst (pa_cons pe_str pa_nil)) (pe_op op_sub (pv 1) pe_int))) pe_non))) pss_nil)
      (pss_cons (ps_if (pt_cmpR op_eq (pv 0) pe_str (nomark _)) (pss_one (ps_ret (pe_ifExp (pt_chain op_le op_le pe_int (pv 1) (pe_gint (by rfl) Tq.c_MOST_GIVEN)) (pe_op op_rep (pe_lst (pa_cons pe_str pa_nil)) (pv 1)) pe_non))) pss_nil)
      (pss_cons (ps_set (i := 2) sc_kinds_of.nd rfl (by first | exact Or.inl rfl | exact Or.inr rfl) (pe_ifExp (pt_cmpR (op_in_kd Df) (pv 0) (pe_gref (by rfl) Tq.g_FORMS) (by rfl)) (pe_words (pe_ix ix_kdict (pe_gref (by rfl) Tq.g_FORMS) (pv 0) (fun _ _ => rfl))) (pe_lst pa_nil)))
      (pss_one (ps_ret (pe_ifExp (PW.pt (pw_and (pt_cmpR (op_in_kd Df) (pv 0) (pe_gref (by rfl) Tq.g_FORMS) (by rfl)) (pw_and1 (pt_cmpR op_eq (pe_callB call_len (by rfl) T.f_len PySem.boot_len (pa_cons (pv 2) pa_nil)) (pv 1) (nomark _))))) (pv 2) pe_non)))))), ?_⟩
  cases hk with
  | form hf =>
    rename_i f
    obtain ⟨n1, n2, n3, n4⟩ := form_no hf
    obtain ⟨t, e⟩ := Tq.v_FORMS _ _ hf
    refine ⟨_, rfl, rfl, _, rfl, ite2 (fun c => absurd (V.str.inj (of_decide_eq_true c)) n1) (fun _ => ?_)⟩
    refine ⟨_, rfl, rfl, _, rfl, ite2 (fun c => absurd (V.str.inj (of_decide_eq_true c)) n2) (fun _ => ?_)⟩
    refine ⟨_, rfl, wd, _, rfl, rfl, e, _, rfl, iteT ?_⟩
    refine ⟨_, rfl, _, wd, .str f, rfl, rfl, PL.kdct Tq.d_FORMS e ⟨t, rfl⟩, ⟨f, rfl⟩, f, rfl, rfl, by omega, fun r hr => ?_⟩
    refine ⟨_, rfl, wd, _, rfl, rfl, e, _, rfl, iteT ?_⟩
    refine ⟨_, rfl, _, _, rfl, .inl ⟨_, SqL.of upd_same, rfl⟩, _, rfl, rfl, _, rfl, ?_⟩
    rw [decide_eq_true (by rw [List.length_map])]
    exact iteT ⟨_, rfl, k r _ (Same.new hr) hr upd_same⟩
  | set n h1 h2 =>
    have ln : (("name" : Str) :: List.replicate n ("cell" : Str)).length = n + 1 := by rw [List.length_cons, List.length_replicate]
    rw [ln]
    refine ⟨_, rfl, rfl, _, rfl, ite2 (fun _ => ?_) (fun c => absurd (decide_eq_true rfl) c)⟩
    refine ⟨_, rfl, _, _, rfl, rfl, _, rfl, ite2 (fun _ => ?_) (fun c => absurd (decide_eq_true (by omega)) c)⟩
    refine ⟨_, _, rfl, rfl, _, _, rfl, rfl, _, rfl, ite2 (fun _ => ?_) (fun c => absurd (decide_eq_true (by omega)) c)⟩
    refine ⟨by show 1 ≤ sizeLine; decide, fun l hl => ?_⟩
    refine ⟨by show 1 ≤ sizeLine; decide, fun l2 hl2 => ?_⟩
    have h1l := Same.new (o := .lst [.str "cell"]) hl2 _ _ (upd_same (H := H) (a := l) (o := .lst [.str "name"]))
    have s2 := (Same.new (o := .lst [.str "name"]) hl).trans (Same.new (o := .lst [.str "cell"]) hl2)
    have h2l : upd (upd H l (.lst [.str "name"])) l2 (.lst [.str "cell"]) l2 = some (.lst [.str "cell"]) := upd_same
    generalize upd (upd H l (.lst [.str "name"])) l2 (.lst [.str "cell"]) = H2 at h1l h2l s2 ⊢
    refine ⟨_, rfl, _, _, rfl, rfl, l2, _, _, rfl, rfl, h2l, by omega, by omega, by rw [List.length_singleton]; omega, fun l3 hl3 => ?_⟩
    have e3 : (List.replicate (((n + 1 : Nat) : Int) - 1).toNat [V.str "cell"]).flatten = (List.replicate n ("cell" : Str)).map V.str := by
      have e : (((n + 1 : Nat) : Int) - 1).toNat = n := by omega
      rw [e, List.map_replicate]
      exact flat_rep _ _
    rw [e3]
    have h1m := Same.new (o := .lst ((List.replicate n ("cell" : Str)).map V.str)) hl3 _ _ h1l
    have s3 := s2.trans (Same.new (o := .lst ((List.replicate n ("cell" : Str)).map V.str)) hl3)
    refine ⟨l, l3, _, _, rfl, rfl, h1m, upd_same, by rw [List.length_map, List.length_replicate, List.length_singleton]; omega, fun p hp => ?_⟩
    exact k p _ (s3.trans (Same.new hp)) (Same.free s3 hp) upd_same
  | give n h1 h2 =>
    have ln : (List.replicate n ("name" : Str)).length = n := List.length_replicate
    rw [ln]
    refine ⟨_, rfl, rfl, _, rfl, ite2 (fun c => absurd (of_decide_eq_true c) (by decide)) (fun _ => ?_)⟩
    refine ⟨_, rfl, rfl, _, rfl, ite2 (fun _ => ?_) (fun c => absurd (decide_eq_true rfl) c)⟩
    refine ⟨_, rfl, _, _, rfl, rfl, _, rfl, ite2 (fun _ => ?_) (fun c => absurd (decide_eq_true (by omega)) c)⟩
    refine ⟨_, _, rfl, rfl, _, rfl, ite2 (fun _ => ?_) (fun c => absurd (decide_eq_true (by omega)) c)⟩
    refine ⟨by show 1 ≤ sizeLine; decide, fun l hl => ?_⟩
    refine ⟨_, rfl, l, _, _, rfl, rfl, upd_same, by omega, by omega, by rw [List.length_singleton]; omega, fun l3 hl3 => ?_⟩
    have e3 : (List.replicate ((n : Nat) : Int).toNat [V.str "name"]).flatten = (List.replicate n ("name" : Str)).map V.str := by
      rw [Int.toNat_natCast, List.map_replicate, flat_rep]
    rw [e3]
    have s3 := (Same.new (o := .lst [.str "name"]) hl).trans (Same.new (o := .lst ((List.replicate n ("name" : Str)).map V.str)) hl3)
    exact k l3 _ s3 (Same.free (Same.new hl) hl3) upd_same

end
end K18
end
section
set_option Elab.async false
set_option linter.all false
set_option maxRecDepth 100000
set_option maxHeartbeats 4000000
namespace K18
open PySem PySem.Spec PyProof.Rows L2
open PySem.W (ke_shaped_ints)
local macro_rules | `(tactic| walk_at "go") => `(tactic| first | refine ⟨_, rfl, ?_⟩ | refine .inl ⟨_, rfl, ?_⟩ | refine ⟨_, _, rfl, rfl, (by first | (show (0 : Int) < _; decide) | exact Or.inl ⟨by decide, by decide⟩ | exact Or.inr ⟨by decide, by decide⟩), ?_⟩ | refine ⟨_, _, rfl, rfl, ?_⟩)
section
variable {P : Program} {w : World} {K : PySem.W.Frag} {mg : Str → Option Value} {base : Heap}

/-- read_word(kind, word, pointers) -/
def spReadWord (K : PySem.W.Frag) : Sp := fun vs H Q _ => ∃ (a : Addr) (ps : List Str) (d : PL.Wd), vs = [.str d.kind, .str d.text, .ref a] ∧ SqT K H a (ps.map V.str) ∧ CF.Names ps ∧ d.Ok ps ∧ ∀ (v : V) (H' : Hp), Same H H' → PL.Val H' ps d v → Q v H'
theorem kind_no {kd : Str} {lo hi : Int} (h : (kd, lo, hi) ∈ PL.ranges) : kd ≠ "name" ∧ kd ≠ "spot" ∧ kd ≠ "pointer" ∧ kd ∉ PL.Fixed := by
  simp only [PL.ranges, List.mem_cons, List.not_mem_nil, or_false, Prod.mk.injEq] at h
  rcases h with ⟨rfl, _⟩ | ⟨rfl, _⟩ | ⟨rfl, _⟩ | ⟨rfl, _⟩ | ⟨rfl, _⟩ | ⟨rfl, _⟩ | ⟨rfl, _⟩ <;> decide +kernel
abbrev s_read_word : Stmt := topS 45
theorem sc_read_word : FnScope ["kind", "word", "pointers", "low", "high", "number"] ["kind", "word", "pointers"] (defScope s_read_word) := ⟨rfl, rfl, rfl, by decide +kernel, rfl, by decide +kernel, by decide +kernel⟩
theorem ok_read_word (T : TxtP K mg) (Tq : PL.TxtQ K w mg) (D : Def K mg "read_word" s_read_word) (C_is_name : Cal P w K mg base 1 "is_name" ["word"] spName) (C_read_spot : Cal P w K mg base 4 "read_spot" ["word", "pointers"] (spReadSpot K)) (C_read_pointer : Cal P w K mg base 3 "read_pointer" ["word", "pointers"] (spReadPointer K)) (C_read_number : Cal P w K mg base 1 "read_number" ["word", "low", "high"] spReadNumber) : Cal P w K mg base 5 "read_word" ["kind", "word", "pointers"] (spReadWord K) := by
  refine D.cal sc_read_word (fun vs H Q E h => ?_) (fun _ _ _ _ _ _ us hl => match us, hl with | [_, _, _], _ => rfl) (fun f cdv A outer s H vs Q E hr h => ?_)
  · obtain ⟨a, ps, d, rfl, _⟩ := h
    rfl
  have hu := hu_of hr

  obtain ⟨a, ps, d, rfl, hT, nm, ok, k⟩ := h
  refine ⟨_, (pss_cons (ps_if (pt_cmpR op_eq (pv 0) pe_str (nomark _)) (pss_one (ps_ret (pe_ifExp (pt_val (pe_cal C_is_name (hr.mono (by decide)) rfl (pa_cons (pv 1) pa_nil))) (pv 1) pe_non))) pss_nil)
      (pss_cons (ps_if (pt_cmpR op_eq (pv 0) pe_str (nomark _)) (pss_one (ps_ret (pe_cal C_read_spot (hr.mono (by decide)) rfl (pa_cons (pv 1) (pa_cons (pv 2) pa_nil))))) pss_nil)
      (pss_cons (ps_if (pt_cmpR op_eq (pv 0) pe_str (nomark _)) (pss_one (ps_ret (pe_cal C_read_pointer (hr.mono (by decide)) rfl (pa_cons (pv 1) (pa_cons (pv 2) pa_nil))))) pss_nil)
      (pss_cons (ps_if (pt_cmpR op_in_seq (pv 0) (pe_gref (by rfl) Tq.g_FIXED) (by rfl)) (pss_one (ps_ret (pe_ifExp (pt_cmpR op_eq (pv 1) (pv 0) (nomark _)) (pv 1) pe_non))) pss_nil)
      (pss_cons (ps_asg (pe_ix ix_kdict (pe_gref (by rfl) Tq.g_RANGES) (pv 0) (fun _ _ => rfl)) (pg_tup rfl (pgs_cons (pg_name (i := 3) sc_read_word.nd rfl (by first | exact Or.inl rfl | exact Or.inr rfl)) (pgs_cons (pg_name (i := 4) sc_read_word.nd rfl (by first | exact Or.inl rfl | exact Or.inr rfl)) pgs_nil))))
      (pss_cons (ps_set (i := 5) sc_read_word.nd rfl (by first | exact Or.inl rfl | exact Or.inr rfl) (pe_cal C_read_number (hr.mono (by decide)) rfl (pa_cons (pv 1) (pa_cons (pv 3) (pa_cons (pv 4) pa_nil)))))
      (pss_one (ps_ret (pe_ifExp (PW.pt (pw_and (pt_cmpR op_eq (pv 0) pe_str (nomark _)) (pw_and1 (pt_cmpR op_notIn_seq (pv 5) (pe_gref (by rfl) Tq.g_CHUNKS) (by rfl))))) pe_non (pv 5)))))))))), ?_⟩
  cases d with
  | name z =>
    refine ⟨_, rfl, rfl, _, rfl, ite2 (fun _ => ?_) (fun c => absurd (decide_eq_true rfl) c)⟩
    refine ⟨_, rfl, z, rfl, ok, fun H' s => ⟨_, rfl, iteT ?_⟩⟩
    exact ⟨_, rfl, k _ H' s rfl⟩
  | spot z n =>
    have nk : (PL.Wd.spot z n).kind ≠ "name" := show ("spot" : Str) ≠ "name" by decide +kernel
    obtain ⟨hz, n0, n1⟩ := ok
    obtain ⟨i, hi⟩ := List.mem_iff_getElem?.mp hz
    refine ⟨_, rfl, rfl, _, rfl, ite2 (fun c => absurd (V.str.inj (of_decide_eq_true c)) nk) (fun _ => ?_)⟩
    refine ⟨_, rfl, rfl, _, rfl, ite2 (fun _ => ?_) (fun c => absurd (decide_eq_true rfl) c)⟩
    exact ⟨_, rfl, _, rfl, z, n, i, a, ps, rfl, hT, nm, hi, n0, n1, fun r H' s f hr => k _ H' s ⟨r, i, rfl, hi, hr⟩⟩
  | ptr z =>
    have nk1 : (PL.Wd.ptr z).kind ≠ "name" := show ("pointer" : Str) ≠ "name" by decide +kernel
    have nk2 : (PL.Wd.ptr z).kind ≠ "spot" := show ("pointer" : Str) ≠ "spot" by decide +kernel
    obtain ⟨i, hi⟩ := List.mem_iff_getElem?.mp (show z ∈ ps from ok)
    refine ⟨_, rfl, rfl, _, rfl, ite2 (fun c => absurd (V.str.inj (of_decide_eq_true c)) nk1) (fun _ => ?_)⟩
    refine ⟨_, rfl, rfl, _, rfl, ite2 (fun c => absurd (V.str.inj (of_decide_eq_true c)) nk2) (fun _ => ?_)⟩
    refine ⟨_, rfl, rfl, _, rfl, ite2 (fun _ => ?_) (fun c => absurd (decide_eq_true rfl) c)⟩
    exact ⟨_, rfl, _, rfl, z, a, ps, rfl, hT, nm, .inl ⟨i, hi, fun H' s => k _ H' s ⟨i, hi, rfl⟩⟩⟩
  | fix z =>
    have hz : z ∈ PL.Fixed := ok
    have nz : z ≠ "name" ∧ z ≠ "spot" ∧ z ≠ "pointer" := by
      simp only [PL.Fixed, List.mem_cons, List.not_mem_nil, or_false] at hz
      rcases hz with rfl | rfl <;> decide +kernel
    refine ⟨_, rfl, rfl, _, rfl, ite2 (fun c => absurd (V.str.inj (of_decide_eq_true c)) nz.1) (fun _ => ?_)⟩
    refine ⟨_, rfl, rfl, _, rfl, ite2 (fun c => absurd (V.str.inj (of_decide_eq_true c)) nz.2.1) (fun _ => ?_)⟩
    refine ⟨_, rfl, rfl, _, rfl, ite2 (fun c => absurd (V.str.inj (of_decide_eq_true c)) nz.2.2) (fun _ => ?_)⟩
    refine ⟨_, rfl, _, _, rfl, .inr (Tq.t_FIXED _), rfl, CF.flat_strs _, _, rfl, ?_⟩
    rw [if_neg (by decide), CF.inV_strs, decide_eq_true (show (PL.Wd.fix z).kind ∈ PL.Fixed from hz)]
    refine iteT ?_
    refine ⟨_, rfl, _, rfl, rfl, _, rfl, ite2 (fun _ => ?_) (fun c => absurd (decide_eq_true rfl) c)⟩
    exact ⟨_, rfl, k _ H (fun _ _ h => h) rfl⟩
  | num kd n =>
    obtain ⟨n0, n1, ⟨lo, hi, hm, l0, l1⟩, hc⟩ := ok
    obtain ⟨k1, k2, k3, k4⟩ := kind_no hm
    obtain ⟨t, e, ht⟩ := Tq.v_RANGES _ _ _ hm
    refine ⟨_, rfl, rfl, _, rfl, ite2 (fun c => absurd (V.str.inj (of_decide_eq_true c)) k1) (fun _ => ?_)⟩
    refine ⟨_, rfl, rfl, _, rfl, ite2 (fun c => absurd (V.str.inj (of_decide_eq_true c)) k2) (fun _ => ?_)⟩
    refine ⟨_, rfl, rfl, _, rfl, ite2 (fun c => absurd (V.str.inj (of_decide_eq_true c)) k3) (fun _ => ?_)⟩
    refine ⟨_, rfl, _, _, rfl, .inr (Tq.t_FIXED _), rfl, CF.flat_strs _, _, rfl, ?_⟩
    rw [if_neg (by decide), CF.inV_strs, decide_eq_false (show (PL.Wd.num kd n).kind ∉ PL.Fixed from k4)]
    refine iteF ?_
    refine ⟨_, rfl, _, kd, .ref t, rfl, rfl, PL.kdct Tq.d_RANGES e rfl, t, _, rfl, ht _, rfl, ?_⟩
    refine ⟨_, _, rfl, _, _, rfl, rfl, ?_⟩
    refine ⟨_, rfl, _, rfl, _, rfl, n, lo, hi, rfl, n0, n1, l0, l1, ?_⟩
    refine ⟨_, rfl, rfl, _, rfl, ite2 (fun c => ?_) (fun _ => ⟨_, rfl, k _ H (fun _ _ h => h) rfl⟩)⟩
    have hn := hc (V.str.inj (of_decide_eq_true c))
    refine ⟨_, rfl, _, _, rfl, .inr (Tq.t_CHUNKS _), rfl, rfl, _, rfl, ?_⟩
    have inm : inV (.int n) [.int 1, .int 2, .int 4, .int 8] = true := by
      rcases hn with rfl | rfl | rfl | rfl <;> decide
    rw [if_pos rfl, inm]
    exact iteF ⟨_, rfl, k _ H (fun _ _ h => h) rfl⟩

end
end K18
end
section
set_option Elab.async false
set_option linter.all false
set_option maxRecDepth 100000
set_option maxHeartbeats 4000000
namespace K18
open PySem PySem.Spec PyProof.Rows L2
open PySem.W (ke_shaped_ints)
local macro_rules | `(tactic| walk_at "go") => `(tactic| first | refine ⟨_, rfl, ?_⟩ | refine .inl ⟨_, rfl, ?_⟩ | refine ⟨_, _, rfl, rfl, (by first | (show (0 : Int) < _; decide) | exact Or.inl ⟨by decide, by decide⟩ | exact Or.inr ⟨by decide, by decide⟩), ?_⟩ | refine ⟨_, _, rfl, rfl, ?_⟩)
section
variable {P : Program} {w : World} {K : PySem.W.Frag} {mg : Str → Option Value} {base : Heap}

/-- read_line(line, pointers, functions) of a right line that is neither when nor call -/
def spReadLine (K : PySem.W.Frag) : Sp := fun vs H Q _ => ∃ (a : Addr) (ps : List Str) (l : PL.Ln) (fv : V), vs = [.str l.text, .ref a, fv] ∧ SqT K H a (ps.map V.str) ∧ CF.Names ps ∧ l.Ok ps ∧ ∀ (r : Addr) (H' : Hp), Same H H' → H r = none → PL.RowAt H' ps l r → Q (.ref r) H'
theorem Val.put {H : Hp} {ps : List Str} {d : PL.Wd} {v : V} {p : Addr} {xs : List V} {o : HO} (h : PL.Val H ps d v) (hp : H p = some (.lst xs)) : PL.Val (upd H p o) ps d v := by
  cases d with
  | spot z k =>
    obtain ⟨r, i, a, b, c⟩ := h
    exact ⟨r, i, a, b, by rw [upd_ne (ne_of c hp (by intro z; cases z))]; exact c⟩
  | _ => exact h
theorem paired_put {H : Hp} {ps : List Str} {p : Addr} {xs : List V} {o : HO} (hp : H p = some (.lst xs)) : ∀ {ds : List PL.Wd} {vs : List V}, Paired (PL.Val H ps) ds vs → Paired (PL.Val (upd H p o) ps) ds vs
  | _, _, .nil => .nil
  | _, _, .cons r t => .cons (Val.put r hp) (paired_put hp t)
/-- a list that is new since H0 is changed -/
theorem same_put {H0 H : Hp} {p : Addr} {o u : HO} (s : Same H0 H) (h0 : H0 p = none) (hp : H p = some u) : Same H0 (upd H p o) := fun c v e => by rw [upd_ne (ne_of_none e h0)]; exact s c v e
theorem cut_one (x : V) (xs : List V) : cutV (x :: xs) (some 1) none = xs := by
  unfold cutV HT.sIx
  simp
theorem kinds_word {wd : Str} {ks : List Str} (h : PL.Kinds wd ks) : wd.length ≤ 12 ∧ 32 ∉ TL.tl wd ∧ 10 ∉ TL.tl wd ∧ 1 ≤ wd.length ∧ wd ≠ "when" ∧ wd ≠ "call" ∧ ks.length ≤ 9 := by
  cases h with
  | form hf =>
    simp only [PL.forms, List.mem_cons, List.not_mem_nil, or_false, Prod.mk.injEq] at hf
    rcases hf with ⟨rfl, rfl⟩ | ⟨rfl, rfl⟩ | ⟨rfl, rfl⟩ | ⟨rfl, rfl⟩ | ⟨rfl, rfl⟩ | ⟨rfl, rfl⟩ | ⟨rfl, rfl⟩ | ⟨rfl, rfl⟩ | ⟨rfl, rfl⟩ | ⟨rfl, rfl⟩ | ⟨rfl, rfl⟩ | ⟨rfl, rfl⟩ | ⟨rfl, rfl⟩ | ⟨rfl, rfl⟩ <;> decide +kernel
  | set n h1 h2 => exact ⟨by decide +kernel, by decide +kernel, by decide +kernel, by decide +kernel, by decide +kernel, by decide +kernel, by rw [List.length_cons, List.length_replicate]; omega⟩
  | give n h1 h2 => exact ⟨by decide +kernel, by decide +kernel, by decide +kernel, by decide +kernel, by decide +kernel, by decide +kernel, by rw [List.length_replicate]; omega⟩
theorem wd_text {ps : List Str} (nm : CF.Names ps) {d : PL.Wd} (h : d.Ok ps) : d.text.length ≤ 30 ∧ 32 ∉ TL.tl d.text ∧ 10 ∉ TL.tl d.text := by
  cases d with
  | name z =>
    have hz : CF.NameOk z := h
    exact ⟨Nat.le_trans hz.hi (by decide), hz.no (by decide), hz.no (by decide)⟩
  | ptr z =>
    have hz : CF.NameOk z := nm.1 z h
    exact ⟨Nat.le_trans hz.hi (by decide), hz.no (by decide), hz.no (by decide)⟩
  | spot z k =>
    obtain ⟨h0, h1, h2⟩ := h
    have hz : CF.NameOk z := nm.1 z h0
    exact ⟨CF.spot_len hz.hi (by omega) (by omega), CF.spot_space hz (by omega) (by omega) (.inl rfl), CF.spot_space hz (by omega) (by omega) (.inr rfl)⟩
  | fix z =>
    have hz : z ∈ PL.Fixed := h
    simp only [PL.Fixed, List.mem_cons, List.not_mem_nil, or_false] at hz
    rcases hz with rfl | rfl <;> decide +kernel
  | num kd n =>
    obtain ⟨n0, n1, _⟩ := h
    exact ⟨Nat.le_trans (CF.num_len n0 n1) (by decide), (CF.num_space n0 n1).1, (CF.num_space n0 n1).2⟩
theorem ln_words {ps : List Str} (nm : CF.Names ps) {l : PL.Ln} (h : l.Ok ps) : ∀ x ∈ l.words, x.length ≤ 30 ∧ 32 ∉ TL.tl x ∧ 10 ∉ TL.tl x := by
  intro x hx
  rcases List.mem_cons.mp hx with rfl | hx
  · obtain ⟨k1, k2, k3, _⟩ := kinds_word h.kinds
    exact ⟨Nat.le_trans k1 (by decide), k2, k3⟩
  · obtain ⟨d, hd, rfl⟩ := List.mem_map.mp hx
    exact wd_text nm (h.ds d hd)
theorem ln_split {ps : List Str} (nm : CF.Names ps) {l : PL.Ln} (h : l.Ok ps) : Txt.split l.text " " = l.words :=
  TL.split_join (s := 32) (S := []) rfl (by decide +kernel) (by unfold PL.Ln.words; simp) fun p hp => (ln_words nm h p hp).2.1
theorem ln_len {ps : List Str} (nm : CF.Names ps) {l : PL.Ln} (h : l.Ok ps) : l.text.length ≤ 400 := by
  have h1 := CF.join_len " " l.words
  have h2 := CF.sum_le (ws := l.words) (b := 30) fun x hx => (ln_words nm h x hx).1
  have h3 : l.words.length ≤ 10 := by
    have := (kinds_word h.kinds).2.2.2.2.2.2
    rw [List.length_map] at this
    unfold PL.Ln.words
    rw [List.length_cons, List.length_map]
    omega
  have h4 : (" " : Str).length = 1 := by decide +kernel
  rw [h4] at h1
  have : l.text = Txt.join " " l.words := rfl
  rw [this]
  omega
/-- what a word tells, as data -/
theorem val_dat {K : PySem.W.Frag} {H : Hp} {ps : List Str} (nm : CF.Names ps) {d : PL.Wd} {v : V} (ok : d.Ok ps) (h : PL.Val H ps d v) : ∃ dd, Dp K H v dd ∧ PyData.canLay0 dd = true ∧ dd.depth ≤ 1 ∧ PyData.eqv dd .none = false := by
  have str : ∀ z : Str, CF.Lo z → ∃ dd, Dp K H (.str z) dd ∧ PyData.canLay0 dd = true ∧ dd.depth ≤ 1 ∧ PyData.eqv dd .none = false := fun z hz => ⟨.str z, .str z, (CF.flat_str hz).1, Nat.zero_le _, rfl⟩
  have int : ∀ n : Int, ∃ dd, Dp K H (.int n) dd ∧ PyData.canLay0 dd = true ∧ dd.depth ≤ 1 ∧ PyData.eqv dd .none = false := fun n => ⟨.int n, .int n, rfl, Nat.zero_le _, rfl⟩
  cases d with
  | name z =>
    rw [show v = .str z from h]
    exact str z (CF.NameOk.lo_ ok)
  | ptr z =>
    obtain ⟨i, _, rfl⟩ := h
    exact int _
  | spot z k =>
    obtain ⟨r, i, rfl, _, hr⟩ := h
    refine ⟨.tuple [.int (i : Nat), .int k], .tup (SqT.of hr) (.cons (.int _) (.cons (.int _) .nil)), rfl, Nat.le_refl _, rfl⟩
  | fix z =>
    rw [show v = .str z from h]
    refine str z ?_
    have hz : z ∈ PL.Fixed := ok
    simp only [PL.Fixed, List.mem_cons, List.not_mem_nil, or_false] at hz
    rcases hz with rfl | rfl <;> decide +kernel
  | num kd n =>
    rw [show v = .int n from h]
    exact int n
theorem vals_dat {K : PySem.W.Frag} {H : Hp} {ps : List Str} (nm : CF.Names ps) : ∀ {ds : List PL.Wd} {vs : List V}, (∀ d ∈ ds, d.Ok ps) → Paired (PL.Val H ps) ds vs →
    ∃ dd, DpAll K H vs dd ∧ PyData.canLayAll0 dd = true ∧ PyData.depthAll dd ≤ 1 ∧ (dd.any fun z => PyData.eqv z .none) = false
  | _, _, _, .nil => ⟨[], .nil, rfl, Nat.zero_le _, rfl⟩
  | _, _, ok, .cons r t => by
    obtain ⟨d1, a1, a2, a3, a4⟩ := val_dat (K := K) nm (ok _ List.mem_cons_self) r
    obtain ⟨dd, b1, b2, b3, b4⟩ := vals_dat (K := K) nm (fun x hx => ok x (List.mem_cons_of_mem _ hx)) t
    refine ⟨d1 :: dd, .cons a1 b1, ?_, ?_, ?_⟩
    · show (PyData.canLay0 d1 && PyData.canLayAll0 dd) = true
      rw [a2, b2]; rfl
    · show max (PyData.depth d1) (PyData.depthAll dd) ≤ 1
      omega
    · rw [List.any_cons, a4, b4]; rfl
theorem paired_len {α β : Type} {R : α → β → Prop} : ∀ {xs : List α} {ys : List β}, Paired R xs ys → xs.length = ys.length
  | _, _, .nil => rfl
  | _, _, .cons _ t => by rw [List.length_cons, List.length_cons, paired_len t]
theorem paired_at {α β : Type} {R : α → β → Prop} : ∀ {xs : List α} {ys : List β} {i : Nat} {x : α} {y : β}, Paired R xs ys → xs[i]? = some x → ys[i]? = some y → R x y
  | _, _, 0, _, _, .cons r _, h1, h2 => by
    rw [List.getElem?_cons_zero, Option.some.injEq] at h1 h2
    subst h1 h2
    exact r
  | _, _, i + 1, _, _, .cons _ t, h1, h2 => by
    rw [List.getElem?_cons_succ] at h1 h2
    exact paired_at t h1 h2
theorem paired_snoc {α β : Type} {R : α → β → Prop} {x : α} {y : β} (r : R x y) : ∀ {xs : List α} {ys : List β}, Paired R xs ys → Paired R (xs ++ [x]) (ys ++ [y])
  | _, _, .nil => .cons r .nil
  | _, _, .cons a t => .cons a (paired_snoc r t)
def toldB (d : PL.Wd) : Bool := match d with | .fix _ => false | _ => true
theorem told_eq (l : PL.Ln) : l.told = l.ds.filter toldB := rfl
theorem fixed_kind {ps : List Str} {d : PL.Wd} (h : d.Ok ps) : decide (d.kind ∈ PL.Fixed) = !toldB d := by
  cases d with
  | fix z => exact decide_eq_true (show z ∈ PL.Fixed from h)
  | num kd n =>
    obtain ⟨_, _, ⟨lo, hi, hm, _⟩, _⟩ := h
    exact decide_eq_false (kind_no hm).2.2.2
  | name z => exact decide_eq_false (show ("name" : Str) ∉ PL.Fixed by decide +kernel)
  | spot z k => exact decide_eq_false (show ("spot" : Str) ∉ PL.Fixed by decide +kernel)
  | ptr z => exact decide_eq_false (show ("pointer" : Str) ∉ PL.Fixed by decide +kernel)
abbrev s_read_line : Stmt := topS 42
theorem sc_read_line : FnScope ["line", "pointers", "functions", "words", "fact", "kinds", "told", "kind", "word", "one"] ["line", "pointers", "functions"] (defScope s_read_line) := ⟨rfl, rfl, rfl, by decide +kernel, rfl, by decide +kernel, by decide +kernel⟩
theorem ok_read_line (T : TxtP K mg) (Tq : PL.TxtQ K w mg) (D : Def K mg "read_line" s_read_line) (C_read_word : Cal P w K mg base 5 "read_word" ["kind", "word", "pointers"] (spReadWord K)) (C_kinds_of : Cal P w K mg base 1 "kinds_of" ["word", "many"] spKindsOf) : Cal P w K mg base 6 "read_line" ["line", "pointers", "functions"] (spReadLine K) := by
  refine D.cal sc_read_line (fun vs H Q E h => ?_) (fun _ _ _ _ _ _ us hl => match us, hl with | [_, _, _], _ => rfl) (fun f cdv A outer s H vs Q E hr h => ?_)
  · obtain ⟨a, ps, l, fv, rfl, _⟩ := h
    rfl
  have hu := hu_of hr

  obtain ⟨a, ps, l, fv, rfl, hT, nm, ok, k⟩ := h
  have big : sizeLine = 16777216 := sizeLine_eq
  obtain ⟨w1, w2, w3, w4, w5, w6, w7⟩ := kinds_word ok.kinds
  have tl := ln_len nm ok
  have kl : (l.ds.map PL.Wd.kind).length = l.ds.length := List.length_map ..
  rw [kl] at w7
  refine ⟨_, (pss_cons (ps_set (i := 3) sc_read_line.nd rfl (by first | exact Or.inl rfl | exact Or.inr rfl) (pe_split (pv 0) pe_str))
      (pss_cons (ps_if (pt_cmpR op_eq (pe_ix ix_list (pv 3) pe_int (fun _ _ => rfl)) pe_str (nomark _)) (pss_cons (ps_set (i := 4) sc_read_line.nd rfl (by first | exact Or.inl rfl | exact Or.inr rfl) PL.pe_never)
      (pss_one (ps_ret (pe_ifExp (pt_cmpR op_isN (pv 4) pe_non (nomark _)) pe_non (pe_tup (pa_cons pe_str (pa_cons (pe_tup (pa_cons (pv 4) pa_nil)) pa_nil))))))) pss_nil)
      (pss_cons (ps_if (pt_cmpR op_eq (pe_ix ix_list (pv 3) pe_int (fun _ _ => rfl)) pe_str (nomark _)) (pss_one (ps_ret PL.pe_never)) pss_nil)
      (pss_cons (ps_set (i := 5) sc_read_line.nd rfl (by first | exact Or.inl rfl | exact Or.inr rfl) (pe_cal C_kinds_of (hr.mono (by decide)) rfl (pa_cons (pe_ix ix_list (pv 3) pe_int (fun _ _ => rfl)) (pa_cons (pe_op op_sub (pe_callB call_len (by rfl) T.f_len PySem.boot_len (pa_cons (pv 3) pa_nil)) pe_int) pa_nil))))
      (pss_cons (ps_if (pt_cmpR op_isN (pv 5) pe_non (nomark _)) (pss_one (ps_ret pe_non)) pss_nil)
      (pss_cons (ps_setLc (i := 6) (own := [("kind", 7), ("word", 8)]) (g := gTup K 2 (gCons (gName 7) (gCons (gName 8) (gNil)))) (tt := tYes) rfl sc_read_line.nd rfl rfl (sw_true rfl rfl rfl (by decide +kernel)) (pi_zip (by rfl) Tq.f_zip (pa_cons (pv 5) (pa_cons (pe_slice sl_list (pv 3) (po_some pe_int) po_none) pa_nil))) (blkOk_by (N := ["line", "pointers", "functions", "words", "fact", "kinds", "told", "kind", "word", "one"]) (sc := defScope s_read_line) (by decide +kernel)) (fun _ _ _ _ _ => (pg_tup rfl (pgs_cons (pg_name (i := 7) sc_read_line.nd rfl (by first | exact Or.inl rfl | exact Or.inr rfl)) (pgs_cons (pg_name (i := 8) sc_read_line.nd rfl (by first | exact Or.inl rfl | exact Or.inr rfl)) pgs_nil)))) (fun _ _ _ _ _ => pts_nil) (fun _ _ _ _ _ => (pe_cal C_read_word (hr.mono (by decide)) rfl (pa_cons (pv 7) (pa_cons (pv 8) (pa_cons (pv 1) pa_nil))))))
      (pss_cons (ps_if (pt_cmpR (op_inD (units65 hr)) pe_non (pv 6) (by rfl)) (pss_one (ps_ret pe_non)) pss_nil)
      (pss_one (ps_ret (pe_tup (pa_cons (pe_ix ix_list (pv 3) pe_int (fun _ _ => rfl)) (pa_cons (pe_callTy call_tuple_of (by rfl) T.f_tuple (by decide +kernel) (pa_cons (pe_lc (own := [("kind", 7), ("one", 9)]) (g := gTup K 2 (gCons (gName 7) (gCons (gName 9) (gNil)))) (tt := tTest (tOp (rIn K true) (tVar 7) (tC (.ref (He.ga K "FIXED"))))) rfl sc_read_line.nd (pi_zip (by rfl) Tq.f_zip (pa_cons (pv 5) (pa_cons (pv 6) pa_nil))) (blkOk_by (N := ["line", "pointers", "functions", "words", "fact", "kinds", "told", "kind", "word", "one"]) (sc := defScope s_read_line) (by decide +kernel)) (fun _ _ _ _ _ => (pg_tup rfl (pgs_cons (pg_name (i := 7) sc_read_line.nd rfl (by first | exact Or.inl rfl | exact Or.inr rfl)) (pgs_cons (pg_name (i := 9) sc_read_line.nd rfl (by first | exact Or.inl rfl | exact Or.inr rfl)) pgs_nil)))) (fun _ _ _ _ _ => (pts_one (pt_cmpR op_notIn_seq (pv 7) (pe_gref (by rfl) Tq.g_FIXED) (by rfl)))) (fun _ _ _ _ _ => (pv 9))) pa_nil)) pa_nil)))))))))))), ?_⟩
  refine ⟨_, rfl, ⟨_, rfl⟩, _, _, rfl, rfl, by decide +kernel, by omega, fun wl hwl => ?_⟩
  rw [ln_split nm ok]
  have s1 := Same.new (o := .lst (l.words.map V.str)) hwl
  have hw : upd H wl (.lst (l.words.map V.str)) wl = some (.lst (.str l.w :: (l.ds.map PL.Wd.text).map V.str)) := upd_same
  generalize upd H wl (.lst (l.words.map V.str)) = H1 at s1 hw ⊢
  refine ⟨_, rfl, wl, _, _, _, rfl, rfl, SqL.of hw, atI_nat (j := 0) rfl, rfl, _, rfl, ite2 (fun c => absurd (V.str.inj (of_decide_eq_true c)) w5) (fun _ => ?_)⟩
  refine ⟨_, rfl, wl, _, _, _, rfl, rfl, SqL.of hw, atI_nat (j := 0) rfl, rfl, _, rfl, ite2 (fun c => absurd (V.str.inj (of_decide_eq_true c)) w6) (fun _ => ?_)⟩
  refine ⟨_, rfl, wl, _, _, _, rfl, rfl, SqL.of hw, atI_nat (j := 0) rfl, _, rfl, _, _, rfl, .inl ⟨_, SqL.of hw, rfl⟩, _, _, rfl, rfl, l.w, l.ds.map PL.Wd.kind, ?_, ok.kinds, fun kr H2 s2 f2 h2 => ?_⟩
  · have e : (((V.str l.w :: (l.ds.map PL.Wd.text).map V.str).length : Nat) : Int) - 1 = ((l.ds.map PL.Wd.kind).length : Nat) := by
      rw [List.length_cons, List.length_map, List.length_map, List.length_map]
      omega
    exact congrArg (fun z => [V.str l.w, V.int z]) e
  refine ⟨_, rfl, rfl, _, rfl, ite2 (fun c => absurd (of_decide_eq_true c) (fun e => by cases e)) (fun _ => ?_)⟩
  have hw2 := s2 _ _ hw
  have s12 := s1.trans s2
  refine ⟨_, rfl, _, rfl, 1, rfl, wl, _, rfl, SqL.of hw2, fun p hp => ?_⟩
  have cut : cutV (.str l.w :: (l.ds.map PL.Wd.text).map V.str) (some 1) none = (l.ds.map PL.Wd.text).map V.str := cut_one _ _
  rw [cut]
  have s3 := s12.trans (Same.new (o := .lst ((l.ds.map PL.Wd.text).map V.str)) hp)
  have h2b := Same.new (o := .lst ((l.ds.map PL.Wd.text).map V.str)) hp _ _ h2
  have hw3 := Same.new (o := .lst ((l.ds.map PL.Wd.text).map V.str)) hp
  have hpp : upd H2 p (.lst ((l.ds.map PL.Wd.text).map V.str)) p = some (.lst ((l.ds.map PL.Wd.text).map V.str)) := upd_same
  generalize upd H2 p (.lst ((l.ds.map PL.Wd.text).map V.str)) = H3 at s3 h2b hpp hw3 ⊢
  refine ⟨kr, p, _, _, rfl, SqL.of h2b, SqL.of hpp, fun TD hTD => ?_⟩
  have mn : l.ds.length = min ((l.ds.map PL.Wd.kind).map V.str).length ((l.ds.map PL.Wd.text).map V.str).length := by
    rw [List.length_map, List.length_map, List.length_map, List.length_map, Nat.min_self]
  refine lc_it (walk_zip mn) (fun i H' => Same H3 H' ∧ ∃ vs, H' TD = some (.lst vs) ∧ Paired (PL.Val H' ps) (l.ds.take i) vs) ⟨Same.new hTD, [], upd_same, .nil⟩ (fun i H' _ z => ⟨z.1.seq (SqL.of h2b), z.1.seq (SqL.of hpp)⟩) ?_ ?_
  · rintro i y G1 G2 hi ⟨s4, vs, h4, pr⟩ ⟨T0, x1, x2, rfl, hT0, rfl, e1, e2⟩
    have hd : l.ds[i]? = some l.ds[i] := List.getElem?_eq_getElem hi
    generalize l.ds[i] = d at hd
    have e1' : x1 = .str d.kind := by
      have e0 : ((l.ds.map PL.Wd.kind).map V.str)[i]? = some x1 := e1
      rw [List.getElem?_map, List.getElem?_map, hd] at e0
      exact (Option.some.inj e0).symm
    have e2' : x2 = .str d.text := by
      have e0 : ((l.ds.map PL.Wd.text).map V.str)[i]? = some x2 := e2
      rw [List.getElem?_map, List.getElem?_map, hd] at e0
      exact (Option.some.inj e0).symm
    subst e1' e2'
    refine ⟨T0, _, rfl, SqT.of upd_same, rfl, _, _, rfl, _, _, rfl, rfl, ?_⟩
    have s5 := s4.trans (Same.new (o := .tup [.str d.kind, .str d.text]) hT0)
    have h5 := Same.new (o := .tup [.str d.kind, .str d.text]) hT0 _ _ h4
    have pr5 := PL.paired_same (Same.new (o := .tup [.str d.kind, .str d.text]) hT0) pr
    generalize upd G1 T0 (.tup [.str d.kind, .str d.text]) = G3 at s5 h5 pr5 ⊢
    refine ⟨rfl, _, rfl, _, rfl, _, rfl, a, ps, d, rfl, (s3.trans s5).tup hT, nm, ok.ds d (List.mem_of_getElem? hd), fun v G4 s6 hv => ?_⟩
    have h6 := s6 _ _ h5
    refine ⟨vs, h6, ?_, same_put (s5.trans s6) hTD h6, vs ++ [v], upd_same, ?_⟩
    · have := paired_len pr5
      rw [List.length_take] at this
      omega
    · rw [List.take_add_one, hd]
      exact paired_put h6 (paired_snoc hv (PL.paired_same s6 pr5))
  rintro H5 ⟨s5, vs, h5, pr⟩
  rw [List.take_length] at pr
  have s05 := s3.trans s5
  obtain ⟨dd, d1, d2, d3, d4⟩ := vals_dat (K := K) nm ok.ds pr
  have vl := paired_len pr
  have h2c := s5 _ _ h2b
  refine ⟨_, rfl, .none, dd, .non, .lst (SqL.of h5) d1, rfl, ?_, _, rfl, ?_⟩
  · show (PyData.canLayAll0 dd && decide (PyData.depthAll dd + 1 ≤ 64)) = true
    rw [d2, Bool.true_and]
    exact decide_eq_true (by omega)
  rw [d4]
  refine iteF ?_
  have hw5 : H5 wl = some (.lst (.str l.w :: (l.ds.map PL.Wd.text).map V.str)) := s5 _ _ (hw3 _ _ hw2)
  refine ⟨_, rfl, wl, _, _, _, rfl, rfl, SqL.of hw5, atI_nat (j := 0) rfl, ?_⟩
  refine ⟨_, rfl, _, rfl, kr, TD, _, _, rfl, SqL.of h2c, SqL.of h5, fun D2 hD2 => ?_⟩
  have mn2 : l.ds.length = min ((l.ds.map PL.Wd.kind).map V.str).length vs.length := by
    rw [List.length_map, List.length_map, ← vl, Nat.min_self]
  refine lc_it (walk_zip mn2) (fun i H' => Same H5 H' ∧ ∃ us, H' D2 = some (.lst us) ∧ us.length ≤ i ∧ Paired (PL.Val H' ps) ((l.ds.take i).filter toldB) us) ⟨Same.new hD2, [], upd_same, Nat.le_refl _, .nil⟩ (fun i H' _ z => ⟨z.1.seq (SqL.of h2c), z.1.seq (SqL.of h5)⟩) ?_ ?_
  · rintro i y G1 G2 hi ⟨s6, us, h6, ul, pr6⟩ ⟨T0, x1, x2, rfl, hT0, rfl, e1, e2⟩
    have hd : l.ds[i]? = some l.ds[i] := List.getElem?_eq_getElem hi
    generalize l.ds[i] = d at hd
    have e1' : x1 = .str d.kind := by
      have e0 : ((l.ds.map PL.Wd.kind).map V.str)[i]? = some x1 := e1
      rw [List.getElem?_map, List.getElem?_map, hd] at e0
      exact (Option.some.inj e0).symm
    subst e1'
    have hv : PL.Val H5 ps d x2 := paired_at pr hd e2
    have okd := ok.ds d (List.mem_of_getElem? hd)
    refine ⟨T0, _, rfl, SqT.of upd_same, rfl, _, _, rfl, _, _, rfl, rfl, ?_⟩
    have s7 := s6.trans (Same.new (o := .tup [.str d.kind, x2]) hT0)
    have h7 := Same.new (o := .tup [.str d.kind, x2]) hT0 _ _ h6
    have pr7 := PL.paired_same (Same.new (o := .tup [.str d.kind, x2]) hT0) pr6
    generalize upd G1 T0 (.tup [.str d.kind, x2]) = G3 at s7 h7 pr7 ⊢
    refine ⟨rfl, _, rfl, _, _, rfl, .inr (Tq.t_FIXED _), rfl, CF.flat_strs _, _, rfl, ?_⟩
    rw [if_pos rfl, CF.inV_strs, fixed_kind okd, Bool.not_not]
    have tk : (l.ds.take (i + 1)).filter toldB = (l.ds.take i).filter toldB ++ [d].filter toldB := by
      rw [List.take_add_one, hd, List.filter_append]
      rfl
    cases e : toldB d with
    | false =>
      refine iteF ⟨s7, us, h7, by omega, ?_⟩
      rw [tk, List.filter_cons_of_neg (by rw [e]; decide), List.filter_nil, List.append_nil]
      exact pr7
    | true =>
      refine iteT ⟨_, rfl, us, h7, by omega, same_put s7 hD2 h7, us ++ [x2], upd_same, by rw [List.length_append, List.length_singleton]; omega, ?_⟩
      rw [tk, List.filter_cons_of_pos (by rw [e])]
      exact paired_put h7 (paired_snoc (hv.same s7) pr7)
  rintro H6 ⟨s6, us, h6, ul, pr6⟩
  rw [List.take_length] at pr6
  refine ⟨D2, us, rfl, .inl ⟨SqL.of h6, fun tt htt => ?_⟩⟩
  refine ⟨by show 2 ≤ sizeLine; decide, fun rr hrr => ?_⟩
  have sA := (s05.trans s6).trans (Same.new (o := .tup us) htt)
  refine k rr _ (sA.trans (Same.new hrr)) (Same.free sA hrr) ⟨⟨tt, us, upd_same, ?_, ?_⟩⟩
  · rw [upd_ne (ne_of_none upd_same hrr)]
    exact upd_same
  · exact PL.paired_same ((Same.new (o := .tup us) htt).trans (Same.new hrr)) pr6

end
end K18
end
section
set_option Elab.async false
set_option linter.all false
set_option maxRecDepth 100000
set_option maxHeartbeats 4000000
namespace K18
open PySem PySem.Spec PyProof.Rows L2
open PySem.W (ke_shaped_ints)
local macro_rules | `(tactic| walk_at "go") => `(tactic| first | refine ⟨_, rfl, ?_⟩ | refine .inl ⟨_, rfl, ?_⟩ | refine ⟨_, _, rfl, rfl, (by first | (show (0 : Int) < _; decide) | exact Or.inl ⟨by decide, by decide⟩ | exact Or.inr ⟨by decide, by decide⟩), ?_⟩ | refine ⟨_, _, rfl, rfl, ?_⟩)
section
variable {P : Program} {w : World} {K : PySem.W.Frag} {mg : Str → Option Value} {base : Heap}

/-- the rows of lines -/
def RowsAt (H : Hp) (ps : List Str) (ls : List PL.Ln) (rs : List Addr) : Prop := Paired (PL.RowAt H ps) ls rs
theorem RowsAt.same {H H' : Hp} {ps : List Str} (s : Same H H') : ∀ {ls : List PL.Ln} {rs : List Addr}, RowsAt H ps ls rs → RowsAt H' ps ls rs
  | _, _, .nil => .nil
  | _, _, .cons r t => .cons (r.same s) (RowsAt.same s t)
theorem RowAt.put {H : Hp} {ps : List Str} {l : PL.Ln} {r p : Addr} {xs : List V} {o : HO} (h : PL.RowAt H ps l r) (hp : H p = some (.lst xs)) : PL.RowAt (upd H p o) ps l r := by
  obtain ⟨t, vs, a, b, c⟩ := h.ex
  exact ⟨t, vs, by rw [upd_ne (ne_of a hp (by intro z; cases z))]; exact a, by rw [upd_ne (ne_of b hp (by intro z; cases z))]; exact b, paired_put hp c⟩
theorem RowsAt.put {H : Hp} {ps : List Str} {p : Addr} {xs : List V} {o : HO} (hp : H p = some (.lst xs)) : ∀ {ls : List PL.Ln} {rs : List Addr}, RowsAt H ps ls rs → RowsAt (upd H p o) ps ls rs
  | _, _, .nil => .nil
  | _, _, .cons r t => .cons (RowAt.put r hp) (RowsAt.put hp t)
/-- formed_rows(lines, pointers, functions) of right lines -/
def spFormed (K : PySem.W.Frag) : Sp := fun vs H Q _ => ∃ (la a : Addr) (ps : List Str) (ls : List PL.Ln) (fv : V), vs = [.ref la, .ref a, fv] ∧ SqL K H la (ls.map fun l => V.str l.text) ∧ SqT K H a (ps.map V.str) ∧ CF.Names ps ∧ (∀ l ∈ ls, l.Ok ps) ∧ ls.length ≤ 40 ∧
  ∀ (q : Addr) (rs : List Addr) (H' : Hp), Same H H' → H q = none → H' q = some (.lst (rs.map V.ref)) → RowsAt H' ps ls rs → Q (.ref q) H'
abbrev s_formed_rows : Stmt := topS 54
theorem sc_formed_rows : FnScope ["lines", "pointers", "functions", "rows", "line", "row"] ["lines", "pointers", "functions"] (defScope s_formed_rows) := ⟨rfl, rfl, rfl, by decide +kernel, rfl, by decide +kernel, by decide +kernel⟩
theorem ok_formed_rows (T : TxtP K mg) (Tq : PL.TxtQ K w mg) (D : Def K mg "formed_rows" s_formed_rows) (C_read_line : Cal P w K mg base 6 "read_line" ["line", "pointers", "functions"] (spReadLine K)) : Cal P w K mg base 7 "formed_rows" ["lines", "pointers", "functions"] (spFormed K) := by
  refine D.cal sc_formed_rows (fun vs H Q E h => ?_) (fun _ _ _ _ _ _ us hl => match us, hl with | [_, _, _], _ => rfl) (fun f cdv A outer s H vs Q E hr h => ?_)
  · obtain ⟨la, a, ps, ls, fv, rfl, _⟩ := h
    rfl
  have hu := hu_of hr

  obtain ⟨la, a, ps, ls, fv, rfl, hL, hT, nm, ok, n40, k⟩ := h
  have big : sizeLine = 16777216 := sizeLine_eq
  refine ⟨_, (pss_cons (ps_set (i := 3) sc_formed_rows.nd rfl (by first | exact Or.inl rfl | exact Or.inr rfl) (pe_lst pa_nil))
      (pss_cons (ps_for PassesOwn.never rfl (pi_list (pe_slice sl_list (pv 0) po_none (po_some (pe_gint (by rfl) Tq.c_MOST_LINES)))) (pg_name (i := 4) sc_formed_rows.nd rfl (by first | exact Or.inl rfl | exact Or.inr rfl)) (pss_cons (ps_set (i := 5) sc_formed_rows.nd rfl (by first | exact Or.inl rfl | exact Or.inr rfl) (pe_cal C_read_line (hr.mono (by decide)) rfl (pa_cons (pv 4) (pa_cons (pv 1) (pa_cons (pv 2) pa_nil)))))
      (pss_cons (ps_if (pt_cmpR op_isN (pv 5) pe_non (nomark _)) (pss_one (ps_ret (pv 3))) pss_nil)
      (pss_one (ps_expr (pe_bm PySem.F.plainAttrs_list PySem.F.slot_list_append PySem.F.type_list_append mt_append (pv 3) (pa_cons (pv 5) pa_nil)))))))
      (pss_one (ps_ret (pv 3))))), ?_⟩
  refine ⟨by show 0 ≤ sizeLine; decide, fun q hq => ?_⟩
  have s1 := Same.new (o := .lst []) hq
  have h1 : upd H q (.lst []) q = some (.lst []) := upd_same
  generalize upd H q (.lst []) = H1 at s1 h1 ⊢
  refine ⟨_, rfl, _, rfl, la, _, rfl, s1.seq hL, fun cl hcl => ?_⟩
  have cut : cutV (ls.map fun l => V.str l.text) none (some 40) = ls.map fun l => V.str l.text := by
    rw [CF.cut_to _ (by decide)]
    exact List.take_of_length_le (by rw [List.length_map]; exact n40)
  rw [cut]
  have s2 := s1.trans (Same.new (o := .lst (ls.map fun l => V.str l.text)) hcl)
  have h2 := Same.new (o := .lst (ls.map fun l => V.str l.text)) hcl _ _ h1
  have hc : upd H1 cl (.lst (ls.map fun l => V.str l.text)) cl = some (.lst (ls.map fun l => V.str l.text)) := upd_same
  generalize upd H1 cl (.lst (ls.map fun l => V.str l.text)) = H2 at s2 h2 hc ⊢
  refine ⟨cl, rfl, ⟨_, SqL.of hc⟩, for_it walk_list (fun i σ H' => ∃ v4 v5 rs, σ = [some (.ref la), some (.ref a), some fv, some (.ref q), v4, v5] ∧ Same H H' ∧ H' cl = some (.lst (ls.map fun l => V.str l.text)) ∧ H' q = some (.lst (rs.map V.ref)) ∧ RowsAt H' ps (ls.take i) rs)
    ⟨none, none, [], rfl, s2, hc, h2, .nil⟩ (fun i σ H' _ ⟨_, _, _, _, _, z, _⟩ => SqL.of z) ?_ ?_⟩
  · rintro i x σ H3 H4 hi ⟨v4, v5, rs, rfl, s3, c3, q3, r3⟩ ⟨rfl, hx⟩
    have hx' : (ls.map fun l => V.str l.text)[i]? = some x := hx
    rw [List.getElem?_map] at hx'
    obtain ⟨l, hl, rfl⟩ := Option.map_eq_some_iff.mp hx'
    refine ⟨_, rfl, _, rfl, _, rfl, a, ps, l, fv, rfl, s3.tup hT, nm, ok l (List.mem_of_getElem? hl), fun r H5 s5 f5 rr => ?_⟩
    refine ⟨_, rfl, rfl, _, rfl, ite2 (fun c => absurd (of_decide_eq_true c) (fun e => by cases e)) (fun _ => ?_)⟩
    have q5 := s5 _ _ q3
    have rl := paired_len r3
    have cq : cl ≠ q := (ne_of_none h1 hcl).symm
    refine ⟨_, rfl, .inl ⟨rfl, _, SqL.of q5⟩, _, rfl, q, _, _, rfl, rfl, q5, ?_, ?_⟩
    · rw [List.length_map, ← rl, List.length_take]
      omega
    · refine ⟨_, _, rs ++ [r], rfl, same_put (s3.trans s5) hq q5, ?_, ?_, ?_⟩
      · rw [upd_ne cq]
        exact s5 _ _ c3
      · rw [List.map_append]
        exact upd_same
      · rw [List.take_add_one, hl]
        exact RowsAt.put q5 (paired_snoc rr (RowsAt.same s5 r3))
  · rintro σ H3 ⟨v4, v5, rs, rfl, s3, c3, q3, r3⟩
    rw [List.length_map, List.take_length] at r3
    exact ⟨_, rfl, k q rs H3 s3 hq q3 r3⟩

end
end K18
end
section
set_option Elab.async false
set_option linter.all false
set_option maxRecDepth 100000
set_option maxHeartbeats 4000000
namespace K18
open PySem PySem.Spec PyProof.Rows L2
open PySem.W (ke_shaped_ints)
local macro_rules | `(tactic| walk_at "go") => `(tactic| first | refine ⟨_, rfl, ?_⟩ | refine .inl ⟨_, rfl, ?_⟩ | refine ⟨_, _, rfl, rfl, (by first | (show (0 : Int) < _; decide) | exact Or.inl ⟨by decide, by decide⟩ | exact Or.inr ⟨by decide, by decide⟩), ?_⟩ | refine ⟨_, _, rfl, rfl, ?_⟩)
section
variable {P : Program} {w : World} {K : PySem.W.Frag} {mg : Str → Option Value} {base : Heap}

/-- may_stand(word, before, around), no else -/
def spMayStand (K : PySem.W.Frag) : Sp := fun vs H Q _ => ∃ (wd be : Str) (a : Addr) (ar : List Str), vs = [.str wd, .str be, .ref a] ∧ SqL K H a (ar.map V.str) ∧ wd ≠ "else" ∧ ar.length ≤ 1000 ∧ ∀ H', Same H H' → Q (.bl (PL.stand wd be ar)) H'
abbrev s_may_stand : Stmt := topS 56
theorem sc_may_stand : FnScope ["word", "before", "around"] ["word", "before", "around"] (defScope s_may_stand) := ⟨rfl, rfl, rfl, by decide +kernel, rfl, by decide +kernel, by decide +kernel⟩
theorem ok_may_stand (T : TxtP K mg) (Tq : PL.TxtQ K w mg) (D : Def K mg "may_stand" s_may_stand) : Cal P w K mg base 1 "may_stand" ["word", "before", "around"] (spMayStand K) := by
  refine D.cal sc_may_stand (fun vs H Q E h => ?_) (fun _ _ _ _ _ _ us hl => match us, hl with | [_, _, _], _ => rfl) (fun f cdv A outer s H vs Q E hr h => ?_)
  · obtain ⟨wd, be, a, ar, rfl, _⟩ := h
    rfl
  have hu := hu_of hr

  obtain ⟨wd, be, a, ar, rfl, hA, ne, al, k⟩ := h
  refine ⟨_, (pss_cons (ps_if (pt_cmpR op_eq (pv 1) pe_str (nomark _)) (pss_one (ps_ret pe_bl)) pss_nil)
      (pss_cons (ps_if (pt_cmpR op_eq (pv 0) pe_str (nomark _)) (pss_one (ps_ret (pe_cmpR op_eq (pv 1) pe_str (nomark _)))) pss_nil)
      (pss_cons (ps_if (pt_cmpR op_eq (pv 0) pe_str (nomark _)) (pss_one (ps_ret (pe_notT (pv 2)))) pss_nil)
      (pss_cons (ps_if (pt_cmpR op_eq (pv 0) pe_str (nomark _)) (pss_one (ps_ret (pe_cmpR (op_eqD hr.units) (pe_slice sl_list (pv 2) (po_some (pe_un un_neg pe_int)) po_none) (pe_lst (pa_cons pe_str pa_nil)) (nomark _)))) pss_nil)
      (pss_cons (ps_if (pt_cmpR op_eq (pv 0) pe_str (nomark _)) (pss_one (ps_ret (pe_cmpR op_gt (pe_callB call_len (by rfl) T.f_len PySem.boot_len (pa_cons (pv 2) pa_nil)) pe_int (nomark _)))) pss_nil)
      (pss_one (ps_ret (pe_or (pe_cmpR op_notIn_seq (pv 0) (pe_gref (by rfl) Tq.g_OPENING) (by rfl)) (pe_one (pe_cmpR op_lt (pe_callB call_len (by rfl) T.f_len PySem.boot_len (pa_cons (pv 2) pa_nil)) (pe_gint (by rfl) Tq.c_MOST_OPEN) (nomark _))))))))))), ?_⟩
  have K1 : ∀ b, PL.stand wd be ar = b → Q (.bl b) H := fun b e => by rw [← e]; exact k H (fun _ _ h => h)
  refine ⟨_, rfl, rfl, _, rfl, ite2 (fun c => K1 _ ?_) (fun n1 => ?_)⟩
  · unfold PL.stand
    rw [if_pos (V.str.inj (of_decide_eq_true c))]
  have n1' : be ≠ "give" := fun e => n1 (decide_eq_true (by rw [e]))
  refine ⟨_, rfl, rfl, _, rfl, ite2 (fun c => ?_) (fun n2 => ?_)⟩
  · refine ⟨_, rfl, rfl, K1 _ ?_⟩
    unfold PL.stand
    rw [if_neg n1', if_pos (V.str.inj (of_decide_eq_true c))]
    exact decide_eq_decide.mpr ⟨fun e => by rw [e], fun e => V.str.inj e⟩
  have n2' : wd ≠ "input" := fun e => n2 (decide_eq_true (by rw [e]))
  refine ⟨_, rfl, rfl, _, rfl, ite2 (fun c => ?_) (fun n3 => ?_)⟩
  · have e : wd = "give" := V.str.inj (of_decide_eq_true c)
    refine ⟨_, rfl, _, .inl ⟨_, hA, rfl⟩, K1 _ ?_⟩
    subst e
    unfold PL.stand
    rw [if_neg n1', if_neg n2', if_pos rfl, List.isEmpty_map, Bool.not_not]
  have n3' : wd ≠ "give" := fun e => n3 (decide_eq_true (by rw [e]))
  refine ⟨_, rfl, rfl, _, rfl, ite2 (fun c => absurd (V.str.inj (of_decide_eq_true c)) ne) (fun _ => ?_)⟩
  refine ⟨_, rfl, rfl, _, rfl, ite2 (fun c => ?_) (fun n4 => ?_)⟩
  · have e : wd = "end" := V.str.inj (of_decide_eq_true c)
    refine ⟨_, rfl, _, _, rfl, .inl ⟨_, hA, rfl⟩, _, _, rfl, rfl, K1 _ ?_⟩
    subst e
    unfold PL.stand
    rw [if_neg n1', if_neg n2', if_neg n3', if_pos rfl, List.length_map]
    cases ar with
    | nil => rfl
    | cons _ _ => exact (decide_eq_true (by rw [List.length_cons]; omega)).symm
  have n4' : wd ≠ "end" := fun e => n4 (decide_eq_true (by rw [e]))
  refine ⟨_, rfl, _, _, rfl, .inr (Tq.t_OPENING _), rfl, CF.flat_strs _, _, rfl, ?_⟩
  rw [if_pos rfl, CF.inV_strs]
  have e5 : PL.stand wd be ar = (!decide (wd ∈ PL.Opening) || decide (ar.length < 5)) := by
    unfold PL.stand
    rw [if_neg n1', if_neg n2', if_neg n3', if_neg n4']
  cases e6 : decide (wd ∈ PL.Opening) with
  | false =>
    refine iteT (K1 _ ?_)
    rw [e5, e6]
    rfl
  | true =>
    refine iteF ⟨_, rfl, _, _, rfl, .inl ⟨_, hA, rfl⟩, _, _, rfl, rfl, K1 _ ?_⟩
    rw [e5, e6, List.length_map]
    show (false || decide (ar.length < 5)) = _
    rw [Bool.false_or]
    exact decide_eq_decide.mpr (by omega)

end
end K18
end
section
set_option Elab.async false
set_option linter.all false
set_option maxRecDepth 100000
set_option maxHeartbeats 4000000
namespace K18
open PySem PySem.Spec PyProof.Rows L2
open PySem.W (ke_shaped_ints)
local macro_rules | `(tactic| walk_at "go") => `(tactic| first | refine ⟨_, rfl, ?_⟩ | refine .inl ⟨_, rfl, ?_⟩ | refine ⟨_, _, rfl, rfl, (by first | (show (0 : Int) < _; decide) | exact Or.inl ⟨by decide, by decide⟩ | exact Or.inr ⟨by decide, by decide⟩), ?_⟩ | refine ⟨_, _, rfl, rfl, ?_⟩)
section
variable {P : Program} {w : World} {K : PySem.W.Frag} {mg : Str → Option Value} {base : Heap}

/-- placed_rows(rows) -/
def spPlaced (K : PySem.W.Frag) : Sp := fun vs H Q _ => ∃ (rl : Addr) (ps : List Str) (ls : List PL.Ln) (rs : List Addr) (ar : List Str), vs = [.ref rl] ∧ H rl = some (.lst (rs.map V.ref)) ∧ RowsAt H ps ls rs ∧ (∀ l ∈ ls, l.w ≠ "else") ∧ ls.length ≤ 40 ∧ PL.placed (ls.map PL.Ln.w) "input" [] = some ar ∧
  ∀ (r al : Addr) (H' : Hp), Same H H' → H al = none → H r = none → H' r = some (.tup [.ref rl, .ref al]) → H' al = some (.lst (ar.map V.str)) → Q (.ref r) H'
theorem row_get {H : Hp} {ps : List Str} {ls : List PL.Ln} {rs : List Addr} {i : Nat} {x : V} (h : RowsAt H ps ls rs) (hx : (rs.map V.ref)[i]? = some x) : ∃ r l, x = .ref r ∧ rs[i]? = some r ∧ ls[i]? = some l ∧ PL.RowAt H ps l r := by
  rw [List.getElem?_map] at hx
  obtain ⟨r, hr, rfl⟩ := Option.map_eq_some_iff.mp hx
  have hi := (List.getElem?_eq_some_iff.mp hr).1
  have hl := paired_len h
  have e : ls[i]? = some ls[i] := List.getElem?_eq_getElem (by omega)
  exact ⟨r, _, rfl, hr, e, paired_at h e hr⟩
abbrev s_placed_rows : Stmt := topS 55
theorem sc_placed_rows : FnScope ["rows", "around", "before", "index", "word", "_"] ["rows"] (defScope s_placed_rows) := ⟨rfl, rfl, rfl, by decide +kernel, rfl, by decide +kernel, by decide +kernel⟩
theorem ok_placed_rows (T : TxtP K mg) (Tq : PL.TxtQ K w mg) (D : Def K mg "placed_rows" s_placed_rows) (C_may_stand : Cal P w K mg base 1 "may_stand" ["word", "before", "around"] (spMayStand K)) : Cal P w K mg base 2 "placed_rows" ["rows"] (spPlaced K) := by
  refine D.cal sc_placed_rows (fun vs H Q E h => ?_) (fun _ _ _ _ _ _ us hl => match us, hl with | [_], _ => rfl) (fun f cdv A outer s H vs Q E hr h => ?_)
  · obtain ⟨rl, ps, ls, rs, ar, rfl, _⟩ := h
    rfl
  have hu := hu_of hr

  obtain ⟨rl, ps, ls, rs, ar, rfl, hR, rows, ne, n40, hp, k⟩ := h
  have big : sizeLine = 16777216 := sizeLine_eq
  refine ⟨_, (pss_cons (ps_set (i := 1) sc_placed_rows.nd rfl (by first | exact Or.inl rfl | exact Or.inr rfl) (pe_lst pa_nil))
      (pss_cons (ps_set (i := 2) sc_placed_rows.nd rfl (by first | exact Or.inl rfl | exact Or.inr rfl) pe_str)
      (pss_cons (ps_for PassesOwn.never rfl (pi_enum (by rfl) T.f_enumerate (pa_cons (pv 0) pa_nil)) (pg_tup rfl (pgs_cons (pg_name (i := 3) sc_placed_rows.nd rfl (by first | exact Or.inl rfl | exact Or.inr rfl)) (pgs_cons (pg_tup rfl (pgs_cons (pg_name (i := 4) sc_placed_rows.nd rfl (by first | exact Or.inl rfl | exact Or.inr rfl)) (pgs_cons (pg_name (i := 5) sc_placed_rows.nd rfl (by first | exact Or.inl rfl | exact Or.inr rfl)) pgs_nil))) pgs_nil))) (pss_cons (ps_if (pt_not (pt_val (pe_cal C_may_stand (hr.mono (by decide)) rfl (pa_cons (pv 4) (pa_cons (pv 2) (pa_cons (pv 1) pa_nil)))))) (pss_one (ps_ret (pe_tup (pa_cons (pe_slice sl_list (pv 0) po_none (po_some (pv 3))) (pa_cons (pv 1) pa_nil))))) pss_nil)
      (C8.pss_cut (ps_if (pt_cmpR op_in_seq (pv 4) (pe_gref (by rfl) Tq.g_OPENING) (by rfl)) (pss_one (ps_expr (pe_bm PySem.F.plainAttrs_list PySem.F.slot_list_append PySem.F.type_list_append mt_append (pv 1) (pa_cons (pv 4) pa_nil)))) (pss_one (ps_if (pt_cmpR op_eq (pv 4) pe_str (nomark _)) (pss_one (ps_asg (pv 4) (pg_sub (pv 1) (pe_un un_neg pe_int) set_list))) (pss_one (ps_if (pt_cmpR op_eq (pv 4) pe_str (nomark _)) (pss_one (ps_expr (pe_bm0 PySem.F.plainAttrs_list PySem.F.slot_list_pop PySem.F.type_list_pop mt_pop (pv 1)))) pss_nil)))))
      (pss_one (ps_set (i := 2) sc_placed_rows.nd rfl (by first | exact Or.inl rfl | exact Or.inr rfl) (pv 4))))))
      (pss_one (ps_ret (pe_tup (pa_cons (pv 0) (pa_cons (pv 1) pa_nil)))))))), ?_⟩
  refine ⟨by show 0 ≤ sizeLine; decide, fun al hal => ?_⟩
  have s1 := Same.new (o := .lst []) hal
  have h1 : upd H al (.lst []) al = some (.lst []) := upd_same
  generalize upd H al (.lst []) = H1 at s1 h1 ⊢
  have pos : ∀ i w, (ls.map PL.Ln.w)[i]? = some w → ∃ ar', PL.placed ((ls.map PL.Ln.w).take i) "input" [] = some ar' ∧ PL.stand w (PL.lastW "input" ((ls.map PL.Ln.w).take i)) ar' = true ∧ PL.placed ((ls.map PL.Ln.w).take (i + 1)) "input" [] = some (PL.push w ar') := fun i w h => PL.placed_at hp h
  have rle := paired_len rows
  refine ⟨_, rfl, rl, _, rfl, SqL.of (s1 _ _ hR), for_it walk_enum (fun i σ H' => ∃ v3 v4 v5 ar', σ = [some (.ref rl), some (.ref al), some (.str (PL.lastW "input" ((ls.map PL.Ln.w).take i))), v3, v4, v5] ∧ Same H H' ∧ H' al = some (.lst (ar'.map V.str)) ∧ PL.placed ((ls.map PL.Ln.w).take i) "input" [] = some ar')
    ⟨none, none, none, [], rfl, s1, h1, rfl⟩ (fun i σ H' _ ⟨_, _, _, _, _, z, _⟩ => SqL.of (z _ _ hR)) ?_ ?_⟩
  · rintro i x σ H3 H4 hi ⟨v3, v4, v5, ar', rfl, s3, h3, p3⟩ ⟨T0, x1, x2, rfl, hT0, rfl, e1, e2⟩
    cases e1
    obtain ⟨r, l, rfl, hr', hl, row⟩ := row_get (RowsAt.same s3 rows) e2
    have hw : (ls.map PL.Ln.w)[i]? = some l.w := by rw [List.getElem?_map, hl]; rfl
    obtain ⟨ar2, p1, st, p2⟩ := pos i _ hw
    rw [p3] at p1
    cases p1
    have arl := PL.placed_len p3
    rw [List.length_nil, List.length_take, List.length_map] at arl
    obtain ⟨t, vs, g1, g2, g3⟩ := row.ex
    have s4 := s3.trans (Same.new (o := .tup [.int (i : Nat), .ref r]) hT0)
    have h4 := Same.new (o := .tup [.int (i : Nat), .ref r]) hT0 _ _ h3
    have g1' := Same.new (o := .tup [.int (i : Nat), .ref r]) hT0 _ _ g1
    refine ⟨T0, _, rfl, SqT.of upd_same, rfl, _, _, rfl, _, _, rfl, ⟨r, _, rfl, SqT.of g1', rfl, _, _, rfl, _, _, rfl, rfl, ?_⟩⟩
    generalize upd H3 T0 (.tup [.int (i : Nat), .ref r]) = H5 at s4 h4 g1' ⊢
    refine ⟨rfl, ?_⟩
    refine ⟨_, rfl, _, rfl, _, rfl, l.w, _, al, ar', rfl, SqL.of h4, ne l (List.mem_of_getElem? hl), by omega, fun H6 s6 => ⟨_, rfl, ?_⟩⟩
    rw [st]
    refine iteF ?_
    have h6 := s6 _ _ h4
    have s46 := s4.trans s6
    refine ⟨fun σ' H' => σ' = [some (.ref rl), some (.ref al), some (.str (PL.lastW "input" ((ls.map PL.Ln.w).take i))), some (.int (i : Nat)), some (.str l.w), some (.ref t)] ∧ Same H H' ∧ H' al = some (.lst ((PL.push l.w ar').map V.str)), ?_, ?_⟩
    · refine ⟨_, rfl, _, _, rfl, .inr (Tq.t_OPENING _), rfl, CF.flat_strs _, _, rfl, ?_⟩
      rw [if_neg (by decide), CF.inV_strs]
      cases e6 : decide (l.w ∈ PL.Opening) with
      | true =>
        refine iteT ⟨_, rfl, .inl ⟨rfl, _, SqL.of h6⟩, _, rfl, al, _, _, rfl, rfl, h6, by rw [List.length_map]; omega, ?_⟩
        refine ⟨rfl, same_put s46 hal h6, ?_⟩
        have e : PL.push l.w ar' = ar' ++ [l.w] := by unfold PL.push; rw [if_pos (of_decide_eq_true e6)]
        rw [e, List.map_append]
        exact upd_same
      | false =>
        have n1 : l.w ∉ PL.Opening := of_decide_eq_false e6
        refine iteF ⟨_, rfl, rfl, _, rfl, ite2 (fun c => absurd (V.str.inj (of_decide_eq_true c)) (ne l (List.mem_of_getElem? hl))) (fun _ => ?_)⟩
        refine ⟨_, rfl, rfl, _, rfl, ite2 (fun c => ?_) (fun n2 => ?_)⟩
        · have e : l.w = "end" := V.str.inj (of_decide_eq_true c)
          have e2 : PL.push l.w ar' = ar'.dropLast := by unfold PL.push; rw [if_neg n1, if_pos e]
          have ne0 : ar' ≠ [] := by
            intro z
            rw [e, z] at st
            unfold PL.stand at st
            split at st
            · cases st
            · rw [if_neg (by decide +kernel), if_neg (by decide +kernel), if_pos rfl] at st
              cases st
          obtain ⟨y, hy⟩ : ∃ y, (ar'.map V.str)[(ar'.map V.str).length - 1]? = some y := ⟨_, List.getElem?_eq_getElem (by rw [List.length_map]; have := List.length_pos_iff.mpr ne0; omega)⟩
          refine ⟨_, rfl, .inl ⟨rfl, _, SqL.of h6⟩, al, _, y, rfl, rfl, h6, hy, ?_⟩
          refine ⟨rfl, same_put s46 hal h6, ?_⟩
          rw [e2, ← List.map_dropLast]
          exact upd_same
        · have n2' : l.w ≠ "end" := fun e => n2 (decide_eq_true (by rw [e]))
          refine ⟨rfl, s46, ?_⟩
          have e2 : PL.push l.w ar' = ar' := by unfold PL.push; rw [if_neg n1, if_neg n2']
          rw [e2]
          exact h6
    · rintro σ' H' ⟨rfl, s7, h7⟩
      refine ⟨_, rfl, some (.int (i : Nat)), some (.str l.w), some (.ref t), PL.push l.w ar', ?_, s7, h7, p2⟩
      have e : (ls.map PL.Ln.w).take (i + 1) = (ls.map PL.Ln.w).take i ++ [l.w] := by rw [List.take_add_one, hw]; rfl
      rw [e, PL.lastW_snoc]
      rfl
  · rintro σ H3 ⟨v3, v4, v5, ar', rfl, s3, h3, p3⟩
    have e : (ls.map PL.Ln.w).take (rs.map V.ref).length = ls.map PL.Ln.w := List.take_of_length_le (by rw [List.length_map, List.length_map]; omega)
    rw [e, hp] at p3
    cases p3
    refine ⟨_, rfl, _, rfl, by show 2 ≤ sizeLine; decide, fun r hr => ?_⟩
    exact k r al _ (s3.trans (Same.new hr)) hal (Same.free s3 hr) upd_same (by rw [upd_ne (ne_of_none h3 hr)]; exact h3)

end
end K18
end
section
set_option Elab.async false
set_option linter.all false
set_option maxRecDepth 100000
set_option maxHeartbeats 4000000
namespace PySem
open Sem (wp)
/-! {**d, k: v}: a dict merged into a new one -/
section
variable {prog : Program} {w : World} {K : Type} [DecidableEq K] {knd : KeyKind prog w K} {A : Around} {E : Value → Shared → Prop} {s : Shared}
theorem put_pairs {d : Addr} {kvs : List (K × Value)} {k : K} {key v : Value} {Q : Unit → Shared → Prop} (hkey : knd.is k key = true) (hm : s.heap.DictOf knd d kvs) (hsz : kvs.length ≤ sizeLine)
    (hQ : ∀ h', h'.DictOf knd d (stored kvs k v) → Heap.SameBut d s.heap h' → Q () { s with heap := h' }) : wpAny (model prog w) A (dictPut d (knd.hash k) key v) Q E s := by
  obtain ⟨o, es, ep, ho, hc, hd, hk, hp, hn⟩ := hm
  have l1 : es.toList.length = es.size := by simp
  have l2 := hp.length
  have idx : (es.findIdx? fun e => knd.is k e.key) = kvs.findIdx? fun kv => decide (kv.1 = k) := by
    have q := hp.findIdx k
    obtain ⟨l⟩ := es
    rw [← q]; simp
  unfold dictPut
  refine wpAny_bind (wpAny_dictFind_of hkey ho hd hk ?_)
  cases f : es.findIdx? fun e => knd.is k e.key with
  | some i =>
    have there := any_of_findIdx_some (idx ▸ f)
    refine wpAny_updateDict ho hd ?_
    refine hQ _ ?_ (Heap.SameBut.update ..)
    rw [stored, if_pos there]
    refine ⟨_, _, ep, Heap.get?_update_self _ ho ?_, hc.mapDict _, Obj.data_mapDict hd _, hk.modify i v, ?_, ?_⟩
    · exact Obj.isFreed_of_dict (Obj.data_mapDict hd _)
    · have fl : (es.toList.findIdx? fun e => knd.is k e.key) = some i := by
        rw [← f]
        obtain ⟨l⟩ := es
        simp
      have q := hp.modify hn fl v
      obtain ⟨l⟩ := es
      simpa using q
    · rw [keys_map_store]
      exact hn
  | none =>
    have gone : k ∉ kvs.map (·.1) := not_mem_of_findIdx_none (idx ▸ f)
    have none_ : ¬ (kvs.any fun kv => decide (kv.1 = k)) = true := fun h => by
      obtain ⟨kv, hkv, he⟩ := List.any_eq_true.mp h
      exact gone (List.mem_map.mpr ⟨kv, hkv, of_decide_eq_true he⟩)
    refine wpAny_updateDictKeys (hz := by omega) ho hd ?_
    refine hQ _ ?_ (Heap.SameBut.update ..)
    rw [stored, if_neg none_]
    refine ⟨_, _, ep + 1, Heap.get?_update_self _ ho ?_, hc.mapDictKeys _, Obj.data_mapDictKeys hd _, hk.push hkey v, ?_, ?_⟩
    · exact Obj.isFreed_of_dict (Obj.data_mapDictKeys hd _)
    · have q := hp.append hkey (knd.hash k) v
      obtain ⟨l⟩ := es
      simpa using q
    · rw [List.map_append, List.nodup_append]
      refine ⟨hn, by simp, fun a ha b hb => ?_⟩
      rw [List.map_cons, List.map_nil, List.mem_singleton] at hb
      rw [hb]
      rintro rfl
      exact gone ha
/-- the turns of a merge -/
def turnInto (d a : Addr) (epoch i : Nat) : Sem (ForInStep PUnit) := do
  let now ← dictEntries a
  match now[i]? with
  | some e => do
    holding [e.key, e.val] (if false = true then (do
        let found ← dictFind d e.key e.hash
        if found.isSome = true then (do
            rule "dict.merge.duplicate-key"
            let x ← newExc (.type "KeyError") [e.key]
            raiseNew x
            dictPut d e.hash e.key e.val)
          else dictPut d e.hash e.key e.val)
      else dictPut d e.hash e.key e.val)
    let ep ← dictEpoch a
    if (ep != epoch) = true then (do
        (unsupported "dict.changed-during-merge" : Sem PUnit)
        pure (ForInStep.yield PUnit.unit))
      else pure (ForInStep.yield PUnit.unit)
  | _ => do
    (unsupported "dict.changed-during-merge" : Sem PUnit)
    pure (ForInStep.yield PUnit.unit)
def copyInto (d a : Addr) : Sem Unit := do
  let all ← dictEntries a
  let epoch ← dictEpoch a
  forIn (List.range all.size) PUnit.unit fun i _ => turnInto d a epoch i
  pure ()
theorem copyInto_ok {d a : Addr} {kvs more : List (K × Value)} {Q : Unit → Shared → Prop} (hda : d ≠ a) (hd : s.heap.DictOf knd d kvs) (ha : s.heap.DictOf knd a more)
    (hsz : kvs.length + more.length ≤ sizeLine) (hQ : ∀ h', h'.DictOf knd d (merged kvs more) → Heap.SameBut d s.heap h' → Q () { s with heap := h' }) :
    wpAny (model prog w) A (copyInto d a) Q E s := by
  obtain ⟨oa, esa, epa, hoa, hca, hda', hka, hpa, hna⟩ := id ha
  have ln : more.length = esa.size := by rw [← hpa.length]; simp
  unfold copyInto
  refine wpAny_bind (wpAny_dictEntries hoa hda' ?_)
  refine wpAny_bind (wpAny_dictEpoch hoa hda' ?_)
  refine wpAny_bind (wpAny_forIn_list _ (fun rest _ s' => ∃ h' i, s' = { s with heap := h' } ∧ rest = (List.range esa.size).drop i ∧ i ≤ esa.size ∧ h'.DictOf knd d (merged kvs (more.take i)) ∧ h'.get? a = some oa ∧ Heap.SameBut d s.heap h') _ ?_ ?_ _ _
    ⟨s.heap, 0, rfl, rfl, Nat.zero_le _, hd, hoa, Heap.SameBut.refl _ _⟩)
  · rintro x rest b s' ⟨h', i, rfl, hr, hi, g1, g2, g3⟩
    have lt : i < esa.size := by
      rcases Nat.lt_or_ge i esa.size with z | z
      · exact z
      · rw [List.drop_of_length_le (by simpa using z)] at hr
        cases hr
    rw [range_drop lt, List.cons.injEq] at hr
    obtain ⟨rfl, rfl⟩ := hr
    have hm : more[x]? = some (more[x]'(by omega)) := List.getElem?_eq_getElem _
    generalize more[x]'(by omega) = kv at hm
    obtain ⟨k, v⟩ := kv
    have he : esa[x]? = some esa[x] := Array.getElem?_eq_getElem lt
    generalize esa[x] = e at he
    obtain ⟨ek, ev⟩ := hpa.get? (e := e) (by rw [Array.getElem?_toList]; exact he) hm
    obtain ⟨k', ek', eh⟩ := hka e (Array.mem_of_getElem? he)
    have kk : k' = k := knd.inj _ _ _ ek' ek
    subst kk
    unfold turnInto
    refine wpAny_bind (wpAny_dictEntries g2 hda' ?_)
    rw [he]
    dsimp only
    refine wpAny_bind (wpAny_holding ?_)
    rw [if_neg Bool.false_ne_true, eh, ev]
    have l1 := merged_length_le kvs (more.take x)
    have l2 := List.length_take_le x more
    have l3 : (more.take x).length ≤ more.length := by rw [List.length_take]; omega
    refine put_pairs ek g1 (by omega) fun h2 p1 p2 => ?_
    have g4 : h2.get? a = some oa := (p2.2 a (Ne.symm hda)).trans g2
    refine wpAny_bind (wpAny_dictEpoch g4 hda' ?_)
    rw [if_neg (by simp)]
    refine wpAny_pure ⟨h2, x + 1, rfl, rfl, lt, ?_, g4, g3.trans p2⟩
    rw [merged_take_succ kvs more x (k', v) hm]
    exact p1
  · rintro b s' ⟨h', i, rfl, hr, hi, g1, g2, g3⟩
    have ii : i = esa.size := by
      rcases Nat.lt_or_ge i esa.size with z | z
      · rw [range_drop z] at hr
        cases hr
      · omega
    refine wpAny_pure (hQ h' ?_ g3)
    rw [ii, ← ln, List.take_length] at g1
    exact g1
theorem mergeMapping_dicts {d a : Addr} {kvs more : List (K × Value)} {Q : Unit → Shared → Prop} (hda : d ≠ a) (haS : (a == sysModules) = false) (href : ∀ k b, knd.is k (.ref b) = false) (hd : s.heap.DictOf knd d kvs) (ha : s.heap.DictOf knd a more)
    (hsz : kvs.length + more.length ≤ sizeLine) (hQ : ∀ h', h'.DictOf knd d (merged kvs more) → Heap.SameBut d s.heap h' → Q () { s with heap := h' }) :
    wpAny (model prog w) A (mergeMapping d (.ref a) false) Q E s := by
  obtain ⟨od, esd, epd, hod, hcd, hdd, hkd, hpd, hnd⟩ := id hd
  obtain ⟨oa, esa, epa, hoa, hca, hda', hka, hpa, hna⟩ := id ha
  have ln : more.length = esa.size := by rw [← hpa.length]; simp
  unfold mergeMapping
  have isd : ∀ s' : Shared, s'.heap.get? a = some oa → s'.TypeIs (.ref a) "dict" := fun s' e => ⟨oa, e, hca.1⟩
  refine wpAny_bind (wpAny_isInstance (isd s hoa) isSubtype_dict_dict ?_)
  dsimp only
  rw [if_pos rfl]
  refine wpAny_bind (wpAny_specialOf (isd s hoa) F.slot_dict_iter.lookup ?_)
  refine wpAny_bind (wpAny_pure ?_)
  rw [show (some (Value.builtin "dict.__iter__") == some (Value.builtin "dict.__iter__")) = true from by simp]
  dsimp only
  rw [if_neg (by rw [haS]; exact Bool.false_ne_true)]
  refine wpAny_bind (wpAny_dictEntries hod hdd ?_)
  have tail : wpAny (model prog w) A (copyInto d a) Q E s := copyInto_ok hda hd ha hsz hQ
  split
  · refine wpAny_bind (wpAny_dictEntries hoa hda' ?_)
    refine wpAny_bind (MeetsSeq2.wpAny_forIn_array _ (fun rest _ s' => s' = s ∧ ∀ e ∈ rest, e ∈ esa) _ ?_ ?_ _ _ ⟨rfl, fun e he => by simpa using he⟩)
    · rintro e rest b s' ⟨rfl, sub⟩
      obtain ⟨k, hk, _⟩ := hka e (sub e List.mem_cons_self)
      have next : ∀ e' ∈ rest, e' ∈ esa := fun e' he => sub e' (List.mem_cons_of_mem _ he)
      obtain ⟨hsh, ky, vl⟩ := e
      cases ky with
      | ref b =>
        have z := href k b
        rw [show knd.is k (Value.ref b) = true from hk] at z
        cases z
      | _ => exact wpAny_pure ⟨rfl, next⟩
    · rintro b s' ⟨rfl, _⟩
      exact tail
  · exact tail
end
end PySem
namespace L2
open PySem PySem.Spec PyProof.Rows
theorem mix_noref {P : Program} {w : World} (k : Key) (b : Addr) : (mixKind P w).is k (.ref b) = false := by
  cases e : (mixKind P w).is k (.ref b) with
  | false => rfl
  | true =>
    rcases keyIs_shape e with ⟨i, t, _, q⟩ | ⟨x, t, _, q⟩
    · cases q
    · cases q
/-- {**d, k: v} -/
def tMerge (tm tk tv : TE) : TE := fun σ H Q => ∀ D, H D = none → tm σ (upd H D (.dK [])) fun x H1 => ∃ a kvs, x = .ref a ∧ H1 a = some (.dK kvs) ∧ H1 D = some (.dK []) ∧ a ≠ D ∧ kvs.length ≤ 1000 ∧
  ∀ S, upd H1 D (.dK (mergeK [] kvs)) S = none → tPairs [(tk, tv)] σ (upd (upd H1 D (.dK (mergeK [] kvs))) S (.dK [])) fun ps H3 => ∃ ky z, ps = [(kV ky, z)] ∧ H3 D = some (.dK (mergeK [] kvs)) ∧ H3 S = some (.dK []) ∧
    Q (.ref D) (upd (upd H3 S (.dK [(ky, z)])) D (.dK (putK (mergeK [] kvs) ky z)))
section
variable {X : Cx} {m k v : Expr} {tm tk tv : TE} {pos : Pos}
/-- one dict is merged into another one -/
theorem merge_in {pins : List (Addr × Obj)} {σ : L2.St} {H : Hp} {s : Shared} {D a : Addr} {kvs more : List (Key × V)} {E : Value → Shared → Prop} {F : Unit → Shared → Prop} {A : Around} (I : Inv X pins σ H s) (hD : H D = some (.dK kvs)) (ha : H a = some (.dK more)) (ne : a ≠ D) (hz : kvs.length + more.length ≤ 2000)
    (h : ∀ s', Inv X pins σ (upd H D (.dK (mergeK kvs more))) s' → F () s') : wpAny (model X.prog X.w) A (mergeMapping D (.ref a) false) F E s := by
  obtain ⟨z1, hd1, vs1, r1, d1⟩ := dk_of I.hok hD
  obtain ⟨z2, hd2, vs2, r2, d2⟩ := dk_of I.hok ha
  have big : sizeLine = 16777216 := sizeLine_eq
  have l1 : kvs.length = vs1.length := Paired.length r1
  have l2 : more.length = vs2.length := Paired.length r2
  refine mergeMapping_dicts (Ne.symm ne) hd2 mix_noref d1 d2 (by omega) fun h' dd sb => h _ ?_
  have ex : ∃ q, h'.get? D = some q := let ⟨q, _, _, hq, _⟩ := dd; ⟨q, hq⟩
  refine d_write (t' := s.toks) I (by rw [hD]; exact True.intro) sb ex (dk_new ?_ hd1 (r2.merge r1) dd)
  have l3 := length_mergeK more kvs
  omega
theorem pe_merge (hm : PE X m tm) (hp : PPs X pos [some k] [v] [(tk, tv)]) : PE X (.Dict [none, some k] [m, v] pos) (tMerge tm tk tv) := by
  refine ⟨fun pins s σ H Q I q => ?_⟩
  have hn := I.hok.fresh (Nat.le_refl s.heap.objs.size)
  have I1 := I.laid (a := s.heap.objs.size) (o := .dK []) (h' := s.heap.push { cls := .type "dict", data := .dict #[] }) (t' := s.toks) (fun _ _ q => Heap.get?_push_of_some _ q) (Nat.le_refl _) (dk_empty s.heap I.big)
  have q1 := q _ hn
  generalize hDD : s.heap.objs.size = D at q1 I1
  rw [arm_eval_Dict]
  refine wpAny_bind (wpAny_standAt ?_)
  show wpAny _ _ (dictDisplay [(none, do let x ← eval m X.env; standAt pos; pure x), (some (eval k X.env), do let x ← eval v X.env; standAt pos; pure x)]) _ _ s
  unfold dictDisplay
  dsimp only
  refine wpAny_bind ?_
  rw [List.forIn_cons]
  refine wpAny_bind ?_
  dsimp only
  refine wpAny_bind (wpAny_ite_true rfl (wpAny_pure ?_))
  refine wpAny_bind (wpAny_alloc ?_)
  rw [hDD]
  refine wpAny_bind (wpAny_holding (wpAny_bind (thn (hm.run pins _ σ _ _ I1 q1) fun u s2 ⟨x, H1, I2, rx, a, kvs, ex, ha, hD, ne, hz, q2⟩ => ?_)))
  subst ex
  obtain rfl : u = Value.ref a := rx
  refine wpAny_bind (wpAny_standAt (wpAny_pure ?_))
  refine wpAny_bind (wpAny_onRaise (wpAny_tryCatch (wpAny_onRaise (wpAny_holding (merge_in I2 hD ha ne (by rw [List.length_nil]; omega) fun s3 I3 => wpAny_pure ?_)))))
  dsimp only
  rw [List.forIn_cons]
  refine wpAny_bind ?_
  dsimp only
  refine wpAny_ite_false rfl (wpAny_pure ?_)
  dsimp only
  rw [List.forIn_nil]
  refine wpAny_pure ?_
  dsimp only
  refine wpAny_bind (wpAny_ite_false rfl ?_)
  refine wpAny_bind (wpAny_holding ?_)
  have hn2 := I3.hok.fresh (Nat.le_refl s3.heap.objs.size)
  have I4 := I3.laid (a := s3.heap.objs.size) (o := .dK []) (h' := s3.heap.push { cls := .type "dict", data := .dict #[] }) (t' := s3.toks) (fun _ _ q => Heap.get?_push_of_some _ q) (Nat.le_refl _) (dk_empty s3.heap I3.big)
  have q3 := q2 _ hn2
  have nSD : s3.heap.objs.size ≠ D := fun z => by
    rw [z, upd_same] at hn2
    cases hn2
  refine wpAny_subDict (knd := mixKind X.prog X.w) (by show 1 ≤ 15; decide) (thn (hp.run pins _ σ _ _ I4 q3) fun ws s5 ⟨ps, H3, I5, rel, ky, z, ep, hD3, hS3, q4⟩ => ?_)
  subst ep
  obtain ⟨rs, c, rk⟩ := carries_of (P := X.prog) (w := X.w) (kvs := [(ky, z)]) rel
  obtain ⟨z0, hd0, vs0, r0, dd⟩ := dk_of I5.hok hS3
  cases r0
  refine ⟨rs, c, dd, fun h' dd' hs => ?_⟩
  have ex : ∃ q, h'.get? s3.heap.objs.size = some q := let ⟨q, _, _, hq, _⟩ := dd'; ⟨q, hq⟩
  have I6 := d_write (t' := s5.toks + ws.length) I5 (by rw [hS3]; exact True.intro) hs ex (dk_new (kvs := [(ky, z)]) (by show 1 ≤ sizeLine; decide) hd0 (rk.merge .nil) dd')
  have hD6 : upd H3 s3.heap.objs.size (.dK [(ky, z)]) D = some (.dK (mergeK [] kvs)) := by rw [upd_ne (Ne.symm nSD)]; exact hD3
  have lk := length_mergeK kvs []
  rw [List.length_nil] at lk
  refine wpAny_bind (wpAny_onRaise (wpAny_holding (merge_in (more := [(ky, z)]) I6 hD6 upd_same nSD (by rw [List.length_singleton]; omega) fun s7 I7 => wpAny_pure ?_)))
  exact wpAny_pure ⟨.ref D, _, I7, rfl, q4⟩
/-- a text in a written dict, by get, or what is handed in -/
def tKGet2 (K : PySem.W.Frag) (d : Addr) (to te tf : TE) : TE := fun σ H Q => to σ H fun x H1 => x = .ref d ∧ te σ H1 fun y H2 => ∃ z, y = .str z ∧ tf σ H2 fun dv H3 => ∃ r, PySem.W.nsIn K d z = some r ∧ (∀ u, r = some u → ∃ v0, RelV v0 u ∧ Q v0 H3) ∧ (r = none → Q dv H3)
theorem pe_kget2 {o e f : Expr} {to te tf : TE} {apos cpos : Pos} {d : Addr} {es : Array DictEntry} {n : Nat} (D : KDict X.K X.w d es n) (ho : PE X o to) (he : PE X e te) (hf : PE X f tf) (m : M2 X o "get" apos e f cpos) : PE X (.Call (.Attribute o "get" apos) [e, f] [] cpos) (tKGet2 X.K d to te tf) := by
  refine ⟨fun pins s σ H Q I h => ?_⟩
  refine wpAny_Call_method m.base m.few m.line PySem.F.plainAttrs_dict PySem.F.slot_dict_get PySem.F.type_dict_get (thn (ho.run pins s σ H _ I h) fun u s1 ⟨x, H1, I1, rx, ex, q1⟩ => ?_)
  subst ex
  obtain rfl : u = Value.ref d := rx
  refine ⟨kd_type D I1, fun b q => ?_, ?_⟩
  · cases q
    exact ⟨_, I1.kIn _ _ D.at_, rfl⟩
  rw [m.trees]
  refine Calls.callWith_builtin rfl (Calls.evalArgs_plain (Calls.spliced_cons (thn (he.run pins s1 σ H1 _ I1 q1) fun iv s2 ⟨y, H2, I2, ry, z, ey, q2⟩ =>
    Calls.spliced_cons (thn (hf.run pins s2 σ H2 _ I2 q2) fun fv s3 ⟨dv, H3, I3, rz, r, er, q3, q4⟩ => Calls.spliced_nil ?_))))
  subst ey
  obtain ⟨t, rfl⟩ := ry
  have mp := PySem.W.mapOf_K (prog := X.prog) (w := X.w) I3.kIn D.at_ D.lit
  have find := PySem.W.find_K (x := z) D.at_ er
  refine call_meetsIn PySem.F.slot_dict_get mp.typeIs PySem.F.entry_dict_get (PySem.F.args_dict_get_3 _ _ _) (meets_dict_get_default (strKind X.prog X.w) d (strKind_is X.prog X.w z t) D.low fv) ⟨_, mp, ?_⟩
  rw [find]
  cases r with
  | none => exact ⟨dv, H3, I3.tok _, rz, q4 rfl⟩
  | some u0 =>
    obtain ⟨v0, r0, q5⟩ := q3 u0 rfl
    exact ⟨v0, H3, I3.tok _, r0, q5⟩
end
end L2
end
section
set_option Elab.async false
set_option linter.all false
set_option maxRecDepth 100000
set_option maxHeartbeats 4000000
namespace K18
open PySem PySem.Spec PyProof.Rows L2
open PySem.W (ke_shaped_ints)
local macro_rules | `(tactic| walk_at "go") => `(tactic| first | refine ⟨_, rfl, ?_⟩ | refine .inl ⟨_, rfl, ?_⟩ | refine ⟨_, _, rfl, rfl, (by first | (show (0 : Int) < _; decide) | exact Or.inl ⟨by decide, by decide⟩ | exact Or.inr ⟨by decide, by decide⟩), ?_⟩ | refine ⟨_, _, rfl, rfl, ?_⟩)
section
variable {P : Program} {w : World} {K : PySem.W.Frag} {mg : Str → Option Value} {base : Heap}

/-- a dict from names to ints -/
def Wid (H : Hp) (a : Addr) (wds : Str → Option Int) : Prop := ∃ kvs, H a = some (.dK kvs) ∧ kvs.length ≤ 100 ∧ ∀ x : Str, valV kvs (Sum.inr x) = (wds x).map V.int
/-- a dict whose keys are names -/
def Kno (H : Hp) (a : Addr) (kn : Str → Bool) : Prop := ∃ kvs, H a = some (.dK kvs) ∧ kvs.length ≤ 100 ∧ ∀ x : Str, (valV kvs (Sum.inr x)).isSome = kn x
theorem Wid.same {H H' : Hp} {a : Addr} {wds : Str → Option Int} (h : Wid H a wds) (s : Same H H') : Wid H' a wds := by
  obtain ⟨kvs, h1, h2, h3⟩ := h
  exact ⟨kvs, s _ _ h1, h2, h3⟩
theorem Kno.same {H H' : Hp} {a : Addr} {kn : Str → Bool} (h : Kno H a kn) (s : Same H H') : Kno H' a kn := by
  obtain ⟨kvs, h1, h2, h3⟩ := h
  exact ⟨kvs, s _ _ h1, h2, h3⟩
/-- a line that uses and sets registers rightly, by its word and what it tells -/
inductive Use (wds : Str → Option Int) (kn : Str → Bool) : Str → List V → Prop
  | input {x : Str} {n : Int} : wds x = none → n ≤ 16 → Use wds kn "input" [.str x, .int n]
  | set {x : Str} {ns : List Int} : ns.length ≤ 8 → (∀ n, wds x = some n → n = ns.length) → Use wds kn "set" (.str x :: ns.map V.int)
  | store {x : Str} {r : Addr} : kn x = true → Use wds kn "store" [.str x, .ref r]
  | give {xs : List Str} : 1 ≤ xs.length → xs.length ≤ 4 → (∀ x ∈ xs, kn x = true) → Use wds kn "give" (xs.map V.str)
  | other {wd : Str} {v : V} {vs : List V} : wd ∈ (["copy", "up", "down", "step"] : List Str) → Use wds kn wd (v :: vs)
/-- width_of(word, told, widths) of a line that sets a register -/
def spWidthOf (K : PySem.W.Frag) : Sp := fun vs H Q _ => ∃ (wd : Str) (t : Addr) (tv : List V) (wv : V) (n : Int), vs = [.str wd, .ref t, wv] ∧ SqT K H t tv ∧
  ((wd = "input" ∧ ∃ x, tv = [.str x, .int n]) ∨ (wd = "set" ∧ ∃ x, ∃ ns : List Int, tv = .str x :: ns.map V.int ∧ n = ns.length)) ∧ Q (.int n) H
abbrev s_width_of : Stmt := topS 59
theorem sc_width_of : FnScope ["word", "told", "widths"] ["word", "told", "widths"] (defScope s_width_of) := ⟨rfl, rfl, rfl, by decide +kernel, rfl, by decide +kernel, by decide +kernel⟩
theorem ok_width_of (T : TxtP K mg) (Tq : PL.TxtQ K w mg) (D : Def K mg "width_of" s_width_of) : Cal P w K mg base 1 "width_of" ["word", "told", "widths"] (spWidthOf K) := by
  refine D.cal sc_width_of (fun vs H Q E h => ?_) (fun _ _ _ _ _ _ us hl => match us, hl with | [_, _, _], _ => rfl) (fun f cdv A outer s H vs Q E hr h => ?_)
  · obtain ⟨wd, t, tv, wv, n, rfl, _⟩ := h
    rfl
  have hu := hu_of hr

  obtain ⟨wd, t, tv, wv, n, rfl, hT, hc, k⟩ := h
  refine ⟨_, (pss_cons (ps_if (pt_cmpR op_eq (pv 0) pe_str (nomark _)) (pss_one (ps_ret (pe_op op_sub (pe_callB call_len (by rfl) T.f_len PySem.boot_len (pa_cons (pv 1) pa_nil)) pe_int))) pss_nil)
      (pss_cons (ps_if (pt_cmpR op_eq (pv 0) pe_str (nomark _)) (pss_one (ps_ret (pe_op op_add (pe_dget hu (pv 2) (pe_ix ix_tup (pv 1) pe_int (fun _ _ => rfl)) (fun _ _ => rfl)) (pe_dget hu (pv 2) (pe_ix ix_tup (pv 1) pe_int (fun _ _ => rfl)) (fun _ _ => rfl))))) pss_nil)
      (pss_one (ps_ret (pe_ifExp (pt_cmpR op_eq (pv 0) pe_str (nomark _)) (pe_ix ix_tup (pv 1) pe_int (fun _ _ => rfl)) (pe_ix ix_tup (pv 1) pe_int (fun _ _ => rfl))))))), ?_⟩
  rcases hc with ⟨rfl, x, rfl⟩ | ⟨rfl, x, ns, rfl, rfl⟩
  · refine ⟨_, rfl, rfl, _, rfl, ite2 (fun c => absurd (of_decide_eq_true c) (by decide)) (fun _ => ?_)⟩
    refine ⟨_, rfl, rfl, _, rfl, ite2 (fun c => absurd (of_decide_eq_true c) (by decide)) (fun _ => ?_)⟩
    refine ⟨_, rfl, rfl, _, rfl, ite2 (fun c => absurd (of_decide_eq_true c) (by decide)) (fun _ => ?_)⟩
    exact ⟨_, rfl, t, _, _, _, rfl, rfl, hT, rfl, k⟩
  · refine ⟨_, rfl, rfl, _, rfl, ite2 (fun _ => ?_) (fun c => absurd (decide_eq_true rfl) c)⟩
    refine ⟨_, rfl, _, _, rfl, .inr ⟨_, hT, rfl⟩, _, _, rfl, rfl, ?_⟩
    have e : (((V.str x :: ns.map V.int).length : Nat) : Int) - 1 = (ns.length : Nat) := by
      rw [List.length_cons, List.length_map]; omega
    have k' : Q (.int ((((V.str x :: ns.map V.int).length : Nat) : Int) - 1)) H := by rw [e]; exact k
    exact k'



/-- misuses(word, told, widths, known) of a right line -/
def spMisuses (K : PySem.W.Frag) : Sp := fun vs H Q _ => ∃ (wd : Str) (t wa ka : Addr) (tv : List V) (wds : Str → Option Int) (kn : Str → Bool), vs = [.str wd, .ref t, .ref wa, .ref ka] ∧ SqT K H t tv ∧ Wid H wa wds ∧ Kno H ka kn ∧ Use wds kn wd tv ∧ ∀ H', Same H H' → Q (.bl false) H'
abbrev s_misuses : Stmt := topS 58
theorem sc_misuses : FnScope ["word", "told", "widths", "known", "first", "behind", "width", "name"] ["word", "told", "widths", "known"] (defScope s_misuses) := ⟨rfl, rfl, rfl, by decide +kernel, rfl, by decide +kernel, by decide +kernel⟩
theorem ok_misuses (T : TxtP K mg) (Tq : PL.TxtQ K w mg) (D : Def K mg "misuses" s_misuses) (C_width_of : Cal P w K mg base 1 "width_of" ["word", "told", "widths"] (spWidthOf K)) : Cal P w K mg base 2 "misuses" ["word", "told", "widths", "known"] (spMisuses K) := by
  refine D.cal sc_misuses (fun vs H Q E h => ?_) (fun _ _ _ _ _ _ us hl => match us, hl with | [_, _, _, _], _ => rfl) (fun f cdv A outer s H vs Q E hr h => ?_)
  · obtain ⟨wd, t, wa, ka, tv, wds, kn, rfl, _⟩ := h
    rfl
  have hu := hu_of hr

  obtain ⟨wd, t, wa, ka, tv, wds, kn, rfl, hT, hW, hK, us, k⟩ := h
  obtain ⟨es, nn, Du⟩ := Tq.d_USED
  have used : ∃ (a b : Int) (xs : List Str), (∃ r, PySem.W.nsIn K (He.ga K "USED") wd = some r ∧ ((∃ tt, r = some (.ref tt) ∧ ∀ H : Hp, SqT K H tt [.int a, .int b]) ∨ (r = none ∧ a = 0 ∧ b = 0))) ∧ xs.length ≤ 4 ∧ (∀ x ∈ xs, kn x = true) ∧
      (HT.sIx tv.length 0 (some a) = 0 ∧ HT.sIx tv.length tv.length (some b) = tv.length → tv = xs.map V.str) ∧ (¬ (HT.sIx tv.length 0 (some a) = 0 ∧ HT.sIx tv.length tv.length (some b) = tv.length) → cutV tv (some a) (some b) = xs.map V.str) := by
    have nil : ∀ v vs, tv = v :: vs → PySem.W.nsIn K (He.ga K "USED") wd = some none → _ := fun v vs e hn => (⟨0, 0, [], ⟨none, hn, .inr ⟨rfl, rfl, rfl⟩⟩, Nat.zero_le _, by simp, by
      rw [e]
      rintro ⟨_, h⟩
      unfold HT.sIx at h
      simp at h, by
      intro _
      unfold cutV HT.sIx
      simp⟩ : ∃ (a b : Int) (xs : List Str), (∃ r, PySem.W.nsIn K (He.ga K "USED") wd = some r ∧ ((∃ tt, r = some (.ref tt) ∧ ∀ H : Hp, SqT K H tt [.int a, .int b]) ∨ (r = none ∧ a = 0 ∧ b = 0))) ∧ xs.length ≤ 4 ∧ (∀ x ∈ xs, kn x = true) ∧
      (HT.sIx tv.length 0 (some a) = 0 ∧ HT.sIx tv.length tv.length (some b) = tv.length → tv = xs.map V.str) ∧ (¬ (HT.sIx tv.length 0 (some a) = 0 ∧ HT.sIx tv.length tv.length (some b) = tv.length) → cutV tv (some a) (some b) = xs.map V.str))
    cases us with
    | input _ _ => exact nil _ _ rfl (Tq.n_USED _ (by decide))
    | set _ _ => exact nil _ _ rfl (Tq.n_USED _ (by decide))
    | other hm =>
      refine nil _ _ rfl (Tq.n_USED _ ?_)
      simp only [List.mem_cons, List.not_mem_nil, or_false] at hm ⊢
      rcases hm with rfl | rfl | rfl | rfl <;> simp
    | store hx =>
      rename_i x r
      obtain ⟨tt, e1, e2⟩ := Tq.v_USED "store" 0 1 (by simp [PL.useds])
      refine ⟨0, 1, [x], ⟨_, e1, .inl ⟨tt, rfl, e2⟩⟩, by simp, by simpa using hx, ?_, ?_⟩
      · rintro ⟨_, h⟩
        unfold HT.sIx at h
        simp at h
      · intro _
        unfold cutV HT.sIx
        simp
    | give h1 h2 h3 =>
      rename_i xs
      obtain ⟨tt, e1, e2⟩ := Tq.v_USED "give" 0 4 (by simp [PL.useds])
      refine ⟨0, 4, xs, ⟨_, e1, .inl ⟨tt, rfl, e2⟩⟩, h2, h3, fun _ => rfl, fun h => absurd ?_ h⟩
      unfold HT.sIx
      rw [List.length_map]
      constructor
      · simp
      · show min (Int.toNat 4) xs.length = xs.length
        exact Nat.min_eq_right h2
  obtain ⟨a, b, xs, ⟨r, e1, e2⟩, xs4, hxs, w1, w2⟩ := used
  refine ⟨_, (pss_cons (ps_asg (pe_kget2 Du (pe_gref (by rfl) Tq.g_USED) (pv 0) (pe_tup (pa_cons pe_int (pa_cons pe_int pa_nil))) ⟨by rfl, by rfl, by rfl, by rfl⟩) (pg_tup rfl (pgs_cons (pg_name (i := 4) sc_misuses.nd rfl (by first | exact Or.inl rfl | exact Or.inr rfl)) (pgs_cons (pg_name (i := 5) sc_misuses.nd rfl (by first | exact Or.inl rfl | exact Or.inr rfl)) pgs_nil))))
      (pss_cons (ps_if (pt_not (pt_truth (pe_callB (cr_all rfl) (by rfl) Tq.f_all (by decide +kernel) (pa_cons (pe_lc (own := [("name", 7)]) (g := gName 7) (tt := tYes) rfl sc_misuses.nd (pi_tup (pe_slice sl_tupA (pv 1) (po_some (pv 4)) (po_some (pv 5)))) (blkOk_by (N := ["word", "told", "widths", "known", "first", "behind", "width", "name"]) (sc := defScope s_misuses) (by decide +kernel)) (fun _ _ _ _ _ => (pg_name (i := 7) sc_misuses.nd rfl (Or.inl rfl))) (fun _ _ _ _ _ => pts_nil) (fun _ _ _ _ _ => (pe_cmp (pc_din hu (pv 7) (pv 3))))) pa_nil)) (by intro _; rfl))) (pss_one (ps_ret pe_bl)) pss_nil)
      (C8.pss_cut (ps_if (PW.pt (pw_and (pt_cmpR op_eq (pv 0) pe_str (nomark _)) (pw_and1 (pt_cmpR op_ne (pe_dget hu (pv 2) (pe_ix ix_tup (pv 1) pe_int (fun _ _ => rfl)) (fun _ _ => rfl)) pe_int (nomark _))))) (pss_one (ps_ret pe_bl)) pss_nil)
      (C8.pss_cut (ps_if (PW.pt (pw_and (pt_cmpR op_eq (pv 0) pe_str (nomark _)) (pw_and1 (pt_cmpR op_gt (pe_op op_add (pe_ix ix_tup (pv 1) pe_int (fun _ _ => rfl)) (pe_ix ix_tup (pv 1) pe_int (fun _ _ => rfl))) (pe_dget hu (pv 2) (pe_ix ix_tup (pv 1) pe_int (fun _ _ => rfl)) (fun _ _ => rfl)) (nomark _))))) (pss_one (ps_ret pe_bl)) pss_nil)
      (pss_cons (ps_if (pt_cmpR op_notIn_seq (pv 0) (pe_gref (by rfl) Tq.g_SETTING) (by rfl)) (pss_one (ps_ret pe_bl)) pss_nil)
      (pss_cons (ps_set (i := 6) sc_misuses.nd rfl (by first | exact Or.inl rfl | exact Or.inr rfl) (pe_cal C_width_of (hr.mono (by decide)) rfl (pa_cons (pv 0) (pa_cons (pv 1) (pa_cons (pv 2) pa_nil)))))
      (C8.pss_cut (ps_if (PW.pt (pw_or (pt_cmpR op_gt (pv 6) (pe_gint (by rfl) Tq.c_WIDEST) (nomark _)) (pw_or1 (PW.pt (pw_and (pt_cmpR op_eq (pv 0) pe_str (nomark _)) (pw_and1 (pt_cmp (pc_din hu (pe_ix ix_tup (pv 1) pe_int (fun _ _ => rfl)) (pv 2))))))))) (pss_one (ps_ret pe_bl)) pss_nil)
      (pss_one (ps_ret (pe_cmpR op_ne (pe_dget2 hu (pv 2) (pe_ix ix_tup (pv 1) pe_int (fun _ _ => rfl)) (pv 6) ⟨by rfl, by rfl, by rfl, by rfl⟩) (pv 6) (nomark _))))))))))), ?_⟩
  -- the rest, from the two numbers on
  have two : ∀ z, z = wd → wd ≠ "fill" ∧ wd ≠ "part" := by
    rintro _ rfl
    cases us with
    | other hm =>
      simp only [List.mem_cons, List.not_mem_nil, or_false] at hm
      rcases hm with rfl | rfl | rfl | rfl <;> decide +kernel
    | _ => decide +kernel
  obtain ⟨nf, np⟩ := two wd rfl
  have way : wd ∉ PL.Setting ∨ (∃ x n, wd = "input" ∧ tv = [.str x, .int n] ∧ wds x = none ∧ n ≤ 16) ∨ (∃ x, ∃ ns : List Int, wd = "set" ∧ tv = .str x :: ns.map V.int ∧ ns.length ≤ 8 ∧ ∀ n, wds x = some n → n = ns.length) := by
    cases us with
    | input h1 h2 => exact .inr (.inl ⟨_, _, rfl, rfl, h1, h2⟩)
    | set h1 h2 => exact .inr (.inr ⟨_, _, rfl, rfl, h1, h2⟩)
    | store _ => exact .inl (by decide +kernel)
    | give _ _ _ => exact .inl (by decide +kernel)
    | other hm =>
      simp only [List.mem_cons, List.not_mem_nil, or_false] at hm
      rcases hm with rfl | rfl | rfl | rfl <;> exact .inl (by decide +kernel)
  refine ⟨rfl, _, rfl, wd, rfl, by show 2 ≤ sizeLine; decide, fun p hp => ⟨r, e1, fun u eu => ?_, fun er => ?_⟩⟩
  all_goals have s1 := Same.new (o := .tup [.int 0, .int 0]) hp
  all_goals have hpp : upd H p (.tup [.int 0, .int 0]) p = some (.tup [.int 0, .int 0]) := upd_same
  all_goals generalize upd H p (.tup [.int 0, .int 0]) = H1 at s1 hpp ⊢
  · rcases e2 with ⟨tt, rfl, e2⟩ | ⟨rfl, _⟩
    · cases eu
      refine ⟨.ref tt, rfl, ⟨_, _, rfl, e2 _, rfl, _, _, rfl, _, _, rfl, rfl, ?_⟩⟩
      by_cases wh : HT.sIx tv.length 0 (some a) = 0 ∧ HT.sIx tv.length tv.length (some b) = tv.length
      · have hz := s1.tup hT
        have wq := w1 wh
        refine ⟨_, rfl, _, rfl, _, rfl, _, rfl, _, rfl, t, _, rfl, hz, fun _ => ?_, fun n => absurd wh n⟩
        rw [wq] at hz
        have s2 := s1
        generalize H1 = H2 at s2 hz ⊢
        refine ⟨t, rfl, ⟨_, hz⟩, fun D hD => lc_it walk_tup (fun i H' => Same H2 H' ∧ H' D = some (.lst ((List.replicate i true).map V.bl))) ⟨Same.new hD, upd_same⟩ (fun i H' _ z => z.1.tup hz) ?_ ?_⟩
        · rintro i y G1 G2 hi ⟨s3, h3⟩ ⟨rfl, hx⟩
          rw [List.getElem?_map] at hx
          obtain ⟨x, hx', rfl⟩ := Option.map_eq_some_iff.mp hx
          obtain ⟨kvs, k1, k2, k3⟩ := (hK.same s2).same s3
          refine ⟨rfl, _, rfl, _, rfl, ka, _, rfl, DGet.k (k := Sum.inr x) k1, ?_⟩
          rw [k3 x, hxs x (List.mem_of_getElem? hx')]
          rw [List.length_map] at hi
          refine ⟨_, h3, ?_, s3.put hD, ?_⟩
          · rw [List.length_map, List.length_replicate, sizeLine_eq]; omega
          · rw [List.replicate_succ', List.map_append]
            exact upd_same
        rintro G ⟨s3, h3⟩
        refine ⟨D, _, rfl, SqL.of h3, ?_⟩
        have all : (List.replicate (xs.map V.str).length true).all id = true := by simp
        rw [all]
        refine ⟨true, rfl, iteF ?_⟩
        have sG := s2.trans s3
        refine ⟨fun σ' H' => σ' = [some (.str wd), some (.ref t), some (.ref wa), some (.ref ka), some (.int a), some (.int b), none, none] ∧ Same H H', ⟨_, rfl, rfl, _, rfl, ite2 (fun c => absurd (V.str.inj (of_decide_eq_true c)) nf) (fun _ => iteF ⟨rfl, sG⟩)⟩, ?_⟩
        clear sG
        rintro σ' G' ⟨rfl, sG⟩
        refine ⟨fun σ' H' => σ' = [some (.str wd), some (.ref t), some (.ref wa), some (.ref ka), some (.int a), some (.int b), none, none] ∧ Same H H', ⟨_, rfl, rfl, _, rfl, ite2 (fun c => absurd (V.str.inj (of_decide_eq_true c)) np) (fun _ => iteF ⟨rfl, sG⟩)⟩, ?_⟩
        clear sG
        rintro σ' G' ⟨rfl, sG⟩
        refine ⟨_, rfl, _, _, rfl, .inr (Tq.t_SETTING _), rfl, CF.flat_strs _, _, rfl, ?_⟩
        rw [if_pos rfl, CF.inV_strs]
        rcases way with nw | ⟨x, n, rfl, rfl, wn, n16⟩ | ⟨x, ns, rfl, rfl, ns8, wn⟩
        · rw [decide_eq_false nw]
          exact iteT (k _ sG)
        · refine iteF ⟨_, rfl, _, rfl, _, rfl, "input", t, [.str x, .int n], .ref wa, n, rfl, sG.tup hT, .inl ⟨rfl, x, rfl⟩, ?_⟩
          obtain ⟨kvs, k1, k2, k3⟩ := hW.same sG
          refine ⟨fun σ' H' => σ' = [some (.str "input"), some (.ref t), some (.ref wa), some (.ref ka), some (.int a), some (.int b), some (.int n), none] ∧ Same H H', ?_, ?_⟩
          · refine ⟨_, rfl, _, _, rfl, rfl, _, rfl, ite2 (fun c => absurd (of_decide_eq_true c) (by omega)) (fun _ => ?_)⟩
            refine ⟨_, rfl, rfl, _, rfl, ite2 (fun _ => ?_) (fun c => absurd (decide_eq_true rfl) c)⟩
            refine ⟨_, rfl, t, _, _, _, rfl, rfl, sG.tup hT, atI_nat (j := 0) rfl, _, rfl, wa, _, rfl, DGet.k (k := Sum.inr x) k1, ?_⟩
            rw [k3, wn]
            exact ⟨_, rfl, iteF ⟨rfl, sG⟩⟩
          clear k1 k2 k3 sG
          rintro σ' G2 ⟨rfl, sG⟩
          obtain ⟨kvs, k1, k2, k3⟩ := hW.same sG
          refine ⟨_, rfl, wa, rfl, .inl ⟨kvs, .inl k1⟩, _, rfl, t, _, _, _, rfl, rfl, sG.tup hT, atI_nat (j := 0) rfl, _, rfl, _, DGet.k (k := Sum.inr x) k1, ?_⟩
          rw [k3, wn]
          refine ⟨_, rfl, rfl, ?_⟩
          have e : (!decide (((Option.map V.int (none : Option Int)).getD (V.int n)) = V.int n)) = false := by
            rw [decide_eq_true (show ((Option.map V.int (none : Option Int)).getD (V.int n)) = V.int n from rfl)]; rfl
          rw [e]
          exact k _ sG
        · refine iteF ⟨_, rfl, _, rfl, _, rfl, "set", t, .str x :: ns.map V.int, .ref wa, ns.length, rfl, sG.tup hT, .inr ⟨rfl, x, ns, rfl, rfl⟩, ?_⟩
          obtain ⟨kvs, k1, k2, k3⟩ := hW.same sG
          refine ⟨fun σ' H' => σ' = [some (.str "set"), some (.ref t), some (.ref wa), some (.ref ka), some (.int a), some (.int b), some (.int ns.length), none] ∧ Same H H', ?_, ?_⟩
          · refine ⟨_, rfl, _, _, rfl, rfl, _, rfl, ite2 (fun c => absurd (of_decide_eq_true c) (by omega)) (fun _ => ?_)⟩
            exact ⟨_, rfl, rfl, _, rfl, ite2 (fun c => absurd (of_decide_eq_true c) (by decide)) (fun _ => iteF ⟨rfl, sG⟩)⟩
          clear k1 k2 k3 sG
          rintro σ' G2 ⟨rfl, sG⟩
          obtain ⟨kvs, k1, k2, k3⟩ := hW.same sG
          refine ⟨_, rfl, wa, rfl, .inl ⟨kvs, .inl k1⟩, _, rfl, t, _, _, _, rfl, rfl, sG.tup hT, atI_nat (j := 0) rfl, _, rfl, _, DGet.k (k := Sum.inr x) k1, ?_⟩
          have e : (valV kvs (Sum.inr x)).getD (V.int (ns.length : Nat)) = V.int (ns.length : Nat) := by
            rw [k3]
            cases q : wds x with
            | none => rfl
            | some m => rw [wn m q]; rfl
          rw [e]
          refine ⟨_, rfl, rfl, ?_⟩
          rw [decide_eq_true rfl]
          exact k _ sG
      · refine ⟨_, rfl, _, rfl, _, rfl, _, rfl, _, rfl, t, _, rfl, s1.tup hT, fun h => absurd h wh, fun _ q hq => ?_⟩
        rw [w2 wh]
        have s2 := s1.trans (Same.new (o := .tup (xs.map V.str)) hq)
        have hz : SqT K (upd H1 q (.tup (xs.map V.str))) q (xs.map V.str) := SqT.of upd_same
        generalize upd H1 q (.tup (xs.map V.str)) = H2 at s2 hz ⊢
        refine ⟨q, rfl, ⟨_, hz⟩, fun D hD => lc_it walk_tup (fun i H' => Same H2 H' ∧ H' D = some (.lst ((List.replicate i true).map V.bl))) ⟨Same.new hD, upd_same⟩ (fun i H' _ z => z.1.tup hz) ?_ ?_⟩
        · rintro i y G1 G2 hi ⟨s3, h3⟩ ⟨rfl, hx⟩
          rw [List.getElem?_map] at hx
          obtain ⟨x, hx', rfl⟩ := Option.map_eq_some_iff.mp hx
          obtain ⟨kvs, k1, k2, k3⟩ := (hK.same s2).same s3
          refine ⟨rfl, _, rfl, _, rfl, ka, _, rfl, DGet.k (k := Sum.inr x) k1, ?_⟩
          rw [k3 x, hxs x (List.mem_of_getElem? hx')]
          rw [List.length_map] at hi
          refine ⟨_, h3, ?_, s3.put hD, ?_⟩
          · rw [List.length_map, List.length_replicate, sizeLine_eq]; omega
          · rw [List.replicate_succ', List.map_append]
            exact upd_same
        rintro G ⟨s3, h3⟩
        refine ⟨D, _, rfl, SqL.of h3, ?_⟩
        have all : (List.replicate (xs.map V.str).length true).all id = true := by simp
        rw [all]
        refine ⟨true, rfl, iteF ?_⟩
        have sG := s2.trans s3
        refine ⟨fun σ' H' => σ' = [some (.str wd), some (.ref t), some (.ref wa), some (.ref ka), some (.int a), some (.int b), none, none] ∧ Same H H', ⟨_, rfl, rfl, _, rfl, ite2 (fun c => absurd (V.str.inj (of_decide_eq_true c)) nf) (fun _ => iteF ⟨rfl, sG⟩)⟩, ?_⟩
        clear sG
        rintro σ' G' ⟨rfl, sG⟩
        refine ⟨fun σ' H' => σ' = [some (.str wd), some (.ref t), some (.ref wa), some (.ref ka), some (.int a), some (.int b), none, none] ∧ Same H H', ⟨_, rfl, rfl, _, rfl, ite2 (fun c => absurd (V.str.inj (of_decide_eq_true c)) np) (fun _ => iteF ⟨rfl, sG⟩)⟩, ?_⟩
        clear sG
        rintro σ' G' ⟨rfl, sG⟩
        refine ⟨_, rfl, _, _, rfl, .inr (Tq.t_SETTING _), rfl, CF.flat_strs _, _, rfl, ?_⟩
        rw [if_pos rfl, CF.inV_strs]
        rcases way with nw | ⟨x, n, rfl, rfl, wn, n16⟩ | ⟨x, ns, rfl, rfl, ns8, wn⟩
        · rw [decide_eq_false nw]
          exact iteT (k _ sG)
        · refine iteF ⟨_, rfl, _, rfl, _, rfl, "input", t, [.str x, .int n], .ref wa, n, rfl, sG.tup hT, .inl ⟨rfl, x, rfl⟩, ?_⟩
          obtain ⟨kvs, k1, k2, k3⟩ := hW.same sG
          refine ⟨fun σ' H' => σ' = [some (.str "input"), some (.ref t), some (.ref wa), some (.ref ka), some (.int a), some (.int b), some (.int n), none] ∧ Same H H', ?_, ?_⟩
          · refine ⟨_, rfl, _, _, rfl, rfl, _, rfl, ite2 (fun c => absurd (of_decide_eq_true c) (by omega)) (fun _ => ?_)⟩
            refine ⟨_, rfl, rfl, _, rfl, ite2 (fun _ => ?_) (fun c => absurd (decide_eq_true rfl) c)⟩
            refine ⟨_, rfl, t, _, _, _, rfl, rfl, sG.tup hT, atI_nat (j := 0) rfl, _, rfl, wa, _, rfl, DGet.k (k := Sum.inr x) k1, ?_⟩
            rw [k3, wn]
            exact ⟨_, rfl, iteF ⟨rfl, sG⟩⟩
          clear k1 k2 k3 sG
          rintro σ' G2 ⟨rfl, sG⟩
          obtain ⟨kvs, k1, k2, k3⟩ := hW.same sG
          refine ⟨_, rfl, wa, rfl, .inl ⟨kvs, .inl k1⟩, _, rfl, t, _, _, _, rfl, rfl, sG.tup hT, atI_nat (j := 0) rfl, _, rfl, _, DGet.k (k := Sum.inr x) k1, ?_⟩
          rw [k3, wn]
          refine ⟨_, rfl, rfl, ?_⟩
          have e : (!decide (((Option.map V.int (none : Option Int)).getD (V.int n)) = V.int n)) = false := by
            rw [decide_eq_true (show ((Option.map V.int (none : Option Int)).getD (V.int n)) = V.int n from rfl)]; rfl
          rw [e]
          exact k _ sG
        · refine iteF ⟨_, rfl, _, rfl, _, rfl, "set", t, .str x :: ns.map V.int, .ref wa, ns.length, rfl, sG.tup hT, .inr ⟨rfl, x, ns, rfl, rfl⟩, ?_⟩
          obtain ⟨kvs, k1, k2, k3⟩ := hW.same sG
          refine ⟨fun σ' H' => σ' = [some (.str "set"), some (.ref t), some (.ref wa), some (.ref ka), some (.int a), some (.int b), some (.int ns.length), none] ∧ Same H H', ?_, ?_⟩
          · refine ⟨_, rfl, _, _, rfl, rfl, _, rfl, ite2 (fun c => absurd (of_decide_eq_true c) (by omega)) (fun _ => ?_)⟩
            exact ⟨_, rfl, rfl, _, rfl, ite2 (fun c => absurd (of_decide_eq_true c) (by decide)) (fun _ => iteF ⟨rfl, sG⟩)⟩
          clear k1 k2 k3 sG
          rintro σ' G2 ⟨rfl, sG⟩
          obtain ⟨kvs, k1, k2, k3⟩ := hW.same sG
          refine ⟨_, rfl, wa, rfl, .inl ⟨kvs, .inl k1⟩, _, rfl, t, _, _, _, rfl, rfl, sG.tup hT, atI_nat (j := 0) rfl, _, rfl, _, DGet.k (k := Sum.inr x) k1, ?_⟩
          have e : (valV kvs (Sum.inr x)).getD (V.int (ns.length : Nat)) = V.int (ns.length : Nat) := by
            rw [k3]
            cases q : wds x with
            | none => rfl
            | some m => rw [wn m q]; rfl
          rw [e]
          refine ⟨_, rfl, rfl, ?_⟩
          rw [decide_eq_true rfl]
          exact k _ sG
    · cases eu
  · rcases e2 with ⟨tt, rfl, _⟩ | ⟨rfl, rfl, rfl⟩
    · cases er
    · refine ⟨_, _, rfl, SqT.of hpp, rfl, _, _, rfl, _, _, rfl, rfl, ?_⟩
      by_cases wh : HT.sIx tv.length 0 (some 0) = 0 ∧ HT.sIx tv.length tv.length (some 0) = tv.length
      · have hz := s1.tup hT
        have wq := w1 wh
        refine ⟨_, rfl, _, rfl, _, rfl, _, rfl, _, rfl, t, _, rfl, hz, fun _ => ?_, fun n => absurd wh n⟩
        rw [wq] at hz
        have s2 := s1
        generalize H1 = H2 at s2 hz ⊢
        refine ⟨t, rfl, ⟨_, hz⟩, fun D hD => lc_it walk_tup (fun i H' => Same H2 H' ∧ H' D = some (.lst ((List.replicate i true).map V.bl))) ⟨Same.new hD, upd_same⟩ (fun i H' _ z => z.1.tup hz) ?_ ?_⟩
        · rintro i y G1 G2 hi ⟨s3, h3⟩ ⟨rfl, hx⟩
          rw [List.getElem?_map] at hx
          obtain ⟨x, hx', rfl⟩ := Option.map_eq_some_iff.mp hx
          obtain ⟨kvs, k1, k2, k3⟩ := (hK.same s2).same s3
          refine ⟨rfl, _, rfl, _, rfl, ka, _, rfl, DGet.k (k := Sum.inr x) k1, ?_⟩
          rw [k3 x, hxs x (List.mem_of_getElem? hx')]
          rw [List.length_map] at hi
          refine ⟨_, h3, ?_, s3.put hD, ?_⟩
          · rw [List.length_map, List.length_replicate, sizeLine_eq]; omega
          · rw [List.replicate_succ', List.map_append]
            exact upd_same
        rintro G ⟨s3, h3⟩
        refine ⟨D, _, rfl, SqL.of h3, ?_⟩
        have all : (List.replicate (xs.map V.str).length true).all id = true := by simp
        rw [all]
        refine ⟨true, rfl, iteF ?_⟩
        have sG := s2.trans s3
        refine ⟨fun σ' H' => σ' = [some (.str wd), some (.ref t), some (.ref wa), some (.ref ka), some (.int 0), some (.int 0), none, none] ∧ Same H H', ⟨_, rfl, rfl, _, rfl, ite2 (fun c => absurd (V.str.inj (of_decide_eq_true c)) nf) (fun _ => iteF ⟨rfl, sG⟩)⟩, ?_⟩
        clear sG
        rintro σ' G' ⟨rfl, sG⟩
        refine ⟨fun σ' H' => σ' = [some (.str wd), some (.ref t), some (.ref wa), some (.ref ka), some (.int 0), some (.int 0), none, none] ∧ Same H H', ⟨_, rfl, rfl, _, rfl, ite2 (fun c => absurd (V.str.inj (of_decide_eq_true c)) np) (fun _ => iteF ⟨rfl, sG⟩)⟩, ?_⟩
        clear sG
        rintro σ' G' ⟨rfl, sG⟩
        refine ⟨_, rfl, _, _, rfl, .inr (Tq.t_SETTING _), rfl, CF.flat_strs _, _, rfl, ?_⟩
        rw [if_pos rfl, CF.inV_strs]
        rcases way with nw | ⟨x, n, rfl, rfl, wn, n16⟩ | ⟨x, ns, rfl, rfl, ns8, wn⟩
        · rw [decide_eq_false nw]
          exact iteT (k _ sG)
        · refine iteF ⟨_, rfl, _, rfl, _, rfl, "input", t, [.str x, .int n], .ref wa, n, rfl, sG.tup hT, .inl ⟨rfl, x, rfl⟩, ?_⟩
          obtain ⟨kvs, k1, k2, k3⟩ := hW.same sG
          refine ⟨fun σ' H' => σ' = [some (.str "input"), some (.ref t), some (.ref wa), some (.ref ka), some (.int 0), some (.int 0), some (.int n), none] ∧ Same H H', ?_, ?_⟩
          · refine ⟨_, rfl, _, _, rfl, rfl, _, rfl, ite2 (fun c => absurd (of_decide_eq_true c) (by omega)) (fun _ => ?_)⟩
            refine ⟨_, rfl, rfl, _, rfl, ite2 (fun _ => ?_) (fun c => absurd (decide_eq_true rfl) c)⟩
            refine ⟨_, rfl, t, _, _, _, rfl, rfl, sG.tup hT, atI_nat (j := 0) rfl, _, rfl, wa, _, rfl, DGet.k (k := Sum.inr x) k1, ?_⟩
            rw [k3, wn]
            exact ⟨_, rfl, iteF ⟨rfl, sG⟩⟩
          clear k1 k2 k3 sG
          rintro σ' G2 ⟨rfl, sG⟩
          obtain ⟨kvs, k1, k2, k3⟩ := hW.same sG
          refine ⟨_, rfl, wa, rfl, .inl ⟨kvs, .inl k1⟩, _, rfl, t, _, _, _, rfl, rfl, sG.tup hT, atI_nat (j := 0) rfl, _, rfl, _, DGet.k (k := Sum.inr x) k1, ?_⟩
          rw [k3, wn]
          refine ⟨_, rfl, rfl, ?_⟩
          have e : (!decide (((Option.map V.int (none : Option Int)).getD (V.int n)) = V.int n)) = false := by
            rw [decide_eq_true (show ((Option.map V.int (none : Option Int)).getD (V.int n)) = V.int n from rfl)]; rfl
          rw [e]
          exact k _ sG
        · refine iteF ⟨_, rfl, _, rfl, _, rfl, "set", t, .str x :: ns.map V.int, .ref wa, ns.length, rfl, sG.tup hT, .inr ⟨rfl, x, ns, rfl, rfl⟩, ?_⟩
          obtain ⟨kvs, k1, k2, k3⟩ := hW.same sG
          refine ⟨fun σ' H' => σ' = [some (.str "set"), some (.ref t), some (.ref wa), some (.ref ka), some (.int 0), some (.int 0), some (.int ns.length), none] ∧ Same H H', ?_, ?_⟩
          · refine ⟨_, rfl, _, _, rfl, rfl, _, rfl, ite2 (fun c => absurd (of_decide_eq_true c) (by omega)) (fun _ => ?_)⟩
            exact ⟨_, rfl, rfl, _, rfl, ite2 (fun c => absurd (of_decide_eq_true c) (by decide)) (fun _ => iteF ⟨rfl, sG⟩)⟩
          clear k1 k2 k3 sG
          rintro σ' G2 ⟨rfl, sG⟩
          obtain ⟨kvs, k1, k2, k3⟩ := hW.same sG
          refine ⟨_, rfl, wa, rfl, .inl ⟨kvs, .inl k1⟩, _, rfl, t, _, _, _, rfl, rfl, sG.tup hT, atI_nat (j := 0) rfl, _, rfl, _, DGet.k (k := Sum.inr x) k1, ?_⟩
          have e : (valV kvs (Sum.inr x)).getD (V.int (ns.length : Nat)) = V.int (ns.length : Nat) := by
            rw [k3]
            cases q : wds x with
            | none => rfl
            | some m => rw [wn m q]; rfl
          rw [e]
          refine ⟨_, rfl, rfl, ?_⟩
          rw [decide_eq_true rfl]
          exact k _ sG
      · refine ⟨_, rfl, _, rfl, _, rfl, _, rfl, _, rfl, t, _, rfl, s1.tup hT, fun h => absurd h wh, fun _ q hq => ?_⟩
        rw [w2 wh]
        have s2 := s1.trans (Same.new (o := .tup (xs.map V.str)) hq)
        have hz : SqT K (upd H1 q (.tup (xs.map V.str))) q (xs.map V.str) := SqT.of upd_same
        generalize upd H1 q (.tup (xs.map V.str)) = H2 at s2 hz ⊢
        refine ⟨q, rfl, ⟨_, hz⟩, fun D hD => lc_it walk_tup (fun i H' => Same H2 H' ∧ H' D = some (.lst ((List.replicate i true).map V.bl))) ⟨Same.new hD, upd_same⟩ (fun i H' _ z => z.1.tup hz) ?_ ?_⟩
        · rintro i y G1 G2 hi ⟨s3, h3⟩ ⟨rfl, hx⟩
          rw [List.getElem?_map] at hx
          obtain ⟨x, hx', rfl⟩ := Option.map_eq_some_iff.mp hx
          obtain ⟨kvs, k1, k2, k3⟩ := (hK.same s2).same s3
          refine ⟨rfl, _, rfl, _, rfl, ka, _, rfl, DGet.k (k := Sum.inr x) k1, ?_⟩
          rw [k3 x, hxs x (List.mem_of_getElem? hx')]
          rw [List.length_map] at hi
          refine ⟨_, h3, ?_, s3.put hD, ?_⟩
          · rw [List.length_map, List.length_replicate, sizeLine_eq]; omega
          · rw [List.replicate_succ', List.map_append]
            exact upd_same
        rintro G ⟨s3, h3⟩
        refine ⟨D, _, rfl, SqL.of h3, ?_⟩
        have all : (List.replicate (xs.map V.str).length true).all id = true := by simp
        rw [all]
        refine ⟨true, rfl, iteF ?_⟩
        have sG := s2.trans s3
        refine ⟨fun σ' H' => σ' = [some (.str wd), some (.ref t), some (.ref wa), some (.ref ka), some (.int 0), some (.int 0), none, none] ∧ Same H H', ⟨_, rfl, rfl, _, rfl, ite2 (fun c => absurd (V.str.inj (of_decide_eq_true c)) nf) (fun _ => iteF ⟨rfl, sG⟩)⟩, ?_⟩
        clear sG
        rintro σ' G' ⟨rfl, sG⟩
        refine ⟨fun σ' H' => σ' = [some (.str wd), some (.ref t), some (.ref wa), some (.ref ka), some (.int 0), some (.int 0), none, none] ∧ Same H H', ⟨_, rfl, rfl, _, rfl, ite2 (fun c => absurd (V.str.inj (of_decide_eq_true c)) np) (fun _ => iteF ⟨rfl, sG⟩)⟩, ?_⟩
        clear sG
        rintro σ' G' ⟨rfl, sG⟩
        refine ⟨_, rfl, _, _, rfl, .inr (Tq.t_SETTING _), rfl, CF.flat_strs _, _, rfl, ?_⟩
        rw [if_pos rfl, CF.inV_strs]
        rcases way with nw | ⟨x, n, rfl, rfl, wn, n16⟩ | ⟨x, ns, rfl, rfl, ns8, wn⟩
        · rw [decide_eq_false nw]
          exact iteT (k _ sG)
        · refine iteF ⟨_, rfl, _, rfl, _, rfl, "input", t, [.str x, .int n], .ref wa, n, rfl, sG.tup hT, .inl ⟨rfl, x, rfl⟩, ?_⟩
          obtain ⟨kvs, k1, k2, k3⟩ := hW.same sG
          refine ⟨fun σ' H' => σ' = [some (.str "input"), some (.ref t), some (.ref wa), some (.ref ka), some (.int 0), some (.int 0), some (.int n), none] ∧ Same H H', ?_, ?_⟩
          · refine ⟨_, rfl, _, _, rfl, rfl, _, rfl, ite2 (fun c => absurd (of_decide_eq_true c) (by omega)) (fun _ => ?_)⟩
            refine ⟨_, rfl, rfl, _, rfl, ite2 (fun _ => ?_) (fun c => absurd (decide_eq_true rfl) c)⟩
            refine ⟨_, rfl, t, _, _, _, rfl, rfl, sG.tup hT, atI_nat (j := 0) rfl, _, rfl, wa, _, rfl, DGet.k (k := Sum.inr x) k1, ?_⟩
            rw [k3, wn]
            exact ⟨_, rfl, iteF ⟨rfl, sG⟩⟩
          clear k1 k2 k3 sG
          rintro σ' G2 ⟨rfl, sG⟩
          obtain ⟨kvs, k1, k2, k3⟩ := hW.same sG
          refine ⟨_, rfl, wa, rfl, .inl ⟨kvs, .inl k1⟩, _, rfl, t, _, _, _, rfl, rfl, sG.tup hT, atI_nat (j := 0) rfl, _, rfl, _, DGet.k (k := Sum.inr x) k1, ?_⟩
          rw [k3, wn]
          refine ⟨_, rfl, rfl, ?_⟩
          have e : (!decide (((Option.map V.int (none : Option Int)).getD (V.int n)) = V.int n)) = false := by
            rw [decide_eq_true (show ((Option.map V.int (none : Option Int)).getD (V.int n)) = V.int n from rfl)]; rfl
          rw [e]
          exact k _ sG
        · refine iteF ⟨_, rfl, _, rfl, _, rfl, "set", t, .str x :: ns.map V.int, .ref wa, ns.length, rfl, sG.tup hT, .inr ⟨rfl, x, ns, rfl, rfl⟩, ?_⟩
          obtain ⟨kvs, k1, k2, k3⟩ := hW.same sG
          refine ⟨fun σ' H' => σ' = [some (.str "set"), some (.ref t), some (.ref wa), some (.ref ka), some (.int 0), some (.int 0), some (.int ns.length), none] ∧ Same H H', ?_, ?_⟩
          · refine ⟨_, rfl, _, _, rfl, rfl, _, rfl, ite2 (fun c => absurd (of_decide_eq_true c) (by omega)) (fun _ => ?_)⟩
            exact ⟨_, rfl, rfl, _, rfl, ite2 (fun c => absurd (of_decide_eq_true c) (by decide)) (fun _ => iteF ⟨rfl, sG⟩)⟩
          clear k1 k2 k3 sG
          rintro σ' G2 ⟨rfl, sG⟩
          obtain ⟨kvs, k1, k2, k3⟩ := hW.same sG
          refine ⟨_, rfl, wa, rfl, .inl ⟨kvs, .inl k1⟩, _, rfl, t, _, _, _, rfl, rfl, sG.tup hT, atI_nat (j := 0) rfl, _, rfl, _, DGet.k (k := Sum.inr x) k1, ?_⟩
          have e : (valV kvs (Sum.inr x)).getD (V.int (ns.length : Nat)) = V.int (ns.length : Nat) := by
            rw [k3]
            cases q : wds x with
            | none => rfl
            | some m => rw [wn m q]; rfl
          rw [e]
          refine ⟨_, rfl, rfl, ?_⟩
          rw [decide_eq_true rfl]
          exact k _ sG

end
end K18
end
section
set_option Elab.async false
set_option linter.all false
set_option maxRecDepth 100000
set_option maxHeartbeats 4000000
namespace K18
open PySem PySem.Spec PyProof.Rows L2
open PySem.W (ke_shaped_ints)
local macro_rules | `(tactic| walk_at "go") => `(tactic| first | refine ⟨_, rfl, ?_⟩ | refine .inl ⟨_, rfl, ?_⟩ | refine ⟨_, _, rfl, rfl, (by first | (show (0 : Int) < _; decide) | exact Or.inl ⟨by decide, by decide⟩ | exact Or.inr ⟨by decide, by decide⟩), ?_⟩ | refine ⟨_, _, rfl, rfl, ?_⟩)
section
variable {P : Program} {w : World} {K : PySem.W.Frag} {mg : Str → Option Value} {base : Heap}

/-- a line that uses registers rightly -/
inductive UseL (wds : Str → Option Int) (kn : Str → Bool) : PL.Ln → Prop
  | input {x : Str} {n : Int} : wds x = none → n ≤ 16 → UseL wds kn ⟨"input", [.name x, .num "wide" n]⟩
  | set {x : Str} {ns : List Int} : ns.length ≤ 8 → (∀ n, wds x = some n → n = ns.length) → UseL wds kn ⟨"set", .name x :: ns.map (.num "cell")⟩
  | store {x z : Str} {k : Int} : kn x = true → UseL wds kn ⟨"store", [.name x, .spot z k]⟩
  | give {xs : List Str} : 1 ≤ xs.length → xs.length ≤ 4 → (∀ x ∈ xs, kn x = true) → UseL wds kn ⟨"give", xs.map .name⟩
  | step {z : Str} {n : Int} : UseL wds kn ⟨"step", [.ptr z, .num "jump" n]⟩
  | copy {wd z z' : Str} {k k' n : Int} : wd ∈ PL.Copying → UseL wds kn ⟨wd, [.num "many" n, .fix "from", .spot z k, .fix "to", .spot z' k']⟩
/-- what a line sets -/
def setOf (l : PL.Ln) : Option (Str × Int) :=
  if l.w = "input" then (match l.ds with | [.name x, .num _ n] => some (x, n) | _ => none)
  else if l.w = "set" then (match l.ds with | .name x :: ns => some (x, (ns.length : Nat)) | _ => none) else none
def Used : (Str → Option Int) → (Str → Bool) → List PL.Ln → (Str → Option Int) → Prop
  | wds, _, [], w' => w' = wds
  | wds, kn, l :: ls, w' => UseL wds kn l ∧ match setOf l with
    | none => Used wds kn ls w'
    | some (x, n) => Used (fun y => if y = x then some n else wds y) (fun y => if y = x then true else kn y) ls w'
theorem paired_names {H : Hp} {ps : List Str} : ∀ {xs : List Str} {vs : List V}, Paired (PL.Val H ps) (xs.map .name) vs → vs = xs.map V.str
  | [], _, .nil => rfl
  | x :: xs, _, .cons r t => by
    rw [paired_names t]
    show _ = V.str x :: _
    rw [show _ = V.str x from r]
theorem paired_nums {H : Hp} {ps : List Str} {kd : Str} : ∀ {xs : List Int} {vs : List V}, Paired (PL.Val H ps) (xs.map (.num kd)) vs → vs = xs.map V.int
  | [], _, .nil => rfl
  | x :: xs, _, .cons r t => by
    rw [paired_nums t]
    show _ = V.int x :: _
    rw [show _ = V.int x from r]
theorem told_names (xs : List Str) : (PL.Ln.mk w0 (xs.map .name)).told = xs.map .name := by
  rw [told_eq, List.filter_eq_self]
  intro d hd
  obtain ⟨x, _, rfl⟩ := List.mem_map.mp hd
  rfl
theorem told_nums {kd x w0 : Str} (xs : List Int) : (PL.Ln.mk w0 (.name x :: xs.map (.num kd))).told = .name x :: xs.map (.num kd) := by
  rw [told_eq, List.filter_eq_self]
  intro d hd
  rcases List.mem_cons.mp hd with rfl | hd
  · rfl
  · obtain ⟨x, _, rfl⟩ := List.mem_map.mp hd
    rfl
theorem use_way {H : Hp} {ps : List Str} {wds : Str → Option Int} {kn : Str → Bool} {l : PL.Ln} {vs : List V} (u : UseL wds kn l) (p : Paired (PL.Val H ps) l.told vs) :
    Use wds kn l.w vs ∧ l.w ∉ PL.Opening ∧ l.w ≠ "else" ∧ l.w ≠ "end" ∧ ((l.w ∉ PL.Setting ∧ setOf l = none) ∨ ∃ x n, setOf l = some (x, n) ∧ l.w ∈ PL.Setting ∧ (∃ vr, vs = .str x :: vr) ∧
      ((l.w = "input" ∧ ∃ x, vs = [.str x, .int n]) ∨ (l.w = "set" ∧ ∃ x, ∃ ns : List Int, vs = .str x :: ns.map V.int ∧ n = ns.length))) := by
  cases u with
  | @input x n h1 h2 =>
    have p' : Paired (PL.Val H ps) [.name x, .num "wide" n] vs := p
    rcases p' with _ | ⟨a, p'⟩
    rcases p' with _ | ⟨b, p'⟩
    cases p'
    obtain rfl : _ = V.str x := a
    obtain rfl : _ = V.int n := b
    exact ⟨.input h1 h2, (show ("input" : Str) ∉ PL.Opening by decide +kernel), (show ("input" : Str) ≠ "else" by decide +kernel), (show ("input" : Str) ≠ "end" by decide +kernel), .inr ⟨x, n, rfl, (show ("input" : Str) ∈ PL.Setting by decide +kernel), ⟨_, rfl⟩, .inl ⟨rfl, x, rfl⟩⟩⟩
  | @set x ns h1 h2 =>
    rw [told_nums] at p
    rcases p with _ | ⟨a, p'⟩
    obtain rfl : _ = V.str x := a
    rw [paired_nums p']
    exact ⟨.set h1 h2, (show ("set" : Str) ∉ PL.Opening by decide +kernel), (show ("set" : Str) ≠ "else" by decide +kernel), (show ("set" : Str) ≠ "end" by decide +kernel), .inr ⟨x, ns.length, by show some (x, _) = _; rw [List.length_map], (show ("set" : Str) ∈ PL.Setting by decide +kernel), ⟨_, rfl⟩, .inr ⟨rfl, x, ns, rfl, rfl⟩⟩⟩
  | @store x z k h =>
    have p' : Paired (PL.Val H ps) [.name x, .spot z k] vs := p
    rcases p' with _ | ⟨a, p'⟩
    rcases p' with _ | ⟨b, p'⟩
    cases p'
    obtain rfl : _ = V.str x := a
    obtain ⟨r, i, rfl, _⟩ := b
    exact ⟨.store h, (show ("store" : Str) ∉ PL.Opening by decide +kernel), (show ("store" : Str) ≠ "else" by decide +kernel), (show ("store" : Str) ≠ "end" by decide +kernel), .inl ⟨(show ("store" : Str) ∉ PL.Setting by decide +kernel), rfl⟩⟩
  | @give xs h1 h2 h3 =>
    rw [told_names] at p
    rw [paired_names p]
    exact ⟨.give h1 h2 h3, (show ("give" : Str) ∉ PL.Opening by decide +kernel), (show ("give" : Str) ≠ "else" by decide +kernel), (show ("give" : Str) ≠ "end" by decide +kernel), .inl ⟨(show ("give" : Str) ∉ PL.Setting by decide +kernel), rfl⟩⟩
  | @step z n =>
    have p' : Paired (PL.Val H ps) [.ptr z, .num "jump" n] vs := p
    rcases p' with _ | ⟨a, p'⟩
    exact ⟨.other (show ("step" : Str) ∈ (["copy", "up", "down", "step"] : List Str) by decide +kernel), (show ("step" : Str) ∉ PL.Opening by decide +kernel), (show ("step" : Str) ≠ "else" by decide +kernel), (show ("step" : Str) ≠ "end" by decide +kernel), .inl ⟨(show ("step" : Str) ∉ PL.Setting by decide +kernel), rfl⟩⟩
  | @copy wd z z' k k' n h =>
    have p' : Paired (PL.Val H ps) [.num "many" n, .spot z k, .spot z' k'] vs := p
    rcases p' with _ | ⟨a, p'⟩
    simp only [PL.Copying, List.mem_cons, List.not_mem_nil, or_false] at h
    rcases h with rfl | rfl | rfl
    · exact ⟨.other (show ("copy" : Str) ∈ (["copy", "up", "down", "step"] : List Str) by decide +kernel), (show ("copy" : Str) ∉ PL.Opening by decide +kernel), (show ("copy" : Str) ≠ "else" by decide +kernel), (show ("copy" : Str) ≠ "end" by decide +kernel), .inl ⟨(show ("copy" : Str) ∉ PL.Setting by decide +kernel), rfl⟩⟩
    · exact ⟨.other (show ("up" : Str) ∈ (["copy", "up", "down", "step"] : List Str) by decide +kernel), (show ("up" : Str) ∉ PL.Opening by decide +kernel), (show ("up" : Str) ≠ "else" by decide +kernel), (show ("up" : Str) ≠ "end" by decide +kernel), .inl ⟨(show ("up" : Str) ∉ PL.Setting by decide +kernel), rfl⟩⟩
    · exact ⟨.other (show ("down" : Str) ∈ (["copy", "up", "down", "step"] : List Str) by decide +kernel), (show ("down" : Str) ∉ PL.Opening by decide +kernel), (show ("down" : Str) ≠ "else" by decide +kernel), (show ("down" : Str) ≠ "end" by decide +kernel), .inl ⟨(show ("down" : Str) ∉ PL.Setting by decide +kernel), rfl⟩⟩
theorem some_merge (k : Key) : ∀ (more kvs : List (Key × V)), (valV (mergeK kvs more) k).isSome = ((valV kvs k).isSome || (valV more k).isSome)
  | [], kvs => by
    show (valV kvs k).isSome = ((valV kvs k).isSome || false)
    rw [Bool.or_false]
  | p :: r, kvs => by
    show (valV (mergeK (putK kvs p.1 p.2) r) k).isSome = _
    rw [some_merge k r, valV_put]
    by_cases e : k = p.1
    · rw [if_pos e, valV_pos e.symm]
      simp
    · rw [if_neg e, valV_neg (Ne.symm e)]
/-- a dict from names to ints, of at most m names -/
def WidN (m : Nat) (H : Hp) (a : Addr) (wds : Str → Option Int) : Prop := ∃ kvs, H a = some (.dK kvs) ∧ kvs.length ≤ m ∧ ∀ x : Str, valV kvs (Sum.inr x) = (wds x).map V.int
def KnoN (m : Nat) (H : Hp) (a : Addr) (kn : Str → Bool) : Prop := ∃ kvs, H a = some (.dK kvs) ∧ kvs.length ≤ m ∧ ∀ x : Str, (valV kvs (Sum.inr x)).isSome = kn x
theorem WidN.mk' {m : Nat} {H : Hp} {a : Addr} {wds : Str → Option Int} (h : WidN m H a wds) (l : m ≤ 100) : Wid H a wds := by
  obtain ⟨kvs, h1, h2, h3⟩ := h
  exact ⟨kvs, h1, by omega, h3⟩
theorem KnoN.mk' {m : Nat} {H : Hp} {a : Addr} {kn : Str → Bool} (h : KnoN m H a kn) (l : m ≤ 100) : Kno H a kn := by
  obtain ⟨kvs, h1, h2, h3⟩ := h
  exact ⟨kvs, h1, by omega, h3⟩
theorem WidN.same {m m' : Nat} {H H' : Hp} {a : Addr} {wds : Str → Option Int} (h : WidN m H a wds) (s : Same H H') (l : m ≤ m') : WidN m' H' a wds := by
  obtain ⟨kvs, h1, h2, h3⟩ := h
  exact ⟨kvs, s _ _ h1, by omega, h3⟩
theorem KnoN.same {m m' : Nat} {H H' : Hp} {a : Addr} {kn : Str → Bool} (h : KnoN m H a kn) (s : Same H H') (l : m ≤ m') : KnoN m' H' a kn := by
  obtain ⟨kvs, h1, h2, h3⟩ := h
  exact ⟨kvs, s _ _ h1, by omega, h3⟩
/-- used_rows(rows) -/
def spUsed (K : PySem.W.Frag) : Sp := fun vs H Q _ => ∃ (rl : Addr) (ps : List Str) (ls : List PL.Ln) (rs : List Addr) (wds' : Str → Option Int), vs = [.ref rl] ∧ H rl = some (.lst (rs.map V.ref)) ∧ RowsAt H ps ls rs ∧ ls.length ≤ 40 ∧ Used (fun _ => none) (fun _ => false) ls wds' ∧
  ∀ (r wa : Addr) (H' : Hp), Same H H' → H r = none → H wa = none → H' r = some (.tup [.int (ls.length : Nat), .ref wa]) → Wid H' wa wds' → Q (.ref r) H'
abbrev s_used_rows : Stmt := topS 57
theorem sc_used_rows : FnScope ["rows", "widths", "known", "around", "index", "word", "told", "_", "before", "opener", "half", "name"] ["rows"] (defScope s_used_rows) := ⟨rfl, rfl, rfl, by decide +kernel, rfl, by decide +kernel, by decide +kernel⟩
theorem ok_used_rows (T : TxtP K mg) (Tq : PL.TxtQ K w mg) (D : Def K mg "used_rows" s_used_rows) (C_misuses : Cal P w K mg base 2 "misuses" ["word", "told", "widths", "known"] (spMisuses K)) (C_width_of : Cal P w K mg base 1 "width_of" ["word", "told", "widths"] (spWidthOf K)) : Cal P w K mg base 3 "used_rows" ["rows"] (spUsed K) := by
  refine D.cal sc_used_rows (fun vs H Q E h => ?_) (fun _ _ _ _ _ _ us hl => match us, hl with | [_], _ => rfl) (fun f cdv A outer s H vs Q E hr h => ?_)
  · obtain ⟨rl, ps, ls, rs, wds', rfl, _⟩ := h
    rfl
  have hu := hu_of hr

  obtain ⟨rl, ps, ls, rs, wds', rfl, hR, rows, n40, us, k⟩ := h
  have big : sizeLine = 16777216 := sizeLine_eq
  have rle := paired_len rows
  refine ⟨_, (pss_cons (ps_set (i := 1) sc_used_rows.nd rfl (by first | exact Or.inl rfl | exact Or.inr rfl) pe_dnewK)
      (pss_cons (ps_set (i := 2) sc_used_rows.nd rfl (by first | exact Or.inl rfl | exact Or.inr rfl) pe_dnewK)
      (pss_cons (ps_set (i := 3) sc_used_rows.nd rfl (by first | exact Or.inl rfl | exact Or.inr rfl) (pe_lst pa_nil))
      (pss_cons (ps_for PassesOwn.never rfl (pi_enum (by rfl) T.f_enumerate (pa_cons (pv 0) pa_nil)) (pg_tup rfl (pgs_cons (pg_name (i := 4) sc_used_rows.nd rfl (by first | exact Or.inl rfl | exact Or.inr rfl)) (pgs_cons (pg_tup rfl (pgs_cons (pg_name (i := 5) sc_used_rows.nd rfl (by first | exact Or.inl rfl | exact Or.inr rfl)) (pgs_cons (pg_name (i := 6) sc_used_rows.nd rfl (by first | exact Or.inl rfl | exact Or.inr rfl)) pgs_nil))) pgs_nil))) (pss_one (ps_if (pt_cmpR op_in_seq (pv 5) (pe_gref (by rfl) Tq.g_OPENING) (by rfl)) (pss_one (ps_expr PL.pe_never)) (pss_one (ps_if (pt_cmpR op_eq (pv 5) pe_str (nomark _)) (pss_cons (ps_asg PL.pe_never (pg_tup rfl (pgs_cons (pg_name (i := 7) sc_used_rows.nd rfl (by first | exact Or.inl rfl | exact Or.inr rfl)) (pgs_cons (pg_name (i := 8) sc_used_rows.nd rfl (by first | exact Or.inl rfl | exact Or.inr rfl)) (pgs_cons (pg_name (i := 7) sc_used_rows.nd rfl (by first | exact Or.inl rfl | exact Or.inr rfl)) pgs_nil)))))
      (pss_cons (ps_expr PL.pe_never)
      (pss_one (ps_set (i := 2) sc_used_rows.nd rfl (by first | exact Or.inl rfl | exact Or.inr rfl) (pv 8))))) (pss_one (ps_if (pt_cmpR op_eq (pv 5) pe_str (nomark _)) (pss_cons (ps_asg PL.pe_never (pg_tup rfl (pgs_cons (pg_name (i := 9) sc_used_rows.nd rfl (by first | exact Or.inl rfl | exact Or.inr rfl)) (pgs_cons (pg_name (i := 7) sc_used_rows.nd rfl (by first | exact Or.inl rfl | exact Or.inr rfl)) (pgs_cons (pg_name (i := 10) sc_used_rows.nd rfl (by first | exact Or.inl rfl | exact Or.inr rfl)) pgs_nil)))))
      (pss_one (ps_set (i := 2) sc_used_rows.nd rfl (by first | exact Or.inl rfl | exact Or.inr rfl) PL.pe_never))) (pss_one (ps_if (pt_val (pe_cal C_misuses (hr.mono (by decide)) rfl (pa_cons (pv 5) (pa_cons (pv 6) (pa_cons (pv 1) (pa_cons (pv 2) pa_nil)))))) (pss_one (ps_ret (pe_tup (pa_cons (pv 4) (pa_cons (pv 1) pa_nil))))) (pss_one (ps_if (pt_cmpR op_in_seq (pv 5) (pe_gref (by rfl) Tq.g_SETTING) (by rfl)) (pss_cons (ps_dput hu (pv 1) (pe_ix ix_tup (pv 6) pe_int (fun _ _ => rfl)) (pe_cal C_width_of (hr.mono (by decide)) rfl (pa_cons (pv 5) (pa_cons (pv 6) (pa_cons (pv 1) pa_nil)))) rfl)
      (pss_one (ps_set (i := 2) sc_used_rows.nd rfl (by first | exact Or.inl rfl | exact Or.inr rfl) (pe_merge (pv 2) (pps_cons (pe_ix ix_tup (pv 6) pe_int (fun _ _ => rfl)) pe_bl pps_nil))))) pss_nil)))))))))))
      (pss_one (ps_ret (pe_tup (pa_cons (pe_callB call_len (by rfl) T.f_len PySem.boot_len (pa_cons (pv 0) pa_nil)) (pa_cons (pv 1) pa_nil))))))))), ?_⟩
  refine fun wa hwa => ?_
  have s1 := Same.new (o := .dK []) hwa
  have hw : upd H wa (.dK []) wa = some (.dK []) := upd_same
  generalize upd H wa (.dK []) = H1 at s1 hw ⊢
  refine fun ka hka => ?_
  have nka : ka ≠ wa := fun e => by rw [e, hw] at hka; cases hka
  have s2 := s1.trans (Same.new (o := .dK []) hka)
  have hw2 := Same.new (o := .dK []) hka _ _ hw
  have hk : upd H1 ka (.dK []) ka = some (.dK []) := upd_same
  generalize upd H1 ka (.dK []) = H2 at s2 hw2 hk ⊢
  refine ⟨by show 0 ≤ sizeLine; decide, fun al hal => ?_⟩
  have s3 := s2.trans (Same.new (o := .lst []) hal)
  have hw3 := Same.new (o := .lst []) hal _ _ hw2
  have hk3 := Same.new (o := .lst []) hal _ _ hk
  generalize upd H2 al (.lst []) = H3 at s3 hw3 hk3 ⊢
  refine ⟨_, rfl, rl, _, rfl, SqL.of (s3 _ _ hR), for_it walk_enum (fun i σ H' => ∃ kb v4 v5 v6 wds kn, σ = [some (.ref rl), some (.ref wa), some (.ref kb), some (.ref al), v4, v5, v6, none, none, none, none, none] ∧ Same H H' ∧ WidN i H' wa wds ∧ KnoN i H' kb kn ∧ kb ≠ wa ∧ Used wds kn (ls.drop i) wds')
    ⟨ka, none, none, none, _, _, rfl, s3, ⟨[], hw3, Nat.zero_le _, fun _ => rfl⟩, ⟨[], hk3, Nat.zero_le _, fun _ => rfl⟩, nka, us⟩ (fun i σ H' _ ⟨_, _, _, _, _, _, _, z, _⟩ => SqL.of (z _ _ hR)) ?_ ?_⟩
  · rintro i x σ H4 H5 hi ⟨kb, v4, v5, v6, wds, kn, rfl, s4, wi, ki, nkb, us'⟩ ⟨T0, x1, x2, rfl, hT0, rfl, e1, e2⟩
    cases e1
    obtain ⟨r, l, rfl, hr', hl, row⟩ := row_get (RowsAt.same s4 rows) e2
    have hi' : i < ls.length := (List.getElem?_eq_some_iff.mp hl).1
    have dr : ls.drop i = l :: ls.drop (i + 1) := by
      rw [List.drop_eq_getElem_cons hi', (List.getElem?_eq_some_iff.mp hl).2]
    rw [dr] at us'
    obtain ⟨ul, us2⟩ := us'
    obtain ⟨t, vs, g1, g2, g3⟩ := row.ex
    have sT := Same.new (o := .tup [.int (i : Nat), .ref r]) hT0
    have s5 := s4.trans sT
    have wi5 := wi.same sT (Nat.le_refl _)
    have ki5 := ki.same sT (Nat.le_refl _)
    have g1' := sT _ _ g1
    have g2' := sT _ _ g2
    refine ⟨T0, _, rfl, SqT.of upd_same, rfl, _, _, rfl, _, _, rfl, ⟨r, _, rfl, SqT.of g1', rfl, _, _, rfl, _, _, rfl, rfl, ?_⟩⟩
    obtain ⟨u1, u2, u3, u4, u5⟩ := use_way ul g3
    clear row g1 g2 wi ki
    generalize upd H4 T0 (.tup [.int (i : Nat), .ref r]) = H5 at s5 wi5 ki5 g1' g2' ⊢
    refine ⟨rfl, ?_⟩
    refine ⟨_, rfl, _, _, rfl, .inr (Tq.t_OPENING _), rfl, CF.flat_strs _, _, rfl, ?_⟩
    rw [if_neg (by decide), CF.inV_strs, decide_eq_false u2]
    refine iteF ⟨_, rfl, rfl, _, rfl, ite2 (fun c => absurd (V.str.inj (of_decide_eq_true c)) u3) (fun _ => ?_)⟩
    refine ⟨_, rfl, rfl, _, rfl, ite2 (fun c => absurd (V.str.inj (of_decide_eq_true c)) u4) (fun _ => ?_)⟩
    refine ⟨_, rfl, _, rfl, _, rfl, _, rfl, l.w, t, wa, kb, vs, wds, kn, rfl, SqT.of g2', wi5.mk' (by omega), ki5.mk' (by omega), u1, fun H6 s6 => ⟨_, rfl, iteF ?_⟩⟩
    have s6' := s5.trans s6
    have wi6 := wi5.same s6 (Nat.le_refl _)
    have ki6 := ki5.same s6 (Nat.le_refl _)
    have g2'' := s6 _ _ g2'
    refine ⟨_, rfl, _, _, rfl, .inr (Tq.t_SETTING _), rfl, CF.flat_strs _, _, rfl, ?_⟩
    rw [if_neg (by decide), CF.inV_strs]
    rcases u5 with ⟨n1, n2⟩ | ⟨x, n, n1, n2, ⟨vr, ev⟩, n3⟩
    · rw [decide_eq_false n1]
      rw [n2] at us2
      exact iteF ⟨kb, _, _, _, wds, kn, rfl, s6', wi6.same (Same.refl _) (by omega), ki6.same (Same.refl _) (by omega), nkb, us2⟩
    · rw [decide_eq_true n2]
      rw [n1] at us2
      obtain ⟨kvs, k1, k2, k3⟩ := wi6
      obtain ⟨kks, j1, j2, j3⟩ := ki6
      subst ev
      have n3' : (l.w = "input" ∧ ∃ x0, (V.str x :: vr : List V) = [.str x0, .int n]) ∨ (l.w = "set" ∧ ∃ x0, ∃ ns : List Int, (V.str x :: vr : List V) = .str x0 :: ns.map V.int ∧ n = ns.length) := n3
      refine iteT ⟨_, rfl, _, rfl, _, rfl, l.w, t, _, .ref wa, n, rfl, SqT.of g2'', n3', ?_⟩
      refine ⟨_, rfl, _, rfl, t, _, _, _, rfl, rfl, SqT.of g2'', atI_nat (j := 0) rfl, wa, _, rfl, DPut.k (k := Sum.inr x) k1 (by omega), ?_⟩
      have s7 : Same H (upd H6 wa (.dK (putK kvs (Sum.inr x) (.int n)))) := same_put s6' hwa k1
      have w7 : WidN (i + 1) (upd H6 wa (.dK (putK kvs (Sum.inr x) (.int n)))) wa (fun y => if y = x then some n else wds y) := by
        refine ⟨_, upd_same, ?_, fun y => ?_⟩
        · have := length_putK kvs (Sum.inr x : Key) (V.int n)
          omega
        · rw [valV_put]
          show _ = Option.map V.int (if y = x then some n else wds y)
          by_cases e : y = x
          · rw [if_pos (by rw [e]), if_pos e]; rfl
          · rw [if_neg (fun c => e (Sum.inr.inj c)), if_neg e]; exact k3 y
      have j7 : upd H6 wa (.dK (putK kvs (Sum.inr x) (.int n))) kb = some (.dK kks) := by rw [upd_ne nkb]; exact j1
      have g7 : upd H6 wa (.dK (putK kvs (Sum.inr x) (.int n))) t = some (.tup (.str x :: vr)) := by
        have nt : t ≠ wa := fun e => by rw [e, k1] at g2''; cases g2''
        rw [upd_ne nt]
        exact g2''
      generalize upd H6 wa (.dK (putK kvs (Sum.inr x) (.int n))) = H7 at s7 w7 j7 g7 ⊢
      refine fun D2 hD2 => ?_
      have j8 := Same.new (o := .dK []) hD2 _ _ j7
      have nD2 : kb ≠ D2 := fun e => by rw [← e, j7] at hD2; cases hD2
      refine ⟨_, rfl, kb, kks, rfl, j8, upd_same, nD2, by omega, fun S hS => ?_⟩
      have g8 : upd (upd (upd H7 D2 (.dK [])) D2 (.dK (mergeK [] kks))) S (.dK []) t = some (.tup (.str x :: vr)) := by
        have n1 : t ≠ D2 := fun e => by rw [← e, g7] at hD2; cases hD2
        have n2 : t ≠ S := fun e => by rw [← e, upd_ne n1, upd_ne n1, g7] at hS; cases hS
        rw [upd_ne n2, upd_ne n1, upd_ne n1]
        exact g7
      refine ⟨_, rfl, t, _, _, _, rfl, rfl, SqT.of g8, atI_nat (j := 0) rfl, ?_⟩
      have nDS : D2 ≠ S := fun e => by rw [← e, upd_same] at hS; cases hS
      have z0 : upd (upd (upd H7 D2 (.dK [])) D2 (.dK (mergeK [] kks))) S (.dK []) D2 = some (.dK (mergeK [] kks)) := by rw [upd_ne nDS]; exact upd_same
      refine ⟨Sum.inr x, .bl true, rfl, z0, upd_same, ?_⟩
      have wD2 : wa ≠ D2 := fun e => by
        obtain ⟨q, q1, _⟩ := w7
        rw [← e, q1] at hD2
        cases hD2
      have s8 : Same H7 (upd (upd (upd (upd (upd H7 D2 (.dK [])) D2 (.dK (mergeK [] kks))) S (.dK [])) S (.dK [(Sum.inr x, .bl true)])) D2 (.dK (putK (mergeK [] kks) (Sum.inr x) (.bl true)))) := by
        intro c v e
        have n1 : c ≠ D2 := fun e' => by rw [← e', e] at hD2; cases hD2
        have n2 : c ≠ S := fun e' => by rw [← e', upd_ne n1, upd_ne n1, e] at hS; cases hS
        rw [upd_ne n1, upd_ne n2, upd_ne n2, upd_ne n1, upd_ne n1]
        exact e
      refine ⟨D2, _, _, _, _, _, rfl, s7.trans s8, w7.same s8 (Nat.le_refl _), ⟨_, upd_same, ?_, fun y => ?_⟩, Ne.symm wD2, us2⟩
      · have h1 := length_putK (mergeK [] kks) (Sum.inr x : Key) (V.bl true)
        have h2 := length_mergeK kks []
        rw [List.length_nil] at h2
        omega
      · rw [valV_put]
        show _ = if y = x then true else kn y
        by_cases e : y = x
        · rw [if_pos (by rw [e]), if_pos e]; rfl
        · rw [if_neg (fun c => e (Sum.inr.inj c)), if_neg e, some_merge]
          show (false || _) = _
          rw [Bool.false_or]
          exact j3 y
  · rintro σ H4 ⟨kb, v4, v5, v6, wds, kn, rfl, s4, wi, ki, nkb, us'⟩
    have e : ls.drop (rs.map V.ref).length = [] := List.drop_of_length_le (by rw [List.length_map]; omega)
    rw [e] at us'
    obtain rfl : wds' = wds := us'
    refine ⟨_, rfl, _, _, rfl, .inl ⟨_, SqL.of (s4 _ _ hR), rfl⟩, _, rfl, by show 2 ≤ sizeLine; decide, fun r hr => ?_⟩
    refine k r wa _ (s4.trans (Same.new hr)) ?_ hwa ?_ ?_
    · exact Same.free s4 hr
    · have e2 : (((rs.map V.ref).length : Nat) : Int) = (ls.length : Nat) := by rw [List.length_map, rle]
      rw [← e2]
      exact upd_same
    · have := wi.same (Same.new (o := .tup [.int ((rs.map V.ref).length : Nat), .ref wa]) hr) (Nat.le_refl _)
      exact this.mk' (by rw [List.length_map]; omega)

end
end K18
end
section
set_option Elab.async false
set_option linter.all false
set_option maxRecDepth 100000
set_option maxHeartbeats 4000000
namespace K18
open PySem PySem.Spec PyProof.Rows L2
open PySem.W (ke_shaped_ints)
local macro_rules | `(tactic| walk_at "go") => `(tactic| first | refine ⟨_, rfl, ?_⟩ | refine .inl ⟨_, rfl, ?_⟩ | refine ⟨_, _, rfl, rfl, (by first | (show (0 : Int) < _; decide) | exact Or.inl ⟨by decide, by decide⟩ | exact Or.inr ⟨by decide, by decide⟩), ?_⟩ | refine ⟨_, _, rfl, rfl, ?_⟩)
section
variable {P : Program} {w : World} {K : PySem.W.Frag} {mg : Str → Option Value} {base : Heap}

theorem mem_joinL {n : Nat} {y : List Nat} : ∀ {ps : List (List Nat)}, n ∈ TL.joinL y ps → n ∈ y ∨ ∃ p ∈ ps, n ∈ p
  | [], h => by cases h
  | [p], h => .inr ⟨p, List.mem_singleton_self _, h⟩
  | p :: q :: r, h => by
    have h' : n ∈ p ++ (y ++ TL.joinL y (q :: r)) := by first | exact h | simpa [TL.joinL] using h
    rw [List.mem_append, List.mem_append] at h'
    rcases h' with h' | h' | h'
    · exact .inr ⟨p, List.mem_cons_self, h'⟩
    · exact .inl h'
    · rcases mem_joinL h' with a | ⟨x, hx, e⟩
      · exact .inl a
      · exact .inr ⟨x, List.mem_cons_of_mem _ hx, e⟩
theorem text_line {ps : List Str} (nm : CF.Names ps) {l : PL.Ln} (h : l.Ok ps) : 1 ≤ l.text.length ∧ 10 ∉ TL.tl l.text := by
  have e : l.text = Txt.join " " (l.w :: l.ds.map PL.Wd.text) := rfl
  have hw := (kinds_word h.kinds).2.2.2.1
  constructor
  · rw [e, TL.join_eq, TL.len_tl, TL.tl_join]
    rw [TL.len_tl] at hw
    cases l.ds.map PL.Wd.text with
    | nil => simpa [TL.joinL] using hw
    | cons w2 r =>
      have e : TL.joinL (TL.tl " ") ((l.w :: w2 :: r).map TL.tl) = TL.tl l.w ++ (TL.tl " " ++ TL.joinL (TL.tl " ") ((w2 :: r).map TL.tl)) := by
        first | rfl | simp [TL.joinL]
      rw [e, List.length_append]
      omega
  · rw [e, TL.join_eq, TL.tl_join]
    intro hm
    rcases mem_joinL hm with a | ⟨p, hp, b⟩
    · exact absurd a (by decide +kernel)
    · obtain ⟨x, hx, rfl⟩ := List.mem_map.mp hp
      exact (ln_words nm h x hx).2.2 b
theorem texts_len {ps : List Str} (nm : CF.Names ps) {ls : List PL.Ln} (ok : ∀ l ∈ ls, l.Ok ps) (n : ls.length ≤ 40) : (Txt.join "\n" (ls.map PL.Ln.text)).length ≤ 20000 := by
  have h1 := CF.join_len "\n" (ls.map PL.Ln.text)
  have h2 := CF.sum_le (ws := ls.map PL.Ln.text) (b := 400) fun x hx => by
    obtain ⟨l, hl, rfl⟩ := List.mem_map.mp hx
    exact ln_len nm (ok l hl)
  rw [List.length_map] at h1 h2
  have h4 : ("\n" : Str).length = 1 := by decide +kernel
  rw [h4] at h1
  omega
/-- right lines: what they are, where they stand, what they use -/
structure LinesOk (ps : List Str) (ls : List PL.Ln) (wds : Str → Option Int) : Prop where
  ok : ∀ l ∈ ls, l.Ok ps
  n40 : ls.length ≤ 40
  ne : ∀ l ∈ ls, l.w ≠ "else"
  pl : PL.placed (ls.map PL.Ln.w) "input" [] = some []
  us : Used (fun _ => none) (fun _ => false) ls wds
def textOf (ls : List PL.Ln) : Str := Txt.join "\n" (ls.map PL.Ln.text)
/-- read_rows(pointers, text, functions) of right lines -/
def spReadRows (K : PySem.W.Frag) : Sp := fun vs H Q _ => ∃ (a : Addr) (ps : List Str) (ls : List PL.Ln) (wds : Str → Option Int) (fv : V), vs = [.ref a, .str (textOf ls), fv] ∧ SqT K H a (ps.map V.str) ∧ CF.Names ps ∧ LinesOk ps ls wds ∧
  ∀ (r rl wa : Addr) (rs : List Addr) (H' : Hp), Same H H' → H' r = some (.tup [.ref rl, .ref wa]) → H' rl = some (.lst (rs.map V.ref)) → RowsAt H' ps ls rs → Wid H' wa wds → Q (.ref r) H'
abbrev s_read_rows : Stmt := topS 53
theorem sc_read_rows : FnScope ["pointers", "text", "functions", "lines", "placed", "around", "used", "widths"] ["pointers", "text", "functions"] (defScope s_read_rows) := ⟨rfl, rfl, rfl, by decide +kernel, rfl, by decide +kernel, by decide +kernel⟩
theorem ok_read_rows (T : TxtP K mg) (Tq : PL.TxtQ K w mg) (D : Def K mg "read_rows" s_read_rows) (C_lines_of : Cal P w K mg base 1 "lines_of" ["text"] spLinesOf) (C_formed_rows : Cal P w K mg base 7 "formed_rows" ["lines", "pointers", "functions"] (spFormed K)) (C_placed_rows : Cal P w K mg base 2 "placed_rows" ["rows"] (spPlaced K)) (C_used_rows : Cal P w K mg base 3 "used_rows" ["rows"] (spUsed K)) : Cal P w K mg base 8 "read_rows" ["pointers", "text", "functions"] (spReadRows K) := by
  refine D.cal sc_read_rows (fun vs H Q E h => ?_) (fun _ _ _ _ _ _ us hl => match us, hl with | [_, _, _], _ => rfl) (fun f cdv A outer s H vs Q E hr h => ?_)
  · obtain ⟨a, ps, ls, wds, fv, rfl, _⟩ := h
    rfl
  have hu := hu_of hr

  obtain ⟨a, ps, ls, wds, fv, rfl, hT, nm, lk, k⟩ := h
  have big : sizeLine = 16777216 := sizeLine_eq
  have tl := texts_len nm lk.ok lk.n40
  refine ⟨_, (pss_cons (ps_set (i := 3) sc_read_rows.nd rfl (by first | exact Or.inl rfl | exact Or.inr rfl) (pe_cal C_lines_of (hr.mono (by decide)) rfl (pa_cons (pv 1) pa_nil)))
      (pss_cons (ps_asg (pe_cal C_placed_rows (hr.mono (by decide)) rfl (pa_cons (pe_cal C_formed_rows (hr.mono (by decide)) rfl (pa_cons (pv 3) (pa_cons (pv 0) (pa_cons (pv 2) pa_nil)))) pa_nil)) (pg_tup rfl (pgs_cons (pg_name (i := 4) sc_read_rows.nd rfl (by first | exact Or.inl rfl | exact Or.inr rfl)) (pgs_cons (pg_name (i := 5) sc_read_rows.nd rfl (by first | exact Or.inl rfl | exact Or.inr rfl)) pgs_nil))))
      (pss_cons (ps_asg (pe_cal C_used_rows (hr.mono (by decide)) rfl (pa_cons (pv 4) pa_nil)) (pg_tup rfl (pgs_cons (pg_name (i := 6) sc_read_rows.nd rfl (by first | exact Or.inl rfl | exact Or.inr rfl)) (pgs_cons (pg_name (i := 7) sc_read_rows.nd rfl (by first | exact Or.inl rfl | exact Or.inr rfl)) pgs_nil))))
      (pss_cons (ps_if (pt_cmpR op_lt (pv 6) (pe_callB call_len (by rfl) T.f_len PySem.boot_len (pa_cons (pv 3) pa_nil)) (nomark _)) (pss_one ps_never) pss_nil)
      (pss_cons (ps_if (pt_truth (pv 5) (by intro _; rfl)) (pss_one ps_never) pss_nil)
      (pss_one (ps_ret (pe_tup (pa_cons (pv 4) (pa_cons (pv 7) pa_nil)))))))))), ?_⟩
  refine ⟨_, rfl, ls.map PL.Ln.text, rfl, fun x hx => ?_, by omega, fun la H1 hla s1 h1 => ?_⟩
  · obtain ⟨l, hl, rfl⟩ := List.mem_map.mp hx
    exact text_line nm (lk.ok l hl)
  rw [List.map_map] at h1
  refine ⟨_, rfl, _, rfl, _, rfl, la, a, ps, ls, fv, rfl, SqL.of h1, s1.tup hT, nm, lk.ok, lk.n40, fun q rs H2 s2 hq h2 rw2 => ?_⟩
  refine ⟨q, ps, ls, rs, [], rfl, h2, rw2, lk.ne, lk.n40, lk.pl, fun r al H3 s3 hal hr h3 h3a => ?_⟩
  refine ⟨r, _, rfl, SqT.of h3, rfl, _, _, rfl, _, _, rfl, rfl, ?_⟩
  have h3q := s3 _ _ h2
  have rw3 := RowsAt.same s3 rw2
  have hl3 := s3 _ _ (s2 _ _ h1)
  refine ⟨_, rfl, q, ps, ls, rs, wds, rfl, h3q, rw3, lk.n40, lk.us, fun r2 wa H4 s4 hr2 hwa h4 w4 => ?_⟩
  refine ⟨r2, _, rfl, SqT.of h4, rfl, _, _, rfl, _, _, rfl, rfl, ?_⟩
  have hl4 := s4 _ _ hl3
  refine ⟨_, rfl, _, rfl, _, _, rfl, .inl ⟨_, SqL.of hl4, rfl⟩, _, _, rfl, rfl, _, rfl, ite2 (fun c => absurd (of_decide_eq_true c) (by rw [List.length_map]; omega)) (fun _ => ?_)⟩
  refine ⟨_, rfl, false, .inl ⟨_, SqL.of (s4 _ _ h3a), rfl⟩, iteF ?_⟩
  refine ⟨_, rfl, _, rfl, by show 2 ≤ sizeLine; decide, fun p hp => ?_⟩
  have s5 := Same.new (o := .tup [.ref q, .ref wa]) hp
  have s05 := (s1.trans s2).trans (s3.trans (s4.trans s5))
  exact k p q wa rs _ s05 upd_same (s5 _ _ (s4 _ _ h3q)) (RowsAt.same (s4.trans s5) rw3) (w4.same s5)

end
end K18
end
section
set_option Elab.async false
set_option linter.all false
set_option maxRecDepth 100000
set_option maxHeartbeats 4000000
namespace K18
open PySem PySem.Spec PyProof.Rows L2
open PySem.W (ke_shaped_ints)
local macro_rules | `(tactic| walk_at "go") => `(tactic| first | refine ⟨_, rfl, ?_⟩ | refine .inl ⟨_, rfl, ?_⟩ | refine ⟨_, _, rfl, rfl, (by first | (show (0 : Int) < _; decide) | exact Or.inl ⟨by decide, by decide⟩ | exact Or.inr ⟨by decide, by decide⟩), ?_⟩ | refine ⟨_, _, rfl, rfl, ?_⟩)
section
variable {P : Program} {w : World} {K : PySem.W.Frag} {mg : Str → Option Value} {base : Heap}
def lfields (v1 v2 v3 v4 v5 v6 v7 : V) : List (Str × V) := [("number", v1), ("word", v2), ("told", v3), ("source", v4), ("target", v5), ("inner", v6), ("other", v7)]
structure LineC (K : PySem.W.Frag) (C : Addr) : Prop where
  cl : Cls K C
  n_number : NoAttr K C "number"
  n_word : NoAttr K C "word"
  n_told : NoAttr K C "told"
  n_source : NoAttr K C "source"
  n_target : NoAttr K C "target"
  n_inner : NoAttr K C "inner"
  n_other : NoAttr K C "other"
def spLineInit (C : Addr) : Sp := fun vs H Q _ => ∃ (o dx : Addr) (v1 v2 v3 v4 v5 v6 v7 : V), vs = [.ref o, v1, v2, v3, v4, v5, v6, v7] ∧ H o = some (.ins C dx []) ∧ ∀ H', But o H H' → H' o = some (.ins C dx (lfields v1 v2 v3 v4 v5 v6 v7)) → Q .non H'
abbrev s_Line___init__ : Stmt := inClass (topS 62) 0
theorem sc_Line___init__ : FnScope ["self", "number", "word", "told", "source", "target", "inner", "other"] ["self", "number", "word", "told", "source", "target", "inner", "other"] (defScope s_Line___init__) := ⟨rfl, rfl, rfl, by decide +kernel, rfl, by decide +kernel, by decide +kernel⟩
theorem ok_line_init {C f : Addr} {fd : FuncData} (LC : LineC K C) (F : FunD K "__init__" "Line.__init__" (defArgs s_Line___init__) (defBody s_Line___init__) (defScope s_Line___init__) [] [] f fd) : FnOk P w K mg base CX0 1 f fd ["self", "number", "word", "told", "source", "target", "inner", "other"] (spLineInit C) := by
  refine F.ok sc_Line___init__ (fun vs H Q E h => by obtain ⟨o, dx, v1, v2, v3, v4, v5, v6, v7, rfl, _⟩ := h; rfl) (fun cdv A outer s H vs Q E hr h => ?_)
  suffices z : ∃ t, PSs (cxOf CX0 P w K mg base ["self", "number", "word", "told", "source", "target", "inner", "other"] "Line.__init__" (defScope s_Line___init__) f cdv A outer s H E).nox (defBody s_Line___init__) t ∧ t { nx := fun _ H' => Q .non H', rt := Q } (start ["self", "number", "word", "told", "source", "target", "inner", "other"] vs) H by
    obtain ⟨t, h1, h2⟩ := z
    exact ⟨t, h1.nox, h2⟩
  obtain ⟨o, dx, v1, v2, v3, v4, v5, v6, v7, rfl, ho, k⟩ := h
  refine ⟨_, (pss_cons (ps_fld (pv 0) (pv 1) rfl)
      (pss_cons (ps_fld (pv 0) (pv 2) rfl)
      (pss_cons (ps_fld (pv 0) (pv 3) rfl)
      (pss_cons (ps_fld (pv 0) (pv 4) rfl)
      (pss_cons (ps_fld (pv 0) (pv 5) rfl)
      (pss_cons (ps_fld (pv 0) (pv 6) rfl)
      (pss_one (ps_fld (pv 0) (pv 7) rfl)))))))), ?_⟩
  have lt : ∀ (l : List (Str × V)), l.length ≤ 8 → l.length < 1000 := fun l h => by omega
  refine ⟨_, rfl, _, rfl, o, C, dx, _, rfl, ho, LC.cl, LC.n_number, lt _ (Nat.le_of_ble_eq_true rfl), ?_⟩
  refine ⟨_, rfl, _, rfl, o, C, dx, _, rfl, upd_same, LC.cl, LC.n_word, lt _ (Nat.le_of_ble_eq_true rfl), ?_⟩
  refine ⟨_, rfl, _, rfl, o, C, dx, _, rfl, upd_same, LC.cl, LC.n_told, lt _ (Nat.le_of_ble_eq_true rfl), ?_⟩
  refine ⟨_, rfl, _, rfl, o, C, dx, _, rfl, upd_same, LC.cl, LC.n_source, lt _ (Nat.le_of_ble_eq_true rfl), ?_⟩
  refine ⟨_, rfl, _, rfl, o, C, dx, _, rfl, upd_same, LC.cl, LC.n_target, lt _ (Nat.le_of_ble_eq_true rfl), ?_⟩
  refine ⟨_, rfl, _, rfl, o, C, dx, _, rfl, upd_same, LC.cl, LC.n_inner, lt _ (Nat.le_of_ble_eq_true rfl), ?_⟩
  refine ⟨_, rfl, _, rfl, o, C, dx, _, rfl, upd_same, LC.cl, LC.n_other, lt _ (Nat.le_of_ble_eq_true rfl), ?_⟩
  refine k _ ?_ upd_same
  exact ((((((But.upd _).trans (But.upd _)).trans (But.upd _)).trans (But.upd _)).trans (But.upd _)).trans (But.upd _)).trans (But.upd _)


/-- a row of cells, or nothing -/
def SpanV (H : Hp) (v : V) : Prop := v = .non ∨ ∃ (r : Addr) (i k n : Int), v = .ref r ∧ H r = some (.tup [.int i, .int k, .int n])
theorem SpanV.same {H H' : Hp} {v : V} (h : SpanV H v) (s : Same H H') : SpanV H' v := by
  rcases h with h | ⟨r, i, k, n, a, b⟩
  · exact .inl h
  · exact .inr ⟨r, i, k, n, a, s _ _ b⟩
/-- what a line tells, as far as its cells go -/
inductive LT (H : Hp) (wds : Str → Option Int) : Str → List V → Prop
  | copy {wd : Str} {n i1 k1 i2 k2 : Int} {r1 r2 : Addr} : wd ∈ PL.Copying → H r1 = some (.tup [.int i1, .int k1]) → H r2 = some (.tup [.int i2, .int k2]) → LT H wds wd [.int n, .ref r1, .ref r2]
  | store {x : Str} {r : Addr} {i k n : Int} : H r = some (.tup [.int i, .int k]) → wds x = some n → LT H wds "store" [.str x, .ref r]
  | step {i n : Int} : LT H wds "step" [.int i, .int n]
  | rest {wd : Str} {vs : List V} : wd ∈ (["input", "set", "give"] : List Str) → LT H wds wd vs
theorem LT.same {H H' : Hp} {wds : Str → Option Int} {wd : Str} {vs : List V} (h : LT H wds wd vs) (s : Same H H') : LT H' wds wd vs := by
  cases h with
  | copy h1 h2 h3 => exact .copy h1 (s _ _ h2) (s _ _ h3)
  | store h1 h2 => exact .store (s _ _ h1) h2
  | step => exact .step
  | rest h => exact .rest h
theorem LT.word {H : Hp} {wds : Str → Option Int} {wd : Str} {vs : List V} (h : LT H wds wd vs) : wd ≠ "load" ∧ wd ≠ "fill" ∧ wd ≠ "times" ∧ wd ≠ "when" ∧ wd ≠ "call" ∧ wd ≠ "else" ∧ wd ≠ "end" ∧ wd ∉ PL.Opening := by
  cases h with
  | copy h1 _ _ =>
    simp only [PL.Copying, List.mem_cons, List.not_mem_nil, or_false] at h1
    rcases h1 with rfl | rfl | rfl <;> decide +kernel
  | store _ _ => decide +kernel
  | step => decide +kernel
  | rest h =>
    simp only [List.mem_cons, List.not_mem_nil, or_false] at h
    rcases h with rfl | rfl | rfl <;> decide +kernel
/-- source_of(word, told) -/
def spSourceOf (K : PySem.W.Frag) : Sp := fun vs H Q _ => ∃ (wd : Str) (t : Addr) (tv : List V) (wds : Str → Option Int), vs = [.str wd, .ref t] ∧ SqT K H t tv ∧ LT H wds wd tv ∧ ∀ v H', Same H H' → SpanV H' v → Q v H'
abbrev s_source_of : Stmt := topS 64
theorem sc_source_of : FnScope ["word", "told"] ["word", "told"] (defScope s_source_of) := ⟨rfl, rfl, rfl, by decide +kernel, rfl, by decide +kernel, by decide +kernel⟩
theorem ok_source_of (T : TxtP K mg) (Tq : PL.TxtQ K w mg) (D : Def K mg "source_of" s_source_of) : Cal P w K mg base 1 "source_of" ["word", "told"] (spSourceOf K) := by
  refine D.cal sc_source_of (fun vs H Q E h => ?_) (fun _ _ _ _ _ _ us hl => match us, hl with | [_, _], _ => rfl) (fun f cdv A outer s H vs Q E hr h => ?_)
  · obtain ⟨wd, t, tv, wds, rfl, _⟩ := h
    rfl
  have hu := hu_of hr

  obtain ⟨wd, t, tv, wds, rfl, hT, lt, k⟩ := h
  obtain ⟨n1, n2, n3, n4, n5, n6, n7, n8⟩ := lt.word
  refine ⟨_, (pss_cons (ps_if (pt_cmpR op_eq (pv 0) pe_str (nomark _)) (pss_one (ps_ret (pe_op op_catT (pe_ix ix_tup (pv 1) pe_int (fun _ _ => rfl)) (pe_tup (pa_cons (pe_ix ix_tup (pv 1) pe_int (fun _ _ => rfl)) pa_nil))))) pss_nil)
      (pss_one (ps_ret (pe_ifExp (pt_cmpR op_in_seq (pv 0) (pe_gref (by rfl) Tq.g_COPYING) (by rfl)) (pe_op op_catT (pe_ix ix_tup (pv 1) pe_int (fun _ _ => rfl)) (pe_tup (pa_cons (pe_ix ix_tup (pv 1) pe_int (fun _ _ => rfl)) pa_nil))) pe_non)))), ?_⟩
  refine ⟨_, rfl, rfl, _, rfl, ite2 (fun c => absurd (V.str.inj (of_decide_eq_true c)) n1) (fun _ => ?_)⟩
  refine ⟨_, rfl, _, _, rfl, .inr (Tq.t_COPYING _), rfl, CF.flat_strs _, _, rfl, ?_⟩
  rw [if_neg (by decide), CF.inV_strs]
  cases lt with
  | @copy _ n i1 k1 i2 k2 r1 r2 h1 h2 h3 =>
    rw [decide_eq_true h1]
    refine iteT ⟨_, rfl, t, _, _, _, rfl, rfl, hT, atI_nat (j := 1) rfl, ?_⟩
    refine ⟨_, rfl, t, _, _, _, rfl, rfl, hT, atI_nat (j := 0) rfl, by show 1 ≤ sizeLine; decide, fun p hp => ?_⟩
    have h2' := Same.new (o := .tup [.int n]) hp _ _ h2
    refine ⟨r1, p, _, _, rfl, rfl, SqT.of h2', SqT.of upd_same, by simp, by show 3 ≤ sizeLine; decide, (fun z => nomatch z), fun _ q hq => ?_⟩
    exact k _ _ ((Same.new hp).trans (Same.new hq)) (.inr ⟨q, i1, k1, n, rfl, upd_same⟩)
  | store _ _ => exact iteF (k _ _ (Same.refl _) (.inl rfl))
  | step => exact iteF (k _ _ (Same.refl _) (.inl rfl))
  | rest h =>
    simp only [List.mem_cons, List.not_mem_nil, or_false] at h
    rcases h with rfl | rfl | rfl <;> exact iteF (k _ _ (Same.refl _) (.inl rfl))



/-- target_of(word, told, widths) -/
def spTargetOf (K : PySem.W.Frag) : Sp := fun vs H Q _ => ∃ (wd : Str) (t wa : Addr) (tv : List V) (wds : Str → Option Int), vs = [.str wd, .ref t, .ref wa] ∧ SqT K H t tv ∧ Wid H wa wds ∧ LT H wds wd tv ∧ ∀ v H', Same H H' → SpanV H' v → Q v H'
abbrev s_target_of : Stmt := topS 65
theorem sc_target_of : FnScope ["word", "told", "widths"] ["word", "told", "widths"] (defScope s_target_of) := ⟨rfl, rfl, rfl, by decide +kernel, rfl, by decide +kernel, by decide +kernel⟩
theorem ok_target_of (T : TxtP K mg) (Tq : PL.TxtQ K w mg) (D : Def K mg "target_of" s_target_of) : Cal P w K mg base 1 "target_of" ["word", "told", "widths"] (spTargetOf K) := by
  refine D.cal sc_target_of (fun vs H Q E h => ?_) (fun _ _ _ _ _ _ us hl => match us, hl with | [_, _, _], _ => rfl) (fun f cdv A outer s H vs Q E hr h => ?_)
  · obtain ⟨wd, t, wa, tv, wds, rfl, _⟩ := h
    rfl
  have hu := hu_of hr

  obtain ⟨wd, t, wa, tv, wds, rfl, hT, hW, lt, k⟩ := h
  obtain ⟨n1, n2, n3, n4, n5, n6, n7, n8⟩ := lt.word
  obtain ⟨kvs, k1, k2, k3⟩ := hW
  refine ⟨_, (pss_cons (ps_if (pt_cmpR op_eq (pv 0) pe_str (nomark _)) (pss_one (ps_ret (pe_op op_catT (pe_ix ix_tup (pv 1) pe_int (fun _ _ => rfl)) (pe_tup (pa_cons (pe_dget hu (pv 2) (pe_ix ix_tup (pv 1) pe_int (fun _ _ => rfl)) (fun _ _ => rfl)) pa_nil))))) pss_nil)
      (pss_one (ps_ret (pe_ifExp (PW.pt (pw_or (pt_cmpR op_in_seq (pv 0) (pe_gref (by rfl) Tq.g_COPYING) (by rfl)) (pw_or1 (pt_cmpR op_eq (pv 0) pe_str (nomark _))))) (pe_op op_catT (pe_ix ix_tup (pv 1) pe_int (fun _ _ => rfl)) (pe_tup (pa_cons (pe_ix ix_tup (pv 1) pe_int (fun _ _ => rfl)) pa_nil))) pe_non)))), ?_⟩
  cases lt with
  | @copy _ n i1 j1 i2 j2 r1 r2 h1 h2 h3 =>
    have ns : wd ≠ "store" := by
      simp only [PL.Copying, List.mem_cons, List.not_mem_nil, or_false] at h1
      rcases h1 with rfl | rfl | rfl <;> decide +kernel
    refine ⟨_, rfl, rfl, _, rfl, ite2 (fun c => absurd (V.str.inj (of_decide_eq_true c)) ns) (fun _ => ?_)⟩
    refine ⟨_, rfl, _, _, rfl, .inr (Tq.t_COPYING _), rfl, CF.flat_strs _, _, rfl, ?_⟩
    rw [if_neg (by decide), CF.inV_strs, decide_eq_true h1]
    refine iteT ?_
    refine ⟨_, rfl, t, _, _, _, rfl, rfl, hT, atI_nat (j := 2) rfl, ?_⟩
    refine ⟨_, rfl, t, _, _, _, rfl, rfl, hT, atI_nat (j := 0) rfl, by show 1 ≤ sizeLine; decide, fun p hp => ?_⟩
    have h3' := Same.new (o := .tup [.int n]) hp _ _ h3
    refine ⟨r2, p, _, _, rfl, rfl, SqT.of h3', SqT.of upd_same, by simp, by show 3 ≤ sizeLine; decide, (fun z => nomatch z), fun _ q hq => ?_⟩
    exact k _ _ ((Same.new hp).trans (Same.new hq)) (.inr ⟨q, i2, j2, n, rfl, upd_same⟩)
  | @store x r i j n h1 h2 =>
    refine ⟨_, rfl, rfl, _, rfl, ite2 (fun _ => ?_) (fun c => absurd (decide_eq_true rfl) c)⟩
    refine ⟨_, rfl, t, _, _, _, rfl, rfl, hT, atI_nat (j := 1) rfl, ?_⟩
    refine ⟨_, rfl, _, rfl, t, _, _, _, rfl, rfl, hT, atI_nat (j := 0) rfl, wa, .int n, rfl, ?_, by show 1 ≤ sizeLine; decide, fun p hp => ?_⟩
    · have := DGet.k (k := Sum.inr x) k1
      rw [k3, h2] at this
      exact this
    have h1' := Same.new (o := .tup [.int n]) hp _ _ h1
    refine ⟨r, p, _, _, rfl, rfl, SqT.of h1', SqT.of upd_same, by simp, by show 3 ≤ sizeLine; decide, (fun z => nomatch z), fun _ q hq => ?_⟩
    exact k _ _ ((Same.new hp).trans (Same.new hq)) (.inr ⟨q, i, j, n, rfl, upd_same⟩)
  | step =>
    refine ⟨_, rfl, rfl, _, rfl, ite2 (fun c => absurd (of_decide_eq_true c) (by decide)) (fun _ => ?_)⟩
    refine ⟨_, rfl, _, _, rfl, .inr (Tq.t_COPYING _), rfl, CF.flat_strs _, _, rfl, ?_⟩
    rw [if_neg (by decide), CF.inV_strs]
    refine iteF ⟨_, rfl, rfl, _, rfl, ite2 (fun c => absurd (of_decide_eq_true c) (by decide)) (fun _ => ?_)⟩
    exact k _ _ (Same.refl _) (.inl rfl)
  | rest h =>
    simp only [List.mem_cons, List.not_mem_nil, or_false] at h
    rcases h with rfl | rfl | rfl
    all_goals
      refine ⟨_, rfl, rfl, _, rfl, ite2 (fun c => absurd (of_decide_eq_true c) (by decide)) (fun _ => ?_)⟩
      refine ⟨_, rfl, _, _, rfl, .inr (Tq.t_COPYING _), rfl, CF.flat_strs _, _, rfl, ?_⟩
      rw [if_neg (by decide), CF.inV_strs]
      refine iteF ⟨_, rfl, rfl, _, rfl, ite2 (fun c => absurd (of_decide_eq_true c) (by decide)) (fun _ => ?_)⟩
      exact k _ _ (Same.refl _) (.inl rfl)

end
end K18
end
section
set_option Elab.async false
set_option linter.all false
set_option maxRecDepth 100000
set_option maxHeartbeats 4000000
namespace K18
open PySem PySem.Spec PyProof.Rows L2
open PySem.W (ke_shaped_ints)
local macro_rules | `(tactic| walk_at "go") => `(tactic| first | refine ⟨_, rfl, ?_⟩ | refine .inl ⟨_, rfl, ?_⟩ | refine ⟨_, _, rfl, rfl, (by first | (show (0 : Int) < _; decide) | exact Or.inl ⟨by decide, by decide⟩ | exact Or.inr ⟨by decide, by decide⟩), ?_⟩ | refine ⟨_, _, rfl, rfl, ?_⟩)
section
variable {P : Program} {w : World} {K : PySem.W.Frag} {mg : Str → Option Value} {base : Heap}

theorem made_same {H1 H' : Hp} {x dx : Addr} {o1 o2 : HO} (hx : H1 x = none) (hdx : H1 dx = none) (b : But x (upd (upd H1 dx o1) x o2) H') : Same H1 H' := fun c u e => b _ _ (ne_of_none e hx) ((upd_ne (ne_of_none e hx)).trans ((upd_ne (ne_of_none e hdx)).trans e))
theorem made_tup {K : PySem.W.Frag} {H1 : Hp} {x dx a : Addr} {o1 o2 : HO} {xs : List V} (hx : H1 x = none) (hdx : H1 dx = none) (h : SqT K H1 a xs) : SqT K (upd (upd H1 dx o1) x o2) a xs := (made_same hx hdx (But.refl x _)).tup h
/-- a line object -/
def LineAt (C : Addr) (H : Hp) (o : Addr) : Prop := ∃ (dx t : Addr) (tv : List V) (wds : Str → Option Int) (wd : Str) (n src tgt inn oth : V), H o = some (.ins C dx (lfields n (.str wd) (.ref t) src tgt inn oth)) ∧ H t = some (.tup tv) ∧ LT H wds wd tv ∧ SpanV H src ∧ SpanV H tgt
theorem LineAt.same {C : Addr} {H H' : Hp} {o : Addr} (h : LineAt C H o) (s : Same H H') : LineAt C H' o := by
  obtain ⟨dx, t, tv, wds, wd, n, src, tgt, inn, oth, h1, h2, h3, h4, h5⟩ := h
  exact ⟨dx, t, tv, wds, wd, n, src, tgt, inn, oth, s _ _ h1, s _ _ h2, h3.same s, h4.same s, h5.same s⟩
theorem SpanV.put {H : Hp} {v : V} {p : Addr} {xs : List V} {o : HO} (h : SpanV H v) (hp : H p = some (.lst xs)) : SpanV (upd H p o) v := by
  rcases h with h | ⟨r, i, k, n, a, b⟩
  · exact .inl h
  · exact .inr ⟨r, i, k, n, a, by rw [upd_ne (ne_of b hp (by intro z; cases z))]; exact b⟩
theorem LT.put {H : Hp} {wds : Str → Option Int} {wd : Str} {tv : List V} {p : Addr} {xs : List V} {o : HO} (h : LT H wds wd tv) (hp : H p = some (.lst xs)) : LT (upd H p o) wds wd tv := by
  have z : ∀ {a : Addr} {ys : List V}, H a = some (.tup ys) → upd H p o a = some (.tup ys) := fun {a ys} e => by rw [upd_ne (ne_of e hp (by intro z; cases z))]; exact e
  cases h with
  | copy h1 h2 h3 => exact .copy h1 (z h2) (z h3)
  | store h1 h2 => exact .store (z h1) h2
  | step => exact .step
  | rest h => exact .rest h
theorem LineAt.put {C : Addr} {H : Hp} {o p : Addr} {xs : List V} {u : HO} (h : LineAt C H o) (hp : H p = some (.lst xs)) : LineAt C (upd H p u) o := by
  obtain ⟨dx, t, tv, wds, wd, n, src, tgt, inn, oth, h1, h2, h3, h4, h5⟩ := h
  refine ⟨dx, t, tv, wds, wd, n, src, tgt, inn, oth, ?_, ?_, h3.put hp, h4.put hp, h5.put hp⟩
  · rw [upd_ne (ne_of h1 hp (by intro z; cases z))]; exact h1
  · rw [upd_ne (ne_of h2 hp (by intro z; cases z))]; exact h2
/-- the rows of lines that a block can be made of -/
def RowsLT (H : Hp) (wds : Str → Option Int) (rs : List Addr) : Prop := ∀ (i : Nat) (r : Addr), rs[i]? = some r → ∃ (wd : Str) (t : Addr) (tv : List V), H r = some (.tup [.str wd, .ref t]) ∧ H t = some (.tup tv) ∧ LT H wds wd tv
theorem RowsLT.same {H H' : Hp} {wds : Str → Option Int} {rs : List Addr} (h : RowsLT H wds rs) (s : Same H H') : RowsLT H' wds rs := fun i r e => by
  obtain ⟨wd, t, tv, a, b, c⟩ := h i r e
  exact ⟨wd, t, tv, s _ _ a, s _ _ b, c.same s⟩
/-- block_of(rows, widths, 0) of lines without blocks -/
def spBlockOf (K : PySem.W.Frag) (C : Addr) : Sp := fun vs H Q _ => ∃ (rl wa : Addr) (rs : List Addr) (wds : Str → Option Int), vs = [.ref rl, .ref wa, .int 0] ∧ H rl = some (.lst (rs.map V.ref)) ∧ rs.length ≤ 40 ∧ Wid H wa wds ∧ RowsLT H wds rs ∧
  ∀ (r bt : Addr) (bs : List Addr) (H' : Hp), Same H H' → H' r = some (.tup [.ref bt, .int (rs.length : Nat)]) → H' bt = some (.tup (bs.map V.ref)) → bs.length = rs.length → (∀ o ∈ bs, LineAt C H' o) → Q (.ref r) H'
abbrev s_block_of : Stmt := topS 63
theorem sc_block_of : FnScope ["rows", "widths", "index", "block", "word", "told", "inner", "other", "behind", "source", "target"] ["rows", "widths", "index"] (defScope s_block_of) := ⟨rfl, rfl, rfl, by decide +kernel, rfl, by decide +kernel, by decide +kernel⟩
theorem ok_block_of (T : TxtP K mg) (Tq : PL.TxtQ K w mg) (D : Def K mg "block_of" s_block_of) {C : Addr} (C_source_of : Cal P w K mg base 1 "source_of" ["word", "told"] (spSourceOf K)) (C_target_of : Cal P w K mg base 1 "target_of" ["word", "told", "widths"] (spTargetOf K)) (M_Line : Mkc P w K mg base 1 "Line" C ["self", "number", "word", "told", "source", "target", "inner", "other"] (spLineInit C)) : Cal P w K mg base 3 "block_of" ["rows", "widths", "index"] (spBlockOf K C) := by
  refine D.cal sc_block_of (fun vs H Q E h => ?_) (fun _ _ _ _ _ _ us hl => match us, hl with | [_, _, _], _ => rfl) (fun f cdv A outer s H vs Q E hr h => ?_)
  · obtain ⟨rl, wa, rs, wds, rfl, _⟩ := h
    rfl
  have hu := hu_of hr

  obtain ⟨rl, wa, rs, wds, rfl, hR, n40, hW, lt, k⟩ := h
  have big : sizeLine = 16777216 := sizeLine_eq
  refine ⟨_, (pss_cons (ps_set (i := 3) sc_block_of.nd rfl (by first | exact Or.inl rfl | exact Or.inr rfl) (pe_lst pa_nil))
      (pss_cons (ps_while PassesOwn.never (PW.pt (pw_and (pt_cmpR op_lt (pv 2) (pe_callB call_len (by rfl) T.f_len PySem.boot_len (pa_cons (pv 0) pa_nil)) (nomark _)) (pw_and1 (pt_cmpR op_notIn_seq (pe_ix ix_tup (pe_ix ix_list (pv 0) (pv 2) (fun _ _ => rfl)) pe_int (fun _ _ => rfl)) (pe_tup (pa_cons pe_str (pa_cons pe_str pa_nil))) (by rfl))))) (pss_cons (ps_asg (pe_ix ix_list (pv 0) (pv 2) (fun _ _ => rfl)) (pg_tup rfl (pgs_cons (pg_name (i := 4) sc_block_of.nd rfl (by first | exact Or.inl rfl | exact Or.inr rfl)) (pgs_cons (pg_name (i := 5) sc_block_of.nd rfl (by first | exact Or.inl rfl | exact Or.inr rfl)) pgs_nil))))
      (pss_cons (ps_par3 (i := 6) (j := 7) (l := 8) (by rfl) sc_block_of.nd rfl rfl rfl (by decide) (by decide) (by decide) rfl rfl rfl (pa_cons (pe_tup pa_nil) (pa_cons (pe_tup pa_nil) (pa_cons (pv 2) pa_nil))) (by rfl))
      (C8.pss_cut (ps_if (pt_cmpR op_in_seq (pv 4) (pe_gref (by rfl) Tq.g_OPENING) (by rfl)) (pss_cons (ps_asg PL.pe_never (pg_tup rfl (pgs_cons (pg_name (i := 6) sc_block_of.nd rfl (by first | exact Or.inl rfl | exact Or.inr rfl)) (pgs_cons (pg_name (i := 8) sc_block_of.nd rfl (by first | exact Or.inl rfl | exact Or.inr rfl)) pgs_nil))))
      (pss_one (ps_if (pt_cmpR op_eq (pe_ix ix_tup (pe_ix ix_list (pv 0) (pv 8) (fun _ _ => rfl)) pe_int (fun _ _ => rfl)) pe_str (nomark _)) (pss_one (ps_asg PL.pe_never (pg_tup rfl (pgs_cons (pg_name (i := 7) sc_block_of.nd rfl (by first | exact Or.inl rfl | exact Or.inr rfl)) (pgs_cons (pg_name (i := 8) sc_block_of.nd rfl (by first | exact Or.inl rfl | exact Or.inr rfl)) pgs_nil))))) pss_nil))) pss_nil)
      (pss_cons (ps_par (i := 9) (j := 10) (by rfl) sc_block_of.nd rfl rfl (by decide) rfl rfl (pa_cons (pe_cal C_source_of (hr.mono (by decide)) rfl (pa_cons (pv 4) (pa_cons (pv 5) pa_nil))) (pa_cons (pe_cal C_target_of (hr.mono (by decide)) rfl (pa_cons (pv 4) (pa_cons (pv 5) (pa_cons (pv 1) pa_nil)))) pa_nil)) (by rfl))
      (pss_cons (ps_expr (pe_bm PySem.F.plainAttrs_list PySem.F.slot_list_append PySem.F.type_list_append mt_append (pv 3) (pa_cons (pe_mkc M_Line (hr.mono (by decide)) rfl (pa_cons (pe_op op_add (pv 2) pe_int) (pa_cons (pv 4) (pa_cons (pv 5) (pa_cons (pv 9) (pa_cons (pv 10) (pa_cons (pv 6) (pa_cons (pv 7) pa_nil)))))))) pa_nil)))
      (pss_one (ps_set (i := 2) sc_block_of.nd rfl (by first | exact Or.inl rfl | exact Or.inr rfl) (pe_op op_add (pv 8) pe_int)))))))))
      (pss_one (ps_ret (pe_tup (pa_cons (pe_callTy call_tuple_of (by rfl) T.f_tuple (by decide +kernel) (pa_cons (pv 3) pa_nil)) (pa_cons (pv 2) pa_nil))))))), ?_⟩
  refine ⟨by show 0 ≤ sizeLine; decide, fun bl hbl => ?_⟩
  have s1 := Same.new (o := .lst []) hbl
  have h1 : upd H bl (.lst []) bl = some (.lst []) := upd_same
  generalize upd H bl (.lst []) = H1 at s1 h1 ⊢
  refine ⟨fun m σ H' => ∃ (i : Nat) (v4 v5 v6 v7 v8 v9 v10 : Option V) (bs : List Addr), m = rs.length - i ∧ i ≤ rs.length ∧ σ = [some (.ref rl), some (.ref wa), some (.int (i : Nat)), some (.ref bl), v4, v5, v6, v7, v8, v9, v10] ∧ Same H H' ∧ H' bl = some (.lst (bs.map V.ref)) ∧ bs.length = i ∧ ∀ o ∈ bs, LineAt C H' o,
    ⟨_, 0, none, none, none, none, none, none, none, [], rfl, Nat.zero_le _, rfl, s1, h1, rfl, by simp⟩, ?_⟩
  rintro m σ H2 ⟨i, v4, v5, v6, v7, v8, v9, v10, bs, rfl, hi, rfl, s2, h2, bi, la⟩
  have hR2 := s2 _ _ hR
  refine ⟨_, rfl, _, rfl, _, _, rfl, .inl ⟨_, SqL.of hR2, rfl⟩, _, _, rfl, rfl, _, rfl, ite2 (fun c => ?_) (fun c => ?_)⟩
  · have il : i < rs.length := by
      have := of_decide_eq_true c
      rw [List.length_map] at this
      omega
    have hr : rs[i]? = some rs[i] := List.getElem?_eq_getElem il
    generalize rs[i] = r at hr
    have hr' : (rs.map V.ref)[i]? = some (.ref r) := by rw [List.getElem?_map, hr]; rfl
    obtain ⟨wd, t, tv, g1, g2, g3⟩ := lt.same s2 i r hr
    obtain ⟨n1, n2, n3, n4, n5, n6, n7, n8⟩ := g3.word
    refine ⟨_, rfl, _, rfl, rl, _, _, _, rfl, rfl, SqL.of hR2, atI_nat hr', ?_⟩
    refine ⟨r, _, _, _, rfl, rfl, SqT.of g1, atI_nat (j := 0) rfl, by show 2 ≤ sizeLine; decide, fun p hp => ?_⟩
    refine ⟨p, [.str "else", .str "end"], rfl, .inr (SqT.of upd_same), rfl, CF.flat_strs ["else", "end"], _, rfl, ?_⟩
    show if _ then _ else _
    rw [if_pos rfl]
    have e : inV (.str wd) [.str "else", .str "end"] = false := by
      rw [show ([.str "else", .str "end"] : List V) = (["else", "end"] : List Str).map V.str from rfl, CF.inV_strs]
      exact decide_eq_false (by simp only [List.mem_cons, List.not_mem_nil, or_false]; exact fun z => z.elim n6 n7)
    rw [e]
    have sp := Same.new (o := .tup [.str "else", .str "end"]) hp
    have s3 := s2.trans sp
    have h3 := sp _ _ h2
    have la3 : ∀ o ∈ bs, LineAt C (upd H2 p (.tup [.str "else", .str "end"])) o := fun o ho => (la o ho).same sp
    have g1' := sp _ _ g1
    have g2' := sp _ _ g2
    have g3' := g3.same sp
    have hR3 := sp _ _ hR2
    generalize upd H2 p (.tup [.str "else", .str "end"]) = H3 at s3 h3 la3 g1' g2' g3' hR3 ⊢
    refine iteT ⟨fun σ' H' => ∃ (v4 v5 v6 v7 v8 v9 v10 : Option V) (bs : List Addr), σ' = [some (.ref rl), some (.ref wa), some (.int ((i + 1 : Nat) : Int)), some (.ref bl), v4, v5, v6, v7, v8, v9, v10] ∧ Same H H' ∧ H' bl = some (.lst (bs.map V.ref)) ∧ bs.length = i + 1 ∧ ∀ o ∈ bs, LineAt C H' o, ?_, ?_⟩
    · rintro σ' H' ⟨v4, v5, v6, v7, v8, v9, v10, bs, rfl, z1, z2, z3, z4⟩
      exact ⟨_, by omega, i + 1, v4, v5, v6, v7, v8, v9, v10, bs, rfl, il, rfl, z1, z2, z3, z4⟩
    refine ⟨_, rfl, _, rfl, rl, _, _, _, rfl, rfl, SqL.of hR3, atI_nat hr', ?_⟩
    refine ⟨r, _, rfl, SqT.of g1', rfl, _, _, rfl, _, _, rfl, rfl, ?_⟩
    refine ⟨by show 0 ≤ sizeLine; decide, fun ea hea => ⟨by show 0 ≤ sizeLine; decide, fun eb heb => ⟨_, rfl, _, _, _, rfl, ?_⟩⟩⟩
    have sq := (Same.new (o := .tup []) hea).trans (Same.new (o := .tup []) heb)
    have s4 := s3.trans sq
    have h4 := sq _ _ h3
    have la4 : ∀ o ∈ bs, LineAt C (upd (upd H3 ea (.tup [])) eb (.tup [])) o := fun o ho => (la3 o ho).same sq
    have g2b := sq _ _ g2'
    have g3b := g3'.same sq
    generalize upd (upd H3 ea (.tup [])) eb (.tup []) = H4 at s4 h4 la4 g2b g3b ⊢
    refine ⟨fun σ' H' => σ' = [some (.ref rl), some (.ref wa), some (.int (i : Nat)), some (.ref bl), some (.str wd), some (.ref t), some (.ref ea), some (.ref eb), some (.int (i : Nat)), v9, v10] ∧ H' = H4, ?_, ?_⟩
    · refine ⟨_, rfl, _, _, rfl, .inr (Tq.t_OPENING _), rfl, CF.flat_strs _, _, rfl, ?_⟩
      rw [if_neg (by decide), CF.inV_strs, decide_eq_false n8]
      exact iteF ⟨rfl, rfl⟩
    rintro σ' H' ⟨rfl, rfl⟩
    refine ⟨_, rfl, _, rfl, wd, t, tv, wds, rfl, SqT.of g2b, g3b, fun src H5 s5 sv5 => ?_⟩
    refine ⟨_, rfl, _, rfl, _, rfl, wd, t, wa, tv, wds, rfl, SqT.of (s5 _ _ g2b), hW.same (s4.trans s5), g3b.same s5, fun tgt H6 s6 tv6 => ⟨_, _, rfl, ?_⟩⟩
    have h6 := (s5.trans s6) _ _ h4
    refine ⟨_, rfl, .inl ⟨rfl, _, SqL.of h6⟩, ?_⟩
    refine ⟨_, rfl, _, _, rfl, rfl, _, rfl, _, rfl, _, rfl, _, rfl, _, rfl, _, rfl, fun x dx hx hdx ne => ?_⟩
    refine ⟨x, dx, _, _, _, _, _, _, _, rfl, upd_same, fun H7 but ho => ⟨rfl, ?_⟩⟩
    have s7 := made_same hx hdx but
    have s57 := (s5.trans s6).trans s7
    have h7 := s57 _ _ h4
    refine ⟨bl, _, _, rfl, rfl, h7, ?_, _, rfl, _, _, rfl, rfl, _, _, _, _, _, _, _, bs ++ [x], rfl, ?_, ?_, ?_, ?_⟩
    · rw [List.length_map]; omega
    · exact same_put (s4.trans s57) hbl h7
    · rw [List.map_append]; exact upd_same
    · rw [List.length_append, List.length_singleton, bi]
    · intro o ho2
      rcases List.mem_append.mp ho2 with ho2 | ho2
      · exact ((la4 o ho2).same s57).put h7
      · rw [List.mem_singleton.mp ho2]
        refine LineAt.put ?_ h7
        exact ⟨dx, t, tv, wds, wd, _, src, tgt, _, _, ho, s57 _ _ g2b, g3b.same s57, (sv5.same s6).same s7, tv6.same s7⟩
  · have e : i = rs.length := by
      have : ¬ ((i : Nat) : Int) < ((rs.map V.ref).length : Nat) := fun z => c (decide_eq_true z)
      rw [List.length_map] at this
      omega
    refine ⟨_, rfl, bl, _, rfl, .inl ⟨SqL.of h2, fun bt hbt => ?_⟩⟩
    refine ⟨_, rfl, by show 2 ≤ sizeLine; decide, fun r hr => ?_⟩
    have sb := Same.new (o := .tup (bs.map V.ref)) hbt
    have hbt' : upd H2 bt (.tup (bs.map V.ref)) bt = some (.tup (bs.map V.ref)) := upd_same
    have sr := Same.new (o := .tup [.ref bt, .int (i : Nat)]) hr
    refine k r bt bs _ ((s2.trans sb).trans sr) ?_ (sr _ _ hbt') (by omega) (fun o ho => ((la o ho).same sb).same sr)
    rw [← e]
    exact upd_same

end
end K18
end
section
set_option Elab.async false
set_option linter.all false
set_option maxRecDepth 100000
set_option maxHeartbeats 4000000
namespace K18
open PySem PySem.Spec PyProof.Rows L2
open PySem.W (ke_shaped_ints)
local macro_rules | `(tactic| walk_at "go") => `(tactic| first | refine ⟨_, rfl, ?_⟩ | refine .inl ⟨_, rfl, ?_⟩ | refine ⟨_, _, rfl, rfl, (by first | (show (0 : Int) < _; decide) | exact Or.inl ⟨by decide, by decide⟩ | exact Or.inr ⟨by decide, by decide⟩), ?_⟩ | refine ⟨_, _, rfl, rfl, ?_⟩)
section
variable {P : Program} {w : World} {K : PySem.W.Frag} {mg : Str → Option Value} {base : Heap}

/-- what is done with a pointer -/
def Mv (H : Hp) (v : V) : Prop := ∃ (r : Addr) (a b c d : Int), v = .ref r ∧ H r = some (.tup [.int a, .int b, .int c, .int d])
theorem Mv.same {H H' : Hp} {v : V} (h : Mv H v) (s : Same H H') : Mv H' v := by
  obtain ⟨r, a, b, c, d, e, g⟩ := h
  exact ⟨r, a, b, c, d, e, s _ _ g⟩
/-- both_moves(one, two) -/
def spBothMoves : Sp := fun vs H Q _ => ∃ v1 v2, vs = [v1, v2] ∧ Mv H v1 ∧ Mv H v2 ∧ ∀ v H', Same H H' → Mv H' v → Q v H'
abbrev s_both_moves : Stmt := topS 71
theorem sc_both_moves : FnScope ["one", "two"] ["one", "two"] (defScope s_both_moves) := ⟨rfl, rfl, rfl, by decide +kernel, rfl, by decide +kernel, by decide +kernel⟩
theorem ok_both_moves (T : TxtP K mg) (Tq : PL.TxtQ K w mg) (D : Def K mg "both_moves" s_both_moves) : Cal P w K mg base 1 "both_moves" ["one", "two"] spBothMoves := by
  refine D.cal sc_both_moves (fun vs H Q E h => ?_) (fun _ _ _ _ _ _ us hl => match us, hl with | [_, _], _ => rfl) (fun f cdv A outer s H vs Q E hr h => ?_)
  · obtain ⟨v1, v2, rfl, _⟩ := h
    rfl
  have hu := hu_of hr

  obtain ⟨v1, v2, rfl, ⟨r1, a1, b1, c1, d1, rfl, g1⟩, ⟨r2, a2, b2, c2, d2, rfl, g2⟩, k⟩ := h
  refine ⟨_, (pss_one (ps_ret (pe_tup (pa_cons (pe_op op_add (pe_ix ix_tup (pv 0) pe_int (fun _ _ => rfl)) (pe_ix ix_tup (pv 1) pe_int (fun _ _ => rfl))) (pa_cons (pe_op op_add (pe_ix ix_tup (pv 0) pe_int (fun _ _ => rfl)) (pe_ix ix_tup (pv 1) pe_int (fun _ _ => rfl))) (pa_cons (pe_callB (call_min2 rfl) (by rfl) Tq.f_min (by decide +kernel) (pa_cons (pe_ix ix_tup (pv 0) pe_int (fun _ _ => rfl)) (pa_cons (pe_op op_add (pe_ix ix_tup (pv 0) pe_int (fun _ _ => rfl)) (pe_ix ix_tup (pv 1) pe_int (fun _ _ => rfl))) pa_nil))) (pa_cons (pe_callB (call_max2 rfl) (by rfl) T.f_max (by decide +kernel) (pa_cons (pe_ix ix_tup (pv 0) pe_int (fun _ _ => rfl)) (pa_cons (pe_op op_add (pe_ix ix_tup (pv 0) pe_int (fun _ _ => rfl)) (pe_ix ix_tup (pv 1) pe_int (fun _ _ => rfl))) pa_nil))) pa_nil))))))), ?_⟩
  have h1 := SqT.of (K := K) g1
  have h2 := SqT.of (K := K) g2
  refine ⟨_, rfl, r1, _, _, _, rfl, rfl, h1, atI_nat (j := 0) rfl, _, rfl, r2, _, _, _, rfl, rfl, h2, atI_nat (j := 0) rfl, _, _, rfl, rfl, ?_⟩
  refine ⟨_, rfl, r1, _, _, _, rfl, rfl, h1, atI_nat (j := 1) rfl, _, rfl, r2, _, _, _, rfl, rfl, h2, atI_nat (j := 1) rfl, _, _, rfl, rfl, ?_⟩
  refine ⟨_, rfl, r1, _, _, _, rfl, rfl, h1, atI_nat (j := 2) rfl, _, rfl, r1, _, _, _, rfl, rfl, h1, atI_nat (j := 0) rfl, _, rfl, r2, _, _, _, rfl, rfl, h2, atI_nat (j := 2) rfl, _, _, rfl, rfl, _, _, rfl, ?_⟩
  refine ⟨_, rfl, r1, _, _, _, rfl, rfl, h1, atI_nat (j := 3) rfl, _, rfl, r1, _, _, _, rfl, rfl, h1, atI_nat (j := 1) rfl, _, rfl, r2, _, _, _, rfl, rfl, h2, atI_nat (j := 3) rfl, _, _, rfl, rfl, _, _, rfl, ?_⟩
  refine ⟨by show 4 ≤ sizeLine; decide, fun p hp => ?_⟩
  exact k _ _ (Same.new hp) ⟨p, _, _, _, _, rfl, upd_same⟩



/-- spans_moves(spans, pointer) -/
def spSpansMoves (K : PySem.W.Frag) : Sp := fun vs H Q _ => ∃ (sl : Addr) (p : Int) (ss : List V), vs = [.ref sl, .int p] ∧ H sl = some (.lst ss) ∧ ss.length ≤ 2 ∧ (∀ v ∈ ss, v ≠ .non ∧ SpanV H v) ∧ ∀ v H', Same H H' → Mv H' v → Q v H'
abbrev s_spans_moves : Stmt := topS 74
theorem sc_spans_moves : FnScope ["spans", "pointer", "ends", "place", "shift", "many"] ["spans", "pointer"] (defScope s_spans_moves) := ⟨rfl, rfl, rfl, by decide +kernel, rfl, by decide +kernel, by decide +kernel⟩
theorem ok_spans_moves (T : TxtP K mg) (Tq : PL.TxtQ K w mg) (D : Def K mg "spans_moves" s_spans_moves) : Cal P w K mg base 1 "spans_moves" ["spans", "pointer"] (spSpansMoves K) := by
  refine D.cal sc_spans_moves (fun vs H Q E h => ?_) (fun _ _ _ _ _ _ us hl => match us, hl with | [_, _], _ => rfl) (fun f cdv A outer s H vs Q E hr h => ?_)
  · obtain ⟨sl, p, ss, rfl, _⟩ := h
    rfl
  have hu := hu_of hr

  obtain ⟨sl, p, ss, rfl, hS, n2, hsp, k⟩ := h
  have big : sizeLine = 16777216 := sizeLine_eq
  refine ⟨_, (pss_cons (ps_set (i := 2) sc_spans_moves.nd rfl (by first | exact Or.inl rfl | exact Or.inr rfl) (pe_lst (pa_cons pe_int pa_nil)))
      (pss_cons (ps_for PassesOwn.never rfl (pi_list (pv 0)) (pg_tup rfl (pgs_cons (pg_name (i := 3) sc_spans_moves.nd rfl (by first | exact Or.inl rfl | exact Or.inr rfl)) (pgs_cons (pg_name (i := 4) sc_spans_moves.nd rfl (by first | exact Or.inl rfl | exact Or.inr rfl)) (pgs_cons (pg_name (i := 5) sc_spans_moves.nd rfl (by first | exact Or.inl rfl | exact Or.inr rfl)) pgs_nil)))) (pss_one (ps_if (pt_cmpR op_eq (pv 3) (pv 1) (nomark _)) (pss_cons (ps_expr (pe_bm PySem.F.plainAttrs_list PySem.F.slot_list_append PySem.F.type_list_append mt_append (pv 2) (pa_cons (pv 4) pa_nil)))
      (pss_one (ps_expr (pe_bm PySem.F.plainAttrs_list PySem.F.slot_list_append PySem.F.type_list_append mt_append (pv 2) (pa_cons (pe_op op_add (pv 4) (pv 5)) pa_nil))))) pss_nil)))
      (pss_one (ps_ret (pe_tup (pa_cons pe_int (pa_cons pe_int (pa_cons (pe_callB (cr_min rfl) (by rfl) Tq.f_min (by decide +kernel) (pa_cons (pv 2) pa_nil)) (pa_cons (pe_callB (cr_max rfl) (by rfl) T.f_max (by decide +kernel) (pa_cons (pv 2) pa_nil)) pa_nil))))))))), ?_⟩
  refine ⟨by show 1 ≤ sizeLine; decide, fun el hel => ?_⟩
  have s1 := Same.new (o := .lst [.int 0]) hel
  have h1 : upd H el (.lst [.int 0]) el = some (.lst [.int 0]) := upd_same
  generalize upd H el (.lst [.int 0]) = H1 at s1 h1 ⊢
  refine ⟨_, rfl, sl, rfl, ⟨_, SqL.of (s1 _ _ hS)⟩, for_it walk_list (fun i σ H' => ∃ v3 v4 v5 ns, σ = [some (.ref sl), some (.int p), some (.ref el), v3, v4, v5] ∧ Same H H' ∧ H' el = some (.lst (ns.map V.int)) ∧ 1 ≤ ns.length ∧ ns.length ≤ 2 * i + 1)
    ⟨none, none, none, [0], rfl, s1, h1, Nat.le_refl _, Nat.le_refl _⟩ (fun i σ H' _ ⟨_, _, _, _, _, z, _⟩ => SqL.of (z _ _ hS)) ?_ ?_⟩
  · rintro i x σ H2 H3 hi ⟨v3, v4, v5, ns, rfl, s2, h2, l1, l2⟩ ⟨rfl, hx⟩
    obtain ⟨x0, sx⟩ := hsp x (List.mem_of_getElem? hx)
    rcases sx with e | ⟨r, a, b, c, rfl, hr⟩
    · exact absurd e x0
    refine ⟨r, _, rfl, SqT.of (s2 _ _ hr), rfl, _, _, rfl, _, _, rfl, _, _, rfl, rfl, ?_⟩
    refine ⟨_, rfl, _, rfl, rfl, _, rfl, ite2 (fun _ => ?_) (fun _ => ⟨_, _, _, ns, rfl, s2, h2, l1, by omega⟩)⟩
    refine ⟨_, rfl, .inl ⟨rfl, _, SqL.of h2⟩, _, rfl, el, _, _, rfl, rfl, h2, by rw [List.length_map]; omega, ?_⟩
    have e1 : (ns.map V.int) ++ [V.int b] = (ns ++ [b]).map V.int := by rw [List.map_append]; rfl
    rw [e1]
    have s3 := same_put (o := .lst ((ns ++ [b]).map V.int)) s2 hel h2
    have h3 : upd H3 el (.lst ((ns ++ [b]).map V.int)) el = some (.lst ((ns ++ [b]).map V.int)) := upd_same
    generalize upd H3 el (.lst ((ns ++ [b]).map V.int)) = H4 at s3 h3 ⊢
    refine ⟨_, rfl, .inl ⟨rfl, _, SqL.of h3⟩, _, rfl, _, rfl, _, _, rfl, rfl, el, _, _, rfl, rfl, h3, by rw [List.length_map, List.length_append, List.length_singleton]; omega, ?_⟩
    have e2 : ((ns ++ [b]).map V.int) ++ [V.int (b + c)] = (ns ++ [b] ++ [b + c]).map V.int := by rw [List.map_append (l₁ := ns ++ [b])]; rfl
    rw [e2]
    exact ⟨_, _, _, ns ++ [b] ++ [b + c], rfl, same_put s3 hel h3, upd_same, by simp, by simp only [List.length_append, List.length_singleton]; omega⟩
  · rintro σ H2 ⟨v3, v4, v5, ns, rfl, s2, h2, l1, l2⟩
    refine ⟨_, rfl, el, ns, rfl, SqL.of h2, l1, fun lo _ _ => ⟨_, rfl, el, ns, rfl, SqL.of h2, l1, fun hi _ _ => ⟨by show 4 ≤ sizeLine; decide, fun q hq => ?_⟩⟩⟩
    exact k _ _ (s2.trans (Same.new hq)) ⟨q, _, _, _, _, rfl, upd_same⟩

end
end K18
end
section
set_option Elab.async false
set_option linter.all false
set_option maxRecDepth 100000
set_option maxHeartbeats 4000000
namespace K18
open PySem PySem.Spec PyProof.Rows L2
open PySem.W (ke_shaped_ints)
local macro_rules | `(tactic| walk_at "go") => `(tactic| first | refine ⟨_, rfl, ?_⟩ | refine .inl ⟨_, rfl, ?_⟩ | refine ⟨_, _, rfl, rfl, (by first | (show (0 : Int) < _; decide) | exact Or.inl ⟨by decide, by decide⟩ | exact Or.inr ⟨by decide, by decide⟩), ?_⟩ | refine ⟨_, _, rfl, rfl, ?_⟩)
section
variable {P : Program} {w : World} {K : PySem.W.Frag} {mg : Str → Option Value} {base : Heap}

theorem pi_seq {X : Cx} {tg l : Expr} {tl : TE} (hl : PE X l tl) : PI X tg l (fun σ H R => iList X.K tl σ H R ∨ iTup X.K tl σ H R) :=
  ⟨fun pins s σ H R I h => h.elim (fun a => (pi_list hl).run pins s σ H R I a) (fun b => (pi_tup hl).run pins s σ H R I b)⟩
/-- line_moves(line, pointer) of a line without lines inside -/
def spLineMoves (C : Addr) : Sp := fun vs H Q _ => ∃ (o : Addr) (p : Int), vs = [.ref o, .int p] ∧ LineAt C H o ∧ ∀ v H', Same H H' → Mv H' v → Q v H'
abbrev s_line_moves : Stmt := topS 70
theorem sc_line_moves : FnScope ["line", "pointer", "shift", "tested", "either", "span"] ["line", "pointer"] (defScope s_line_moves) := ⟨rfl, rfl, rfl, by decide +kernel, rfl, by decide +kernel, by decide +kernel⟩
theorem ok_line_moves (T : TxtP K mg) (Tq : PL.TxtQ K w mg) (D : Def K mg "line_moves" s_line_moves) {C : Addr} (LC : LineC K C) (C_spans_moves : Cal P w K mg base 1 "spans_moves" ["spans", "pointer"] (spSpansMoves K)) : Cal P w K mg base 2 "line_moves" ["line", "pointer"] (spLineMoves C) := by
  refine D.cal sc_line_moves (fun vs H Q E h => ?_) (fun _ _ _ _ _ _ us hl => match us, hl with | [_, _], _ => rfl) (fun f cdv A outer s H vs Q E hr h => ?_)
  · obtain ⟨o, p, rfl, _⟩ := h
    rfl
  have hu := hu_of hr

  obtain ⟨o, p, rfl, hL, k⟩ := h
  obtain ⟨dx, t, tv, wds, wd, n, src, tgt, inn, oth, ho, ht, lt, hs, hg⟩ := id hL
  obtain ⟨n1, n2, n3, n4, n5, n6, n7, n8⟩ := lt.word
  have hT : SqT K H t tv := SqT.of ht
  have big : sizeLine = 16777216 := sizeLine_eq
  refine ⟨_, (pss_cons (ps_if (pt_cmpR op_eq (pe_fld (pv 0) rfl) pe_str (nomark _)) (pss_cons (ps_set (i := 2) sc_line_moves.nd rfl (by first | exact Or.inl rfl | exact Or.inr rfl) (pe_ifExp (pt_cmpR op_eq (pe_ix ix_tup (pe_fld (pv 0) rfl) pe_int (fun _ _ => rfl)) (pv 1) (nomark _)) (pe_ix ix_tup (pe_fld (pv 0) rfl) pe_int (fun _ _ => rfl)) pe_int))
      (pss_one (ps_ret (pe_tup (pa_cons (pv 2) (pa_cons (pv 2) (pa_cons (pe_callB (call_min2 rfl) (by rfl) Tq.f_min (by decide +kernel) (pa_cons pe_int (pa_cons (pv 2) pa_nil))) (pa_cons (pe_callB (call_max2 rfl) (by rfl) T.f_max (by decide +kernel) (pa_cons pe_int (pa_cons (pv 2) pa_nil))) pa_nil)))))))) pss_nil)
      (pss_cons (ps_if (pt_cmpR op_eq (pe_fld (pv 0) rfl) pe_str (nomark _)) (pss_one (ps_ret PL.pe_never)) pss_nil)
      (pss_cons (ps_if (pt_cmpR op_eq (pe_fld (pv 0) rfl) pe_str (nomark _)) (pss_cons (ps_set (i := 3) sc_line_moves.nd rfl (by first | exact Or.inl rfl | exact Or.inr rfl) PL.pe_never)
      (pss_cons (ps_set (i := 4) sc_line_moves.nd rfl (by first | exact Or.inl rfl | exact Or.inr rfl) PL.pe_never)
      (pss_one (ps_ret PL.pe_never)))) pss_nil)
      (pss_cons (ps_if (pt_cmpR op_eq (pe_fld (pv 0) rfl) pe_str (nomark _)) (pss_one (ps_ret PL.pe_never)) pss_nil)
      (pss_one (ps_ret (pe_cal C_spans_moves (hr.mono (by decide)) rfl (pa_cons (pe_lc (own := [("span", 5)]) (g := gName 5) rfl sc_line_moves.nd (pi_tup (pe_tup (pa_cons (pe_fld (pv 0) rfl) (pa_cons (pe_fld (pv 0) rfl) pa_nil)))) (blkOk_by (N := ["line", "pointer", "shift", "tested", "either", "span"]) (sc := defScope s_line_moves) (by decide +kernel)) (fun _ _ _ _ _ => (pg_name (i := 5) sc_line_moves.nd rfl (Or.inl rfl))) (fun _ _ _ _ _ => (pts_one (pt_cmpR op_notN (pv 5) pe_non (nomark _)))) (fun _ _ _ _ _ => (pv 5))) (pa_cons (pv 1) pa_nil))))))))), ?_⟩
  refine ⟨_, rfl, o, C, dx, _, _, rfl, ho, LC.cl, LC.n_word, rfl, rfl, _, rfl, ite2 (fun c => ?_) (fun c => ?_)⟩
  · have e : wd = "step" := V.str.inj (of_decide_eq_true c)
    subst e
    have st : ∃ a b : Int, tv = [.int a, .int b] := by
      cases lt with
      | copy h _ _ => exact absurd h (by decide +kernel)
      | step => exact ⟨_, _, rfl⟩
      | rest h => exact absurd h (by decide +kernel)
    obtain ⟨a, b, rfl⟩ := st
    refine ⟨_, rfl, o, C, dx, _, _, rfl, ho, LC.cl, LC.n_told, rfl, t, _, _, _, rfl, rfl, hT, atI_nat (j := 0) rfl, _, rfl, rfl, _, rfl, ite2 (fun _ => ?_) (fun _ => ?_)⟩
    · refine ⟨_, rfl, o, C, dx, _, _, rfl, ho, LC.cl, LC.n_told, rfl, t, _, _, _, rfl, rfl, hT, atI_nat (j := 1) rfl, ?_⟩
      refine ⟨_, rfl, _, rfl, _, rfl, _, _, rfl, _, rfl, _, _, rfl, by show 4 ≤ sizeLine; decide, fun q hq => ?_⟩
      exact k _ _ (Same.new hq) ⟨q, _, _, _, _, rfl, upd_same⟩
    · refine ⟨_, rfl, _, rfl, _, rfl, _, _, rfl, _, rfl, _, _, rfl, by show 4 ≤ sizeLine; decide, fun q hq => ?_⟩
      exact k _ _ (Same.new hq) ⟨q, _, _, _, _, rfl, upd_same⟩
  · refine ⟨_, rfl, o, C, dx, _, _, rfl, ho, LC.cl, LC.n_word, rfl, rfl, _, rfl, ite2 (fun c => absurd (V.str.inj (of_decide_eq_true c)) n3) (fun _ => ?_)⟩
    refine ⟨_, rfl, o, C, dx, _, _, rfl, ho, LC.cl, LC.n_word, rfl, rfl, _, rfl, ite2 (fun c => absurd (V.str.inj (of_decide_eq_true c)) n4) (fun _ => ?_)⟩
    refine ⟨_, rfl, o, C, dx, _, _, rfl, ho, LC.cl, LC.n_word, rfl, rfl, _, rfl, ite2 (fun c => absurd (V.str.inj (of_decide_eq_true c)) n5) (fun _ => ?_)⟩
    refine ⟨_, rfl, o, C, dx, _, _, rfl, ho, LC.cl, LC.n_source, rfl, _, rfl, o, C, dx, _, _, rfl, ho, LC.cl, LC.n_target, rfl, by show 2 ≤ sizeLine; decide, fun q hq => ?_⟩
    have s1 := Same.new (o := .tup [src, tgt]) hq
    have hq1 : upd H q (.tup [src, tgt]) q = some (.tup [src, tgt]) := upd_same
    have hs1 := hs.same s1
    have hg1 := hg.same s1
    generalize upd H q (.tup [src, tgt]) = H1 at s1 hq1 hs1 hg1 ⊢
    refine ⟨q, rfl, ⟨_, SqT.of hq1⟩, fun D hD => lc_it walk_tup (fun i H' => Same H1 H' ∧ ∃ ss, H' D = some (.lst ss) ∧ ss.length ≤ i ∧ ∀ v ∈ ss, v ≠ .non ∧ SpanV H1 v) ⟨Same.new hD, [], upd_same, Nat.le_refl _, by simp⟩ (fun i H' _ z => z.1.tup (SqT.of hq1)) ?_ ?_⟩
    · rintro i y G1 G2 hi ⟨s2, ss, h2, l2, a2⟩ ⟨rfl, hx⟩
      have hy : SpanV H1 y := by
        have := List.mem_of_getElem? hx
        simp only [List.mem_cons, List.not_mem_nil, or_false] at this
        rcases this with rfl | rfl
        · exact hs1
        · exact hg1
      have i2 : i < 2 := hi
      refine ⟨rfl, _, rfl, rfl, _, rfl, ?_⟩
      cases ey : decide (y = V.non) with
      | true =>
        exact iteF ⟨s2, ss, h2, by omega, a2⟩
      | false =>
        refine iteT ⟨_, rfl, ss, h2, by omega, same_put s2 hD h2, ss ++ [y], upd_same, by rw [List.length_append, List.length_singleton]; omega, fun v hv => ?_⟩
        rcases List.mem_append.mp hv with hv | hv
        · exact a2 v hv
        · rw [List.mem_singleton.mp hv]
          exact ⟨of_decide_eq_false ey, hy⟩
    · rintro G ⟨s2, ss, h2, l2, a2⟩
      refine ⟨_, rfl, D, p, ss, rfl, h2, l2, fun v hv => ⟨(a2 v hv).1, (a2 v hv).2.same s2⟩, fun v H' s3 m => ?_⟩
      exact k v H' ((s1.trans s2).trans s3) m



/-- block_moves(block, pointer) -/
def spBlockMoves (C : Addr) : Sp := fun vs H Q _ => ∃ (bt : Addr) (bs : List Addr) (p : Int), vs = [.ref bt, .int p] ∧ H bt = some (.tup (bs.map V.ref)) ∧ (∀ o ∈ bs, LineAt C H o) ∧ ∀ v H', Same H H' → Mv H' v → Q v H'
abbrev s_block_moves : Stmt := topS 69
theorem sc_block_moves : FnScope ["block", "pointer", "moves", "line"] ["block", "pointer"] (defScope s_block_moves) := ⟨rfl, rfl, rfl, by decide +kernel, rfl, by decide +kernel, by decide +kernel⟩
theorem ok_block_moves (T : TxtP K mg) (Tq : PL.TxtQ K w mg) (D : Def K mg "block_moves" s_block_moves) {C : Addr} (C_both_moves : Cal P w K mg base 1 "both_moves" ["one", "two"] spBothMoves) (C_line_moves : Cal P w K mg base 2 "line_moves" ["line", "pointer"] (spLineMoves C)) : Cal P w K mg base 3 "block_moves" ["block", "pointer"] (spBlockMoves C) := by
  refine D.cal sc_block_moves (fun vs H Q E h => ?_) (fun _ _ _ _ _ _ us hl => match us, hl with | [_, _], _ => rfl) (fun f cdv A outer s H vs Q E hr h => ?_)
  · obtain ⟨bt, bs, p, rfl, _⟩ := h
    rfl
  have hu := hu_of hr

  obtain ⟨bt, bs, p, rfl, hB, la, k⟩ := h
  refine ⟨_, (pss_cons (ps_set (i := 2) sc_block_moves.nd rfl (by first | exact Or.inl rfl | exact Or.inr rfl) (pe_tup (pa_cons pe_int (pa_cons pe_int (pa_cons pe_int (pa_cons pe_int pa_nil))))))
      (pss_cons (ps_for PassesOwn.never rfl (pi_tup (pv 0)) (pg_name (i := 3) sc_block_moves.nd rfl (by first | exact Or.inl rfl | exact Or.inr rfl)) (pss_one (ps_set (i := 2) sc_block_moves.nd rfl (by first | exact Or.inl rfl | exact Or.inr rfl) (pe_cal C_both_moves (hr.mono (by decide)) rfl (pa_cons (pv 2) (pa_cons (pe_cal C_line_moves (hr.mono (by decide)) rfl (pa_cons (pv 3) (pa_cons (pv 1) pa_nil))) pa_nil))))))
      (pss_one (ps_ret (pv 2))))), ?_⟩
  refine ⟨by show 4 ≤ sizeLine; decide, fun q hq => ?_⟩
  have s1 := Same.new (o := .tup [.int 0, .int 0, .int 0, .int 0]) hq
  have m1 : Mv (upd H q (.tup [.int 0, .int 0, .int 0, .int 0])) (.ref q) := ⟨q, _, _, _, _, rfl, upd_same⟩
  generalize upd H q (.tup [.int 0, .int 0, .int 0, .int 0]) = H1 at s1 m1 ⊢
  refine ⟨_, rfl, bt, rfl, ⟨_, SqT.of (s1 _ _ hB)⟩, for_it walk_tup (fun i σ H' => ∃ v m, σ = [some (.ref bt), some (.int p), some m, v] ∧ Same H H' ∧ Mv H' m)
    ⟨none, .ref q, rfl, s1, m1⟩ (fun i σ H' _ ⟨_, _, _, z, _⟩ => SqT.of (z _ _ hB)) ?_ ?_⟩
  · rintro i x σ H2 H3 hi ⟨v, m, rfl, s2, m2⟩ ⟨rfl, hx⟩
    rw [List.getElem?_map] at hx
    obtain ⟨o, ho, rfl⟩ := Option.map_eq_some_iff.mp hx
    refine ⟨_, rfl, _, rfl, _, rfl, o, p, rfl, (la o (List.mem_of_getElem? ho)).same s2, fun v2 H4 s4 m4 => ?_⟩
    refine ⟨m, v2, rfl, m2.same s4, m4, fun v5 H5 s5 m5 => ?_⟩
    exact ⟨_, v5, rfl, (s2.trans s4).trans s5, m5⟩
  · rintro σ H2 ⟨v, m, rfl, s2, m2⟩
    exact ⟨_, rfl, k m H2 s2 m2⟩



/-- pairs of ints -/
def Pairs (H : Hp) (os : List Addr) : Prop := ∀ o ∈ os, ∃ a b : Int, H o = some (.tup [.int a, .int b])
theorem Pairs.same {H H' : Hp} {os : List Addr} (h : Pairs H os) (s : Same H H') : Pairs H' os := fun o ho => by
  obtain ⟨a, b, e⟩ := h o ho
  exact ⟨a, b, s _ _ e⟩
theorem Pairs.put {H : Hp} {os : List Addr} {p : Addr} {xs : List V} {u : HO} (h : Pairs H os) (hp : H p = some (.lst xs)) : Pairs (upd H p u) os := fun o ho => by
  obtain ⟨a, b, e⟩ := h o ho
  exact ⟨a, b, by rw [upd_ne (ne_of e hp (by intro z; cases z))]; exact e⟩
theorem Pairs.snoc {H : Hp} {os : List Addr} {o : Addr} {a b : Int} (h : Pairs H os) (e : H o = some (.tup [.int a, .int b])) : Pairs H (os ++ [o]) := fun x hx => by
  rcases List.mem_append.mp hx with hx | hx
  · exact h x hx
  · rw [List.mem_singleton.mp hx]; exact ⟨a, b, e⟩
/-- offsets_of(block, many) -/
def spOffsetsOf (C : Addr) : Sp := fun vs H Q _ => ∃ (bt : Addr) (bs : List Addr) (n : Nat), vs = [.ref bt, .int (n : Nat)] ∧ n ≤ 3 ∧ H bt = some (.tup (bs.map V.ref)) ∧ (∀ o ∈ bs, LineAt C H o) ∧ ∀ (r : Addr) (os : List Addr) (H' : Hp), Same H H' → H' r = some (.tup (os.map V.ref)) → os.length = n → Pairs H' os → Q (.ref r) H'
abbrev s_offsets_of : Stmt := topS 67
theorem sc_offsets_of : FnScope ["block", "many", "pointer"] ["block", "many"] (defScope s_offsets_of) := ⟨rfl, rfl, rfl, by decide +kernel, rfl, by decide +kernel, by decide +kernel⟩
theorem ok_offsets_of (T : TxtP K mg) (Tq : PL.TxtQ K w mg) (D : Def K mg "offsets_of" s_offsets_of) {C : Addr} (C_block_moves : Cal P w K mg base 3 "block_moves" ["block", "pointer"] (spBlockMoves C)) : Cal P w K mg base 4 "offsets_of" ["block", "many"] (spOffsetsOf C) := by
  refine D.cal sc_offsets_of (fun vs H Q E h => ?_) (fun _ _ _ _ _ _ us hl => match us, hl with | [_, _], _ => rfl) (fun f cdv A outer s H vs Q E hr h => ?_)
  · obtain ⟨bt, bs, n, rfl, _⟩ := h
    rfl
  have hu := hu_of hr

  obtain ⟨bt, bs, n, rfl, n3, hB, la, k⟩ := h
  have big : sizeLine = 16777216 := sizeLine_eq
  refine ⟨_, (pss_one (ps_ret (pe_callTy call_tuple_of (by rfl) T.f_tuple (by decide +kernel) (pa_cons (pe_lc (own := [("pointer", 2)]) (g := gName 2) (tt := tYes) (te := tSl (rSlA K) (tCall (spBlockMoves C) [] E0 (tCons (tVar 0) (tCons (tVar 2) tNil))) (tPart (tC (.int 2))) tNoPart) rfl sc_offsets_of.nd (pi_range1 rfl Tq.f_range (pa_cons (pv 1) pa_nil)) (blkOk_by (N := ["block", "many", "pointer"]) (sc := defScope s_offsets_of) (by decide +kernel)) (fun _ _ _ _ _ => (pg_name (i := 2) sc_offsets_of.nd rfl (Or.inl rfl))) (fun _ _ _ _ _ => pts_nil) (fun _ _ _ _ _ => (pe_slice sl_tupA (pe_cal C_block_moves (hr.mono (by decide)) rfl (pa_cons (pv 0) (pa_cons (pv 2) pa_nil))) (po_some pe_int) po_none))) pa_nil)))), ?_⟩
  refine ⟨_, rfl, n, rfl, by omega, by omega, fun D hD => lc_it walk_range (fun i H' => Same H H' ∧ ∃ os : List Addr, H' D = some (.lst (os.map V.ref)) ∧ os.length = i ∧ Pairs H' os) ⟨Same.new hD, [], upd_same, rfl, by intro o ho; cases ho⟩ (fun _ _ _ _ => True.intro) ?_ ?_⟩
  · rintro i y G1 G2 hi ⟨s1, os, h1, l1, pr⟩ ⟨rfl, rfl⟩
    refine ⟨rfl, _, rfl, _, rfl, bt, bs, _, rfl, s1 _ _ hB, fun o ho => (la o ho).same s1, fun v G3 s2 ⟨r, a, b, c, d, ev, hr⟩ => ?_⟩
    subst ev
    refine ⟨_, rfl, r, _, rfl, SqT.of hr, fun z => absurd z (by unfold HT.sIx; simp), fun _ q hq => ?_⟩
    have cut : cutV [.int a, .int b, .int c, .int d] (some 2) none = [.int c, .int d] := by rfl
    rw [cut]
    have s3 := s2.trans (Same.new (o := .tup [.int c, .int d]) hq)
    have h3 := s3 _ _ h1
    refine ⟨_, h3, by rw [List.length_map]; omega, same_put (s1.trans s3) hD h3, os ++ [q], ?_, by rw [List.length_append, List.length_singleton, l1], ?_⟩
    · rw [List.map_append]; exact upd_same
    · exact ((pr.same s3).snoc upd_same).put h3
  · rintro G ⟨s1, os, h1, l1, pr⟩
    refine ⟨D, _, rfl, .inl ⟨SqL.of h1, fun t ht => ?_⟩⟩
    exact k t os _ (s1.trans (Same.new ht)) upd_same l1 (pr.same (Same.new ht))



/-- reach_of(offsets) -/
def spReachOf (K : PySem.W.Frag) : Sp := fun vs H Q _ => ∃ (a : Addr) (os : List Addr), vs = [.ref a] ∧ (SqL K H a (os.map V.ref) ∨ SqT K H a (os.map V.ref)) ∧ 1 ≤ os.length ∧ os.length ≤ 1000 ∧ Pairs H os ∧ ∀ (r : Addr) (x y : Int) (H' : Hp), Same H H' → H' r = some (.tup [.int x, .int y]) → Q (.ref r) H'
abbrev s_reach_of : Stmt := topS 68
theorem sc_reach_of : FnScope ["offsets", "least", "_", "most"] ["offsets"] (defScope s_reach_of) := ⟨rfl, rfl, rfl, by decide +kernel, rfl, by decide +kernel, by decide +kernel⟩
theorem ok_reach_of (T : TxtP K mg) (Tq : PL.TxtQ K w mg) (D : Def K mg "reach_of" s_reach_of) : Cal P w K mg base 1 "reach_of" ["offsets"] (spReachOf K) := by
  refine D.cal sc_reach_of (fun vs H Q E h => ?_) (fun _ _ _ _ _ _ us hl => match us, hl with | [_], _ => rfl) (fun f cdv A outer s H vs Q E hr h => ?_)
  · obtain ⟨a, os, rfl, _⟩ := h
    rfl
  have hu := hu_of hr

  obtain ⟨a, os, rfl, hS, n1, n2, hp, k⟩ := h
  have big : sizeLine = 16777216 := sizeLine_eq
  refine ⟨_, (pss_one (ps_ret (pe_tup (pa_cons (pe_callB (cr_min rfl) (by rfl) Tq.f_min (by decide +kernel) (pa_cons (pe_lc (own := [("least", 1), ("_", 2)]) (g := gTup K 2 (gCons (gName 1) (gCons (gName 2) (gNil)))) (tt := tYes) rfl sc_reach_of.nd (pi_seq (pv 0)) (blkOk_by (N := ["offsets", "least", "_", "most"]) (sc := defScope s_reach_of) (by decide +kernel)) (fun _ _ _ _ _ => (pg_tup rfl (pgs_cons (pg_name (i := 1) sc_reach_of.nd rfl (by first | exact Or.inl rfl | exact Or.inr rfl)) (pgs_cons (pg_name (i := 2) sc_reach_of.nd rfl (by first | exact Or.inl rfl | exact Or.inr rfl)) pgs_nil)))) (fun _ _ _ _ _ => pts_nil) (fun _ _ _ _ _ => (pv 1))) pa_nil)) (pa_cons (pe_callB (cr_max rfl) (by rfl) T.f_max (by decide +kernel) (pa_cons (pe_lc (own := [("_", 2), ("most", 3)]) (g := gTup K 2 (gCons (gName 2) (gCons (gName 3) (gNil)))) (tt := tYes) rfl sc_reach_of.nd (pi_seq (pv 0)) (blkOk_by (N := ["offsets", "least", "_", "most"]) (sc := defScope s_reach_of) (by decide +kernel)) (fun _ _ _ _ _ => (pg_tup rfl (pgs_cons (pg_name (i := 2) sc_reach_of.nd rfl (by first | exact Or.inl rfl | exact Or.inr rfl)) (pgs_cons (pg_name (i := 3) sc_reach_of.nd rfl (by first | exact Or.inl rfl | exact Or.inr rfl)) pgs_nil)))) (fun _ _ _ _ _ => pts_nil) (fun _ _ _ _ _ => (pv 3))) pa_nil)) pa_nil))))), ?_⟩
  rcases hS with hS | hS
  · refine .inl ⟨_, rfl, a, rfl, ⟨_, hS⟩, fun D hD => lc_it walk_list (fun i H' => Same H H' ∧ ∃ ns : List Int, H' D = some (.lst (ns.map V.int)) ∧ ns.length = i) ⟨Same.new hD, [], upd_same, rfl⟩ (fun i H' _ z => z.1.seq hS) ?_ ?_⟩
    · rintro i y G1 G2 hi ⟨s1, ns, h1, l1⟩ ⟨rfl, hx⟩
      rw [List.getElem?_map] at hx
      obtain ⟨o, ho, rfl⟩ := Option.map_eq_some_iff.mp hx
      obtain ⟨b, c, e⟩ := hp.same s1 o (List.mem_of_getElem? ho)
      rw [List.length_map] at hi
      refine ⟨o, _, rfl, SqT.of e, rfl, _, _, rfl, _, _, rfl, rfl, rfl, _, rfl, _, h1, by rw [List.length_map]; omega, same_put s1 hD h1, ns ++ [b], ?_, by rw [List.length_append, List.length_singleton, l1]⟩
      rw [List.map_append]; exact upd_same
    rintro G ⟨s1, ns, h1, l1⟩
    rw [List.length_map] at l1
    refine ⟨D, ns, rfl, SqL.of h1, by omega, fun lo _ _ => ?_⟩
    have hS1 := s1.seq hS
    refine .inl ⟨_, rfl, a, rfl, ⟨_, hS1⟩, fun D2 hD2 => lc_it walk_list (fun i H' => Same G H' ∧ ∃ ns : List Int, H' D2 = some (.lst (ns.map V.int)) ∧ ns.length = i) ⟨Same.new hD2, [], upd_same, rfl⟩ (fun i H' _ z => z.1.seq hS1) ?_ ?_⟩
    · rintro i y G1 G2 hi ⟨s2, ns2, h2, l2⟩ ⟨rfl, hx⟩
      rw [List.getElem?_map] at hx
      obtain ⟨o, ho, rfl⟩ := Option.map_eq_some_iff.mp hx
      obtain ⟨b, c, e⟩ := (hp.same s1).same s2 o (List.mem_of_getElem? ho)
      rw [List.length_map] at hi
      refine ⟨o, _, rfl, SqT.of e, rfl, _, _, rfl, _, _, rfl, rfl, rfl, _, rfl, _, h2, by rw [List.length_map]; omega, same_put s2 hD2 h2, ns2 ++ [c], ?_, by rw [List.length_append, List.length_singleton, l2]⟩
      rw [List.map_append]; exact upd_same
    rintro G5 ⟨s2, ns2, h2, l2⟩
    rw [List.length_map] at l2
    refine ⟨D2, ns2, rfl, SqL.of h2, by omega, fun hi _ _ => ⟨by show 2 ≤ sizeLine; decide, fun r hr => ?_⟩⟩
    exact k r lo hi _ ((s1.trans s2).trans (Same.new hr)) upd_same
  · refine .inr ⟨_, rfl, a, rfl, ⟨_, hS⟩, fun D hD => lc_it walk_tup (fun i H' => Same H H' ∧ ∃ ns : List Int, H' D = some (.lst (ns.map V.int)) ∧ ns.length = i) ⟨Same.new hD, [], upd_same, rfl⟩ (fun i H' _ z => z.1.tup hS) ?_ ?_⟩
    · rintro i y G1 G2 hi ⟨s1, ns, h1, l1⟩ ⟨rfl, hx⟩
      rw [List.getElem?_map] at hx
      obtain ⟨o, ho, rfl⟩ := Option.map_eq_some_iff.mp hx
      obtain ⟨b, c, e⟩ := hp.same s1 o (List.mem_of_getElem? ho)
      rw [List.length_map] at hi
      refine ⟨o, _, rfl, SqT.of e, rfl, _, _, rfl, _, _, rfl, rfl, rfl, _, rfl, _, h1, by rw [List.length_map]; omega, same_put s1 hD h1, ns ++ [b], ?_, by rw [List.length_append, List.length_singleton, l1]⟩
      rw [List.map_append]; exact upd_same
    rintro G ⟨s1, ns, h1, l1⟩
    rw [List.length_map] at l1
    refine ⟨D, ns, rfl, SqL.of h1, by omega, fun lo _ _ => ?_⟩
    have hS1 := s1.tup hS
    refine .inr ⟨_, rfl, a, rfl, ⟨_, hS1⟩, fun D2 hD2 => lc_it walk_tup (fun i H' => Same G H' ∧ ∃ ns : List Int, H' D2 = some (.lst (ns.map V.int)) ∧ ns.length = i) ⟨Same.new hD2, [], upd_same, rfl⟩ (fun i H' _ z => z.1.tup hS1) ?_ ?_⟩
    · rintro i y G1 G2 hi ⟨s2, ns2, h2, l2⟩ ⟨rfl, hx⟩
      rw [List.getElem?_map] at hx
      obtain ⟨o, ho, rfl⟩ := Option.map_eq_some_iff.mp hx
      obtain ⟨b, c, e⟩ := (hp.same s1).same s2 o (List.mem_of_getElem? ho)
      rw [List.length_map] at hi
      refine ⟨o, _, rfl, SqT.of e, rfl, _, _, rfl, _, _, rfl, rfl, rfl, _, rfl, _, h2, by rw [List.length_map]; omega, same_put s2 hD2 h2, ns2 ++ [c], ?_, by rw [List.length_append, List.length_singleton, l2]⟩
      rw [List.map_append]; exact upd_same
    rintro G5 ⟨s2, ns2, h2, l2⟩
    rw [List.length_map] at l2
    refine ⟨D2, ns2, rfl, SqL.of h2, by omega, fun hi _ _ => ⟨by show 2 ≤ sizeLine; decide, fun r hr => ?_⟩⟩
    exact k r lo hi _ ((s1.trans s2).trans (Same.new hr)) upd_same

end
end K18
end
section
set_option Elab.async false
set_option linter.all false
set_option maxRecDepth 100000
set_option maxHeartbeats 4000000
namespace K18
open PySem PySem.Spec PyProof.Rows L2
open PySem.W (ke_shaped_ints)
local macro_rules | `(tactic| walk_at "go") => `(tactic| first | refine ⟨_, rfl, ?_⟩ | refine .inl ⟨_, rfl, ?_⟩ | refine ⟨_, _, rfl, rfl, (by first | (show (0 : Int) < _; decide) | exact Or.inl ⟨by decide, by decide⟩ | exact Or.inr ⟨by decide, by decide⟩), ?_⟩ | refine ⟨_, _, rfl, rfl, ?_⟩)
section
variable {P : Program} {w : World} {K : PySem.W.Frag} {mg : Str → Option Value} {base : Heap}

def bfields (v1 v2 v3 v4 v5 v6 v7 : V) : List (Str × V) := [("parts", v1), ("offsets", v2), ("reach", v3), ("far", v4), ("modulus", v5), ("calls", v6), ("has_registers", v7)]
structure BodyC (K : PySem.W.Frag) (C : Addr) : Prop where
  cl : Cls K C
  n_parts : NoAttr K C "parts"
  n_offsets : NoAttr K C "offsets"
  n_reach : NoAttr K C "reach"
  n_far : NoAttr K C "far"
  n_modulus : NoAttr K C "modulus"
  n_calls : NoAttr K C "calls"
  n_has_registers : NoAttr K C "has_registers"

def HasFar (C : Addr) (H : Hp) (b : Addr) : Prop := ∃ (dx : Addr) (v1 v2 v3 v6 v7 : V) (far md : Int), H b = some (.ins C dx (bfields v1 v2 v3 (.int far) (.int md) v6 v7))
theorem HasFar.same {C : Addr} {H H' : Hp} {b : Addr} (h : HasFar C H b) (s : Same H H') : HasFar C H' b := by
  obtain ⟨dx, v1, v2, v3, v6, v7, far, md, e⟩ := h
  exact ⟨dx, v1, v2, v3, v6, v7, far, md, s _ _ e⟩
/-- a body over n pointers, of np parts at most -/
def BodyAt (C : Addr) (H : Hp) (b : Addr) (n : Nat) (reg : Bool) (np : Nat) : Prop := ∃ (dx pt ot rc : Addr) (us : List V) (os : List Addr) (x y far md : Int) (cv : V), H b = some (.ins C dx (bfields (.ref pt) (.ref ot) (.ref rc) (.int far) (.int md) cv (.bl reg))) ∧
  H pt = some (.tup us) ∧ us.length ≤ np ∧ H ot = some (.tup (os.map V.ref)) ∧ os.length = n ∧ Pairs H os ∧ H rc = some (.tup [.int x, .int y])
theorem BodyAt.same {C : Addr} {H H' : Hp} {b : Addr} {n np : Nat} {reg : Bool} (h : BodyAt C H b n reg np) (s : Same H H') : BodyAt C H' b n reg np := by
  obtain ⟨dx, pt, ot, rc, us, os, x, y, far, md, cv, h1, h2, h3, h4, h5, h6, h7⟩ := h
  exact ⟨dx, pt, ot, rc, us, os, x, y, far, md, cv, s _ _ h1, s _ _ h2, h3, s _ _ h4, h5, h6.same s, s _ _ h7⟩
theorem BodyAt.far {C : Addr} {H : Hp} {b : Addr} {n np : Nat} {reg : Bool} (h : BodyAt C H b n reg np) : HasFar C H b := by
  obtain ⟨dx, pt, ot, rc, us, os, x, y, far, md, cv, h1, _⟩ := h
  exact ⟨dx, _, _, _, _, _, far, md, h1⟩
theorem but_tup {H H' : Hp} {o a C dx : Addr} {fs : List (Str × V)} {xs : List V} (B : But o H H') (ho : H o = some (.ins C dx fs)) (h : H a = some (.tup xs)) : H' a = some (.tup xs) := B _ _ (fun z => by rw [z, ho] at h; cases h) h
theorem Pairs.but {H H' : Hp} {o C dx : Addr} {fs : List (Str × V)} {os : List Addr} (h : Pairs H os) (B : But o H H') (ho : H o = some (.ins C dx fs)) : Pairs H' os := fun x hx => by
  obtain ⟨a, b, e⟩ := h x hx
  exact ⟨a, b, but_tup B ho e⟩
theorem HasFar.but {H H' : Hp} {o C D dx m : Addr} (h : HasFar C H m) (B : But o H H') (ho : H o = some (.ins D dx [])) : HasFar C H' m := by
  obtain ⟨dx, v1, v2, v3, v6, v7, far, md, e⟩ := h
  exact ⟨dx, v1, v2, v3, v6, v7, far, md, B _ _ (fun z => by rw [z, ho] at e; cases e) e⟩


/-- far_of(things) of a list of bodies -/
def spFarB (C : Addr) : Sp := fun vs H Q _ => ∃ (a : Addr) (ms : List Addr), vs = [.ref a] ∧ H a = some (.lst (ms.map V.ref)) ∧ ms.length ≤ 1000 ∧ (∀ m ∈ ms, HasFar C H m) ∧ ∀ (n : Int) H', Same H H' → Q (.int n) H'
abbrev s_far_of : Stmt := topS 33
theorem sc_far_of : FnScope ["things", "thing"] ["things"] (defScope s_far_of) := ⟨rfl, rfl, rfl, by decide +kernel, rfl, by decide +kernel, by decide +kernel⟩
theorem ok_far_of (T : TxtP K mg) (Tq : PL.TxtQ K w mg) (D : Def K mg "far_of" s_far_of) {C : Addr} (BC : BodyC K C) : Cal P w K mg base 1 "far_of" ["things"] (spFarB C) := by
  refine D.cal sc_far_of (fun vs H Q E h => ?_) (fun _ _ _ _ _ _ us hl => match us, hl with | [_], _ => rfl) (fun f cdv A outer s H vs Q E hr h => ?_)
  · obtain ⟨a, ms, rfl, _⟩ := h
    rfl
  have hu := hu_of hr

  obtain ⟨a, ms, rfl, hL, l1, hm, k⟩ := h
  have big : sizeLine = 16777216 := sizeLine_eq
  refine ⟨_, (pss_one (ps_ret (pe_callBK (cr_maxD rfl) (by rfl) T.f_max (by decide +kernel) (pa_cons (pe_lc (own := [("thing", 1)]) (g := gName 1) (tt := tYes) (te := tFld K (tVar 1) "far") rfl sc_far_of.nd (pi_list (pv 0)) (blkOk_by (N := ["things", "thing"]) (sc := defScope s_far_of) (by decide +kernel)) (fun _ _ _ _ _ => (pg_name (i := 1) sc_far_of.nd rfl (Or.inl rfl))) (fun _ _ _ _ _ => pts_nil) (fun _ _ _ _ _ => (pe_fld (pv 1) rfl))) pa_nil) (pk_cons pe_int pk_nil)))), ?_⟩
  refine ⟨_, rfl, a, rfl, ⟨_, SqL.of hL⟩, fun D hD => lc_it walk_list (fun i H' => Same H H' ∧ ∃ ns : List Int, H' D = some (.lst (ns.map V.int)) ∧ ns.length = i) ⟨Same.new hD, [], upd_same, rfl⟩ (fun i H' _ z => z.1.seq (SqL.of hL)) ?_ ?_⟩
  · rintro i y G1 G2 hi ⟨s1, ns, h1, l2⟩ ⟨rfl, hx⟩
    rw [List.getElem?_map] at hx
    obtain ⟨o, ho, rfl⟩ := Option.map_eq_some_iff.mp hx
    obtain ⟨dx, v1, v2, v3, v6, v7, far, md, e⟩ := (hm o (List.mem_of_getElem? ho)).same s1
    rw [List.length_map] at hi
    refine ⟨rfl, _, rfl, o, C, dx, _, .int far, rfl, e, BC.cl, BC.n_far, rfl, _, h1, by rw [List.length_map]; omega, same_put s1 hD h1, ns ++ [far], ?_, by rw [List.length_append, List.length_singleton, l2]⟩
    rw [List.map_append]; exact upd_same
  · rintro G ⟨s1, ns, h1, l2⟩
    exact ⟨D, ns, 0, rfl, rfl, SqL.of h1, fun _ => k _ _ s1, fun m _ _ => k _ _ s1⟩



/-- modulus_of(things) of a list of bodies -/
def spModB (C : Addr) : Sp := fun vs H Q _ => ∃ (a : Addr) (ms : List Addr), vs = [.ref a] ∧ H a = some (.lst (ms.map V.ref)) ∧ ms.length ≤ 1000 ∧ (∀ m ∈ ms, HasFar C H m) ∧ ∀ (n : Int) H', Same H H' → Q (.int n) H'
abbrev s_modulus_of : Stmt := topS 34
theorem sc_modulus_of : FnScope ["things", "thing"] ["things"] (defScope s_modulus_of) := ⟨rfl, rfl, rfl, by decide +kernel, rfl, by decide +kernel, by decide +kernel⟩
theorem ok_modulus_of (T : TxtP K mg) (Tq : PL.TxtQ K w mg) (D : Def K mg "modulus_of" s_modulus_of) {C : Addr} (BC : BodyC K C) : Cal P w K mg base 1 "modulus_of" ["things"] (spModB C) := by
  refine D.cal sc_modulus_of (fun vs H Q E h => ?_) (fun _ _ _ _ _ _ us hl => match us, hl with | [_], _ => rfl) (fun f cdv A outer s H vs Q E hr h => ?_)
  · obtain ⟨a, ms, rfl, _⟩ := h
    rfl
  have hu := hu_of hr

  obtain ⟨a, ms, rfl, hL, l1, hm, k⟩ := h
  have big : sizeLine = 16777216 := sizeLine_eq
  refine ⟨_, (pss_one (ps_ret (pe_callBK (cr_maxD rfl) (by rfl) T.f_max (by decide +kernel) (pa_cons (pe_lc (own := [("thing", 1)]) (g := gName 1) (tt := tYes) (te := tFld K (tVar 1) "modulus") rfl sc_modulus_of.nd (pi_list (pv 0)) (blkOk_by (N := ["things", "thing"]) (sc := defScope s_modulus_of) (by decide +kernel)) (fun _ _ _ _ _ => (pg_name (i := 1) sc_modulus_of.nd rfl (Or.inl rfl))) (fun _ _ _ _ _ => pts_nil) (fun _ _ _ _ _ => (pe_fld (pv 1) rfl))) pa_nil) (pk_cons pe_int pk_nil)))), ?_⟩
  refine ⟨_, rfl, a, rfl, ⟨_, SqL.of hL⟩, fun D hD => lc_it walk_list (fun i H' => Same H H' ∧ ∃ ns : List Int, H' D = some (.lst (ns.map V.int)) ∧ ns.length = i) ⟨Same.new hD, [], upd_same, rfl⟩ (fun i H' _ z => z.1.seq (SqL.of hL)) ?_ ?_⟩
  · rintro i y G1 G2 hi ⟨s1, ns, h1, l2⟩ ⟨rfl, hx⟩
    rw [List.getElem?_map] at hx
    obtain ⟨o, ho, rfl⟩ := Option.map_eq_some_iff.mp hx
    obtain ⟨dx, v1, v2, v3, v6, v7, far, md, e⟩ := (hm o (List.mem_of_getElem? ho)).same s1
    rw [List.length_map] at hi
    refine ⟨rfl, _, rfl, o, C, dx, _, .int md, rfl, e, BC.cl, BC.n_modulus, rfl, _, h1, by rw [List.length_map]; omega, same_put s1 hD h1, ns ++ [md], ?_, by rw [List.length_append, List.length_singleton, l2]⟩
    rw [List.map_append]; exact upd_same
  · rintro G ⟨s1, ns, h1, l2⟩
    exact ⟨D, ns, 1, rfl, rfl, SqL.of h1, fun _ => k _ _ s1, fun m _ _ => k _ _ s1⟩



/-- Body.__init__ -/
def spBodyInit (C : Addr) : Sp := fun vs H Q _ => ∃ (o dx pt ot ml : Addr) (us : List V) (os ms : List Addr) (cv : V) (reg : Bool), vs = [.ref o, .ref pt, .ref ot, .ref ml, cv, .bl reg] ∧ H o = some (.ins C dx []) ∧ H pt = some (.tup us) ∧ H ot = some (.tup (os.map V.ref)) ∧ 1 ≤ os.length ∧ os.length ≤ 3 ∧ Pairs H os ∧
  H ml = some (.lst (ms.map V.ref)) ∧ ms.length ≤ 1000 ∧ (∀ m ∈ ms, HasFar C H m) ∧ ∀ H', But o H H' → BodyAt C H' o os.length reg us.length → Q .non H'
abbrev s_Body___init__ : Stmt := inClass (topS 77) 0
theorem sc_Body___init__ : FnScope ["self", "parts", "offsets", "measured", "calls", "has_registers"] ["self", "parts", "offsets", "measured", "calls", "has_registers"] (defScope s_Body___init__) := ⟨rfl, rfl, rfl, by decide +kernel, rfl, by decide +kernel, by decide +kernel⟩
theorem ok_body_init {C f : Addr} {fd : FuncData} (BC : BodyC K C) (F : FunD K "__init__" "Body.__init__" (defArgs s_Body___init__) (defBody s_Body___init__) (defScope s_Body___init__) [] [] f fd)
    (C_reach_of : Cal P w K mg base 1 "reach_of" ["offsets"] (spReachOf K)) (C_far_of : Cal P w K mg base 1 "far_of" ["things"] (spFarB C)) (C_modulus_of : Cal P w K mg base 1 "modulus_of" ["things"] (spModB C)) :
    FnOk P w K mg base CX0 2 f fd ["self", "parts", "offsets", "measured", "calls", "has_registers"] (spBodyInit C) := by
  refine F.ok sc_Body___init__ (fun vs H Q E h => by obtain ⟨o, dx, pt, ot, ml, us, os, ms, cv, reg, rfl, _⟩ := h; rfl) (fun cdv A outer s H vs Q E hr h => ?_)
  suffices z : ∃ t, PSs (cxOf CX0 P w K mg base ["self", "parts", "offsets", "measured", "calls", "has_registers"] "Body.__init__" (defScope s_Body___init__) f cdv A outer s H E).nox (defBody s_Body___init__) t ∧ t { nx := fun _ H' => Q .non H', rt := Q } (start ["self", "parts", "offsets", "measured", "calls", "has_registers"] vs) H by
    obtain ⟨t, h1, h2⟩ := z
    exact ⟨t, h1.nox, h2⟩
  obtain ⟨o, dx, pt, ot, ml, us, os, ms, cv, reg, rfl, ho, hpt, hot, n1, n3, hp, hml, m1, hm, k⟩ := h
  refine ⟨_, (pss_cons (ps_fld (pv 0) (pv 1) rfl)
      (pss_cons (ps_fld (pv 0) (pv 2) rfl)
      (pss_cons (ps_fld (pv 0) (pe_cal C_reach_of (hr.mono (by decide)) rfl (pa_cons (pv 2) pa_nil)) rfl)
      (pss_cons (ps_fld (pv 0) (pe_cal C_far_of (hr.mono (by decide)) rfl (pa_cons (pv 3) pa_nil)) rfl)
      (pss_cons (ps_fld (pv 0) (pe_cal C_modulus_of (hr.mono (by decide)) rfl (pa_cons (pv 3) pa_nil)) rfl)
      (pss_cons (ps_fld (pv 0) (pv 4) rfl)
      (pss_one (ps_fld (pv 0) (pv 5) rfl)))))))), ?_⟩
  have lt : ∀ (l : List (Str × V)), l.length ≤ 7 → l.length < 1000 := fun l h => by omega
  have mo : ml ≠ o := fun z => by rw [z, ho] at hml; cases hml
  refine ⟨_, rfl, _, rfl, o, C, dx, _, rfl, ho, BC.cl, BC.n_parts, lt _ (Nat.le_of_ble_eq_true rfl), ?_⟩
  refine ⟨_, rfl, _, rfl, o, C, dx, _, rfl, upd_same, BC.cl, BC.n_offsets, lt _ (Nat.le_of_ble_eq_true rfl), ?_⟩
  have B1 : But o H (upd (upd H o (.ins C dx (putF "parts" (.ref pt) []))) o (.ins C dx (putF "offsets" (.ref ot) (putF "parts" (.ref pt) [])))) := (But.upd _).trans (But.upd _)
  have g1 : upd (upd H o (.ins C dx (putF "parts" (.ref pt) []))) o (.ins C dx (putF "offsets" (.ref ot) (putF "parts" (.ref pt) []))) o = some (.ins C dx [("parts", .ref pt), ("offsets", .ref ot)]) := upd_same
  generalize upd (upd H o (.ins C dx (putF "parts" (.ref pt) []))) o (.ins C dx (putF "offsets" (.ref ot) (putF "parts" (.ref pt) []))) = H1 at B1 g1 ⊢
  refine ⟨_, rfl, ot, os, rfl, .inr (SqT.of (but_tup B1 ho hot)), n1, by omega, hp.but B1 ho, fun rc x y H2 s2 hrc => ?_⟩
  refine ⟨_, rfl, o, C, dx, _, rfl, s2 _ _ g1, BC.cl, BC.n_reach, lt _ (Nat.le_of_ble_eq_true rfl), ?_⟩
  have ro : rc ≠ o := fun z => by rw [z, s2 _ _ g1] at hrc; cases hrc
  have B3 : But o H (upd H2 o (.ins C dx (putF "reach" (.ref rc) [("parts", .ref pt), ("offsets", .ref ot)]))) := (B1.trans (But.of s2)).trans (But.upd _)
  have g3 : upd H2 o (.ins C dx (putF "reach" (.ref rc) [("parts", .ref pt), ("offsets", .ref ot)])) o = some (.ins C dx [("parts", .ref pt), ("offsets", .ref ot), ("reach", .ref rc)]) := upd_same
  have r3 : upd H2 o (.ins C dx (putF "reach" (.ref rc) [("parts", .ref pt), ("offsets", .ref ot)])) rc = some (.tup [.int x, .int y]) := by rw [upd_ne ro]; exact hrc
  generalize upd H2 o (.ins C dx (putF "reach" (.ref rc) [("parts", .ref pt), ("offsets", .ref ot)])) = H3 at B3 g3 r3 ⊢
  refine ⟨_, rfl, ml, ms, rfl, B3 _ _ mo hml, m1, fun m hmm => (hm m hmm).but B3 ho, fun far H4 s4 => ?_⟩
  refine ⟨_, rfl, o, C, dx, _, rfl, s4 _ _ g3, BC.cl, BC.n_far, lt _ (Nat.le_of_ble_eq_true rfl), ?_⟩
  have B5 : But o H (upd H4 o (.ins C dx (putF "far" (.int far) [("parts", .ref pt), ("offsets", .ref ot), ("reach", .ref rc)]))) := (B3.trans (But.of s4)).trans (But.upd _)
  have g5 : upd H4 o (.ins C dx (putF "far" (.int far) [("parts", .ref pt), ("offsets", .ref ot), ("reach", .ref rc)])) o = some (.ins C dx [("parts", .ref pt), ("offsets", .ref ot), ("reach", .ref rc), ("far", .int far)]) := upd_same
  have r5 : upd H4 o (.ins C dx (putF "far" (.int far) [("parts", .ref pt), ("offsets", .ref ot), ("reach", .ref rc)])) rc = some (.tup [.int x, .int y]) := by rw [upd_ne ro]; exact s4 _ _ r3
  generalize upd H4 o (.ins C dx (putF "far" (.int far) [("parts", .ref pt), ("offsets", .ref ot), ("reach", .ref rc)])) = H5 at B5 g5 r5 ⊢
  refine ⟨_, rfl, ml, ms, rfl, B5 _ _ mo hml, m1, fun m hmm => (hm m hmm).but B5 ho, fun md H6 s6 => ?_⟩
  refine ⟨_, rfl, o, C, dx, _, rfl, s6 _ _ g5, BC.cl, BC.n_modulus, lt _ (Nat.le_of_ble_eq_true rfl), ?_⟩
  refine ⟨_, rfl, _, rfl, o, C, dx, _, rfl, upd_same, BC.cl, BC.n_calls, lt _ (Nat.le_of_ble_eq_true rfl), ?_⟩
  refine ⟨_, rfl, _, rfl, o, C, dx, _, rfl, upd_same, BC.cl, BC.n_has_registers, lt _ (Nat.le_of_ble_eq_true rfl), ?_⟩
  have r6 := s6 _ _ r5
  refine k _ ?_ ?_
  · exact (B5.trans (But.of s6)).trans (((But.upd _).trans (But.upd _)).trans (But.upd _))
  · refine ⟨dx, pt, ot, rc, us, os, x, y, far, md, cv, upd_same, ?_, Nat.le_refl _, ?_, rfl, ?_, ?_⟩
    · exact but_tup ((B5.trans (But.of s6)).trans (((But.upd _).trans (But.upd _)).trans (But.upd _))) ho hpt
    · exact but_tup ((B5.trans (But.of s6)).trans (((But.upd _).trans (But.upd _)).trans (But.upd _))) ho hot
    · exact hp.but ((B5.trans (But.of s6)).trans (((But.upd _).trans (But.upd _)).trans (But.upd _))) ho
    · rw [upd_ne ro, upd_ne ro, upd_ne ro]; exact r6
end
end K18
end
section
set_option Elab.async false
set_option linter.all false
set_option maxRecDepth 100000
set_option maxHeartbeats 4000000
namespace L2
open PySem PySem.Spec PyProof.Rows
section
variable {X : Cx}
/-- x = {k: v for ..}: the comprehension stores it itself -/
theorem ps_setDc {i : Nat} {y : Str} {py : Pos} {kx vx tg iter : Expr} {ifs : List Expr} {scope : Scope} {own : List (Str × Nat)} {pos spos : Pos} {wi : TI} {g : TG} {tt : TT} {tk tv : TE} (hc : X.calm = true) (hN : X.N.Nodup) (hy : X.N[i]? = some y) (hyl : X.env.scope.names.lookup y = some .local)
    (hsw : swapsWith (.DictComp kx vx [⟨tg, iter, ifs, 0⟩] scope pos) (some (.Name y py)) spos.line X.env = pure true) (hi : PI X tg iter wi) (ok : BlkOk X.N X.env.scope scope own)
    (hg : ∀ (s : Shared) (H : Hp) (C : Addr) (cl : List (Str × Addr)) (fp : List Addr), PG (X.blk s H scope (compEnvC scope cl C X.env) fp) tg g) (ht : ∀ (s : Shared) (H : Hp) (C : Addr) (cl : List (Str × Addr)) (fp : List Addr), PTs (X.blk s H scope (compEnvC scope cl C X.env) fp) ifs tt)
    (hk : ∀ (s : Shared) (H : Hp) (C : Addr) (cl : List (Str × Addr)) (fp : List Addr), PE (X.blk s H scope (compEnvC scope cl C X.env) fp) kx tk)
    (he : ∀ (s : Shared) (H : Hp) (C : Addr) (cl : List (Str × Addr)) (fp : List Addr), PE (X.blk s H scope (compEnvC scope cl C X.env) fp) vx tv) (hs : ∀ x, foldedSetIterable iter X.env x = pure x := by intro _; rfl) :
    PS X (.Assign [.Name y py] (.DictComp kx vx [⟨tg, iter, ifs, 0⟩] scope pos) spos) (tAsg (tDc wi g tt tk tv (own.map (·.2))) (gName i)) := by
  refine ⟨fun pins s σ H D I h => ?_⟩
  rw [exec_Assign_Name_used _ _ _ _ hsw]
  refine wpAny_bind (wpAny_standAt (wpAny_bind ?_))
  show wpAny _ X.A (do let _ ← comprehension (.DictComp kx vx [⟨tg, iter, ifs, 0⟩] scope pos) scope X.env (firstIterPos [⟨tg, iter, ifs, 0⟩] pos) newDict false (eval iter X.env) (some (assign (.Name y py) X.env))) _ _ s
  have h : tDc wi g tt tk tv (own.map (·.2)) σ H (fun x H1 => gName i x σ H1 D.nx) := h
  refine wpAny_bind (thn (dc_core (Qf := fun _ s' => SP X pins D .next s') hc hN I hi ok hg ht hk he hs h fun L C s' m H' I' q hn f => ?_) fun _ s' hq => wpAny_pure (wpAny_pure hq))
  show wpAny _ _ (assign (.Name y py) X.env (.ref L)) _ _ _
  refine wpAny_assign_Name (store_ok2 (v := V.ref L) I' hN hy (.inl hyl) rfl (fun s2 I2 ⟨a, sb, ha⟩ => ?_) (.inr hyl))
  obtain ⟨f0, f1, f2, f3, f4, f5⟩ := f
  have haC : C ≠ a := by
    rcases ha with z | z
    · rw [z]; exact f1
    · exact fun e => f4 y a z e.symm
  refine ⟨m, hn.sameBut sb haC, fun h3 sb3 => ?_⟩
  exact ⟨_, H', I2.turned (t' := s2.toks) (fun b o hb e => (sb3.2 b hb).trans e) f0 f1 f3 f4 f5, q⟩
theorem sw_trueD {kx vx : Expr} {gs : List Comprehension} {scope : Scope} {pos py : Pos} {y : Str} {l : Nat} {env : Env} (hk : env.scope.kind = .function) (hy : env.scope.names.lookup y = some .local) (hl : (py.line == pos.line) = true)
    (ha : (scope.names.any fun (n, k) => n == y && (k == .local || k == .cell)) = false) : swapsWith (.DictComp kx vx gs scope pos) (some (.Name y py)) l env = pure true := by
  have ky : env.kindOf y = some .local := hy
  have hb : env.blockKind = .function := by unfold Env.blockKind; rw [hk]; rfl
  unfold swapsWith
  simp only [hb, ky, ha, Expr.pos, hl]
  rfl
end
end L2
end
section
set_option Elab.async false
set_option linter.all false
set_option maxRecDepth 100000
set_option maxHeartbeats 4000000
namespace K18
open PySem PySem.Spec PyProof.Rows L2
open PySem.W (ke_shaped_ints)
local macro_rules | `(tactic| walk_at "go") => `(tactic| first | refine ⟨_, rfl, ?_⟩ | refine .inl ⟨_, rfl, ?_⟩ | refine ⟨_, _, rfl, rfl, (by first | (show (0 : Int) < _; decide) | exact Or.inl ⟨by decide, by decide⟩ | exact Or.inr ⟨by decide, by decide⟩), ?_⟩ | refine ⟨_, _, rfl, rfl, ?_⟩)
section
variable {P : Program} {w : World} {K : PySem.W.Frag} {mg : Str → Option Value} {base : Heap}

theorem dc_it {J : It} {n : Nat} {G : Hp → Prop} {Y : Nat → Hp → V → Hp → Prop} (w : Walk J n G Y) {g : TG} {tt : TT} {tk tv : TE} {vs : List Nat} {σ : L2.St} {H1 : Hp} {D : Addr} {Qd : Hp → Prop} (Pv : Nat → Hp → Prop) (h0 : Pv 0 (upd H1 D (.dK []))) (hG : ∀ i H, i ≤ n → Pv i H → G H)
    (hs : ∀ i x H H', i < n → Pv i H → Y i H x H' → g x (wipe σ vs) H' fun σ2 H2 => wipe σ2 vs = wipe σ vs ∧ tt σ2 H2 fun b H3 =>
      if b = true then tk σ2 H3 fun y H4 => tv σ2 H4 fun z H5 => ∃ kvs k, y = kV k ∧ H5 D = some (.dK kvs) ∧ kvs.length < sizeLine ∧ Pv (i + 1) (upd H5 D (.dK (putK kvs k z))) else Pv (i + 1) H3) (hd : ∀ H, Pv n H → Qd H) :
    ∃ W : Nat → Nat → Hp → Prop, (∃ m, W 0 m (upd H1 D (.dK []))) ∧ ∀ i m H, W i m H →
      (J.stop i H ∧ Qd H) ∨ (J.go i H ∧ ∃ Nx : Hp → Prop, (∀ H', Nx H' → ∃ m', m' < m ∧ W (i + 1) m' H') ∧ ∀ x H', J.yld i H x H' → g x (wipe σ vs) H' fun σ2 H2 => wipe σ2 vs = wipe σ vs ∧ tt σ2 H2 fun b H3 =>
        if b = true then tk σ2 H3 fun y H4 => tv σ2 H4 fun z H5 => ∃ kvs k, y = kV k ∧ H5 D = some (.dK kvs) ∧ kvs.length < sizeLine ∧ Nx (upd H5 D (.dK (putK kvs k z))) else Nx H3) := by
  refine ⟨fun i m H => m = n - i ∧ i ≤ n ∧ Pv i H, ⟨n, by simp, Nat.zero_le _, h0⟩, ?_⟩
  rintro i m H ⟨rfl, hi, p⟩
  have q := hG i H hi p
  by_cases hlt : i < n
  · refine .inr ⟨w.goes i H hlt q, Pv (i + 1), fun H' p' => ⟨n - (i + 1), by omega, rfl, hlt, p'⟩, fun x H' y => hs i x H H' hlt p (w.yields i H x H' hlt q y)⟩
  · have e : i = n := by omega
    subst e
    exact .inl ⟨w.stops H q, hd H p⟩
/-- a register that is stored has a width -/
def StOk (ls : List PL.Ln) (wds : Str → Option Int) : Prop := ∀ (x z : Str) (k : Int), (⟨"store", [.name x, .spot z k]⟩ : PL.Ln) ∈ ls → ∃ n, wds x = some n
theorem used_all : ∀ {ls : List PL.Ln} {wds : Str → Option Int} {kn : Str → Bool} {w' : Str → Option Int}, Used wds kn ls w' → ∀ l ∈ ls, ∃ wds kn, UseL wds kn l
  | [], _, _, _, _, l, hl => by cases hl
  | x :: ls, wds, kn, w', h, l, hl => by
    obtain ⟨h1, h2⟩ := h
    rcases List.mem_cons.mp hl with rfl | hl
    · exact ⟨_, _, h1⟩
    · cases e : setOf x with
      | none => rw [e] at h2; exact used_all h2 l hl
      | some p => rw [e] at h2; exact used_all h2 l hl
theorem row_lt {H : Hp} {ps : List Str} {l : PL.Ln} {wds w0 : Str → Option Int} {kn : Str → Bool} {vs : List V} (u : UseL w0 kn l) (st : ∀ x z k, l = ⟨"store", [.name x, .spot z k]⟩ → ∃ n, wds x = some n) (p : Paired (PL.Val H ps) l.told vs) : LT H wds l.w vs := by
  cases u with
  | input h1 h2 => exact .rest (show ("input" : Str) ∈ (["input", "set", "give"] : List Str) by decide +kernel)
  | set h1 h2 => exact .rest (show ("set" : Str) ∈ (["input", "set", "give"] : List Str) by decide +kernel)
  | @store x z k h =>
    have p' : Paired (PL.Val H ps) [.name x, .spot z k] vs := p
    rcases p' with _ | ⟨a, p'⟩
    rcases p' with _ | ⟨b, p'⟩
    cases p'
    obtain rfl : _ = V.str x := a
    obtain ⟨r, i, rfl, _, hr⟩ := b
    obtain ⟨n, hn⟩ := st x z k rfl
    exact .store hr hn
  | give h1 h2 h3 => exact .rest (show ("give" : Str) ∈ (["input", "set", "give"] : List Str) by decide +kernel)
  | @step z n =>
    have p' : Paired (PL.Val H ps) [.ptr z, .num "jump" n] vs := p
    rcases p' with _ | ⟨a, p'⟩
    rcases p' with _ | ⟨b, p'⟩
    cases p'
    obtain ⟨i, _, rfl⟩ := a
    obtain rfl : _ = V.int n := b
    exact .step
  | @copy wd z z' k k' n h =>
    have p' : Paired (PL.Val H ps) [.num "many" n, .spot z k, .spot z' k'] vs := p
    rcases p' with _ | ⟨a, p'⟩
    rcases p' with _ | ⟨b, p'⟩
    rcases p' with _ | ⟨c, p'⟩
    cases p'
    obtain rfl : _ = V.int n := a
    obtain ⟨r1, i1, rfl, _, e1⟩ := b
    obtain ⟨r2, i2, rfl, _, e2⟩ := c
    exact .copy h e1 e2
theorem rows_lt {H : Hp} {ps : List Str} {ls : List PL.Ln} {rs : List Addr} {wds : Str → Option Int} (h : RowsAt H ps ls rs) (lk : LinesOk ps ls wds) (st : StOk ls wds) : RowsLT H wds rs := fun i r e => by
  have hl := paired_len h
  have hi := (List.getElem?_eq_some_iff.mp e).1
  have el : ls[i]? = some ls[i] := List.getElem?_eq_getElem (by omega)
  generalize ls[i] = l at el
  have lm := List.mem_of_getElem? el
  obtain ⟨t, vs, a, b, c⟩ := (paired_at h el e).ex
  obtain ⟨w0, kn, u⟩ := used_all lk.us l lm
  exact ⟨l.w, t, vs, a, b, row_lt u (fun x z k q => st x z k (q ▸ lm)) c⟩
def hasReg (ls : List PL.Ln) : Bool := ls.any fun l => decide (l.w ∈ (["input", "give"] : List Str))
/-- read_body(pointers, text, functions) of right lines -/
def spReadBody (K : PySem.W.Frag) (C : Addr) : Sp := fun vs H Q _ => ∃ (a : Addr) (ps : List Str) (ls : List PL.Ln) (wds : Str → Option Int) (fv : V), vs = [.ref a, .str (textOf ls), fv] ∧ SqT K H a (ps.map V.str) ∧ CF.Names ps ∧ LinesOk ps ls wds ∧ StOk ls wds ∧
  ∀ (b : Addr) (H' : Hp), Same H H' → H b = none → BodyAt C H' b ps.length (hasReg ls) 1 → Q (.ref b) H'
abbrev s_read_body : Stmt := topS 79
theorem sc_read_body : FnScope ["pointers", "text", "functions", "rows", "widths", "block", "_", "calls", "measured", "name", "function", "has_registers", "parts", "word", "told"] ["pointers", "text", "functions"] (defScope s_read_body) := ⟨rfl, rfl, rfl, by decide +kernel, rfl, by decide +kernel, by decide +kernel⟩
theorem ok_read_body (T : TxtP K mg) (Tq : PL.TxtQ K w mg) (D : Def K mg "read_body" s_read_body) {C LCc : Addr} (C_read_rows : Cal P w K mg base 8 "read_rows" ["pointers", "text", "functions"] (spReadRows K)) (C_block_of : Cal P w K mg base 3 "block_of" ["rows", "widths", "index"] (spBlockOf K LCc)) (C_offsets_of : Cal P w K mg base 4 "offsets_of" ["block", "many"] (spOffsetsOf LCc)) (M_Body : Mkc P w K mg base 2 "Body" C ["self", "parts", "offsets", "measured", "calls", "has_registers"] (spBodyInit C)) : Cal P w K mg base 9 "read_body" ["pointers", "text", "functions"] (spReadBody K C) := by
  refine D.cal sc_read_body (fun vs H Q E h => ?_) (fun _ _ _ _ _ _ us hl => match us, hl with | [_, _, _], _ => rfl) (fun f cdv A outer s H vs Q E hr h => ?_)
  · obtain ⟨a, ps, ls, wds, fv, rfl, _⟩ := h
    rfl
  have hu := hu_of hr

  obtain ⟨a, ps, ls, wds, fv, rfl, hT, nm, lk, st, k⟩ := h
  have big : sizeLine = 16777216 := sizeLine_eq
  have n1 := nm.2.2.1
  have n3 := nm.2.2.2
  refine ⟨_, (pss_cons (ps_asg (pe_cal C_read_rows (hr.mono (by decide)) rfl (pa_cons (pv 0) (pa_cons (pv 1) (pa_cons (pv 2) pa_nil)))) (pg_tup rfl (pgs_cons (pg_name (i := 3) sc_read_body.nd rfl (by first | exact Or.inl rfl | exact Or.inr rfl)) (pgs_cons (pg_name (i := 4) sc_read_body.nd rfl (by first | exact Or.inl rfl | exact Or.inr rfl)) pgs_nil))))
      (pss_cons (ps_asg (pe_cal C_block_of (hr.mono (by decide)) rfl (pa_cons (pv 3) (pa_cons (pv 4) (pa_cons pe_int pa_nil)))) (pg_tup rfl (pgs_cons (pg_name (i := 5) sc_read_body.nd rfl (by first | exact Or.inl rfl | exact Or.inr rfl)) (pgs_cons (pg_name (i := 6) sc_read_body.nd rfl (by first | exact Or.inl rfl | exact Or.inr rfl)) pgs_nil))))
      (pss_cons (ps_setDc (i := 7) (own := [("word", 13), ("told", 14)]) (g := gTup K 2 (gCons (gName 13) (gCons (gName 14) gNil))) rfl sc_read_body.nd rfl rfl (sw_trueD rfl rfl rfl (by decide +kernel)) (pi_list (pv 3)) (blkOk_by (N := ["pointers", "text", "functions", "rows", "widths", "block", "_", "calls", "measured", "name", "function", "has_registers", "parts", "word", "told"]) (sc := defScope s_read_body) (by decide +kernel)) (fun _ _ _ _ _ => (pg_tup rfl (pgs_cons (pg_name (i := 13) sc_read_body.nd rfl (by first | exact Or.inl rfl | exact Or.inr rfl)) (pgs_cons (pg_name (i := 14) sc_read_body.nd rfl (by first | exact Or.inl rfl | exact Or.inr rfl)) pgs_nil)))) (fun _ _ _ _ _ => (pts_one (pt_cmpR op_eq (pv 13) pe_str (nomark _)))) (fun _ _ _ _ _ => PL.pe_never) (fun _ _ _ _ _ => PL.pe_never))
      (pss_cons (ps_setLc (i := 8) (own := [("word", 13), ("told", 14)]) (g := gTup K 2 (gCons (gName 13) (gCons (gName 14) (gNil)))) rfl sc_read_body.nd rfl rfl (sw_true rfl rfl rfl (by decide +kernel)) (pi_list (pv 3)) (blkOk_by (N := ["pointers", "text", "functions", "rows", "widths", "block", "_", "calls", "measured", "name", "function", "has_registers", "parts", "word", "told"]) (sc := defScope s_read_body) (by decide +kernel)) (fun _ _ _ _ _ => (pg_tup rfl (pgs_cons (pg_name (i := 13) sc_read_body.nd rfl (by first | exact Or.inl rfl | exact Or.inr rfl)) (pgs_cons (pg_name (i := 14) sc_read_body.nd rfl (by first | exact Or.inl rfl | exact Or.inr rfl)) pgs_nil)))) (fun _ _ _ _ _ => (pts_one (pt_cmpR op_eq (pv 13) pe_str (nomark _)))) (fun _ _ _ _ _ => PL.pe_never))
      (pss_cons (ps_lock (ps_for PassesOwn.never rfl (pi_keys (pv 7)) (pg_name (i := 9) sc_read_body.nd rfl (by first | exact Or.inl rfl | exact Or.inr rfl)) (pss_cons (ps_set (i := 10) sc_read_body.nd rfl (by first | exact Or.inl rfl | exact Or.inr rfl) PL.pe_never)
      (pss_cons (ps_expr PL.pe_never)
      (pss_one (ps_expr PL.pe_never))))))
      (pss_cons (ps_set (i := 11) sc_read_body.nd rfl (by first | exact Or.inl rfl | exact Or.inr rfl) (pe_callB (cr_any rfl) (by rfl) Tq.f_any (by decide +kernel) (pa_cons (pe_lc (own := [("word", 13), ("_", 6)]) (g := gTup K 2 (gCons (gName 13) (gCons (gName 6) (gNil)))) (tt := tYes) (te := tOp (rIn K false) (tVar 13) (tTup (tCons (tC (.str "input")) (tCons (tC (.str "give")) tNil)))) rfl sc_read_body.nd (pi_list (pv 3)) (blkOk_by (N := ["pointers", "text", "functions", "rows", "widths", "block", "_", "calls", "measured", "name", "function", "has_registers", "parts", "word", "told"]) (sc := defScope s_read_body) (by decide +kernel)) (fun _ _ _ _ _ => (pg_tup rfl (pgs_cons (pg_name (i := 13) sc_read_body.nd rfl (by first | exact Or.inl rfl | exact Or.inr rfl)) (pgs_cons (pg_name (i := 6) sc_read_body.nd rfl (by first | exact Or.inl rfl | exact Or.inr rfl)) pgs_nil)))) (fun _ _ _ _ _ => pts_nil) (fun _ _ _ _ _ => (pe_cmpR op_in_seq (pv 13) (pe_tup (pa_cons pe_str (pa_cons pe_str pa_nil))) (by rfl)))) pa_nil)))
      (C8.pss_cut (ps_set (i := 12) sc_read_body.nd rfl (by first | exact Or.inl rfl | exact Or.inr rfl) (pe_ifExp (pt_truth (pv 5) (by intro _; rfl)) (pe_tup (pa_cons (pv 5) pa_nil)) (pe_tup pa_nil)))
      (pss_one (ps_ret (pe_mkc M_Body (hr.mono (by decide)) rfl (pa_cons (pv 12) (pa_cons (pe_cal C_offsets_of (hr.mono (by decide)) rfl (pa_cons (pv 5) (pa_cons (pe_callB call_len (by rfl) T.f_len PySem.boot_len (pa_cons (pv 0) pa_nil)) pa_nil))) (pa_cons (pv 8) (pa_cons (pv 7) (pa_cons (pv 11) pa_nil))))))))))))))), ?_⟩
  refine ⟨_, rfl, _, rfl, _, rfl, a, ps, ls, wds, fv, rfl, hT, nm, lk, fun r rl wa rs H1 s1 hr hrl rows hW => ?_⟩
  refine ⟨r, _, rfl, SqT.of hr, rfl, _, _, rfl, _, _, rfl, rfl, ?_⟩
  have rle := paired_len rows
  refine ⟨_, rfl, _, rfl, rl, wa, rs, wds, rfl, hrl, by have := lk.n40; omega, hW, rows_lt rows lk st, fun r2 bt bs H2 s2 hr2 hbt bl la => ?_⟩
  refine ⟨r2, _, rfl, SqT.of hr2, rfl, _, _, rfl, _, _, rfl, rfl, ?_⟩
  have hrl2 := s2 _ _ hrl
  have rows2 := RowsAt.same s2 rows
  have s12 := s1.trans s2
  have rlt := (rows_lt rows lk st).same s2
  have row : ∀ i x G, Same H2 G → (rs.map V.ref)[i]? = some x → ∃ (r : Addr) (wd : Str) (t : Addr) (tv : List V), x = V.ref r ∧ G r = some (.tup [.str wd, .ref t]) ∧ LT G wds wd tv := fun i x G s e => by
    rw [List.getElem?_map] at e
    obtain ⟨r, hr, rfl⟩ := Option.map_eq_some_iff.mp e
    obtain ⟨wd, t, tv, a, b, c⟩ := rlt.same s i r hr
    exact ⟨r, wd, t, tv, rfl, a, c⟩
  -- calls
  refine ⟨_, rfl, rl, rfl, ⟨_, SqL.of hrl2⟩, fun D1 hD1 => dc_it (tk := fun _ _ _ => False) (tv := fun _ _ _ => False) walk_list (fun i H' => Same H2 H' ∧ H' D1 = some (.dK [])) ⟨Same.new hD1, upd_same⟩ (fun i H' _ z => z.1.seq (SqL.of hrl2)) ?_ ?_⟩
  · rintro i y G1 G2 hi ⟨s3, h3⟩ ⟨rfl, hx⟩
    obtain ⟨r, wd, t, tv, rfl, e, lt⟩ := row i y G2 s3 hx
    refine ⟨r, _, rfl, SqT.of e, rfl, _, _, rfl, _, _, rfl, rfl, rfl, _, rfl, rfl, _, rfl, ?_⟩
    rw [decide_eq_false (fun c => lt.word.2.2.2.2.1 (V.str.inj c))]
    exact iteF ⟨s3, h3⟩
  rintro G3 ⟨s3, h3⟩
  -- measured
  refine ⟨_, rfl, rl, rfl, ⟨_, SqL.of (s3 _ _ hrl2)⟩, fun D2 hD2 => lc_it (te := fun _ _ _ => False) walk_list (fun i H' => Same G3 H' ∧ H' D2 = some (.lst [])) ⟨Same.new hD2, upd_same⟩ (fun i H' _ z => z.1.seq (SqL.of (s3 _ _ hrl2))) ?_ ?_⟩
  · rintro i y G1 G2 hi ⟨s4, h4⟩ ⟨rfl, hx⟩
    obtain ⟨r, wd, t, tv, rfl, e, lt⟩ := row i y G2 (s3.trans s4) hx
    refine ⟨r, _, rfl, SqT.of e, rfl, _, _, rfl, _, _, rfl, rfl, rfl, _, rfl, rfl, _, rfl, ?_⟩
    rw [decide_eq_false (fun c => lt.word.2.2.2.1 (V.str.inj c))]
    exact iteF ⟨s4, h4⟩
  rintro G4 ⟨s4, h4⟩
  have h34 := s4 _ _ h3
  -- the functions that are called: none
  refine ⟨D1, .dK [], h34, trivial, fun od => ?_⟩
  refine ⟨_, rfl, D1, od, rfl, .inl ⟨[], upd_same, for_it walk_keys (fun i σ' H' => σ' = [some (.ref a), some (.str (textOf ls)), some fv, some (.ref rl), some (.ref wa), some (.ref bt), some (.int (rs.length : Nat)), some (.ref D1), some (.ref D2), none, none, none, none, none, none] ∧ H' = upd G4 D1 (.frz od (.dK []))) ⟨rfl, rfl⟩ (fun i σ' H' _ z => by rw [z.2]; exact upd_same) (fun i x σ' H' H'' hi => absurd hi (Nat.not_lt_zero _)) ?_⟩⟩
  rintro σ' H' ⟨rfl, rfl⟩
  refine ⟨upd_same, ?_⟩
  have s5 : Same G4 (upd (upd G4 D1 (.frz od (.dK []))) D1 (.dK [])) := fun c v e => by
    by_cases q : c = D1
    · rw [q] at e ⊢
      rw [h34] at e
      cases e
      exact upd_same
    · rw [upd_ne q, upd_ne q]; exact e
  generalize upd (upd G4 D1 (.frz od (.dK []))) D1 (.dK []) = G5 at s5 ⊢
  have s25 := (s3.trans s4).trans s5
  have h5 := s5 _ _ h4
  -- registers
  refine ⟨_, rfl, rl, rfl, ⟨_, SqL.of (s25 _ _ hrl2)⟩, fun D3 hD3 => lc_it walk_list (fun i H' => Same G5 H' ∧ H' D3 = some (.lst (((ls.take i).map fun l => decide (l.w ∈ (["input", "give"] : List Str))).map V.bl))) ⟨Same.new hD3, upd_same⟩ (fun i H' _ z => z.1.seq (SqL.of (s25 _ _ hrl2))) ?_ ?_⟩
  · rintro i y G1 G2 hi ⟨s6, h6⟩ ⟨rfl, hx⟩
    obtain ⟨r, l, rfl, hr', hl, rw6⟩ := row_get (RowsAt.same (s25.trans s6) rows2) hx
    obtain ⟨t, vs, g1, g2, g3⟩ := rw6.ex
    refine ⟨r, _, rfl, SqT.of g1, rfl, _, _, rfl, _, _, rfl, rfl, rfl, _, rfl, by show 2 ≤ sizeLine; decide, fun p hp => ?_⟩
    refine ⟨p, [.str "input", .str "give"], rfl, .inr (SqT.of upd_same), rfl, CF.flat_strs ["input", "give"], ?_⟩
    rw [if_neg (by decide)]
    have e : inV (.str l.w) [.str "input", .str "give"] = decide (l.w ∈ (["input", "give"] : List Str)) := by
      rw [show ([.str "input", .str "give"] : List V) = (["input", "give"] : List Str).map V.str from rfl, CF.inV_strs]
    rw [e]
    have sp := Same.new (o := .tup [.str "input", .str "give"]) hp
    have h6' := sp _ _ h6
    refine ⟨_, h6', ?_, same_put (s6.trans sp) hD3 h6', ?_⟩
    · rw [List.length_map, List.length_map]
      have := List.length_take_le i ls
      have := lk.n40
      have : (ls.take i).length ≤ ls.length := by rw [List.length_take]; omega
      omega
    · have tm : (ls.take (i + 1)).map (fun l => decide (l.w ∈ (["input", "give"] : List Str))) = (ls.take i).map (fun l => decide (l.w ∈ (["input", "give"] : List Str))) ++ [decide (l.w ∈ (["input", "give"] : List Str))] := by
        rw [List.take_add_one, hl, List.map_append]; rfl
      rw [tm, List.map_append]
      exact upd_same
  rintro G6 ⟨s6, h6⟩
  have tk : ls.take (rs.map V.ref).length = ls := List.take_of_length_le (by rw [List.length_map]; omega)
  rw [tk] at h6
  refine ⟨D3, _, rfl, SqL.of h6, ?_⟩
  have reg : (ls.map fun l => decide (l.w ∈ (["input", "give"] : List Str))).any id = hasReg ls := by
    rw [List.any_map]; rfl
  rw [reg]
  have s26 := s25.trans s6
  have hbt6 := s26 _ _ hbt
  have h56 := s6 _ _ h5
  -- parts
  refine ⟨fun σ' H' => ∃ (pt : Addr) (us : List V), σ' = [some (.ref a), some (.str (textOf ls)), some fv, some (.ref rl), some (.ref wa), some (.ref bt), some (.int (rs.length : Nat)), some (.ref D1), some (.ref D2), none, none, some (.bl (hasReg ls)), some (.ref pt), none, none] ∧ Same G6 H' ∧ H' pt = some (.tup us) ∧ us.length ≤ 1, ?_, ?_⟩
  · refine ⟨_, rfl, _, .inr (.inl ⟨_, SqT.of hbt6, rfl⟩), ?_⟩
    cases e : (!(bs.map V.ref).isEmpty) with
    | true =>
      refine iteT ⟨_, rfl, by show 1 ≤ sizeLine; decide, fun p hp => ⟨p, _, rfl, Same.new hp, upd_same, Nat.le_refl _⟩⟩
    | false =>
      exact iteF ⟨by show 0 ≤ sizeLine; decide, fun p hp => ⟨p, _, rfl, Same.new hp, upd_same, Nat.zero_le _⟩⟩
  rintro σ' G7 ⟨pt, us, rfl, s7, h7, u1⟩
  have s27 := s26.trans s7
  have s07 := s12.trans s27
  refine ⟨_, rfl, _, rfl, _, rfl, _, _, rfl, .inr ⟨_, s07.tup hT, rfl⟩, bt, bs, _, rfl, by rw [List.length_map]; exact n3, s27 _ _ hbt, fun o ho => (la o ho).same s27, fun ot os G8 s8 hot ol pr => ?_⟩
  refine ⟨_, rfl, _, rfl, _, rfl, fun x dx hx hdx ne => ?_⟩
  rw [List.length_map] at ol
  have zz : Same G8 (upd (upd G8 dx (.own x)) x (.ins C dx [])) := made_same hx hdx (But.refl x _)
  refine ⟨x, dx, pt, ot, D2, us, os, [], _, hasReg ls, rfl, upd_same, zz _ _ (s8 _ _ h7), zz _ _ hot, by omega, by omega, pr.same zz, zz _ _ (s8 _ _ (s7 _ _ h56)), Nat.zero_le _, (fun m hm => by cases hm), fun H9 but hb => ⟨rfl, ?_⟩⟩
  have s89 := made_same hx hdx but
  have sF := (s07.trans s8).trans s89
  refine k x H9 sF (Same.free (s07.trans s8) hx) ?_
  obtain ⟨dx', pt', ot', rc, us', os', xx, yy, far, md, cv, b1, b2, b3, b4, b5, b6, b7⟩ := hb
  exact ⟨dx', pt', ot', rc, us', os', xx, yy, far, md, cv, b1, b2, Nat.le_trans b3 u1, b4, by omega, b6, b7⟩

end
end K18
end
section
set_option Elab.async false
set_option linter.all false
set_option maxRecDepth 100000
set_option maxHeartbeats 4000000
namespace K18
open PySem PySem.Spec PyProof.Rows L2
open PySem.W (ke_shaped_ints)
local macro_rules | `(tactic| walk_at "go") => `(tactic| first | refine ⟨_, rfl, ?_⟩ | refine .inl ⟨_, rfl, ?_⟩ | refine ⟨_, _, rfl, rfl, (by first | (show (0 : Int) < _; decide) | exact Or.inl ⟨by decide, by decide⟩ | exact Or.inr ⟨by decide, by decide⟩), ?_⟩ | refine ⟨_, _, rfl, rfl, ?_⟩)
section
variable {P : Program} {w : World} {K : PySem.W.Frag} {mg : Str → Option Value} {base : Heap}

/-- bodies over n pointers, of np parts at most -/
def Bodies (C : Addr) (H : Hp) (ms : List Addr) (n np : Nat) : Prop := ∀ m ∈ ms, ∃ reg, BodyAt C H m n reg np
theorem Bodies.same {C : Addr} {H H' : Hp} {ms : List Addr} {n np : Nat} (h : Bodies C H ms n np) (s : Same H H') : Bodies C H' ms n np := fun m hm => by
  obtain ⟨r, b⟩ := h m hm
  exact ⟨r, b.same s⟩
/-- joined_offsets(bodies) -/
def spJoinedOff (C : Addr) : Sp := fun vs H Q _ => ∃ (bl : Addr) (ms : List Addr) (n np : Nat), vs = [.ref bl] ∧ H bl = some (.lst (ms.map V.ref)) ∧ 1 ≤ ms.length ∧ ms.length ≤ 1000 ∧ n ≤ 3 ∧ Bodies C H ms n np ∧
  ∀ (r : Addr) (os : List Addr) (H' : Hp), Same H H' → H' r = some (.tup (os.map V.ref)) → os.length = n → Pairs H' os → Q (.ref r) H'
abbrev s_joined_offsets : Stmt := topS 81
theorem sc_joined_offsets : FnScope ["bodies", "many", "index", "body"] ["bodies"] (defScope s_joined_offsets) := ⟨rfl, rfl, rfl, by decide +kernel, rfl, by decide +kernel, by decide +kernel⟩
theorem ok_joined_offsets (T : TxtP K mg) (Tq : PL.TxtQ K w mg) (D : Def K mg "joined_offsets" s_joined_offsets) {C : Addr} (BC : BodyC K C) (C_reach_of : Cal P w K mg base 1 "reach_of" ["offsets"] (spReachOf K)) : Cal P w K mg base 2 "joined_offsets" ["bodies"] (spJoinedOff C) := by
  refine D.cal sc_joined_offsets (fun vs H Q E h => ?_) (fun _ _ _ _ _ _ us hl => match us, hl with | [_], _ => rfl) (fun f cdv A outer s H vs Q E hr h => ?_)
  · obtain ⟨bl, ms, n, np, rfl, _⟩ := h
    rfl
  have hu := hu_of hr

  obtain ⟨bl, ms, n, np, rfl, hL, l1, l2, n3, hB, k⟩ := h
  have big : sizeLine = 16777216 := sizeLine_eq
  obtain ⟨m0, ms', rfl⟩ : ∃ m ms', ms = m :: ms' := by
    cases ms with
    | nil => cases l1
    | cons m r => exact ⟨m, r, rfl⟩
  obtain ⟨reg0, dx0, pt0, ot0, rc0, us0, os0, x0, y0, far0, md0, cv0, b1, b2, b3, b4, b5, b6, b7⟩ := hB m0 List.mem_cons_self
  refine ⟨_, (pss_cons (ps_set (i := 1) sc_joined_offsets.nd rfl (by first | exact Or.inl rfl | exact Or.inr rfl) (pe_callB call_len (by rfl) T.f_len PySem.boot_len (pa_cons (pe_fld (pe_ix ix_list (pv 0) pe_int (fun _ _ => rfl)) rfl) pa_nil)))
      (pss_one (ps_ret (pe_callTy call_tuple_of (by rfl) T.f_tuple (by decide +kernel) (pa_cons (pe_lc (own := [("index", 2)]) (g := gName 2) (tt := tYes) (te := tCall (spReachOf K) [] E0 (tCons (tLc (iList K (tVar 0)) (gName 3) tYes (tOp (rIxT K) (tFld K (tVar 3) "offsets") (tVar 2)) [3]) tNil)) rfl sc_joined_offsets.nd (pi_range1 rfl Tq.f_range (pa_cons (pv 1) pa_nil)) (blkOk_by (N := ["bodies", "many", "index", "body"]) (sc := defScope s_joined_offsets) (by decide +kernel)) (fun _ _ _ _ _ => (pg_name (i := 2) sc_joined_offsets.nd rfl (by first | exact Or.inl rfl | exact Or.inr rfl))) (fun _ _ _ _ _ => pts_nil) (fun _ _ _ _ _ => (pe_cal C_reach_of (hr.mono (by decide)) rfl (pa_cons (by
        refine pe_lc (own := [("body", 3)]) (g := gName 3) (tt := tYes) (te := (tOp (rIxT K) (tFld K (tVar 3) "offsets") (tVar 2))) (wi := iList K (tVar 0)) rfl ?_ ?_ ?_ ?_ ?_ ?_
        · exact sc_joined_offsets.nd
        · exact pi_list (pv 0)
        · exact blkOk_by (by rfl)
        · exact fun _ _ _ _ _ => pg_name (i := 3) sc_joined_offsets.nd rfl (by first | exact Or.inl rfl | exact Or.inr rfl)
        · exact fun _ _ _ _ _ => pts_nil
        · exact fun _ _ _ _ _ => (pe_ix ix_tup (pe_fld (pv 3) rfl) (pv 2) (fun _ _ => rfl))) pa_nil)))) pa_nil))))), ?_⟩
  refine ⟨_, rfl, bl, _, _, _, rfl, rfl, SqL.of hL, atI_nat (j := 0) rfl, m0, C, dx0, _, _, rfl, b1, BC.cl, BC.n_offsets, rfl, _, _, rfl, .inr ⟨_, SqT.of b4, rfl⟩, ?_⟩
  have ol : (os0.map V.ref).length = n := by rw [List.length_map, b5]
  rw [ol]
  refine ⟨_, rfl, n, rfl, by omega, by omega, fun D hD => lc_it walk_range (fun i H' => Same H H' ∧ ∃ os : List Addr, H' D = some (.lst (os.map V.ref)) ∧ os.length = i ∧ Pairs H' os) ⟨Same.new hD, [], upd_same, rfl, by intro o ho; cases ho⟩ (fun _ _ _ _ => True.intro) ?_ ?_⟩
  · rintro i y G1 G2 hi ⟨s1, os, h1, ol1, pr⟩ ⟨rfl, rfl⟩
    have hL1 := s1 _ _ hL
    refine ⟨rfl, _, rfl, bl, rfl, ⟨_, SqL.of hL1⟩, fun D2 hD2 => lc_it walk_list (fun j H' => Same G2 H' ∧ ∃ qs : List Addr, H' D2 = some (.lst (qs.map V.ref)) ∧ qs.length = j ∧ Pairs H' qs) ⟨Same.new hD2, [], upd_same, rfl, by intro o ho; cases ho⟩ (fun j H' _ z => z.1.seq (SqL.of hL1)) ?_ ?_⟩
    · rintro j y G3 G4 hj ⟨s2, qs, h2, ql, pr2⟩ ⟨rfl, hx⟩
      rw [List.getElem?_map] at hx
      obtain ⟨m, hm, rfl⟩ := Option.map_eq_some_iff.mp hx
      obtain ⟨reg, dx, pt, ot, rc, us, os2, x, y, far, md, cv, c1, c2, c3, c4, c5, c6, c7⟩ := (hB.same (s1.trans s2)) m (List.mem_of_getElem? hm)
      rw [List.length_map] at hj
      have ho : os2[i]? = some os2[i] := List.getElem?_eq_getElem (by omega)
      generalize os2[i] = o at ho
      have ho' : (os2.map V.ref)[i]? = some (.ref o) := by rw [List.getElem?_map, ho]; rfl
      obtain ⟨p, q, e⟩ := c6 o (List.mem_of_getElem? ho)
      refine ⟨rfl, _, rfl, m, C, dx, _, _, rfl, c1, BC.cl, BC.n_offsets, rfl, ?_⟩
      refine ⟨_, rfl, ot, _, _, _, rfl, rfl, SqT.of c4, by rw [Int.zero_add]; exact atI_nat ho', _, h2, by rw [List.length_map]; omega, same_put s2 hD2 h2, qs ++ [o], ?_, by rw [List.length_append, List.length_singleton, ql], (pr2.snoc e).put h2⟩
      rw [List.map_append]; exact upd_same
    · rintro G3 ⟨s2, qs, h2, ql, pr2⟩
      rw [List.length_map] at ql
      refine ⟨D2, qs, rfl, .inl (SqL.of h2), by omega, by omega, pr2, fun r x y G5 s3 hr => ?_⟩
      have s23 := s2.trans s3
      have h5 := s23 _ _ h1
      refine ⟨_, h5, by rw [List.length_map]; omega, same_put (s1.trans s23) hD h5, os ++ [r], ?_, by rw [List.length_append, List.length_singleton, ol1], ?_⟩
      · rw [List.map_append]; exact upd_same
      · exact ((pr.same s23).snoc hr).put h5
  · rintro G ⟨s1, os, h1, ol1, pr⟩
    refine ⟨D, _, rfl, .inl ⟨SqL.of h1, fun t ht => ?_⟩⟩
    exact k t os _ (s1.trans (Same.new ht)) upd_same ol1 (pr.same (Same.new ht))



theorem lc2_out {J : It} {n : Nat} {G : Hp → Prop} {Y : Nat → Hp → V → Hp → Prop} (w : Walk J n G Y) {g : TG} {tt : TT} {vs : List Nat} {σ : L2.St} {H1 : Hp} {D : Addr} {Qd : Hp → Prop} {INN : (Hp → Prop) → L2.St → Hp → Prop} (Pv : Nat → Hp → Prop) (h0 : Pv 0 (upd H1 D (.lst []))) (hG : ∀ i H, i ≤ n → Pv i H → G H)
    (hs : ∀ i x H H', i < n → Pv i H → Y i H x H' → g x (wipe σ vs) H' fun σ2 H2 => wipe σ2 vs = wipe σ vs ∧ tt σ2 H2 fun b H3 => if b = true then INN (Pv (i + 1)) σ2 H3 else Pv (i + 1) H3) (hd : ∀ H, Pv n H → Qd H) :
    ∃ W : Nat → Nat → Hp → Prop, (∃ m, W 0 m (upd H1 D (.lst []))) ∧ ∀ i m H, W i m H →
      (J.stop i H ∧ Qd H) ∨ (J.go i H ∧ ∃ Nx : Hp → Prop, (∀ H', Nx H' → ∃ m', m' < m ∧ W (i + 1) m' H') ∧ ∀ x H', J.yld i H x H' → g x (wipe σ vs) H' fun σ2 H2 => wipe σ2 vs = wipe σ vs ∧ tt σ2 H2 fun b H3 => if b = true then INN Nx σ2 H3 else Nx H3) := by
  refine ⟨fun i m H => m = n - i ∧ i ≤ n ∧ Pv i H, ⟨n, by simp, Nat.zero_le _, h0⟩, ?_⟩
  rintro i m H ⟨rfl, hi, p⟩
  have q := hG i H hi p
  by_cases hlt : i < n
  · refine .inr ⟨w.goes i H hlt q, Pv (i + 1), fun H' p' => ⟨n - (i + 1), by omega, rfl, hlt, p'⟩, fun x H' y => hs i x H H' hlt p (w.yields i H x H' hlt q y)⟩
  · have e : i = n := by omega
    subst e
    exact .inl ⟨w.stops H q, hd H p⟩
theorem lc2_in {J : It} {n : Nat} {G : Hp → Prop} {Y : Nat → Hp → V → Hp → Prop} (w : Walk J n G Y) {BODY : (Hp → Prop) → V → Hp → Prop} {H4 : Hp} {Nx : Hp → Prop} (Pv : Nat → Hp → Prop) (h0 : Pv 0 H4) (hG : ∀ i H, i ≤ n → Pv i H → G H)
    (hs : ∀ i x H H', i < n → Pv i H → Y i H x H' → BODY (Pv (i + 1)) x H') (hd : ∀ H, Pv n H → Nx H) :
    ∃ W1 : Nat → Nat → Hp → Prop, (∃ m, W1 0 m H4) ∧ ∀ j k H, W1 j k H → (J.stop j H ∧ Nx H) ∨ (J.go j H ∧ ∃ Nx1 : Hp → Prop, (∀ H', Nx1 H' → ∃ k', k' < k ∧ W1 (j + 1) k' H') ∧ ∀ x H', J.yld j H x H' → BODY Nx1 x H') := by
  refine ⟨fun i m H => m = n - i ∧ i ≤ n ∧ Pv i H, ⟨n, by simp, Nat.zero_le _, h0⟩, ?_⟩
  rintro i m H ⟨rfl, hi, p⟩
  have q := hG i H hi p
  by_cases hlt : i < n
  · refine .inr ⟨w.goes i H hlt q, Pv (i + 1), fun H' p' => ⟨n - (i + 1), by omega, rfl, hlt, p'⟩, fun x H' y => hs i x H H' hlt p (w.yields i H x H' hlt q y)⟩
  · have e : i = n := by omega
    subst e
    exact .inl ⟨w.stops H q, hd H p⟩
/-- joined_body(bodies) -/
def spJoinedBody (C : Addr) : Sp := fun vs H Q _ => ∃ (bl : Addr) (ms : List Addr) (n np : Nat), vs = [.ref bl] ∧ H bl = some (.lst (ms.map V.ref)) ∧ 1 ≤ ms.length ∧ ms.length ≤ 5 ∧ 1 ≤ n ∧ n ≤ 3 ∧ np ≤ 1000 ∧ Bodies C H ms n np ∧
  ∀ (b : Addr) (H' : Hp), Same H H' → H b = none → BodyAt C H' b n false (ms.length * np) → Q (.ref b) H'
abbrev s_joined_body : Stmt := topS 80
theorem sc_joined_body : FnScope ["bodies", "parts", "body", "part"] ["bodies"] (defScope s_joined_body) := ⟨rfl, rfl, rfl, by decide +kernel, rfl, by decide +kernel, by decide +kernel⟩
theorem ok_joined_body (T : TxtP K mg) (Tq : PL.TxtQ K w mg) (D : Def K mg "joined_body" s_joined_body) {C : Addr} (BC : BodyC K C) (C_joined_offsets : Cal P w K mg base 2 "joined_offsets" ["bodies"] (spJoinedOff C)) (M_Body : Mkc P w K mg base 2 "Body" C ["self", "parts", "offsets", "measured", "calls", "has_registers"] (spBodyInit C)) : Cal P w K mg base 4 "joined_body" ["bodies"] (spJoinedBody C) := by
  refine D.cal sc_joined_body (fun vs H Q E h => ?_) (fun _ _ _ _ _ _ us hl => match us, hl with | [_], _ => rfl) (fun f cdv A outer s H vs Q E hr h => ?_)
  · obtain ⟨bl, ms, n, np, rfl, _⟩ := h
    rfl
  have hu := hu_of hr

  obtain ⟨bl, ms, n, np, rfl, hL, l1, l5, n1, n3, np1, hB, k⟩ := h
  have big : sizeLine = 16777216 := sizeLine_eq
  refine ⟨_, (pss_cons (ps_setLc2 (i := 1) (own := [("body", 2), ("part", 3)]) (vs1 := [3]) (wi1 := iTup K (tFld K (tVar 2) "parts")) (g := gName 2) (g1 := gName 3) (tt := tYes) (tt1 := tYes) (te := tVar 3) rfl sc_joined_body.nd rfl rfl (sw_true rfl rfl rfl (by decide +kernel)) (pi_list (pv 0)) (blkOk_by (N := ["bodies", "parts", "body", "part"]) (sc := defScope s_joined_body) (by decide +kernel)) (by decide) (fun _ _ _ _ _ => (pg_name (i := 2) sc_joined_body.nd rfl (by first | exact Or.inl rfl | exact Or.inr rfl))) (fun _ _ _ _ _ => pts_nil) (fun _ _ _ _ _ => (pi_tup (pe_fld (pv 2) rfl))) (fun _ _ _ _ _ => (pg_name (i := 3) sc_joined_body.nd rfl (by first | exact Or.inl rfl | exact Or.inr rfl))) (fun _ _ _ _ _ => pts_nil) (fun _ _ _ _ _ => (pv 3)))
      (pss_one (ps_ret (pe_mkc M_Body (hr.mono (by decide)) rfl (pa_cons (pe_callTy call_tuple_of (by rfl) T.f_tuple (by decide +kernel) (pa_cons (pv 1) pa_nil)) (pa_cons (pe_cal C_joined_offsets (hr.mono (by decide)) rfl (pa_cons (pv 0) pa_nil)) (pa_cons (pv 0) (pa_cons pe_dnewK (pa_cons pe_bl pa_nil))))))))), ?_⟩
  refine ⟨_, rfl, bl, rfl, ⟨_, SqL.of hL⟩, fun D hD => lc2_out (INN := fun Nx σ2 H3 => iTup K (tFld K (tVar 2) "parts") σ2 H3 fun J1 H4 => ∃ W1 : Nat → Nat → Hp → Prop, (∃ m, W1 0 m H4) ∧ ∀ j k H, W1 j k H → (J1.stop j H ∧ Nx H) ∨ (J1.go j H ∧ ∃ Nx1 : Hp → Prop, (∀ H', Nx1 H' → ∃ k', k' < k ∧ W1 (j + 1) k' H') ∧ ∀ x H', J1.yld j H x H' → gName 3 x (wipe σ2 [3]) H' fun σ3 H5 => wipe σ3 [3] = wipe σ2 [3] ∧ tYes σ3 H5 fun b H6 =>
        if b = true then tVar 3 σ3 H6 fun y H7 => ∃ acc, H7 D = some (.lst acc) ∧ acc.length < sizeLine ∧ Nx1 (upd H7 D (.lst (acc ++ [y]))) else Nx1 H6)) walk_list (fun i H' => Same H H' ∧ ∃ us, H' D = some (.lst us) ∧ us.length ≤ i * np) ⟨Same.new hD, [], upd_same, Nat.zero_le _⟩ (fun i H' _ z => z.1.seq (SqL.of hL)) ?_ ?_⟩
  · rintro i y G1 G2 hi ⟨s1, us, h1, ul⟩ ⟨rfl, hx⟩
    rw [List.getElem?_map] at hx
    obtain ⟨m, hm, rfl⟩ := Option.map_eq_some_iff.mp hx
    rw [List.length_map] at hi
    obtain ⟨reg, dx, pt, ot, rc, us2, os2, x, y, far, md, cv, c1, c2, c3, c4, c5, c6, c7⟩ := (hB.same s1) m (List.mem_of_getElem? hm)
    have m5 : i * np ≤ 5 * 1000 := Nat.mul_le_mul (by omega) np1
    refine ⟨rfl, _, rfl, m, C, dx, _, _, rfl, c1, BC.cl, BC.n_parts, rfl, pt, rfl, ⟨_, SqT.of c2⟩, ?_⟩
    refine lc2_in (BODY := fun Nx1 x H' => gName 3 x _ H' fun σ3 H5 => wipe σ3 [3] = _ ∧ tYes σ3 H5 fun b H6 => if b = true then tVar 3 σ3 H6 fun y H7 => ∃ acc, H7 D = some (.lst acc) ∧ acc.length < sizeLine ∧ Nx1 (upd H7 D (.lst (acc ++ [y]))) else Nx1 H6) (walk_tup (K := K) (a := pt) (xs := us2)) (fun j H' => Same H H' ∧ H' pt = some (.tup us2) ∧ ∃ vs, H' D = some (.lst vs) ∧ vs.length ≤ i * np + j) ⟨s1, c2, us, h1, ul⟩ (fun j H' _ z => SqT.of z.2.1) ?_ ?_
    · rintro j x G3 G4 hj ⟨s2, p2, vs, h2, vl⟩ ⟨rfl, hx2⟩
      refine ⟨rfl, _, rfl, vs, h2, by omega, same_put s2 hD h2, ?_, vs ++ [x], upd_same, by rw [List.length_append, List.length_singleton]; omega⟩
      rw [upd_ne (ne_of p2 h2 (by intro z; cases z))]
      exact p2
    · rintro G ⟨s2, p2, vs, h2, vl⟩
      refine ⟨s2, vs, h2, ?_⟩
      rw [Nat.add_mul, Nat.one_mul]
      omega
  · rintro G ⟨s1, us, h1, ul⟩
    rw [List.length_map] at ul
    refine ⟨_, rfl, D, us, rfl, .inl ⟨SqL.of h1, fun pt hpt => ?_⟩⟩
    have s2 := s1.trans (Same.new (o := .tup us) hpt)
    have h2 : upd G pt (.tup us) pt = some (.tup us) := upd_same
    generalize upd G pt (.tup us) = G2 at s2 h2 ⊢
    refine ⟨_, rfl, bl, ms, n, np, rfl, s2 _ _ hL, l1, by omega, n3, hB.same s2, fun ot os G3 s3 hot ol pr => ⟨_, rfl, fun D3 hD3 => ?_⟩⟩
    have s4 := s3.trans (Same.new (o := .dK []) hD3)
    have hot4 := Same.new (o := .dK []) hD3 _ _ hot
    have pr4 := pr.same (Same.new (o := .dK []) hD3)
    generalize upd G3 D3 (.dK []) = G4 at s4 hot4 pr4 ⊢
    refine fun x dx hx hdx ne => ?_
    have zz : Same G4 (upd (upd G4 dx (.own x)) x (.ins C dx [])) := made_same hx hdx (But.refl x _)
    have s24 := s2.trans s4
    refine ⟨x, dx, pt, ot, bl, us, os, ms, _, false, rfl, upd_same, zz _ _ (s4 _ _ h2), zz _ _ hot4, by omega, by omega, pr4.same zz, zz _ _ (s24 _ _ hL), by omega, fun m hm => ?_, fun H9 but hb => ⟨rfl, ?_⟩⟩
    · obtain ⟨reg, b⟩ := (hB.same s24).same zz m hm
      exact b.far
    · refine k x H9 (s24.trans (made_same hx hdx but)) (Same.free s24 hx) ?_
      obtain ⟨dx', pt', ot', rc, us', os', xx, yy, far, md, cv, b1, b2, b3, b4, b5, b6, b7⟩ := hb
      exact ⟨dx', pt', ot', rc, us', os', xx, yy, far, md, cv, b1, b2, Nat.le_trans b3 ul, b4, by omega, b6, b7⟩

end
end K18
end
section
set_option Elab.async false
set_option linter.all false
set_option maxRecDepth 100000
set_option maxHeartbeats 4000000
namespace K18
open PySem PySem.Spec PyProof.Rows L2
open PySem.W (ke_shaped_ints)
local macro_rules | `(tactic| walk_at "go") => `(tactic| first | refine ⟨_, rfl, ?_⟩ | refine .inl ⟨_, rfl, ?_⟩ | refine ⟨_, _, rfl, rfl, (by first | (show (0 : Int) < _; decide) | exact Or.inl ⟨by decide, by decide⟩ | exact Or.inr ⟨by decide, by decide⟩), ?_⟩ | refine ⟨_, _, rfl, rfl, ?_⟩)
section
variable {P : Program} {w : World} {K : PySem.W.Frag} {mg : Str → Option Value} {base : Heap}

def pfields (v1 v2 v3 v4 v5 v6 : V) : List (Str × V) := [("pointers", v1), ("text", v2), ("body", v3), ("reach", v4), ("far", v5), ("modulus", v6)]
structure ProgC (K : PySem.W.Frag) (C : Addr) : Prop where
  cl : Cls K C
  n_pointers : NoAttr K C "pointers"
  n_text : NoAttr K C "text"
  n_body : NoAttr K C "body"
  n_reach : NoAttr K C "reach"
  n_far : NoAttr K C "far"
  n_modulus : NoAttr K C "modulus"

theorem BodyAt.but {CB CP : Addr} {H H' : Hp} {o dx b : Addr} {fs : List (Str × V)} {n np : Nat} {reg : Bool} (h : BodyAt CB H b n reg np) (B : But o H H') (ho : H o = some (.ins CP dx fs)) (ne : CB ≠ CP) : BodyAt CB H' b n reg np := by
  obtain ⟨dx', pt', ot', rc, us', os', xx, yy, far, md, cv, b1, b2, b3, b4, b5, b6, b7⟩ := h
  refine ⟨dx', pt', ot', rc, us', os', xx, yy, far, md, cv, B _ _ (fun z => ?_) b1, but_tup B ho b2, b3, but_tup B ho b4, b5, b6.but B ho, but_tup B ho b7⟩
  rw [z, ho] at b1
  cases b1
  exact ne rfl
/-- a program over these pointers, of np parts at most -/
def ProgAt (K : PySem.W.Frag) (CB CP : Addr) (H : Hp) (p : Addr) (ps : List Str) (txt : Str) (reg : Bool) (np : Nat) : Prop := ∃ (dx pt b : Addr) (v4 v5 v6 : V), H p = some (.ins CP dx (pfields (.ref pt) (.str txt) (.ref b) v4 v5 v6)) ∧ SqT K H pt (ps.map V.str) ∧ BodyAt CB H b ps.length reg np
theorem ProgAt.same {K : PySem.W.Frag} {CB CP : Addr} {H H' : Hp} {p : Addr} {ps : List Str} {txt : Str} {reg : Bool} {np : Nat} (h : ProgAt K CB CP H p ps txt reg np) (s : Same H H') : ProgAt K CB CP H' p ps txt reg np := by
  obtain ⟨dx, pt, b, v4, v5, v6, a, c, d⟩ := h
  exact ⟨dx, pt, b, v4, v5, v6, s _ _ a, s.tup c, d.same s⟩
/-- Program.__init__ of right pointers and right lines -/
def spProgInit (K : PySem.W.Frag) (CB CP : Addr) : Sp := fun vs H Q _ => ∃ (o dx pa : Addr) (ps : List Str) (ls : List PL.Ln) (wds : Str → Option Int), vs = [.ref o, .ref pa, .str (textOf ls)] ∧ H o = some (.ins CP dx []) ∧ (SqL K H pa (ps.map V.str) ∨ SqT K H pa (ps.map V.str)) ∧ CF.Names ps ∧ LinesOk ps ls wds ∧ StOk ls wds ∧
  ∀ H', But o H H' → ProgAt K CB CP H' o ps (textOf ls) (hasReg ls) 1 → Q .non H'
abbrev s_Program___init__ : Stmt := inClass (topS 108) 0
theorem sc_Program___init__ : FnScope ["self", "pointers", "text"] ["self", "pointers", "text"] (defScope s_Program___init__) := ⟨rfl, rfl, rfl, by decide +kernel, rfl, by decide +kernel, by decide +kernel⟩
theorem ok_prog_init {CB CP f : Addr} {fd : FuncData} (ne : CB ≠ CP) (BC : BodyC K CB) (PC : ProgC K CP) (F : FunD K "__init__" "Program.__init__" (defArgs s_Program___init__) (defBody s_Program___init__) (defScope s_Program___init__) [] [] f fd)
    (C_read_pointers : Cal P w K mg base 2 "read_pointers" ["pointers"] (spReadPointers K)) (C_read_body : Cal P w K mg base 9 "read_body" ["pointers", "text", "functions"] (spReadBody K CB)) :
    FnOk P w K mg base CX0 10 f fd ["self", "pointers", "text"] (spProgInit K CB CP) := by
  refine F.ok sc_Program___init__ (fun vs H Q E h => by obtain ⟨o, dx, pa, ps, ls, wds, rfl, _⟩ := h; rfl) (fun cdv A outer s H vs Q E hr h => ?_)
  suffices z : ∃ t, PSs (cxOf CX0 P w K mg base ["self", "pointers", "text"] "Program.__init__" (defScope s_Program___init__) f cdv A outer s H E).nox (defBody s_Program___init__) t ∧ t { nx := fun _ H' => Q .non H', rt := Q } (start ["self", "pointers", "text"] vs) H by
    obtain ⟨t, h1, h2⟩ := z
    exact ⟨t, h1.nox, h2⟩
  obtain ⟨o, dx, pa, ps, ls, wds, rfl, ho, hs, nm, lk, st, k⟩ := h
  refine ⟨_, (pss_cons (ps_fld (pv 0) (pe_cal C_read_pointers (hr.mono (by decide)) rfl (pa_cons (pv 1) pa_nil)) rfl)
      (pss_cons (ps_fld (pv 0) (pv 2) rfl)
      (pss_cons (ps_fld (pv 0) (pe_cal C_read_body (hr.mono (by decide)) rfl (pa_cons (pe_fld (pv 0) rfl) (pa_cons (pv 2) (pa_cons pe_dnewK pa_nil)))) rfl)
      (pss_cons (ps_fld (pv 0) (pe_fld (pe_fld (pv 0) rfl) rfl) rfl)
      (pss_cons (ps_fld (pv 0) (pe_fld (pe_fld (pv 0) rfl) rfl) rfl)
      (pss_one (ps_fld (pv 0) (pe_fld (pe_fld (pv 0) rfl) rfl) rfl))))))), ?_⟩
  have lt : ∀ (l : List (Str × V)), l.length ≤ 7 → l.length < 1000 := fun l h => by omega
  refine ⟨_, rfl, pa, ps, rfl, hs, nm, fun pt H1 s1 hpt => ?_⟩
  refine ⟨_, rfl, o, CP, dx, _, rfl, s1 _ _ ho, PC.cl, PC.n_pointers, lt _ (Nat.le_of_ble_eq_true rfl), ?_⟩
  refine ⟨_, rfl, _, rfl, o, CP, dx, _, rfl, upd_same, PC.cl, PC.n_text, lt _ (Nat.le_of_ble_eq_true rfl), ?_⟩
  have U1 : But o H1 (upd (upd H1 o (.ins CP dx (putF "pointers" (.ref pt) []))) o (.ins CP dx (putF "text" (.str (textOf ls)) (putF "pointers" (.ref pt) [])))) := (But.upd _).trans (But.upd _)
  have g1 : upd (upd H1 o (.ins CP dx (putF "pointers" (.ref pt) []))) o (.ins CP dx (putF "text" (.str (textOf ls)) (putF "pointers" (.ref pt) []))) o = some (.ins CP dx [("pointers", .ref pt), ("text", .str (textOf ls))]) := upd_same
  generalize upd (upd H1 o (.ins CP dx (putF "pointers" (.ref pt) []))) o (.ins CP dx (putF "text" (.str (textOf ls)) (putF "pointers" (.ref pt) []))) = H2 at U1 g1 ⊢
  have pt2 : SqT K H2 pt (ps.map V.str) := U1.tupI (s1 _ _ ho) hpt
  have B2 : But o H H2 := (But.of s1).trans U1
  refine ⟨_, rfl, o, CP, dx, _, _, rfl, g1, PC.cl, PC.n_pointers, rfl, _, rfl, fun fd hfd => ?_⟩
  have s3 := Same.new (o := .dK []) hfd
  have pt3 := s3.tup pt2
  have g3 := s3 _ _ g1
  generalize upd H2 fd (.dK []) = H3 at s3 pt3 g3 ⊢
  refine ⟨pt, ps, ls, wds, _, rfl, pt3, nm, lk, st, fun b H4 s4 fb hb => ?_⟩
  refine ⟨_, rfl, o, CP, dx, _, rfl, s4 _ _ g3, PC.cl, PC.n_body, lt _ (Nat.le_of_ble_eq_true rfl), ?_⟩
  have g4 := s4 _ _ g3
  have U5 : But o H4 (upd H4 o (.ins CP dx (putF "body" (.ref b) [("pointers", .ref pt), ("text", .str (textOf ls))]))) := But.upd _
  have g5 : upd H4 o (.ins CP dx (putF "body" (.ref b) [("pointers", .ref pt), ("text", .str (textOf ls))])) o = some (.ins CP dx [("pointers", .ref pt), ("text", .str (textOf ls)), ("body", .ref b)]) := upd_same
  have B5 : But o H (upd H4 o (.ins CP dx (putF "body" (.ref b) [("pointers", .ref pt), ("text", .str (textOf ls))]))) := (B2.trans (But.of (s3.trans s4))).trans U5
  have pt5 := U5.tupI g4 (s4.tup pt3)
  have hb5 := hb.but U5 g4 ne
  generalize upd H4 o (.ins CP dx (putF "body" (.ref b) [("pointers", .ref pt), ("text", .str (textOf ls))])) = H5 at U5 g5 B5 pt5 hb5 ⊢
  obtain ⟨dxb, ptb, otb, rcb, usb, osb, xb, yb, farb, mdb, cvb, b1, b2, b3, b4, b5, b6, b7⟩ := id hb5
  have nb : b ≠ o := fun z => by rw [z, g5] at b1; cases b1
  refine ⟨_, rfl, o, CP, dx, _, _, rfl, g5, PC.cl, PC.n_body, rfl, b, CB, dxb, _, _, rfl, b1, BC.cl, BC.n_reach, rfl, ?_⟩
  refine ⟨_, rfl, o, CP, dx, _, rfl, g5, PC.cl, PC.n_reach, lt _ (Nat.le_of_ble_eq_true rfl), ?_⟩
  refine ⟨_, rfl, o, CP, dx, _, _, rfl, upd_same, PC.cl, PC.n_body, rfl, b, CB, dxb, _, _, rfl, (upd_ne nb).trans b1, BC.cl, BC.n_far, rfl, ?_⟩
  refine ⟨_, rfl, o, CP, dx, _, rfl, upd_same, PC.cl, PC.n_far, lt _ (Nat.le_of_ble_eq_true rfl), ?_⟩
  refine ⟨_, rfl, o, CP, dx, _, _, rfl, upd_same, PC.cl, PC.n_body, rfl, b, CB, dxb, _, _, rfl, (upd_ne nb).trans ((upd_ne nb).trans b1), BC.cl, BC.n_modulus, rfl, ?_⟩
  refine ⟨_, rfl, o, CP, dx, _, rfl, upd_same, PC.cl, PC.n_modulus, lt _ (Nat.le_of_ble_eq_true rfl), ?_⟩
  have U6 : ∀ x1 x2 x3, But o H5 (upd (upd (upd H5 o x1) o x2) o x3) := fun x1 x2 x3 => ((But.upd _).trans (But.upd _)).trans (But.upd _)
  refine k _ (B5.trans (U6 _ _ _)) ⟨dx, pt, b, _, _, _, upd_same, (U6 _ _ _).tupI g5 pt5, hb5.but (U6 _ _ _) g5 ne⟩


theorem text_nil : textOf [] = "" := by decide +kernel
theorem lines_nil {ps : List Str} : LinesOk ps [] (fun _ => none) := ⟨by simp, by simp, by simp, rfl, rfl⟩
theorem st_nil {wds : Str → Option Int} : StOk [] wds := by intro x z k h; cases h
/-- body_program(pointers, text, body) -/
def spBodyProgram (K : PySem.W.Frag) (CB CP : Addr) : Sp := fun vs H Q _ => ∃ (pa b : Addr) (ps : List Str) (txt : Str) (reg : Bool) (np : Nat), vs = [.ref pa, .str txt, .ref b] ∧ SqT K H pa (ps.map V.str) ∧ CF.Names ps ∧ BodyAt CB H b ps.length reg np ∧
  ∀ (p : Addr) (H' : Hp), Same H H' → H p = none → ProgAt K CB CP H' p ps txt reg np → Q (.ref p) H'
abbrev s_body_program : Stmt := topS 109
theorem sc_body_program : FnScope ["pointers", "text", "body", "program"] ["pointers", "text", "body"] (defScope s_body_program) := ⟨rfl, rfl, rfl, by decide +kernel, rfl, by decide +kernel, by decide +kernel⟩
theorem ok_body_program (T : TxtP K mg) (Tq : PL.TxtQ K w mg) (D : Def K mg "body_program" s_body_program) {CB CP : Addr} (ne : CB ≠ CP) (BC : BodyC K CB) (PC : ProgC K CP) (M_Program : Mkc P w K mg base 10 "Program" CP ["self", "pointers", "text"] (spProgInit K CB CP)) : Cal P w K mg base 12 "body_program" ["pointers", "text", "body"] (spBodyProgram K CB CP) := by
  refine D.cal sc_body_program (fun vs H Q E h => ?_) (fun _ _ _ _ _ _ us hl => match us, hl with | [_, _, _], _ => rfl) (fun f cdv A outer s H vs Q E hr h => ?_)
  · obtain ⟨pa, b, ps, txt, reg, np, rfl, _⟩ := h
    rfl
  have hu := hu_of hr

  obtain ⟨pa, b, ps, txt, reg, np, rfl, hT, nm, hb, k⟩ := h
  have lt : ∀ (l : List (Str × V)), l.length ≤ 7 → l.length < 1000 := fun l h => by omega
  refine ⟨_, (pss_cons (ps_set (i := 3) sc_body_program.nd rfl (by first | exact Or.inl rfl | exact Or.inr rfl) (pe_mkc M_Program (hr.mono (by decide)) rfl (pa_cons (pv 0) (pa_cons pe_str pa_nil))))
      (pss_cons (ps_fld (pv 3) (pv 1) rfl)
      (pss_cons (ps_fld (pv 3) (pv 2) rfl)
      (pss_cons (ps_fld (pv 3) (pe_fld (pv 2) rfl) rfl)
      (pss_cons (ps_fld (pv 3) (pe_fld (pv 2) rfl) rfl)
      (pss_cons (ps_fld (pv 3) (pe_fld (pv 2) rfl) rfl)
      (pss_one (ps_ret (pv 3))))))))), ?_⟩
  refine ⟨_, rfl, fun x dx hx hdx _ => ?_⟩
  have zz : Same H (upd (upd H dx (.own x)) x (.ins CP dx [])) := made_same hx hdx (But.refl x _)
  refine ⟨x, dx, pa, ps, [], _, by rw [text_nil]; rfl, upd_same, .inr (zz.tup hT), nm, lines_nil, st_nil, fun H1 but hp => ⟨rfl, ?_⟩⟩
  have s1 : Same H H1 := made_same hx hdx but
  obtain ⟨dx1, pt, b1, v4, v5, v6, g1, pt1, _⟩ := hp
  have hb1 := hb.same s1
  have nb : b ≠ x := fun z => by
    obtain ⟨_, _, _, _, _, _, _, _, _, _, _, e, _⟩ := hb
    rw [z, hx] at e
    cases e
  obtain ⟨dxb, ptb, otb, rcb, usb, osb, xb, yb, farb, mdb, cvb, c1, c2, c3, c4, c5, c6, c7⟩ := id hb1
  refine ⟨_, rfl, _, rfl, x, CP, dx1, _, rfl, g1, PC.cl, PC.n_text, lt _ (Nat.le_of_ble_eq_true rfl), ?_⟩
  refine ⟨_, rfl, _, rfl, x, CP, dx1, _, rfl, upd_same, PC.cl, PC.n_body, lt _ (Nat.le_of_ble_eq_true rfl), ?_⟩
  refine ⟨_, rfl, b, CB, dxb, _, _, rfl, (upd_ne nb).trans ((upd_ne nb).trans c1), BC.cl, BC.n_reach, rfl, ?_⟩
  refine ⟨_, rfl, x, CP, dx1, _, rfl, upd_same, PC.cl, PC.n_reach, lt _ (Nat.le_of_ble_eq_true rfl), ?_⟩
  refine ⟨_, rfl, b, CB, dxb, _, _, rfl, (upd_ne nb).trans ((upd_ne nb).trans ((upd_ne nb).trans c1)), BC.cl, BC.n_far, rfl, ?_⟩
  refine ⟨_, rfl, x, CP, dx1, _, rfl, upd_same, PC.cl, PC.n_far, lt _ (Nat.le_of_ble_eq_true rfl), ?_⟩
  refine ⟨_, rfl, b, CB, dxb, _, _, rfl, (upd_ne nb).trans ((upd_ne nb).trans ((upd_ne nb).trans ((upd_ne nb).trans c1))), BC.cl, BC.n_modulus, rfl, ?_⟩
  refine ⟨_, rfl, x, CP, dx1, _, rfl, upd_same, PC.cl, PC.n_modulus, lt _ (Nat.le_of_ble_eq_true rfl), ?_⟩
  refine ⟨_, rfl, ?_⟩
  have U : ∀ x1 x2 x3 x4 x5, But x H1 (upd (upd (upd (upd (upd H1 x x1) x x2) x x3) x x4) x x5) := fun x1 x2 x3 x4 x5 => ((((But.upd _).trans (But.upd _)).trans (But.upd _)).trans (But.upd _)).trans (But.upd _)
  refine k x _ ?_ hx ⟨dx1, pt, b, _, _, _, upd_same, (U _ _ _ _ _).tupI g1 pt1, hb1.but (U _ _ _ _ _) g1 ne⟩
  exact fun c v e => (U _ _ _ _ _) c v (fun z => by rw [z, hx] at e; cases e) (s1 _ _ e)



/-- put_together(programs) -/
def spPutTogether (K : PySem.W.Frag) (CB CP : Addr) : Sp := fun vs H Q _ => ∃ (pl : Addr) (ms : List Addr) (ps : List Str) (np tl : Nat), vs = [.ref pl] ∧ H pl = some (.lst (ms.map V.ref)) ∧ 1 ≤ ms.length ∧ ms.length ≤ 5 ∧ np ≤ 1000 ∧ tl ≤ 100000 ∧ CF.Names ps ∧ (∀ m ∈ ms, ∃ txt reg, ProgAt K CB CP H m ps txt reg np ∧ txt.length ≤ tl) ∧
  ∀ (p : Addr) (H' : Hp) (txt : Str), Same H H' → H p = none → txt.length ≤ ms.length * (tl + 1) → ProgAt K CB CP H' p ps txt false (ms.length * np) → Q (.ref p) H'
abbrev s_put_together : Stmt := topS 110
theorem sc_put_together : FnScope ["programs", "text", "program"] ["programs"] (defScope s_put_together) := ⟨rfl, rfl, rfl, by decide +kernel, rfl, by decide +kernel, by decide +kernel⟩
theorem ok_put_together (T : TxtP K mg) (Tq : PL.TxtQ K w mg) (D : Def K mg "put_together" s_put_together) {CB CP : Addr} (BC : BodyC K CB) (PC : ProgC K CP) (C_body_program : Cal P w K mg base 12 "body_program" ["pointers", "text", "body"] (spBodyProgram K CB CP)) (C_joined_body : Cal P w K mg base 4 "joined_body" ["bodies"] (spJoinedBody CB)) : Cal P w K mg base 13 "put_together" ["programs"] (spPutTogether K CB CP) := by
  refine D.cal sc_put_together (fun vs H Q E h => ?_) (fun _ _ _ _ _ _ us hl => match us, hl with | [_], _ => rfl) (fun f cdv A outer s H vs Q E hr h => ?_)
  · obtain ⟨pl, ms, ps, np, tl, rfl, _⟩ := h
    rfl
  have hu := hu_of hr

  obtain ⟨pl, ms, ps, np, tl, rfl, hL, l1, l5, np1, tl1, nm, hm, k⟩ := h
  have big : sizeLine = 16777216 := sizeLine_eq
  refine ⟨_, (pss_cons (ps_set (i := 1) sc_put_together.nd rfl (by first | exact Or.inl rfl | exact Or.inr rfl) (pe_join pe_str (pe_lc (own := [("program", 2)]) (g := gName 2) (tt := (fun σ H Q => tFld K (tVar 2) "text" σ H fun x H1 => ∃ k, TruV K x H1 k ∧ Q k H1)) (te := tFld K (tVar 2) "text") rfl sc_put_together.nd (pi_list (pv 0)) (blkOk_by (N := ["programs", "text", "program"]) (sc := defScope s_put_together) (by decide +kernel)) (fun _ _ _ _ _ => (pg_name (i := 2) sc_put_together.nd rfl (by first | exact Or.inl rfl | exact Or.inr rfl))) (fun _ _ _ _ _ => (pts_one (pt_truth (pe_fld (pv 2) rfl) (by intro _; rfl)))) (fun _ _ _ _ _ => (pe_fld (pv 2) rfl)))))
      (pss_one (ps_ret (pe_cal C_body_program (hr.mono (by decide)) rfl (pa_cons (pe_fld (pe_ix ix_list (pv 0) pe_int (fun _ _ => rfl)) rfl) (pa_cons (pv 1) (pa_cons (pe_cal C_joined_body (hr.mono (by decide)) rfl (pa_cons (pe_lc (own := [("program", 2)]) (g := gName 2) (tt := tYes) (te := tFld K (tVar 2) "body") rfl sc_put_together.nd (pi_list (pv 0)) (blkOk_by (N := ["programs", "text", "program"]) (sc := defScope s_put_together) (by decide +kernel)) (fun _ _ _ _ _ => (pg_name (i := 2) sc_put_together.nd rfl (by first | exact Or.inl rfl | exact Or.inr rfl))) (fun _ _ _ _ _ => pts_nil) (fun _ _ _ _ _ => (pe_fld (pv 2) rfl))) pa_nil)) pa_nil))))))), ?_⟩
  refine ⟨⟨_, rfl⟩, _, rfl, pl, rfl, ⟨_, SqL.of hL⟩, fun D hD => lc_it (tt := fun σ H Q => tFld K (tVar 2) "text" σ H fun x H1 => ∃ k, TruV K x H1 k ∧ Q k H1) walk_list (fun i H' => Same H H' ∧ ∃ ys : List Str, H' D = some (.lst (ys.map V.str)) ∧ ys.length ≤ i ∧ ∀ y ∈ ys, y.length ≤ tl) ⟨Same.new hD, [], upd_same, Nat.le_refl _, by simp⟩ (fun i H' _ z => z.1.seq (SqL.of hL)) ?_ ?_⟩
  · rintro i y G1 G2 hi ⟨s1, ys, h1, yl, ya⟩ ⟨rfl, hx⟩
    rw [List.getElem?_map] at hx
    obtain ⟨m, hmi, rfl⟩ := Option.map_eq_some_iff.mp hx
    rw [List.length_map] at hi
    obtain ⟨txt, reg, hp, tx⟩ := hm m (List.mem_of_getElem? hmi)
    obtain ⟨dx, pt, b, v4, v5, v6, g1, g2, g3⟩ := hp.same s1
    refine ⟨rfl, _, rfl, m, CP, dx, _, .str txt, rfl, g1, PC.cl, PC.n_text, rfl, _, ⟨by omega, rfl⟩, ?_⟩
    cases e : ((txt.length : Int) != 0) with
    | false => exact iteF ⟨s1, ys, h1, by omega, ya⟩
    | true =>
      refine iteT ⟨_, rfl, m, CP, dx, _, .str txt, rfl, g1, PC.cl, PC.n_text, rfl, _, h1, by rw [List.length_map]; omega, same_put s1 hD h1, ys ++ [txt], ?_, by rw [List.length_append, List.length_singleton]; omega, fun y hy => ?_⟩
      · rw [List.map_append]; exact upd_same
      · rcases List.mem_append.mp hy with hy | hy
        · exact ya y hy
        · rw [List.mem_singleton.mp hy]; exact tx
  rintro G ⟨s1, ys, h1, yl, ya⟩
  rw [List.length_map] at yl
  have e1 : ("\n" : Str).length = 1 := by decide +kernel
  have sm := CF.sum_le ya
  have jl := CF.join_len "\n" ys
  rw [e1] at jl
  have m5 : ys.length * tl ≤ ms.length * tl := Nat.mul_le_mul_right _ yl
  have m6 : ms.length * tl ≤ 5 * 100000 := Nat.mul_le_mul l5 tl1
  have m7 : ms.length * (tl + 1) = ms.length * tl + ms.length := by rw [Nat.mul_add, Nat.mul_one]
  refine ⟨_, D, ys, rfl, rfl, .inl (SqL.of h1), by rw [e1]; omega, ?_⟩
  obtain ⟨m0, ms', rfl⟩ : ∃ m ms', ms = m :: ms' := by
    cases ms with
    | nil => cases l1
    | cons m r => exact ⟨m, r, rfl⟩
  obtain ⟨txt0, reg0, hp0, tx0⟩ := hm m0 List.mem_cons_self
  obtain ⟨dx0, pt0, b0, v4, v5, v6, g1, g2, g3⟩ := hp0.same s1
  refine ⟨_, rfl, pl, _, _, _, rfl, rfl, SqL.of (s1 _ _ hL), atI_nat (j := 0) rfl, m0, CP, dx0, _, _, rfl, g1, PC.cl, PC.n_pointers, rfl, _, rfl, ?_⟩
  refine ⟨_, rfl, pl, rfl, ⟨_, SqL.of (s1 _ _ hL)⟩, fun D2 hD2 => lc_it walk_list (fun i H' => Same G H' ∧ ∃ bs : List Addr, H' D2 = some (.lst (bs.map V.ref)) ∧ bs.length = i ∧ Bodies CB G bs ps.length np) ⟨Same.new hD2, [], upd_same, rfl, by intro o ho; cases ho⟩ (fun i H' _ z => z.1.seq (SqL.of (s1 _ _ hL))) ?_ ?_⟩
  · rintro i y G1 G2 hi ⟨s2, bs, h2, bl, ba⟩ ⟨rfl, hx⟩
    rw [List.getElem?_map] at hx
    obtain ⟨m, hmi, rfl⟩ := Option.map_eq_some_iff.mp hx
    rw [List.length_map] at hi
    obtain ⟨txt, reg, hp, tx⟩ := hm m (List.mem_of_getElem? hmi)
    obtain ⟨dx, pt, b, v4, v5, v6, g1, g2, g3⟩ := hp.same s1
    refine ⟨rfl, _, rfl, m, CP, dx, _, _, rfl, s2 _ _ g1, PC.cl, PC.n_body, rfl, _, h2, by rw [List.length_map]; omega, same_put s2 hD2 h2, bs ++ [b], ?_, by rw [List.length_append, List.length_singleton, bl], fun o ho => ?_⟩
    · rw [List.map_append]; exact upd_same
    · rcases List.mem_append.mp ho with ho | ho
      · exact ba o ho
      · rw [List.mem_singleton.mp ho]; exact ⟨reg, g3⟩
  rintro G2 ⟨s2, bs, h2, bl, ba⟩
  rw [List.length_map] at bl
  refine ⟨D2, bs, ps.length, np, rfl, h2, by omega, by omega, nm.2.2.1, nm.2.2.2, np1, ba.same s2, fun b G3 s3 fb hb => ?_⟩
  refine ⟨pt0, b, ps, _, false, bs.length * np, rfl, (s2.trans s3).tup g2, nm, hb, fun p H4 s4 fp hp => ?_⟩
  have sF := ((s1.trans s2).trans s3).trans s4
  refine k p H4 _ sF (Same.free ((s1.trans s2).trans s3) fp) ?_ (by rw [← bl]; exact hp)
  omega

end
end K18
end
section
set_option Elab.async false
set_option linter.all false
set_option maxRecDepth 100000
set_option maxHeartbeats 4000000
namespace K18
open PySem PySem.Spec PyProof.Rows L2
open PySem.W (ke_shaped_ints)
local macro_rules | `(tactic| walk_at "go") => `(tactic| first | refine ⟨_, rfl, ?_⟩ | refine .inl ⟨_, rfl, ?_⟩ | refine ⟨_, _, rfl, rfl, (by first | (show (0 : Int) < _; decide) | exact Or.inl ⟨by decide, by decide⟩ | exact Or.inr ⟨by decide, by decide⟩), ?_⟩ | refine ⟨_, _, rfl, rfl, ?_⟩)
section
variable {P : Program} {w : World} {K : PySem.W.Frag} {mg : Str → Option Value} {base : Heap}

theorem del_upd {H : Hp} {a : Addr} {o : HO} (h : H a = none) : del (upd H a o) a = H := by
  funext b
  by_cases e : b = a
  · rw [e, del_same, h]
  · rw [del_ne e, upd_ne e]
theorem eqv_strs : ∀ ps qs : List Str, PyData.eqvAll (ps.map PyData.str) (qs.map PyData.str) = decide (ps = qs)
  | [], [] => rfl
  | [], _ :: _ => rfl
  | _ :: _, [] => rfl
  | p :: ps, q :: qs => by
    show (PyData.eqv (.str p) (.str q) && PyData.eqvAll (ps.map PyData.str) (qs.map PyData.str)) = _
    rw [eqv_strs ps qs]
    show ((p == q) && decide (ps = qs)) = _
    by_cases e : p = q
    · by_cases f : ps = qs
      · subst e f; simp
      · simp [f]
    · simp [e]
theorem shaped_names {ps : List Str} (nm : CF.Names ps) : SeqAt.shaped (.tuple (ps.map PyData.str)) = true := CF.shaped_tup fun d hd => by
  obtain ⟨z, hz, rfl⟩ := List.mem_map.mp hd
  exact CF.flat_str (CF.NameOk.lo_ (nm.1 z hz))
/-- p + q -/
def spAdd (K : PySem.W.Frag) (CB CP : Addr) : Sp := fun vs H Q E => ∃ (p q : Addr) (ps qs : List Str) (t1 t2 : Str) (r1 r2 : Bool) (np tl : Nat), vs = [.ref p, .ref q] ∧ ProgAt K CB CP H p ps t1 r1 np ∧ ProgAt K CB CP H q qs t2 r2 np ∧ CF.Names ps ∧ CF.Names qs ∧ np ≤ 1000 ∧ tl ≤ 100000 ∧ t1.length ≤ tl ∧ t2.length ≤ tl ∧
  ((ps ≠ qs ∧ E (.ref (He.ga K "OtherPointers")) none H) ∨ (ps = qs ∧ (r1 || r2) = true ∧ E (.ref (He.ga K "HasRegisters")) none H) ∨
   (ps = qs ∧ r1 = false ∧ r2 = false ∧ ∀ (x : Addr) (H' : Hp) (txt : Str), Same H H' → H x = none → txt.length ≤ 2 * (tl + 1) → ProgAt K CB CP H' x ps txt false (2 * np) → Q (.ref x) H'))

abbrev s_Program___add__ : Stmt := inClass (topS 108) 6
theorem sc_Program___add__ : FnScope ["self", "other"] ["self", "other"] (defScope s_Program___add__) := ⟨rfl, rfl, rfl, by decide +kernel, rfl, by decide +kernel, by decide +kernel⟩
theorem ok_Program___add__ {f : Addr} {fd : FuncData} (T : TxtP K mg) (F : FunD K "__add__" "Program.__add__" (defArgs s_Program___add__) (defBody s_Program___add__) (defScope s_Program___add__) [] [] f fd) {CB CP : Addr} (BC : BodyC K CB) (PC : ProgC K CP) (E_HasRegisters : ExK P w K mg base "HasRegisters" ["self"] (spIni0 (He.ga K "HasRegisters"))) (C_put_together : Cal P w K mg base 13 "put_together" ["programs"] (spPutTogether K CB CP)) (E_OtherPointers : ExK P w K mg base "OtherPointers" ["self"] (spIni0 (He.ga K "OtherPointers"))) : FnOk P w K mg base (CX P w) 14 f fd ["self", "other"] (spAdd K CB CP) := by
  refine F.okX sc_Program___add__ (fun vs H Q E h => by obtain ⟨p, q, ps, qs, t1, t2, r1, r2, np, tl, rfl, _⟩ := h; rfl) (fun cdv A outer s H vs Q E hr h => ?_)
  have hu := hu_of hr

  obtain ⟨p, q, ps, qs, t1, t2, r1, r2, np, tl, rfl, ⟨dx, pt, b, v4, v5, v6, g1, g2, g3⟩, ⟨dx', pt', b', v4', v5', v6', g1', g2', g3'⟩, nm, nm', np1, tl1, l1, l2, alt⟩ := h
  obtain ⟨dxb, ptb, otb, rcb, usb, osb, xb, yb, farb, mdb, cvb, b1, _⟩ := id g3
  obtain ⟨dxc, ptc, otc, rcc, usc, osc, xc, yc, farc, mdc, cvc, c1, _⟩ := id g3'
  have big : sizeLine = 16777216 := sizeLine_eq
  refine ⟨_, (pss_cons (ps_if (pt_cmpR (op_neD hr.units) (pe_fld (pv 0) rfl) (pe_fld (pv 1) rfl) (nomark _)) (pss_one (ps_raise rfl (takes_of rfl rfl rfl rfl) (pmk_ek0 E_OtherPointers (hr.mono (by decide)) rfl))) pss_nil)
      (C8.pss_cut (ps_if (PW.pt (pw_or (pt_truth (pe_fld (pe_fld (pv 0) rfl) rfl) (by intro _; rfl)) (pw_or1 (pt_truth (pe_fld (pe_fld (pv 1) rfl) rfl) (by intro _; rfl))))) (pss_one (ps_raise rfl (takes_of rfl rfl rfl rfl) (pmk_ek0 E_HasRegisters (hr.mono (by decide)) rfl))) pss_nil)
      (pss_one (ps_ret (pe_cal C_put_together (hr.mono (by decide)) rfl (pa_cons (pe_lst (pa_cons (pv 0) (pa_cons (pv 1) pa_nil))) pa_nil)))))), ?_⟩
  refine ⟨_, rfl, p, CP, dx, _, _, rfl, g1, PC.cl, PC.n_pointers, rfl, _, rfl, q, CP, dx', _, _, rfl, g1', PC.cl, PC.n_pointers, rfl, .tuple (ps.map PyData.str), .tuple (qs.map PyData.str), .tup g2 (dps_strs _ _ ps), .tup g2' (dps_strs _ _ qs), shaped_names nm, shaped_names nm', _, rfl, ?_⟩
  have ev : PyData.eqv (.tuple (ps.map PyData.str)) (.tuple (qs.map PyData.str)) = decide (ps = qs) := eqv_strs ps qs
  rw [ev]
  rcases alt with ⟨ne, k⟩ | ⟨e, rr, k⟩ | ⟨e, e1, e2, k⟩
  · rw [decide_eq_false ne]
    refine iteT fun e he => ⟨e, rfl, upd_same, rfl, upd_same, ?_⟩
    rw [del_upd he]
    exact k
  · rw [decide_eq_true e]
    refine iteF ⟨fun _ _ => False, ?_, fun _ _ h => h.elim⟩
    refine ⟨_, rfl, p, CP, dx, _, _, rfl, g1, PC.cl, PC.n_body, rfl, b, CB, dxb, _, _, rfl, b1, BC.cl, BC.n_has_registers, rfl, _, rfl, ?_⟩
    have raise : ∀ e, H e = none → E (.ref (He.ga K "HasRegisters")) none (del (upd H e (exo e (He.ga K "HasRegisters") none)) e) := fun e he => by rw [del_upd he]; exact k
    cases r1 with
    | true => exact iteT fun e he => ⟨e, rfl, upd_same, rfl, upd_same, raise e he⟩
    | false =>
      refine iteF ?_
      refine ⟨_, rfl, q, CP, dx', _, _, rfl, g1', PC.cl, PC.n_body, rfl, b', CB, dxc, _, _, rfl, c1, BC.cl, BC.n_has_registers, rfl, _, rfl, ?_⟩
      have e2 : r2 = true := by simpa using rr
      rw [e2]
      exact iteT fun e he => ⟨e, rfl, upd_same, rfl, upd_same, raise e he⟩
  · rw [decide_eq_true e]
    subst e e1 e2
    refine iteF ⟨fun σ' H' => σ' = [some (.ref p), some (.ref q)] ∧ H' = H, ?_, ?_⟩
    · refine ⟨_, rfl, p, CP, dx, _, _, rfl, g1, PC.cl, PC.n_body, rfl, b, CB, dxb, _, _, rfl, b1, BC.cl, BC.n_has_registers, rfl, _, rfl, iteF ?_⟩
      exact ⟨_, rfl, q, CP, dx', _, _, rfl, g1', PC.cl, PC.n_body, rfl, b', CB, dxc, _, _, rfl, c1, BC.cl, BC.n_has_registers, rfl, _, rfl, iteF ⟨rfl, rfl⟩⟩
    rintro σ' H' ⟨rfl, rfl⟩
    refine ⟨_, rfl, _, rfl, by show 2 ≤ sizeLine; decide, fun l hl => ?_⟩
    have sl := Same.new (o := .lst [.ref p, .ref q]) hl
    refine ⟨l, [p, q], ps, np, tl, rfl, upd_same, Nat.le_of_ble_eq_true rfl, Nat.le_of_ble_eq_true rfl, np1, tl1, nm, fun m hm => ?_, fun x H1 txt s1 hx lt hp => k x H1 txt (sl.trans s1) (Same.free sl hx) lt hp⟩
    have P1 : ProgAt K CB CP H' p ps t1 false np := ⟨dx, pt, b, v4, v5, v6, g1, g2, g3⟩
    have P2 : ProgAt K CB CP H' q ps t2 false np := ⟨dx', pt', b', v4', v5', v6', g1', g2', g3'⟩
    simp only [List.mem_cons, List.not_mem_nil, or_false] at hm
    rcases hm with rfl | rfl
    · exact ⟨t1, false, P1.same sl, l1⟩
    · exact ⟨t2, false, P2.same sl, l2⟩



/-- p * n -/
def spMul (K : PySem.W.Frag) (CB CP : Addr) : Sp := fun vs H Q E => ∃ (p : Addr) (n : Int) (ps : List Str) (t1 : Str) (r1 : Bool) (np tl : Nat), vs = [.ref p, .int n] ∧ ProgAt K CB CP H p ps t1 r1 np ∧ CF.Names ps ∧ np ≤ 1000 ∧ tl ≤ 100000 ∧ t1.length ≤ tl ∧
  ((r1 = true ∧ E (.ref (He.ga K "HasRegisters")) none H) ∨
   (r1 = false ∧ ¬ (1 ≤ n ∧ n ≤ 5) ∧ n.natAbs.log2 < 1920 ∧ ∀ d, H d = none → E (.ref (He.ga K "BadCount")) (some d) (upd H d (.xd [("count", .int n)]))) ∨
   (r1 = false ∧ 1 ≤ n ∧ n ≤ 5 ∧ ∀ (x : Addr) (H' : Hp) (txt : Str), Same H H' → H x = none → txt.length ≤ n.toNat * (tl + 1) → ProgAt K CB CP H' x ps txt false (n.toNat * np) → Q (.ref x) H'))
abbrev s_Program___mul__ : Stmt := inClass (topS 108) 7
theorem sc_Program___mul__ : FnScope ["self", "other"] ["self", "other"] (defScope s_Program___mul__) := ⟨rfl, rfl, rfl, by decide +kernel, rfl, by decide +kernel, by decide +kernel⟩
theorem ok_Program___mul__ {f : Addr} {fd : FuncData} (T : TxtP K mg) (Tq : PL.TxtQ K w mg) (F : FunD K "__mul__" "Program.__mul__" (defArgs s_Program___mul__) (defBody s_Program___mul__) (defScope s_Program___mul__) [] [] f fd) {CB CP : Addr} (BC : BodyC K CB) (PC : ProgC K CP) (E_HasRegisters : ExK P w K mg base "HasRegisters" ["self"] (spIni0 (He.ga K "HasRegisters"))) (C_put_together : Cal P w K mg base 13 "put_together" ["programs"] (spPutTogether K CB CP)) (E_BadCount : ExK P w K mg base "BadCount" ["self", "count"] (spIni (He.ga K "BadCount") "count" okI)) : FnOk P w K mg base (CX P w) 14 f fd ["self", "other"] (spMul K CB CP) := by
  refine F.okX sc_Program___mul__ (fun vs H Q E h => by obtain ⟨p, n, ps, t1, r1, np, tl, rfl, _⟩ := h; rfl) (fun cdv A outer s H vs Q E hr h => ?_)
  have hu := hu_of hr

  obtain ⟨p, n, ps, t1, r1, np, tl, rfl, ⟨dx, pt, b, v4, v5, v6, g1, g2, g3⟩, nm, np1, tl1, l1, alt⟩ := h
  obtain ⟨dxb, ptb, otb, rcb, usb, osb, xb, yb, farb, mdb, cvb, b1, _⟩ := id g3
  have big : sizeLine = 16777216 := sizeLine_eq
  refine ⟨_, (pss_cons (ps_if (pt_truth (pe_fld (pe_fld (pv 0) rfl) rfl) (by intro _; rfl)) (pss_one (ps_raise rfl (takes_of rfl rfl rfl rfl) (pmk_ek0 E_HasRegisters (hr.mono (by decide)) rfl))) pss_nil)
      (pss_cons (ps_if (pt_not (pt_chain op_le op_le pe_int (pv 1) (pe_gint (by rfl) Tq.c_MOST_TIMES))) (pss_one (ps_raise rfl (takes_of rfl rfl rfl rfl) (pmk_ek1 E_BadCount (hr.mono (by decide)) rfl (pa_cons (pv 1) pa_nil)))) pss_nil)
      (pss_one (ps_ret (pe_cal C_put_together (hr.mono (by decide)) rfl (pa_cons (pe_op op_rep (pe_lst (pa_cons (pv 0) pa_nil)) (pv 1)) pa_nil)))))), ?_⟩
  refine ⟨_, rfl, p, CP, dx, _, _, rfl, g1, PC.cl, PC.n_body, rfl, b, CB, dxb, _, _, rfl, b1, BC.cl, BC.n_has_registers, rfl, _, rfl, ?_⟩
  rcases alt with ⟨e1, k⟩ | ⟨e1, nn, lg, k⟩ | ⟨e1, n1, n5, k⟩
  · rw [e1]
    refine iteT fun e he => ⟨e, rfl, upd_same, rfl, upd_same, ?_⟩
    rw [del_upd he]
    exact k
  · rw [e1]
    refine iteF ?_
    have raise : ∀ (d e : Addr), H e = none → (upd H e (exo e (He.ga K "BadCount") none)) d = none → d ≠ e → E (.ref (He.ga K "BadCount")) (some d) (upd (del (upd (upd (upd H e (exo e (He.ga K "BadCount") none)) d (exd d [("count", .int n)])) e (exo e (He.ga K "BadCount") (some d))) e) d (.xd [("count", .int n)])) := fun d e he hd ne => by
      have hd' : H d = none := by rw [upd_ne ne] at hd; exact hd
      have z : upd (del (upd (upd (upd H e (exo e (He.ga K "BadCount") none)) d (exd d [("count", .int n)])) e (exo e (He.ga K "BadCount") (some d))) e) d (.xd [("count", .int n)]) = upd H d (.xd [("count", .int n)]) := by
        funext c
        by_cases c1 : c = d
        · rw [c1, upd_same, upd_same]
        · rw [upd_ne c1, upd_ne c1]
          by_cases c2 : c = e
          · rw [c2, del_same, he]
          · rw [del_ne c2, upd_ne c2, upd_ne c1, upd_ne c2]
      rw [z]
      exact k d hd'
    refine ⟨_, rfl, _, _, rfl, rfl, _, rfl, ite2 (fun c => ?_) (fun c => ?_)⟩
    · have c1 : 1 ≤ n := of_decide_eq_true c
      refine ⟨_, _, rfl, rfl, _, rfl, ?_⟩
      rw [decide_eq_false (show ¬ n ≤ 5 by omega)]
      refine iteT ?_
      exact ⟨_, rfl, (by show 1 ≤ 1000; decide), fun e he => ⟨e, .int n, rfl, upd_same, ⟨n, rfl, lg⟩, fun d hd ne => ⟨rfl, d, _, upd_same, by rw [upd_ne ne]; exact upd_same, by rw [upd_ne ne] at hd; exact hd, raise d e he hd ne⟩⟩⟩
    · refine ⟨_, rfl, iteT ?_⟩
      exact ⟨_, rfl, (by show 1 ≤ 1000; decide), fun e he => ⟨e, .int n, rfl, upd_same, ⟨n, rfl, lg⟩, fun d hd ne => ⟨rfl, d, _, upd_same, by rw [upd_ne ne]; exact upd_same, by rw [upd_ne ne] at hd; exact hd, raise d e he hd ne⟩⟩⟩
  · rw [e1]
    refine iteF ?_
    refine ⟨_, rfl, _, _, rfl, rfl, _, rfl, ite2 (fun c => ?_) (fun c => absurd (decide_eq_true n1) c)⟩
    refine ⟨_, _, rfl, rfl, _, rfl, ?_⟩
    rw [decide_eq_true n5]
    refine iteF ?_
    refine ⟨_, rfl, by show 1 ≤ sizeLine; decide, fun l hl => ⟨_, rfl, ?_⟩⟩
    have sl := Same.new (o := .lst [.ref p]) hl
    refine ⟨l, n, _, rfl, rfl, upd_same, by omega, by omega, by rw [List.length_singleton]; omega, fun l2 hl2 => ?_⟩
    have e3 : (List.replicate n.toNat [V.ref p]).flatten = (List.replicate n.toNat p).map V.ref := by
      rw [flat_rep, List.map_replicate]
    rw [e3]
    have s2 := sl.trans (Same.new (o := .lst ((List.replicate n.toNat p).map V.ref)) hl2)
    have P1 : ProgAt K CB CP H p ps t1 false np := ⟨dx, pt, b, v4, v5, v6, g1, g2, e1 ▸ g3⟩
    have ln : (List.replicate n.toNat p).length = n.toNat := List.length_replicate
    refine ⟨l2, List.replicate n.toNat p, ps, np, tl, rfl, upd_same, by rw [ln]; omega, by rw [ln]; omega, np1, tl1, nm, fun m hm => ?_, fun x H1 txt s1 hx lt hp => ?_⟩
    · rw [(List.mem_replicate.mp hm).2]
      exact ⟨t1, false, P1.same s2, l1⟩
    · rw [ln] at lt hp
      exact k x H1 txt (s2.trans s1) (Same.free s2 hx) lt hp

end
end K18
end
section
set_option Elab.async false
set_option linter.all false
set_option maxRecDepth 100000
set_option maxHeartbeats 4000000
namespace K18
open PySem PySem.Spec PyProof.Rows L2
open PySem.W (ke_shaped_ints)
local macro_rules | `(tactic| walk_at "go") => `(tactic| first | refine ⟨_, rfl, ?_⟩ | refine .inl ⟨_, rfl, ?_⟩ | refine ⟨_, _, rfl, rfl, (by first | (show (0 : Int) < _; decide) | exact Or.inl ⟨by decide, by decide⟩ | exact Or.inr ⟨by decide, by decide⟩), ?_⟩ | refine ⟨_, _, rfl, rfl, ?_⟩)
section
variable {P : Program} {w : World} {K : PySem.W.Frag} {mg : Str → Option Value} {base : Heap}

def letters : Str := "abcdefghijklmnopqrstuvwxyz"
theorem letters_all : ∀ c ∈ letters.cps.toList, 97 ≤ c ∧ c ≤ 122 := by decide +kernel
theorem letters_len : letters.length = 26 := by decide +kernel
theorem free_barred : ∀ z ∈ CF.Reserved, z ∈ barred := by decide +kernel
theorem sign_in' {c : Nat} (h : 97 ≤ c ∧ c ≤ 122) : c ∈ letters.cps.toList := sign_in h
/-- is_name(word) of a word of small letters -/
def spIsName : Sp := fun vs H Q _ => ∃ z : Str, vs = [.str z] ∧ 1 ≤ z.length ∧ z.length ≤ 12 ∧ (∀ c ∈ TL.tl z, 97 ≤ c ∧ c ≤ 122) ∧ ∀ H', Same H H' → Q (.bl (!decide (z ∈ barred))) H'
abbrev s_lis_name : Stmt := topS 118
theorem sc_lis_name : FnScope ["word", "odd", "sign"] ["word"] (defScope s_lis_name) := ⟨rfl, rfl, rfl, by decide +kernel, rfl, by decide +kernel, by decide +kernel⟩
theorem ok_lis_name (T : Txt mg) (D : Def K mg "_law_is_name" s_lis_name) (C__law_barred : Cal P w K mg base 1 "_law_barred" [] spBarred) : Cal P w K mg base 2 "_law_is_name" ["word"] spIsName := by
  refine D.cal sc_lis_name (fun vs H Q E h => ?_) (fun _ _ _ _ _ _ us hl => match us, hl with | [_], _ => rfl) (fun f cdv A outer s H vs Q E hr h => ?_)
  · obtain ⟨z, rfl, _⟩ := h
    rfl
  have hu := hu_of hr

  obtain ⟨z, rfl, z1, z12, low, k⟩ := h
  have hsz : z.length ≤ sizeLine := by rw [sizeLine_eq]; omega
  refine ⟨_, (pss_cons (ps_setLc (i := 1) (own := [("sign", 2)]) (g := gName 2) rfl sc_lis_name.nd rfl rfl (sw_true rfl rfl rfl (by decide +kernel)) (pi_str (pv 0)) (blkOk_by (N := ["word", "odd", "sign"]) (sc := defScope s_lis_name) (by decide +kernel)) (fun _ _ _ _ _ => (pg_name (i := 2) sc_lis_name.nd rfl (by first | exact Or.inl rfl | exact Or.inr rfl))) (fun _ _ _ _ _ => (pts_one (pt_cmpR op_notIn_sign (pv 2) pe_str (by rfl)))) (fun _ _ _ _ _ => (pv 2)))
      (pss_one (ps_ret (pe_and (pe_chain op_le op_le pe_int (pe_callB call_len (by rfl) T.f_len PySem.boot_len (pa_cons (pv 0) pa_nil)) pe_int) (pe_and (pe_cmpR (op_eqD hr.units) (pv 1) (pe_lst pa_nil) (nomark _)) (pe_one (pe_cmpR op_notIn_seq (pv 0) (pe_cal0 C__law_barred (hr.mono (by decide)) rfl) (by rfl)))))))), ?_⟩
  refine ⟨_, rfl, z, rfl, fun Dl hD => lc_it walk_str (fun i H' => Same H H' ∧ H' Dl = some (.lst [])) ⟨Same.new hD, upd_same⟩ (fun _ _ _ _ => True.intro) ?_ ?_⟩
  · rintro i x H1 H2 hi ⟨s1, h1⟩ ⟨rfl, c, hc, rfl⟩
    have hm := sign_in' (low c (by rw [← Array.getElem?_toList] at hc; exact List.mem_of_getElem? hc))
    exact ⟨rfl, _, rfl, c, _, rfl, rfl, _, rfl, ite2 (fun q => by
      change (!decide (c ∈ letters.cps.toList)) = true at q
      rw [decide_eq_true hm] at q
      cases q) (fun _ => ⟨s1, h1⟩)⟩
  · rintro H1 ⟨s1, h1⟩
    refine ⟨_, rfl, _, z.length, rfl, ⟨hsz, rfl⟩, _, _, rfl, rfl, _, rfl, ite2 (fun _ => ?_) (fun c => absurd (decide_eq_true (by omega)) c)⟩
    refine ⟨_, _, rfl, rfl, _, rfl, ite2 (fun _ => ?_) (fun c => absurd (decide_eq_true (by omega)) c)⟩
    refine ⟨_, rfl, Nat.zero_le _, fun e he => ?_⟩
    have h2 := (upd_ne (o := .lst []) (ne_of_none h1 he)).trans h1
    have s2 : Same H (upd H1 e (.lst [])) := s1.trans (Same.new he)
    refine ⟨.list [], .list [], .lst (SqL.of h2) .nil, .lst (SqL.of upd_same) .nil, shaped_strs (ys := []) (by simp), shaped_strs (ys := []) (by simp), _, rfl, ite2 (fun _ => ?_) (fun c => absurd rfl c)⟩
    refine ⟨_, rfl, rfl, fun p H3 hp s3 h4 => ?_⟩
    refine ⟨p, _, rfl, .inl (SqL.of h4), rfl, flat_strs _, ?_⟩
    rw [if_pos rfl, CF.inV_strs]
    exact k _ (s2.trans s3)



theorem pick6 {d : Int} {j : Nat} {v : V} (h0 : 0 ≤ d) (h1 : d < 12) (h : ([.int 0, .int 0, .int 1, .int 2, .int 11, .int d] : List V)[j]? = some v) : ∃ i : Int, v = .int i ∧ 0 ≤ i ∧ i ≤ 11 := by
  have hm := List.mem_of_getElem? h
  simp only [List.mem_cons, List.not_mem_nil, or_false] at hm
  rcases hm with rfl | rfl | rfl | rfl | rfl | rfl
  · exact ⟨0, rfl, by decide, by decide⟩
  · exact ⟨0, rfl, by decide, by decide⟩
  · exact ⟨1, rfl, by decide, by decide⟩
  · exact ⟨2, rfl, by decide, by decide⟩
  · exact ⟨11, rfl, by decide, by decide⟩
  · exact ⟨d, rfl, h0, by omega⟩
theorem letter_at {i : Int} (h0 : 0 ≤ i) (h1 : i < 26) : ∃ c, atI letters.cps.toList i = some c ∧ 97 ≤ c ∧ c ≤ 122 := by
  have hj : i.toNat < letters.cps.toList.length := by
    have : letters.cps.toList.length = 26 := by decide +kernel
    omega
  refine ⟨letters.cps.toList[i.toNat], ?_, letters_all _ (List.getElem_mem hj)⟩
  have h := atI_nat (xs := letters.cps.toList) (List.getElem?_eq_getElem hj)
  rwa [show ((i.toNat : Nat) : Int) = i by omega] at h
/-- the doubled letters -/
def doubles : List Str := letters.cps.toList.map fun c => (⟨#[c]⟩ : Str) ++ ⟨#[c]⟩
theorem doubles_ok : ∀ z ∈ doubles, CF.NameOk z := by
  have h : (doubles.all fun z => decide (z ∉ CF.Reserved) && (decide (1 ≤ z.length) && (decide (z.length ≤ 12) && z.cps.toList.all fun c => decide (97 ≤ c) && decide (c ≤ 122)))) = true := by decide +kernel
  intro z hz
  have := List.all_eq_true.mp h z hz
  simp only [Bool.and_eq_true, decide_eq_true_eq, List.all_eq_true] at this
  exact ⟨this.1, this.2.1, this.2.2.1, this.2.2.2⟩
theorem doubles_free {zs : List Str} (h : zs.length ≤ 2) : (doubles.filter fun z => !decide (z ∈ zs)) ≠ [] := by
  have m1 : ("aa" : Str) ∈ doubles := by decide +kernel
  have m2 : ("bb" : Str) ∈ doubles := by decide +kernel
  have m3 : ("cc" : Str) ∈ doubles := by decide +kernel
  have n12 : ("aa" : Str) ≠ "bb" := by decide +kernel
  have n13 : ("aa" : Str) ≠ "cc" := by decide +kernel
  have n23 : ("bb" : Str) ≠ "cc" := by decide +kernel
  intro e
  have all : ∀ z ∈ doubles, z ∈ zs := fun z hz => by
    apply Classical.byContradiction
    intro q
    have : z ∈ doubles.filter fun z => !decide (z ∈ zs) := List.mem_filter.mpr ⟨hz, by simp [q]⟩
    rw [e] at this
    cases this
  have a1 := all _ m1
  have a2 := all _ m2
  have a3 := all _ m3
  match zs, h with
  | [], _ => cases a1
  | [x], _ =>
    rw [List.mem_singleton] at a1 a2
    exact n12 (a1.trans a2.symm)
  | [x, y], _ =>
    simp only [List.mem_cons, List.not_mem_nil, or_false] at a1 a2 a3
    rcases a1 with a1 | a1 <;> rcases a2 with a2 | a2 <;> rcases a3 with a3 | a3 <;> first | exact n12 (a1.trans a2.symm) | exact n13 (a1.trans a3.symm) | exact n23 (a2.trans a3.symm)
/-- new_words(pen, many): names, no two the same -/
def spNewWords : Sp := fun vs H Q _ => ∃ (p l : Addr) (t many : Int), vs = [.ref p, .int many] ∧ Pen H p l t ∧ t ≤ 100000 ∧ 1 ≤ many ∧ many ≤ 3 ∧
  ∀ (q : Addr) (ps : List Str) (H' : Hp) (t' : Int), CF.Names ps → Pen H' p l t' → t ≤ t' → t' ≤ t + 60 → But p H H' → H q = none → H' q = some (.lst (ps.map V.str)) → Q (.ref q) H'
abbrev s_new_words : Stmt := topS 119
theorem sc_new_words : FnScope ["pen", "many", "letters", "found", "k", "size", "word", "pairs", "j", "sign", "pair"] ["pen", "many"] (defScope s_new_words) := ⟨rfl, rfl, rfl, by decide +kernel, rfl, by decide +kernel, by decide +kernel⟩
theorem ok_new_words (T : Txt mg) (D : Def K mg "_law_new_words" s_new_words) (C__law_draw : Cal P w K mg base 1 "_law_draw" ["pen", "span"] spDraw) (C__law_pick : Cal P w K mg base 2 "_law_pick" ["pen", "options"] (spPick K)) (C__law_is_name : Cal P w K mg base 2 "_law_is_name" ["word"] spIsName) : Cal P w K mg base 3 "_law_new_words" ["pen", "many"] spNewWords := by
  refine D.cal sc_new_words (fun vs H Q E h => ?_) (fun _ _ _ _ _ _ us hl => match us, hl with | [_, _], _ => rfl) (fun f cdv A outer s H vs Q E hr h => ?_)
  · obtain ⟨p, l, t, many, rfl, _⟩ := h
    rfl
  have hu := hu_of hr

  obtain ⟨p, l, t, many, rfl, pen, ht, m0, m1, k⟩ := h
  have big : sizeLine = 16777216 := sizeLine_eq
  refine ⟨_, (pss_cons (ps_asg (pe_tup (pa_cons pe_str (pa_cons (pe_lst pa_nil) pa_nil))) (pg_tup rfl (pgs_cons (pg_name (i := 2) sc_new_words.nd rfl (by first | exact Or.inl rfl | exact Or.inr rfl)) (pgs_cons (pg_name (i := 3) sc_new_words.nd rfl (by first | exact Or.inl rfl | exact Or.inr rfl)) pgs_nil))))
      (pss_cons (ps_for PassesOwn.never rfl (pi_range1 rfl T.f_range (pa_cons (pv 1) pa_nil)) (pg_name (i := 4) sc_new_words.nd rfl (by first | exact Or.inl rfl | exact Or.inr rfl)) (pss_cons (ps_set (i := 5) sc_new_words.nd rfl (by first | exact Or.inl rfl | exact Or.inr rfl) (pe_op op_add pe_int (pe_cal C__law_pick (hr.mono (by decide)) rfl (pa_cons (pv 0) (pa_cons (pe_lst (pa_cons pe_int (pa_cons pe_int (pa_cons pe_int (pa_cons pe_int (pa_cons pe_int (pa_cons (pe_cal C__law_draw (hr.mono (by decide)) rfl (pa_cons (pv 0) (pa_cons pe_int pa_nil))) pa_nil))))))) pa_nil)))))
      (pss_cons (ps_set (i := 6) sc_new_words.nd rfl (by first | exact Or.inl rfl | exact Or.inr rfl) (pe_join pe_str (pe_lc (own := [("j", 8)]) (g := gName 8) (tt := tYes) rfl sc_new_words.nd (pi_range1 rfl T.f_range (pa_cons (pv 5) pa_nil)) (blkOk_by (N := ["pen", "many", "letters", "found", "k", "size", "word", "pairs", "j", "sign", "pair"]) (sc := defScope s_new_words) (by decide +kernel)) (fun _ _ _ _ _ => (pg_name (i := 8) sc_new_words.nd rfl (by first | exact Or.inl rfl | exact Or.inr rfl))) (fun _ _ _ _ _ => pts_nil) (fun _ _ _ _ _ => (pe_ix ix_str (pv 2) (pe_cal C__law_draw (hr.mono (by decide)) rfl (pa_cons (pv 0) (pa_cons pe_int pa_nil))) (fun _ _ => rfl))))))
      (C8.pss_cut (ps_if (PW.pt (pw_or (pt_not (pt_val (pe_cal C__law_is_name (hr.mono (by decide)) rfl (pa_cons (pv 6) pa_nil)))) (pw_or1 (pt_cmpR op_in_seq (pv 6) (pv 3) (by rfl))))) (pss_cons (ps_setLc (i := 7) (own := [("sign", 9)]) (g := gName 9) (tt := tYes) rfl sc_new_words.nd rfl rfl (sw_true rfl rfl rfl (by decide +kernel)) (pi_str (pv 2)) (blkOk_by (N := ["pen", "many", "letters", "found", "k", "size", "word", "pairs", "j", "sign", "pair"]) (sc := defScope s_new_words) (by decide +kernel)) (fun _ _ _ _ _ => (pg_name (i := 9) sc_new_words.nd rfl (by first | exact Or.inl rfl | exact Or.inr rfl))) (fun _ _ _ _ _ => pts_nil) (fun _ _ _ _ _ => (pe_op op_add_str (pv 9) (pv 9))))
      (pss_one (ps_set (i := 6) sc_new_words.nd rfl (by first | exact Or.inl rfl | exact Or.inr rfl) (pe_ix ix_list (pe_lc (own := [("pair", 10)]) (g := gName 10) (tt := tTest (tOp (rIn K true) (tVar 10) (tVar 3))) rfl sc_new_words.nd (pi_list (pv 7)) (blkOk_by (N := ["pen", "many", "letters", "found", "k", "size", "word", "pairs", "j", "sign", "pair"]) (sc := defScope s_new_words) (by decide +kernel)) (fun _ _ _ _ _ => (pg_name (i := 10) sc_new_words.nd rfl (by first | exact Or.inl rfl | exact Or.inr rfl))) (fun _ _ _ _ _ => (pts_one (pt_cmpR op_notIn_seq (pv 10) (pv 3) (by rfl)))) (fun _ _ _ _ _ => (pv 10))) pe_int (fun _ _ => rfl))))) pss_nil)
      (pss_one (ps_expr (pe_bm PySem.F.plainAttrs_list PySem.F.slot_list_append PySem.F.type_list_append mt_append (pv 3) (pa_cons (pv 6) pa_nil))))))))
      (pss_one (ps_ret (pv 3))))), ?_⟩
  have hpl := pen.ne
  obtain ⟨op, hop⟩ := pen.at_
  refine ⟨Nat.zero_le _, fun f hf => ⟨by show 2 ≤ sizeLine; decide, fun tp htp => ⟨tp, _, rfl, SqT.of upd_same, rfl, _, _, rfl, _, _, rfl, rfl, ?_⟩⟩⟩
  have hfp : f ≠ p := fun z => by rw [z, hop] at hf; cases hf
  have hftp : f ≠ tp := fun z => by rw [← z, upd_same] at htp; cases htp
  have hfl : f ≠ l := fun z => by
    obtain ⟨ns, lf, g1, g2, _⟩ := pen.ex
    rw [z, g2] at hf
    cases hf
  have pen0 : Pen (upd (upd H f (.lst [])) tp (.tup [.str letters, .ref f])) p l t := (pen.new hf).new htp
  have b0 : But p H (upd (upd H f (.lst [])) tp (.tup [.str letters, .ref f])) := But.of ((Same.new hf).trans (Same.new htp))
  have hf0 : (upd (upd H f (.lst [])) tp (.tup [.str letters, .ref f])) f = some (.lst []) := (upd_ne hftp).trans upd_same
  refine ⟨_, rfl, many, rfl, by omega, by omega, for_range (n := many.toNat) (fun i σ H1 => ∃ (v4 v5 v6 v7 v8 v9 v10 : Option V) (zs : List Str) (t1 : Int), σ = [some (.ref p), some (.int many), some (.str letters), some (.ref f), v4, v5, v6, v7, v8, v9, v10] ∧ H1 f = some (.lst (zs.map V.str)) ∧ zs.length = i ∧ (∀ z ∈ zs, CF.NameOk z) ∧ zs.Nodup ∧
      Pen H1 p l t1 ∧ t ≤ t1 ∧ t1 ≤ t + 20 * i ∧ But p H H1)
    ⟨none, none, none, none, none, none, none, [], t, rfl, hf0, rfl, by simp, .nil, pen0, Int.le_refl _, by omega, b0⟩ ?_ ?_⟩
  · rintro i σ H1 hi ⟨v4, v5, v6, v7, v8, v9, v10, zs, t1, rfl, hf1, hzs, ok, nd, pen1, g1, g2, b1⟩
    -- size = 1 + pick(..)
    refine ⟨_, rfl, _, rfl, p, l, t1, 12, rfl, pen1, by omega, by decide, by decide, fun d H2 t2 d0 d1 pen2 g3 g4 b2 => ⟨by show 6 ≤ sizeLine; decide, fun q hq => ?_⟩⟩
    obtain ⟨o2, ho2⟩ := pen2.at_
    have hqp : q ≠ p := fun z => by rw [z, ho2] at hq; cases hq
    have hf2 : (upd H2 q (.lst [.int 0, .int 0, .int 1, .int 2, .int 11, .int d])) f = some (.lst (zs.map V.str)) := (Same.new hq) _ _ (b2 f _ hfp hf1)
    refine ⟨p, l, q, t2, _, rfl, pen2.new hq, by omega, hqp, .inl (SqL.of upd_same), by show 0 < 6; decide, by show 6 ≤ 1000000; decide, fun j v H3 t3 hv pen3 g5 g6 b3 => ?_⟩
    obtain ⟨sz, rfl, i0, i1⟩ := pick6 d0 d1 hv
    have hf3 := b3 f _ hfp hf2
    have b13 : But p H1 H3 := (b2.trans (But.of (Same.new hq))).trans b3
    refine ⟨_, _, rfl, rfl, ?_⟩
    -- word = ''.join(..)
    refine ⟨⟨_, rfl⟩, _, rfl, 1 + sz, rfl, by omega, by omega, fun Dl hD => lc_it walk_range (fun m H4 => ∃ (ys : List Str) (t4 : Int), H4 Dl = some (.lst (ys.map V.str)) ∧ ys.length = m ∧ (∀ y ∈ ys, ∃ c, TL.tl y = [c] ∧ 97 ≤ c ∧ c ≤ 122) ∧ Pen H4 p l t4 ∧ t3 ≤ t4 ∧ t4 ≤ t3 + m ∧ But p H3 H4)
      ⟨[], t3, upd_same, rfl, by simp, pen3.new hD, Int.le_refl _, by omega, But.of (Same.new hD)⟩ (fun _ _ _ _ => True.intro) ?_ ?_⟩
    · rintro m x H4 H5 hm ⟨ys, t4, hd4, hc, low, pen4, g7, g8, b4⟩ ⟨rfl, rfl⟩
      obtain ⟨o3, ho3⟩ := pen3.at_
      have hDp : Dl ≠ p := fun z => by rw [z, ho3] at hD; cases hD
      have hDl : Dl ≠ l := fun z => by
        obtain ⟨ns, lf, e1, e2, _⟩ := pen3.ex
        rw [z, e2] at hD
        cases hD
      refine ⟨rfl, _, rfl, _, rfl, p, l, t4, 26, rfl, pen4, by omega, by decide, by decide, fun c H6 t6 c0 c1 pen6 g9 g10 b6 => ?_⟩
      obtain ⟨s, hs, hs2⟩ := letter_at c0 c1
      refine ⟨letters, c, s, rfl, rfl, by show 26 ≤ sizeLine; decide, hs, _, b6 Dl _ hDp hd4, ?_, ys ++ [⟨#[s]⟩], t6, ?_, ?_, ?_, pen6.put hDp hDl, by omega, by omega, ?_⟩
      · rw [List.length_map]
        omega
      · rw [List.map_append]
        exact upd_same
      · rw [List.length_append, hc]
        rfl
      · intro y hy
        rcases List.mem_append.mp hy with h | h
        · exact low y h
        · rw [List.mem_singleton.mp h]
          exact ⟨s, rfl, hs2⟩
      · exact (b4.trans b6).put hD
    · rintro H4 ⟨ys, t4, hd4, hc, low, pen4, g7, g8, b4⟩
      have jl := CF.join_letters low
      have ysum : (ys.map (·.length)).sum ≤ ys.length * 1 := CF.sum_le fun w hw => by
        obtain ⟨c, hc, _⟩ := low w hw
        rw [TL.len_tl, hc]
        exact Nat.le_refl _
      have e0 : ("" : Str).length = 0 := rfl
      refine ⟨_, Dl, ys, rfl, rfl, .inl (SqL.of hd4), by rw [e0]; omega, ?_⟩
      have hf4 := b4 f _ hfp hf3
      generalize Txt.join "" ys = z at jl ⊢
      have b14 : But p H1 H4 := b13.trans b4
      -- if not is_name(word) or word in found
      refine ⟨fun σ' H' => ∃ (v7 v8 v9 v10 : Option V) (z' : Str), σ' = [some (.ref p), some (.int many), some (.str letters), some (.ref f), some (.int (0 + (i : Int))), some (.int (1 + sz)), some (.str z'), v7, v8, v9, v10] ∧ CF.NameOk z' ∧ z' ∉ zs ∧ H' f = some (.lst (zs.map V.str)) ∧ Pen H' p l t4 ∧ But p H1 H', ?_, ?_⟩
      · have zl : z.length = (1 + sz).toNat := by rw [jl.1, hc]
        refine ⟨_, rfl, z, rfl, by omega, by omega, jl.2, fun H5 s5 => ⟨_, rfl, ?_⟩⟩
        have hf5 := s5 f _ hf4
        have b5 : But p H1 H5 := b14.trans (But.of s5)
        have other : ∀ RT BK CT, tSeq (tAsg (tLc (iStr (tVar 2)) (gName 9) tYes (tOp (fun x y H Q => ∃ i j, x = V.str i ∧ y = V.str j ∧ i.length + j.length ≤ sizeLine ∧ Q (V.str (i ++ j)) H) (tVar 9) (tVar 9)) (List.map (fun x => x.snd) [("sign", 9)])) (gName 7)) (tAsg (tOp (rIxL K) (tLc (iList K (tVar 7)) (gName 10) (tTest (tOp (rIn K true) (tVar 10) (tVar 3))) (tVar 10) (List.map (fun x => x.snd) [("pair", 10)])) (tC (V.int 0))) (gName 6))
            { nx := fun σ' H' => ∃ (v7 v8 v9 v10 : Option V) (z' : Str), σ' = [some (.ref p), some (.int many), some (.str letters), some (.ref f), some (.int (0 + (i : Int))), some (.int (1 + sz)), some (.str z'), v7, v8, v9, v10] ∧ CF.NameOk z' ∧ z' ∉ zs ∧ H' f = some (.lst (zs.map V.str)) ∧ Pen H' p l t4 ∧ But p H1 H', rt := RT, bk := BK, ct := CT } [some (.ref p), some (.int many), some (.str letters), some (.ref f), some (.int (0 + (i : Int))), some (.int (1 + sz)), some (.str z), v7, v8, v9, v10] H5 := by
          intro RT BK CT
          refine ⟨_, rfl, letters, rfl, fun D2 hD2 => lc_it walk_str (fun m H' => Same H5 H' ∧ H' D2 = some (.lst ((doubles.take m).map V.str))) ⟨Same.new hD2, upd_same⟩ (fun _ _ _ _ => True.intro) ?_ ?_⟩
          · rintro m x H6 H7 hm ⟨s6, h1⟩ ⟨rfl, c, hc, rfl⟩
            have hd : doubles[m]? = some ((⟨#[c]⟩ : Str) ++ ⟨#[c]⟩) := by
              unfold doubles
              rw [List.getElem?_map, Array.getElem?_toList, hc]
              rfl
            refine ⟨rfl, _, rfl, _, rfl, _, _, rfl, rfl, by show 1 + 1 ≤ sizeLine; decide, _, h1, ?_, s6.put hD2, ?_⟩
            · rw [List.length_map, List.length_take]
              have : doubles.length = 26 := by decide +kernel
              omega
            · rw [List.take_add_one, hd, List.map_append]
              exact upd_same
          rintro H6 ⟨s6, h1⟩
          have tk : doubles.take letters.cps.size = doubles := List.take_of_length_le (by decide +kernel)
          rw [tk] at h1
          have hf6 := s6 f _ hf5
          refine ⟨_, rfl, D2, rfl, ⟨_, SqL.of h1⟩, fun D3 hD3 => lc_it walk_list (fun m H' => Same H6 H' ∧ H' D3 = some (.lst (((doubles.take m).filter fun z => !decide (z ∈ zs)).map V.str)))
            ⟨Same.new hD3, upd_same⟩ (fun m H' _ z => SqL.of (z.1 _ _ h1)) ?_ ?_⟩
          · rintro m x H7 H8 hm ⟨s7, h7⟩ ⟨rfl, hx⟩
            rw [List.getElem?_map] at hx
            obtain ⟨y, hy, rfl⟩ := Option.map_eq_some_iff.mp hx
            have tm : (doubles.take (m + 1)).filter (fun z => !decide (z ∈ zs)) = (doubles.take m).filter (fun z => !decide (z ∈ zs)) ++ [y].filter (fun z => !decide (z ∈ zs)) := by
              rw [List.take_add_one, hy, List.filter_append]; rfl
            refine ⟨rfl, _, rfl, _, rfl, f, _, rfl, .inl (SqL.of (s7 f _ hf6)), rfl, CF.flat_strs _, _, rfl, ?_⟩
            rw [if_pos rfl, CF.inV_strs, tm]
            cases e : decide (y ∈ zs) with
            | true =>
              refine iteF ⟨s7, ?_⟩
              rw [List.filter_cons_of_neg (by rw [e]; decide), List.filter_nil, List.append_nil]
              exact h7
            | false =>
              refine iteT ⟨_, rfl, _, h7, ?_, s7.put hD3, ?_⟩
              · have a1 := List.length_filter_le (fun z => !decide (z ∈ zs)) (doubles.take m)
                have a2 : doubles.length = 26 := by decide +kernel
                rw [List.length_take] at a1
                rw [List.length_map]
                omega
              · rw [List.filter_cons_of_pos (by rw [e]; rfl), List.filter_nil, List.map_append]
                exact upd_same
          rintro H7 ⟨s7, h7⟩
          rw [List.length_map, List.take_length] at h7
          have ne := doubles_free (zs := zs) (by omega)
          obtain ⟨y, r, er⟩ := List.exists_cons_of_ne_nil ne
          rw [er] at h7
          have ym : y ∈ doubles.filter fun z => !decide (z ∈ zs) := by rw [er]; exact List.mem_cons_self
          obtain ⟨y1, y2⟩ := List.mem_filter.mp ym
          refine ⟨D3, _, _, _, rfl, rfl, SqL.of h7, atI_nat (j := 0) rfl, ?_⟩
          exact ⟨_, _, _, _, y, rfl, doubles_ok y y1, by simpa using y2, s7 f _ hf6, (pen4.same s5).same (s6.trans s7), b5.trans (But.of (s6.trans s7))⟩
        cases e : decide (z ∈ barred) with
        | true => exact iteT (iteT (other _ _ _))
        | false =>
          refine iteF ⟨_, rfl, _, rfl, f, _, rfl, .inl (SqL.of hf5), rfl, CF.flat_strs _, _, rfl, ?_⟩
          rw [if_neg (by decide), CF.inV_strs]
          cases e2 : decide (z ∈ zs) with
          | true => exact iteT (other _ _ _)
          | false => exact iteF ⟨_, _, _, _, z, rfl, ⟨fun q => of_decide_eq_false e (free_barred z q), by omega, by omega, jl.2⟩, of_decide_eq_false e2, hf5, pen4.same s5, b5⟩
      · rintro σ' H6 ⟨w7, w8, w9, w10, z', rfl, nz, zn, hf6, pen6, b6⟩
        refine ⟨_, rfl, .inl ⟨rfl, _, SqL.of hf6⟩, _, rfl, f, _, _, rfl, rfl, hf6, by rw [List.length_map]; omega, ?_⟩
        refine ⟨_, _, _, _, _, _, _, zs ++ [z'], t4, rfl, ?_, by rw [List.length_append, List.length_singleton, hzs], ?_, ?_, pen6.put hfp hfl, by omega, by omega, (b1.trans b6).put hf⟩
        · rw [List.map_append]; exact upd_same
        · intro y hy
          rcases List.mem_append.mp hy with h | h
          · exact ok y h
          · rw [List.mem_singleton.mp h]; exact nz
        · exact List.nodup_append.mpr ⟨nd, by simp, by intro x hx y hy e; rw [List.mem_singleton.mp hy] at e; exact zn (e ▸ hx)⟩
  · rintro σ H1 ⟨v4, v5, v6, v7, v8, v9, v10, zs, t1, rfl, hf1, hzs, ok, nd, pen1, g1, g2, b1⟩
    exact ⟨_, rfl, k f zs H1 t1 ⟨ok, nd, by omega, by omega⟩ pen1 g1 (by omega) b1 hf hf1⟩

end
end K18
end
section
set_option Elab.async false
set_option linter.all false
set_option maxRecDepth 100000
set_option maxHeartbeats 4000000
namespace L2
open PySem PySem.Spec PyProof.Rows

/-! several except clauses, with names or without -/
abbrev Hd : Type := Value × Option Nat × (Addr → Value → Option Addr → TS)
def endS (i : Nat) (D : Ends) : Ends := { nx := fun σ' H' => D.nx (σ'.set i none) H', rt := D.rt, bk := fun σ' H' => D.bk (σ'.set i none) H', ct := fun σ' H' => D.ct (σ'.set i none) H' }
def hdIn (o : Option Nat) (ts : Addr → Value → Option Addr → TS) (a : Addr) (cls : Value) (d : Option Addr) : TS := match o with
  | none => ts a cls d
  | some i => fun D σ H => ts a cls d (endS i D) (σ.set i (some (.ref a))) H
def wManyN (K : PySem.W.Frag) (Wout : WX) (D : Ends) : List Hd → WX
  | [] => Wout
  | (c, o, ts) :: r => fun cls d σ H => ∃ b, PySem.W.exmOne K cls c = some b ∧ (b = true → ∀ a, H a = none → hdIn o ts a cls d D σ H) ∧ (b = false → wManyN K Wout D r cls d σ H)
inductive HdsN (X : Cx) : List ExceptHandler → List Hd → Prop
  | nil : HdsN X [] []
  | cons {x : Str} {c : Value} {ts : Addr → Value → Option Addr → TS} {b₀ : Stmt} {suite : List Stmt} {np pos' : Pos} {hds : List ExceptHandler} {l : List Hd} (hc : Names X x c)
      (hsu : ∀ (a : Addr) (oe : Obj) (cls : Value) (d : Option Addr) (pn : List (Addr × Obj)), Zc cls d oe → (∃ vs, oe.data = .fields vs) → PSs (X.suite a ((a, oe) :: pn)) (b₀ :: suite) (ts a cls d)) (r : HdsN X hds l) :
      HdsN X (.ExceptHandler (some (.Name x np)) none (b₀ :: suite) pos' :: hds) ((c, none, ts) :: l)
  | as {x n : Str} {i : Nat} {c : Value} {ts : Addr → Value → Option Addr → TS} {b₀ : Stmt} {suite : List Stmt} {np pos' : Pos} {hds : List ExceptHandler} {l : List Hd} (hN : X.N.Nodup) (hi : X.N[i]? = some n) (hln : X.env.kindOf n = some .local) (hc : Names X x c)
      (hsu : ∀ (a : Addr) (oe : Obj) (cls : Value) (d : Option Addr) (pn : List (Addr × Obj)), Zc cls d oe → (∃ vs, oe.data = .fields vs) → PSs (X.suite a ((a, oe) :: pn)) (b₀ :: suite) (ts a cls d)) (r : HdsN X hds l) :
      HdsN X (.ExceptHandler (some (.Name x np)) (some n) (b₀ :: suite) pos' :: hds) ((c, some i, ts) :: l)
section
variable {X : Cx} {body : List Stmt} {h₀ : ExceptHandler} {hds : List ExceptHandler} {l : List Hd} {pos : Pos} {tb : WX → TS} {Wout : WX}
theorem ps_try_manyN (hs : X.stack = X.env :: X.outer) (hf : X.env.frame = some X.env.locals) (tk : Takes X Wout)
    (hb : ∀ (W : WX) (pn : List (Addr × Obj)) (xe : Value → Shared → Prop), Takes (X.tr pn xe) W → PassesOwn (model X.prog X.w) X.A X.env xe → PSs (X.tr pn xe) body (tb W))
    (hh : HdsN X (h₀ :: hds) l) : PS X (.Try body (h₀ :: hds) [] [] pos) (fun D σ H => tb (wManyN X.K Wout D l) D σ H) := by
  refine ⟨fun pins s σ H D I h => ?_⟩
  have ok := I.ok
  have hfr : X.A.frames = some (X.env :: X.outer) := by rw [ok.frames, hs]
  refine wpAny_Try_except ?_
  refine wpAny_mono ((hb (wManyN X.K Wout D l) (X.pn ++ pins) (fun e s₁ => wpAny (model X.prog X.w) X.A (noteFrame e X.env) (fun _ s₂ => wpAny (model X.prog X.w) X.A (setFlight e none) (fun _ s₃ =>
    wpAny (model X.prog X.w) X.A (handleBy e X.env (h₀ :: hds)) (SP X pins D) X.xe s₃) X.xe s₂) X.xe s₁) (fun u s' xx => ?_) PassesOwn.looking).run [] s σ H D (I.toTry _) h) (fun f s1 hsp => ?_) (fun e s1 he => he)
  · -- the catch
    obtain ⟨a, B, sI, pins', σ', H', cls, d, rfl, J', nb, up, sky, na, os, ag, w⟩ := xx
    have J : Inv X pins σ' H' sI := J'.ofTry ok
    have sky' : Sky B (X.env :: X.outer) a (Zc cls d) X.env.locals s'.heap := by rw [← hs]; exact sky
    show wpAny (model X.prog X.w) X.A (noteFrame (.ref a) X.env) _ _ _
    refine Sky.land Zc.steady hfr hf sky' fun h3 fl3 up3 => ?_
    have J3 : Inv X pins σ' H' { s' with heap := h3 } := J.landed nb fl3.1 (up.trans up3) os ag
    obtain ⟨oe3, vs3, he3, hz3, hd3⟩ := fl3.there
    have notFr : ∀ {h : Heap} {o : Obj} {vs : Array Value}, h.FunFrames B (X.env :: X.outer) → h.get? a = some o → o.data = .fields vs → a ∉ frs (X.env :: X.outer) := fun {h o vs} ff e dd hm => by
      obtain ⟨_, o', e', hnf⟩ := ff.mem hm
      rw [e] at e'; cases e'
      exact hnf _ dd
    have nfr := notFr fl3.2.2.1 he3 hd3
    have nL : a ≠ X.env.locals := fun z => nfr (List.mem_filterMap.mpr ⟨X.env, List.mem_cons_self, by rw [hf, z]⟩)
    have nF : a ∉ X.fs := fun hm => by
      obtain ⟨e, he, q⟩ := List.mem_filterMap.mp hm
      exact nfr (List.mem_filterMap.mpr ⟨e, List.mem_cons_of_mem _ he, q⟩)
    have S3 := J3.suite he3 hd3 na nL nF
    have go : ∀ {hds' : List ExceptHandler} {l' : List Hd}, HdsN X hds' l' → wManyN X.K Wout D l' cls d σ' H' →
        wpAny (model X.prog X.w) X.A (handleBy (.ref a) X.env hds') (SP X pins D) X.xe { s' with heap := h3 } := by
      intro hds' l' hk
      induction hk with
      | nil =>
        intro w
        refine wpAny_handleBy_nil ?_
        obtain ⟨k1, k2, k3, oe, vs, T, oT, ts', he, hz, hd, h1, hr⟩ := id fl3
        unfold PySem.passOn
        refine wpAny_bind (wpAny_field he hd h1 ?_)
        rw [if_neg (show ¬ ((Value.ref T == Value.none) = true) from by simp)]
        have fin : wpAny (model X.prog X.w) X.A (setFlight (.ref a) X.env.frame) (fun _ s4 => wpAny (model X.prog X.w) X.A (throw (.ref a) : Sem Flow) (SP X pins D) X.xe s4) X.xe { s' with heap := h3 } := by
          rw [hf]
          refine HandSPX.setFlight_upZ fl3 fun h4 hh4 up4 => wpAny_throw (tk _ _ ?_)
          exact ⟨a, B, sI, pins, σ', H', cls, d, rfl, J, nb, (up.trans up3).trans up4, .inr (.inr (by rw [hs]; exact hh4)), na, os, ag, w⟩
        first
          | exact wpAny_bind (wpAny_pure (wpAny_bind fin))
          | exact wpAny_bind fin
      | @cons x c ts b₀ suite np pos' hds2 l2 hc hsu r ih =>
        intro w
        obtain ⟨b, hb1, hyes, hno⟩ := w
        refine wpAny_handleBy_cons (codeAny_handlers_test ?_) (by intro q; cases q)
        have LT : PySem.W.Looks (model X.prog X.w) h3 (typeOf (.ref a)) cls := fun A Q E s k q => wpAny_typeOf_ref (k _ _ he3) (by rw [hz3.1]; exact q)
        have LM := PySem.W.exm_one (M := model X.prog X.w) (J3.kIn) LT hb1
        have test : ∀ {Q : Value → Shared → Prop} {E : Value → Shared → Prop}, Q c { s' with heap := h3 } → wpAny (model X.prog X.w) (X.A.mark (some (.ref a))) (eval (.Name x np) X.env) Q E { s' with heap := h3 } := fun {Q E} q => by
          obtain ⟨hg, hdbg, hm | ⟨hm, hv, hnn⟩⟩ := hc
          · exact ld_glob (X := X.suite a ((a, oe3) :: (X.pn ++ pins))) S3 hg hm q hdbg
          · exact ld_blt (X := X.suite a ((a, oe3) :: (X.pn ++ pins))) S3 hg hm hv q hnn hdbg
        refine test (LM.here ?_)
        cases b with
        | true =>
          refine codeAny_handlers_suite ?_
          refine HandSPX.lands_againZ fl3 fun h4 fl4 up4 => ?_
          have J4 : Inv X pins σ' H' { s' with heap := h4 } := J.landed nb fl4.1 ((up.trans up3).trans up4) os ag
          obtain ⟨oe4, vs4, he4, hz4, hd4⟩ := fl4.there
          have S4 := J4.suite he4 hd4 na nL nF
          have hy : ts a cls d D σ' H' := hyes rfl a na
          refine wpAny_mono ((hsu a oe4 cls d (X.pn ++ pins) hz4 ⟨_, hd4⟩).run [] _ _ H' _ S4 hy) (fun f s6 hsp => ?_) (fun _ _ z => False.elim z)
          cases f with
          | next =>
            obtain ⟨σ6, H6, S6, q6⟩ := hsp
            exact ⟨_, _, S6.unsuite ok, q6⟩
          | brk =>
            obtain ⟨σ6, H6, S6, q6⟩ := hsp
            exact ⟨_, _, S6.unsuite ok, q6⟩
          | cont =>
            obtain ⟨σ6, H6, S6, q6⟩ := hsp
            exact ⟨_, _, S6.unsuite ok, q6⟩
          | ret u =>
            obtain ⟨v6, σ6, H6, S6, r6, q6⟩ := hsp
            exact ⟨_, _, _, S6.unsuite ok, r6, q6⟩
        | false =>
          show wpAny _ X.A (handleBy (.ref a) X.env hds2) _ _ _
          exact ih (hno rfl)
      | @as x n i c ts b₀ suite np pos' hds2 l2 hN hi hln hc hsu r ih =>
        intro w
        obtain ⟨b, hb1, hyes, hno⟩ := w
        refine wpAny_handleBy_cons (codeAny_handlers_test ?_) (by intro q; cases q)
        have LT : PySem.W.Looks (model X.prog X.w) h3 (typeOf (.ref a)) cls := fun A Q E s k q => wpAny_typeOf_ref (k _ _ he3) (by rw [hz3.1]; exact q)
        have LM := PySem.W.exm_one (M := model X.prog X.w) (J3.kIn) LT hb1
        have test : ∀ {Q : Value → Shared → Prop} {E : Value → Shared → Prop}, Q c { s' with heap := h3 } → wpAny (model X.prog X.w) (X.A.mark (some (.ref a))) (eval (.Name x np) X.env) Q E { s' with heap := h3 } := fun {Q E} q => by
          obtain ⟨hg, hdbg, hm | ⟨hm, hv, hnn⟩⟩ := hc
          · exact ld_glob (X := X.suite a ((a, oe3) :: (X.pn ++ pins))) S3 hg hm q hdbg
          · exact ld_blt (X := X.suite a ((a, oe3) :: (X.pn ++ pins))) S3 hg hm hv q hnn hdbg
        refine test (LM.here ?_)
        cases b with
        | true =>
          refine codeAny_handlers_suite_as ?_
          refine HandSPX.lands_againZ fl3 fun h4 fl4 up4 => ?_
          have J4 : Inv X pins σ' H' { s' with heap := h4 } := J.landed nb fl4.1 ((up.trans up3).trans up4) os ag
          obtain ⟨oe4, vs4, he4, hz4, hd4⟩ := fl4.there
          have S4 := J4.suite he4 hd4 na nL nF
          have hloc : Loc X.env.scope n := .inl hln
          refine store_ok (X := X.suite a ((a, oe4) :: (X.pn ++ pins))) (v := .ref a) S4 hN hi hloc rfl (fun s5 S5 => ?_) (.inr hln)
          have hy : ts a cls d (endS i D) (σ'.set i (some (.ref a))) H' := hyes rfl a na
          refine wpAny_mono ((hsu a oe4 cls d (X.pn ++ pins) hz4 ⟨_, hd4⟩).run [] s5 _ H' _ S5 hy) (fun f s6 hsp => ?_) (fun _ _ z => False.elim z)
          have end_ : ∀ {σ6 : St} {H6 : Hp} {Q : Shared → Prop}, Inv (X.suite a ((a, oe4) :: (X.pn ++ pins))) [] σ6 H6 s6 → (∀ s7, Inv X pins (σ6.set i none) H6 s7 → Q s7) →
              wpAny (model X.prog X.w) X.A (do bindName X.env n .none; unbindBehindTheSuite X.env n pos') (fun _ s7 => Q s7) X.xe s6 := fun {σ6 H6 Q} S6 hq => gone_ok (S6.unsuite ok) hN hi hln hq
          cases f with
          | next =>
            obtain ⟨σ6, H6, S6, q6⟩ := hsp
            exact end_ S6 fun s7 J7 => ⟨_, _, J7, q6⟩
          | brk =>
            obtain ⟨σ6, H6, S6, q6⟩ := hsp
            exact end_ S6 fun s7 J7 => ⟨_, _, J7, q6⟩
          | cont =>
            obtain ⟨σ6, H6, S6, q6⟩ := hsp
            exact end_ S6 fun s7 J7 => ⟨_, _, J7, q6⟩
          | ret u =>
            obtain ⟨v6, σ6, H6, S6, r6, q6⟩ := hsp
            exact end_ S6 fun s7 J7 => ⟨_, _, _, J7, r6, q6⟩
        | false =>
          show wpAny _ X.A (handleBy (.ref a) X.env hds2) _ _ _
          exact ih (hno rfl)
    exact go hh w
  · cases f with
    | next =>
      obtain ⟨σ', H', J', q⟩ := hsp
      exact wpAny_execs_nil ⟨σ', H', J'.ofTry ok, q⟩
    | brk =>
      obtain ⟨σ', H', J', q⟩ := hsp
      exact ⟨σ', H', J'.ofTry ok, q⟩
    | cont =>
      obtain ⟨σ', H', J', q⟩ := hsp
      exact ⟨σ', H', J'.ofTry ok, q⟩
    | ret u =>
      obtain ⟨v, σ', H', J', r, q⟩ := hsp
      exact ⟨v, σ', H', J'.ofTry ok, r, q⟩
end

/-! isinstance(e, c), e the exception of the suite, with a dict or without -/
def rIsS (K : PySem.W.Frag) (D a : Addr) (d : Option Addr) : List V → Hp → VK → Prop := fun xs H Q => ∃ (c : V) (u : Value) (b : Bool), xs = [.ref a, c] ∧ (∀ dd, d = some dd → ∃ fs, H dd = some (.xd fs)) ∧ ClsV c u ∧ PySem.W.kitOne K (.ref D) u = some b ∧ Q (.bl b) H
theorem call_isS {X : Cx} {a D : Addr} {d : Option Addr} {oe : Obj} {pn : List (Addr × Obj)} (T : ExV X.K D) (hz : Zc (.ref D) d oe) (hf : ∃ vs, oe.data = .fields vs) : CallR (X.suite a ((a, oe) :: pn)) (.builtin "isinstance") (rIsS X.K D a d) := by
  intro pins s σ H xs us Q I r h
  obtain ⟨c, u, b, rfl, hd, k, e, q⟩ := h
  obtain ⟨u1, u2, rfl, r1, r2⟩ := vals2 r
  obtain rfl : u1 = Value.ref a := r1
  have e2 := k.eq r2
  subst e2
  obtain ⟨hget, _⟩ := I.pin (a, oe) (List.mem_append.mpr (.inl List.mem_cons_self))
  obtain ⟨vs, hv⟩ := hf
  have J : ∃ od, PySem.W.InstAt s.heap a oe D od := by
    cases d with
    | none =>
      refine ⟨none, hget, hz.1, ?_, ?_⟩
      · unfold PySem.W.notCls
        rw [hv]
      · rw [hz.2]
        trivial
    | some dd =>
      obtain ⟨fs, ed⟩ := hd dd rfl
      have hx : ObjOk X.prog X.w H s.heap dd (.xd fs) := I.hok dd _ ed
      obtain ⟨mA, hns, hr⟩ := hx
      obtain ⟨od, ho, hl⟩ := lookIn_ns hns
      refine ⟨some od, hget, hz.1, ?_, ?_⟩
      · unfold PySem.W.notCls
        rw [hv]
      · rw [hz.2]
        exact ho
  obtain ⟨od, J⟩ := J
  exact PySem.W.kia_one (PySem.W.kitx_exc (od := od) T.cl T.xf.ga T.xf.gg T.xf.exC T.ca T.cg T.ct T.ob) I.kIn J e (fun z => nomatch z) fun tk => ⟨.bl b, H, I.tok tk, rfl, q⟩
/-! a class of the text whose __init__ may raise -/
structure MkcX (P : Program) (w : World) (K : PySem.W.Frag) (mg : Str → Option Value) (base : Heap) (k : Nat) (x : Str) (C : Addr) (ps : List Str) (sp : Sp) : Prop where
  ex : ∃ f fd, FnOk P w K mg base (CX P w) k f fd ps sp ∧ mg x = some (.ref C) ∧ Mk K C f ∧ Binds K fd ps []
section
variable {X : Cx} {k : Nat} {x : Str} {C : Addr} {ps : List Str} {sp : Sp} {e : Expr} {es : List Expr} {t : TA} {p pos : Pos} {E : XK}
theorem pe_mkcX (M : MkcX X.prog X.w X.K X.mg X.base k x C ps sp) (hr : Room (k + 1) X.A) (hx : Passes (CX X.prog X.w) X E) (hg : Gl X x) (ha : PA X (e :: es) t) (hdb : (x == ("__debug__" : Str)) = false := by decide)
    (he : starEach (e :: es) X.env = (false, eval e X.env) :: starEach es X.env := by rfl) (hpl : (backTo pos (starEach es X.env)).any (·.1) = false := by rfl) : PE X (.Call (.Name x p) (e :: es) [] pos) (tMake C sp [] E t) := by
  obtain ⟨f, fd, G, m, mk, b⟩ := M.ex
  exact pe_make mk G hr hg m b .nil hx ha hdb he hpl
end
end L2
end
section
set_option Elab.async false
set_option linter.all false
set_option maxRecDepth 100000
set_option maxHeartbeats 4000000
namespace K18
open PySem PySem.Spec PyProof.Rows L2
open PySem.W (ke_shaped_ints)
local macro_rules | `(tactic| walk_at "go") => `(tactic| first | refine ⟨_, rfl, ?_⟩ | refine .inl ⟨_, rfl, ?_⟩ | refine ⟨_, _, rfl, rfl, (by first | (show (0 : Int) < _; decide) | exact Or.inl ⟨by decide, by decide⟩ | exact Or.inr ⟨by decide, by decide⟩), ?_⟩ | refine ⟨_, _, rfl, rfl, ?_⟩)
section
variable {P : Program} {w : World} {K : PySem.W.Frag} {mg : Str → Option Value} {base : Heap}

/-- what a sum tells -/
def sumAns (ps qs : List Str) (r1 r2 : Bool) : Str := if ps ≠ qs then "other" else if (r1 || r2) = true then "has" else "made"
/-- sum_told(p, q) -/
def spSumTold (K : PySem.W.Frag) (CB CP : Addr) : Sp := fun vs H Q _ => ∃ (p q : Addr) (ps qs : List Str) (t1 t2 : Str) (r1 r2 : Bool) (np tl : Nat), vs = [.ref p, .ref q] ∧ ProgAt K CB CP H p ps t1 r1 np ∧ ProgAt K CB CP H q qs t2 r2 np ∧ CF.Names ps ∧ CF.Names qs ∧ np ≤ 1000 ∧ tl ≤ 100000 ∧ t1.length ≤ tl ∧ t2.length ≤ tl ∧
  ∀ H', Same H H' → Q (.str (sumAns ps qs r1 r2)) H'
/-- what a product tells -/
def timesAns (r : Bool) (n : Int) : V := if r = true then .str "has" else if 1 ≤ n ∧ n ≤ 5 then .str "made" else .int n
/-- times_told(p, n) -/
def spTimesTold (K : PySem.W.Frag) (CB CP : Addr) : Sp := fun vs H Q _ => ∃ (p : Addr) (n : Int) (ps : List Str) (t1 : Str) (r1 : Bool) (np tl : Nat), vs = [.ref p, .int n] ∧ ProgAt K CB CP H p ps t1 r1 np ∧ CF.Names ps ∧ np ≤ 1000 ∧ tl ≤ 100000 ∧ t1.length ≤ tl ∧ n.natAbs.log2 < 1920 ∧
  ∀ H', Same H H' → Q (timesAns r1 n) H'

abbrev s_sum_told : Stmt := topS 120
theorem sc_sum_told : FnScope ["p", "q", "made", "e"] ["p", "q"] (defScope s_sum_told) := ⟨rfl, rfl, rfl, by decide +kernel, rfl, by decide +kernel, by decide +kernel⟩
theorem ok_sum_told (T : Txt mg) (D : Def K mg "_law_sum_told" s_sum_told) {CB CP : Addr} (BC : BodyC K CB) (PC : ProgC K CP) (fVE : mg "ValueError" = none) (gPE : mg "PartlyError" = some (.ref (He.ga K "PartlyError"))) (gH : mg "HasRegisters" = some (.ref (He.ga K "HasRegisters"))) (EH : ExV K (He.ga K "HasRegisters")) (eHH : PySem.W.exmOne K (.ref (He.ga K "HasRegisters")) (.ref (He.ga K "HasRegisters")) = some true) (iHP : PySem.W.kitOne K (.ref (He.ga K "HasRegisters")) (.ref (He.ga K "PartlyError")) = some true) (iHV : PySem.W.kitOne K (.ref (He.ga K "HasRegisters")) (.type "ValueError") = some true) (iOP : PySem.W.kitOne K (.ref (He.ga K "OtherPointers")) (.ref (He.ga K "PartlyError")) = some true) (iOV : PySem.W.kitOne K (.ref (He.ga K "OtherPointers")) (.type "ValueError") = some true) (gO : mg "OtherPointers" = some (.ref (He.ga K "OtherPointers"))) (EO : ExV K (He.ga K "OtherPointers")) (eOO : PySem.W.exmOne K (.ref (He.ga K "OtherPointers")) (.ref (He.ga K "OtherPointers")) = some true) (eHO : PySem.W.exmOne K (.ref (He.ga K "HasRegisters")) (.ref (He.ga K "OtherPointers")) = some false)
    (M_add : OpX P w K mg base (CX P w) 14 CP .Add ["self", "other"] (spAdd K CB CP)) : Cal P w K mg base 15 "_law_sum_told" ["p", "q"] (spSumTold K CB CP) := by
  refine D.cal sc_sum_told (fun vs H Q E h => ?_) (fun _ _ _ _ _ _ us hl => match us, hl with | [_, _], _ => rfl) (fun f cdv A outer s H vs Q E hr h => ?_)
  · obtain ⟨p, q, ps, qs, t1, t2, r1, r2, np, tl, rfl, _⟩ := h
    rfl
  have hu := hu_of hr

  obtain ⟨p, q, ps, qs, t1, t2, r1, r2, np, tl, rfl, hp, hq, nm, nm', np1, tl1, l1, l2, k⟩ := h
  obtain ⟨dx, pt, b, v4, v5, v6, g1, g2, g3⟩ := id hp
  obtain ⟨dx', pt', b', v4', v5', v6', g1', g2', g3'⟩ := id hq
  refine ⟨_, (pss_cons (ps_try_manyN (Wout := fun _ _ _ _ => False) (l := [(.ref (He.ga K "OtherPointers"), some 3, (fun a cls d D σ H => (cls = .ref (He.ga K "OtherPointers")) ∧ tRet (tIf (tAnd (tB (tCB (rIsS K (He.ga K "OtherPointers") a d) (tCons (tVar 3) (tCons (tC (.ref (He.ga K "PartlyError"))) tNil)))) (tB (tCB (rIsS K (He.ga K "OtherPointers") a d) (tCons (tVar 3) (tCons (tC (.ty "ValueError")) tNil))))) (tC (.str "other")) (tC (.str "odd"))) D σ H)), (.ref (He.ga K "HasRegisters"), some 3, (fun a cls d D σ H => (cls = .ref (He.ga K "HasRegisters")) ∧ tRet (tIf (tAnd (tB (tCB (rIsS K (He.ga K "HasRegisters") a d) (tCons (tVar 3) (tCons (tC (.ref (He.ga K "PartlyError"))) tNil)))) (tB (tCB (rIsS K (He.ga K "HasRegisters") a d) (tCons (tVar 3) (tCons (tC (.ty "ValueError")) tNil))))) (tC (.str "has")) (tC (.str "odd"))) D σ H))]) (tb := (fun W => tAsg (tOpS CP (spAdd K CB CP) (WE W) (tVar 0) (tVar 1)) (gName 2))) rfl rfl L2.takes0 (fun W pn xe tk _ => (pss_one (ps_set (i := 2) sc_sum_told.nd rfl (by first | exact Or.inl rfl | exact Or.inr rfl) (pe_opS M_add (pv 0) (pv 1) (hr.mono (by decide)) (fun σ => L2.passAt tk σ))))) (HdsN.as (ts := (fun a cls d D σ H => (cls = .ref (He.ga K "OtherPointers")) ∧ tRet (tIf (tAnd (tB (tCB (rIsS K (He.ga K "OtherPointers") a d) (tCons (tVar 3) (tCons (tC (.ref (He.ga K "PartlyError"))) tNil)))) (tB (tCB (rIsS K (He.ga K "OtherPointers") a d) (tCons (tVar 3) (tCons (tC (.ty "ValueError")) tNil))))) (tC (.str "other")) (tC (.str "odd"))) D σ H)) sc_sum_told.nd rfl rfl ⟨rfl, by decide, .inl gO⟩ (fun a oe cls d pn hz hf => pss_if (X := Cx.suite (cxOf CX0 P w K mg base ["p", "q", "made", "e"] "_law_sum_told" (defScope s_sum_told) f cdv A outer s H E).nox a ((a, oe) :: pn)) (p := cls = .ref (He.ga K "OtherPointers")) fun hh => have hz2 : Zc (.ref (He.ga K "OtherPointers")) d oe := (by rw [← hh]; exact hz); (pss_one (ps_ret (pe_ifExp (PW.pt (pw_and (pt_val (pe_callB (call_isS (X := (cxOf CX0 P w K mg base ["p", "q", "made", "e"] "_law_sum_told" (defScope s_sum_told) f cdv A outer s H E).nox) (a := a) (oe := oe) (pn := pn) EO hz2 hf) (by rfl) T.f_isinstance (by decide +kernel) (pa_cons (pv 3) (pa_cons (pe_gref (by rfl) gPE) pa_nil)))) (pw_and1 (pt_val (pe_callB (call_isS (X := (cxOf CX0 P w K mg base ["p", "q", "made", "e"] "_law_sum_told" (defScope s_sum_told) f cdv A outer s H E).nox) (a := a) (oe := oe) (pn := pn) EO hz2 hf) (by rfl) T.f_isinstance (by decide +kernel) (pa_cons (pv 3) (pa_cons (pe_gty (by rfl) fVE (T := "ValueError") (by decide +kernel)) pa_nil))))))) pe_str pe_str)))) (HdsN.as (ts := (fun a cls d D σ H => (cls = .ref (He.ga K "HasRegisters")) ∧ tRet (tIf (tAnd (tB (tCB (rIsS K (He.ga K "HasRegisters") a d) (tCons (tVar 3) (tCons (tC (.ref (He.ga K "PartlyError"))) tNil)))) (tB (tCB (rIsS K (He.ga K "HasRegisters") a d) (tCons (tVar 3) (tCons (tC (.ty "ValueError")) tNil))))) (tC (.str "has")) (tC (.str "odd"))) D σ H)) sc_sum_told.nd rfl rfl ⟨rfl, by decide, .inl gH⟩ (fun a oe cls d pn hz hf => pss_if (X := Cx.suite (cxOf CX0 P w K mg base ["p", "q", "made", "e"] "_law_sum_told" (defScope s_sum_told) f cdv A outer s H E).nox a ((a, oe) :: pn)) (p := cls = .ref (He.ga K "HasRegisters")) fun hh => have hz2 : Zc (.ref (He.ga K "HasRegisters")) d oe := (by rw [← hh]; exact hz); (pss_one (ps_ret (pe_ifExp (PW.pt (pw_and (pt_val (pe_callB (call_isS (X := (cxOf CX0 P w K mg base ["p", "q", "made", "e"] "_law_sum_told" (defScope s_sum_told) f cdv A outer s H E).nox) (a := a) (oe := oe) (pn := pn) EH hz2 hf) (by rfl) T.f_isinstance (by decide +kernel) (pa_cons (pv 3) (pa_cons (pe_gref (by rfl) gPE) pa_nil)))) (pw_and1 (pt_val (pe_callB (call_isS (X := (cxOf CX0 P w K mg base ["p", "q", "made", "e"] "_law_sum_told" (defScope s_sum_told) f cdv A outer s H E).nox) (a := a) (oe := oe) (pn := pn) EH hz2 hf) (by rfl) T.f_isinstance (by decide +kernel) (pa_cons (pv 3) (pa_cons (pe_gty (by rfl) fVE (T := "ValueError") (by decide +kernel)) pa_nil))))))) pe_str pe_str)))) HdsN.nil)))
      (pss_one (ps_ret (pe_ifExp (pt_cmpR (op_eqD hr.units) (pe_fld (pv 2) rfl) (pe_fld (pv 0) rfl) (nomark _)) pe_str pe_str)))), ?_⟩
  refine ⟨_, rfl, _, rfl, p, q, dx, dx', _, _, rfl, rfl, g1, g1', p, q, ps, qs, t1, t2, r1, r2, np, tl, rfl, hp, hq, nm, nm', np1, tl1, l1, l2, ?_⟩
  by_cases e : ps = qs
  · cases er : (r1 || r2) with
    | true =>
      refine .inr (.inl ⟨e, rfl, false, eHO, (fun z => by cases z), fun _ => ⟨true, eHH, fun _ a ha => ⟨rfl, ?_⟩, fun z => by cases z⟩⟩)
      refine ⟨_, rfl, _, _, _, rfl, (fun dd e => by cases e), .own _, iHP, _, rfl, iteT ?_⟩
      refine ⟨_, rfl, _, _, _, rfl, (fun dd e => by cases e), .ty _, iHV, _, rfl, iteT ?_⟩
      have ans : sumAns ps qs r1 r2 = "has" := by unfold sumAns; rw [if_neg (by simpa using e), if_pos er]
      have := k H (Same.refl _)
      rw [ans] at this
      exact this
    | false =>
      obtain ⟨er1, er2⟩ : r1 = false ∧ r2 = false := by cases r1 <;> cases r2 <;> simp_all
      refine .inr (.inr ⟨e, er1, er2, fun x H1 txt s1 hx lt px => ?_⟩)
      obtain ⟨dx2, pt2, b2, u4, u5, u6, c1, c2, c3⟩ := px
      refine ⟨_, rfl, x, CP, dx2, _, _, rfl, c1, PC.cl, PC.n_pointers, rfl, _, rfl, p, CP, dx, _, _, rfl, s1 _ _ g1, PC.cl, PC.n_pointers, rfl, .tuple (ps.map PyData.str), .tuple (ps.map PyData.str), .tup c2 (dps_strs _ _ ps), .tup (s1.tup g2) (dps_strs _ _ ps), shaped_names nm, shaped_names nm, _, rfl, ?_⟩
      have ev : PyData.eqv (.tuple (ps.map PyData.str)) (.tuple (ps.map PyData.str)) = true := (eqv_strs ps ps).trans (decide_eq_true rfl)
      rw [ev]
      refine iteT ?_
      have ans : sumAns ps qs r1 r2 = "made" := by unfold sumAns; rw [if_neg (by simpa using e), if_neg (by rw [er]; decide)]
      have := k H1 s1
      rw [ans] at this
      exact this
  · refine .inl ⟨e, true, eOO, fun _ a ha => ⟨rfl, ?_⟩, fun z => by cases z⟩
    refine ⟨_, rfl, _, _, _, rfl, (fun dd e => by cases e), .own _, iOP, _, rfl, iteT ?_⟩
    refine ⟨_, rfl, _, _, _, rfl, (fun dd e => by cases e), .ty _, iOV, _, rfl, iteT ?_⟩
    have ans : sumAns ps qs r1 r2 = "other" := by unfold sumAns; rw [if_pos e]
    have := k H (Same.refl _)
    rw [ans] at this
    exact this


abbrev s_times_told : Stmt := topS 121
theorem sc_times_told : FnScope ["p", "count", "made", "e"] ["p", "count"] (defScope s_times_told) := ⟨rfl, rfl, rfl, by decide +kernel, rfl, by decide +kernel, by decide +kernel⟩
theorem ok_times_told (T : Txt mg) (D : Def K mg "_law_times_told" s_times_told) {CB CP : Addr} (BC : BodyC K CB) (PC : ProgC K CP) (fVE : mg "ValueError" = none) (gPE : mg "PartlyError" = some (.ref (He.ga K "PartlyError"))) (gH : mg "HasRegisters" = some (.ref (He.ga K "HasRegisters"))) (EH : ExV K (He.ga K "HasRegisters")) (eHH : PySem.W.exmOne K (.ref (He.ga K "HasRegisters")) (.ref (He.ga K "HasRegisters")) = some true) (iBP : PySem.W.kitOne K (.ref (He.ga K "BadCount")) (.ref (He.ga K "PartlyError")) = some true) (iBV : PySem.W.kitOne K (.ref (He.ga K "BadCount")) (.type "ValueError") = some true) (gB : mg "BadCount" = some (.ref (He.ga K "BadCount"))) (EB : ExV K (He.ga K "BadCount")) (XB : XfC K (He.ga K "BadCount")) (hnoB : PySem.W.findIn K (.ref (He.ga K "BadCount")) "count" = some none) (eBB : PySem.W.exmOne K (.ref (He.ga K "BadCount")) (.ref (He.ga K "BadCount")) = some true) (eBH : PySem.W.exmOne K (.ref (He.ga K "BadCount")) (.ref (He.ga K "HasRegisters")) = some false)
    (M_mul : OpX P w K mg base (CX P w) 14 CP .Mult ["self", "other"] (spMul K CB CP)) (N_mul : OpI K CP .Mult) : Cal P w K mg base 15 "_law_times_told" ["p", "count"] (spTimesTold K CB CP) := by
  refine D.cal sc_times_told (fun vs H Q E h => ?_) (fun _ _ _ _ _ _ us hl => match us, hl with | [_, _], _ => rfl) (fun f cdv A outer s H vs Q E hr h => ?_)
  · obtain ⟨p, n, ps, t1, r1, np, tl, rfl, _⟩ := h
    rfl
  have hu := hu_of hr

  obtain ⟨p, n, ps, t1, r1, np, tl, rfl, hp, nm, np1, tl1, l1, lg, k⟩ := h
  obtain ⟨dx, pt, b, v4, v5, v6, g1, g2, g3⟩ := id hp
  refine ⟨_, (pss_cons (ps_try_manyN (Wout := fun _ _ _ _ => False) (l := [(.ref (He.ga K "HasRegisters"), none, fun _ _ _ => tRet (tC (.str "has"))), (.ref (He.ga K "BadCount"), some 3, (fun a cls d D σ H => (cls = .ref (He.ga K "BadCount")) ∧ tRet (tIf (tAnd (tB (tCB (rIsS K (He.ga K "BadCount") a d) (tCons (tVar 3) (tCons (tC (.ref (He.ga K "PartlyError"))) tNil)))) (tB (tCB (rIsS K (He.ga K "BadCount") a d) (tCons (tVar 3) (tCons (tC (.ty "ValueError")) tNil))))) (tXf a cls d (He.ga K "BadCount") "count" (tVar 3)) (tC (.str "odd"))) D σ H))]) (tb := (fun W => tAsg (tOpI CP (spMul K CB CP) (WE W) (tVar 0) (tVar 1)) (gName 2))) rfl rfl L2.takes0 (fun W pn xe tk _ => (pss_one (ps_set (i := 2) sc_times_told.nd rfl (by first | exact Or.inl rfl | exact Or.inr rfl) (pe_opI M_mul N_mul (pv 0) (pv 1) (hr.mono (by decide)) (fun σ => L2.passAt tk σ))))) (HdsN.cons (ts := fun _ _ _ => tRet (tC (.str "has"))) ⟨rfl, by decide, .inl gH⟩ (fun a oe cls d pn hz hf => (pss_one (ps_ret pe_str))) (HdsN.as (ts := (fun a cls d D σ H => (cls = .ref (He.ga K "BadCount")) ∧ tRet (tIf (tAnd (tB (tCB (rIsS K (He.ga K "BadCount") a d) (tCons (tVar 3) (tCons (tC (.ref (He.ga K "PartlyError"))) tNil)))) (tB (tCB (rIsS K (He.ga K "BadCount") a d) (tCons (tVar 3) (tCons (tC (.ty "ValueError")) tNil))))) (tXf a cls d (He.ga K "BadCount") "count" (tVar 3)) (tC (.str "odd"))) D σ H)) sc_times_told.nd rfl rfl ⟨rfl, by decide, .inl gB⟩ (fun a oe cls d pn hz hf => pss_if (X := Cx.suite (cxOf CX0 P w K mg base ["p", "count", "made", "e"] "_law_times_told" (defScope s_times_told) f cdv A outer s H E).nox a ((a, oe) :: pn)) (p := cls = .ref (He.ga K "BadCount")) fun hh => have hz2 : Zc (.ref (He.ga K "BadCount")) d oe := (by rw [← hh]; exact hz); (pss_one (ps_ret (pe_ifExp (PW.pt (pw_and (pt_val (pe_callB (call_isS (X := (cxOf CX0 P w K mg base ["p", "count", "made", "e"] "_law_times_told" (defScope s_times_told) f cdv A outer s H E).nox) (a := a) (oe := oe) (pn := pn) EB hz2 hf) (by rfl) T.f_isinstance (by decide +kernel) (pa_cons (pv 3) (pa_cons (pe_gref (by rfl) gPE) pa_nil)))) (pw_and1 (pt_val (pe_callB (call_isS (X := (cxOf CX0 P w K mg base ["p", "count", "made", "e"] "_law_times_told" (defScope s_times_told) f cdv A outer s H E).nox) (a := a) (oe := oe) (pn := pn) EB hz2 hf) (by rfl) T.f_isinstance (by decide +kernel) (pa_cons (pv 3) (pa_cons (pe_gty (by rfl) fVE (T := "ValueError") (by decide +kernel)) pa_nil))))))) (pe_xf XB hnoB hz hf (pv 3)) pe_str)))) HdsN.nil)))
      (pss_one (ps_ret (pe_ifExp (pt_cmpR (op_eqD hr.units) (pe_fld (pv 2) rfl) (pe_fld (pv 0) rfl) (nomark _)) pe_str pe_str)))), ?_⟩
  refine ⟨_, rfl, _, rfl, p, dx, _, n, rfl, rfl, g1, p, n, ps, t1, r1, np, tl, rfl, hp, nm, np1, tl1, l1, ?_⟩
  cases r1 with
  | true =>
    refine .inl ⟨rfl, true, eHH, fun _ a ha => ?_, fun z => by cases z⟩
    exact k H (Same.refl _)
  | false =>
    by_cases e : 1 ≤ n ∧ n ≤ 5
    · refine .inr (.inr ⟨rfl, e.1, e.2, fun x H1 txt s1 hx lt px => ?_⟩)
      obtain ⟨dx2, pt2, b2, u4, u5, u6, c1, c2, c3⟩ := px
      refine ⟨_, rfl, x, CP, dx2, _, _, rfl, c1, PC.cl, PC.n_pointers, rfl, _, rfl, p, CP, dx, _, _, rfl, s1 _ _ g1, PC.cl, PC.n_pointers, rfl, .tuple (ps.map PyData.str), .tuple (ps.map PyData.str), .tup c2 (dps_strs _ _ ps), .tup (s1.tup g2) (dps_strs _ _ ps), shaped_names nm, shaped_names nm, _, rfl, ?_⟩
      have ev : PyData.eqv (.tuple (ps.map PyData.str)) (.tuple (ps.map PyData.str)) = true := (eqv_strs ps ps).trans (decide_eq_true rfl)
      rw [ev]
      refine iteT ?_
      have ans : timesAns false n = .str "made" := by unfold timesAns; rw [if_neg (by decide), if_pos e]
      have := k H1 s1
      rw [ans] at this
      exact this
    · refine .inr (.inl ⟨rfl, e, lg, fun d hd => ?_⟩)
      have hdx : upd H d (.xd [("count", .int n)]) d = some (.xd [("count", .int n)]) := upd_same
      refine ⟨false, eBH, (fun z => by cases z), fun _ => ⟨true, eBB, fun _ a ha => ⟨rfl, ?_⟩, fun z => by cases z⟩⟩
      refine ⟨_, rfl, _, _, _, rfl, (fun dd e => by cases e; exact ⟨_, hdx⟩), .own _, iBP, _, rfl, iteT ?_⟩
      refine ⟨_, rfl, _, _, _, rfl, (fun dd e => by cases e; exact ⟨_, hdx⟩), .ty _, iBV, _, rfl, iteT ?_⟩
      refine ⟨_, rfl, rfl, rfl, d, _, .int n, rfl, hdx, rfl, ?_⟩
      have ans : timesAns false n = .int n := by unfold timesAns; rw [if_neg (by decide), if_neg e]
      have := k _ (Same.new (o := .xd [("count", .int n)]) hd)
      rw [ans] at this
      exact this

end
end K18
end
section
set_option Elab.async false
set_option linter.all false
set_option maxRecDepth 100000
set_option maxHeartbeats 4000000
namespace K18
open PySem PySem.Spec PyProof.Rows L2
open PySem.W (ke_shaped_ints)
local macro_rules | `(tactic| walk_at "go") => `(tactic| first | refine ⟨_, rfl, ?_⟩ | refine .inl ⟨_, rfl, ?_⟩ | refine ⟨_, _, rfl, rfl, (by first | (show (0 : Int) < _; decide) | exact Or.inl ⟨by decide, by decide⟩ | exact Or.inr ⟨by decide, by decide⟩), ?_⟩ | refine ⟨_, _, rfl, rfl, ?_⟩)
section
variable {P : Program} {w : World} {K : PySem.W.Frag} {mg : Str → Option Value} {base : Heap}

theorem ProgAt.mono {K : PySem.W.Frag} {CB CP : Addr} {H : Hp} {p : Addr} {ps : List Str} {txt : Str} {reg : Bool} {np np' : Nat} (h : ProgAt K CB CP H p ps txt reg np) (l : np ≤ np') : ProgAt K CB CP H p ps txt reg np' := by
  obtain ⟨dx, pt, b, v4, v5, v6, a, c, d⟩ := h
  obtain ⟨dx', pt', ot', rc, us', os', xx, yy, far, md, cv, b1, b2, b3, b4, b5, b6, b7⟩ := d
  exact ⟨dx, pt, b, v4, v5, v6, a, c, dx', pt', ot', rc, us', os', xx, yy, far, md, cv, b1, b2, Nat.le_trans b3 l, b4, b5, b6, b7⟩
/-- what is drawn leaves a program as it is -/
theorem ProgAt.pen {K : PySem.W.Frag} {CB CP : Addr} {H H' : Hp} {q l p : Addr} {t : Int} {ps : List Str} {txt : Str} {reg : Bool} {np : Nat} (h : ProgAt K CB CP H p ps txt reg np) (pen : Pen H q l t) (B : But q H H') : ProgAt K CB CP H' p ps txt reg np := by
  obtain ⟨ns, lf, hq, _, _⟩ := pen.ex
  have ins : ∀ {a C dx : Addr} {fs : List (Str × V)}, H a = some (.ins C dx fs) → H' a = some (.ins C dx fs) := fun {a C dx fs} e => B _ _ (fun z => by rw [z, hq] at e; cases e) e
  have tup : ∀ {a : Addr} {xs : List V}, H a = some (.tup xs) → H' a = some (.tup xs) := fun {a xs} e => B _ _ (fun z => by rw [z, hq] at e; cases e) e
  obtain ⟨dx, pt, b, v4, v5, v6, a, c, d⟩ := h
  obtain ⟨dx', pt', ot', rc, us', os', xx, yy, far, md, cv, b1, b2, b3, b4, b5, b6, b7⟩ := d
  refine ⟨dx, pt, b, v4, v5, v6, ins a, ?_, dx', pt', ot', rc, us', os', xx, yy, far, md, cv, ins b1, tup b2, b3, tup b4, b5, fun o ho => ?_, tup b7⟩
  · rcases c with (c | ⟨o, c⟩) | c
    · exact .inl (.inl (tup c))
    · exact .inl (.inr ⟨o, B _ _ (fun z => by rw [z, hq] at c; cases c) c⟩)
    · exact .inr c
  · obtain ⟨x, y, e⟩ := b6 o ho
    exact ⟨x, y, tup e⟩
/-- a right text of a program -/
def Prg (ps : List Str) (txt : Str) (reg : Bool) : Prop := ∃ ls wds, textOf ls = txt ∧ hasReg ls = reg ∧ LinesOk ps ls wds ∧ StOk ls wds
theorem mkProg {K : PySem.W.Frag} {CB CP : Addr} {H : Hp} {x dx pa : Addr} {ps : List Str} {txt : Str} {reg : Bool} {Q : VK} {E : XK} (hx : H x = none) (hdx : H dx = none) (pg : Prg ps txt reg) (hs : SqL K H pa (ps.map V.str) ∨ SqT K H pa (ps.map V.str)) (nm : CF.Names ps)
    (k : ∀ H', Same H H' → H x = none → ProgAt K CB CP H' x ps txt reg 1 → Q .non H') : spProgInit K CB CP (.ref x :: ([.ref pa, .str txt] ++ [])) (upd (upd H dx (.own x)) x (.ins CP dx [])) Q E := by
  obtain ⟨ls, wds, e1, e2, lk, st⟩ := pg
  have zz : Same H (upd (upd H dx (.own x)) x (.ins CP dx [])) := made_same hx hdx (But.refl x _)
  refine ⟨x, dx, pa, ps, ls, wds, by rw [e1]; rfl, upd_same, hs.elim (fun h => .inl (zz.seq h)) (fun h => .inr (zz.tup h)), nm, lk, st, fun H' but hp => ?_⟩
  rw [e1, e2] at hp
  exact k H' (made_same hx hdx but) hx hp
theorem namX : CF.NameOk "x" := ⟨by decide +kernel, by decide +kernel, by decide +kernel, by decide +kernel⟩
theorem one_text (l : PL.Ln) : textOf [l] = l.text := by
  unfold textOf
  rw [TL.join_eq]
  rfl
theorem kinds_eq {w f : Str} {ks : List Str} (h : (w, f) ∈ PL.forms) (e : Txt.words f = ks) : PL.Kinds w ks := e ▸ .form h
theorem in_range {kd : Str} {n lo hi : Int} (h : (kd, lo, hi) ∈ PL.ranges) (c : kd ≠ "chunk") (a : lo ≤ n) (b : n ≤ hi) (n0 : -100 ≤ n) (n1 : n ≤ 100) {ps : List Str} : (PL.Wd.num kd n).Ok ps := ⟨n0, n1, ⟨lo, hi, h, a, b⟩, fun e => absurd e c⟩
theorem spot0 (z : Str) : CF.spot z 0 = z := by
  unfold CF.spot
  rw [if_neg (by decide), if_neg (by decide)]
  refine TL.ext_tl ?_
  rw [TL.tl_append, TL.tl_append]
  show (TL.tl z ++ []) ++ [] = TL.tl z
  rw [List.append_nil, List.append_nil]
def lnInput : PL.Ln := ⟨"input", [.name "x", .num "wide" 1]⟩
def lnStore (z : Str) : PL.Ln := ⟨"store", [.name "x", .spot z 0]⟩
def lnSet : PL.Ln := ⟨"set", [.name "x", .num "cell" 1]⟩
def lnGive : PL.Ln := ⟨"give", [.name "x"]⟩
def lnStep (z : Str) : PL.Ln := ⟨"step", [.ptr z, .num "jump" 1]⟩
def lnCopy (z : Str) : PL.Ln := ⟨"copy", [.num "many" 2, .fix "from", .spot z 0, .fix "to", .spot z 0]⟩
theorem ok_lnInput {ps : List Str} : (lnInput).Ok ps := ⟨kinds_eq (w := "input") (ks := ["name", "wide"]) (f := "name wide") (by decide +kernel) (by decide +kernel), by
  intro d hd
  simp only [lnInput, List.mem_cons, List.not_mem_nil, or_false] at hd
  rcases hd with rfl | rfl
  · exact namX
  · exact in_range (lo := 1) (hi := 8) (by decide +kernel) (by decide +kernel) (by decide) (by decide) (by decide) (by decide)⟩
theorem ok_lnStore {ps : List Str} {z : Str} (hz : z ∈ ps) : (lnStore z).Ok ps := ⟨kinds_eq (w := "store") (ks := ["name", "spot"]) (f := "name spot") (by decide +kernel) (by decide +kernel), by
  intro d hd
  simp only [lnStore, List.mem_cons, List.not_mem_nil, or_false] at hd
  rcases hd with rfl | rfl
  · exact namX
  · exact ⟨hz, by decide, by decide⟩⟩
theorem ok_lnSet {ps : List Str} : (lnSet).Ok ps := ⟨.set 1 (by decide) (by decide), by
  intro d hd
  simp only [lnSet, List.mem_cons, List.not_mem_nil, or_false] at hd
  rcases hd with rfl | rfl
  · exact namX
  · exact in_range (lo := 0) (hi := 255) (by decide +kernel) (by decide +kernel) (by decide) (by decide) (by decide) (by decide)⟩
theorem ok_lnGive {ps : List Str} : (lnGive).Ok ps := ⟨.give 1 (by decide) (by decide), by
  intro d hd
  simp only [lnGive, List.mem_cons, List.not_mem_nil, or_false] at hd
  rcases hd with rfl
  exact namX⟩
theorem ok_lnStep {ps : List Str} {z : Str} (hz : z ∈ ps) : (lnStep z).Ok ps := ⟨kinds_eq (w := "step") (ks := ["pointer", "jump"]) (f := "pointer jump") (by decide +kernel) (by decide +kernel), by
  intro d hd
  simp only [lnStep, List.mem_cons, List.not_mem_nil, or_false] at hd
  rcases hd with rfl | rfl
  · exact hz
  · exact in_range (lo := -30) (hi := 30) (by decide +kernel) (by decide +kernel) (by decide) (by decide) (by decide) (by decide)⟩
theorem ok_lnCopy {ps : List Str} {z : Str} (hz : z ∈ ps) : (lnCopy z).Ok ps := ⟨kinds_eq (w := "copy") (ks := ["many", "from", "spot", "to", "spot"]) (f := "many from spot to spot") (by decide +kernel) (by decide +kernel), by
  intro d hd
  simp only [lnCopy, List.mem_cons, List.not_mem_nil, or_false] at hd
  rcases hd with rfl | rfl | rfl | rfl | rfl
  · exact in_range (lo := 1) (hi := 16) (by decide +kernel) (by decide +kernel) (by decide) (by decide) (by decide) (by decide)
  · exact (show ("from" : Str) ∈ PL.Fixed by decide +kernel)
  · exact ⟨hz, by decide, by decide⟩
  · exact (show ("to" : Str) ∈ PL.Fixed by decide +kernel)
  · exact ⟨hz, by decide, by decide⟩⟩
theorem prg_nil {ps : List Str} : Prg ps "" false := ⟨[], _, text_nil, rfl, lines_nil, st_nil⟩
theorem prg_input {ps : List Str} : Prg ps "input x 1" true := by
  refine ⟨[lnInput], fun y => if y = "x" then some 1 else none, ?_, by decide +kernel, ⟨?_, by decide, ?_, by decide +kernel, ⟨.input rfl (by decide), rfl⟩⟩, ?_⟩
  · decide +kernel
  · intro l hl; rw [List.mem_singleton.mp hl]; exact ok_lnInput
  · intro l hl; rw [List.mem_singleton.mp hl]; exact (show ("input" : Str) ≠ "else" by decide +kernel)
  · intro x z k h
    have := List.mem_singleton.mp h
    exact absurd (congrArg PL.Ln.w this) (show ("store" : Str) ≠ "input" by decide +kernel)
theorem prg_give {ps : List Str} : Prg ps "set x 1\ngive x" true := by
  refine ⟨[lnSet, lnGive], fun y => if y = "x" then some 1 else none, ?_, by decide +kernel, ⟨?_, by decide, ?_, by decide +kernel, ⟨.set (ns := [1]) (by decide) (fun n h => by cases h), ⟨.give (xs := ["x"]) (by decide) (by decide) (fun y hy => ?_), rfl⟩⟩⟩, ?_⟩
  · decide +kernel
  · intro l hl
    simp only [List.mem_cons, List.not_mem_nil, or_false] at hl
    rcases hl with rfl | rfl
    · exact ok_lnSet
    · exact ok_lnGive
  · intro l hl
    simp only [List.mem_cons, List.not_mem_nil, or_false] at hl
    rcases hl with rfl | rfl
    · exact (show ("set" : Str) ≠ "else" by decide +kernel)
    · exact (show ("give" : Str) ≠ "else" by decide +kernel)
  · rw [List.mem_singleton.mp hy]
    exact if_pos rfl
  · intro x z k h
    simp only [List.mem_cons, List.not_mem_nil, or_false] at h
    rcases h with h | h
    · exact absurd (congrArg PL.Ln.w h) (show ("store" : Str) ≠ "set" by decide +kernel)
    · exact absurd (congrArg PL.Ln.w h) (show ("store" : Str) ≠ "give" by decide +kernel)
theorem two_text (a b : PL.Ln) : textOf [a, b] = a.text ++ "\n" ++ b.text := by
  unfold textOf
  rw [TL.join_eq]
  rfl
theorem prg_store {ps : List Str} {z : Str} (hz : z ∈ ps) : Prg ps ("input x 1\nstore x " ++ z) true := by
  refine ⟨[lnInput, lnStore z], fun y => if y = "x" then some 1 else none, ?_, ?_, ⟨?_, by show 2 ≤ 40; decide, ?_, ?_, ⟨.input rfl (by decide), ⟨.store (if_pos rfl), rfl⟩⟩⟩, ?_⟩
  · rw [two_text]
    have e1 : (lnInput).text = "input x 1" := by decide +kernel
    have e2 : (lnStore z).text = "store x " ++ z := by
      show Txt.join " " ["store", "x", CF.spot z 0] = _
      rw [spot0, TL.join_eq]
      refine TL.ext_tl ?_
      rw [TL.tl_join, TL.tl_append]
      show TL.tl "store" ++ (TL.tl " " ++ (TL.tl "x" ++ (TL.tl " " ++ TL.tl z))) = _
      rw [← List.append_assoc (TL.tl "x"), ← List.append_assoc (TL.tl " "), ← List.append_assoc (TL.tl "store")]
      congr 1
    rw [e1, e2]
    refine TL.ext_tl ?_
    simp only [TL.tl_append]
    rw [← List.append_assoc]
    congr 1
  · rfl
  · intro l hl
    simp only [List.mem_cons, List.not_mem_nil, or_false] at hl
    rcases hl with rfl | rfl
    · exact ok_lnInput
    · exact ok_lnStore hz
  · intro l hl
    simp only [List.mem_cons, List.not_mem_nil, or_false] at hl
    rcases hl with rfl | rfl
    · exact (show ("input" : Str) ≠ "else" by decide +kernel)
    · exact (show ("store" : Str) ≠ "else" by decide +kernel)
  · show PL.placed ["input", "store"] "input" [] = some []
    decide +kernel
  · intro x z' k h
    simp only [List.mem_cons, List.not_mem_nil, or_false] at h
    rcases h with h | h
    · exact absurd (congrArg PL.Ln.w h) (show ("store" : Str) ≠ "input" by decide +kernel)
    · have e := congrArg PL.Ln.ds h
      have e2 : PL.Wd.name x = PL.Wd.name "x" := (List.cons.inj e).1
      cases e2
      exact ⟨1, if_pos rfl⟩
theorem prg_step {ps : List Str} {z : Str} (hz : z ∈ ps) : Prg ps ("step " ++ z ++ " 1") false := by
  refine ⟨[lnStep z], fun _ => none, ?_, rfl, ⟨?_, by show 1 ≤ 40; decide, ?_, by show PL.placed ["step"] "input" [] = some []; decide +kernel, ⟨.step, rfl⟩⟩, ?_⟩
  · rw [one_text]
    show Txt.join " " ["step", z, CF.num 1] = _
    rw [TL.join_eq]
    refine TL.ext_tl ?_
    rw [TL.tl_join, TL.tl_append, TL.tl_append]
    show TL.tl "step" ++ (TL.tl " " ++ (TL.tl z ++ (TL.tl " " ++ TL.tl (CF.num 1)))) = _
    have e1 : TL.tl "step " = TL.tl "step" ++ TL.tl " " := by decide +kernel
    have e2 : TL.tl " 1" = TL.tl " " ++ TL.tl (CF.num 1) := by decide +kernel
    rw [e1, e2]
    simp only [List.append_assoc]
  · intro l hl; rw [List.mem_singleton.mp hl]; exact ok_lnStep hz
  · intro l hl; rw [List.mem_singleton.mp hl]; exact (show ("step" : Str) ≠ "else" by decide +kernel)
  · intro x z' k h
    have := List.mem_singleton.mp h
    exact absurd (congrArg PL.Ln.w this) (show ("store" : Str) ≠ "step" by decide +kernel)
theorem prg_copy {ps : List Str} {z : Str} (hz : z ∈ ps) : Prg ps ("copy 2 from " ++ z ++ " to " ++ z) false := by
  refine ⟨[lnCopy z], fun _ => none, ?_, rfl, ⟨?_, by show 1 ≤ 40; decide, ?_, by show PL.placed ["copy"] "input" [] = some []; decide +kernel, ⟨.copy (by decide +kernel), rfl⟩⟩, ?_⟩
  · rw [one_text]
    show Txt.join " " ["copy", CF.num 2, "from", CF.spot z 0, "to", CF.spot z 0] = _
    rw [spot0, TL.join_eq]
    refine TL.ext_tl ?_
    rw [TL.tl_join, TL.tl_append, TL.tl_append, TL.tl_append]
    show TL.tl "copy" ++ (TL.tl " " ++ (TL.tl (CF.num 2) ++ (TL.tl " " ++ (TL.tl "from" ++ (TL.tl " " ++ (TL.tl z ++ (TL.tl " " ++ (TL.tl "to" ++ (TL.tl " " ++ TL.tl z))))))))) = _
    have e1 : TL.tl "copy 2 from " = TL.tl "copy" ++ (TL.tl " " ++ (TL.tl (CF.num 2) ++ (TL.tl " " ++ (TL.tl "from" ++ TL.tl " ")))) := by decide +kernel
    have e2 : TL.tl " to " = TL.tl " " ++ (TL.tl "to" ++ TL.tl " ") := by decide +kernel
    rw [e1, e2]
    simp only [List.append_assoc]
  · intro l hl; rw [List.mem_singleton.mp hl]; exact ok_lnCopy hz
  · intro l hl; rw [List.mem_singleton.mp hl]; exact (show ("copy" : Str) ≠ "else" by decide +kernel)
  · intro x z' k h
    have := List.mem_singleton.mp h
    exact absurd (congrArg PL.Ln.w this) (show ("store" : Str) ≠ "copy" by decide +kernel)
end
end K18
end
section
set_option Elab.async false
set_option linter.all false
set_option maxRecDepth 100000
set_option maxHeartbeats 4000000
namespace K18
open PySem PySem.Spec PyProof.Rows L2
open PySem.W (ke_shaped_ints)
local macro_rules | `(tactic| walk_at "go") => `(tactic| first | refine ⟨_, rfl, ?_⟩ | refine .inl ⟨_, rfl, ?_⟩ | refine ⟨_, _, rfl, rfl, (by first | (show (0 : Int) < _; decide) | exact Or.inl ⟨by decide, by decide⟩ | exact Or.inr ⟨by decide, by decide⟩), ?_⟩ | refine ⟨_, _, rfl, rfl, ?_⟩)
section
variable {P : Program} {w : World} {K : PySem.W.Frag} {mg : Str → Option Value} {base : Heap}

/-- a pair of programs whose sum tells X -/
def PairTells (K : PySem.W.Frag) (CB CP : Addr) (H : Hp) (np : Nat) (X : Str) (r : Addr) : Prop := ∃ (a b : Addr) (ps qs : List Str) (t1 t2 : Str) (r1 r2 : Bool), H r = some (.tup [.ref a, .ref b]) ∧ ProgAt K CB CP H a ps t1 r1 np ∧ ProgAt K CB CP H b qs t2 r2 np ∧ CF.Names ps ∧ CF.Names qs ∧ t1.length ≤ 100000 ∧ t2.length ≤ 100000 ∧ sumAns ps qs r1 r2 = X
theorem PairTells.same {K : PySem.W.Frag} {CB CP : Addr} {H H' : Hp} {np : Nat} {X : Str} {r : Addr} (h : PairTells K CB CP H np X r) (s : Same H H') : PairTells K CB CP H' np X r := by
  obtain ⟨a, b, ps, qs, t1, t2, r1, r2, h1, h2, h3, h4⟩ := h
  exact ⟨a, b, ps, qs, t1, t2, r1, r2, s _ _ h1, h2.same s, h3.same s, h4⟩
theorem ProgAt.put {K : PySem.W.Frag} {CB CP : Addr} {H : Hp} {p q : Addr} {ys : List V} {u : HO} {ps : List Str} {txt : Str} {reg : Bool} {np : Nat} (h : ProgAt K CB CP H p ps txt reg np) (hq : H q = some (.lst ys)) : ProgAt K CB CP (upd H q u) p ps txt reg np := by
  have ins : ∀ {a C dx : Addr} {fs : List (Str × V)}, H a = some (.ins C dx fs) → upd H q u a = some (.ins C dx fs) := fun {a C dx fs} e => by rw [upd_ne (ne_of e hq (by intro z; cases z))]; exact e
  have tup : ∀ {a : Addr} {xs : List V}, H a = some (.tup xs) → upd H q u a = some (.tup xs) := fun {a xs} e => by rw [upd_ne (ne_of e hq (by intro z; cases z))]; exact e
  obtain ⟨dx, pt, b, v4, v5, v6, a, c, d⟩ := h
  obtain ⟨dx', pt', ot', rc, us', os', xx, yy, far, md, cv, b1, b2, b3, b4, b5, b6, b7⟩ := d
  refine ⟨dx, pt, b, v4, v5, v6, ins a, ?_, dx', pt', ot', rc, us', os', xx, yy, far, md, cv, ins b1, tup b2, b3, tup b4, b5, fun o ho => ?_, tup b7⟩
  · rcases c with (c | ⟨o, c⟩) | c
    · exact .inl (.inl (tup c))
    · exact .inl (.inr ⟨o, by rw [upd_ne (ne_of c hq (by intro z; cases z))]; exact c⟩)
    · exact .inr c
  · obtain ⟨x, y, e⟩ := b6 o ho
    exact ⟨x, y, tup e⟩
theorem PairTells.put {K : PySem.W.Frag} {CB CP : Addr} {H : Hp} {q : Addr} {ys : List V} {u : HO} {np : Nat} {X : Str} {r : Addr} (h : PairTells K CB CP H np X r) (hq : H q = some (.lst ys)) : PairTells K CB CP (upd H q u) np X r := by
  obtain ⟨a, b, ps, qs, t1, t2, r1, r2, h1, h2, h3, h4⟩ := h
  exact ⟨a, b, ps, qs, t1, t2, r1, r2, by rw [upd_ne (ne_of h1 hq (by intro z; cases z))]; exact h1, h2.put hq, h3.put hq, h4⟩
theorem rev_ne {ps : List Str} (nd : ps.Nodup) (h1 : 1 < ps.length) (h3 : ps.length ≤ 3) : ps.reverse ≠ ps := by
  match ps, h1, h3 with
  | [a, b], _, _ =>
    intro e
    have := (List.cons.inj e).1
    rw [List.nodup_cons] at nd
    exact nd.1 (by rw [this]; exact List.mem_cons_self)
  | [a, b, c], _, _ =>
    intro e
    have := (List.cons.inj e).1
    rw [List.nodup_cons] at nd
    exact nd.1 (by rw [← this]; simp)
theorem names_rev {ps : List Str} (nm : CF.Names ps) : CF.Names ps.reverse := ⟨fun z hz => nm.1 z (List.mem_reverse.mp hz), List.pairwise_reverse.mpr (nm.2.1.imp fun h => Ne.symm h), by rw [List.length_reverse]; exact nm.2.2.1, by rw [List.length_reverse]; exact nm.2.2.2⟩
theorem names_tail {z : Str} {zs : List Str} (nm : CF.Names (z :: zs)) (h : 1 < (z :: zs).length) : CF.Names zs ∧ zs ≠ z :: zs := by
  rw [List.length_cons] at h
  have h3 := nm.2.2.2
  rw [List.length_cons] at h3
  refine ⟨⟨fun y hy => nm.1 y (List.mem_cons_of_mem _ hy), (List.nodup_cons.mp nm.2.1).2, by omega, by omega⟩, fun e => ?_⟩
  have := congrArg List.length e
  rw [List.length_cons] at this
  omega
theorem names_one {z : Str} (h : CF.NameOk z) : CF.Names [z] := ⟨fun y hy => by rw [List.mem_singleton.mp hy]; exact h, by simp, Nat.le_refl _, (by show 1 ≤ 3; decide)⟩
theorem letter_ok : CF.NameOk "a" ∧ CF.NameOk "b" := ⟨⟨by decide +kernel, by decide +kernel, by decide +kernel, by decide +kernel⟩, ⟨by decide +kernel, by decide +kernel, by decide +kernel, by decide +kernel⟩⟩
theorem low_words : Low "other" ∧ Low "has" ∧ Low "made" := by
  have h : ∀ z ∈ (["other", "has", "made"] : List Str), (z.cps.toList.all fun c => decide (c < 256)) = true := by decide +kernel
  have g : ∀ z ∈ (["other", "has", "made"] : List Str), Low z := fun z hz c hc => of_decide_eq_true (List.all_eq_true.mp (h z hz) c hc)
  exact ⟨g _ (by simp), g _ (by simp), g _ (by simp)⟩
theorem rep_low {X : Str} (h : Low X) (n : Nat) : ∀ y ∈ List.replicate n X, Low y := fun y hy => by rw [(List.mem_replicate.mp hy).2]; exact h
/-- refuses(pen, pointers, made) -/
def spRefuses (K : PySem.W.Frag) (CB CP : Addr) : Sp := fun vs H Q _ => ∃ (p l q m : Addr) (t : Int) (ps : List Str) (txt : Str) (np : Nat), vs = [.ref p, .ref q, .ref m] ∧ Pen H p l t ∧ t ≤ 100000 ∧ H q = some (.lst (ps.map V.str)) ∧ CF.Names ps ∧ ProgAt K CB CP H m ps txt false np ∧ 1 ≤ np ∧ np ≤ 1000 ∧ txt.length ≤ 100000 ∧
  ∀ (H' : Hp) (t' : Int), Pen H' p l t' → t ≤ t' → t' ≤ t + 8 → But p H H' → Q (.bl true) H'
abbrev s_refuses : Stmt := topS 122
theorem sc_refuses : FnScope ["pen", "pointers", "made", "name", "other", "fed", "gives", "far", "pairs", "great", "count", "p", "q"] ["pen", "pointers", "made"] (defScope s_refuses) := ⟨rfl, rfl, rfl, by decide +kernel, rfl, by decide +kernel, by decide +kernel⟩
theorem ok_refuses (T : Txt mg) (D : Def K mg "_law_refuses" s_refuses) {CB CP : Addr} (PC : ProgC K CP) (C__law_sum_told : Cal P w K mg base 15 "_law_sum_told" ["p", "q"] (spSumTold K CB CP)) (C__law_times_told : Cal P w K mg base 15 "_law_times_told" ["p", "count"] (spTimesTold K CB CP)) (C__law_far_number : Cal P w K mg base 2 "_law_far_number" ["pen"] spFar)
    (M_Program : Mkc P w K mg base 10 "Program" CP ["self", "pointers", "text"] (spProgInit K CB CP)) : Cal P w K mg base 16 "_law_refuses" ["pen", "pointers", "made"] (spRefuses K CB CP) := by
  refine D.cal sc_refuses (fun vs H Q E h => ?_) (fun _ _ _ _ _ _ us hl => match us, hl with | [_, _, _], _ => rfl) (fun f cdv A outer s H vs Q E hr h => ?_)
  · obtain ⟨p, l, q, m, t, ps, txt, np, rfl, _⟩ := h
    rfl
  have hu := hu_of hr

  obtain ⟨p, l, q, m, t, ps, txt, np, rfl, pen, ht, hq, nm, pm, np1, np2, tx, k⟩ := h
  have big : sizeLine = 16777216 := sizeLine_eq
  obtain ⟨z0, zs, rfl⟩ : ∃ z zs, ps = z :: zs := by
    cases ps with
    | nil => exact absurd nm.2.2.1 (by decide)
    | cons z zs => exact ⟨z, zs, rfl⟩
  have zl : ((z0 :: zs).map V.str).length = (z0 :: zs).length := List.length_map ..
  refine ⟨_, (pss_cons (ps_set (i := 3) sc_refuses.nd rfl (by first | exact Or.inl rfl | exact Or.inr rfl) (pe_ix ix_list (pv 1) pe_int (fun _ _ => rfl)))
      (C8.pss_cut (ps_set (i := 4) sc_refuses.nd rfl (by first | exact Or.inl rfl | exact Or.inr rfl) (pe_mkc M_Program (hr.mono (by decide)) rfl (pa_cons (pe_ifExp (pt_cmpR op_gt (pe_callB call_len (by rfl) T.f_len PySem.boot_len (pa_cons (pv 1) pa_nil)) pe_int (nomark _)) (pe_slice sl_list (pv 1) (po_some pe_int) po_none) (pe_lst (pa_cons (pe_ifExp (pt_cmpR op_eq (pv 3) pe_str (nomark _)) pe_str pe_str) pa_nil))) (pa_cons pe_str pa_nil))))
      (pss_cons (ps_set (i := 5) sc_refuses.nd rfl (by first | exact Or.inl rfl | exact Or.inr rfl) (pe_mkc M_Program (hr.mono (by decide)) rfl (pa_cons (pv 1) (pa_cons (pe_op op_add_str pe_str (pv 3)) pa_nil))))
      (pss_cons (ps_par (i := 6) (j := 7) (by rfl) sc_refuses.nd rfl rfl (by decide) rfl rfl (pa_cons (pe_mkc M_Program (hr.mono (by decide)) rfl (pa_cons (pv 1) (pa_cons pe_str pa_nil))) (pa_cons (pe_mkc M_Program (hr.mono (by decide)) rfl (pa_cons (pe_fld (pv 4) rfl) (pa_cons pe_str pa_nil))) pa_nil)) (by rfl))
      (pss_cons (ps_set (i := 8) sc_refuses.nd rfl (by first | exact Or.inl rfl | exact Or.inr rfl) (pe_lst (pa_cons (pe_tup (pa_cons (pv 2) (pa_cons (pv 4) pa_nil))) (pa_cons (pe_tup (pa_cons (pv 4) (pa_cons (pv 2) pa_nil))) (pa_cons (pe_tup (pa_cons (pv 2) (pa_cons (pv 7) pa_nil))) (pa_cons (pe_tup (pa_cons (pv 7) (pa_cons (pv 6) pa_nil))) pa_nil))))))
      (pss_cons (ps_expr (pe_bm PySem.F.plainAttrs_list PySem.F.slot_list_append PySem.F.type_list_append mt_append (pv 8) (pa_cons (pe_tup (pa_cons (pv 5) (pa_cons (pv 4) pa_nil))) pa_nil)))
      (C8.pss_cut (ps_if (pt_cmpR op_gt (pe_callB call_len (by rfl) T.f_len PySem.boot_len (pa_cons (pv 1) pa_nil)) pe_int (nomark _)) (pss_one (ps_expr (pe_bm PySem.F.plainAttrs_list PySem.F.slot_list_append PySem.F.type_list_append mt_append (pv 8) (pa_cons (pe_tup (pa_cons (pv 2) (pa_cons (pe_mkc M_Program (hr.mono (by decide)) rfl (pa_cons (pe_revL (pv 1)) (pa_cons pe_str pa_nil))) pa_nil))) pa_nil)))) pss_nil)
      (pss_cons (ps_if (pt_cmpR (op_neD hr.units) (pe_lc (own := [("p", 11), ("q", 12)]) (g := gTup K 2 (gCons (gName 11) (gCons (gName 12) (gNil)))) (tt := tYes) rfl sc_refuses.nd (pi_list (pv 8)) (blkOk_by (N := ["pen", "pointers", "made", "name", "other", "fed", "gives", "far", "pairs", "great", "count", "p", "q"]) (sc := defScope s_refuses) (by decide +kernel)) (fun _ _ _ _ _ => (pg_tup rfl (pgs_cons (pg_name (i := 11) sc_refuses.nd rfl (by first | exact Or.inl rfl | exact Or.inr rfl)) (pgs_cons (pg_name (i := 12) sc_refuses.nd rfl (by first | exact Or.inl rfl | exact Or.inr rfl)) pgs_nil)))) (fun _ _ _ _ _ => pts_nil) (fun _ _ _ _ _ => (pe_cal C__law_sum_told (hr.mono (by decide)) rfl (pa_cons (pv 11) (pa_cons (pv 12) pa_nil))))) (pe_op op_rep (pe_lst (pa_cons pe_str pa_nil)) (pe_callB call_len (by rfl) T.f_len PySem.boot_len (pa_cons (pv 8) pa_nil))) (nomark _)) (pss_one (ps_ret pe_bl)) pss_nil)
      (pss_cons (ps_set (i := 8) sc_refuses.nd rfl (by first | exact Or.inl rfl | exact Or.inr rfl) (pe_lst (pa_cons (pe_tup (pa_cons (pv 2) (pa_cons (pv 5) pa_nil))) (pa_cons (pe_tup (pa_cons (pv 5) (pa_cons (pv 2) pa_nil))) (pa_cons (pe_tup (pa_cons (pv 6) (pa_cons (pv 2) pa_nil))) (pa_cons (pe_tup (pa_cons (pv 2) (pa_cons (pv 6) pa_nil))) pa_nil))))))
      (pss_cons (ps_expr (pe_bm PySem.F.plainAttrs_list PySem.F.slot_list_append PySem.F.type_list_append mt_append (pv 8) (pa_cons (pe_tup (pa_cons (pv 5) (pa_cons (pv 6) pa_nil))) pa_nil)))
      (pss_cons (ps_if (pt_cmpR (op_neD hr.units) (pe_lc (own := [("p", 11), ("q", 12)]) (g := gTup K 2 (gCons (gName 11) (gCons (gName 12) (gNil)))) (tt := tYes) rfl sc_refuses.nd (pi_list (pv 8)) (blkOk_by (N := ["pen", "pointers", "made", "name", "other", "fed", "gives", "far", "pairs", "great", "count", "p", "q"]) (sc := defScope s_refuses) (by decide +kernel)) (fun _ _ _ _ _ => (pg_tup rfl (pgs_cons (pg_name (i := 11) sc_refuses.nd rfl (by first | exact Or.inl rfl | exact Or.inr rfl)) (pgs_cons (pg_name (i := 12) sc_refuses.nd rfl (by first | exact Or.inl rfl | exact Or.inr rfl)) pgs_nil)))) (fun _ _ _ _ _ => pts_nil) (fun _ _ _ _ _ => (pe_cal C__law_sum_told (hr.mono (by decide)) rfl (pa_cons (pv 11) (pa_cons (pv 12) pa_nil))))) (pe_op op_rep (pe_lst (pa_cons pe_str pa_nil)) pe_int) (nomark _)) (pss_one (ps_ret pe_bl)) pss_nil)
      (pss_cons (ps_if (pt_cmpR op_ne (pe_cal C__law_sum_told (hr.mono (by decide)) rfl (pa_cons (pv 2) (pa_cons (pv 2) pa_nil))) pe_str (nomark _)) (pss_one (ps_ret pe_bl)) pss_nil)
      (pss_cons (ps_set (i := 9) sc_refuses.nd rfl (by first | exact Or.inl rfl | exact Or.inr rfl) (pe_op op_add (pe_op op_mul (pe_cal C__law_far_number (hr.mono (by decide)) rfl (pa_cons (pv 0) pa_nil)) pe_int) pe_int))
      (pss_cons (ps_for PassesOwn.never rfl (pi_tup (pe_tup (pa_cons pe_int (pa_cons (pe_un un_neg pe_int) (pa_cons pe_int (pa_cons (pv 9) pa_nil)))))) (pg_name (i := 10) sc_refuses.nd rfl (by first | exact Or.inl rfl | exact Or.inr rfl)) (pss_one (ps_if (PW.pt (pw_or (pt_cmpR op_ne (pe_cal C__law_times_told (hr.mono (by decide)) rfl (pa_cons (pv 2) (pa_cons (pv 10) pa_nil))) (pv 10) (nomark _)) (pw_or1 (pt_cmpR op_ne (pe_cal C__law_times_told (hr.mono (by decide)) rfl (pa_cons (pv 5) (pa_cons (pv 10) pa_nil))) pe_str (nomark _))))) (pss_one (ps_ret pe_bl)) pss_nil)))
      (pss_one (ps_ret (pe_cmpR op_eq (pe_cal C__law_times_told (hr.mono (by decide)) rfl (pa_cons (pv 6) (pa_cons pe_int pa_nil))) pe_str (nomark _)))))))))))))))))), ?_⟩
  refine ⟨_, rfl, q, _, _, _, rfl, rfl, SqL.of hq, atI_nat (j := 0) rfl, ?_⟩
  -- other
  refine ⟨fun σ' H' => ∃ (o : Addr) (qs : List Str), σ' = [some (.ref p), some (.ref q), some (.ref m), some (.str z0), some (.ref o), none, none, none, none, none, none, none, none] ∧ Same H H' ∧ ProgAt K CB CP H' o qs "" false 1 ∧ CF.Names qs ∧ qs ≠ z0 :: zs, ?_, ?_⟩
  · refine ⟨_, rfl, _, _, rfl, .inl ⟨_, SqL.of hq, rfl⟩, _, _, rfl, rfl, _, rfl, ite2 (fun c => ?_) (fun c => ?_)⟩
    · have c1 : 1 < (z0 :: zs).length := by
        have := of_decide_eq_true c
        rw [zl] at this
        omega
      obtain ⟨n1, n2⟩ := names_tail nm c1
      refine ⟨_, rfl, 1, rfl, q, _, rfl, SqL.of hq, fun r hr => ?_⟩
      have cut : cutV ((z0 :: zs).map V.str) (some 1) none = zs.map V.str := cut_one _ _
      rw [cut]
      refine fun x dx hx hdx ne => mkProg hx hdx prg_nil (.inl (SqL.of upd_same)) n1 fun H1 s1 _ p1 => ⟨rfl, ?_⟩
      exact ⟨x, zs, rfl, (Same.new hr).trans s1, p1, n1, n2⟩
    · have c1 : zs = [] := by
        have : ¬ (1 : Int) < ((z0 :: zs).map V.str).length := fun z => c (decide_eq_true z)
        rw [zl, List.length_cons] at this
        exact List.length_eq_zero_iff.mp (by omega)
      subst c1
      refine ⟨_, rfl, rfl, _, rfl, ite2 (fun c => ?_) (fun c => ?_)⟩
      · have e : z0 = "a" := V.str.inj (of_decide_eq_true c)
        refine ⟨by show 1 ≤ sizeLine; decide, fun r hr => ?_⟩
        refine fun x dx hx hdx ne => mkProg (ps := ["b"]) hx hdx prg_nil (.inl (SqL.of upd_same)) (names_one letter_ok.2) fun H1 s1 _ p1 => ⟨rfl, ?_⟩
        exact ⟨x, ["b"], rfl, (Same.new hr).trans s1, p1, names_one letter_ok.2, by rw [e]; decide +kernel⟩
      · have e : z0 ≠ "a" := fun z => c (decide_eq_true (by rw [z]))
        refine ⟨by show 1 ≤ sizeLine; decide, fun r hr => ?_⟩
        refine fun x dx hx hdx ne => mkProg (ps := ["a"]) hx hdx prg_nil (.inl (SqL.of upd_same)) (names_one letter_ok.1) fun H1 s1 _ p1 => ⟨rfl, ?_⟩
        exact ⟨x, ["a"], rfl, (Same.new hr).trans s1, p1, names_one letter_ok.1, fun z => e (List.cons.inj z).1.symm⟩
  rintro σ' H1 ⟨o, qs, rfl, s1, po, nq, nqp⟩
  have z0l := (nm.1 z0 List.mem_cons_self).hi
  -- fed
  refine ⟨_, rfl, _, rfl, _, _, rfl, rfl, ?_, ?_⟩
  · have e : ("input x 1\nstore x " : Str).length = 18 := by decide +kernel
    rw [e]
    omega
  refine fun x1 dx1 hx1 hdx1 _ => mkProg hx1 hdx1 (prg_store List.mem_cons_self) (.inl (SqL.of (s1 _ _ hq))) nm fun H2 s2 _ pf => ⟨rfl, ?_⟩
  have s12 := s1.trans s2
  refine ⟨_, rfl, fun x2 dx2 hx2 hdx2 _ => mkProg hx2 hdx2 prg_give (.inl (SqL.of (s12 _ _ hq))) nm fun H3 s3 _ pg => ⟨rfl, ?_⟩⟩
  have s13 := s12.trans s3
  have po3 := po.same (s2.trans s3)
  obtain ⟨dxo, pto, bo, v4, v5, v6, o1, o2, o3⟩ := id po3
  refine ⟨_, rfl, o, CP, dxo, _, _, rfl, o1, PC.cl, PC.n_pointers, rfl, fun x3 dx3 hx3 hdx3 _ => mkProg hx3 hdx3 prg_input (.inr o2) nq fun H4 s4 _ pr => ⟨rfl, _, _, rfl, ?_⟩⟩
  have s14 := s13.trans s4
  have M : ProgAt K CB CP H4 m (z0 :: zs) txt false np := pm.same s14
  have O : ProgAt K CB CP H4 o qs "" false np := (po3.same s4).mono np1
  have Fd : ProgAt K CB CP H4 x1 (z0 :: zs) ("input x 1\nstore x " ++ z0) true np := (pf.same (s3.trans s4)).mono np1
  have Gv : ProgAt K CB CP H4 x2 (z0 :: zs) "set x 1\ngive x" true np := (pg.same s4).mono np1
  have Fr : ProgAt K CB CP H4 x3 qs "input x 1" true np := pr.mono np1
  have hq4 := s14 _ _ hq
  clear po3 po pf pg pr o1 o2 o3
  refine ⟨_, rfl, _, rfl, by show 2 ≤ sizeLine; decide, fun T1 hT1 => ⟨_, rfl, _, rfl, by show 2 ≤ sizeLine; decide, fun T2 hT2 => ⟨_, rfl, _, rfl, by show 2 ≤ sizeLine; decide, fun T3 hT3 => ⟨_, rfl, _, rfl, by show 2 ≤ sizeLine; decide, fun T4 hT4 => ⟨by show 4 ≤ sizeLine; decide, fun l8 h8 => ?_⟩⟩⟩⟩⟩
  have S1 := Same.new (o := .tup [.ref m, .ref o]) hT1
  have e1 : upd (H4) T1 (.tup [.ref m, .ref o]) T1 = some (.tup [.ref m, .ref o]) := upd_same
  have S2 := Same.new (o := .tup [.ref o, .ref m]) hT2
  have e2 : upd (upd (H4) T1 (.tup [.ref m, .ref o])) T2 (.tup [.ref o, .ref m]) T2 = some (.tup [.ref o, .ref m]) := upd_same
  have S3 := Same.new (o := .tup [.ref m, .ref x3]) hT3
  have e3 : upd (upd (upd (H4) T1 (.tup [.ref m, .ref o])) T2 (.tup [.ref o, .ref m])) T3 (.tup [.ref m, .ref x3]) T3 = some (.tup [.ref m, .ref x3]) := upd_same
  have S4 := Same.new (o := .tup [.ref x3, .ref x2]) hT4
  have e4 : upd (upd (upd (upd (H4) T1 (.tup [.ref m, .ref o])) T2 (.tup [.ref o, .ref m])) T3 (.tup [.ref m, .ref x3])) T4 (.tup [.ref x3, .ref x2]) T4 = some (.tup [.ref x3, .ref x2]) := upd_same
  have S5 := Same.new (o := .lst [.ref T1, .ref T2, .ref T3, .ref T4]) h8
  have l8e : upd (upd (upd (upd (upd (H4) T1 (.tup [.ref m, .ref o])) T2 (.tup [.ref o, .ref m])) T3 (.tup [.ref m, .ref x3])) T4 (.tup [.ref x3, .ref x2])) l8 (.lst [.ref T1, .ref T2, .ref T3, .ref T4]) l8 = some (.lst [.ref T1, .ref T2, .ref T3, .ref T4]) := upd_same
  have sA : Same H4 (upd (upd (upd (upd (upd (H4) T1 (.tup [.ref m, .ref o])) T2 (.tup [.ref o, .ref m])) T3 (.tup [.ref m, .ref x3])) T4 (.tup [.ref x3, .ref x2])) l8 (.lst [.ref T1, .ref T2, .ref T3, .ref T4])) := (((S1.trans S2).trans S3).trans S4).trans S5
  have f1 := (((S2.trans S3).trans S4).trans S5) _ _ e1
  have f2 := ((S3.trans S4).trans S5) _ _ e2
  have f3 := (S4.trans S5) _ _ e3
  have f4 := S5 _ _ e4
  have l8f : H4 l8 = none := Same.free (((S1.trans S2).trans S3).trans S4) h8
  generalize upd (upd (upd (upd (upd (H4) T1 (.tup [.ref m, .ref o])) T2 (.tup [.ref o, .ref m])) T3 (.tup [.ref m, .ref x3])) T4 (.tup [.ref x3, .ref x2])) l8 (.lst [.ref T1, .ref T2, .ref T3, .ref T4]) = H5 at sA f1 f2 f3 f4 l8e ⊢
  clear S1 S2 S3 S4 S5 e1 e2 e3 e4
  -- the fifth
  refine ⟨_, rfl, .inl ⟨rfl, _, SqL.of l8e⟩, _, rfl, _, rfl, by show 2 ≤ sizeLine; decide, fun T5 hT5 => ?_⟩
  have S6 := Same.new (o := .tup [.ref x1, .ref o]) hT5
  have f5 : upd H5 T5 (.tup [.ref x1, .ref o]) T5 = some (.tup [.ref x1, .ref o]) := upd_same
  refine ⟨l8, _, _, rfl, rfl, S6 _ _ l8e, by show 4 < sizeLine; rw [big]; decide, ?_⟩
  have l86 := S6 _ _ l8e
  have sB : Same H4 (upd H5 T5 (.tup [.ref x1, .ref o])) := sA.trans S6
  have l8n := l8f
  have sC := same_put (o := .lst ([.ref T1, .ref T2, .ref T3, .ref T4] ++ [.ref T5])) sB l8n l86
  have tp : ∀ {T : Addr} {xs : List V}, (upd H5 T5 (.tup [.ref x1, .ref o])) T = some (.tup xs) → (upd (upd H5 T5 (.tup [.ref x1, .ref o])) l8 (.lst ([.ref T1, .ref T2, .ref T3, .ref T4] ++ [.ref T5]))) T = some (.tup xs) := fun {T xs} e => by
    rw [upd_ne (ne_of e l86 (by intro z; cases z))]; exact e
  have d1 := tp (S6 _ _ f1)
  have d2 := tp (S6 _ _ f2)
  have d3 := tp (S6 _ _ f3)
  have d4 := tp (S6 _ _ f4)
  have d5 := tp f5
  have l8g : (upd (upd H5 T5 (.tup [.ref x1, .ref o])) l8 (.lst ([.ref T1, .ref T2, .ref T3, .ref T4] ++ [.ref T5]))) l8 = some (.lst (([T1, T2, T3, T4, T5] : List Addr).map V.ref)) := upd_same
  generalize upd (upd H5 T5 (.tup [.ref x1, .ref o])) l8 (.lst ([.ref T1, .ref T2, .ref T3, .ref T4] ++ [.ref T5])) = H6 at sC d1 d2 d3 d4 d5 l8g ⊢
  have fl : ("input x 1\nstore x " ++ z0).length ≤ 100000 := by
    have e : ("input x 1\nstore x " : Str).length = 18 := by decide +kernel
    rw [CF.len_app, e]
    omega
  have gl : ("set x 1\ngive x" : Str).length ≤ 100000 := by decide +kernel
  have il : ("input x 1" : Str).length ≤ 100000 := by decide +kernel
  have nl : ("" : Str).length ≤ 100000 := by decide +kernel
  have oth : ∀ {a b : List Str} {r1 r2 : Bool}, a ≠ b → sumAns a b r1 r2 = "other" := fun h => if_pos h
  have all5 : ∀ r ∈ ([T1, T2, T3, T4, T5] : List Addr), PairTells K CB CP H6 np "other" r := fun r hr => by
    simp only [List.mem_cons, List.not_mem_nil, or_false] at hr
    rcases hr with rfl | rfl | rfl | rfl | rfl
    · exact ⟨_, _, _, _, _, _, _, _, d1, M.same sC, O.same sC, nm, nq, tx, nl, oth (Ne.symm nqp)⟩
    · exact ⟨_, _, _, _, _, _, _, _, d2, O.same sC, M.same sC, nq, nm, nl, tx, oth nqp⟩
    · exact ⟨_, _, _, _, _, _, _, _, d3, M.same sC, Fr.same sC, nm, nq, tx, il, oth (Ne.symm nqp)⟩
    · exact ⟨_, _, _, _, _, _, _, _, d4, Fr.same sC, Gv.same sC, nq, nm, il, gl, oth nqp⟩
    · exact ⟨_, _, _, _, _, _, _, _, d5, Fd.same sC, O.same sC, nm, nq, fl, nl, oth (Ne.symm nqp)⟩
  have hq6 := sC _ _ hq4
  -- the sixth, if there are two pointers
  refine ⟨fun σ' H' => ∃ rs : List Addr, σ' = [some (.ref p), some (.ref q), some (.ref m), some (.str z0), some (.ref o), some (.ref x1), some (.ref x2), some (.ref x3), some (.ref l8), none, none, none, none] ∧ Same H4 H' ∧ H' l8 = some (.lst (rs.map V.ref)) ∧ rs.length ≤ 6 ∧ ∀ r ∈ rs, PairTells K CB CP H' np "other" r, ?_, ?_⟩
  · refine ⟨_, rfl, _, _, rfl, .inl ⟨_, SqL.of hq6, rfl⟩, _, _, rfl, rfl, _, rfl, ite2 (fun c => ?_) (fun _ => ⟨_, rfl, sC, l8g, by show 5 ≤ 6; decide, all5⟩)⟩
    have c1 : 1 < (z0 :: zs).length := by
      have := of_decide_eq_true c
      rw [zl] at this
      omega
    refine ⟨_, rfl, .inl ⟨rfl, _, SqL.of l8g⟩, _, rfl, _, rfl, q, _, rfl, SqL.of hq6, fun r hr => ?_⟩
    have er : ((z0 :: zs).map V.str).reverse = ((z0 :: zs).reverse).map V.str := List.map_reverse.symm
    rw [er]
    refine fun x6 dx6 hx6 hdx6 _ => mkProg hx6 hdx6 prg_nil (.inl (SqL.of upd_same)) (names_rev nm) fun H7 s7 _ p7 => ⟨rfl, by show 2 ≤ sizeLine; decide, fun T6 hT6 => ?_⟩
    have sD := ((Same.new (o := .lst (((z0 :: zs).reverse).map V.str)) hr).trans s7).trans (Same.new (o := .tup [.ref m, .ref x6]) hT6)
    have l87 := sD _ _ l8g
    have sE := sC.trans sD
    refine ⟨l8, _, _, rfl, rfl, l87, by show 5 < sizeLine; rw [big]; decide, ?_⟩
    have sF := same_put (o := .lst (([T1, T2, T3, T4, T5] : List Addr).map V.ref ++ [.ref T6])) sE l8n l87
    refine ⟨[T1, T2, T3, T4, T5, T6], rfl, sF, upd_same, by show 6 ≤ 6; decide, fun r hr6 => ?_⟩
    have hm : r ∈ ([T1, T2, T3, T4, T5] : List Addr) ∨ r = T6 := by
      simp only [List.mem_cons, List.not_mem_nil, or_false] at hr6 ⊢
      rcases hr6 with h | h | h | h | h | h <;> simp [h]
    refine PairTells.put ?_ l87
    rcases hm with hm | rfl
    · exact (all5 r hm).same sD
    · exact ⟨_, _, _, _, _, _, _, _, upd_same, M.same sE, (p7.same (Same.new hT6)).mono np1, nm, names_rev nm, tx, nl, oth (Ne.symm (rev_ne nm.2.1 c1 nm.2.2.2))⟩
  rintro σ' H7 ⟨rs, rfl, s7, l87, r6, tell⟩
  refine ⟨_, rfl, l8, rfl, ⟨_, SqL.of l87⟩, fun D hD => lc_it walk_list (fun i H' => Same H7 H' ∧ H' D = some (.lst ((List.replicate i ("other" : Str)).map V.str))) ⟨Same.new hD, upd_same⟩ (fun i H' _ z => z.1.seq (SqL.of l87)) ?_ ?_⟩
  · rintro i y G1 G2 hi ⟨s8, h8⟩ ⟨rfl, hx⟩
    rw [List.getElem?_map] at hx
    obtain ⟨r, hr, rfl⟩ := Option.map_eq_some_iff.mp hx
    rw [List.length_map] at hi
    obtain ⟨a, b, as, bs, u1, u2, r1, r2, e, pa, pb, na, nb, la, lb, ans⟩ := (tell r (List.mem_of_getElem? hr)).same s8
    refine ⟨r, _, rfl, SqT.of e, rfl, _, _, rfl, _, _, rfl, rfl, ?_⟩
    refine ⟨rfl, _, rfl, _, rfl, a, b, as, bs, u1, u2, r1, r2, np, 100000, rfl, pa, pb, na, nb, np2, Nat.le_refl _, la, lb, fun G3 s9 => ?_⟩
    rw [ans]
    have h9 := s9 _ _ h8
    refine ⟨_, h9, by rw [List.length_map, List.length_replicate]; have := r6; omega, same_put (s8.trans s9) hD h9, ?_⟩
    rw [List.replicate_succ', List.map_append]
    exact upd_same
  rintro G8 ⟨s8, h8⟩
  rw [List.length_map] at h8
  refine ⟨by show 1 ≤ sizeLine; decide, fun e1 he1 => ?_⟩
  have se := Same.new (o := .lst [.str "other"]) he1
  have he : upd G8 e1 (.lst [.str "other"]) e1 = some (.lst [.str "other"]) := upd_same
  have h8e := se _ _ h8
  have s8e := s8.trans se
  generalize upd G8 e1 (.lst [.str "other"]) = G8' at se he h8e s8e ⊢
  refine ⟨_, rfl, _, _, rfl, .inl ⟨_, SqL.of (s8e _ _ l87), rfl⟩, e1, _, _, rfl, rfl, he, by omega, by rw [List.length_map]; omega, by rw [List.length_singleton, List.length_map]; omega, fun e2 he2 => ?_⟩
  rw [show (((rs.map V.ref).length : Nat) : Int).toNat = rs.length by rw [List.length_map]; rfl]
  have fe : (List.replicate rs.length [V.str "other"]).flatten = (List.replicate rs.length ("other" : Str)).map V.str := by rw [flat_rep, List.map_replicate]
  rw [fe]
  have s9 := s8e.trans (Same.new (o := .lst ((List.replicate rs.length ("other" : Str)).map V.str)) he2)
  have h8f := Same.new (o := .lst ((List.replicate rs.length ("other" : Str)).map V.str)) he2 _ _ h8e
  refine ⟨.list ((List.replicate rs.length ("other" : Str)).map PyData.str), .list ((List.replicate rs.length ("other" : Str)).map PyData.str), .lst (SqL.of h8f) (dps_strs _ _ _), .lst (SqL.of upd_same) (dps_strs _ _ _), shaped_strs (rep_low low_words.1 _), shaped_strs (rep_low low_words.1 _), _, rfl, ?_⟩
  have ev : PyData.eqv (.list ((List.replicate rs.length ("other" : Str)).map PyData.str)) (.list ((List.replicate rs.length ("other" : Str)).map PyData.str)) = true := (eqv_strs _ _).trans (decide_eq_true rfl)
  rw [ev]
  refine iteF ?_
  generalize upd G8' e2 (.lst ((List.replicate rs.length ("other" : Str)).map V.str)) = G8z at s9 ⊢
  clear se he h8e s8e h8f s8 h8 fe ev
  have s4z := s7.trans s9
  -- the second pairs
  refine ⟨_, rfl, _, rfl, by show 2 ≤ sizeLine; decide, fun U1 hU1 => ⟨_, rfl, _, rfl, by show 2 ≤ sizeLine; decide, fun U2 hU2 => ⟨_, rfl, _, rfl, by show 2 ≤ sizeLine; decide, fun U3 hU3 => ⟨_, rfl, _, rfl, by show 2 ≤ sizeLine; decide, fun U4 hU4 => ⟨by show 4 ≤ sizeLine; decide, fun l9 h9 => ?_⟩⟩⟩⟩⟩
  have S1 := Same.new (o := .tup [.ref m, .ref x1]) hU1
  have e1 : upd (G8z) U1 (.tup [.ref m, .ref x1]) U1 = some (.tup [.ref m, .ref x1]) := upd_same
  have S2 := Same.new (o := .tup [.ref x1, .ref m]) hU2
  have e2 : upd (upd (G8z) U1 (.tup [.ref m, .ref x1])) U2 (.tup [.ref x1, .ref m]) U2 = some (.tup [.ref x1, .ref m]) := upd_same
  have S3 := Same.new (o := .tup [.ref x2, .ref m]) hU3
  have e3 : upd (upd (upd (G8z) U1 (.tup [.ref m, .ref x1])) U2 (.tup [.ref x1, .ref m])) U3 (.tup [.ref x2, .ref m]) U3 = some (.tup [.ref x2, .ref m]) := upd_same
  have S4 := Same.new (o := .tup [.ref m, .ref x2]) hU4
  have e4 : upd (upd (upd (upd (G8z) U1 (.tup [.ref m, .ref x1])) U2 (.tup [.ref x1, .ref m])) U3 (.tup [.ref x2, .ref m])) U4 (.tup [.ref m, .ref x2]) U4 = some (.tup [.ref m, .ref x2]) := upd_same
  have S5 := Same.new (o := .lst [.ref U1, .ref U2, .ref U3, .ref U4]) h9
  have l9e : upd (upd (upd (upd (upd (G8z) U1 (.tup [.ref m, .ref x1])) U2 (.tup [.ref x1, .ref m])) U3 (.tup [.ref x2, .ref m])) U4 (.tup [.ref m, .ref x2])) l9 (.lst [.ref U1, .ref U2, .ref U3, .ref U4]) l9 = some (.lst [.ref U1, .ref U2, .ref U3, .ref U4]) := upd_same
  have sA : Same G8z (upd (upd (upd (upd (upd (G8z) U1 (.tup [.ref m, .ref x1])) U2 (.tup [.ref x1, .ref m])) U3 (.tup [.ref x2, .ref m])) U4 (.tup [.ref m, .ref x2])) l9 (.lst [.ref U1, .ref U2, .ref U3, .ref U4])) := (((S1.trans S2).trans S3).trans S4).trans S5
  have f1 := (((S2.trans S3).trans S4).trans S5) _ _ e1
  have f2 := ((S3.trans S4).trans S5) _ _ e2
  have f3 := (S4.trans S5) _ _ e3
  have f4 := S5 _ _ e4
  have l9f : G8z l9 = none := Same.free (((S1.trans S2).trans S3).trans S4) h9
  generalize upd (upd (upd (upd (upd (G8z) U1 (.tup [.ref m, .ref x1])) U2 (.tup [.ref x1, .ref m])) U3 (.tup [.ref x2, .ref m])) U4 (.tup [.ref m, .ref x2])) l9 (.lst [.ref U1, .ref U2, .ref U3, .ref U4]) = H5 at sA f1 f2 f3 f4 l9e ⊢
  clear S1 S2 S3 S4 S5 e1 e2 e3 e4
  refine ⟨_, rfl, .inl ⟨rfl, _, SqL.of l9e⟩, _, rfl, _, rfl, by show 2 ≤ sizeLine; decide, fun U5 hU5 => ?_⟩
  have S6 := Same.new (o := .tup [.ref x1, .ref x2]) hU5
  have f5 : upd H5 U5 (.tup [.ref x1, .ref x2]) U5 = some (.tup [.ref x1, .ref x2]) := upd_same
  refine ⟨l9, _, _, rfl, rfl, S6 _ _ l9e, by show 4 < sizeLine; rw [big]; decide, ?_⟩
  have l96 := S6 _ _ l9e
  have sB : Same G8z (upd H5 U5 (.tup [.ref x1, .ref x2])) := sA.trans S6
  have sC := same_put (o := .lst ([.ref U1, .ref U2, .ref U3, .ref U4] ++ [.ref U5])) sB l9f l96
  have tp : ∀ {T : Addr} {xs : List V}, (upd H5 U5 (.tup [.ref x1, .ref x2])) T = some (.tup xs) → (upd (upd H5 U5 (.tup [.ref x1, .ref x2])) l9 (.lst ([.ref U1, .ref U2, .ref U3, .ref U4] ++ [.ref U5]))) T = some (.tup xs) := fun {T xs} e => by
    rw [upd_ne (ne_of e l96 (by intro z; cases z))]; exact e
  have d1 := tp (S6 _ _ f1)
  have d2 := tp (S6 _ _ f2)
  have d3 := tp (S6 _ _ f3)
  have d4 := tp (S6 _ _ f4)
  have d5 := tp f5
  have l9g : (upd (upd H5 U5 (.tup [.ref x1, .ref x2])) l9 (.lst ([.ref U1, .ref U2, .ref U3, .ref U4] ++ [.ref U5]))) l9 = some (.lst (([U1, U2, U3, U4, U5] : List Addr).map V.ref)) := upd_same
  generalize upd (upd H5 U5 (.tup [.ref x1, .ref x2])) l9 (.lst ([.ref U1, .ref U2, .ref U3, .ref U4] ++ [.ref U5])) = H9 at sC d1 d2 d3 d4 d5 l9g ⊢
  have s49 := s4z.trans sC
  have has : ∀ {a : List Str} {r1 r2 : Bool}, (r1 || r2) = true → sumAns a a r1 r2 = "has" := fun h => by unfold sumAns; rw [if_neg (by simp), if_pos h]
  have all6 : ∀ r ∈ ([U1, U2, U3, U4, U5] : List Addr), PairTells K CB CP H9 np "has" r := fun r hr => by
    simp only [List.mem_cons, List.not_mem_nil, or_false] at hr
    rcases hr with rfl | rfl | rfl | rfl | rfl
    · exact ⟨_, _, _, _, _, _, _, _, d1, M.same s49, Fd.same s49, nm, nm, tx, fl, has rfl⟩
    · exact ⟨_, _, _, _, _, _, _, _, d2, Fd.same s49, M.same s49, nm, nm, fl, tx, has rfl⟩
    · exact ⟨_, _, _, _, _, _, _, _, d3, Gv.same s49, M.same s49, nm, nm, gl, tx, has rfl⟩
    · exact ⟨_, _, _, _, _, _, _, _, d4, M.same s49, Gv.same s49, nm, nm, tx, gl, has rfl⟩
    · exact ⟨_, _, _, _, _, _, _, _, d5, Fd.same s49, Gv.same s49, nm, nm, fl, gl, has rfl⟩
  obtain ⟨rs2, l9h, r5, tell2⟩ : ∃ rs2 : List Addr, H9 l9 = some (.lst (rs2.map V.ref)) ∧ rs2.length = 5 ∧ ∀ r ∈ rs2, PairTells K CB CP H9 np "has" r := ⟨_, l9g, rfl, all6⟩
  refine ⟨_, rfl, l9, rfl, ⟨_, SqL.of l9h⟩, fun D hD => lc_it walk_list (fun i H' => Same H9 H' ∧ H' D = some (.lst ((List.replicate i ("has" : Str)).map V.str))) ⟨Same.new hD, upd_same⟩ (fun i H' _ z => z.1.seq (SqL.of l9h)) ?_ ?_⟩
  · rintro i y G1 G2 hi ⟨s8, h8⟩ ⟨rfl, hx⟩
    rw [List.getElem?_map] at hx
    obtain ⟨r, hr, rfl⟩ := Option.map_eq_some_iff.mp hx
    rw [List.length_map] at hi
    obtain ⟨a, b, as, bs, u1, u2, r1, r2, e, pa, pb, na, nb, la, lb, ans⟩ := (tell2 r (List.mem_of_getElem? hr)).same s8
    refine ⟨r, _, rfl, SqT.of e, rfl, _, _, rfl, _, _, rfl, rfl, ?_⟩
    refine ⟨rfl, _, rfl, _, rfl, a, b, as, bs, u1, u2, r1, r2, np, 100000, rfl, pa, pb, na, nb, np2, Nat.le_refl _, la, lb, fun G3 s9 => ?_⟩
    rw [ans]
    have h9 := s9 _ _ h8
    refine ⟨_, h9, by rw [List.length_map, List.length_replicate]; have := r5; omega, same_put (s8.trans s9) hD h9, ?_⟩
    rw [List.replicate_succ', List.map_append]
    exact upd_same
  rintro GA ⟨s8, h8⟩
  rw [List.length_map] at h8
  refine ⟨by show 1 ≤ sizeLine; decide, fun e1 he1 => ?_⟩
  have se := Same.new (o := .lst [.str "has"]) he1
  have he : upd GA e1 (.lst [.str "has"]) e1 = some (.lst [.str "has"]) := upd_same
  have h8e := se _ _ h8
  have s8e := s8.trans se
  generalize upd GA e1 (.lst [.str "has"]) = GA' at se he h8e s8e ⊢
  refine ⟨e1, _, _, rfl, rfl, he, by decide, by decide, by show 1 * 5 ≤ sizeLine; decide, fun e2 he2 => ?_⟩
  rw [show (5 : Int).toNat = rs2.length by rw [r5]; rfl]
  have fe : (List.replicate rs2.length [V.str "has"]).flatten = (List.replicate rs2.length ("has" : Str)).map V.str := by rw [flat_rep, List.map_replicate]
  rw [fe]
  have s9 := s8e.trans (Same.new (o := .lst ((List.replicate rs2.length ("has" : Str)).map V.str)) he2)
  have h8f := Same.new (o := .lst ((List.replicate rs2.length ("has" : Str)).map V.str)) he2 _ _ h8e
  refine ⟨.list ((List.replicate rs2.length ("has" : Str)).map PyData.str), .list ((List.replicate rs2.length ("has" : Str)).map PyData.str), .lst (SqL.of h8f) (dps_strs _ _ _), .lst (SqL.of upd_same) (dps_strs _ _ _), shaped_strs (rep_low low_words.2.1 _), shaped_strs (rep_low low_words.2.1 _), _, rfl, ?_⟩
  have ev : PyData.eqv (.list ((List.replicate rs2.length ("has" : Str)).map PyData.str)) (.list ((List.replicate rs2.length ("has" : Str)).map PyData.str)) = true := (eqv_strs _ _).trans (decide_eq_true rfl)
  rw [ev]
  refine iteF ?_
  generalize upd GA' e2 (.lst ((List.replicate rs2.length ("has" : Str)).map V.str)) = GAz at s9 ⊢
  clear se he h8e s8e h8f s8 h8 fe ev
  have s4y := s49.trans s9
  -- made + made
  refine ⟨_, rfl, _, rfl, m, m, z0 :: zs, z0 :: zs, txt, txt, false, false, np, 100000, rfl, M.same s4y, M.same s4y, nm, nm, np2, Nat.le_refl _, tx, tx, fun GB sB2 => ?_⟩
  have mm : sumAns (z0 :: zs) (z0 :: zs) false false = "made" := by unfold sumAns; rw [if_neg (by simp), if_neg (by decide)]
  rw [mm]
  refine ⟨rfl, _, rfl, iteF ?_⟩
  have s4x := s4y.trans sB2
  have s0x := s14.trans s4x
  -- great
  refine ⟨_, rfl, p, l, t, rfl, pen.same s0x, by omega, fun v HF t' hv penF t1 t2 bF => ⟨_, _, rfl, rfl, .inr ⟨by decide, by decide⟩, _, _, rfl, rfl, ?_⟩⟩
  have bAll : But p H HF := (But.of s0x).trans bF
  have MF := (M.same s4x).pen (pen.same s0x) bF
  have FF := (Fd.same s4x).pen (pen.same s0x) bF
  have GF := (Gv.same s4x).pen (pen.same s0x) bF
  have big42 : (v * 10 + 6).natAbs < 2 ^ 200 := by
    have e : (2 : Nat) ^ 200 = 1606938044258990275541962092341162602522202993782792835301376 := by decide
    have e2 : (10 : Nat) ^ 42 = 1000000000000000000000000000000000000000000 := by decide
    rw [e2] at hv
    rw [e]
    omega
  have lg : ∀ c : Int, c.natAbs < 2 ^ 200 → c.natAbs.log2 < 1920 := fun c hc => by
    by_cases z : c.natAbs = 0
    · rw [z]; decide
    · have := (Nat.log2_lt z).mpr hc
      omega
  have lgz := lg _ big42
  have goutz : ¬ (1 ≤ v * 10 + 6 ∧ v * 10 + 6 ≤ 5) := by omega
  -- counts that are none
  refine ⟨_, rfl, _, rfl, by show 4 ≤ sizeLine; decide, fun ct hct => ?_⟩
  have sct := Same.new (o := .tup [.int 0, .int (-1), .int 6, .int (v * 10 + 6)]) hct
  have hcte : upd HF ct (.tup [.int 0, .int (-1), .int 6, .int (v * 10 + 6)]) ct = some (.tup [.int 0, .int (-1), .int 6, .int (v * 10 + 6)]) := upd_same
  have MC := MF.same sct
  have FC := FF.same sct
  have GC := GF.same sct
  have penC := penF.same sct
  have bC := bAll.trans (But.of sct)
  clear MF FF GF
  refine ⟨ct, rfl, ⟨_, SqT.of hcte⟩, ?_⟩
  obtain ⟨HC, eHC⟩ : ∃ h, h = upd HF ct (.tup [.int 0, .int (-1), .int 6, .int (v * 10 + 6)]) := ⟨_, rfl⟩
  rw [← eHC] at hcte MC FC GC penC bC
  refine for_it walk_tup (fun i σ H' => ∃ v10, σ = [some (.ref p), some (.ref q), some (.ref m), some (.str z0), some (.ref o), some (.ref x1), some (.ref x2), some (.ref x3), some (.ref l9), some (.int (v * 10 + 6)), v10, none, none] ∧ Same HC H') ⟨none, rfl, by rw [eHC]; exact Same.refl _⟩ (fun i σ H' _ ⟨_, _, z⟩ => SqT.of (z _ _ hcte)) ?_ ?_
  · rintro i x σ G1 G2 hi ⟨v10, rfl, s1'⟩ ⟨rfl, hx⟩
    obtain ⟨c, rfl, cl, cg⟩ : ∃ c : Int, x = .int c ∧ ¬ (1 ≤ c ∧ c ≤ 5) ∧ c.natAbs.log2 < 1920 := by
      have := List.mem_of_getElem? hx
      simp only [List.mem_cons, List.not_mem_nil, or_false] at this
      rcases this with rfl | rfl | rfl | rfl
      · exact ⟨0, rfl, by decide, by decide⟩
      · exact ⟨-1, rfl, by decide, by decide⟩
      · exact ⟨6, rfl, by decide, by decide⟩
      · exact ⟨(v * 10 + 6), rfl, goutz, lgz⟩
    have a1 : timesAns false c = .int c := by unfold timesAns; rw [if_neg (by decide), if_neg cl]
    have a2 : timesAns true c = .str "has" := if_pos rfl
    refine ⟨_, rfl, _, rfl, m, c, _, txt, false, np, 100000, rfl, MC.same s1', nm, np2, Nat.le_refl _, tx, cg, fun G3 s2' => ?_⟩
    rw [a1]
    refine ⟨_, rfl, rfl, _, rfl, ?_⟩
    rw [decide_eq_true rfl]
    refine iteF ⟨_, rfl, _, rfl, x1, c, _, _, true, np, 100000, rfl, FC.same (s1'.trans s2'), nm, np2, Nat.le_refl _, fl, cg, fun G4 s3' => ?_⟩
    rw [a2]
    exact ⟨rfl, _, rfl, iteF ⟨_, rfl, (s1'.trans s2').trans s3'⟩⟩
  · rintro σ G ⟨v10, rfl, s1'⟩
    have a2 : timesAns true 1 = .str "has" := if_pos rfl
    refine ⟨_, rfl, x2, 1, _, _, true, np, 100000, rfl, GC.same s1', nm, np2, Nat.le_refl _, gl, by decide, fun G4 s3' => ?_⟩
    rw [a2]
    refine ⟨rfl, ?_⟩
    have e : (V.bl (decide (V.str "has" = V.str "has"))) = V.bl true := by rw [decide_eq_true rfl]
    rw [e]
    exact k G4 t' (penC.same (s1'.trans s3')) t1 t2 (bC.trans (But.of (s1'.trans s3')))

end
end K18
end
section
set_option Elab.async false
set_option linter.all false
set_option maxRecDepth 100000
set_option maxHeartbeats 4000000
namespace K18
open PySem PySem.Spec PyProof.Rows L2
open PySem.W (ke_shaped_ints)
local macro_rules | `(tactic| walk_at "go") => `(tactic| first | refine ⟨_, rfl, ?_⟩ | refine .inl ⟨_, rfl, ?_⟩ | refine ⟨_, _, rfl, rfl, (by first | (show (0 : Int) < _; decide) | exact Or.inl ⟨by decide, by decide⟩ | exact Or.inr ⟨by decide, by decide⟩), ?_⟩ | refine ⟨_, _, rfl, rfl, ?_⟩)
section
variable {P : Program} {w : World} {K : PySem.W.Frag} {mg : Str → Option Value} {base : Heap}

theorem passAtN {X : Cx} (σ : L2.St) : PassesAt (CX X.prog X.w) X σ E0 := fun pins H s e s' I h => passN pins σ H s e s' I h
def spLaw (K : PySem.W.Frag) : Sp := fun vs H Q _ => ∃ (a : Addr) (ns : List Int), vs = [.ref a] ∧ SqL K H a (ns.map V.int) ∧ ∀ H', Q (.bl true) H'
abbrev s_law : Stmt := topS 123
theorem sc_law : FnScope ["script", "pen", "turn", "pointers", "spot", "texts", "made", "k", "count"] ["script"] (defScope s_law) := ⟨rfl, rfl, rfl, by decide +kernel, rfl, by decide +kernel, by decide +kernel⟩
theorem law_red {CB CP : Addr} (T : Txt mg) (PC : ProgC K CP)
    (C__law_begun_pen : Cal P w K mg base 1 "_law_begun_pen" ["script"] (spBegun K))
    (C__law_draw : Cal P w K mg base 1 "_law_draw" ["pen", "span"] spDraw)
    (C__law_pick : Cal P w K mg base 2 "_law_pick" ["pen", "options"] (spPick K))
    (C__law_new_words : Cal P w K mg base 3 "_law_new_words" ["pen", "many"] spNewWords)
    (C__law_times_told : Cal P w K mg base 15 "_law_times_told" ["p", "count"] (spTimesTold K CB CP))
    (C__law_refuses : Cal P w K mg base 16 "_law_refuses" ["pen", "pointers", "made"] (spRefuses K CB CP))
    (M_add : OpX P w K mg base (CX P w) 14 CP .Add ["self", "other"] (spAdd K CB CP)) (M_mul : OpX P w K mg base (CX P w) 14 CP .Mult ["self", "other"] (spMul K CB CP)) (N_mul : OpI K CP .Mult)
    (M_Program : Mkc P w K mg base 10 "Program" CP ["self", "pointers", "text"] (spProgInit K CB CP))
    (A : Around) (f : Addr) (cdv : Value) (outer : List Env) (s : Shared) (H : Hp) (vs : List V) (Q : VK) (E : XK) (hr : Room 17 (A.deeper (envOfC "law" (defScope s_law) s.heap.objs.size f cdv))) (h : spLaw K vs H Q E) :
    ∃ t, PSs (cxOf CX0 P w K mg base ["script", "pen", "turn", "pointers", "spot", "texts", "made", "k", "count"] "law" (defScope s_law) f cdv A outer s H E).nox (defBody s_law) t ∧ t { nx := fun _ H' => Q .non H', rt := Q } (start ["script", "pen", "turn", "pointers", "spot", "texts", "made", "k", "count"] vs) H := by
  have hu := hu_of hr
  obtain ⟨a, ns, rfl, hS, k⟩ := h
  have big : sizeLine = 16777216 := sizeLine_eq
  refine ⟨_, (pss_cons (ps_set (i := 1) sc_law.nd rfl (by first | exact Or.inl rfl | exact Or.inr rfl) (pe_cal C__law_begun_pen (hr.mono (by decide)) rfl (pa_cons (pv 0) pa_nil)))
      (pss_cons (ps_for PassesOwn.never rfl (pi_range1 rfl T.f_range (pa_cons pe_int pa_nil)) (pg_name (i := 2) sc_law.nd rfl (by first | exact Or.inl rfl | exact Or.inr rfl)) (pss_cons (ps_set (i := 3) sc_law.nd rfl (by first | exact Or.inl rfl | exact Or.inr rfl) (pe_cal C__law_new_words (hr.mono (by decide)) rfl (pa_cons (pv 1) (pa_cons (pe_op op_add pe_int (pe_cal C__law_draw (hr.mono (by decide)) rfl (pa_cons (pv 1) (pa_cons pe_int pa_nil)))) pa_nil))))
      (pss_cons (ps_set (i := 4) sc_law.nd rfl (by first | exact Or.inl rfl | exact Or.inr rfl) (pe_cal C__law_pick (hr.mono (by decide)) rfl (pa_cons (pv 1) (pa_cons (pv 3) pa_nil))))
      (pss_cons (ps_set (i := 5) sc_law.nd rfl (by first | exact Or.inl rfl | exact Or.inr rfl) (pe_lst (pa_cons pe_str (pa_cons (pe_op op_add_str (pe_op op_add_str pe_str (pv 4)) pe_str) (pa_cons (pe_op op_add_str (pe_op op_add_str (pe_op op_add_str pe_str (pv 4)) pe_str) (pv 4)) pa_nil)))))
      (pss_cons (ps_set (i := 6) sc_law.nd rfl (by first | exact Or.inl rfl | exact Or.inr rfl) (pe_mkc M_Program (hr.mono (by decide)) rfl (pa_cons (pv 3) (pa_cons (pe_cal C__law_pick (hr.mono (by decide)) rfl (pa_cons (pv 1) (pa_cons (pv 5) pa_nil))) pa_nil))))
      (pss_cons (ps_for PassesOwn.never rfl (pi_range1 rfl T.f_range (pa_cons (pe_cal C__law_draw (hr.mono (by decide)) rfl (pa_cons (pv 1) (pa_cons pe_int pa_nil))) pa_nil)) (pg_name (i := 7) sc_law.nd rfl (by first | exact Or.inl rfl | exact Or.inr rfl)) (pss_cons (ps_set (i := 8) sc_law.nd rfl (by first | exact Or.inl rfl | exact Or.inr rfl) (pe_op op_add pe_int (pe_cal C__law_draw (hr.mono (by decide)) rfl (pa_cons (pv 1) (pa_cons pe_int pa_nil)))))
      (C8.pss_cut (ps_set (i := 6) sc_law.nd rfl (by first | exact Or.inl rfl | exact Or.inr rfl) (pe_ifExp (pt_cmpR op_eq (pv 8) pe_int (nomark _)) (pe_opS (E := fun _ => E0) M_add (pv 6) (pv 6) (hr.mono (by decide)) (fun σ => passAtN σ)) (pe_opI (E := fun _ => E0) M_mul N_mul (pv 6) (pv 8) (hr.mono (by decide)) (fun σ => passAtN σ))))
      (pss_one (ps_if (pt_cmpR (op_neD hr.units) (pe_lc (own := [("count", 8)]) (g := gName 8) (tt := tYes) rfl sc_law.nd (pi_tup (pe_tup (pa_cons pe_int (pa_cons pe_int (pa_cons pe_int (pa_cons pe_int (pa_cons pe_int pa_nil))))))) (blkOk_by (N := ["script", "pen", "turn", "pointers", "spot", "texts", "made", "k", "count"]) (sc := defScope s_law) (by decide +kernel)) (fun _ _ _ _ _ => (pg_name (i := 8) sc_law.nd rfl (by first | exact Or.inl rfl | exact Or.inr rfl))) (fun _ _ _ _ _ => pts_nil) (fun _ _ _ _ _ => (pe_cal C__law_times_told (hr.mono (by decide)) rfl (pa_cons (pv 6) (pa_cons (pv 8) pa_nil))))) (pe_op op_rep (pe_lst (pa_cons pe_str pa_nil)) pe_int) (nomark _)) (pss_one (ps_ret pe_bl)) pss_nil)))))
      (pss_one (ps_if (pt_not (pt_val (pe_cal C__law_refuses (hr.mono (by decide)) rfl (pa_cons (pv 1) (pa_cons (pv 3) (pa_cons (pv 6) pa_nil)))))) (pss_one (ps_ret pe_bl)) pss_nil))))))))
      (pss_one (ps_ret pe_bl)))), ?_⟩

  refine ⟨_, rfl, a, ns, rfl, hS, fun p l H1 _ _ s1 pen => ?_⟩
  refine ⟨5, rfl, by decide, by decide, for_it walk_range (fun i σ H2 => ∃ (v2 v3 v4 v5 v6 v7 v8 : Option V) (t : Int), σ = [some (.ref a), some (.ref p), v2, v3, v4, v5, v6, v7, v8] ∧ Pen H2 p l t ∧ t ≤ 200 * i) ⟨_, _, _, _, _, _, _, 0, rfl, pen, by simp⟩ (fun _ _ _ _ _ => True.intro) ?hs ?hd⟩
  case hd =>
    rintro σ H2 ⟨v2, v3, v4, v5, v6, v7, v8, t, rfl, pen2, ht⟩
    exact k _
  rintro i x σ H0 H0' hi ⟨v2, v3, v4, v5, v6, v7, v8, t, rfl, pen, ht⟩ ⟨rfl, rfl⟩
  have i5 : i < 5 := hi
  -- pointers
  refine ⟨_, rfl, _, rfl, p, l, t, 3, rfl, pen, by omega, by decide, by decide, fun d H1 t1 d0 d1 pen1 g1 g2 b1 => ⟨_, _, rfl, rfl, ?_⟩⟩
  refine ⟨p, l, t1, 1 + d, rfl, pen1, by omega, by omega, by omega, fun q ps H2 t2 nm pen2 g3 g4 b2 hqn hq => ?_⟩
  have nqp : q ≠ p := fun z => by
    obtain ⟨o, ho⟩ := pen1.at_
    rw [z, ho] at hqn
    cases hqn
  have pl : (ps.map V.str).length = ps.length := List.length_map ..
  have p1 := nm.2.2.1
  have p3 := nm.2.2.2
  -- spot
  refine ⟨_, rfl, _, rfl, p, l, q, t2, _, rfl, pen2, by omega, nqp, .inl (SqL.of hq), by omega, by omega, fun j v H3 t3 hv pen3 g5 g6 b3 => ?_⟩
  rw [List.getElem?_map] at hv
  obtain ⟨z, hz, rfl⟩ := Option.map_eq_some_iff.mp hv
  have zm := List.mem_of_getElem? hz
  have z12 := (nm.1 z zm).hi
  have hq3 := b3 _ _ nqp hq
  have l5 : ("step " : Str).length = 5 := by decide +kernel
  have l2 : (" 1" : Str).length = 2 := by decide +kernel
  have l12 : ("copy 2 from " : Str).length = 12 := by decide +kernel
  have l4 : (" to " : Str).length = 4 := by decide +kernel
  -- texts
  refine ⟨_, rfl, _, _, rfl, rfl, by omega, _, _, rfl, rfl, by rw [CF.len_app]; omega, ?_⟩
  refine ⟨_, rfl, _, _, rfl, rfl, by omega, _, _, rfl, rfl, by rw [CF.len_app]; omega, _, rfl, _, _, rfl, rfl, by rw [CF.len_app, CF.len_app]; omega, ?_⟩
  refine ⟨by show 3 ≤ sizeLine; decide, fun tl htl => ?_⟩
  have sT := Same.new (o := .lst [.str "", .str ("step " ++ z ++ " 1"), .str ("copy 2 from " ++ z ++ " to " ++ z)]) htl
  have tle : upd H3 tl (.lst [.str "", .str ("step " ++ z ++ " 1"), .str ("copy 2 from " ++ z ++ " to " ++ z)]) tl = some (.lst [.str "", .str ("step " ++ z ++ " 1"), .str ("copy 2 from " ++ z ++ " to " ++ z)]) := upd_same
  have ntp : tl ≠ p := fun e => by
    obtain ⟨o, ho⟩ := pen3.at_
    rw [e, ho] at htl
    cases htl
  -- made
  refine ⟨_, rfl, _, rfl, _, rfl, p, l, tl, t3, _, rfl, pen3.same sT, by omega, ntp, .inl (SqL.of tle), by show 0 < 3; decide, by show 3 ≤ 1000000; decide, fun j2 v9 H4 t4 hv2 pen4 g7 g8 b4 => ?_⟩
  have hq4 := b4 _ _ nqp (sT _ _ hq3)
  obtain ⟨txt, rfl, pg, tx⟩ : ∃ txt : Str, v9 = .str txt ∧ Prg ps txt false ∧ txt.length ≤ 100 := by
    have := List.mem_of_getElem? hv2
    simp only [List.mem_cons, List.not_mem_nil, or_false] at this
    rcases this with rfl | rfl | rfl
    · exact ⟨_, rfl, prg_nil, by decide +kernel⟩
    · exact ⟨_, rfl, prg_step zm, by rw [CF.len_app, CF.len_app]; omega⟩
    · exact ⟨_, rfl, prg_copy zm, by rw [CF.len_app, CF.len_app, CF.len_app]; omega⟩
  refine fun x5 dx5 hx5 hdx5 _ => mkProg hx5 hdx5 pg (.inl (SqL.of hq4)) nm fun H5 s5 _ pr5 => ⟨rfl, ?_⟩
  have pen5 := pen4.same s5
  have hq5 := s5 _ _ hq4
  -- the turns
  refine ⟨_, rfl, p, l, t4, 4, rfl, pen5, by omega, by decide, by decide, fun n H6 t6 n0 n1 pen6 g9 g10 b6 => ⟨n, rfl, by omega, by omega, for_it walk_range (fun j σ H' => ∃ (m : Addr) (v7 v8 : Option V) (txt : Str) (tt : Int), σ = [some (.ref a), some (.ref p), some (.int (0 + (i : Int))), some (.ref q), some (.str z), some (.ref tl), some (.ref m), v7, v8] ∧ Pen H' p l tt ∧ t6 ≤ tt ∧ tt ≤ t6 + j ∧ H' q = some (.lst (ps.map V.str)) ∧ ProgAt K CB CP H' m ps txt false (4 ^ j) ∧ txt.length ≤ 100 * 5 ^ j)
    ⟨x5, v7, v8, txt, t6, rfl, pen6, Int.le_refl _, by omega, b6 _ _ nqp hq5, pr5.pen pen5 b6, by omega⟩ (fun _ _ _ _ _ => True.intro) ?_ ?_⟩⟩
  · rintro j y σ H7 H7' hj ⟨m, w7, w8, tx7, tt, rfl, pen7, a1, a2, hq7, pm, tl7⟩ ⟨rfl, rfl⟩
    have j3 : j = 0 ∨ j = 1 ∨ j = 2 := by omega
    have np4 : 4 ^ j ≤ 1000 := by rcases j3 with rfl | rfl | rfl <;> decide
    have tl4 : 100 * 5 ^ j ≤ 100000 := by rcases j3 with rfl | rfl | rfl <;> decide
    obtain ⟨dxm, ptm, bm, u4, u5, u6, m1, m2, m3⟩ := id pm
    refine ⟨_, rfl, p, l, tt, 5, rfl, pen7, by omega, by decide, by decide, fun c H8 t8 c0 c1 pen8 a3 a4 b8 => ⟨_, _, rfl, rfl, ?_⟩⟩
    have pm8 := pm.pen pen7 b8
    have hq8 := b8 _ _ nqp hq7
    obtain ⟨dxm, ptm, bm, u4, u5, u6, m1, m2, m3⟩ := id pm8
    refine ⟨fun σ' H' => ∃ (m' : Addr) (txt' : Str), σ' = [some (.ref a), some (.ref p), some (.int (0 + (i : Int))), some (.ref q), some (.str z), some (.ref tl), some (.ref m'), some (.int (0 + (j : Int))), some (.int (1 + c))] ∧ Same H8 H' ∧ ProgAt K CB CP H' m' ps txt' false (4 ^ (j + 1)) ∧ txt'.length ≤ 100 * 5 ^ (j + 1), ?_, ?_⟩
    · refine ⟨_, rfl, rfl, _, rfl, ite2 (fun _ => ?_) (fun q5 => ?_)⟩
      · refine ⟨_, rfl, _, rfl, m, m, dxm, dxm, _, _, rfl, rfl, m1, m1, m, m, ps, ps, tx7, tx7, false, false, 4 ^ j, 100 * 5 ^ j, rfl, pm8, pm8, nm, nm, np4, tl4, tl7, tl7, .inr (.inr ⟨rfl, rfl, rfl, fun x H9 txt' s9 hx lt px => ?_⟩)⟩
        refine ⟨x, txt', rfl, s9, px.mono ?_, ?_⟩
        · rcases j3 with rfl | rfl | rfl <;> decide
        · rcases j3 with rfl | rfl | rfl <;> omega
      · have c5 : ¬ (1 + c = 5) := fun z => q5 (decide_eq_true (show V.int (1 + c) = V.int 5 by rw [z]))
        refine ⟨_, rfl, _, rfl, m, dxm, _, 1 + c, rfl, rfl, m1, m, 1 + c, ps, tx7, false, 4 ^ j, 100 * 5 ^ j, rfl, pm8, nm, np4, tl4, tl7, .inr (.inr ⟨rfl, by omega, by omega, fun x H9 txt' s9 hx lt px => ?_⟩)⟩
        have c4 : (1 + c).toNat ≤ 4 := by omega
        refine ⟨x, txt', rfl, s9, px.mono ?_, ?_⟩
        · rcases j3 with rfl | rfl | rfl <;> simp only [Nat.reducePow, Nat.reduceAdd] <;> omega
        · rcases j3 with rfl | rfl | rfl <;> simp only [Nat.reducePow, Nat.reduceAdd, Nat.reduceMul] at lt ⊢ <;> omega
    rintro σ' H9 ⟨m', txt', rfl, s9, pm9, tl9⟩
    have np9 : 4 ^ (j + 1) ≤ 1000 := by rcases j3 with rfl | rfl | rfl <;> decide
    have tl10 : txt'.length ≤ 100000 := by
      have : 100 * 5 ^ (j + 1) ≤ 100000 := by rcases j3 with rfl | rfl | rfl <;> decide
      omega
    refine ⟨by show 5 ≤ sizeLine; decide, fun ct hct => ?_⟩
    have sct := Same.new (o := .tup [.int 1, .int 2, .int 3, .int 4, .int 5]) hct
    have hcte : upd H9 ct (.tup [.int 1, .int 2, .int 3, .int 4, .int 5]) ct = some (.tup [.int 1, .int 2, .int 3, .int 4, .int 5]) := upd_same
    have s9c := s9.trans sct
    have pmc := pm9.same sct
    generalize upd H9 ct (.tup [.int 1, .int 2, .int 3, .int 4, .int 5]) = HC at hcte s9c pmc ⊢
    refine ⟨ct, rfl, ⟨_, SqT.of hcte⟩, fun D hD => lc_it walk_tup (fun i' H' => Same HC H' ∧ H' D = some (.lst ((List.replicate i' ("made" : Str)).map V.str))) ⟨Same.new hD, upd_same⟩ (fun i' H' _ z => SqT.of (z.1 _ _ hcte)) ?_ ?_⟩
    · rintro i' y G1 G2 hi' ⟨s10, h10⟩ ⟨rfl, hx⟩
      obtain ⟨cc, rfl, cl⟩ : ∃ cc : Int, y = .int cc ∧ (1 ≤ cc ∧ cc ≤ 5) := by
        have := List.mem_of_getElem? hx
        simp only [List.mem_cons, List.not_mem_nil, or_false] at this
        rcases this with rfl | rfl | rfl | rfl | rfl <;> exact ⟨_, rfl, by decide, by decide⟩
      have cg : cc.natAbs.log2 < 1920 := by
        have e : cc = 1 ∨ cc = 2 ∨ cc = 3 ∨ cc = 4 ∨ cc = 5 := by omega
        rcases e with rfl | rfl | rfl | rfl | rfl <;> decide
      have a1 : timesAns false cc = .str "made" := by unfold timesAns; rw [if_neg (by decide), if_pos cl]
      refine ⟨rfl, _, rfl, _, rfl, m', cc, ps, txt', false, 4 ^ (j + 1), 100000, rfl, pmc.same s10, nm, np9, Nat.le_refl _, tl10, cg, fun G3 s11 => ?_⟩
      rw [a1]
      have h11 := s11 _ _ h10
      have i5' : i' < 5 := hi'
      refine ⟨_, h11, by rw [List.length_map, List.length_replicate]; omega, same_put (s10.trans s11) hD h11, ?_⟩
      rw [List.replicate_succ', List.map_append]
      exact upd_same
    rintro GA ⟨s10, h10⟩
    refine ⟨by show 1 ≤ sizeLine; decide, fun e1 he1 => ?_⟩
    have se := Same.new (o := .lst [.str "made"]) he1
    have he : upd GA e1 (.lst [.str "made"]) e1 = some (.lst [.str "made"]) := upd_same
    have h10e := se _ _ h10
    have s10e := s10.trans se
    generalize upd GA e1 (.lst [.str "made"]) = GB at se he h10e s10e ⊢
    refine ⟨e1, _, _, rfl, rfl, he, by decide, by decide, by show 1 * 5 ≤ sizeLine; decide, fun e2 he2 => ?_⟩
    have fe : (List.replicate (5 : Int).toNat [V.str "made"]).flatten = (List.replicate 5 ("made" : Str)).map V.str := by rw [flat_rep, List.map_replicate]; rfl
    rw [fe]
    have s12 := s10e.trans (Same.new (o := .lst ((List.replicate 5 ("made" : Str)).map V.str)) he2)
    have h12 := Same.new (o := .lst ((List.replicate 5 ("made" : Str)).map V.str)) he2 _ _ h10e
    refine ⟨.list ((List.replicate 5 ("made" : Str)).map PyData.str), .list ((List.replicate 5 ("made" : Str)).map PyData.str), .lst (SqL.of h12) (dps_strs _ _ _), .lst (SqL.of upd_same) (dps_strs _ _ _), shaped_strs (rep_low low_words.2.2 _), shaped_strs (rep_low low_words.2.2 _), _, rfl, ?_⟩
    have ev : PyData.eqv (.list ((List.replicate 5 ("made" : Str)).map PyData.str)) (.list ((List.replicate 5 ("made" : Str)).map PyData.str)) = true := (eqv_strs _ _).trans (decide_eq_true rfl)
    rw [ev]
    refine iteF ?_
    have sAll := s9c.trans s12
    exact ⟨m', _, _, txt', t8, rfl, pen8.same sAll, by omega, by omega, sAll _ _ hq8, pmc.same s12, tl9⟩
  · rintro σ H7 ⟨m, w7, w8, tx7, tt, rfl, pen7, a1, a2, hq7, pm, tl7⟩
    have n3 : n.toNat = 0 ∨ n.toNat = 1 ∨ n.toNat = 2 ∨ n.toNat = 3 := by omega
    have np4 : 1 ≤ 4 ^ n.toNat ∧ 4 ^ n.toNat ≤ 1000 := by rcases n3 with e | e | e | e <;> rw [e] <;> decide
    have tl4 : 100 * 5 ^ n.toNat ≤ 100000 := by rcases n3 with e | e | e | e <;> rw [e] <;> decide
    refine ⟨_, rfl, _, rfl, _, rfl, p, l, q, m, tt, ps, tx7, 4 ^ n.toNat, rfl, pen7, by omega, hq7, nm, pm, np4.1, np4.2, by omega, fun H' t' pen' a3 a4 b' => ⟨_, rfl, iteF ?_⟩⟩
    exact ⟨_, _, _, _, _, _, _, t', rfl, pen', by omega⟩
end
end K18
end
section
set_option Elab.async false
set_option linter.all false
set_option maxRecDepth 100000
set_option maxHeartbeats 0
namespace K18
open PySem PySem.Spec PyProof.Rows L2
def d_begun_pen : He.DefD := ⟨("_law_begun_pen", none), "_law_begun_pen", "_law_begun_pen", defArgs s_begun_pen, defBody s_begun_pen, defScope s_begun_pen, [], []⟩
def d_draw : He.DefD := ⟨("_law_draw", none), "_law_draw", "_law_draw", defArgs s_draw, defBody s_draw, defScope s_draw, [], []⟩
def d_pick : He.DefD := ⟨("_law_pick", none), "_law_pick", "_law_pick", defArgs s_pick, defBody s_pick, defScope s_pick, [], []⟩
def d_far_number : He.DefD := ⟨("_law_far_number", none), "_law_far_number", "_law_far_number", defArgs s_far_number, defBody s_far_number, defScope s_far_number, [], []⟩
def d_barred : He.DefD := ⟨("_law_barred", none), "_law_barred", "_law_barred", defArgs s_barred, defBody s_barred, defScope s_barred, [], []⟩
def d_lis_name : He.DefD := ⟨("_law_is_name", none), "_law_is_name", "_law_is_name", defArgs s_lis_name, defBody s_lis_name, defScope s_lis_name, [], []⟩
def d_new_words : He.DefD := ⟨("_law_new_words", none), "_law_new_words", "_law_new_words", defArgs s_new_words, defBody s_new_words, defScope s_new_words, [], []⟩
def d_sum_told : He.DefD := ⟨("_law_sum_told", none), "_law_sum_told", "_law_sum_told", defArgs s_sum_told, defBody s_sum_told, defScope s_sum_told, [], []⟩
def d_times_told : He.DefD := ⟨("_law_times_told", none), "_law_times_told", "_law_times_told", defArgs s_times_told, defBody s_times_told, defScope s_times_told, [], []⟩
def d_refuses : He.DefD := ⟨("_law_refuses", none), "_law_refuses", "_law_refuses", defArgs s_refuses, defBody s_refuses, defScope s_refuses, [], []⟩
def d_lines_of : He.DefD := ⟨("lines_of", none), "lines_of", "lines_of", defArgs s_lines_of, defBody s_lines_of, defScope s_lines_of, [], []⟩
def d_is_name : He.DefD := ⟨("is_name", none), "is_name", "is_name", defArgs s_is_name, defBody s_is_name, defScope s_is_name, [], []⟩
def d_read_pointers : He.DefD := ⟨("read_pointers", none), "read_pointers", "read_pointers", defArgs s_read_pointers, defBody s_read_pointers, defScope s_read_pointers, [], []⟩
def d_read_number : He.DefD := ⟨("read_number", none), "read_number", "read_number", defArgs s_read_number, defBody s_read_number, defScope s_read_number, [], []⟩
def d_read_pointer : He.DefD := ⟨("read_pointer", none), "read_pointer", "read_pointer", defArgs s_read_pointer, defBody s_read_pointer, defScope s_read_pointer, [], []⟩
def d_read_spot : He.DefD := ⟨("read_spot", none), "read_spot", "read_spot", defArgs s_read_spot, defBody s_read_spot, defScope s_read_spot, [], []⟩
def d_far_of : He.DefD := ⟨("far_of", none), "far_of", "far_of", defArgs s_far_of, defBody s_far_of, defScope s_far_of, [], []⟩
def d_modulus_of : He.DefD := ⟨("modulus_of", none), "modulus_of", "modulus_of", defArgs s_modulus_of, defBody s_modulus_of, defScope s_modulus_of, [], []⟩
def d_read_line : He.DefD := ⟨("read_line", none), "read_line", "read_line", defArgs s_read_line, defBody s_read_line, defScope s_read_line, [], []⟩
def d_kinds_of : He.DefD := ⟨("kinds_of", none), "kinds_of", "kinds_of", defArgs s_kinds_of, defBody s_kinds_of, defScope s_kinds_of, [], []⟩
def d_read_word : He.DefD := ⟨("read_word", none), "read_word", "read_word", defArgs s_read_word, defBody s_read_word, defScope s_read_word, [], []⟩
def d_read_rows : He.DefD := ⟨("read_rows", none), "read_rows", "read_rows", defArgs s_read_rows, defBody s_read_rows, defScope s_read_rows, [], []⟩
def d_formed_rows : He.DefD := ⟨("formed_rows", none), "formed_rows", "formed_rows", defArgs s_formed_rows, defBody s_formed_rows, defScope s_formed_rows, [], []⟩
def d_placed_rows : He.DefD := ⟨("placed_rows", none), "placed_rows", "placed_rows", defArgs s_placed_rows, defBody s_placed_rows, defScope s_placed_rows, [], []⟩
def d_may_stand : He.DefD := ⟨("may_stand", none), "may_stand", "may_stand", defArgs s_may_stand, defBody s_may_stand, defScope s_may_stand, [], []⟩
def d_used_rows : He.DefD := ⟨("used_rows", none), "used_rows", "used_rows", defArgs s_used_rows, defBody s_used_rows, defScope s_used_rows, [], []⟩
def d_misuses : He.DefD := ⟨("misuses", none), "misuses", "misuses", defArgs s_misuses, defBody s_misuses, defScope s_misuses, [], []⟩
def d_width_of : He.DefD := ⟨("width_of", none), "width_of", "width_of", defArgs s_width_of, defBody s_width_of, defScope s_width_of, [], []⟩
def d_block_of : He.DefD := ⟨("block_of", none), "block_of", "block_of", defArgs s_block_of, defBody s_block_of, defScope s_block_of, [], []⟩
def d_source_of : He.DefD := ⟨("source_of", none), "source_of", "source_of", defArgs s_source_of, defBody s_source_of, defScope s_source_of, [], []⟩
def d_target_of : He.DefD := ⟨("target_of", none), "target_of", "target_of", defArgs s_target_of, defBody s_target_of, defScope s_target_of, [], []⟩
def d_offsets_of : He.DefD := ⟨("offsets_of", none), "offsets_of", "offsets_of", defArgs s_offsets_of, defBody s_offsets_of, defScope s_offsets_of, [], []⟩
def d_reach_of : He.DefD := ⟨("reach_of", none), "reach_of", "reach_of", defArgs s_reach_of, defBody s_reach_of, defScope s_reach_of, [], []⟩
def d_block_moves : He.DefD := ⟨("block_moves", none), "block_moves", "block_moves", defArgs s_block_moves, defBody s_block_moves, defScope s_block_moves, [], []⟩
def d_line_moves : He.DefD := ⟨("line_moves", none), "line_moves", "line_moves", defArgs s_line_moves, defBody s_line_moves, defScope s_line_moves, [], []⟩
def d_both_moves : He.DefD := ⟨("both_moves", none), "both_moves", "both_moves", defArgs s_both_moves, defBody s_both_moves, defScope s_both_moves, [], []⟩
def d_spans_moves : He.DefD := ⟨("spans_moves", none), "spans_moves", "spans_moves", defArgs s_spans_moves, defBody s_spans_moves, defScope s_spans_moves, [], []⟩
def d_read_body : He.DefD := ⟨("read_body", none), "read_body", "read_body", defArgs s_read_body, defBody s_read_body, defScope s_read_body, [], []⟩
def d_joined_body : He.DefD := ⟨("joined_body", none), "joined_body", "joined_body", defArgs s_joined_body, defBody s_joined_body, defScope s_joined_body, [], []⟩
def d_joined_offsets : He.DefD := ⟨("joined_offsets", none), "joined_offsets", "joined_offsets", defArgs s_joined_offsets, defBody s_joined_offsets, defScope s_joined_offsets, [], []⟩
def d_body_program : He.DefD := ⟨("body_program", none), "body_program", "body_program", defArgs s_body_program, defBody s_body_program, defScope s_body_program, [], []⟩
def d_put_together : He.DefD := ⟨("put_together", none), "put_together", "put_together", defArgs s_put_together, defBody s_put_together, defScope s_put_together, [], []⟩
def d_law : He.DefD := ⟨("law", none), "law", "law", defArgs s_law, defBody s_law, defScope s_law, [], []⟩
def d_Line___init__ : He.DefD := ⟨("Line", some "__init__"), "__init__", "Line.__init__", defArgs s_Line___init__, defBody s_Line___init__, defScope s_Line___init__, [], []⟩
def d_Body___init__ : He.DefD := ⟨("Body", some "__init__"), "__init__", "Body.__init__", defArgs s_Body___init__, defBody s_Body___init__, defScope s_Body___init__, [], []⟩
def d_Program___init__ : He.DefD := ⟨("Program", some "__init__"), "__init__", "Program.__init__", defArgs s_Program___init__, defBody s_Program___init__, defScope s_Program___init__, [], []⟩
def d_Program___add__ : He.DefD := ⟨("Program", some "__add__"), "__add__", "Program.__add__", defArgs s_Program___add__, defBody s_Program___add__, defScope s_Program___add__, [], []⟩
def d_Program___mul__ : He.DefD := ⟨("Program", some "__mul__"), "__mul__", "Program.__mul__", defArgs s_Program___mul__, defBody s_Program___mul__, defScope s_Program___mul__, [], []⟩
def d_BadCount : He.DefD := ⟨("BadCount", some "__init__"), "__init__", "BadCount.__init__", defArgs s_BadCount, defBody s_BadCount, defScope s_BadCount, [], []⟩
def d_OtherPointers : He.DefD := ⟨("OtherPointers", some "__init__"), "__init__", "OtherPointers.__init__", defArgs s_OtherPointers, defBody s_OtherPointers, defScope s_OtherPointers, [], []⟩
def d_HasRegisters : He.DefD := ⟨("HasRegisters", some "__init__"), "__init__", "HasRegisters.__init__", defArgs s_HasRegisters, defBody s_HasRegisters, defScope s_HasRegisters, [], []⟩
def fn : List He.DefD := [d_begun_pen, d_draw, d_pick, d_far_number, d_barred, d_lis_name, d_new_words, d_sum_told, d_times_told, d_refuses, d_lines_of, d_is_name, d_read_pointers, d_read_number, d_read_pointer, d_read_spot, d_far_of, d_modulus_of, d_read_line, d_kinds_of, d_read_word, d_read_rows, d_formed_rows, d_placed_rows, d_may_stand, d_used_rows, d_misuses, d_width_of, d_block_of, d_source_of, d_target_of, d_offsets_of, d_reach_of, d_block_moves, d_line_moves, d_both_moves, d_spans_moves, d_read_body, d_joined_body, d_joined_offsets, d_body_program, d_put_together, d_law, d_Line___init__, d_Body___init__, d_Program___init__, d_Program___add__, d_Program___mul__, d_BadCount, d_OtherPointers, d_HasRegisters]
def fa0 : List He.Fa := [.glo "_law_begun_pen", .glo "_law_draw", .glo "_law_pick", .glo "_law_far_number", .glo "_law_barred", .glo "_law_is_name", .glo "_law_new_words", .glo "_law_sum_told", .glo "_law_times_told", .glo "_law_refuses", .glo "lines_of", .glo "is_name", .glo "read_pointers", .glo "read_number", .glo "read_pointer", .glo "read_spot", .glo "far_of", .glo "modulus_of", .glo "read_line", .glo "kinds_of", .glo "read_word", .glo "read_rows", .glo "formed_rows", .glo "placed_rows", .glo "may_stand"]
def fa1 : List He.Fa := [.glo "used_rows", .glo "misuses", .glo "width_of", .glo "block_of", .glo "source_of", .glo "target_of", .glo "offsets_of", .glo "reach_of", .glo "block_moves", .glo "line_moves", .glo "both_moves", .glo "spans_moves", .glo "read_body", .glo "joined_body", .glo "joined_offsets", .glo "body_program", .glo "put_together", .glo "law", .glo "Line", .glo "Body", .glo "Program", .glo "RESERVED", .glo "MODULI", .glo "OPENING", .glo "SETTING"]
def fa2 : List He.Fa := [.glo "COPYING", .glo "FIXED", .glo "CHUNKS", .glo "RANGES", .glo "FORMS", .glo "USED", .glo "PartlyError", .glo "BadCount", .glo "OtherPointers", .glo "HasRegisters", .free "int", .free "len", .free "abs", .free "list", .free "range", .free "tuple", .free "isinstance", .free "str", .free "bool", .free "max", .free "sum", .free "all", .free "any", .free "min", .free "enumerate"]
def fa3 : List He.Fa := [.free "zip", .free "ValueError", .int "LONGEST_NAME" (12), .int "MOST_POINTERS" (3), .int "FARTHEST_SPOT" (30), .int "LONGEST_NUMBER" (3), .int "FARTHEST" (40), .int "MOST_CELLS" (16), .int "MOST_SET" (8), .int "MOST_GIVEN" (4), .int "MOST_LINES" (40), .int "MOST_OPEN" (5), .int "WIDEST" (16), .int "MOST_TIMES" (5), .str "LETTERS" "abcdefghijklmnopqrstuvwxyz", .cls "Line", .mkr "Line", .cls "Body", .mkr "Body", .cls "Program", .mkr "Program", .noat "Line" "number", .noat "Line" "word", .noat "Line" "told", .noat "Line" "source"]
def fa4 : List He.Fa := [.noat "Line" "target", .noat "Line" "inner", .noat "Line" "other", .noat "Body" "parts", .noat "Body" "offsets", .noat "Body" "reach", .noat "Body" "far", .noat "Body" "modulus", .noat "Body" "calls", .noat "Body" "has_registers", .noat "Program" "pointers", .noat "Program" "text", .noat "Program" "body", .noat "Program" "reach", .noat "Program" "far", .noat "Program" "modulus", .meth "Program" "__add__", .meth "Program" "__mul__"]
def fa : List He.Fa := fa0 ++ (fa1 ++ (fa2 ++ (fa3 ++ (fa4))))
/-- a written tuple of texts, of ints -/
def tupB (K : PySem.W.Frag) (x : Str) (ok : Array Value → Bool) : Bool := match K.lookup (He.ga K x) with
  | some ⟨.type t, _, .seq its _, _⟩ => decide (t = "tuple") && ok its
  | _ => false
def strsB (zs : List Str) (its : Array Value) : Bool := decide (its.toList.map (fun v => match v with | .str z _ => some z | _ => none) = zs.map some)
def intsB (zs : List Int) (its : Array Value) : Bool := decide (its.toList.map (fun v => match v with | .int z _ => some z | _ => none) = zs.map some)
theorem vals_strs : ∀ {zs : List Str} {its : List Value}, its.map (fun v => match v with | .str z _ => some z | _ => none) = zs.map some → Vals (zs.map V.str) its
  | [], [], _ => .nil
  | [], _ :: _, h => by cases h
  | _ :: _, [], h => by cases h
  | z :: r, v :: its, h => by
    rw [List.map_cons, List.map_cons, List.cons.injEq] at h
    obtain ⟨h1, h2⟩ := h
    refine .cons ?_ (vals_strs h2)
    revert h1
    cases v <;> intro h1 <;> first | (cases h1; exact ⟨_, rfl⟩) | cases h1
theorem vals_ints : ∀ {zs : List Int} {its : List Value}, its.map (fun v => match v with | .int z _ => some z | _ => none) = zs.map some → Vals (zs.map V.int) its
  | [], [], _ => .nil
  | [], _ :: _, h => by cases h
  | _ :: _, [], h => by cases h
  | z :: r, v :: its, h => by
    rw [List.map_cons, List.map_cons, List.cons.injEq] at h
    obtain ⟨h1, h2⟩ := h
    refine .cons ?_ (vals_ints h2)
    revert h1
    cases v <;> intro h1 <;> first | (cases h1; exact ⟨_, rfl⟩) | cases h1
theorem tupB_ok {K : PySem.W.Frag} {x : Str} {ok : Array Value → Bool} (h : tupB K x ok = true) : ∃ o its n, K.lookup (He.ga K x) = some o ∧ o.cls = .type "tuple" ∧ o.data = .seq its n ∧ ok its = true := by
  unfold tupB at h
  revert h
  split
  · rename_i t d its n sl e
    intro h
    simp only [Bool.and_eq_true, decide_eq_true_eq] at h
    obtain ⟨rfl, h2⟩ := h
    exact ⟨_, its, n, e, rfl, rfl, h2⟩
  · intro h
    cases h
theorem tupS_ok {K : PySem.W.Frag} {x : Str} {zs : List Str} (hz : zs.length ≤ 1000) (h : tupB K x (strsB zs) = true) (H : Hp) : SqT K H (He.ga K x) (zs.map V.str) := by
  obtain ⟨o, its, n, e1, e2, e3, e4⟩ := tupB_ok h
  have r := vals_strs (of_decide_eq_true e4)
  exact .inr ⟨o, its, n, e1, e2, e3, by have h1 := r.length; have h2 : its.toList.length = its.size := Array.length_toList; rw [List.length_map] at h1; rw [sizeLine_eq]; omega, r⟩
theorem tupI_ok {K : PySem.W.Frag} {x : Str} {zs : List Int} (hz : zs.length ≤ 1000) (h : tupB K x (intsB zs) = true) (H : Hp) : SqT K H (He.ga K x) (zs.map V.int) := by
  obtain ⟨o, its, n, e1, e2, e3, e4⟩ := tupB_ok h
  have r := vals_ints (of_decide_eq_true e4)
  exact .inr ⟨o, its, n, e1, e2, e3, by have h1 := r.length; have h2 : its.toList.length = its.size := Array.length_toList; rw [List.length_map] at h1; rw [sizeLine_eq]; omega, r⟩
def exB (K : PySem.W.Frag) : Bool := tupB K "RESERVED" (strsB CF.Reserved) && (tupB K "MODULI" (intsB [2, 4, 8]) && (tupB K "OPENING" (strsB PL.Opening) && (tupB K "SETTING" (strsB PL.Setting) && (tupB K "COPYING" (strsB PL.Copying) && (tupB K "FIXED" (strsB PL.Fixed) && (tupB K "CHUNKS" (intsB [1, 2, 4, 8]) && (decide (He.ga K "Body" ≠ He.ga K "Program") && (dictP K "RANGES" PL.ranges && (dictS K "FORMS" PL.forms && (dictP K "USED" PL.useds && (dictN K "USED" ["input", "load", "set", "copy", "up", "down", "step"] && (PySem.W.selfFirst K (He.ga K "Program") && (opiB K (He.ga K "Program") .Mult && (partB K && (clsB K && (decide (PySem.W.findIn K (.ref (He.ga K "BadCount")) "count" = some none) && (oexB K (He.ga K "BadCount") && (iniB K "BadCount" && (exvB K (He.ga K "BadCount") && (isxB K "BadCount" && (oexB K (He.ga K "OtherPointers") && (iniB K "OtherPointers" && (exvB K (He.ga K "OtherPointers") && (isxB K "OtherPointers" && (oexB K (He.ga K "HasRegisters") && (iniB K "HasRegisters" && (exvB K (He.ga K "HasRegisters") && (isxB K "HasRegisters" && (decide (PySem.W.exmOne K (.ref (He.ga K "OtherPointers")) (.ref (He.ga K "OtherPointers")) = some true) && (decide (PySem.W.exmOne K (.ref (He.ga K "HasRegisters")) (.ref (He.ga K "OtherPointers")) = some false) && (decide (PySem.W.exmOne K (.ref (He.ga K "HasRegisters")) (.ref (He.ga K "HasRegisters")) = some true) && (decide (PySem.W.exmOne K (.ref (He.ga K "BadCount")) (.ref (He.ga K "HasRegisters")) = some false) && (decide (PySem.W.exmOne K (.ref (He.ga K "BadCount")) (.ref (He.ga K "BadCount")) = some true))))))))))))))))))))))))))))))))))
/-- what stands at the top's end, the statics and the written dicts with it -/
abbrev R : PySem.W.OpenRow := PySem.W.OpenLaw.row PySem.Challenge.rw_partlymet_k18_put_together_refused
def ts : List He.Tab := [(fun K => He.ga K "RANGES", ["wide", "many", "index", "cell", "jump", "laps", "chunk"]), (fun K => He.ga K "FORMS", ["input", "load", "store", "join", "part", "each", "copy", "up", "down", "fill", "step", "times", "else", "end"]), (fun K => He.ga K "USED", ["store", "each", "fill", "give", "join", "part"])]
def ofA (g : Addr → Option Obj) (a : Addr) : List Addr := match g a with
  | some o => He.refsD o
  | none => []
def isC (g : Addr → Option Obj) (a : Addr) : Bool := match g a with
  | some ⟨_, _, .cls _, _⟩ => true
  | _ => false
def frL {α : Sort _} : List Addr → (List Addr → α) → α
  | [], k => k []
  | a :: as, k => HandSHeadRun.frNat a fun a => frL as fun as => k (a :: as)
/-- the names' objects, what they name, the classes' methods and their code: the numbers in normal form -/
def asK (g : Addr → Option Obj) : List Addr :=
  frL (ofA g mainGlobals) fun a1 =>
  frL (a1.flatMap (ofA g)) fun a2 =>
  frL ((a1.filter (isC g)).flatMap (ofA g)) fun cs =>
  frL (cs.flatMap (ofA g)) fun ms =>
  frL (ms.flatMap (ofA g)) fun mc =>
  cStatics :: mainGlobals :: (a1 ++ (ms ++ (mc ++ a2)))
def frY (g : Addr → Option Obj) : PySem.W.Frag := He.frT g (asK g)
def obY (g : Addr → Option Obj) : He.AlX := (He.obsT fa fn ts (frY g), exB (frY g))
def SaysY (w : World) (h : Heap) : Prop := ∃ K : PySem.W.Frag, K.In h ∧ He.SaysT fa fn ts w K ∧ exB K = true
def hk : PySem.W.Hook where
  α := He.AlX
  obs s := obY s.heap.get?
  val w := He.valX fn ts w
  says := SaysY
  of w s e := ⟨frY s.heap.get?, He.frT_in, congrArg Prod.fst e, congrArg Prod.snd e⟩
  keeps w h h' z k := z.elim fun K y => ⟨K, PySem.W.Frag.In.keeps y.1 k, y.2⟩
def ob (s : PySem.W.SharedT) : He.AlX := obY (HandSHeadRun.getT s)
theorem ob_eq (s : PySem.W.SharedT) : ob s = hk.obs s.abs := congrArg obY (funext fun a => HandSHeadRun.getT_eq s a)
def lo0 : List Str := ["_wall", "PartlyError", "BadPointers", "BadProgram", "BadPlaces", "BadCount", "OtherPointers", "HasRegisters", "LETTERS", "RESERVED", "LONGEST_NAME", "MOST_POINTERS", "FARTHEST_SPOT", "LONGEST_NUMBER", "lines_of", "is_name", "read_pointers", "check_places", "read_number", "read_pointer", "read_spot", "FARTHEST", "MOST_CELLS", "MODULI", "Fact"]
def lo1 : List Str := ["read_fact", "read_apart", "read_distance", "read_remainder", "all_hold", "far_of", "modulus_of", "RANGES", "CHUNKS", "FORMS", "FIXED", "MOST_SET", "MOST_GIVEN", "read_line", "read_call", "kinds_of", "read_word", "MOST_LINES", "MOST_OPEN", "WIDEST", "OPENING", "SETTING", "USED", "read_rows", "formed_rows"]
def lo2 : List Str := ["placed_rows", "may_stand", "used_rows", "misuses", "width_of", "COPYING", "Line", "block_of", "source_of", "target_of", "offsets_of", "reach_of", "block_moves", "line_moves", "both_moves", "either_moves", "repeated_moves", "spans_moves", "call_moves", "Body", "Guard", "read_body", "joined_body", "joined_offsets", "blocks_at"]
def lo3 : List Str := ["Run", "text_of", "spot_cells", "do_load", "do_store", "do_set", "do_join", "do_part", "do_each", "do_copy", "do_up", "do_down", "move_each", "do_fill", "do_step", "DEEDS", "do_line", "do_call", "do_block", "do_parts", "whole_run", "ending", "MOST_TIMES", "Program", "body_program"]
def lo4 : List Str := ["put_together", "Outcome", "_law_begun_pen", "_law_draw", "_law_pick", "_law_far_number", "_law_barred", "_law_is_name", "_law_new_words", "_law_sum_told", "_law_times_told", "_law_refuses"]
abbrev loose : List Str := lo0 ++ (lo1 ++ (lo2 ++ (lo3 ++ (lo4))))
end K18
end
section
set_option Elab.async false
set_option linter.all false
set_option maxRecDepth 100000
set_option maxHeartbeats 4000000
namespace HandSHeadRun
open PySem PySem.W PySem.Calls PyProof.Rows
/-! a top that asks once what the world follows: both answers -/
def fixW (w : World) (b : Bool) : World := { w with params := { w.params with followText := fun row => if row == "special-get-raises" then b else w.params.followText row } }
theorem fixW_eq (w : World) : fixW w (w.params.followText "special-get-raises") = w := by
  have e : (fun row => if row == "special-get-raises" then w.params.followText "special-get-raises" else w.params.followText row) = w.params.followText := by
    funext row
    by_cases h : (row == "special-get-raises") = true
    · rw [if_pos h, eq_of_beq h]
    · rw [if_neg h]
  unfold fixW
  rw [e]
theorem run_both {r : OpenRow} {q : Program} {H : Hook} {ob : SharedT → H.α} {M : Nat} {loose : List PySem.Str} (h1 : ∀ w, RunEq r q H ob M loose (fixW w true)) (h2 : ∀ w, RunEq r q H ob M loose (fixW w false)) (w : World) : RunEq r q H ob M loose w := by
  have e := fixW_eq w
  cases b : w.params.followText "special-get-raises" with
  | true => rw [b] at e; have := h1 w; rwa [e] at this
  | false => rw [b] at e; have := h2 w; rwa [e] at this
end HandSHeadRun
end
section
set_option Elab.async false
set_option linter.all false
set_option maxRecDepth 100000
set_option maxHeartbeats 0
namespace K18
open PySem PySem.Spec PyProof.Rows L2
noncomputable def E1 (w : World) (b : Bool) (os : OsState) : Option PySem.W.SharedT := HandSHeadRun.endF (HandSHeadRun.stepQ (HandSHeadRun.denQ HandSHeadRun.tabQ) R.prog (HandSHeadRun.fixW w b)) 9000 R.prog (HandSHeadRun.fixW w b) os
theorem seen_true (w : World) (os : OsState) : (E1 w true os).map (fun s => (HandSHeadRun.looksF R.prog (PySem.W.boot_heap (HandSHeadRun.fixW w true).params) s.abs, HandSHeadRun.seenQ (PySem.W.view R.prog [123]) loose (importedModules R.prog.main.body) (fun s => PySem.W.xlAt (PySem.W.view R.prog [123]) [] s && PySem.W.recOk R.toRowW.records s) s.abs)) = some (true, PySem.W.openGood (PySem.W.view R.prog [123]) loose) := by kernel_rfl
theorem says_true (w : World) (os : OsState) : (E1 w true os).map ob = some (hk.val (HandSHeadRun.fixW w true)) := by kernel_rfl
theorem seen_false (w : World) (os : OsState) : (E1 w false os).map (fun s => (HandSHeadRun.looksF R.prog (PySem.W.boot_heap (HandSHeadRun.fixW w false).params) s.abs, HandSHeadRun.seenQ (PySem.W.view R.prog [123]) loose (importedModules R.prog.main.body) (fun s => PySem.W.xlAt (PySem.W.view R.prog [123]) [] s && PySem.W.recOk R.toRowW.records s) s.abs)) = some (true, PySem.W.openGood (PySem.W.view R.prog [123]) loose) := by kernel_rfl
theorem says_false (w : World) (os : OsState) : (E1 w false os).map ob = some (hk.val (HandSHeadRun.fixW w false)) := by kernel_rfl
theorem map3 {α β γ δ : Type} {o : Option α} {f : α → β} {g : α → γ} {k : α → δ} {x : β} {y : γ} {z : δ} (a : o.map (fun s => (f s, g s)) = some (x, y)) (c : o.map k = some z) : o.map (fun s => (f s, g s, k s)) = some (x, y, z) := by
  cases o with
  | none => cases a
  | some s =>
    have e := Option.some.inj a
    have e1 : f s = x := congrArg Prod.fst e
    have e2 : g s = y := congrArg Prod.snd e
    rw [← e1, ← e2, ← Option.some.inj c]
    rfl
theorem run1 (w : World) : HandSHeadRun.RunEq R (PySem.W.view R.prog [123]) hk ob 9000 loose (HandSHeadRun.fixW w true) := by
  intro os
  have a := seen_true w os
  have c := says_true w os
  unfold E1 at a c
  generalize HandSHeadRun.endF (HandSHeadRun.stepQ (HandSHeadRun.denQ HandSHeadRun.tabQ) R.prog (HandSHeadRun.fixW w true)) 9000 R.prog (HandSHeadRun.fixW w true) os = o at a c ⊢
  exact map3 a c
theorem run2 (w : World) : HandSHeadRun.RunEq R (PySem.W.view R.prog [123]) hk ob 9000 loose (HandSHeadRun.fixW w false) := by
  intro os
  have a := seen_false w os
  have c := says_false w os
  unfold E1 at a c
  generalize HandSHeadRun.endF (HandSHeadRun.stepQ (HandSHeadRun.denQ HandSHeadRun.tabQ) R.prog (HandSHeadRun.fixW w false)) 9000 R.prog (HandSHeadRun.fixW w false) os = o at a c ⊢
  exact map3 a c
theorem run (w : World) : HandSHeadRun.RunEq R (PySem.W.view R.prog [123]) hk ob 9000 loose w := HandSHeadRun.run_both run1 run2 w
end K18
end
section
set_option Elab.async false
set_option linter.all false
set_option maxRecDepth 100000
set_option maxHeartbeats 4000000
namespace K18
open PySem PySem.Spec PyProof.Rows L2
section
variable {P : Program} {w : World} {K : PySem.W.Frag} {h : Heap} {mg : Str → Option Value} {base : Heap}
theorem glo (X : K.In h) (G : h.Ns mainGlobals mg) (c : He.SaysD fa fn K) (i : Nat) {x : Str} (e : fa[i]? = some (.glo x)) : mg x = some (.ref (He.ga K x)) := He.glo_ok X G (c.fact i e)
theorem fre (X : K.In h) (G : h.Ns mainGlobals mg) (c : He.SaysD fa fn K) (i : Nat) {x : Str} (e : fa[i]? = some (.free x)) : mg x = none := He.free_ok X G (c.fact i e)
theorem fint (X : K.In h) (G : h.Ns mainGlobals mg) (c : He.SaysD fa fn K) (i : Nat) {x : Str} {n : Int} (e : fa[i]? = some (.int x n)) : ∃ t, mg x = some (.int n t) := He.int_ok X G (c.fact i e)
theorem fstr (X : K.In h) (G : h.Ns mainGlobals mg) (c : He.SaysD fa fn K) (i : Nat) {x z : Str} (e : fa[i]? = some (.str x z)) : ∃ t, mg x = some (.str z t) := He.str_ok X G (c.fact i e)
theorem deff (X : K.In h) (G : h.Ns mainGlobals mg) (c : He.SaysD fa fn K) {x : Str} {st : Stmt} (i j : Nat) (ei : fn[i]? = some ⟨(x, none), x, x, defArgs st, defBody st, defScope st, [], []⟩) (ej : fa[j]? = some (.glo x)) : Def K mg x st := by
  obtain ⟨fd, F⟩ := c.def_ i ei
  exact ⟨_, fd, F, glo X G c j ej⟩
theorem exparts (e : exB K = true) : (tupB K "RESERVED" (strsB CF.Reserved)) = true ∧ (tupB K "MODULI" (intsB [2, 4, 8])) = true ∧ (tupB K "OPENING" (strsB PL.Opening)) = true ∧ (tupB K "SETTING" (strsB PL.Setting)) = true ∧ (tupB K "COPYING" (strsB PL.Copying)) = true ∧ (tupB K "FIXED" (strsB PL.Fixed)) = true ∧ (tupB K "CHUNKS" (intsB [1, 2, 4, 8])) = true ∧ (decide (He.ga K "Body" ≠ He.ga K "Program")) = true ∧ (dictP K "RANGES" PL.ranges) = true ∧ (dictS K "FORMS" PL.forms) = true ∧ (dictP K "USED" PL.useds) = true ∧ (dictN K "USED" ["input", "load", "set", "copy", "up", "down", "step"]) = true ∧ (PySem.W.selfFirst K (He.ga K "Program")) = true ∧ (opiB K (He.ga K "Program") .Mult) = true ∧ (partB K) = true ∧ (clsB K) = true ∧ (decide (PySem.W.findIn K (.ref (He.ga K "BadCount")) "count" = some none)) = true ∧ (oexB K (He.ga K "BadCount")) = true ∧ (iniB K "BadCount") = true ∧ (exvB K (He.ga K "BadCount")) = true ∧ (isxB K "BadCount") = true ∧ (oexB K (He.ga K "OtherPointers")) = true ∧ (iniB K "OtherPointers") = true ∧ (exvB K (He.ga K "OtherPointers")) = true ∧ (isxB K "OtherPointers") = true ∧ (oexB K (He.ga K "HasRegisters")) = true ∧ (iniB K "HasRegisters") = true ∧ (exvB K (He.ga K "HasRegisters")) = true ∧ (isxB K "HasRegisters") = true ∧ (decide (PySem.W.exmOne K (.ref (He.ga K "OtherPointers")) (.ref (He.ga K "OtherPointers")) = some true)) = true ∧ (decide (PySem.W.exmOne K (.ref (He.ga K "HasRegisters")) (.ref (He.ga K "OtherPointers")) = some false)) = true ∧ (decide (PySem.W.exmOne K (.ref (He.ga K "HasRegisters")) (.ref (He.ga K "HasRegisters")) = some true)) = true ∧ (decide (PySem.W.exmOne K (.ref (He.ga K "BadCount")) (.ref (He.ga K "HasRegisters")) = some false)) = true ∧ (decide (PySem.W.exmOne K (.ref (He.ga K "BadCount")) (.ref (He.ga K "BadCount")) = some true)) = true := by
  unfold exB at e
  simp only [Bool.and_eq_true] at e
  exact e
theorem txt (X : K.In h) (G : h.Ns mainGlobals mg) (c : He.SaysD fa fn K) : Txt mg where
  f_int := fre X G c 60 rfl
  f_len := fre X G c 61 rfl
  f_abs := fre X G c 62 rfl
  f_list := fre X G c 63 rfl
  f_range := fre X G c 64 rfl
  f_tuple := fre X G c 65 rfl
  f_isinstance := fre X G c 66 rfl
  f_str := fre X G c 67 rfl
  f_bool := fre X G c 68 rfl
  f_max := fre X G c 69 rfl
  f_sum := fre X G c 70 rfl
theorem txtP (X : K.In h) (G : h.Ns mainGlobals mg) (c : He.SaysD fa fn K) (e : exB K = true) : TxtP K mg where
  f_len := fre X G c 61 rfl
  f_all := fre X G c 71 rfl
  f_tuple := fre X G c 65 rfl
  f_int := fre X G c 60 rfl
  f_abs := fre X G c 62 rfl
  f_max := fre X G c 69 rfl
  f_enumerate := fre X G c 74 rfl
  c_LETTERS := fstr X G c 89 rfl
  c_LONGEST_NAME := fint X G c 77 rfl
  c_MOST_POINTERS := fint X G c 78 rfl
  c_FARTHEST_SPOT := fint X G c 79 rfl
  c_LONGEST_NUMBER := fint X G c 80 rfl
  c_FARTHEST := fint X G c 81 rfl
  c_MOST_CELLS := fint X G c 82 rfl
  g_RESERVED := glo X G c 46 rfl
  g_MODULI := glo X G c 47 rfl
  t_RESERVED := tupS_ok (by decide) (exparts e).1
  t_MODULI := tupI_ok (zs := [2, 4, 8]) (by decide) (exparts e).2.1
theorem txtQ (X : K.In h) (G : h.Ns mainGlobals mg) (c : He.SaysD fa fn K) (y : He.SaysT fa fn ts w K) (e : exB K = true) : PL.TxtQ K w mg where
  f_zip := fre X G c 75 rfl
  f_any := fre X G c 72 rfl
  f_all := fre X G c 71 rfl
  f_min := fre X G c 73 rfl
  f_max := fre X G c 69 rfl
  f_len := fre X G c 61 rfl
  f_range := fre X G c 64 rfl
  f_tuple := fre X G c 65 rfl
  f_list := fre X G c 63 rfl
  f_enumerate := fre X G c 74 rfl
  c_MOST_SET := fint X G c 83 rfl
  c_MOST_GIVEN := fint X G c 84 rfl
  c_MOST_LINES := fint X G c 85 rfl
  c_MOST_OPEN := fint X G c 86 rfl
  c_WIDEST := fint X G c 87 rfl
  c_MOST_TIMES := fint X G c 88 rfl
  g_RANGES := glo X G c 53 rfl
  d_RANGES := He.SaysT.tab y 0 rfl
  g_FORMS := glo X G c 54 rfl
  d_FORMS := He.SaysT.tab y 1 rfl
  g_USED := glo X G c 55 rfl
  d_USED := He.SaysT.tab y 2 rfl
  v_RANGES := dictP_ok (exparts e).2.2.2.2.2.2.2.2.1
  v_FORMS := dictS_ok (exparts e).2.2.2.2.2.2.2.2.2.1
  v_USED := dictP_ok (exparts e).2.2.2.2.2.2.2.2.2.2.1
  n_USED := dictN_ok (exparts e).2.2.2.2.2.2.2.2.2.2.2.1
  g_OPENING := glo X G c 48 rfl
  t_OPENING := tupS_ok (by decide) (exparts e).2.2.1
  g_SETTING := glo X G c 49 rfl
  t_SETTING := tupS_ok (by decide) (exparts e).2.2.2.1
  g_COPYING := glo X G c 50 rfl
  t_COPYING := tupS_ok (by decide) (exparts e).2.2.2.2.1
  g_FIXED := glo X G c 51 rfl
  t_FIXED := tupS_ok (by decide) (exparts e).2.2.2.2.2.1
  g_CHUNKS := glo X G c 52 rfl
  t_CHUNKS := tupI_ok (zs := [1, 2, 4, 8]) (by decide) (exparts e).2.2.2.2.2.2.1
theorem c_Line (c : He.SaysD fa fn K) : LineC K (He.ga K "Line") where
  cl := He.cls_ok (c.fact 90 rfl)
  n_number := He.noat_ok (c.fact 96 rfl)
  n_word := He.noat_ok (c.fact 97 rfl)
  n_told := He.noat_ok (c.fact 98 rfl)
  n_source := He.noat_ok (c.fact 99 rfl)
  n_target := He.noat_ok (c.fact 100 rfl)
  n_inner := He.noat_ok (c.fact 101 rfl)
  n_other := He.noat_ok (c.fact 102 rfl)
theorem c_Body (c : He.SaysD fa fn K) : BodyC K (He.ga K "Body") where
  cl := He.cls_ok (c.fact 92 rfl)
  n_parts := He.noat_ok (c.fact 103 rfl)
  n_offsets := He.noat_ok (c.fact 104 rfl)
  n_reach := He.noat_ok (c.fact 105 rfl)
  n_far := He.noat_ok (c.fact 106 rfl)
  n_modulus := He.noat_ok (c.fact 107 rfl)
  n_calls := He.noat_ok (c.fact 108 rfl)
  n_has_registers := He.noat_ok (c.fact 109 rfl)
theorem c_Program (c : He.SaysD fa fn K) : ProgC K (He.ga K "Program") where
  cl := He.cls_ok (c.fact 94 rfl)
  n_pointers := He.noat_ok (c.fact 110 rfl)
  n_text := He.noat_ok (c.fact 111 rfl)
  n_body := He.noat_ok (c.fact 112 rfl)
  n_reach := He.noat_ok (c.fact 113 rfl)
  n_far := He.noat_ok (c.fact 114 rfl)
  n_modulus := He.noat_ok (c.fact 115 rfl)
theorem red_all (X : K.In h) (G : h.Ns mainGlobals mg) (c : He.SaysD fa fn K) (y : He.SaysT fa fn ts w K) (e : exB K = true) (A : Around) (f : Addr) (cdv : Value) (outer : List Env) (s : Shared) (H : Hp) (vs : List V) (Q : VK) (E : XK) (hr : Room 17 (A.deeper (envOfC "law" (defScope s_law) s.heap.objs.size f cdv))) (hs : spLaw K vs H Q E) :
    ∃ t, PSs (cxOf CX0 P w K mg base ["script", "pen", "turn", "pointers", "spot", "texts", "made", "k", "count"] "law" (defScope s_law) f cdv A outer s H E) (defBody s_law) t ∧ t { nx := fun _ H' => Q .non H', rt := Q } (start ["script", "pen", "turn", "pointers", "spot", "texts", "made", "k", "count"] vs) H := by
  have T := txt X G c
  have TP := txtP X G c e
  have TQ := txtQ X G c y e
  have LC := c_Line c
  have BC := c_Body c
  have PC := c_Program c
  have ne : He.ga K "Body" ≠ He.ga K "Program" := of_decide_eq_true (exparts e).2.2.2.2.2.2.2.1
  have gPE : mg "PartlyError" = some (.ref (He.ga K "PartlyError")) := glo X G c 56 rfl
  have fVE : mg "ValueError" = none := fre X G c 76 rfl
  have TE : TxtE K mg (He.ga K "PartlyError") := ⟨fre X G c 65 rfl, gPE, (partB_ok (exparts e).2.2.2.2.2.2.2.2.2.2.2.2.2.2.1).1, (partB_ok (exparts e).2.2.2.2.2.2.2.2.2.2.2.2.2.2.1).2⟩
  have c_draw : Cal P w K mg base 1 "_law_draw" ["pen", "span"] spDraw := ok_draw T (deff X G c 1 1 rfl rfl)
  have c_begun : Cal P w K mg base 1 "_law_begun_pen" ["script"] (spBegun K) := ok_begun_pen T (deff X G c 0 0 rfl rfl)
  have c_pick : Cal P w K mg base 2 "_law_pick" ["pen", "options"] (spPick K) := ok_pick T (deff X G c 2 2 rfl rfl) c_draw
  have c_farn : Cal P w K mg base 2 "_law_far_number" ["pen"] spFar := ok_far_number T (deff X G c 3 3 rfl rfl) c_draw
  have c_bar : Cal P w K mg base 1 "_law_barred" [] spBarred := ok_barred T (deff X G c 4 4 rfl rfl)
  have c_lisn : Cal P w K mg base 2 "_law_is_name" ["word"] spIsName := ok_lis_name T (deff X G c 5 5 rfl rfl) c_bar
  have c_nw : Cal P w K mg base 3 "_law_new_words" ["pen", "many"] spNewWords := ok_new_words T (deff X G c 6 6 rfl rfl) c_draw c_pick c_lisn
  have c_isn : Cal P w K mg base 1 "is_name" ["word"] spName := ok_is_name TP (deff X G c 11 11 rfl rfl)
  have c_lo : Cal P w K mg base 1 "lines_of" ["text"] spLinesOf := ok_lines_of TP (deff X G c 10 10 rfl rfl)
  have c_rps : Cal P w K mg base 2 "read_pointers" ["pointers"] (spReadPointers K) := ok_read_pointers TP (deff X G c 12 12 rfl rfl) c_isn
  have c_rn : Cal P w K mg base 1 "read_number" ["word", "low", "high"] spReadNumber := ok_read_number TP (deff X G c 13 13 rfl rfl)
  have c_rp : Cal P w K mg base 3 "read_pointer" ["word", "pointers"] (spReadPointer K) := ok_read_pointer TP (deff X G c 14 14 rfl rfl)
  have c_rs : Cal P w K mg base 4 "read_spot" ["word", "pointers"] (spReadSpot K) := ok_read_spot TP (deff X G c 15 15 rfl rfl) c_rp c_rn
  have c_ko : Cal P w K mg base 1 "kinds_of" ["word", "many"] spKindsOf := ok_kinds_of TP TQ (deff X G c 19 19 rfl rfl)
  have c_rw : Cal P w K mg base 5 "read_word" ["kind", "word", "pointers"] (spReadWord K) := ok_read_word TP TQ (deff X G c 20 20 rfl rfl) c_isn c_rs c_rp c_rn
  have c_rl : Cal P w K mg base 6 "read_line" ["line", "pointers", "functions"] (spReadLine K) := ok_read_line TP TQ (deff X G c 18 18 rfl rfl) c_rw c_ko
  have c_fr : Cal P w K mg base 7 "formed_rows" ["lines", "pointers", "functions"] (spFormed K) := ok_formed_rows TP TQ (deff X G c 22 22 rfl rfl) c_rl
  have c_ms : Cal P w K mg base 1 "may_stand" ["word", "before", "around"] (spMayStand K) := ok_may_stand TP TQ (deff X G c 24 24 rfl rfl)
  have c_pr : Cal P w K mg base 2 "placed_rows" ["rows"] (spPlaced K) := ok_placed_rows TP TQ (deff X G c 23 23 rfl rfl) c_ms
  have c_wo : Cal P w K mg base 1 "width_of" ["word", "told", "widths"] (spWidthOf K) := ok_width_of TP TQ (deff X G c 27 27 rfl rfl)
  have c_mu : Cal P w K mg base 2 "misuses" ["word", "told", "widths", "known"] (spMisuses K) := ok_misuses TP TQ (deff X G c 26 26 rfl rfl) c_wo
  have c_ur : Cal P w K mg base 3 "used_rows" ["rows"] (spUsed K) := ok_used_rows TP TQ (deff X G c 25 25 rfl rfl) c_mu c_wo
  have c_rr : Cal P w K mg base 8 "read_rows" ["pointers", "text", "functions"] (spReadRows K) := ok_read_rows TP TQ (deff X G c 21 21 rfl rfl) c_lo c_fr c_pr c_ur
  have c_so : Cal P w K mg base 1 "source_of" ["word", "told"] (spSourceOf K) := ok_source_of TP TQ (deff X G c 29 29 rfl rfl)
  have c_to : Cal P w K mg base 1 "target_of" ["word", "told", "widths"] (spTargetOf K) := ok_target_of TP TQ (deff X G c 30 30 rfl rfl)
  obtain ⟨fdL, FLi⟩ := c.def_ 43 (d := d_Line___init__) rfl
  have mL : Mkc P w K mg base 1 "Line" (He.ga K "Line") ["self", "number", "word", "told", "source", "target", "inner", "other"] (spLineInit (He.ga K "Line")) := ⟨_, fdL, ok_line_init LC FLi, glo X G c 43 rfl, He.mkr_ok (c.fact 91 rfl), FLi.bindsN (ps := ["self", "number", "word", "told", "source", "target", "inner", "other"]) fun _ _ _ _ _ _ us hl => match us, hl with | [_, _, _, _, _, _, _, _], _ => rfl⟩
  have c_bo : Cal P w K mg base 3 "block_of" ["rows", "widths", "index"] (spBlockOf K (He.ga K "Line")) := ok_block_of TP TQ (deff X G c 28 28 rfl rfl) c_so c_to mL
  have c_bm : Cal P w K mg base 1 "both_moves" ["one", "two"] spBothMoves := ok_both_moves TP TQ (deff X G c 35 35 rfl rfl)
  have c_sm : Cal P w K mg base 1 "spans_moves" ["spans", "pointer"] (spSpansMoves K) := ok_spans_moves TP TQ (deff X G c 36 36 rfl rfl)
  have c_lm : Cal P w K mg base 2 "line_moves" ["line", "pointer"] (spLineMoves (He.ga K "Line")) := ok_line_moves TP TQ (deff X G c 34 34 rfl rfl) LC c_sm
  have c_blm : Cal P w K mg base 3 "block_moves" ["block", "pointer"] (spBlockMoves (He.ga K "Line")) := ok_block_moves TP TQ (deff X G c 33 33 rfl rfl) c_bm c_lm
  have c_off : Cal P w K mg base 4 "offsets_of" ["block", "many"] (spOffsetsOf (He.ga K "Line")) := ok_offsets_of TP TQ (deff X G c 31 31 rfl rfl) c_blm
  have c_rea : Cal P w K mg base 1 "reach_of" ["offsets"] (spReachOf K) := ok_reach_of TP TQ (deff X G c 32 32 rfl rfl)
  have c_far : Cal P w K mg base 1 "far_of" ["things"] (spFarB (He.ga K "Body")) := ok_far_of TP TQ (deff X G c 16 16 rfl rfl) BC
  have c_mod : Cal P w K mg base 1 "modulus_of" ["things"] (spModB (He.ga K "Body")) := ok_modulus_of TP TQ (deff X G c 17 17 rfl rfl) BC
  obtain ⟨fdB, FBi⟩ := c.def_ 44 (d := d_Body___init__) rfl
  have mB : Mkc P w K mg base 2 "Body" (He.ga K "Body") ["self", "parts", "offsets", "measured", "calls", "has_registers"] (spBodyInit (He.ga K "Body")) := ⟨_, fdB, ok_body_init BC FBi c_rea c_far c_mod, glo X G c 44 rfl, He.mkr_ok (c.fact 93 rfl), FBi.bindsN (ps := ["self", "parts", "offsets", "measured", "calls", "has_registers"]) fun _ _ _ _ _ _ us hl => match us, hl with | [_, _, _, _, _, _], _ => rfl⟩
  have c_rb : Cal P w K mg base 9 "read_body" ["pointers", "text", "functions"] (spReadBody K (He.ga K "Body")) := ok_read_body TP TQ (deff X G c 37 37 rfl rfl) c_rr c_bo c_off mB
  have c_jo : Cal P w K mg base 2 "joined_offsets" ["bodies"] (spJoinedOff (He.ga K "Body")) := ok_joined_offsets TP TQ (deff X G c 39 39 rfl rfl) BC c_rea
  have c_jb : Cal P w K mg base 4 "joined_body" ["bodies"] (spJoinedBody (He.ga K "Body")) := ok_joined_body TP TQ (deff X G c 38 38 rfl rfl) BC c_jo mB
  obtain ⟨fdP, FPi⟩ := c.def_ 45 (d := d_Program___init__) rfl
  have mP : Mkc P w K mg base 10 "Program" (He.ga K "Program") ["self", "pointers", "text"] (spProgInit K (He.ga K "Body") (He.ga K "Program")) := ⟨_, fdP, ok_prog_init ne BC PC FPi c_rps c_rb, glo X G c 45 rfl, He.mkr_ok (c.fact 95 rfl), FPi.bindsN (ps := ["self", "pointers", "text"]) fun _ _ _ _ _ _ us hl => match us, hl with | [_, _, _], _ => rfl⟩
  have c_bp : Cal P w K mg base 12 "body_program" ["pointers", "text", "body"] (spBodyProgram K (He.ga K "Body") (He.ga K "Program")) := ok_body_program TP TQ (deff X G c 40 40 rfl rfl) ne BC PC mP
  have c_pt : Cal P w K mg base 13 "put_together" ["programs"] (spPutTogether K (He.ga K "Body") (He.ga K "Program")) := ok_put_together TP TQ (deff X G c 41 41 rfl rfl) BC PC c_bp c_jb
  obtain ⟨fdOtherPointers, FOtherPointers⟩ := c.def_ 49 (d := d_OtherPointers) rfl
  have xOtherPointers : ExK P w K mg base "OtherPointers" ["self"] (spIni0 (He.ga K "OtherPointers")) := ⟨oexB_ok (exparts e).2.2.2.2.2.2.2.2.2.2.2.2.2.2.2.2.2.2.2.2.2.1, glo X G c 58 rfl, _, fdOtherPointers, ok_OtherPointers TE FOtherPointers (oexB_ok (exparts e).2.2.2.2.2.2.2.2.2.2.2.2.2.2.2.2.2.2.2.2.2.1), FOtherPointers.bindsN (ps := ["self"]) fun _ _ _ _ _ _ us hl => match us, hl with | [_], _ => rfl, (iniB_ok (exparts e).2.2.2.2.2.2.2.2.2.2.2.2.2.2.2.2.2.2.2.2.2.2.1).1, (iniB_ok (exparts e).2.2.2.2.2.2.2.2.2.2.2.2.2.2.2.2.2.2.2.2.2.2.1).2⟩
  obtain ⟨fdHasRegisters, FHasRegisters⟩ := c.def_ 50 (d := d_HasRegisters) rfl
  have xHasRegisters : ExK P w K mg base "HasRegisters" ["self"] (spIni0 (He.ga K "HasRegisters")) := ⟨oexB_ok (exparts e).2.2.2.2.2.2.2.2.2.2.2.2.2.2.2.2.2.2.2.2.2.2.2.2.2.1, glo X G c 59 rfl, _, fdHasRegisters, ok_HasRegisters TE FHasRegisters (oexB_ok (exparts e).2.2.2.2.2.2.2.2.2.2.2.2.2.2.2.2.2.2.2.2.2.2.2.2.2.1), FHasRegisters.bindsN (ps := ["self"]) fun _ _ _ _ _ _ us hl => match us, hl with | [_], _ => rfl, (iniB_ok (exparts e).2.2.2.2.2.2.2.2.2.2.2.2.2.2.2.2.2.2.2.2.2.2.2.2.2.2.1).1, (iniB_ok (exparts e).2.2.2.2.2.2.2.2.2.2.2.2.2.2.2.2.2.2.2.2.2.2.2.2.2.2.1).2⟩
  obtain ⟨fdBadCount, FBadCount⟩ := c.def_ 48 (d := d_BadCount) rfl
  have xBadCount : ExK P w K mg base "BadCount" ["self", "count"] (spIni (He.ga K "BadCount") "count" okI) := ⟨oexB_ok (exparts e).2.2.2.2.2.2.2.2.2.2.2.2.2.2.2.2.2.1, glo X G c 57 rfl, _, fdBadCount, ok_BadCount TE FBadCount (oexB_ok (exparts e).2.2.2.2.2.2.2.2.2.2.2.2.2.2.2.2.2.1) (of_decide_eq_true (exparts e).2.2.2.2.2.2.2.2.2.2.2.2.2.2.2.2.1), FBadCount.bindsN (ps := ["self", "count"]) fun _ _ _ _ _ _ us hl => match us, hl with | [_, _], _ => rfl, (iniB_ok (exparts e).2.2.2.2.2.2.2.2.2.2.2.2.2.2.2.2.2.2.1).1, (iniB_ok (exparts e).2.2.2.2.2.2.2.2.2.2.2.2.2.2.2.2.2.2.1).2⟩
  obtain ⟨fdAdd, FAdd⟩ := c.def_ 46 (d := d_Program___add__) rfl
  have mA := He.meth_ok (c.fact 116 rfl)
  have opA : OpX P w K mg base (CX P w) 14 (He.ga K "Program") .Add ["self", "other"] (spAdd K (He.ga K "Body") (He.ga K "Program")) := ⟨(exparts e).2.2.2.2.2.2.2.2.2.2.2.2.1, _, fdAdd, ok_Program___add__ TP FAdd BC PC xHasRegisters c_pt xOtherPointers, mA.at_, mA.fn, FAdd.bindsN (ps := ["self", "other"]) fun _ _ _ _ _ _ us hl => match us, hl with | [_, _], _ => rfl⟩
  obtain ⟨fdMul, FMul⟩ := c.def_ 47 (d := d_Program___mul__) rfl
  have mM := He.meth_ok (c.fact 117 rfl)
  have opM : OpX P w K mg base (CX P w) 14 (He.ga K "Program") .Mult ["self", "other"] (spMul K (He.ga K "Body") (He.ga K "Program")) := ⟨(exparts e).2.2.2.2.2.2.2.2.2.2.2.2.1, _, fdMul, ok_Program___mul__ TP TQ FMul BC PC xHasRegisters c_pt xBadCount, mM.at_, mM.fn, FMul.bindsN (ps := ["self", "other"]) fun _ _ _ _ _ _ us hl => match us, hl with | [_, _], _ => rfl⟩
  have opN : OpI K (He.ga K "Program") .Mult := opiB_ok (exparts e).2.2.2.2.2.2.2.2.2.2.2.2.2.1
  have c_sum : Cal P w K mg base 15 "_law_sum_told" ["p", "q"] (spSumTold K (He.ga K "Body") (He.ga K "Program")) := ok_sum_told T (deff X G c 7 7 rfl rfl) BC PC fVE gPE (glo X G c 59 rfl) (exvB_ok (exparts e).2.2.2.2.2.2.2.2.2.2.2.2.2.2.2.1 (exparts e).2.2.2.2.2.2.2.2.2.2.2.2.2.2.2.2.2.2.2.2.2.2.2.2.2.2.2.1) (of_decide_eq_true (exparts e).2.2.2.2.2.2.2.2.2.2.2.2.2.2.2.2.2.2.2.2.2.2.2.2.2.2.2.2.2.2.2.1) (isxB_ok (exparts e).2.2.2.2.2.2.2.2.2.2.2.2.2.2.2.2.2.2.2.2.2.2.2.2.2.2.2.2.1).1 (isxB_ok (exparts e).2.2.2.2.2.2.2.2.2.2.2.2.2.2.2.2.2.2.2.2.2.2.2.2.2.2.2.2.1).2 (isxB_ok (exparts e).2.2.2.2.2.2.2.2.2.2.2.2.2.2.2.2.2.2.2.2.2.2.2.2.1).1 (isxB_ok (exparts e).2.2.2.2.2.2.2.2.2.2.2.2.2.2.2.2.2.2.2.2.2.2.2.2.1).2 (glo X G c 58 rfl) (exvB_ok (exparts e).2.2.2.2.2.2.2.2.2.2.2.2.2.2.2.1 (exparts e).2.2.2.2.2.2.2.2.2.2.2.2.2.2.2.2.2.2.2.2.2.2.2.1) (of_decide_eq_true (exparts e).2.2.2.2.2.2.2.2.2.2.2.2.2.2.2.2.2.2.2.2.2.2.2.2.2.2.2.2.2.1) (of_decide_eq_true (exparts e).2.2.2.2.2.2.2.2.2.2.2.2.2.2.2.2.2.2.2.2.2.2.2.2.2.2.2.2.2.2.1) opA
  have c_tim : Cal P w K mg base 15 "_law_times_told" ["p", "count"] (spTimesTold K (He.ga K "Body") (He.ga K "Program")) := ok_times_told T (deff X G c 8 8 rfl rfl) BC PC fVE gPE (glo X G c 59 rfl) (exvB_ok (exparts e).2.2.2.2.2.2.2.2.2.2.2.2.2.2.2.1 (exparts e).2.2.2.2.2.2.2.2.2.2.2.2.2.2.2.2.2.2.2.2.2.2.2.2.2.2.2.1) (of_decide_eq_true (exparts e).2.2.2.2.2.2.2.2.2.2.2.2.2.2.2.2.2.2.2.2.2.2.2.2.2.2.2.2.2.2.2.1) (isxB_ok (exparts e).2.2.2.2.2.2.2.2.2.2.2.2.2.2.2.2.2.2.2.2.1).1 (isxB_ok (exparts e).2.2.2.2.2.2.2.2.2.2.2.2.2.2.2.2.2.2.2.2.1).2 (glo X G c 57 rfl) (exvB_ok (exparts e).2.2.2.2.2.2.2.2.2.2.2.2.2.2.2.1 (exparts e).2.2.2.2.2.2.2.2.2.2.2.2.2.2.2.2.2.2.2.1) (exvB_ok (exparts e).2.2.2.2.2.2.2.2.2.2.2.2.2.2.2.1 (exparts e).2.2.2.2.2.2.2.2.2.2.2.2.2.2.2.2.2.2.2.1).xf (of_decide_eq_true (exparts e).2.2.2.2.2.2.2.2.2.2.2.2.2.2.2.2.1) (of_decide_eq_true (exparts e).2.2.2.2.2.2.2.2.2.2.2.2.2.2.2.2.2.2.2.2.2.2.2.2.2.2.2.2.2.2.2.2.2) (of_decide_eq_true (exparts e).2.2.2.2.2.2.2.2.2.2.2.2.2.2.2.2.2.2.2.2.2.2.2.2.2.2.2.2.2.2.2.2.1) opM opN
  have c_ref : Cal P w K mg base 16 "_law_refuses" ["pen", "pointers", "made"] (spRefuses K (He.ga K "Body") (He.ga K "Program")) := ok_refuses T (deff X G c 9 9 rfl rfl) PC c_sum c_tim c_farn mP
  obtain ⟨t, ht, q⟩ := law_red T PC c_begun c_draw c_pick c_nw c_tim c_ref opA opM opN mP A f cdv outer s H vs Q E hr hs
  exact ⟨t, ht.nox, q⟩
end
end K18
end
set_option Elab.async false
set_option linter.all false
set_option maxRecDepth 100000
set_option maxHeartbeats 4000000
open PySem PySem.W PySem.Calls PyProof.Rows PySem.Spec
theorem PySem.Challenge.cw_partlymet_k18_put_together_refused_holds : PySem.Challenge.rw_partlymet_k18_put_together_refused.Holds := by
  w_on; o_law
  refine HandSHeadRun.head_any (r := OpenLaw.row PySem.Challenge.rw_partlymet_k18_put_together_refused) (q := view (OpenLaw.row PySem.Challenge.rw_partlymet_k18_put_together_refused).prog [123]) (H := K18.hk) (ob := K18.ob) (M := 9000) (loose := K18.loose) (d := HandSHeadRun.topDef (OpenLaw.row PySem.Challenge.rw_partlymet_k18_put_together_refused).prog 123) (kwd := []) K18.ob_eq
    (by kernel_rfl) (fun s => by kernel_rfl) K18.run (by kernel_rfl) (by kernel_rfl) (by kernel_rfl) (by rfl) (by first | assumption | decide +kernel) (by decide +kernel) ⟨rfl, rfl, rfl, rfl, rfl, by decide +kernel⟩ ?hw ?hc
  case hw => w_witness2
  case hc =>
    refine Att.attach_call (l := PySem.Challenge.rw_partlymet_k18_put_together_refused) (n := 63) rfl (by kernel_rfl) fun w s₀ s₁ mg mb fa o pm cd doc a vs ns G Y ho hd hcd hmg0 hobj hints hlen hg => ?_
    obtain ⟨K, KX, y, e⟩ := Y
    have c : He.SaysD K18.fa K18.fn K := congrArg Prod.fst y
    have hmg : mg ("law" : PySem.Str) = some (.ref fa) := by
      have e : (HandSHeadRun.topDef (OpenLaw.row PySem.Challenge.rw_partlymet_k18_put_together_refused).prog 123).name = ("law" : PySem.Str) := by kernel_rfl
      rw [← e]
      exact hmg0
    obtain ⟨fd, F⟩ := c.def_ 42 (d := K18.d_law) rfl
    have ea := hmg.symm.trans (K18.glo KX G.T.g c 42 rfl)
    cases ea
    exact L2.law_at KX G.T.g G.T.b G.T.builtins G.T.nolimit hg hobj hints (Nat.le_trans hlen (by decide)) fun base KB hns H hO hS e0 =>
      L2.fun_at (k := 17) (vs := [L2.V.ref a]) (us := [Value.ref a]) (sp := K18.spLaw K) (ps := ["script"]) F K18.sc_law (fun vs H Q E h => by
          obtain ⟨a, ns, rfl, _⟩ := h
          rfl) callerA (fun cdv outer s H vs Q E hr hs => by
          obtain ⟨t, ht, q⟩ := K18.red_all KB hns c y e callerA _ cdv outer s H vs Q E hr hs
          exact ⟨t, ht, q⟩)
        ⟨rfl, by decide, by decide⟩ e0 (L2.FunD.bindsA (ps := ["script"]) F (fun _ _ _ _ _ _ us hl => match us, hl with | [_], _ => rfl) _ [_] rfl) (.cons rfl .nil) ⟨a, ns, rfl, hS, fun _ => rfl⟩
