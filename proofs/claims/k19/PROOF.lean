import PyProof.Rows.All
import Wide.All
import OpenK.AllK
import Wide.FinOn
import HandS.ForExc
import HandS.FStr
import HandS.FStrTup
import KE.KExcIs
import HandS.ExcInit
import HandS.ExcField
import HandS.ClsMeth
import HandS.IsInst
import HandS.ForMost
import HandS.Defaults
import HandS.Wide
import HandS.Codes
import HandS.ExcOwn
import HandS.HeadHook2
import HandS.HeadHook4
import HandS.Lambda
import HandS.Nested
import HandS.Head0
import HandS.Head1
import HandS.Head2
import HandS.HeadEnd
import HandS.HeadHook1
import HandS.HeadHook3
import HandS.ExcIs
import HandS.Deep
import HandS.StrMore
import HandS.More
import HandS.Walk
import PySem.Challenge.RW_partlymet_k19_whole_smears
import HandS.Zip
import HandS.SortRule
import HandS.SortKw
import HandS.Style
import HandS.TupAny
import HandS.NoneIn
import HandS.Flow
import PyProof.DictUpdate
import HandS.DictComp
import HandS.Iter
import PyProof.ListRange
import PyProof.LongRange
import HandS.Conv
import HandS.CallLocal
import HandS.TupSets
import HandS.SetBool
import HandS.Comp
import HandS.Strs
import HandS.SortOrd
import HandS.EndBits
import HandS.IterVal
import HandS.IterNext
import HandS.OwnIter
section
set_option Elab.async false
set_option linter.all false
set_option maxRecDepth 100000
set_option maxHeartbeats 4000000
namespace L2
open PySem PySem.Spec PyProof.Rows
section
variable {X : Cx}
/-- repr of data (lists, tuples of ints and texts): the text of the data -/
def rRepr (K : PySem.W.Frag) : List V → Hp → VK → Prop := fun xs H Q => ∃ (a : Addr) (d : PyData), xs = [.ref a] ∧ Dp K H (.ref a) d ∧ d.showable = true ∧ d.hasDict = false ∧ d.depth ≤ 60 ∧ d.shown.length ≤ sizeLine ∧ Q (.str d.shown) H
theorem call_reprD (hg : X.A.guards = some []) (hu : X.A.units + 64 < cLine) : CallR X (.builtin "repr") (rRepr X.K) := by
  intro pins s σ H xs us Q I r h
  obtain ⟨a, d, rfl, hd, hs, hn, hdp, hz, q⟩ := h
  obtain ⟨u, rfl, ru⟩ := vals1 r
  cases ru
  obtain ⟨as, rd⟩ := Dp.reads I d _ _ hd rfl
  exact repr_of_reads' rd hs (fun z => by rw [hn] at z; cases z) hg (by omega) (fun _ _ e => e) (fun h' u tk k => ⟨.str d.shown, H, I.kept (t' := tk) k, ⟨u, rfl⟩, q⟩) hz
/-- {t}, t a tuple of ints: some bounded text -/
def tFmtI (K : PySem.W.Frag) (te : TE) : TE := fun σ H Q => te σ H fun x H1 => ∃ (a : Addr) (l : List Int), x = .ref a ∧ SqT K H1 a (l.map V.int) ∧ (∀ i ∈ l, i.natAbs.log2 < 1920) ∧ l.length ≤ 100 ∧ ∀ m : Str, m.length ≤ 200000 → Q (.str m) H1
theorem repr_ints {prog : Program} {w : World} : ∀ {l : List Int} {its : List Value}, Vals (l.map V.int) its → (∀ i ∈ l, i.natAbs.log2 < 1920) → ReprAll prog w its (l.map fun i => ((toString i : String) : Str))
  | [], _, r, _ => by
    cases r
    exact .nil
  | i :: l, _, r, h => by
    cases r with
    | cons r1 r2 =>
      obtain ⟨t, rfl⟩ := r1
      exact .cons (ReprIs.int t (h i List.mem_cons_self)) (repr_ints r2 fun z hz => h z (List.mem_cons_of_mem _ hz))
theorem piled_ints : ∀ l : List Int, (∀ i ∈ l, i.natAbs.log2 < 1920) → piled (l.map fun i => ((toString i : String) : Str)) ≤ 1923 * l.length
  | [], _ => Nat.zero_le _
  | i :: l, h => by
    have h1 := int_text_len_1921 (h i List.mem_cons_self)
    have h2 := piled_ints l fun z hz => h z (List.mem_cons_of_mem _ hz)
    rw [List.map_cons, piled_cons, List.length_cons]
    omega
theorem pe_fmtI {e : Expr} {te : TE} {pos : Pos} {k : Nat} (hr : Room k X.A) (he : PE X e te) : PE X (.FormattedValue e (-1) none pos) (tFmtI X.K te) := by
  refine ⟨fun pins s σ H Q I h => wpAny_FormattedValue_plain (thn (he.run pins s σ H _ I h) fun v s1 hv => ?_)⟩
  obtain ⟨x, H1, I1, r1, a, l, rfl, ht, hc, hl, q⟩ := hv
  cases r1
  obtain ⟨its, rv, ⟨o, ho, hcl, n, hd⟩, _⟩ := I1.tuple ht
  have hp := piled_ints l hc
  have htx := fmt_text (l.map fun i => ((toString i : String) : Str))
  have hsl : (200000 : Nat) ≤ sizeLine := by decide
  refine fmt_tuple (ts := l.map fun i => ((toString i : String) : Str)) (by have := hr.units; omega) ho hcl hd (repr_ints rv hc) (by omega) fun m u tk hm => ⟨.str m, H1, I1.tok _, ⟨u, rfl⟩, q m (by omega)⟩
end
end L2
end
section
set_option Elab.async false
set_option linter.all false
set_option maxRecDepth 100000
set_option maxHeartbeats 4000000
namespace L2
open PySem PySem.Spec PyProof.Rows
/-! exceptions of own classes, with an own __init__, held as values -/
/-- C(e, ..) as a value: __init__ keeps sp at the new exception a -/
def tMkE (C : Addr) (sp : Sp) (dvs : List V) (ta : TA) : TE := fun σ H Q => ta σ H fun vs H1 => vs.length ≤ 1000 ∧ ∀ a, H1 a = none → sp (.ref a :: (vs ++ dvs)) (upd H1 a (exo a C none)) (fun v H2 => v = .non ∧ Q (.ref a) H2) (fun _ _ _ => False)
section
variable {X : Cx} {x : Str} {C fI : Addr} {k : Nat} {fd : FuncData} {ps : List Str} {sp : Sp} {ds : List Value} {dvs : List V} {e : Expr} {es : List Expr} {ta : TA} {p pos : Pos}
theorem run_mkE {pins : List (Addr × Obj)} {σ : St} {H : Hp} {s : Shared} {Q : VK} {us : List Value} {vs : List V} (T : OexC X.K C) (iC : PySem.W.findIn X.K (.ref C) "__init__" = some (some (.ref fI))) (tI : PySem.W.typeIn X.K (.ref fI) = some (.type "function"))
    (FO : FnOk X.prog X.w X.K X.mg X.base CX0 k fI fd ps sp) (hr : Room (k + 1) X.A) (hb : Binds X.K fd ps ds) (hd : Vals dvs ds) (I : Inv X pins σ H s) (r : Vals vs us) (hz : vs.length ≤ 1000)
    (q : ∀ a, H a = none → sp (.ref a :: (vs ++ dvs)) (upd H a (exo a C none)) (fun v H2 => v = .non ∧ Q (.ref a) H2) (fun _ _ _ => False)) :
    wpAny (model X.prog X.w) X.A (call (.ref C) us) (EP X pins σ Q) X.xe s := by
  obtain ⟨nm, qn, N, bs, bm, sn, sub, ab, col, dd, k0, k1, k2, k3, k5, hC, hbm⟩ := T.cls
  obtain ⟨hp, g, dr, tk, os⟩ := s
  have big : hp.objs.size ≤ hp.objs.size + 1 := Nat.le_succ _
  have new : H (hp.objs.size + 1) = none := I.hok.fresh big
  have hq := q (hp.objs.size + 1) new
  let h2 : Heap := (hp.push (PySem.W.kdv_tup us)).push (PySem.HandSPX.excO C hp.objs.size)
  have keep : ∀ b o, hp.get? b = some o → h2.get? b = some o := fun b o z => Heap.get?_push_of_some _ (Heap.get?_push_of_some _ z)
  have here : h2.get? (hp.objs.size + 1) = some (PySem.HandSPX.excO C hp.objs.size) := by
    show ((hp.push (PySem.W.kdv_tup us)).push (PySem.HandSPX.excO C hp.objs.size)).get? (hp.objs.size + 1) = _
    heap_get
  have J : Inv X pins σ (upd H (hp.objs.size + 1) (exo (hp.objs.size + 1) C none)) ⟨h2, g, dr, tk, os⟩ := I.laid (t' := tk) (h' := h2) keep big (exo_ok here)
  have rr : Vals (V.ref (hp.objs.size + 1) :: (vs ++ dvs)) (Value.ref (hp.objs.size + 1) :: (us ++ ds)) := .cons rfl (r.append hd)
  have hlen : (Value.ref (hp.objs.size + 1) :: us ++ ds).length = ps.length := by
    have z := rr.length
    rw [FO.len _ _ _ _ hq] at z
    exact z.symm
  have few : us.length ≤ sizeLine := by
    rw [← Paired.length r, sizeLine_eq]
    omega
  refine wpAny_call (PySem.HandSPX.call_own F.excBase_ValueError (fun Y => PySem.HandSPX.refsVE_contains Y bm hbm) (I.kIn _ _ hC) (PySem.W.looks_findIn I.kIn iC) (fun self => PySem.W.bind_fn I.kIn self tI) few ?_)
  refine codeAny_mono (FO.run _ X.stack _ _ ⟨Value.ref (hp.objs.size + 1) :: us, []⟩ _ _ _ (fun _ _ _ => False) (hr.make C us []) (J.env0.make C us []) (hb _ (Value.ref (hp.objs.size + 1) :: us) J.kIn hlen) rr hq) fun res s' z => ?_
  cases res with
  | error er => exact z.elim
  | ok fl =>
    cases fl with
    | ret u =>
      obtain ⟨v, H', J2, rv, ev, q2⟩ := J.after z
      subst ev
      exact ⟨rv, .ref (hp.objs.size + 1), H', J2, rfl, q2⟩
    | next => exact False.elim z
    | brk => exact False.elim z
    | cont => exact False.elim z
theorem pe_mkE (T : OexC X.K C) (iC : PySem.W.findIn X.K (.ref C) "__init__" = some (some (.ref fI))) (tI : PySem.W.typeIn X.K (.ref fI) = some (.type "function"))
    (FO : FnOk X.prog X.w X.K X.mg X.base CX0 k fI fd ps sp) (hr : Room (k + 1) X.A) (hb : Binds X.K fd ps ds) (hd : Vals dvs ds) (hg : Gl X x) (hm : X.mg x = some (.ref C)) (ha : PA X (e :: es) ta)
    (hdb : (x == ("__debug__" : Str)) = false := by decide) (he : starEach (e :: es) X.env = (false, eval e X.env) :: starEach es X.env := by rfl) (hpl : (backTo pos (starEach es X.env)).any (·.1) = false := by rfl) :
    PE X (.Call (.Name x p) (e :: es) [] pos) (tMkE C sp dvs ta) :=
  ⟨fun pins s σ H Q I h => wpAny_Call_Name_kw (ld_glob I hg hm (PySem.W.callWith_K (h₀ := X.base) I.ok.mod.kin T.kC (thn (ha.run pos pins s σ H _ I h) fun us s1 ⟨vs, H1, I1, r1, hz, q1⟩ => ⟨I1.kIn, run_mkE T iC tI FO hr hb hd I1 r1 hz q1⟩) he hpl) hdb)⟩
theorem pe_mkE0 (T : OexC X.K C) (iC : PySem.W.findIn X.K (.ref C) "__init__" = some (some (.ref fI))) (tI : PySem.W.typeIn X.K (.ref fI) = some (.type "function"))
    (FO : FnOk X.prog X.w X.K X.mg X.base CX0 k fI fd ps sp) (hr : Room (k + 1) X.A) (hb : Binds X.K fd ps ds) (hd : Vals dvs ds) (hg : Gl X x) (hm : X.mg x = some (.ref C))
    (hdb : (x == ("__debug__" : Str)) = false := by decide) : PE X (.Call (.Name x p) [] [] pos) (tMkE C sp dvs tNil) :=
  ⟨fun pins s σ H Q I h => wpAny_Call_Name_kw (ld_glob I hg hm (PySem.W.callWith_K0 I.kIn T.kC (run_mkE (us := []) T iC tI FO hr hb hd I .nil h.1 h.2)) hdb)⟩
end
/-! Base.__init__(self, e): Base an own class that has ValueError's __init__ -/
section
variable {X : Cx} {x : Str} {B : Addr} {e : Expr} {es : List Expr} {ta : TA} {p1 p2 pos : Pos}
theorem pe_binit {pl : Sem Bool} {mc : Value} (hg : Gl X x) (hm : X.mg x = some (.ref B)) (rd : ClX.CRead X.K B mc) (fv : PySem.W.findCls X.K (.ref B) mc "__init__" = some (.val (.builtin "ValueError.__init__"))) (ha : PA X (e :: es) ta)
    (hdb : (x == ("__debug__" : Str)) = false := by decide)
    (hc : eval (.Call (.Attribute (.Name x p1) "__init__" p2) (e :: es) [] pos) X.env = (do
      let ov ← eval (.Name x p1) X.env
      standAt p2.atName
      let (f, first) ← holding [ov] (getMethod ov "__init__" pl)
      callWith pos f first (backTo pos (starEach (e :: es) X.env)) (backToKw pos (keywordEach [] X.env))) := by rfl)
    (he : starEach (e :: es) X.env = (false, eval e X.env) :: starEach es X.env := by rfl) (hpl : (backTo pos (starEach es X.env)).any (·.1) = false := by rfl) :
    PE X (.Call (.Attribute (.Name x p1) "__init__" p2) (e :: es) [] pos) (tVeI X.K ta) := by
  refine ⟨fun pins s σ H Q I h => PySem.W.methodCall_KW (ld_glob I hg hm ?_ hdb) hc⟩
  refine PySem.W.method_cls I.kIn rd.ga (PySem.W.cls_value I.kIn rd.rd fv (by decide +kernel) ?_)
  show wpAny _ _ (callWith pos (Value.builtin "ValueError.__init__") [] (backTo pos (starEach (e :: es) X.env)) []) _ _ _
  refine PyProof.Rows.callWith_method1 (thn (ha.run pos pins _ σ H _ (I.tok _) h) fun us s1 ⟨vs, H1, J, r1, a, C, ws, ev, hl, T, ea, q⟩ => ?_) he hpl
  subst ev
  cases r1 with
  | @cons _ u0 _ ur ra rw' =>
    obtain rfl : u0 = Value.ref a := ra
    exact oinit_ok T J ea (by rw [← Paired.length rw', sizeLine_eq]; omega) fun s' J2 => ⟨.non, H1, J2, rfl, q⟩
end
/-! err.f, isinstance(err, C) -/
/-- what the top says of an own exception class, so that its exceptions are asked -/
structure ExV (K : PySem.W.Frag) (C : Addr) : Prop where
  xf : XfC K C
  cl : (PySem.W.clsIn K C).isSome = true
  ca : PySem.W.findIn K (.ref C) "__class__" = some (some (.builtin "object.__class__"))
  cg : PySem.W.specialIn K (.builtin "object.__class__") "__get__" = some (some (.builtin "getset_descriptor.__get__"))
  ct : PySem.W.takesIn K (.builtin "object.__class__") = some true
  ob : PySem.W.mroIn K C (.type "object") = some true
/-- an exception stands at a: of the class C, its dict (if it has one) with the fields fs -/
def ExAt (H : Hp) (a C : Addr) (fs : List (Str × V)) : Prop := (fs = [] ∧ H a = some (exo a C none)) ∨ ∃ dx, H a = some (exo a C (some dx)) ∧ H dx = some (exd dx fs)
section
variable {X : Cx}
theorem exAt_inst {pins : List (Addr × Obj)} {σ : St} {H : Hp} {s : Shared} {a C : Addr} {fs : List (Str × V)} (I : Inv X pins σ H s) (h : ExAt H a C fs) :
    ∃ ox od, PySem.W.InstAt s.heap a ox C od ∧ ∀ (f : Str) (v : V), fs.lookup f = some v → ∃ o u, od = some o ∧ PySem.W.lookIn f o = some (some u) ∧ RelV v u := by
  rcases h with ⟨rfl, h⟩ | ⟨dx, h, hd⟩
  · obtain ⟨t1, ho⟩ := exo_at I.hok h
    exact ⟨_, none, ⟨ho, rfl, rfl, trivial⟩, fun f v z => by cases z⟩
  · obtain ⟨t1, ho⟩ := exo_at I.hok h
    obtain ⟨mA, hn, rel⟩ := exd_at I.hok hd
    obtain ⟨od, h1, h2⟩ := lookIn_ns hn
    refine ⟨_, some od, ⟨ho, rfl, rfl, h1⟩, fun f v z => ?_⟩
    obtain ⟨u, hu, ru⟩ := RelO.some_of (v := v) (o := mA f) (by rw [← z]; exact rel f)
    exact ⟨od, u, rfl, by rw [h2, hu], ru⟩
/-- the reading of err.f -/
def tEf (K : PySem.W.Frag) (f : Str) (te : TE) : TE := fun σ H Q => te σ H fun x H1 => ∃ (a C : Addr) (fs : List (Str × V)) (v : V), x = .ref a ∧ ExAt H1 a C fs ∧ ExV K C ∧ PySem.W.findIn K (.ref C) f = some none ∧ fs.lookup f = some v ∧ Q v H1
theorem pe_ef {e : Expr} {te : TE} {f : Str} {pos : Pos} (he : PE X e te) (hb : attributeBase e f X.env (eval e X.env) = eval e X.env := by rfl) : PE X (.Attribute e f pos) (tEf X.K f te) := by
  refine ⟨fun pins s σ H Q I h => attr_of hb (thn (he.run pins s σ H _ I h) fun u s1 hh => ?_)⟩
  obtain ⟨x, H1, J, rx, a, C, fs, v, rfl, ha, T, hno, l, q⟩ := hh
  obtain rfl : u = Value.ref a := rx
  obtain ⟨ox, od, O, z⟩ := exAt_inst J ha
  obtain ⟨o, w, rfl, hw, rv⟩ := z f v l
  exact HandSPX.exc_get J.kIn O T.xf.ga T.xf.gg T.xf.exC (PySem.W.findObj_own T.xf.hdC hno rfl hw) (handed_of rv) ⟨v, H1, J.tok _, rv, q⟩
/-- isinstance(err, c) -/
def rIsEx (K : PySem.W.Frag) : List V → Hp → VK → Prop := fun xs H Q => ∃ (a C : Addr) (fs : List (Str × V)) (c : V) (u : Value) (b : Bool), xs = [.ref a, c] ∧ ExAt H a C fs ∧ ExV K C ∧ ClsV c u ∧ PySem.W.kitOne K (.ref C) u = some b ∧ Q (.bl b) H
theorem call_isEx : CallR X (.builtin "isinstance") (rIsEx X.K) := by
  intro pins s σ H xs us Q I r h
  obtain ⟨a, C, fs, c, u, b, rfl, ha, T, k, e, q⟩ := h
  obtain ⟨u1, u2, rfl, r1, r2⟩ := vals2 r
  obtain rfl : u1 = Value.ref a := r1
  have e2 := k.eq r2
  subst e2
  obtain ⟨ox, od, O, _⟩ := exAt_inst I ha
  exact PySem.W.kia_one (PySem.W.kitx_exc (od := od) T.cl T.xf.ga T.xf.gg T.xf.exC T.ca T.cg T.ct T.ob) I.kIn O e (fun z => nomatch z) fun tk => ⟨.bl b, H, I.tok tk, rfl, q⟩
end
end L2
end
section
set_option Elab.async false
set_option linter.all false
set_option maxRecDepth 100000
set_option maxHeartbeats 4000000
namespace L2
open PySem PySem.Spec PyProof.Rows
/-! a def of the text behind the top, and its promise, by its name -/
structure Def (K : PySem.W.Frag) (mg : Str → Option Value) (x : Str) (st : Stmt) : Prop where
  ex : ∃ f fd, FunD K x x (defArgs st) (defBody st) (defScope st) [] [] f fd ∧ mg x = some (.ref f)
structure Cal (P : Program) (w : World) (K : PySem.W.Frag) (mg : Str → Option Value) (base : Heap) (k : Nat) (x : Str) (ps : List Str) (sp : Sp) : Prop where
  ex : ∃ f fd, FnOk P w K mg base CX0 k f fd ps sp ∧ mg x = some (.ref f) ∧ PySem.W.keepIn K (.ref f) = true ∧ Binds K fd ps []
section
variable {P : Program} {w : World} {K : PySem.W.Frag} {mg : Str → Option Value} {base : Heap} {k : Nat} {x : Str} {N ps : List Str} {sp : Sp} {st : Stmt}
theorem Def.cal (D : Def K mg x st) (S : FnScope N ps (defScope st)) (len : ∀ vs H Q E, sp vs H Q E → vs.length = ps.length)
    (hb : ∀ (kV doc pm : Value) (an : Option Addr) (cdv ct : Value) (us : List Value), us.length = ps.length → bindArgs (PySem.W.fnOf x x (defArgs st) (defBody st) (defScope st) .none kV doc pm an cdv ct) ⟨us, []⟩ = pure (ps.zip us))
    (body : ∀ (f : Addr) (cdv : Value) (A : Around) (outer : List Env) (s : Shared) (H : Hp) (vs : List V) (Q : VK) (E : XK), Room k (A.deeper (envOfC x (defScope st) s.heap.objs.size f cdv)) → sp vs H Q E →
      ∃ t, PSs (cxOf CX0 P w K mg base N x (defScope st) f cdv A outer s H E).nox (defBody st) t ∧ t { nx := fun _ H' => Q .non H', rt := Q } (start N vs) H) : Cal P w K mg base (k + 1) x ps sp := by
  obtain ⟨f, fd, F, hm⟩ := D.ex
  refine ⟨f, fd, F.ok S len (fun cdv A outer s H vs Q E hr h => ?_), hm, F.kp, F.bindsN hb⟩
  obtain ⟨t, h1, h2⟩ := body f cdv A outer s H vs Q E hr h
  exact ⟨t, h1.nox, h2⟩
theorem Cal.mono {j : Nat} (C : Cal P w K mg base j x ps sp) (h : j ≤ k) : Cal P w K mg base k x ps sp := by
  obtain ⟨f, fd, G, m, kp, b⟩ := C.ex
  exact ⟨f, fd, G.mono h, m, kp, b⟩
end
section
variable {X : Cx} {k : Nat} {x : Str} {ps : List Str} {sp : Sp} {e : Expr} {es : List Expr} {t : TA} {p pos : Pos}
theorem pe_cal (C : Cal X.prog X.w X.K X.mg X.base k x ps sp) (hr : Room k X.A) (hg : Gl X x) (ha : PA X (e :: es) t) (hdb : (x == ("__debug__" : Str)) = false := by decide)
    (he : starEach (e :: es) X.env = (false, eval e X.env) :: starEach es X.env := by rfl) (hpl : (backTo pos (starEach es X.env)).any (·.1) = false := by rfl) : PE X (.Call (.Name x p) (e :: es) [] pos) (tCall sp [] E0 t) := by
  obtain ⟨f, fd, G, m, kp, b⟩ := C.ex
  exact pe_call G hr hg m kp b .nil pass0 ha hdb he hpl
theorem pe_cal0 (C : Cal X.prog X.w X.K X.mg X.base k x ps sp) (hr : Room k X.A) (hg : Gl X x) (hdb : (x == ("__debug__" : Str)) = false := by decide) : PE X (.Call (.Name x p) [] [] pos) (tCall sp [] E0 tNil) := by
  obtain ⟨f, fd, G, m, kp, b⟩ := C.ex
  exact pe_call0 G hr hg m kp b .nil pass0 hdb
end
section
variable {X : Cx} {x : Str} {a : Addr} {pos : Pos}
theorem pe_gref (hg : Gl X x) (hm : X.mg x = some (.ref a)) (hd : (x == ("__debug__" : Str)) = false := by decide) : PE X (.Name x pos) (tC (.ref a)) := pe_glob hg hm rfl hd
theorem pe_gint {i : Int} (hg : Gl X x) (hm : ∃ t, X.mg x = some (.int i t)) (hd : (x == ("__debug__" : Str)) = false := by decide) : PE X (.Name x pos) (tC (.int i)) := by
  obtain ⟨t, e⟩ := hm
  exact pe_glob hg e ⟨t, rfl⟩ hd
theorem pe_gstr {z : Str} (hg : Gl X x) (hm : ∃ t, X.mg x = some (.str z t)) (hd : (x == ("__debug__" : Str)) = false := by decide) : PE X (.Name x pos) (tC (.str z)) := by
  obtain ⟨t, e⟩ := hm
  exact pe_glob hg e ⟨t, rfl⟩ hd
theorem pe_gty {T : String} (hg : Gl X x) (hm : X.mg x = none) (hv : bootBuiltins x = some (.type T)) (hn : x ≠ "__name__" := by decide) (hd : (x == ("__debug__" : Str)) = false := by decide) : PE X (.Name x pos) (tC (.ty T)) := pe_bltn hg hm hv rfl hn hd
end
/-! what stays: all but the object at p -/
def But (p : Addr) (H H' : Hp) : Prop := ∀ b o, b ≠ p → H b = some o → H' b = some o
theorem But.refl (p : Addr) (H : Hp) : But p H H := fun _ _ _ h => h
theorem But.trans {p : Addr} {H H1 H2 : Hp} (a : But p H H1) (b : But p H1 H2) : But p H H2 := fun c o n h => b c o n (a c o n h)
theorem But.of {p : Addr} {H H' : Hp} (a : Same H H') : But p H H' := fun c o _ h => a c o h
theorem But.upd {p : Addr} {o : HO} (H : Hp) : But p H (upd H p o) := fun c u n h => by rw [upd_ne n]; exact h
theorem Same.new {H : Hp} {p : Addr} {o : HO} (h : H p = none) : Same H (upd H p o) := fun c u e => by rw [upd_ne (ne_of_none e h)]; exact e
theorem Same.put {H H' : Hp} {p : Addr} {o : HO} (s : Same H H') (h : H p = none) : Same H (upd H' p o) := fun c u e => by rw [upd_ne (ne_of_none e h)]; exact s c u e
theorem But.put {q : Addr} {H H' : Hp} {p : Addr} {o : HO} (s : But q H H') (h : H p = none) : But q H (L2.upd H' p o) := fun c u n e => by rw [upd_ne (ne_of_none e h)]; exact s c u n e
theorem But.free {p : Addr} {H H' : Hp} (s : But p H H') {a : Addr} (n : a ≠ p) (h : H' a = none) : H a = none := by
  cases e : H a with
  | none => rfl
  | some o => rw [s a o n e] at h; cases h
theorem But.seq {K : PySem.W.Frag} {p a : Addr} {H H' : Hp} {xs : List V} (s : But p H H') (n : a ≠ p) (h : SqL K H a xs) : SqL K H' a xs := by
  rcases h with (h | ⟨o, h⟩) | h
  · exact .inl (.inl (s _ _ n h))
  · exact .inl (.inr ⟨o, s _ _ n h⟩)
  · exact .inr h
/-! the pen: where the draws come from -/
def penV (l : Addr) (t lf : Int) : List (Key × V) := [(Sum.inr "cells", .ref l), (Sum.inr "turn", .int t), (Sum.inr "left", .int lf)]
structure Pen (H : Hp) (p l : Addr) (t : Int) : Prop where
  ex : ∃ (ns : List Int) (lf : Int), H p = some (.dK (penV l t lf)) ∧ H l = some (.lst (ns.map V.int)) ∧ 0 ≤ lf
  pos : 0 ≤ t
theorem Pen.ne {H : Hp} {p l : Addr} {t : Int} (h : Pen H p l t) : l ≠ p := by
  obtain ⟨ns, lf, h1, h2, _⟩ := h.ex
  exact ne_of h2 h1 (by intro z; cases z)
theorem Pen.at_ {H : Hp} {p l : Addr} {t : Int} (h : Pen H p l t) : ∃ o, H p = some o := by
  obtain ⟨ns, lf, h1, h2, _⟩ := h.ex
  exact ⟨_, h1⟩
theorem Pen.same {H H' : Hp} {p l : Addr} {t : Int} (h : Pen H p l t) (s : Same H H') : Pen H' p l t := by
  obtain ⟨ns, lf, h1, h2, h3⟩ := h.ex
  exact ⟨⟨ns, lf, s _ _ h1, s _ _ h2, h3⟩, h.pos⟩
theorem Pen.new {H : Hp} {p l q : Addr} {t : Int} {o : HO} (h : Pen H p l t) (n : H q = none) : Pen (upd H q o) p l t := h.same (Same.new n)
theorem Pen.put {H : Hp} {p l q : Addr} {t : Int} {o : HO} (h : Pen H p l t) (n1 : q ≠ p) (n2 : q ≠ l) : Pen (upd H q o) p l t := by
  obtain ⟨ns, lf, h1, h2, h3⟩ := h.ex
  exact ⟨⟨ns, lf, by rw [upd_ne n1.symm]; exact h1, by rw [upd_ne n2.symm]; exact h2, h3⟩, h.pos⟩
/-- what every drawing def leaves: the pen a few turns on, all else as it was -/
def Drew (c : Int) (p l : Addr) (t : Int) (H : Hp) (H' : Hp) : Prop := (∃ t', Pen H' p l t' ∧ t ≤ t' ∧ t' ≤ t + c) ∧ But p H H'
/-- draw(pen, span) -/
def spDraw : Sp := fun vs H Q _ => ∃ (p l : Addr) (t span : Int), vs = [.ref p, .int span] ∧ Pen H p l t ∧ t ≤ 1000000000 ∧ 0 < span ∧ span.natAbs < 2 ^ 250 ∧ ∀ (v : Int) (H' : Hp) (t' : Int), 0 ≤ v → v < span → Pen H' p l t' → t ≤ t' → t' ≤ t + 1 → But p H H' → Q (.int v) H'
end L2
end
section
set_option Elab.async false
set_option linter.all false
set_option maxRecDepth 100000
set_option maxHeartbeats 4000000
namespace L2
open PySem PySem.Spec PyProof.Rows
/-- an own class with the method of an operation -/
structure OpX (P : Program) (w : World) (K : PySem.W.Frag) (mg : Str → Option Value) (base : Heap) (CX : CXT) (k : Nat) (C : Addr) (op : Operator) (ps : List Str) (sp : Sp) : Prop where
  first : PySem.W.selfFirst K C = true
  ex : ∃ f fd, FnOk P w K mg base CX k f fd ps sp ∧ PySem.W.findIn K (.ref C) (PySem.dunder op.info.2) = some (some (.ref f)) ∧ PySem.W.isFn K (.ref f) = true ∧ Binds K fd ps []
/-- an int on its right does not take it -/
structure OpI (K : PySem.W.Frag) (C : Addr) (op : Operator) : Prop where
  no : PySem.W.findIn K (.ref C) (dunderR op.info.2) = some none
  h1 : ∃ fo, PySem.W.findIn K (.type "int") (PySem.dunder op.info.2) = some fo
  h2 : ∃ ro, PySem.W.findIn K (.type "int") (dunderR op.info.2) = some ro
  sub : PySem.W.subIn K (.type "int") (.ref C) = some false
def rOpS (C : Addr) (sp : Sp) (E : XK) : R2 := fun x y H Q => ∃ (a b dx dx' : Addr) (fs fs' : List (Str × V)), x = .ref a ∧ y = .ref b ∧ H a = some (.ins C dx fs) ∧ H b = some (.ins C dx' fs') ∧ sp [x, y] H Q E
def rOpI (C : Addr) (sp : Sp) (E : XK) : R2 := fun x y H Q => ∃ (a dx : Addr) (fs : List (Str × V)) (n : Int), x = .ref a ∧ y = .int n ∧ H a = some (.ins C dx fs) ∧ sp [x, y] H Q E
def tOpS (C : Addr) (sp : Sp) (E : St → XK) (ta tb : TE) : TE := fun σ H Q => tOp (rOpS C sp (E σ)) ta tb σ H Q
def tOpI (C : Addr) (sp : Sp) (E : St → XK) (ta tb : TE) : TE := fun σ H Q => tOp (rOpI C sp (E σ)) ta tb σ H Q
section
variable {X : Cx} {CX : CXT} {k : Nat} {C : Addr} {op : Operator} {ps : List Str} {sp : Sp} {E : St → XK} {a b : Expr} {ta tb : TE} {pos : Pos}
theorem back {pins : List (Addr × Obj)} {σ : St} {Q : VK} {v : Value} {s : Shared} (h : EP X pins σ Q v s) : PySem.W.CmpBack (EP X pins σ Q) v s := by
  have ne : v ≠ .notImplemented := by
    obtain ⟨x, H, I, r, q⟩ := h
    intro e
    subst e
    cases x <;> (first | (obtain ⟨t, e⟩ := r; cases e; done) | (cases r; done))
  cases v <;> first | exact h | exact absurd rfl ne
theorem pe_opS (M : OpX X.prog X.w X.K X.mg X.base CX k C op ps sp) (ha : PE X a ta) (hb : PE X b tb) (hr : Room k X.A) (hx : ∀ σ, PassesAt CX X σ (E σ)) : PE X (.BinOp a op b pos) (tOpS C sp E ta tb) := by
  obtain ⟨f, fd, F, h1, h2, bd⟩ := M.ex
  refine ⟨fun pins s σ H Q I h => ?_⟩
  refine wpAny_BinOp (binT ha hb I h fun v u s2 x y H2 I2 rx ry ⟨p, q, dx, dx', fs, fs', ex, ey, hp, hq, g⟩ => ?_)
  subst ex ey
  obtain rfl : v = Value.ref p := rx
  obtain rfl : u = Value.ref q := ry
  obtain ⟨mA, O, _, _, _⟩ := ins_get I2.hok hp
  obtain ⟨mB, O', _, _, _⟩ := ins_get I2.hok hq
  obtain ⟨od, J, _⟩ := O.look
  obtain ⟨od', J', _⟩ := O'.look
  obtain ⟨m, hF⟩ := I2.fr
  exact PySem.W.binop_K hF I2.ok.mod.kin J J'.type M.first h1 h2 (wpAny_mono (run_fnS (vs := [.ref p, .ref q]) F hr bd (hx σ) I2 (.cons rfl (.cons rfl .nil)) g) (fun _ _ z => back z) fun _ _ z => z)
theorem pe_opI (M : OpX X.prog X.w X.K X.mg X.base CX k C op ps sp) (N : OpI X.K C op) (ha : PE X a ta) (hb : PE X b tb) (hr : Room k X.A) (hx : ∀ σ, PassesAt CX X σ (E σ)) : PE X (.BinOp a op b pos) (tOpI C sp E ta tb) := by
  obtain ⟨f, fd, F, h1, h2, bd⟩ := M.ex
  obtain ⟨fo, g1⟩ := N.h1
  obtain ⟨ro, g2⟩ := N.h2
  refine ⟨fun pins s σ H Q I h => ?_⟩
  refine wpAny_BinOp (binT ha hb I h fun v u s2 x y H2 I2 rx ry ⟨p, dx, fs, n, ex, ey, hp, g⟩ => ?_)
  subst ex ey
  obtain rfl : v = Value.ref p := rx
  obtain ⟨t, rfl⟩ := ry
  obtain ⟨mA, O, _, _, _⟩ := ins_get I2.hok hp
  obtain ⟨od, J, _⟩ := O.look
  obtain ⟨m, hF⟩ := I2.fr
  exact PySem.W.ksp_binT (T := "int") hF I2.ok.mod.kin J rfl M.first h1 h2 N.no (.inl rfl) g1 g2 N.sub (wpAny_mono (run_fnS (vs := [.ref p, .int n]) F hr bd (hx σ) I2 (.cons rfl (.cons ⟨t, rfl⟩ .nil)) g) (fun _ _ z => back z) fun _ _ z => z)
end
end L2
end
section
set_option Elab.async false
set_option linter.all false
set_option maxRecDepth 100000
set_option maxHeartbeats 4000000
namespace L2
open PySem PySem.Spec PyProof.Rows
/-! defs that may raise, by name -/
theorem FunD.okX {P : Program} {w : World} {K : PySem.W.Frag} {mg : Str → Option Value} {base : Heap} {x qual : Str} {params : Arguments} {body : List Stmt} {scope : Scope} {f : Addr} {fd : FuncData} {N ps : List Str} {k : Nat} {sp : Sp} (F : FunD K x qual params body scope [] [] f fd) (S : FnScope N ps scope) (len : ∀ vs H Q E, sp vs H Q E → vs.length = ps.length)
    (hbody : ∀ (cdv : Value) (A : Around) (outer : List Env) (s : Shared) (H : Hp) (vs : List V) (Q : VK) (E : XK), Room k (A.deeper (envOfC qual scope s.heap.objs.size f cdv)) → sp vs H Q E →
      ∃ t, PSs (cxOf (CX P w) P w K mg base N qual scope f cdv A outer s H E) body t ∧ t { nx := fun _ H' => Q .non H', rt := Q } (start N vs) H) : FnOk P w K mg base (CX P w) (k + 1) f fd ps sp := by
  obtain ⟨oc, od, dV, kV, doc, pm, an, cdv, ct, osl, rfl, lk, hcd, _, _⟩ := F.ex
  exact fn_of lk hcd S len fun A outer s H vs Q E hr hsp => hbody cdv A outer s H vs Q E hr hsp
/-- nothing is let out -/
theorem passN {P : Program} {w : World} {X : Cx} : Passes (CX P w) X E0 := fun _ _ _ _ _ _ _ ⟨_, _, _, _, _, _, _, _, _, _, _, _, h⟩ => h.elim
theorem passV {P : Program} {w : World} {X : Cx} {E : XK} (h : ∀ cls d H, ¬ E cls d H) : Passes (CX P w) X E := fun _ _ _ _ _ _ _ ⟨_, _, H', cls, d, _, _, _, _, _, _, _, q⟩ => (h cls d H' q).elim
structure CalX (P : Program) (w : World) (K : PySem.W.Frag) (mg : Str → Option Value) (base : Heap) (k : Nat) (x : Str) (ps : List Str) (sp : Sp) : Prop where
  ex : ∃ f fd, FnOk P w K mg base (CX P w) k f fd ps sp ∧ mg x = some (.ref f) ∧ PySem.W.keepIn K (.ref f) = true ∧ Binds K fd ps []
section
variable {P : Program} {w : World} {K : PySem.W.Frag} {mg : Str → Option Value} {base : Heap} {k : Nat} {x : Str} {N ps : List Str} {sp : Sp} {st : Stmt}
theorem Def.calX (D : Def K mg x st) (S : FnScope N ps (defScope st)) (len : ∀ vs H Q E, sp vs H Q E → vs.length = ps.length)
    (hb : ∀ (kV doc pm : Value) (an : Option Addr) (cdv ct : Value) (us : List Value), us.length = ps.length → bindArgs (PySem.W.fnOf x x (defArgs st) (defBody st) (defScope st) .none kV doc pm an cdv ct) ⟨us, []⟩ = pure (ps.zip us))
    (body : ∀ (f : Addr) (cdv : Value) (A : Around) (outer : List Env) (s : Shared) (H : Hp) (vs : List V) (Q : VK) (E : XK), Room k (A.deeper (envOfC x (defScope st) s.heap.objs.size f cdv)) → sp vs H Q E →
      ∃ t, PSs (cxOf (CX P w) P w K mg base N x (defScope st) f cdv A outer s H E) (defBody st) t ∧ t { nx := fun _ H' => Q .non H', rt := Q } (start N vs) H) : CalX P w K mg base (k + 1) x ps sp := by
  obtain ⟨f, fd, F, hm⟩ := D.ex
  exact ⟨f, fd, F.okX S len (fun cdv A outer s H vs Q E hr h => body f cdv A outer s H vs Q E hr h), hm, F.kp, F.bindsN hb⟩
end
section
variable {X : Cx} {k : Nat} {x : Str} {ps : List Str} {sp : Sp} {e : Expr} {es : List Expr} {t : TA} {p pos : Pos} {W : WX}
/-- called where what it raises is taken -/
theorem pe_calX (tk : Takes X W) (C : CalX X.prog X.w X.K X.mg X.base k x ps sp) (hr : Room k X.A) (hg : Gl X x) (ha : PA X (e :: es) t) (hdb : (x == ("__debug__" : Str)) = false := by decide)
    (he : starEach (e :: es) X.env = (false, eval e X.env) :: starEach es X.env := by rfl) (hpl : (backTo pos (starEach es X.env)).any (·.1) = false := by rfl) : PE X (.Call (.Name x p) (e :: es) [] pos) (tCallS sp (WE W) t) := by
  obtain ⟨f, fd, G, m, kp, b⟩ := C.ex
  exact pe_callS G hr hg m kp b (fun σ => passAt tk σ) ha hdb he hpl
/-- called where nothing is raised -/
theorem pe_calN (C : CalX X.prog X.w X.K X.mg X.base k x ps sp) (hr : Room k X.A) (hg : Gl X x) (ha : PA X (e :: es) t) (hdb : (x == ("__debug__" : Str)) = false := by decide)
    (he : starEach (e :: es) X.env = (false, eval e X.env) :: starEach es X.env := by rfl) (hpl : (backTo pos (starEach es X.env)).any (·.1) = false := by rfl) : PE X (.Call (.Name x p) (e :: es) [] pos) (tCall sp [] E0 t) := by
  obtain ⟨f, fd, G, m, kp, b⟩ := C.ex
  exact pe_call G hr hg m kp b .nil passN ha hdb he hpl
end
/-- a method of a class -/
structure MthX (P : Program) (w : World) (K : PySem.W.Frag) (mg : Str → Option Value) (base : Heap) (CX : CXT) (k : Nat) (C : Addr) (m : Str) (ps : List Str) (sp : Sp) : Prop where
  cl : Cls K C
  ex : ∃ f fd, FnOk P w K mg base CX k f fd ps sp ∧ Meth K C m f ∧ Binds K fd ps []
section
variable {X : Cx} {CX0' : CXT} {k : Nat} {C : Addr} {m : Str} {ps : List Str} {sp : Sp} {o e : Expr} {es : List Expr} {to : TE} {t : TA} {apos pos : Pos} {E : XK}
theorem pe_mth {pl : Sem Bool} (M : MthX X.prog X.w X.K X.mg X.base CX0' k C m ps sp) (he : PE X o to) (hr : Room k X.A) (hx : Passes CX0' X E) (ha : PA X (e :: es) t)
    (hst : starEach (e :: es) X.env = (false, eval e X.env) :: starEach es X.env := by rfl) (hpl : (backTo pos (starEach es X.env)).any (·.1) = false := by rfl)
    (ht : eval (.Call (.Attribute o m apos) (e :: es) [] pos) X.env = (do
      let ov ← eval o X.env
      standAt apos.atName
      let (f, first) ← holding [ov] (getMethod ov m pl)
      callWith pos f first (backTo pos (starEach (e :: es) X.env)) (backToKw pos (keywordEach [] X.env))) := by rfl) :
    PE X (.Call (.Attribute o m apos) (e :: es) [] pos) (tMeth C m sp [] E to t) := by
  obtain ⟨f, fd, F, hm, hb⟩ := M.ex
  exact pe_meth he M.cl hm F hr hb .nil hx ha hst hpl ht
theorem pe_mth0 {pl : Sem Bool} (M : MthX X.prog X.w X.K X.mg X.base CX0' k C m ps sp) (he : PE X o to) (hr : Room k X.A) (hx : Passes CX0' X E)
    (ht : eval (.Call (.Attribute o m apos) [] [] pos) X.env = (do
      let ov ← eval o X.env
      standAt apos.atName
      let (f, first) ← holding [ov] (getMethod ov m pl)
      callWith pos f first (backTo pos (starEach [] X.env)) (backToKw pos (keywordEach [] X.env))) := by rfl) :
    PE X (.Call (.Attribute o m apos) [] [] pos) (tMeth C m sp [] E to tNil) := by
  obtain ⟨f, fd, F, hm, hb⟩ := M.ex
  exact pe_meth0 he M.cl hm F hr hb .nil hx ht
end
end L2
end
section
set_option Elab.async false
set_option linter.all false
set_option maxRecDepth 100000
set_option maxHeartbeats 4000000
namespace L2
open PySem PySem.Spec PyProof.Rows
/-! defs whose code object is known: they make functions -/
structure DefT (K : PySem.W.Frag) (mg : Str → Option Value) (x : Str) (st : Stmt) (c : Addr) : Prop where
  ex : ∃ f fd, FunD K x x (defArgs st) (defBody st) (defScope st) [] [] f fd ∧ mg x = some (.ref f) ∧ fd.code = .ref c
section
variable {P : Program} {w : World} {K : PySem.W.Frag} {mg : Str → Option Value} {base : Heap} {k : Nat} {x : Str} {N ps : List Str} {sp : Sp} {st : Stmt} {c : Addr}
theorem DefT.calCX {CX : CXT} (D : DefT K mg x st c) (S : FnScope N ps (defScope st)) (len : ∀ vs H Q E, sp vs H Q E → vs.length = ps.length)
    (hb : ∀ (kV doc pm : Value) (an : Option Addr) (cdv ct : Value) (us : List Value), us.length = ps.length → bindArgs (PySem.W.fnOf x x (defArgs st) (defBody st) (defScope st) .none kV doc pm an cdv ct) ⟨us, []⟩ = pure (ps.zip us))
    (body : ∀ (f : Addr) (A : Around) (outer : List Env) (s : Shared) (H : Hp) (vs : List V) (Q : VK) (E : XK), Room k (A.deeper (envOfC x (defScope st) s.heap.objs.size f (.ref c))) → sp vs H Q E →
      ∃ t, PSs (cxOf CX P w K mg base N x (defScope st) f (.ref c) A outer s H E) (defBody st) t ∧ t { nx := fun _ H' => Q .non H', rt := Q } (start N vs) H) :
    ∃ f fd, FnOk P w K mg base CX (k + 1) f fd ps sp ∧ mg x = some (.ref f) ∧ PySem.W.keepIn K (.ref f) = true ∧ Binds K fd ps [] := by
  obtain ⟨f, fd, F, hm, hc⟩ := D.ex
  have B := F.bindsN hb
  have kp := F.kp
  obtain ⟨oc, od, dV, kV, doc, pm, an, cdv, ct, osl, rfl, lk, hcd, _, _⟩ := F.ex
  have e : cdv = .ref c := hc
  subst e
  exact ⟨f, _, fn_of lk hcd S len fun A outer s H vs Q E hr hsp => body f A outer s H vs Q E hr hsp, hm, kp, B⟩
theorem DefT.cal (D : DefT K mg x st c) (S : FnScope N ps (defScope st)) (len : ∀ vs H Q E, sp vs H Q E → vs.length = ps.length)
    (hb : ∀ (kV doc pm : Value) (an : Option Addr) (cdv ct : Value) (us : List Value), us.length = ps.length → bindArgs (PySem.W.fnOf x x (defArgs st) (defBody st) (defScope st) .none kV doc pm an cdv ct) ⟨us, []⟩ = pure (ps.zip us))
    (body : ∀ (f : Addr) (A : Around) (outer : List Env) (s : Shared) (H : Hp) (vs : List V) (Q : VK) (E : XK), Room k (A.deeper (envOfC x (defScope st) s.heap.objs.size f (.ref c))) → sp vs H Q E →
      ∃ t, PSs (cxOf CX0 P w K mg base N x (defScope st) f (.ref c) A outer s H E) (defBody st) t ∧ t { nx := fun _ H' => Q .non H', rt := Q } (start N vs) H) : Cal P w K mg base (k + 1) x ps sp := ⟨D.calCX S len hb body⟩
/-- from the head -/
theorem defT_of {p : He.Defn} {fd : FuncData} (F : FunD K x x (defArgs st) (defBody st) (defScope st) [] [] (He.fAd K p) fd) (hm : mg x = some (.ref (He.fAd K p))) : DefT K mg x st (He.codeOf K p) := by
  refine ⟨_, fd, F, hm, ?_⟩
  obtain ⟨oc, od, dV, kV, doc, pm, an, cdv, ct, osl, rfl, lk, hcd, _, _⟩ := F.ex
  obtain ⟨c, rfl⟩ := He.codeIn_ref hcd
  rw [He.codeOf_eq lk (c := c) rfl]
end
/-- a suite that is read only where a fact holds -/
theorem pss_if {X : Cx} {ss : List Stmt} {t : TS} {p : Prop} (h : p → PSs X ss t) : PSs X ss (fun D σ H => p ∧ t D σ H) := ⟨fun pins s σ H D I ⟨hp, q⟩ => (h hp).run pins s σ H D I q⟩
end L2
end
section
set_option Elab.async false
set_option linter.all false
set_option maxRecDepth 100000
set_option maxHeartbeats 4000000
namespace He
open PySem PySem.Spec PyProof.Rows L2
/-! a Hook with the statics and with tables -/
def frZ (g : Addr → Option Obj) (n : Nat) : PySem.W.Frag := frT g (cStatics :: asD g n)
def obsZ (n : Nat) (fa : List Fa) (fn : List DefD) (tf : List Defn) (ex : PySem.W.Frag → Bool) (g : Addr → Option Obj) : AlX := (obsT fa fn [] (frZ g n), ex (frZ g n) && tabsB g tf (frZ g n))
theorem saysZ_of {n : Nat} {fa : List Fa} {fn : List DefD} {tf : List Defn} {ex : PySem.W.Frag → Bool} {w : World} {h : Heap} (e : obsZ n fa fn tf ex h.get? = valX fn [] w) : SaysX fa fn [] tf ex w h (frZ h.get? n) := by
  have e1 : obsT fa fn [] (frZ h.get? n) = valT fn [] w := congrArg (fun z : AlX => z.1) e
  have e2 : (ex (frZ h.get? n) && tabsB h.get? tf (frZ h.get? n)) = true := congrArg (fun z : AlX => z.2) e
  rw [Bool.and_eq_true] at e2
  obtain ⟨h1, h2⟩ := e2
  have key : ∀ p ∈ tf, PySem.W.codeHdIn (frZ h.get? n) (cT (frZ h.get? n) p).1 (cT (frZ h.get? n) p).2 = true ∧ ∃ o, h.get? (cT (frZ h.get? n) p).2 = some o ∧ emptyTab o = true := fun p hp => by
    have z := List.all_eq_true.mp h2 p hp
    rw [Bool.and_eq_true] at z
    obtain ⟨h3, h4⟩ := z
    refine ⟨h3, ?_⟩
    cases q : h.get? (cT (frZ h.get? n) p).2 with
    | none =>
      rw [q] at h4
      cases h4
    | some o =>
      rw [q] at h4
      exact ⟨o, rfl, h4⟩
  exact ⟨e1, h1, fun p hp => (key p hp).1, fun p hp => by
    obtain ⟨_, o, q, z⟩ := key p hp
    exact frT_none q z, fun p hp => by
    obtain ⟨_, o, q, z⟩ := key p hp
    rw [q, emptyTab_eq z]⟩
def hookZ (n : Nat) (fa : List Fa) (fn : List DefD) (tf : List Defn) (ex : PySem.W.Frag → Bool) : PySem.W.Hook where
  α := AlX
  obs := fun s => obsZ n fa fn tf ex s.heap.get?
  val := fun w => valX fn [] w
  says := fun w h => ∃ K : PySem.W.Frag, K.In h ∧ SaysX fa fn [] tf ex w h K
  of := fun _ _ e => ⟨_, frT_in, saysZ_of e⟩
  keeps := fun _ _ _ ⟨K, hK, c⟩ k => ⟨K, PySem.W.Frag.In.keeps hK k, ⟨c.t, c.more, c.hd, c.out, fun p hp => k _ _ (c.empty p hp)⟩⟩
end He
namespace L2
open PySem PySem.Spec PyProof.Rows
/-! what the top leaves: own exceptions -/
def oexB (K : PySem.W.Frag) (C : Addr) : Bool :=
  (match K.lookup C with
  | some { cls := .type t, dict := _, data := .cls cd, slots := sl } =>
    match cd.mro, sl.toList with
    | .ref C' :: bm, [_, _, _, _, some (.builtin n), _] => decide (t = "type") && (decide (C' = C) && (decide (n = "ValueError.__new__") && (cd.hasDict && (!cd.hasDel && HandSPX.refsVE bm))))
    | _, _ => false
  | _ => false) && (decide (PySem.W.findIn K (.ref C) "__setattr__" = some (some (.builtin "object.__setattr__"))) && (decide (PySem.W.subIn K (.ref C) (.type "BaseException") = some true) && (decide (PySem.W.typeIn K (.ref C) = some (.type "type")) && PySem.W.keepIn K (.ref C))))
theorem oexB_ok {K : PySem.W.Frag} {C : Addr} (h : oexB K C = true) : OexC K C := by
  unfold oexB at h
  simp only [Bool.and_eq_true, decide_eq_true_eq] at h
  obtain ⟨h1, h2, h3, h4, h5⟩ := h
  refine ⟨?_, h2, h3, h4, h5⟩
  revert h1
  split
  · rename_i t dd cd sl e
    split
    · rename_i C' bm k0 k1 k2 k3 n k5 em es
      intro h
      simp only [Bool.and_eq_true, decide_eq_true_eq, Bool.not_eq_true'] at h
      obtain ⟨a1, a2, a3, a4, a5, a6⟩ := h
      subst a1 a2 a3
      obtain ⟨nm, bs, mro, N, qn, hdct, sn, sub, ab, col, hd⟩ := cd
      simp only at em a4 a5
      subst em a4 a5
      obtain ⟨sl⟩ := sl
      simp only at es
      subst es
      exact ⟨nm, qn, N, bs, bm, sn, sub, ab, col, dd, k0, k1, k2, k3, k5, e, a6⟩
    · intro h
      cases h
  · intro h
    cases h
def iniB (K : PySem.W.Frag) (x : Str) : Bool := decide (PySem.W.findIn K (.ref (He.ga K x)) "__init__" = some (some (.ref (He.ma K (He.ga K x) "__init__")))) && decide (PySem.W.typeIn K (.ref (He.ma K (He.ga K x) "__init__")) = some (.type "function"))
theorem iniB_ok {K : PySem.W.Frag} {x : Str} (h : iniB K x = true) : PySem.W.findIn K (.ref (He.ga K x)) "__init__" = some (some (.ref (He.ma K (He.ga K x) "__init__"))) ∧ PySem.W.typeIn K (.ref (He.ma K (He.ga K x) "__init__")) = some (.type "function") := by
  unfold iniB at h
  simp only [Bool.and_eq_true, decide_eq_true_eq] at h
  exact h
def partB (K : PySem.W.Frag) : Bool :=
  PySem.W.readsIn K (He.ga K "PartlyError") (.type "type") && (decide (PySem.W.specialIn K (.ref (He.ga K "PartlyError")) "__getattribute__" = some (some (.builtin "type.__getattribute__"))) &&
  (match PySem.W.findCls K (.ref (He.ga K "PartlyError")) (.type "type") "__init__" with
  | some (.val (.builtin n)) => decide (n = "ValueError.__init__")
  | _ => false))
theorem partB_ok {K : PySem.W.Frag} (z : partB K = true) : ClX.CRead K (He.ga K "PartlyError") (.type "type") ∧ PySem.W.findCls K (.ref (He.ga K "PartlyError")) (.type "type") "__init__" = some (.val (.builtin "ValueError.__init__")) := by
  unfold partB at z
  simp only [Bool.and_eq_true, decide_eq_true_eq] at z
  refine ⟨⟨z.1, z.2.1⟩, ?_⟩
  have y := z.2.2
  revert y
  split
  · rename_i n en
    intro y
    rw [en, of_decide_eq_true y]
  · intro y
    cases y
def excB (K : PySem.W.Frag) (D : Addr) : Bool :=
  decide (PySem.W.findIn K (.ref D) "__getattribute__" = some (some (.builtin "BaseException.__getattribute__"))) && (decide (PySem.W.findIn K (.ref D) "__getattr__" = some none) && (decide (PySem.W.subIn K (.ref D) (.type "BaseException") = some true) && (PySem.W.hasDictIn K D && (decide (PySem.W.findIn K (.ref D) "__class__" = some (some (.builtin "object.__class__"))) && (decide (PySem.W.specialIn K (.builtin "object.__class__") "__get__" = some (some (.builtin "getset_descriptor.__get__"))) && (decide (PySem.W.takesIn K (.builtin "object.__class__") = some true) && decide (PySem.W.mroIn K D (.type "object") = some true)))))))
theorem excB_ok {K : PySem.W.Frag} {D : Addr} (h : excB K D = true) : ExcC K D := by
  unfold excB at h
  simp only [Bool.and_eq_true, decide_eq_true_eq] at h
  obtain ⟨h1, h2, h3, h4, h5, h6, h7, h8⟩ := h
  exact ⟨h1, h2, h3, h4, h5, h6, h7, h8⟩
end L2
end
section
set_option Elab.async false
set_option linter.all false
set_option maxRecDepth 100000
set_option maxHeartbeats 4000000
namespace L2
open PySem PySem.Spec PyProof.Rows
/-! what the top leaves: written dicts of pairs and of texts, exceptions as values, operations -/
def tup2B (K : PySem.W.Frag) (t : Addr) (zs : List Int) : Bool := match K.lookup t with
  | some ⟨.type ty, _, .seq its _, _⟩ => decide (ty = "tuple") && decide (its.toList.map (fun v => match v with | .int z _ => some z | _ => none) = zs.map some)
  | _ => false
theorem vals_ints2 : ∀ {zs : List Int} {its : List Value}, its.map (fun v => match v with | .int z _ => some z | _ => none) = zs.map some → Vals (zs.map V.int) its
  | [], [], _ => .nil
  | [], _ :: _, h => by cases h
  | _ :: _, [], h => by cases h
  | z :: r, v :: its, h => by
    rw [List.map_cons, List.map_cons, List.cons.injEq] at h
    obtain ⟨h1, h2⟩ := h
    refine .cons ?_ (vals_ints2 h2)
    revert h1
    cases v <;> intro h1 <;> first | (cases h1; exact ⟨_, rfl⟩) | cases h1
theorem tup2B_ok {K : PySem.W.Frag} {t : Addr} {zs : List Int} (hz : zs.length ≤ 1000) (h : tup2B K t zs = true) (H : Hp) : SqT K H t (zs.map V.int) := by
  unfold tup2B at h
  revert h
  split
  · rename_i ty d its n sl e
    intro h
    simp only [Bool.and_eq_true, decide_eq_true_eq] at h
    obtain ⟨rfl, h2⟩ := h
    have r := vals_ints2 h2
    exact .inr ⟨_, its, n, e, rfl, rfl, by have h1 := r.length; have h2 : its.toList.length = its.size := Array.length_toList; rw [List.length_map] at h1; rw [sizeLine_eq]; omega, r⟩
  · intro h
    cases h
def dictP (K : PySem.W.Frag) (d : Str) (l : List (Str × Int × Int)) : Bool := l.all fun q => match PySem.W.nsIn K (He.ga K d) q.1 with
  | some (some (.ref t)) => tup2B K t [q.2.1, q.2.2]
  | _ => false
theorem dictP_ok {K : PySem.W.Frag} {d : Str} {l : List (Str × Int × Int)} (h : dictP K d l = true) : ∀ x lo hi, (x, lo, hi) ∈ l → ∃ t, PySem.W.nsIn K (He.ga K d) x = some (some (.ref t)) ∧ ∀ H : Hp, SqT K H t [.int lo, .int hi] := by
  intro x lo hi hm
  have z := List.all_eq_true.mp h _ hm
  dsimp only at z
  revert z
  split
  · rename_i t e
    intro z
    exact ⟨t, e, fun H => tup2B_ok (zs := [lo, hi]) (by show 2 ≤ 1000; decide) z H⟩
  · intro z
    cases z
def dictS (K : PySem.W.Frag) (d : Str) (l : List (Str × Str)) : Bool := l.all fun q => match PySem.W.nsIn K (He.ga K d) q.1 with
  | some (some (.str z _)) => decide (z = q.2)
  | _ => false
theorem dictS_ok {K : PySem.W.Frag} {d : Str} {l : List (Str × Str)} (h : dictS K d l = true) : ∀ x f, (x, f) ∈ l → ∃ t, PySem.W.nsIn K (He.ga K d) x = some (some (.str f t)) := by
  intro x f hm
  have z := List.all_eq_true.mp h _ hm
  dsimp only at z
  revert z
  split
  · rename_i y t e
    intro z
    rw [← of_decide_eq_true z]
    exact ⟨t, e⟩
  · intro z
    cases z
def dictN (K : PySem.W.Frag) (d : Str) (l : List Str) : Bool := l.all fun x => match PySem.W.nsIn K (He.ga K d) x with
  | some none => true
  | _ => false
theorem dictN_ok {K : PySem.W.Frag} {d : Str} {l : List Str} (h : dictN K d l = true) : ∀ x ∈ l, PySem.W.nsIn K (He.ga K d) x = some none := by
  intro x hm
  have z := List.all_eq_true.mp h _ hm
  revert z
  split
  · rename_i e
    intro _
    exact e
  · intro z
    cases z
def exvB (K : PySem.W.Frag) (C : Addr) : Bool :=
  xfB K C && ((PySem.W.clsIn K C).isSome && (decide (PySem.W.findIn K (.ref C) "__class__" = some (some (.builtin "object.__class__"))) && decide (PySem.W.mroIn K C (.type "object") = some true)))
def clsB (K : PySem.W.Frag) : Bool :=
  decide (PySem.W.specialIn K (.builtin "object.__class__") "__get__" = some (some (.builtin "getset_descriptor.__get__"))) && decide (PySem.W.takesIn K (.builtin "object.__class__") = some true)
theorem exvB_ok {K : PySem.W.Frag} {C : Addr} (c : clsB K = true) (h : exvB K C = true) : ExV K C := by
  unfold exvB at h
  unfold clsB at c
  simp only [Bool.and_eq_true, decide_eq_true_eq] at h c
  exact ⟨xfB_ok h.1, h.2.1, h.2.2.1, c.1, c.2, h.2.2.2⟩
def opiB (K : PySem.W.Frag) (C : Addr) (op : Operator) : Bool := decide (PySem.W.findIn K (.ref C) (dunderR op.info.2) = some none) && ((PySem.W.findIn K (.type "int") (PySem.dunder op.info.2)).isSome && ((PySem.W.findIn K (.type "int") (dunderR op.info.2)).isSome && decide (PySem.W.subIn K (.type "int") (.ref C) = some false)))
theorem opiB_ok {K : PySem.W.Frag} {C : Addr} {op : Operator} (h : opiB K C op = true) : OpI K C op := by
  unfold opiB at h
  simp only [Bool.and_eq_true, decide_eq_true_eq] at h
  obtain ⟨h1, h2, h3, h4⟩ := h
  exact ⟨h1, Option.isSome_iff_exists.mp h2, Option.isSome_iff_exists.mp h3, h4⟩
def isxB (K : PySem.W.Frag) (x : Str) : Bool := decide (PySem.W.kitOne K (.ref (He.ga K x)) (.ref (He.ga K "PartlyError")) = some true) && decide (PySem.W.kitOne K (.ref (He.ga K x)) (.type "ValueError") = some true)
theorem isxB_ok {K : PySem.W.Frag} {x : Str} (h : isxB K x = true) : PySem.W.kitOne K (.ref (He.ga K x)) (.ref (He.ga K "PartlyError")) = some true ∧ PySem.W.kitOne K (.ref (He.ga K x)) (.type "ValueError") = some true := by
  unfold isxB at h
  simp only [Bool.and_eq_true, decide_eq_true_eq] at h
  exact h
end L2
end
section
set_option Elab.async false
set_option linter.all false
namespace L2
open PySem PySem.Spec PyProof.Rows
/-- a written dict whose values are defs -/
def dictF (K : PySem.W.Frag) (d : Str) (l : List (Str × Str)) : Bool := l.all fun q => match PySem.W.nsIn K (He.ga K d) q.1 with
  | some (some (.ref f)) => decide (f = He.ga K q.2)
  | _ => false
theorem dictF_ok {K : PySem.W.Frag} {d : Str} {l : List (Str × Str)} (h : dictF K d l = true) : ∀ x f, (x, f) ∈ l → PySem.W.nsIn K (He.ga K d) x = some (some (.ref (He.ga K f))) := by
  intro x f hm
  have z := List.all_eq_true.mp h _ hm
  dsimp only at z
  revert z
  split
  · rename_i y e
    intro z
    rw [← of_decide_eq_true z]
    exact e
  · intro z
    cases z
end L2
end
section
set_option Elab.async false
set_option linter.all false
set_option maxRecDepth 100000
set_option maxHeartbeats 4000000
namespace L2
open PySem PySem.Spec PyProof.Rows
theorem But.nw {p q : Addr} {H H1 : Hp} {o : HO} (B : But p H H1) (h : H1 q = none) : But p H (L2.upd H1 q o) := B.trans (But.of (Same.new h))
theorem Same.tup {K : PySem.W.Frag} {a : Addr} {H H' : Hp} {xs : List V} (s : Same H H') (h : SqT K H a xs) : SqT K H' a xs := by
  rcases h with (h | ⟨o, h⟩) | h
  · exact .inl (.inl (s _ _ h))
  · exact .inl (.inr ⟨o, s _ _ h⟩)
  · exact .inr h
theorem But.tupI {K : PySem.W.Frag} {o a C dx : Addr} {fs : List (Str × V)} {H H' : Hp} {xs : List V} (b : But o H H') (ho : H o = some (.ins C dx fs)) (h : SqT K H a xs) : SqT K H' a xs := by
  rcases h with (h | ⟨u, h⟩) | h
  · exact .inl (.inl (b _ _ (fun z => by rw [z, ho] at h; cases h) h))
  · exact .inl (.inr ⟨u, b _ _ (fun z => by rw [z, ho] at h; cases h) h⟩)
  · exact .inr h
theorem units65 {k : Nat} {A : Around} (hr : Room k A) : A.units + 65 < cLine := by
  have := hr.un
  omega
end L2
namespace CF
open PySem PySem.Spec PyProof.Rows L2
/-! facts as the laws write them down -/
inductive FD where
  | by_ (a : Str) (m r : Int)
  | gap (a b : Str) (m r : Int)
  | apart (a : Str) (k n : Int) (b : Str) (e c : Int)
  | dist (w a b : Str) (n : Int)
  deriving DecidableEq
/-- the law's tuple -/
def FD.vs : FD → List V
  | .by_ a m r => [.str "by", .str a, .int m, .int r]
  | .gap a b m r => [.str "gap", .str a, .str b, .int m, .int r]
  | .apart a k n b e c => [.str "apart", .str a, .int k, .int n, .str b, .int e, .int c]
  | .dist w a b n => [.str w, .str a, .str b, .int n]
/-- its data -/
def FD.ds : FD → List PyData
  | .by_ a m r => [.str "by", .str a, .int m, .int r]
  | .gap a b m r => [.str "gap", .str a, .str b, .int m, .int r]
  | .apart a k n b e c => [.str "apart", .str a, .int k, .int n, .str b, .int e, .int c]
  | .dist w a b n => [.str w, .str a, .str b, .int n]
def Sorts : List Str := ["from", "upto", "is"]
def Rem (m r : Int) : Prop := (m = 2 ∨ m = 4 ∨ m = 8) ∧ 0 ≤ r ∧ r < m
def Off (k : Int) : Prop := -30 ≤ k ∧ k ≤ 30
def Many (n : Int) : Prop := 1 ≤ n ∧ n ≤ 16
/-- a fact over the pointers ps -/
def FD.Ok (ps : List Str) : FD → Prop
  | .by_ a m r => a ∈ ps ∧ Rem m r
  | .gap a b m r => a ∈ ps ∧ b ∈ ps ∧ b ≠ a ∧ Rem m r
  | .apart a k n b e c => a ∈ ps ∧ b ∈ ps ∧ b ≠ a ∧ Off k ∧ Many n ∧ Off e ∧ Many c
  | .dist w a b n => w ∈ Sorts ∧ a ∈ ps ∧ b ∈ ps ∧ b ≠ a ∧ -40 ≤ n ∧ n ≤ 40
/-- words that no pointer is named with -/
def Reserved : List Str := ["input", "load", "store", "set", "join", "part", "each", "copy", "up", "down", "fill", "step", "when", "else", "end", "times", "give", "call", "to", "from", "upto", "is", "apart", "by"]
/-- a pointer's name -/
structure NameOk (z : Str) : Prop where
  free : z ∉ Reserved
  lo : 1 ≤ z.length
  hi : z.length ≤ 12
  letters : ∀ c ∈ TL.tl z, 97 ≤ c ∧ c ≤ 122
def Names (ps : List Str) : Prop := (∀ z ∈ ps, NameOk z) ∧ ps.Nodup ∧ 1 ≤ ps.length ∧ ps.length ≤ 3
theorem dps_vs (K : PySem.W.Frag) (H : Hp) (f : FD) : DpAll K H f.vs f.ds := by
  cases f <;> repeat (first | exact .nil | refine .cons (by first | exact .str _ | exact .int _) ?_)
/-- facts at their places -/
inductive FAt (H : Hp) : List Addr → List FD → Prop
  | nil : FAt H [] []
  | cons {q : Addr} {f : FD} {qs : List Addr} {fs : List FD} : H q = some (.tup f.vs) → FAt H qs fs → FAt H (q :: qs) (f :: fs)
theorem FAt.same {H H' : Hp} {qs : List Addr} {fs : List FD} (h : FAt H qs fs) (s : Same H H') : FAt H' qs fs := by
  induction h with
  | nil => exact .nil
  | cons a _ ih => exact .cons (s _ _ a) ih
theorem FAt.but {p : Addr} {H H' : Hp} {kvs : List (Key × V)} {qs : List Addr} {fs : List FD} (h : FAt H qs fs) (hp : H p = some (.dK kvs)) (s : But p H H') : FAt H' qs fs := by
  induction h with
  | nil => exact .nil
  | cons a _ ih => exact .cons (s _ _ (fun z => by rw [z, hp] at a; cases a) a) ih
theorem FAt.app {H : Hp} {q : Addr} {f : FD} {qs : List Addr} {fs : List FD} (h : FAt H qs fs) (a : H q = some (.tup f.vs)) : FAt H (qs ++ [q]) (fs ++ [f]) := by
  induction h with
  | nil => exact .cons a .nil
  | cons b _ ih => exact .cons b ih
theorem FAt.up {H : Hp} {p : Addr} {xs : List V} {o : HO} {qs : List Addr} {fs : List FD} (h : FAt H qs fs) (hp : H p = some (.lst xs)) : FAt (upd H p o) qs fs := by
  induction h with
  | nil => exact .nil
  | cons a _ ih => exact .cons (by rw [upd_ne (fun z => by rw [z, hp] at a; cases a)]; exact a) ih
theorem FAt.len {H : Hp} {qs : List Addr} {fs : List FD} (h : FAt H qs fs) : qs.length = fs.length := by
  induction h with
  | nil => rfl
  | cons _ _ ih => rw [List.length_cons, List.length_cons, ih]
theorem FAt.at_ {H : Hp} {qs : List Addr} {fs : List FD} (h : FAt H qs fs) : ∀ {i : Nat} {q : Addr}, qs[i]? = some q → ∃ f, fs[i]? = some f ∧ H q = some (.tup f.vs) := by
  induction h with
  | nil => intro i q z; cases z
  | @cons q0 f qs fs a _ ih =>
    intro i q z
    cases i with
    | zero =>
      simp only [List.getElem?_cons_zero, Option.some.injEq] at z
      subst z
      exact ⟨f, rfl, a⟩
    | succ j =>
      rw [List.getElem?_cons_succ] at z ⊢
      exact ih z
theorem FAt.dps {K : PySem.W.Frag} {H : Hp} {qs : List Addr} {fs : List FD} (h : FAt H qs fs) : DpAll K H (qs.map V.ref) (fs.map fun f => PyData.tuple f.ds) := by
  induction h with
  | nil => exact .nil
  | cons a _ ih => exact .cons (.tup (SqT.of a) (dps_vs _ _ _)) ih
/-! data that is shaped -/
def Flat (d : PyData) : Prop := d.canLay0 = true ∧ d.depth = 0
theorem flats : ∀ ds : List PyData, (∀ d ∈ ds, Flat d) → PyData.canLayAll0 ds = true ∧ PyData.depthAll ds = 0
  | [], _ => ⟨rfl, rfl⟩
  | d :: r, h => by
    obtain ⟨a, b⟩ := flats r fun x hx => h x (List.mem_cons_of_mem _ hx)
    obtain ⟨c, e⟩ := h d List.mem_cons_self
    refine ⟨?_, ?_⟩
    · show (PyData.canLay0 d && PyData.canLayAll0 r) = true
      rw [a, c]
      rfl
    · show max (PyData.depth d) (PyData.depthAll r) = 0
      rw [b, e]
      rfl
theorem shaped_tup {ds : List PyData} (h : ∀ d ∈ ds, Flat d) : SeqAt.shaped (.tuple ds) = true := by
  obtain ⟨a, b⟩ := flats ds h
  show (PyData.canLayAll0 ds && decide (PyData.depthAll ds + 1 ≤ 64)) = true
  rw [a, b]
  rfl
theorem tups : ∀ ls : List (List PyData), (∀ ds ∈ ls, ∀ d ∈ ds, Flat d) → PyData.canLayAll0 (ls.map PyData.tuple) = true ∧ PyData.depthAll (ls.map PyData.tuple) ≤ 1
  | [], _ => ⟨rfl, by show 0 ≤ 1; decide⟩
  | ds :: r, h => by
    obtain ⟨a, b⟩ := tups r fun x hx => h x (List.mem_cons_of_mem _ hx)
    obtain ⟨c, e⟩ := flats ds (h ds List.mem_cons_self)
    refine ⟨?_, ?_⟩
    · show (PyData.canLayAll0 ds && PyData.canLayAll0 (r.map PyData.tuple)) = true
      rw [a, c]
      rfl
    · show max (PyData.depthAll ds + 1) (PyData.depthAll (r.map PyData.tuple)) ≤ 1
      rw [e]
      omega
theorem shaped_tups {ls : List (List PyData)} (h : ∀ ds ∈ ls, ∀ d ∈ ds, Flat d) : SeqAt.shaped (.list (ls.map PyData.tuple)) = true := by
  obtain ⟨a, b⟩ := tups ls h
  show (PyData.canLayAll0 (ls.map PyData.tuple) && decide (PyData.depthAll (ls.map PyData.tuple) + 1 ≤ 64)) = true
  rw [a, Bool.true_and]
  exact decide_eq_true (by omega)
def Lo (z : Str) : Prop := ∀ c ∈ z.cps.toList, c < 256
instance (z : Str) : Decidable (Lo z) := inferInstanceAs (Decidable (∀ c ∈ z.cps.toList, c < 256))
theorem lo_ok {z : Str} (h : Lo z) : PyData.strOk z = true := by
  unfold PyData.strOk
  rw [← Array.all_toList]
  exact List.all_eq_true.mpr fun c hc => decide_eq_true (Nat.lt_trans (h c hc) (by decide))
theorem flat_str {z : Str} (h : Lo z) : Flat (.str z) := ⟨lo_ok h, rfl⟩
theorem flat_int (i : Int) : Flat (.int i) := ⟨rfl, rfl⟩
theorem FD.flat {ps : List Str} (hp : ∀ z ∈ ps, Lo z) : ∀ {f : FD}, f.Ok ps → ∀ d ∈ f.ds, Flat d
  | .by_ a m r, ⟨h, _⟩ => by
    intro d hd
    simp only [FD.ds, List.mem_cons, List.not_mem_nil, or_false] at hd
    rcases hd with rfl | rfl | rfl | rfl
    · exact flat_str (by decide +kernel)
    · exact flat_str (hp _ h)
    · exact flat_int _
    · exact flat_int _
  | .gap a b m r, ⟨h, g, _⟩ => by
    intro d hd
    simp only [FD.ds, List.mem_cons, List.not_mem_nil, or_false] at hd
    rcases hd with rfl | rfl | rfl | rfl | rfl
    · exact flat_str (by decide +kernel)
    · exact flat_str (hp _ h)
    · exact flat_str (hp _ g)
    · exact flat_int _
    · exact flat_int _
  | .apart a k n b e c, ⟨h, g, _⟩ => by
    intro d hd
    simp only [FD.ds, List.mem_cons, List.not_mem_nil, or_false] at hd
    rcases hd with rfl | rfl | rfl | rfl | rfl | rfl | rfl
    · exact flat_str (by decide +kernel)
    · exact flat_str (hp _ h)
    · exact flat_int _
    · exact flat_int _
    · exact flat_str (hp _ g)
    · exact flat_int _
    · exact flat_int _
  | .dist w a b n, ⟨hw, h, g, _⟩ => by
    intro d hd
    simp only [FD.ds, List.mem_cons, List.not_mem_nil, or_false] at hd
    rcases hd with rfl | rfl | rfl | rfl
    · simp only [Sorts, List.mem_cons, List.not_mem_nil, or_false] at hw
      rcases hw with rfl | rfl | rfl <;> exact flat_str (by decide +kernel)
    · exact flat_str (hp _ h)
    · exact flat_str (hp _ g)
    · exact flat_int _
/-- what is in is found -/
theorem any_in {f : FD} {fs : List FD} (h : f ∈ fs) (hf : ∀ d ∈ f.ds, Flat d) : ((fs.map fun g => PyData.tuple g.ds).any fun z => PyData.eqv z (.tuple f.ds)) = true := by
  rw [List.any_map]
  refine List.any_eq_true.mpr ⟨f, h, ?_⟩
  exact SeqAt.eqv_refl _ (flats _ hf).1
/-! the texts of facts -/
def num (i : Int) : Str := Str.ofString (toString i)
def spot (z : Str) (k : Int) : Str := z ++ (if 0 < k then ("+" : Str) ++ num k else "") ++ (if k < 0 then num k else "")
def FD.words : FD → List Str
  | .by_ a m r => [a, "by", num m, num r]
  | .gap a b m r => [a, "to", b, "by", num m, num r]
  | .apart a k n b e c => ["apart", spot a k, num n, spot b e, num c]
  | .dist w a b n => [a, "to", b, w, num n]
def FD.text (f : FD) : Str := Txt.join " " f.words
/-- what holds of all small numbers -/
theorem small_all {p : Int → Bool} (h : ((List.range 201).all fun n => p ((n : Int) - 100)) = true) {i : Int} (h0 : -100 ≤ i) (h1 : i ≤ 100) : p i = true := by
  have z := List.all_eq_true.mp h (i + 100).toNat (List.mem_range.mpr (by omega))
  have e : (((i + 100).toNat : Nat) : Int) - 100 = i := by omega
  rw [e] at z
  exact z
theorem num_len {i : Int} (h0 : -100 ≤ i) (h1 : i ≤ 100) : (num i).length ≤ 4 :=
  of_decide_eq_true (small_all (p := fun i => decide ((num i).length ≤ 4)) (by decide +kernel) h0 h1)
theorem num_lo {i : Int} (h0 : -100 ≤ i) (h1 : i ≤ 100) : Lo (num i) :=
  of_decide_eq_true (small_all (p := fun i => decide (Lo (num i))) (by decide +kernel) h0 h1)
theorem log_small {i : Int} (h0 : -100 ≤ i) (h1 : i ≤ 100) : i.natAbs.log2 < 1920 :=
  of_decide_eq_true (small_all (p := fun i => decide (i.natAbs.log2 < 1920)) (by decide +kernel) h0 h1)
theorem len_app (x y : Str) : (x ++ y).length = x.length + y.length := strLen_append x y
theorem spot_len {z : Str} {k : Int} (hz : z.length ≤ 12) (h0 : -100 ≤ k) (h1 : k ≤ 100) : (spot z k).length ≤ 30 := by
  have := num_len h0 h1
  unfold spot
  rw [len_app, len_app]
  have e : ("+" : Str).length = 1 := rfl
  have e0 : ("" : Str).length = 0 := rfl
  split <;> split <;> (try rw [len_app]) <;> omega
theorem Rem.small {m r : Int} (h : Rem m r) : (-100 ≤ m ∧ m ≤ 100) ∧ (-100 ≤ r ∧ r ≤ 100) := by
  obtain ⟨h, h0, h1⟩ := h
  omega
/-- its words are short -/
theorem FD.short {ps : List Str} (hp : ∀ z ∈ ps, z.length ≤ 12) : ∀ {f : FD}, f.Ok ps → ∀ w ∈ f.words, w.length ≤ 30
  | .by_ a m r, ⟨h, g⟩ => by
    intro w hw
    have s := g.small
    have n1 := num_len s.1.1 s.1.2
    have n2 := num_len s.2.1 s.2.2
    have na := hp _ h
    simp only [FD.words, List.mem_cons, List.not_mem_nil, or_false] at hw
    rcases hw with rfl | rfl | rfl | rfl
    · omega
    · exact (by decide : ("by" : Str).length ≤ 30)
    · omega
    · omega
  | .gap a b m r, ⟨h, h2, _, g⟩ => by
    intro w hw
    have s := g.small
    have n1 := num_len s.1.1 s.1.2
    have n2 := num_len s.2.1 s.2.2
    have na := hp _ h
    have nb := hp _ h2
    simp only [FD.words, List.mem_cons, List.not_mem_nil, or_false] at hw
    rcases hw with rfl | rfl | rfl | rfl | rfl | rfl
    · omega
    · exact (by decide : ("to" : Str).length ≤ 30)
    · omega
    · exact (by decide : ("by" : Str).length ≤ 30)
    · omega
    · omega
  | .apart a k n b e c, ⟨h, h2, _, o1, m1, o2, m2⟩ => by
    obtain ⟨o11, o12⟩ := o1
    obtain ⟨m11, m12⟩ := m1
    obtain ⟨o21, o22⟩ := o2
    obtain ⟨m21, m22⟩ := m2
    intro w hw
    have s1 := spot_len (k := k) (hp _ h) (by omega) (by omega)
    have s2 := spot_len (k := e) (hp _ h2) (by omega) (by omega)
    have n1 := num_len (i := n) (by omega) (by omega)
    have n2 := num_len (i := c) (by omega) (by omega)
    simp only [FD.words, List.mem_cons, List.not_mem_nil, or_false] at hw
    rcases hw with rfl | rfl | rfl | rfl | rfl
    · exact (by decide : ("apart" : Str).length ≤ 30)
    · omega
    · omega
    · omega
    · omega
  | .dist w a b n, ⟨hw0, h, h2, _, n0, n1⟩ => by
    intro w hw
    have na := hp _ h
    have nb := hp _ h2
    have n1 := num_len (i := n) (by omega) (by omega)
    simp only [FD.words, List.mem_cons, List.not_mem_nil, or_false] at hw
    rcases hw with rfl | rfl | rfl | rfl | rfl
    · omega
    · exact (by decide : ("to" : Str).length ≤ 30)
    · omega
    · simp only [Sorts, List.mem_cons, List.not_mem_nil, or_false] at hw0
      rcases hw0 with rfl | rfl | rfl <;> decide
    · omega
theorem sum_le {ws : List Str} {b : Nat} (h : ∀ w ∈ ws, w.length ≤ b) : (ws.map (·.length)).sum ≤ ws.length * b := by
  induction ws with
  | nil => exact Nat.zero_le _
  | cons w r ih =>
    rw [List.map_cons, List.sum_cons, List.length_cons, Nat.succ_mul]
    have := h w List.mem_cons_self
    have := ih fun x hx => h x (List.mem_cons_of_mem _ hx)
    omega
theorem FD.few (f : FD) : f.words.length ≤ 6 := by
  cases f <;> exact Nat.le_of_ble_eq_true rfl
theorem FD.fits {ps : List Str} (hp : ∀ z ∈ ps, z.length ≤ 12) {f : FD} (h : f.Ok ps) : (f.words.map (·.length)).sum + f.words.length * (" " : Str).length ≤ 16777216 := by
  have a := sum_le (FD.short hp h)
  have b := f.few
  have e : (" " : Str).length = 1 := rfl
  have c : f.words.length * 30 ≤ 6 * 30 := Nat.mul_le_mul_right _ b
  rw [e]
  omega
theorem joinL_len (S : List Nat) : ∀ ps : List (List Nat), (TL.joinL S ps).length ≤ (ps.map List.length).sum + ps.length * S.length
  | [] => by simp [TL.joinL]
  | [p] => by simp [TL.joinL]
  | p :: q :: r => by
    have h := joinL_len S (q :: r)
    have e : TL.joinL S (p :: q :: r) = p ++ (S ++ TL.joinL S (q :: r)) := by
      first | rfl | simp [TL.joinL]
    rw [e, List.length_append, List.length_append, List.map_cons, List.sum_cons, List.length_cons, Nat.succ_mul]
    omega
theorem join_len (y : Str) (ws : List Str) : (Txt.join y ws).length ≤ (ws.map (·.length)).sum + ws.length * y.length := by
  rw [TL.join_eq, TL.len_tl, TL.tl_join]
  have h := joinL_len (TL.tl y) (ws.map TL.tl)
  have e : ((ws.map TL.tl).map List.length) = ws.map (·.length) := by
    rw [List.map_map]
    exact List.map_congr_left fun x _ => (TL.len_tl x).symm
  rw [e, List.length_map, ← TL.len_tl] at h
  exact h
theorem FD.text_len {ps : List Str} (hp : ∀ z ∈ ps, z.length ≤ 12) {f : FD} (h : f.Ok ps) : f.text.length ≤ 200 := by
  have j := join_len " " f.words
  have a := sum_le (FD.short hp h)
  have b := f.few
  have e : (" " : Str).length = 1 := rfl
  have c : f.words.length * 30 ≤ 6 * 30 := Nat.mul_le_mul_right _ b
  rw [e] at j
  unfold FD.text
  omega
def textOf (fs : List FD) : Str := Txt.join "\n" (fs.map FD.text)
theorem lines_fit {ps : List Str} (hp : ∀ z ∈ ps, z.length ≤ 12) {fs : List FD} (h : ∀ f ∈ fs, f.Ok ps) (n : fs.length ≤ 13) : ((fs.map FD.text).map (·.length)).sum + (fs.map FD.text).length * ("\n" : Str).length ≤ 4000 := by
  have a := sum_le (ws := fs.map FD.text) (b := 200) (fun w hw => by
    obtain ⟨f, hf, rfl⟩ := List.mem_map.mp hw
    exact FD.text_len hp (h f hf))
  have e : ("\n" : Str).length = 1 := rfl
  rw [List.length_map] at a ⊢
  have c : fs.length * 200 ≤ 13 * 200 := Nat.mul_le_mul_right _ n
  rw [e]
  omega
theorem text_fit {ps : List Str} (hp : ∀ z ∈ ps, z.length ≤ 12) {fs : List FD} (h : ∀ f ∈ fs, f.Ok ps) (n : fs.length ≤ 13) : (textOf fs).length ≤ 4000 :=
  Nat.le_trans (join_len _ _) (lines_fit hp h n)
/-! how far, which modulus -/
def ab (i : Int) : Int := if i < 0 then -i else i
def FD.far : FD → Int
  | .apart _ k n _ e c => ab k + n + ab e + c
  | .dist _ _ _ n => ab n
  | _ => 0
def FD.mod : FD → Int
  | .by_ _ m _ => m
  | .gap _ _ m _ => m
  | _ => 1
def mx (a b : Int) : Int := if b > a then b else a
def farOf (fs : List FD) : Int := fs.foldl (fun a f => mx a f.far) 0
def modOf (fs : List FD) : Int := fs.foldl (fun a f => mx a f.mod) 1
theorem NameOk.lo_ {z : Str} (h : NameOk z) : Lo z := fun c hc => by
  have := h.letters c hc
  omega
instance (z : Str) : Decidable (NameOk z) := decidable_of_iff (z ∉ Reserved ∧ 1 ≤ z.length ∧ z.length ≤ 12 ∧ ∀ c ∈ TL.tl z, 97 ≤ c ∧ c ≤ 122) ⟨fun h => ⟨h.1, h.2.1, h.2.2.1, h.2.2.2⟩, fun h => ⟨h.free, h.lo, h.hi, h.letters⟩⟩
theorem inV_strs (z : Str) (ns : List Str) : inV (.str z) (ns.map V.str) = decide (z ∈ ns) := by
  induction ns with
  | nil => rfl
  | cons w r ih =>
    have e : inV (.str z) ((w :: r).map V.str) = (decide (w = z) || inV (.str z) (r.map V.str)) := rfl
    rw [e, ih]
    by_cases h : w = z
    · rw [decide_eq_true h, Bool.true_or, decide_eq_true (List.mem_cons.mpr (.inl h.symm))]
    · rw [decide_eq_false h, Bool.false_or]
      exact decide_eq_decide.mpr ⟨fun y => List.mem_cons_of_mem _ y, fun y => (List.mem_cons.mp y).resolve_left fun e => h e.symm⟩
theorem flat_strs (ys : List Str) : (ys.map V.str).all flatV = true := by
  rw [List.all_map]
  exact List.all_eq_true.mpr fun _ _ => rfl
theorem cut_to (xs : List V) {m : Int} (h : 0 ≤ m) : cutV xs none (some m) = xs.take m.toNat := by
  unfold cutV HT.sIx
  simp only [if_neg (show ¬ m < 0 by omega), List.drop_zero, Nat.sub_zero]
  by_cases e : m.toNat ≤ xs.length
  · rw [Nat.min_eq_left e]
  · rw [Nat.min_eq_right (by omega), List.take_length, List.take_of_length_le (by omega)]
theorem drop_one {α : Type} [DecidableEq α] (x : α) : ∀ l : List α, l.Nodup → l.length ≤ (l.filter fun y => !decide (y = x)).length + 1
  | [], _ => Nat.zero_le _
  | y :: r, h => by
    have hr := (List.nodup_cons.mp h).2
    by_cases e : y = x
    · rw [List.filter_cons_of_neg (by rw [decide_eq_true e]; decide), List.length_cons]
      have : (r.filter fun y => !decide (y = x)) = r := List.filter_eq_self.mpr fun z hz => by
        have : z ≠ x := fun q => (List.nodup_cons.mp h).1 (e.symm ▸ q ▸ hz)
        rw [decide_eq_false this]
        rfl
      rw [this]
      omega
    · rw [List.filter_cons_of_pos (by rw [decide_eq_false e]; rfl), List.length_cons, List.length_cons]
      have := drop_one x r hr
      omega
theorem drop_all {α : Type} [DecidableEq α] (l : List α) (h : l.Nodup) : ∀ ns : List α, l.length ≤ (l.filter fun y => !decide (y ∈ ns)).length + ns.length
  | [] => by
    have : (l.filter fun y => !decide (y ∈ ([] : List α))) = l := List.filter_eq_self.mpr fun z _ => by simp
    rw [this]
    exact Nat.le_refl _
  | x :: ns => by
    have ih := drop_all l h ns
    have d := drop_one x (l.filter fun y => !decide (y ∈ ns)) (h.sublist List.filter_sublist)
    rw [List.filter_filter] at d
    have e : (l.filter fun a => (!decide (a = x)) && !decide (a ∈ ns)) = l.filter fun y => !decide (y ∈ x :: ns) := by
      refine List.filter_congr fun a _ => ?_
      by_cases e1 : a = x <;> by_cases e2 : a ∈ ns <;> simp [e1, e2]
    rw [e] at d
    rw [List.length_cons]
    omega
/-- a text joined out of letters -/
theorem joinL_nil : ∀ ps : List (List Nat), TL.joinL [] ps = ps.flatten
  | [] => rfl
  | [p] => by simp [TL.joinL]
  | p :: q :: r => by
    have h := joinL_nil (q :: r)
    have e : TL.joinL [] (p :: q :: r) = p ++ ([] ++ TL.joinL [] (q :: r)) := by
      first | rfl | simp [TL.joinL]
    rw [e, h]
    rfl
theorem join_letters {ys : List Str} (h : ∀ y ∈ ys, ∃ c, TL.tl y = [c] ∧ 97 ≤ c ∧ c ≤ 122) : (Txt.join "" ys).length = ys.length ∧ ∀ c ∈ TL.tl (Txt.join "" ys), 97 ≤ c ∧ c ≤ 122 := by
  have e : TL.tl (Txt.join "" ys) = (ys.map TL.tl).flatten := by
    rw [TL.join_eq, TL.tl_join]
    exact joinL_nil _
  have l : ∀ ys : List Str, (∀ y ∈ ys, ∃ c, TL.tl y = [c] ∧ 97 ≤ c ∧ c ≤ 122) → ((ys.map TL.tl).flatten).length = ys.length ∧ ∀ c ∈ (ys.map TL.tl).flatten, 97 ≤ c ∧ c ≤ 122 := by
    intro ys
    induction ys with
    | nil => intro _; exact ⟨rfl, by simp⟩
    | cons y r ih =>
      intro h
      obtain ⟨a, b⟩ := ih fun z hz => h z (List.mem_cons_of_mem _ hz)
      obtain ⟨c, hc, c0, c1⟩ := h y List.mem_cons_self
      rw [List.map_cons, List.flatten_cons, hc]
      refine ⟨by rw [List.length_append, a, List.length_cons]; simp [Nat.add_comm], fun d hd => ?_⟩
      rcases List.mem_append.mp hd with x | x
      · rw [List.mem_singleton.mp x]
        exact ⟨c0, c1⟩
      · exact b d x
  rw [TL.len_tl, e]
  exact l ys h
/-! a spot's text, taken apart -/
theorem num_plus {i : Int} (h0 : -100 ≤ i) (h1 : i ≤ 100) : 43 ∉ TL.tl (num i) :=
  of_decide_eq_true (small_all (p := fun i => decide (43 ∉ TL.tl (num i))) (by decide +kernel) h0 h1)
theorem num_neg {i : Int} (h0 : -100 ≤ i) (h1 : i ≤ 100) (h : i < 0) : num i = ("-" : Str) ++ num (-i) := by
  have z := of_decide_eq_true (small_all (p := fun i => decide (i < 0 → num i = ("-" : Str) ++ num (-i))) (by decide +kernel) h0 h1)
  exact z h
theorem NameOk.no {z : Str} (h : NameOk z) {c : Nat} (hc : c < 97) : c ∉ TL.tl z := fun hm => by
  have := h.letters c hm
  omega
theorem app_nil (z : Str) : z ++ ("" : Str) = z := TL.ext_tl (by rw [TL.tl_append]; exact List.append_nil _)
theorem app_as (x y z : Str) : (x ++ y) ++ z = x ++ (y ++ z) := TL.ext_tl (by rw [TL.tl_append, TL.tl_append, TL.tl_append, TL.tl_append, List.append_assoc])
theorem spot_pos {z : Str} {k : Int} (h : 0 < k) : spot z k = z ++ ("+" : Str) ++ num k := by
  unfold spot
  rw [if_pos h, if_neg (by omega), app_nil, app_as]
theorem spot_neg {z : Str} {k : Int} (h : k < 0) (h0 : -100 ≤ k) : spot z k = z ++ ("-" : Str) ++ num (-k) := by
  unfold spot
  rw [if_neg (by omega), if_pos h, app_nil, num_neg h0 (by omega) h, app_as]
theorem spot_zero {z : Str} : spot z 0 = z := by
  unfold spot
  rw [if_neg (by decide), if_neg (by decide), app_nil, app_nil]
def sgn (k : Int) : Str := if 0 < k then "+" else "-"
theorem spot_sign {z : Str} (hz : NameOk z) {k : Int} (h0 : -100 ≤ k) (h1 : k ≤ 100) : decide (43 ∈ (spot z k).cps.toList) = decide (0 < k) := by
  have hn := hz.no (c := 43) (by decide)
  refine decide_eq_decide.mpr ⟨fun hm => ?_, fun h => ?_⟩
  · have hm' : 43 ∈ TL.tl (spot z k) := hm
    rcases Int.lt_trichotomy k 0 with h | h | h
    · rw [spot_neg h h0, TL.tl_append, TL.tl_append] at hm'
      rcases List.mem_append.mp hm' with x | x
      · rcases List.mem_append.mp x with y | y
        · exact absurd y hn
        · exact absurd y (by decide +kernel)
      · exact absurd x (num_plus (by omega) (by omega))
    · rw [h, spot_zero] at hm'
      exact absurd hm' hn
    · exact h
  · show 43 ∈ TL.tl (spot z k)
    rw [spot_pos h, TL.tl_append, TL.tl_append]
    exact List.mem_append_left _ (List.mem_append_right _ (by decide +kernel))
theorem spot_parts {z : Str} (hz : NameOk z) {k : Int} (h0 : -100 ≤ k) (h1 : k ≤ 100) : Txt.partition (spot z k) (sgn k) = (z, (if k = 0 then ("" : Str) else sgn k), (if k = 0 then ("" : Str) else num (ab k))) := by
  unfold sgn ab
  rcases Int.lt_trichotomy k 0 with h | h | h
  · rw [if_neg (by omega), if_neg (by omega), if_neg (by omega), if_pos h, spot_neg h h0]
    exact TL.partition_app (s := 45) (S := []) rfl (hz.no (by decide))
  · subst h
    rw [if_neg (by decide), if_pos rfl, if_pos rfl, spot_zero]
    exact TL.partition_none (s := 45) (S := []) rfl (hz.no (by decide))
  · rw [if_pos h, if_neg (by omega), if_neg (by omega), if_neg (by omega), spot_pos h]
    exact TL.partition_app (s := 43) (S := []) rfl (hz.no (by decide))
/-! the greatest -/
theorem mxl (l : List Int) : ∀ a : Int, a ≤ l.foldl mx a ∧ (∀ y ∈ l, y ≤ l.foldl mx a) ∧ (l.foldl mx a = a ∨ l.foldl mx a ∈ l) := by
  induction l with
  | nil => exact fun a => ⟨Int.le_refl _, by simp, .inl rfl⟩
  | cons x r ih =>
    intro a
    obtain ⟨h1, h2, h3⟩ := ih (mx a x)
    have m1 : a ≤ mx a x ∧ x ≤ mx a x ∧ (mx a x = a ∨ mx a x = x) := by
      unfold mx
      split <;> omega
    rw [List.foldl_cons]
    refine ⟨by omega, fun y hy => ?_, ?_⟩
    · rcases List.mem_cons.mp hy with rfl | h
      · omega
      · exact h2 y h
    · rcases h3 with h | h
      · rcases m1.2.2 with e | e
        · exact .inl (h.trans e)
        · exact .inr (List.mem_cons.mpr (.inl (h.trans e)))
      · exact .inr (List.mem_cons_of_mem _ h)
theorem mx_is {l : List Int} {a m : Int} (hm : m ∈ l) (hle : ∀ y ∈ l, y ≤ m) (ha : ∀ y ∈ l, a ≤ y) : l.foldl mx a = m := by
  obtain ⟨h1, h2, h3⟩ := mxl l a
  have h4 := h2 m hm
  rcases h3 with h | h
  · have := ha m hm
    omega
  · have := hle _ h
    omega
theorem farOf_map (fs : List FD) : farOf fs = (fs.map FD.far).foldl mx 0 := by
  unfold farOf
  rw [List.foldl_map]
theorem modOf_map (fs : List FD) : modOf fs = (fs.map FD.mod).foldl mx 1 := by
  unfold modOf
  rw [List.foldl_map]
theorem far_nn {ps : List Str} {f : FD} (h : f.Ok ps) : 0 ≤ f.far := by
  have a (i : Int) : 0 ≤ ab i := by
    unfold ab
    split <;> omega
  cases f with
  | by_ a m r => exact Int.le_refl _
  | gap a b m r => exact Int.le_refl _
  | apart z k n y e c =>
    obtain ⟨_, _, _, _, m1, _, m2⟩ := h
    have := m1.1
    have := m2.1
    have := a k
    have := a e
    show 0 ≤ ab k + n + ab e + c
    omega
  | dist w z y n => exact a n
theorem mod_pos {ps : List Str} {f : FD} (h : f.Ok ps) : 1 ≤ f.mod := by
  cases f with
  | by_ a m r =>
    obtain ⟨_, hm, _⟩ := h
    show 1 ≤ m
    omega
  | gap a b m r =>
    obtain ⟨_, _, _, hm, _⟩ := h
    show 1 ≤ m
    omega
  | apart z k n y e c => exact Int.le_refl _
  | dist w z y n => exact Int.le_refl _
/-! a fact's text can be taken apart, and tells the fact -/
theorem num_space {i : Int} (h0 : -100 ≤ i) (h1 : i ≤ 100) : 32 ∉ TL.tl (num i) ∧ 10 ∉ TL.tl (num i) :=
  of_decide_eq_true (small_all (p := fun i => decide (32 ∉ TL.tl (num i) ∧ 10 ∉ TL.tl (num i))) (by decide +kernel) h0 h1)
theorem num_int {i : Int} (h0 : -100 ≤ i) (h1 : i ≤ 100) : PySem.intText? (num i) = some i :=
  of_decide_eq_true (small_all (p := fun i => decide (PySem.intText? (num i) = some i)) (by decide +kernel) h0 h1)
theorem num_inj {i j : Int} (h0 : -100 ≤ i) (h1 : i ≤ 100) (g0 : -100 ≤ j) (g1 : j ≤ 100) (e : num i = num j) : i = j := by
  have a := num_int h0 h1
  rw [e, num_int g0 g1] at a
  exact (Option.some.inj a).symm
theorem spot_space {z : Str} (hz : NameOk z) {k : Int} (h0 : -100 ≤ k) (h1 : k ≤ 100) {c : Nat} (hc : c = 32 ∨ c = 10) : c ∉ TL.tl (spot z k) := by
  have hn := hz.no (c := c) (by omega)
  have hk : c ∉ TL.tl (num k) := by
    rcases hc with rfl | rfl
    · exact (num_space h0 h1).1
    · exact (num_space h0 h1).2
  unfold spot
  rw [TL.tl_append, TL.tl_append]
  intro hm
  rcases List.mem_append.mp hm with hm | hm
  · rcases List.mem_append.mp hm with hm | hm
    · exact hn hm
    · split at hm
      · rw [TL.tl_append] at hm
        rcases List.mem_append.mp hm with hm | hm
        · rcases hc with rfl | rfl <;> exact absurd hm (by decide +kernel)
        · exact hk hm
      · cases hm
  · split at hm
    · exact hk hm
    · cases hm
theorem spot_inj {z y : Str} (hz : NameOk z) (hy : NameOk y) {k e : Int} (k0 : -30 ≤ k) (k1 : k ≤ 30) (e0 : -30 ≤ e) (e1 : e ≤ 30) (h : spot z k = spot y e) : z = y ∧ k = e := by
  have a := spot_sign hz (k := k) (by omega) (by omega)
  have b := spot_sign hy (k := e) (by omega) (by omega)
  rw [h, b] at a
  have sg : sgn k = sgn e := by
    unfold sgn
    have := decide_eq_decide.mp a
    by_cases kp : 0 < k
    · rw [if_pos kp, if_pos (this.mpr kp)]
    · rw [if_neg kp, if_neg (fun x => kp (this.mp x))]
  have p1 := spot_parts hz (k := k) (by omega) (by omega)
  have p2 := spot_parts hy (k := e) (by omega) (by omega)
  rw [h, sg, p2] at p1
  have q1 := (Prod.mk.inj p1).1
  have q2 := (Prod.mk.inj (Prod.mk.inj p1).2).1
  have q3 := (Prod.mk.inj (Prod.mk.inj p1).2).2
  refine ⟨q1.symm, ?_⟩
  have sne : ∀ k : Int, sgn k ≠ "" := fun k => by
    unfold sgn
    split <;> decide
  by_cases ke : k = 0
  · by_cases ee : e = 0
    · rw [ke, ee]
    · rw [if_neg ee, if_pos ke] at q2
      exact absurd q2 (sne e)
  · by_cases ee : e = 0
    · rw [if_pos ee, if_neg ke] at q2
      exact absurd q2.symm (fun x => sne e x)
    · rw [if_neg ee, if_neg ke] at q3
      have abk : 0 ≤ ab k ∧ ab k ≤ 30 ∧ (0 < k → ab k = k) ∧ (¬ 0 < k → ab k = -k) := by
        unfold ab
        split <;> omega
      have abe : 0 ≤ ab e ∧ ab e ≤ 30 ∧ (0 < e → ab e = e) ∧ (¬ 0 < e → ab e = -e) := by
        unfold ab
        split <;> omega
      have n := num_inj (by omega) (by omega) (by omega) (by omega) q3
      have d := decide_eq_decide.mp a
      by_cases kp : 0 < k
      · have := abk.2.2.1 kp
        have := abe.2.2.1 (d.mpr kp)
        omega
      · have := abk.2.2.2 kp
        have := abe.2.2.2 (fun x => kp (d.mp x))
        omega
theorem FD.nosp {ps : List Str} (hp : ∀ z ∈ ps, NameOk z) {c : Nat} (hc : c = 32 ∨ c = 10) : ∀ {f : FD}, f.Ok ps → ∀ w ∈ f.words, c ∉ TL.tl w := by
  have lit : ∀ w ∈ (["by", "to", "apart", "from", "upto", "is"] : List Str), c ∉ TL.tl w := by
    rcases hc with rfl | rfl <;> decide +kernel
  have nn : ∀ {i : Int}, -100 ≤ i → i ≤ 100 → c ∉ TL.tl (num i) := fun h0 h1 => by
    rcases hc with rfl | rfl
    · exact (num_space h0 h1).1
    · exact (num_space h0 h1).2
  have nz : ∀ z ∈ ps, c ∉ TL.tl z := fun z hz => (hp z hz).no (by omega)
  intro f ok w hw
  cases f with
  | by_ a m r =>
    obtain ⟨h, g⟩ := ok
    have s := g.small
    simp only [FD.words, List.mem_cons, List.not_mem_nil, or_false] at hw
    rcases hw with rfl | rfl | rfl | rfl
    · exact nz _ h
    · exact lit _ (by decide)
    · exact nn s.1.1 s.1.2
    · exact nn s.2.1 s.2.2
  | gap a b m r =>
    obtain ⟨h, h2, _, g⟩ := ok
    have s := g.small
    simp only [FD.words, List.mem_cons, List.not_mem_nil, or_false] at hw
    rcases hw with rfl | rfl | rfl | rfl | rfl | rfl
    · exact nz _ h
    · exact lit _ (by decide)
    · exact nz _ h2
    · exact lit _ (by decide)
    · exact nn s.1.1 s.1.2
    · exact nn s.2.1 s.2.2
  | apart a k n b e c2 =>
    obtain ⟨h, h2, _, o1, m1, o2, m2⟩ := ok
    obtain ⟨o11, o12⟩ := o1
    obtain ⟨m11, m12⟩ := m1
    obtain ⟨o21, o22⟩ := o2
    obtain ⟨m21, m22⟩ := m2
    simp only [FD.words, List.mem_cons, List.not_mem_nil, or_false] at hw
    rcases hw with rfl | rfl | rfl | rfl | rfl
    · exact lit _ (by decide)
    · exact spot_space (hp _ h) (by omega) (by omega) hc
    · exact nn (by omega) (by omega)
    · exact spot_space (hp _ h2) (by omega) (by omega) hc
    · exact nn (by omega) (by omega)
  | dist v a b n =>
    obtain ⟨hv, h, h2, _, n0, n1⟩ := ok
    simp only [FD.words, List.mem_cons, List.not_mem_nil, or_false] at hw
    rcases hw with rfl | rfl | rfl | rfl | rfl
    · exact nz _ h
    · exact lit _ (by decide)
    · exact nz _ h2
    · simp only [Sorts, List.mem_cons, List.not_mem_nil, or_false] at hv
      rcases hv with rfl | rfl | rfl <;> exact lit _ (by decide)
    · exact nn (by omega) (by omega)
theorem FD.split {ps : List Str} (hp : ∀ z ∈ ps, NameOk z) {f : FD} (ok : f.Ok ps) : Txt.split f.text " " = f.words :=
  TL.split_join (s := 32) (S := []) rfl (by decide +kernel) (by cases f <;> exact fun e => by cases e) (FD.nosp hp (.inl rfl) ok)
theorem FD.words_inj {ps : List Str} (hp : ∀ z ∈ ps, NameOk z) {f g : FD} (okf : f.Ok ps) (okg : g.Ok ps) (e : f.words = g.words) : f = g := by
  have noap : ∀ z ∈ ps, z ≠ "apart" := fun z hz x => (hp z hz).free (x ▸ by decide +kernel)
  cases f with
  | by_ a m r =>
    cases g with
    | by_ a2 m2 r2 =>
      obtain ⟨_, h1⟩ := okf
      obtain ⟨_, h2⟩ := okg
      have s1 := h1.small
      have s2 := h2.small
      simp only [FD.words, List.cons.injEq, and_true, true_and] at e
      obtain ⟨e1, e2, e3⟩ := e
      rw [e1, num_inj s1.1.1 s1.1.2 s2.1.1 s2.1.2 e2, num_inj s1.2.1 s1.2.2 s2.2.1 s2.2.2 e3]
    | gap => simp [FD.words] at e
    | apart => simp [FD.words] at e
    | dist => simp [FD.words] at e
  | gap a b m r =>
    cases g with
    | gap a2 b2 m2 r2 =>
      obtain ⟨_, _, _, h1⟩ := okf
      obtain ⟨_, _, _, h2⟩ := okg
      have s1 := h1.small
      have s2 := h2.small
      simp only [FD.words, List.cons.injEq, and_true, true_and] at e
      obtain ⟨e0, e1, e2, e3⟩ := e
      rw [e0, e1, num_inj s1.1.1 s1.1.2 s2.1.1 s2.1.2 e2, num_inj s1.2.1 s1.2.2 s2.2.1 s2.2.2 e3]
    | by_ => simp [FD.words] at e
    | apart => simp [FD.words] at e
    | dist => simp [FD.words] at e
  | apart a k n b j c =>
    cases g with
    | apart a2 k2 n2 b2 j2 c2 =>
      obtain ⟨h1, h2, _, ⟨o1, o2⟩, ⟨o3, o4⟩, ⟨o5, o6⟩, ⟨o7, o8⟩⟩ := okf
      obtain ⟨g1, g2, _, ⟨p1, p2⟩, ⟨p3, p4⟩, ⟨p5, p6⟩, ⟨p7, p8⟩⟩ := okg
      simp only [FD.words, List.cons.injEq, and_true, true_and] at e
      obtain ⟨e0, e1, e2, e3⟩ := e
      obtain ⟨x1, x2⟩ := spot_inj (hp _ h1) (hp _ g1) o1 o2 p1 p2 e0
      obtain ⟨x3, x4⟩ := spot_inj (hp _ h2) (hp _ g2) o5 o6 p5 p6 e2
      rw [x1, x2, x3, x4, num_inj (by omega) (by omega) (by omega) (by omega) e1, num_inj (by omega) (by omega) (by omega) (by omega) e3]
    | by_ => simp [FD.words] at e
    | gap => simp [FD.words] at e
    | dist v a2 b2 n2 =>
      simp only [FD.words, List.cons.injEq] at e
      exact absurd e.1.symm (noap _ okg.2.1)
  | dist v a b n =>
    cases g with
    | dist v2 a2 b2 n2 =>
      obtain ⟨_, _, _, _, n0, n1⟩ := okf
      obtain ⟨_, _, _, _, m0, m1⟩ := okg
      simp only [FD.words, List.cons.injEq, and_true, true_and] at e
      obtain ⟨e0, e1, e2, e3⟩ := e
      rw [e0, e1, e2, num_inj (by omega) (by omega) (by omega) (by omega) e3]
    | by_ => simp [FD.words] at e
    | gap => simp [FD.words] at e
    | apart a2 k2 n2 b2 j2 c2 =>
      simp only [FD.words, List.cons.injEq] at e
      exact absurd e.1 (noap _ okf.2.1)
theorem FD.text_inj {ps : List Str} (hp : ∀ z ∈ ps, NameOk z) {f g : FD} (okf : f.Ok ps) (okg : g.Ok ps) (e : f.text = g.text) : f = g := by
  refine FD.words_inj hp okf okg ?_
  rw [← FD.split hp okf, ← FD.split hp okg, e]
theorem joinL_mem {S : List Nat} {c : Nat} : ∀ {ps : List (List Nat)}, c ∈ TL.joinL S ps → c ∈ S ∨ ∃ p ∈ ps, c ∈ p
  | [], h => by cases h
  | [p], h => .inr ⟨p, List.mem_cons_self, by simpa [TL.joinL] using h⟩
  | p :: q :: r, h => by
    have e : TL.joinL S (p :: q :: r) = p ++ (S ++ TL.joinL S (q :: r)) := by
      first | rfl | simp [TL.joinL]
    rw [e] at h
    rcases List.mem_append.mp h with x | x
    · exact .inr ⟨p, List.mem_cons_self, x⟩
    · rcases List.mem_append.mp x with y | y
      · exact .inl y
      · rcases joinL_mem y with z | ⟨w, hw, hc⟩
        · exact .inl z
        · exact .inr ⟨w, List.mem_cons_of_mem _ hw, hc⟩
theorem FD.line_ok {ps : List Str} (hp : ∀ z ∈ ps, NameOk z) {f : FD} (ok : f.Ok ps) : 1 ≤ f.text.length ∧ 10 ∉ TL.tl f.text := by
  refine ⟨?_, fun hm => ?_⟩
  · unfold FD.text
    rw [TL.join_eq, TL.len_tl, TL.tl_join]
    have two : ∃ p q r, f.words = p :: q :: r := by cases f <;> exact ⟨_, _, _, rfl⟩
    obtain ⟨p, q, r, e⟩ := two
    rw [e]
    have e2 : TL.joinL (TL.tl " ") ((p :: q :: r).map TL.tl) = TL.tl p ++ (TL.tl " " ++ TL.joinL (TL.tl " ") ((q :: r).map TL.tl)) := by
      first | rfl | simp [TL.joinL]
    rw [e2, List.length_append, List.length_append]
    have : (TL.tl " ").length = 1 := rfl
    omega
  · unfold FD.text at hm
    rw [TL.join_eq, TL.tl_join] at hm
    rcases joinL_mem hm with h | ⟨p, h, hc⟩
    · exact absurd h (by decide +kernel)
    · obtain ⟨w, hw, rfl⟩ := List.mem_map.mp h
      exact FD.nosp hp (.inr rfl) ok w hw hc
end CF
end
section
set_option Elab.async false
set_option linter.all false
set_option maxRecDepth 100000
set_option maxHeartbeats 4000000
namespace CF
open PySem PySem.Spec PyProof.Rows L2
/-! numbers of up to three digits -/
theorem small_all3 {p : Int → Bool} (h : ((List.range 401).all fun n => p ((n : Int) - 100)) = true) {i : Int} (h0 : -100 ≤ i) (h1 : i ≤ 300) : p i = true := by
  have z := List.all_eq_true.mp h (i + 100).toNat (List.mem_range.mpr (by omega))
  have e : (((i + 100).toNat : Nat) : Int) - 100 = i := by omega
  rw [e] at z
  exact z
theorem num_len3 {i : Int} (h0 : -100 ≤ i) (h1 : i ≤ 300) : (num i).length ≤ 4 :=
  of_decide_eq_true (small_all3 (p := fun i => decide ((num i).length ≤ 4)) (by decide +kernel) h0 h1)
theorem log_small3 {i : Int} (h0 : -100 ≤ i) (h1 : i ≤ 300) : i.natAbs.log2 < 1920 :=
  of_decide_eq_true (small_all3 (p := fun i => decide (i.natAbs.log2 < 1920)) (by decide +kernel) h0 h1)
theorem num_space3 {i : Int} (h0 : -100 ≤ i) (h1 : i ≤ 300) : 32 ∉ TL.tl (num i) ∧ 10 ∉ TL.tl (num i) :=
  of_decide_eq_true (small_all3 (p := fun i => decide (32 ∉ TL.tl (num i) ∧ 10 ∉ TL.tl (num i))) (by decide +kernel) h0 h1)
theorem num_int3 {i : Int} (h0 : -100 ≤ i) (h1 : i ≤ 300) : PySem.intText? (num i) = some i :=
  of_decide_eq_true (small_all3 (p := fun i => decide (PySem.intText? (num i) = some i)) (by decide +kernel) h0 h1)
theorem num_inj3 {i j : Int} (h0 : -100 ≤ i) (h1 : i ≤ 300) (g0 : -100 ≤ j) (g1 : j ≤ 300) (e : num i = num j) : i = j := by
  have a := num_int3 h0 h1
  rw [e, num_int3 g0 g1] at a
  exact (Option.some.inj a).symm
end CF
end
section
set_option Elab.async false
set_option linter.all false
set_option maxRecDepth 100000
set_option maxHeartbeats 4000000
namespace PL
open PySem PySem.Spec PyProof.Rows L2
/-! the lines of programs -/
def ranges : List (Str × Int × Int) := [("wide", 1, 8), ("many", 1, 16), ("index", 0, 15), ("cell", 0, 255), ("jump", -30, 30), ("laps", 1, 5), ("chunk", 1, 8)]
def forms : List (Str × Str) := [("input", "name wide"), ("load", "name chunk spot"), ("store", "name spot"), ("join", "name name name"), ("part", "name name index many"), ("each", "name name"), ("copy", "many from spot to spot"),
  ("up", "many from spot to spot"), ("down", "many from spot to spot"), ("fill", "many name spot"), ("step", "pointer jump"), ("times", "laps"), ("else", ""), ("end", "")]
def useds : List (Str × Int × Int) := [("store", 0, 1), ("each", 1, 2), ("fill", 1, 2), ("give", 0, 4), ("join", 1, 3), ("part", 1, 2)]
def Opening : List Str := ["when", "times"]
def Setting : List Str := ["input", "load", "set", "join", "part"]
def Copying : List Str := ["copy", "up", "down"]
def Fixed : List Str := ["from", "to"]
/-- a word behind the first one -/
inductive Wd
  | name (z : Str)
  | spot (z : Str) (k : Int)
  | ptr (z : Str)
  | fix (z : Str)
  | num (kd : Str) (n : Int)
namespace Wd
def kind : Wd → Str
  | name _ => "name"
  | spot _ _ => "spot"
  | ptr _ => "pointer"
  | fix z => z
  | num kd _ => kd
def text : Wd → Str
  | name z => z
  | spot z k => CF.spot z k
  | ptr z => z
  | fix z => z
  | num _ n => CF.num n
def Ok (ps : List Str) : Wd → Prop
  | name z => CF.NameOk z
  | spot z k => z ∈ ps ∧ -30 ≤ k ∧ k ≤ 30
  | ptr z => z ∈ ps
  | fix z => z ∈ Fixed
  | num kd n => -100 ≤ n ∧ n ≤ 300 ∧ (∃ lo hi, (kd, lo, hi) ∈ ranges ∧ lo ≤ n ∧ n ≤ hi) ∧ (kd = "chunk" → n = 1 ∨ n = 2 ∨ n = 4 ∨ n = 8)
end Wd
/-- what such a word tells -/
def Val (H : Hp) (ps : List Str) : Wd → V → Prop
  | .name z, v => v = .str z
  | .spot z k, v => ∃ (r : Addr) (i : Nat), v = .ref r ∧ ps[i]? = some z ∧ H r = some (.tup [.int (i : Nat), .int k])
  | .ptr z, v => ∃ i : Nat, ps[i]? = some z ∧ v = .int (i : Nat)
  | .fix z, v => v = .str z
  | .num _ n, v => v = .int n
theorem Val.same {H H' : Hp} {ps : List Str} {d : Wd} {v : V} (h : Val H ps d v) (s : Same H H') : Val H' ps d v := by
  cases d with
  | spot z k => obtain ⟨r, i, a, b, c⟩ := h; exact ⟨r, i, a, b, s _ _ c⟩
  | _ => exact h
theorem Val.not_none {H : Hp} {ps : List Str} {d : Wd} {v : V} (h : Val H ps d v) : v ≠ .non := by
  cases d with
  | spot z k => obtain ⟨r, i, a, b, c⟩ := h; rw [a]; exact fun z => by cases z
  | ptr z => obtain ⟨i, a, b⟩ := h; rw [b]; exact fun z => by cases z
  | name z => rw [show v = .str z from h]; exact fun z => by cases z
  | fix z => rw [show v = .str z from h]; exact fun z => by cases z
  | num k n => rw [show v = .int n from h]; exact fun z => by cases z
/-- the kinds behind a first word -/
inductive Kinds : Str → List Str → Prop
  | form {w f : Str} (h : (w, f) ∈ forms) : Kinds w (Txt.words f)
  | set (n : Nat) (h1 : 1 ≤ n) (h2 : n ≤ 8) : Kinds "set" ("name" :: List.replicate n "cell")
  | give (n : Nat) (h1 : 1 ≤ n) (h2 : n ≤ 4) : Kinds "give" (List.replicate n "name")
/-- a line that is neither when nor call -/
structure Ln where
  w : Str
  ds : List Wd
namespace Ln
def words (l : Ln) : List Str := l.w :: l.ds.map Wd.text
def text (l : Ln) : Str := Txt.join " " l.words
structure Ok (ps : List Str) (l : Ln) : Prop where
  kinds : Kinds l.w (l.ds.map Wd.kind)
  ds : ∀ d ∈ l.ds, d.Ok ps
/-- the words that are told -/
def told (l : Ln) : List Wd := l.ds.filter fun d => match d with | .fix _ => false | _ => true
end Ln
/-- what a line is read as: the word and the tuple of what is told -/
structure RowAt (H : Hp) (ps : List Str) (l : Ln) (r : Addr) : Prop where
  ex : ∃ (t : Addr) (vs : List V), H r = some (.tup [.str l.w, .ref t]) ∧ H t = some (.tup vs) ∧ Paired (Val H ps) l.told vs
theorem paired_same {H H' : Hp} {ps : List Str} (s : Same H H') : ∀ {ds : List Wd} {vs : List V}, Paired (Val H ps) ds vs → Paired (Val H' ps) ds vs
  | _, _, .nil => .nil
  | _, _, .cons r t => .cons (Val.same r s) (paired_same s t)
theorem RowAt.same {H H' : Hp} {ps : List Str} {l : Ln} {r : Addr} (h : RowAt H ps l r) (s : Same H H') : RowAt H' ps l r := by
  obtain ⟨t, vs, a, b, c⟩ := h.ex
  exact ⟨t, vs, s _ _ a, s _ _ b, paired_same s c⟩
/-- what the program's own names are -/
structure TxtQ (K : PySem.W.Frag) (w : World) (mg : Str → Option Value) : Prop where
  f_zip : mg "zip" = none
  f_any : mg "any" = none
  f_all : mg "all" = none
  f_min : mg "min" = none
  f_max : mg "max" = none
  f_len : mg "len" = none
  f_range : mg "range" = none
  f_tuple : mg "tuple" = none
  f_list : mg "list" = none
  f_enumerate : mg "enumerate" = none
  c_MOST_SET : ∃ t, mg "MOST_SET" = some (.int 8 t)
  c_MOST_GIVEN : ∃ t, mg "MOST_GIVEN" = some (.int 4 t)
  c_MOST_LINES : ∃ t, mg "MOST_LINES" = some (.int 40 t)
  c_MOST_OPEN : ∃ t, mg "MOST_OPEN" = some (.int 5 t)
  c_WIDEST : ∃ t, mg "WIDEST" = some (.int 16 t)
  c_MOST_TIMES : ∃ t, mg "MOST_TIMES" = some (.int 5 t)
  g_RANGES : mg "RANGES" = some (.ref (He.ga K "RANGES"))
  d_RANGES : ∃ es n, KDict K w (He.ga K "RANGES") es n
  v_RANGES : ∀ kd lo hi, (kd, lo, hi) ∈ ranges → ∃ t, PySem.W.nsIn K (He.ga K "RANGES") kd = some (some (.ref t)) ∧ ∀ H : Hp, SqT K H t [.int lo, .int hi]
  g_FORMS : mg "FORMS" = some (.ref (He.ga K "FORMS"))
  d_FORMS : ∃ es n, KDict K w (He.ga K "FORMS") es n
  v_FORMS : ∀ x f, (x, f) ∈ forms → ∃ t, PySem.W.nsIn K (He.ga K "FORMS") x = some (some (.str f t))
  g_USED : mg "USED" = some (.ref (He.ga K "USED"))
  d_USED : ∃ es n, KDict K w (He.ga K "USED") es n
  v_USED : ∀ x lo hi, (x, lo, hi) ∈ useds → ∃ t, PySem.W.nsIn K (He.ga K "USED") x = some (some (.ref t)) ∧ ∀ H : Hp, SqT K H t [.int lo, .int hi]
  n_USED : ∀ x ∈ (["input", "load", "set", "copy", "up", "down", "step"] : List Str), PySem.W.nsIn K (He.ga K "USED") x = some none
  g_OPENING : mg "OPENING" = some (.ref (He.ga K "OPENING"))
  t_OPENING : ∀ H : Hp, SqT K H (He.ga K "OPENING") (Opening.map V.str)
  g_SETTING : mg "SETTING" = some (.ref (He.ga K "SETTING"))
  t_SETTING : ∀ H : Hp, SqT K H (He.ga K "SETTING") (Setting.map V.str)
  g_COPYING : mg "COPYING" = some (.ref (He.ga K "COPYING"))
  t_COPYING : ∀ H : Hp, SqT K H (He.ga K "COPYING") (Copying.map V.str)
  g_FIXED : mg "FIXED" = some (.ref (He.ga K "FIXED"))
  t_FIXED : ∀ H : Hp, SqT K H (He.ga K "FIXED") (Fixed.map V.str)
  g_CHUNKS : mg "CHUNKS" = some (.ref (He.ga K "CHUNKS"))
  t_CHUNKS : ∀ H : Hp, SqT K H (He.ga K "CHUNKS") [.int 1, .int 2, .int 4, .int 8]
theorem pe_never {X : Cx} {e : Expr} : PE X e (fun _ _ _ => False) := ⟨fun _ _ _ _ _ _ h => h.elim⟩
theorem kdct {K : PySem.W.Frag} {w : World} {d : Addr} {x : Str} {u : Value} {v : V} (h : ∃ es n, KDict K w d es n) (e : PySem.W.nsIn K d x = some (some u)) (r : RelV v u) : KDct K w d x v := by
  obtain ⟨es, n, D⟩ := h
  exact ⟨es, n, u, D.at_, D.lit, e, r⟩
end PL
namespace PL
open PySem PySem.Spec PyProof.Rows L2
/-- whether a line may stand behind another one in open blocks (no else among them) -/
def stand (word before : Str) (around : List Str) : Bool :=
  if before = "give" then false else if word = "input" then decide (before = "input") else if word = "give" then around.isEmpty else if word = "end" then !around.isEmpty else !decide (word ∈ Opening) || decide (around.length < 5)
def push (word : Str) (around : List Str) : List Str := if word ∈ Opening then around ++ [word] else if word = "end" then around.dropLast else around
def placed : List Str → Str → List Str → Option (List Str)
  | [], _, ar => some ar
  | w :: ws, b, ar => if stand w b ar = true then placed ws w (push w ar) else none
def lastW : Str → List Str → Str
  | b, [] => b
  | _, w :: ws => lastW w ws
theorem lastW_snoc {w : Str} : ∀ (b : Str) (ws : List Str), lastW b (ws ++ [w]) = w
  | _, [] => rfl
  | _, x :: ws => lastW_snoc x ws
theorem placed_append {ys : List Str} : ∀ (xs : List Str) (b : Str) (ar : List Str), placed (xs ++ ys) b ar = (placed xs b ar).bind fun ar' => placed ys (lastW b xs) ar'
  | [], _, _ => rfl
  | x :: xs, b, ar => by
    show (if stand x b ar = true then placed (xs ++ ys) x (push x ar) else none) = ((if stand x b ar = true then placed xs x (push x ar) else none)).bind _
    by_cases h : stand x b ar = true
    · rw [if_pos h, if_pos h, placed_append xs]
      rfl
    · rw [if_neg h, if_neg h]
      rfl
theorem placed_at {ws : List Str} {b : Str} {ar z : List Str} (h : placed ws b ar = some z) {i : Nat} {w : Str} (hw : ws[i]? = some w) :
    ∃ ar', placed (ws.take i) b ar = some ar' ∧ stand w (lastW b (ws.take i)) ar' = true ∧ placed (ws.take (i + 1)) b ar = some (push w ar') := by
  have e : ws = ws.take i ++ w :: ws.drop (i + 1) := by
    have h1 := (List.take_append_drop i ws).symm
    have h2 : ws.drop i = w :: ws.drop (i + 1) := by
      have hi := (List.getElem?_eq_some_iff.mp hw)
      obtain ⟨hi, e⟩ := hi
      rw [List.drop_eq_getElem_cons hi, e]
    rw [h2] at h1
    exact h1
  rw [e, placed_append] at h
  cases q : placed (ws.take i) b ar with
  | none => rw [q] at h; cases h
  | some ar' =>
    rw [q] at h
    have h3 : (if stand w (lastW b (ws.take i)) ar' = true then placed (ws.drop (i + 1)) w (push w ar') else none) = some z := h
    by_cases hs : stand w (lastW b (ws.take i)) ar' = true
    · refine ⟨ar', rfl, hs, ?_⟩
      have e2 : ws.take (i + 1) = ws.take i ++ [w] := by rw [List.take_add_one, hw]; rfl
      rw [e2, placed_append, q]
      show (if stand w (lastW b (ws.take i)) ar' = true then placed [] w (push w ar') else none) = _
      rw [if_pos hs]
      rfl
    · rw [if_neg hs] at h3
      cases h3
theorem push_len (w : Str) (ar : List Str) : (push w ar).length ≤ ar.length + 1 := by
  unfold push
  split
  · rw [List.length_append, List.length_singleton]; omega
  · split
    · rw [List.length_dropLast]; omega
    · omega
theorem placed_len : ∀ {ws : List Str} {b : Str} {ar z : List Str}, placed ws b ar = some z → z.length ≤ ar.length + ws.length
  | [], _, _, _, h => by
    cases h
    exact Nat.le_refl _
  | w :: ws, b, ar, z, h => by
    have h3 : (if stand w b ar = true then placed ws w (push w ar) else none) = some z := h
    by_cases hs : stand w b ar = true
    · rw [if_pos hs] at h3
      have := placed_len h3
      have := push_len w ar
      rw [List.length_cons]
      omega
    · rw [if_neg hs] at h3
      cases h3
end PL
end
section
set_option Elab.async false
set_option linter.all false
set_option maxRecDepth 100000
set_option maxHeartbeats 4000000
namespace K19
open PySem.W (ke_shaped_ints)
open PySem PySem.Spec PyProof.Rows L2
def topS (i : Nat) : Stmt := PySem.Challenge.pw_partlymet_k19_whole_smears.main.body.getD i (.Pass ⟨0, 0, 0, 0⟩)
structure Txt (mg : Str → Option Value) : Prop where
  f_int : mg "int" = none
  f_len : mg "len" = none
  f_abs : mg "abs" = none
  f_list : mg "list" = none
  f_range : mg "range" = none
  f_tuple : mg "tuple" = none
  f_isinstance : mg "isinstance" = none
  f_str : mg "str" = none
  f_bool : mg "bool" = none
  f_max : mg "max" = none
  f_sum : mg "sum" = none
section
variable {P : Program} {w : World} {K : PySem.W.Frag} {mg : Str → Option Value} {base : Heap}
abbrev s_draw : Stmt := topS 114
theorem sc_draw : FnScope ["pen", "span", "digit", "turn", "cell", "mixed"] ["pen", "span"] (defScope s_draw) := ⟨rfl, rfl, rfl, by decide +kernel, rfl, by decide +kernel, by decide +kernel⟩

theorem pen_left (l : Addr) (t lf x : Int) : putK (penV l t lf) (Sum.inr "left" : Key) (.int x) = penV l t x := rfl
theorem pen_turn (l : Addr) (t lf x : Int) : putK (penV l t lf) (Sum.inr "turn" : Key) (.int x) = penV l x lf := rfl
theorem pen_size (l : Addr) (t lf : Int) : (penV l t lf).length < sizeLine := by
  show 3 < sizeLine
  decide
theorem mod_of {a b : Int} (h : 0 < b) : 0 ≤ a % b ∧ a % b < b := ⟨Int.emod_nonneg _ (by omega), Int.emod_lt_of_pos _ h⟩
theorem div_of {a b : Int} (h : 0 < b) (ha : 0 ≤ a) : 0 ≤ a / b := Int.ediv_nonneg ha (by omega)
theorem wide_span {i j : Int} (h : 0 < j) (hb : j.natAbs < 2 ^ 250) : CDivW i j := wide_div h hb (by decide) (by decide)
theorem dps_ints (K : PySem.W.Frag) (H : Hp) : ∀ ns : List Int, DpAll K H (ns.map V.int) (ns.map PyData.int)
  | [] => .nil
  | i :: r => .cons (.int i) (dps_ints K H r)
theorem at_ints {ns : List Int} {i : Int} (h : 0 ≤ i ∧ i < ((ns.map V.int).length : Int)) : ∃ c, atI (ns.map V.int) i = some (V.int c) := by
  have hj : i.toNat < ns.length := by
    have := h.2
    rw [List.length_map] at this
    omega
  exact ⟨ns[i.toNat], at_of (j := i.toNat) (by omega) (by rw [List.getElem?_map, List.getElem?_eq_getElem hj]; rfl)⟩
theorem ten18 : CPow 10 18 := ⟨by decide, by decide, by decide⟩
theorem abs_nn (i : Int) : 0 ≤ (if i < 0 then -i else i) := by split <;> omega
local macro_rules | `(tactic| walk_at "go") => `(tactic| first | refine ⟨_, rfl, ?_⟩ | refine .inl ⟨_, rfl, ?_⟩ | refine ⟨_, _, rfl, rfl, (by first | (show (0 : Int) < _; decide) | exact Or.inl ⟨by decide, by decide⟩ | exact Or.inr ⟨by decide, by decide⟩), ?_⟩ | refine ⟨_, _, rfl, rfl, ?_⟩)
theorem ok_draw (T : Txt mg) (D : Def K mg "_law_draw" s_draw) : Cal P w K mg base 1 "_law_draw" ["pen", "span"] spDraw := by
  refine D.cal sc_draw (fun vs H Q E h => ?_) (fun _ _ _ _ _ _ us hl => match us, hl with | [_, _], _ => rfl) (fun f cdv A outer s H vs Q E hr h => ?_)
  · obtain ⟨p, l, t, span, rfl, _⟩ := h
    rfl
  obtain ⟨p, l, t, span, rfl, pen, ht, hs, hz, k⟩ := h
  have hlp := pen.ne
  obtain ⟨⟨ns, lf, hp, hl, hlf⟩, h0⟩ := id pen
  have hu := hu_of hr
  refine ⟨_, (pss_cons (ps_if (pt_cmpR op_gt (pe_dget hu (pv 0) pe_str (fun _ _ => rfl)) pe_int (nomark _)) (pss_cons (ps_set (i := 2) sc_draw.nd rfl (by first | exact Or.inl rfl | exact Or.inr rfl) (pe_op op_mod (pe_callTy call_int1 (by rfl) T.f_int (by decide +kernel) (pa_cons (pe_dget hu (pv 0) pe_str (fun _ _ => rfl)) pa_nil)) (pv 1)))
      (pss_cons (ps_dput hu (pv 0) pe_str (pe_op op_fdivW (pe_dget hu (pv 0) pe_str (fun _ _ => rfl)) (pv 1)) rfl)
      (pss_one (ps_ret (pv 2))))) pss_nil)
      (pss_cons (ps_set (i := 3) sc_draw.nd rfl (by first | exact Or.inl rfl | exact Or.inr rfl) (pe_dget hu (pv 0) pe_str (fun _ _ => rfl)))
      (pss_cons (ps_dput hu (pv 0) pe_str (pe_op op_add (pv 3) pe_int) rfl)
      (pss_cons (ps_set (i := 4) sc_draw.nd rfl (by first | exact Or.inl rfl | exact Or.inr rfl) (pe_op op_add (pe_op op_mul pe_int (pv 3)) pe_int))
      (C8.pss_cut (ps_if (pt_cmpR (op_neD hr.units) (pe_dget hu (pv 0) pe_str (fun _ _ => rfl)) (pe_lst pa_nil) (nomark _)) (pss_one (ps_set (i := 4) sc_draw.nd rfl (by first | exact Or.inl rfl | exact Or.inr rfl) (pe_ix ix_list (pe_dget hu (pv 0) pe_str (fun _ _ => rfl)) (pe_op op_mod (pe_callTy call_int1 (by rfl) T.f_int (by decide +kernel) (pa_cons (pv 3) pa_nil)) (pe_callB call_len (by rfl) T.f_len PySem.boot_len (pa_cons (pe_dget hu (pv 0) pe_str (fun _ _ => rfl)) pa_nil))) (fun _ _ => rfl)))) pss_nil)
      (C8.pss_cut (ps_if (PW.pt (pw_and (pt_cmpR op_lt (pv 3) (pe_callB call_len (by rfl) T.f_len PySem.boot_len (pa_cons (pe_dget hu (pv 0) pe_str (fun _ _ => rfl)) pa_nil)) (nomark _)) (pw_and1 (pt_cmpR op_ge (pe_callB call_abs (by rfl) T.f_abs (by decide +kernel) (pa_cons (pv 4) pa_nil)) (pe_op op_pow pe_int pe_int) (nomark _))))) (pss_cons (ps_dput hu (pv 0) pe_str (pe_op op_fdivW (pe_op op_sub (pe_callB call_abs (by rfl) T.f_abs (by decide +kernel) (pa_cons (pv 4) pa_nil)) (pe_op op_pow pe_int pe_int)) (pv 1)) rfl)
      (pss_one (ps_ret (pe_op op_mod (pe_callTy call_int1 (by rfl) T.f_int (by decide +kernel) (pa_cons (pe_op op_sub (pe_callB call_abs (by rfl) T.f_abs (by decide +kernel) (pa_cons (pv 4) pa_nil)) (pe_op op_pow pe_int pe_int)) pa_nil)) (pv 1))))) pss_nil)
      (pss_cons (ps_set (i := 5) sc_draw.nd rfl (by first | exact Or.inl rfl | exact Or.inr rfl) (pe_op op_mul (pe_op op_mod (pe_callTy call_int1 (by rfl) T.f_int (by decide +kernel) (pa_cons (pv 4) pa_nil)) pe_int) pe_int))
      (pss_cons (ps_set (i := 5) sc_draw.nd rfl (by first | exact Or.inl rfl | exact Or.inr rfl) (pe_op op_mod (pe_callTy call_int1 (by rfl) T.f_int (by decide +kernel) (pa_cons (pe_op op_add (pe_op op_add (pv 5) (pe_op op_mul (pv 3) (pe_op op_add (pe_op op_mul (pv 3) pe_int) pe_int))) pe_int) pa_nil)) pe_int))
      (pss_cons (ps_set (i := 5) sc_draw.nd rfl (by first | exact Or.inl rfl | exact Or.inr rfl) (pe_op op_mod (pe_callTy call_int1 (by rfl) T.f_int (by decide +kernel) (pa_cons (pe_op op_mul (pv 5) (pe_op op_add (pv 5) pe_int)) pa_nil)) pe_int))
      (pss_cons (ps_set (i := 5) sc_draw.nd rfl (by first | exact Or.inl rfl | exact Or.inr rfl) (pe_op op_mod (pe_callTy call_int1 (by rfl) T.f_int (by decide +kernel) (pa_cons (pe_op op_add (pe_op op_add (pe_op op_mul (pv 5) (pv 5)) (pe_op op_mul pe_int (pv 5))) (pe_op op_mul pe_int (pv 3))) pa_nil)) pe_int))
      (pss_one (ps_ret (pe_op op_mod (pe_callTy call_int1 (by rfl) T.f_int (by decide +kernel) (pa_cons (pe_op op_fdivW (pe_op op_mod (pe_callTy call_int1 (by rfl) T.f_int (by decide +kernel) (pa_cons (pe_op op_mul (pv 5) (pe_op op_add (pv 5) pe_int)) pa_nil)) pe_int) pe_int) pa_nil)) (pv 1)))))))))))))), ?_⟩
  -- if pen['left'] > 0
  refine ⟨_, rfl, p, _, rfl, DGet.k (k := Sum.inr "left") hp, _, _, rfl, rfl, _, rfl, ?_⟩
  refine ite2 (fun c => ?_) (fun c => ?_)
  · have c1 : 0 < lf := of_decide_eq_true c
    have hm := mod_of (a := lf) hs
    refine ⟨_, rfl, p, _, rfl, DGet.k (k := Sum.inr "left") hp, .inl ⟨_, rfl, ?_⟩⟩
    refine ⟨_, rfl, _, _, rfl, rfl, hs, ?_⟩
    refine ⟨_, rfl, p, _, rfl, DGet.k (k := Sum.inr "left") hp, _, rfl, _, _, rfl, rfl, wide_span hs hz, _, rfl, p, _, rfl, DPut.k (k := Sum.inr "left") hp (pen_size _ _ _), ?_⟩
    rw [pen_left]
    refine ⟨_, rfl, k _ _ t hm.1 hm.2 ⟨⟨ns, _, upd_same, (upd_ne hlp).trans hl, div_of hs hlf⟩, h0⟩ (Int.le_refl _) (by omega) (But.upd H)⟩
  -- turn = pen['turn']; pen['turn'] = turn + 1; cell = ..
  refine ⟨_, rfl, p, _, rfl, DGet.k (k := Sum.inr "turn") hp, ?_⟩
  refine ⟨_, rfl, _, _, rfl, rfl, _, rfl, p, _, rfl, DPut.k (k := Sum.inr "turn") hp (pen_size _ _ _), ?_⟩
  rw [pen_turn]
  have hp1 : upd H p (.dK (penV l (t + 1) lf)) p = some (.dK (penV l (t + 1) lf)) := upd_same
  have hl1 : upd H p (.dK (penV l (t + 1) lf)) l = some (.lst (ns.map V.int)) := (upd_ne hlp).trans hl
  have b1 : But p H (upd H p (.dK (penV l (t + 1) lf))) := But.upd H
  generalize upd H p (.dK (penV l (t + 1) lf)) = H1 at hp1 hl1 b1 ⊢
  refine ⟨_, rfl, _, _, rfl, rfl, .inl ⟨by decide, by decide⟩, _, _, rfl, rfl, ?_⟩
  -- if pen['cells'] != []
  refine ⟨fun σ' H' => ∃ c : Int, σ' = [some (.ref p), some (.int span), none, some (.int t), some (.int c), none] ∧ H' p = some (.dK (penV l (t + 1) lf)) ∧ H' l = some (.lst (ns.map V.int)) ∧ But p H H', ?_, ?_⟩
  · refine ⟨_, rfl, p, _, rfl, DGet.k (k := Sum.inr "cells") hp1, Nat.zero_le _, fun e he => ?_⟩
    have hp2 := (upd_ne (o := .lst []) (ne_of_none hp1 he)).trans hp1
    have hl2 := (upd_ne (o := .lst []) (ne_of_none hl1 he)).trans hl1
    have b2 : But p H (upd H1 e (.lst [])) := fun c o n z => (Same.new he) c o (b1 c o n z)
    refine ⟨.list (ns.map PyData.int), .list [], .lst (SqL.of hl2) (dps_ints _ _ ns), .lst (SqL.of upd_same) .nil, ke_shaped_ints ns, ke_shaped_ints [], _, rfl, ?_⟩
    generalize upd H1 e (.lst []) = H2 at hp2 hl2 b2 ⊢
    refine ite2 (fun c1 => ?_) (fun c1 => ?_)
    · have hne : ns ≠ [] := by
        rintro rfl
        cases c1
      have hpos : (0 : Int) < ((ns.map V.int).length : Int) := by
        rw [List.length_map]
        have := List.length_pos_iff.mpr hne
        omega
      refine ⟨_, rfl, p, _, rfl, DGet.k (k := Sum.inr "cells") hp2, _, rfl, .inl ⟨_, rfl, ?_⟩⟩
      refine ⟨_, rfl, p, _, rfl, DGet.k (k := Sum.inr "cells") hp2, _, _, rfl, .inl ⟨_, SqL.of hl2, rfl⟩, ?_⟩
      refine ⟨_, _, rfl, rfl, hpos, ?_⟩
      obtain ⟨cell, hcell⟩ := at_ints (ns := ns) (i := t % ((ns.map V.int).length : Int)) (mod_of hpos)
      refine ⟨l, _, _, _, rfl, rfl, SqL.of hl2, hcell, ?_⟩
      exact ⟨cell, rfl, hp2, hl2, b2⟩
    · exact ⟨_, rfl, hp2, hl2, b2⟩
  rintro σ' H2 ⟨c, rfl, hp2, hl2, b2⟩
  -- if turn < len(..) and abs(cell) >= 10 ** 18
  refine ⟨fun σ' H' => σ' = [some (.ref p), some (.int span), none, some (.int t), some (.int c), none] ∧ H' p = some (.dK (penV l (t + 1) lf)) ∧ H' l = some (.lst (ns.map V.int)) ∧ But p H H', ?_, ?_⟩
  · refine ⟨_, rfl, _, rfl, p, _, rfl, DGet.k (k := Sum.inr "cells") hp2, _, _, rfl, .inl ⟨_, SqL.of hl2, rfl⟩, _, _, rfl, rfl, _, rfl, ?_⟩
    refine ite2 (fun _ => ?_) (fun _ => ⟨rfl, hp2, hl2, b2⟩)
    refine ⟨_, rfl, _, rfl, _, _, rfl, rfl, ten18, _, _, rfl, rfl, _, rfl, ?_⟩
    refine ite2 (fun big => ?_) (fun _ => ⟨rfl, hp2, hl2, b2⟩)
    have big' := of_decide_eq_true big
    have hd := mod_of (a := (if c < 0 then -c else c) - (10 : Int) ^ (18 : Int).toNat) hs
    refine ⟨_, rfl, _, rfl, _, _, rfl, rfl, ten18, _, _, rfl, rfl, _, rfl, _, _, rfl, rfl, wide_span hs hz, _, rfl, p, _, rfl, DPut.k (k := Sum.inr "left") hp2 (pen_size _ _ _), ?_⟩
    rw [pen_left]
    refine ⟨_, rfl, _, rfl, _, _, rfl, rfl, ten18, _, _, rfl, rfl, .inl ⟨_, rfl, _, rfl, _, _, rfl, rfl, hs, ?_⟩⟩
    exact k _ _ (t + 1) hd.1 hd.2 ⟨⟨ns, _, upd_same, (upd_ne hlp).trans hl2, div_of hs (by have : (10 : Int) ^ (18 : Int).toNat ≤ (if c < 0 then -c else c) := big'; omega)⟩, by omega⟩ (by omega) (by omega) (b2.trans (But.upd H2))
  rintro σ' H3 ⟨rfl, hp3, hl3, b3⟩
  have fin : Pen H3 p l (t + 1) := ⟨⟨ns, lf, hp3, hl3, hlf⟩, by omega⟩
  -- mixed = ..
  repeat walk_at "go"
  refine ⟨.inl ⟨by omega, by omega⟩, ?_⟩
  repeat walk_at "go"
  have m2 := mod_of (a := c % 4294967087 * 48611 + t * (t * 27919 + 10601) + 41) (b := 4294967029) (by decide)
  dsimp only
  generalize (c % 4294967087 * 48611 + t * (t * 27919 + 10601) + 41) % 4294967029 = m at m2 ⊢
  refine ⟨.inl ⟨by omega, by omega⟩, ?_⟩
  repeat walk_at "go"
  have m3 := mod_of (a := m * (m + 75013)) (b := 4294966997) (by decide)
  dsimp only
  generalize m * (m + 75013) % 4294966997 = n at m3 ⊢
  refine ⟨.inl ⟨by omega, by omega⟩, ?_⟩
  repeat walk_at "go"
  have m4 := mod_of (a := n * n + 30427 * n + 19 * t) (b := 4294966981) (by decide)
  dsimp only
  generalize (n * n + 30427 * n + 19 * t) % 4294966981 = o at m4 ⊢
  refine ⟨.inl ⟨by omega, by omega⟩, ?_⟩
  repeat walk_at "go"
  refine ⟨wide_span (by decide) (by decide), ?_⟩
  repeat walk_at "go"
  have m5 := mod_of (a := o * (o + 58111) % 4294966943 / 64) hs
  exact ⟨hs, k _ _ (t + 1) m5.1 m5.2 fin (by omega) (by omega) b3⟩
end
end K19
end
section
set_option Elab.async false
set_option linter.all false
set_option maxRecDepth 100000
set_option maxHeartbeats 4000000
namespace K19
open PySem PySem.Spec PyProof.Rows L2
open PySem.W (ke_shaped_ints)
local macro_rules | `(tactic| walk_at "go") => `(tactic| first | refine ⟨_, rfl, ?_⟩ | refine .inl ⟨_, rfl, ?_⟩ | refine ⟨_, _, rfl, rfl, (by first | (show (0 : Int) < _; decide) | exact Or.inl ⟨by decide, by decide⟩ | exact Or.inr ⟨by decide, by decide⟩), ?_⟩ | refine ⟨_, _, rfl, rfl, ?_⟩)
section
variable {P : Program} {w : World} {K : PySem.W.Frag} {mg : Str → Option Value} {base : Heap}

/-- begun_pen(script) -/
def spBegun (K : PySem.W.Frag) : Sp := fun vs H Q _ => ∃ (a : Addr) (ns : List Int), vs = [.ref a] ∧ SqL K H a (ns.map V.int) ∧ ∀ (p l : Addr) (H' : Hp), H p = none → H l = none → Same H H' → Pen H' p l 0 → Q (.ref p) H'
theorem cut_ints (ns : List Int) (lo hi : Option Int) : ∃ ms : List Int, cutV (ns.map V.int) lo hi = ms.map V.int :=
  ⟨(ns.drop (HT.sIx (ns.map V.int).length 0 lo)).take (HT.sIx (ns.map V.int).length (ns.map V.int).length hi - HT.sIx (ns.map V.int).length 0 lo), by
    unfold cutV
    rw [List.map_take, List.map_drop]⟩
abbrev s_begun_pen : Stmt := topS 113
theorem sc_begun_pen : FnScope ["script"] ["script"] (defScope s_begun_pen) := ⟨rfl, rfl, rfl, by decide +kernel, rfl, by decide +kernel, by decide +kernel⟩
theorem ok_begun_pen (T : Txt mg) (D : Def K mg "_law_begun_pen" s_begun_pen) : Cal P w K mg base 1 "_law_begun_pen" ["script"] (spBegun K) := by
  refine D.cal sc_begun_pen (fun vs H Q E h => ?_) (fun _ _ _ _ _ _ us hl => match us, hl with | [_], _ => rfl) (fun f cdv A outer s H vs Q E hr h => ?_)
  · obtain ⟨a, ns, rfl, _⟩ := h
    rfl

  obtain ⟨a, ns, rfl, hS, k⟩ := h
  refine ⟨_, (pss_one (ps_ret (pe_disp (pps_cons pe_str (pe_callTy call_list_of (by rfl) T.f_list (by decide +kernel) (pa_cons (pe_slice sl_list (pv 0) po_none (po_some pe_int)) pa_nil)) (pps_cons pe_str pe_int (pps_cons pe_str pe_int pps_nil))) (by rfl) (by rfl) (fun z => by cases z) (by decide)))), ?_⟩
  intro p hp
  refine ⟨_, rfl, 63, rfl, a, _, rfl, (Same.new hp).seq hS, fun q hq => ?_⟩
  refine ⟨q, _, rfl, .inl (SqL.of upd_same), fun l hl => ?_⟩
  obtain ⟨ms, hms⟩ := cut_ints ns none (some 63)
  rw [hms]
  have hqp : q ≠ p := fun z => by rw [z, upd_same] at hq; cases hq
  have hlq : l ≠ q := fun z => by rw [z, upd_same] at hl; cases hl
  have hlp : l ≠ p := fun z => by rw [z, upd_ne hqp.symm, upd_same] at hl; cases hl
  have hl0 : H l = none := by rw [upd_ne hlq, upd_ne hlp] at hl; exact hl
  have hq0 : H q = none := by rw [upd_ne hqp] at hq; exact hq
  refine ⟨by rw [upd_ne hlp.symm, upd_ne hqp.symm, upd_same], penV l 0 0, rfl, by show 3 ≤ 15; decide, ?_⟩
  refine k p l _ hp hl0 ((((Same.new hp).put hq0).put hl0).put hp) ⟨⟨ms, 0, upd_same, (upd_ne hlp).trans upd_same, Int.le_refl _⟩, Int.le_refl _⟩



/-- pick(pen, options): one of the options -/
def spPick (K : PySem.W.Frag) : Sp := fun vs H Q _ => ∃ (p l a : Addr) (t : Int) (xs : List V), vs = [.ref p, .ref a] ∧ Pen H p l t ∧ t ≤ 1000000000 ∧ a ≠ p ∧ (SqL K H a xs ∨ SqT K H a xs) ∧ 0 < xs.length ∧ xs.length ≤ 1000000 ∧
  ∀ (j : Nat) (v : V) (H' : Hp) (t' : Int), xs[j]? = some v → Pen H' p l t' → t ≤ t' → t' ≤ t + 1 → But p H H' → Q v H'
theorem small_span {n : Nat} (h : n ≤ 1000000) : ((n : Int)).natAbs < 2 ^ 250 := by
  have e : ((n : Int)).natAbs = n := Int.natAbs_natCast n
  rw [e]
  exact Nat.lt_of_le_of_lt h (by decide)
theorem _root_.L2.But.tup {K : PySem.W.Frag} {p a : Addr} {H H' : Hp} {xs : List V} (s : But p H H') (n : a ≠ p) (h : SqT K H a xs) : SqT K H' a xs := by
  rcases h with (h | ⟨o, h⟩) | h
  · exact .inl (.inl (s _ _ n h))
  · exact .inl (.inr ⟨o, s _ _ n h⟩)
  · exact .inr h
abbrev s_pick : Stmt := topS 115
theorem sc_pick : FnScope ["pen", "options"] ["pen", "options"] (defScope s_pick) := ⟨rfl, rfl, rfl, by decide +kernel, rfl, by decide +kernel, by decide +kernel⟩
theorem ok_pick (T : Txt mg) (D : Def K mg "_law_pick" s_pick) (C__law_draw : Cal P w K mg base 1 "_law_draw" ["pen", "span"] spDraw) : Cal P w K mg base 2 "_law_pick" ["pen", "options"] (spPick K) := by
  refine D.cal sc_pick (fun vs H Q E h => ?_) (fun _ _ _ _ _ _ us hl => match us, hl with | [_, _], _ => rfl) (fun f cdv A outer s H vs Q E hr h => ?_)
  · obtain ⟨p, l, a, t, xs, rfl, _⟩ := h
    rfl

  obtain ⟨p, l, a, t, xs, rfl, pen, ht, hap, hx, h0, hz, k⟩ := h
  refine ⟨_, (pss_one (ps_ret (pe_ix ix_seq (pv 1) (pe_cal C__law_draw (hr.mono (by decide)) rfl (pa_cons (pv 0) (pa_cons (pe_callB call_len (by rfl) T.f_len PySem.boot_len (pa_cons (pv 1) pa_nil)) pa_nil))) (fun _ _ => rfl)))), ?_⟩
  refine ⟨_, rfl, _, rfl, _, rfl, _, xs.length, rfl, ?_, p, l, t, (xs.length : Int), rfl, pen, ht, by omega, small_span hz, fun v H' t' h1 h2 pen' h3 h4 but => ?_⟩
  · rcases hx with h | h
    · exact .inl ⟨xs, h, rfl⟩
    · exact .inr ⟨xs, h, rfl⟩
  have hj : v.toNat < xs.length := by omega
  have hv : xs[v.toNat]? = some (xs[v.toNat]) := List.getElem?_eq_getElem hj
  have hat : atI xs v = some (xs[v.toNat]) := at_of (j := v.toNat) (by omega) hv
  rcases hx with h | h
  · exact .inl ⟨a, xs, v, _, rfl, rfl, but.seq hap h, hat, k _ _ H' t' hv pen' h3 h4 but⟩
  · exact .inr (.inl ⟨a, xs, v, _, rfl, rfl, but.tup hap h, hat, k _ _ H' t' hv pen' h3 h4 but⟩)



/-- far_number(pen) -/
def spFar : Sp := fun vs H Q _ => ∃ (p l : Addr) (t : Int), vs = [.ref p] ∧ Pen H p l t ∧ t ≤ 1000000 ∧ ∀ (v : Int) (H' : Hp) (t' : Int), v.natAbs < 10 ^ 42 → Pen H' p l t' → t ≤ t' → t' ≤ t + 8 → But p H H' → Q (.int v) H'
theorem ten6 : CPow 10 6 := ⟨by decide, by decide, by decide⟩
abbrev s_far_number : Stmt := topS 116
theorem sc_far_number : FnScope ["pen", "found", "k"] ["pen"] (defScope s_far_number) := ⟨rfl, rfl, rfl, by decide +kernel, rfl, by decide +kernel, by decide +kernel⟩
theorem ok_far_number (T : Txt mg) (D : Def K mg "_law_far_number" s_far_number) (C__law_draw : Cal P w K mg base 1 "_law_draw" ["pen", "span"] spDraw) : Cal P w K mg base 2 "_law_far_number" ["pen"] spFar := by
  refine D.cal sc_far_number (fun vs H Q E h => ?_) (fun _ _ _ _ _ _ us hl => match us, hl with | [_], _ => rfl) (fun f cdv A outer s H vs Q E hr h => ?_)
  · obtain ⟨p, l, t, rfl, _⟩ := h
    rfl

  obtain ⟨p, l, t, rfl, pen, ht, k⟩ := h
  refine ⟨_, (pss_cons (ps_set (i := 1) sc_far_number.nd rfl (by first | exact Or.inl rfl | exact Or.inr rfl) pe_int)
      (pss_cons (ps_for PassesOwn.never rfl (pi_range1 rfl T.f_range (pa_cons pe_int pa_nil)) (pg_name (i := 2) sc_far_number.nd rfl (by first | exact Or.inl rfl | exact Or.inr rfl)) (pss_one (ps_set (i := 1) sc_far_number.nd rfl (by first | exact Or.inl rfl | exact Or.inr rfl) (pe_op op_add (pe_op op_mul (pv 1) (pe_op op_pow pe_int pe_int)) (pe_cal C__law_draw (hr.mono (by decide)) rfl (pa_cons (pv 0) (pa_cons (pe_op op_pow pe_int pe_int) pa_nil)))))))
      (pss_one (ps_ret (pe_ifExp (pt_cmpR op_eq (pe_cal C__law_draw (hr.mono (by decide)) rfl (pa_cons (pv 0) (pa_cons pe_int pa_nil))) pe_int (nomark _)) (pe_un un_neg (pv 1)) (pv 1)))))), ?_⟩
  refine ⟨7, rfl, by decide, by decide, for_range (n := 7) (fun i σ H1 => ∃ (z : Int) (v : Option V) (t1 : Int), σ = [some (.ref p), some (.int z), v] ∧ 0 ≤ z ∧ z < 10 ^ (6 * i) ∧ Pen H1 p l t1 ∧ t ≤ t1 ∧ t1 ≤ t + i ∧ But p H H1)
    ⟨0, none, t, rfl, Int.le_refl _, by decide, pen, Int.le_refl _, by omega, But.refl p H⟩ ?_ ?_⟩
  · rintro i σ H1 hi ⟨z, v, t1, rfl, z0, z1, pen1, h1, h2, b1⟩
    refine ⟨_, rfl, _, _, rfl, rfl, ten6, _, _, rfl, rfl, .inr ⟨by decide, by decide⟩, ?_⟩
    refine ⟨_, rfl, _, _, rfl, rfl, ten6, p, l, t1, _, rfl, pen1, by omega, by decide, by decide, fun d H2 t2 d0 d1 pen2 g1 g2 b2 => ?_⟩
    refine ⟨_, _, rfl, rfl, _, _, t2, rfl, ?_, ?_, pen2, by omega, by omega, b1.trans b2⟩
    · have e : (10 : Int) ^ (6 : Int).toNat = 1000000 := by decide
      show 0 ≤ z * (10 : Int) ^ (6 : Int).toNat + d
      rw [e]
      omega
    · have e : (10 : Int) ^ (6 : Int).toNat = 1000000 := by decide
      have e2 : (10 : Int) ^ (6 * (i + 1)) = 10 ^ (6 * i) * 1000000 := by
        rw [Nat.mul_add, Int.pow_add]
        rfl
      have d2 : d < 1000000 := by rw [e] at d1; exact d1
      show z * (10 : Int) ^ (6 : Int).toNat + d < 10 ^ (6 * (i + 1))
      rw [e, e2]
      generalize (10 : Int) ^ (6 * i) = y at z1 ⊢
      omega
  · rintro σ H1 ⟨z, v, t1, rfl, z0, z1, pen1, h1, h2, b1⟩
    have z2 : z < 10 ^ 42 := z1
    refine ⟨_, rfl, p, l, t1, 2, rfl, pen1, by omega, by decide, by decide, fun d H2 t2 d0 d1 pen2 g1 g2 b2 => ?_⟩
    refine ⟨rfl, _, rfl, ?_⟩
    have e : (10 : Int) ^ 42 = ((10 ^ 42 : Nat) : Int) := by decide
    refine ite2 (fun _ => ?_) (fun _ => ?_)
    · refine ⟨_, rfl, _, rfl, k _ H2 t2 ?_ pen2 (by omega) (by omega) (b1.trans b2)⟩
      show (-z).natAbs < _
      rw [e] at z2
      omega
    · refine ⟨_, rfl, k _ H2 t2 ?_ pen2 (by omega) (by omega) (b1.trans b2)⟩
      rw [e] at z2
      omega

end
end K19
end
section
set_option Elab.async false
set_option linter.all false
set_option maxRecDepth 100000
set_option maxHeartbeats 4000000
namespace K19
open PySem PySem.Spec PyProof.Rows L2
open PySem.W (ke_shaped_ints)
local macro_rules | `(tactic| walk_at "go") => `(tactic| first | refine ⟨_, rfl, ?_⟩ | refine .inl ⟨_, rfl, ?_⟩ | refine ⟨_, _, rfl, rfl, (by first | (show (0 : Int) < _; decide) | exact Or.inl ⟨by decide, by decide⟩ | exact Or.inr ⟨by decide, by decide⟩), ?_⟩ | refine ⟨_, _, rfl, rfl, ?_⟩)
section
variable {P : Program} {w : World} {K : PySem.W.Frag} {mg : Str → Option Value} {base : Heap}

/-- barred(): a list of texts -/
def barred : List Str := Txt.split (("input load store set join part each copy up down fill step when else end times give call" : Str) ++ (" to from upto is apart by" : Str)) (" " : Str)
def spBarred : Sp := fun vs H Q _ => vs = [] ∧ ∀ (p : Addr) (H' : Hp), H p = none → Same H H' → H' p = some (.lst (barred.map V.str)) → Q (.ref p) H'
theorem barred_len : (("input load store set join part each copy up down fill step when else end times give call" : Str)).length = 88 := by decide +kernel
theorem barred_len2 : ((" to from upto is apart by" : Str)).length = 25 := by decide +kernel
theorem len_app (x y : Str) : (x ++ y).length = x.length + y.length := strLen_append x y
abbrev s_barred : Stmt := topS 118
theorem sc_barred : FnScope ["words"] [] (defScope s_barred) := ⟨rfl, rfl, rfl, by decide +kernel, rfl, by decide +kernel, by decide +kernel⟩
theorem ok_barred (T : Txt mg) (D : Def K mg "_law_barred" s_barred) : Cal P w K mg base 1 "_law_barred" [] spBarred := by
  refine D.cal sc_barred (fun vs H Q E h => ?_) (fun _ _ _ _ _ _ us hl => match us, hl with | [], _ => rfl) (fun f cdv A outer s H vs Q E hr h => ?_)
  · obtain ⟨rfl, _⟩ := h
    rfl

  obtain ⟨rfl, k⟩ := h
  refine ⟨_, (pss_cons (ps_set (i := 0) sc_barred.nd rfl (by first | exact Or.inl rfl | exact Or.inr rfl) pe_str)
      (pss_one (ps_ret (pe_split (pe_op op_add_str (pv 0) pe_str) pe_str)))), ?_⟩
  refine ⟨_, rfl, _, _, rfl, rfl, ?_, ⟨_, rfl⟩, _, _, rfl, rfl, by decide +kernel, ?_, fun p new => ?_⟩
  · rw [barred_len, barred_len2, sizeLine_eq]
    decide
  · rw [len_app, barred_len, barred_len2, sizeLine_eq]
    decide
  · exact k p _ new (Same.new new) upd_same



theorem flat_strs (ys : List Str) : (ys.map V.str).all flatV = true := by
  rw [List.all_map]
  exact List.all_eq_true.mpr fun _ _ => rfl
theorem dps_strs (K : PySem.W.Frag) (H : Hp) : ∀ ys : List Str, DpAll K H (ys.map V.str) (ys.map PyData.str)
  | [] => .nil
  | y :: r => .cons (.str y) (dps_strs K H r)
/-- a text of small codes -/
def Low (z : Str) : Prop := ∀ c ∈ z.cps.toList, c < 256
theorem low_ok {z : Str} (h : Low z) : PyData.strOk z = true := by
  unfold PyData.strOk
  rw [← Array.all_toList]
  exact List.all_eq_true.mpr fun c hc => decide_eq_true (Nat.lt_trans (h c hc) (by decide))
theorem shaped_strs {ys : List Str} (h : ∀ y ∈ ys, Low y) : SeqAt.shaped (.list (ys.map PyData.str)) = true := by
  have h1 : ∀ ys : List Str, (∀ y ∈ ys, Low y) → PyData.canLayAll0 (ys.map PyData.str) = true ∧ PyData.depthAll (ys.map PyData.str) = 0 := by
    intro ys
    induction ys with
    | nil => intro _; exact ⟨rfl, rfl⟩
    | cons y r ih =>
      intro h
      obtain ⟨a, b⟩ := ih fun z hz => h z (List.mem_cons_of_mem _ hz)
      refine ⟨?_, ?_⟩
      · rw [List.map_cons]
        show (PyData.canLay0 (.str y) && PyData.canLayAll0 (r.map PyData.str)) = true
        rw [a, Bool.and_true]
        exact low_ok (h y List.mem_cons_self)
      · rw [List.map_cons]
        show max (PyData.depth (.str y)) (PyData.depthAll (r.map PyData.str)) = 0
        rw [b]
        rfl
  obtain ⟨a, b⟩ := h1 ys h
  show (PyData.canLayAll0 (ys.map PyData.str) && decide (PyData.depthAll (ys.map PyData.str) + 1 ≤ 64)) = true
  rw [a, b]
  rfl
end
end K19
end
section
set_option Elab.async false
set_option linter.all false
set_option maxRecDepth 100000
set_option maxHeartbeats 4000000
namespace L2
open PySem PySem.Spec PyProof.Rows
theorem meets_enumerate_newT (l : Addr) (items : Array Value) (n : Nat) (dct : Option Addr) (sl : Array (Option Value)) :
    Meets (Builtin.«enumerate.__new__» { pos := [Value.type "enumerate", Value.ref l] }) fun x R s =>
      s.heap.get? l = some { cls := Value.type "tuple", dict := dct, data := Data.seq items n, slots := sl } ∧
      R (Except.ok (Flow.ret (Value.ref (s.heap.push { cls := Value.type "tuple_iterator", data := Data.fields #[Value.ref l, Value.int 0 0] }).objs.size)))
        { heap := (s.heap.push { cls := Value.type "tuple_iterator", data := Data.fields #[Value.ref l, Value.int 0 0] }).push
              { cls := Value.type "enumerate", data := Data.fields #[Value.none, Value.bool false, Value.ref s.heap.objs.size, rawInt 0, Value.none, Value.none] },
          gens := s.gens, drawn := s.drawn, toks := s.toks, os := s.os } := by
  refine Meets.of_wp fun prog w A R s h => ?_
  obtain ⟨hp, g, d, tk, os⟩ := s
  obtain ⟨hl, h⟩ := h
  have hsub := sub_enumerate
  have hT : hp.IsTuple l items := ⟨_, hl, rfl, n, rfl⟩
  unfold Builtin.«enumerate.__new__»
  refine wpAny_bind ?_
  unfold Builtin.SmallTypes.newClass
  refine wpAny_bind ?_
  refine wpAny_pure ?_
  refine wpAny_ite_false rfl ?_
  refine wpAny_bind ?_
  rw [hsub]
  refine wpAny_pure ?_
  refine wpAny_ite_false rfl ?_
  refine wpAny_pure ?_
  refine wpAny_ite_true rfl ?_
  refine wpAny_bind ?_
  unfold Builtin.SmallTypes.calledThroughType
  refine wpAny_bind ?_
  refine wpAny_stack_any fun st => ?_
  refine wpAny_pure ?_
  have fin : wpAny (model prog w) A.in1 (do
              let __do_lift ← pyIter (Value.ref l)
              let __do_lift ← Builtin.SmallTypes.newRecord (Value.type "enumerate") (Builtin.SmallTypes.ownedTupleFields ++ [__do_lift, rawInt 0, Value.none, Value.none])
              ret __do_lift) (fun fin s' => ∃ v, fin = Fin.done (Flow.ret v) ∧ R (Except.ok (Flow.ret v)) s') (fun e s' => R (Except.error e) s') { heap := hp, gens := g, drawn := d, toks := tk, os := os } := by
    refine wpAny_bind (wpAny_pyIter_tuple hT ?_)
    refine wpAny_bind ?_
    unfold Builtin.SmallTypes.newRecord
    refine wpAny_newObj_type ?_ (by show 6 ≤ sizeLine + 2; decide)
    exact wpAny_pure ⟨_, rfl, h⟩
  split
  · generalize (_ == Value.type "enumerate") = short
    cases short
    · refine wpAny_ite_false rfl ?_
      refine wpAny_bind ?_
      show wpAny _ _ (pure (Value.ref l, none)) _ _ _
      exact wpAny_pure fin
    · refine wpAny_ite_true rfl ?_
      refine wpAny_bind ?_
      show wpAny _ _ (pure (Value.ref l, none)) _ _ _
      exact wpAny_pure fin
  · refine wpAny_ite_false rfl ?_
    refine wpAny_bind ?_
    show wpAny _ _ (pure (Value.ref l, none)) _ _ _
    exact wpAny_pure fin
theorem call_enumerate_tuple {prog : Program} {w : World} {A : Around} {E : Value → Shared → Prop} {s : Shared} {l : Addr} {items : Array Value} {Q : Value → Shared → Prop} (hT : s.heap.IsTuple l items)
    (h : ∀ h' : Heap, IsEnum h' (s.heap.objs.size + 1) s.heap.objs.size 0 Value.none → h'.IsTupleIter s.heap.objs.size l 0 → h'.objs.size = s.heap.objs.size + 2 → (∀ (b : Addr) (o : Obj), s.heap.get? b = some o → h'.get? b = some o) →
      Q (Value.ref (s.heap.objs.size + 1)) { heap := h', gens := s.gens, drawn := s.drawn, toks := s.toks, os := s.os }) :
    wpAny (model prog w) A (call (Value.type "enumerate") [Value.ref l]) Q E s := by
  obtain ⟨⟨c, dct, dt, sl⟩, hl, hc, n, hd⟩ := hT
  simp only at hc hd
  subst hc hd
  refine callType_new F.called_enumerate (by decide) (F.typeCall_enumerate_1 (Value.ref l)) (F.newCall_enumerate_1 (Value.ref l)) (fun obj => F.args_object_init_2 obj (Value.ref l)) F.entry_enumerate_new (meets_enumerate_newT l items n dct sl) ⟨hl, ?_⟩
  have hz := Heap.size_push s.heap { cls := Value.type "tuple_iterator", data := Data.fields #[Value.ref l, Value.int 0 0] }
  have he := Heap.get?_push_size (s.heap.push { cls := Value.type "tuple_iterator", data := Data.fields #[Value.ref l, Value.int 0 0] }) (o := { cls := Value.type "enumerate", data := Data.fields #[Value.none, Value.bool false, Value.ref s.heap.objs.size, rawInt 0, Value.none, Value.none] }) rfl
  show _ ∧ Q (Value.ref (s.heap.push _).objs.size) _
  rw [hz] at he ⊢
  refine ⟨⟨_, he, rfl⟩, h _ he ⟨_, Heap.get?_push_of_some _ (Heap.get?_push_size s.heap rfl), rfl, rfl⟩ ?_ fun b o x => Heap.get?_push_of_some _ (Heap.get?_push_of_some _ x)⟩
  rw [Heap.size_push, hz]
theorem draws_tuple {prog : Program} {w : World} {A : Around} (hh : A.handled = none) (it l : Addr) (hne : l ≠ it) (items : Array Value) :
    Draws prog w A it [it, l] items.size (fun i v => items[i]? = some v) fun i h => h.IsTupleIter it l i ∧ h.IsTuple l items where
  live _ _ st := by
    obtain ⟨⟨o, ho, _⟩, _⟩ := st
    exact ⟨o, ho⟩
  frame _ _ _ st hk := ⟨st.1.at fun o e => hk it (by simp) o e, by
    obtain ⟨o, ho, r⟩ := st.2
    exact ⟨o, hk l (by simp) o ho, r⟩⟩
  item i s Q E hi st hQ := RZ.nextOf_tuple_item (x := items[i]) st.1 st.2 (by simp [hi]) fun h' hit' hs' => hQ items[i] h' s.toks (by simp [hi]) ⟨hit', by
    obtain ⟨o, ho, r⟩ := st.2
    exact ⟨o, (hs'.right l hne).trans ho, r⟩⟩ hs'
  done s Q E st hE := RZ.nextOf_tuple_end hh st.1 st.2 (by simp) hE
/-- enumerate of a tuple -/
def IteT (K : PySem.W.Frag) (a : Addr) : It where
  go i H := ∃ xs x, SqT K H a xs ∧ xs[i]? = some x
  yld i H v H' := ∃ (T : Addr) (x : V), v = .ref T ∧ H T = none ∧ H' = upd H T (.tup [.int (i : Nat), x]) ∧ ∀ xs : List V, SqT K H a xs → xs[i]? = some x
  stop i H := ∃ xs, SqT K H a xs ∧ xs.length = i
theorem walk_enumT {K : PySem.W.Frag} {a : Addr} {xs : List V} : Walk (IteT K a) xs.length (fun H => SqT K H a xs) (YPair (fun i => some (.int (i : Nat))) (fun i => xs[i]?)) where
  goes i x hi q := ⟨xs, xs[i], q, by simp [hi]⟩
  stops x q := ⟨xs, q, rfl⟩
  yields i H v H' x q y := by
    obtain ⟨T, z, h1, h2, h3, h4⟩ := y
    exact ⟨T, _, z, h1, h2, h3, rfl, h4 xs q⟩
theorem turn_enumT {P : Program} {w : World} {K : PySem.W.Frag} {elts : List Expr} {kk : Nat} {tpos : Pos} (a e it : Addr) :
    Turn P w K (.Tuple elts kk tpos) (IteT K a) [e, it] e fun i h => (∃ old, IsEnum h e it (i : Nat) old) ∧ h.IsTupleIter it a i ∧ e ≠ it ∧ a ≠ it ∧ a ≠ e where
  mem := by simp
  obj i h st b hb := by
    obtain ⟨⟨old, he⟩, ⟨o, ho, hc, hd⟩, _⟩ := st
    have e' : b = e ∨ b = it := by simpa using hb
    rcases e' with rfl | rfl
    · exact ⟨_, he, fun v q => nomatch q⟩
    · exact ⟨o, ho, fun v q => by rw [hd] at q; cases q⟩
  keep i h h' st k := by
    obtain ⟨⟨old, he⟩, hi, hne⟩ := st
    exact ⟨⟨old, k e (by simp) _ he⟩, hi.at fun o q => k it (by simp) o q, hne⟩
  item X hP hw hK hc i pins s σ H E I hf st hg := by
    subst hP hw hK
    obtain ⟨⟨old, he⟩, hit, hne, hai, hae⟩ := st
    obtain ⟨xs, x, hq, hx⟩ := hg
    obtain ⟨its, rv, p, hz⟩ := I.tuple hq
    obtain ⟨u, hu, ru⟩ := Vals.get rv hx
    have hel := Heap.lt_size he
    have hil : it < s.heap.objs.size := by
      obtain ⟨o, q, _⟩ := hit
      exact Heap.lt_size q
    have hnil : a < s.heap.objs.size := by
      obtain ⟨o, q, _⟩ := p
      exact Heap.lt_size q
    have D : Draws X.prog X.w X.A.in1 it [it, a] its.toArray.size (fun i v => its.toArray[i]? = some v) fun i h => h.IsTupleIter it a i ∧ h.IsTuple a its.toArray := draws_tuple (A := X.A.in1) (I.ok.hd hc) it a hai its.toArray
    have hi : i < its.toArray.size := by
      rw [List.size_toArray]
      exact (List.getElem?_eq_some_iff.mp hu).1
    refine wpAny_pyNext_enum_itemD D he ⟨hit, p⟩ hi hne (by simp; exact ⟨hne, fun z => hae z.symm⟩) fun y h' tk hy ho st' hT hsz hk => ?_
    obtain rfl : y = u := by
      have hy' : its.toArray[i]? = some y := hy
      rw [List.getElem?_toArray, hu] at hy'
      exact (Option.some.inj hy').symm
    refine ⟨_, rfl, wpAny_letOwnedTupleGo_enum ho fun h'' he' sb => ?_⟩
    have hT2 := (sb.right s.heap.objs.size (Nat.ne_of_gt hel)).trans hT
    have I1 := Inv.turnedNew (t' := tk + 1) I (fun b ob hb q => (sb.right b fun z => hb (by rw [z]; simp)).trans (hk b ob (fun z => hb (by rw [z]; simp)) (fun z => hb (by rw [z]; simp)) q)) hf (Nat.le_refl s.heap.objs.size) (h' := h'') (ob := .tup [.int (i : Nat), x]) ⟨by show 2 ≤ sizeLine; decide, [Value.int (i : Nat) tk, y], .cons ⟨tk, rfl⟩ (.cons ru .nil), _, hT2, rfl, 0, rfl⟩
    refine ⟨.ref s.heap.objs.size, upd H s.heap.objs.size (.tup [.int (i : Nat), x]), I1, rfl, ⟨_, x, rfl, HOk.fresh I.hok (Nat.le_refl _), rfl, fun ys hy => ?_⟩, ⟨⟨y, ?_⟩, ?_, hne, hai, hae⟩, fun b hb => ?_⟩
    · rw [Inv.tuple_inj I hy hq]
      exact hx
    · have e1 : ((i + 1 : Nat) : Int) = (i : Int) + 1 := by omega
      rw [e1]
      exact he'
    · exact Heap.IsTupleIter.at st'.1 fun o q => (sb.right it hne.symm).trans q
    · have hb' : b < s.heap.objs.size := by
        have e' : b = e ∨ b = it := by simpa using hb
        rcases e' with rfl | rfl
        · exact hel
        · exact hil
      rw [upd_ne (Nat.ne_of_lt hb')]
      exact (hf b hb).1
  done X hP hw hK hc i pins s σ H E I hf st hg := by
    subst hP hw hK
    obtain ⟨⟨old, he⟩, hit, hne, hai, hae⟩ := st
    obtain ⟨xs, hq, hx⟩ := hg
    obtain ⟨its, rv, p, hz⟩ := I.tuple hq
    have D : Draws X.prog X.w X.A.in1 it [it, a] its.toArray.size (fun i v => its.toArray[i]? = some v) fun i h => h.IsTupleIter it a i ∧ h.IsTuple a its.toArray := draws_tuple (A := X.A.in1) (I.ok.hd hc) it a hai its.toArray
    have hl := Vals.length rv
    obtain ⟨f0, f1, f2, f3, f4, f5⟩ := hf it (by simp)
    have en : its.toArray.size = i := by
      rw [List.size_toArray]
      omega
    refine wpAny_pyNext_enum_endD D he (by rw [en]; exact ⟨hit, p⟩) fun h' eb => ⟨rfl, Inv.turned I (fun b o hb q => eb b o hb q) f0 f1 f3 f4 f5⟩
  self A i s Q E st h := by
    obtain ⟨⟨old, he⟩, _⟩ := st
    exact wpAny_pyIter_enum he h
def iEnumT (K : PySem.W.Frag) (ta : TA) : TI := fun σ H R => ta σ H fun vs H1 => ∃ (a : Addr) (xs : List V), vs = [.ref a] ∧ SqT K H1 a xs ∧ R (IteT K a) H1
theorem pi_enumT {X : Cx} {e : Expr} {ta : TA} {p pos tpos : Pos} {elts : List Expr} {kk : Nat} (hg : Gl X "enumerate") (hm : X.mg "enumerate" = none) (ha : PA X [e] ta) (hs : starEach [e] X.env = [(false, eval e X.env)] := by rfl) :
    PI X (.Tuple elts kk tpos) (.Call (.Name "enumerate" p) [e] [] pos) (iEnumT X.K ta) := by
  refine ⟨fun pins s σ H R I h => Call_ (ld_blt I hg hm boot_enumerate (PyProof.Rows.callWith_type1 (thn (ha.run pos pins s σ H _ I h) fun us s1 ⟨vs, H1, I1, r1, a, xs, ex, hq, q⟩ => ?_) hs rfl) (by decide) (by decide)) rfl⟩
  subst ex
  obtain ⟨u, rfl, ru⟩ := vals1 r1
  obtain rfl : u = Value.ref a := ru
  obtain ⟨its, rv, p', hz⟩ := I1.tuple hq
  have hla : a < s1.heap.objs.size := by
    obtain ⟨o, z, _⟩ := p'
    exact Heap.lt_size z
  refine call_enumerate_tuple p' fun h' he hit hsz hk => wpAny_pyIter_enum he ?_
  have I2 := I1.kept (t' := s1.toks) hk
  refine ⟨s1.heap.objs.size + 1, [s1.heap.objs.size + 1, s1.heap.objs.size], _, IteT X.K a, H1, rfl, I2, turn_enumT a _ _, ⟨⟨_, he⟩, hit, Nat.succ_ne_self _, Nat.ne_of_lt hla, Nat.ne_of_lt (Nat.lt_succ_of_lt hla)⟩, fun b hb => ?_, q⟩
  have e' : b = s1.heap.objs.size + 1 ∨ b = s1.heap.objs.size := by simpa using hb
  have le : s1.heap.objs.size ≤ b := by
    rcases e' with rfl | rfl
    · exact Nat.le_succ _
    · exact Nat.le_refl _
  exact I1.fpOk le (I1.hok.fresh le)
end L2
end
section
set_option Elab.async false
set_option linter.all false
set_option maxRecDepth 100000
set_option maxHeartbeats 4000000
namespace L2
open PySem PySem.Spec PyProof.Rows
/-! max(xs, default=d) of whole numbers -/
abbrev dArgs (I S : Addr) (d : Value) : Args := ⟨[.ref I, .none, .ref S], [("default", d)]⟩
theorem maxD_loop {prog : Program} {w : World} {A : Around} {R : Result → Shared → Prop} {I : Addr} {fp wr : List Addr} {n : Nat} {P : Nat → Value → Prop} {St : Nat → Heap → Prop} (d : Value)
    (W : Walks prog w A.in1 I fp wr n P St) (bt : Nat → Nat → Bool) (hcmp : CmpOf prog w A.in1 .Gt P bt) (S : Addr) (hSf : S ∉ fp) :
    ∀ (k j : Nat) (s : Shared) (vb : Value) (c : Nat), n - (j + 1) = k → j + 1 ≤ n → St (j + 1) s.heap → P (argBest bt j) vb → s.heap.get? S = some { cls := .type "list", data := .seq #[vb, vb] c } →
      (∀ (v : Value) (h' : Heap) (tk : Nat), P (argBest bt (n - 1)) v → (∀ (b : Addr) (o : Obj), b ∉ wr → b ≠ S → s.heap.get? b = some o → h'.get? b = some o) → R (.ok (.ret v)) { heap := h', gens := s.gens, drawn := s.drawn, toks := tk, os := s.os }) →
      codeAny (model prog w) A (.builtin "max.loop" (dArgs I S d)) R s := by
  have hSw : S ∉ wr := fun h => hSf (W.sub S h)
  intro k
  induction k with
  | zero =>
    intro j s vb c hk hj hst hPb hS hR
    have hin : j + 1 = n := by omega
    refine codeAny_builtin F.entry_max_loop ?_
    rw [Around.under_plainId F.plain_max_loop]
    refine wpAny_bind (wpAny_seqItems hS rfl ?_)
    refine wpAny_bind (wpAny_tryCatch (W.done s _ _ (by rw [← hin]; exact hst) fun h' tk hk' => ?_))
    have hS' := hk' S _ hSw hS
    refine wpAny_bind (wpAny_updateSeq hS' rfl ?_ (by first | exact Nat.zero_le _ | (show 2 ≤ _; decide)) (by first | exact Nat.zero_le _ | (show 2 ≤ _; decide)))
    refine wpAny_bind (wpAny_letGo (wpAny_pure ?_))
    exact hR vb _ tk (by rw [← hin]; exact hPb) fun b o hbw hbS e => (Heap.get?_update_other _ _ (Ne.symm hbS)).trans (hk' b o hbw e)
  | succ k ih =>
    intro j s vb c hk hj hst hPb hS hR
    refine codeAny_builtin F.entry_max_loop ?_
    rw [Around.under_plainId F.plain_max_loop]
    refine wpAny_bind (wpAny_seqItems hS rfl ?_)
    refine wpAny_bind (wpAny_tryCatch (W.item (j + 1) s _ _ (by omega) hst fun v h' tk hP hst' hk' => ?_))
    have hS' := hk' S _ hSw hS
    refine wpAny_bind (wpAny_pure ?_)
    refine wpAny_bind (wpAny_tryCatch (wpAny_holding ?_))
    refine wpAny_bind (hcmp (j + 1) (argBest bt j) v vb _ _ _ hP hPb ?_)
    refine wpAny_bind (wpAny_holding (wpAny_truthy_bool ?_))
    refine wpAny_bind (wpAny_letGo (wpAny_pure ?_))
    have best : argBest bt (j + 1) = if bt (j + 1) (argBest bt j) = true then j + 1 else argBest bt j := rfl
    have hname : toString "max" ++ toString ".loop" = "max.loop" := by decide
    cases hb : bt (j + 1) (argBest bt j) with
    | true =>
      rw [hb, if_pos rfl] at best
      refine wpAny_ite_true rfl ?_
      refine wpAny_bind (wpAny_updateSeq hS' rfl ?_ (by first | exact Nat.zero_le _ | (show 2 ≤ _; decide)) (by first | exact Nat.zero_le _ | (show 2 ≤ _; decide)))
      refine wpAny_bind (wpAny_letGo ?_)
      rw [hname]
      refine wpAny_pure ⟨plainId_quiet F.plain_max_loop (dArgs I S d), ih (j + 1) _ v _ (by omega) (by omega) (W.frame (j + 1 + 1) h' _ hst' fun b hbf o e => (Heap.get?_update_other _ _ fun h => hSf (by rw [h]; exact hbf)).trans e) (by rw [best]; exact hP) (Heap.get?_update_self _ hS' rfl) fun v' h'' tk'' hP' hk'' => hR v' h'' tk'' hP' fun b o hbw hbS e => hk'' b o hbw hbS ((Heap.get?_update_other _ _ (Ne.symm hbS)).trans (hk' b o hbw e))⟩
    | false =>
      rw [hb, if_neg (by decide)] at best
      refine wpAny_ite_false rfl ?_
      refine wpAny_bind (wpAny_letGo ?_)
      rw [hname]
      refine wpAny_pure ⟨plainId_quiet F.plain_max_loop (dArgs I S d), ih (j + 1) _ vb _ (by omega) (by omega) hst' (by rw [best]; exact hPb) hS' fun v' h'' tk'' hP' hk'' => hR v' h'' tk'' hP' fun b o hbw hbS e => hk'' b o hbw hbS (hk' b o hbw e)⟩
theorem maxD_first {prog : Program} {w : World} {A : Around} {R : Result → Shared → Prop} {I : Addr} {fp wr : List Addr} {n : Nat} {P : Nat → Value → Prop} {St : Nat → Heap → Prop} (d : Value)
    (W : Walks prog w A.in1 I fp wr n P St) (bt : Nat → Nat → Bool) (hcmp : CmpOf prog w A.in1 .Gt P bt) (S : Addr) (hSf : S ∉ fp) {s : Shared} {c : Nat} (hst : St 0 s.heap) (hS : s.heap.get? S = some { cls := .type "list", data := .seq #[] c })
    (hR : ∀ (v : Value) (h' : Heap) (tk : Nat), (n = 0 ∧ v = d) ∨ (0 < n ∧ P (argBest bt (n - 1)) v) → (∀ (b : Addr) (o : Obj), b ∉ wr → b ≠ S → s.heap.get? b = some o → h'.get? b = some o) → R (.ok (.ret v)) { heap := h', gens := s.gens, drawn := s.drawn, toks := tk, os := s.os }) :
    codeAny (model prog w) A (.builtin "max.loop" (dArgs I S d)) R s := by
  have hSw : S ∉ wr := fun h => hSf (W.sub S h)
  refine codeAny_builtin F.entry_max_loop ?_
  rw [Around.under_plainId F.plain_max_loop]
  refine wpAny_bind (wpAny_seqItems hS rfl ?_)
  cases n with
  | zero =>
    refine wpAny_bind (wpAny_tryCatch (W.done s _ _ hst fun h' tk hk' => ?_))
    refine wpAny_bind (wpAny_rule ?_)
    exact wpAny_pure (hR d h' tk (.inl ⟨rfl, rfl⟩) fun b o hbw _ e => hk' b o hbw e)
  | succ n =>
    refine wpAny_bind (wpAny_tryCatch (W.item 0 s _ _ (Nat.succ_pos _) hst fun v h' tk hP hst' hk' => ?_))
    have hS' := hk' S _ hSw hS
    have hname : toString "max" ++ toString ".loop" = "max.loop" := by decide
    refine wpAny_bind (wpAny_pure ?_)
    refine wpAny_bind (wpAny_updateSeq hS' rfl ?_ (by first | exact Nat.zero_le _ | (show 2 ≤ _; decide)) (by first | exact Nat.zero_le _ | (show 2 ≤ _; decide)))
    rw [hname]
    refine wpAny_pure ⟨plainId_quiet F.plain_max_loop (dArgs I S d), maxD_loop d W bt hcmp S hSf (n + 1 - (0 + 1)) 0 _ v _ rfl (by omega) (W.frame (0 + 1) h' _ hst' fun b hbf o e => (Heap.get?_update_other _ _ fun h => hSf (by rw [h]; exact hbf)).trans e) hP (Heap.get?_update_self _ hS' rfl) fun v' h'' tk'' hP' hk'' => hR v' h'' tk'' (.inr ⟨Nat.succ_pos _, hP'⟩) fun b o hbw hbS e => hk'' b o hbw hbS ((Heap.get?_update_other _ _ (Ne.symm hbS)).trans (hk' b o hbw e))⟩
end L2
end
section
set_option Elab.async false
set_option linter.all false
set_option maxRecDepth 100000
set_option maxHeartbeats 4000000
namespace L2
open PySem PySem.Spec PyProof.Rows
theorem call_tree_kw {prog : Program} {w : World} {A : Around} {E : Value → Shared → Prop} {s : Shared} {id : String} {b : Builtin} {args : List Value} {kw : List (Str × Value)} {Q : Value → Shared → Prop}
    (hk : builtinKind id = none) (hp : plainId id = true) (hb : entryFor table id = some b) (ha : argsOk id { pos := args, kw := kw })
    (hc : wpAny (model prog w) A.in1 (b { pos := args, kw := kw }) (fun fin s' => match fin with
        | Fin.done f => match (Except.ok f : Result) with
          | Except.ok (Flow.ret v) => Q v s'
          | Except.ok _ => False
          | Except.error e => E e s'
        | Fin.again c' => c'.quiet = true ∧ codeAny (model prog w) A c' (fun r s' => match r with
          | Except.ok (Flow.ret v) => Q v s'
          | Except.ok _ => False
          | Except.error e => E e s') s') E s) :
    wpAny (model prog w) A (call (Value.builtin id) args kw) Q E s := by
  refine wpAny_call (codeAny_call_builtin hp hb ?_)
  unfold checkBuiltinCall
  simp only [hk]
  unfold argsOk at ha
  cases h : Manifest.signature? id with
  | none =>
    simp only
    exact wpAny_pure hc
  | some sig =>
    rw [h] at ha
    simp only at ha ⊢
    rw [ha]
    exact wpAny_pure hc
/-- max(xs, default=d): d if there is nothing, else the greatest -/
def rMaxD (K : PySem.W.Frag) : List V → List V → Hp → VK → Prop := fun xs zs H Q => ∃ (a : Addr) (ns : List Int) (d : Int), xs = [.ref a] ∧ zs = [.int d] ∧ SqL K H a (ns.map V.int) ∧ (ns = [] → Q (.int d) H) ∧ ∀ m : Int, m ∈ ns → (∀ y ∈ ns, y ≤ m) → Q (.int m) H
theorem cr_maxD {X : Cx} (hc : X.calm = true) : CallRK X (.builtin "max") ["default"] (rMaxD X.K) := by
  intro pins s σ H xs zs us ws Q I rx rz h
  obtain ⟨a, ns, d, rfl, rfl, hs, q0, q⟩ := h
  obtain ⟨u, rfl, ru⟩ := vals1 rx
  obtain rfl : u = Value.ref a := ru
  obtain ⟨v, rfl, t0, rfl⟩ := vals1 rz
  obtain ⟨its, rv, hl0, hz⟩ := I.list hs
  have hh := I.ok.hd hc
  have hi := Vals.ints rv
  obtain ⟨xs, e⟩ := hi.allInts.items
  have hl : s.heap.IsList a (intItems xs) := by
    rw [← e]
    exact hl0.isList
  have hn : xs.toList.map (fun x => x.1) = ns := by
    rw [← nums_intItems xs, ← e]
    exact hi.numsOf
  have hsz : xs.size = ns.length := by
    rw [← hn, List.length_map, Array.length_toList]
  show wpAny _ _ (call (.builtin "max") [.ref a] [("default", .int d t0)]) _ _ _
  refine call_tree_kw F.kind_max F.plain_max F.entry_max ?_ ?_
  · show argsOk "max" _
    rfl
  refine wpAny_bind ?_
  refine wpAny_of_eq (a := [none, some (.int d t0)]) rfl ?_
  refine wpAny_bind (wpAny_pure ?_)
  refine wpAny_bind (iter_intList hl fun s₂ e2 st hfp hlI => ?_)
  subst e2
  refine wpAny_bind (wpAny_newList ?_ (by exact Nat.zero_le _))
  have hname : toString "max" ++ toString ".loop" = "max.loop" := by decide
  rw [hname]
  refine wpAny_pure ⟨plainId_quiet F.plain_max_loop _, ?_⟩
  have W : Walks X.prog X.w X.A.in1 s.heap.objs.size [s.heap.objs.size, a] [s.heap.objs.size] (intItems xs).size (fun i v => (intItems xs)[i]? = some v) (fun i h => h.IsListIter s.heap.objs.size a i ∧ h.IsList a (intItems xs)) := Walks.list (A := X.A.in1) hh _ a hlI (intItems xs)
  have size2 : ∀ o : Obj, (s.heap.push o).objs.size = s.heap.objs.size + 1 := fun o => Heap.size_push _ _
  have hSf : (s.heap.push { cls := Value.type "list_iterator", data := Data.fields #[Value.ref a, Value.int 0 0] }).objs.size ∉ [s.heap.objs.size, a] := fun hm => Nat.lt_irrefl _ (hfp _ hm)
  refine maxD_first (.int d t0) W (fun i j => decide (numAt xs i > numAt xs j)) (CmpOf.ints_gt (numAt xs) fun i v => intItems_at) _ hSf (W.frame 0 _ _ st fun b x o e => Heap.get?_push_of_some _ e) (Heap.get?_push_size _ rfl) fun v h' tk hv hk => ?_
  have keep : ∀ (b : Addr) (o : Obj), s.heap.get? b = some o → h'.get? b = some o := fun b o z => by
    have lt := Heap.lt_size z
    refine hk b o (by simp; exact Nat.ne_of_lt lt) ?_ (Heap.get?_push_of_some _ (Heap.get?_push_of_some _ z))
    rw [size2]
    exact Nat.ne_of_lt (Nat.lt_succ_of_lt lt)
  have I1 := I.kept (t' := tk) keep
  have isz : (intItems xs).size = ns.length := by
    rw [← hsz]
    exact Array.size_map
  rcases hv with ⟨n0, rfl⟩ | ⟨n0, hv⟩
  · refine ⟨.int d, H, I1, ⟨t0, rfl⟩, q0 (List.length_eq_zero_iff.mp (by omega))⟩
  · obtain ⟨t, rfl⟩ := intItems_at hv
    obtain ⟨h1, h2⟩ := argBest_gt (numAt xs) ((intItems xs).size - 1)
    refine ⟨.int _, H, I1, ⟨t, rfl⟩, q _ ?_ fun y hy => ?_⟩
    · rw [numAt_eq, hn]
      exact PySem.getD_mem (by omega)
    · rw [← hn] at hy
      obtain ⟨j, hj, rfl⟩ := mem_getD hy
      rw [← numAt_eq]
      rw [hn] at hj
      exact h2 j (by omega)
end L2
end
section
set_option Elab.async false
set_option linter.all false
set_option maxRecDepth 100000
set_option maxHeartbeats 4000000
namespace K19
open PySem PySem.Spec PyProof.Rows L2
open PySem.W (ke_shaped_ints)
local macro_rules | `(tactic| walk_at "go") => `(tactic| first | refine ⟨_, rfl, ?_⟩ | refine .inl ⟨_, rfl, ?_⟩ | refine ⟨_, _, rfl, rfl, (by first | (show (0 : Int) < _; decide) | exact Or.inl ⟨by decide, by decide⟩ | exact Or.inr ⟨by decide, by decide⟩), ?_⟩ | refine ⟨_, _, rfl, rfl, ?_⟩)
section
variable {P : Program} {w : World} {K : PySem.W.Frag} {mg : Str → Option Value} {base : Heap}
/-- what the program's own names are -/
structure TxtP (K : PySem.W.Frag) (mg : Str → Option Value) : Prop where
  f_len : mg "len" = none
  f_all : mg "all" = none
  f_tuple : mg "tuple" = none
  f_int : mg "int" = none
  f_abs : mg "abs" = none
  f_max : mg "max" = none
  f_enumerate : mg "enumerate" = none
  c_LETTERS : ∃ t, mg "LETTERS" = some (.str "abcdefghijklmnopqrstuvwxyz" t)
  g_RESERVED : mg "RESERVED" = some (.ref (He.ga K "RESERVED"))
  t_RESERVED : ∀ H : Hp, SqT K H (He.ga K "RESERVED") (CF.Reserved.map V.str)
  c_LONGEST_NAME : ∃ t, mg "LONGEST_NAME" = some (.int 12 t)
  c_MOST_POINTERS : ∃ t, mg "MOST_POINTERS" = some (.int 3 t)
  c_FARTHEST_SPOT : ∃ t, mg "FARTHEST_SPOT" = some (.int 30 t)
  c_LONGEST_NUMBER : ∃ t, mg "LONGEST_NUMBER" = some (.int 3 t)
  c_FARTHEST : ∃ t, mg "FARTHEST" = some (.int 40 t)
  c_MOST_CELLS : ∃ t, mg "MOST_CELLS" = some (.int 16 t)
  g_MODULI : mg "MODULI" = some (.ref (He.ga K "MODULI"))
  t_MODULI : ∀ H : Hp, SqT K H (He.ga K "MODULI") [.int 2, .int 4, .int 8]

/-- is_name(word) of a pointer's name -/
def spName : Sp := fun vs H Q _ => ∃ z : Str, vs = [.str z] ∧ CF.NameOk z ∧ ∀ H', Same H H' → Q (.bl true) H'
theorem sign_in {c : Nat} (h : 97 ≤ c ∧ c ≤ 122) : c ∈ (("abcdefghijklmnopqrstuvwxyz" : Str)).cps.toList := by
  have all : ∀ n : Nat, n < 26 → (n + 97) ∈ (("abcdefghijklmnopqrstuvwxyz" : Str)).cps.toList := by decide +kernel
  have e : c = (c - 97) + 97 := by omega
  rw [e]
  exact all _ (by omega)
abbrev s_is_name : Stmt := topS 17
theorem sc_is_name : FnScope ["word", "letter"] ["word"] (defScope s_is_name) := ⟨rfl, rfl, rfl, by decide +kernel, rfl, by decide +kernel, by decide +kernel⟩
theorem ok_is_name (T : TxtP K mg) (D : Def K mg "is_name" s_is_name) : Cal P w K mg base 1 "is_name" ["word"] spName := by
  refine D.cal sc_is_name (fun vs H Q E h => ?_) (fun _ _ _ _ _ _ us hl => match us, hl with | [_], _ => rfl) (fun f cdv A outer s H vs Q E hr h => ?_)
  · obtain ⟨z, rfl, _⟩ := h
    rfl
  have hu := hu_of hr

  obtain ⟨z, rfl, nm, k⟩ := h
  refine ⟨_, (C8.pss_cut (ps_if (PW.pt (pw_or (pt_not (pt_chain op_le op_le pe_int (pe_callB call_len (by rfl) T.f_len PySem.boot_len (pa_cons (pv 0) pa_nil)) (pe_gint (by rfl) T.c_LONGEST_NAME))) (pw_or1 (pt_cmpR op_in_seq (pv 0) (pe_gref (by rfl) T.g_RESERVED) (by rfl))))) (pss_one (ps_ret pe_bl)) pss_nil)
      (pss_one (ps_ret (pe_callB (cr_all rfl) (by rfl) T.f_all (by decide +kernel) (pa_cons (pe_lc (own := [("letter", 1)]) (g := gName 1) (tt := tYes) rfl sc_is_name.nd (pi_str (pv 0)) (blkOk_by (N := ["word", "letter"]) (sc := defScope s_is_name) (by decide +kernel)) (fun _ _ _ _ _ => (pg_name (i := 1) sc_is_name.nd rfl (Or.inl rfl))) (fun _ _ _ _ _ => pts_nil) (fun _ _ _ _ _ => (pe_cmpR op_in_sign (pv 1) (pe_gstr (by rfl) T.c_LETTERS) (by rfl)))) pa_nil))))), ?_⟩
  have n1 := nm.lo
  have n2 := nm.hi
  refine ⟨fun σ' H' => σ' = [some (.str z), none] ∧ H' = H, ?_, ?_⟩
  · refine ⟨_, rfl, _, z.length, rfl, ⟨by rw [sizeLine_eq]; omega, rfl⟩, _, _, rfl, rfl, _, rfl, ite2 (fun _ => ?_) (fun c => absurd (decide_eq_true (by omega)) c)⟩
    refine ⟨_, _, rfl, rfl, _, rfl, ?_⟩
    rw [decide_eq_true (show (z.length : Int) ≤ 12 by omega)]
    refine iteF ?_
    refine ⟨_, rfl, _, _, rfl, .inr (T.t_RESERVED _), rfl, CF.flat_strs _, _, rfl, ?_⟩
    rw [if_neg (by decide), CF.inV_strs, decide_eq_false nm.free]
    exact iteF ⟨rfl, rfl⟩
  rintro σ' H' ⟨rfl, rfl⟩
  refine ⟨_, rfl, z, rfl, fun D hD => lc_it walk_str (fun i H1 => Same H' H1 ∧ H1 D = some (.lst ((List.replicate i true).map V.bl)))
    ⟨Same.new hD, upd_same⟩ (fun _ _ _ _ => True.intro) ?_ ?_⟩
  · rintro i x H1 H2 hi ⟨s1, h1⟩ ⟨rfl, c, hc, rfl⟩
    rw [← Array.getElem?_toList] at hc
    have inl : decide (c ∈ (("abcdefghijklmnopqrstuvwxyz" : Str)).cps.toList) = true := decide_eq_true (sign_in (nm.letters c (List.mem_of_getElem? hc)))
    refine ⟨rfl, _, rfl, c, _, rfl, rfl, _, h1, ?_, s1.put hD, ?_⟩
    · have e : z.cps.size = z.length := rfl
      rw [List.length_map, List.length_replicate, sizeLine_eq]
      omega
    · rw [inl, List.replicate_succ', List.map_append]
      exact upd_same
  · rintro H1 ⟨s1, h1⟩
    refine ⟨D, _, rfl, SqL.of h1, ?_⟩
    have al : (List.replicate z.cps.size true).all id = true := by
      rw [List.all_replicate]
      split <;> rfl
    rw [al]
    exact k _ s1



/-- lines_of(text) of lines joined -/
def spLinesOf : Sp := fun vs H Q _ => ∃ ws : List Str, vs = [.str (Txt.join "\n" ws)] ∧ (∀ w ∈ ws, 1 ≤ w.length ∧ 10 ∉ TL.tl w) ∧ (Txt.join "\n" ws).length ≤ 100000 ∧ ∀ (r : Addr) (H' : Hp), H r = none → Same H H' → H' r = some (.lst (ws.map V.str)) → Q (.ref r) H'
theorem join_one {ws : List Str} (h : ∀ w ∈ ws, 1 ≤ w.length ∧ 10 ∉ TL.tl w) (hn : ws ≠ []) : 1 ≤ (Txt.join "\n" ws).length := by
  rw [TL.join_eq, TL.len_tl, TL.tl_join]
  cases ws with
  | nil => exact absurd rfl hn
  | cons w r =>
    have hw := (h w List.mem_cons_self).1
    rw [TL.len_tl] at hw
    cases r with
    | nil => simpa [TL.joinL] using hw
    | cons w2 r =>
      have e : TL.joinL (TL.tl "\n") ((w :: w2 :: r).map TL.tl) = TL.tl w ++ (TL.tl "\n" ++ TL.joinL (TL.tl "\n") ((w2 :: r).map TL.tl)) := by
        first | rfl | simp [TL.joinL]
      rw [e, List.length_append]
      omega
theorem split_back {ws : List Str} (h : ∀ w ∈ ws, 1 ≤ w.length ∧ 10 ∉ TL.tl w) (hn : ws ≠ []) : Txt.split (Txt.join "\n" ws) "\n" = ws :=
  TL.split_join (s := 10) (S := []) rfl (by decide +kernel) hn fun p hp => (h p hp).2
abbrev s_lines_of : Stmt := topS 16
theorem sc_lines_of : FnScope ["text"] ["text"] (defScope s_lines_of) := ⟨rfl, rfl, rfl, by decide +kernel, rfl, by decide +kernel, by decide +kernel⟩
theorem ok_lines_of (T : TxtP K mg) (D : Def K mg "lines_of" s_lines_of) : Cal P w K mg base 1 "lines_of" ["text"] spLinesOf := by
  refine D.cal sc_lines_of (fun vs H Q E h => ?_) (fun _ _ _ _ _ _ us hl => match us, hl with | [_], _ => rfl) (fun f cdv A outer s H vs Q E hr h => ?_)
  · obtain ⟨ws, rfl, _⟩ := h
    rfl
  have hu := hu_of hr

  obtain ⟨ws, rfl, hw, hz, k⟩ := h
  refine ⟨_, (pss_one (ps_ret (pe_ifExp (pt_truth (pv 0) (by intro _; rfl)) (pe_split (pv 0) pe_str) (pe_lst pa_nil)))), ?_⟩
  have big : sizeLine = 16777216 := sizeLine_eq
  refine ⟨_, rfl, _, ⟨by omega, rfl⟩, ?_⟩
  cases ws with
  | nil =>
    have e : (Txt.join "\n" []).length = 0 := by
      rw [TL.join_eq, TL.len_tl, TL.tl_join]
      rfl
    have e2 : (((Txt.join "\n" []).length : Int) != 0) = false := by
      rw [e]
      rfl
    rw [e2]
    exact iteF ⟨Nat.zero_le _, fun r hr => k r _ hr (Same.new hr) upd_same⟩
  | cons w r0 =>
    have n1 := join_one hw (by simp)
    have e : (((Txt.join "\n" (w :: r0)).length : Int) != 0) = true := by
      simp only [bne_iff_ne, ne_eq]
      omega
    rw [e]
    refine iteT ⟨_, rfl, ⟨_, rfl⟩, _, _, rfl, rfl, by decide +kernel, by omega, fun r hr => ?_⟩
    rw [split_back hw (by simp)]
    exact k r _ hr (Same.new hr) upd_same

end
end K19
end
section
set_option Elab.async false
set_option linter.all false
set_option maxRecDepth 100000
set_option maxHeartbeats 4000000
namespace K19
open PySem PySem.Spec PyProof.Rows L2
open PySem.W (ke_shaped_ints)
local macro_rules | `(tactic| walk_at "go") => `(tactic| first | refine ⟨_, rfl, ?_⟩ | refine .inl ⟨_, rfl, ?_⟩ | refine ⟨_, _, rfl, rfl, (by first | (show (0 : Int) < _; decide) | exact Or.inl ⟨by decide, by decide⟩ | exact Or.inr ⟨by decide, by decide⟩), ?_⟩ | refine ⟨_, _, rfl, rfl, ?_⟩)
section
variable {P : Program} {w : World} {K : PySem.W.Frag} {mg : Str → Option Value} {base : Heap}

/-- read_pointers(pointers) of right names -/
def spReadPointers (K : PySem.W.Frag) : Sp := fun vs H Q _ => ∃ (a : Addr) (ps : List Str), vs = [.ref a] ∧ (SqL K H a (ps.map V.str) ∨ SqT K H a (ps.map V.str)) ∧ CF.Names ps ∧ ∀ (r : Addr) (H' : Hp), Same H H' → SqT K H' r (ps.map V.str) → Q (.ref r) H'
theorem not_before {α : Type} {l : List α} (h : l.Nodup) {i : Nat} {x : α} (e : l[i]? = some x) : x ∉ l.take i := by
  intro hm
  have a := List.take_append_drop i l
  rw [← a] at h
  have hd : x ∈ l.drop i := List.mem_of_getElem? (i := 0) (by rw [List.getElem?_drop]; exact e)
  exact (List.nodup_append.mp h).2.2 x hm x hd rfl
abbrev s_read_pointers : Stmt := topS 18
theorem sc_read_pointers : FnScope ["pointers", "names", "index", "name"] ["pointers"] (defScope s_read_pointers) := ⟨rfl, rfl, rfl, by decide +kernel, rfl, by decide +kernel, by decide +kernel⟩
theorem ok_read_pointers (T : TxtP K mg) (D : Def K mg "read_pointers" s_read_pointers) (C_is_name : Cal P w K mg base 1 "is_name" ["word"] spName) : Cal P w K mg base 2 "read_pointers" ["pointers"] (spReadPointers K) := by
  refine D.cal sc_read_pointers (fun vs H Q E h => ?_) (fun _ _ _ _ _ _ us hl => match us, hl with | [_], _ => rfl) (fun f cdv A outer s H vs Q E hr h => ?_)
  · obtain ⟨a, ps, rfl, _⟩ := h
    rfl
  have hu := hu_of hr

  obtain ⟨a, ps, rfl, hs, nm, k⟩ := h
  refine ⟨_, (C8.pss_cut (ps_set (i := 1) sc_read_pointers.nd rfl (by first | exact Or.inl rfl | exact Or.inr rfl) (pe_callTy call_tuple_of (by rfl) T.f_tuple (by decide +kernel) (pa_cons (pv 0) pa_nil)))
      (C8.pss_cut (ps_if (pt_not (pt_truth (pv 1) (by intro _; rfl))) (pss_one ps_never) pss_nil)
      (pss_cons (ps_for PassesOwn.never rfl (pi_enumT (by rfl) T.f_enumerate (pa_cons (pv 1) pa_nil)) (pg_tup rfl (pgs_cons (pg_name (i := 2) sc_read_pointers.nd rfl (by first | exact Or.inl rfl | exact Or.inr rfl)) (pgs_cons (pg_name (i := 3) sc_read_pointers.nd rfl (by first | exact Or.inl rfl | exact Or.inr rfl)) pgs_nil))) (pss_one (ps_if (PW.pt (pw_or (pt_cmpR op_eq (pv 2) (pe_gint (by rfl) T.c_MOST_POINTERS) (nomark _)) (pw_or (pt_not (pt_val (pe_cal C_is_name (hr.mono (by decide)) rfl (pa_cons (pv 3) pa_nil)))) (pw_or1 (pt_cmpR op_in_seq (pv 3) (pe_slice sl_tup (pv 1) po_none (po_some (pv 2))) (by rfl)))))) (pss_one ps_never) pss_nil)))
      (pss_one (ps_ret (pv 1)))))), ?_⟩
  refine ⟨fun σ' H' => ∃ t, σ' = [some (.ref a), some (.ref t), none, none] ∧ Same H H' ∧ SqT K H' t (ps.map V.str), ?_, ?_⟩
  · refine ⟨_, rfl, a, ps.map V.str, rfl, ?_⟩
    rcases hs with h | h
    · exact .inl ⟨h, fun l hl => ⟨l, rfl, Same.new hl, SqT.of upd_same⟩⟩
    · exact .inr ⟨h, a, rfl, fun _ _ z => z, h⟩
  rintro σ' H1 ⟨t, rfl, s1, hT⟩
  obtain ⟨oks, nd, n1, n3⟩ := nm
  have ne : (!(ps.map V.str).isEmpty) = true := by
    cases ps with
    | nil => cases n1
    | cons _ _ => rfl
  refine ⟨fun σ' H' => σ' = [some (.ref a), some (.ref t), none, none] ∧ H' = H1, ?_, ?_⟩
  · refine ⟨_, rfl, _, .inr (.inl ⟨_, hT, rfl⟩), ?_⟩
    rw [ne]
    exact iteF ⟨rfl, rfl⟩
  rintro σ' H' ⟨rfl, rfl⟩
  refine ⟨_, rfl, t, _, rfl, hT, for_it walk_enumT (fun i σ H2 => ∃ v2 v3, σ = [some (.ref a), some (.ref t), v2, v3] ∧ Same H' H2) ⟨none, none, rfl, fun _ _ z => z⟩ (fun i σ H2 _ ⟨_, _, _, s2⟩ => s2.tup hT) ?_ ?_⟩
  · rintro i x σ H2 H3 hi ⟨v2, v3, rfl, s2⟩ ⟨T0, x1, x2, rfl, hT0, rfl, e1, e2⟩
    cases e1
    have e2' : (ps.map V.str)[i]? = some x2 := e2
    rw [List.getElem?_map] at e2'
    obtain ⟨z, hz, rfl⟩ := Option.map_eq_some_iff.mp e2'
    rw [List.length_map] at hi
    have s3 := s2.trans (Same.new (o := .tup [.int (i : Nat), .str z]) hT0)
    refine ⟨T0, _, rfl, SqT.of upd_same, rfl, _, _, rfl, _, _, rfl, rfl, ?_⟩
    generalize upd H2 T0 (.tup [.int (i : Nat), .str z]) = H4 at s3 ⊢
    refine ⟨_, rfl, rfl, _, rfl, ite2 (fun c => absurd (of_decide_eq_true c) (fun e => by have := V.int.inj e; omega)) (fun _ => ?_)⟩
    refine ⟨_, rfl, z, rfl, oks z (List.mem_of_getElem? hz), fun H5 s5 => ⟨true, rfl, ?_⟩⟩
    refine iteF ?_
    have s35 := s3.trans s5
    have cut : cutV (ps.map V.str) none (some ((i : Nat) : Int)) = (ps.take i).map V.str := by
      rw [CF.cut_to _ (by omega), ← List.map_take]
      rfl
    refine ⟨_, rfl, _, rfl, _, rfl, _, rfl, t, _, rfl, s35.tup hT, ?_, fun p hp => ⟨p, _, rfl, .inr (SqT.of upd_same), rfl, ?_, _, rfl, ?_⟩⟩
    · rintro ⟨_, h⟩
      unfold HT.sIx at h
      simp only [if_neg (show ¬ ((i : Nat) : Int) < 0 by omega), List.length_map, Int.toNat_natCast] at h
      omega
    · rw [cut]
      exact CF.flat_strs _
    · rw [if_neg (by decide), cut, CF.inV_strs, decide_eq_false (not_before nd hz)]
      exact iteF ⟨_, _, rfl, s35.trans (Same.new hp)⟩
  · rintro σ H2 ⟨v2, v3, rfl, s2⟩
    exact ⟨_, rfl, k t H2 (s1.trans s2) (s2.tup hT)⟩

end
end K19
end
section
set_option Elab.async false
set_option linter.all false
set_option maxRecDepth 100000
set_option maxHeartbeats 4000000
namespace K19
open PySem PySem.Spec PyProof.Rows L2
open PySem.W (ke_shaped_ints)
local macro_rules | `(tactic| walk_at "go") => `(tactic| first | refine ⟨_, rfl, ?_⟩ | refine .inl ⟨_, rfl, ?_⟩ | refine ⟨_, _, rfl, rfl, (by first | (show (0 : Int) < _; decide) | exact Or.inl ⟨by decide, by decide⟩ | exact Or.inr ⟨by decide, by decide⟩), ?_⟩ | refine ⟨_, _, rfl, rfl, ?_⟩)
section
variable {P : Program} {w : World} {K : PySem.W.Frag} {mg : Str → Option Value} {base : Heap}

/-- read_number(word, low, high) of a number within -/
def spReadNumber : Sp := fun vs H Q _ => ∃ (n lo hi : Int), vs = [.str (CF.num n), .int lo, .int hi] ∧ -100 ≤ n ∧ n ≤ 300 ∧ lo ≤ n ∧ n ≤ hi ∧ Q (.int n) H
def dig (n : Int) : Str := if Txt.startswith (CF.num n) "-" = true then cutS (CF.num n) (some 1) none else CF.num n
theorem num_all : ((List.range 401).all fun k => (fun n : Int => Txt.isdigit (dig n) && (decide ((dig n).length ≤ 3) && (!(Txt.startswith (dig n) "0" && !decide (CF.num n = "0")) && decide (PySem.intText? (CF.num n) = some n)))) ((k : Int) - 100)) = true := by decide +kernel
theorem num_ok {n : Int} (h0 : -100 ≤ n) (h1 : n ≤ 300) : Txt.isdigit (dig n) = true ∧ (dig n).length ≤ 3 ∧ (Txt.startswith (dig n) "0" && !decide (CF.num n = "0")) = false ∧ PySem.intText? (CF.num n) = some n := by
  have z := CF.small_all3 (p := fun n : Int => Txt.isdigit (dig n) && (decide ((dig n).length ≤ 3) && (!(Txt.startswith (dig n) "0" && !decide (CF.num n = "0")) && decide (PySem.intText? (CF.num n) = some n)))) num_all h0 h1
  simp only [Bool.and_eq_true, decide_eq_true_eq, Bool.not_eq_true'] at z
  exact z
abbrev s_read_number : Stmt := topS 20
theorem sc_read_number : FnScope ["word", "low", "high", "digits", "number"] ["word", "low", "high"] (defScope s_read_number) := ⟨rfl, rfl, rfl, by decide +kernel, rfl, by decide +kernel, by decide +kernel⟩
theorem ok_read_number (T : TxtP K mg) (D : Def K mg "read_number" s_read_number) : Cal P w K mg base 1 "read_number" ["word", "low", "high"] spReadNumber := by
  refine D.cal sc_read_number (fun vs H Q E h => ?_) (fun _ _ _ _ _ _ us hl => match us, hl with | [_, _, _], _ => rfl) (fun f cdv A outer s H vs Q E hr h => ?_)
  · obtain ⟨n, lo, hi, rfl, _⟩ := h
    rfl
  have hu := hu_of hr

  obtain ⟨n, lo, hi, rfl, n0, n1, l0, l1, k⟩ := h
  obtain ⟨d1, d2, d3, d4⟩ := num_ok n0 n1
  have hl := CF.num_len3 n0 n1
  have big : sizeLine = 16777216 := sizeLine_eq
  refine ⟨_, (C8.pss_cut (ps_set (i := 3) sc_read_number.nd rfl (by first | exact Or.inl rfl | exact Or.inr rfl) (pe_ifExp (pt_val (pe_m1 PySem.F.slot_str_startswith PySem.F.type_str_startswith mt_startswith (pv 0) pe_str)) (pe_slice sl_str (pv 0) (po_some pe_int) po_none) (pv 0)))
      (C8.pss_cut (ps_if (PW.pt (pw_or (pt_not (pt_val (pe_m0 PySem.F.slot_str_isdigit PySem.F.type_str_isdigit mt_isdigit (pv 3)))) (pw_or1 (pt_cmpR op_gt (pe_callB call_len (by rfl) T.f_len PySem.boot_len (pa_cons (pv 3) pa_nil)) (pe_gint (by rfl) T.c_LONGEST_NUMBER) (nomark _))))) (pss_one (ps_ret pe_non)) pss_nil)
      (C8.pss_cut (ps_if (PW.pt (pw_and (pt_val (pe_m1 PySem.F.slot_str_startswith PySem.F.type_str_startswith mt_startswith (pv 3) pe_str)) (pw_and1 (pt_cmpR op_ne (pv 0) pe_str (nomark _))))) (pss_one (ps_ret pe_non)) pss_nil)
      (pss_cons (ps_set (i := 4) sc_read_number.nd rfl (by first | exact Or.inl rfl | exact Or.inr rfl) (pe_callTy call_int_str (by rfl) T.f_int (by decide +kernel) (pa_cons (pv 0) pa_nil)))
      (pss_one (ps_ret (pe_ifExp (pt_chain op_le op_le (pv 1) (pv 4) (pv 2)) (pv 4) pe_non))))))), ?_⟩
  refine ⟨fun σ' H' => σ' = [some (.str (CF.num n)), some (.int lo), some (.int hi), some (.str (dig n)), none] ∧ H' = H, ?_, ?_⟩
  · refine ⟨_, rfl, ⟨_, rfl⟩, _, _, rfl, rfl, _, rfl, ite2 (fun c => ?_) (fun c => ?_)⟩
    · exact ⟨_, rfl, 1, rfl, _, rfl, by omega, by rw [show dig n = _ from if_pos c]; rfl, rfl⟩
    · exact ⟨_, rfl, by rw [show dig n = _ from if_neg c]; rfl, rfl⟩
  rintro σ' H' ⟨rfl, rfl⟩
  refine ⟨fun σ H => σ = [some (.str (CF.num n)), some (.int lo), some (.int hi), some (.str (dig n)), none] ∧ H = H', ?_, ?_⟩
  · refine ⟨_, rfl, ⟨_, rfl⟩, _, rfl, rfl, trivial, _, rfl, ?_⟩
    rw [d1]
    refine iteF ?_
    exact ⟨_, rfl, _, (dig n).length, rfl, ⟨by omega, rfl⟩, _, _, rfl, rfl, _, rfl, ite2 (fun c => absurd (of_decide_eq_true c) (by omega)) (fun _ => ⟨rfl, rfl⟩)⟩
  rintro σ' H ⟨rfl, rfl⟩
  refine ⟨fun σ H1 => σ = [some (.str (CF.num n)), some (.int lo), some (.int hi), some (.str (dig n)), none] ∧ H1 = H, ?_, ?_⟩
  · refine ⟨_, rfl, ⟨_, rfl⟩, _, _, rfl, rfl, _, rfl, ite2 (fun c => ?_) (fun _ => ⟨rfl, rfl⟩)⟩
    refine ⟨_, rfl, rfl, _, rfl, ?_⟩
    have e : CF.num n = "0" := by
      rw [c, Bool.true_and] at d3
      simpa using d3
    have e2 : decide (V.str (CF.num n) = V.str "0") = true := decide_eq_true (by rw [e])
    rw [e2]
    exact iteF ⟨rfl, rfl⟩
  rintro σ' H1 ⟨rfl, rfl⟩
  refine ⟨_, rfl, _, n, rfl, d4, by omega, ?_⟩
  refine ⟨_, rfl, _, rfl, _, _, rfl, rfl, _, rfl, ite2 (fun _ => ?_) (fun c => absurd (decide_eq_true l0) c)⟩
  exact ⟨_, rfl, _, _, rfl, rfl, _, rfl, ite2 (fun _ => ⟨_, rfl, k⟩) (fun c => absurd (decide_eq_true l1) c)⟩



/-- read_pointer(word, pointers): the place of the name, if it is one -/
def spReadPointer (K : PySem.W.Frag) : Sp := fun vs H Q _ => ∃ (z : Str) (a : Addr) (ps : List Str), vs = [.str z, .ref a] ∧ SqT K H a (ps.map V.str) ∧ CF.Names ps ∧ ((∃ i : Nat, ps[i]? = some z ∧ ∀ H', Same H H' → Q (.int (i : Nat)) H') ∨ (z ∉ ps ∧ ∀ H', Same H H' → Q .non H'))
/-- read_spot(word, pointers) of a spot -/
def spReadSpot (K : PySem.W.Frag) : Sp := fun vs H Q _ => ∃ (z : Str) (k : Int) (i : Nat) (a : Addr) (ps : List Str), vs = [.str (CF.spot z k), .ref a] ∧ SqT K H a (ps.map V.str) ∧ CF.Names ps ∧ ps[i]? = some z ∧ -30 ≤ k ∧ k ≤ 30 ∧ ∀ (r : Addr) (H' : Hp), Same H H' → H r = none → H' r = some (.tup [.int (i : Nat), .int k]) → Q (.ref r) H'
abbrev s_read_spot : Stmt := topS 22
theorem sc_read_spot : FnScope ["word", "pointers", "sign", "name", "found", "digits", "pointer", "number"] ["word", "pointers"] (defScope s_read_spot) := ⟨rfl, rfl, rfl, by decide +kernel, rfl, by decide +kernel, by decide +kernel⟩
theorem ok_read_spot (T : TxtP K mg) (D : Def K mg "read_spot" s_read_spot) (C_read_pointer : Cal P w K mg base 3 "read_pointer" ["word", "pointers"] (spReadPointer K)) (C_read_number : Cal P w K mg base 1 "read_number" ["word", "low", "high"] spReadNumber) : Cal P w K mg base 4 "read_spot" ["word", "pointers"] (spReadSpot K) := by
  refine D.cal sc_read_spot (fun vs H Q E h => ?_) (fun _ _ _ _ _ _ us hl => match us, hl with | [_, _], _ => rfl) (fun f cdv A outer s H vs Q E hr h => ?_)
  · obtain ⟨z, k, i, a, ps, rfl, _⟩ := h
    rfl
  have hu := hu_of hr

  obtain ⟨z, k, i, a, ps, rfl, hT, nm, hi, k0, k1, kk⟩ := h
  refine ⟨_, (C8.pss_cut (ps_set (i := 2) sc_read_spot.nd rfl (by first | exact Or.inl rfl | exact Or.inr rfl) (pe_ifExp (pt_cmpR op_in_sign pe_str (pv 0) (by rfl)) pe_str pe_str))
      (C8.pss_cut (ps_asg (pe_partition (pv 0) (pv 2)) (pg_tup rfl (pgs_cons (pg_name (i := 3) sc_read_spot.nd rfl (by first | exact Or.inl rfl | exact Or.inr rfl)) (pgs_cons (pg_name (i := 4) sc_read_spot.nd rfl (by first | exact Or.inl rfl | exact Or.inr rfl)) (pgs_cons (pg_name (i := 5) sc_read_spot.nd rfl (by first | exact Or.inl rfl | exact Or.inr rfl)) pgs_nil)))))
      (C8.pss_cut (ps_set (i := 6) sc_read_spot.nd rfl (by first | exact Or.inl rfl | exact Or.inr rfl) (pe_cal C_read_pointer (hr.mono (by decide)) rfl (pa_cons (pv 3) (pa_cons (pv 1) pa_nil))))
      (C8.pss_cut (ps_if (pt_cmpR op_isN (pv 6) pe_non (nomark _)) (pss_one (ps_ret pe_non)) pss_nil)
      (C8.pss_cut (ps_if (pt_not (pt_truth (pv 4) (by intro _; rfl))) (pss_one (ps_ret (pe_tup (pa_cons (pv 6) (pa_cons pe_int pa_nil))))) pss_nil)
      (C8.pss_cut (ps_set (i := 7) sc_read_spot.nd rfl (by first | exact Or.inl rfl | exact Or.inr rfl) (pe_cal C_read_number (hr.mono (by decide)) rfl (pa_cons (pv 5) (pa_cons pe_int (pa_cons (pe_gint (by rfl) T.c_FARTHEST_SPOT) pa_nil)))))
      (C8.pss_cut (ps_if (pt_cmpR op_isN (pv 7) pe_non (nomark _)) (pss_one (ps_ret pe_non)) pss_nil)
      (pss_one (ps_ret (pe_tup (pa_cons (pv 6) (pa_cons (pe_ifExp (pt_cmpR op_eq (pv 2) pe_str (nomark _)) (pv 7) (pe_un un_neg (pv 7))) pa_nil)))))))))))), ?_⟩
  have zm : z ∈ ps := List.mem_of_getElem? hi
  have hz := nm.1 z zm
  have sl := CF.spot_len (k := k) hz.hi (by omega) (by omega)
  have sg := CF.spot_sign hz (k := k) (by omega) (by omega)
  have sp := CF.spot_parts hz (k := k) (by omega) (by omega)
  have big : sizeLine = 16777216 := sizeLine_eq
  generalize hw : CF.spot z k = wd at sl sg sp ⊢
  generalize hf : (if k = 0 then ("" : Str) else CF.sgn k) = fo at sp
  generalize hd : (if k = 0 then ("" : Str) else CF.num (CF.ab k)) = dg at sp
  have i3 : i < ps.length := (List.getElem?_eq_some_iff.mp hi).1
  -- sign
  refine ⟨fun σ' H' => σ' = [some (.str wd), some (.ref a), some (.str (CF.sgn k)), none, none, none, none, none] ∧ H' = H, ?_, ?_⟩
  · refine ⟨_, rfl, 43, wd, rfl, rfl, _, rfl, ?_⟩
    rw [sg]
    unfold CF.sgn
    refine ite2 (fun c => ?_) (fun c => ?_)
    · exact ⟨by rw [if_pos (of_decide_eq_true c)]; rfl, rfl⟩
    · exact ⟨by rw [if_neg (fun e => c (decide_eq_true e))]; rfl, rfl⟩
  rintro σ' H' ⟨rfl, rfl⟩
  -- partition
  refine ⟨fun σ' H1 => σ' = [some (.str wd), some (.ref a), some (.str (CF.sgn k)), some (.str z), some (.str fo), some (.str dg), none, none] ∧ Same H' H1, ?_, ?_⟩
  · refine ⟨_, rfl, ⟨_, rfl⟩, _, rfl, _, _, rfl, rfl, ?_, by omega, fun tp htp => ⟨tp, _, rfl, SqT.of upd_same, rfl, _, _, rfl, _, _, rfl, _, _, rfl, rfl, ?_⟩⟩
    · unfold CF.sgn
      split <;> decide +kernel
    · rw [sp]
      exact ⟨rfl, Same.new htp⟩
  rintro σ' H1 ⟨rfl, s1⟩
  -- pointer
  refine ⟨fun σ' H2 => σ' = [some (.str wd), some (.ref a), some (.str (CF.sgn k)), some (.str z), some (.str fo), some (.str dg), some (.int (i : Nat)), none] ∧ Same H' H2, ?_, ?_⟩
  · refine ⟨_, rfl, _, rfl, z, a, ps, rfl, s1.tup hT, nm, .inl ⟨i, hi, fun H2 s2 => ⟨rfl, s1.trans s2⟩⟩⟩
  rintro σ' H2 ⟨rfl, s2⟩
  refine ⟨fun σ' H3 => σ' = [some (.str wd), some (.ref a), some (.str (CF.sgn k)), some (.str z), some (.str fo), some (.str dg), some (.int (i : Nat)), none] ∧ H3 = H2, ?_, ?_⟩
  · refine ⟨_, rfl, rfl, _, rfl, ite2 (fun c => absurd (of_decide_eq_true c) (fun e => by cases e)) (fun _ => ⟨rfl, rfl⟩)⟩
  rintro σ' H3 ⟨rfl, rfl⟩
  -- found
  refine ⟨fun σ' H4 => σ' = [some (.str wd), some (.ref a), some (.str (CF.sgn k)), some (.str z), some (.str fo), some (.str dg), some (.int (i : Nat)), none] ∧ H4 = H3 ∧ k ≠ 0, ?_, ?_⟩
  · by_cases k0' : k = 0
    · rw [if_pos k0'] at hf
      subst hf
      have e : ("" : Str).length = 0 := rfl
      refine ⟨_, rfl, _, ⟨by rw [e]; omega, rfl⟩, ?_⟩
      refine iteT ⟨_, rfl, by show 2 ≤ sizeLine; decide, fun r hr => ?_⟩
      refine kk r _ (s2.put (s2.free hr)) (s2.free hr) ?_
      rw [k0']
      exact upd_same
    · rw [if_neg k0'] at hf
      have e : fo.length = 1 := by
        rw [← hf]
        unfold CF.sgn
        split <;> rfl
      refine ⟨_, rfl, _, ⟨by rw [e]; omega, rfl⟩, ?_⟩
      have e2 : ((fo.length : Int) != 0) = true := by
        rw [e]
        rfl
      rw [e2]
      exact iteF ⟨rfl, rfl, k0'⟩
  rintro σ' H4 ⟨rfl, rfl, kn⟩
  rw [if_neg kn] at hd
  have an : 1 ≤ CF.ab k ∧ CF.ab k ≤ 30 := by
    unfold CF.ab
    split <;> omega
  refine ⟨fun σ' H5 => σ' = [some (.str wd), some (.ref a), some (.str (CF.sgn k)), some (.str z), some (.str fo), some (.str dg), some (.int (i : Nat)), some (.int (CF.ab k))] ∧ H5 = H4, ?_, ?_⟩
  · exact ⟨_, rfl, CF.ab k, 1, 30, by rw [← hd]; rfl, by omega, by omega, an.1, an.2, rfl, rfl⟩
  rintro σ' H5 ⟨rfl, rfl⟩
  refine ⟨fun σ' H6 => σ' = [some (.str wd), some (.ref a), some (.str (CF.sgn k)), some (.str z), some (.str fo), some (.str dg), some (.int (i : Nat)), some (.int (CF.ab k))] ∧ H6 = H5, ?_, ?_⟩
  · refine ⟨_, rfl, rfl, _, rfl, ite2 (fun c => absurd (of_decide_eq_true c) (fun e => by cases e)) (fun _ => ⟨rfl, rfl⟩)⟩
  rintro σ' H6 ⟨rfl, rfl⟩
  have fin : ∀ r, H6 r = none → Q (.ref r) (upd H6 r (.tup [.int (i : Nat), .int k])) := fun r hr => kk r _ (s2.put (s2.free hr)) (s2.free hr) upd_same
  refine ⟨_, rfl, _, rfl, rfl, _, rfl, ?_⟩
  by_cases kp : 0 < k
  · have e : CF.sgn k = "+" := if_pos kp
    have e2 : CF.ab k = k := if_neg (by omega)
    rw [decide_eq_true (by rw [e]), e2]
    exact iteT ⟨_, rfl, by show 2 ≤ sizeLine; decide, fin⟩
  · have e : CF.sgn k = "-" := if_neg kp
    have e2 : -(CF.ab k) = k := by
      unfold CF.ab
      rw [if_pos (by omega)]
      omega
    have ne : ¬ (V.str (CF.sgn k) = V.str "+") := by
      rw [e]
      intro h
      exact absurd (V.str.inj h) (by decide)
    rw [decide_eq_false ne]
    refine iteF ⟨_, rfl, _, rfl, by show 2 ≤ sizeLine; decide, ?_⟩
    intro r hr
    show Q (.ref r) (upd H6 r (.tup [.int (i : Nat), .int (-(CF.ab k))]))
    rw [e2]
    exact fin r hr

end
end K19
end
section
set_option Elab.async false
set_option linter.all false
set_option maxRecDepth 100000
set_option maxHeartbeats 4000000
namespace K19
open PySem PySem.Spec PyProof.Rows L2
open PySem.W (ke_shaped_ints)
local macro_rules | `(tactic| walk_at "go") => `(tactic| first | refine ⟨_, rfl, ?_⟩ | refine .inl ⟨_, rfl, ?_⟩ | refine ⟨_, _, rfl, rfl, (by first | (show (0 : Int) < _; decide) | exact Or.inl ⟨by decide, by decide⟩ | exact Or.inr ⟨by decide, by decide⟩), ?_⟩ | refine ⟨_, _, rfl, rfl, ?_⟩)
section
variable {P : Program} {w : World} {K : PySem.W.Frag} {mg : Str → Option Value} {base : Heap}
abbrev s_read_pointer : Stmt := topS 21
theorem sc_read_pointer : FnScope ["word", "pointers", "index", "name"] ["word", "pointers"] (defScope s_read_pointer) := ⟨rfl, rfl, rfl, by decide +kernel, rfl, by decide +kernel, by decide +kernel⟩
theorem ok_read_pointer (T : TxtP K mg) (D : Def K mg "read_pointer" s_read_pointer) : Cal P w K mg base 3 "read_pointer" ["word", "pointers"] (spReadPointer K) := by
  refine D.cal sc_read_pointer (fun vs H Q E h => ?_) (fun _ _ _ _ _ _ us hl => match us, hl with | [_, _], _ => rfl) (fun f cdv A outer s H vs Q E hr h => ?_)
  · obtain ⟨z, a, ps, rfl, _⟩ := h
    rfl
  have hu := hu_of hr

  obtain ⟨z, a, ps, rfl, hT, nm, alt⟩ := h
  refine ⟨_, (pss_cons (ps_for PassesOwn.never rfl (pi_enumT (by rfl) T.f_enumerate (pa_cons (pv 1) pa_nil)) (pg_tup rfl (pgs_cons (pg_name (i := 2) sc_read_pointer.nd rfl (by first | exact Or.inl rfl | exact Or.inr rfl)) (pgs_cons (pg_name (i := 3) sc_read_pointer.nd rfl (by first | exact Or.inl rfl | exact Or.inr rfl)) pgs_nil))) (pss_one (ps_if (pt_cmpR op_eq (pv 3) (pv 0) (nomark _)) (pss_one (ps_ret (pv 2))) pss_nil)))
      (pss_one (ps_ret pe_non))), ?_⟩
  obtain ⟨oks, nd, n1, n3⟩ := nm
  refine ⟨_, rfl, a, _, rfl, hT, for_it walk_enumT (fun i σ H2 => ∃ v2 v3, σ = [some (.str z), some (.ref a), v2, v3] ∧ Same H H2 ∧ z ∉ ps.take i) ⟨none, none, rfl, fun _ _ z => z, by simp⟩ (fun i σ H2 _ ⟨_, _, _, s2, _⟩ => s2.tup hT) ?_ ?_⟩
  · rintro i x σ H2 H3 hi ⟨v2, v3, rfl, s2, no⟩ ⟨T0, x1, x2, rfl, hT0, rfl, e1, e2⟩
    cases e1
    have e2' : (ps.map V.str)[i]? = some x2 := e2
    rw [List.getElem?_map] at e2'
    obtain ⟨y, hy, rfl⟩ := Option.map_eq_some_iff.mp e2'
    have s3 := s2.trans (Same.new (o := .tup [.int (i : Nat), .str y]) hT0)
    refine ⟨T0, _, rfl, SqT.of upd_same, rfl, _, _, rfl, _, _, rfl, rfl, ?_⟩
    generalize upd H2 T0 (.tup [.int (i : Nat), .str y]) = H4 at s3 ⊢
    refine ⟨_, rfl, _, rfl, rfl, _, rfl, ite2 (fun c => ?_) (fun c => ?_)⟩
    · have e := V.str.inj (of_decide_eq_true c)
      rw [e] at hy
      rcases alt with ⟨j, hj, k⟩ | ⟨nin, k⟩
      · have ij : i = j := by
          have hi2 := (List.getElem?_eq_some_iff.mp hy).1
          exact (List.getElem?_inj hi2 nd).mp (hy.trans hj.symm)
        rw [← ij] at k
        exact ⟨_, rfl, k _ s3⟩
      · exact absurd (List.mem_of_getElem? hy) nin
    · refine ⟨_, _, rfl, s3, ?_⟩
      rw [List.take_add_one, hy]
      simp only [Option.toList_some, List.mem_append, List.mem_singleton, not_or]
      exact ⟨no, fun e => c (decide_eq_true (by rw [e]))⟩
  · rintro σ H2 ⟨v2, v3, rfl, s2, no⟩
    have nin : z ∉ ps := by
      have : (ps.map V.str).length = ps.length := List.length_map ..
      rw [this, List.take_length] at no
      exact no
    rcases alt with ⟨j, hj, k⟩ | ⟨_, k⟩
    · exact absurd (List.mem_of_getElem? hj) nin
    · exact k _ s2

end
end K19
end
section
set_option Elab.async false
set_option linter.all false
set_option maxRecDepth 100000
set_option maxHeartbeats 4000000
namespace L2
open PySem PySem.Spec PyProof.Rows
/-- a class of the text, made by its __init__ with the promise sp -/
structure Mkc (P : Program) (w : World) (K : PySem.W.Frag) (mg : Str → Option Value) (base : Heap) (k : Nat) (x : Str) (C : Addr) (ps : List Str) (sp : Sp) : Prop where
  ex : ∃ f fd, FnOk P w K mg base CX0 k f fd ps sp ∧ mg x = some (.ref C) ∧ Mk K C f ∧ Binds K fd ps []
section
variable {X : Cx} {k : Nat} {x : Str} {C : Addr} {ps : List Str} {sp : Sp} {e : Expr} {es : List Expr} {t : TA} {p pos : Pos}
theorem pe_mkc (M : Mkc X.prog X.w X.K X.mg X.base k x C ps sp) (hr : Room (k + 1) X.A) (hg : Gl X x) (ha : PA X (e :: es) t) (hdb : (x == ("__debug__" : Str)) = false := by decide)
    (he : starEach (e :: es) X.env = (false, eval e X.env) :: starEach es X.env := by rfl) (hpl : (backTo pos (starEach es X.env)).any (·.1) = false := by rfl) : PE X (.Call (.Name x p) (e :: es) [] pos) (tMake C sp [] E0 t) := by
  obtain ⟨f, fd, G, m, mk, b⟩ := M.ex
  exact pe_make mk G hr hg m b .nil pass0 ha hdb he hpl
end
end L2
end
section
set_option Elab.async false
set_option linter.all false
set_option maxRecDepth 100000
set_option maxHeartbeats 4000000
namespace K19
open PySem PySem.Spec PyProof.Rows L2
open PySem.W (ke_shaped_ints)
local macro_rules | `(tactic| walk_at "go") => `(tactic| first | refine ⟨_, rfl, ?_⟩ | refine .inl ⟨_, rfl, ?_⟩ | refine ⟨_, _, rfl, rfl, (by first | (show (0 : Int) < _; decide) | exact Or.inl ⟨by decide, by decide⟩ | exact Or.inr ⟨by decide, by decide⟩), ?_⟩ | refine ⟨_, _, rfl, rfl, ?_⟩)
section
variable {P : Program} {w : World} {K : PySem.W.Frag} {mg : Str → Option Value} {base : Heap}

/-- kinds_of(word, many) -/
def spKindsOf : Sp := fun vs H Q _ => ∃ (wd : Str) (ks : List Str), vs = [.str wd, .int (ks.length : Nat)] ∧ PL.Kinds wd ks ∧ ∀ (r : Addr) (H' : Hp), Same H H' → H r = none → H' r = some (.lst (ks.map V.str)) → Q (.ref r) H'
theorem form_no {wd f : Str} (h : (wd, f) ∈ PL.forms) : wd ≠ "set" ∧ wd ≠ "give" ∧ f.length + 2 ≤ 100 ∧ (Txt.words f).length ≤ 10 := by
  simp only [PL.forms, List.mem_cons, List.not_mem_nil, or_false, Prod.mk.injEq] at h
  rcases h with ⟨rfl, rfl⟩ | ⟨rfl, rfl⟩ | ⟨rfl, rfl⟩ | ⟨rfl, rfl⟩ | ⟨rfl, rfl⟩ | ⟨rfl, rfl⟩ | ⟨rfl, rfl⟩ | ⟨rfl, rfl⟩ | ⟨rfl, rfl⟩ | ⟨rfl, rfl⟩ | ⟨rfl, rfl⟩ | ⟨rfl, rfl⟩ | ⟨rfl, rfl⟩ | ⟨rfl, rfl⟩ <;> decide +kernel
theorem flat_rep {α : Type} (x : α) : ∀ n : Nat, (List.replicate n [x]).flatten = List.replicate n x
  | 0 => rfl
  | n + 1 => by rw [List.replicate_succ, List.flatten_cons, flat_rep x n]; rfl
abbrev s_kinds_of : Stmt := topS 44
theorem sc_kinds_of : FnScope ["word", "many", "kinds"] ["word", "many"] (defScope s_kinds_of) := ⟨rfl, rfl, rfl, by decide +kernel, rfl, by decide +kernel, by decide +kernel⟩
theorem ok_kinds_of (T : TxtP K mg) (Tq : PL.TxtQ K w mg) (D : Def K mg "kinds_of" s_kinds_of) : Cal P w K mg base 1 "kinds_of" ["word", "many"] spKindsOf := by
  refine D.cal sc_kinds_of (fun vs H Q E h => ?_) (fun _ _ _ _ _ _ us hl => match us, hl with | [_, _], _ => rfl) (fun f cdv A outer s H vs Q E hr h => ?_)
  · obtain ⟨wd, ks, rfl, _⟩ := h
    rfl
  have hu := hu_of hr

  obtain ⟨wd, ks, rfl, hk, k⟩ := h
  obtain ⟨es, nn, Df⟩ := Tq.d_FORMS
  have big : sizeLine = 16777216 := sizeLine_eq
  refine ⟨_, (pss_cons (ps_if (pt_cmpR op_eq (pv 0) pe_str (nomark _)) (pss_one (ps_ret (pe_ifExp (pt_chain op_le op_le pe_int (pv 1) (pe_op op_add pe_int (pe_gint (by rfl) Tq.c_MOST_SET))) (pe_op op_cat (pe_lst (pa_cons pe_str pa_nil)) (pe_op op_rep (pe_lst (pa_cons pe_str pa_nil)) (pe_op op_sub (pv 1) pe_int))) pe_non))) pss_nil)
      (pss_cons (ps_if (pt_cmpR op_eq (pv 0) pe_str (nomark _)) (pss_one (ps_ret (pe_ifExp (pt_chain op_le op_le pe_int (pv 1) (pe_gint (by rfl) Tq.c_MOST_GIVEN)) (pe_op op_rep (pe_lst (pa_cons pe_str pa_nil)) (pv 1)) pe_non))) pss_nil)
      (pss_cons (ps_set (i := 2) sc_kinds_of.nd rfl (by first | exact Or.inl rfl | exact Or.inr rfl) (pe_ifExp (pt_cmpR (op_in_kd Df) (pv 0) (pe_gref (by rfl) Tq.g_FORMS) (by rfl)) (pe_words (pe_ix ix_kdict (pe_gref (by rfl) Tq.g_FORMS) (pv 0) (fun _ _ => rfl))) (pe_lst pa_nil)))
      (pss_one (ps_ret (pe_ifExp (PW.pt (pw_and (pt_cmpR (op_in_kd Df) (pv 0) (pe_gref (by rfl) Tq.g_FORMS) (by rfl)) (pw_and1 (pt_cmpR op_eq (pe_callB call_len (by rfl) T.f_len PySem.boot_len (pa_cons (pv 2) pa_nil)) (pv 1) (nomark _))))) (pv 2) pe_non)))))), ?_⟩
  cases hk with
  | form hf =>
    rename_i f
    obtain ⟨n1, n2, n3, n4⟩ := form_no hf
    obtain ⟨t, e⟩ := Tq.v_FORMS _ _ hf
    refine ⟨_, rfl, rfl, _, rfl, ite2 (fun c => absurd (V.str.inj (of_decide_eq_true c)) n1) (fun _ => ?_)⟩
    refine ⟨_, rfl, rfl, _, rfl, ite2 (fun c => absurd (V.str.inj (of_decide_eq_true c)) n2) (fun _ => ?_)⟩
    refine ⟨_, rfl, wd, _, rfl, rfl, e, _, rfl, iteT ?_⟩
    refine ⟨_, rfl, _, wd, .str f, rfl, rfl, PL.kdct Tq.d_FORMS e ⟨t, rfl⟩, ⟨f, rfl⟩, f, rfl, rfl, by omega, fun r hr => ?_⟩
    refine ⟨_, rfl, wd, _, rfl, rfl, e, _, rfl, iteT ?_⟩
    refine ⟨_, rfl, _, _, rfl, .inl ⟨_, SqL.of upd_same, rfl⟩, _, rfl, rfl, _, rfl, ?_⟩
    rw [decide_eq_true (by rw [List.length_map])]
    exact iteT ⟨_, rfl, k r _ (Same.new hr) hr upd_same⟩
  | set n h1 h2 =>
    have ln : (("name" : Str) :: List.replicate n ("cell" : Str)).length = n + 1 := by rw [List.length_cons, List.length_replicate]
    rw [ln]
    refine ⟨_, rfl, rfl, _, rfl, ite2 (fun _ => ?_) (fun c => absurd (decide_eq_true rfl) c)⟩
    refine ⟨_, rfl, _, _, rfl, rfl, _, rfl, ite2 (fun _ => ?_) (fun c => absurd (decide_eq_true (by omega)) c)⟩
    refine ⟨_, _, rfl, rfl, _, _, rfl, rfl, _, rfl, ite2 (fun _ => ?_) (fun c => absurd (decide_eq_true (by omega)) c)⟩
    refine ⟨by show 1 ≤ sizeLine; decide, fun l hl => ?_⟩
    refine ⟨by show 1 ≤ sizeLine; decide, fun l2 hl2 => ?_⟩
    have h1l := Same.new (o := .lst [.str "cell"]) hl2 _ _ (upd_same (H := H) (a := l) (o := .lst [.str "name"]))
    have s2 := (Same.new (o := .lst [.str "name"]) hl).trans (Same.new (o := .lst [.str "cell"]) hl2)
    have h2l : upd (upd H l (.lst [.str "name"])) l2 (.lst [.str "cell"]) l2 = some (.lst [.str "cell"]) := upd_same
    generalize upd (upd H l (.lst [.str "name"])) l2 (.lst [.str "cell"]) = H2 at h1l h2l s2 ⊢
    refine ⟨_, rfl, _, _, rfl, rfl, l2, _, _, rfl, rfl, h2l, by omega, by omega, by rw [List.length_singleton]; omega, fun l3 hl3 => ?_⟩
    have e3 : (List.replicate (((n + 1 : Nat) : Int) - 1).toNat [V.str "cell"]).flatten = (List.replicate n ("cell" : Str)).map V.str := by
      have e : (((n + 1 : Nat) : Int) - 1).toNat = n := by omega
      rw [e, List.map_replicate]
      exact flat_rep _ _
    rw [e3]
    have h1m := Same.new (o := .lst ((List.replicate n ("cell" : Str)).map V.str)) hl3 _ _ h1l
    have s3 := s2.trans (Same.new (o := .lst ((List.replicate n ("cell" : Str)).map V.str)) hl3)
    refine ⟨l, l3, _, _, rfl, rfl, h1m, upd_same, by rw [List.length_map, List.length_replicate, List.length_singleton]; omega, fun p hp => ?_⟩
    exact k p _ (s3.trans (Same.new hp)) (Same.free s3 hp) upd_same
  | give n h1 h2 =>
    have ln : (List.replicate n ("name" : Str)).length = n := List.length_replicate
    rw [ln]
    refine ⟨_, rfl, rfl, _, rfl, ite2 (fun c => absurd (of_decide_eq_true c) (by decide)) (fun _ => ?_)⟩
    refine ⟨_, rfl, rfl, _, rfl, ite2 (fun _ => ?_) (fun c => absurd (decide_eq_true rfl) c)⟩
    refine ⟨_, rfl, _, _, rfl, rfl, _, rfl, ite2 (fun _ => ?_) (fun c => absurd (decide_eq_true (by omega)) c)⟩
    refine ⟨_, _, rfl, rfl, _, rfl, ite2 (fun _ => ?_) (fun c => absurd (decide_eq_true (by omega)) c)⟩
    refine ⟨by show 1 ≤ sizeLine; decide, fun l hl => ?_⟩
    refine ⟨_, rfl, l, _, _, rfl, rfl, upd_same, by omega, by omega, by rw [List.length_singleton]; omega, fun l3 hl3 => ?_⟩
    have e3 : (List.replicate ((n : Nat) : Int).toNat [V.str "name"]).flatten = (List.replicate n ("name" : Str)).map V.str := by
      rw [Int.toNat_natCast, List.map_replicate, flat_rep]
    rw [e3]
    have s3 := (Same.new (o := .lst [.str "name"]) hl).trans (Same.new (o := .lst ((List.replicate n ("name" : Str)).map V.str)) hl3)
    exact k l3 _ s3 (Same.free (Same.new hl) hl3) upd_same

end
end K19
end
section
set_option Elab.async false
set_option linter.all false
set_option maxRecDepth 100000
set_option maxHeartbeats 4000000
namespace K19
open PySem PySem.Spec PyProof.Rows L2
open PySem.W (ke_shaped_ints)
local macro_rules | `(tactic| walk_at "go") => `(tactic| first | refine ⟨_, rfl, ?_⟩ | refine .inl ⟨_, rfl, ?_⟩ | refine ⟨_, _, rfl, rfl, (by first | (show (0 : Int) < _; decide) | exact Or.inl ⟨by decide, by decide⟩ | exact Or.inr ⟨by decide, by decide⟩), ?_⟩ | refine ⟨_, _, rfl, rfl, ?_⟩)
section
variable {P : Program} {w : World} {K : PySem.W.Frag} {mg : Str → Option Value} {base : Heap}

/-- read_word(kind, word, pointers) -/
def spReadWord (K : PySem.W.Frag) : Sp := fun vs H Q _ => ∃ (a : Addr) (ps : List Str) (d : PL.Wd), vs = [.str d.kind, .str d.text, .ref a] ∧ SqT K H a (ps.map V.str) ∧ CF.Names ps ∧ d.Ok ps ∧ ∀ (v : V) (H' : Hp), Same H H' → PL.Val H' ps d v → Q v H'
theorem kind_no {kd : Str} {lo hi : Int} (h : (kd, lo, hi) ∈ PL.ranges) : kd ≠ "name" ∧ kd ≠ "spot" ∧ kd ≠ "pointer" ∧ kd ∉ PL.Fixed := by
  simp only [PL.ranges, List.mem_cons, List.not_mem_nil, or_false, Prod.mk.injEq] at h
  rcases h with ⟨rfl, _⟩ | ⟨rfl, _⟩ | ⟨rfl, _⟩ | ⟨rfl, _⟩ | ⟨rfl, _⟩ | ⟨rfl, _⟩ | ⟨rfl, _⟩ <;> decide +kernel
abbrev s_read_word : Stmt := topS 45
theorem sc_read_word : FnScope ["kind", "word", "pointers", "low", "high", "number"] ["kind", "word", "pointers"] (defScope s_read_word) := ⟨rfl, rfl, rfl, by decide +kernel, rfl, by decide +kernel, by decide +kernel⟩
theorem ok_read_word (T : TxtP K mg) (Tq : PL.TxtQ K w mg) (D : Def K mg "read_word" s_read_word) (C_is_name : Cal P w K mg base 1 "is_name" ["word"] spName) (C_read_spot : Cal P w K mg base 4 "read_spot" ["word", "pointers"] (spReadSpot K)) (C_read_pointer : Cal P w K mg base 3 "read_pointer" ["word", "pointers"] (spReadPointer K)) (C_read_number : Cal P w K mg base 1 "read_number" ["word", "low", "high"] spReadNumber) : Cal P w K mg base 5 "read_word" ["kind", "word", "pointers"] (spReadWord K) := by
  refine D.cal sc_read_word (fun vs H Q E h => ?_) (fun _ _ _ _ _ _ us hl => match us, hl with | [_, _, _], _ => rfl) (fun f cdv A outer s H vs Q E hr h => ?_)
  · obtain ⟨a, ps, d, rfl, _⟩ := h
    rfl
  have hu := hu_of hr

  obtain ⟨a, ps, d, rfl, hT, nm, ok, k⟩ := h
  refine ⟨_, (pss_cons (ps_if (pt_cmpR op_eq (pv 0) pe_str (nomark _)) (pss_one (ps_ret (pe_ifExp (pt_val (pe_cal C_is_name (hr.mono (by decide)) rfl (pa_cons (pv 1) pa_nil))) (pv 1) pe_non))) pss_nil)
      (pss_cons (ps_if (pt_cmpR op_eq (pv 0) pe_str (nomark _)) (pss_one (ps_ret (pe_cal C_read_spot (hr.mono (by decide)) rfl (pa_cons (pv 1) (pa_cons (pv 2) pa_nil))))) pss_nil)
      (pss_cons (ps_if (pt_cmpR op_eq (pv 0) pe_str (nomark _)) (pss_one (ps_ret (pe_cal C_read_pointer (hr.mono (by decide)) rfl (pa_cons (pv 1) (pa_cons (pv 2) pa_nil))))) pss_nil)
      (pss_cons (ps_if (pt_cmpR op_in_seq (pv 0) (pe_gref (by rfl) Tq.g_FIXED) (by rfl)) (pss_one (ps_ret (pe_ifExp (pt_cmpR op_eq (pv 1) (pv 0) (nomark _)) (pv 1) pe_non))) pss_nil)
      (pss_cons (ps_asg (pe_ix ix_kdict (pe_gref (by rfl) Tq.g_RANGES) (pv 0) (fun _ _ => rfl)) (pg_tup rfl (pgs_cons (pg_name (i := 3) sc_read_word.nd rfl (by first | exact Or.inl rfl | exact Or.inr rfl)) (pgs_cons (pg_name (i := 4) sc_read_word.nd rfl (by first | exact Or.inl rfl | exact Or.inr rfl)) pgs_nil))))
      (pss_cons (ps_set (i := 5) sc_read_word.nd rfl (by first | exact Or.inl rfl | exact Or.inr rfl) (pe_cal C_read_number (hr.mono (by decide)) rfl (pa_cons (pv 1) (pa_cons (pv 3) (pa_cons (pv 4) pa_nil)))))
      (pss_one (ps_ret (pe_ifExp (PW.pt (pw_and (pt_cmpR op_eq (pv 0) pe_str (nomark _)) (pw_and1 (pt_cmpR op_notIn_seq (pv 5) (pe_gref (by rfl) Tq.g_CHUNKS) (by rfl))))) pe_non (pv 5)))))))))), ?_⟩
  cases d with
  | name z =>
    refine ⟨_, rfl, rfl, _, rfl, ite2 (fun _ => ?_) (fun c => absurd (decide_eq_true rfl) c)⟩
    refine ⟨_, rfl, z, rfl, ok, fun H' s => ⟨_, rfl, iteT ?_⟩⟩
    exact ⟨_, rfl, k _ H' s rfl⟩
  | spot z n =>
    have nk : (PL.Wd.spot z n).kind ≠ "name" := show ("spot" : Str) ≠ "name" by decide +kernel
    obtain ⟨hz, n0, n1⟩ := ok
    obtain ⟨i, hi⟩ := List.mem_iff_getElem?.mp hz
    refine ⟨_, rfl, rfl, _, rfl, ite2 (fun c => absurd (V.str.inj (of_decide_eq_true c)) nk) (fun _ => ?_)⟩
    refine ⟨_, rfl, rfl, _, rfl, ite2 (fun _ => ?_) (fun c => absurd (decide_eq_true rfl) c)⟩
    exact ⟨_, rfl, _, rfl, z, n, i, a, ps, rfl, hT, nm, hi, n0, n1, fun r H' s f hr => k _ H' s ⟨r, i, rfl, hi, hr⟩⟩
  | ptr z =>
    have nk1 : (PL.Wd.ptr z).kind ≠ "name" := show ("pointer" : Str) ≠ "name" by decide +kernel
    have nk2 : (PL.Wd.ptr z).kind ≠ "spot" := show ("pointer" : Str) ≠ "spot" by decide +kernel
    obtain ⟨i, hi⟩ := List.mem_iff_getElem?.mp (show z ∈ ps from ok)
    refine ⟨_, rfl, rfl, _, rfl, ite2 (fun c => absurd (V.str.inj (of_decide_eq_true c)) nk1) (fun _ => ?_)⟩
    refine ⟨_, rfl, rfl, _, rfl, ite2 (fun c => absurd (V.str.inj (of_decide_eq_true c)) nk2) (fun _ => ?_)⟩
    refine ⟨_, rfl, rfl, _, rfl, ite2 (fun _ => ?_) (fun c => absurd (decide_eq_true rfl) c)⟩
    exact ⟨_, rfl, _, rfl, z, a, ps, rfl, hT, nm, .inl ⟨i, hi, fun H' s => k _ H' s ⟨i, hi, rfl⟩⟩⟩
  | fix z =>
    have hz : z ∈ PL.Fixed := ok
    have nz : z ≠ "name" ∧ z ≠ "spot" ∧ z ≠ "pointer" := by
      simp only [PL.Fixed, List.mem_cons, List.not_mem_nil, or_false] at hz
      rcases hz with rfl | rfl <;> decide +kernel
    refine ⟨_, rfl, rfl, _, rfl, ite2 (fun c => absurd (V.str.inj (of_decide_eq_true c)) nz.1) (fun _ => ?_)⟩
    refine ⟨_, rfl, rfl, _, rfl, ite2 (fun c => absurd (V.str.inj (of_decide_eq_true c)) nz.2.1) (fun _ => ?_)⟩
    refine ⟨_, rfl, rfl, _, rfl, ite2 (fun c => absurd (V.str.inj (of_decide_eq_true c)) nz.2.2) (fun _ => ?_)⟩
    refine ⟨_, rfl, _, _, rfl, .inr (Tq.t_FIXED _), rfl, CF.flat_strs _, _, rfl, ?_⟩
    rw [if_neg (by decide), CF.inV_strs, decide_eq_true (show (PL.Wd.fix z).kind ∈ PL.Fixed from hz)]
    refine iteT ?_
    refine ⟨_, rfl, _, rfl, rfl, _, rfl, ite2 (fun _ => ?_) (fun c => absurd (decide_eq_true rfl) c)⟩
    exact ⟨_, rfl, k _ H (fun _ _ h => h) rfl⟩
  | num kd n =>
    obtain ⟨n0, n1, ⟨lo, hi, hm, l0, l1⟩, hc⟩ := ok
    obtain ⟨k1, k2, k3, k4⟩ := kind_no hm
    obtain ⟨t, e, ht⟩ := Tq.v_RANGES _ _ _ hm
    refine ⟨_, rfl, rfl, _, rfl, ite2 (fun c => absurd (V.str.inj (of_decide_eq_true c)) k1) (fun _ => ?_)⟩
    refine ⟨_, rfl, rfl, _, rfl, ite2 (fun c => absurd (V.str.inj (of_decide_eq_true c)) k2) (fun _ => ?_)⟩
    refine ⟨_, rfl, rfl, _, rfl, ite2 (fun c => absurd (V.str.inj (of_decide_eq_true c)) k3) (fun _ => ?_)⟩
    refine ⟨_, rfl, _, _, rfl, .inr (Tq.t_FIXED _), rfl, CF.flat_strs _, _, rfl, ?_⟩
    rw [if_neg (by decide), CF.inV_strs, decide_eq_false (show (PL.Wd.num kd n).kind ∉ PL.Fixed from k4)]
    refine iteF ?_
    refine ⟨_, rfl, _, kd, .ref t, rfl, rfl, PL.kdct Tq.d_RANGES e rfl, t, _, rfl, ht _, rfl, ?_⟩
    refine ⟨_, _, rfl, _, _, rfl, rfl, ?_⟩
    refine ⟨_, rfl, _, rfl, _, rfl, n, lo, hi, rfl, n0, n1, l0, l1, ?_⟩
    refine ⟨_, rfl, rfl, _, rfl, ite2 (fun c => ?_) (fun _ => ⟨_, rfl, k _ H (fun _ _ h => h) rfl⟩)⟩
    have hn := hc (V.str.inj (of_decide_eq_true c))
    refine ⟨_, rfl, _, _, rfl, .inr (Tq.t_CHUNKS _), rfl, rfl, _, rfl, ?_⟩
    have inm : inV (.int n) [.int 1, .int 2, .int 4, .int 8] = true := by
      rcases hn with rfl | rfl | rfl | rfl <;> decide
    rw [if_pos rfl, inm]
    exact iteF ⟨_, rfl, k _ H (fun _ _ h => h) rfl⟩

end
end K19
end
section
set_option Elab.async false
set_option linter.all false
set_option maxRecDepth 100000
set_option maxHeartbeats 4000000
namespace K19
open PySem PySem.Spec PyProof.Rows L2
open PySem.W (ke_shaped_ints)
local macro_rules | `(tactic| walk_at "go") => `(tactic| first | refine ⟨_, rfl, ?_⟩ | refine .inl ⟨_, rfl, ?_⟩ | refine ⟨_, _, rfl, rfl, (by first | (show (0 : Int) < _; decide) | exact Or.inl ⟨by decide, by decide⟩ | exact Or.inr ⟨by decide, by decide⟩), ?_⟩ | refine ⟨_, _, rfl, rfl, ?_⟩)
section
variable {P : Program} {w : World} {K : PySem.W.Frag} {mg : Str → Option Value} {base : Heap}

/-- read_line(line, pointers, functions) of a right line that is neither when nor call -/
def spReadLine (K : PySem.W.Frag) : Sp := fun vs H Q _ => ∃ (a : Addr) (ps : List Str) (l : PL.Ln) (fv : V), vs = [.str l.text, .ref a, fv] ∧ SqT K H a (ps.map V.str) ∧ CF.Names ps ∧ l.Ok ps ∧ ∀ (r : Addr) (H' : Hp), Same H H' → H r = none → PL.RowAt H' ps l r → Q (.ref r) H'
theorem Val.put {H : Hp} {ps : List Str} {d : PL.Wd} {v : V} {p : Addr} {xs : List V} {o : HO} (h : PL.Val H ps d v) (hp : H p = some (.lst xs)) : PL.Val (upd H p o) ps d v := by
  cases d with
  | spot z k =>
    obtain ⟨r, i, a, b, c⟩ := h
    exact ⟨r, i, a, b, by rw [upd_ne (ne_of c hp (by intro z; cases z))]; exact c⟩
  | _ => exact h
theorem paired_put {H : Hp} {ps : List Str} {p : Addr} {xs : List V} {o : HO} (hp : H p = some (.lst xs)) : ∀ {ds : List PL.Wd} {vs : List V}, Paired (PL.Val H ps) ds vs → Paired (PL.Val (upd H p o) ps) ds vs
  | _, _, .nil => .nil
  | _, _, .cons r t => .cons (Val.put r hp) (paired_put hp t)
/-- a list that is new since H0 is changed -/
theorem same_put {H0 H : Hp} {p : Addr} {o u : HO} (s : Same H0 H) (h0 : H0 p = none) (hp : H p = some u) : Same H0 (upd H p o) := fun c v e => by rw [upd_ne (ne_of_none e h0)]; exact s c v e
theorem cut_one (x : V) (xs : List V) : cutV (x :: xs) (some 1) none = xs := by
  unfold cutV HT.sIx
  simp
theorem kinds_word {wd : Str} {ks : List Str} (h : PL.Kinds wd ks) : wd.length ≤ 12 ∧ 32 ∉ TL.tl wd ∧ 10 ∉ TL.tl wd ∧ 1 ≤ wd.length ∧ wd ≠ "when" ∧ wd ≠ "call" ∧ ks.length ≤ 9 := by
  cases h with
  | form hf =>
    simp only [PL.forms, List.mem_cons, List.not_mem_nil, or_false, Prod.mk.injEq] at hf
    rcases hf with ⟨rfl, rfl⟩ | ⟨rfl, rfl⟩ | ⟨rfl, rfl⟩ | ⟨rfl, rfl⟩ | ⟨rfl, rfl⟩ | ⟨rfl, rfl⟩ | ⟨rfl, rfl⟩ | ⟨rfl, rfl⟩ | ⟨rfl, rfl⟩ | ⟨rfl, rfl⟩ | ⟨rfl, rfl⟩ | ⟨rfl, rfl⟩ | ⟨rfl, rfl⟩ | ⟨rfl, rfl⟩ <;> decide +kernel
  | set n h1 h2 => exact ⟨by decide +kernel, by decide +kernel, by decide +kernel, by decide +kernel, by decide +kernel, by decide +kernel, by rw [List.length_cons, List.length_replicate]; omega⟩
  | give n h1 h2 => exact ⟨by decide +kernel, by decide +kernel, by decide +kernel, by decide +kernel, by decide +kernel, by decide +kernel, by rw [List.length_replicate]; omega⟩
theorem wd_text {ps : List Str} (nm : CF.Names ps) {d : PL.Wd} (h : d.Ok ps) : d.text.length ≤ 30 ∧ 32 ∉ TL.tl d.text ∧ 10 ∉ TL.tl d.text := by
  cases d with
  | name z =>
    have hz : CF.NameOk z := h
    exact ⟨Nat.le_trans hz.hi (by decide), hz.no (by decide), hz.no (by decide)⟩
  | ptr z =>
    have hz : CF.NameOk z := nm.1 z h
    exact ⟨Nat.le_trans hz.hi (by decide), hz.no (by decide), hz.no (by decide)⟩
  | spot z k =>
    obtain ⟨h0, h1, h2⟩ := h
    have hz : CF.NameOk z := nm.1 z h0
    exact ⟨CF.spot_len hz.hi (by omega) (by omega), CF.spot_space hz (by omega) (by omega) (.inl rfl), CF.spot_space hz (by omega) (by omega) (.inr rfl)⟩
  | fix z =>
    have hz : z ∈ PL.Fixed := h
    simp only [PL.Fixed, List.mem_cons, List.not_mem_nil, or_false] at hz
    rcases hz with rfl | rfl <;> decide +kernel
  | num kd n =>
    obtain ⟨n0, n1, _⟩ := h
    exact ⟨Nat.le_trans (CF.num_len3 n0 n1) (by decide), (CF.num_space3 n0 n1).1, (CF.num_space3 n0 n1).2⟩
theorem ln_words {ps : List Str} (nm : CF.Names ps) {l : PL.Ln} (h : l.Ok ps) : ∀ x ∈ l.words, x.length ≤ 30 ∧ 32 ∉ TL.tl x ∧ 10 ∉ TL.tl x := by
  intro x hx
  rcases List.mem_cons.mp hx with rfl | hx
  · obtain ⟨k1, k2, k3, _⟩ := kinds_word h.kinds
    exact ⟨Nat.le_trans k1 (by decide), k2, k3⟩
  · obtain ⟨d, hd, rfl⟩ := List.mem_map.mp hx
    exact wd_text nm (h.ds d hd)
theorem ln_split {ps : List Str} (nm : CF.Names ps) {l : PL.Ln} (h : l.Ok ps) : Txt.split l.text " " = l.words :=
  TL.split_join (s := 32) (S := []) rfl (by decide +kernel) (by unfold PL.Ln.words; simp) fun p hp => (ln_words nm h p hp).2.1
theorem ln_len {ps : List Str} (nm : CF.Names ps) {l : PL.Ln} (h : l.Ok ps) : l.text.length ≤ 400 := by
  have h1 := CF.join_len " " l.words
  have h2 := CF.sum_le (ws := l.words) (b := 30) fun x hx => (ln_words nm h x hx).1
  have h3 : l.words.length ≤ 10 := by
    have := (kinds_word h.kinds).2.2.2.2.2.2
    rw [List.length_map] at this
    unfold PL.Ln.words
    rw [List.length_cons, List.length_map]
    omega
  have h4 : (" " : Str).length = 1 := by decide +kernel
  rw [h4] at h1
  have : l.text = Txt.join " " l.words := rfl
  rw [this]
  omega
/-- what a word tells, as data -/
theorem val_dat {K : PySem.W.Frag} {H : Hp} {ps : List Str} (nm : CF.Names ps) {d : PL.Wd} {v : V} (ok : d.Ok ps) (h : PL.Val H ps d v) : ∃ dd, Dp K H v dd ∧ PyData.canLay0 dd = true ∧ dd.depth ≤ 1 ∧ PyData.eqv dd .none = false := by
  have str : ∀ z : Str, CF.Lo z → ∃ dd, Dp K H (.str z) dd ∧ PyData.canLay0 dd = true ∧ dd.depth ≤ 1 ∧ PyData.eqv dd .none = false := fun z hz => ⟨.str z, .str z, (CF.flat_str hz).1, Nat.zero_le _, rfl⟩
  have int : ∀ n : Int, ∃ dd, Dp K H (.int n) dd ∧ PyData.canLay0 dd = true ∧ dd.depth ≤ 1 ∧ PyData.eqv dd .none = false := fun n => ⟨.int n, .int n, rfl, Nat.zero_le _, rfl⟩
  cases d with
  | name z =>
    rw [show v = .str z from h]
    exact str z (CF.NameOk.lo_ ok)
  | ptr z =>
    obtain ⟨i, _, rfl⟩ := h
    exact int _
  | spot z k =>
    obtain ⟨r, i, rfl, _, hr⟩ := h
    refine ⟨.tuple [.int (i : Nat), .int k], .tup (SqT.of hr) (.cons (.int _) (.cons (.int _) .nil)), rfl, Nat.le_refl _, rfl⟩
  | fix z =>
    rw [show v = .str z from h]
    refine str z ?_
    have hz : z ∈ PL.Fixed := ok
    simp only [PL.Fixed, List.mem_cons, List.not_mem_nil, or_false] at hz
    rcases hz with rfl | rfl <;> decide +kernel
  | num kd n =>
    rw [show v = .int n from h]
    exact int n
theorem vals_dat {K : PySem.W.Frag} {H : Hp} {ps : List Str} (nm : CF.Names ps) : ∀ {ds : List PL.Wd} {vs : List V}, (∀ d ∈ ds, d.Ok ps) → Paired (PL.Val H ps) ds vs →
    ∃ dd, DpAll K H vs dd ∧ PyData.canLayAll0 dd = true ∧ PyData.depthAll dd ≤ 1 ∧ (dd.any fun z => PyData.eqv z .none) = false
  | _, _, _, .nil => ⟨[], .nil, rfl, Nat.zero_le _, rfl⟩
  | _, _, ok, .cons r t => by
    obtain ⟨d1, a1, a2, a3, a4⟩ := val_dat (K := K) nm (ok _ List.mem_cons_self) r
    obtain ⟨dd, b1, b2, b3, b4⟩ := vals_dat (K := K) nm (fun x hx => ok x (List.mem_cons_of_mem _ hx)) t
    refine ⟨d1 :: dd, .cons a1 b1, ?_, ?_, ?_⟩
    · show (PyData.canLay0 d1 && PyData.canLayAll0 dd) = true
      rw [a2, b2]; rfl
    · show max (PyData.depth d1) (PyData.depthAll dd) ≤ 1
      omega
    · rw [List.any_cons, a4, b4]; rfl
theorem paired_len {α β : Type} {R : α → β → Prop} : ∀ {xs : List α} {ys : List β}, Paired R xs ys → xs.length = ys.length
  | _, _, .nil => rfl
  | _, _, .cons _ t => by rw [List.length_cons, List.length_cons, paired_len t]
theorem paired_at {α β : Type} {R : α → β → Prop} : ∀ {xs : List α} {ys : List β} {i : Nat} {x : α} {y : β}, Paired R xs ys → xs[i]? = some x → ys[i]? = some y → R x y
  | _, _, 0, _, _, .cons r _, h1, h2 => by
    rw [List.getElem?_cons_zero, Option.some.injEq] at h1 h2
    subst h1 h2
    exact r
  | _, _, i + 1, _, _, .cons _ t, h1, h2 => by
    rw [List.getElem?_cons_succ] at h1 h2
    exact paired_at t h1 h2
theorem paired_snoc {α β : Type} {R : α → β → Prop} {x : α} {y : β} (r : R x y) : ∀ {xs : List α} {ys : List β}, Paired R xs ys → Paired R (xs ++ [x]) (ys ++ [y])
  | _, _, .nil => .cons r .nil
  | _, _, .cons a t => .cons a (paired_snoc r t)
def toldB (d : PL.Wd) : Bool := match d with | .fix _ => false | _ => true
theorem told_eq (l : PL.Ln) : l.told = l.ds.filter toldB := rfl
theorem fixed_kind {ps : List Str} {d : PL.Wd} (h : d.Ok ps) : decide (d.kind ∈ PL.Fixed) = !toldB d := by
  cases d with
  | fix z => exact decide_eq_true (show z ∈ PL.Fixed from h)
  | num kd n =>
    obtain ⟨_, _, ⟨lo, hi, hm, _⟩, _⟩ := h
    exact decide_eq_false (kind_no hm).2.2.2
  | name z => exact decide_eq_false (show ("name" : Str) ∉ PL.Fixed by decide +kernel)
  | spot z k => exact decide_eq_false (show ("spot" : Str) ∉ PL.Fixed by decide +kernel)
  | ptr z => exact decide_eq_false (show ("pointer" : Str) ∉ PL.Fixed by decide +kernel)
abbrev s_read_line : Stmt := topS 42
theorem sc_read_line : FnScope ["line", "pointers", "functions", "words", "fact", "kinds", "told", "kind", "word", "one"] ["line", "pointers", "functions"] (defScope s_read_line) := ⟨rfl, rfl, rfl, by decide +kernel, rfl, by decide +kernel, by decide +kernel⟩
theorem ok_read_line (T : TxtP K mg) (Tq : PL.TxtQ K w mg) (D : Def K mg "read_line" s_read_line) (C_read_word : Cal P w K mg base 5 "read_word" ["kind", "word", "pointers"] (spReadWord K)) (C_kinds_of : Cal P w K mg base 1 "kinds_of" ["word", "many"] spKindsOf) : Cal P w K mg base 6 "read_line" ["line", "pointers", "functions"] (spReadLine K) := by
  refine D.cal sc_read_line (fun vs H Q E h => ?_) (fun _ _ _ _ _ _ us hl => match us, hl with | [_, _, _], _ => rfl) (fun f cdv A outer s H vs Q E hr h => ?_)
  · obtain ⟨a, ps, l, fv, rfl, _⟩ := h
    rfl
  have hu := hu_of hr

  obtain ⟨a, ps, l, fv, rfl, hT, nm, ok, k⟩ := h
  have big : sizeLine = 16777216 := sizeLine_eq
  obtain ⟨w1, w2, w3, w4, w5, w6, w7⟩ := kinds_word ok.kinds
  have tl := ln_len nm ok
  have kl : (l.ds.map PL.Wd.kind).length = l.ds.length := List.length_map ..
  rw [kl] at w7
  refine ⟨_, (pss_cons (ps_set (i := 3) sc_read_line.nd rfl (by first | exact Or.inl rfl | exact Or.inr rfl) (pe_split (pv 0) pe_str))
      (pss_cons (ps_if (pt_cmpR op_eq (pe_ix ix_list (pv 3) pe_int (fun _ _ => rfl)) pe_str (nomark _)) (pss_cons (ps_set (i := 4) sc_read_line.nd rfl (by first | exact Or.inl rfl | exact Or.inr rfl) PL.pe_never)
      (pss_one (ps_ret (pe_ifExp (pt_cmpR op_isN (pv 4) pe_non (nomark _)) pe_non (pe_tup (pa_cons pe_str (pa_cons (pe_tup (pa_cons (pv 4) pa_nil)) pa_nil))))))) pss_nil)
      (pss_cons (ps_if (pt_cmpR op_eq (pe_ix ix_list (pv 3) pe_int (fun _ _ => rfl)) pe_str (nomark _)) (pss_one (ps_ret PL.pe_never)) pss_nil)
      (pss_cons (ps_set (i := 5) sc_read_line.nd rfl (by first | exact Or.inl rfl | exact Or.inr rfl) (pe_cal C_kinds_of (hr.mono (by decide)) rfl (pa_cons (pe_ix ix_list (pv 3) pe_int (fun _ _ => rfl)) (pa_cons (pe_op op_sub (pe_callB call_len (by rfl) T.f_len PySem.boot_len (pa_cons (pv 3) pa_nil)) pe_int) pa_nil))))
      (pss_cons (ps_if (pt_cmpR op_isN (pv 5) pe_non (nomark _)) (pss_one (ps_ret pe_non)) pss_nil)
      (pss_cons (ps_setLc (i := 6) (own := [("kind", 7), ("word", 8)]) (g := gTup K 2 (gCons (gName 7) (gCons (gName 8) (gNil)))) (tt := tYes) rfl sc_read_line.nd rfl rfl (sw_true rfl rfl rfl (by decide +kernel)) (pi_zip (by rfl) Tq.f_zip (pa_cons (pv 5) (pa_cons (pe_slice sl_list (pv 3) (po_some pe_int) po_none) pa_nil))) (blkOk_by (N := ["line", "pointers", "functions", "words", "fact", "kinds", "told", "kind", "word", "one"]) (sc := defScope s_read_line) (by decide +kernel)) (fun _ _ _ _ _ => (pg_tup rfl (pgs_cons (pg_name (i := 7) sc_read_line.nd rfl (by first | exact Or.inl rfl | exact Or.inr rfl)) (pgs_cons (pg_name (i := 8) sc_read_line.nd rfl (by first | exact Or.inl rfl | exact Or.inr rfl)) pgs_nil)))) (fun _ _ _ _ _ => pts_nil) (fun _ _ _ _ _ => (pe_cal C_read_word (hr.mono (by decide)) rfl (pa_cons (pv 7) (pa_cons (pv 8) (pa_cons (pv 1) pa_nil))))))
      (pss_cons (ps_if (pt_cmpR (op_inD (units65 hr)) pe_non (pv 6) (by rfl)) (pss_one (ps_ret pe_non)) pss_nil)
      (pss_one (ps_ret (pe_tup (pa_cons (pe_ix ix_list (pv 3) pe_int (fun _ _ => rfl)) (pa_cons (pe_callTy call_tuple_of (by rfl) T.f_tuple (by decide +kernel) (pa_cons (pe_lc (own := [("kind", 7), ("one", 9)]) (g := gTup K 2 (gCons (gName 7) (gCons (gName 9) (gNil)))) (tt := tTest (tOp (rIn K true) (tVar 7) (tC (.ref (He.ga K "FIXED"))))) rfl sc_read_line.nd (pi_zip (by rfl) Tq.f_zip (pa_cons (pv 5) (pa_cons (pv 6) pa_nil))) (blkOk_by (N := ["line", "pointers", "functions", "words", "fact", "kinds", "told", "kind", "word", "one"]) (sc := defScope s_read_line) (by decide +kernel)) (fun _ _ _ _ _ => (pg_tup rfl (pgs_cons (pg_name (i := 7) sc_read_line.nd rfl (by first | exact Or.inl rfl | exact Or.inr rfl)) (pgs_cons (pg_name (i := 9) sc_read_line.nd rfl (by first | exact Or.inl rfl | exact Or.inr rfl)) pgs_nil)))) (fun _ _ _ _ _ => (pts_one (pt_cmpR op_notIn_seq (pv 7) (pe_gref (by rfl) Tq.g_FIXED) (by rfl)))) (fun _ _ _ _ _ => (pv 9))) pa_nil)) pa_nil)))))))))))), ?_⟩
  refine ⟨_, rfl, ⟨_, rfl⟩, _, _, rfl, rfl, by decide +kernel, by omega, fun wl hwl => ?_⟩
  rw [ln_split nm ok]
  have s1 := Same.new (o := .lst (l.words.map V.str)) hwl
  have hw : upd H wl (.lst (l.words.map V.str)) wl = some (.lst (.str l.w :: (l.ds.map PL.Wd.text).map V.str)) := upd_same
  generalize upd H wl (.lst (l.words.map V.str)) = H1 at s1 hw ⊢
  refine ⟨_, rfl, wl, _, _, _, rfl, rfl, SqL.of hw, atI_nat (j := 0) rfl, rfl, _, rfl, ite2 (fun c => absurd (V.str.inj (of_decide_eq_true c)) w5) (fun _ => ?_)⟩
  refine ⟨_, rfl, wl, _, _, _, rfl, rfl, SqL.of hw, atI_nat (j := 0) rfl, rfl, _, rfl, ite2 (fun c => absurd (V.str.inj (of_decide_eq_true c)) w6) (fun _ => ?_)⟩
  refine ⟨_, rfl, wl, _, _, _, rfl, rfl, SqL.of hw, atI_nat (j := 0) rfl, _, rfl, _, _, rfl, .inl ⟨_, SqL.of hw, rfl⟩, _, _, rfl, rfl, l.w, l.ds.map PL.Wd.kind, ?_, ok.kinds, fun kr H2 s2 f2 h2 => ?_⟩
  · have e : (((V.str l.w :: (l.ds.map PL.Wd.text).map V.str).length : Nat) : Int) - 1 = ((l.ds.map PL.Wd.kind).length : Nat) := by
      rw [List.length_cons, List.length_map, List.length_map, List.length_map]
      omega
    exact congrArg (fun z => [V.str l.w, V.int z]) e
  refine ⟨_, rfl, rfl, _, rfl, ite2 (fun c => absurd (of_decide_eq_true c) (fun e => by cases e)) (fun _ => ?_)⟩
  have hw2 := s2 _ _ hw
  have s12 := s1.trans s2
  refine ⟨_, rfl, _, rfl, 1, rfl, wl, _, rfl, SqL.of hw2, fun p hp => ?_⟩
  have cut : cutV (.str l.w :: (l.ds.map PL.Wd.text).map V.str) (some 1) none = (l.ds.map PL.Wd.text).map V.str := cut_one _ _
  rw [cut]
  have s3 := s12.trans (Same.new (o := .lst ((l.ds.map PL.Wd.text).map V.str)) hp)
  have h2b := Same.new (o := .lst ((l.ds.map PL.Wd.text).map V.str)) hp _ _ h2
  have hw3 := Same.new (o := .lst ((l.ds.map PL.Wd.text).map V.str)) hp
  have hpp : upd H2 p (.lst ((l.ds.map PL.Wd.text).map V.str)) p = some (.lst ((l.ds.map PL.Wd.text).map V.str)) := upd_same
  generalize upd H2 p (.lst ((l.ds.map PL.Wd.text).map V.str)) = H3 at s3 h2b hpp hw3 ⊢
  refine ⟨kr, p, _, _, rfl, SqL.of h2b, SqL.of hpp, fun TD hTD => ?_⟩
  have mn : l.ds.length = min ((l.ds.map PL.Wd.kind).map V.str).length ((l.ds.map PL.Wd.text).map V.str).length := by
    rw [List.length_map, List.length_map, List.length_map, List.length_map, Nat.min_self]
  refine lc_it (walk_zip mn) (fun i H' => Same H3 H' ∧ ∃ vs, H' TD = some (.lst vs) ∧ Paired (PL.Val H' ps) (l.ds.take i) vs) ⟨Same.new hTD, [], upd_same, .nil⟩ (fun i H' _ z => ⟨z.1.seq (SqL.of h2b), z.1.seq (SqL.of hpp)⟩) ?_ ?_
  · rintro i y G1 G2 hi ⟨s4, vs, h4, pr⟩ ⟨T0, x1, x2, rfl, hT0, rfl, e1, e2⟩
    have hd : l.ds[i]? = some l.ds[i] := List.getElem?_eq_getElem hi
    generalize l.ds[i] = d at hd
    have e1' : x1 = .str d.kind := by
      have e0 : ((l.ds.map PL.Wd.kind).map V.str)[i]? = some x1 := e1
      rw [List.getElem?_map, List.getElem?_map, hd] at e0
      exact (Option.some.inj e0).symm
    have e2' : x2 = .str d.text := by
      have e0 : ((l.ds.map PL.Wd.text).map V.str)[i]? = some x2 := e2
      rw [List.getElem?_map, List.getElem?_map, hd] at e0
      exact (Option.some.inj e0).symm
    subst e1' e2'
    refine ⟨T0, _, rfl, SqT.of upd_same, rfl, _, _, rfl, _, _, rfl, rfl, ?_⟩
    have s5 := s4.trans (Same.new (o := .tup [.str d.kind, .str d.text]) hT0)
    have h5 := Same.new (o := .tup [.str d.kind, .str d.text]) hT0 _ _ h4
    have pr5 := PL.paired_same (Same.new (o := .tup [.str d.kind, .str d.text]) hT0) pr
    generalize upd G1 T0 (.tup [.str d.kind, .str d.text]) = G3 at s5 h5 pr5 ⊢
    refine ⟨rfl, _, rfl, _, rfl, _, rfl, a, ps, d, rfl, (s3.trans s5).tup hT, nm, ok.ds d (List.mem_of_getElem? hd), fun v G4 s6 hv => ?_⟩
    have h6 := s6 _ _ h5
    refine ⟨vs, h6, ?_, same_put (s5.trans s6) hTD h6, vs ++ [v], upd_same, ?_⟩
    · have := paired_len pr5
      rw [List.length_take] at this
      omega
    · rw [List.take_add_one, hd]
      exact paired_put h6 (paired_snoc hv (PL.paired_same s6 pr5))
  rintro H5 ⟨s5, vs, h5, pr⟩
  rw [List.take_length] at pr
  have s05 := s3.trans s5
  obtain ⟨dd, d1, d2, d3, d4⟩ := vals_dat (K := K) nm ok.ds pr
  have vl := paired_len pr
  have h2c := s5 _ _ h2b
  refine ⟨_, rfl, .none, dd, .non, .lst (SqL.of h5) d1, rfl, ?_, _, rfl, ?_⟩
  · show (PyData.canLayAll0 dd && decide (PyData.depthAll dd + 1 ≤ 64)) = true
    rw [d2, Bool.true_and]
    exact decide_eq_true (by omega)
  rw [d4]
  refine iteF ?_
  have hw5 : H5 wl = some (.lst (.str l.w :: (l.ds.map PL.Wd.text).map V.str)) := s5 _ _ (hw3 _ _ hw2)
  refine ⟨_, rfl, wl, _, _, _, rfl, rfl, SqL.of hw5, atI_nat (j := 0) rfl, ?_⟩
  refine ⟨_, rfl, _, rfl, kr, TD, _, _, rfl, SqL.of h2c, SqL.of h5, fun D2 hD2 => ?_⟩
  have mn2 : l.ds.length = min ((l.ds.map PL.Wd.kind).map V.str).length vs.length := by
    rw [List.length_map, List.length_map, ← vl, Nat.min_self]
  refine lc_it (walk_zip mn2) (fun i H' => Same H5 H' ∧ ∃ us, H' D2 = some (.lst us) ∧ us.length ≤ i ∧ Paired (PL.Val H' ps) ((l.ds.take i).filter toldB) us) ⟨Same.new hD2, [], upd_same, Nat.le_refl _, .nil⟩ (fun i H' _ z => ⟨z.1.seq (SqL.of h2c), z.1.seq (SqL.of h5)⟩) ?_ ?_
  · rintro i y G1 G2 hi ⟨s6, us, h6, ul, pr6⟩ ⟨T0, x1, x2, rfl, hT0, rfl, e1, e2⟩
    have hd : l.ds[i]? = some l.ds[i] := List.getElem?_eq_getElem hi
    generalize l.ds[i] = d at hd
    have e1' : x1 = .str d.kind := by
      have e0 : ((l.ds.map PL.Wd.kind).map V.str)[i]? = some x1 := e1
      rw [List.getElem?_map, List.getElem?_map, hd] at e0
      exact (Option.some.inj e0).symm
    subst e1'
    have hv : PL.Val H5 ps d x2 := paired_at pr hd e2
    have okd := ok.ds d (List.mem_of_getElem? hd)
    refine ⟨T0, _, rfl, SqT.of upd_same, rfl, _, _, rfl, _, _, rfl, rfl, ?_⟩
    have s7 := s6.trans (Same.new (o := .tup [.str d.kind, x2]) hT0)
    have h7 := Same.new (o := .tup [.str d.kind, x2]) hT0 _ _ h6
    have pr7 := PL.paired_same (Same.new (o := .tup [.str d.kind, x2]) hT0) pr6
    generalize upd G1 T0 (.tup [.str d.kind, x2]) = G3 at s7 h7 pr7 ⊢
    refine ⟨rfl, _, rfl, _, _, rfl, .inr (Tq.t_FIXED _), rfl, CF.flat_strs _, _, rfl, ?_⟩
    rw [if_pos rfl, CF.inV_strs, fixed_kind okd, Bool.not_not]
    have tk : (l.ds.take (i + 1)).filter toldB = (l.ds.take i).filter toldB ++ [d].filter toldB := by
      rw [List.take_add_one, hd, List.filter_append]
      rfl
    cases e : toldB d with
    | false =>
      refine iteF ⟨s7, us, h7, by omega, ?_⟩
      rw [tk, List.filter_cons_of_neg (by rw [e]; decide), List.filter_nil, List.append_nil]
      exact pr7
    | true =>
      refine iteT ⟨_, rfl, us, h7, by omega, same_put s7 hD2 h7, us ++ [x2], upd_same, by rw [List.length_append, List.length_singleton]; omega, ?_⟩
      rw [tk, List.filter_cons_of_pos (by rw [e])]
      exact paired_put h7 (paired_snoc (hv.same s7) pr7)
  rintro H6 ⟨s6, us, h6, ul, pr6⟩
  rw [List.take_length] at pr6
  refine ⟨D2, us, rfl, .inl ⟨SqL.of h6, fun tt htt => ?_⟩⟩
  refine ⟨by show 2 ≤ sizeLine; decide, fun rr hrr => ?_⟩
  have sA := (s05.trans s6).trans (Same.new (o := .tup us) htt)
  refine k rr _ (sA.trans (Same.new hrr)) (Same.free sA hrr) ⟨⟨tt, us, upd_same, ?_, ?_⟩⟩
  · rw [upd_ne (ne_of_none upd_same hrr)]
    exact upd_same
  · exact PL.paired_same ((Same.new (o := .tup us) htt).trans (Same.new hrr)) pr6

end
end K19
end
section
set_option Elab.async false
set_option linter.all false
set_option maxRecDepth 100000
set_option maxHeartbeats 4000000
namespace K19
open PySem PySem.Spec PyProof.Rows L2
open PySem.W (ke_shaped_ints)
local macro_rules | `(tactic| walk_at "go") => `(tactic| first | refine ⟨_, rfl, ?_⟩ | refine .inl ⟨_, rfl, ?_⟩ | refine ⟨_, _, rfl, rfl, (by first | (show (0 : Int) < _; decide) | exact Or.inl ⟨by decide, by decide⟩ | exact Or.inr ⟨by decide, by decide⟩), ?_⟩ | refine ⟨_, _, rfl, rfl, ?_⟩)
section
variable {P : Program} {w : World} {K : PySem.W.Frag} {mg : Str → Option Value} {base : Heap}

/-- the rows of lines -/
def RowsAt (H : Hp) (ps : List Str) (ls : List PL.Ln) (rs : List Addr) : Prop := Paired (PL.RowAt H ps) ls rs
theorem RowsAt.same {H H' : Hp} {ps : List Str} (s : Same H H') : ∀ {ls : List PL.Ln} {rs : List Addr}, RowsAt H ps ls rs → RowsAt H' ps ls rs
  | _, _, .nil => .nil
  | _, _, .cons r t => .cons (r.same s) (RowsAt.same s t)
theorem RowAt.put {H : Hp} {ps : List Str} {l : PL.Ln} {r p : Addr} {xs : List V} {o : HO} (h : PL.RowAt H ps l r) (hp : H p = some (.lst xs)) : PL.RowAt (upd H p o) ps l r := by
  obtain ⟨t, vs, a, b, c⟩ := h.ex
  exact ⟨t, vs, by rw [upd_ne (ne_of a hp (by intro z; cases z))]; exact a, by rw [upd_ne (ne_of b hp (by intro z; cases z))]; exact b, paired_put hp c⟩
theorem RowsAt.put {H : Hp} {ps : List Str} {p : Addr} {xs : List V} {o : HO} (hp : H p = some (.lst xs)) : ∀ {ls : List PL.Ln} {rs : List Addr}, RowsAt H ps ls rs → RowsAt (upd H p o) ps ls rs
  | _, _, .nil => .nil
  | _, _, .cons r t => .cons (RowAt.put r hp) (RowsAt.put hp t)
/-- formed_rows(lines, pointers, functions) of right lines -/
def spFormed (K : PySem.W.Frag) : Sp := fun vs H Q _ => ∃ (la a : Addr) (ps : List Str) (ls : List PL.Ln) (fv : V), vs = [.ref la, .ref a, fv] ∧ SqL K H la (ls.map fun l => V.str l.text) ∧ SqT K H a (ps.map V.str) ∧ CF.Names ps ∧ (∀ l ∈ ls, l.Ok ps) ∧ ls.length ≤ 40 ∧
  ∀ (q : Addr) (rs : List Addr) (H' : Hp), Same H H' → H q = none → H' q = some (.lst (rs.map V.ref)) → RowsAt H' ps ls rs → Q (.ref q) H'
abbrev s_formed_rows : Stmt := topS 54
theorem sc_formed_rows : FnScope ["lines", "pointers", "functions", "rows", "line", "row"] ["lines", "pointers", "functions"] (defScope s_formed_rows) := ⟨rfl, rfl, rfl, by decide +kernel, rfl, by decide +kernel, by decide +kernel⟩
theorem ok_formed_rows (T : TxtP K mg) (Tq : PL.TxtQ K w mg) (D : Def K mg "formed_rows" s_formed_rows) (C_read_line : Cal P w K mg base 6 "read_line" ["line", "pointers", "functions"] (spReadLine K)) : Cal P w K mg base 7 "formed_rows" ["lines", "pointers", "functions"] (spFormed K) := by
  refine D.cal sc_formed_rows (fun vs H Q E h => ?_) (fun _ _ _ _ _ _ us hl => match us, hl with | [_, _, _], _ => rfl) (fun f cdv A outer s H vs Q E hr h => ?_)
  · obtain ⟨la, a, ps, ls, fv, rfl, _⟩ := h
    rfl
  have hu := hu_of hr

  obtain ⟨la, a, ps, ls, fv, rfl, hL, hT, nm, ok, n40, k⟩ := h
  have big : sizeLine = 16777216 := sizeLine_eq
  refine ⟨_, (pss_cons (ps_set (i := 3) sc_formed_rows.nd rfl (by first | exact Or.inl rfl | exact Or.inr rfl) (pe_lst pa_nil))
      (pss_cons (ps_for PassesOwn.never rfl (pi_list (pe_slice sl_list (pv 0) po_none (po_some (pe_gint (by rfl) Tq.c_MOST_LINES)))) (pg_name (i := 4) sc_formed_rows.nd rfl (by first | exact Or.inl rfl | exact Or.inr rfl)) (pss_cons (ps_set (i := 5) sc_formed_rows.nd rfl (by first | exact Or.inl rfl | exact Or.inr rfl) (pe_cal C_read_line (hr.mono (by decide)) rfl (pa_cons (pv 4) (pa_cons (pv 1) (pa_cons (pv 2) pa_nil)))))
      (pss_cons (ps_if (pt_cmpR op_isN (pv 5) pe_non (nomark _)) (pss_one (ps_ret (pv 3))) pss_nil)
      (pss_one (ps_expr (pe_bm PySem.F.plainAttrs_list PySem.F.slot_list_append PySem.F.type_list_append mt_append (pv 3) (pa_cons (pv 5) pa_nil)))))))
      (pss_one (ps_ret (pv 3))))), ?_⟩
  refine ⟨by show 0 ≤ sizeLine; decide, fun q hq => ?_⟩
  have s1 := Same.new (o := .lst []) hq
  have h1 : upd H q (.lst []) q = some (.lst []) := upd_same
  generalize upd H q (.lst []) = H1 at s1 h1 ⊢
  refine ⟨_, rfl, _, rfl, la, _, rfl, s1.seq hL, fun cl hcl => ?_⟩
  have cut : cutV (ls.map fun l => V.str l.text) none (some 40) = ls.map fun l => V.str l.text := by
    rw [CF.cut_to _ (by decide)]
    exact List.take_of_length_le (by rw [List.length_map]; exact n40)
  rw [cut]
  have s2 := s1.trans (Same.new (o := .lst (ls.map fun l => V.str l.text)) hcl)
  have h2 := Same.new (o := .lst (ls.map fun l => V.str l.text)) hcl _ _ h1
  have hc : upd H1 cl (.lst (ls.map fun l => V.str l.text)) cl = some (.lst (ls.map fun l => V.str l.text)) := upd_same
  generalize upd H1 cl (.lst (ls.map fun l => V.str l.text)) = H2 at s2 h2 hc ⊢
  refine ⟨cl, rfl, ⟨_, SqL.of hc⟩, for_it walk_list (fun i σ H' => ∃ v4 v5 rs, σ = [some (.ref la), some (.ref a), some fv, some (.ref q), v4, v5] ∧ Same H H' ∧ H' cl = some (.lst (ls.map fun l => V.str l.text)) ∧ H' q = some (.lst (rs.map V.ref)) ∧ RowsAt H' ps (ls.take i) rs)
    ⟨none, none, [], rfl, s2, hc, h2, .nil⟩ (fun i σ H' _ ⟨_, _, _, _, _, z, _⟩ => SqL.of z) ?_ ?_⟩
  · rintro i x σ H3 H4 hi ⟨v4, v5, rs, rfl, s3, c3, q3, r3⟩ ⟨rfl, hx⟩
    have hx' : (ls.map fun l => V.str l.text)[i]? = some x := hx
    rw [List.getElem?_map] at hx'
    obtain ⟨l, hl, rfl⟩ := Option.map_eq_some_iff.mp hx'
    refine ⟨_, rfl, _, rfl, _, rfl, a, ps, l, fv, rfl, s3.tup hT, nm, ok l (List.mem_of_getElem? hl), fun r H5 s5 f5 rr => ?_⟩
    refine ⟨_, rfl, rfl, _, rfl, ite2 (fun c => absurd (of_decide_eq_true c) (fun e => by cases e)) (fun _ => ?_)⟩
    have q5 := s5 _ _ q3
    have rl := paired_len r3
    have cq : cl ≠ q := (ne_of_none h1 hcl).symm
    refine ⟨_, rfl, .inl ⟨rfl, _, SqL.of q5⟩, _, rfl, q, _, _, rfl, rfl, q5, ?_, ?_⟩
    · rw [List.length_map, ← rl, List.length_take]
      omega
    · refine ⟨_, _, rs ++ [r], rfl, same_put (s3.trans s5) hq q5, ?_, ?_, ?_⟩
      · rw [upd_ne cq]
        exact s5 _ _ c3
      · rw [List.map_append]
        exact upd_same
      · rw [List.take_add_one, hl]
        exact RowsAt.put q5 (paired_snoc rr (RowsAt.same s5 r3))
  · rintro σ H3 ⟨v4, v5, rs, rfl, s3, c3, q3, r3⟩
    rw [List.length_map, List.take_length] at r3
    exact ⟨_, rfl, k q rs H3 s3 hq q3 r3⟩

end
end K19
end
section
set_option Elab.async false
set_option linter.all false
set_option maxRecDepth 100000
set_option maxHeartbeats 4000000
namespace K19
open PySem PySem.Spec PyProof.Rows L2
open PySem.W (ke_shaped_ints)
local macro_rules | `(tactic| walk_at "go") => `(tactic| first | refine ⟨_, rfl, ?_⟩ | refine .inl ⟨_, rfl, ?_⟩ | refine ⟨_, _, rfl, rfl, (by first | (show (0 : Int) < _; decide) | exact Or.inl ⟨by decide, by decide⟩ | exact Or.inr ⟨by decide, by decide⟩), ?_⟩ | refine ⟨_, _, rfl, rfl, ?_⟩)
section
variable {P : Program} {w : World} {K : PySem.W.Frag} {mg : Str → Option Value} {base : Heap}

/-- may_stand(word, before, around), no else -/
def spMayStand (K : PySem.W.Frag) : Sp := fun vs H Q _ => ∃ (wd be : Str) (a : Addr) (ar : List Str), vs = [.str wd, .str be, .ref a] ∧ SqL K H a (ar.map V.str) ∧ wd ≠ "else" ∧ ar.length ≤ 1000 ∧ ∀ H', Same H H' → Q (.bl (PL.stand wd be ar)) H'
abbrev s_may_stand : Stmt := topS 56
theorem sc_may_stand : FnScope ["word", "before", "around"] ["word", "before", "around"] (defScope s_may_stand) := ⟨rfl, rfl, rfl, by decide +kernel, rfl, by decide +kernel, by decide +kernel⟩
theorem ok_may_stand (T : TxtP K mg) (Tq : PL.TxtQ K w mg) (D : Def K mg "may_stand" s_may_stand) : Cal P w K mg base 1 "may_stand" ["word", "before", "around"] (spMayStand K) := by
  refine D.cal sc_may_stand (fun vs H Q E h => ?_) (fun _ _ _ _ _ _ us hl => match us, hl with | [_, _, _], _ => rfl) (fun f cdv A outer s H vs Q E hr h => ?_)
  · obtain ⟨wd, be, a, ar, rfl, _⟩ := h
    rfl
  have hu := hu_of hr

  obtain ⟨wd, be, a, ar, rfl, hA, ne, al, k⟩ := h
  refine ⟨_, (pss_cons (ps_if (pt_cmpR op_eq (pv 1) pe_str (nomark _)) (pss_one (ps_ret pe_bl)) pss_nil)
      (pss_cons (ps_if (pt_cmpR op_eq (pv 0) pe_str (nomark _)) (pss_one (ps_ret (pe_cmpR op_eq (pv 1) pe_str (nomark _)))) pss_nil)
      (pss_cons (ps_if (pt_cmpR op_eq (pv 0) pe_str (nomark _)) (pss_one (ps_ret (pe_notT (pv 2)))) pss_nil)
      (pss_cons (ps_if (pt_cmpR op_eq (pv 0) pe_str (nomark _)) (pss_one (ps_ret (pe_cmpR (op_eqD hr.units) (pe_slice sl_list (pv 2) (po_some (pe_un un_neg pe_int)) po_none) (pe_lst (pa_cons pe_str pa_nil)) (nomark _)))) pss_nil)
      (pss_cons (ps_if (pt_cmpR op_eq (pv 0) pe_str (nomark _)) (pss_one (ps_ret (pe_cmpR op_gt (pe_callB call_len (by rfl) T.f_len PySem.boot_len (pa_cons (pv 2) pa_nil)) pe_int (nomark _)))) pss_nil)
      (pss_one (ps_ret (pe_or (pe_cmpR op_notIn_seq (pv 0) (pe_gref (by rfl) Tq.g_OPENING) (by rfl)) (pe_one (pe_cmpR op_lt (pe_callB call_len (by rfl) T.f_len PySem.boot_len (pa_cons (pv 2) pa_nil)) (pe_gint (by rfl) Tq.c_MOST_OPEN) (nomark _))))))))))), ?_⟩
  have K1 : ∀ b, PL.stand wd be ar = b → Q (.bl b) H := fun b e => by rw [← e]; exact k H (fun _ _ h => h)
  refine ⟨_, rfl, rfl, _, rfl, ite2 (fun c => K1 _ ?_) (fun n1 => ?_)⟩
  · unfold PL.stand
    rw [if_pos (V.str.inj (of_decide_eq_true c))]
  have n1' : be ≠ "give" := fun e => n1 (decide_eq_true (by rw [e]))
  refine ⟨_, rfl, rfl, _, rfl, ite2 (fun c => ?_) (fun n2 => ?_)⟩
  · refine ⟨_, rfl, rfl, K1 _ ?_⟩
    unfold PL.stand
    rw [if_neg n1', if_pos (V.str.inj (of_decide_eq_true c))]
    exact decide_eq_decide.mpr ⟨fun e => by rw [e], fun e => V.str.inj e⟩
  have n2' : wd ≠ "input" := fun e => n2 (decide_eq_true (by rw [e]))
  refine ⟨_, rfl, rfl, _, rfl, ite2 (fun c => ?_) (fun n3 => ?_)⟩
  · have e : wd = "give" := V.str.inj (of_decide_eq_true c)
    refine ⟨_, rfl, _, .inl ⟨_, hA, rfl⟩, K1 _ ?_⟩
    subst e
    unfold PL.stand
    rw [if_neg n1', if_neg n2', if_pos rfl, List.isEmpty_map, Bool.not_not]
  have n3' : wd ≠ "give" := fun e => n3 (decide_eq_true (by rw [e]))
  refine ⟨_, rfl, rfl, _, rfl, ite2 (fun c => absurd (V.str.inj (of_decide_eq_true c)) ne) (fun _ => ?_)⟩
  refine ⟨_, rfl, rfl, _, rfl, ite2 (fun c => ?_) (fun n4 => ?_)⟩
  · have e : wd = "end" := V.str.inj (of_decide_eq_true c)
    refine ⟨_, rfl, _, _, rfl, .inl ⟨_, hA, rfl⟩, _, _, rfl, rfl, K1 _ ?_⟩
    subst e
    unfold PL.stand
    rw [if_neg n1', if_neg n2', if_neg n3', if_pos rfl, List.length_map]
    cases ar with
    | nil => rfl
    | cons _ _ => exact (decide_eq_true (by rw [List.length_cons]; omega)).symm
  have n4' : wd ≠ "end" := fun e => n4 (decide_eq_true (by rw [e]))
  refine ⟨_, rfl, _, _, rfl, .inr (Tq.t_OPENING _), rfl, CF.flat_strs _, _, rfl, ?_⟩
  rw [if_pos rfl, CF.inV_strs]
  have e5 : PL.stand wd be ar = (!decide (wd ∈ PL.Opening) || decide (ar.length < 5)) := by
    unfold PL.stand
    rw [if_neg n1', if_neg n2', if_neg n3', if_neg n4']
  cases e6 : decide (wd ∈ PL.Opening) with
  | false =>
    refine iteT (K1 _ ?_)
    rw [e5, e6]
    rfl
  | true =>
    refine iteF ⟨_, rfl, _, _, rfl, .inl ⟨_, hA, rfl⟩, _, _, rfl, rfl, K1 _ ?_⟩
    rw [e5, e6, List.length_map]
    show (false || decide (ar.length < 5)) = _
    rw [Bool.false_or]
    exact decide_eq_decide.mpr (by omega)

end
end K19
end
section
set_option Elab.async false
set_option linter.all false
set_option maxRecDepth 100000
set_option maxHeartbeats 4000000
namespace K19
open PySem PySem.Spec PyProof.Rows L2
open PySem.W (ke_shaped_ints)
local macro_rules | `(tactic| walk_at "go") => `(tactic| first | refine ⟨_, rfl, ?_⟩ | refine .inl ⟨_, rfl, ?_⟩ | refine ⟨_, _, rfl, rfl, (by first | (show (0 : Int) < _; decide) | exact Or.inl ⟨by decide, by decide⟩ | exact Or.inr ⟨by decide, by decide⟩), ?_⟩ | refine ⟨_, _, rfl, rfl, ?_⟩)
section
variable {P : Program} {w : World} {K : PySem.W.Frag} {mg : Str → Option Value} {base : Heap}

/-- placed_rows(rows) -/
def spPlaced (K : PySem.W.Frag) : Sp := fun vs H Q _ => ∃ (rl : Addr) (ps : List Str) (ls : List PL.Ln) (rs : List Addr) (ar : List Str), vs = [.ref rl] ∧ H rl = some (.lst (rs.map V.ref)) ∧ RowsAt H ps ls rs ∧ (∀ l ∈ ls, l.w ≠ "else") ∧ ls.length ≤ 40 ∧ PL.placed (ls.map PL.Ln.w) "input" [] = some ar ∧
  ∀ (r al : Addr) (H' : Hp), Same H H' → H al = none → H r = none → H' r = some (.tup [.ref rl, .ref al]) → H' al = some (.lst (ar.map V.str)) → Q (.ref r) H'
theorem row_get {H : Hp} {ps : List Str} {ls : List PL.Ln} {rs : List Addr} {i : Nat} {x : V} (h : RowsAt H ps ls rs) (hx : (rs.map V.ref)[i]? = some x) : ∃ r l, x = .ref r ∧ rs[i]? = some r ∧ ls[i]? = some l ∧ PL.RowAt H ps l r := by
  rw [List.getElem?_map] at hx
  obtain ⟨r, hr, rfl⟩ := Option.map_eq_some_iff.mp hx
  have hi := (List.getElem?_eq_some_iff.mp hr).1
  have hl := paired_len h
  have e : ls[i]? = some ls[i] := List.getElem?_eq_getElem (by omega)
  exact ⟨r, _, rfl, hr, e, paired_at h e hr⟩
abbrev s_placed_rows : Stmt := topS 55
theorem sc_placed_rows : FnScope ["rows", "around", "before", "index", "word", "_"] ["rows"] (defScope s_placed_rows) := ⟨rfl, rfl, rfl, by decide +kernel, rfl, by decide +kernel, by decide +kernel⟩
theorem ok_placed_rows (T : TxtP K mg) (Tq : PL.TxtQ K w mg) (D : Def K mg "placed_rows" s_placed_rows) (C_may_stand : Cal P w K mg base 1 "may_stand" ["word", "before", "around"] (spMayStand K)) : Cal P w K mg base 2 "placed_rows" ["rows"] (spPlaced K) := by
  refine D.cal sc_placed_rows (fun vs H Q E h => ?_) (fun _ _ _ _ _ _ us hl => match us, hl with | [_], _ => rfl) (fun f cdv A outer s H vs Q E hr h => ?_)
  · obtain ⟨rl, ps, ls, rs, ar, rfl, _⟩ := h
    rfl
  have hu := hu_of hr

  obtain ⟨rl, ps, ls, rs, ar, rfl, hR, rows, ne, n40, hp, k⟩ := h
  have big : sizeLine = 16777216 := sizeLine_eq
  refine ⟨_, (pss_cons (ps_set (i := 1) sc_placed_rows.nd rfl (by first | exact Or.inl rfl | exact Or.inr rfl) (pe_lst pa_nil))
      (pss_cons (ps_set (i := 2) sc_placed_rows.nd rfl (by first | exact Or.inl rfl | exact Or.inr rfl) pe_str)
      (pss_cons (ps_for PassesOwn.never rfl (pi_enum (by rfl) T.f_enumerate (pa_cons (pv 0) pa_nil)) (pg_tup rfl (pgs_cons (pg_name (i := 3) sc_placed_rows.nd rfl (by first | exact Or.inl rfl | exact Or.inr rfl)) (pgs_cons (pg_tup rfl (pgs_cons (pg_name (i := 4) sc_placed_rows.nd rfl (by first | exact Or.inl rfl | exact Or.inr rfl)) (pgs_cons (pg_name (i := 5) sc_placed_rows.nd rfl (by first | exact Or.inl rfl | exact Or.inr rfl)) pgs_nil))) pgs_nil))) (pss_cons (ps_if (pt_not (pt_val (pe_cal C_may_stand (hr.mono (by decide)) rfl (pa_cons (pv 4) (pa_cons (pv 2) (pa_cons (pv 1) pa_nil)))))) (pss_one (ps_ret (pe_tup (pa_cons (pe_slice sl_list (pv 0) po_none (po_some (pv 3))) (pa_cons (pv 1) pa_nil))))) pss_nil)
      (C8.pss_cut (ps_if (pt_cmpR op_in_seq (pv 4) (pe_gref (by rfl) Tq.g_OPENING) (by rfl)) (pss_one (ps_expr (pe_bm PySem.F.plainAttrs_list PySem.F.slot_list_append PySem.F.type_list_append mt_append (pv 1) (pa_cons (pv 4) pa_nil)))) (pss_one (ps_if (pt_cmpR op_eq (pv 4) pe_str (nomark _)) (pss_one (ps_asg (pv 4) (pg_sub (pv 1) (pe_un un_neg pe_int) set_list))) (pss_one (ps_if (pt_cmpR op_eq (pv 4) pe_str (nomark _)) (pss_one (ps_expr (pe_bm0 PySem.F.plainAttrs_list PySem.F.slot_list_pop PySem.F.type_list_pop mt_pop (pv 1)))) pss_nil)))))
      (pss_one (ps_set (i := 2) sc_placed_rows.nd rfl (by first | exact Or.inl rfl | exact Or.inr rfl) (pv 4))))))
      (pss_one (ps_ret (pe_tup (pa_cons (pv 0) (pa_cons (pv 1) pa_nil)))))))), ?_⟩
  refine ⟨by show 0 ≤ sizeLine; decide, fun al hal => ?_⟩
  have s1 := Same.new (o := .lst []) hal
  have h1 : upd H al (.lst []) al = some (.lst []) := upd_same
  generalize upd H al (.lst []) = H1 at s1 h1 ⊢
  have pos : ∀ i w, (ls.map PL.Ln.w)[i]? = some w → ∃ ar', PL.placed ((ls.map PL.Ln.w).take i) "input" [] = some ar' ∧ PL.stand w (PL.lastW "input" ((ls.map PL.Ln.w).take i)) ar' = true ∧ PL.placed ((ls.map PL.Ln.w).take (i + 1)) "input" [] = some (PL.push w ar') := fun i w h => PL.placed_at hp h
  have rle := paired_len rows
  refine ⟨_, rfl, rl, _, rfl, SqL.of (s1 _ _ hR), for_it walk_enum (fun i σ H' => ∃ v3 v4 v5 ar', σ = [some (.ref rl), some (.ref al), some (.str (PL.lastW "input" ((ls.map PL.Ln.w).take i))), v3, v4, v5] ∧ Same H H' ∧ H' al = some (.lst (ar'.map V.str)) ∧ PL.placed ((ls.map PL.Ln.w).take i) "input" [] = some ar')
    ⟨none, none, none, [], rfl, s1, h1, rfl⟩ (fun i σ H' _ ⟨_, _, _, _, _, z, _⟩ => SqL.of (z _ _ hR)) ?_ ?_⟩
  · rintro i x σ H3 H4 hi ⟨v3, v4, v5, ar', rfl, s3, h3, p3⟩ ⟨T0, x1, x2, rfl, hT0, rfl, e1, e2⟩
    cases e1
    obtain ⟨r, l, rfl, hr', hl, row⟩ := row_get (RowsAt.same s3 rows) e2
    have hw : (ls.map PL.Ln.w)[i]? = some l.w := by rw [List.getElem?_map, hl]; rfl
    obtain ⟨ar2, p1, st, p2⟩ := pos i _ hw
    rw [p3] at p1
    cases p1
    have arl := PL.placed_len p3
    rw [List.length_nil, List.length_take, List.length_map] at arl
    obtain ⟨t, vs, g1, g2, g3⟩ := row.ex
    have s4 := s3.trans (Same.new (o := .tup [.int (i : Nat), .ref r]) hT0)
    have h4 := Same.new (o := .tup [.int (i : Nat), .ref r]) hT0 _ _ h3
    have g1' := Same.new (o := .tup [.int (i : Nat), .ref r]) hT0 _ _ g1
    refine ⟨T0, _, rfl, SqT.of upd_same, rfl, _, _, rfl, _, _, rfl, ⟨r, _, rfl, SqT.of g1', rfl, _, _, rfl, _, _, rfl, rfl, ?_⟩⟩
    generalize upd H3 T0 (.tup [.int (i : Nat), .ref r]) = H5 at s4 h4 g1' ⊢
    refine ⟨rfl, ?_⟩
    refine ⟨_, rfl, _, rfl, _, rfl, l.w, _, al, ar', rfl, SqL.of h4, ne l (List.mem_of_getElem? hl), by omega, fun H6 s6 => ⟨_, rfl, ?_⟩⟩
    rw [st]
    refine iteF ?_
    have h6 := s6 _ _ h4
    have s46 := s4.trans s6
    refine ⟨fun σ' H' => σ' = [some (.ref rl), some (.ref al), some (.str (PL.lastW "input" ((ls.map PL.Ln.w).take i))), some (.int (i : Nat)), some (.str l.w), some (.ref t)] ∧ Same H H' ∧ H' al = some (.lst ((PL.push l.w ar').map V.str)), ?_, ?_⟩
    · refine ⟨_, rfl, _, _, rfl, .inr (Tq.t_OPENING _), rfl, CF.flat_strs _, _, rfl, ?_⟩
      rw [if_neg (by decide), CF.inV_strs]
      cases e6 : decide (l.w ∈ PL.Opening) with
      | true =>
        refine iteT ⟨_, rfl, .inl ⟨rfl, _, SqL.of h6⟩, _, rfl, al, _, _, rfl, rfl, h6, by rw [List.length_map]; omega, ?_⟩
        refine ⟨rfl, same_put s46 hal h6, ?_⟩
        have e : PL.push l.w ar' = ar' ++ [l.w] := by unfold PL.push; rw [if_pos (of_decide_eq_true e6)]
        rw [e, List.map_append]
        exact upd_same
      | false =>
        have n1 : l.w ∉ PL.Opening := of_decide_eq_false e6
        refine iteF ⟨_, rfl, rfl, _, rfl, ite2 (fun c => absurd (V.str.inj (of_decide_eq_true c)) (ne l (List.mem_of_getElem? hl))) (fun _ => ?_)⟩
        refine ⟨_, rfl, rfl, _, rfl, ite2 (fun c => ?_) (fun n2 => ?_)⟩
        · have e : l.w = "end" := V.str.inj (of_decide_eq_true c)
          have e2 : PL.push l.w ar' = ar'.dropLast := by unfold PL.push; rw [if_neg n1, if_pos e]
          have ne0 : ar' ≠ [] := by
            intro z
            rw [e, z] at st
            unfold PL.stand at st
            split at st
            · cases st
            · rw [if_neg (by decide +kernel), if_neg (by decide +kernel), if_pos rfl] at st
              cases st
          obtain ⟨y, hy⟩ : ∃ y, (ar'.map V.str)[(ar'.map V.str).length - 1]? = some y := ⟨_, List.getElem?_eq_getElem (by rw [List.length_map]; have := List.length_pos_iff.mpr ne0; omega)⟩
          refine ⟨_, rfl, .inl ⟨rfl, _, SqL.of h6⟩, al, _, y, rfl, rfl, h6, hy, ?_⟩
          refine ⟨rfl, same_put s46 hal h6, ?_⟩
          rw [e2, ← List.map_dropLast]
          exact upd_same
        · have n2' : l.w ≠ "end" := fun e => n2 (decide_eq_true (by rw [e]))
          refine ⟨rfl, s46, ?_⟩
          have e2 : PL.push l.w ar' = ar' := by unfold PL.push; rw [if_neg n1, if_neg n2']
          rw [e2]
          exact h6
    · rintro σ' H' ⟨rfl, s7, h7⟩
      refine ⟨_, rfl, some (.int (i : Nat)), some (.str l.w), some (.ref t), PL.push l.w ar', ?_, s7, h7, p2⟩
      have e : (ls.map PL.Ln.w).take (i + 1) = (ls.map PL.Ln.w).take i ++ [l.w] := by rw [List.take_add_one, hw]; rfl
      rw [e, PL.lastW_snoc]
      rfl
  · rintro σ H3 ⟨v3, v4, v5, ar', rfl, s3, h3, p3⟩
    have e : (ls.map PL.Ln.w).take (rs.map V.ref).length = ls.map PL.Ln.w := List.take_of_length_le (by rw [List.length_map, List.length_map]; omega)
    rw [e, hp] at p3
    cases p3
    refine ⟨_, rfl, _, rfl, by show 2 ≤ sizeLine; decide, fun r hr => ?_⟩
    exact k r al _ (s3.trans (Same.new hr)) hal (Same.free s3 hr) upd_same (by rw [upd_ne (ne_of_none h3 hr)]; exact h3)

end
end K19
end
section
set_option Elab.async false
set_option linter.all false
set_option maxRecDepth 100000
set_option maxHeartbeats 4000000
namespace PySem
open Sem (wp)
/-! {**d, k: v}: a dict merged into a new one -/
section
variable {prog : Program} {w : World} {K : Type} [DecidableEq K] {knd : KeyKind prog w K} {A : Around} {E : Value → Shared → Prop} {s : Shared}
theorem put_pairs {d : Addr} {kvs : List (K × Value)} {k : K} {key v : Value} {Q : Unit → Shared → Prop} (hkey : knd.is k key = true) (hm : s.heap.DictOf knd d kvs) (hsz : kvs.length ≤ sizeLine)
    (hQ : ∀ h', h'.DictOf knd d (stored kvs k v) → Heap.SameBut d s.heap h' → Q () { s with heap := h' }) : wpAny (model prog w) A (dictPut d (knd.hash k) key v) Q E s := by
  obtain ⟨o, es, ep, ho, hc, hd, hk, hp, hn⟩ := hm
  have l1 : es.toList.length = es.size := by simp
  have l2 := hp.length
  have idx : (es.findIdx? fun e => knd.is k e.key) = kvs.findIdx? fun kv => decide (kv.1 = k) := by
    have q := hp.findIdx k
    obtain ⟨l⟩ := es
    rw [← q]; simp
  unfold dictPut
  refine wpAny_bind (wpAny_dictFind_of hkey ho hd hk ?_)
  cases f : es.findIdx? fun e => knd.is k e.key with
  | some i =>
    have there := any_of_findIdx_some (idx ▸ f)
    refine wpAny_updateDict ho hd ?_
    refine hQ _ ?_ (Heap.SameBut.update ..)
    rw [stored, if_pos there]
    refine ⟨_, _, ep, Heap.get?_update_self _ ho ?_, hc.mapDict _, Obj.data_mapDict hd _, hk.modify i v, ?_, ?_⟩
    · exact Obj.isFreed_of_dict (Obj.data_mapDict hd _)
    · have fl : (es.toList.findIdx? fun e => knd.is k e.key) = some i := by
        rw [← f]
        obtain ⟨l⟩ := es
        simp
      have q := hp.modify hn fl v
      obtain ⟨l⟩ := es
      simpa using q
    · rw [keys_map_store]
      exact hn
  | none =>
    have gone : k ∉ kvs.map (·.1) := not_mem_of_findIdx_none (idx ▸ f)
    have none_ : ¬ (kvs.any fun kv => decide (kv.1 = k)) = true := fun h => by
      obtain ⟨kv, hkv, he⟩ := List.any_eq_true.mp h
      exact gone (List.mem_map.mpr ⟨kv, hkv, of_decide_eq_true he⟩)
    refine wpAny_updateDictKeys (hz := by omega) ho hd ?_
    refine hQ _ ?_ (Heap.SameBut.update ..)
    rw [stored, if_neg none_]
    refine ⟨_, _, ep + 1, Heap.get?_update_self _ ho ?_, hc.mapDictKeys _, Obj.data_mapDictKeys hd _, hk.push hkey v, ?_, ?_⟩
    · exact Obj.isFreed_of_dict (Obj.data_mapDictKeys hd _)
    · have q := hp.append hkey (knd.hash k) v
      obtain ⟨l⟩ := es
      simpa using q
    · rw [List.map_append, List.nodup_append]
      refine ⟨hn, by simp, fun a ha b hb => ?_⟩
      rw [List.map_cons, List.map_nil, List.mem_singleton] at hb
      rw [hb]
      rintro rfl
      exact gone ha
/-- the turns of a merge -/
def turnInto (d a : Addr) (epoch i : Nat) : Sem (ForInStep PUnit) := do
  let now ← dictEntries a
  match now[i]? with
  | some e => do
    holding [e.key, e.val] (if false = true then (do
        let found ← dictFind d e.key e.hash
        if found.isSome = true then (do
            rule "dict.merge.duplicate-key"
            let x ← newExc (.type "KeyError") [e.key]
            raiseNew x
            dictPut d e.hash e.key e.val)
          else dictPut d e.hash e.key e.val)
      else dictPut d e.hash e.key e.val)
    let ep ← dictEpoch a
    if (ep != epoch) = true then (do
        (unsupported "dict.changed-during-merge" : Sem PUnit)
        pure (ForInStep.yield PUnit.unit))
      else pure (ForInStep.yield PUnit.unit)
  | _ => do
    (unsupported "dict.changed-during-merge" : Sem PUnit)
    pure (ForInStep.yield PUnit.unit)
def copyInto (d a : Addr) : Sem Unit := do
  let all ← dictEntries a
  let epoch ← dictEpoch a
  forIn (List.range all.size) PUnit.unit fun i _ => turnInto d a epoch i
  pure ()
theorem copyInto_ok {d a : Addr} {kvs more : List (K × Value)} {Q : Unit → Shared → Prop} (hda : d ≠ a) (hd : s.heap.DictOf knd d kvs) (ha : s.heap.DictOf knd a more)
    (hsz : kvs.length + more.length ≤ sizeLine) (hQ : ∀ h', h'.DictOf knd d (merged kvs more) → Heap.SameBut d s.heap h' → Q () { s with heap := h' }) :
    wpAny (model prog w) A (copyInto d a) Q E s := by
  obtain ⟨oa, esa, epa, hoa, hca, hda', hka, hpa, hna⟩ := id ha
  have ln : more.length = esa.size := by rw [← hpa.length]; simp
  unfold copyInto
  refine wpAny_bind (wpAny_dictEntries hoa hda' ?_)
  refine wpAny_bind (wpAny_dictEpoch hoa hda' ?_)
  refine wpAny_bind (wpAny_forIn_list _ (fun rest _ s' => ∃ h' i, s' = { s with heap := h' } ∧ rest = (List.range esa.size).drop i ∧ i ≤ esa.size ∧ h'.DictOf knd d (merged kvs (more.take i)) ∧ h'.get? a = some oa ∧ Heap.SameBut d s.heap h') _ ?_ ?_ _ _
    ⟨s.heap, 0, rfl, rfl, Nat.zero_le _, hd, hoa, Heap.SameBut.refl _ _⟩)
  · rintro x rest b s' ⟨h', i, rfl, hr, hi, g1, g2, g3⟩
    have lt : i < esa.size := by
      rcases Nat.lt_or_ge i esa.size with z | z
      · exact z
      · rw [List.drop_of_length_le (by simpa using z)] at hr
        cases hr
    rw [range_drop lt, List.cons.injEq] at hr
    obtain ⟨rfl, rfl⟩ := hr
    have hm : more[x]? = some (more[x]'(by omega)) := List.getElem?_eq_getElem _
    generalize more[x]'(by omega) = kv at hm
    obtain ⟨k, v⟩ := kv
    have he : esa[x]? = some esa[x] := Array.getElem?_eq_getElem lt
    generalize esa[x] = e at he
    obtain ⟨ek, ev⟩ := hpa.get? (e := e) (by rw [Array.getElem?_toList]; exact he) hm
    obtain ⟨k', ek', eh⟩ := hka e (Array.mem_of_getElem? he)
    have kk : k' = k := knd.inj _ _ _ ek' ek
    subst kk
    unfold turnInto
    refine wpAny_bind (wpAny_dictEntries g2 hda' ?_)
    rw [he]
    dsimp only
    refine wpAny_bind (wpAny_holding ?_)
    rw [if_neg Bool.false_ne_true, eh, ev]
    have l1 := merged_length_le kvs (more.take x)
    have l2 := List.length_take_le x more
    have l3 : (more.take x).length ≤ more.length := by rw [List.length_take]; omega
    refine put_pairs ek g1 (by omega) fun h2 p1 p2 => ?_
    have g4 : h2.get? a = some oa := (p2.2 a (Ne.symm hda)).trans g2
    refine wpAny_bind (wpAny_dictEpoch g4 hda' ?_)
    rw [if_neg (by simp)]
    refine wpAny_pure ⟨h2, x + 1, rfl, rfl, lt, ?_, g4, g3.trans p2⟩
    rw [merged_take_succ kvs more x (k', v) hm]
    exact p1
  · rintro b s' ⟨h', i, rfl, hr, hi, g1, g2, g3⟩
    have ii : i = esa.size := by
      rcases Nat.lt_or_ge i esa.size with z | z
      · rw [range_drop z] at hr
        cases hr
      · omega
    refine wpAny_pure (hQ h' ?_ g3)
    rw [ii, ← ln, List.take_length] at g1
    exact g1
theorem mergeMapping_dicts {d a : Addr} {kvs more : List (K × Value)} {Q : Unit → Shared → Prop} (hda : d ≠ a) (haS : (a == sysModules) = false) (href : ∀ k b, knd.is k (.ref b) = false) (hd : s.heap.DictOf knd d kvs) (ha : s.heap.DictOf knd a more)
    (hsz : kvs.length + more.length ≤ sizeLine) (hQ : ∀ h', h'.DictOf knd d (merged kvs more) → Heap.SameBut d s.heap h' → Q () { s with heap := h' }) :
    wpAny (model prog w) A (mergeMapping d (.ref a) false) Q E s := by
  obtain ⟨od, esd, epd, hod, hcd, hdd, hkd, hpd, hnd⟩ := id hd
  obtain ⟨oa, esa, epa, hoa, hca, hda', hka, hpa, hna⟩ := id ha
  have ln : more.length = esa.size := by rw [← hpa.length]; simp
  unfold mergeMapping
  have isd : ∀ s' : Shared, s'.heap.get? a = some oa → s'.TypeIs (.ref a) "dict" := fun s' e => ⟨oa, e, hca.1⟩
  refine wpAny_bind (wpAny_isInstance (isd s hoa) isSubtype_dict_dict ?_)
  dsimp only
  rw [if_pos rfl]
  refine wpAny_bind (wpAny_specialOf (isd s hoa) F.slot_dict_iter.lookup ?_)
  refine wpAny_bind (wpAny_pure ?_)
  rw [show (some (Value.builtin "dict.__iter__") == some (Value.builtin "dict.__iter__")) = true from by simp]
  dsimp only
  rw [if_neg (by rw [haS]; exact Bool.false_ne_true)]
  refine wpAny_bind (wpAny_dictEntries hod hdd ?_)
  have tail : wpAny (model prog w) A (copyInto d a) Q E s := copyInto_ok hda hd ha hsz hQ
  split
  · refine wpAny_bind (wpAny_dictEntries hoa hda' ?_)
    refine wpAny_bind (MeetsSeq2.wpAny_forIn_array _ (fun rest _ s' => s' = s ∧ ∀ e ∈ rest, e ∈ esa) _ ?_ ?_ _ _ ⟨rfl, fun e he => by simpa using he⟩)
    · rintro e rest b s' ⟨rfl, sub⟩
      obtain ⟨k, hk, _⟩ := hka e (sub e List.mem_cons_self)
      have next : ∀ e' ∈ rest, e' ∈ esa := fun e' he => sub e' (List.mem_cons_of_mem _ he)
      obtain ⟨hsh, ky, vl⟩ := e
      cases ky with
      | ref b =>
        have z := href k b
        rw [show knd.is k (Value.ref b) = true from hk] at z
        cases z
      | _ => exact wpAny_pure ⟨rfl, next⟩
    · rintro b s' ⟨rfl, _⟩
      exact tail
  · exact tail
end
end PySem
namespace L2
open PySem PySem.Spec PyProof.Rows
theorem mix_noref {P : Program} {w : World} (k : Key) (b : Addr) : (mixKind P w).is k (.ref b) = false := by
  cases e : (mixKind P w).is k (.ref b) with
  | false => rfl
  | true =>
    rcases keyIs_shape e with ⟨i, t, _, q⟩ | ⟨x, t, _, q⟩
    · cases q
    · cases q
/-- {**d, k: v} -/
def tMerge (tm tk tv : TE) : TE := fun σ H Q => ∀ D, H D = none → tm σ (upd H D (.dK [])) fun x H1 => ∃ a kvs, x = .ref a ∧ H1 a = some (.dK kvs) ∧ H1 D = some (.dK []) ∧ a ≠ D ∧ kvs.length ≤ 1000 ∧
  ∀ S, upd H1 D (.dK (mergeK [] kvs)) S = none → tPairs [(tk, tv)] σ (upd (upd H1 D (.dK (mergeK [] kvs))) S (.dK [])) fun ps H3 => ∃ ky z, ps = [(kV ky, z)] ∧ H3 D = some (.dK (mergeK [] kvs)) ∧ H3 S = some (.dK []) ∧
    Q (.ref D) (upd (upd H3 S (.dK [(ky, z)])) D (.dK (putK (mergeK [] kvs) ky z)))
section
variable {X : Cx} {m k v : Expr} {tm tk tv : TE} {pos : Pos}
/-- one dict is merged into another one -/
theorem merge_in {pins : List (Addr × Obj)} {σ : L2.St} {H : Hp} {s : Shared} {D a : Addr} {kvs more : List (Key × V)} {E : Value → Shared → Prop} {F : Unit → Shared → Prop} {A : Around} (I : Inv X pins σ H s) (hD : H D = some (.dK kvs)) (ha : H a = some (.dK more)) (ne : a ≠ D) (hz : kvs.length + more.length ≤ 2000)
    (h : ∀ s', Inv X pins σ (upd H D (.dK (mergeK kvs more))) s' → F () s') : wpAny (model X.prog X.w) A (mergeMapping D (.ref a) false) F E s := by
  obtain ⟨z1, hd1, vs1, r1, d1⟩ := dk_of I.hok hD
  obtain ⟨z2, hd2, vs2, r2, d2⟩ := dk_of I.hok ha
  have big : sizeLine = 16777216 := sizeLine_eq
  have l1 : kvs.length = vs1.length := Paired.length r1
  have l2 : more.length = vs2.length := Paired.length r2
  refine mergeMapping_dicts (Ne.symm ne) hd2 mix_noref d1 d2 (by omega) fun h' dd sb => h _ ?_
  have ex : ∃ q, h'.get? D = some q := let ⟨q, _, _, hq, _⟩ := dd; ⟨q, hq⟩
  refine d_write (t' := s.toks) I (by rw [hD]; exact True.intro) sb ex (dk_new ?_ hd1 (r2.merge r1) dd)
  have l3 := length_mergeK more kvs
  omega
theorem pe_merge (hm : PE X m tm) (hp : PPs X pos [some k] [v] [(tk, tv)]) : PE X (.Dict [none, some k] [m, v] pos) (tMerge tm tk tv) := by
  refine ⟨fun pins s σ H Q I q => ?_⟩
  have hn := I.hok.fresh (Nat.le_refl s.heap.objs.size)
  have I1 := I.laid (a := s.heap.objs.size) (o := .dK []) (h' := s.heap.push { cls := .type "dict", data := .dict #[] }) (t' := s.toks) (fun _ _ q => Heap.get?_push_of_some _ q) (Nat.le_refl _) (dk_empty s.heap I.big)
  have q1 := q _ hn
  generalize hDD : s.heap.objs.size = D at q1 I1
  rw [arm_eval_Dict]
  refine wpAny_bind (wpAny_standAt ?_)
  show wpAny _ _ (dictDisplay [(none, do let x ← eval m X.env; standAt pos; pure x), (some (eval k X.env), do let x ← eval v X.env; standAt pos; pure x)]) _ _ s
  unfold dictDisplay
  dsimp only
  refine wpAny_bind ?_
  rw [List.forIn_cons]
  refine wpAny_bind ?_
  dsimp only
  refine wpAny_bind (wpAny_ite_true rfl (wpAny_pure ?_))
  refine wpAny_bind (wpAny_alloc ?_)
  rw [hDD]
  refine wpAny_bind (wpAny_holding (wpAny_bind (thn (hm.run pins _ σ _ _ I1 q1) fun u s2 ⟨x, H1, I2, rx, a, kvs, ex, ha, hD, ne, hz, q2⟩ => ?_)))
  subst ex
  obtain rfl : u = Value.ref a := rx
  refine wpAny_bind (wpAny_standAt (wpAny_pure ?_))
  refine wpAny_bind (wpAny_onRaise (wpAny_tryCatch (wpAny_onRaise (wpAny_holding (merge_in I2 hD ha ne (by rw [List.length_nil]; omega) fun s3 I3 => wpAny_pure ?_)))))
  dsimp only
  rw [List.forIn_cons]
  refine wpAny_bind ?_
  dsimp only
  refine wpAny_ite_false rfl (wpAny_pure ?_)
  dsimp only
  rw [List.forIn_nil]
  refine wpAny_pure ?_
  dsimp only
  refine wpAny_bind (wpAny_ite_false rfl ?_)
  refine wpAny_bind (wpAny_holding ?_)
  have hn2 := I3.hok.fresh (Nat.le_refl s3.heap.objs.size)
  have I4 := I3.laid (a := s3.heap.objs.size) (o := .dK []) (h' := s3.heap.push { cls := .type "dict", data := .dict #[] }) (t' := s3.toks) (fun _ _ q => Heap.get?_push_of_some _ q) (Nat.le_refl _) (dk_empty s3.heap I3.big)
  have q3 := q2 _ hn2
  have nSD : s3.heap.objs.size ≠ D := fun z => by
    rw [z, upd_same] at hn2
    cases hn2
  refine wpAny_subDict (knd := mixKind X.prog X.w) (by show 1 ≤ 15; decide) (thn (hp.run pins _ σ _ _ I4 q3) fun ws s5 ⟨ps, H3, I5, rel, ky, z, ep, hD3, hS3, q4⟩ => ?_)
  subst ep
  obtain ⟨rs, c, rk⟩ := carries_of (P := X.prog) (w := X.w) (kvs := [(ky, z)]) rel
  obtain ⟨z0, hd0, vs0, r0, dd⟩ := dk_of I5.hok hS3
  cases r0
  refine ⟨rs, c, dd, fun h' dd' hs => ?_⟩
  have ex : ∃ q, h'.get? s3.heap.objs.size = some q := let ⟨q, _, _, hq, _⟩ := dd'; ⟨q, hq⟩
  have I6 := d_write (t' := s5.toks + ws.length) I5 (by rw [hS3]; exact True.intro) hs ex (dk_new (kvs := [(ky, z)]) (by show 1 ≤ sizeLine; decide) hd0 (rk.merge .nil) dd')
  have hD6 : upd H3 s3.heap.objs.size (.dK [(ky, z)]) D = some (.dK (mergeK [] kvs)) := by rw [upd_ne (Ne.symm nSD)]; exact hD3
  have lk := length_mergeK kvs []
  rw [List.length_nil] at lk
  refine wpAny_bind (wpAny_onRaise (wpAny_holding (merge_in (more := [(ky, z)]) I6 hD6 upd_same nSD (by rw [List.length_singleton]; omega) fun s7 I7 => wpAny_pure ?_)))
  exact wpAny_pure ⟨.ref D, _, I7, rfl, q4⟩
/-- a text in a written dict, by get, or what is handed in -/
def tKGet2 (K : PySem.W.Frag) (d : Addr) (to te tf : TE) : TE := fun σ H Q => to σ H fun x H1 => x = .ref d ∧ te σ H1 fun y H2 => ∃ z, y = .str z ∧ tf σ H2 fun dv H3 => ∃ r, PySem.W.nsIn K d z = some r ∧ (∀ u, r = some u → ∃ v0, RelV v0 u ∧ Q v0 H3) ∧ (r = none → Q dv H3)
theorem pe_kget2 {o e f : Expr} {to te tf : TE} {apos cpos : Pos} {d : Addr} {es : Array DictEntry} {n : Nat} (D : KDict X.K X.w d es n) (ho : PE X o to) (he : PE X e te) (hf : PE X f tf) (m : M2 X o "get" apos e f cpos) : PE X (.Call (.Attribute o "get" apos) [e, f] [] cpos) (tKGet2 X.K d to te tf) := by
  refine ⟨fun pins s σ H Q I h => ?_⟩
  refine wpAny_Call_method m.base m.few m.line PySem.F.plainAttrs_dict PySem.F.slot_dict_get PySem.F.type_dict_get (thn (ho.run pins s σ H _ I h) fun u s1 ⟨x, H1, I1, rx, ex, q1⟩ => ?_)
  subst ex
  obtain rfl : u = Value.ref d := rx
  refine ⟨kd_type D I1, fun b q => ?_, ?_⟩
  · cases q
    exact ⟨_, I1.kIn _ _ D.at_, rfl⟩
  rw [m.trees]
  refine Calls.callWith_builtin rfl (Calls.evalArgs_plain (Calls.spliced_cons (thn (he.run pins s1 σ H1 _ I1 q1) fun iv s2 ⟨y, H2, I2, ry, z, ey, q2⟩ =>
    Calls.spliced_cons (thn (hf.run pins s2 σ H2 _ I2 q2) fun fv s3 ⟨dv, H3, I3, rz, r, er, q3, q4⟩ => Calls.spliced_nil ?_))))
  subst ey
  obtain ⟨t, rfl⟩ := ry
  have mp := PySem.W.mapOf_K (prog := X.prog) (w := X.w) I3.kIn D.at_ D.lit
  have find := PySem.W.find_K (x := z) D.at_ er
  refine call_meetsIn PySem.F.slot_dict_get mp.typeIs PySem.F.entry_dict_get (PySem.F.args_dict_get_3 _ _ _) (meets_dict_get_default (strKind X.prog X.w) d (strKind_is X.prog X.w z t) D.low fv) ⟨_, mp, ?_⟩
  rw [find]
  cases r with
  | none => exact ⟨dv, H3, I3.tok _, rz, q4 rfl⟩
  | some u0 =>
    obtain ⟨v0, r0, q5⟩ := q3 u0 rfl
    exact ⟨v0, H3, I3.tok _, r0, q5⟩
end
end L2
end
section
set_option Elab.async false
set_option linter.all false
set_option maxRecDepth 100000
set_option maxHeartbeats 4000000
namespace K19
open PySem PySem.Spec PyProof.Rows L2
open PySem.W (ke_shaped_ints)
local macro_rules | `(tactic| walk_at "go") => `(tactic| first | refine ⟨_, rfl, ?_⟩ | refine .inl ⟨_, rfl, ?_⟩ | refine ⟨_, _, rfl, rfl, (by first | (show (0 : Int) < _; decide) | exact Or.inl ⟨by decide, by decide⟩ | exact Or.inr ⟨by decide, by decide⟩), ?_⟩ | refine ⟨_, _, rfl, rfl, ?_⟩)
section
variable {P : Program} {w : World} {K : PySem.W.Frag} {mg : Str → Option Value} {base : Heap}

/-- a dict from names to ints -/
def Wid (H : Hp) (a : Addr) (wds : Str → Option Int) : Prop := ∃ kvs, H a = some (.dK kvs) ∧ kvs.length ≤ 100 ∧ ∀ x : Str, valV kvs (Sum.inr x) = (wds x).map V.int
/-- a dict whose keys are names -/
def Kno (H : Hp) (a : Addr) (kn : Str → Bool) : Prop := ∃ kvs, H a = some (.dK kvs) ∧ kvs.length ≤ 100 ∧ ∀ x : Str, (valV kvs (Sum.inr x)).isSome = kn x
theorem Wid.same {H H' : Hp} {a : Addr} {wds : Str → Option Int} (h : Wid H a wds) (s : Same H H') : Wid H' a wds := by
  obtain ⟨kvs, h1, h2, h3⟩ := h
  exact ⟨kvs, s _ _ h1, h2, h3⟩
theorem Kno.same {H H' : Hp} {a : Addr} {kn : Str → Bool} (h : Kno H a kn) (s : Same H H') : Kno H' a kn := by
  obtain ⟨kvs, h1, h2, h3⟩ := h
  exact ⟨kvs, s _ _ h1, h2, h3⟩
/-- a line that uses and sets registers rightly, by its word and what it tells -/
inductive Use (wds : Str → Option Int) (kn : Str → Bool) : Str → List V → Prop
  | input {x : Str} {n : Int} : wds x = none → n ≤ 16 → Use wds kn "input" [.str x, .int n]
  | set {x : Str} {ns : List Int} : ns.length ≤ 8 → (∀ n, wds x = some n → n = ns.length) → Use wds kn "set" (.str x :: ns.map V.int)
  | store {x : Str} {r : Addr} : kn x = true → Use wds kn "store" [.str x, .ref r]
  | give {xs : List Str} : 1 ≤ xs.length → xs.length ≤ 4 → (∀ x ∈ xs, kn x = true) → Use wds kn "give" (xs.map V.str)
  | other {wd : Str} {v : V} {vs : List V} : wd ∈ (["copy", "up", "down", "step"] : List Str) → Use wds kn wd (v :: vs)
/-- width_of(word, told, widths) of a line that sets a register -/
def spWidthOf (K : PySem.W.Frag) : Sp := fun vs H Q _ => ∃ (wd : Str) (t : Addr) (tv : List V) (wv : V) (n : Int), vs = [.str wd, .ref t, wv] ∧ SqT K H t tv ∧
  ((wd = "input" ∧ ∃ x, tv = [.str x, .int n]) ∨ (wd = "set" ∧ ∃ x, ∃ ns : List Int, tv = .str x :: ns.map V.int ∧ n = ns.length)) ∧ Q (.int n) H
abbrev s_width_of : Stmt := topS 59
theorem sc_width_of : FnScope ["word", "told", "widths"] ["word", "told", "widths"] (defScope s_width_of) := ⟨rfl, rfl, rfl, by decide +kernel, rfl, by decide +kernel, by decide +kernel⟩
theorem ok_width_of (T : TxtP K mg) (Tq : PL.TxtQ K w mg) (D : Def K mg "width_of" s_width_of) : Cal P w K mg base 1 "width_of" ["word", "told", "widths"] (spWidthOf K) := by
  refine D.cal sc_width_of (fun vs H Q E h => ?_) (fun _ _ _ _ _ _ us hl => match us, hl with | [_, _, _], _ => rfl) (fun f cdv A outer s H vs Q E hr h => ?_)
  · obtain ⟨wd, t, tv, wv, n, rfl, _⟩ := h
    rfl
  have hu := hu_of hr

  obtain ⟨wd, t, tv, wv, n, rfl, hT, hc, k⟩ := h
  refine ⟨_, (pss_cons (ps_if (pt_cmpR op_eq (pv 0) pe_str (nomark _)) (pss_one (ps_ret (pe_op op_sub (pe_callB call_len (by rfl) T.f_len PySem.boot_len (pa_cons (pv 1) pa_nil)) pe_int))) pss_nil)
      (pss_cons (ps_if (pt_cmpR op_eq (pv 0) pe_str (nomark _)) (pss_one (ps_ret (pe_op op_add (pe_dget hu (pv 2) (pe_ix ix_tup (pv 1) pe_int (fun _ _ => rfl)) (fun _ _ => rfl)) (pe_dget hu (pv 2) (pe_ix ix_tup (pv 1) pe_int (fun _ _ => rfl)) (fun _ _ => rfl))))) pss_nil)
      (pss_one (ps_ret (pe_ifExp (pt_cmpR op_eq (pv 0) pe_str (nomark _)) (pe_ix ix_tup (pv 1) pe_int (fun _ _ => rfl)) (pe_ix ix_tup (pv 1) pe_int (fun _ _ => rfl))))))), ?_⟩
  rcases hc with ⟨rfl, x, rfl⟩ | ⟨rfl, x, ns, rfl, rfl⟩
  · refine ⟨_, rfl, rfl, _, rfl, ite2 (fun c => absurd (of_decide_eq_true c) (by decide)) (fun _ => ?_)⟩
    refine ⟨_, rfl, rfl, _, rfl, ite2 (fun c => absurd (of_decide_eq_true c) (by decide)) (fun _ => ?_)⟩
    refine ⟨_, rfl, rfl, _, rfl, ite2 (fun c => absurd (of_decide_eq_true c) (by decide)) (fun _ => ?_)⟩
    exact ⟨_, rfl, t, _, _, _, rfl, rfl, hT, rfl, k⟩
  · refine ⟨_, rfl, rfl, _, rfl, ite2 (fun _ => ?_) (fun c => absurd (decide_eq_true rfl) c)⟩
    refine ⟨_, rfl, _, _, rfl, .inr ⟨_, hT, rfl⟩, _, _, rfl, rfl, ?_⟩
    have e : (((V.str x :: ns.map V.int).length : Nat) : Int) - 1 = (ns.length : Nat) := by
      rw [List.length_cons, List.length_map]; omega
    have k' : Q (.int ((((V.str x :: ns.map V.int).length : Nat) : Int) - 1)) H := by rw [e]; exact k
    exact k'



/-- misuses(word, told, widths, known) of a right line -/
def spMisuses (K : PySem.W.Frag) : Sp := fun vs H Q _ => ∃ (wd : Str) (t wa ka : Addr) (tv : List V) (wds : Str → Option Int) (kn : Str → Bool), vs = [.str wd, .ref t, .ref wa, .ref ka] ∧ SqT K H t tv ∧ Wid H wa wds ∧ Kno H ka kn ∧ Use wds kn wd tv ∧ ∀ H', Same H H' → Q (.bl false) H'
abbrev s_misuses : Stmt := topS 58
theorem sc_misuses : FnScope ["word", "told", "widths", "known", "first", "behind", "width", "name"] ["word", "told", "widths", "known"] (defScope s_misuses) := ⟨rfl, rfl, rfl, by decide +kernel, rfl, by decide +kernel, by decide +kernel⟩
theorem ok_misuses (T : TxtP K mg) (Tq : PL.TxtQ K w mg) (D : Def K mg "misuses" s_misuses) (C_width_of : Cal P w K mg base 1 "width_of" ["word", "told", "widths"] (spWidthOf K)) : Cal P w K mg base 2 "misuses" ["word", "told", "widths", "known"] (spMisuses K) := by
  refine D.cal sc_misuses (fun vs H Q E h => ?_) (fun _ _ _ _ _ _ us hl => match us, hl with | [_, _, _, _], _ => rfl) (fun f cdv A outer s H vs Q E hr h => ?_)
  · obtain ⟨wd, t, wa, ka, tv, wds, kn, rfl, _⟩ := h
    rfl
  have hu := hu_of hr

  obtain ⟨wd, t, wa, ka, tv, wds, kn, rfl, hT, hW, hK, us, k⟩ := h
  obtain ⟨es, nn, Du⟩ := Tq.d_USED
  have used : ∃ (a b : Int) (xs : List Str), (∃ r, PySem.W.nsIn K (He.ga K "USED") wd = some r ∧ ((∃ tt, r = some (.ref tt) ∧ ∀ H : Hp, SqT K H tt [.int a, .int b]) ∨ (r = none ∧ a = 0 ∧ b = 0))) ∧ xs.length ≤ 4 ∧ (∀ x ∈ xs, kn x = true) ∧
      (HT.sIx tv.length 0 (some a) = 0 ∧ HT.sIx tv.length tv.length (some b) = tv.length → tv = xs.map V.str) ∧ (¬ (HT.sIx tv.length 0 (some a) = 0 ∧ HT.sIx tv.length tv.length (some b) = tv.length) → cutV tv (some a) (some b) = xs.map V.str) := by
    have nil : ∀ v vs, tv = v :: vs → PySem.W.nsIn K (He.ga K "USED") wd = some none → _ := fun v vs e hn => (⟨0, 0, [], ⟨none, hn, .inr ⟨rfl, rfl, rfl⟩⟩, Nat.zero_le _, by simp, by
      rw [e]
      rintro ⟨_, h⟩
      unfold HT.sIx at h
      simp at h, by
      intro _
      unfold cutV HT.sIx
      simp⟩ : ∃ (a b : Int) (xs : List Str), (∃ r, PySem.W.nsIn K (He.ga K "USED") wd = some r ∧ ((∃ tt, r = some (.ref tt) ∧ ∀ H : Hp, SqT K H tt [.int a, .int b]) ∨ (r = none ∧ a = 0 ∧ b = 0))) ∧ xs.length ≤ 4 ∧ (∀ x ∈ xs, kn x = true) ∧
      (HT.sIx tv.length 0 (some a) = 0 ∧ HT.sIx tv.length tv.length (some b) = tv.length → tv = xs.map V.str) ∧ (¬ (HT.sIx tv.length 0 (some a) = 0 ∧ HT.sIx tv.length tv.length (some b) = tv.length) → cutV tv (some a) (some b) = xs.map V.str))
    cases us with
    | input _ _ => exact nil _ _ rfl (Tq.n_USED _ (by decide))
    | set _ _ => exact nil _ _ rfl (Tq.n_USED _ (by decide))
    | other hm =>
      refine nil _ _ rfl (Tq.n_USED _ ?_)
      simp only [List.mem_cons, List.not_mem_nil, or_false] at hm ⊢
      rcases hm with rfl | rfl | rfl | rfl <;> simp
    | store hx =>
      rename_i x r
      obtain ⟨tt, e1, e2⟩ := Tq.v_USED "store" 0 1 (by simp [PL.useds])
      refine ⟨0, 1, [x], ⟨_, e1, .inl ⟨tt, rfl, e2⟩⟩, by simp, by simpa using hx, ?_, ?_⟩
      · rintro ⟨_, h⟩
        unfold HT.sIx at h
        simp at h
      · intro _
        unfold cutV HT.sIx
        simp
    | give h1 h2 h3 =>
      rename_i xs
      obtain ⟨tt, e1, e2⟩ := Tq.v_USED "give" 0 4 (by simp [PL.useds])
      refine ⟨0, 4, xs, ⟨_, e1, .inl ⟨tt, rfl, e2⟩⟩, h2, h3, fun _ => rfl, fun h => absurd ?_ h⟩
      unfold HT.sIx
      rw [List.length_map]
      constructor
      · simp
      · show min (Int.toNat 4) xs.length = xs.length
        exact Nat.min_eq_right h2
  obtain ⟨a, b, xs, ⟨r, e1, e2⟩, xs4, hxs, w1, w2⟩ := used
  refine ⟨_, (pss_cons (ps_asg (pe_kget2 Du (pe_gref (by rfl) Tq.g_USED) (pv 0) (pe_tup (pa_cons pe_int (pa_cons pe_int pa_nil))) ⟨by rfl, by rfl, by rfl, by rfl⟩) (pg_tup rfl (pgs_cons (pg_name (i := 4) sc_misuses.nd rfl (by first | exact Or.inl rfl | exact Or.inr rfl)) (pgs_cons (pg_name (i := 5) sc_misuses.nd rfl (by first | exact Or.inl rfl | exact Or.inr rfl)) pgs_nil))))
      (pss_cons (ps_if (pt_not (pt_truth (pe_callB (cr_all rfl) (by rfl) Tq.f_all (by decide +kernel) (pa_cons (pe_lc (own := [("name", 7)]) (g := gName 7) (tt := tYes) rfl sc_misuses.nd (pi_tup (pe_slice sl_tupA (pv 1) (po_some (pv 4)) (po_some (pv 5)))) (blkOk_by (N := ["word", "told", "widths", "known", "first", "behind", "width", "name"]) (sc := defScope s_misuses) (by decide +kernel)) (fun _ _ _ _ _ => (pg_name (i := 7) sc_misuses.nd rfl (Or.inl rfl))) (fun _ _ _ _ _ => pts_nil) (fun _ _ _ _ _ => (pe_cmp (pc_din hu (pv 7) (pv 3))))) pa_nil)) (by intro _; rfl))) (pss_one (ps_ret pe_bl)) pss_nil)
      (C8.pss_cut (ps_if (PW.pt (pw_and (pt_cmpR op_eq (pv 0) pe_str (nomark _)) (pw_and1 (pt_cmpR op_ne (pe_dget hu (pv 2) (pe_ix ix_tup (pv 1) pe_int (fun _ _ => rfl)) (fun _ _ => rfl)) pe_int (nomark _))))) (pss_one (ps_ret pe_bl)) pss_nil)
      (C8.pss_cut (ps_if (PW.pt (pw_and (pt_cmpR op_eq (pv 0) pe_str (nomark _)) (pw_and1 (pt_cmpR op_gt (pe_op op_add (pe_ix ix_tup (pv 1) pe_int (fun _ _ => rfl)) (pe_ix ix_tup (pv 1) pe_int (fun _ _ => rfl))) (pe_dget hu (pv 2) (pe_ix ix_tup (pv 1) pe_int (fun _ _ => rfl)) (fun _ _ => rfl)) (nomark _))))) (pss_one (ps_ret pe_bl)) pss_nil)
      (pss_cons (ps_if (pt_cmpR op_notIn_seq (pv 0) (pe_gref (by rfl) Tq.g_SETTING) (by rfl)) (pss_one (ps_ret pe_bl)) pss_nil)
      (pss_cons (ps_set (i := 6) sc_misuses.nd rfl (by first | exact Or.inl rfl | exact Or.inr rfl) (pe_cal C_width_of (hr.mono (by decide)) rfl (pa_cons (pv 0) (pa_cons (pv 1) (pa_cons (pv 2) pa_nil)))))
      (C8.pss_cut (ps_if (PW.pt (pw_or (pt_cmpR op_gt (pv 6) (pe_gint (by rfl) Tq.c_WIDEST) (nomark _)) (pw_or1 (PW.pt (pw_and (pt_cmpR op_eq (pv 0) pe_str (nomark _)) (pw_and1 (pt_cmp (pc_din hu (pe_ix ix_tup (pv 1) pe_int (fun _ _ => rfl)) (pv 2))))))))) (pss_one (ps_ret pe_bl)) pss_nil)
      (pss_one (ps_ret (pe_cmpR op_ne (pe_dget2 hu (pv 2) (pe_ix ix_tup (pv 1) pe_int (fun _ _ => rfl)) (pv 6) ⟨by rfl, by rfl, by rfl, by rfl⟩) (pv 6) (nomark _))))))))))), ?_⟩
  -- the rest, from the two numbers on
  have two : ∀ z, z = wd → wd ≠ "fill" ∧ wd ≠ "part" := by
    rintro _ rfl
    cases us with
    | other hm =>
      simp only [List.mem_cons, List.not_mem_nil, or_false] at hm
      rcases hm with rfl | rfl | rfl | rfl <;> decide +kernel
    | _ => decide +kernel
  obtain ⟨nf, np⟩ := two wd rfl
  have way : wd ∉ PL.Setting ∨ (∃ x n, wd = "input" ∧ tv = [.str x, .int n] ∧ wds x = none ∧ n ≤ 16) ∨ (∃ x, ∃ ns : List Int, wd = "set" ∧ tv = .str x :: ns.map V.int ∧ ns.length ≤ 8 ∧ ∀ n, wds x = some n → n = ns.length) := by
    cases us with
    | input h1 h2 => exact .inr (.inl ⟨_, _, rfl, rfl, h1, h2⟩)
    | set h1 h2 => exact .inr (.inr ⟨_, _, rfl, rfl, h1, h2⟩)
    | store _ => exact .inl (by decide +kernel)
    | give _ _ _ => exact .inl (by decide +kernel)
    | other hm =>
      simp only [List.mem_cons, List.not_mem_nil, or_false] at hm
      rcases hm with rfl | rfl | rfl | rfl <;> exact .inl (by decide +kernel)
  refine ⟨rfl, _, rfl, wd, rfl, by show 2 ≤ sizeLine; decide, fun p hp => ⟨r, e1, fun u eu => ?_, fun er => ?_⟩⟩
  all_goals have s1 := Same.new (o := .tup [.int 0, .int 0]) hp
  all_goals have hpp : upd H p (.tup [.int 0, .int 0]) p = some (.tup [.int 0, .int 0]) := upd_same
  all_goals generalize upd H p (.tup [.int 0, .int 0]) = H1 at s1 hpp ⊢
  · rcases e2 with ⟨tt, rfl, e2⟩ | ⟨rfl, _⟩
    · cases eu
      refine ⟨.ref tt, rfl, ⟨_, _, rfl, e2 _, rfl, _, _, rfl, _, _, rfl, rfl, ?_⟩⟩
      by_cases wh : HT.sIx tv.length 0 (some a) = 0 ∧ HT.sIx tv.length tv.length (some b) = tv.length
      · have hz := s1.tup hT
        have wq := w1 wh
        refine ⟨_, rfl, _, rfl, _, rfl, _, rfl, _, rfl, t, _, rfl, hz, fun _ => ?_, fun n => absurd wh n⟩
        rw [wq] at hz
        have s2 := s1
        generalize H1 = H2 at s2 hz ⊢
        refine ⟨t, rfl, ⟨_, hz⟩, fun D hD => lc_it walk_tup (fun i H' => Same H2 H' ∧ H' D = some (.lst ((List.replicate i true).map V.bl))) ⟨Same.new hD, upd_same⟩ (fun i H' _ z => z.1.tup hz) ?_ ?_⟩
        · rintro i y G1 G2 hi ⟨s3, h3⟩ ⟨rfl, hx⟩
          rw [List.getElem?_map] at hx
          obtain ⟨x, hx', rfl⟩ := Option.map_eq_some_iff.mp hx
          obtain ⟨kvs, k1, k2, k3⟩ := (hK.same s2).same s3
          refine ⟨rfl, _, rfl, _, rfl, ka, _, rfl, DGet.k (k := Sum.inr x) k1, ?_⟩
          rw [k3 x, hxs x (List.mem_of_getElem? hx')]
          rw [List.length_map] at hi
          refine ⟨_, h3, ?_, s3.put hD, ?_⟩
          · rw [List.length_map, List.length_replicate, sizeLine_eq]; omega
          · rw [List.replicate_succ', List.map_append]
            exact upd_same
        rintro G ⟨s3, h3⟩
        refine ⟨D, _, rfl, SqL.of h3, ?_⟩
        have all : (List.replicate (xs.map V.str).length true).all id = true := by simp
        rw [all]
        refine ⟨true, rfl, iteF ?_⟩
        have sG := s2.trans s3
        refine ⟨fun σ' H' => σ' = [some (.str wd), some (.ref t), some (.ref wa), some (.ref ka), some (.int a), some (.int b), none, none] ∧ Same H H', ⟨_, rfl, rfl, _, rfl, ite2 (fun c => absurd (V.str.inj (of_decide_eq_true c)) nf) (fun _ => iteF ⟨rfl, sG⟩)⟩, ?_⟩
        clear sG
        rintro σ' G' ⟨rfl, sG⟩
        refine ⟨fun σ' H' => σ' = [some (.str wd), some (.ref t), some (.ref wa), some (.ref ka), some (.int a), some (.int b), none, none] ∧ Same H H', ⟨_, rfl, rfl, _, rfl, ite2 (fun c => absurd (V.str.inj (of_decide_eq_true c)) np) (fun _ => iteF ⟨rfl, sG⟩)⟩, ?_⟩
        clear sG
        rintro σ' G' ⟨rfl, sG⟩
        refine ⟨_, rfl, _, _, rfl, .inr (Tq.t_SETTING _), rfl, CF.flat_strs _, _, rfl, ?_⟩
        rw [if_pos rfl, CF.inV_strs]
        rcases way with nw | ⟨x, n, rfl, rfl, wn, n16⟩ | ⟨x, ns, rfl, rfl, ns8, wn⟩
        · rw [decide_eq_false nw]
          exact iteT (k _ sG)
        · refine iteF ⟨_, rfl, _, rfl, _, rfl, "input", t, [.str x, .int n], .ref wa, n, rfl, sG.tup hT, .inl ⟨rfl, x, rfl⟩, ?_⟩
          obtain ⟨kvs, k1, k2, k3⟩ := hW.same sG
          refine ⟨fun σ' H' => σ' = [some (.str "input"), some (.ref t), some (.ref wa), some (.ref ka), some (.int a), some (.int b), some (.int n), none] ∧ Same H H', ?_, ?_⟩
          · refine ⟨_, rfl, _, _, rfl, rfl, _, rfl, ite2 (fun c => absurd (of_decide_eq_true c) (by omega)) (fun _ => ?_)⟩
            refine ⟨_, rfl, rfl, _, rfl, ite2 (fun _ => ?_) (fun c => absurd (decide_eq_true rfl) c)⟩
            refine ⟨_, rfl, t, _, _, _, rfl, rfl, sG.tup hT, atI_nat (j := 0) rfl, _, rfl, wa, _, rfl, DGet.k (k := Sum.inr x) k1, ?_⟩
            rw [k3, wn]
            exact ⟨_, rfl, iteF ⟨rfl, sG⟩⟩
          clear k1 k2 k3 sG
          rintro σ' G2 ⟨rfl, sG⟩
          obtain ⟨kvs, k1, k2, k3⟩ := hW.same sG
          refine ⟨_, rfl, wa, rfl, .inl ⟨kvs, .inl k1⟩, _, rfl, t, _, _, _, rfl, rfl, sG.tup hT, atI_nat (j := 0) rfl, _, rfl, _, DGet.k (k := Sum.inr x) k1, ?_⟩
          rw [k3, wn]
          refine ⟨_, rfl, rfl, ?_⟩
          have e : (!decide (((Option.map V.int (none : Option Int)).getD (V.int n)) = V.int n)) = false := by
            rw [decide_eq_true (show ((Option.map V.int (none : Option Int)).getD (V.int n)) = V.int n from rfl)]; rfl
          rw [e]
          exact k _ sG
        · refine iteF ⟨_, rfl, _, rfl, _, rfl, "set", t, .str x :: ns.map V.int, .ref wa, ns.length, rfl, sG.tup hT, .inr ⟨rfl, x, ns, rfl, rfl⟩, ?_⟩
          obtain ⟨kvs, k1, k2, k3⟩ := hW.same sG
          refine ⟨fun σ' H' => σ' = [some (.str "set"), some (.ref t), some (.ref wa), some (.ref ka), some (.int a), some (.int b), some (.int ns.length), none] ∧ Same H H', ?_, ?_⟩
          · refine ⟨_, rfl, _, _, rfl, rfl, _, rfl, ite2 (fun c => absurd (of_decide_eq_true c) (by omega)) (fun _ => ?_)⟩
            exact ⟨_, rfl, rfl, _, rfl, ite2 (fun c => absurd (of_decide_eq_true c) (by decide)) (fun _ => iteF ⟨rfl, sG⟩)⟩
          clear k1 k2 k3 sG
          rintro σ' G2 ⟨rfl, sG⟩
          obtain ⟨kvs, k1, k2, k3⟩ := hW.same sG
          refine ⟨_, rfl, wa, rfl, .inl ⟨kvs, .inl k1⟩, _, rfl, t, _, _, _, rfl, rfl, sG.tup hT, atI_nat (j := 0) rfl, _, rfl, _, DGet.k (k := Sum.inr x) k1, ?_⟩
          have e : (valV kvs (Sum.inr x)).getD (V.int (ns.length : Nat)) = V.int (ns.length : Nat) := by
            rw [k3]
            cases q : wds x with
            | none => rfl
            | some m => rw [wn m q]; rfl
          rw [e]
          refine ⟨_, rfl, rfl, ?_⟩
          rw [decide_eq_true rfl]
          exact k _ sG
      · refine ⟨_, rfl, _, rfl, _, rfl, _, rfl, _, rfl, t, _, rfl, s1.tup hT, fun h => absurd h wh, fun _ q hq => ?_⟩
        rw [w2 wh]
        have s2 := s1.trans (Same.new (o := .tup (xs.map V.str)) hq)
        have hz : SqT K (upd H1 q (.tup (xs.map V.str))) q (xs.map V.str) := SqT.of upd_same
        generalize upd H1 q (.tup (xs.map V.str)) = H2 at s2 hz ⊢
        refine ⟨q, rfl, ⟨_, hz⟩, fun D hD => lc_it walk_tup (fun i H' => Same H2 H' ∧ H' D = some (.lst ((List.replicate i true).map V.bl))) ⟨Same.new hD, upd_same⟩ (fun i H' _ z => z.1.tup hz) ?_ ?_⟩
        · rintro i y G1 G2 hi ⟨s3, h3⟩ ⟨rfl, hx⟩
          rw [List.getElem?_map] at hx
          obtain ⟨x, hx', rfl⟩ := Option.map_eq_some_iff.mp hx
          obtain ⟨kvs, k1, k2, k3⟩ := (hK.same s2).same s3
          refine ⟨rfl, _, rfl, _, rfl, ka, _, rfl, DGet.k (k := Sum.inr x) k1, ?_⟩
          rw [k3 x, hxs x (List.mem_of_getElem? hx')]
          rw [List.length_map] at hi
          refine ⟨_, h3, ?_, s3.put hD, ?_⟩
          · rw [List.length_map, List.length_replicate, sizeLine_eq]; omega
          · rw [List.replicate_succ', List.map_append]
            exact upd_same
        rintro G ⟨s3, h3⟩
        refine ⟨D, _, rfl, SqL.of h3, ?_⟩
        have all : (List.replicate (xs.map V.str).length true).all id = true := by simp
        rw [all]
        refine ⟨true, rfl, iteF ?_⟩
        have sG := s2.trans s3
        refine ⟨fun σ' H' => σ' = [some (.str wd), some (.ref t), some (.ref wa), some (.ref ka), some (.int a), some (.int b), none, none] ∧ Same H H', ⟨_, rfl, rfl, _, rfl, ite2 (fun c => absurd (V.str.inj (of_decide_eq_true c)) nf) (fun _ => iteF ⟨rfl, sG⟩)⟩, ?_⟩
        clear sG
        rintro σ' G' ⟨rfl, sG⟩
        refine ⟨fun σ' H' => σ' = [some (.str wd), some (.ref t), some (.ref wa), some (.ref ka), some (.int a), some (.int b), none, none] ∧ Same H H', ⟨_, rfl, rfl, _, rfl, ite2 (fun c => absurd (V.str.inj (of_decide_eq_true c)) np) (fun _ => iteF ⟨rfl, sG⟩)⟩, ?_⟩
        clear sG
        rintro σ' G' ⟨rfl, sG⟩
        refine ⟨_, rfl, _, _, rfl, .inr (Tq.t_SETTING _), rfl, CF.flat_strs _, _, rfl, ?_⟩
        rw [if_pos rfl, CF.inV_strs]
        rcases way with nw | ⟨x, n, rfl, rfl, wn, n16⟩ | ⟨x, ns, rfl, rfl, ns8, wn⟩
        · rw [decide_eq_false nw]
          exact iteT (k _ sG)
        · refine iteF ⟨_, rfl, _, rfl, _, rfl, "input", t, [.str x, .int n], .ref wa, n, rfl, sG.tup hT, .inl ⟨rfl, x, rfl⟩, ?_⟩
          obtain ⟨kvs, k1, k2, k3⟩ := hW.same sG
          refine ⟨fun σ' H' => σ' = [some (.str "input"), some (.ref t), some (.ref wa), some (.ref ka), some (.int a), some (.int b), some (.int n), none] ∧ Same H H', ?_, ?_⟩
          · refine ⟨_, rfl, _, _, rfl, rfl, _, rfl, ite2 (fun c => absurd (of_decide_eq_true c) (by omega)) (fun _ => ?_)⟩
            refine ⟨_, rfl, rfl, _, rfl, ite2 (fun _ => ?_) (fun c => absurd (decide_eq_true rfl) c)⟩
            refine ⟨_, rfl, t, _, _, _, rfl, rfl, sG.tup hT, atI_nat (j := 0) rfl, _, rfl, wa, _, rfl, DGet.k (k := Sum.inr x) k1, ?_⟩
            rw [k3, wn]
            exact ⟨_, rfl, iteF ⟨rfl, sG⟩⟩
          clear k1 k2 k3 sG
          rintro σ' G2 ⟨rfl, sG⟩
          obtain ⟨kvs, k1, k2, k3⟩ := hW.same sG
          refine ⟨_, rfl, wa, rfl, .inl ⟨kvs, .inl k1⟩, _, rfl, t, _, _, _, rfl, rfl, sG.tup hT, atI_nat (j := 0) rfl, _, rfl, _, DGet.k (k := Sum.inr x) k1, ?_⟩
          rw [k3, wn]
          refine ⟨_, rfl, rfl, ?_⟩
          have e : (!decide (((Option.map V.int (none : Option Int)).getD (V.int n)) = V.int n)) = false := by
            rw [decide_eq_true (show ((Option.map V.int (none : Option Int)).getD (V.int n)) = V.int n from rfl)]; rfl
          rw [e]
          exact k _ sG
        · refine iteF ⟨_, rfl, _, rfl, _, rfl, "set", t, .str x :: ns.map V.int, .ref wa, ns.length, rfl, sG.tup hT, .inr ⟨rfl, x, ns, rfl, rfl⟩, ?_⟩
          obtain ⟨kvs, k1, k2, k3⟩ := hW.same sG
          refine ⟨fun σ' H' => σ' = [some (.str "set"), some (.ref t), some (.ref wa), some (.ref ka), some (.int a), some (.int b), some (.int ns.length), none] ∧ Same H H', ?_, ?_⟩
          · refine ⟨_, rfl, _, _, rfl, rfl, _, rfl, ite2 (fun c => absurd (of_decide_eq_true c) (by omega)) (fun _ => ?_)⟩
            exact ⟨_, rfl, rfl, _, rfl, ite2 (fun c => absurd (of_decide_eq_true c) (by decide)) (fun _ => iteF ⟨rfl, sG⟩)⟩
          clear k1 k2 k3 sG
          rintro σ' G2 ⟨rfl, sG⟩
          obtain ⟨kvs, k1, k2, k3⟩ := hW.same sG
          refine ⟨_, rfl, wa, rfl, .inl ⟨kvs, .inl k1⟩, _, rfl, t, _, _, _, rfl, rfl, sG.tup hT, atI_nat (j := 0) rfl, _, rfl, _, DGet.k (k := Sum.inr x) k1, ?_⟩
          have e : (valV kvs (Sum.inr x)).getD (V.int (ns.length : Nat)) = V.int (ns.length : Nat) := by
            rw [k3]
            cases q : wds x with
            | none => rfl
            | some m => rw [wn m q]; rfl
          rw [e]
          refine ⟨_, rfl, rfl, ?_⟩
          rw [decide_eq_true rfl]
          exact k _ sG
    · cases eu
  · rcases e2 with ⟨tt, rfl, _⟩ | ⟨rfl, rfl, rfl⟩
    · cases er
    · refine ⟨_, _, rfl, SqT.of hpp, rfl, _, _, rfl, _, _, rfl, rfl, ?_⟩
      by_cases wh : HT.sIx tv.length 0 (some 0) = 0 ∧ HT.sIx tv.length tv.length (some 0) = tv.length
      · have hz := s1.tup hT
        have wq := w1 wh
        refine ⟨_, rfl, _, rfl, _, rfl, _, rfl, _, rfl, t, _, rfl, hz, fun _ => ?_, fun n => absurd wh n⟩
        rw [wq] at hz
        have s2 := s1
        generalize H1 = H2 at s2 hz ⊢
        refine ⟨t, rfl, ⟨_, hz⟩, fun D hD => lc_it walk_tup (fun i H' => Same H2 H' ∧ H' D = some (.lst ((List.replicate i true).map V.bl))) ⟨Same.new hD, upd_same⟩ (fun i H' _ z => z.1.tup hz) ?_ ?_⟩
        · rintro i y G1 G2 hi ⟨s3, h3⟩ ⟨rfl, hx⟩
          rw [List.getElem?_map] at hx
          obtain ⟨x, hx', rfl⟩ := Option.map_eq_some_iff.mp hx
          obtain ⟨kvs, k1, k2, k3⟩ := (hK.same s2).same s3
          refine ⟨rfl, _, rfl, _, rfl, ka, _, rfl, DGet.k (k := Sum.inr x) k1, ?_⟩
          rw [k3 x, hxs x (List.mem_of_getElem? hx')]
          rw [List.length_map] at hi
          refine ⟨_, h3, ?_, s3.put hD, ?_⟩
          · rw [List.length_map, List.length_replicate, sizeLine_eq]; omega
          · rw [List.replicate_succ', List.map_append]
            exact upd_same
        rintro G ⟨s3, h3⟩
        refine ⟨D, _, rfl, SqL.of h3, ?_⟩
        have all : (List.replicate (xs.map V.str).length true).all id = true := by simp
        rw [all]
        refine ⟨true, rfl, iteF ?_⟩
        have sG := s2.trans s3
        refine ⟨fun σ' H' => σ' = [some (.str wd), some (.ref t), some (.ref wa), some (.ref ka), some (.int 0), some (.int 0), none, none] ∧ Same H H', ⟨_, rfl, rfl, _, rfl, ite2 (fun c => absurd (V.str.inj (of_decide_eq_true c)) nf) (fun _ => iteF ⟨rfl, sG⟩)⟩, ?_⟩
        clear sG
        rintro σ' G' ⟨rfl, sG⟩
        refine ⟨fun σ' H' => σ' = [some (.str wd), some (.ref t), some (.ref wa), some (.ref ka), some (.int 0), some (.int 0), none, none] ∧ Same H H', ⟨_, rfl, rfl, _, rfl, ite2 (fun c => absurd (V.str.inj (of_decide_eq_true c)) np) (fun _ => iteF ⟨rfl, sG⟩)⟩, ?_⟩
        clear sG
        rintro σ' G' ⟨rfl, sG⟩
        refine ⟨_, rfl, _, _, rfl, .inr (Tq.t_SETTING _), rfl, CF.flat_strs _, _, rfl, ?_⟩
        rw [if_pos rfl, CF.inV_strs]
        rcases way with nw | ⟨x, n, rfl, rfl, wn, n16⟩ | ⟨x, ns, rfl, rfl, ns8, wn⟩
        · rw [decide_eq_false nw]
          exact iteT (k _ sG)
        · refine iteF ⟨_, rfl, _, rfl, _, rfl, "input", t, [.str x, .int n], .ref wa, n, rfl, sG.tup hT, .inl ⟨rfl, x, rfl⟩, ?_⟩
          obtain ⟨kvs, k1, k2, k3⟩ := hW.same sG
          refine ⟨fun σ' H' => σ' = [some (.str "input"), some (.ref t), some (.ref wa), some (.ref ka), some (.int 0), some (.int 0), some (.int n), none] ∧ Same H H', ?_, ?_⟩
          · refine ⟨_, rfl, _, _, rfl, rfl, _, rfl, ite2 (fun c => absurd (of_decide_eq_true c) (by omega)) (fun _ => ?_)⟩
            refine ⟨_, rfl, rfl, _, rfl, ite2 (fun _ => ?_) (fun c => absurd (decide_eq_true rfl) c)⟩
            refine ⟨_, rfl, t, _, _, _, rfl, rfl, sG.tup hT, atI_nat (j := 0) rfl, _, rfl, wa, _, rfl, DGet.k (k := Sum.inr x) k1, ?_⟩
            rw [k3, wn]
            exact ⟨_, rfl, iteF ⟨rfl, sG⟩⟩
          clear k1 k2 k3 sG
          rintro σ' G2 ⟨rfl, sG⟩
          obtain ⟨kvs, k1, k2, k3⟩ := hW.same sG
          refine ⟨_, rfl, wa, rfl, .inl ⟨kvs, .inl k1⟩, _, rfl, t, _, _, _, rfl, rfl, sG.tup hT, atI_nat (j := 0) rfl, _, rfl, _, DGet.k (k := Sum.inr x) k1, ?_⟩
          rw [k3, wn]
          refine ⟨_, rfl, rfl, ?_⟩
          have e : (!decide (((Option.map V.int (none : Option Int)).getD (V.int n)) = V.int n)) = false := by
            rw [decide_eq_true (show ((Option.map V.int (none : Option Int)).getD (V.int n)) = V.int n from rfl)]; rfl
          rw [e]
          exact k _ sG
        · refine iteF ⟨_, rfl, _, rfl, _, rfl, "set", t, .str x :: ns.map V.int, .ref wa, ns.length, rfl, sG.tup hT, .inr ⟨rfl, x, ns, rfl, rfl⟩, ?_⟩
          obtain ⟨kvs, k1, k2, k3⟩ := hW.same sG
          refine ⟨fun σ' H' => σ' = [some (.str "set"), some (.ref t), some (.ref wa), some (.ref ka), some (.int 0), some (.int 0), some (.int ns.length), none] ∧ Same H H', ?_, ?_⟩
          · refine ⟨_, rfl, _, _, rfl, rfl, _, rfl, ite2 (fun c => absurd (of_decide_eq_true c) (by omega)) (fun _ => ?_)⟩
            exact ⟨_, rfl, rfl, _, rfl, ite2 (fun c => absurd (of_decide_eq_true c) (by decide)) (fun _ => iteF ⟨rfl, sG⟩)⟩
          clear k1 k2 k3 sG
          rintro σ' G2 ⟨rfl, sG⟩
          obtain ⟨kvs, k1, k2, k3⟩ := hW.same sG
          refine ⟨_, rfl, wa, rfl, .inl ⟨kvs, .inl k1⟩, _, rfl, t, _, _, _, rfl, rfl, sG.tup hT, atI_nat (j := 0) rfl, _, rfl, _, DGet.k (k := Sum.inr x) k1, ?_⟩
          have e : (valV kvs (Sum.inr x)).getD (V.int (ns.length : Nat)) = V.int (ns.length : Nat) := by
            rw [k3]
            cases q : wds x with
            | none => rfl
            | some m => rw [wn m q]; rfl
          rw [e]
          refine ⟨_, rfl, rfl, ?_⟩
          rw [decide_eq_true rfl]
          exact k _ sG
      · refine ⟨_, rfl, _, rfl, _, rfl, _, rfl, _, rfl, t, _, rfl, s1.tup hT, fun h => absurd h wh, fun _ q hq => ?_⟩
        rw [w2 wh]
        have s2 := s1.trans (Same.new (o := .tup (xs.map V.str)) hq)
        have hz : SqT K (upd H1 q (.tup (xs.map V.str))) q (xs.map V.str) := SqT.of upd_same
        generalize upd H1 q (.tup (xs.map V.str)) = H2 at s2 hz ⊢
        refine ⟨q, rfl, ⟨_, hz⟩, fun D hD => lc_it walk_tup (fun i H' => Same H2 H' ∧ H' D = some (.lst ((List.replicate i true).map V.bl))) ⟨Same.new hD, upd_same⟩ (fun i H' _ z => z.1.tup hz) ?_ ?_⟩
        · rintro i y G1 G2 hi ⟨s3, h3⟩ ⟨rfl, hx⟩
          rw [List.getElem?_map] at hx
          obtain ⟨x, hx', rfl⟩ := Option.map_eq_some_iff.mp hx
          obtain ⟨kvs, k1, k2, k3⟩ := (hK.same s2).same s3
          refine ⟨rfl, _, rfl, _, rfl, ka, _, rfl, DGet.k (k := Sum.inr x) k1, ?_⟩
          rw [k3 x, hxs x (List.mem_of_getElem? hx')]
          rw [List.length_map] at hi
          refine ⟨_, h3, ?_, s3.put hD, ?_⟩
          · rw [List.length_map, List.length_replicate, sizeLine_eq]; omega
          · rw [List.replicate_succ', List.map_append]
            exact upd_same
        rintro G ⟨s3, h3⟩
        refine ⟨D, _, rfl, SqL.of h3, ?_⟩
        have all : (List.replicate (xs.map V.str).length true).all id = true := by simp
        rw [all]
        refine ⟨true, rfl, iteF ?_⟩
        have sG := s2.trans s3
        refine ⟨fun σ' H' => σ' = [some (.str wd), some (.ref t), some (.ref wa), some (.ref ka), some (.int 0), some (.int 0), none, none] ∧ Same H H', ⟨_, rfl, rfl, _, rfl, ite2 (fun c => absurd (V.str.inj (of_decide_eq_true c)) nf) (fun _ => iteF ⟨rfl, sG⟩)⟩, ?_⟩
        clear sG
        rintro σ' G' ⟨rfl, sG⟩
        refine ⟨fun σ' H' => σ' = [some (.str wd), some (.ref t), some (.ref wa), some (.ref ka), some (.int 0), some (.int 0), none, none] ∧ Same H H', ⟨_, rfl, rfl, _, rfl, ite2 (fun c => absurd (V.str.inj (of_decide_eq_true c)) np) (fun _ => iteF ⟨rfl, sG⟩)⟩, ?_⟩
        clear sG
        rintro σ' G' ⟨rfl, sG⟩
        refine ⟨_, rfl, _, _, rfl, .inr (Tq.t_SETTING _), rfl, CF.flat_strs _, _, rfl, ?_⟩
        rw [if_pos rfl, CF.inV_strs]
        rcases way with nw | ⟨x, n, rfl, rfl, wn, n16⟩ | ⟨x, ns, rfl, rfl, ns8, wn⟩
        · rw [decide_eq_false nw]
          exact iteT (k _ sG)
        · refine iteF ⟨_, rfl, _, rfl, _, rfl, "input", t, [.str x, .int n], .ref wa, n, rfl, sG.tup hT, .inl ⟨rfl, x, rfl⟩, ?_⟩
          obtain ⟨kvs, k1, k2, k3⟩ := hW.same sG
          refine ⟨fun σ' H' => σ' = [some (.str "input"), some (.ref t), some (.ref wa), some (.ref ka), some (.int 0), some (.int 0), some (.int n), none] ∧ Same H H', ?_, ?_⟩
          · refine ⟨_, rfl, _, _, rfl, rfl, _, rfl, ite2 (fun c => absurd (of_decide_eq_true c) (by omega)) (fun _ => ?_)⟩
            refine ⟨_, rfl, rfl, _, rfl, ite2 (fun _ => ?_) (fun c => absurd (decide_eq_true rfl) c)⟩
            refine ⟨_, rfl, t, _, _, _, rfl, rfl, sG.tup hT, atI_nat (j := 0) rfl, _, rfl, wa, _, rfl, DGet.k (k := Sum.inr x) k1, ?_⟩
            rw [k3, wn]
            exact ⟨_, rfl, iteF ⟨rfl, sG⟩⟩
          clear k1 k2 k3 sG
          rintro σ' G2 ⟨rfl, sG⟩
          obtain ⟨kvs, k1, k2, k3⟩ := hW.same sG
          refine ⟨_, rfl, wa, rfl, .inl ⟨kvs, .inl k1⟩, _, rfl, t, _, _, _, rfl, rfl, sG.tup hT, atI_nat (j := 0) rfl, _, rfl, _, DGet.k (k := Sum.inr x) k1, ?_⟩
          rw [k3, wn]
          refine ⟨_, rfl, rfl, ?_⟩
          have e : (!decide (((Option.map V.int (none : Option Int)).getD (V.int n)) = V.int n)) = false := by
            rw [decide_eq_true (show ((Option.map V.int (none : Option Int)).getD (V.int n)) = V.int n from rfl)]; rfl
          rw [e]
          exact k _ sG
        · refine iteF ⟨_, rfl, _, rfl, _, rfl, "set", t, .str x :: ns.map V.int, .ref wa, ns.length, rfl, sG.tup hT, .inr ⟨rfl, x, ns, rfl, rfl⟩, ?_⟩
          obtain ⟨kvs, k1, k2, k3⟩ := hW.same sG
          refine ⟨fun σ' H' => σ' = [some (.str "set"), some (.ref t), some (.ref wa), some (.ref ka), some (.int 0), some (.int 0), some (.int ns.length), none] ∧ Same H H', ?_, ?_⟩
          · refine ⟨_, rfl, _, _, rfl, rfl, _, rfl, ite2 (fun c => absurd (of_decide_eq_true c) (by omega)) (fun _ => ?_)⟩
            exact ⟨_, rfl, rfl, _, rfl, ite2 (fun c => absurd (of_decide_eq_true c) (by decide)) (fun _ => iteF ⟨rfl, sG⟩)⟩
          clear k1 k2 k3 sG
          rintro σ' G2 ⟨rfl, sG⟩
          obtain ⟨kvs, k1, k2, k3⟩ := hW.same sG
          refine ⟨_, rfl, wa, rfl, .inl ⟨kvs, .inl k1⟩, _, rfl, t, _, _, _, rfl, rfl, sG.tup hT, atI_nat (j := 0) rfl, _, rfl, _, DGet.k (k := Sum.inr x) k1, ?_⟩
          have e : (valV kvs (Sum.inr x)).getD (V.int (ns.length : Nat)) = V.int (ns.length : Nat) := by
            rw [k3]
            cases q : wds x with
            | none => rfl
            | some m => rw [wn m q]; rfl
          rw [e]
          refine ⟨_, rfl, rfl, ?_⟩
          rw [decide_eq_true rfl]
          exact k _ sG

end
end K19
end
section
set_option Elab.async false
set_option linter.all false
set_option maxRecDepth 100000
set_option maxHeartbeats 4000000
namespace K19
open PySem PySem.Spec PyProof.Rows L2
open PySem.W (ke_shaped_ints)
local macro_rules | `(tactic| walk_at "go") => `(tactic| first | refine ⟨_, rfl, ?_⟩ | refine .inl ⟨_, rfl, ?_⟩ | refine ⟨_, _, rfl, rfl, (by first | (show (0 : Int) < _; decide) | exact Or.inl ⟨by decide, by decide⟩ | exact Or.inr ⟨by decide, by decide⟩), ?_⟩ | refine ⟨_, _, rfl, rfl, ?_⟩)
section
variable {P : Program} {w : World} {K : PySem.W.Frag} {mg : Str → Option Value} {base : Heap}

/-- a line that uses registers rightly -/
inductive UseL (wds : Str → Option Int) (kn : Str → Bool) : PL.Ln → Prop
  | input {x : Str} {n : Int} : wds x = none → n ≤ 16 → UseL wds kn ⟨"input", [.name x, .num "wide" n]⟩
  | set {x : Str} {ns : List Int} : ns.length ≤ 8 → (∀ n, wds x = some n → n = ns.length) → UseL wds kn ⟨"set", .name x :: ns.map (.num "cell")⟩
  | store {x z : Str} {k : Int} : kn x = true → UseL wds kn ⟨"store", [.name x, .spot z k]⟩
  | give {xs : List Str} : 1 ≤ xs.length → xs.length ≤ 4 → (∀ x ∈ xs, kn x = true) → UseL wds kn ⟨"give", xs.map .name⟩
  | step {z : Str} {n : Int} : UseL wds kn ⟨"step", [.ptr z, .num "jump" n]⟩
  | copy {wd z z' : Str} {k k' n : Int} : wd ∈ PL.Copying → UseL wds kn ⟨wd, [.num "many" n, .fix "from", .spot z k, .fix "to", .spot z' k']⟩
/-- what a line sets -/
def setOf (l : PL.Ln) : Option (Str × Int) :=
  if l.w = "input" then (match l.ds with | [.name x, .num _ n] => some (x, n) | _ => none)
  else if l.w = "set" then (match l.ds with | .name x :: ns => some (x, (ns.length : Nat)) | _ => none) else none
def Used : Nat → (Str → Option Int) → (Str → Bool) → List PL.Ln → (Str → Option Int) → Prop
  | _, wds, _, [], w' => w' = wds
  | d, wds, kn, l :: ls, w' => (∃ n, l = ⟨"times", [.num "laps" n]⟩ ∧ Used (d + 1) wds kn ls w') ∨ (l = ⟨"end", []⟩ ∧ ∃ d', d = d' + 1 ∧ Used d' wds kn ls w') ∨ (UseL wds kn l ∧ match setOf l with
    | none => Used d wds kn ls w'
    | some (x, n) => Used d (fun y => if y = x then some n else wds y) (fun y => if y = x then true else kn y) ls w')
theorem dk_ne {H : Hp} {a b : Addr} {kvs : List (Key × V)} {xs : List V} (h : H a = some (.dK kvs)) (g : H b = some (.lst xs)) : a ≠ b := fun e => by rw [e, g] at h; cases h
/-- the open blocks: all of them times -/
def ArAt (H : Hp) (al : Addr) (d : Nat) : Prop := ∃ ar : List Addr, H al = some (.lst (ar.map V.ref)) ∧ ar.length = d ∧ ∀ a ∈ ar, ∃ v1 v2, H a = some (.tup [.str "times", v1, v2])
theorem ArAt.same {H H' : Hp} {al : Addr} {d : Nat} (h : ArAt H al d) (s : Same H H') : ArAt H' al d := by
  obtain ⟨ar, a, b, c⟩ := h
  exact ⟨ar, s _ _ a, b, fun x hx => by obtain ⟨v1, v2, e⟩ := c x hx; exact ⟨v1, v2, s _ _ e⟩⟩
theorem ArAt.put {H : Hp} {al p : Addr} {d : Nat} {kvs : List (Key × V)} {u : HO} (h : ArAt H al d) (hp : H p = some (.dK kvs)) : ArAt (upd H p u) al d := by
  obtain ⟨ar, a, b, c⟩ := h
  exact ⟨ar, by rw [upd_ne (fun e => by rw [e, hp] at a; cases a)]; exact a, b, fun x hx => by obtain ⟨v1, v2, e⟩ := c x hx; exact ⟨v1, v2, by rw [upd_ne (fun z => by rw [z, hp] at e; cases e)]; exact e⟩⟩
theorem paired_names {H : Hp} {ps : List Str} : ∀ {xs : List Str} {vs : List V}, Paired (PL.Val H ps) (xs.map .name) vs → vs = xs.map V.str
  | [], _, .nil => rfl
  | x :: xs, _, .cons r t => by
    rw [paired_names t]
    show _ = V.str x :: _
    rw [show _ = V.str x from r]
theorem paired_nums {H : Hp} {ps : List Str} {kd : Str} : ∀ {xs : List Int} {vs : List V}, Paired (PL.Val H ps) (xs.map (.num kd)) vs → vs = xs.map V.int
  | [], _, .nil => rfl
  | x :: xs, _, .cons r t => by
    rw [paired_nums t]
    show _ = V.int x :: _
    rw [show _ = V.int x from r]
theorem told_names (xs : List Str) : (PL.Ln.mk w0 (xs.map .name)).told = xs.map .name := by
  rw [told_eq, List.filter_eq_self]
  intro d hd
  obtain ⟨x, _, rfl⟩ := List.mem_map.mp hd
  rfl
theorem told_nums {kd x w0 : Str} (xs : List Int) : (PL.Ln.mk w0 (.name x :: xs.map (.num kd))).told = .name x :: xs.map (.num kd) := by
  rw [told_eq, List.filter_eq_self]
  intro d hd
  rcases List.mem_cons.mp hd with rfl | hd
  · rfl
  · obtain ⟨x, _, rfl⟩ := List.mem_map.mp hd
    rfl
theorem use_way {H : Hp} {ps : List Str} {wds : Str → Option Int} {kn : Str → Bool} {l : PL.Ln} {vs : List V} (u : UseL wds kn l) (p : Paired (PL.Val H ps) l.told vs) :
    Use wds kn l.w vs ∧ l.w ∉ PL.Opening ∧ l.w ≠ "else" ∧ l.w ≠ "end" ∧ ((l.w ∉ PL.Setting ∧ setOf l = none) ∨ ∃ x n, setOf l = some (x, n) ∧ l.w ∈ PL.Setting ∧ (∃ vr, vs = .str x :: vr) ∧
      ((l.w = "input" ∧ ∃ x, vs = [.str x, .int n]) ∨ (l.w = "set" ∧ ∃ x, ∃ ns : List Int, vs = .str x :: ns.map V.int ∧ n = ns.length))) := by
  cases u with
  | @input x n h1 h2 =>
    have p' : Paired (PL.Val H ps) [.name x, .num "wide" n] vs := p
    rcases p' with _ | ⟨a, p'⟩
    rcases p' with _ | ⟨b, p'⟩
    cases p'
    obtain rfl : _ = V.str x := a
    obtain rfl : _ = V.int n := b
    exact ⟨.input h1 h2, (show ("input" : Str) ∉ PL.Opening by decide +kernel), (show ("input" : Str) ≠ "else" by decide +kernel), (show ("input" : Str) ≠ "end" by decide +kernel), .inr ⟨x, n, rfl, (show ("input" : Str) ∈ PL.Setting by decide +kernel), ⟨_, rfl⟩, .inl ⟨rfl, x, rfl⟩⟩⟩
  | @set x ns h1 h2 =>
    rw [told_nums] at p
    rcases p with _ | ⟨a, p'⟩
    obtain rfl : _ = V.str x := a
    rw [paired_nums p']
    exact ⟨.set h1 h2, (show ("set" : Str) ∉ PL.Opening by decide +kernel), (show ("set" : Str) ≠ "else" by decide +kernel), (show ("set" : Str) ≠ "end" by decide +kernel), .inr ⟨x, ns.length, by show some (x, _) = _; rw [List.length_map], (show ("set" : Str) ∈ PL.Setting by decide +kernel), ⟨_, rfl⟩, .inr ⟨rfl, x, ns, rfl, rfl⟩⟩⟩
  | @store x z k h =>
    have p' : Paired (PL.Val H ps) [.name x, .spot z k] vs := p
    rcases p' with _ | ⟨a, p'⟩
    rcases p' with _ | ⟨b, p'⟩
    cases p'
    obtain rfl : _ = V.str x := a
    obtain ⟨r, i, rfl, _⟩ := b
    exact ⟨.store h, (show ("store" : Str) ∉ PL.Opening by decide +kernel), (show ("store" : Str) ≠ "else" by decide +kernel), (show ("store" : Str) ≠ "end" by decide +kernel), .inl ⟨(show ("store" : Str) ∉ PL.Setting by decide +kernel), rfl⟩⟩
  | @give xs h1 h2 h3 =>
    rw [told_names] at p
    rw [paired_names p]
    exact ⟨.give h1 h2 h3, (show ("give" : Str) ∉ PL.Opening by decide +kernel), (show ("give" : Str) ≠ "else" by decide +kernel), (show ("give" : Str) ≠ "end" by decide +kernel), .inl ⟨(show ("give" : Str) ∉ PL.Setting by decide +kernel), rfl⟩⟩
  | @step z n =>
    have p' : Paired (PL.Val H ps) [.ptr z, .num "jump" n] vs := p
    rcases p' with _ | ⟨a, p'⟩
    exact ⟨.other (show ("step" : Str) ∈ (["copy", "up", "down", "step"] : List Str) by decide +kernel), (show ("step" : Str) ∉ PL.Opening by decide +kernel), (show ("step" : Str) ≠ "else" by decide +kernel), (show ("step" : Str) ≠ "end" by decide +kernel), .inl ⟨(show ("step" : Str) ∉ PL.Setting by decide +kernel), rfl⟩⟩
  | @copy wd z z' k k' n h =>
    have p' : Paired (PL.Val H ps) [.num "many" n, .spot z k, .spot z' k'] vs := p
    rcases p' with _ | ⟨a, p'⟩
    simp only [PL.Copying, List.mem_cons, List.not_mem_nil, or_false] at h
    rcases h with rfl | rfl | rfl
    · exact ⟨.other (show ("copy" : Str) ∈ (["copy", "up", "down", "step"] : List Str) by decide +kernel), (show ("copy" : Str) ∉ PL.Opening by decide +kernel), (show ("copy" : Str) ≠ "else" by decide +kernel), (show ("copy" : Str) ≠ "end" by decide +kernel), .inl ⟨(show ("copy" : Str) ∉ PL.Setting by decide +kernel), rfl⟩⟩
    · exact ⟨.other (show ("up" : Str) ∈ (["copy", "up", "down", "step"] : List Str) by decide +kernel), (show ("up" : Str) ∉ PL.Opening by decide +kernel), (show ("up" : Str) ≠ "else" by decide +kernel), (show ("up" : Str) ≠ "end" by decide +kernel), .inl ⟨(show ("up" : Str) ∉ PL.Setting by decide +kernel), rfl⟩⟩
    · exact ⟨.other (show ("down" : Str) ∈ (["copy", "up", "down", "step"] : List Str) by decide +kernel), (show ("down" : Str) ∉ PL.Opening by decide +kernel), (show ("down" : Str) ≠ "else" by decide +kernel), (show ("down" : Str) ≠ "end" by decide +kernel), .inl ⟨(show ("down" : Str) ∉ PL.Setting by decide +kernel), rfl⟩⟩
theorem some_merge (k : Key) : ∀ (more kvs : List (Key × V)), (valV (mergeK kvs more) k).isSome = ((valV kvs k).isSome || (valV more k).isSome)
  | [], kvs => by
    show (valV kvs k).isSome = ((valV kvs k).isSome || false)
    rw [Bool.or_false]
  | p :: r, kvs => by
    show (valV (mergeK (putK kvs p.1 p.2) r) k).isSome = _
    rw [some_merge k r, valV_put]
    by_cases e : k = p.1
    · rw [if_pos e, valV_pos e.symm]
      simp
    · rw [if_neg e, valV_neg (Ne.symm e)]
/-- a dict from names to ints, of at most m names -/
def WidN (m : Nat) (H : Hp) (a : Addr) (wds : Str → Option Int) : Prop := ∃ kvs, H a = some (.dK kvs) ∧ kvs.length ≤ m ∧ ∀ x : Str, valV kvs (Sum.inr x) = (wds x).map V.int
def KnoN (m : Nat) (H : Hp) (a : Addr) (kn : Str → Bool) : Prop := ∃ kvs, H a = some (.dK kvs) ∧ kvs.length ≤ m ∧ ∀ x : Str, (valV kvs (Sum.inr x)).isSome = kn x
theorem WidN.mk' {m : Nat} {H : Hp} {a : Addr} {wds : Str → Option Int} (h : WidN m H a wds) (l : m ≤ 100) : Wid H a wds := by
  obtain ⟨kvs, h1, h2, h3⟩ := h
  exact ⟨kvs, h1, by omega, h3⟩
theorem KnoN.mk' {m : Nat} {H : Hp} {a : Addr} {kn : Str → Bool} (h : KnoN m H a kn) (l : m ≤ 100) : Kno H a kn := by
  obtain ⟨kvs, h1, h2, h3⟩ := h
  exact ⟨kvs, h1, by omega, h3⟩
theorem WidN.same {m m' : Nat} {H H' : Hp} {a : Addr} {wds : Str → Option Int} (h : WidN m H a wds) (s : Same H H') (l : m ≤ m') : WidN m' H' a wds := by
  obtain ⟨kvs, h1, h2, h3⟩ := h
  exact ⟨kvs, s _ _ h1, by omega, h3⟩
theorem KnoN.same {m m' : Nat} {H H' : Hp} {a : Addr} {kn : Str → Bool} (h : KnoN m H a kn) (s : Same H H') (l : m ≤ m') : KnoN m' H' a kn := by
  obtain ⟨kvs, h1, h2, h3⟩ := h
  exact ⟨kvs, s _ _ h1, by omega, h3⟩
/-- used_rows(rows) -/
def spUsed (K : PySem.W.Frag) : Sp := fun vs H Q _ => ∃ (rl : Addr) (ps : List Str) (ls : List PL.Ln) (rs : List Addr) (wds' : Str → Option Int), vs = [.ref rl] ∧ H rl = some (.lst (rs.map V.ref)) ∧ RowsAt H ps ls rs ∧ ls.length ≤ 40 ∧ Used 0 (fun _ => none) (fun _ => false) ls wds' ∧
  ∀ (r wa : Addr) (H' : Hp), Same H H' → H r = none → H wa = none → H' r = some (.tup [.int (ls.length : Nat), .ref wa]) → Wid H' wa wds' → Q (.ref r) H'
abbrev s_used_rows : Stmt := topS 57
theorem sc_used_rows : FnScope ["rows", "widths", "known", "around", "index", "word", "told", "_", "before", "opener", "half", "name"] ["rows"] (defScope s_used_rows) := ⟨rfl, rfl, rfl, by decide +kernel, rfl, by decide +kernel, by decide +kernel⟩
theorem ok_used_rows (T : TxtP K mg) (Tq : PL.TxtQ K w mg) (D : Def K mg "used_rows" s_used_rows) (C_misuses : Cal P w K mg base 2 "misuses" ["word", "told", "widths", "known"] (spMisuses K)) (C_width_of : Cal P w K mg base 1 "width_of" ["word", "told", "widths"] (spWidthOf K)) : Cal P w K mg base 3 "used_rows" ["rows"] (spUsed K) := by
  refine D.cal sc_used_rows (fun vs H Q E h => ?_) (fun _ _ _ _ _ _ us hl => match us, hl with | [_], _ => rfl) (fun f cdv A outer s H vs Q E hr h => ?_)
  · obtain ⟨rl, ps, ls, rs, wds', rfl, _⟩ := h
    rfl
  have hu := hu_of hr

  obtain ⟨rl, ps, ls, rs, wds', rfl, hR, rows, n40, us, k⟩ := h
  have big : sizeLine = 16777216 := sizeLine_eq
  have rle := paired_len rows
  refine ⟨_, (pss_cons (ps_set (i := 1) sc_used_rows.nd rfl (by first | exact Or.inl rfl | exact Or.inr rfl) pe_dnewK)
      (pss_cons (ps_set (i := 2) sc_used_rows.nd rfl (by first | exact Or.inl rfl | exact Or.inr rfl) pe_dnewK)
      (pss_cons (ps_set (i := 3) sc_used_rows.nd rfl (by first | exact Or.inl rfl | exact Or.inr rfl) (pe_lst pa_nil))
      (pss_cons (ps_for PassesOwn.never rfl (pi_enum (by rfl) T.f_enumerate (pa_cons (pv 0) pa_nil)) (pg_tup rfl (pgs_cons (pg_name (i := 4) sc_used_rows.nd rfl (by first | exact Or.inl rfl | exact Or.inr rfl)) (pgs_cons (pg_tup rfl (pgs_cons (pg_name (i := 5) sc_used_rows.nd rfl (by first | exact Or.inl rfl | exact Or.inr rfl)) (pgs_cons (pg_name (i := 6) sc_used_rows.nd rfl (by first | exact Or.inl rfl | exact Or.inr rfl)) pgs_nil))) pgs_nil))) (pss_one (ps_if (pt_cmpR op_in_seq (pv 5) (pe_gref (by rfl) Tq.g_OPENING) (by rfl)) (pss_one (ps_expr (pe_bm PySem.F.plainAttrs_list PySem.F.slot_list_append PySem.F.type_list_append mt_append (pv 3) (pa_cons (pe_tup (pa_cons (pv 5) (pa_cons (pv 2) (pa_cons (pv 2) pa_nil)))) pa_nil)))) (pss_one (ps_if (pt_cmpR op_eq (pv 5) pe_str (nomark _)) (pss_cons (ps_asg (pe_bm0 PySem.F.plainAttrs_list PySem.F.slot_list_pop PySem.F.type_list_pop mt_pop (pv 3)) (pg_tup rfl (pgs_cons (pg_name (i := 7) sc_used_rows.nd rfl (by first | exact Or.inl rfl | exact Or.inr rfl)) (pgs_cons (pg_name (i := 8) sc_used_rows.nd rfl (by first | exact Or.inl rfl | exact Or.inr rfl)) (pgs_cons (pg_name (i := 7) sc_used_rows.nd rfl (by first | exact Or.inl rfl | exact Or.inr rfl)) pgs_nil)))))
      (pss_cons (ps_expr (pe_bm PySem.F.plainAttrs_list PySem.F.slot_list_append PySem.F.type_list_append mt_append (pv 3) (pa_cons (pe_tup (pa_cons (pv 5) (pa_cons (pv 8) (pa_cons (pv 2) pa_nil)))) pa_nil)))
      (pss_one (ps_set (i := 2) sc_used_rows.nd rfl (by first | exact Or.inl rfl | exact Or.inr rfl) (pv 8))))) (pss_one (ps_if (pt_cmpR op_eq (pv 5) pe_str (nomark _)) (pss_cons (ps_asg (pe_bm0 PySem.F.plainAttrs_list PySem.F.slot_list_pop PySem.F.type_list_pop mt_pop (pv 3)) (pg_tup rfl (pgs_cons (pg_name (i := 9) sc_used_rows.nd rfl (by first | exact Or.inl rfl | exact Or.inr rfl)) (pgs_cons (pg_name (i := 7) sc_used_rows.nd rfl (by first | exact Or.inl rfl | exact Or.inr rfl)) (pgs_cons (pg_name (i := 10) sc_used_rows.nd rfl (by first | exact Or.inl rfl | exact Or.inr rfl)) pgs_nil)))))
      (pss_one (ps_set (i := 2) sc_used_rows.nd rfl (by first | exact Or.inl rfl | exact Or.inr rfl) (pe_ifExp (pt_cmpR op_eq (pv 9) pe_str (nomark _)) (pv 2) PL.pe_never)))) (pss_one (ps_if (pt_val (pe_cal C_misuses (hr.mono (by decide)) rfl (pa_cons (pv 5) (pa_cons (pv 6) (pa_cons (pv 1) (pa_cons (pv 2) pa_nil)))))) (pss_one (ps_ret (pe_tup (pa_cons (pv 4) (pa_cons (pv 1) pa_nil))))) (pss_one (ps_if (pt_cmpR op_in_seq (pv 5) (pe_gref (by rfl) Tq.g_SETTING) (by rfl)) (pss_cons (ps_dput hu (pv 1) (pe_ix ix_tup (pv 6) pe_int (fun _ _ => rfl)) (pe_cal C_width_of (hr.mono (by decide)) rfl (pa_cons (pv 5) (pa_cons (pv 6) (pa_cons (pv 1) pa_nil)))) rfl)
      (pss_one (ps_set (i := 2) sc_used_rows.nd rfl (by first | exact Or.inl rfl | exact Or.inr rfl) (pe_merge (pv 2) (pps_cons (pe_ix ix_tup (pv 6) pe_int (fun _ _ => rfl)) pe_bl pps_nil))))) pss_nil)))))))))))
      (pss_one (ps_ret (pe_tup (pa_cons (pe_callB call_len (by rfl) T.f_len PySem.boot_len (pa_cons (pv 0) pa_nil)) (pa_cons (pv 1) pa_nil))))))))), ?_⟩
  refine fun wa hwa => ?_
  have s1 := Same.new (o := .dK []) hwa
  have hw : upd H wa (.dK []) wa = some (.dK []) := upd_same
  generalize upd H wa (.dK []) = H1 at s1 hw ⊢
  refine fun ka hka => ?_
  have nka : ka ≠ wa := fun e => by rw [e, hw] at hka; cases hka
  have s2 := s1.trans (Same.new (o := .dK []) hka)
  have hw2 := Same.new (o := .dK []) hka _ _ hw
  have hk : upd H1 ka (.dK []) ka = some (.dK []) := upd_same
  generalize upd H1 ka (.dK []) = H2 at s2 hw2 hk ⊢
  refine ⟨by show 0 ≤ sizeLine; decide, fun al hal => ?_⟩
  have s3 := s2.trans (Same.new (o := .lst []) hal)
  have hw3 := Same.new (o := .lst []) hal _ _ hw2
  have hk3 := Same.new (o := .lst []) hal _ _ hk
  have ha3 : upd H2 al (.lst []) al = some (.lst []) := upd_same
  have fal : H al = none := Same.free s2 hal
  generalize upd H2 al (.lst []) = H3 at s3 hw3 hk3 ha3 ⊢
  refine ⟨_, rfl, rl, _, rfl, SqL.of (s3 _ _ hR), for_it walk_enum (fun i σ H' => ∃ kb v4 v5 v6 v7 v8 v9 v10 v11 wds kn d, σ = [some (.ref rl), some (.ref wa), some (.ref kb), some (.ref al), v4, v5, v6, v7, v8, v9, v10, v11] ∧ Same H H' ∧ WidN i H' wa wds ∧ KnoN i H' kb kn ∧ kb ≠ wa ∧ ArAt H' al d ∧ d ≤ i ∧ Used d wds kn (ls.drop i) wds')
    ⟨ka, none, none, none, none, none, none, none, none, _, _, 0, rfl, s3, ⟨[], hw3, Nat.zero_le _, fun _ => rfl⟩, ⟨[], hk3, Nat.zero_le _, fun _ => rfl⟩, nka, ⟨[], ha3, rfl, by simp⟩, Nat.le_refl _, us⟩ (fun i σ H' _ ⟨_, _, _, _, _, _, _, _, _, _, _, _, _, z, _⟩ => SqL.of (z _ _ hR)) ?_ ?_⟩
  · rintro i x σ H4 H5 hi ⟨kb, v4, v5, v6, v7, v8, v9, v10, v11, wds, kn, d, rfl, s4, wi, ki, nkb, ar4, di, us'⟩ ⟨T0, x1, x2, rfl, hT0, rfl, e1, e2⟩
    cases e1
    obtain ⟨r, l, rfl, hr', hl, row⟩ := row_get (RowsAt.same s4 rows) e2
    have hi' : i < ls.length := (List.getElem?_eq_some_iff.mp hl).1
    have dr : ls.drop i = l :: ls.drop (i + 1) := by
      rw [List.drop_eq_getElem_cons hi', (List.getElem?_eq_some_iff.mp hl).2]
    rw [dr] at us'
    obtain ⟨t, vs, g1, g2, g3⟩ := row.ex
    have sT := Same.new (o := .tup [.int (i : Nat), .ref r]) hT0
    have s5 := s4.trans sT
    have wi5 := wi.same sT (Nat.le_refl _)
    have ki5 := ki.same sT (Nat.le_refl _)
    have g1' := sT _ _ g1
    have g2' := sT _ _ g2
    refine ⟨T0, _, rfl, SqT.of upd_same, rfl, _, _, rfl, _, _, rfl, ⟨r, _, rfl, SqT.of g1', rfl, _, _, rfl, _, _, rfl, rfl, ?_⟩⟩
    have ar5 := ar4.same sT
    clear g1 g2 wi ki ar4
    have rowS := row.same sT
    clear row
    generalize upd H4 T0 (.tup [.int (i : Nat), .ref r]) = H5 at s5 wi5 ki5 g1' g2' ar5 rowS ⊢
    refine ⟨rfl, ?_⟩
    rcases us' with ⟨n, rfl, us2⟩ | ⟨rfl, d', rfl, us2⟩ | ⟨ul, us2⟩
    · -- times
      refine ⟨_, rfl, _, _, rfl, .inr (Tq.t_OPENING _), rfl, CF.flat_strs _, _, rfl, ?_⟩
      rw [if_neg (by decide), CF.inV_strs, decide_eq_true (show ("times" : Str) ∈ PL.Opening by decide +kernel)]
      obtain ⟨ar, a1, a2, a3⟩ := id ar5
      refine iteT ⟨_, rfl, .inl ⟨rfl, _, SqL.of a1⟩, _, rfl, _, rfl, _, rfl, by show 3 ≤ sizeLine; decide, fun q hq => ?_⟩
      have sq := Same.new (o := .tup [.str "times", .ref kb, .ref kb]) hq
      have a1' := sq _ _ a1
      refine ⟨al, _, _, rfl, rfl, a1', by rw [List.length_map]; omega, ?_⟩
      have sp := same_put (o := .lst (ar.map V.ref ++ [.ref q])) (s5.trans sq) fal a1'
      have sN : ∀ {c : Addr} {o : HO}, c ≠ al → upd H5 q (.tup [.str "times", .ref kb, .ref kb]) c = some o → upd (upd H5 q (.tup [.str "times", .ref kb, .ref kb])) al (.lst (ar.map V.ref ++ [.ref q])) c = some o := fun {c o} ne e => by rw [upd_ne ne]; exact e
      refine ⟨kb, _, _, _, _, _, _, _, _, wds, kn, d + 1, rfl, sp, ?_, ?_, nkb, ⟨ar ++ [q], by rw [List.map_append]; exact upd_same, by rw [List.length_append, List.length_singleton, a2], fun x hx => ?_⟩, by omega, us2⟩
      · obtain ⟨kvs, k1, k2, k3⟩ := wi5.same sq (Nat.le_succ _)
        exact ⟨kvs, sN (dk_ne k1 a1') k1, k2, k3⟩
      · obtain ⟨kvs, k1, k2, k3⟩ := ki5.same sq (Nat.le_succ _)
        exact ⟨kvs, sN (dk_ne k1 a1') k1, k2, k3⟩
      · rcases List.mem_append.mp hx with hx | hx
        · obtain ⟨v1, v2, e⟩ := a3 x hx
          exact ⟨v1, v2, sN (fun z => by rw [z, a1] at e; cases e) (sq _ _ e)⟩
        · rw [List.mem_singleton.mp hx]
          exact ⟨_, _, sN (fun z => by rw [z, a1] at hq; cases hq) upd_same⟩
    · -- end
      refine ⟨_, rfl, _, _, rfl, .inr (Tq.t_OPENING _), rfl, CF.flat_strs _, _, rfl, ?_⟩
      rw [if_neg (by decide), CF.inV_strs, decide_eq_false (show ("end" : Str) ∉ PL.Opening by decide +kernel)]
      refine iteF ⟨_, rfl, rfl, _, rfl, ite2 (fun c => absurd (V.str.inj (of_decide_eq_true c)) (by decide +kernel)) (fun _ => ?_)⟩
      refine ⟨_, rfl, rfl, _, rfl, ite2 (fun _ => ?_) (fun c => absurd (decide_eq_true rfl) c)⟩
      obtain ⟨ar, a1, a2, a3⟩ := id ar5
      have arl : ar[ar.length - 1]? = some ar[ar.length - 1] := List.getElem?_eq_getElem (by omega)
      have arm : ar[ar.length - 1] ∈ ar := List.getElem_mem (by omega)
      generalize ar[ar.length - 1] = q at arl arm
      obtain ⟨v1, v2, eq⟩ := a3 q arm
      have hy : (ar.map V.ref)[(ar.map V.ref).length - 1]? = some (.ref q) := by rw [List.length_map, List.getElem?_map, arl]; rfl
      refine ⟨_, rfl, .inl ⟨rfl, _, SqL.of a1⟩, al, _, _, rfl, rfl, a1, hy, ?_⟩
      have sN : ∀ {c : Addr} {o : HO}, c ≠ al → H5 c = some o → upd H5 al (.lst (ar.map V.ref).dropLast) c = some o := fun {c o} ne e => by rw [upd_ne ne]; exact e
      refine ⟨q, _, rfl, SqT.of (sN (fun z => by rw [z, a1] at eq; cases eq) eq), rfl, _, _, rfl, _, _, rfl, _, _, rfl, rfl, ?_⟩
      refine ⟨_, rfl, rfl, _, rfl, ite2 (fun _ => ?_) (fun c => absurd (decide_eq_true rfl) c)⟩
      refine ⟨_, rfl, kb, _, _, _, _, _, _, _, _, wds, kn, d', rfl, same_put s5 fal a1, ?_, ?_, nkb, ⟨ar.dropLast, by rw [← List.map_dropLast]; exact upd_same, by rw [List.length_dropLast, a2]; omega, fun x hx => ?_⟩, by omega, us2⟩
      · obtain ⟨kvs, k1, k2, k3⟩ := wi5
        exact ⟨kvs, sN (dk_ne k1 a1) k1, by omega, k3⟩
      · obtain ⟨kvs, k1, k2, k3⟩ := ki5
        exact ⟨kvs, sN (dk_ne k1 a1) k1, by omega, k3⟩
      · obtain ⟨v1, v2, e⟩ := a3 x (List.dropLast_subset _ hx)
        exact ⟨v1, v2, sN (fun z => by rw [z, a1] at e; cases e) e⟩
    obtain ⟨t', vs', g1x, g2x, g3⟩ := rowS.ex
    obtain ⟨rfl, rfl⟩ : t = t' ∧ vs = vs' := by
      rw [g1'] at g1x
      cases g1x
      rw [g2'] at g2x
      cases g2x
      exact ⟨rfl, rfl⟩
    obtain ⟨u1, u2, u3, u4, u5⟩ := use_way ul g3
    refine ⟨_, rfl, _, _, rfl, .inr (Tq.t_OPENING _), rfl, CF.flat_strs _, _, rfl, ?_⟩
    rw [if_neg (by decide), CF.inV_strs, decide_eq_false u2]
    refine iteF ⟨_, rfl, rfl, _, rfl, ite2 (fun c => absurd (V.str.inj (of_decide_eq_true c)) u3) (fun _ => ?_)⟩
    refine ⟨_, rfl, rfl, _, rfl, ite2 (fun c => absurd (V.str.inj (of_decide_eq_true c)) u4) (fun _ => ?_)⟩
    refine ⟨_, rfl, _, rfl, _, rfl, _, rfl, l.w, t, wa, kb, vs, wds, kn, rfl, SqT.of g2', wi5.mk' (by omega), ki5.mk' (by omega), u1, fun H6 s6 => ⟨_, rfl, iteF ?_⟩⟩
    have s6' := s5.trans s6
    have wi6 := wi5.same s6 (Nat.le_refl _)
    have ki6 := ki5.same s6 (Nat.le_refl _)
    have g2'' := s6 _ _ g2'
    have ar6 := ar5.same s6
    refine ⟨_, rfl, _, _, rfl, .inr (Tq.t_SETTING _), rfl, CF.flat_strs _, _, rfl, ?_⟩
    rw [if_neg (by decide), CF.inV_strs]
    rcases u5 with ⟨n1, n2⟩ | ⟨x, n, n1, n2, ⟨vr, ev⟩, n3⟩
    · rw [decide_eq_false n1]
      rw [n2] at us2
      exact iteF ⟨kb, _, _, _, _, _, _, _, _, wds, kn, d, rfl, s6', wi6.same (Same.refl _) (by omega), ki6.same (Same.refl _) (by omega), nkb, ar6, by omega, us2⟩
    · rw [decide_eq_true n2]
      rw [n1] at us2
      obtain ⟨kvs, k1, k2, k3⟩ := wi6
      obtain ⟨kks, j1, j2, j3⟩ := ki6
      subst ev
      have n3' : (l.w = "input" ∧ ∃ x0, (V.str x :: vr : List V) = [.str x0, .int n]) ∨ (l.w = "set" ∧ ∃ x0, ∃ ns : List Int, (V.str x :: vr : List V) = .str x0 :: ns.map V.int ∧ n = ns.length) := n3
      refine iteT ⟨_, rfl, _, rfl, _, rfl, l.w, t, _, .ref wa, n, rfl, SqT.of g2'', n3', ?_⟩
      refine ⟨_, rfl, _, rfl, t, _, _, _, rfl, rfl, SqT.of g2'', atI_nat (j := 0) rfl, wa, _, rfl, DPut.k (k := Sum.inr x) k1 (by omega), ?_⟩
      have s7 : Same H (upd H6 wa (.dK (putK kvs (Sum.inr x) (.int n)))) := same_put s6' hwa k1
      have w7 : WidN (i + 1) (upd H6 wa (.dK (putK kvs (Sum.inr x) (.int n)))) wa (fun y => if y = x then some n else wds y) := by
        refine ⟨_, upd_same, ?_, fun y => ?_⟩
        · have := length_putK kvs (Sum.inr x : Key) (V.int n)
          omega
        · rw [valV_put]
          show _ = Option.map V.int (if y = x then some n else wds y)
          by_cases e : y = x
          · rw [if_pos (by rw [e]), if_pos e]; rfl
          · rw [if_neg (fun c => e (Sum.inr.inj c)), if_neg e]; exact k3 y
      have j7 : upd H6 wa (.dK (putK kvs (Sum.inr x) (.int n))) kb = some (.dK kks) := by rw [upd_ne nkb]; exact j1
      have g7 : upd H6 wa (.dK (putK kvs (Sum.inr x) (.int n))) t = some (.tup (.str x :: vr)) := by
        have nt : t ≠ wa := fun e => by rw [e, k1] at g2''; cases g2''
        rw [upd_ne nt]
        exact g2''
      have ar7 := ar6.put (u := .dK (putK kvs (Sum.inr x) (.int n))) k1
      generalize upd H6 wa (.dK (putK kvs (Sum.inr x) (.int n))) = H7 at s7 w7 j7 g7 ar7 ⊢
      refine fun D2 hD2 => ?_
      have j8 := Same.new (o := .dK []) hD2 _ _ j7
      have nD2 : kb ≠ D2 := fun e => by rw [← e, j7] at hD2; cases hD2
      refine ⟨_, rfl, kb, kks, rfl, j8, upd_same, nD2, by omega, fun S hS => ?_⟩
      have g8 : upd (upd (upd H7 D2 (.dK [])) D2 (.dK (mergeK [] kks))) S (.dK []) t = some (.tup (.str x :: vr)) := by
        have n1 : t ≠ D2 := fun e => by rw [← e, g7] at hD2; cases hD2
        have n2 : t ≠ S := fun e => by rw [← e, upd_ne n1, upd_ne n1, g7] at hS; cases hS
        rw [upd_ne n2, upd_ne n1, upd_ne n1]
        exact g7
      refine ⟨_, rfl, t, _, _, _, rfl, rfl, SqT.of g8, atI_nat (j := 0) rfl, ?_⟩
      have nDS : D2 ≠ S := fun e => by rw [← e, upd_same] at hS; cases hS
      have z0 : upd (upd (upd H7 D2 (.dK [])) D2 (.dK (mergeK [] kks))) S (.dK []) D2 = some (.dK (mergeK [] kks)) := by rw [upd_ne nDS]; exact upd_same
      refine ⟨Sum.inr x, .bl true, rfl, z0, upd_same, ?_⟩
      have wD2 : wa ≠ D2 := fun e => by
        obtain ⟨q, q1, _⟩ := w7
        rw [← e, q1] at hD2
        cases hD2
      have s8 : Same H7 (upd (upd (upd (upd (upd H7 D2 (.dK [])) D2 (.dK (mergeK [] kks))) S (.dK [])) S (.dK [(Sum.inr x, .bl true)])) D2 (.dK (putK (mergeK [] kks) (Sum.inr x) (.bl true)))) := by
        intro c v e
        have n1 : c ≠ D2 := fun e' => by rw [← e', e] at hD2; cases hD2
        have n2 : c ≠ S := fun e' => by rw [← e', upd_ne n1, upd_ne n1, e] at hS; cases hS
        rw [upd_ne n1, upd_ne n2, upd_ne n2, upd_ne n1, upd_ne n1]
        exact e
      refine ⟨D2, _, _, _, _, _, _, _, _, _, _, d, rfl, s7.trans s8, w7.same s8 (Nat.le_refl _), ⟨_, upd_same, ?_, fun y => ?_⟩, Ne.symm wD2, ar7.same s8, by omega, us2⟩
      · have h1 := length_putK (mergeK [] kks) (Sum.inr x : Key) (V.bl true)
        have h2 := length_mergeK kks []
        rw [List.length_nil] at h2
        omega
      · rw [valV_put]
        show _ = if y = x then true else kn y
        by_cases e : y = x
        · rw [if_pos (by rw [e]), if_pos e]; rfl
        · rw [if_neg (fun c => e (Sum.inr.inj c)), if_neg e, some_merge]
          show (false || _) = _
          rw [Bool.false_or]
          exact j3 y
  · rintro σ H4 ⟨kb, v4, v5, v6, v7, v8, v9, v10, v11, wds, kn, d, rfl, s4, wi, ki, nkb, ar4, di, us'⟩
    have e : ls.drop (rs.map V.ref).length = [] := List.drop_of_length_le (by rw [List.length_map]; omega)
    rw [e] at us'
    obtain rfl : wds' = wds := us'
    refine ⟨_, rfl, _, _, rfl, .inl ⟨_, SqL.of (s4 _ _ hR), rfl⟩, _, rfl, by show 2 ≤ sizeLine; decide, fun r hr => ?_⟩
    refine k r wa _ (s4.trans (Same.new hr)) ?_ hwa ?_ ?_
    · exact Same.free s4 hr
    · have e2 : (((rs.map V.ref).length : Nat) : Int) = (ls.length : Nat) := by rw [List.length_map, rle]
      rw [← e2]
      exact upd_same
    · have := wi.same (Same.new (o := .tup [.int ((rs.map V.ref).length : Nat), .ref wa]) hr) (Nat.le_refl _)
      exact this.mk' (by rw [List.length_map]; omega)

end
end K19
end
section
set_option Elab.async false
set_option linter.all false
set_option maxRecDepth 100000
set_option maxHeartbeats 4000000
namespace K19
open PySem PySem.Spec PyProof.Rows L2
open PySem.W (ke_shaped_ints)
local macro_rules | `(tactic| walk_at "go") => `(tactic| first | refine ⟨_, rfl, ?_⟩ | refine .inl ⟨_, rfl, ?_⟩ | refine ⟨_, _, rfl, rfl, (by first | (show (0 : Int) < _; decide) | exact Or.inl ⟨by decide, by decide⟩ | exact Or.inr ⟨by decide, by decide⟩), ?_⟩ | refine ⟨_, _, rfl, rfl, ?_⟩)
section
variable {P : Program} {w : World} {K : PySem.W.Frag} {mg : Str → Option Value} {base : Heap}

theorem mem_joinL {n : Nat} {y : List Nat} : ∀ {ps : List (List Nat)}, n ∈ TL.joinL y ps → n ∈ y ∨ ∃ p ∈ ps, n ∈ p
  | [], h => by cases h
  | [p], h => .inr ⟨p, List.mem_singleton_self _, h⟩
  | p :: q :: r, h => by
    have h' : n ∈ p ++ (y ++ TL.joinL y (q :: r)) := by first | exact h | simpa [TL.joinL] using h
    rw [List.mem_append, List.mem_append] at h'
    rcases h' with h' | h' | h'
    · exact .inr ⟨p, List.mem_cons_self, h'⟩
    · exact .inl h'
    · rcases mem_joinL h' with a | ⟨x, hx, e⟩
      · exact .inl a
      · exact .inr ⟨x, List.mem_cons_of_mem _ hx, e⟩
theorem text_line {ps : List Str} (nm : CF.Names ps) {l : PL.Ln} (h : l.Ok ps) : 1 ≤ l.text.length ∧ 10 ∉ TL.tl l.text := by
  have e : l.text = Txt.join " " (l.w :: l.ds.map PL.Wd.text) := rfl
  have hw := (kinds_word h.kinds).2.2.2.1
  constructor
  · rw [e, TL.join_eq, TL.len_tl, TL.tl_join]
    rw [TL.len_tl] at hw
    cases l.ds.map PL.Wd.text with
    | nil => simpa [TL.joinL] using hw
    | cons w2 r =>
      have e : TL.joinL (TL.tl " ") ((l.w :: w2 :: r).map TL.tl) = TL.tl l.w ++ (TL.tl " " ++ TL.joinL (TL.tl " ") ((w2 :: r).map TL.tl)) := by
        first | rfl | simp [TL.joinL]
      rw [e, List.length_append]
      omega
  · rw [e, TL.join_eq, TL.tl_join]
    intro hm
    rcases mem_joinL hm with a | ⟨p, hp, b⟩
    · exact absurd a (by decide +kernel)
    · obtain ⟨x, hx, rfl⟩ := List.mem_map.mp hp
      exact (ln_words nm h x hx).2.2 b
theorem texts_len {ps : List Str} (nm : CF.Names ps) {ls : List PL.Ln} (ok : ∀ l ∈ ls, l.Ok ps) (n : ls.length ≤ 40) : (Txt.join "\n" (ls.map PL.Ln.text)).length ≤ 20000 := by
  have h1 := CF.join_len "\n" (ls.map PL.Ln.text)
  have h2 := CF.sum_le (ws := ls.map PL.Ln.text) (b := 400) fun x hx => by
    obtain ⟨l, hl, rfl⟩ := List.mem_map.mp hx
    exact ln_len nm (ok l hl)
  rw [List.length_map] at h1 h2
  have h4 : ("\n" : Str).length = 1 := by decide +kernel
  rw [h4] at h1
  omega
/-- right lines: what they are, where they stand, what they use -/
structure LinesOk (ps : List Str) (ls : List PL.Ln) (wds : Str → Option Int) : Prop where
  ok : ∀ l ∈ ls, l.Ok ps
  n40 : ls.length ≤ 40
  ne : ∀ l ∈ ls, l.w ≠ "else"
  pl : PL.placed (ls.map PL.Ln.w) "input" [] = some []
  us : Used 0 (fun _ => none) (fun _ => false) ls wds
def textOf (ls : List PL.Ln) : Str := Txt.join "\n" (ls.map PL.Ln.text)
/-- read_rows(pointers, text, functions) of right lines -/
def spReadRows (K : PySem.W.Frag) : Sp := fun vs H Q _ => ∃ (a : Addr) (ps : List Str) (ls : List PL.Ln) (wds : Str → Option Int) (fv : V), vs = [.ref a, .str (textOf ls), fv] ∧ SqT K H a (ps.map V.str) ∧ CF.Names ps ∧ LinesOk ps ls wds ∧
  ∀ (r rl wa : Addr) (rs : List Addr) (H' : Hp), Same H H' → H' r = some (.tup [.ref rl, .ref wa]) → H' rl = some (.lst (rs.map V.ref)) → RowsAt H' ps ls rs → Wid H' wa wds → Q (.ref r) H'
abbrev s_read_rows : Stmt := topS 53
theorem sc_read_rows : FnScope ["pointers", "text", "functions", "lines", "placed", "around", "used", "widths"] ["pointers", "text", "functions"] (defScope s_read_rows) := ⟨rfl, rfl, rfl, by decide +kernel, rfl, by decide +kernel, by decide +kernel⟩
theorem ok_read_rows (T : TxtP K mg) (Tq : PL.TxtQ K w mg) (D : Def K mg "read_rows" s_read_rows) (C_lines_of : Cal P w K mg base 1 "lines_of" ["text"] spLinesOf) (C_formed_rows : Cal P w K mg base 7 "formed_rows" ["lines", "pointers", "functions"] (spFormed K)) (C_placed_rows : Cal P w K mg base 2 "placed_rows" ["rows"] (spPlaced K)) (C_used_rows : Cal P w K mg base 3 "used_rows" ["rows"] (spUsed K)) : Cal P w K mg base 8 "read_rows" ["pointers", "text", "functions"] (spReadRows K) := by
  refine D.cal sc_read_rows (fun vs H Q E h => ?_) (fun _ _ _ _ _ _ us hl => match us, hl with | [_, _, _], _ => rfl) (fun f cdv A outer s H vs Q E hr h => ?_)
  · obtain ⟨a, ps, ls, wds, fv, rfl, _⟩ := h
    rfl
  have hu := hu_of hr

  obtain ⟨a, ps, ls, wds, fv, rfl, hT, nm, lk, k⟩ := h
  have big : sizeLine = 16777216 := sizeLine_eq
  have tl := texts_len nm lk.ok lk.n40
  refine ⟨_, (pss_cons (ps_set (i := 3) sc_read_rows.nd rfl (by first | exact Or.inl rfl | exact Or.inr rfl) (pe_cal C_lines_of (hr.mono (by decide)) rfl (pa_cons (pv 1) pa_nil)))
      (pss_cons (ps_asg (pe_cal C_placed_rows (hr.mono (by decide)) rfl (pa_cons (pe_cal C_formed_rows (hr.mono (by decide)) rfl (pa_cons (pv 3) (pa_cons (pv 0) (pa_cons (pv 2) pa_nil)))) pa_nil)) (pg_tup rfl (pgs_cons (pg_name (i := 4) sc_read_rows.nd rfl (by first | exact Or.inl rfl | exact Or.inr rfl)) (pgs_cons (pg_name (i := 5) sc_read_rows.nd rfl (by first | exact Or.inl rfl | exact Or.inr rfl)) pgs_nil))))
      (pss_cons (ps_asg (pe_cal C_used_rows (hr.mono (by decide)) rfl (pa_cons (pv 4) pa_nil)) (pg_tup rfl (pgs_cons (pg_name (i := 6) sc_read_rows.nd rfl (by first | exact Or.inl rfl | exact Or.inr rfl)) (pgs_cons (pg_name (i := 7) sc_read_rows.nd rfl (by first | exact Or.inl rfl | exact Or.inr rfl)) pgs_nil))))
      (pss_cons (ps_if (pt_cmpR op_lt (pv 6) (pe_callB call_len (by rfl) T.f_len PySem.boot_len (pa_cons (pv 3) pa_nil)) (nomark _)) (pss_one ps_never) pss_nil)
      (pss_cons (ps_if (pt_truth (pv 5) (by intro _; rfl)) (pss_one ps_never) pss_nil)
      (pss_one (ps_ret (pe_tup (pa_cons (pv 4) (pa_cons (pv 7) pa_nil)))))))))), ?_⟩
  refine ⟨_, rfl, ls.map PL.Ln.text, rfl, fun x hx => ?_, by omega, fun la H1 hla s1 h1 => ?_⟩
  · obtain ⟨l, hl, rfl⟩ := List.mem_map.mp hx
    exact text_line nm (lk.ok l hl)
  rw [List.map_map] at h1
  refine ⟨_, rfl, _, rfl, _, rfl, la, a, ps, ls, fv, rfl, SqL.of h1, s1.tup hT, nm, lk.ok, lk.n40, fun q rs H2 s2 hq h2 rw2 => ?_⟩
  refine ⟨q, ps, ls, rs, [], rfl, h2, rw2, lk.ne, lk.n40, lk.pl, fun r al H3 s3 hal hr h3 h3a => ?_⟩
  refine ⟨r, _, rfl, SqT.of h3, rfl, _, _, rfl, _, _, rfl, rfl, ?_⟩
  have h3q := s3 _ _ h2
  have rw3 := RowsAt.same s3 rw2
  have hl3 := s3 _ _ (s2 _ _ h1)
  refine ⟨_, rfl, q, ps, ls, rs, wds, rfl, h3q, rw3, lk.n40, lk.us, fun r2 wa H4 s4 hr2 hwa h4 w4 => ?_⟩
  refine ⟨r2, _, rfl, SqT.of h4, rfl, _, _, rfl, _, _, rfl, rfl, ?_⟩
  have hl4 := s4 _ _ hl3
  refine ⟨_, rfl, _, rfl, _, _, rfl, .inl ⟨_, SqL.of hl4, rfl⟩, _, _, rfl, rfl, _, rfl, ite2 (fun c => absurd (of_decide_eq_true c) (by rw [List.length_map]; omega)) (fun _ => ?_)⟩
  refine ⟨_, rfl, false, .inl ⟨_, SqL.of (s4 _ _ h3a), rfl⟩, iteF ?_⟩
  refine ⟨_, rfl, _, rfl, by show 2 ≤ sizeLine; decide, fun p hp => ?_⟩
  have s5 := Same.new (o := .tup [.ref q, .ref wa]) hp
  have s05 := (s1.trans s2).trans (s3.trans (s4.trans s5))
  exact k p q wa rs _ s05 upd_same (s5 _ _ (s4 _ _ h3q)) (RowsAt.same (s4.trans s5) rw3) (w4.same s5)

end
end K19
end
section
set_option Elab.async false
set_option linter.all false
set_option maxRecDepth 100000
set_option maxHeartbeats 4000000
namespace K19
open PySem PySem.Spec PyProof.Rows L2
open PySem.W (ke_shaped_ints)
local macro_rules | `(tactic| walk_at "go") => `(tactic| first | refine ⟨_, rfl, ?_⟩ | refine .inl ⟨_, rfl, ?_⟩ | refine ⟨_, _, rfl, rfl, (by first | (show (0 : Int) < _; decide) | exact Or.inl ⟨by decide, by decide⟩ | exact Or.inr ⟨by decide, by decide⟩), ?_⟩ | refine ⟨_, _, rfl, rfl, ?_⟩)
section
variable {P : Program} {w : World} {K : PySem.W.Frag} {mg : Str → Option Value} {base : Heap}
def lfields (v1 v2 v3 v4 v5 v6 v7 : V) : List (Str × V) := [("number", v1), ("word", v2), ("told", v3), ("source", v4), ("target", v5), ("inner", v6), ("other", v7)]
structure LineC (K : PySem.W.Frag) (C : Addr) : Prop where
  cl : Cls K C
  n_number : NoAttr K C "number"
  n_word : NoAttr K C "word"
  n_told : NoAttr K C "told"
  n_source : NoAttr K C "source"
  n_target : NoAttr K C "target"
  n_inner : NoAttr K C "inner"
  n_other : NoAttr K C "other"
def spLineInit (C : Addr) : Sp := fun vs H Q _ => ∃ (o dx : Addr) (v1 v2 v3 v4 v5 v6 v7 : V), vs = [.ref o, v1, v2, v3, v4, v5, v6, v7] ∧ H o = some (.ins C dx []) ∧ ∀ H', But o H H' → H' o = some (.ins C dx (lfields v1 v2 v3 v4 v5 v6 v7)) → Q .non H'
abbrev s_Line___init__ : Stmt := inClass (topS 62) 0
theorem sc_Line___init__ : FnScope ["self", "number", "word", "told", "source", "target", "inner", "other"] ["self", "number", "word", "told", "source", "target", "inner", "other"] (defScope s_Line___init__) := ⟨rfl, rfl, rfl, by decide +kernel, rfl, by decide +kernel, by decide +kernel⟩
theorem ok_line_init {C f : Addr} {fd : FuncData} (LC : LineC K C) (F : FunD K "__init__" "Line.__init__" (defArgs s_Line___init__) (defBody s_Line___init__) (defScope s_Line___init__) [] [] f fd) : FnOk P w K mg base CX0 1 f fd ["self", "number", "word", "told", "source", "target", "inner", "other"] (spLineInit C) := by
  refine F.ok sc_Line___init__ (fun vs H Q E h => by obtain ⟨o, dx, v1, v2, v3, v4, v5, v6, v7, rfl, _⟩ := h; rfl) (fun cdv A outer s H vs Q E hr h => ?_)
  suffices z : ∃ t, PSs (cxOf CX0 P w K mg base ["self", "number", "word", "told", "source", "target", "inner", "other"] "Line.__init__" (defScope s_Line___init__) f cdv A outer s H E).nox (defBody s_Line___init__) t ∧ t { nx := fun _ H' => Q .non H', rt := Q } (start ["self", "number", "word", "told", "source", "target", "inner", "other"] vs) H by
    obtain ⟨t, h1, h2⟩ := z
    exact ⟨t, h1.nox, h2⟩
  obtain ⟨o, dx, v1, v2, v3, v4, v5, v6, v7, rfl, ho, k⟩ := h
  refine ⟨_, (pss_cons (ps_fld (pv 0) (pv 1) rfl)
      (pss_cons (ps_fld (pv 0) (pv 2) rfl)
      (pss_cons (ps_fld (pv 0) (pv 3) rfl)
      (pss_cons (ps_fld (pv 0) (pv 4) rfl)
      (pss_cons (ps_fld (pv 0) (pv 5) rfl)
      (pss_cons (ps_fld (pv 0) (pv 6) rfl)
      (pss_one (ps_fld (pv 0) (pv 7) rfl)))))))), ?_⟩
  have lt : ∀ (l : List (Str × V)), l.length ≤ 8 → l.length < 1000 := fun l h => by omega
  refine ⟨_, rfl, _, rfl, o, C, dx, _, rfl, ho, LC.cl, LC.n_number, lt _ (Nat.le_of_ble_eq_true rfl), ?_⟩
  refine ⟨_, rfl, _, rfl, o, C, dx, _, rfl, upd_same, LC.cl, LC.n_word, lt _ (Nat.le_of_ble_eq_true rfl), ?_⟩
  refine ⟨_, rfl, _, rfl, o, C, dx, _, rfl, upd_same, LC.cl, LC.n_told, lt _ (Nat.le_of_ble_eq_true rfl), ?_⟩
  refine ⟨_, rfl, _, rfl, o, C, dx, _, rfl, upd_same, LC.cl, LC.n_source, lt _ (Nat.le_of_ble_eq_true rfl), ?_⟩
  refine ⟨_, rfl, _, rfl, o, C, dx, _, rfl, upd_same, LC.cl, LC.n_target, lt _ (Nat.le_of_ble_eq_true rfl), ?_⟩
  refine ⟨_, rfl, _, rfl, o, C, dx, _, rfl, upd_same, LC.cl, LC.n_inner, lt _ (Nat.le_of_ble_eq_true rfl), ?_⟩
  refine ⟨_, rfl, _, rfl, o, C, dx, _, rfl, upd_same, LC.cl, LC.n_other, lt _ (Nat.le_of_ble_eq_true rfl), ?_⟩
  refine k _ ?_ upd_same
  exact ((((((But.upd _).trans (But.upd _)).trans (But.upd _)).trans (But.upd _)).trans (But.upd _)).trans (But.upd _)).trans (But.upd _)


/-- a row of cells: the pointer, the shift, how many -/
abbrev Sp3 := Nat × Int × Int
def SpanIs (H : Hp) (v : V) : Option Sp3 → Prop
  | none => v = .non
  | some p => ∃ r, v = .ref r ∧ H r = some (.tup [.int (p.1 : Nat), .int p.2.1, .int p.2.2])
theorem SpanIs.mono {H H' : Hp} {v : V} {o : Option Sp3} (h : SpanIs H v o) (s : ∀ a xs, H a = some (.tup xs) → H' a = some (.tup xs)) : SpanIs H' v o := by
  cases o with
  | none => exact h
  | some p => obtain ⟨r, a, b⟩ := h; exact ⟨r, a, s _ _ b⟩
theorem SpanIs.same {H H' : Hp} {v : V} {o : Option Sp3} (h : SpanIs H v o) (s : Same H H') : SpanIs H' v o := h.mono fun _ _ e => s _ _ e
def srcOf (ps : List Str) (l : PL.Ln) : Option Sp3 := match l.ds with
  | [.num _ n, .fix _, .spot z k, .fix _, .spot _ _] => some (ps.idxOf z, k, n)
  | _ => none
def tgtOf (ps : List Str) (wds : Str → Option Int) (l : PL.Ln) : Option Sp3 := match l.ds with
  | [.num _ n, .fix _, .spot _ _, .fix _, .spot z k] => some (ps.idxOf z, k, n)
  | [.name x, .spot z k] => (wds x).map fun n => (ps.idxOf z, k, n)
  | _ => none
/-- the deeds -/
inductive Dd (wds : Str → Option Int) : PL.Ln → Prop
  | copy {wd z z' : Str} {k k' n : Int} : wd ∈ PL.Copying → Dd wds ⟨wd, [.num "many" n, .fix "from", .spot z k, .fix "to", .spot z' k']⟩
  | store {x z : Str} {k n : Int} : wds x = some n → Dd wds ⟨"store", [.name x, .spot z k]⟩
  | set {x : Str} {ns : List Int} : 1 ≤ ns.length → ns.length ≤ 8 → Dd wds ⟨"set", .name x :: ns.map (.num "cell")⟩
/-- a line: a deed, or the beginning of a block -/
def Ok1 (wds : Str → Option Int) (l : PL.Ln) : Prop := Dd wds l ∨ ∃ n, l = ⟨"times", [.num "laps" n]⟩
theorem idx_eq {ps : List Str} {z : Str} {i : Nat} (nd : ps.Nodup) (h : ps[i]? = some z) : ps.idxOf z = i := by
  obtain ⟨hi, e⟩ := List.getElem?_eq_some_iff.mp h
  rw [← e]
  exact nd.idxOf_getElem i hi
theorem src_set {ps : List Str} {x : Str} {ns : List Int} (h : 1 ≤ ns.length) : srcOf ps ⟨"set", .name x :: ns.map (.num "cell")⟩ = none := by
  match ns, h with
  | n :: r, _ => rfl
theorem tgt_set {ps : List Str} {wds : Str → Option Int} {x : Str} {ns : List Int} (h : 1 ≤ ns.length) : tgtOf ps wds ⟨"set", .name x :: ns.map (.num "cell")⟩ = none := by
  match ns, h with
  | n :: r, _ => rfl
theorem told_copy {H : Hp} {ps : List Str} {wd z z' : Str} {k k' n : Int} {vs : List V} (nd : ps.Nodup) (p : Paired (PL.Val H ps) (PL.Ln.told ⟨wd, [.num "many" n, .fix "from", .spot z k, .fix "to", .spot z' k']⟩) vs) :
    ∃ r1 r2 : Addr, vs = [.int n, .ref r1, .ref r2] ∧ H r1 = some (.tup [.int (ps.idxOf z : Nat), .int k]) ∧ H r2 = some (.tup [.int (ps.idxOf z' : Nat), .int k']) := by
  have p' : Paired (PL.Val H ps) [.num "many" n, .spot z k, .spot z' k'] vs := p
  rcases p' with _ | ⟨a, p'⟩
  rcases p' with _ | ⟨b, p'⟩
  rcases p' with _ | ⟨c, p'⟩
  cases p'
  obtain rfl : _ = V.int n := a
  obtain ⟨r1, i1, rfl, e1, h1⟩ := b
  obtain ⟨r2, i2, rfl, e2, h2⟩ := c
  rw [← idx_eq nd e1] at h1
  rw [← idx_eq nd e2] at h2
  exact ⟨r1, r2, rfl, h1, h2⟩
theorem told_store {H : Hp} {ps : List Str} {x z : Str} {k : Int} {vs : List V} (nd : ps.Nodup) (p : Paired (PL.Val H ps) (PL.Ln.told ⟨"store", [.name x, .spot z k]⟩) vs) :
    ∃ r : Addr, vs = [.str x, .ref r] ∧ H r = some (.tup [.int (ps.idxOf z : Nat), .int k]) := by
  have p' : Paired (PL.Val H ps) [.name x, .spot z k] vs := p
  rcases p' with _ | ⟨a, p'⟩
  rcases p' with _ | ⟨b, p'⟩
  cases p'
  obtain rfl : _ = V.str x := a
  obtain ⟨r, i, rfl, e, h⟩ := b
  rw [← idx_eq nd e] at h
  exact ⟨r, rfl, h⟩
theorem told_set {H : Hp} {ps : List Str} {x : Str} {ns : List Int} {vs : List V} (p : Paired (PL.Val H ps) (PL.Ln.told ⟨"set", .name x :: ns.map (.num "cell")⟩) vs) : vs = .str x :: ns.map V.int := by
  rw [told_nums] at p
  rcases p with _ | ⟨a, p'⟩
  obtain rfl : _ = V.str x := a
  rw [paired_nums p']
theorem told_times {H : Hp} {ps : List Str} {n : Int} {vs : List V} (p : Paired (PL.Val H ps) (PL.Ln.told ⟨"times", [.num "laps" n]⟩) vs) : vs = [.int n] := by
  have p' : Paired (PL.Val H ps) [.num "laps" n] vs := p
  rcases p' with _ | ⟨a, p'⟩
  cases p'
  obtain rfl : _ = V.int n := a
  rfl
abbrev WordOk (w : Str) : Prop := w ∉ PL.Opening ∧ w ≠ "times" ∧ w ≠ "when" ∧ w ≠ "call" ∧ w ≠ "else" ∧ w ≠ "end" ∧ w ≠ "step" ∧ w ≠ "input" ∧ w ≠ "give"
theorem Dd.word {wds : Str → Option Int} {l : PL.Ln} (h : Dd wds l) : WordOk l.w := by
  cases h with
  | copy h1 =>
    simp only [PL.Copying, List.mem_cons, List.not_mem_nil, or_false] at h1
    rcases h1 with rfl | rfl | rfl
    · exact (show WordOk "copy" by decide +kernel)
    · exact (show WordOk "up" by decide +kernel)
    · exact (show WordOk "down" by decide +kernel)
  | store _ => exact (show WordOk "store" by decide +kernel)
  | set _ _ => exact (show WordOk "set" by decide +kernel)
/-- source_of(word, told) -/
def spSourceOf (K : PySem.W.Frag) : Sp := fun vs H Q _ => ∃ (l : PL.Ln) (t : Addr) (tv : List V) (ps : List Str) (wds : Str → Option Int), vs = [.str l.w, .ref t] ∧ SqT K H t tv ∧ ps.Nodup ∧ Paired (PL.Val H ps) l.told tv ∧ Ok1 wds l ∧ ∀ v H', Same H H' → SpanIs H' v (srcOf ps l) → Q v H'
abbrev s_source_of : Stmt := topS 64
theorem sc_source_of : FnScope ["word", "told"] ["word", "told"] (defScope s_source_of) := ⟨rfl, rfl, rfl, by decide +kernel, rfl, by decide +kernel, by decide +kernel⟩
theorem ok_source_of (T : TxtP K mg) (Tq : PL.TxtQ K w mg) (D : Def K mg "source_of" s_source_of) : Cal P w K mg base 1 "source_of" ["word", "told"] (spSourceOf K) := by
  refine D.cal sc_source_of (fun vs H Q E h => ?_) (fun _ _ _ _ _ _ us hl => match us, hl with | [_, _], _ => rfl) (fun f cdv A outer s H vs Q E hr h => ?_)
  · obtain ⟨l, t, tv, ps, wds, rfl, _⟩ := h
    rfl
  have hu := hu_of hr

  obtain ⟨l, t, tv, ps, wds, rfl, hT, nd, pv_, ok, k⟩ := h
  refine ⟨_, (pss_cons (ps_if (pt_cmpR op_eq (pv 0) pe_str (nomark _)) (pss_one (ps_ret (pe_op op_catT (pe_ix ix_tup (pv 1) pe_int (fun _ _ => rfl)) (pe_tup (pa_cons (pe_ix ix_tup (pv 1) pe_int (fun _ _ => rfl)) pa_nil))))) pss_nil)
      (pss_one (ps_ret (pe_ifExp (pt_cmpR op_in_seq (pv 0) (pe_gref (by rfl) Tq.g_COPYING) (by rfl)) (pe_op op_catT (pe_ix ix_tup (pv 1) pe_int (fun _ _ => rfl)) (pe_tup (pa_cons (pe_ix ix_tup (pv 1) pe_int (fun _ _ => rfl)) pa_nil))) pe_non)))), ?_⟩
  rcases ok with ok | ⟨n, rfl⟩
  · cases ok with
    | @copy wd z z' k1 k2 n h1 =>
      obtain ⟨r1, r2, rfl, e1, e2⟩ := told_copy nd pv_
      have n1 : wd ≠ "load" := by
        simp only [PL.Copying, List.mem_cons, List.not_mem_nil, or_false] at h1
        rcases h1 with rfl | rfl | rfl <;> decide +kernel
      refine ⟨_, rfl, rfl, _, rfl, ite2 (fun c => absurd (V.str.inj (of_decide_eq_true c)) n1) (fun _ => ?_)⟩
      refine ⟨_, rfl, _, _, rfl, .inr (Tq.t_COPYING _), rfl, CF.flat_strs _, _, rfl, ?_⟩
      rw [if_neg (by decide), CF.inV_strs, decide_eq_true h1]
      refine iteT ⟨_, rfl, t, _, _, _, rfl, rfl, hT, atI_nat (j := 1) rfl, ?_⟩
      refine ⟨_, rfl, t, _, _, _, rfl, rfl, hT, atI_nat (j := 0) rfl, by show 1 ≤ sizeLine; decide, fun p hp => ?_⟩
      have h2' := Same.new (o := .tup [.int n]) hp _ _ e1
      refine ⟨r1, p, _, _, rfl, rfl, SqT.of h2', SqT.of upd_same, by simp, by show 3 ≤ sizeLine; decide, (fun z => nomatch z), fun _ q hq => ?_⟩
      exact k _ _ ((Same.new hp).trans (Same.new hq)) ⟨q, rfl, upd_same⟩
    | @store x z k1 n h1 =>
      refine ⟨_, rfl, rfl, _, rfl, ite2 (fun c => absurd (of_decide_eq_true c) (show ¬ V.str "store" = V.str "load" by decide +kernel)) (fun _ => ?_)⟩
      refine ⟨_, rfl, _, _, rfl, .inr (Tq.t_COPYING _), rfl, CF.flat_strs _, _, rfl, ?_⟩
      rw [if_neg (by decide), CF.inV_strs, decide_eq_false (show ("store" : Str) ∉ PL.Copying by decide +kernel)]
      exact iteF (k _ _ (Same.refl _) rfl)
    | @set x ns h1 h2 =>
      refine ⟨_, rfl, rfl, _, rfl, ite2 (fun c => absurd (of_decide_eq_true c) (show ¬ V.str "set" = V.str "load" by decide +kernel)) (fun _ => ?_)⟩
      refine ⟨_, rfl, _, _, rfl, .inr (Tq.t_COPYING _), rfl, CF.flat_strs _, _, rfl, ?_⟩
      rw [if_neg (by decide), CF.inV_strs, decide_eq_false (show ("set" : Str) ∉ PL.Copying by decide +kernel)]
      exact iteF (k _ _ (Same.refl _) (by rw [src_set h1]; rfl))
  · refine ⟨_, rfl, rfl, _, rfl, ite2 (fun c => absurd (of_decide_eq_true c) (show ¬ V.str "times" = V.str "load" by decide +kernel)) (fun _ => ?_)⟩
    refine ⟨_, rfl, _, _, rfl, .inr (Tq.t_COPYING _), rfl, CF.flat_strs _, _, rfl, ?_⟩
    rw [if_neg (by decide), CF.inV_strs, decide_eq_false (show ("times" : Str) ∉ PL.Copying by decide +kernel)]
    exact iteF (k _ _ (Same.refl _) rfl)



/-- target_of(word, told, widths) -/
def spTargetOf (K : PySem.W.Frag) : Sp := fun vs H Q _ => ∃ (l : PL.Ln) (t wa : Addr) (tv : List V) (ps : List Str) (wds : Str → Option Int), vs = [.str l.w, .ref t, .ref wa] ∧ SqT K H t tv ∧ ps.Nodup ∧ Paired (PL.Val H ps) l.told tv ∧ Wid H wa wds ∧ Ok1 wds l ∧ ∀ v H', Same H H' → SpanIs H' v (tgtOf ps wds l) → Q v H'
abbrev s_target_of : Stmt := topS 65
theorem sc_target_of : FnScope ["word", "told", "widths"] ["word", "told", "widths"] (defScope s_target_of) := ⟨rfl, rfl, rfl, by decide +kernel, rfl, by decide +kernel, by decide +kernel⟩
theorem ok_target_of (T : TxtP K mg) (Tq : PL.TxtQ K w mg) (D : Def K mg "target_of" s_target_of) : Cal P w K mg base 1 "target_of" ["word", "told", "widths"] (spTargetOf K) := by
  refine D.cal sc_target_of (fun vs H Q E h => ?_) (fun _ _ _ _ _ _ us hl => match us, hl with | [_, _, _], _ => rfl) (fun f cdv A outer s H vs Q E hr h => ?_)
  · obtain ⟨l, t, wa, tv, ps, wds, rfl, _⟩ := h
    rfl
  have hu := hu_of hr

  obtain ⟨l, t, wa, tv, ps, wds, rfl, hT, nd, pv_, hW, ok, k⟩ := h
  obtain ⟨kvs, k1, k2, k3⟩ := hW
  refine ⟨_, (pss_cons (ps_if (pt_cmpR op_eq (pv 0) pe_str (nomark _)) (pss_one (ps_ret (pe_op op_catT (pe_ix ix_tup (pv 1) pe_int (fun _ _ => rfl)) (pe_tup (pa_cons (pe_dget hu (pv 2) (pe_ix ix_tup (pv 1) pe_int (fun _ _ => rfl)) (fun _ _ => rfl)) pa_nil))))) pss_nil)
      (pss_one (ps_ret (pe_ifExp (PW.pt (pw_or (pt_cmpR op_in_seq (pv 0) (pe_gref (by rfl) Tq.g_COPYING) (by rfl)) (pw_or1 (pt_cmpR op_eq (pv 0) pe_str (nomark _))))) (pe_op op_catT (pe_ix ix_tup (pv 1) pe_int (fun _ _ => rfl)) (pe_tup (pa_cons (pe_ix ix_tup (pv 1) pe_int (fun _ _ => rfl)) pa_nil))) pe_non)))), ?_⟩
  rcases ok with ok | ⟨n, rfl⟩
  · cases ok with
    | @copy wd z z' j1 j2 n h1 =>
      obtain ⟨r1, r2, rfl, e1, e2⟩ := told_copy nd pv_
      have ns : wd ≠ "store" := by
        simp only [PL.Copying, List.mem_cons, List.not_mem_nil, or_false] at h1
        rcases h1 with rfl | rfl | rfl <;> decide +kernel
      refine ⟨_, rfl, rfl, _, rfl, ite2 (fun c => absurd (V.str.inj (of_decide_eq_true c)) ns) (fun _ => ?_)⟩
      refine ⟨_, rfl, _, _, rfl, .inr (Tq.t_COPYING _), rfl, CF.flat_strs _, _, rfl, ?_⟩
      rw [if_neg (by decide), CF.inV_strs, decide_eq_true h1]
      refine iteT ?_
      refine ⟨_, rfl, t, _, _, _, rfl, rfl, hT, atI_nat (j := 2) rfl, ?_⟩
      refine ⟨_, rfl, t, _, _, _, rfl, rfl, hT, atI_nat (j := 0) rfl, by show 1 ≤ sizeLine; decide, fun p hp => ?_⟩
      have h3' := Same.new (o := .tup [.int n]) hp _ _ e2
      refine ⟨r2, p, _, _, rfl, rfl, SqT.of h3', SqT.of upd_same, by simp, by show 3 ≤ sizeLine; decide, (fun z => nomatch z), fun _ q hq => ?_⟩
      exact k _ _ ((Same.new hp).trans (Same.new hq)) ⟨q, rfl, upd_same⟩
    | @store x z j1 n h2 =>
      obtain ⟨r, rfl, e1⟩ := told_store nd pv_
      refine ⟨_, rfl, rfl, _, rfl, ite2 (fun _ => ?_) (fun c => absurd (decide_eq_true rfl) c)⟩
      refine ⟨_, rfl, t, _, _, _, rfl, rfl, hT, atI_nat (j := 1) rfl, ?_⟩
      refine ⟨_, rfl, _, rfl, t, _, _, _, rfl, rfl, hT, atI_nat (j := 0) rfl, wa, .int n, rfl, ?_, by show 1 ≤ sizeLine; decide, fun p hp => ?_⟩
      · have := DGet.k (k := Sum.inr x) k1
        rw [k3, h2] at this
        exact this
      have h1' := Same.new (o := .tup [.int n]) hp _ _ e1
      refine ⟨r, p, _, _, rfl, rfl, SqT.of h1', SqT.of upd_same, by simp, by show 3 ≤ sizeLine; decide, (fun z => nomatch z), fun _ q hq => ?_⟩
      exact k _ _ ((Same.new hp).trans (Same.new hq)) (by unfold tgtOf; dsimp only; rw [h2]; exact ⟨q, rfl, upd_same⟩)
    | @set x ns h1 h2 =>
      refine ⟨_, rfl, rfl, _, rfl, ite2 (fun c => absurd (of_decide_eq_true c) (show ¬ V.str "set" = V.str "store" by decide +kernel)) (fun _ => ?_)⟩
      refine ⟨_, rfl, _, _, rfl, .inr (Tq.t_COPYING _), rfl, CF.flat_strs _, _, rfl, ?_⟩
      rw [if_neg (by decide), CF.inV_strs, decide_eq_false (show ("set" : Str) ∉ PL.Copying by decide +kernel)]
      refine iteF ⟨_, rfl, rfl, _, rfl, ite2 (fun c => absurd (of_decide_eq_true c) (show ¬ V.str "set" = V.str "fill" by decide +kernel)) (fun _ => ?_)⟩
      exact k _ _ (Same.refl _) (by rw [tgt_set h1]; rfl)
  · refine ⟨_, rfl, rfl, _, rfl, ite2 (fun c => absurd (of_decide_eq_true c) (show ¬ V.str "times" = V.str "store" by decide +kernel)) (fun _ => ?_)⟩
    refine ⟨_, rfl, _, _, rfl, .inr (Tq.t_COPYING _), rfl, CF.flat_strs _, _, rfl, ?_⟩
    rw [if_neg (by decide), CF.inV_strs, decide_eq_false (show ("times" : Str) ∉ PL.Copying by decide +kernel)]
    refine iteF ⟨_, rfl, rfl, _, rfl, ite2 (fun c => absurd (of_decide_eq_true c) (show ¬ V.str "times" = V.str "fill" by decide +kernel)) (fun _ => ?_)⟩
    exact k _ _ (Same.refl _) rfl

end
end K19
end
section
set_option Elab.async false
set_option linter.all false
set_option maxRecDepth 100000
set_option maxHeartbeats 4000000
namespace K19
open PySem PySem.Spec PyProof.Rows L2
open PySem.W (ke_shaped_ints)
local macro_rules | `(tactic| walk_at "go") => `(tactic| first | refine ⟨_, rfl, ?_⟩ | refine .inl ⟨_, rfl, ?_⟩ | refine ⟨_, _, rfl, rfl, (by first | (show (0 : Int) < _; decide) | exact Or.inl ⟨by decide, by decide⟩ | exact Or.inr ⟨by decide, by decide⟩), ?_⟩ | refine ⟨_, _, rfl, rfl, ?_⟩)
section
variable {P : Program} {w : World} {K : PySem.W.Frag} {mg : Str → Option Value} {base : Heap}

theorem made_same {H1 H' : Hp} {x dx : Addr} {o1 o2 : HO} (hx : H1 x = none) (hdx : H1 dx = none) (b : But x (upd (upd H1 dx o1) x o2) H') : Same H1 H' := fun c u e => b _ _ (ne_of_none e hx) ((upd_ne (ne_of_none e hx)).trans ((upd_ne (ne_of_none e hdx)).trans e))
theorem made_tup {K : PySem.W.Frag} {H1 : Hp} {x dx a : Addr} {o1 o2 : HO} {xs : List V} (hx : H1 x = none) (hdx : H1 dx = none) (h : SqT K H1 a xs) : SqT K (upd (upd H1 dx o1) x o2) a xs := (made_same hx hdx (But.refl x _)).tup h
/-- a block: deeds, and blocks that are done some times -/
inductive Tr
  | nil
  | deed (l : PL.Ln) (r : Tr)
  | times (n : Int) (b r : Tr)
namespace Tr
def lines : Tr → List PL.Ln
  | nil => []
  | deed l r => l :: r.lines
  | times n b r => ⟨"times", [.num "laps" n]⟩ :: (b.lines ++ ⟨"end", []⟩ :: r.lines)
def depth : Tr → Nat
  | nil => 0
  | deed _ r => r.depth
  | times _ b r => max (b.depth + 1) r.depth
def Ok (wds : Str → Option Int) : Tr → Prop
  | nil => True
  | deed l r => Dd wds l ∧ r.Ok wds
  | times n b r => (1 ≤ n ∧ n ≤ 5) ∧ b.Ok wds ∧ r.Ok wds
end Tr
/-- what stands but in lists stays -/
def KT (H H' : Hp) : Prop := ∀ a o, (∀ xs, o ≠ HO.lst xs) → H a = some o → H' a = some o
theorem KT.of {H H' : Hp} (s : Same H H') : KT H H' := fun a o _ h => s a o h
theorem KT.refl (H : Hp) : KT H H := fun _ _ _ h => h
theorem KT.trans {H H1 H2 : Hp} (a : KT H H1) (b : KT H1 H2) : KT H H2 := fun c o n h => b c o n (a c o n h)
theorem KT.put {H : Hp} {p : Addr} {xs : List V} {u : HO} (h : H p = some (.lst xs)) : KT H (upd H p u) := fun a o n e => by
  rw [upd_ne (fun z => by rw [z, h] at e; cases e; exact n _ rfl)]
  exact e
theorem KT.tup {H H' : Hp} (k : KT H H') {a : Addr} {xs : List V} (h : H a = some (.tup xs)) : H' a = some (.tup xs) := k _ _ (fun _ z => nomatch z) h
theorem KT.ins {H H' : Hp} (k : KT H H') {a C dx : Addr} {fs : List (Str × V)} (h : H a = some (.ins C dx fs)) : H' a = some (.ins C dx fs) := k _ _ (fun _ z => nomatch z) h
theorem val_kt {H H' : Hp} {ps : List Str} {d : PL.Wd} {v : V} (h : PL.Val H ps d v) (s : KT H H') : PL.Val H' ps d v := by
  cases d with
  | spot z k => obtain ⟨r, i, a, b, c⟩ := h; exact ⟨r, i, a, b, s.tup c⟩
  | _ => exact h
theorem paired_kt {H H' : Hp} {ps : List Str} (s : KT H H') : ∀ {ds : List PL.Wd} {vs : List V}, Paired (PL.Val H ps) ds vs → Paired (PL.Val H' ps) ds vs
  | _, _, .nil => .nil
  | _, _, .cons r t => .cons (val_kt r s) (paired_kt s t)
/-- a deed's line object -/
def DeedAt (C : Addr) (H : Hp) (ps : List Str) (wds : Str → Option Int) (l : PL.Ln) (num : Int) (o : Addr) : Prop := ∃ (dx t : Addr) (tv : List V) (src tgt inn oth : V), H o = some (.ins C dx (lfields (.int num) (.str l.w) (.ref t) src tgt inn oth)) ∧
  H t = some (.tup tv) ∧ Paired (PL.Val H ps) l.told tv ∧ SpanIs H src (srcOf ps l) ∧ SpanIs H tgt (tgtOf ps wds l)
theorem DeedAt.mono {C : Addr} {H H' : Hp} {ps : List Str} {wds : Str → Option Int} {l : PL.Ln} {num : Int} {o : Addr} (h : DeedAt C H ps wds l num o) (s : KT H H') : DeedAt C H' ps wds l num o := by
  obtain ⟨dx, t, tv, src, tgt, inn, oth, h1, h2, h3, h4, h5⟩ := h
  exact ⟨dx, t, tv, src, tgt, inn, oth, s.ins h1, s.tup h2, paired_kt s h3, h4.mono fun _ _ e => s.tup e, h5.mono fun _ _ e => s.tup e⟩
/-- the line objects of a block that begins at index i -/
def BlkAt (C : Addr) (H : Hp) (ps : List Str) (wds : Str → Option Int) : Tr → Nat → List Addr → Prop
  | .nil, _, bs => bs = []
  | .deed l r, i, bs => ∃ o bs', bs = o :: bs' ∧ DeedAt C H ps wds l (i + 1 : Nat) o ∧ BlkAt C H ps wds r (i + 1) bs'
  | .times n b r, i, bs => ∃ (o : Addr) (bs' : List Addr) (dx t bt : Addr) (xs : List Addr) (oth : V), bs = o :: bs' ∧ H o = some (.ins C dx (lfields (.int (i + 1 : Nat)) (.str "times") (.ref t) .non .non (.ref bt) oth)) ∧ H t = some (.tup [.int n]) ∧ H bt = some (.tup (xs.map V.ref)) ∧
    BlkAt C H ps wds b (i + 1) xs ∧ BlkAt C H ps wds r (i + b.lines.length + 2) bs'
theorem BlkAt.mono {C : Addr} {H H' : Hp} {ps : List Str} {wds : Str → Option Int} (s : KT H H') : ∀ {t : Tr} {i : Nat} {bs : List Addr}, BlkAt C H ps wds t i bs → BlkAt C H' ps wds t i bs
  | .nil, _, _, h => h
  | .deed l r, i, bs, h => by
    obtain ⟨o, bs', e, h1, h2⟩ := h
    exact ⟨o, bs', e, h1.mono s, BlkAt.mono s h2⟩
  | .times n b r, i, bs, h => by
    obtain ⟨o, bs', dx, t, bt, xs, oth, e, h1, h2, h3, h4, h5⟩ := h
    exact ⟨o, bs', dx, t, bt, xs, oth, e, s.ins h1, s.tup h2, s.tup h3, BlkAt.mono s h4, BlkAt.mono s h5⟩
/-- block_of(rows, widths, i) -/
def spBlockOf (K : PySem.W.Frag) (C : Addr) (n : Nat) : Sp := fun vs H Q _ => ∃ (rl wa : Addr) (rs : List Addr) (ps : List Str) (ls tail : List PL.Ln) (wds : Str → Option Int) (t : Tr) (i : Nat), vs = [.ref rl, .ref wa, .int (i : Nat)] ∧ H rl = some (.lst (rs.map V.ref)) ∧ RowsAt H ps ls rs ∧ ls.length ≤ 40 ∧ ps.Nodup ∧ Wid H wa wds ∧
  t.depth < n ∧ t.Ok wds ∧ ls.drop i = t.lines ++ tail ∧ (tail = [] ∨ ∃ z, tail = ⟨"end", []⟩ :: z) ∧
  ∀ (r bt : Addr) (bs : List Addr) (H' : Hp), Same H H' → H' r = some (.tup [.ref bt, .int ((i + t.lines.length : Nat) : Int)]) → H' bt = some (.tup (bs.map V.ref)) → BlkAt C H' ps wds t i bs → Q (.ref r) H'
theorem drop_at {ls : List PL.Ln} {j : Nat} {x : PL.Ln} {r : List PL.Ln} (h : ls.drop j = x :: r) : ls[j]? = some x ∧ ls.drop (j + 1) = r ∧ j < ls.length := by
  have hj : j < ls.length := by
    apply Nat.lt_of_not_le
    intro z
    rw [List.drop_of_length_le z] at h
    cases h
  rw [List.drop_eq_getElem_cons hj] at h
  injection h with h1 h2
  exact ⟨by rw [List.getElem?_eq_getElem hj, h1], h2, hj⟩
theorem blk_len {C : Addr} {H : Hp} {ps : List Str} {wds : Str → Option Int} : ∀ {t : Tr} {i : Nat} {bs : List Addr}, BlkAt C H ps wds t i bs → bs.length ≤ t.lines.length
  | .nil, _, _, h => by rw [show _ = _ from h]; exact Nat.le_refl _
  | .deed l r, i, bs, h => by
    obtain ⟨o, bs', rfl, h1, h2⟩ := h
    have := blk_len h2
    show bs'.length + 1 ≤ r.lines.length + 1
    omega
  | .times n b r, i, bs, h => by
    obtain ⟨o, bs', dx, t, bt, xs, oth, rfl, h1, h2, h3, h4, h5⟩ := h
    have := blk_len h5
    show bs'.length + 1 ≤ (b.lines ++ _ :: r.lines).length + 1
    rw [List.length_append, List.length_cons]
    omega
abbrev s_block_of : Stmt := topS 63
theorem sc_block_of : FnScope ["rows", "widths", "index", "block", "word", "told", "inner", "other", "behind", "source", "target"] ["rows", "widths", "index"] (defScope s_block_of) := ⟨rfl, rfl, rfl, by decide +kernel, rfl, by decide +kernel, by decide +kernel⟩
theorem block_of_0 {C : Addr} (D : Def K mg "block_of" s_block_of) : Cal P w K mg base 3 "block_of" ["rows", "widths", "index"] (spBlockOf K C 0) := by
  refine D.cal sc_block_of (fun vs H Q E h => ?_) (fun _ _ _ _ _ _ us hl => match us, hl with | [_, _, _], _ => rfl) (fun f cdv A outer s H vs Q E hr h => ?_)
  · obtain ⟨_, _, _, _, _, _, _, _, _, rfl, _⟩ := h
    rfl
  · obtain ⟨_, _, _, _, _, _, _, _, _, _, _, _, _, _, _, z, _⟩ := h
    exact absurd z (Nat.not_lt_zero _)
theorem block_of_1 {C : Addr} {n : Nat} (T : TxtP K mg) (Tq : PL.TxtQ K w mg) (D : Def K mg "block_of" s_block_of) (C_block_of : Cal P w K mg base (n + 3) "block_of" ["rows", "widths", "index"] (spBlockOf K C n)) (C_source_of : Cal P w K mg base 1 "source_of" ["word", "told"] (spSourceOf K)) (C_target_of : Cal P w K mg base 1 "target_of" ["word", "told", "widths"] (spTargetOf K))
    (M_Line : Mkc P w K mg base 1 "Line" C ["self", "number", "word", "told", "source", "target", "inner", "other"] (spLineInit C)) : Cal P w K mg base (n + 4) "block_of" ["rows", "widths", "index"] (spBlockOf K C (n + 1)) := by
  refine D.cal sc_block_of (fun vs H Q E h => ?_) (fun _ _ _ _ _ _ us hl => match us, hl with | [_, _, _], _ => rfl) (fun f cdv A outer s H vs Q E hr h => ?_)
  · obtain ⟨_, _, _, _, _, _, _, _, _, rfl, _⟩ := h
    rfl
  have hu := hu_of hr
  obtain ⟨rl, wa, rs, ps, ls, tail, wds, t, i, rfl, hR, rows, n40, nd, hW, td, tok, hd, htail, k⟩ := h
  have big : sizeLine = 16777216 := sizeLine_eq
  have rle := paired_len rows
  refine ⟨_, (pss_cons (ps_set (i := 3) sc_block_of.nd rfl (by first | exact Or.inl rfl | exact Or.inr rfl) (pe_lst pa_nil))
      (pss_cons (ps_while PassesOwn.never (PW.pt (pw_and (pt_cmpR op_lt (pv 2) (pe_callB call_len (by rfl) T.f_len PySem.boot_len (pa_cons (pv 0) pa_nil)) (nomark _)) (pw_and1 (pt_cmpR op_notIn_seq (pe_ix ix_tup (pe_ix ix_list (pv 0) (pv 2) (fun _ _ => rfl)) pe_int (fun _ _ => rfl)) (pe_tup (pa_cons pe_str (pa_cons pe_str pa_nil))) (by rfl))))) (pss_cons (ps_asg (pe_ix ix_list (pv 0) (pv 2) (fun _ _ => rfl)) (pg_tup rfl (pgs_cons (pg_name (i := 4) sc_block_of.nd rfl (by first | exact Or.inl rfl | exact Or.inr rfl)) (pgs_cons (pg_name (i := 5) sc_block_of.nd rfl (by first | exact Or.inl rfl | exact Or.inr rfl)) pgs_nil))))
      (pss_cons (ps_par3 (i := 6) (j := 7) (l := 8) (by rfl) sc_block_of.nd rfl rfl rfl (by omega) (by omega) (by omega) rfl rfl rfl (pa_cons (pe_tup pa_nil) (pa_cons (pe_tup pa_nil) (pa_cons (pv 2) pa_nil))) (by rfl))
      (C8.pss_cut (ps_if (pt_cmpR op_in_seq (pv 4) (pe_gref (by rfl) Tq.g_OPENING) (by rfl)) (pss_cons (ps_asg (pe_cal C_block_of (hr.mono (by omega)) rfl (pa_cons (pv 0) (pa_cons (pv 1) (pa_cons (pe_op op_add (pv 2) pe_int) pa_nil)))) (pg_tup rfl (pgs_cons (pg_name (i := 6) sc_block_of.nd rfl (by first | exact Or.inl rfl | exact Or.inr rfl)) (pgs_cons (pg_name (i := 8) sc_block_of.nd rfl (by first | exact Or.inl rfl | exact Or.inr rfl)) pgs_nil))))
      (pss_one (ps_if (pt_cmpR op_eq (pe_ix ix_tup (pe_ix ix_list (pv 0) (pv 8) (fun _ _ => rfl)) pe_int (fun _ _ => rfl)) pe_str (nomark _)) (pss_one (ps_asg PL.pe_never (pg_tup rfl (pgs_cons (pg_name (i := 7) sc_block_of.nd rfl (by first | exact Or.inl rfl | exact Or.inr rfl)) (pgs_cons (pg_name (i := 8) sc_block_of.nd rfl (by first | exact Or.inl rfl | exact Or.inr rfl)) pgs_nil))))) pss_nil))) pss_nil)
      (pss_cons (ps_par (i := 9) (j := 10) (by rfl) sc_block_of.nd rfl rfl (by omega) rfl rfl (pa_cons (pe_cal C_source_of (hr.mono (by omega)) rfl (pa_cons (pv 4) (pa_cons (pv 5) pa_nil))) (pa_cons (pe_cal C_target_of (hr.mono (by omega)) rfl (pa_cons (pv 4) (pa_cons (pv 5) (pa_cons (pv 1) pa_nil)))) pa_nil)) (by rfl))
      (pss_cons (ps_expr (pe_bm PySem.F.plainAttrs_list PySem.F.slot_list_append PySem.F.type_list_append mt_append (pv 3) (pa_cons (pe_mkc M_Line (hr.mono (by omega)) rfl (pa_cons (pe_op op_add (pv 2) pe_int) (pa_cons (pv 4) (pa_cons (pv 5) (pa_cons (pv 9) (pa_cons (pv 10) (pa_cons (pv 6) (pa_cons (pv 7) pa_nil)))))))) pa_nil)))
      (pss_one (ps_set (i := 2) sc_block_of.nd rfl (by first | exact Or.inl rfl | exact Or.inr rfl) (pe_op op_add (pv 8) pe_int)))))))))
      (pss_one (ps_ret (pe_tup (pa_cons (pe_callTy call_tuple_of (by rfl) T.f_tuple (by decide +kernel) (pa_cons (pv 3) pa_nil)) (pa_cons (pv 2) pa_nil))))))), ?_⟩
  refine ⟨by show 0 ≤ sizeLine; decide, fun bl hbl => ?_⟩
  have s1 := Same.new (o := .lst []) hbl
  have h1 : upd H bl (.lst []) bl = some (.lst []) := upd_same
  generalize upd H bl (.lst []) = H1 at s1 h1 ⊢
  refine ⟨fun m σ H' => ∃ (t' : Tr) (j : Nat) (v4 v5 v6 v7 v8 v9 v10 : Option V) (bs : List Addr), m = t'.lines.length ∧ σ = [some (.ref rl), some (.ref wa), some (.int (j : Nat)), some (.ref bl), v4, v5, v6, v7, v8, v9, v10] ∧ Same H H' ∧ H' bl = some (.lst (bs.map V.ref)) ∧
      t'.depth < n + 1 ∧ t'.Ok wds ∧ ls.drop j = t'.lines ++ tail ∧ j + t'.lines.length = i + t.lines.length ∧ bs.length ≤ j ∧ ∀ H'' bs', KT H' H'' → BlkAt C H'' ps wds t' j bs' → BlkAt C H'' ps wds t i (bs ++ bs'),
    ⟨_, t, i, none, none, none, none, none, none, none, [], rfl, rfl, s1, h1, td, tok, hd, rfl, Nat.zero_le _, fun _ _ _ z => z⟩, ?_⟩
  rintro m σ H2 ⟨t', j, v4, v5, v6, v7, v8, v9, v10, bs, rfl, rfl, s2, h2, td', tok', hd', hj, bl', kk⟩
  have hR2 := s2 _ _ hR
  refine ⟨_, rfl, _, rfl, _, _, rfl, .inl ⟨_, SqL.of hR2, rfl⟩, _, _, rfl, rfl, _, rfl, ite2 (fun c => ?_) (fun c => ?_)⟩
  · have il : j < ls.length := by
      have := of_decide_eq_true c
      rw [List.length_map] at this
      omega
    have hl : ls[j]? = some ls[j] := List.getElem?_eq_getElem il
    have hdc : ls.drop j = ls[j] :: ls.drop (j + 1) := List.drop_eq_getElem_cons il
    have hr : rs[j]? = some rs[j] := List.getElem?_eq_getElem (by omega)
    have row := paired_at (RowsAt.same s2 rows) hl hr
    generalize rs[j] = r at hr row
    generalize ls[j] = l at hl hdc row
    have hr' : (rs.map V.ref)[j]? = some (.ref r) := by rw [List.getElem?_map, hr]; rfl
    obtain ⟨ta, tv, g1, g2, g3⟩ := row.ex
    refine ⟨_, rfl, _, rfl, rl, _, _, _, rfl, rfl, SqL.of hR2, atI_nat hr', ?_⟩
    refine ⟨r, _, _, _, rfl, rfl, SqT.of g1, atI_nat (j := 0) rfl, by show 2 ≤ sizeLine; decide, fun p hp => ?_⟩
    refine ⟨p, [.str "else", .str "end"], rfl, .inr (SqT.of upd_same), rfl, CF.flat_strs ["else", "end"], _, rfl, ?_⟩
    show if _ then _ else _
    rw [if_pos rfl]
    have e9 : inV (.str l.w) [.str "else", .str "end"] = decide (l.w ∈ (["else", "end"] : List Str)) := by
      rw [show ([.str "else", .str "end"] : List V) = (["else", "end"] : List Str).map V.str from rfl, CF.inV_strs]
    rw [e9]
    clear e9
    have sp := Same.new (o := .tup [.str "else", .str "end"]) hp
    have s3 := s2.trans sp
    have h3 := sp _ _ h2
    have g1' := sp _ _ g1
    have g2' := sp _ _ g2
    have g3' := paired_kt (KT.of sp) g3
    have hR3 := sp _ _ hR2
    have kk3 : ∀ H'' bs', KT (upd H2 p (.tup [.str "else", .str "end"])) H'' → BlkAt C H'' ps wds t' j bs' → BlkAt C H'' ps wds t i (bs ++ bs') := fun H'' bs' a => kk H'' bs' ((KT.of sp).trans a)
    change if (!decide (l.w ∈ (["else", "end"] : List Str))) = true then _ else _
    generalize upd H2 p (.tup [.str "else", .str "end"]) = H3 at s3 h3 g1' g2' g3' hR3 kk3 ⊢
    cases t' with
    | nil =>
      have e : tail = l :: ls.drop (j + 1) := by rw [← hdc, hd']; rfl
      have el : l = ⟨"end", []⟩ := by
        rcases htail with z | ⟨z, ez⟩
        · rw [z] at e; cases e
        · rw [ez] at e; injection e with e1 e2; exact e1.symm
      subst el
      rw [decide_eq_true (show ("end" : Str) ∈ (["else", "end"] : List Str) by decide +kernel)]
      refine iteF ?_
      refine ⟨_, rfl, bl, _, rfl, .inl ⟨SqL.of h3, fun bt hbt => ?_⟩⟩
      refine ⟨_, rfl, by show 2 ≤ sizeLine; decide, fun r9 hr9 => ?_⟩
      have sb := Same.new (o := .tup (bs.map V.ref)) hbt
      have hbt' : upd H3 bt (.tup (bs.map V.ref)) bt = some (.tup (bs.map V.ref)) := upd_same
      have sr := Same.new (o := .tup [.ref bt, .int (j : Nat)]) hr9
      have ej : j = i + t.lines.length := by have := hj; simp only [Tr.lines, List.length_nil] at this; omega
      refine k r9 bt bs _ ((s3.trans sb).trans sr) ?_ (sr _ _ hbt') ?_
      · rw [← ej]
        exact upd_same
      · have := kk3 _ [] (KT.of (sb.trans sr)) rfl
        rw [List.append_nil] at this
        exact this
    | deed l' r' =>
      obtain ⟨hl', hd2, _⟩ := drop_at hd'
      have el : l = l' := by rw [hl] at hl'; exact Option.some.inj hl'
      subst el
      obtain ⟨dok, rok⟩ := tok'
      obtain ⟨n1, n2, n3, n4, n5, n6, n7, n8, n9⟩ := dok.word
      rw [decide_eq_false (show l.w ∉ (["else", "end"] : List Str) by simp only [List.mem_cons, List.not_mem_nil, or_false]; exact fun z => z.elim n5 n6)]
      refine iteT ⟨fun σ' H' => ∃ (v4 v5 v6 v7 v8 v9 v10 : Option V) (bs : List Addr), σ' = [some (.ref rl), some (.ref wa), some (.int ((j + 1 : Nat) : Int)), some (.ref bl), v4, v5, v6, v7, v8, v9, v10] ∧ Same H H' ∧ H' bl = some (.lst (bs.map V.ref)) ∧ bs.length ≤ j + 1 ∧ ∀ H'' bs', KT H' H'' → BlkAt C H'' ps wds r' (j + 1) bs' → BlkAt C H'' ps wds t i (bs ++ bs'), ?_, ?_⟩
      · rintro σ' H' ⟨v4, v5, v6, v7, v8, v9, v10, bs, rfl, z1, z2, z3, z4⟩
        exact ⟨_, Nat.lt_succ_self _, r', j + 1, v4, v5, v6, v7, v8, v9, v10, bs, rfl, rfl, z1, z2, td', rok, hd2, by have := hj; simp only [Tr.lines, List.length_cons] at this; omega, z3, z4⟩
      refine ⟨_, rfl, _, rfl, rl, _, _, _, rfl, rfl, SqL.of hR3, atI_nat hr', ?_⟩
      refine ⟨r, _, rfl, SqT.of g1', rfl, _, _, rfl, _, _, rfl, rfl, ?_⟩
      refine ⟨by show 0 ≤ sizeLine; decide, fun ea hea => ⟨by show 0 ≤ sizeLine; decide, fun eb heb => ⟨_, rfl, _, _, _, rfl, ?_⟩⟩⟩
      have sq := (Same.new (o := .tup []) hea).trans (Same.new (o := .tup []) heb)
      have s4 := s3.trans sq
      have h4 := sq _ _ h3
      have g2b := sq _ _ g2'
      have g3b := paired_kt (KT.of sq) g3'
      have kk4 : ∀ H'' bs', KT (upd (upd H3 ea (.tup [])) eb (.tup [])) H'' → BlkAt C H'' ps wds (.deed l r') j bs' → BlkAt C H'' ps wds t i (bs ++ bs') := fun H'' bs' a => kk3 H'' bs' ((KT.of sq).trans a)
      generalize upd (upd H3 ea (.tup [])) eb (.tup []) = H4 at s4 h4 g2b g3b kk4 ⊢
      refine ⟨fun σ' H' => σ' = [some (.ref rl), some (.ref wa), some (.int (j : Nat)), some (.ref bl), some (.str l.w), some (.ref ta), some (.ref ea), some (.ref eb), some (.int (j : Nat)), v9, v10] ∧ H' = H4, ?_, ?_⟩
      · refine ⟨_, rfl, _, _, rfl, .inr (Tq.t_OPENING _), rfl, CF.flat_strs _, _, rfl, ?_⟩
        rw [if_neg (by decide), CF.inV_strs, decide_eq_false n1]
        exact iteF ⟨rfl, rfl⟩
      rintro σ' H' ⟨rfl, rfl⟩
      have ok1 : Ok1 wds l := .inl dok
      refine ⟨_, rfl, _, rfl, ⟨l, ta, tv, ps, wds, rfl, SqT.of g2b, nd, g3b, ok1, fun src H5 s5 sv5 => ?_⟩⟩
      refine ⟨_, rfl, _, rfl, _, rfl, l, ta, wa, tv, ps, wds, rfl, SqT.of (s5 _ _ g2b), nd, paired_kt (KT.of s5) g3b, hW.same (s4.trans s5), ok1, fun tgt H6 s6 tv6 => ⟨_, _, rfl, ?_⟩⟩
      have h6 := (s5.trans s6) _ _ h4
      refine ⟨_, rfl, .inl ⟨rfl, _, SqL.of h6⟩, ?_⟩
      refine ⟨_, rfl, _, _, rfl, rfl, _, rfl, _, rfl, _, rfl, _, rfl, _, rfl, _, rfl, fun x dx hx hdx ne => ?_⟩
      refine ⟨x, dx, _, _, _, _, _, _, _, rfl, upd_same, fun H7 but ho => ⟨rfl, ?_⟩⟩
      have s7 := made_same hx hdx but
      have s57 := (s5.trans s6).trans s7
      have h7 := s57 _ _ h4
      refine ⟨bl, _, _, rfl, rfl, h7, ?_, _, rfl, _, _, rfl, rfl, ?_⟩
      · rw [List.length_map]; omega
      have k9 := KT.put (u := .lst (bs.map V.ref ++ [.ref x])) h7
      refine ⟨_, _, _, _, _, _, _, bs ++ [x], rfl, same_put (s4.trans s57) hbl h7, by rw [List.map_append]; exact upd_same, by rw [List.length_append, List.length_singleton]; omega, fun H'' bs' kt bb => ?_⟩
      have kt7 := k9.trans kt
      rw [List.append_assoc]
      refine kk4 H'' _ ((KT.of s57).trans kt7) ⟨x, bs', rfl, ?_, bb⟩
      exact ⟨dx, ta, tv, src, tgt, _, _, kt7.ins ho, kt7.tup (s57 _ _ g2b), paired_kt ((KT.of s57).trans kt7) g3b, sv5.mono fun _ _ e => kt7.tup ((s6.trans s7) _ _ e), tv6.mono fun _ _ e => kt7.tup (s7 _ _ e)⟩
    | times n' b r' =>
      obtain ⟨hl', hd2, _⟩ := drop_at hd'
      have el : l = ⟨"times", [.num "laps" n']⟩ := by rw [hl] at hl'; exact Option.some.inj hl'
      subst el
      obtain ⟨_, bok, rok⟩ := tok'
      have td2 : b.depth < n ∧ r'.depth < n + 1 := by
        have z : max (b.depth + 1) r'.depth < n + 1 := td'
        have := Nat.le_max_left (b.depth + 1) r'.depth
        have := Nat.le_max_right (b.depth + 1) r'.depth
        omega
      have hd3 : ls.drop (j + 1) = b.lines ++ (⟨"end", []⟩ :: (r'.lines ++ tail)) := by
        rw [hd2]
        show (b.lines ++ ⟨"end", []⟩ :: r'.lines) ++ tail = _
        rw [List.append_assoc]
        rfl
      have hd4 : ls.drop (j + 1 + b.lines.length) = ⟨"end", []⟩ :: (r'.lines ++ tail) := by
        rw [← List.drop_drop, hd3, List.drop_left]
      obtain ⟨hlE, hd5, jE⟩ := drop_at hd4
      have hrE : rs[j + 1 + b.lines.length]? = some rs[j + 1 + b.lines.length] := List.getElem?_eq_getElem (by omega)
      have hj2 : j + 1 + b.lines.length + 1 + r'.lines.length = i + t.lines.length := by
        have := hj
        simp only [Tr.lines, List.length_cons, List.length_append] at this
        omega
      rw [decide_eq_false (show ("times" : Str) ∉ (["else", "end"] : List Str) by decide +kernel)]
      refine iteT ⟨fun σ' H' => ∃ (v4 v5 v6 v7 v8 v9 v10 : Option V) (bs : List Addr), σ' = [some (.ref rl), some (.ref wa), some (.int ((j + 1 + b.lines.length + 1 : Nat) : Int)), some (.ref bl), v4, v5, v6, v7, v8, v9, v10] ∧ Same H H' ∧ H' bl = some (.lst (bs.map V.ref)) ∧ bs.length ≤ j + 1 ∧ ∀ H'' bs', KT H' H'' → BlkAt C H'' ps wds r' (j + b.lines.length + 2) bs' → BlkAt C H'' ps wds t i (bs ++ bs'), ?_, ?_⟩
      · rintro σ' H' ⟨v4, v5, v6, v7, v8, v9, v10, bs, rfl, z1, z2, z3, z4⟩
        exact ⟨_, by simp only [Tr.lines, List.length_cons, List.length_append]; omega, r', j + 1 + b.lines.length + 1, v4, v5, v6, v7, v8, v9, v10, bs, rfl, rfl, z1, z2, td2.2, rok, hd5, hj2, by omega, by
          have e : j + 1 + b.lines.length + 1 = j + b.lines.length + 2 := by omega
          rw [e]
          exact z4⟩
      refine ⟨_, rfl, _, rfl, rl, _, _, _, rfl, rfl, SqL.of hR3, atI_nat hr', ?_⟩
      refine ⟨r, _, rfl, SqT.of g1', rfl, _, _, rfl, _, _, rfl, rfl, ?_⟩
      refine ⟨by show 0 ≤ sizeLine; decide, fun ea hea => ⟨by show 0 ≤ sizeLine; decide, fun eb heb => ⟨_, rfl, _, _, _, rfl, ?_⟩⟩⟩
      have sq := (Same.new (o := .tup []) hea).trans (Same.new (o := .tup []) heb)
      have s4 := s3.trans sq
      have h4 := sq _ _ h3
      have g2b := sq _ _ g2'
      have g3b := paired_kt (KT.of sq) g3'
      have hR4 := sq _ _ hR3
      have kk4 : ∀ H'' bs', KT (upd (upd H3 ea (.tup [])) eb (.tup [])) H'' → BlkAt C H'' ps wds (.times n' b r') j bs' → BlkAt C H'' ps wds t i (bs ++ bs') := fun H'' bs' a => kk3 H'' bs' ((KT.of sq).trans a)
      generalize upd (upd H3 ea (.tup [])) eb (.tup []) = H4 at s4 h4 g2b g3b kk4 hR4 ⊢
      refine ⟨fun σ' H' => ∃ (bt2 : Addr) (xs : List Addr), σ' = [some (.ref rl), some (.ref wa), some (.int (j : Nat)), some (.ref bl), some (.str "times"), some (.ref ta), some (.ref bt2), some (.ref eb), some (.int ((j + 1 + b.lines.length : Nat) : Int)), v9, v10] ∧ Same H4 H' ∧ H' bt2 = some (.tup (xs.map V.ref)) ∧ BlkAt C H' ps wds b (j + 1) xs, ?_, ?_⟩
      · refine ⟨_, rfl, _, _, rfl, .inr (Tq.t_OPENING _), rfl, CF.flat_strs _, _, rfl, ?_⟩
        rw [if_neg (by decide), CF.inV_strs, decide_eq_true (show ("times" : Str) ∈ PL.Opening by decide +kernel)]
        refine iteT ⟨_, rfl, _, rfl, _, rfl, _, _, rfl, rfl, rl, wa, rs, ps, ls, _, wds, b, j + 1, rfl, hR4, RowsAt.same s4 rows, n40, nd, hW.same s4, td2.1, bok, hd3, .inr ⟨_, rfl⟩, fun r2 bt2 xs H5 s5 hr2 hbt2 blk => ?_⟩
        refine ⟨r2, _, rfl, SqT.of hr2, rfl, _, _, rfl, _, _, rfl, rfl, ?_⟩
        have rowE := paired_at (RowsAt.same (s4.trans s5) rows) hlE hrE
        obtain ⟨tE, tvE, gE, _, _⟩ := rowE.ex
        refine ⟨_, rfl, _, rfl, rl, _, _, _, rfl, rfl, SqL.of (s5 _ _ hR4), atI_nat (show (rs.map V.ref)[j + 1 + b.lines.length]? = some (.ref rs[j + 1 + b.lines.length]) by rw [List.getElem?_map, hrE]; rfl), ?_⟩
        refine ⟨_, _, _, _, rfl, rfl, SqT.of gE, atI_nat (j := 0) rfl, rfl, _, rfl, ite2 (fun c => absurd (of_decide_eq_true c) (show ¬ V.str "end" = V.str "else" by decide +kernel)) (fun _ => ?_)⟩
        exact ⟨bt2, xs, rfl, s5, hbt2, blk⟩
      rintro σ' H4' ⟨bt2, xs, rfl, s45, hbt4, blk4⟩
      have s4 := s4.trans s45
      have h4 := s45 _ _ h4
      have g2b := s45 _ _ g2b
      have g3b := paired_kt (KT.of s45) g3b
      have kk4 : ∀ H'' bs', KT H4' H'' → BlkAt C H'' ps wds (.times n' b r') j bs' → BlkAt C H'' ps wds t i (bs ++ bs') := fun H'' bs' a => kk4 H'' bs' ((KT.of s45).trans a)
      have ok1 : Ok1 wds ⟨"times", [.num "laps" n']⟩ := .inr ⟨n', rfl⟩
      obtain rfl : tv = [.int n'] := told_times g3b
      refine ⟨_, rfl, _, rfl, ⟨⟨"times", [.num "laps" n']⟩, ta, _, ps, wds, rfl, SqT.of g2b, nd, g3b, ok1, fun src H5 s5 sv5 => ?_⟩⟩
      refine ⟨_, rfl, _, rfl, _, rfl, ⟨"times", [.num "laps" n']⟩, ta, wa, _, ps, wds, rfl, SqT.of (s5 _ _ g2b), nd, paired_kt (KT.of s5) g3b, hW.same (s4.trans s5), ok1, fun tgt H6 s6 tv6 => ⟨_, _, rfl, ?_⟩⟩
      have h6 := (s5.trans s6) _ _ h4
      refine ⟨_, rfl, .inl ⟨rfl, _, SqL.of h6⟩, ?_⟩
      refine ⟨_, rfl, _, _, rfl, rfl, _, rfl, _, rfl, _, rfl, _, rfl, _, rfl, _, rfl, fun x dx hx hdx ne => ?_⟩
      refine ⟨x, dx, _, _, _, _, _, _, _, rfl, upd_same, fun H7 but ho => ⟨rfl, ?_⟩⟩
      have s7 := made_same hx hdx but
      have s57 := (s5.trans s6).trans s7
      have h7 := s57 _ _ h4
      refine ⟨bl, _, _, rfl, rfl, h7, ?_, _, rfl, _, _, rfl, rfl, ?_⟩
      · rw [List.length_map]; omega
      have k9 := KT.put (u := .lst (bs.map V.ref ++ [.ref x])) h7
      refine ⟨_, _, _, _, _, _, _, bs ++ [x], rfl, same_put (s4.trans s57) hbl h7, by rw [List.map_append]; exact upd_same, by rw [List.length_append, List.length_singleton]; omega, fun H'' bs' kt bb => ?_⟩
      have kt7 := k9.trans kt
      rw [List.append_assoc]
      refine kk4 H'' _ ((KT.of s57).trans kt7) ⟨x, bs', dx, ta, bt2, xs, .ref eb, rfl, ?_, kt7.tup (s57 _ _ g2b), kt7.tup (s57 _ _ hbt4), blk4.mono ((KT.of s57).trans kt7), bb⟩
      have e1 : src = .non := sv5
      have e2 : tgt = .non := tv6
      rw [e1, e2] at ho
      exact kt7.ins ho
  · have e0 : ls.drop j = [] := List.drop_of_length_le (by
      have : ¬ ((j : Nat) : Int) < ((rs.map V.ref).length : Nat) := fun z => c (decide_eq_true z)
      rw [List.length_map] at this
      omega)
    cases t' with
    | deed l' r' => rw [e0] at hd'; cases hd'
    | times n' b r' => rw [e0] at hd'; cases hd'
    | nil =>
      refine ⟨_, rfl, bl, _, rfl, .inl ⟨SqL.of h2, fun bt hbt => ?_⟩⟩
      refine ⟨_, rfl, by show 2 ≤ sizeLine; decide, fun r9 hr9 => ?_⟩
      have sb := Same.new (o := .tup (bs.map V.ref)) hbt
      have hbt' : upd H2 bt (.tup (bs.map V.ref)) bt = some (.tup (bs.map V.ref)) := upd_same
      have sr := Same.new (o := .tup [.ref bt, .int (j : Nat)]) hr9
      have ej : j = i + t.lines.length := by have := hj; simp only [Tr.lines, List.length_nil] at this; omega
      refine k r9 bt bs _ ((s2.trans sb).trans sr) ?_ (sr _ _ hbt') ?_
      · rw [← ej]
        exact upd_same
      · have := kk _ [] (KT.of (sb.trans sr)) rfl
        rw [List.append_nil] at this
        exact this
end
end K19
end
section
set_option Elab.async false
set_option linter.all false
set_option maxRecDepth 100000
set_option maxHeartbeats 4000000
namespace K19
open PySem PySem.Spec PyProof.Rows L2
open PySem.W (ke_shaped_ints)
local macro_rules | `(tactic| walk_at "go") => `(tactic| first | refine ⟨_, rfl, ?_⟩ | refine .inl ⟨_, rfl, ?_⟩ | refine ⟨_, _, rfl, rfl, (by first | (show (0 : Int) < _; decide) | exact Or.inl ⟨by decide, by decide⟩ | exact Or.inr ⟨by decide, by decide⟩), ?_⟩ | refine ⟨_, _, rfl, rfl, ?_⟩)
section
variable {P : Program} {w : World} {K : PySem.W.Frag} {mg : Str → Option Value} {base : Heap}

/-- a row of cells, or nothing -/
def SpanV (H : Hp) (v : V) : Prop := v = .non ∨ ∃ (r : Addr) (i k n : Int), v = .ref r ∧ H r = some (.tup [.int i, .int k, .int n])
theorem SpanV.same {H H' : Hp} {v : V} (h : SpanV H v) (s : Same H H') : SpanV H' v := by
  rcases h with h | ⟨r, i, k, n, a, b⟩
  · exact .inl h
  · exact .inr ⟨r, i, k, n, a, s _ _ b⟩
theorem SpanIs.v {H : Hp} {v : V} {o : Option Sp3} (h : SpanIs H v o) : SpanV H v := by
  cases o with
  | none => exact .inl h
  | some p => obtain ⟨r, a, b⟩ := h; exact .inr ⟨r, _, _, _, a, b⟩
/-- what is done with a pointer -/
def Mv (H : Hp) (v : V) : Prop := ∃ (r : Addr) (a b c d : Int), v = .ref r ∧ H r = some (.tup [.int a, .int b, .int c, .int d])
theorem Mv.same {H H' : Hp} {v : V} (h : Mv H v) (s : Same H H') : Mv H' v := by
  obtain ⟨r, a, b, c, d, e, g⟩ := h
  exact ⟨r, a, b, c, d, e, s _ _ g⟩
/-- both_moves(one, two) -/
def spBothMoves : Sp := fun vs H Q _ => ∃ v1 v2, vs = [v1, v2] ∧ Mv H v1 ∧ Mv H v2 ∧ ∀ v H', Same H H' → Mv H' v → Q v H'
abbrev s_both_moves : Stmt := topS 71
theorem sc_both_moves : FnScope ["one", "two"] ["one", "two"] (defScope s_both_moves) := ⟨rfl, rfl, rfl, by decide +kernel, rfl, by decide +kernel, by decide +kernel⟩
theorem ok_both_moves (T : TxtP K mg) (Tq : PL.TxtQ K w mg) (D : Def K mg "both_moves" s_both_moves) : Cal P w K mg base 1 "both_moves" ["one", "two"] spBothMoves := by
  refine D.cal sc_both_moves (fun vs H Q E h => ?_) (fun _ _ _ _ _ _ us hl => match us, hl with | [_, _], _ => rfl) (fun f cdv A outer s H vs Q E hr h => ?_)
  · obtain ⟨v1, v2, rfl, _⟩ := h
    rfl
  have hu := hu_of hr

  obtain ⟨v1, v2, rfl, ⟨r1, a1, b1, c1, d1, rfl, g1⟩, ⟨r2, a2, b2, c2, d2, rfl, g2⟩, k⟩ := h
  refine ⟨_, (pss_one (ps_ret (pe_tup (pa_cons (pe_op op_add (pe_ix ix_tup (pv 0) pe_int (fun _ _ => rfl)) (pe_ix ix_tup (pv 1) pe_int (fun _ _ => rfl))) (pa_cons (pe_op op_add (pe_ix ix_tup (pv 0) pe_int (fun _ _ => rfl)) (pe_ix ix_tup (pv 1) pe_int (fun _ _ => rfl))) (pa_cons (pe_callB (call_min2 rfl) (by rfl) Tq.f_min (by decide +kernel) (pa_cons (pe_ix ix_tup (pv 0) pe_int (fun _ _ => rfl)) (pa_cons (pe_op op_add (pe_ix ix_tup (pv 0) pe_int (fun _ _ => rfl)) (pe_ix ix_tup (pv 1) pe_int (fun _ _ => rfl))) pa_nil))) (pa_cons (pe_callB (call_max2 rfl) (by rfl) T.f_max (by decide +kernel) (pa_cons (pe_ix ix_tup (pv 0) pe_int (fun _ _ => rfl)) (pa_cons (pe_op op_add (pe_ix ix_tup (pv 0) pe_int (fun _ _ => rfl)) (pe_ix ix_tup (pv 1) pe_int (fun _ _ => rfl))) pa_nil))) pa_nil))))))), ?_⟩
  have h1 := SqT.of (K := K) g1
  have h2 := SqT.of (K := K) g2
  refine ⟨_, rfl, r1, _, _, _, rfl, rfl, h1, atI_nat (j := 0) rfl, _, rfl, r2, _, _, _, rfl, rfl, h2, atI_nat (j := 0) rfl, _, _, rfl, rfl, ?_⟩
  refine ⟨_, rfl, r1, _, _, _, rfl, rfl, h1, atI_nat (j := 1) rfl, _, rfl, r2, _, _, _, rfl, rfl, h2, atI_nat (j := 1) rfl, _, _, rfl, rfl, ?_⟩
  refine ⟨_, rfl, r1, _, _, _, rfl, rfl, h1, atI_nat (j := 2) rfl, _, rfl, r1, _, _, _, rfl, rfl, h1, atI_nat (j := 0) rfl, _, rfl, r2, _, _, _, rfl, rfl, h2, atI_nat (j := 2) rfl, _, _, rfl, rfl, _, _, rfl, ?_⟩
  refine ⟨_, rfl, r1, _, _, _, rfl, rfl, h1, atI_nat (j := 3) rfl, _, rfl, r1, _, _, _, rfl, rfl, h1, atI_nat (j := 1) rfl, _, rfl, r2, _, _, _, rfl, rfl, h2, atI_nat (j := 3) rfl, _, _, rfl, rfl, _, _, rfl, ?_⟩
  refine ⟨by show 4 ≤ sizeLine; decide, fun p hp => ?_⟩
  exact k _ _ (Same.new hp) ⟨p, _, _, _, _, rfl, upd_same⟩



/-- spans_moves(spans, pointer) -/
def spSpansMoves (K : PySem.W.Frag) : Sp := fun vs H Q _ => ∃ (sl : Addr) (p : Int) (ss : List V), vs = [.ref sl, .int p] ∧ H sl = some (.lst ss) ∧ ss.length ≤ 2 ∧ (∀ v ∈ ss, v ≠ .non ∧ SpanV H v) ∧ ∀ v H', Same H H' → Mv H' v → Q v H'
abbrev s_spans_moves : Stmt := topS 74
theorem sc_spans_moves : FnScope ["spans", "pointer", "ends", "place", "shift", "many"] ["spans", "pointer"] (defScope s_spans_moves) := ⟨rfl, rfl, rfl, by decide +kernel, rfl, by decide +kernel, by decide +kernel⟩
theorem ok_spans_moves (T : TxtP K mg) (Tq : PL.TxtQ K w mg) (D : Def K mg "spans_moves" s_spans_moves) : Cal P w K mg base 1 "spans_moves" ["spans", "pointer"] (spSpansMoves K) := by
  refine D.cal sc_spans_moves (fun vs H Q E h => ?_) (fun _ _ _ _ _ _ us hl => match us, hl with | [_, _], _ => rfl) (fun f cdv A outer s H vs Q E hr h => ?_)
  · obtain ⟨sl, p, ss, rfl, _⟩ := h
    rfl
  have hu := hu_of hr

  obtain ⟨sl, p, ss, rfl, hS, n2, hsp, k⟩ := h
  have big : sizeLine = 16777216 := sizeLine_eq
  refine ⟨_, (pss_cons (ps_set (i := 2) sc_spans_moves.nd rfl (by first | exact Or.inl rfl | exact Or.inr rfl) (pe_lst (pa_cons pe_int pa_nil)))
      (pss_cons (ps_for PassesOwn.never rfl (pi_list (pv 0)) (pg_tup rfl (pgs_cons (pg_name (i := 3) sc_spans_moves.nd rfl (by first | exact Or.inl rfl | exact Or.inr rfl)) (pgs_cons (pg_name (i := 4) sc_spans_moves.nd rfl (by first | exact Or.inl rfl | exact Or.inr rfl)) (pgs_cons (pg_name (i := 5) sc_spans_moves.nd rfl (by first | exact Or.inl rfl | exact Or.inr rfl)) pgs_nil)))) (pss_one (ps_if (pt_cmpR op_eq (pv 3) (pv 1) (nomark _)) (pss_cons (ps_expr (pe_bm PySem.F.plainAttrs_list PySem.F.slot_list_append PySem.F.type_list_append mt_append (pv 2) (pa_cons (pv 4) pa_nil)))
      (pss_one (ps_expr (pe_bm PySem.F.plainAttrs_list PySem.F.slot_list_append PySem.F.type_list_append mt_append (pv 2) (pa_cons (pe_op op_add (pv 4) (pv 5)) pa_nil))))) pss_nil)))
      (pss_one (ps_ret (pe_tup (pa_cons pe_int (pa_cons pe_int (pa_cons (pe_callB (cr_min rfl) (by rfl) Tq.f_min (by decide +kernel) (pa_cons (pv 2) pa_nil)) (pa_cons (pe_callB (cr_max rfl) (by rfl) T.f_max (by decide +kernel) (pa_cons (pv 2) pa_nil)) pa_nil))))))))), ?_⟩
  refine ⟨by show 1 ≤ sizeLine; decide, fun el hel => ?_⟩
  have s1 := Same.new (o := .lst [.int 0]) hel
  have h1 : upd H el (.lst [.int 0]) el = some (.lst [.int 0]) := upd_same
  generalize upd H el (.lst [.int 0]) = H1 at s1 h1 ⊢
  refine ⟨_, rfl, sl, rfl, ⟨_, SqL.of (s1 _ _ hS)⟩, for_it walk_list (fun i σ H' => ∃ v3 v4 v5 ns, σ = [some (.ref sl), some (.int p), some (.ref el), v3, v4, v5] ∧ Same H H' ∧ H' el = some (.lst (ns.map V.int)) ∧ 1 ≤ ns.length ∧ ns.length ≤ 2 * i + 1)
    ⟨none, none, none, [0], rfl, s1, h1, Nat.le_refl _, Nat.le_refl _⟩ (fun i σ H' _ ⟨_, _, _, _, _, z, _⟩ => SqL.of (z _ _ hS)) ?_ ?_⟩
  · rintro i x σ H2 H3 hi ⟨v3, v4, v5, ns, rfl, s2, h2, l1, l2⟩ ⟨rfl, hx⟩
    obtain ⟨x0, sx⟩ := hsp x (List.mem_of_getElem? hx)
    rcases sx with e | ⟨r, a, b, c, rfl, hr⟩
    · exact absurd e x0
    refine ⟨r, _, rfl, SqT.of (s2 _ _ hr), rfl, _, _, rfl, _, _, rfl, _, _, rfl, rfl, ?_⟩
    refine ⟨_, rfl, _, rfl, rfl, _, rfl, ite2 (fun _ => ?_) (fun _ => ⟨_, _, _, ns, rfl, s2, h2, l1, by omega⟩)⟩
    refine ⟨_, rfl, .inl ⟨rfl, _, SqL.of h2⟩, _, rfl, el, _, _, rfl, rfl, h2, by rw [List.length_map]; omega, ?_⟩
    have e1 : (ns.map V.int) ++ [V.int b] = (ns ++ [b]).map V.int := by rw [List.map_append]; rfl
    rw [e1]
    have s3 := same_put (o := .lst ((ns ++ [b]).map V.int)) s2 hel h2
    have h3 : upd H3 el (.lst ((ns ++ [b]).map V.int)) el = some (.lst ((ns ++ [b]).map V.int)) := upd_same
    generalize upd H3 el (.lst ((ns ++ [b]).map V.int)) = H4 at s3 h3 ⊢
    refine ⟨_, rfl, .inl ⟨rfl, _, SqL.of h3⟩, _, rfl, _, rfl, _, _, rfl, rfl, el, _, _, rfl, rfl, h3, by rw [List.length_map, List.length_append, List.length_singleton]; omega, ?_⟩
    have e2 : ((ns ++ [b]).map V.int) ++ [V.int (b + c)] = (ns ++ [b] ++ [b + c]).map V.int := by rw [List.map_append (l₁ := ns ++ [b])]; rfl
    rw [e2]
    exact ⟨_, _, _, ns ++ [b] ++ [b + c], rfl, same_put s3 hel h3, upd_same, by simp, by simp only [List.length_append, List.length_singleton]; omega⟩
  · rintro σ H2 ⟨v3, v4, v5, ns, rfl, s2, h2, l1, l2⟩
    refine ⟨_, rfl, el, ns, rfl, SqL.of h2, l1, fun lo _ _ => ⟨_, rfl, el, ns, rfl, SqL.of h2, l1, fun hi _ _ => ⟨by show 4 ≤ sizeLine; decide, fun q hq => ?_⟩⟩⟩
    exact k _ _ (s2.trans (Same.new hq)) ⟨q, _, _, _, _, rfl, upd_same⟩



/-- repeated_moves(moves, laps) -/
def spRepMoves : Sp := fun vs H Q _ => ∃ (v : V) (n : Int), vs = [v, .int n] ∧ Mv H v ∧ 1 ≤ n ∧ n ≤ 5 ∧ ∀ v H', Same H H' → Mv H' v → Q v H'
abbrev s_repeated_moves : Stmt := topS 73
theorem sc_repeated_moves : FnScope ["moves", "laps", "least", "most", "low", "high"] ["moves", "laps"] (defScope s_repeated_moves) := ⟨rfl, rfl, rfl, by decide +kernel, rfl, by decide +kernel, by decide +kernel⟩
theorem ok_repeated_moves (T : TxtP K mg) (Tq : PL.TxtQ K w mg) (D : Def K mg "repeated_moves" s_repeated_moves) : Cal P w K mg base 1 "repeated_moves" ["moves", "laps"] spRepMoves := by
  refine D.cal sc_repeated_moves (fun vs H Q E h => ?_) (fun _ _ _ _ _ _ us hl => match us, hl with | [_, _], _ => rfl) (fun f cdv A outer s H vs Q E hr h => ?_)
  · obtain ⟨v, n, rfl, _⟩ := h
    rfl
  have hu := hu_of hr

  obtain ⟨v, n, rfl, ⟨r, a, b, c, d, rfl, g⟩, n1, n5, k⟩ := h
  refine ⟨_, (pss_cons (ps_asg (pv 0) (pg_tup rfl (pgs_cons (pg_name (i := 2) sc_repeated_moves.nd rfl (by first | exact Or.inl rfl | exact Or.inr rfl)) (pgs_cons (pg_name (i := 3) sc_repeated_moves.nd rfl (by first | exact Or.inl rfl | exact Or.inr rfl)) (pgs_cons (pg_name (i := 4) sc_repeated_moves.nd rfl (by first | exact Or.inl rfl | exact Or.inr rfl)) (pgs_cons (pg_name (i := 5) sc_repeated_moves.nd rfl (by first | exact Or.inl rfl | exact Or.inr rfl)) pgs_nil))))))
      (pss_one (ps_ret (pe_tup (pa_cons (pe_op op_mul (pv 1) (pv 2)) (pa_cons (pe_op op_mul (pv 1) (pv 3)) (pa_cons (pe_op op_add (pv 4) (pe_callB (call_min2 rfl) (by rfl) Tq.f_min (by decide +kernel) (pa_cons pe_int (pa_cons (pe_op op_mul (pe_op op_sub (pv 1) pe_int) (pv 2)) pa_nil)))) (pa_cons (pe_op op_add (pv 5) (pe_callB (call_max2 rfl) (by rfl) T.f_max (by decide +kernel) (pa_cons pe_int (pa_cons (pe_op op_mul (pe_op op_sub (pv 1) pe_int) (pv 3)) pa_nil)))) pa_nil)))))))), ?_⟩
  refine ⟨_, rfl, r, _, rfl, SqT.of (K := K) g, rfl, _, _, rfl, _, _, rfl, _, _, rfl, _, _, rfl, rfl, ?_⟩
  refine ⟨_, rfl, _, rfl, _, _, rfl, rfl, .inl ⟨by omega, by omega⟩, _, rfl, _, rfl, _, _, rfl, rfl, .inl ⟨by omega, by omega⟩, _, rfl, _, rfl, _, _, rfl, rfl, _, rfl, _, _, rfl, rfl, .inl ⟨by omega, by omega⟩, _, _, rfl, _, _, rfl, rfl, _, rfl, _, rfl, _, _, rfl, rfl, _, rfl, _, _, rfl, rfl, .inl ⟨by omega, by omega⟩, _, _, rfl, _, _, rfl, rfl, by show 4 ≤ sizeLine; decide, fun p hp => ?_⟩
  exact k _ _ (Same.new hp) ⟨p, _, _, _, _, rfl, upd_same⟩

end
end K19
end
section
set_option Elab.async false
set_option linter.all false
set_option maxRecDepth 100000
set_option maxHeartbeats 4000000
namespace K19
open PySem PySem.Spec PyProof.Rows L2
open PySem.W (ke_shaped_ints)
local macro_rules | `(tactic| walk_at "go") => `(tactic| first | refine ⟨_, rfl, ?_⟩ | refine .inl ⟨_, rfl, ?_⟩ | refine ⟨_, _, rfl, rfl, (by first | (show (0 : Int) < _; decide) | exact Or.inl ⟨by decide, by decide⟩ | exact Or.inr ⟨by decide, by decide⟩), ?_⟩ | refine ⟨_, _, rfl, rfl, ?_⟩)
section
variable {P : Program} {w : World} {K : PySem.W.Frag} {mg : Str → Option Value} {base : Heap}

theorem pi_seq {X : Cx} {tg l : Expr} {tl : TE} (hl : PE X l tl) : PI X tg l (fun σ H R => iList X.K tl σ H R ∨ iTup X.K tl σ H R) :=
  ⟨fun pins s σ H R I h => h.elim (fun a => (pi_list hl).run pins s σ H R I a) (fun b => (pi_tup hl).run pins s σ H R I b)⟩
/-- a line object of a block, with blocks inside of a depth below n -/
def LineM (C : Addr) (H : Hp) (ps : List Str) (wds : Str → Option Int) (n : Nat) (o : Addr) : Prop := (∃ l num, Dd wds l ∧ DeedAt C H ps wds l num o) ∨
  (∃ (dx t bt : Addr) (xs : List Addr) (oth num : V) (nn : Int) (b : Tr) (i : Nat), H o = some (.ins C dx (lfields num (.str "times") (.ref t) .non .non (.ref bt) oth)) ∧ H t = some (.tup [.int nn]) ∧ 1 ≤ nn ∧ nn ≤ 5 ∧ H bt = some (.tup (xs.map V.ref)) ∧ BlkAt C H ps wds b i xs ∧ b.depth < n ∧ b.Ok wds)
theorem blk_mem {C : Addr} {H : Hp} {ps : List Str} {wds : Str → Option Int} {n : Nat} : ∀ {t : Tr} {i : Nat} {bs : List Addr}, BlkAt C H ps wds t i bs → t.Ok wds → t.depth < n + 1 → ∀ o ∈ bs, LineM C H ps wds n o
  | .nil, _, _, h, _, _, o, ho => by rw [show _ = _ from h] at ho; cases ho
  | .deed l r, i, bs, h, ok, d, o, ho => by
    obtain ⟨x, bs', rfl, h1, h2⟩ := h
    rcases List.mem_cons.mp ho with rfl | ho
    · exact .inl ⟨l, _, ok.1, h1⟩
    · exact blk_mem h2 ok.2 d o ho
  | .times nn b r, i, bs, h, ok, d, o, ho => by
    obtain ⟨x, bs', dx, t, bt, xs, oth, rfl, h1, h2, h3, h4, h5⟩ := h
    have z : max (b.depth + 1) r.depth < n + 1 := d
    have z1 := Nat.le_max_left (b.depth + 1) r.depth
    have z2 := Nat.le_max_right (b.depth + 1) r.depth
    rcases List.mem_cons.mp ho with rfl | ho
    · exact .inr ⟨dx, t, bt, xs, oth, _, nn, b, i + 1, h1, h2, ok.1.1, ok.1.2, h3, h4, by omega, ok.2.1⟩
    · exact blk_mem h5 ok.2.2 (by omega) o ho
theorem LineM.same {C : Addr} {H H' : Hp} {ps : List Str} {wds : Str → Option Int} {n : Nat} {o : Addr} (h : LineM C H ps wds n o) (s : Same H H') : LineM C H' ps wds n o := by
  rcases h with ⟨l, num, a, b⟩ | ⟨dx, t, bt, xs, oth, num, nn, b, i, h1, h2, h3, h4, h5, h6, h7, h8⟩
  · exact .inl ⟨l, num, a, b.mono (KT.of s)⟩
  · exact .inr ⟨dx, t, bt, xs, oth, num, nn, b, i, s _ _ h1, s _ _ h2, h3, h4, s _ _ h5, h6.mono (KT.of s), h7, h8⟩
/-- line_moves(line, pointer) -/
def spLineMoves (C : Addr) (n : Nat) : Sp := fun vs H Q _ => ∃ (o : Addr) (p : Int) (ps : List Str) (wds : Str → Option Int), vs = [.ref o, .int p] ∧ LineM C H ps wds n o ∧ ∀ v H', Same H H' → Mv H' v → Q v H'
/-- block_moves(block, pointer) -/
def spBlockMoves (C : Addr) (n : Nat) : Sp := fun vs H Q _ => ∃ (bt : Addr) (bs : List Addr) (p : Int) (ps : List Str) (wds : Str → Option Int) (t : Tr) (i : Nat), vs = [.ref bt, .int p] ∧ H bt = some (.tup (bs.map V.ref)) ∧ BlkAt C H ps wds t i bs ∧ t.depth < n ∧ t.Ok wds ∧ ∀ v H', Same H H' → Mv H' v → Q v H'
abbrev s_line_moves : Stmt := topS 70
theorem sc_line_moves : FnScope ["line", "pointer", "shift", "tested", "either", "span"] ["line", "pointer"] (defScope s_line_moves) := ⟨rfl, rfl, rfl, by decide +kernel, rfl, by decide +kernel, by decide +kernel⟩
abbrev s_block_moves : Stmt := topS 69
theorem sc_block_moves : FnScope ["block", "pointer", "moves", "line"] ["block", "pointer"] (defScope s_block_moves) := ⟨rfl, rfl, rfl, by decide +kernel, rfl, by decide +kernel, by decide +kernel⟩
theorem block_moves_0 {C : Addr} (D : Def K mg "block_moves" s_block_moves) : Cal P w K mg base 2 "block_moves" ["block", "pointer"] (spBlockMoves C 0) := by
  refine D.cal sc_block_moves (fun vs H Q E h => ?_) (fun _ _ _ _ _ _ us hl => match us, hl with | [_, _], _ => rfl) (fun f cdv A outer s H vs Q E hr h => ?_)
  · obtain ⟨_, _, _, _, _, _, _, rfl, _⟩ := h
    rfl
  · obtain ⟨_, _, _, _, _, _, _, _, _, _, z, _⟩ := h
    exact absurd z (Nat.not_lt_zero _)
theorem ok_line_moves {C : Addr} {n m : Nat} (T : TxtP K mg) (Tq : PL.TxtQ K w mg) (D : Def K mg "line_moves" s_line_moves) (LC : LineC K C) (C_spans_moves : Cal P w K mg base 1 "spans_moves" ["spans", "pointer"] (spSpansMoves K)) (C_repeated_moves : Cal P w K mg base 1 "repeated_moves" ["moves", "laps"] spRepMoves)
    (C_block_moves : Cal P w K mg base (m + 2) "block_moves" ["block", "pointer"] (spBlockMoves C n)) : Cal P w K mg base (m + 3) "line_moves" ["line", "pointer"] (spLineMoves C n) := by
  refine D.cal sc_line_moves (fun vs H Q E h => ?_) (fun _ _ _ _ _ _ us hl => match us, hl with | [_, _], _ => rfl) (fun f cdv A outer s H vs Q E hr h => ?_)
  · obtain ⟨_, _, _, _, rfl, _⟩ := h
    rfl
  have hu := hu_of hr
  obtain ⟨o, p, ps, wds, rfl, hL, k⟩ := h
  have big : sizeLine = 16777216 := sizeLine_eq
  refine ⟨_, (pss_cons (ps_if (pt_cmpR op_eq (pe_fld (pv 0) rfl) pe_str (nomark _)) (pss_cons (ps_set (i := 2) sc_line_moves.nd rfl (by first | exact Or.inl rfl | exact Or.inr rfl) PL.pe_never)
      (pss_one (ps_ret PL.pe_never))) pss_nil)
      (pss_cons (ps_if (pt_cmpR op_eq (pe_fld (pv 0) rfl) pe_str (nomark _)) (pss_one (ps_ret (pe_cal C_repeated_moves (hr.mono (by omega)) rfl (pa_cons (pe_cal C_block_moves (hr.mono (by omega)) rfl (pa_cons (pe_fld (pv 0) rfl) (pa_cons (pv 1) pa_nil))) (pa_cons (pe_ix ix_tup (pe_fld (pv 0) rfl) pe_int (fun _ _ => rfl)) pa_nil))))) pss_nil)
      (pss_cons (ps_if (pt_cmpR op_eq (pe_fld (pv 0) rfl) pe_str (nomark _)) (pss_cons (ps_set (i := 3) sc_line_moves.nd rfl (by first | exact Or.inl rfl | exact Or.inr rfl) PL.pe_never)
      (pss_cons (ps_set (i := 4) sc_line_moves.nd rfl (by first | exact Or.inl rfl | exact Or.inr rfl) PL.pe_never)
      (pss_one (ps_ret PL.pe_never)))) pss_nil)
      (pss_cons (ps_if (pt_cmpR op_eq (pe_fld (pv 0) rfl) pe_str (nomark _)) (pss_one (ps_ret PL.pe_never)) pss_nil)
      (pss_one (ps_ret (pe_cal C_spans_moves (hr.mono (by omega)) rfl (pa_cons (pe_lc (own := [("span", 5)]) (g := gName 5) rfl sc_line_moves.nd (pi_tup (pe_tup (pa_cons (pe_fld (pv 0) rfl) (pa_cons (pe_fld (pv 0) rfl) pa_nil)))) (blkOk_by (N := ["line", "pointer", "shift", "tested", "either", "span"]) (sc := defScope s_line_moves) (by decide +kernel)) (fun _ _ _ _ _ => (pg_name (i := 5) sc_line_moves.nd rfl (Or.inl rfl))) (fun _ _ _ _ _ => (pts_one (pt_cmpR op_notN (pv 5) pe_non (nomark _)))) (fun _ _ _ _ _ => (pv 5))) (pa_cons (pv 1) pa_nil))))))))), ?_⟩
  rcases hL with ⟨l, num, dok, dat⟩ | ⟨dx, t, bt, xs, oth, num, nn, b, i, ho, h2, n1, n5, h3, blk, bd, bok⟩
  · obtain ⟨dx, t, tv, src, tgt, inn, oth, ho, ht, _, hs_, hg_⟩ := id dat
    have hs := hs_.v
    have hg := hg_.v
    obtain ⟨m1, m2, m3, m4, _, _, m7, _, _⟩ := dok.word
    refine ⟨_, rfl, o, C, dx, _, _, rfl, ho, LC.cl, LC.n_word, rfl, rfl, _, rfl, ite2 (fun c => absurd (V.str.inj (of_decide_eq_true c)) m7) (fun _ => ?_)⟩
    refine ⟨_, rfl, o, C, dx, _, _, rfl, ho, LC.cl, LC.n_word, rfl, rfl, _, rfl, ite2 (fun c => absurd (V.str.inj (of_decide_eq_true c)) m2) (fun _ => ?_)⟩
    refine ⟨_, rfl, o, C, dx, _, _, rfl, ho, LC.cl, LC.n_word, rfl, rfl, _, rfl, ite2 (fun c => absurd (V.str.inj (of_decide_eq_true c)) m3) (fun _ => ?_)⟩
    refine ⟨_, rfl, o, C, dx, _, _, rfl, ho, LC.cl, LC.n_word, rfl, rfl, _, rfl, ite2 (fun c => absurd (V.str.inj (of_decide_eq_true c)) m4) (fun _ => ?_)⟩
    refine ⟨_, rfl, o, C, dx, _, _, rfl, ho, LC.cl, LC.n_source, rfl, _, rfl, o, C, dx, _, _, rfl, ho, LC.cl, LC.n_target, rfl, by show 2 ≤ sizeLine; decide, fun q hq => ?_⟩
    have s1 := Same.new (o := .tup [src, tgt]) hq
    have hq1 : upd H q (.tup [src, tgt]) q = some (.tup [src, tgt]) := upd_same
    have hs1 := hs.same s1
    have hg1 := hg.same s1
    generalize upd H q (.tup [src, tgt]) = H1 at s1 hq1 hs1 hg1 ⊢
    refine ⟨q, rfl, ⟨_, SqT.of hq1⟩, fun D hD => lc_it walk_tup (fun i H' => Same H1 H' ∧ ∃ ss, H' D = some (.lst ss) ∧ ss.length ≤ i ∧ ∀ v ∈ ss, v ≠ .non ∧ SpanV H1 v) ⟨Same.new hD, [], upd_same, Nat.le_refl _, by simp⟩ (fun i H' _ z => z.1.tup (SqT.of hq1)) ?_ ?_⟩
    · rintro i y G1 G2 hi ⟨s2, ss, h2, l2, a2⟩ ⟨rfl, hx⟩
      have hy : SpanV H1 y := by
        have := List.mem_of_getElem? hx
        simp only [List.mem_cons, List.not_mem_nil, or_false] at this
        rcases this with rfl | rfl
        · exact hs1
        · exact hg1
      have i2 : i < 2 := hi
      refine ⟨rfl, _, rfl, rfl, _, rfl, ?_⟩
      cases ey : decide (y = V.non) with
      | true =>
        exact iteF ⟨s2, ss, h2, by omega, a2⟩
      | false =>
        refine iteT ⟨_, rfl, ss, h2, by omega, same_put s2 hD h2, ss ++ [y], upd_same, by rw [List.length_append, List.length_singleton]; omega, fun v hv => ?_⟩
        rcases List.mem_append.mp hv with hv | hv
        · exact a2 v hv
        · rw [List.mem_singleton.mp hv]
          exact ⟨of_decide_eq_false ey, hy⟩
    · rintro G ⟨s2, ss, h2, l2, a2⟩
      refine ⟨_, rfl, D, p, ss, rfl, h2, l2, fun v hv => ⟨(a2 v hv).1, (a2 v hv).2.same s2⟩, fun v H' s3 m => ?_⟩
      exact k v H' ((s1.trans s2).trans s3) m
  · refine ⟨_, rfl, o, C, dx, _, _, rfl, ho, LC.cl, LC.n_word, rfl, rfl, _, rfl, ite2 (fun c => absurd (of_decide_eq_true c) (show ¬ V.str "times" = V.str "step" by decide +kernel)) (fun _ => ?_)⟩
    refine ⟨_, rfl, o, C, dx, _, _, rfl, ho, LC.cl, LC.n_word, rfl, rfl, _, rfl, ite2 (fun _ => ?_) (fun c => absurd (decide_eq_true rfl) c)⟩
    refine ⟨_, rfl, o, C, dx, _, _, rfl, ho, LC.cl, LC.n_inner, rfl, _, rfl, bt, xs, p, ps, wds, b, i, rfl, h3, blk, bd, bok, fun v H1 s1 m1 => ?_⟩
    refine ⟨_, rfl, o, C, dx, _, _, rfl, s1 _ _ ho, LC.cl, LC.n_told, rfl, t, _, _, _, rfl, rfl, SqT.of (s1 _ _ h2), atI_nat (j := 0) rfl, v, nn, rfl, m1, n1, n5, fun v2 H2 s2 m2 => ?_⟩
    exact k v2 H2 (s1.trans s2) m2
theorem block_moves_1 {C : Addr} {n m : Nat} (T : TxtP K mg) (Tq : PL.TxtQ K w mg) (D : Def K mg "block_moves" s_block_moves) (C_both_moves : Cal P w K mg base 1 "both_moves" ["one", "two"] spBothMoves) (C_line_moves : Cal P w K mg base (m + 3) "line_moves" ["line", "pointer"] (spLineMoves C n)) : Cal P w K mg base (m + 4) "block_moves" ["block", "pointer"] (spBlockMoves C (n + 1)) := by
  refine D.cal sc_block_moves (fun vs H Q E h => ?_) (fun _ _ _ _ _ _ us hl => match us, hl with | [_, _], _ => rfl) (fun f cdv A outer s H vs Q E hr h => ?_)
  · obtain ⟨_, _, _, _, _, _, _, rfl, _⟩ := h
    rfl
  have hu := hu_of hr
  obtain ⟨bt, bs, p, ps, wds, t, i, rfl, hB, blk, td, tok, k⟩ := h
  have la : ∀ o ∈ bs, LineM C H ps wds n o := blk_mem blk tok td
  clear blk td tok
  refine ⟨_, (pss_cons (ps_set (i := 2) sc_block_moves.nd rfl (by first | exact Or.inl rfl | exact Or.inr rfl) (pe_tup (pa_cons pe_int (pa_cons pe_int (pa_cons pe_int (pa_cons pe_int pa_nil))))))
      (pss_cons (ps_for PassesOwn.never rfl (pi_tup (pv 0)) (pg_name (i := 3) sc_block_moves.nd rfl (by first | exact Or.inl rfl | exact Or.inr rfl)) (pss_one (ps_set (i := 2) sc_block_moves.nd rfl (by first | exact Or.inl rfl | exact Or.inr rfl) (pe_cal C_both_moves (hr.mono (by omega)) rfl (pa_cons (pv 2) (pa_cons (pe_cal C_line_moves (hr.mono (by omega)) rfl (pa_cons (pv 3) (pa_cons (pv 1) pa_nil))) pa_nil))))))
      (pss_one (ps_ret (pv 2))))), ?_⟩
  refine ⟨by show 4 ≤ sizeLine; decide, fun q hq => ?_⟩
  have s1 := Same.new (o := .tup [.int 0, .int 0, .int 0, .int 0]) hq
  have m1 : Mv (upd H q (.tup [.int 0, .int 0, .int 0, .int 0])) (.ref q) := ⟨q, _, _, _, _, rfl, upd_same⟩
  generalize upd H q (.tup [.int 0, .int 0, .int 0, .int 0]) = H1 at s1 m1 ⊢
  refine ⟨_, rfl, bt, rfl, ⟨_, SqT.of (s1 _ _ hB)⟩, for_it walk_tup (fun i σ H' => ∃ v m, σ = [some (.ref bt), some (.int p), some m, v] ∧ Same H H' ∧ Mv H' m)
    ⟨none, .ref q, rfl, s1, m1⟩ (fun i σ H' _ ⟨_, _, _, z, _⟩ => SqT.of (z _ _ hB)) ?_ ?_⟩
  · rintro i x σ H2 H3 hi ⟨v, m, rfl, s2, m2⟩ ⟨rfl, hx⟩
    rw [List.getElem?_map] at hx
    obtain ⟨o, ho, rfl⟩ := Option.map_eq_some_iff.mp hx
    refine ⟨_, rfl, _, rfl, _, rfl, o, p, ps, wds, rfl, (la o (List.mem_of_getElem? ho)).same s2, fun v2 H4 s4 m4 => ?_⟩
    refine ⟨m, v2, rfl, m2.same s4, m4, fun v5 H5 s5 m5 => ?_⟩
    exact ⟨_, v5, rfl, (s2.trans s4).trans s5, m5⟩
  · rintro σ H2 ⟨v, m, rfl, s2, m2⟩
    exact ⟨_, rfl, k m H2 s2 m2⟩


/-- pairs of ints -/
def Pairs (H : Hp) (os : List Addr) : Prop := ∀ o ∈ os, ∃ a b : Int, H o = some (.tup [.int a, .int b])
theorem Pairs.same {H H' : Hp} {os : List Addr} (h : Pairs H os) (s : Same H H') : Pairs H' os := fun o ho => by
  obtain ⟨a, b, e⟩ := h o ho
  exact ⟨a, b, s _ _ e⟩
theorem Pairs.put {H : Hp} {os : List Addr} {p : Addr} {xs : List V} {u : HO} (h : Pairs H os) (hp : H p = some (.lst xs)) : Pairs (upd H p u) os := fun o ho => by
  obtain ⟨a, b, e⟩ := h o ho
  exact ⟨a, b, by rw [upd_ne (ne_of e hp (by intro z; cases z))]; exact e⟩
theorem Pairs.snoc {H : Hp} {os : List Addr} {o : Addr} {a b : Int} (h : Pairs H os) (e : H o = some (.tup [.int a, .int b])) : Pairs H (os ++ [o]) := fun x hx => by
  rcases List.mem_append.mp hx with hx | hx
  · exact h x hx
  · rw [List.mem_singleton.mp hx]; exact ⟨a, b, e⟩
/-- offsets_of(block, many) -/
def spOffsetsOf (C : Addr) : Sp := fun vs H Q _ => ∃ (bt : Addr) (bs : List Addr) (n : Nat) (ps : List Str) (wds : Str → Option Int) (t : Tr) (i : Nat), vs = [.ref bt, .int (n : Nat)] ∧ n ≤ 3 ∧ H bt = some (.tup (bs.map V.ref)) ∧ BlkAt C H ps wds t i bs ∧ t.depth < 2 ∧ t.Ok wds ∧ ∀ (r : Addr) (os : List Addr) (H' : Hp), Same H H' → H' r = some (.tup (os.map V.ref)) → os.length = n → Pairs H' os → Q (.ref r) H'
abbrev s_offsets_of : Stmt := topS 67
theorem sc_offsets_of : FnScope ["block", "many", "pointer"] ["block", "many"] (defScope s_offsets_of) := ⟨rfl, rfl, rfl, by decide +kernel, rfl, by decide +kernel, by decide +kernel⟩
theorem ok_offsets_of (T : TxtP K mg) (Tq : PL.TxtQ K w mg) (D : Def K mg "offsets_of" s_offsets_of) {C : Addr} (C_block_moves : Cal P w K mg base 6 "block_moves" ["block", "pointer"] (spBlockMoves C 2)) : Cal P w K mg base 7 "offsets_of" ["block", "many"] (spOffsetsOf C) := by
  refine D.cal sc_offsets_of (fun vs H Q E h => ?_) (fun _ _ _ _ _ _ us hl => match us, hl with | [_, _], _ => rfl) (fun f cdv A outer s H vs Q E hr h => ?_)
  · obtain ⟨bt, bs, n, ps, wds, t0, i0, rfl, _⟩ := h
    rfl
  have hu := hu_of hr

  obtain ⟨bt, bs, n, ps, wds, t0, i0, rfl, n3, hB, blk, td, tok, k⟩ := h
  have big : sizeLine = 16777216 := sizeLine_eq
  refine ⟨_, (pss_one (ps_ret (pe_callTy call_tuple_of (by rfl) T.f_tuple (by decide +kernel) (pa_cons (pe_lc (own := [("pointer", 2)]) (g := gName 2) (tt := tYes) (te := tSl (rSlA K) (tCall (spBlockMoves C 2) [] E0 (tCons (tVar 0) (tCons (tVar 2) tNil))) (tPart (tC (.int 2))) tNoPart) rfl sc_offsets_of.nd (pi_range1 rfl Tq.f_range (pa_cons (pv 1) pa_nil)) (blkOk_by (N := ["block", "many", "pointer"]) (sc := defScope s_offsets_of) (by decide +kernel)) (fun _ _ _ _ _ => (pg_name (i := 2) sc_offsets_of.nd rfl (Or.inl rfl))) (fun _ _ _ _ _ => pts_nil) (fun _ _ _ _ _ => (pe_slice sl_tupA (pe_cal C_block_moves (hr.mono (by decide)) rfl (pa_cons (pv 0) (pa_cons (pv 2) pa_nil))) (po_some pe_int) po_none))) pa_nil)))), ?_⟩
  refine ⟨_, rfl, n, rfl, by omega, by omega, fun D hD => lc_it walk_range (fun i H' => Same H H' ∧ ∃ os : List Addr, H' D = some (.lst (os.map V.ref)) ∧ os.length = i ∧ Pairs H' os) ⟨Same.new hD, [], upd_same, rfl, by intro o ho; cases ho⟩ (fun _ _ _ _ => True.intro) ?_ ?_⟩
  · rintro i y G1 G2 hi ⟨s1, os, h1, l1, pr⟩ ⟨rfl, rfl⟩
    refine ⟨rfl, _, rfl, _, rfl, bt, bs, _, ps, wds, t0, i0, rfl, s1 _ _ hB, blk.mono (KT.of s1), td, tok, fun v G3 s2 ⟨r, a, b, c, d, ev, hr⟩ => ?_⟩
    subst ev
    refine ⟨_, rfl, r, _, rfl, SqT.of hr, fun z => absurd z (by unfold HT.sIx; simp), fun _ q hq => ?_⟩
    have cut : cutV [.int a, .int b, .int c, .int d] (some 2) none = [.int c, .int d] := by rfl
    rw [cut]
    have s3 := s2.trans (Same.new (o := .tup [.int c, .int d]) hq)
    have h3 := s3 _ _ h1
    refine ⟨_, h3, by rw [List.length_map]; omega, same_put (s1.trans s3) hD h3, os ++ [q], ?_, by rw [List.length_append, List.length_singleton, l1], ?_⟩
    · rw [List.map_append]; exact upd_same
    · exact ((pr.same s3).snoc upd_same).put h3
  · rintro G ⟨s1, os, h1, l1, pr⟩
    refine ⟨D, _, rfl, .inl ⟨SqL.of h1, fun t ht => ?_⟩⟩
    exact k t os _ (s1.trans (Same.new ht)) upd_same l1 (pr.same (Same.new ht))



/-- reach_of(offsets) -/
def spReachOf (K : PySem.W.Frag) : Sp := fun vs H Q _ => ∃ (a : Addr) (os : List Addr), vs = [.ref a] ∧ (SqL K H a (os.map V.ref) ∨ SqT K H a (os.map V.ref)) ∧ 1 ≤ os.length ∧ os.length ≤ 1000 ∧ Pairs H os ∧ ∀ (r : Addr) (x y : Int) (H' : Hp), Same H H' → H' r = some (.tup [.int x, .int y]) → Q (.ref r) H'
abbrev s_reach_of : Stmt := topS 68
theorem sc_reach_of : FnScope ["offsets", "least", "_", "most"] ["offsets"] (defScope s_reach_of) := ⟨rfl, rfl, rfl, by decide +kernel, rfl, by decide +kernel, by decide +kernel⟩
theorem ok_reach_of (T : TxtP K mg) (Tq : PL.TxtQ K w mg) (D : Def K mg "reach_of" s_reach_of) : Cal P w K mg base 1 "reach_of" ["offsets"] (spReachOf K) := by
  refine D.cal sc_reach_of (fun vs H Q E h => ?_) (fun _ _ _ _ _ _ us hl => match us, hl with | [_], _ => rfl) (fun f cdv A outer s H vs Q E hr h => ?_)
  · obtain ⟨a, os, rfl, _⟩ := h
    rfl
  have hu := hu_of hr

  obtain ⟨a, os, rfl, hS, n1, n2, hp, k⟩ := h
  have big : sizeLine = 16777216 := sizeLine_eq
  refine ⟨_, (pss_one (ps_ret (pe_tup (pa_cons (pe_callB (cr_min rfl) (by rfl) Tq.f_min (by decide +kernel) (pa_cons (pe_lc (own := [("least", 1), ("_", 2)]) (g := gTup K 2 (gCons (gName 1) (gCons (gName 2) (gNil)))) (tt := tYes) rfl sc_reach_of.nd (pi_seq (pv 0)) (blkOk_by (N := ["offsets", "least", "_", "most"]) (sc := defScope s_reach_of) (by decide +kernel)) (fun _ _ _ _ _ => (pg_tup rfl (pgs_cons (pg_name (i := 1) sc_reach_of.nd rfl (by first | exact Or.inl rfl | exact Or.inr rfl)) (pgs_cons (pg_name (i := 2) sc_reach_of.nd rfl (by first | exact Or.inl rfl | exact Or.inr rfl)) pgs_nil)))) (fun _ _ _ _ _ => pts_nil) (fun _ _ _ _ _ => (pv 1))) pa_nil)) (pa_cons (pe_callB (cr_max rfl) (by rfl) T.f_max (by decide +kernel) (pa_cons (pe_lc (own := [("_", 2), ("most", 3)]) (g := gTup K 2 (gCons (gName 2) (gCons (gName 3) (gNil)))) (tt := tYes) rfl sc_reach_of.nd (pi_seq (pv 0)) (blkOk_by (N := ["offsets", "least", "_", "most"]) (sc := defScope s_reach_of) (by decide +kernel)) (fun _ _ _ _ _ => (pg_tup rfl (pgs_cons (pg_name (i := 2) sc_reach_of.nd rfl (by first | exact Or.inl rfl | exact Or.inr rfl)) (pgs_cons (pg_name (i := 3) sc_reach_of.nd rfl (by first | exact Or.inl rfl | exact Or.inr rfl)) pgs_nil)))) (fun _ _ _ _ _ => pts_nil) (fun _ _ _ _ _ => (pv 3))) pa_nil)) pa_nil))))), ?_⟩
  rcases hS with hS | hS
  · refine .inl ⟨_, rfl, a, rfl, ⟨_, hS⟩, fun D hD => lc_it walk_list (fun i H' => Same H H' ∧ ∃ ns : List Int, H' D = some (.lst (ns.map V.int)) ∧ ns.length = i) ⟨Same.new hD, [], upd_same, rfl⟩ (fun i H' _ z => z.1.seq hS) ?_ ?_⟩
    · rintro i y G1 G2 hi ⟨s1, ns, h1, l1⟩ ⟨rfl, hx⟩
      rw [List.getElem?_map] at hx
      obtain ⟨o, ho, rfl⟩ := Option.map_eq_some_iff.mp hx
      obtain ⟨b, c, e⟩ := hp.same s1 o (List.mem_of_getElem? ho)
      rw [List.length_map] at hi
      refine ⟨o, _, rfl, SqT.of e, rfl, _, _, rfl, _, _, rfl, rfl, rfl, _, rfl, _, h1, by rw [List.length_map]; omega, same_put s1 hD h1, ns ++ [b], ?_, by rw [List.length_append, List.length_singleton, l1]⟩
      rw [List.map_append]; exact upd_same
    rintro G ⟨s1, ns, h1, l1⟩
    rw [List.length_map] at l1
    refine ⟨D, ns, rfl, SqL.of h1, by omega, fun lo _ _ => ?_⟩
    have hS1 := s1.seq hS
    refine .inl ⟨_, rfl, a, rfl, ⟨_, hS1⟩, fun D2 hD2 => lc_it walk_list (fun i H' => Same G H' ∧ ∃ ns : List Int, H' D2 = some (.lst (ns.map V.int)) ∧ ns.length = i) ⟨Same.new hD2, [], upd_same, rfl⟩ (fun i H' _ z => z.1.seq hS1) ?_ ?_⟩
    · rintro i y G1 G2 hi ⟨s2, ns2, h2, l2⟩ ⟨rfl, hx⟩
      rw [List.getElem?_map] at hx
      obtain ⟨o, ho, rfl⟩ := Option.map_eq_some_iff.mp hx
      obtain ⟨b, c, e⟩ := (hp.same s1).same s2 o (List.mem_of_getElem? ho)
      rw [List.length_map] at hi
      refine ⟨o, _, rfl, SqT.of e, rfl, _, _, rfl, _, _, rfl, rfl, rfl, _, rfl, _, h2, by rw [List.length_map]; omega, same_put s2 hD2 h2, ns2 ++ [c], ?_, by rw [List.length_append, List.length_singleton, l2]⟩
      rw [List.map_append]; exact upd_same
    rintro G5 ⟨s2, ns2, h2, l2⟩
    rw [List.length_map] at l2
    refine ⟨D2, ns2, rfl, SqL.of h2, by omega, fun hi _ _ => ⟨by show 2 ≤ sizeLine; decide, fun r hr => ?_⟩⟩
    exact k r lo hi _ ((s1.trans s2).trans (Same.new hr)) upd_same
  · refine .inr ⟨_, rfl, a, rfl, ⟨_, hS⟩, fun D hD => lc_it walk_tup (fun i H' => Same H H' ∧ ∃ ns : List Int, H' D = some (.lst (ns.map V.int)) ∧ ns.length = i) ⟨Same.new hD, [], upd_same, rfl⟩ (fun i H' _ z => z.1.tup hS) ?_ ?_⟩
    · rintro i y G1 G2 hi ⟨s1, ns, h1, l1⟩ ⟨rfl, hx⟩
      rw [List.getElem?_map] at hx
      obtain ⟨o, ho, rfl⟩ := Option.map_eq_some_iff.mp hx
      obtain ⟨b, c, e⟩ := hp.same s1 o (List.mem_of_getElem? ho)
      rw [List.length_map] at hi
      refine ⟨o, _, rfl, SqT.of e, rfl, _, _, rfl, _, _, rfl, rfl, rfl, _, rfl, _, h1, by rw [List.length_map]; omega, same_put s1 hD h1, ns ++ [b], ?_, by rw [List.length_append, List.length_singleton, l1]⟩
      rw [List.map_append]; exact upd_same
    rintro G ⟨s1, ns, h1, l1⟩
    rw [List.length_map] at l1
    refine ⟨D, ns, rfl, SqL.of h1, by omega, fun lo _ _ => ?_⟩
    have hS1 := s1.tup hS
    refine .inr ⟨_, rfl, a, rfl, ⟨_, hS1⟩, fun D2 hD2 => lc_it walk_tup (fun i H' => Same G H' ∧ ∃ ns : List Int, H' D2 = some (.lst (ns.map V.int)) ∧ ns.length = i) ⟨Same.new hD2, [], upd_same, rfl⟩ (fun i H' _ z => z.1.tup hS1) ?_ ?_⟩
    · rintro i y G1 G2 hi ⟨s2, ns2, h2, l2⟩ ⟨rfl, hx⟩
      rw [List.getElem?_map] at hx
      obtain ⟨o, ho, rfl⟩ := Option.map_eq_some_iff.mp hx
      obtain ⟨b, c, e⟩ := (hp.same s1).same s2 o (List.mem_of_getElem? ho)
      rw [List.length_map] at hi
      refine ⟨o, _, rfl, SqT.of e, rfl, _, _, rfl, _, _, rfl, rfl, rfl, _, rfl, _, h2, by rw [List.length_map]; omega, same_put s2 hD2 h2, ns2 ++ [c], ?_, by rw [List.length_append, List.length_singleton, l2]⟩
      rw [List.map_append]; exact upd_same
    rintro G5 ⟨s2, ns2, h2, l2⟩
    rw [List.length_map] at l2
    refine ⟨D2, ns2, rfl, SqL.of h2, by omega, fun hi _ _ => ⟨by show 2 ≤ sizeLine; decide, fun r hr => ?_⟩⟩
    exact k r lo hi _ ((s1.trans s2).trans (Same.new hr)) upd_same

end
end K19
end
section
set_option Elab.async false
set_option linter.all false
set_option maxRecDepth 100000
set_option maxHeartbeats 4000000
namespace K19
open PySem PySem.Spec PyProof.Rows L2
open PySem.W (ke_shaped_ints)
local macro_rules | `(tactic| walk_at "go") => `(tactic| first | refine ⟨_, rfl, ?_⟩ | refine .inl ⟨_, rfl, ?_⟩ | refine ⟨_, _, rfl, rfl, (by first | (show (0 : Int) < _; decide) | exact Or.inl ⟨by decide, by decide⟩ | exact Or.inr ⟨by decide, by decide⟩), ?_⟩ | refine ⟨_, _, rfl, rfl, ?_⟩)
section
variable {P : Program} {w : World} {K : PySem.W.Frag} {mg : Str → Option Value} {base : Heap}

def bfields (v1 v2 v3 v4 v5 v6 v7 : V) : List (Str × V) := [("parts", v1), ("offsets", v2), ("reach", v3), ("far", v4), ("modulus", v5), ("calls", v6), ("has_registers", v7)]
structure BodyC (K : PySem.W.Frag) (C : Addr) : Prop where
  cl : Cls K C
  n_parts : NoAttr K C "parts"
  n_offsets : NoAttr K C "offsets"
  n_reach : NoAttr K C "reach"
  n_far : NoAttr K C "far"
  n_modulus : NoAttr K C "modulus"
  n_calls : NoAttr K C "calls"
  n_has_registers : NoAttr K C "has_registers"

def HasFar (C : Addr) (H : Hp) (b : Addr) : Prop := ∃ (dx : Addr) (v1 v2 v3 v6 v7 : V) (far md : Int), H b = some (.ins C dx (bfields v1 v2 v3 (.int far) (.int md) v6 v7))
theorem HasFar.same {C : Addr} {H H' : Hp} {b : Addr} (h : HasFar C H b) (s : Same H H') : HasFar C H' b := by
  obtain ⟨dx, v1, v2, v3, v6, v7, far, md, e⟩ := h
  exact ⟨dx, v1, v2, v3, v6, v7, far, md, s _ _ e⟩
/-- a body over n pointers, of the parts us -/
def BodyAt (C : Addr) (H : Hp) (b : Addr) (n : Nat) (reg : Bool) (us : List V) : Prop := ∃ (dx pt ot rc : Addr) (os : List Addr) (x y far md : Int) (cv : V), H b = some (.ins C dx (bfields (.ref pt) (.ref ot) (.ref rc) (.int far) (.int md) cv (.bl reg))) ∧
  H pt = some (.tup us) ∧ H ot = some (.tup (os.map V.ref)) ∧ os.length = n ∧ Pairs H os ∧ H rc = some (.tup [.int x, .int y])
theorem BodyAt.same {C : Addr} {H H' : Hp} {b : Addr} {n : Nat} {us : List V} {reg : Bool} (h : BodyAt C H b n reg us) (s : Same H H') : BodyAt C H' b n reg us := by
  obtain ⟨dx, pt, ot, rc, os, x, y, far, md, cv, h1, h2, h4, h5, h6, h7⟩ := h
  exact ⟨dx, pt, ot, rc, os, x, y, far, md, cv, s _ _ h1, s _ _ h2, s _ _ h4, h5, h6.same s, s _ _ h7⟩
theorem BodyAt.far {C : Addr} {H : Hp} {b : Addr} {n : Nat} {us : List V} {reg : Bool} (h : BodyAt C H b n reg us) : HasFar C H b := by
  obtain ⟨dx, pt, ot, rc, os, x, y, far, md, cv, h1, _⟩ := h
  exact ⟨dx, _, _, _, _, _, far, md, h1⟩
theorem but_tup {H H' : Hp} {o a C dx : Addr} {fs : List (Str × V)} {xs : List V} (B : But o H H') (ho : H o = some (.ins C dx fs)) (h : H a = some (.tup xs)) : H' a = some (.tup xs) := B _ _ (fun z => by rw [z, ho] at h; cases h) h
theorem Pairs.but {H H' : Hp} {o C dx : Addr} {fs : List (Str × V)} {os : List Addr} (h : Pairs H os) (B : But o H H') (ho : H o = some (.ins C dx fs)) : Pairs H' os := fun x hx => by
  obtain ⟨a, b, e⟩ := h x hx
  exact ⟨a, b, but_tup B ho e⟩
theorem HasFar.but {H H' : Hp} {o C D dx m : Addr} (h : HasFar C H m) (B : But o H H') (ho : H o = some (.ins D dx [])) : HasFar C H' m := by
  obtain ⟨dx, v1, v2, v3, v6, v7, far, md, e⟩ := h
  exact ⟨dx, v1, v2, v3, v6, v7, far, md, B _ _ (fun z => by rw [z, ho] at e; cases e) e⟩


/-- far_of(things) of a list of bodies -/
def spFarB (C : Addr) : Sp := fun vs H Q _ => ∃ (a : Addr) (ms : List Addr), vs = [.ref a] ∧ H a = some (.lst (ms.map V.ref)) ∧ ms.length ≤ 1000 ∧ (∀ m ∈ ms, HasFar C H m) ∧ ∀ (n : Int) H', Same H H' → Q (.int n) H'
abbrev s_far_of : Stmt := topS 33
theorem sc_far_of : FnScope ["things", "thing"] ["things"] (defScope s_far_of) := ⟨rfl, rfl, rfl, by decide +kernel, rfl, by decide +kernel, by decide +kernel⟩
theorem ok_far_of (T : TxtP K mg) (Tq : PL.TxtQ K w mg) (D : Def K mg "far_of" s_far_of) {C : Addr} (BC : BodyC K C) : Cal P w K mg base 1 "far_of" ["things"] (spFarB C) := by
  refine D.cal sc_far_of (fun vs H Q E h => ?_) (fun _ _ _ _ _ _ us hl => match us, hl with | [_], _ => rfl) (fun f cdv A outer s H vs Q E hr h => ?_)
  · obtain ⟨a, ms, rfl, _⟩ := h
    rfl
  have hu := hu_of hr

  obtain ⟨a, ms, rfl, hL, l1, hm, k⟩ := h
  have big : sizeLine = 16777216 := sizeLine_eq
  refine ⟨_, (pss_one (ps_ret (pe_callBK (cr_maxD rfl) (by rfl) T.f_max (by decide +kernel) (pa_cons (pe_lc (own := [("thing", 1)]) (g := gName 1) (tt := tYes) (te := tFld K (tVar 1) "far") rfl sc_far_of.nd (pi_list (pv 0)) (blkOk_by (N := ["things", "thing"]) (sc := defScope s_far_of) (by decide +kernel)) (fun _ _ _ _ _ => (pg_name (i := 1) sc_far_of.nd rfl (Or.inl rfl))) (fun _ _ _ _ _ => pts_nil) (fun _ _ _ _ _ => (pe_fld (pv 1) rfl))) pa_nil) (pk_cons pe_int pk_nil)))), ?_⟩
  refine ⟨_, rfl, a, rfl, ⟨_, SqL.of hL⟩, fun D hD => lc_it walk_list (fun i H' => Same H H' ∧ ∃ ns : List Int, H' D = some (.lst (ns.map V.int)) ∧ ns.length = i) ⟨Same.new hD, [], upd_same, rfl⟩ (fun i H' _ z => z.1.seq (SqL.of hL)) ?_ ?_⟩
  · rintro i y G1 G2 hi ⟨s1, ns, h1, l2⟩ ⟨rfl, hx⟩
    rw [List.getElem?_map] at hx
    obtain ⟨o, ho, rfl⟩ := Option.map_eq_some_iff.mp hx
    obtain ⟨dx, v1, v2, v3, v6, v7, far, md, e⟩ := (hm o (List.mem_of_getElem? ho)).same s1
    rw [List.length_map] at hi
    refine ⟨rfl, _, rfl, o, C, dx, _, .int far, rfl, e, BC.cl, BC.n_far, rfl, _, h1, by rw [List.length_map]; omega, same_put s1 hD h1, ns ++ [far], ?_, by rw [List.length_append, List.length_singleton, l2]⟩
    rw [List.map_append]; exact upd_same
  · rintro G ⟨s1, ns, h1, l2⟩
    exact ⟨D, ns, 0, rfl, rfl, SqL.of h1, fun _ => k _ _ s1, fun m _ _ => k _ _ s1⟩



/-- modulus_of(things) of a list of bodies -/
def spModB (C : Addr) : Sp := fun vs H Q _ => ∃ (a : Addr) (ms : List Addr), vs = [.ref a] ∧ H a = some (.lst (ms.map V.ref)) ∧ ms.length ≤ 1000 ∧ (∀ m ∈ ms, HasFar C H m) ∧ ∀ (n : Int) H', Same H H' → Q (.int n) H'
abbrev s_modulus_of : Stmt := topS 34
theorem sc_modulus_of : FnScope ["things", "thing"] ["things"] (defScope s_modulus_of) := ⟨rfl, rfl, rfl, by decide +kernel, rfl, by decide +kernel, by decide +kernel⟩
theorem ok_modulus_of (T : TxtP K mg) (Tq : PL.TxtQ K w mg) (D : Def K mg "modulus_of" s_modulus_of) {C : Addr} (BC : BodyC K C) : Cal P w K mg base 1 "modulus_of" ["things"] (spModB C) := by
  refine D.cal sc_modulus_of (fun vs H Q E h => ?_) (fun _ _ _ _ _ _ us hl => match us, hl with | [_], _ => rfl) (fun f cdv A outer s H vs Q E hr h => ?_)
  · obtain ⟨a, ms, rfl, _⟩ := h
    rfl
  have hu := hu_of hr

  obtain ⟨a, ms, rfl, hL, l1, hm, k⟩ := h
  have big : sizeLine = 16777216 := sizeLine_eq
  refine ⟨_, (pss_one (ps_ret (pe_callBK (cr_maxD rfl) (by rfl) T.f_max (by decide +kernel) (pa_cons (pe_lc (own := [("thing", 1)]) (g := gName 1) (tt := tYes) (te := tFld K (tVar 1) "modulus") rfl sc_modulus_of.nd (pi_list (pv 0)) (blkOk_by (N := ["things", "thing"]) (sc := defScope s_modulus_of) (by decide +kernel)) (fun _ _ _ _ _ => (pg_name (i := 1) sc_modulus_of.nd rfl (Or.inl rfl))) (fun _ _ _ _ _ => pts_nil) (fun _ _ _ _ _ => (pe_fld (pv 1) rfl))) pa_nil) (pk_cons pe_int pk_nil)))), ?_⟩
  refine ⟨_, rfl, a, rfl, ⟨_, SqL.of hL⟩, fun D hD => lc_it walk_list (fun i H' => Same H H' ∧ ∃ ns : List Int, H' D = some (.lst (ns.map V.int)) ∧ ns.length = i) ⟨Same.new hD, [], upd_same, rfl⟩ (fun i H' _ z => z.1.seq (SqL.of hL)) ?_ ?_⟩
  · rintro i y G1 G2 hi ⟨s1, ns, h1, l2⟩ ⟨rfl, hx⟩
    rw [List.getElem?_map] at hx
    obtain ⟨o, ho, rfl⟩ := Option.map_eq_some_iff.mp hx
    obtain ⟨dx, v1, v2, v3, v6, v7, far, md, e⟩ := (hm o (List.mem_of_getElem? ho)).same s1
    rw [List.length_map] at hi
    refine ⟨rfl, _, rfl, o, C, dx, _, .int md, rfl, e, BC.cl, BC.n_modulus, rfl, _, h1, by rw [List.length_map]; omega, same_put s1 hD h1, ns ++ [md], ?_, by rw [List.length_append, List.length_singleton, l2]⟩
    rw [List.map_append]; exact upd_same
  · rintro G ⟨s1, ns, h1, l2⟩
    exact ⟨D, ns, 1, rfl, rfl, SqL.of h1, fun _ => k _ _ s1, fun m _ _ => k _ _ s1⟩



/-- Body.__init__ -/
def spBodyInit (C : Addr) : Sp := fun vs H Q _ => ∃ (o dx pt ot ml : Addr) (us : List V) (os ms : List Addr) (cv : V) (reg : Bool), vs = [.ref o, .ref pt, .ref ot, .ref ml, cv, .bl reg] ∧ H o = some (.ins C dx []) ∧ H pt = some (.tup us) ∧ H ot = some (.tup (os.map V.ref)) ∧ 1 ≤ os.length ∧ os.length ≤ 3 ∧ Pairs H os ∧
  H ml = some (.lst (ms.map V.ref)) ∧ ms.length ≤ 1000 ∧ (∀ m ∈ ms, HasFar C H m) ∧ ∀ H', But o H H' → BodyAt C H' o os.length reg us → Q .non H'
abbrev s_Body___init__ : Stmt := inClass (topS 77) 0
theorem sc_Body___init__ : FnScope ["self", "parts", "offsets", "measured", "calls", "has_registers"] ["self", "parts", "offsets", "measured", "calls", "has_registers"] (defScope s_Body___init__) := ⟨rfl, rfl, rfl, by decide +kernel, rfl, by decide +kernel, by decide +kernel⟩
theorem ok_body_init {C f : Addr} {fd : FuncData} (BC : BodyC K C) (F : FunD K "__init__" "Body.__init__" (defArgs s_Body___init__) (defBody s_Body___init__) (defScope s_Body___init__) [] [] f fd)
    (C_reach_of : Cal P w K mg base 1 "reach_of" ["offsets"] (spReachOf K)) (C_far_of : Cal P w K mg base 1 "far_of" ["things"] (spFarB C)) (C_modulus_of : Cal P w K mg base 1 "modulus_of" ["things"] (spModB C)) :
    FnOk P w K mg base CX0 2 f fd ["self", "parts", "offsets", "measured", "calls", "has_registers"] (spBodyInit C) := by
  refine F.ok sc_Body___init__ (fun vs H Q E h => by obtain ⟨o, dx, pt, ot, ml, us, os, ms, cv, reg, rfl, _⟩ := h; rfl) (fun cdv A outer s H vs Q E hr h => ?_)
  suffices z : ∃ t, PSs (cxOf CX0 P w K mg base ["self", "parts", "offsets", "measured", "calls", "has_registers"] "Body.__init__" (defScope s_Body___init__) f cdv A outer s H E).nox (defBody s_Body___init__) t ∧ t { nx := fun _ H' => Q .non H', rt := Q } (start ["self", "parts", "offsets", "measured", "calls", "has_registers"] vs) H by
    obtain ⟨t, h1, h2⟩ := z
    exact ⟨t, h1.nox, h2⟩
  obtain ⟨o, dx, pt, ot, ml, us, os, ms, cv, reg, rfl, ho, hpt, hot, n1, n3, hp, hml, m1, hm, k⟩ := h
  refine ⟨_, (pss_cons (ps_fld (pv 0) (pv 1) rfl)
      (pss_cons (ps_fld (pv 0) (pv 2) rfl)
      (pss_cons (ps_fld (pv 0) (pe_cal C_reach_of (hr.mono (by decide)) rfl (pa_cons (pv 2) pa_nil)) rfl)
      (pss_cons (ps_fld (pv 0) (pe_cal C_far_of (hr.mono (by decide)) rfl (pa_cons (pv 3) pa_nil)) rfl)
      (pss_cons (ps_fld (pv 0) (pe_cal C_modulus_of (hr.mono (by decide)) rfl (pa_cons (pv 3) pa_nil)) rfl)
      (pss_cons (ps_fld (pv 0) (pv 4) rfl)
      (pss_one (ps_fld (pv 0) (pv 5) rfl)))))))), ?_⟩
  have lt : ∀ (l : List (Str × V)), l.length ≤ 7 → l.length < 1000 := fun l h => by omega
  have mo : ml ≠ o := fun z => by rw [z, ho] at hml; cases hml
  refine ⟨_, rfl, _, rfl, o, C, dx, _, rfl, ho, BC.cl, BC.n_parts, lt _ (Nat.le_of_ble_eq_true rfl), ?_⟩
  refine ⟨_, rfl, _, rfl, o, C, dx, _, rfl, upd_same, BC.cl, BC.n_offsets, lt _ (Nat.le_of_ble_eq_true rfl), ?_⟩
  have B1 : But o H (upd (upd H o (.ins C dx (putF "parts" (.ref pt) []))) o (.ins C dx (putF "offsets" (.ref ot) (putF "parts" (.ref pt) [])))) := (But.upd _).trans (But.upd _)
  have g1 : upd (upd H o (.ins C dx (putF "parts" (.ref pt) []))) o (.ins C dx (putF "offsets" (.ref ot) (putF "parts" (.ref pt) []))) o = some (.ins C dx [("parts", .ref pt), ("offsets", .ref ot)]) := upd_same
  generalize upd (upd H o (.ins C dx (putF "parts" (.ref pt) []))) o (.ins C dx (putF "offsets" (.ref ot) (putF "parts" (.ref pt) []))) = H1 at B1 g1 ⊢
  refine ⟨_, rfl, ot, os, rfl, .inr (SqT.of (but_tup B1 ho hot)), n1, by omega, hp.but B1 ho, fun rc x y H2 s2 hrc => ?_⟩
  refine ⟨_, rfl, o, C, dx, _, rfl, s2 _ _ g1, BC.cl, BC.n_reach, lt _ (Nat.le_of_ble_eq_true rfl), ?_⟩
  have ro : rc ≠ o := fun z => by rw [z, s2 _ _ g1] at hrc; cases hrc
  have B3 : But o H (upd H2 o (.ins C dx (putF "reach" (.ref rc) [("parts", .ref pt), ("offsets", .ref ot)]))) := (B1.trans (But.of s2)).trans (But.upd _)
  have g3 : upd H2 o (.ins C dx (putF "reach" (.ref rc) [("parts", .ref pt), ("offsets", .ref ot)])) o = some (.ins C dx [("parts", .ref pt), ("offsets", .ref ot), ("reach", .ref rc)]) := upd_same
  have r3 : upd H2 o (.ins C dx (putF "reach" (.ref rc) [("parts", .ref pt), ("offsets", .ref ot)])) rc = some (.tup [.int x, .int y]) := by rw [upd_ne ro]; exact hrc
  generalize upd H2 o (.ins C dx (putF "reach" (.ref rc) [("parts", .ref pt), ("offsets", .ref ot)])) = H3 at B3 g3 r3 ⊢
  refine ⟨_, rfl, ml, ms, rfl, B3 _ _ mo hml, m1, fun m hmm => (hm m hmm).but B3 ho, fun far H4 s4 => ?_⟩
  refine ⟨_, rfl, o, C, dx, _, rfl, s4 _ _ g3, BC.cl, BC.n_far, lt _ (Nat.le_of_ble_eq_true rfl), ?_⟩
  have B5 : But o H (upd H4 o (.ins C dx (putF "far" (.int far) [("parts", .ref pt), ("offsets", .ref ot), ("reach", .ref rc)]))) := (B3.trans (But.of s4)).trans (But.upd _)
  have g5 : upd H4 o (.ins C dx (putF "far" (.int far) [("parts", .ref pt), ("offsets", .ref ot), ("reach", .ref rc)])) o = some (.ins C dx [("parts", .ref pt), ("offsets", .ref ot), ("reach", .ref rc), ("far", .int far)]) := upd_same
  have r5 : upd H4 o (.ins C dx (putF "far" (.int far) [("parts", .ref pt), ("offsets", .ref ot), ("reach", .ref rc)])) rc = some (.tup [.int x, .int y]) := by rw [upd_ne ro]; exact s4 _ _ r3
  generalize upd H4 o (.ins C dx (putF "far" (.int far) [("parts", .ref pt), ("offsets", .ref ot), ("reach", .ref rc)])) = H5 at B5 g5 r5 ⊢
  refine ⟨_, rfl, ml, ms, rfl, B5 _ _ mo hml, m1, fun m hmm => (hm m hmm).but B5 ho, fun md H6 s6 => ?_⟩
  refine ⟨_, rfl, o, C, dx, _, rfl, s6 _ _ g5, BC.cl, BC.n_modulus, lt _ (Nat.le_of_ble_eq_true rfl), ?_⟩
  refine ⟨_, rfl, _, rfl, o, C, dx, _, rfl, upd_same, BC.cl, BC.n_calls, lt _ (Nat.le_of_ble_eq_true rfl), ?_⟩
  refine ⟨_, rfl, _, rfl, o, C, dx, _, rfl, upd_same, BC.cl, BC.n_has_registers, lt _ (Nat.le_of_ble_eq_true rfl), ?_⟩
  have r6 := s6 _ _ r5
  refine k _ ?_ ?_
  · exact (B5.trans (But.of s6)).trans (((But.upd _).trans (But.upd _)).trans (But.upd _))
  · refine ⟨dx, pt, ot, rc, os, x, y, far, md, cv, upd_same, ?_, ?_, rfl, ?_, ?_⟩
    · exact but_tup ((B5.trans (But.of s6)).trans (((But.upd _).trans (But.upd _)).trans (But.upd _))) ho hpt
    · exact but_tup ((B5.trans (But.of s6)).trans (((But.upd _).trans (But.upd _)).trans (But.upd _))) ho hot
    · exact hp.but ((B5.trans (But.of s6)).trans (((But.upd _).trans (But.upd _)).trans (But.upd _))) ho
    · rw [upd_ne ro, upd_ne ro, upd_ne ro]; exact r6
end
end K19
end
section
set_option Elab.async false
set_option linter.all false
set_option maxRecDepth 100000
set_option maxHeartbeats 4000000
namespace L2
open PySem PySem.Spec PyProof.Rows
section
variable {X : Cx}
/-- x = {k: v for ..}: the comprehension stores it itself -/
theorem ps_setDc {i : Nat} {y : Str} {py : Pos} {kx vx tg iter : Expr} {ifs : List Expr} {scope : Scope} {own : List (Str × Nat)} {pos spos : Pos} {wi : TI} {g : TG} {tt : TT} {tk tv : TE} (hc : X.calm = true) (hN : X.N.Nodup) (hy : X.N[i]? = some y) (hyl : X.env.scope.names.lookup y = some .local)
    (hsw : swapsWith (.DictComp kx vx [⟨tg, iter, ifs, 0⟩] scope pos) (some (.Name y py)) spos.line X.env = pure true) (hi : PI X tg iter wi) (ok : BlkOk X.N X.env.scope scope own)
    (hg : ∀ (s : Shared) (H : Hp) (C : Addr) (cl : List (Str × Addr)) (fp : List Addr), PG (X.blk s H scope (compEnvC scope cl C X.env) fp) tg g) (ht : ∀ (s : Shared) (H : Hp) (C : Addr) (cl : List (Str × Addr)) (fp : List Addr), PTs (X.blk s H scope (compEnvC scope cl C X.env) fp) ifs tt)
    (hk : ∀ (s : Shared) (H : Hp) (C : Addr) (cl : List (Str × Addr)) (fp : List Addr), PE (X.blk s H scope (compEnvC scope cl C X.env) fp) kx tk)
    (he : ∀ (s : Shared) (H : Hp) (C : Addr) (cl : List (Str × Addr)) (fp : List Addr), PE (X.blk s H scope (compEnvC scope cl C X.env) fp) vx tv) (hs : ∀ x, foldedSetIterable iter X.env x = pure x := by intro _; rfl) :
    PS X (.Assign [.Name y py] (.DictComp kx vx [⟨tg, iter, ifs, 0⟩] scope pos) spos) (tAsg (tDc wi g tt tk tv (own.map (·.2))) (gName i)) := by
  refine ⟨fun pins s σ H D I h => ?_⟩
  rw [exec_Assign_Name_used _ _ _ _ hsw]
  refine wpAny_bind (wpAny_standAt (wpAny_bind ?_))
  show wpAny _ X.A (do let _ ← comprehension (.DictComp kx vx [⟨tg, iter, ifs, 0⟩] scope pos) scope X.env (firstIterPos [⟨tg, iter, ifs, 0⟩] pos) newDict false (eval iter X.env) (some (assign (.Name y py) X.env))) _ _ s
  have h : tDc wi g tt tk tv (own.map (·.2)) σ H (fun x H1 => gName i x σ H1 D.nx) := h
  refine wpAny_bind (thn (dc_core (Qf := fun _ s' => SP X pins D .next s') hc hN I hi ok hg ht hk he hs h fun L C s' m H' I' q hn f => ?_) fun _ s' hq => wpAny_pure (wpAny_pure hq))
  show wpAny _ _ (assign (.Name y py) X.env (.ref L)) _ _ _
  refine wpAny_assign_Name (store_ok2 (v := V.ref L) I' hN hy (.inl hyl) rfl (fun s2 I2 ⟨a, sb, ha⟩ => ?_) (.inr hyl))
  obtain ⟨f0, f1, f2, f3, f4, f5⟩ := f
  have haC : C ≠ a := by
    rcases ha with z | z
    · rw [z]; exact f1
    · exact fun e => f4 y a z e.symm
  refine ⟨m, hn.sameBut sb haC, fun h3 sb3 => ?_⟩
  exact ⟨_, H', I2.turned (t' := s2.toks) (fun b o hb e => (sb3.2 b hb).trans e) f0 f1 f3 f4 f5, q⟩
theorem sw_trueD {kx vx : Expr} {gs : List Comprehension} {scope : Scope} {pos py : Pos} {y : Str} {l : Nat} {env : Env} (hk : env.scope.kind = .function) (hy : env.scope.names.lookup y = some .local) (hl : (py.line == pos.line) = true)
    (ha : (scope.names.any fun (n, k) => n == y && (k == .local || k == .cell)) = false) : swapsWith (.DictComp kx vx gs scope pos) (some (.Name y py)) l env = pure true := by
  have ky : env.kindOf y = some .local := hy
  have hb : env.blockKind = .function := by unfold Env.blockKind; rw [hk]; rfl
  unfold swapsWith
  simp only [hb, ky, ha, Expr.pos, hl]
  rfl
end
end L2
end
section
set_option Elab.async false
set_option linter.all false
set_option maxRecDepth 100000
set_option maxHeartbeats 4000000
namespace K19
open PySem PySem.Spec PyProof.Rows L2
open PySem.W (ke_shaped_ints)
local macro_rules | `(tactic| walk_at "go") => `(tactic| first | refine ⟨_, rfl, ?_⟩ | refine .inl ⟨_, rfl, ?_⟩ | refine ⟨_, _, rfl, rfl, (by first | (show (0 : Int) < _; decide) | exact Or.inl ⟨by decide, by decide⟩ | exact Or.inr ⟨by decide, by decide⟩), ?_⟩ | refine ⟨_, _, rfl, rfl, ?_⟩)
section
variable {P : Program} {w : World} {K : PySem.W.Frag} {mg : Str → Option Value} {base : Heap}

theorem dc_it {J : It} {n : Nat} {G : Hp → Prop} {Y : Nat → Hp → V → Hp → Prop} (w : Walk J n G Y) {g : TG} {tt : TT} {tk tv : TE} {vs : List Nat} {σ : L2.St} {H1 : Hp} {D : Addr} {Qd : Hp → Prop} (Pv : Nat → Hp → Prop) (h0 : Pv 0 (upd H1 D (.dK []))) (hG : ∀ i H, i ≤ n → Pv i H → G H)
    (hs : ∀ i x H H', i < n → Pv i H → Y i H x H' → g x (wipe σ vs) H' fun σ2 H2 => wipe σ2 vs = wipe σ vs ∧ tt σ2 H2 fun b H3 =>
      if b = true then tk σ2 H3 fun y H4 => tv σ2 H4 fun z H5 => ∃ kvs k, y = kV k ∧ H5 D = some (.dK kvs) ∧ kvs.length < sizeLine ∧ Pv (i + 1) (upd H5 D (.dK (putK kvs k z))) else Pv (i + 1) H3) (hd : ∀ H, Pv n H → Qd H) :
    ∃ W : Nat → Nat → Hp → Prop, (∃ m, W 0 m (upd H1 D (.dK []))) ∧ ∀ i m H, W i m H →
      (J.stop i H ∧ Qd H) ∨ (J.go i H ∧ ∃ Nx : Hp → Prop, (∀ H', Nx H' → ∃ m', m' < m ∧ W (i + 1) m' H') ∧ ∀ x H', J.yld i H x H' → g x (wipe σ vs) H' fun σ2 H2 => wipe σ2 vs = wipe σ vs ∧ tt σ2 H2 fun b H3 =>
        if b = true then tk σ2 H3 fun y H4 => tv σ2 H4 fun z H5 => ∃ kvs k, y = kV k ∧ H5 D = some (.dK kvs) ∧ kvs.length < sizeLine ∧ Nx (upd H5 D (.dK (putK kvs k z))) else Nx H3) := by
  refine ⟨fun i m H => m = n - i ∧ i ≤ n ∧ Pv i H, ⟨n, by simp, Nat.zero_le _, h0⟩, ?_⟩
  rintro i m H ⟨rfl, hi, p⟩
  have q := hG i H hi p
  by_cases hlt : i < n
  · refine .inr ⟨w.goes i H hlt q, Pv (i + 1), fun H' p' => ⟨n - (i + 1), by omega, rfl, hlt, p'⟩, fun x H' y => hs i x H H' hlt p (w.yields i H x H' hlt q y)⟩
  · have e : i = n := by omega
    subst e
    exact .inl ⟨w.stops H q, hd H p⟩
theorem tr_words {wds : Str → Option Int} : ∀ {t : Tr}, t.Ok wds → ∀ l ∈ t.lines, l.w ≠ "when" ∧ l.w ≠ "call" ∧ l.w ∉ (["input", "give"] : List Str)
  | .nil, _, l, h => by cases h
  | .deed l r, ok, x, h => by
    rcases List.mem_cons.mp h with rfl | h
    · obtain ⟨_, _, m3, m4, _, _, _, m8, m9⟩ := ok.1.word
      exact ⟨m3, m4, by simp only [List.mem_cons, List.not_mem_nil, or_false]; exact fun z => z.elim m8 m9⟩
    · exact tr_words ok.2 x h
  | .times n b r, ok, x, h => by
    rcases List.mem_cons.mp h with rfl | h
    · exact (show ("times" : Str) ≠ "when" ∧ ("times" : Str) ≠ "call" ∧ ("times" : Str) ∉ (["input", "give"] : List Str) by decide +kernel)
    · rcases List.mem_append.mp h with h | h
      · exact tr_words ok.2.1 x h
      · rcases List.mem_cons.mp h with rfl | h
        · exact (show ("end" : Str) ≠ "when" ∧ ("end" : Str) ≠ "call" ∧ ("end" : Str) ∉ (["input", "give"] : List Str) by decide +kernel)
        · exact tr_words ok.2.2 x h
def hasReg (ls : List PL.Ln) : Bool := ls.any fun l => decide (l.w ∈ (["input", "give"] : List Str))
/-- read_body(pointers, text, functions) of right lines -/
def spReadBody (K : PySem.W.Frag) (LCc C : Addr) : Sp := fun vs H Q _ => ∃ (a : Addr) (ps : List Str) (t : Tr) (wds : Str → Option Int) (fv : V), vs = [.ref a, .str (textOf t.lines), fv] ∧ SqT K H a (ps.map V.str) ∧ CF.Names ps ∧ LinesOk ps t.lines wds ∧ t.Ok wds ∧ t.depth < 2 ∧
  ∀ (b bt : Addr) (bs : List Addr) (H' : Hp), Same H H' → H b = none → H' bt = some (.tup (bs.map V.ref)) → BlkAt LCc H' ps wds t 0 bs → BodyAt C H' b ps.length (hasReg t.lines) (if bs.isEmpty then [] else [.ref bt]) → Q (.ref b) H'
abbrev s_read_body : Stmt := topS 79
theorem sc_read_body : FnScope ["pointers", "text", "functions", "rows", "widths", "block", "_", "calls", "measured", "name", "function", "has_registers", "parts", "word", "told"] ["pointers", "text", "functions"] (defScope s_read_body) := ⟨rfl, rfl, rfl, by decide +kernel, rfl, by decide +kernel, by decide +kernel⟩
theorem ok_read_body (T : TxtP K mg) (Tq : PL.TxtQ K w mg) (D : Def K mg "read_body" s_read_body) {C LCc : Addr} (C_read_rows : Cal P w K mg base 8 "read_rows" ["pointers", "text", "functions"] (spReadRows K)) (C_block_of : Cal P w K mg base 5 "block_of" ["rows", "widths", "index"] (spBlockOf K LCc 2)) (C_offsets_of : Cal P w K mg base 7 "offsets_of" ["block", "many"] (spOffsetsOf LCc)) (M_Body : Mkc P w K mg base 2 "Body" C ["self", "parts", "offsets", "measured", "calls", "has_registers"] (spBodyInit C)) : Cal P w K mg base 9 "read_body" ["pointers", "text", "functions"] (spReadBody K LCc C) := by
  refine D.cal sc_read_body (fun vs H Q E h => ?_) (fun _ _ _ _ _ _ us hl => match us, hl with | [_, _, _], _ => rfl) (fun f cdv A outer s H vs Q E hr h => ?_)
  · obtain ⟨a, ps, t0, wds, fv, rfl, _⟩ := h
    rfl
  have hu := hu_of hr

  obtain ⟨a, ps, t0, wds, fv, rfl, hT, nm, lk, tok, td, k⟩ := h
  obtain ⟨ls, els⟩ : ∃ ls, t0.lines = ls := ⟨_, rfl⟩
  have words := tr_words tok
  rw [els] at lk k words ⊢
  have big : sizeLine = 16777216 := sizeLine_eq
  have n1 := nm.2.2.1
  have n3 := nm.2.2.2
  refine ⟨_, (pss_cons (ps_asg (pe_cal C_read_rows (hr.mono (by decide)) rfl (pa_cons (pv 0) (pa_cons (pv 1) (pa_cons (pv 2) pa_nil)))) (pg_tup rfl (pgs_cons (pg_name (i := 3) sc_read_body.nd rfl (by first | exact Or.inl rfl | exact Or.inr rfl)) (pgs_cons (pg_name (i := 4) sc_read_body.nd rfl (by first | exact Or.inl rfl | exact Or.inr rfl)) pgs_nil))))
      (pss_cons (ps_asg (pe_cal C_block_of (hr.mono (by decide)) rfl (pa_cons (pv 3) (pa_cons (pv 4) (pa_cons pe_int pa_nil)))) (pg_tup rfl (pgs_cons (pg_name (i := 5) sc_read_body.nd rfl (by first | exact Or.inl rfl | exact Or.inr rfl)) (pgs_cons (pg_name (i := 6) sc_read_body.nd rfl (by first | exact Or.inl rfl | exact Or.inr rfl)) pgs_nil))))
      (pss_cons (ps_setDc (i := 7) (own := [("word", 13), ("told", 14)]) (g := gTup K 2 (gCons (gName 13) (gCons (gName 14) gNil))) rfl sc_read_body.nd rfl rfl (sw_trueD rfl rfl rfl (by decide +kernel)) (pi_list (pv 3)) (blkOk_by (N := ["pointers", "text", "functions", "rows", "widths", "block", "_", "calls", "measured", "name", "function", "has_registers", "parts", "word", "told"]) (sc := defScope s_read_body) (by decide +kernel)) (fun _ _ _ _ _ => (pg_tup rfl (pgs_cons (pg_name (i := 13) sc_read_body.nd rfl (by first | exact Or.inl rfl | exact Or.inr rfl)) (pgs_cons (pg_name (i := 14) sc_read_body.nd rfl (by first | exact Or.inl rfl | exact Or.inr rfl)) pgs_nil)))) (fun _ _ _ _ _ => (pts_one (pt_cmpR op_eq (pv 13) pe_str (nomark _)))) (fun _ _ _ _ _ => PL.pe_never) (fun _ _ _ _ _ => PL.pe_never))
      (pss_cons (ps_setLc (i := 8) (own := [("word", 13), ("told", 14)]) (g := gTup K 2 (gCons (gName 13) (gCons (gName 14) (gNil)))) rfl sc_read_body.nd rfl rfl (sw_true rfl rfl rfl (by decide +kernel)) (pi_list (pv 3)) (blkOk_by (N := ["pointers", "text", "functions", "rows", "widths", "block", "_", "calls", "measured", "name", "function", "has_registers", "parts", "word", "told"]) (sc := defScope s_read_body) (by decide +kernel)) (fun _ _ _ _ _ => (pg_tup rfl (pgs_cons (pg_name (i := 13) sc_read_body.nd rfl (by first | exact Or.inl rfl | exact Or.inr rfl)) (pgs_cons (pg_name (i := 14) sc_read_body.nd rfl (by first | exact Or.inl rfl | exact Or.inr rfl)) pgs_nil)))) (fun _ _ _ _ _ => (pts_one (pt_cmpR op_eq (pv 13) pe_str (nomark _)))) (fun _ _ _ _ _ => PL.pe_never))
      (pss_cons (ps_lock (ps_for PassesOwn.never rfl (pi_keys (pv 7)) (pg_name (i := 9) sc_read_body.nd rfl (by first | exact Or.inl rfl | exact Or.inr rfl)) (pss_cons (ps_set (i := 10) sc_read_body.nd rfl (by first | exact Or.inl rfl | exact Or.inr rfl) PL.pe_never)
      (pss_cons (ps_expr PL.pe_never)
      (pss_one (ps_expr PL.pe_never))))))
      (pss_cons (ps_set (i := 11) sc_read_body.nd rfl (by first | exact Or.inl rfl | exact Or.inr rfl) (pe_callB (cr_any rfl) (by rfl) Tq.f_any (by decide +kernel) (pa_cons (pe_lc (own := [("word", 13), ("_", 6)]) (g := gTup K 2 (gCons (gName 13) (gCons (gName 6) (gNil)))) (tt := tYes) (te := tOp (rIn K false) (tVar 13) (tTup (tCons (tC (.str "input")) (tCons (tC (.str "give")) tNil)))) rfl sc_read_body.nd (pi_list (pv 3)) (blkOk_by (N := ["pointers", "text", "functions", "rows", "widths", "block", "_", "calls", "measured", "name", "function", "has_registers", "parts", "word", "told"]) (sc := defScope s_read_body) (by decide +kernel)) (fun _ _ _ _ _ => (pg_tup rfl (pgs_cons (pg_name (i := 13) sc_read_body.nd rfl (by first | exact Or.inl rfl | exact Or.inr rfl)) (pgs_cons (pg_name (i := 6) sc_read_body.nd rfl (by first | exact Or.inl rfl | exact Or.inr rfl)) pgs_nil)))) (fun _ _ _ _ _ => pts_nil) (fun _ _ _ _ _ => (pe_cmpR op_in_seq (pv 13) (pe_tup (pa_cons pe_str (pa_cons pe_str pa_nil))) (by rfl)))) pa_nil)))
      (C8.pss_cut (ps_set (i := 12) sc_read_body.nd rfl (by first | exact Or.inl rfl | exact Or.inr rfl) (pe_ifExp (pt_truth (pv 5) (by intro _; rfl)) (pe_tup (pa_cons (pv 5) pa_nil)) (pe_tup pa_nil)))
      (pss_one (ps_ret (pe_mkc M_Body (hr.mono (by decide)) rfl (pa_cons (pv 12) (pa_cons (pe_cal C_offsets_of (hr.mono (by decide)) rfl (pa_cons (pv 5) (pa_cons (pe_callB call_len (by rfl) T.f_len PySem.boot_len (pa_cons (pv 0) pa_nil)) pa_nil))) (pa_cons (pv 8) (pa_cons (pv 7) (pa_cons (pv 11) pa_nil))))))))))))))), ?_⟩
  refine ⟨_, rfl, _, rfl, _, rfl, a, ps, ls, wds, fv, rfl, hT, nm, lk, fun r rl wa rs H1 s1 hr hrl rows hW => ?_⟩
  refine ⟨r, _, rfl, SqT.of hr, rfl, _, _, rfl, _, _, rfl, rfl, ?_⟩
  have rle := paired_len rows
  refine ⟨_, rfl, _, rfl, rl, wa, rs, ps, ls, [], wds, t0, 0, rfl, hrl, rows, lk.n40, nm.2.1, hW, td, tok, by rw [els]; simp, .inl rfl, fun r2 bt bs H2 s2 hr2 hbt blk => ?_⟩
  rw [els, Nat.zero_add] at hr2
  refine ⟨r2, _, rfl, SqT.of hr2, rfl, _, _, rfl, _, _, rfl, rfl, ?_⟩
  have hrl2 := s2 _ _ hrl
  have rows2 := RowsAt.same s2 rows
  have s12 := s1.trans s2
  have row : ∀ i x G, Same H2 G → (rs.map V.ref)[i]? = some x → ∃ (r : Addr) (l : PL.Ln) (t : Addr) (tv : List V), x = V.ref r ∧ G r = some (.tup [.str l.w, .ref t]) ∧ l ∈ ls := fun i x G s e => by
    obtain ⟨r, l, rfl, _, hl, rw6⟩ := row_get (RowsAt.same s rows2) e
    obtain ⟨t, vs, g1, g2, g3⟩ := rw6.ex
    exact ⟨r, l, t, vs, rfl, g1, List.mem_of_getElem? hl⟩
  -- calls
  refine ⟨_, rfl, rl, rfl, ⟨_, SqL.of hrl2⟩, fun D1 hD1 => dc_it (tk := fun _ _ _ => False) (tv := fun _ _ _ => False) walk_list (fun i H' => Same H2 H' ∧ H' D1 = some (.dK [])) ⟨Same.new hD1, upd_same⟩ (fun i H' _ z => z.1.seq (SqL.of hrl2)) ?_ ?_⟩
  · rintro i y G1 G2 hi ⟨s3, h3⟩ ⟨rfl, hx⟩
    obtain ⟨r, l, t, tv, rfl, e, lt⟩ := row i y G2 s3 hx
    refine ⟨r, _, rfl, SqT.of e, rfl, _, _, rfl, _, _, rfl, rfl, rfl, _, rfl, rfl, _, rfl, ?_⟩
    rw [decide_eq_false (fun c => (words l lt).2.1 (V.str.inj c))]
    exact iteF ⟨s3, h3⟩
  rintro G3 ⟨s3, h3⟩
  -- measured
  refine ⟨_, rfl, rl, rfl, ⟨_, SqL.of (s3 _ _ hrl2)⟩, fun D2 hD2 => lc_it (te := fun _ _ _ => False) walk_list (fun i H' => Same G3 H' ∧ H' D2 = some (.lst [])) ⟨Same.new hD2, upd_same⟩ (fun i H' _ z => z.1.seq (SqL.of (s3 _ _ hrl2))) ?_ ?_⟩
  · rintro i y G1 G2 hi ⟨s4, h4⟩ ⟨rfl, hx⟩
    obtain ⟨r, l, t, tv, rfl, e, lt⟩ := row i y G2 (s3.trans s4) hx
    refine ⟨r, _, rfl, SqT.of e, rfl, _, _, rfl, _, _, rfl, rfl, rfl, _, rfl, rfl, _, rfl, ?_⟩
    rw [decide_eq_false (fun c => (words l lt).1 (V.str.inj c))]
    exact iteF ⟨s4, h4⟩
  rintro G4 ⟨s4, h4⟩
  have h34 := s4 _ _ h3
  -- the functions that are called: none
  refine ⟨D1, .dK [], h34, trivial, fun od => ?_⟩
  refine ⟨_, rfl, D1, od, rfl, .inl ⟨[], upd_same, for_it walk_keys (fun i σ' H' => σ' = [some (.ref a), some (.str (textOf ls)), some fv, some (.ref rl), some (.ref wa), some (.ref bt), some (.int (ls.length : Nat)), some (.ref D1), some (.ref D2), none, none, none, none, none, none] ∧ H' = upd G4 D1 (.frz od (.dK []))) ⟨rfl, rfl⟩ (fun i σ' H' _ z => by rw [z.2]; exact upd_same) (fun i x σ' H' H'' hi => absurd hi (Nat.not_lt_zero _)) ?_⟩⟩
  rintro σ' H' ⟨rfl, rfl⟩
  refine ⟨upd_same, ?_⟩
  have s5 : Same G4 (upd (upd G4 D1 (.frz od (.dK []))) D1 (.dK [])) := fun c v e => by
    by_cases q : c = D1
    · rw [q] at e ⊢
      rw [h34] at e
      cases e
      exact upd_same
    · rw [upd_ne q, upd_ne q]; exact e
  generalize upd (upd G4 D1 (.frz od (.dK []))) D1 (.dK []) = G5 at s5 ⊢
  have s25 := (s3.trans s4).trans s5
  have h5 := s5 _ _ h4
  -- registers
  refine ⟨_, rfl, rl, rfl, ⟨_, SqL.of (s25 _ _ hrl2)⟩, fun D3 hD3 => lc_it walk_list (fun i H' => Same G5 H' ∧ H' D3 = some (.lst (((ls.take i).map fun l => decide (l.w ∈ (["input", "give"] : List Str))).map V.bl))) ⟨Same.new hD3, upd_same⟩ (fun i H' _ z => z.1.seq (SqL.of (s25 _ _ hrl2))) ?_ ?_⟩
  · rintro i y G1 G2 hi ⟨s6, h6⟩ ⟨rfl, hx⟩
    obtain ⟨r, l, rfl, hr', hl, rw6⟩ := row_get (RowsAt.same (s25.trans s6) rows2) hx
    obtain ⟨t, vs, g1, g2, g3⟩ := rw6.ex
    refine ⟨r, _, rfl, SqT.of g1, rfl, _, _, rfl, _, _, rfl, rfl, rfl, _, rfl, by show 2 ≤ sizeLine; decide, fun p hp => ?_⟩
    refine ⟨p, [.str "input", .str "give"], rfl, .inr (SqT.of upd_same), rfl, CF.flat_strs ["input", "give"], ?_⟩
    rw [if_neg (by decide)]
    have e : inV (.str l.w) [.str "input", .str "give"] = decide (l.w ∈ (["input", "give"] : List Str)) := by
      rw [show ([.str "input", .str "give"] : List V) = (["input", "give"] : List Str).map V.str from rfl, CF.inV_strs]
    rw [e]
    have sp := Same.new (o := .tup [.str "input", .str "give"]) hp
    have h6' := sp _ _ h6
    refine ⟨_, h6', ?_, same_put (s6.trans sp) hD3 h6', ?_⟩
    · rw [List.length_map, List.length_map]
      have := List.length_take_le i ls
      have := lk.n40
      have : (ls.take i).length ≤ ls.length := by rw [List.length_take]; omega
      omega
    · have tm : (ls.take (i + 1)).map (fun l => decide (l.w ∈ (["input", "give"] : List Str))) = (ls.take i).map (fun l => decide (l.w ∈ (["input", "give"] : List Str))) ++ [decide (l.w ∈ (["input", "give"] : List Str))] := by
        rw [List.take_add_one, hl, List.map_append]; rfl
      rw [tm, List.map_append]
      exact upd_same
  rintro G6 ⟨s6, h6⟩
  have tk : ls.take (rs.map V.ref).length = ls := List.take_of_length_le (by rw [List.length_map]; omega)
  rw [tk] at h6
  refine ⟨D3, _, rfl, SqL.of h6, ?_⟩
  have reg : (ls.map fun l => decide (l.w ∈ (["input", "give"] : List Str))).any id = hasReg ls := by
    rw [List.any_map]; rfl
  rw [reg]
  have s26 := s25.trans s6
  have hbt6 := s26 _ _ hbt
  have h56 := s6 _ _ h5
  -- parts
  refine ⟨fun σ' H' => ∃ (pt : Addr) (us : List V), σ' = [some (.ref a), some (.str (textOf ls)), some fv, some (.ref rl), some (.ref wa), some (.ref bt), some (.int (ls.length : Nat)), some (.ref D1), some (.ref D2), none, none, some (.bl (hasReg ls)), some (.ref pt), none, none] ∧ Same G6 H' ∧ H' pt = some (.tup us) ∧ us = (if bs.isEmpty then [] else [.ref bt]), ?_, ?_⟩
  · refine ⟨_, rfl, _, .inr (.inl ⟨_, SqT.of hbt6, rfl⟩), ?_⟩
    cases e : bs with
    | cons x r =>
      refine iteT ⟨_, rfl, by show 1 ≤ sizeLine; decide, fun p hp => ⟨p, _, rfl, Same.new hp, upd_same, rfl⟩⟩
    | nil =>
      exact iteF ⟨by show 0 ≤ sizeLine; decide, fun p hp => ⟨p, _, rfl, Same.new hp, upd_same, rfl⟩⟩
  rintro σ' G7 ⟨pt, us, rfl, s7, h7, u1⟩
  have s27 := s26.trans s7
  have s07 := s12.trans s27
  refine ⟨_, rfl, _, rfl, _, rfl, _, _, rfl, .inr ⟨_, s07.tup hT, rfl⟩, bt, bs, _, ps, wds, t0, 0, rfl, by rw [List.length_map]; exact n3, s27 _ _ hbt, blk.mono (KT.of s27), td, tok, fun ot os G8 s8 hot ol pr => ?_⟩
  refine ⟨_, rfl, _, rfl, _, rfl, fun x dx hx hdx ne => ?_⟩
  rw [List.length_map] at ol
  have zz : Same G8 (upd (upd G8 dx (.own x)) x (.ins C dx [])) := made_same hx hdx (But.refl x _)
  refine ⟨x, dx, pt, ot, D2, us, os, [], _, hasReg ls, rfl, upd_same, zz _ _ (s8 _ _ h7), zz _ _ hot, by omega, by omega, pr.same zz, zz _ _ (s8 _ _ (s7 _ _ h56)), Nat.zero_le _, (fun m hm => by cases hm), fun H9 but hb => ⟨rfl, ?_⟩⟩
  have s89 := made_same hx hdx but
  have sF := (s07.trans s8).trans s89
  have sB := (s27.trans s8).trans s89
  refine k x bt bs H9 sF (Same.free (s07.trans s8) hx) (sB _ _ hbt) (blk.mono (KT.of sB)) ?_
  rw [← u1]
  obtain ⟨dx', pt', ot', rc, os', xx, yy, far, md, cv, b1, b2, b4, b5, b6, b7⟩ := hb
  exact ⟨dx', pt', ot', rc, os', xx, yy, far, md, cv, b1, b2, b4, by omega, b6, b7⟩

end
end K19
end
section
set_option Elab.async false
set_option linter.all false
set_option maxRecDepth 100000
set_option maxHeartbeats 4000000
namespace K19
open PySem PySem.Spec PyProof.Rows L2
open PySem.W (ke_shaped_ints)
local macro_rules | `(tactic| walk_at "go") => `(tactic| first | refine ⟨_, rfl, ?_⟩ | refine .inl ⟨_, rfl, ?_⟩ | refine ⟨_, _, rfl, rfl, (by first | (show (0 : Int) < _; decide) | exact Or.inl ⟨by decide, by decide⟩ | exact Or.inr ⟨by decide, by decide⟩), ?_⟩ | refine ⟨_, _, rfl, rfl, ?_⟩)
section
variable {P : Program} {w : World} {K : PySem.W.Frag} {mg : Str → Option Value} {base : Heap}

def pfields (v1 v2 v3 v4 v5 v6 : V) : List (Str × V) := [("pointers", v1), ("text", v2), ("body", v3), ("reach", v4), ("far", v5), ("modulus", v6)]
structure ProgC (K : PySem.W.Frag) (C : Addr) : Prop where
  cl : Cls K C
  n_pointers : NoAttr K C "pointers"
  n_text : NoAttr K C "text"
  n_body : NoAttr K C "body"
  n_reach : NoAttr K C "reach"
  n_far : NoAttr K C "far"
  n_modulus : NoAttr K C "modulus"

theorem BodyAt.but {CB CP : Addr} {H H' : Hp} {o dx b : Addr} {fs : List (Str × V)} {n : Nat} {us : List V} {reg : Bool} (h : BodyAt CB H b n reg us) (B : But o H H') (ho : H o = some (.ins CP dx fs)) (ne : CB ≠ CP) : BodyAt CB H' b n reg us := by
  obtain ⟨dx', pt', ot', rc, os', xx, yy, far, md, cv, b1, b2, b4, b5, b6, b7⟩ := h
  refine ⟨dx', pt', ot', rc, os', xx, yy, far, md, cv, B _ _ (fun z => ?_) b1, but_tup B ho b2, but_tup B ho b4, b5, b6.but B ho, but_tup B ho b7⟩
  rw [z, ho] at b1
  cases b1
  exact ne rfl
theorem val_kp {H H' : Hp} {ps : List Str} {d : PL.Wd} {v : V} (h : PL.Val H ps d v) (s : ∀ a xs, H a = some (.tup xs) → H' a = some (.tup xs)) : PL.Val H' ps d v := by
  cases d with
  | spot z k => obtain ⟨r, i, a, b, c⟩ := h; exact ⟨r, i, a, b, s _ _ c⟩
  | _ => exact h
theorem paired_kp {H H' : Hp} {ps : List Str} (s : ∀ a xs, H a = some (.tup xs) → H' a = some (.tup xs)) : ∀ {ds : List PL.Wd} {vs : List V}, Paired (PL.Val H ps) ds vs → Paired (PL.Val H' ps) ds vs
  | _, _, .nil => .nil
  | _, _, .cons r t => .cons (val_kp r s) (paired_kp s t)
theorem BlkAt.but {LCc CP : Addr} {H H' : Hp} {o dx : Addr} {fs : List (Str × V)} {ps : List Str} {wds : Str → Option Int} (B : But o H H') (ho : H o = some (.ins CP dx fs)) (ne : LCc ≠ CP) : ∀ {t : Tr} {i : Nat} {bs : List Addr}, BlkAt LCc H ps wds t i bs → BlkAt LCc H' ps wds t i bs := by
  have st : ∀ a xs, H a = some (.tup xs) → H' a = some (.tup xs) := fun a xs e => but_tup B ho e
  have si : ∀ a dx fs, H a = some (.ins LCc dx fs) → H' a = some (.ins LCc dx fs) := fun a dx fs e => B _ _ (fun z => by rw [z, ho] at e; cases e; exact ne rfl) e
  intro t
  induction t with
  | nil => exact fun h => h
  | deed l r ih =>
    intro i bs h
    obtain ⟨x, bs', e, ⟨dx, t, tv, src, tgt, inn, oth, h1, h2, h3, h4, h5⟩, hr⟩ := h
    exact ⟨x, bs', e, ⟨dx, t, tv, src, tgt, inn, oth, si _ _ _ h1, st _ _ h2, paired_kp st h3, h4.mono st, h5.mono st⟩, ih hr⟩
  | times n b r ihb ihr =>
    intro i bs h
    obtain ⟨x, bs', dx, t, bt, xs, oth, e, h1, h2, h3, h4, h5⟩ := h
    exact ⟨x, bs', dx, t, bt, xs, oth, e, si _ _ _ h1, st _ _ h2, st _ _ h3, ihb h4, ihr h5⟩
/-- a program over these pointers, which does the block t -/
def ProgAt (K : PySem.W.Frag) (LCc CB CP : Addr) (H : Hp) (p : Addr) (ps : List Str) (wds : Str → Option Int) (t : Tr) : Prop := ∃ (dx pt b bt : Addr) (bs : List Addr) (reg : Bool) (v4 v5 v6 : V), H p = some (.ins CP dx (pfields (.ref pt) (.str (textOf t.lines)) (.ref b) v4 v5 v6)) ∧ SqT K H pt (ps.map V.str) ∧ BodyAt CB H b ps.length reg (if bs.isEmpty then [] else [.ref bt]) ∧
  H bt = some (.tup (bs.map V.ref)) ∧ BlkAt LCc H ps wds t 0 bs
theorem ProgAt.same {K : PySem.W.Frag} {LCc CB CP : Addr} {H H' : Hp} {p : Addr} {ps : List Str} {wds : Str → Option Int} {t : Tr} (h : ProgAt K LCc CB CP H p ps wds t) (s : Same H H') : ProgAt K LCc CB CP H' p ps wds t := by
  obtain ⟨dx, pt, b, bt, bs, reg, v4, v5, v6, a, c, d, e, f⟩ := h
  exact ⟨dx, pt, b, bt, bs, reg, v4, v5, v6, s _ _ a, s.tup c, d.same s, s _ _ e, f.mono (KT.of s)⟩
/-- Program.__init__ of right pointers and right lines -/
def spProgInit (K : PySem.W.Frag) (LCc CB CP : Addr) : Sp := fun vs H Q _ => ∃ (o dx pa : Addr) (ps : List Str) (t : Tr) (wds : Str → Option Int), vs = [.ref o, .ref pa, .str (textOf t.lines)] ∧ H o = some (.ins CP dx []) ∧ (SqL K H pa (ps.map V.str) ∨ SqT K H pa (ps.map V.str)) ∧ CF.Names ps ∧ LinesOk ps t.lines wds ∧ t.Ok wds ∧ t.depth < 2 ∧
  ∀ H', But o H H' → ProgAt K LCc CB CP H' o ps wds t → Q .non H'
abbrev s_Program___init__ : Stmt := inClass (topS 108) 0
theorem sc_Program___init__ : FnScope ["self", "pointers", "text"] ["self", "pointers", "text"] (defScope s_Program___init__) := ⟨rfl, rfl, rfl, by decide +kernel, rfl, by decide +kernel, by decide +kernel⟩
theorem ok_prog_init {LCc CB CP f : Addr} {fd : FuncData} (ne : CB ≠ CP) (neL : LCc ≠ CP) (BC : BodyC K CB) (PC : ProgC K CP) (F : FunD K "__init__" "Program.__init__" (defArgs s_Program___init__) (defBody s_Program___init__) (defScope s_Program___init__) [] [] f fd)
    (C_read_pointers : Cal P w K mg base 2 "read_pointers" ["pointers"] (spReadPointers K)) (C_read_body : Cal P w K mg base 9 "read_body" ["pointers", "text", "functions"] (spReadBody K LCc CB)) :
    FnOk P w K mg base CX0 10 f fd ["self", "pointers", "text"] (spProgInit K LCc CB CP) := by
  refine F.ok sc_Program___init__ (fun vs H Q E h => by obtain ⟨o, dx, pa, ps, t, wds, rfl, _⟩ := h; rfl) (fun cdv A outer s H vs Q E hr h => ?_)
  suffices z : ∃ t, PSs (cxOf CX0 P w K mg base ["self", "pointers", "text"] "Program.__init__" (defScope s_Program___init__) f cdv A outer s H E).nox (defBody s_Program___init__) t ∧ t { nx := fun _ H' => Q .non H', rt := Q } (start ["self", "pointers", "text"] vs) H by
    obtain ⟨t, h1, h2⟩ := z
    exact ⟨t, h1.nox, h2⟩
  obtain ⟨o, dx, pa, ps, t, wds, rfl, ho, hs, nm, lk, tok, td, k⟩ := h
  refine ⟨_, (pss_cons (ps_fld (pv 0) (pe_cal C_read_pointers (hr.mono (by decide)) rfl (pa_cons (pv 1) pa_nil)) rfl)
      (pss_cons (ps_fld (pv 0) (pv 2) rfl)
      (pss_cons (ps_fld (pv 0) (pe_cal C_read_body (hr.mono (by decide)) rfl (pa_cons (pe_fld (pv 0) rfl) (pa_cons (pv 2) (pa_cons pe_dnewK pa_nil)))) rfl)
      (pss_cons (ps_fld (pv 0) (pe_fld (pe_fld (pv 0) rfl) rfl) rfl)
      (pss_cons (ps_fld (pv 0) (pe_fld (pe_fld (pv 0) rfl) rfl) rfl)
      (pss_one (ps_fld (pv 0) (pe_fld (pe_fld (pv 0) rfl) rfl) rfl))))))), ?_⟩
  have lt : ∀ (l : List (Str × V)), l.length ≤ 7 → l.length < 1000 := fun l h => by omega
  refine ⟨_, rfl, pa, ps, rfl, hs, nm, fun pt H1 s1 hpt => ?_⟩
  refine ⟨_, rfl, o, CP, dx, _, rfl, s1 _ _ ho, PC.cl, PC.n_pointers, lt _ (Nat.le_of_ble_eq_true rfl), ?_⟩
  refine ⟨_, rfl, _, rfl, o, CP, dx, _, rfl, upd_same, PC.cl, PC.n_text, lt _ (Nat.le_of_ble_eq_true rfl), ?_⟩
  have U1 : But o H1 (upd (upd H1 o (.ins CP dx (putF "pointers" (.ref pt) []))) o (.ins CP dx (putF "text" (.str (textOf t.lines)) (putF "pointers" (.ref pt) [])))) := (But.upd _).trans (But.upd _)
  have g1 : upd (upd H1 o (.ins CP dx (putF "pointers" (.ref pt) []))) o (.ins CP dx (putF "text" (.str (textOf t.lines)) (putF "pointers" (.ref pt) []))) o = some (.ins CP dx [("pointers", .ref pt), ("text", .str (textOf t.lines))]) := upd_same
  generalize upd (upd H1 o (.ins CP dx (putF "pointers" (.ref pt) []))) o (.ins CP dx (putF "text" (.str (textOf t.lines)) (putF "pointers" (.ref pt) []))) = H2 at U1 g1 ⊢
  have pt2 : SqT K H2 pt (ps.map V.str) := U1.tupI (s1 _ _ ho) hpt
  have B2 : But o H H2 := (But.of s1).trans U1
  refine ⟨_, rfl, o, CP, dx, _, _, rfl, g1, PC.cl, PC.n_pointers, rfl, _, rfl, fun fd hfd => ?_⟩
  have s3 := Same.new (o := .dK []) hfd
  have pt3 := s3.tup pt2
  have g3 := s3 _ _ g1
  generalize upd H2 fd (.dK []) = H3 at s3 pt3 g3 ⊢
  refine ⟨pt, ps, t, wds, _, rfl, pt3, nm, lk, tok, td, fun b bt bs H4 s4 fb hbt blk hb => ?_⟩
  refine ⟨_, rfl, o, CP, dx, _, rfl, s4 _ _ g3, PC.cl, PC.n_body, lt _ (Nat.le_of_ble_eq_true rfl), ?_⟩
  have g4 := s4 _ _ g3
  have U5 : But o H4 (upd H4 o (.ins CP dx (putF "body" (.ref b) [("pointers", .ref pt), ("text", .str (textOf t.lines))]))) := But.upd _
  have g5 : upd H4 o (.ins CP dx (putF "body" (.ref b) [("pointers", .ref pt), ("text", .str (textOf t.lines))])) o = some (.ins CP dx [("pointers", .ref pt), ("text", .str (textOf t.lines)), ("body", .ref b)]) := upd_same
  have B5 : But o H (upd H4 o (.ins CP dx (putF "body" (.ref b) [("pointers", .ref pt), ("text", .str (textOf t.lines))]))) := (B2.trans (But.of (s3.trans s4))).trans U5
  have pt5 := U5.tupI g4 (s4.tup pt3)
  have hb5 := hb.but U5 g4 ne
  have hbt5 := but_tup U5 g4 hbt
  have blk5 := blk.but U5 g4 neL
  generalize upd H4 o (.ins CP dx (putF "body" (.ref b) [("pointers", .ref pt), ("text", .str (textOf t.lines))])) = H5 at U5 g5 B5 pt5 hb5 hbt5 blk5 ⊢
  obtain ⟨dxb, ptb, otb, rcb, osb, xb, yb, farb, mdb, cvb, b1, b2, b4, b5, b6, b7⟩ := id hb5
  have nb : b ≠ o := fun z => by rw [z, g5] at b1; cases b1
  refine ⟨_, rfl, o, CP, dx, _, _, rfl, g5, PC.cl, PC.n_body, rfl, b, CB, dxb, _, _, rfl, b1, BC.cl, BC.n_reach, rfl, ?_⟩
  refine ⟨_, rfl, o, CP, dx, _, rfl, g5, PC.cl, PC.n_reach, lt _ (Nat.le_of_ble_eq_true rfl), ?_⟩
  refine ⟨_, rfl, o, CP, dx, _, _, rfl, upd_same, PC.cl, PC.n_body, rfl, b, CB, dxb, _, _, rfl, (upd_ne nb).trans b1, BC.cl, BC.n_far, rfl, ?_⟩
  refine ⟨_, rfl, o, CP, dx, _, rfl, upd_same, PC.cl, PC.n_far, lt _ (Nat.le_of_ble_eq_true rfl), ?_⟩
  refine ⟨_, rfl, o, CP, dx, _, _, rfl, upd_same, PC.cl, PC.n_body, rfl, b, CB, dxb, _, _, rfl, (upd_ne nb).trans ((upd_ne nb).trans b1), BC.cl, BC.n_modulus, rfl, ?_⟩
  refine ⟨_, rfl, o, CP, dx, _, rfl, upd_same, PC.cl, PC.n_modulus, lt _ (Nat.le_of_ble_eq_true rfl), ?_⟩
  have U6 : ∀ x1 x2 x3, But o H5 (upd (upd (upd H5 o x1) o x2) o x3) := fun x1 x2 x3 => ((But.upd _).trans (But.upd _)).trans (But.upd _)
  refine k _ (B5.trans (U6 _ _ _)) ⟨dx, pt, b, bt, bs, _, _, _, _, upd_same, (U6 _ _ _).tupI g5 pt5, hb5.but (U6 _ _ _) g5 ne, but_tup (U6 _ _ _) g5 hbt5, blk5.but (U6 _ _ _) g5 neL⟩
end
end K19
end
section
set_option Elab.async false
set_option linter.all false
set_option maxRecDepth 100000
set_option maxHeartbeats 4000000
namespace LongR
open PySem PySem.Spec PyProof.Rows
open Sem (wp)
/-! list(range(a, b)) of bounds of any size -/
section
variable {prog : Program} {w : World} {A : Around} {E : Value → Shared → Prop} {s : Shared}
theorem ext_long {R : Result → Shared → Prop} {r : Addr} {a b c : Int} {t u v : Tok} {n : Nat} (calm : A.handled = none) (hr : IsRange s.heap r a b c t u v)
    (big : Builtin.Range.small a b c = false) (hn : Builtin.Range.rangeSize a b c = n) (hlen : n ≤ 2 ^ 24) (L : Addr) (res : Value) (cap : Nat) (hL : s.heap.get? L = some { cls := .type "list", data := .seq #[] cap })
    (hR : ∀ h' tk its cap', (∀ b o, b ≠ L → s.heap.get? b = some o → h'.get? b = some o) → h'.get? L = some { cls := .type "list", dict := none, data := .seq its cap', slots := #[] } →
      ItemsOf (fun i v => ∃ t, v = .int (a + i * c) t) its n → R (.ok (.ret res)) { s with heap := h', toks := tk }) :
    wpAny (model prog w) A.in1 (Builtin.List.listExtendWith (.ref L) (.ref r) res)
      (fun fin z => match fin with | .done f => R (.ok f) z | .again d => d.quiet = true ∧ codeAny (model prog w) A d R z) (fun e z => R (.error e) z) s := by
  have nLr : L ≠ r := fun e => by rw [e, hr] at hL; simp at hL
  have ltL : L < s.heap.objs.size := Heap.lt_size hL
  have nLI : L ≠ s.heap.objs.size := Nat.ne_of_lt ltL
  have outL : L ∉ [s.heap.objs.size] := fun m => nLI (List.mem_singleton.mp m)
  have Wk := (Walks.longrange (prog := prog) (w := w) (A := A.in1) calm s.heap.objs.size a c n).toS
  have go : ∀ (h : Heap) (k1 tk : Nat), IsLongIter h s.heap.objs.size (a + ((0 : Nat) : Int) * c) ((n : Int) - ((0 : Nat) : Int)) c → (∀ b o, b ≠ L → s.heap.get? b = some o → h.get? b = some o) →
      h.get? L = some { cls := .type "list", data := .seq #[] k1 } → codeAny (model prog w) A (.builtin "list.extend.loop" ⟨[.ref L, .ref s.heap.objs.size, res], []⟩) R { s with heap := h, toks := tk } := by
    intro h k1 tk hit kp h1
    refine codeAny_extend_loopS Wk (by rw [sizeLine_eq]; omega) L outL res n 0 _ #[] k1 rfl (Nat.zero_le _) hit h1 (ItemsOf.nil _) fun z its k2 mv hz items => ?_
    rw [Moved.eq_with mv]
    refine hR z.heap z.toks its k2 (fun b o nb e => mv.heap b o (fun m => ?_) (kp b o nb e)) hz items
    rcases List.mem_cons.mp m with e' | m
    · exact nb e'
    · exact absurd (Heap.lt_size e) (by rw [List.mem_singleton.mp m]; exact Nat.lt_irrefl _)
  unfold Builtin.List.listExtendWith
  refine wpAny_bind (wpAny_typeOf (T := "range") ⟨_, hr, rfl⟩ ?_)
  have n1 : Builtin.List.listSameRef (.ref L) (.ref r) = false := by simp [Builtin.List.listSameRef, nLr]
  have n2 : (Value.type "range" == Value.type "list") = false := by decide
  have n3 : (Value.type "range" == Value.type "tuple") = false := by decide
  simp only [n1, n2, n3, Bool.or_false, Bool.false_eq_true, if_false]
  refine wpAny_bind (wpAny_pyIter_longrange hr big ?_)
  refine wpAny_bind (wpAny_holding (wpAny_hint_range (n := n) (Heap.get?_push_of_some _ hr) hn hlen ?_))
  have it1 : IsLongIter (s.heap.push { cls := .type "longrange_iterator", data := .fields #[rawInt a, rawInt (Builtin.Range.rangeSize a b c), rawInt c] }) s.heap.objs.size (a + ((0 : Nat) : Int) * c) ((n : Int) - ((0 : Nat) : Int)) c := by
    show IsLongIter _ _ _ _ _
    rw [hn]
    simpa using Heap.get?_push_size _ rfl
  have L1 := Heap.get?_push_of_some { cls := .type "longrange_iterator", data := .fields #[rawInt a, rawInt (Builtin.Range.rangeSize a b c), rawInt c] } hL
  refine wpAny_ite_split (fun _ => ?_) (fun _ => wpAny_pure ⟨plainId_quiet F.plain_extend_loop _, go _ cap _ it1 (fun b o _ e => Heap.get?_push_of_some _ e) L1⟩)
  refine wpAny_bind (wpAny_rule ?_)
  refine wpAny_bind ?_
  show wpAny _ _ (updateSeq L (·.push .none) >>= fun _ => updateSeq L (·.pop)) _ _ _
  refine wpAny_bind (wpAny_updateSeq L1 rfl ?_)
  have L2' := Heap.get?_update_self (Obj.mapSeq (·.push Value.none)) L1 rfl
  refine wpAny_updateSeq (hz := by seq_fits) L2' rfl ?_
  have L3 := Heap.get?_update_self (Obj.mapSeq (·.pop)) L2' rfl
  refine wpAny_pure ⟨plainId_quiet F.plain_extend_loop _, go _ _ _ ?_ (fun b o nb e => ?_) L3⟩
  · exact (Heap.get?_update_other _ _ nLI).trans ((Heap.get?_update_other _ _ nLI).trans it1)
  · exact (Heap.get?_update_other _ _ (Ne.symm nb)).trans ((Heap.get?_update_other _ _ (Ne.symm nb)).trans (Heap.get?_push_of_some _ e))
theorem init_long {R : Result → Shared → Prop} {r : Addr} {a b c : Int} {t u v : Tok} {n : Nat} (calm : A.handled = none) (hr : IsRange s.heap r a b c t u v) (big : Builtin.Range.small a b c = false)
    (hn : Builtin.Range.rangeSize a b c = n) (hlen : n ≤ 2 ^ 24) (L : Addr) (hL : s.heap.get? L = some { cls := .type "list", data := .seq #[] })
    (hR : ∀ h' tk its cap', (∀ b o, b ≠ L → s.heap.get? b = some o → h'.get? b = some o) → h'.get? L = some { cls := .type "list", dict := none, data := .seq its cap', slots := #[] } →
      ItemsOf (fun i v => ∃ t, v = .int (a + i * c) t) its n → R (.ok (.ret .none)) { s with heap := h', toks := tk }) :
    wpAny (model prog w) A.in1 (Builtin.«list.__init__» ⟨[.ref L, .ref r], []⟩)
      (fun fin z => match fin with | .done f => R (.ok f) z | .again d => d.quiet = true ∧ codeAny (model prog w) A d R z) (fun e z => R (.error e) z) s := by
  have nLr : L ≠ r := fun e => by rw [e, hr] at hL; simp at hL
  show wpAny _ _ (do let old ← Builtin.List.listItems (.ref L); Builtin.List.listUpdate (.ref L) (fun _ => #[]); letGo old.toList.reverse; Builtin.List.listExtendWith (.ref L) (.ref r) .none) _ _ s
  refine wpAny_bind ?_
  unfold Builtin.List.listItems
  refine wpAny_bind (wpAny_seqItems hL rfl (wpAny_pure ?_))
  show wpAny _ _ (updateSeq L (fun _ => #[]) >>= fun _ => letGo (#[] : Array Value).toList.reverse >>= fun _ => Builtin.List.listExtendWith (.ref L) (.ref r) .none) _ _ s
  refine wpAny_bind (wpAny_updateSeq hL rfl ?_)
  have L2' := Heap.get?_update_self (Obj.mapSeq (fun _ => (#[] : Array Value))) hL rfl
  have oth : ∀ b o, b ≠ L → s.heap.get? b = some o → (s.heap.update L (Obj.mapSeq (fun _ => (#[] : Array Value)))).get? b = some o :=
    fun b o nb e => (Heap.get?_update_other _ _ (Ne.symm nb)).trans e
  refine wpAny_bind (wpAny_letGo ?_)
  refine ext_long calm (oth r _ (Ne.symm nLr) hr) big hn hlen L .none _ L2' fun h' tk its k2 kp hz items => ?_
  exact hR h' tk its k2 (fun b o nb e => kp b o nb (oth b o nb e)) hz items
theorem list_long {Q : Value → Shared → Prop} {r : Addr} {a b c : Int} {t u v : Tok} {n : Nat} (calm : A.handled = none) (hr : IsRange s.heap r a b c t u v) (big : Builtin.Range.small a b c = false)
    (hn : Builtin.Range.rangeSize a b c = n) (hlen : n ≤ 2 ^ 24)
    (hQ : ∀ h' tk its k2, (∀ b o, s.heap.get? b = some o → h'.get? b = some o) →
      h'.get? s.heap.objs.size = some { cls := .type "list", dict := none, data := .seq its k2, slots := #[] } → ItemsOf (fun i v => ∃ t, v = .int (a + i * c) t) its n → Q (.ref s.heap.objs.size) { s with heap := h', toks := tk }) :
    wpAny (model prog w) A (call (.type "list") [.ref r]) Q E s := by
  refine callType_codes (Q₁ := fun obj z => obj = .ref s.heap.objs.size ∧ z = { s with heap := s.heap.push { cls := .type "list", data := .seq #[] } }) F.called_list (F.typeCall_list_1 _) F.entry_list_init
    (code_list_new _ ⟨rfl, rfl⟩) fun obj z hz => ?_
  obtain ⟨rfl, rfl⟩ := hz
  have nw : (s.heap.push { cls := .type "list", data := .seq #[] }).get? s.heap.objs.size = some { cls := .type "list", data := .seq #[] } := Heap.get?_push_size _ rfl
  refine ⟨⟨_, nw, rfl⟩, F.args_list_init_2 _ _, init_long (A := A.in1) calm (Heap.get?_push_of_some _ hr) big hn hlen _ nw fun h' tk its k2 kp h2 items => ?_⟩
  exact ⟨rfl, hQ h' tk its k2 (fun b o e => kp b o (Nat.ne_of_lt (Heap.lt_size e)) (Heap.get?_push_of_some _ e)) h2 items⟩
end
end LongR
namespace L2
open PySem PySem.Spec PyProof.Rows
variable {X : Cx} {e : Expr} {te : St → Hp → (Int → Int → Hp → Prop) → Prop}
def tLstRB (te : St → Hp → (Int → Int → Hp → Prop) → Prop) : TE := fun σ H Q => te σ H fun a b H1 => (b - a).toNat ≤ 2 ^ 24 ∧ ∀ q, H1 q = none → Q (.ref q) (upd H1 q (.lst (rgV a b)))
theorem pe_listRB {p pos : Pos} (hc : X.calm = true) (hg : Gl X "list") (hm : X.mg "list" = none) (he : PRg X e te) (na : starEach [e] X.env = (false, eval e X.env) :: starEach [] X.env := by rfl) : PE X (.Call (.Name "list" p) [e] [] pos) (tLstRB te) := by
  refine ⟨fun pins s σ H Q I h => ?_⟩
  refine Call_ (ld_blt I hg hm boot_list (PyProof.Rows.callWith_type1 (args_cons (thn (he pins s σ H _ I h) fun x s1 ⟨r, a, b, t, u, v, H1, ex, hr, I1, ok, q⟩ => args_nil ?_) na) na))
  subst ex
  have done : ∀ (h' : Heap) (tk : Nat) (its : Array Value) (k2 : Nat), (∀ b o, s1.heap.get? b = some o → h'.get? b = some o) → h'.get? s1.heap.objs.size = some { cls := .type "list", dict := none, data := .seq its k2, slots := #[] } →
      ItemsOf (fun i v => ∃ t, v = .int (a + i * 1) t) its (b - a).toNat → EP X pins σ Q (.ref s1.heap.objs.size) { s1 with heap := h', toks := tk } := fun h' tk its k2 hk e' hi => by
    refine ⟨.ref s1.heap.objs.size, upd H1 s1.heap.objs.size (.lst (rgV a b)), I1.laid hk (Nat.le_refl _) (show ObjOk X.prog X.w _ _ _ (.lst (rgV a b)) from ⟨?_, its.toList, k2, vals_rg hi, ?_⟩), rfl, q _ (I1.hok.fresh (Nat.le_refl _))⟩
    · rw [rgV_length, sizeLine_eq]; omega
    · rw [Array.toArray_toList]; exact e'
  cases sm : Builtin.Range.small a b 1 with
  | true => exact call_list_range (n := (b - a).toNat) (I1.ok.hd hc) hr sm (rangeSize_nat a b) ok done
  | false => exact LongR.list_long (n := (b - a).toNat) (I1.ok.hd hc) hr sm (rangeSize_nat a b) ok done
end L2
end
section
set_option Elab.async false
set_option linter.all false
set_option maxRecDepth 100000
set_option maxHeartbeats 4000000
namespace K19
open PySem PySem.Spec PyProof.Rows L2
open PySem.W (ke_shaped_ints)
local macro_rules | `(tactic| walk_at "go") => `(tactic| first | refine ⟨_, rfl, ?_⟩ | refine .inl ⟨_, rfl, ?_⟩ | refine ⟨_, _, rfl, rfl, (by first | (show (0 : Int) < _; decide) | exact Or.inl ⟨by decide, by decide⟩ | exact Or.inr ⟨by decide, by decide⟩), ?_⟩ | refine ⟨_, _, rfl, rfl, ?_⟩)
section
variable {P : Program} {w : World} {K : PySem.W.Frag} {mg : Str → Option Value} {base : Heap}

/-- what a cell holds: what cell n held at the beginning, or a text -/
inductive Cont
  | at_ (n : Int)
  | tx (s : Str)
  deriving DecidableEq
def Cont.v : Cont → V
  | .at_ n => .int n
  | .tx s => .str s
abbrev Cells := List (Int × Cont)
def lookC (cs : Cells) (n : Int) : Option Cont := (cs.find? fun p => decide (p.1 = n)).map (·.2)
def getC (cs : Cells) (n : Int) : Cont := (lookC cs n).getD (.at_ n)
def putC (cs : Cells) (n : Int) (c : Cont) : Cells := if (cs.any fun p => decide (p.1 = n)) = true then cs.map (fun p => if p.1 = n then (p.1, c) else p) else cs ++ [(n, c)]
def kv (cs : Cells) : List (Key × V) := cs.map fun p => (Sum.inl p.1, p.2.v)
theorem kv_any (cs : Cells) (n : Int) : ((kv cs).any fun q => decide (q.1 = (Sum.inl n : Key))) = cs.any fun p => decide (p.1 = n) := by
  unfold kv
  rw [List.any_map]
  congr 1
  funext p
  show decide ((Sum.inl p.1 : Key) = Sum.inl n) = decide (p.1 = n)
  by_cases e : p.1 = n
  · rw [decide_eq_true e, decide_eq_true (by rw [e])]
  · rw [decide_eq_false e, decide_eq_false (fun z => e (Sum.inl.inj z))]
theorem kv_put (cs : Cells) (n : Int) (c : Cont) : putK (kv cs) (Sum.inl n) c.v = kv (putC cs n c) := by
  unfold putK putC
  rw [kv_any]
  split
  · unfold kv
    rw [List.map_map, List.map_map]
    congr 1
    funext p
    show (if (Sum.inl p.1 : Key) = Sum.inl n then _ else _) = _
    by_cases e : p.1 = n
    · rw [if_pos (by rw [e])]
      show _ = ((Sum.inl (if p.1 = n then (p.1, c) else p).1 : Key), (if p.1 = n then (p.1, c) else p).2.v)
      rw [if_pos e]
    · rw [if_neg (fun z => e (Sum.inl.inj z))]
      show _ = ((Sum.inl (if p.1 = n then (p.1, c) else p).1 : Key), (if p.1 = n then (p.1, c) else p).2.v)
      rw [if_neg e]
  · unfold kv
    rw [List.map_append]
    rfl
theorem kv_val (cs : Cells) (n : Int) : valV (kv cs) (Sum.inl n) = (lookC cs n).map Cont.v := by
  induction cs with
  | nil => rfl
  | cons p r ih =>
    show valV ((Sum.inl p.1, p.2.v) :: kv r) _ = _
    by_cases e : p.1 = n
    · rw [valV_pos (by rw [e]), lookC, List.find?_cons_of_pos (by rw [e]; exact decide_eq_true rfl)]
      rfl
    · rw [valV_neg (fun z => e (Sum.inl.inj z)), ih, lookC, lookC, List.find?_cons_of_neg (by rw [decide_eq_true_iff]; exact e)]
theorem put_len (cs : Cells) (n : Int) (c : Cont) : (putC cs n c).length ≤ cs.length + 1 := by
  unfold putC
  split
  · rw [List.length_map]; omega
  · rw [List.length_append, List.length_singleton]; omega
theorem kv_len (cs : Cells) : (kv cs).length = cs.length := List.length_map ..
theorem look_put (cs : Cells) (n j : Int) (c : Cont) : lookC (putC cs n c) j = if j = n then some c else lookC cs j := by
  have h := valV_put (kv cs) (Sum.inl n : Key) (Sum.inl j) c.v
  rw [kv_put, kv_val] at h
  by_cases e : j = n
  · rw [if_pos e]
    rw [if_pos (by rw [e])] at h
    cases q : lookC (putC cs n c) j with
    | none => rw [q] at h; cases h
    | some d =>
      rw [q] at h
      have h' : d.v = c.v := Option.some.inj h
      cases d <;> cases c <;> first | (injection h' with h'; rw [h']) | cases h'
  · rw [if_neg e]
    rw [if_neg (fun z => e (Sum.inl.inj z)), kv_val] at h
    cases q : lookC (putC cs n c) j with
    | none =>
      rw [q] at h
      cases q2 : lookC cs j with
      | none => rfl
      | some d => rw [q2] at h; cases h
    | some d =>
      rw [q] at h
      cases q2 : lookC cs j with
      | none => rw [q2] at h; cases h
      | some d2 =>
        rw [q2] at h
        have h' : d.v = d2.v := Option.some.inj h
        cases d <;> cases d2 <;> first | (injection h' with h'; rw [h']) | cases h'
theorem get_put (cs : Cells) (n j : Int) (c : Cont) : getC (putC cs n c) j = if j = n then c else getC cs j := by
  unfold getC
  rw [look_put]
  split <;> rfl
/-- a run on its way -/
structure RSt where
  og : List Int
  pl : List Int
  cells : Cells
  held : Str → Option (List Cont)
  hn : Nat
  wt : Bool
  log : List (List Int × List Int)
def rfields (v1 v2 v3 v4 v5 v6 v7 : V) : List (Str × V) := [("origin", v1), ("places", v2), ("cells", v3), ("held", v4), ("given", v5), ("watched", v6), ("log", v7)]
structure RunC (K : PySem.W.Frag) (C : Addr) : Prop where
  cl : Cls K C
  n_origin : NoAttr K C "origin"
  n_places : NoAttr K C "places"
  n_cells : NoAttr K C "cells"
  n_held : NoAttr K C "held"
  n_given : NoAttr K C "given"
  n_watched : NoAttr K C "watched"
  n_log : NoAttr K C "log"

def HeldAt (H : Hp) (lg ha : Addr) (held : Str → Option (List Cont)) (hn : Nat) : Prop := ∃ kvs, H ha = some (.dK kvs) ∧ kvs.length ≤ hn ∧ ∀ x : Str, match held x with
  | none => valV kvs (Sum.inr x) = none
  | some cs => ∃ a, valV kvs (Sum.inr x) = some (.ref a) ∧ H a = some (.lst (cs.map Cont.v)) ∧ a ≠ lg
/-- one written cell, as it is noted -/
def PrAt (H : Hp) (n : Int) (w : Addr) : Prop := ∃ v, H w = some (.tup [.int n, v])
def EntAt (H : Hp) (lg : Addr) (e : List Int × List Int) (a : Addr) : Prop := ∃ (v1 v2 : V) (rd wr : Addr) (ws : List Addr), H a = some (.tup [v1, v2, .ref rd, .ref wr]) ∧ H rd = some (.lst (e.1.map V.int)) ∧ rd ≠ lg ∧ H wr = some (.lst (ws.map V.ref)) ∧ wr ≠ lg ∧ Paired (PrAt H) e.2 ws
structure RAd where
  dx : Addr
  og : Addr
  pa : Addr
  ca : Addr
  ha : Addr
  ga : Addr
  lg : Addr
/-- the run object r, over the heap H0 of what the run leaves as it is -/
structure RunOk (C : Addr) (H0 H : Hp) (r : Addr) (d : RAd) (st : RSt) : Prop where
  obj : H r = some (.ins C d.dx (rfields (.ref d.og) (.ref d.pa) (.ref d.ca) (.ref d.ha) (.ref d.ga) (.bl st.wt) (.ref d.lg)))
  og : H d.og = some (.tup (st.og.map V.int))
  pl : H d.pa = some (.lst (st.pl.map V.int))
  cells : H d.ca = some (.dK (kv st.cells))
  held : HeldAt H d.lg d.ha st.held st.hn
  given : H d.ga = some (.tup [])
  log : ∃ es : List Addr, H d.lg = some (.lst (es.map V.ref)) ∧ Paired (EntAt H d.lg) st.log es
  same : Same H0 H
  fr : H0 r = none
  fpa : H0 d.pa = none
  fca : H0 d.ca = none
  fha : H0 d.ha = none
  flg : H0 d.lg = none
  npl : d.pa ≠ d.lg
  nch : d.ca ≠ d.ha
theorem paired_mono {α β : Type} {R S : α → β → Prop} (f : ∀ a b, R a b → S a b) : ∀ {xs : List α} {ys : List β}, Paired R xs ys → Paired S xs ys
  | _, _, .nil => .nil
  | _, _, .cons r t => .cons (f _ _ r) (paired_mono f t)
theorem HeldAt.but {H H' : Hp} {lg ha p : Addr} {held : Str → Option (List Cont)} {hn : Nat} (h : HeldAt H lg ha held hn) (b : But p H H') (n1 : ha ≠ p) (n2 : ∀ xs, H p = some (.lst xs) → p = lg) : HeldAt H' lg ha held hn := by
  obtain ⟨kvs, a, l, f⟩ := h
  refine ⟨kvs, b _ _ n1 a, l, fun x => ?_⟩
  have z := f x
  cases q : held x with
  | none => rw [q] at z; exact z
  | some cs =>
    rw [q] at z
    obtain ⟨a, e1, e2, e3⟩ := z
    exact ⟨a, e1, b _ _ (fun z => e3 (by rw [z] at e2 ⊢; exact n2 _ e2)) e2, e3⟩
theorem EntAt.but {H H' : Hp} {lg p : Addr} {e : List Int × List Int} {a : Addr} (h : EntAt H lg e a) (b : But p H H') (n1 : ∀ xs, H p ≠ some (.tup xs)) (n2 : ∀ xs, H p = some (.lst xs) → p = lg) : EntAt H' lg e a := by
  obtain ⟨v1, v2, rd, wr, ws, h1, h2, h3, h4, h5, h6⟩ := h
  refine ⟨v1, v2, rd, wr, ws, b _ _ (fun z => n1 _ (z ▸ h1)) h1, b _ _ (fun z => h3 (by rw [z] at h2 ⊢; exact n2 _ h2)) h2, h3, b _ _ (fun z => h5 (by rw [z] at h4 ⊢; exact n2 _ h4)) h4, h5, paired_mono (fun n w q => ?_) h6⟩
  obtain ⟨v, q⟩ := q
  exact ⟨v, b _ _ (fun z => n1 _ (z ▸ q)) q⟩
theorem HeldAt.same {H H' : Hp} {lg ha : Addr} {held : Str → Option (List Cont)} {hn : Nat} (h : HeldAt H lg ha held hn) (b : Same H H') : HeldAt H' lg ha held hn := by
  obtain ⟨kvs, a, l, f⟩ := h
  refine ⟨kvs, b _ _ a, l, fun x => ?_⟩
  have z := f x
  cases q : held x with
  | none => rw [q] at z; exact z
  | some cs =>
    rw [q] at z
    obtain ⟨a, e1, e2, e3⟩ := z
    exact ⟨a, e1, b _ _ e2, e3⟩
theorem EntAt.same {H H' : Hp} {lg : Addr} {e : List Int × List Int} {a : Addr} (h : EntAt H lg e a) (b : Same H H') : EntAt H' lg e a := by
  obtain ⟨v1, v2, rd, wr, ws, h1, h2, h3, h4, h5, h6⟩ := h
  exact ⟨v1, v2, rd, wr, ws, b _ _ h1, b _ _ h2, h3, b _ _ h4, h5, paired_mono (fun n w ⟨v, q⟩ => ⟨v, b _ _ q⟩) h6⟩
theorem free_but {H H' : Hp} {p a : Addr} {o : HO} (b : But p H H') (hp : H' p = some o) (h : H' a = none) : H a = none := by
  cases q : H a with
  | none => rfl
  | some v =>
    have n : a ≠ p := fun z => by rw [z, hp] at h; cases h
    rw [b _ _ n q] at h
    cases h
namespace RunOk
variable {C : Addr} {H0 H H' : Hp} {r : Addr} {d : RAd} {st : RSt}
theorem sm (h : RunOk C H0 H r d st) (s : Same H H') : RunOk C H0 H' r d st := by
  obtain ⟨es, l1, l2⟩ := h.log
  exact ⟨s _ _ h.obj, s _ _ h.og, s _ _ h.pl, s _ _ h.cells, h.held.same s, s _ _ h.given, ⟨es, s _ _ l1, paired_mono (fun e a q => q.same s) l2⟩, h.same.trans s, h.fr, h.fpa, h.fca, h.fha, h.flg, h.npl, h.nch⟩
/-- cells are written -/
theorem wr (h : RunOk C H0 H r d st) (b : But d.ca H H') {cs : Cells} (e : H' d.ca = some (.dK (kv cs))) : RunOk C H0 H' r d { st with cells := cs } := by
  obtain ⟨es, l1, l2⟩ := h.log
  have n : ∀ {a : Addr} {o : HO}, H a = some o → (∀ k, o ≠ .dK k) → a ≠ d.ca := fun {a o} q z w => by rw [w, h.cells] at q; exact z _ (Option.some.inj q).symm
  have nt : ∀ xs, H d.ca ≠ some (.tup xs) := fun xs z => by rw [h.cells] at z; cases z
  have nl : ∀ xs, H d.ca = some (.lst xs) → d.ca = d.lg := fun xs z => by rw [h.cells] at z; cases z
  exact ⟨b _ _ (n h.obj fun _ z => nomatch z) h.obj, b _ _ (n h.og fun _ z => nomatch z) h.og, b _ _ (n h.pl fun _ z => nomatch z) h.pl, e, h.held.but b (Ne.symm h.nch) nl, b _ _ (n h.given fun _ z => nomatch z) h.given,
    ⟨es, b _ _ (n l1 fun _ z => nomatch z) l1, paired_mono (fun e a q => q.but b nt nl) l2⟩, fun a o q => b _ _ (fun z => by rw [z, h.fca] at q; cases q) (h.same _ _ q), h.fr, h.fpa, h.fca, h.fha, h.flg, h.npl, h.nch⟩
end RunOk


/-- Run.__init__ -/
def spRunInit (K : PySem.W.Frag) (C : Addr) : Sp := fun vs H Q _ => ∃ (r dx pq ca : Addr) (pls : List Int) (wt : Bool), vs = [.ref r, .ref pq, .ref ca, .bl wt] ∧ H r = some (.ins C dx []) ∧ H pq = some (.lst (pls.map V.int)) ∧ H ca = some (.dK []) ∧
  ∀ (d : RAd) (H' : Hp), But r H H' → d.ca = ca → H d.og = none → H d.pa = none → H d.ha = none → H d.ga = none → H d.lg = none → d.pa ≠ d.lg → d.ca ≠ d.ha → H' r = some (.ins C dx (rfields (.ref d.og) (.ref d.pa) (.ref d.ca) (.ref d.ha) (.ref d.ga) (.bl wt) (.ref d.lg))) → d.dx = dx →
    H' d.og = some (.tup (pls.map V.int)) → H' d.pa = some (.lst (pls.map V.int)) → H' d.ha = some (.dK []) → H' d.ga = some (.tup []) → H' d.lg = some (.lst []) → Q .non H'
abbrev s_Run___init__ : Stmt := inClass (topS 84) 0
theorem sc_Run___init__ : FnScope ["self", "places", "cells", "watched"] ["self", "places", "cells", "watched"] (defScope s_Run___init__) := ⟨rfl, rfl, rfl, by decide +kernel, rfl, by decide +kernel, by decide +kernel⟩
theorem ok_run_init {f : Addr} {fd : FuncData} (T : TxtP K mg) (Tq : PL.TxtQ K w mg) (F : FunD K "__init__" "Run.__init__" (defArgs s_Run___init__) (defBody s_Run___init__) (defScope s_Run___init__) [] [] f fd) {C : Addr} (RC : RunC K C) : FnOk P w K mg base CX0 1 f fd ["self", "places", "cells", "watched"] (spRunInit K C) := by
  refine F.ok sc_Run___init__ (fun vs H Q E h => by obtain ⟨r, dx, pq, ca, pls, wt, rfl, _⟩ := h; rfl) (fun cdv A outer s H vs Q E hr h => ?_)
  suffices z : ∃ t, PSs (cxOf CX0 P w K mg base ["self", "places", "cells", "watched"] "Run.__init__" (defScope s_Run___init__) f cdv A outer s H E).nox (defBody s_Run___init__) t ∧ t { nx := fun _ H' => Q .non H', rt := Q } (start ["self", "places", "cells", "watched"] vs) H by
    obtain ⟨t, h1, h2⟩ := z
    exact ⟨t, h1.nox, h2⟩
  have hu := hu_of hr
  have big : sizeLine = 16777216 := sizeLine_eq
  obtain ⟨r, dx, pq, ca, pls, wt, rfl, ho, hp, hc, k⟩ := h
  refine ⟨_, (pss_cons (ps_fld (pv 0) (pe_callTy call_tuple_of (by rfl) T.f_tuple (by decide +kernel) (pa_cons (pv 1) pa_nil)) rfl)
      (pss_cons (ps_fld (pv 0) (pe_callTy call_list_of (by rfl) Tq.f_list (by decide +kernel) (pa_cons (pv 1) pa_nil)) rfl)
      (pss_cons (ps_fld (pv 0) (pv 2) rfl)
      (pss_cons (ps_fld (pv 0) pe_dnewK rfl)
      (pss_cons (ps_fld (pv 0) (pe_tup pa_nil) rfl)
      (pss_cons (ps_fld (pv 0) (pv 3) rfl)
      (pss_one (ps_fld (pv 0) (pe_lst pa_nil) rfl)))))))), ?_⟩
  have lt : ∀ (l : List (Str × V)), l.length ≤ 8 → l.length < 1000 := fun l h => by omega
  have nrc : ca ≠ r := fun z => by rw [z, ho] at hc; cases hc
  have npq : pq ≠ r := fun z => by rw [z, ho] at hp; cases hp
  have b0 : But r H H := But.refl r H
  have ec0 := hc
  refine ⟨_, rfl, pq, _, rfl, .inl ⟨SqL.of hp, fun l0 f0 => ?_⟩⟩
  have s0 := Same.new (o := .tup (pls.map V.int)) f0
  have n0 : l0 ≠ r := fun z => by rw [z, ho] at f0; cases f0
  have q0 : H l0 = none := free_but b0 ho f0
  have dc_0 : l0 ≠ ca := fun z => by rw [z] at f0; rw [ec0] at f0; cases f0
  have e0 : upd H l0 (.tup (pls.map V.int)) l0 = some (.tup (pls.map V.int)) := upd_same
  have ecx0 := s0 _ _ ec0
  have rx0 := s0 _ _ ho
  have bx0 := b0.trans (But.of s0)
  generalize upd H l0 (.tup (pls.map V.int)) = J0 at s0 e0 ecx0 rx0 bx0 ⊢
  refine ⟨_, rfl, r, C, dx, _, rfl, rx0, RC.cl, RC.n_origin, lt _ (Nat.le_of_ble_eq_true rfl), ?_⟩
  have ro0 : upd J0 r (.ins C dx (putF "origin" (.ref l0) [])) r = some (.ins C dx [("origin", .ref l0)]) := upd_same
  have bo0 : But r H (upd J0 r (.ins C dx (putF "origin" (.ref l0) []))) := bx0.trans (But.upd _)
  have e0o0 : upd J0 r (.ins C dx (putF "origin" (.ref l0) [])) l0 = _ := (upd_ne n0).trans e0
  have eco0 : upd J0 r (.ins C dx (putF "origin" (.ref l0) [])) ca = _ := (upd_ne nrc).trans ecx0
  generalize upd J0 r (.ins C dx (putF "origin" (.ref l0) [])) = M0 at ro0 bo0 e0o0 eco0 ⊢
  have hpx : M0 pq = some (.lst (pls.map V.int)) := bo0 _ _ npq hp
  refine ⟨_, rfl, pq, _, rfl, .inl (SqL.of hpx), fun l1 f1 => ?_⟩
  have s1 := Same.new (o := .lst (pls.map V.int)) f1
  have n1 : l1 ≠ r := fun z => by rw [z, ro0] at f1; cases f1
  have q1 : H l1 = none := free_but bo0 ro0 f1
  have d_l0_1 : l1 ≠ l0 := fun z => by rw [z] at f1; rw [e0o0] at f1; cases f1
  have dc_1 : l1 ≠ ca := fun z => by rw [z] at f1; rw [eco0] at f1; cases f1
  have e1 : upd M0 l1 (.lst (pls.map V.int)) l1 = some (.lst (pls.map V.int)) := upd_same
  have e0x1 := s1 _ _ e0o0
  have ecx1 := s1 _ _ eco0
  have rx1 := s1 _ _ ro0
  have bx1 := bo0.trans (But.of s1)
  generalize upd M0 l1 (.lst (pls.map V.int)) = J1 at s1 e1 e0x1 ecx1 rx1 bx1 ⊢
  refine ⟨_, rfl, r, C, dx, _, rfl, rx1, RC.cl, RC.n_places, lt _ (Nat.le_of_ble_eq_true rfl), ?_⟩
  have ro1 : upd J1 r (.ins C dx (putF "places" (.ref l1) [("origin", .ref l0)])) r = some (.ins C dx [("origin", .ref l0), ("places", .ref l1)]) := upd_same
  have bo1 : But r H (upd J1 r (.ins C dx (putF "places" (.ref l1) [("origin", .ref l0)]))) := bx1.trans (But.upd _)
  have e0o1 : upd J1 r (.ins C dx (putF "places" (.ref l1) [("origin", .ref l0)])) l0 = _ := (upd_ne n0).trans e0x1
  have e1o1 : upd J1 r (.ins C dx (putF "places" (.ref l1) [("origin", .ref l0)])) l1 = _ := (upd_ne n1).trans e1
  have eco1 : upd J1 r (.ins C dx (putF "places" (.ref l1) [("origin", .ref l0)])) ca = _ := (upd_ne nrc).trans ecx1
  generalize upd J1 r (.ins C dx (putF "places" (.ref l1) [("origin", .ref l0)])) = M1 at ro1 bo1 e0o1 e1o1 eco1 ⊢
  refine ⟨_, rfl, _, rfl, r, C, dx, _, rfl, ro1, RC.cl, RC.n_cells, lt _ (Nat.le_of_ble_eq_true rfl), ?_⟩
  have ro2 : upd M1 r (.ins C dx (putF "cells" (.ref ca) [("origin", .ref l0), ("places", .ref l1)])) r = some (.ins C dx [("origin", .ref l0), ("places", .ref l1), ("cells", .ref ca)]) := upd_same
  have bo2 : But r H (upd M1 r (.ins C dx (putF "cells" (.ref ca) [("origin", .ref l0), ("places", .ref l1)]))) := bo1.trans (But.upd _)
  have e0o2 : upd M1 r (.ins C dx (putF "cells" (.ref ca) [("origin", .ref l0), ("places", .ref l1)])) l0 = _ := (upd_ne n0).trans e0o1
  have e1o2 : upd M1 r (.ins C dx (putF "cells" (.ref ca) [("origin", .ref l0), ("places", .ref l1)])) l1 = _ := (upd_ne n1).trans e1o1
  have eco2 : upd M1 r (.ins C dx (putF "cells" (.ref ca) [("origin", .ref l0), ("places", .ref l1)])) ca = _ := (upd_ne nrc).trans eco1
  generalize upd M1 r (.ins C dx (putF "cells" (.ref ca) [("origin", .ref l0), ("places", .ref l1)])) = M2 at ro2 bo2 e0o2 e1o2 eco2 ⊢
  refine fun l3 f3 => ?_
  have s3 := Same.new (o := .dK []) f3
  have n3 : l3 ≠ r := fun z => by rw [z, ro2] at f3; cases f3
  have q3 : H l3 = none := free_but bo2 ro2 f3
  have d_l0_3 : l3 ≠ l0 := fun z => by rw [z] at f3; rw [e0o2] at f3; cases f3
  have d_l1_3 : l3 ≠ l1 := fun z => by rw [z] at f3; rw [e1o2] at f3; cases f3
  have dc_3 : l3 ≠ ca := fun z => by rw [z] at f3; rw [eco2] at f3; cases f3
  have e3 : upd M2 l3 (.dK []) l3 = some (.dK []) := upd_same
  have e0x3 := s3 _ _ e0o2
  have e1x3 := s3 _ _ e1o2
  have ecx3 := s3 _ _ eco2
  have rx3 := s3 _ _ ro2
  have bx3 := bo2.trans (But.of s3)
  generalize upd M2 l3 (.dK []) = J3 at s3 e3 e0x3 e1x3 ecx3 rx3 bx3 ⊢
  refine ⟨_, rfl, r, C, dx, _, rfl, rx3, RC.cl, RC.n_held, lt _ (Nat.le_of_ble_eq_true rfl), ?_⟩
  have ro3 : upd J3 r (.ins C dx (putF "held" (.ref l3) [("origin", .ref l0), ("places", .ref l1), ("cells", .ref ca)])) r = some (.ins C dx [("origin", .ref l0), ("places", .ref l1), ("cells", .ref ca), ("held", .ref l3)]) := upd_same
  have bo3 : But r H (upd J3 r (.ins C dx (putF "held" (.ref l3) [("origin", .ref l0), ("places", .ref l1), ("cells", .ref ca)]))) := bx3.trans (But.upd _)
  have e0o3 : upd J3 r (.ins C dx (putF "held" (.ref l3) [("origin", .ref l0), ("places", .ref l1), ("cells", .ref ca)])) l0 = _ := (upd_ne n0).trans e0x3
  have e1o3 : upd J3 r (.ins C dx (putF "held" (.ref l3) [("origin", .ref l0), ("places", .ref l1), ("cells", .ref ca)])) l1 = _ := (upd_ne n1).trans e1x3
  have e3o3 : upd J3 r (.ins C dx (putF "held" (.ref l3) [("origin", .ref l0), ("places", .ref l1), ("cells", .ref ca)])) l3 = _ := (upd_ne n3).trans e3
  have eco3 : upd J3 r (.ins C dx (putF "held" (.ref l3) [("origin", .ref l0), ("places", .ref l1), ("cells", .ref ca)])) ca = _ := (upd_ne nrc).trans ecx3
  generalize upd J3 r (.ins C dx (putF "held" (.ref l3) [("origin", .ref l0), ("places", .ref l1), ("cells", .ref ca)])) = M3 at ro3 bo3 e0o3 e1o3 e3o3 eco3 ⊢
  refine ⟨by show 0 ≤ sizeLine; decide, fun l4 f4 => ?_⟩
  have s4 := Same.new (o := .tup []) f4
  have n4 : l4 ≠ r := fun z => by rw [z, ro3] at f4; cases f4
  have q4 : H l4 = none := free_but bo3 ro3 f4
  have d_l0_4 : l4 ≠ l0 := fun z => by rw [z] at f4; rw [e0o3] at f4; cases f4
  have d_l1_4 : l4 ≠ l1 := fun z => by rw [z] at f4; rw [e1o3] at f4; cases f4
  have d_l3_4 : l4 ≠ l3 := fun z => by rw [z] at f4; rw [e3o3] at f4; cases f4
  have dc_4 : l4 ≠ ca := fun z => by rw [z] at f4; rw [eco3] at f4; cases f4
  have e4 : upd M3 l4 (.tup []) l4 = some (.tup []) := upd_same
  have e0x4 := s4 _ _ e0o3
  have e1x4 := s4 _ _ e1o3
  have e3x4 := s4 _ _ e3o3
  have ecx4 := s4 _ _ eco3
  have rx4 := s4 _ _ ro3
  have bx4 := bo3.trans (But.of s4)
  generalize upd M3 l4 (.tup []) = J4 at s4 e4 e0x4 e1x4 e3x4 ecx4 rx4 bx4 ⊢
  refine ⟨_, rfl, r, C, dx, _, rfl, rx4, RC.cl, RC.n_given, lt _ (Nat.le_of_ble_eq_true rfl), ?_⟩
  have ro4 : upd J4 r (.ins C dx (putF "given" (.ref l4) [("origin", .ref l0), ("places", .ref l1), ("cells", .ref ca), ("held", .ref l3)])) r = some (.ins C dx [("origin", .ref l0), ("places", .ref l1), ("cells", .ref ca), ("held", .ref l3), ("given", .ref l4)]) := upd_same
  have bo4 : But r H (upd J4 r (.ins C dx (putF "given" (.ref l4) [("origin", .ref l0), ("places", .ref l1), ("cells", .ref ca), ("held", .ref l3)]))) := bx4.trans (But.upd _)
  have e0o4 : upd J4 r (.ins C dx (putF "given" (.ref l4) [("origin", .ref l0), ("places", .ref l1), ("cells", .ref ca), ("held", .ref l3)])) l0 = _ := (upd_ne n0).trans e0x4
  have e1o4 : upd J4 r (.ins C dx (putF "given" (.ref l4) [("origin", .ref l0), ("places", .ref l1), ("cells", .ref ca), ("held", .ref l3)])) l1 = _ := (upd_ne n1).trans e1x4
  have e3o4 : upd J4 r (.ins C dx (putF "given" (.ref l4) [("origin", .ref l0), ("places", .ref l1), ("cells", .ref ca), ("held", .ref l3)])) l3 = _ := (upd_ne n3).trans e3x4
  have e4o4 : upd J4 r (.ins C dx (putF "given" (.ref l4) [("origin", .ref l0), ("places", .ref l1), ("cells", .ref ca), ("held", .ref l3)])) l4 = _ := (upd_ne n4).trans e4
  have eco4 : upd J4 r (.ins C dx (putF "given" (.ref l4) [("origin", .ref l0), ("places", .ref l1), ("cells", .ref ca), ("held", .ref l3)])) ca = _ := (upd_ne nrc).trans ecx4
  generalize upd J4 r (.ins C dx (putF "given" (.ref l4) [("origin", .ref l0), ("places", .ref l1), ("cells", .ref ca), ("held", .ref l3)])) = M4 at ro4 bo4 e0o4 e1o4 e3o4 e4o4 eco4 ⊢
  refine ⟨_, rfl, _, rfl, r, C, dx, _, rfl, ro4, RC.cl, RC.n_watched, lt _ (Nat.le_of_ble_eq_true rfl), ?_⟩
  have ro5 : upd M4 r (.ins C dx (putF "watched" (.bl wt) [("origin", .ref l0), ("places", .ref l1), ("cells", .ref ca), ("held", .ref l3), ("given", .ref l4)])) r = some (.ins C dx [("origin", .ref l0), ("places", .ref l1), ("cells", .ref ca), ("held", .ref l3), ("given", .ref l4), ("watched", .bl wt)]) := upd_same
  have bo5 : But r H (upd M4 r (.ins C dx (putF "watched" (.bl wt) [("origin", .ref l0), ("places", .ref l1), ("cells", .ref ca), ("held", .ref l3), ("given", .ref l4)]))) := bo4.trans (But.upd _)
  have e0o5 : upd M4 r (.ins C dx (putF "watched" (.bl wt) [("origin", .ref l0), ("places", .ref l1), ("cells", .ref ca), ("held", .ref l3), ("given", .ref l4)])) l0 = _ := (upd_ne n0).trans e0o4
  have e1o5 : upd M4 r (.ins C dx (putF "watched" (.bl wt) [("origin", .ref l0), ("places", .ref l1), ("cells", .ref ca), ("held", .ref l3), ("given", .ref l4)])) l1 = _ := (upd_ne n1).trans e1o4
  have e3o5 : upd M4 r (.ins C dx (putF "watched" (.bl wt) [("origin", .ref l0), ("places", .ref l1), ("cells", .ref ca), ("held", .ref l3), ("given", .ref l4)])) l3 = _ := (upd_ne n3).trans e3o4
  have e4o5 : upd M4 r (.ins C dx (putF "watched" (.bl wt) [("origin", .ref l0), ("places", .ref l1), ("cells", .ref ca), ("held", .ref l3), ("given", .ref l4)])) l4 = _ := (upd_ne n4).trans e4o4
  have eco5 : upd M4 r (.ins C dx (putF "watched" (.bl wt) [("origin", .ref l0), ("places", .ref l1), ("cells", .ref ca), ("held", .ref l3), ("given", .ref l4)])) ca = _ := (upd_ne nrc).trans eco4
  generalize upd M4 r (.ins C dx (putF "watched" (.bl wt) [("origin", .ref l0), ("places", .ref l1), ("cells", .ref ca), ("held", .ref l3), ("given", .ref l4)])) = M5 at ro5 bo5 e0o5 e1o5 e3o5 e4o5 eco5 ⊢
  refine ⟨by show 0 ≤ sizeLine; decide, fun l6 f6 => ?_⟩
  have s6 := Same.new (o := .lst []) f6
  have n6 : l6 ≠ r := fun z => by rw [z, ro5] at f6; cases f6
  have q6 : H l6 = none := free_but bo5 ro5 f6
  have d_l0_6 : l6 ≠ l0 := fun z => by rw [z] at f6; rw [e0o5] at f6; cases f6
  have d_l1_6 : l6 ≠ l1 := fun z => by rw [z] at f6; rw [e1o5] at f6; cases f6
  have d_l3_6 : l6 ≠ l3 := fun z => by rw [z] at f6; rw [e3o5] at f6; cases f6
  have d_l4_6 : l6 ≠ l4 := fun z => by rw [z] at f6; rw [e4o5] at f6; cases f6
  have dc_6 : l6 ≠ ca := fun z => by rw [z] at f6; rw [eco5] at f6; cases f6
  have e6 : upd M5 l6 (.lst []) l6 = some (.lst []) := upd_same
  have e0x6 := s6 _ _ e0o5
  have e1x6 := s6 _ _ e1o5
  have e3x6 := s6 _ _ e3o5
  have e4x6 := s6 _ _ e4o5
  have ecx6 := s6 _ _ eco5
  have rx6 := s6 _ _ ro5
  have bx6 := bo5.trans (But.of s6)
  generalize upd M5 l6 (.lst []) = J6 at s6 e6 e0x6 e1x6 e3x6 e4x6 ecx6 rx6 bx6 ⊢
  refine ⟨_, rfl, r, C, dx, _, rfl, rx6, RC.cl, RC.n_log, lt _ (Nat.le_of_ble_eq_true rfl), ?_⟩
  have ro6 : upd J6 r (.ins C dx (putF "log" (.ref l6) [("origin", .ref l0), ("places", .ref l1), ("cells", .ref ca), ("held", .ref l3), ("given", .ref l4), ("watched", .bl wt)])) r = some (.ins C dx [("origin", .ref l0), ("places", .ref l1), ("cells", .ref ca), ("held", .ref l3), ("given", .ref l4), ("watched", .bl wt), ("log", .ref l6)]) := upd_same
  have bo6 : But r H (upd J6 r (.ins C dx (putF "log" (.ref l6) [("origin", .ref l0), ("places", .ref l1), ("cells", .ref ca), ("held", .ref l3), ("given", .ref l4), ("watched", .bl wt)]))) := bx6.trans (But.upd _)
  have e0o6 : upd J6 r (.ins C dx (putF "log" (.ref l6) [("origin", .ref l0), ("places", .ref l1), ("cells", .ref ca), ("held", .ref l3), ("given", .ref l4), ("watched", .bl wt)])) l0 = _ := (upd_ne n0).trans e0x6
  have e1o6 : upd J6 r (.ins C dx (putF "log" (.ref l6) [("origin", .ref l0), ("places", .ref l1), ("cells", .ref ca), ("held", .ref l3), ("given", .ref l4), ("watched", .bl wt)])) l1 = _ := (upd_ne n1).trans e1x6
  have e3o6 : upd J6 r (.ins C dx (putF "log" (.ref l6) [("origin", .ref l0), ("places", .ref l1), ("cells", .ref ca), ("held", .ref l3), ("given", .ref l4), ("watched", .bl wt)])) l3 = _ := (upd_ne n3).trans e3x6
  have e4o6 : upd J6 r (.ins C dx (putF "log" (.ref l6) [("origin", .ref l0), ("places", .ref l1), ("cells", .ref ca), ("held", .ref l3), ("given", .ref l4), ("watched", .bl wt)])) l4 = _ := (upd_ne n4).trans e4x6
  have e6o6 : upd J6 r (.ins C dx (putF "log" (.ref l6) [("origin", .ref l0), ("places", .ref l1), ("cells", .ref ca), ("held", .ref l3), ("given", .ref l4), ("watched", .bl wt)])) l6 = _ := (upd_ne n6).trans e6
  have eco6 : upd J6 r (.ins C dx (putF "log" (.ref l6) [("origin", .ref l0), ("places", .ref l1), ("cells", .ref ca), ("held", .ref l3), ("given", .ref l4), ("watched", .bl wt)])) ca = _ := (upd_ne nrc).trans ecx6
  exact k ⟨dx, l0, l1, ca, l3, l4, l6⟩ _ bo6 rfl q0 q1 q3 q4 q6 (Ne.symm d_l1_6) (Ne.symm dc_3) ro6 rfl e0o6 e1o6 e3o6 e4o6 e6o6
end
end K19
end
section
set_option Elab.async false
set_option linter.all false
set_option maxRecDepth 100000
set_option maxHeartbeats 4000000
namespace L2
open PySem PySem.Spec PyProof.Rows
/-! raise X(): an own class whose __init__ takes nothing and keeps no field -/
section
variable {X : Cx}
theorem mk_endN {pins : List (Addr × Obj)} {σ : St} {H1 H2 : Hp} {Q : XK} {hp hp2 h2 : Heap} {g1 g2 : Array GenState} {d1 d2 : Drawn} {t1 t2 : Nat} {os1 os2 : OsState} {a C : Addr} (T : Raises X (.ref C)) (I1 : Inv X pins σ H1 ⟨hp, g1, d1, t1, os1⟩)
    (ha : hp.objs.size ≤ a) (k : ∀ b o, hp.get? b = some o → hp2.get? b = some o) (un : Un (frs X.stack) [] (upd H1 a (exo a C none)) H2 hp2 h2) (hok : HOk X.prog X.w H2 h2) (ho : os2 = os1) (hb : AllBare g2)
    (ea : H2 a = some (exo a C none)) (q : Q (.ref C) none (del H2 a)) : MkP X pins σ Q (.ref a) ⟨h2, g2, d2, t2, os2⟩ := by
  obtain ⟨t0, hoe⟩ := exo_at hok ea
  have hn : H1 a = none := I1.hok.fresh ha
  obtain ⟨G, g1', g2'⟩ := restrict h2 fun b => decide (b ≠ a)
  have gk : ∀ b, b ≠ a → G.get? b = h2.get? b := fun b hb => g1' b (decide_eq_true hb)
  have ge : G.get? a = none := g2' a (by simp)
  have nha : ∀ {b : Addr} {o : Obj}, hp.get? b = some o → b ≠ a := fun {b o} z => Nat.ne_of_lt (Nat.lt_of_lt_of_le (Heap.lt_size z) ha)
  have up : ∀ {b : Addr}, b ≠ a → H1 b = none → upd H1 a (exo a C none) b = none := fun {b} hb n => by rw [upd_ne hb]; exact n
  have U : Un (frs X.stack) [] H1 (del H2 a) hp G := {
    keep := fun b o z n hf hx => by
      rw [gk b (nha z)]
      exact un.keep b o (k b o z) (up (nha z) n) hf hx
    slot := fun b o z n hf hx => by
      rw [gk b (nha z)]
      exact un.slot b o (k b o z) (up (nha z) n) hf hx
    free := fun b o z n hx => by
      rw [del_ne (nha z)]
      exact un.free b o (k b o z) (up (nha z) n) hx
    there := fun b o z hx => by
      rw [gk b (nha z)]
      exact un.there b o (k b o z) hx
    tups := fun b xs z => by
      rw [del_ne (ne_of_none z hn)]
      exact un.tups b xs (by rw [upd_ne (ne_of_none z hn)]; exact z)
    frzs := fun b o v z => by
      rw [del_ne (ne_of_none z hn)]
      exact un.frzs b o v (by rw [upd_ne (ne_of_none z hn)]; exact z)
    tbls := fun b ps z => by
      rw [del_ne (ne_of_none z hn)]
      exact un.tbls b ps (by rw [upd_ne (ne_of_none z hn)]; exact z) }
  have hok3 : HOk X.prog X.w (del H2 a) G := fun b o z => by
    have hba : b ≠ a := fun e => by
      rw [e, del_same] at z
      cases z
    rw [del_ne hba] at z
    have noa : ∀ {c : Addr}, H2 c = some (.own b) → c ≠ a := fun {c} hc => at_ne ea hc exo_own
    exact (hok b o z).stay (fun c v hc y => by
        have hca : c ≠ a := by
          rcases hc with hc | hc
          · rw [hc]
            exact hba
          · exact noa hc
        rw [gk c hca]
        exact y)
      (fun c hc => by rw [del_ne (noa hc)]; exact hc) (fun c xs hc => by rw [del_ne (at_ne ea hc exo_tup)]; exact hc)
  have J : Inv X pins σ (del H2 a) ⟨G, g2, d2, t2, os2⟩ := I1.call' (ch := []) ho U hok3 hb (fun b z => absurd z (by simp))
  exact ⟨a, _, _, ⟨G, g2, d2, t2, os2⟩, _, .ref C, none, rfl, J, fun b o z => (gk b (fun e => by rw [e, ge] at z; cases z)).symm.trans z, ge, hoe, ⟨rfl, rfl⟩, rfl, rfl, del_same, rfl, hb, T, q⟩
def tMkN (C : Addr) (sp : Sp) : St → Hp → XK → Prop := fun _ H1 Q => ∀ a, H1 a = none → sp [.ref a] (upd H1 a (exo a C none)) (fun v H2 => v = .non ∧ H2 a = some (exo a C none) ∧ Q (.ref C) none (del H2 a)) (fun _ _ _ => False)
theorem pmk_oexN {CX : CXT} {x : Str} {C fI : Addr} {k : Nat} {fd : FuncData} {ps : List Str} {sp : Sp} {p pos : Pos} (T : OexC X.K C) (iC : PySem.W.findIn X.K (.ref C) "__init__" = some (some (.ref fI))) (tI : PySem.W.typeIn X.K (.ref fI) = some (.type "function"))
    (F1 : FnOk X.prog X.w X.K X.mg X.base CX k fI fd ps sp) (hr : Room (k + 1) X.A) (hb : Binds X.K fd ps []) (hx : Passes CX X (fun _ _ _ => False)) (hg : Gl X x) (hm : X.mg x = some (.ref C))
    (hdb : (x == ("__debug__" : Str)) = false := by decide) : PMk X (.Call (.Name x p) [] [] pos) (tMkN C sp) := by
  intro pins s σ H Q I q1
  obtain ⟨nm, q, N, bs, bm, sn, sub, ab, col, dd, k0, k1, k2, k3, k5, hC, hbm⟩ := T.cls
  refine wpAny_Call_Name_kw (ld_glob I hg hm (PySem.W.callWith_K0 I.kIn T.kC ?_) hdb)
  show wpAny _ _ (call (.ref C) []) _ _ _
  obtain ⟨hp, g, dr, tk, os⟩ := s
  have hsz : hp.objs.size ≤ hp.objs.size + 1 := Nat.le_succ _
  have hn : H (hp.objs.size + 1) = none := I.hok.fresh hsz
  have hq := q1 (hp.objs.size + 1) hn
  have kk : ∀ b o, hp.get? b = some o → ((hp.push (PySem.W.kdv_tup [])).push (PySem.HandSPX.excO C hp.objs.size)).get? b = some o := fun b o e => Heap.get?_push_of_some _ (Heap.get?_push_of_some _ e)
  have hget : ((hp.push (PySem.W.kdv_tup [])).push (PySem.HandSPX.excO C hp.objs.size)).get? (hp.objs.size + 1) = some (PySem.HandSPX.excO C hp.objs.size) := by heap_get
  have I2 : Inv X pins σ (upd H (hp.objs.size + 1) (exo (hp.objs.size + 1) C none)) ⟨(hp.push (PySem.W.kdv_tup [])).push (PySem.HandSPX.excO C hp.objs.size), g, dr, tk, os⟩ :=
    I.laid (t' := tk) (a := hp.objs.size + 1) (o := exo (hp.objs.size + 1) C none) (h' := (hp.push (PySem.W.kdv_tup [])).push (PySem.HandSPX.excO C hp.objs.size)) kk hsz (exo_ok hget)
  have r2 : Vals [V.ref (hp.objs.size + 1)] [Value.ref (hp.objs.size + 1)] := .cons rfl .nil
  have hl : [Value.ref (hp.objs.size + 1)].length = ps.length := by
    have e := r2.length
    rw [F1.len _ _ _ _ hq] at e
    exact e.symm
  refine wpAny_call (PySem.HandSPX.call_own F.excBase_ValueError (fun Y => PySem.HandSPX.refsVE_contains Y bm hbm) (I.kIn _ _ hC) (PySem.W.looks_findIn I.kIn iC) (fun self => PySem.W.bind_fn I.kIn self tI) (Nat.zero_le _)
    (codeAny_mono (F1.run _ X.stack _ _ ⟨[Value.ref (hp.objs.size + 1)], []⟩ [Value.ref (hp.objs.size + 1)] _ _ (fun _ _ _ => False) (hr.make C [] []) (I2.env0.make C [] []) (by
      have := hb ⟨(hp.push (PySem.W.kdv_tup [])).push (PySem.HandSPX.excO C hp.objs.size), g, dr, tk, os⟩ [Value.ref (hp.objs.size + 1)] I2.kIn (by simpa using hl)
      simpa using this) r2 hq) fun r s' hq' => ?_))
  cases r with
  | error er => exact hx pins σ _ _ er s' I2 hq'
  | ok fl =>
    cases fl with
    | ret u =>
      obtain ⟨v, H2, os2, bare2, un2, hok2, rv, ev, ea, q2⟩ := hq'
      subst ev
      obtain ⟨h2, g2, d2, t2, os'⟩ := s'
      exact ⟨rv, mk_endN (raises_own T.exC T.tyC) I hsz kk un2 hok2 os2 bare2 ea q2⟩
    | next => exact False.elim hq'
    | brk => exact False.elim hq'
    | cont => exact False.elim hq'
end
end L2
end
section
set_option Elab.async false
set_option linter.all false
set_option maxRecDepth 100000
set_option maxHeartbeats 4000000
namespace K19
open PySem PySem.Spec PyProof.Rows L2
open PySem.W (ke_shaped_ints)
local macro_rules | `(tactic| walk_at "go") => `(tactic| first | refine ⟨_, rfl, ?_⟩ | refine .inl ⟨_, rfl, ?_⟩ | refine ⟨_, _, rfl, rfl, (by first | (show (0 : Int) < _; decide) | exact Or.inl ⟨by decide, by decide⟩ | exact Or.inr ⟨by decide, by decide⟩), ?_⟩ | refine ⟨_, _, rfl, rfl, ?_⟩)
section
variable {P : Program} {w : World} {K : PySem.W.Frag} {mg : Str → Option Value} {base : Heap}

/-- the cells of a row -/
def rowL (z s m : Int) : List Int := (List.range m.toNat).map fun i => z + s + (i : Nat)
theorem rowL_v (z s m : Int) : rgV (z + s) (z + s + m) = (rowL z s m).map V.int := by
  unfold rgV rowL
  rw [List.map_map, show z + s + m - (z + s) = m by omega]
  rfl
theorem rowL_len (z s m : Int) : (rowL z s m).length = m.toNat := by unfold rowL; rw [List.length_map, List.length_range]
def putAll (cs : Cells) (ps : List (Int × Cont)) : Cells := ps.foldl (fun cs p => putC cs p.1 p.2) cs
theorem putAll_len : ∀ (ps : List (Int × Cont)) (cs : Cells), (putAll cs ps).length ≤ cs.length + ps.length
  | [], cs => Nat.le_refl _
  | p :: r, cs => by
    have h1 := putAll_len r (putC cs p.1 p.2)
    have h2 := put_len cs p.1 p.2
    show (putAll (putC cs p.1 p.2) r).length ≤ cs.length + (r.length + 1)
    omega
theorem putAll_snoc (cs : Cells) (ps : List (Int × Cont)) (p : Int × Cont) : putAll cs (ps ++ [p]) = putC (putAll cs ps) p.1 p.2 := by
  unfold putAll
  rw [List.foldl_append]
  rfl
theorem get_v (cs : Cells) (n : Int) : (valV (kv cs) (Sum.inl n)).getD (.int n) = (getC cs n).v := by
  rw [kv_val]
  unfold getC
  cases lookC cs n <;> rfl
/-- a row of cells at a span, where the pointer stands -/
def SpnAt (K : PySem.W.Frag) (H : Hp) (sp : Addr) (st : RSt) (z s m : Int) : Prop := ∃ p : Nat, SqT K H sp [.int (p : Nat), .int s, .int m] ∧ st.pl[p]? = some z ∧ m.toNat ≤ 1000
theorem SpnAt.same {K : PySem.W.Frag} {H H' : Hp} {sp : Addr} {st : RSt} {z s m : Int} (h : SpnAt K H sp st z s m) (e : Same H H') : SpnAt K H' sp st z s m := by
  obtain ⟨p, a, b, c⟩ := h
  exact ⟨p, e.tup a, b, c⟩
/-- run.row(span) -/
def spRow (K : PySem.W.Frag) (C : Addr) : Sp := fun vs H Q _ => ∃ (H0 : Hp) (r sp : Addr) (d : RAd) (st : RSt) (z s m : Int), vs = [.ref r, .ref sp] ∧ RunOk C H0 H r d st ∧ SpnAt K H sp st z s m ∧ ∀ (q : Addr) (H' : Hp), Same H H' → H q = none → H' q = some (.lst ((rowL z s m).map V.int)) → Q (.ref q) H'

abbrev s_Run_row : Stmt := inClass (topS 84) 2
theorem sc_Run_row : FnScope ["self", "span", "pointer", "shift", "many", "start"] ["self", "span"] (defScope s_Run_row) := ⟨rfl, rfl, rfl, by decide +kernel, rfl, by decide +kernel, by decide +kernel⟩
theorem ok_run_row {f : Addr} {fd : FuncData} (T : TxtP K mg) (Tq : PL.TxtQ K w mg) (F : FunD K "row" "Run.row" (defArgs s_Run_row) (defBody s_Run_row) (defScope s_Run_row) [] [] f fd) {C : Addr} (RC : RunC K C) : FnOk P w K mg base CX0 1 f fd ["self", "span"] (spRow K C) := by
  refine F.ok sc_Run_row (fun vs H Q E h => by obtain ⟨H0, r, sp, d, st, z, s, m, rfl, _⟩ := h; rfl) (fun cdv A outer s H vs Q E hr h => ?_)
  suffices z : ∃ t, PSs (cxOf CX0 P w K mg base ["self", "span", "pointer", "shift", "many", "start"] "Run.row" (defScope s_Run_row) f cdv A outer s H E).nox (defBody s_Run_row) t ∧ t { nx := fun _ H' => Q .non H', rt := Q } (start ["self", "span", "pointer", "shift", "many", "start"] vs) H by
    obtain ⟨t, h1, h2⟩ := z
    exact ⟨t, h1.nox, h2⟩
  have hu := hu_of hr
  have big : sizeLine = 16777216 := sizeLine_eq
  obtain ⟨H0, r, sp, d, st, z, s, m, rfl, ro, ⟨p, hsp, hp, m1⟩, k⟩ := h
  refine ⟨_, (pss_cons (ps_asg (pv 1) (pg_tup rfl (pgs_cons (pg_name (i := 2) sc_Run_row.nd rfl (by first | exact Or.inl rfl | exact Or.inr rfl)) (pgs_cons (pg_name (i := 3) sc_Run_row.nd rfl (by first | exact Or.inl rfl | exact Or.inr rfl)) (pgs_cons (pg_name (i := 4) sc_Run_row.nd rfl (by first | exact Or.inl rfl | exact Or.inr rfl)) pgs_nil)))))
      (pss_cons (ps_set (i := 5) sc_Run_row.nd rfl (by first | exact Or.inl rfl | exact Or.inr rfl) (pe_op op_add (pe_ix ix_list (pe_fld (pv 0) rfl) (pv 2) (fun _ _ => rfl)) (pv 3)))
      (pss_one (ps_ret (pe_listRB rfl (by rfl) Tq.f_list (prg_2 (by rfl) Tq.f_range (pv 5) (pe_op op_add (pv 5) (pv 4)))))))), ?_⟩
  refine ⟨_, rfl, sp, _, rfl, hsp, rfl, _, _, rfl, _, _, rfl, _, _, rfl, rfl, ?_⟩
  refine ⟨_, rfl, r, C, d.dx, _, _, rfl, ro.obj, RC.cl, RC.n_places, rfl, _, rfl, d.pa, _, _, _, rfl, rfl, SqL.of ro.pl, atI_nat (j := p) (by rw [List.getElem?_map, hp]; rfl), _, rfl, _, _, rfl, rfl, ?_⟩
  refine ⟨_, rfl, _, rfl, _, rfl, _, _, rfl, rfl, _, _, rfl, rfl, by omega, fun q hq => ?_⟩
  rw [rowL_v]
  exact k q _ (Same.new hq) hq upd_same


/-- run.taken(span) -/
def spTaken (K : PySem.W.Frag) (C : Addr) : Sp := fun vs H Q _ => ∃ (H0 : Hp) (r sp : Addr) (d : RAd) (st : RSt) (z s m : Int), vs = [.ref r, .ref sp] ∧ RunOk C H0 H r d st ∧ SpnAt K H sp st z s m ∧ ∀ (q : Addr) (H' : Hp), Same H H' → H q = none → H' q = some (.lst (((rowL z s m).map (getC st.cells)).map Cont.v)) → Q (.ref q) H'

abbrev s_Run_taken : Stmt := inClass (topS 84) 3
theorem sc_Run_taken : FnScope ["self", "span", "cells", "cell"] ["self", "span"] (defScope s_Run_taken) := ⟨rfl, rfl, rfl, by decide +kernel, rfl, by decide +kernel, by decide +kernel⟩
theorem ok_run_taken {f : Addr} {fd : FuncData} (T : TxtP K mg) (Tq : PL.TxtQ K w mg) (F : FunD K "taken" "Run.taken" (defArgs s_Run_taken) (defBody s_Run_taken) (defScope s_Run_taken) [] [] f fd) {C : Addr} (RC : RunC K C) (M_row : MthX P w K mg base CX0 1 C "row" ["self", "span"] (spRow K C)) : FnOk P w K mg base CX0 2 f fd ["self", "span"] (spTaken K C) := by
  refine F.ok sc_Run_taken (fun vs H Q E h => by obtain ⟨H0, r, sp, d, st, z, s, m, rfl, _⟩ := h; rfl) (fun cdv A outer s H vs Q E hr h => ?_)
  suffices z : ∃ t, PSs (cxOf CX0 P w K mg base ["self", "span", "cells", "cell"] "Run.taken" (defScope s_Run_taken) f cdv A outer s H E).nox (defBody s_Run_taken) t ∧ t { nx := fun _ H' => Q .non H', rt := Q } (start ["self", "span", "cells", "cell"] vs) H by
    obtain ⟨t, h1, h2⟩ := z
    exact ⟨t, h1.nox, h2⟩
  have hu := hu_of hr
  have big : sizeLine = 16777216 := sizeLine_eq
  obtain ⟨H0, r, sp, d, st, z, s, m, rfl, ro, sn, k⟩ := h
  have m1 : (rowL z s m).length ≤ 1000 := by rw [rowL_len]; obtain ⟨_, _, _, c⟩ := sn; exact c
  refine ⟨_, (pss_cons (ps_set (i := 2) sc_Run_taken.nd rfl (by first | exact Or.inl rfl | exact Or.inr rfl) (pe_fld (pv 0) rfl))
      (pss_one (ps_ret (pe_lc (own := [("cell", 3)]) (g := gName 3) (tt := tYes) rfl sc_Run_taken.nd (pi_list (pe_mth M_row (pv 0) (hr.mono (by decide)) pass0 (pa_cons (pv 1) pa_nil))) (blkOk_by (N := ["self", "span", "cells", "cell"]) (sc := defScope s_Run_taken) (by decide +kernel)) (fun _ _ _ _ _ => (pg_name (i := 3) sc_Run_taken.nd rfl (Or.inl rfl))) (fun _ _ _ _ _ => pts_nil) (fun _ _ _ _ _ => (pe_dget2 hu (pv 2) (pv 3) (pv 3) ⟨by rfl, by rfl, by rfl, by rfl⟩)))))), ?_⟩
  refine ⟨_, rfl, r, C, d.dx, _, _, rfl, ro.obj, RC.cl, RC.n_cells, rfl, ?_⟩
  refine ⟨_, rfl, r, d.dx, _, rfl, ro.obj, rfl, _, rfl, H0, r, sp, d, st, z, s, m, rfl, ro, sn, fun q H1 s1 fq hq => ?_⟩
  have c1 := s1 _ _ ro.cells
  refine ⟨q, rfl, ⟨_, SqL.of hq⟩, fun D hD => lc_it walk_list (fun i H' => Same H1 H' ∧ H' D = some (.lst ((((rowL z s m).take i).map (getC st.cells)).map Cont.v))) ⟨Same.new hD, upd_same⟩ (fun i H' _ z => SqL.of (z.1 _ _ hq)) ?_ ?_⟩
  · rintro i y G1 G2 hi ⟨s2, h2⟩ ⟨rfl, hx⟩
    rw [List.getElem?_map] at hx
    obtain ⟨n, hn, rfl⟩ := Option.map_eq_some_iff.mp hx
    rw [List.length_map] at hi
    refine ⟨rfl, _, rfl, d.ca, rfl, .inl ⟨_, .inl (s2 _ _ c1)⟩, _, rfl, _, rfl, _, DGet.k (k := Sum.inl n) (s2 _ _ c1), _, h2, by rw [List.length_map, List.length_map, List.length_take]; omega, s2.put hD, ?_⟩
    rw [List.take_add_one, hn, Option.toList_some, List.map_append, List.map_append, get_v]
    exact upd_same
  · rintro G ⟨s2, h2⟩
    rw [List.length_map, List.take_length] at h2
    exact k D G (s1.trans s2) (Same.free s1 hD) h2


/-- run.put(span, contents) -/
def spPut (K : PySem.W.Frag) (C : Addr) : Sp := fun vs H Q _ => ∃ (H0 : Hp) (r sp cl : Addr) (d : RAd) (st : RSt) (z s m : Int) (cts : List Cont), vs = [.ref r, .ref sp, .ref cl] ∧ RunOk C H0 H r d st ∧ SpnAt K H sp st z s m ∧ H cl = some (.lst (cts.map Cont.v)) ∧ st.cells.length ≤ 1000000 ∧
  ∀ H', RunOk C H0 H' r d { st with cells := putAll st.cells ((rowL z s m).zip cts) } → Q .non H'

abbrev s_Run_put : Stmt := inClass (topS 84) 4
theorem sc_Run_put : FnScope ["self", "span", "contents", "cells", "cell", "content"] ["self", "span", "contents"] (defScope s_Run_put) := ⟨rfl, rfl, rfl, by decide +kernel, rfl, by decide +kernel, by decide +kernel⟩
theorem ok_run_put {f : Addr} {fd : FuncData} (T : TxtP K mg) (Tq : PL.TxtQ K w mg) (F : FunD K "put" "Run.put" (defArgs s_Run_put) (defBody s_Run_put) (defScope s_Run_put) [] [] f fd) {C : Addr} (RC : RunC K C) (M_row : MthX P w K mg base CX0 1 C "row" ["self", "span"] (spRow K C)) : FnOk P w K mg base CX0 2 f fd ["self", "span", "contents"] (spPut K C) := by
  refine F.ok sc_Run_put (fun vs H Q E h => by obtain ⟨H0, r, sp, cl, d, st, z, s, m, cts, rfl, _⟩ := h; rfl) (fun cdv A outer s H vs Q E hr h => ?_)
  suffices z : ∃ t, PSs (cxOf CX0 P w K mg base ["self", "span", "contents", "cells", "cell", "content"] "Run.put" (defScope s_Run_put) f cdv A outer s H E).nox (defBody s_Run_put) t ∧ t { nx := fun _ H' => Q .non H', rt := Q } (start ["self", "span", "contents", "cells", "cell", "content"] vs) H by
    obtain ⟨t, h1, h2⟩ := z
    exact ⟨t, h1.nox, h2⟩
  have hu := hu_of hr
  have big : sizeLine = 16777216 := sizeLine_eq
  obtain ⟨H0, r, sp, cl, d, st, z, s, m, cts, rfl, ro, sn, hcl, cl1, k⟩ := h
  have m1 : (rowL z s m).length ≤ 1000 := by rw [rowL_len]; obtain ⟨_, _, _, c⟩ := sn; exact c
  refine ⟨_, (pss_cons (ps_set (i := 3) sc_Run_put.nd rfl (by first | exact Or.inl rfl | exact Or.inr rfl) (pe_fld (pv 0) rfl))
      (pss_one (ps_for PassesOwn.never rfl (pi_zip (by rfl) Tq.f_zip (pa_cons (pe_mth M_row (pv 0) (hr.mono (by decide)) pass0 (pa_cons (pv 1) pa_nil)) (pa_cons (pv 2) pa_nil))) (pg_tup rfl (pgs_cons (pg_name (i := 4) sc_Run_put.nd rfl (by first | exact Or.inl rfl | exact Or.inr rfl)) (pgs_cons (pg_name (i := 5) sc_Run_put.nd rfl (by first | exact Or.inl rfl | exact Or.inr rfl)) pgs_nil))) (pss_one (ps_dput hu (pv 3) (pv 4) (pv 5) rfl))))), ?_⟩
  refine ⟨_, rfl, r, C, d.dx, _, _, rfl, ro.obj, RC.cl, RC.n_cells, rfl, ?_⟩
  refine ⟨_, rfl, r, d.dx, _, rfl, ro.obj, rfl, _, rfl, H0, r, sp, d, st, z, s, m, rfl, ro, sn, fun q H1 s1 fq hq => ?_⟩
  have ro1 := ro.sm s1
  have hcl1 := s1 _ _ hcl
  have nq : q ≠ d.ca := fun z => by rw [z, ro1.cells] at hq; cases hq
  have ncl : cl ≠ d.ca := fun z => by rw [z, ro1.cells] at hcl1; cases hcl1
  have mn : ((rowL z s m).zip cts).length = min ((rowL z s m).map V.int).length (cts.map Cont.v).length := by rw [List.length_zip, List.length_map, List.length_map]
  have ml : ((rowL z s m).zip cts).length ≤ 1000 := by rw [List.length_zip]; omega
  refine ⟨_, rfl, q, cl, _, _, rfl, SqL.of hq, SqL.of hcl1, for_it (walk_zip mn) (fun i σ H' => ∃ v4 v5, σ = [some (.ref r), some (.ref sp), some (.ref cl), some (.ref d.ca), v4, v5] ∧ RunOk C H0 H' r d { st with cells := putAll st.cells (((rowL z s m).zip cts).take i) } ∧ But d.ca H1 H')
    ⟨none, none, rfl, ro1, But.refl _ _⟩ (fun i σ H' _ ⟨_, _, _, _, b⟩ => ⟨SqL.of (b _ _ nq hq), SqL.of (b _ _ ncl hcl1)⟩) ?_ ?_⟩
  · rintro i x σ H2 H3 hi ⟨v4, v5, rfl, ro2, b2⟩ ⟨T0, x1, x2, rfl, hT0, rfl, e1, e2⟩
    dsimp only at e1 e2
    rw [List.getElem?_map] at e1 e2
    obtain ⟨n, en, rfl⟩ := Option.map_eq_some_iff.mp e1
    obtain ⟨c, ec, rfl⟩ := Option.map_eq_some_iff.mp e2
    have ez : ((rowL z s m).zip cts)[i]? = some (n, c) := by rw [List.getElem?_zip_eq_some]; exact ⟨en, ec⟩
    refine ⟨T0, _, rfl, SqT.of upd_same, rfl, _, _, rfl, _, _, rfl, rfl, ?_⟩
    have sT := Same.new (o := .tup [.int n, c.v]) hT0
    have ro3 := ro2.sm sT
    have pl := putAll_len (((rowL z s m).zip cts).take i) st.cells
    have tl : (((rowL z s m).zip cts).take i).length ≤ 1000 := by rw [List.length_take]; omega
    refine ⟨_, rfl, _, rfl, _, rfl, d.ca, _, rfl, DPut.k (k := Sum.inl n) ro3.cells (by rw [kv_len]; show (putAll st.cells (((rowL z s m).zip cts).take i)).length < sizeLine; omega), ?_⟩
    rw [kv_put]
    have et : putAll st.cells (((rowL z s m).zip cts).take (i + 1)) = putC (putAll st.cells (((rowL z s m).zip cts).take i)) n c := by
      rw [List.take_add_one, ez, Option.toList_some, putAll_snoc]
    refine ⟨_, _, rfl, ?_, (b2.trans (But.of sT)).trans (But.upd _)⟩
    rw [et]
    exact ro3.wr (But.upd _) upd_same
  · rintro σ H2 ⟨v4, v5, rfl, ro2, b2⟩
    rw [show ((rowL z s m).zip cts).take ((rowL z s m).zip cts).length = (rowL z s m).zip cts from List.take_length] at ro2
    exact k H2 ro2
end
end K19
end
section
set_option Elab.async false
set_option linter.all false
set_option maxRecDepth 100000
set_option maxHeartbeats 4000000
namespace K19
open PySem PySem.Spec PyProof.Rows L2
open PySem.W (ke_shaped_ints)
local macro_rules | `(tactic| walk_at "go") => `(tactic| first | refine ⟨_, rfl, ?_⟩ | refine .inl ⟨_, rfl, ?_⟩ | refine ⟨_, _, rfl, rfl, (by first | (show (0 : Int) < _; decide) | exact Or.inl ⟨by decide, by decide⟩ | exact Or.inr ⟨by decide, by decide⟩), ?_⟩ | refine ⟨_, _, rfl, rfl, ?_⟩)
section
variable {P : Program} {w : World} {K : PySem.W.Frag} {mg : Str → Option Value} {base : Heap}

theorem paired_app {α β : Type} {R : α → β → Prop} : ∀ {xs : List α} {ys : List β} {xs' : List α} {ys' : List β}, Paired R xs ys → Paired R xs' ys' → Paired R (xs ++ xs') (ys ++ ys')
  | _, _, _, _, .nil, q => q
  | _, _, _, _, .cons r t, q => .cons r (paired_app t q)
theorem paired_ln {α β : Type} {R : α → β → Prop} : ∀ {xs : List α} {ys : List β}, Paired R xs ys → xs.length = ys.length
  | _, _, .nil => rfl
  | _, _, .cons _ t => by rw [List.length_cons, List.length_cons, paired_ln t]


theorem RunOk.lgw {C : Addr} {H0 H : Hp} {r : Addr} {d : RAd} {st : RSt} (h : RunOk C H0 H r d st) {es : List Addr} {e : List Int × List Int} {a : Addr} (l1 : H d.lg = some (.lst (es.map V.ref))) (l2 : Paired (EntAt H d.lg) st.log es) (ha : EntAt H d.lg e a) :
    RunOk C H0 (upd H d.lg (.lst (es.map V.ref ++ [.ref a]))) r d { st with log := st.log ++ [e] } := by
  have b : But d.lg H (upd H d.lg (.lst (es.map V.ref ++ [.ref a]))) := But.upd _
  have n : ∀ {a : Addr} {o : HO}, H a = some o → (∀ k, o ≠ .lst k) → a ≠ d.lg := fun {a o} q z w => by rw [w, l1] at q; exact z _ (Option.some.inj q).symm
  have nt : ∀ xs, H d.lg ≠ some (.tup xs) := fun xs z => by rw [l1] at z; cases z
  have nl : ∀ xs, H d.lg = some (.lst xs) → d.lg = d.lg := fun xs z => rfl
  have nha : d.ha ≠ d.lg := fun z => by
    obtain ⟨kvs, q, _⟩ := h.held
    rw [z, l1] at q
    cases q
  refine ⟨b _ _ (n h.obj fun _ z => nomatch z) h.obj, b _ _ (n h.og fun _ z => nomatch z) h.og, b _ _ h.npl h.pl, b _ _ (n h.cells fun _ z => nomatch z) h.cells, h.held.but b nha nl, b _ _ (n h.given fun _ z => nomatch z) h.given,
    ⟨es ++ [a], by rw [List.map_append]; exact upd_same, ?_⟩, fun c o q => b _ _ (fun z => by rw [z, h.flg] at q; cases q) (h.same _ _ q), h.fr, h.fpa, h.fca, h.fha, h.flg, h.npl, h.nch⟩
  exact paired_app (paired_mono (fun e a q => q.but b nt nl) l2) (.cons (ha.but b nt nl) .nil)
/-- run.note(line, read, written) -/
def spNote (K : PySem.W.Frag) (C : Addr) : Sp := fun vs H Q _ => ∃ (H0 : Hp) (r rd wr : Addr) (lv : V) (d : RAd) (st : RSt) (rds wts : List Int), vs = [.ref r, lv, .ref rd, .ref wr] ∧ RunOk C H0 H r d st ∧ H rd = some (.lst (rds.map V.int)) ∧ rd ≠ d.lg ∧ H wr = some (.lst (wts.map V.int)) ∧ wts.length ≤ 1000 ∧ (∀ n ∈ wts, ∃ c, lookC st.cells n = some c) ∧ st.log.length ≤ 1000000 ∧
  ∀ H', RunOk C H0 H' r d { st with log := st.log ++ [(rds, wts)] } → Q .non H'

abbrev s_Run_note : Stmt := inClass (topS 84) 5
theorem sc_Run_note : FnScope ["self", "line", "read", "written", "cells", "cell"] ["self", "line", "read", "written"] (defScope s_Run_note) := ⟨rfl, rfl, rfl, by decide +kernel, rfl, by decide +kernel, by decide +kernel⟩
theorem ok_run_note {f : Addr} {fd : FuncData} (T : TxtP K mg) (Tq : PL.TxtQ K w mg) (F : FunD K "note" "Run.note" (defArgs s_Run_note) (defBody s_Run_note) (defScope s_Run_note) [] [] f fd) {C : Addr} (RC : RunC K C) : FnOk P w K mg base CX0 1 f fd ["self", "line", "read", "written"] (spNote K C) := by
  refine F.ok sc_Run_note (fun vs H Q E h => by obtain ⟨H0, r, rd, wr, lv, d, st, rds, wts, rfl, _⟩ := h; rfl) (fun cdv A outer s H vs Q E hr h => ?_)
  suffices z : ∃ t, PSs (cxOf CX0 P w K mg base ["self", "line", "read", "written", "cells", "cell"] "Run.note" (defScope s_Run_note) f cdv A outer s H E).nox (defBody s_Run_note) t ∧ t { nx := fun _ H' => Q .non H', rt := Q } (start ["self", "line", "read", "written", "cells", "cell"] vs) H by
    obtain ⟨t, h1, h2⟩ := z
    exact ⟨t, h1.nox, h2⟩
  have hu := hu_of hr
  have big : sizeLine = 16777216 := sizeLine_eq
  obtain ⟨H0, r, rd, wr, lv, d, st, rds, wts, rfl, ro, hrd, nrd, hwr, w1, wk, lg1, k⟩ := h
  refine ⟨_, (pss_cons (ps_set (i := 4) sc_Run_note.nd rfl (by first | exact Or.inl rfl | exact Or.inr rfl) (pe_fld (pv 0) rfl))
      (pss_one (ps_expr (pe_bm PySem.F.plainAttrs_list PySem.F.slot_list_append PySem.F.type_list_append mt_append (pe_fld (pv 0) rfl) (pa_cons (pe_tup (pa_cons (pv 1) (pa_cons (pe_callTy call_tuple_of (by rfl) T.f_tuple (by decide +kernel) (pa_cons (pe_fld (pv 0) rfl) pa_nil)) (pa_cons (pv 2) (pa_cons (pe_lc (own := [("cell", 5)]) (g := gName 5) (tt := tYes) rfl sc_Run_note.nd (pi_list (pv 3)) (blkOk_by (N := ["self", "line", "read", "written", "cells", "cell"]) (sc := defScope s_Run_note) (by decide +kernel)) (fun _ _ _ _ _ => (pg_name (i := 5) sc_Run_note.nd rfl (Or.inl rfl))) (fun _ _ _ _ _ => pts_nil) (fun _ _ _ _ _ => (pe_tup (pa_cons (pv 5) (pa_cons (pe_dget hu (pv 4) (pv 5) (fun _ _ => rfl)) pa_nil))))) pa_nil))))) pa_nil))))), ?_⟩
  refine ⟨_, rfl, r, C, d.dx, _, _, rfl, ro.obj, RC.cl, RC.n_cells, rfl, ?_⟩
  obtain ⟨es, l1, l2⟩ := ro.log
  refine ⟨_, rfl, r, C, d.dx, _, _, rfl, ro.obj, RC.cl, RC.n_log, rfl, .inl ⟨rfl, _, SqL.of l1⟩, _, rfl, _, rfl, r, C, d.dx, _, _, rfl, ro.obj, RC.cl, RC.n_places, rfl, d.pa, _, rfl, .inl ⟨SqL.of ro.pl, fun t ht => ?_⟩⟩
  have s1 := Same.new (o := .tup (st.pl.map V.int)) ht
  have hwr1 := s1 _ _ hwr
  have hc1 := s1 _ _ ro.cells
  generalize upd H t (.tup (st.pl.map V.int)) = H1 at s1 hwr1 hc1 ⊢
  refine ⟨_, rfl, _, rfl, wr, rfl, ⟨_, SqL.of hwr1⟩, fun D hD => lc_it walk_list (fun i H' => Same H1 H' ∧ ∃ ws : List Addr, H' D = some (.lst (ws.map V.ref)) ∧ Paired (PrAt H') (wts.take i) ws) ⟨Same.new hD, [], upd_same, .nil⟩ (fun i H' _ z => SqL.of (z.1 _ _ hwr1)) ?_ ?_⟩
  · rintro i y G1 G2 hi ⟨s2, ws, h2, p2⟩ ⟨rfl, hx⟩
    rw [List.getElem?_map] at hx
    obtain ⟨n, hn, rfl⟩ := Option.map_eq_some_iff.mp hx
    rw [List.length_map] at hi
    obtain ⟨c, hc⟩ := wk n (List.mem_of_getElem? hn)
    have pl2 := paired_ln p2
    rw [List.length_take] at pl2
    refine ⟨rfl, _, rfl, _, rfl, _, rfl, d.ca, c.v, rfl, ?_, by show 2 ≤ sizeLine; decide, fun p hp => ?_⟩
    · have z := DGet.k (k := Sum.inl n) (s2 _ _ hc1)
      rw [kv_val, hc] at z
      exact z
    have sp := Same.new (o := .tup [.int n, c.v]) hp
    have h3 := sp _ _ h2
    refine ⟨_, h3, by rw [List.length_map]; omega, (s2.trans sp).put hD, ws ++ [p], by rw [List.map_append]; exact upd_same, ?_⟩
    rw [List.take_add_one, hn, Option.toList_some]
    have up : ∀ {m : Int} {w : Addr}, PrAt (upd G2 p (.tup [.int n, c.v])) m w → PrAt (upd (upd G2 p (.tup [.int n, c.v])) D (.lst (ws.map V.ref ++ [.ref p]))) m w := fun {m w} ⟨v, q⟩ => ⟨v, by rw [upd_ne (fun z => by rw [z, h3] at q; cases q)]; exact q⟩
    exact paired_app (paired_mono (fun m w ⟨v, q⟩ => up ⟨v, sp _ _ q⟩) p2) (.cons (up ⟨c.v, upd_same⟩) .nil)
  rintro G ⟨s2, ws, h2, p2⟩
  rw [List.length_map, List.take_length] at p2
  refine ⟨by show 4 ≤ sizeLine; decide, fun q hq => ?_⟩
  have sq := Same.new (o := .tup [lv, .ref t, .ref rd, .ref D]) hq
  have s3 := (s1.trans s2).trans sq
  have ro3 := ro.sm s3
  have l13 := s3 _ _ l1
  have l23 : Paired (EntAt (upd G q (.tup [lv, .ref t, .ref rd, .ref D])) d.lg) st.log es := paired_mono (fun e a z => z.same s3) l2
  have lln := paired_ln l2
  have nD : D ≠ d.lg := fun z => by rw [z, s1 _ _ l1] at hD; cases hD
  have en : EntAt (upd G q (.tup [lv, .ref t, .ref rd, .ref D])) d.lg (rds, wts) q := ⟨lv, .ref t, rd, D, ws, upd_same, s3 _ _ hrd, nrd, sq _ _ h2, nD, paired_mono (fun m w ⟨v, z⟩ => ⟨v, sq _ _ z⟩) p2⟩
  refine ⟨d.lg, _, _, rfl, rfl, l13, by rw [List.length_map]; omega, ?_⟩
  exact k _ (ro3.lgw l13 l23 en)


/-- run.begin() -/
def spBegin (K : PySem.W.Frag) (C : Addr) : Sp := fun vs H Q _ => ∃ (H0 : Hp) (r : Addr) (d : RAd) (st : RSt), vs = [.ref r] ∧ RunOk C H0 H r d st ∧ ∀ (d' : RAd) H', RunOk C H0 H' r d' { st with pl := st.og, held := fun _ => none, hn := 0 } → Q .non H'

abbrev s_Run_begin : Stmt := inClass (topS 84) 1
theorem sc_Run_begin : FnScope ["self"] ["self"] (defScope s_Run_begin) := ⟨rfl, rfl, rfl, by decide +kernel, rfl, by decide +kernel, by decide +kernel⟩
theorem ok_run_begin {f : Addr} {fd : FuncData} (T : TxtP K mg) (Tq : PL.TxtQ K w mg) (F : FunD K "begin" "Run.begin" (defArgs s_Run_begin) (defBody s_Run_begin) (defScope s_Run_begin) [] [] f fd) {C : Addr} (RC : RunC K C) : FnOk P w K mg base CX0 1 f fd ["self"] (spBegin K C) := by
  refine F.ok sc_Run_begin (fun vs H Q E h => by obtain ⟨H0, r, d, st, rfl, _⟩ := h; rfl) (fun cdv A outer s H vs Q E hr h => ?_)
  suffices z : ∃ t, PSs (cxOf CX0 P w K mg base ["self"] "Run.begin" (defScope s_Run_begin) f cdv A outer s H E).nox (defBody s_Run_begin) t ∧ t { nx := fun _ H' => Q .non H', rt := Q } (start ["self"] vs) H by
    obtain ⟨t, h1, h2⟩ := z
    exact ⟨t, h1.nox, h2⟩
  have hu := hu_of hr
  have big : sizeLine = 16777216 := sizeLine_eq
  obtain ⟨H0, r, d, st, rfl, ro, k⟩ := h
  refine ⟨_, (pss_cons (ps_fld (pv 0) (pe_callTy call_list_of (by rfl) Tq.f_list (by decide +kernel) (pa_cons (pe_fld (pv 0) rfl) pa_nil)) rfl)
      (pss_one (ps_fld (pv 0) pe_dnewK rfl))), ?_⟩
  have lt : ∀ (l : List (Str × V)), l.length ≤ 8 → l.length < 1000 := fun l h => by omega
  refine ⟨_, rfl, r, C, d.dx, _, _, rfl, ro.obj, RC.cl, RC.n_origin, rfl, d.og, _, rfl, .inr (SqT.of ro.og), fun pa hpa => ?_⟩
  have s1 := Same.new (o := .lst (st.og.map V.int)) hpa
  have ro1 := ro.sm s1
  have e1 : upd H pa (.lst (st.og.map V.int)) pa = some (.lst (st.og.map V.int)) := upd_same
  have f1 := Same.free ro.same hpa
  have npa : pa ≠ d.lg := fun z => by obtain ⟨es, l1, _⟩ := ro.log; rw [z, l1] at hpa; cases hpa
  generalize upd H pa (.lst (st.og.map V.int)) = H1 at s1 ro1 e1 ⊢
  refine ⟨_, rfl, r, C, d.dx, _, rfl, ro1.obj, RC.cl, RC.n_places, lt _ (Nat.le_of_ble_eq_true rfl), ?_⟩
  have b2 : But r H1 (upd H1 r (.ins C d.dx (putF "places" (.ref pa) (rfields (.ref d.og) (.ref d.pa) (.ref d.ca) (.ref d.ha) (.ref d.ga) (.bl st.wt) (.ref d.lg))))) := But.upd _
  have r2 : upd H1 r (.ins C d.dx (putF "places" (.ref pa) (rfields (.ref d.og) (.ref d.pa) (.ref d.ca) (.ref d.ha) (.ref d.ga) (.bl st.wt) (.ref d.lg)))) r = some (.ins C d.dx (rfields (.ref d.og) (.ref pa) (.ref d.ca) (.ref d.ha) (.ref d.ga) (.bl st.wt) (.ref d.lg))) := upd_same
  generalize upd H1 r (.ins C d.dx (putF "places" (.ref pa) (rfields (.ref d.og) (.ref d.pa) (.ref d.ca) (.ref d.ha) (.ref d.ga) (.bl st.wt) (.ref d.lg)))) = H2 at b2 r2 ⊢
  refine fun ha hha => ?_
  have s3 := Same.new (o := .dK []) hha
  have r3 := s3 _ _ r2
  have e3 : upd H2 ha (.dK []) ha = some (.dK []) := upd_same
  have b3 := b2.trans (But.of s3)
  have f3' : H1 ha = none := free_but b2 r2 hha
  have f3 : H0 ha = none := Same.free ro1.same f3'
  have nha : ha ≠ r := fun z => by rw [z, r2] at hha; cases hha
  generalize upd H2 ha (.dK []) = H3 at s3 r3 e3 b3 ⊢
  refine ⟨_, rfl, r, C, d.dx, _, rfl, r3, RC.cl, RC.n_held, lt _ (Nat.le_of_ble_eq_true rfl), ?_⟩
  have b4 : But r H1 (upd H3 r (.ins C d.dx (putF "held" (.ref ha) (rfields (.ref d.og) (.ref pa) (.ref d.ca) (.ref d.ha) (.ref d.ga) (.bl st.wt) (.ref d.lg))))) := b3.trans (But.upd _)
  have r4 : upd H3 r (.ins C d.dx (putF "held" (.ref ha) (rfields (.ref d.og) (.ref pa) (.ref d.ca) (.ref d.ha) (.ref d.ga) (.bl st.wt) (.ref d.lg)))) r = some (.ins C d.dx (rfields (.ref d.og) (.ref pa) (.ref d.ca) (.ref ha) (.ref d.ga) (.bl st.wt) (.ref d.lg))) := upd_same
  have e4 : upd H3 r (.ins C d.dx (putF "held" (.ref ha) (rfields (.ref d.og) (.ref pa) (.ref d.ca) (.ref d.ha) (.ref d.ga) (.bl st.wt) (.ref d.lg)))) ha = some (.dK []) := (upd_ne nha).trans e3
  generalize upd H3 r (.ins C d.dx (putF "held" (.ref ha) (rfields (.ref d.og) (.ref pa) (.ref d.ca) (.ref d.ha) (.ref d.ga) (.bl st.wt) (.ref d.lg)))) = H4 at b4 r4 e4 ⊢
  have n : ∀ {a : Addr} {o : HO}, H1 a = some o → (∀ c x y, o ≠ .ins c x y) → a ≠ r := fun {a o} q z w => by rw [w, ro1.obj] at q; exact z _ _ _ (Option.some.inj q).symm
  have nt : ∀ xs, H1 r ≠ some (.tup xs) := fun xs z => by rw [ro1.obj] at z; cases z
  have nl : ∀ xs, H1 r = some (.lst xs) → r = d.lg := fun xs z => by rw [ro1.obj] at z; cases z
  obtain ⟨es, l1, l2⟩ := ro1.log
  refine k ⟨d.dx, d.og, pa, d.ca, ha, d.ga, d.lg⟩ H4 ⟨r4, b4 _ _ (n ro1.og fun _ _ _ z => nomatch z) ro1.og, b4 _ _ (n e1 fun _ _ _ z => nomatch z) e1, b4 _ _ (n ro1.cells fun _ _ _ z => nomatch z) ro1.cells, ⟨[], e4, Nat.le_refl _, fun x => rfl⟩, b4 _ _ (n ro1.given fun _ _ _ z => nomatch z) ro1.given,
    ⟨es, b4 _ _ (n l1 fun _ _ _ z => nomatch z) l1, paired_mono (fun e a q => q.but b4 nt nl) l2⟩, fun a o q => b4 _ _ (fun z => by rw [z, ro1.fr] at q; cases q) (ro1.same _ _ q), ro1.fr, f1, ro1.fca, f3, ro1.flg, npa, fun z => ?_⟩
  have z' : d.ca = ha := z
  rw [← z', ro1.cells] at f3'
  cases f3'
end
end K19
end
section
set_option Elab.async false
set_option linter.all false
set_option maxRecDepth 100000
set_option maxHeartbeats 4000000
namespace K19
open PySem PySem.Spec PyProof.Rows L2
open PySem.W (ke_shaped_ints)
local macro_rules | `(tactic| walk_at "go") => `(tactic| first | refine ⟨_, rfl, ?_⟩ | refine .inl ⟨_, rfl, ?_⟩ | refine ⟨_, _, rfl, rfl, (by first | (show (0 : Int) < _; decide) | exact Or.inl ⟨by decide, by decide⟩ | exact Or.inr ⟨by decide, by decide⟩), ?_⟩ | refine ⟨_, _, rfl, rfl, ?_⟩)
section
variable {P : Program} {w : World} {K : PySem.W.Frag} {mg : Str → Option Value} {base : Heap}

def moveAll (cs : Cells) (ps : List (Int × Int)) : Cells := ps.foldl (fun cs p => putC cs p.2 (getC cs p.1)) cs
theorem moveAll_len : ∀ (ps : List (Int × Int)) (cs : Cells), (moveAll cs ps).length ≤ cs.length + ps.length
  | [], cs => Nat.le_refl _
  | p :: r, cs => by
    have h1 := moveAll_len r (putC cs p.2 (getC cs p.1))
    have h2 := put_len cs p.2 (getC cs p.1)
    show (moveAll (putC cs p.2 (getC cs p.1)) r).length ≤ cs.length + (r.length + 1)
    omega
theorem moveAll_snoc (cs : Cells) (ps : List (Int × Int)) (p : Int × Int) : moveAll cs (ps ++ [p]) = putC (moveAll cs ps) p.2 (getC (moveAll cs ps) p.1) := by
  unfold moveAll
  rw [List.foldl_append]
  rfl
/-- move_each(cells, sources, targets) -/
def spMove : Sp := fun vs H Q _ => ∃ (ca a b : Addr) (cs : Cells) (xs ys : List Int), vs = [.ref ca, .ref a, .ref b] ∧ H ca = some (.dK (kv cs)) ∧ H a = some (.lst (xs.map V.int)) ∧ H b = some (.lst (ys.map V.int)) ∧ xs.length ≤ 1000 ∧ cs.length ≤ 1000000 ∧
  ∀ H', But ca H H' → H' ca = some (.dK (kv (moveAll cs (xs.zip ys)))) → Q .non H'

abbrev s_move_each : Stmt := topS 96
theorem sc_move_each : FnScope ["cells", "sources", "targets", "source", "target"] ["cells", "sources", "targets"] (defScope s_move_each) := ⟨rfl, rfl, rfl, by decide +kernel, rfl, by decide +kernel, by decide +kernel⟩
theorem ok_move_each (T : TxtP K mg) (Tq : PL.TxtQ K w mg) (D : Def K mg "move_each" s_move_each) : Cal P w K mg base 1 "move_each" ["cells", "sources", "targets"] spMove := by
  refine D.cal sc_move_each (fun vs H Q E h => ?_) (fun _ _ _ _ _ _ us hl => match us, hl with | [_, _, _], _ => rfl) (fun f cdv A outer s H vs Q E hr h => ?_)
  · obtain ⟨ca, a, b, cs, xs, ys, rfl, _⟩ := h
    rfl
  have hu := hu_of hr

  obtain ⟨ca, a, b, cs, xs, ys, rfl, hc, hx, hy, x1, c1, k⟩ := h
  have big : sizeLine = 16777216 := sizeLine_eq
  refine ⟨_, (pss_one (ps_for PassesOwn.never rfl (pi_zip (by rfl) Tq.f_zip (pa_cons (pv 1) (pa_cons (pv 2) pa_nil))) (pg_tup rfl (pgs_cons (pg_name (i := 3) sc_move_each.nd rfl (by first | exact Or.inl rfl | exact Or.inr rfl)) (pgs_cons (pg_name (i := 4) sc_move_each.nd rfl (by first | exact Or.inl rfl | exact Or.inr rfl)) pgs_nil))) (pss_one (ps_dput hu (pv 0) (pv 4) (pe_dget2 hu (pv 0) (pv 3) (pv 3) ⟨by rfl, by rfl, by rfl, by rfl⟩) rfl)))), ?_⟩
  have na : a ≠ ca := fun z => by rw [z, hc] at hx; cases hx
  have nb : b ≠ ca := fun z => by rw [z, hc] at hy; cases hy
  have mn : (xs.zip ys).length = min (xs.map V.int).length (ys.map V.int).length := by rw [List.length_zip, List.length_map, List.length_map]
  have ml : (xs.zip ys).length ≤ 1000 := by rw [List.length_zip]; omega
  refine ⟨_, rfl, _, rfl, a, b, _, _, rfl, SqL.of hx, SqL.of hy, for_it (walk_zip mn) (fun i σ H' => ∃ v4 v5, σ = [some (.ref ca), some (.ref a), some (.ref b), v4, v5] ∧ But ca H H' ∧ H' ca = some (.dK (kv (moveAll cs ((xs.zip ys).take i)))))
    ⟨none, none, rfl, But.refl _ _, hc⟩ (fun i σ H' _ ⟨_, _, _, b, _⟩ => ⟨SqL.of (b _ _ na hx), SqL.of (b _ _ nb hy)⟩) ?_ ?_⟩
  · rintro i x σ H2 H3 hi ⟨v4, v5, rfl, b2, h2⟩ ⟨T0, x1, x2, rfl, hT0, rfl, e1, e2⟩
    dsimp only at e1 e2
    rw [List.getElem?_map] at e1 e2
    obtain ⟨n, en, rfl⟩ := Option.map_eq_some_iff.mp e1
    obtain ⟨m, em, rfl⟩ := Option.map_eq_some_iff.mp e2
    have ez : (xs.zip ys)[i]? = some (n, m) := by rw [List.getElem?_zip_eq_some]; exact ⟨en, em⟩
    refine ⟨T0, _, rfl, SqT.of upd_same, rfl, _, _, rfl, _, _, rfl, rfl, ?_⟩
    have sT := Same.new (o := .tup [.int n, .int m]) hT0
    have h3 := sT _ _ h2
    have pl := moveAll_len ((xs.zip ys).take i) cs
    have tl : ((xs.zip ys).take i).length ≤ 1000 := by rw [List.length_take]; omega
    refine ⟨_, rfl, ca, rfl, .inl ⟨_, .inl h3⟩, _, rfl, _, rfl, _, DGet.k (k := Sum.inl n) h3, _, rfl, _, rfl, ca, _, rfl, DPut.k (k := Sum.inl m) h3 (by rw [kv_len]; omega), ?_⟩
    rw [get_v, kv_put]
    have et : moveAll cs ((xs.zip ys).take (i + 1)) = putC (moveAll cs ((xs.zip ys).take i)) m (getC (moveAll cs ((xs.zip ys).take i)) n) := by
      rw [List.take_add_one, ez, Option.toList_some, moveAll_snoc]
    refine ⟨_, _, rfl, (b2.trans (But.of sT)).trans (But.upd _), ?_⟩
    rw [et]
    exact upd_same
  · rintro σ H2 ⟨v4, v5, rfl, b2, h2⟩
    rw [show (xs.zip ys).take (xs.zip ys).length = xs.zip ys from List.take_length] at h2
    exact k H2 b2 h2



def srcR (ps : List Str) (l : PL.Ln) (pl : List Int) : List Int := match srcOf ps l with
  | some p => rowL (pl.getD p.1 0) p.2.1 p.2.2
  | none => []
def tgtR (ps : List Str) (wds : Str → Option Int) (l : PL.Ln) (pl : List Int) : List Int := match tgtOf ps wds l with
  | some p => rowL (pl.getD p.1 0) p.2.1 p.2.2
  | none => []
def regOf (l : PL.Ln) : Str := match l.ds with
  | .name x :: _ => x
  | _ => ""
def numsOf (l : PL.Ln) : List Cont := l.ds.tail.map fun d => .tx ("#" ++ d.text)
/-- what a deed does -/
def doF (ps : List Str) (wds : Str → Option Int) (l : PL.Ln) (st : RSt) : RSt :=
  if l.w = "copy" then { st with cells := putAll st.cells ((tgtR ps wds l st.pl).zip ((srcR ps l st.pl).map (getC st.cells))) }
  else if l.w = "up" then { st with cells := moveAll st.cells ((srcR ps l st.pl).zip (tgtR ps wds l st.pl)) }
  else if l.w = "down" then { st with cells := moveAll st.cells ((srcR ps l st.pl).reverse.zip (tgtR ps wds l st.pl).reverse) }
  else if l.w = "store" then { st with cells := putAll st.cells ((tgtR ps wds l st.pl).zip ((st.held (regOf l)).getD [])) }
  else if l.w = "set" then { st with held := fun y => if y = regOf l then some (numsOf l) else st.held y, hn := st.hn + 1 }
  else st
structure DoOk (ps : List Str) (wds : Str → Option Int) (l : PL.Ln) (st : RSt) : Prop where
  dd : Dd wds l
  src : ∀ p, srcOf ps l = some p → p.1 < st.pl.length ∧ p.2.2.toNat ≤ 1000
  tgt : ∀ p, tgtOf ps wds l = some p → p.1 < st.pl.length ∧ p.2.2.toNat ≤ 1000
  cells : st.cells.length ≤ 900000
  hn : st.hn ≤ 1000
  held : l.w = "store" → ∃ cts, st.held (regOf l) = some cts
  nums : ∀ (x : Str) (ns : List Int), l = ⟨"set", .name x :: ns.map (.num "cell")⟩ → ∀ n ∈ ns, -100 ≤ n ∧ n ≤ 300
theorem RunOk.hw {C : Addr} {H0 H : Hp} {r : Addr} {d : RAd} {st : RSt} (h : RunOk C H0 H r d st) {kvs : List (Key × V)} {x : Str} {a : Addr} {cts : List Cont} (g1 : H d.ha = some (.dK kvs)) (g2 : kvs.length ≤ st.hn)
    (g3 : ∀ x : Str, match st.held x with | none => valV kvs (Sum.inr x) = none | some cs => ∃ a, valV kvs (Sum.inr x) = some (.ref a) ∧ H a = some (.lst (cs.map Cont.v)) ∧ a ≠ d.lg) (ha : H a = some (.lst (cts.map Cont.v))) (na : a ≠ d.lg) :
    RunOk C H0 (upd H d.ha (.dK (putK kvs (Sum.inr x) (.ref a)))) r d { st with held := fun y => if y = x then some cts else st.held y, hn := st.hn + 1 } := by
  have b : But d.ha H (upd H d.ha (.dK (putK kvs (Sum.inr x) (.ref a)))) := But.upd _
  have n : ∀ {a : Addr} {o : HO}, H a = some o → (∀ k, o ≠ .dK k) → a ≠ d.ha := fun {a o} q z w => by rw [w, g1] at q; exact z _ (Option.some.inj q).symm
  have nt : ∀ xs, H d.ha ≠ some (.tup xs) := fun xs z => by rw [g1] at z; cases z
  have nl : ∀ xs, H d.ha = some (.lst xs) → d.ha = d.lg := fun xs z => by rw [g1] at z; cases z
  obtain ⟨es, l1, l2⟩ := h.log
  refine ⟨b _ _ (n h.obj fun _ z => nomatch z) h.obj, b _ _ (n h.og fun _ z => nomatch z) h.og, b _ _ (n h.pl fun _ z => nomatch z) h.pl, b _ _ h.nch h.cells, ⟨_, upd_same, by have := length_putK kvs (Sum.inr x : Key) (V.ref a); show _ ≤ st.hn + 1; omega, fun y => ?_⟩, b _ _ (n h.given fun _ z => nomatch z) h.given,
    ⟨es, b _ _ (n l1 fun _ z => nomatch z) l1, paired_mono (fun e a q => q.but b nt nl) l2⟩, fun c o q => b _ _ (fun z => by rw [z, h.fha] at q; cases q) (h.same _ _ q), h.fr, h.fpa, h.fca, h.fha, h.flg, h.npl, h.nch⟩
  dsimp only
  rw [valV_put]
  by_cases e : y = x
  · rw [if_pos e, if_pos (by rw [e])]
    exact ⟨a, rfl, b _ _ (n ha fun _ z => nomatch z) ha, na⟩
  · rw [if_neg e, if_neg (fun z => e (Sum.inr.inj z))]
    have z := g3 y
    cases q : st.held y with
    | none => rw [q] at z; exact z
    | some cs =>
      rw [q] at z
      obtain ⟨a', e1, e2, e3⟩ := z
      exact ⟨a', e1, b _ _ (n e2 fun _ z => nomatch z) e2, e3⟩
/-- do_x(run, line) -/
def spDo (K : PySem.W.Frag) (LCc C : Addr) (wd : Str) : Sp := fun vs H Q _ => ∃ (H0 : Hp) (r o : Addr) (d : RAd) (st : RSt) (ps : List Str) (wds : Str → Option Int) (l : PL.Ln) (num : Int), vs = [.ref r, .ref o] ∧ RunOk C H0 H r d st ∧ DeedAt LCc H0 ps wds l num o ∧ l.w = wd ∧ DoOk ps wds l st ∧
  ∀ H', RunOk C H0 H' r d (doF ps wds l st) → Q .non H'
theorem spn_src {K : PySem.W.Frag} {H : Hp} {st : RSt} {ps : List Str} {l : PL.Ln} {v : V} {p : Sp3} (e : srcOf ps l = some p) (h : SpanIs H v (srcOf ps l)) (b : p.1 < st.pl.length ∧ p.2.2.toNat ≤ 1000) : ∃ a, v = .ref a ∧ SpnAt K H a st (st.pl.getD p.1 0) p.2.1 p.2.2 ∧ srcR ps l st.pl = rowL (st.pl.getD p.1 0) p.2.1 p.2.2 := by
  unfold srcR
  rw [e] at h ⊢
  obtain ⟨a, rfl, g⟩ := h
  exact ⟨a, rfl, ⟨p.1, SqT.of g, by rw [List.getD, List.getElem?_eq_getElem b.1]; rfl, b.2⟩, rfl⟩
theorem spn_tgt {K : PySem.W.Frag} {H : Hp} {st : RSt} {ps : List Str} {wds : Str → Option Int} {l : PL.Ln} {v : V} {p : Sp3} (e : tgtOf ps wds l = some p) (h : SpanIs H v (tgtOf ps wds l)) (b : p.1 < st.pl.length ∧ p.2.2.toNat ≤ 1000) : ∃ a, v = .ref a ∧ SpnAt K H a st (st.pl.getD p.1 0) p.2.1 p.2.2 ∧ tgtR ps wds l st.pl = rowL (st.pl.getD p.1 0) p.2.1 p.2.2 := by
  unfold tgtR
  rw [e] at h ⊢
  obtain ⟨a, rfl, g⟩ := h
  exact ⟨a, rfl, ⟨p.1, SqT.of g, by rw [List.getD, List.getElem?_eq_getElem b.1]; rfl, b.2⟩, rfl⟩
theorem dd_copy {wds : Str → Option Int} {l : PL.Ln} {wd : Str} (ps : List Str) (d : Dd wds l) (e : l.w = wd) (m : wd ∈ PL.Copying) : ∃ p q, srcOf ps l = some p ∧ tgtOf ps wds l = some q := by
  cases d with
  | copy _ => exact ⟨_, _, rfl, rfl⟩
  | store _ => exact absurd (show ("store" : Str) ∈ PL.Copying by have e' : ("store" : Str) = wd := e; rw [e']; exact m) (by decide +kernel)
  | set _ _ => exact absurd (show ("set" : Str) ∈ PL.Copying by have e' : ("set" : Str) = wd := e; rw [e']; exact m) (by decide +kernel)

abbrev s_do_copy : Stmt := topS 93
theorem sc_do_copy : FnScope ["run", "line"] ["run", "line"] (defScope s_do_copy) := ⟨rfl, rfl, rfl, by decide +kernel, rfl, by decide +kernel, by decide +kernel⟩
theorem ok_do_copy (T : TxtP K mg) (Tq : PL.TxtQ K w mg) (D : Def K mg "do_copy" s_do_copy) {LCc C : Addr} (LC : LineC K LCc) (RC : RunC K C) (M_taken : MthX P w K mg base CX0 2 C "taken" ["self", "span"] (spTaken K C)) (M_put : MthX P w K mg base CX0 2 C "put" ["self", "span", "contents"] (spPut K C)) : Cal P w K mg base 3 "do_copy" ["run", "line"] (spDo K LCc C "copy") := by
  refine D.cal sc_do_copy (fun vs H Q E h => ?_) (fun _ _ _ _ _ _ us hl => match us, hl with | [_, _], _ => rfl) (fun f cdv A outer s H vs Q E hr h => ?_)
  · obtain ⟨H0, r, o, d, st, ps, wds, l, num, rfl, _⟩ := h
    rfl
  have hu := hu_of hr
  obtain ⟨H0, r, o, d, st, ps, wds, l, num, rfl, ro, da, lw, ok, k⟩ := h
  have da' := da.mono (KT.of ro.same)
  obtain ⟨dx, t, tv, src, tgt, inn, oth, ho, ht, pv_, hsrc, htgt⟩ := id da'
  refine ⟨_, (pss_one (ps_expr (pe_mth M_put (pv 0) (hr.mono (by decide)) pass0 (pa_cons (pe_fld (pv 1) rfl) (pa_cons (pe_mth M_taken (pv 0) (hr.mono (by decide)) pass0 (pa_cons (pe_fld (pv 1) rfl) pa_nil)) pa_nil))))), ?_⟩
  obtain ⟨p, q, ep, eq⟩ := dd_copy ps ok.dd lw (by decide +kernel)
  obtain ⟨sa, rfl, sn, es⟩ := spn_src (K := K) (st := st) ep hsrc (ok.src _ ep)
  obtain ⟨ta, rfl, tn, et⟩ := spn_tgt (K := K) (st := st) eq htgt (ok.tgt _ eq)
  refine ⟨_, rfl, r, d.dx, _, rfl, ro.obj, rfl, _, rfl, o, LCc, dx, _, _, rfl, ho, LC.cl, LC.n_target, rfl, ?_⟩
  refine ⟨_, rfl, r, d.dx, _, rfl, ro.obj, rfl, _, rfl, o, LCc, dx, _, _, rfl, ho, LC.cl, LC.n_source, rfl, H0, r, sa, d, st, _, _, _, rfl, ro, sn, fun q1 H1 s1 fq hq => ?_⟩
  refine ⟨H0, r, ta, q1, d, st, _, _, _, _, rfl, ro.sm s1, tn.same s1, hq, by have := ok.cells; omega, fun H2 ro2 => ?_⟩
  refine k H2 ?_
  unfold doF
  rw [if_pos lw, es, et]
  exact ro2


abbrev s_do_up : Stmt := topS 94
theorem sc_do_up : FnScope ["run", "line"] ["run", "line"] (defScope s_do_up) := ⟨rfl, rfl, rfl, by decide +kernel, rfl, by decide +kernel, by decide +kernel⟩
theorem ok_do_up (T : TxtP K mg) (Tq : PL.TxtQ K w mg) (D : Def K mg "do_up" s_do_up) {LCc C : Addr} (LC : LineC K LCc) (RC : RunC K C) (M_row : MthX P w K mg base CX0 1 C "row" ["self", "span"] (spRow K C)) (C_move_each : Cal P w K mg base 1 "move_each" ["cells", "sources", "targets"] spMove) : Cal P w K mg base 3 "do_up" ["run", "line"] (spDo K LCc C "up") := by
  refine D.cal sc_do_up (fun vs H Q E h => ?_) (fun _ _ _ _ _ _ us hl => match us, hl with | [_, _], _ => rfl) (fun f cdv A outer s H vs Q E hr h => ?_)
  · obtain ⟨H0, r, o, d, st, ps, wds, l, num, rfl, _⟩ := h
    rfl
  have hu := hu_of hr
  obtain ⟨H0, r, o, d, st, ps, wds, l, num, rfl, ro, da, lw, ok, k⟩ := h
  have da' := da.mono (KT.of ro.same)
  obtain ⟨dx, t, tv, src, tgt, inn, oth, ho, ht, pv_, hsrc, htgt⟩ := id da'
  refine ⟨_, (pss_one (ps_expr (pe_cal C_move_each (hr.mono (by decide)) rfl (pa_cons (pe_fld (pv 0) rfl) (pa_cons (pe_mth M_row (pv 0) (hr.mono (by decide)) pass0 (pa_cons (pe_fld (pv 1) rfl) pa_nil)) (pa_cons (pe_mth M_row (pv 0) (hr.mono (by decide)) pass0 (pa_cons (pe_fld (pv 1) rfl) pa_nil)) pa_nil)))))), ?_⟩
  obtain ⟨p, q, ep, eq⟩ := dd_copy ps ok.dd lw (by decide +kernel)
  obtain ⟨sa, rfl, sn, es⟩ := spn_src (K := K) (st := st) ep hsrc (ok.src _ ep)
  obtain ⟨ta, rfl, tn, et⟩ := spn_tgt (K := K) (st := st) eq htgt (ok.tgt _ eq)
  refine ⟨_, rfl, r, C, d.dx, _, _, rfl, ro.obj, RC.cl, RC.n_cells, rfl, ?_⟩
  refine ⟨_, rfl, r, d.dx, _, rfl, ro.obj, rfl, _, rfl, o, LCc, dx, _, _, rfl, ho, LC.cl, LC.n_source, rfl, H0, r, sa, d, st, _, _, _, rfl, ro, sn, fun q1 H1 s1 f1 h1 => ?_⟩
  have ro1 := ro.sm s1
  refine ⟨_, rfl, r, d.dx, _, rfl, ro1.obj, rfl, _, rfl, o, LCc, dx, _, _, rfl, s1 _ _ ho, LC.cl, LC.n_target, rfl, H0, r, ta, d, st, _, _, _, rfl, ro1, tn.same s1, fun q2 H2 s2 f2 h2 => ?_⟩
  have ro2 := ro1.sm s2
  refine ⟨d.ca, q1, q2, st.cells, _, _, rfl, ro2.cells, s2 _ _ h1, h2, by rw [rowL_len]; exact (ok.src _ ep).2, by have := ok.cells; omega, fun H3 b3 h3 => ?_⟩
  refine k H3 ?_
  unfold doF
  rw [if_neg (by rw [lw]; decide +kernel), if_pos lw, es, et]
  exact ro2.wr b3 h3


abbrev s_do_down : Stmt := topS 95
theorem sc_do_down : FnScope ["run", "line"] ["run", "line"] (defScope s_do_down) := ⟨rfl, rfl, rfl, by decide +kernel, rfl, by decide +kernel, by decide +kernel⟩
theorem ok_do_down (T : TxtP K mg) (Tq : PL.TxtQ K w mg) (D : Def K mg "do_down" s_do_down) {LCc C : Addr} (LC : LineC K LCc) (RC : RunC K C) (M_row : MthX P w K mg base CX0 1 C "row" ["self", "span"] (spRow K C)) (C_move_each : Cal P w K mg base 1 "move_each" ["cells", "sources", "targets"] spMove) : Cal P w K mg base 3 "do_down" ["run", "line"] (spDo K LCc C "down") := by
  refine D.cal sc_do_down (fun vs H Q E h => ?_) (fun _ _ _ _ _ _ us hl => match us, hl with | [_, _], _ => rfl) (fun f cdv A outer s H vs Q E hr h => ?_)
  · obtain ⟨H0, r, o, d, st, ps, wds, l, num, rfl, _⟩ := h
    rfl
  have hu := hu_of hr
  obtain ⟨H0, r, o, d, st, ps, wds, l, num, rfl, ro, da, lw, ok, k⟩ := h
  have da' := da.mono (KT.of ro.same)
  obtain ⟨dx, t, tv, src, tgt, inn, oth, ho, ht, pv_, hsrc, htgt⟩ := id da'
  refine ⟨_, (pss_one (ps_expr (pe_cal C_move_each (hr.mono (by decide)) rfl (pa_cons (pe_fld (pv 0) rfl) (pa_cons (pe_revL (pe_mth M_row (pv 0) (hr.mono (by decide)) pass0 (pa_cons (pe_fld (pv 1) rfl) pa_nil))) (pa_cons (pe_revL (pe_mth M_row (pv 0) (hr.mono (by decide)) pass0 (pa_cons (pe_fld (pv 1) rfl) pa_nil))) pa_nil)))))), ?_⟩
  obtain ⟨p, q, ep, eq⟩ := dd_copy ps ok.dd lw (by decide +kernel)
  obtain ⟨sa, rfl, sn, es⟩ := spn_src (K := K) (st := st) ep hsrc (ok.src _ ep)
  obtain ⟨ta, rfl, tn, et⟩ := spn_tgt (K := K) (st := st) eq htgt (ok.tgt _ eq)
  refine ⟨_, rfl, r, C, d.dx, _, _, rfl, ro.obj, RC.cl, RC.n_cells, rfl, ?_⟩
  refine ⟨_, rfl, r, d.dx, _, rfl, ro.obj, rfl, _, rfl, o, LCc, dx, _, _, rfl, ho, LC.cl, LC.n_source, rfl, H0, r, sa, d, st, _, _, _, rfl, ro, sn, fun q1 H1 s1 f1 h1 => ?_⟩
  have ro1 := ro.sm s1
  refine ⟨q1, _, rfl, SqL.of h1, fun p1 g1 => ?_⟩
  have sp1 := Same.new (o := .lst ((rowL (st.pl.getD p.1 0) p.2.1 p.2.2).map V.int).reverse) g1
  have e1 : upd H1 p1 (.lst ((rowL (st.pl.getD p.1 0) p.2.1 p.2.2).map V.int).reverse) p1 = some (.lst ((rowL (st.pl.getD p.1 0) p.2.1 p.2.2).map V.int).reverse) := upd_same
  have ro1' := ro1.sm sp1
  have s1' := s1.trans sp1
  generalize upd H1 p1 (.lst ((rowL (st.pl.getD p.1 0) p.2.1 p.2.2).map V.int).reverse) = H1' at e1 ro1' s1' ⊢
  refine ⟨_, rfl, r, d.dx, _, rfl, ro1'.obj, rfl, _, rfl, o, LCc, dx, _, _, rfl, s1' _ _ ho, LC.cl, LC.n_target, rfl, H0, r, ta, d, st, _, _, _, rfl, ro1', tn.same s1', fun q2 H2 s2 f2 h2 => ?_⟩
  have ro2 := ro1'.sm s2
  have e2 := s2 _ _ e1
  refine ⟨q2, _, rfl, SqL.of h2, fun p2 g2 => ?_⟩
  have sp2 := Same.new (o := .lst ((rowL (st.pl.getD q.1 0) q.2.1 q.2.2).map V.int).reverse) g2
  have e3 : upd H2 p2 (.lst ((rowL (st.pl.getD q.1 0) q.2.1 q.2.2).map V.int).reverse) p2 = some (.lst ((rowL (st.pl.getD q.1 0) q.2.1 q.2.2).map V.int).reverse) := upd_same
  have ro2' := ro2.sm sp2
  have e2' := sp2 _ _ e2
  generalize upd H2 p2 (.lst ((rowL (st.pl.getD q.1 0) q.2.1 q.2.2).map V.int).reverse) = H2' at e3 ro2' e2' ⊢
  rw [← List.map_reverse] at e2' e3
  refine ⟨d.ca, p1, p2, st.cells, _, _, rfl, ro2'.cells, e2', e3, by rw [List.length_reverse, rowL_len]; exact (ok.src _ ep).2, by have := ok.cells; omega, fun H3 b3 h3 => ?_⟩
  refine k H3 ?_
  unfold doF
  rw [if_neg (by rw [lw]; decide +kernel), if_neg (by rw [lw]; decide +kernel), if_pos lw, es, et]
  exact ro2'.wr b3 h3


abbrev s_do_store : Stmt := topS 88
theorem sc_do_store : FnScope ["run", "line"] ["run", "line"] (defScope s_do_store) := ⟨rfl, rfl, rfl, by decide +kernel, rfl, by decide +kernel, by decide +kernel⟩
theorem ok_do_store (T : TxtP K mg) (Tq : PL.TxtQ K w mg) (D : Def K mg "do_store" s_do_store) {LCc C : Addr} (LC : LineC K LCc) (RC : RunC K C) (M_put : MthX P w K mg base CX0 2 C "put" ["self", "span", "contents"] (spPut K C)) : Cal P w K mg base 3 "do_store" ["run", "line"] (spDo K LCc C "store") := by
  refine D.cal sc_do_store (fun vs H Q E h => ?_) (fun _ _ _ _ _ _ us hl => match us, hl with | [_, _], _ => rfl) (fun f cdv A outer s H vs Q E hr h => ?_)
  · obtain ⟨H0, r, o, d, st, ps, wds, l, num, rfl, _⟩ := h
    rfl
  have hu := hu_of hr
  obtain ⟨H0, r, o, d, st, ps, wds, l, num, rfl, ro, da, lw, ok, k⟩ := h
  have da' := da.mono (KT.of ro.same)
  obtain ⟨dx, t, tv, src, tgt, inn, oth, ho, ht, pv_, hsrc, htgt⟩ := id da'
  refine ⟨_, (pss_one (ps_expr (pe_mth M_put (pv 0) (hr.mono (by decide)) pass0 (pa_cons (pe_fld (pv 1) rfl) (pa_cons (pe_dget hu (pe_fld (pv 0) rfl) (pe_ix ix_tup (pe_fld (pv 1) rfl) pe_int (fun _ _ => rfl)) (fun _ _ => rfl)) pa_nil))))), ?_⟩
  obtain ⟨x, z, kk, n, rfl, hw⟩ : ∃ (x z : Str) (kk n : Int), l = ⟨"store", [.name x, .spot z kk]⟩ ∧ wds x = some n := by
    cases ok.dd with
    | copy h => exact absurd (show ("store" : Str) ∈ PL.Copying by have e' : _ = ("store" : Str) := lw; rw [← e']; exact h) (by decide +kernel)
    | store h => exact ⟨_, _, _, _, rfl, h⟩
    | set _ _ => exact absurd (show ("set" : Str) = "store" from lw) (by decide +kernel)
  have eq : tgtOf ps wds ⟨"store", [.name x, .spot z kk]⟩ = some (ps.idxOf z, kk, n) := by unfold tgtOf; dsimp only; rw [hw]; rfl
  obtain ⟨ta, rfl, tn, et⟩ := spn_tgt (K := K) (st := st) eq htgt (ok.tgt _ eq)
  obtain ⟨cts, hx⟩ := ok.held rfl
  have tl : ∃ v2, tv = [.str x, v2] := by
    have p' : Paired (PL.Val H ps) [.name x, .spot z kk] tv := pv_
    rcases p' with _ | ⟨a, p'⟩
    rcases p' with _ | ⟨b, p'⟩
    cases p'
    obtain rfl : _ = V.str x := a
    exact ⟨_, rfl⟩
  obtain ⟨v2, rfl⟩ := tl
  obtain ⟨kvs, g1, g2, g3⟩ := ro.held
  have g4 := g3 x
  rw [show st.held x = some cts from hx] at g4
  obtain ⟨ha, g5, g6, g7⟩ := g4
  refine ⟨_, rfl, r, d.dx, _, rfl, ro.obj, rfl, _, rfl, o, LCc, dx, _, _, rfl, ho, LC.cl, LC.n_target, rfl, ?_⟩
  refine ⟨_, rfl, r, C, d.dx, _, _, rfl, ro.obj, RC.cl, RC.n_held, rfl, _, rfl, o, LCc, dx, _, _, rfl, ho, LC.cl, LC.n_told, rfl, t, _, _, _, rfl, rfl, SqT.of ht, atI_nat (j := 0) rfl, d.ha, .ref ha, rfl, ?_, ?_⟩
  · have q := DGet.k (k := Sum.inr x) g1
    rw [g5] at q
    exact q
  refine ⟨H0, r, ta, ha, d, st, _, _, _, cts, rfl, ro, tn, g6, by have := ok.cells; omega, fun H2 ro2 => ?_⟩
  refine k H2 ?_
  unfold doF
  dsimp only
  rw [if_neg (show ¬ ("store" : Str) = "copy" by decide +kernel), if_neg (show ¬ ("store" : Str) = "up" by decide +kernel), if_neg (show ¬ ("store" : Str) = "down" by decide +kernel), if_pos rfl, et, hx]
  exact ro2


abbrev s_do_set : Stmt := topS 89
theorem sc_do_set : FnScope ["run", "line", "number"] ["run", "line"] (defScope s_do_set) := ⟨rfl, rfl, rfl, by decide +kernel, rfl, by decide +kernel, by decide +kernel⟩
theorem ok_do_set (T : TxtP K mg) (Tq : PL.TxtQ K w mg) (D : Def K mg "do_set" s_do_set) {LCc C : Addr} (LC : LineC K LCc) (RC : RunC K C) : Cal P w K mg base 3 "do_set" ["run", "line"] (spDo K LCc C "set") := by
  refine D.cal sc_do_set (fun vs H Q E h => ?_) (fun _ _ _ _ _ _ us hl => match us, hl with | [_, _], _ => rfl) (fun f cdv A outer s H vs Q E hr h => ?_)
  · obtain ⟨H0, r, o, d, st, ps, wds, l, num, rfl, _⟩ := h
    rfl
  have hu := hu_of hr
  obtain ⟨H0, r, o, d, st, ps, wds, l, num, rfl, ro, da, lw, ok, k⟩ := h
  have da' := da.mono (KT.of ro.same)
  obtain ⟨dx, t, tv, src, tgt, inn, oth, ho, ht, pv_, hsrc, htgt⟩ := id da'
  refine ⟨_, (pss_one (ps_dput hu (pe_fld (pv 0) rfl) (pe_ix ix_tup (pe_fld (pv 1) rfl) pe_int (fun _ _ => rfl)) (pe_lc (own := [("number", 2)]) (g := gName 2) (tt := tYes) rfl sc_do_set.nd (pi_tup (pe_slice sl_tupA (pe_fld (pv 1) rfl) (po_some pe_int) po_none)) (blkOk_by (N := ["run", "line", "number"]) (sc := defScope s_do_set) (by decide +kernel)) (fun _ _ _ _ _ => (pg_name (i := 2) sc_do_set.nd rfl (Or.inl rfl))) (fun _ _ _ _ _ => pts_nil) (fun _ _ _ _ _ => (pe_joined (.cons pe_str (.cons (pe_fmt (pv 2)) .nil))))) rfl)), ?_⟩
  obtain ⟨x, ns, rfl, n1, n8⟩ : ∃ (x : Str) (ns : List Int), l = ⟨"set", .name x :: ns.map (.num "cell")⟩ ∧ 1 ≤ ns.length ∧ ns.length ≤ 8 := by
    cases ok.dd with
    | copy h => exact absurd (show ("set" : Str) ∈ PL.Copying by have e' : _ = ("set" : Str) := lw; rw [← e']; exact h) (by decide +kernel)
    | store h => exact absurd (show ("store" : Str) = "set" from lw) (by decide +kernel)
    | set h1 h2 => exact ⟨_, _, rfl, h1, h2⟩
  obtain rfl := told_set pv_
  refine ⟨_, rfl, o, LCc, dx, _, _, rfl, ho, LC.cl, LC.n_told, rfl, _, rfl, t, _, rfl, SqT.of ht, fun z => absurd z (by unfold HT.sIx; simp), fun _ q hq => ?_⟩
  rw [cut_one]
  have s1 := Same.new (o := .tup (ns.map V.int)) hq
  have e1 : upd H q (.tup (ns.map V.int)) q = some (.tup (ns.map V.int)) := upd_same
  generalize upd H q (.tup (ns.map V.int)) = H1 at s1 e1 ⊢
  refine ⟨q, rfl, ⟨_, SqT.of e1⟩, fun D hD => lc_it (te := fun σ H Q => tJs [tC (.str "#"), tFmt (tVar 2)] Str.empty σ H fun out H1 => Q (.str out) H1) walk_tup (fun i H' => Same H1 H' ∧ H' D = some (.lst (((ns.take i).map fun n => Cont.tx ("#" ++ CF.num n)).map Cont.v))) ⟨Same.new hD, upd_same⟩ (fun i H' _ z => z.1.tup (SqT.of e1)) ?_ ?_⟩
  · rintro i y G1 G2 hi ⟨s2, h2⟩ ⟨rfl, hx⟩
    rw [List.getElem?_map] at hx
    obtain ⟨n, hn, rfl⟩ := Option.map_eq_some_iff.mp hx
    rw [List.length_map] at hi
    have nb := ok.nums x ns rfl n (List.mem_of_getElem? hn)
    have nl := CF.num_len3 nb.1 nb.2
    have e1' : (("" : Str) ++ ("#" : Str)).length = 1 := by decide +kernel
    have big : sizeLine = 16777216 := sizeLine_eq
    refine ⟨rfl, _, rfl, by rw [show (Str.empty ++ ("#" : Str)) = (("" : Str) ++ ("#" : Str)) from rfl, e1', big]; omega, _, rfl, .inr ⟨n, rfl, CF.log_small3 nb.1 nb.2, _, rfl, ?_, _, h2, by rw [List.length_map, List.length_map, List.length_take]; omega, s2.put hD, ?_⟩⟩
    · show ((Str.empty ++ ("#" : Str)) ++ CF.num n).length ≤ sizeLine
      rw [CF.len_app, show (Str.empty ++ ("#" : Str)) = (("" : Str) ++ ("#" : Str)) from rfl, e1']
      omega
    · rw [List.take_add_one, hn, Option.toList_some, List.map_append, List.map_append]
      have e3 : (Str.empty ++ ("#" : Str)) ++ CF.num n = "#" ++ CF.num n := by
        rw [show (Str.empty ++ ("#" : Str)) = ("#" : Str) by decide +kernel]
      show upd G2 D (.lst (_ ++ [V.str ((Str.empty ++ ("#" : Str)) ++ CF.num n)])) D = _
      rw [e3]
      exact upd_same
  · rintro G ⟨s2, h2⟩
    rw [List.length_map, List.take_length] at h2
    have s3 := s1.trans s2
    have ro3 := ro.sm s3
    obtain ⟨kvs, g1, g2, g3⟩ := ro3.held
    have nD : D ≠ d.lg := fun z => by obtain ⟨es, l1, _⟩ := (ro.sm s1).log; rw [z, l1] at hD; cases hD
    have := ok.hn
    have big : sizeLine = 16777216 := sizeLine_eq
    refine ⟨_, rfl, r, C, d.dx, _, _, rfl, ro3.obj, RC.cl, RC.n_held, rfl, _, rfl, o, LCc, dx, _, _, rfl, s3 _ _ ho, LC.cl, LC.n_told, rfl, t, _, _, _, rfl, rfl, SqT.of (s3 _ _ ht), atI_nat (j := 0) rfl, d.ha, _, rfl, DPut.k (k := Sum.inr x) g1 (by omega), ?_⟩
    refine k _ ?_
    unfold doF
    dsimp only
    rw [if_neg (show ¬ ("set" : Str) = "copy" by decide +kernel), if_neg (show ¬ ("set" : Str) = "up" by decide +kernel), if_neg (show ¬ ("set" : Str) = "down" by decide +kernel), if_neg (show ¬ ("set" : Str) = "store" by decide +kernel), if_pos rfl]
    have en : numsOf ⟨"set", .name x :: ns.map (.num "cell")⟩ = ns.map fun n => Cont.tx ("#" ++ CF.num n) := by
      unfold numsOf
      rw [List.tail_cons, List.map_map]
      rfl
    rw [en]
    exact ro3.hw g1 g2 g3 h2 nD

end
end K19
end
section
set_option Elab.async false
set_option linter.all false
set_option maxRecDepth 100000
set_option maxHeartbeats 4000000
namespace K19
open PySem PySem.Spec PyProof.Rows L2
open PySem.W (ke_shaped_ints)
local macro_rules | `(tactic| walk_at "go") => `(tactic| first | refine ⟨_, rfl, ?_⟩ | refine .inl ⟨_, rfl, ?_⟩ | refine ⟨_, _, rfl, rfl, (by first | (show (0 : Int) < _; decide) | exact Or.inl ⟨by decide, by decide⟩ | exact Or.inr ⟨by decide, by decide⟩), ?_⟩ | refine ⟨_, _, rfl, rfl, ?_⟩)
section
variable {P : Program} {w : World} {K : PySem.W.Frag} {mg : Str → Option Value} {base : Heap}

def DeedWords : List Str := ["copy", "up", "down", "store", "set"]
/-- the table of the deeds -/
structure DeedTab (P : Program) (w : World) (K : PySem.W.Frag) (mg : Str → Option Value) (base : Heap) (LCc C : Addr) : Prop where
  g : mg "DEEDS" = some (.ref (He.ga K "DEEDS"))
  d : ∃ es n, KDict K w (He.ga K "DEEDS") es n
  v : ∀ wd ∈ DeedWords, ∃ (f : Addr) (fd : FuncData), PySem.W.nsIn K (He.ga K "DEEDS") wd = some (some (.ref f)) ∧ FnOk P w K mg base CX0 3 f fd ["run", "line"] (spDo K LCc C wd) ∧ PySem.W.keepIn K (.ref f) = true ∧ Binds K fd ["run", "line"] []
theorem pe_deed {X : Cx} {LCc C : Addr} {i : Nat} {x : Str} {p pos : Pos} {e : Expr} {es : List Expr} {t : TA} (D : DeedTab X.prog X.w X.K X.mg X.base LCc C) (hr : Room 3 X.A) (hN : X.N[i]? = some x) (hv : Vis X.env.scope x) (ha : PA X (e :: es) t)
    (hdb : (x == ("__debug__" : Str)) = false := by decide) (hcd : (x == ("__classdict__" : Str)) = false := by decide)
    (he : starEach (e :: es) X.env = (false, eval e X.env) :: starEach es X.env := by rfl) (hpl : (backTo pos (starEach es X.env)).any (·.1) = false := by rfl) :
    PE X (.Call (.Name x p) (e :: es) [] pos) (fun σ H Q => ∃ wd f, wd ∈ DeedWords ∧ PySem.W.nsIn X.K (He.ga X.K "DEEDS") wd = some (some (.ref f)) ∧ tCallL i f (spDo X.K LCc C wd) [] E0 t σ H Q) := by
  refine ⟨fun pins s σ H Q I h => ?_⟩
  obtain ⟨wd, f, hw, hf, q⟩ := h
  obtain ⟨f', fd, h1, h2, h3, h4⟩ := D.v wd hw
  rw [h1] at hf
  cases hf
  exact (pe_callL h2 hr hN hv h3 h4 .nil pass0 ha hdb hcd he hpl).run pins s σ H Q I q
theorem dd_words {wds : Str → Option Int} {l : PL.Ln} (d : Dd wds l) : l.w ∈ DeedWords := by
  cases d with
  | copy h =>
    simp only [PL.Copying, List.mem_cons, List.not_mem_nil, or_false] at h
    rcases h with rfl | rfl | rfl
    · exact (show ("copy" : Str) ∈ DeedWords by decide +kernel)
    · exact (show ("up" : Str) ∈ DeedWords by decide +kernel)
    · exact (show ("down" : Str) ∈ DeedWords by decide +kernel)
  | store _ => exact (show ("store" : Str) ∈ DeedWords by decide +kernel)
  | set _ _ => exact (show ("set" : Str) ∈ DeedWords by decide +kernel)
theorem doF_pl (ps : List Str) (wds : Str → Option Int) (l : PL.Ln) (st : RSt) : (doF ps wds l st).pl = st.pl ∧ (doF ps wds l st).wt = st.wt ∧ (doF ps wds l st).log = st.log ∧ (doF ps wds l st).og = st.og := by
  unfold doF
  split
  · exact ⟨rfl, rfl, rfl, rfl⟩
  · split
    · exact ⟨rfl, rfl, rfl, rfl⟩
    · split
      · exact ⟨rfl, rfl, rfl, rfl⟩
      · split
        · exact ⟨rfl, rfl, rfl, rfl⟩
        · split <;> exact ⟨rfl, rfl, rfl, rfl⟩
/-- what a line does, with what is noted of it -/
def lineF (ps : List Str) (wds : Str → Option Int) (l : PL.Ln) (st : RSt) : RSt :=
  if st.wt = true then { doF ps wds l st with log := st.log ++ [(srcR ps l st.pl, tgtR ps wds l st.pl)] } else doF ps wds l st
structure LineOk (ps : List Str) (wds : Str → Option Int) (l : PL.Ln) (st : RSt) : Prop where
  ok : DoOk ps wds l st
  told : st.wt = true → (∀ n ∈ tgtR ps wds l st.pl, ∃ c, lookC (doF ps wds l st).cells n = some c) ∧ (tgtR ps wds l st.pl).length ≤ 1000 ∧ st.log.length ≤ 900000
/-- do_line(run, line) -/
def spDoLine (K : PySem.W.Frag) (LCc C : Addr) : Sp := fun vs H Q _ => ∃ (H0 : Hp) (r o : Addr) (d : RAd) (st : RSt) (ps : List Str) (wds : Str → Option Int) (l : PL.Ln) (num : Int), vs = [.ref r, .ref o] ∧ RunOk C H0 H r d st ∧ DeedAt LCc H0 ps wds l num o ∧ LineOk ps wds l st ∧
  ∀ H', RunOk C H0 H' r d (lineF ps wds l st) → Q .non H'
/-- a span's row, or the empty list -/
theorem spn_row {K : PySem.W.Frag} {H : Hp} {st : RSt} {v : V} {s : Option Sp3} (h : SpanIs H v s) (b : ∀ p, s = some p → p.1 < st.pl.length ∧ p.2.2.toNat ≤ 1000) : (v = .non ∧ s = none) ∨ ∃ a p, v = .ref a ∧ s = some p ∧ SpnAt K H a st (st.pl.getD p.1 0) p.2.1 p.2.2 := by
  cases s with
  | none => exact .inl ⟨h, rfl⟩
  | some p =>
    obtain ⟨a, rfl, g⟩ := h
    have b' := b p rfl
    exact .inr ⟨a, p, rfl, rfl, p.1, SqT.of g, by rw [List.getD, List.getElem?_eq_getElem b'.1]; rfl, b'.2⟩

abbrev s_do_line : Stmt := topS 100
theorem sc_do_line : FnScope ["run", "line", "deed", "read", "written"] ["run", "line"] (defScope s_do_line) := ⟨rfl, rfl, rfl, by decide +kernel, rfl, by decide +kernel, by decide +kernel⟩
theorem ok_do_line (T : TxtP K mg) (Tq : PL.TxtQ K w mg) (D : Def K mg "do_line" s_do_line) {LCc C : Addr} (LC : LineC K LCc) (RC : RunC K C) (DTb : DeedTab P w K mg base LCc C) (M_row : MthX P w K mg base CX0 1 C "row" ["self", "span"] (spRow K C)) (M_note : MthX P w K mg base CX0 1 C "note" ["self", "line", "read", "written"] (spNote K C)) : Cal P w K mg base 4 "do_line" ["run", "line"] (spDoLine K LCc C) := by
  refine D.cal sc_do_line (fun vs H Q E h => ?_) (fun _ _ _ _ _ _ us hl => match us, hl with | [_, _], _ => rfl) (fun f cdv A outer s H vs Q E hr h => ?_)
  · obtain ⟨H0, r, o, d, st, ps, wds, l, num, rfl, _⟩ := h
    rfl
  have hu := hu_of hr
  obtain ⟨H0, r, o, d, st, ps, wds, l, num, rfl, ro, da, lok, k⟩ := h
  have da' := da.mono (KT.of ro.same)
  obtain ⟨dx, t, tv, src, tgt, inn, oth, ho, ht, pv_, hsrc, htgt⟩ := id da'
  have hw := dd_words lok.ok.dd
  obtain ⟨f1, fd1, h1, h2, h3, h4⟩ := DTb.v l.w hw
  refine ⟨_, (pss_cons (ps_set (i := 2) sc_do_line.nd rfl (by first | exact Or.inl rfl | exact Or.inr rfl) (pe_ix ix_kdict (pe_gref (by rfl) DTb.g) (pe_fld (pv 1) rfl) (fun _ _ => rfl)))
      (pss_cons (ps_expr (pe_deed (i := 2) DTb (hr.mono (by decide)) rfl (.inl rfl) (pa_cons (pv 0) (pa_cons (pv 1) pa_nil))))
      (pss_one (ps_if (pt_truth (pe_fld (pv 0) rfl) (by intro _; rfl)) (C8.pss_cut (ps_set (i := 3) sc_do_line.nd rfl (by first | exact Or.inl rfl | exact Or.inr rfl) (pe_ifExp (pt_cmpR op_isN (pe_fld (pv 1) rfl) pe_non (nomark _)) (pe_lst pa_nil) (pe_mth M_row (pv 0) (hr.mono (by decide)) pass0 (pa_cons (pe_fld (pv 1) rfl) pa_nil))))
      (C8.pss_cut (ps_set (i := 4) sc_do_line.nd rfl (by first | exact Or.inl rfl | exact Or.inr rfl) (pe_ifExp (pt_cmpR op_isN (pe_fld (pv 1) rfl) pe_non (nomark _)) (pe_lst pa_nil) (pe_mth M_row (pv 0) (hr.mono (by decide)) pass0 (pa_cons (pe_fld (pv 1) rfl) pa_nil))))
      (pss_one (ps_expr (pe_mth M_note (pv 0) (hr.mono (by decide)) pass0 (pa_cons (pv 1) (pa_cons (pv 3) (pa_cons (pv 4) pa_nil)))))))) pss_nil)))), ?_⟩
  refine ⟨_, rfl, o, LCc, dx, _, _, rfl, ho, LC.cl, LC.n_word, rfl, He.ga K "DEEDS", l.w, .ref f1, rfl, rfl, PL.kdct DTb.d h1 rfl, ?_⟩
  refine ⟨l.w, f1, hw, h1, rfl, _, rfl, _, rfl, H0, r, o, d, st, ps, wds, l, num, rfl, ro, da, rfl, lok.ok, fun H1 ro1 => ?_⟩
  obtain ⟨ep, ew, el, eo⟩ := doF_pl ps wds l st
  refine ⟨_, rfl, r, C, d.dx, _, _, rfl, ro1.obj, RC.cl, RC.n_watched, rfl, ?_⟩
  rw [ew]
  cases hwt : st.wt with
  | false =>
    refine ⟨false, rfl, iteF ?_⟩
    refine k H1 ?_
    unfold lineF
    rw [hwt, if_neg (by decide)]
    exact ro1
  | true =>
    refine ⟨true, rfl, iteT ?_⟩
    obtain ⟨t1, t2, t3⟩ := lok.told hwt
    have ho1 := ro1.same.trans (Same.refl _)
    obtain ⟨dx', t', tv', src', tgt', inn', oth', hO, _, _, hS, hT⟩ := da.mono (KT.of ro1.same)
    have ps' := ep
    refine ⟨fun σ' H' => ∃ rd : Addr, σ' = [some (.ref r), some (.ref o), some (.ref f1), some (.ref rd), none] ∧ Same H1 H' ∧ H1 rd = none ∧ H' rd = some (.lst ((srcR ps l st.pl).map V.int)), ?_, ?_⟩
    · rcases spn_row (K := K) (st := doF ps wds l st) hS (by rw [ep]; exact lok.ok.src) with ⟨e1, e2⟩ | ⟨a, p, e1, e2, e3⟩
      · subst e1
        refine ⟨_, rfl, o, LCc, dx', _, _, rfl, hO, LC.cl, LC.n_source, rfl, rfl, _, rfl, ite2 (fun _ => ⟨by show 0 ≤ sizeLine; decide, fun q hq => ⟨q, rfl, Same.new hq, hq, ?_⟩⟩) (fun c => absurd (decide_eq_true rfl) c)⟩
        unfold srcR
        rw [e2]
        exact upd_same
      · subst e1
        refine ⟨_, rfl, o, LCc, dx', _, _, rfl, hO, LC.cl, LC.n_source, rfl, rfl, _, rfl, ite2 (fun c => absurd (of_decide_eq_true c) (fun z => by cases z)) (fun _ => ?_)⟩
        refine ⟨_, rfl, r, d.dx, _, rfl, ro1.obj, rfl, _, rfl, o, LCc, dx', _, _, rfl, hO, LC.cl, LC.n_source, rfl, H0, r, a, d, _, _, _, _, rfl, ro1, e3, fun q H2 s2 f2 h2 => ⟨q, rfl, s2, f2, ?_⟩⟩
        unfold srcR
        rw [e2, ← ep]
        exact h2
    rintro σ' H2 ⟨rd, rfl, s2, frd, hrd⟩
    have ro2 := ro1.sm s2
    refine ⟨fun σ' H' => ∃ wr : Addr, σ' = [some (.ref r), some (.ref o), some (.ref f1), some (.ref rd), some (.ref wr)] ∧ Same H2 H' ∧ H' wr = some (.lst ((tgtR ps wds l st.pl).map V.int)), ?_, ?_⟩
    · have hT2 := hT.same s2
      rcases spn_row (K := K) (st := doF ps wds l st) hT2 (by rw [ep]; exact lok.ok.tgt) with ⟨e1, e2⟩ | ⟨a, p, e1, e2, e3⟩
      · subst e1
        refine ⟨_, rfl, o, LCc, dx', _, _, rfl, s2 _ _ hO, LC.cl, LC.n_target, rfl, rfl, _, rfl, ite2 (fun _ => ⟨by show 0 ≤ sizeLine; decide, fun q hq => ⟨q, rfl, Same.new hq, ?_⟩⟩) (fun c => absurd (decide_eq_true rfl) c)⟩
        unfold tgtR
        rw [e2]
        exact upd_same
      · subst e1
        refine ⟨_, rfl, o, LCc, dx', _, _, rfl, s2 _ _ hO, LC.cl, LC.n_target, rfl, rfl, _, rfl, ite2 (fun c => absurd (of_decide_eq_true c) (fun z => by cases z)) (fun _ => ?_)⟩
        refine ⟨_, rfl, r, d.dx, _, rfl, ro2.obj, rfl, _, rfl, o, LCc, dx', _, _, rfl, s2 _ _ hO, LC.cl, LC.n_target, rfl, H0, r, a, d, _, _, _, _, rfl, ro2, e3, fun q H3 s3 f3 h3 => ⟨q, rfl, s3, ?_⟩⟩
        unfold tgtR
        rw [e2, ← ep]
        exact h3
    rintro σ' H3 ⟨wr, rfl, s3, hwr⟩
    have ro3 := ro2.sm s3
    have nrd : rd ≠ d.lg := fun z => by obtain ⟨es, l1, _⟩ := ro1.log; rw [z, l1] at frd; cases frd
    refine ⟨_, rfl, r, d.dx, _, rfl, ro3.obj, rfl, _, rfl, _, rfl, _, rfl, H0, r, rd, wr, _, d, _, _, _, rfl, ro3, s3 _ _ hrd, nrd, hwr, t2, t1, by rw [el]; omega, fun H4 ro4 => ?_⟩
    refine k H4 ?_
    unfold lineF
    rw [hwt, if_pos rfl]
    rw [el] at ro4
    exact ro4

end
end K19
end
section
set_option Elab.async false
set_option linter.all false
set_option maxRecDepth 100000
set_option maxHeartbeats 4000000
namespace K19
open PySem PySem.Spec PyProof.Rows L2
open PySem.W (ke_shaped_ints)
local macro_rules | `(tactic| walk_at "go") => `(tactic| first | refine ⟨_, rfl, ?_⟩ | refine .inl ⟨_, rfl, ?_⟩ | refine ⟨_, _, rfl, rfl, (by first | (show (0 : Int) < _; decide) | exact Or.inl ⟨by decide, by decide⟩ | exact Or.inr ⟨by decide, by decide⟩), ?_⟩ | refine ⟨_, _, rfl, rfl, ?_⟩)
section
variable {P : Program} {w : World} {K : PySem.W.Frag} {mg : Str → Option Value} {base : Heap}

def rep {α : Type} (f : α → α) : Nat → α → α
  | 0, a => a
  | k + 1, a => f (rep f k a)
/-- what a block does -/
def runT (ps : List Str) (wds : Str → Option Int) : Tr → RSt → RSt
  | .nil, st => st
  | .deed l r, st => runT ps wds r (lineF ps wds l st)
  | .times n b r, st => runT ps wds r (rep (runT ps wds b) n.toNat st)
def okT (ps : List Str) (wds : Str → Option Int) : Tr → RSt → Prop
  | .nil, _ => True
  | .deed l r, st => LineOk ps wds l st ∧ okT ps wds r (lineF ps wds l st)
  | .times n b r, st => (∀ k, k < n.toNat → okT ps wds b (rep (runT ps wds b) k st)) ∧ okT ps wds r (rep (runT ps wds b) n.toNat st)
/-- do_block(run, block) -/
def spDoBlock (K : PySem.W.Frag) (LCc C : Addr) (n : Nat) : Sp := fun vs H Q _ => ∃ (H0 : Hp) (r bt : Addr) (bs : List Addr) (d : RAd) (st : RSt) (ps : List Str) (wds : Str → Option Int) (t : Tr) (i : Nat), vs = [.ref r, .ref bt] ∧ RunOk C H0 H r d st ∧ H0 bt = some (.tup (bs.map V.ref)) ∧ BlkAt LCc H0 ps wds t i bs ∧ t.depth < n ∧ t.Ok wds ∧ okT ps wds t st ∧
  ∀ H', RunOk C H0 H' r d (runT ps wds t st) → Q .non H'
abbrev s_do_block : Stmt := topS 102
theorem sc_do_block : FnScope ["run", "block", "line", "_", "name", "width", "index"] ["run", "block"] (defScope s_do_block) := ⟨rfl, rfl, rfl, by decide +kernel, rfl, by decide +kernel, by decide +kernel⟩
theorem do_block_0 {LCc C : Addr} (D : Def K mg "do_block" s_do_block) : Cal P w K mg base 5 "do_block" ["run", "block"] (spDoBlock K LCc C 0) := by
  refine D.cal sc_do_block (fun vs H Q E h => ?_) (fun _ _ _ _ _ _ us hl => match us, hl with | [_, _], _ => rfl) (fun f cdv A outer s H vs Q E hr h => ?_)
  · obtain ⟨_, _, _, _, _, _, _, _, _, _, rfl, _⟩ := h
    rfl
  · obtain ⟨_, _, _, _, _, _, _, _, _, _, _, _, _, _, z, _⟩ := h
    exact absurd z (Nat.not_lt_zero _)
theorem do_block_1 {LCc C : Addr} {n : Nat} (T : TxtP K mg) (Tq : PL.TxtQ K w mg) (D : Def K mg "do_block" s_do_block) (LC : LineC K LCc) (RC : RunC K C) (C_do_line : Cal P w K mg base 4 "do_line" ["run", "line"] (spDoLine K LCc C)) (C_do_block : Cal P w K mg base (n + 5) "do_block" ["run", "block"] (spDoBlock K LCc C n)) : Cal P w K mg base (n + 6) "do_block" ["run", "block"] (spDoBlock K LCc C (n + 1)) := by
  refine D.cal sc_do_block (fun vs H Q E h => ?_) (fun _ _ _ _ _ _ us hl => match us, hl with | [_, _], _ => rfl) (fun f cdv A outer s H vs Q E hr h => ?_)
  · obtain ⟨_, _, _, _, _, _, _, _, _, _, rfl, _⟩ := h
    rfl
  have hu := hu_of hr
  obtain ⟨H0, r, bt, bs, d, st, ps, wds, t, i, rfl, ro, hB, blk, td, tok, ok, k⟩ := h
  refine ⟨_, (pss_one (ps_for PassesOwn.never rfl (pi_tup (pv 1)) (pg_name (i := 2) sc_do_block.nd rfl (by first | exact Or.inl rfl | exact Or.inr rfl)) (pss_one (ps_if (pt_cmpR op_eq (pe_fld (pv 2) rfl) pe_str (nomark _)) (pss_one (ps_for PassesOwn.never rfl (pi_range1 rfl Tq.f_range (pa_cons (pe_ix ix_tup (pe_fld (pv 2) rfl) pe_int (fun _ _ => rfl)) pa_nil)) (pg_name (i := 3) sc_do_block.nd rfl (by first | exact Or.inl rfl | exact Or.inr rfl)) (pss_one (ps_expr (pe_cal C_do_block (hr.mono (by omega)) rfl (pa_cons (pv 0) (pa_cons (pe_fld (pv 2) rfl) pa_nil))))))) (pss_one (ps_if (pt_cmpR op_eq (pe_fld (pv 2) rfl) pe_str (nomark _)) (pss_one (ps_expr PL.pe_never)) (pss_one (ps_if (pt_cmpR op_eq (pe_fld (pv 2) rfl) pe_str (nomark _)) (pss_cons (ps_asg (pe_fld (pv 2) rfl) (pg_tup rfl (pgs_cons (pg_name (i := 4) sc_do_block.nd rfl (by first | exact Or.inl rfl | exact Or.inr rfl)) (pgs_cons (pg_name (i := 5) sc_do_block.nd rfl (by first | exact Or.inl rfl | exact Or.inr rfl)) pgs_nil))))
      (pss_one (ps_dput hu (pe_fld (pv 0) rfl) (pv 4) PL.pe_never rfl))) (pss_one (ps_if (pt_cmpR op_eq (pe_fld (pv 2) rfl) pe_str (nomark _)) (pss_one (ps_fld (pv 0) PL.pe_never rfl)) (pss_one (ps_if (pt_cmpR op_eq (pe_fld (pv 2) rfl) pe_str (nomark _)) (pss_one (ps_expr PL.pe_never)) (pss_one (ps_expr (pe_cal C_do_line (hr.mono (by omega)) rfl (pa_cons (pv 0) (pa_cons (pv 2) pa_nil))))))))))))))))), ?_⟩
  refine ⟨_, rfl, bt, rfl, ⟨_, SqT.of (ro.same _ _ hB)⟩, for_it walk_tup (fun j σ H' => ∃ (v2 v3 v4 v5 v6 : Option V) (t' : Tr) (i' : Nat) (st' : RSt), σ = [some (.ref r), some (.ref bt), v2, v3, v4, v5, v6] ∧ RunOk C H0 H' r d st' ∧ BlkAt LCc H0 ps wds t' i' (bs.drop j) ∧ t'.depth < n + 1 ∧ t'.Ok wds ∧ okT ps wds t' st' ∧ runT ps wds t' st' = runT ps wds t st)
    ⟨none, none, none, none, none, t, i, st, rfl, ro, blk, td, tok, ok, rfl⟩ (fun j σ H' _ ⟨_, _, _, _, _, _, _, _, _, z, _⟩ => SqT.of (z.same _ _ hB)) ?_ ?_⟩
  · rintro j x σ H2 H3 hj ⟨v2, v3, v4, v5, v6, t', i', st', rfl, ro2, blk2, td2, tok2, ok2, e2⟩ ⟨rfl, hx⟩
    rw [List.getElem?_map] at hx
    obtain ⟨o, ho, rfl⟩ := Option.map_eq_some_iff.mp hx
    have hj' := (List.getElem?_eq_some_iff.mp ho).1
    have hd : bs.drop j = o :: bs.drop (j + 1) := by rw [List.drop_eq_getElem_cons hj', (List.getElem?_eq_some_iff.mp ho).2]
    rw [hd] at blk2
    cases t' with
    | nil => cases blk2
    | deed l r' =>
      obtain ⟨o', bs', e, da, blk3⟩ := blk2
      cases e
      obtain ⟨dok, rok⟩ := tok2
      obtain ⟨lok, ok3⟩ := ok2
      obtain ⟨m1, m2, m3, m4, m5, m6, m7, m8, m9⟩ := dok.word
      obtain ⟨dx, tt, tv, src, tgt, inn, oth, hO, _⟩ := id (da.mono (KT.of ro2.same))
      refine ⟨_, rfl, o, LCc, dx, _, _, rfl, hO, LC.cl, LC.n_word, rfl, rfl, _, rfl, ite2 (fun c => absurd (V.str.inj (of_decide_eq_true c)) m2) (fun _ => ?_)⟩
      refine ⟨_, rfl, o, LCc, dx, _, _, rfl, hO, LC.cl, LC.n_word, rfl, rfl, _, rfl, ite2 (fun c => absurd (V.str.inj (of_decide_eq_true c)) m3) (fun _ => ?_)⟩
      refine ⟨_, rfl, o, LCc, dx, _, _, rfl, hO, LC.cl, LC.n_word, rfl, rfl, _, rfl, ite2 (fun c => absurd (V.str.inj (of_decide_eq_true c)) m8) (fun _ => ?_)⟩
      refine ⟨_, rfl, o, LCc, dx, _, _, rfl, hO, LC.cl, LC.n_word, rfl, rfl, _, rfl, ite2 (fun c => absurd (V.str.inj (of_decide_eq_true c)) m9) (fun _ => ?_)⟩
      refine ⟨_, rfl, o, LCc, dx, _, _, rfl, hO, LC.cl, LC.n_word, rfl, rfl, _, rfl, ite2 (fun c => absurd (V.str.inj (of_decide_eq_true c)) m4) (fun _ => ?_)⟩
      exact ⟨_, rfl, _, rfl, H0, r, o, d, st', ps, wds, l, _, rfl, ro2, da, lok, fun H4 ro4 => ⟨_, _, _, _, _, r', i' + 1, _, rfl, ro4, blk3, td2, rok, ok3, e2⟩⟩
    | times nn b r' =>
      obtain ⟨o', bs', dx, tt, bt2, xs, oth, e, hO, hT, hB2, blkB, blk3⟩ := blk2
      cases e
      obtain ⟨⟨n1, n5⟩, bok, rok⟩ := tok2
      obtain ⟨okb, ok3⟩ := ok2
      have td3 : b.depth < n ∧ r'.depth < n + 1 := by
        have z : max (b.depth + 1) r'.depth < n + 1 := td2
        have := Nat.le_max_left (b.depth + 1) r'.depth
        have := Nat.le_max_right (b.depth + 1) r'.depth
        omega
      have hO2 := ro2.same _ _ hO
      have hT2 := ro2.same _ _ hT
      refine ⟨_, rfl, o, LCc, dx, _, _, rfl, hO2, LC.cl, LC.n_word, rfl, rfl, _, rfl, ite2 (fun _ => ?_) (fun c => absurd (decide_eq_true rfl) c)⟩
      refine ⟨_, rfl, o, LCc, dx, _, _, rfl, hO2, LC.cl, LC.n_told, rfl, tt, _, _, _, rfl, rfl, SqT.of hT2, atI_nat (j := 0) rfl, ?_⟩
      refine ⟨nn, rfl, by omega, by omega, for_it walk_range (fun q σ H' => ∃ v3, σ = [some (.ref r), some (.ref bt), some (.ref o), v3, v4, v5, v6] ∧ RunOk C H0 H' r d (rep (runT ps wds b) q st')) ⟨v3, rfl, ro2⟩ (fun _ _ _ _ _ => True.intro) ?_ ?_⟩
      · rintro q x σ H4 H5 hq ⟨v3, rfl, ro4⟩ ⟨rfl, rfl⟩
        refine ⟨_, rfl, _, rfl, o, LCc, dx, _, _, rfl, ro4.same _ _ hO, LC.cl, LC.n_inner, rfl, H0, r, bt2, xs, d, _, ps, wds, b, _, rfl, ro4, hB2, blkB, td3.1, bok, okb q hq, fun H6 ro6 => ?_⟩
        exact ⟨_, rfl, ro6⟩
      · rintro σ H4 ⟨v3, rfl, ro4⟩
        exact ⟨_, _, _, _, _, r', _, _, rfl, ro4, blk3, td3.2, rok, ok3, e2⟩
  · rintro σ H2 ⟨v2, v3, v4, v5, v6, t', i', st', rfl, ro2, blk2, td2, tok2, ok2, e2⟩
    rw [show bs.drop (bs.map V.ref).length = [] from List.drop_of_length_le (by rw [List.length_map]; exact Nat.le_refl _)] at blk2
    cases t' with
    | nil =>
      refine k H2 ?_
      rw [← e2]
      exact ro2
    | deed l r' => obtain ⟨_, _, e, _⟩ := blk2; cases e
    | times n b r' => obtain ⟨_, _, _, _, _, _, _, e, _⟩ := blk2; cases e
end
end K19
end
section
set_option Elab.async false
set_option linter.all false
set_option maxRecDepth 100000
set_option maxHeartbeats 4000000
namespace K19
open PySem PySem.Spec PyProof.Rows L2
open PySem.W (ke_shaped_ints)
local macro_rules | `(tactic| walk_at "go") => `(tactic| first | refine ⟨_, rfl, ?_⟩ | refine .inl ⟨_, rfl, ?_⟩ | refine ⟨_, _, rfl, rfl, (by first | (show (0 : Int) < _; decide) | exact Or.inl ⟨by decide, by decide⟩ | exact Or.inr ⟨by decide, by decide⟩), ?_⟩ | refine ⟨_, _, rfl, rfl, ?_⟩)
section
variable {P : Program} {w : World} {K : PySem.W.Frag} {mg : Str → Option Value} {base : Heap}

theorem RunOk.reb {C : Addr} {H0 H : Hp} {r : Addr} {d : RAd} {st : RSt} (h : RunOk C H0 H r d st) : RunOk C (fun a => if a = r ∨ a = d.pa ∨ a = d.ca ∨ a = d.ha ∨ a = d.lg then none else H a) H r d st := by
  refine ⟨h.obj, h.og, h.pl, h.cells, h.held, h.given, h.log, fun a o e => ?_, if_pos (.inl rfl), if_pos (.inr (.inl rfl)), if_pos (.inr (.inr (.inl rfl))), if_pos (.inr (.inr (.inr (.inl rfl)))), if_pos (.inr (.inr (.inr (.inr rfl)))), h.npl, h.nch⟩
  have e' : (if a = r ∨ a = d.pa ∨ a = d.ca ∨ a = d.ha ∨ a = d.lg then none else H a) = some o := e
  split at e'
  · cases e'
  · exact e'
theorem RunOk.reb_same {C : Addr} {H0 H : Hp} {r : Addr} {d : RAd} {st : RSt} (h : RunOk C H0 H r d st) : Same H0 (fun a => if a = r ∨ a = d.pa ∨ a = d.ca ∨ a = d.ha ∨ a = d.lg then none else H a) := fun a o e => by
  have n : ∀ {x : Addr}, H0 x = none → a ≠ x := fun {x} z w => by rw [w, z] at e; cases e
  show (if a = r ∨ a = d.pa ∨ a = d.ca ∨ a = d.ha ∨ a = d.lg then none else H a) = some o
  rw [if_neg (fun z => z.elim (n h.fr) fun z => z.elim (n h.fpa) fun z => z.elim (n h.fca) fun z => z.elim (n h.fha) (n h.flg))]
  exact h.same _ _ e
theorem RunOk.back {C : Addr} {H0 H H' : Hp} {r : Addr} {d d' : RAd} {st st' : RSt} (h : RunOk C H0 H r d st) (g : RunOk C (fun a => if a = r ∨ a = d.pa ∨ a = d.ca ∨ a = d.ha ∨ a = d.lg then none else H a) H' r d' st') : RunOk C H0 H' r d' st' := by
  have f : ∀ {x : Addr}, (if x = r ∨ x = d.pa ∨ x = d.ca ∨ x = d.ha ∨ x = d.lg then none else H x) = none → H0 x = none := fun {x} z => by
    split at z
    · rename_i c
      exact c.elim (fun c => c ▸ h.fr) fun c => c.elim (fun c => c ▸ h.fpa) fun c => c.elim (fun c => c ▸ h.fca) fun c => c.elim (fun c => c ▸ h.fha) (fun c => c ▸ h.flg)
    · exact Same.free h.same z
  exact ⟨g.obj, g.og, g.pl, g.cells, g.held, g.given, g.log, h.reb_same.trans g.same, f g.fr, f g.fpa, f g.fca, f g.fha, f g.flg, g.npl, g.nch⟩
def beginF (st : RSt) : RSt := { st with pl := st.og, held := fun _ => none, hn := 0 }
abbrev Part := (Str → Option Int) × Tr
def runP (ps : List Str) : List Part → RSt → RSt
  | [], st => st
  | p :: r, st => runP ps r (runT ps p.1 p.2 (beginF st))
def okP (ps : List Str) : List Part → RSt → Prop
  | [], _ => True
  | p :: r, st => okT ps p.1 p.2 (beginF st) ∧ okP ps r (runT ps p.1 p.2 (beginF st))
/-- a part: a block -/
def PartAt (LCc : Addr) (H : Hp) (ps : List Str) (p : Part) (bt : Addr) : Prop := ∃ bs : List Addr, H bt = some (.tup (bs.map V.ref)) ∧ BlkAt LCc H ps p.1 p.2 0 bs ∧ p.2.depth < 2 ∧ p.2.Ok p.1
theorem PartAt.same {LCc : Addr} {H H' : Hp} {ps : List Str} {p : Part} {bt : Addr} (h : PartAt LCc H ps p bt) (s : Same H H') : PartAt LCc H' ps p bt := by
  obtain ⟨bs, a, b, c, e⟩ := h
  exact ⟨bs, s _ _ a, b.mono (KT.of s), c, e⟩
/-- blocks_at(parts, places) -/
def spBlocksAt : Sp := fun vs H Q _ => ∃ (pt : Addr) (v : V) (bts : List Addr), vs = [.ref pt, v] ∧ H pt = some (.tup (bts.map V.ref)) ∧ bts.length ≤ 1000 ∧ (∀ b ∈ bts, ∃ xs, H b = some (.tup xs)) ∧ ∀ (q : Addr) (H' : Hp), Same H H' → H q = none → H' q = some (.lst (bts.map V.ref)) → Q (.ref q) H'
/-- do_parts(run, parts) -/
def spDoParts (LCc C : Addr) : Sp := fun vs H Q _ => ∃ (H0 : Hp) (r pt : Addr) (bts : List Addr) (d : RAd) (st : RSt) (ps : List Str) (parts : List Part), vs = [.ref r, .ref pt] ∧ RunOk C H0 H r d st ∧ H0 pt = some (.tup (bts.map V.ref)) ∧ bts.length ≤ 1000 ∧ Paired (PartAt LCc H0 ps) parts bts ∧ okP ps parts st ∧
  ∀ (d' : RAd) H', RunOk C H0 H' r d' (runP ps parts st) → Q .non H'
def st0 (pls : List Int) (wt : Bool) : RSt := ⟨pls, pls, [], fun _ => none, 0, wt, []⟩
/-- whole_run(body, places, watched) -/
def spWhole (LCc CB C : Addr) : Sp := fun vs H Q _ => ∃ (b pq : Addr) (n : Nat) (reg wt : Bool) (bts : List Addr) (pls : List Int) (ps : List Str) (parts : List Part), vs = [.ref b, .ref pq, .bl wt] ∧ BodyAt CB H b n reg (bts.map V.ref) ∧ bts.length ≤ 1000 ∧ Paired (PartAt LCc H ps) parts bts ∧ H pq = some (.lst (pls.map V.int)) ∧ okP ps parts (st0 pls wt) ∧
  ∀ (r : Addr) (d : RAd) H', RunOk C H H' r d (runP ps parts (st0 pls wt)) → Q (.ref r) H'

abbrev s_blocks_at : Stmt := topS 82
theorem sc_blocks_at : FnScope ["parts", "places", "blocks", "left", "part"] ["parts", "places"] (defScope s_blocks_at) := ⟨rfl, rfl, rfl, by decide +kernel, rfl, by decide +kernel, by decide +kernel⟩
theorem ok_blocks_at (T : TxtP K mg) (Tq : PL.TxtQ K w mg) (D : Def K mg "blocks_at" s_blocks_at) (T0 : Txt mg) (gG : mg "Guard" = some (.ref (He.ga K "Guard"))) (kG : PySem.W.kitOne K (.type "tuple") (.ref (He.ga K "Guard")) = some false) : Cal P w K mg base 1 "blocks_at" ["parts", "places"] spBlocksAt := by
  refine D.cal sc_blocks_at (fun vs H Q E h => ?_) (fun _ _ _ _ _ _ us hl => match us, hl with | [_, _], _ => rfl) (fun f cdv A outer s H vs Q E hr h => ?_)
  · obtain ⟨pt, v, bts, rfl, _⟩ := h
    rfl
  have hu := hu_of hr
  obtain ⟨pt, v, bts, rfl, hP, l1, hb, k⟩ := h
  have big : sizeLine = 16777216 := sizeLine_eq
  refine ⟨_, (pss_cons (ps_set (i := 2) sc_blocks_at.nd rfl (by first | exact Or.inl rfl | exact Or.inr rfl) (pe_lst pa_nil))
      (pss_cons (ps_set (i := 3) sc_blocks_at.nd rfl (by first | exact Or.inl rfl | exact Or.inr rfl) (pe_revL (pe_callTy call_list_of (by rfl) Tq.f_list (by decide +kernel) (pa_cons (pv 0) pa_nil))))
      (pss_cons (ps_while PassesOwn.never (pt_truth (pv 3) (by intro _; rfl)) (pss_cons (ps_set (i := 4) sc_blocks_at.nd rfl (by first | exact Or.inl rfl | exact Or.inr rfl) (pe_bm0 PySem.F.plainAttrs_list PySem.F.slot_list_pop PySem.F.type_list_pop mt_pop (pv 3)))
      (pss_one (ps_if (pt_val (pe_callB call_isi (by rfl) T0.f_isinstance (by decide +kernel) (pa_cons (pv 4) (pa_cons (pe_gref (by rfl) gG) pa_nil)))) (pss_one (ps_expr PL.pe_never)) (pss_one (ps_expr (pe_bm PySem.F.plainAttrs_list PySem.F.slot_list_append PySem.F.type_list_append mt_append (pv 2) (pa_cons (pv 4) pa_nil))))))))
      (pss_one (ps_ret (pv 2)))))), ?_⟩
  refine ⟨by show 0 ≤ sizeLine; decide, fun bq hbq => ?_⟩
  have s1 := Same.new (o := .lst []) hbq
  have e1 : upd H bq (.lst []) bq = some (.lst []) := upd_same
  generalize upd H bq (.lst []) = H1 at s1 e1 ⊢
  refine ⟨_, rfl, pt, _, rfl, .inr (SqT.of (s1 _ _ hP)), fun l hl => ?_⟩
  have s2 := s1.trans (Same.new (o := .lst (bts.map V.ref)) hl)
  have e2 := Same.new (o := .lst (bts.map V.ref)) hl _ _ e1
  have g2 : upd H1 l (.lst (bts.map V.ref)) l = some (.lst (bts.map V.ref)) := upd_same
  generalize upd H1 l (.lst (bts.map V.ref)) = H2 at s2 e2 g2 ⊢
  refine ⟨l, _, rfl, SqL.of g2, fun lq hlq => ?_⟩
  have s3 := s2.trans (Same.new (o := .lst (bts.map V.ref).reverse) hlq)
  have e3 := Same.new (o := .lst (bts.map V.ref).reverse) hlq _ _ e2
  have g3 : upd H2 lq (.lst (bts.map V.ref).reverse) lq = some (.lst (bts.map V.ref).reverse) := upd_same
  have flq : H lq = none := Same.free s2 hlq
  have nbl : bq ≠ lq := fun z => by rw [z] at e2; rw [e2] at hlq; cases hlq
  rw [← List.map_reverse] at s3 e3 g3 ⊢
  generalize upd H2 lq (.lst (bts.reverse.map V.ref)) = H3 at s3 e3 g3 ⊢
  refine ⟨fun m σ H' => ∃ (i : Nat) (v4 : Option V), m = bts.length - i ∧ i ≤ bts.length ∧ σ = [some (.ref pt), some v, some (.ref bq), some (.ref lq), v4] ∧ Same H H' ∧ H' bq = some (.lst ((bts.take i).map V.ref)) ∧ H' lq = some (.lst ((bts.drop i).reverse.map V.ref)),
    ⟨_, 0, none, rfl, Nat.zero_le _, rfl, s3, e3, g3⟩, ?_⟩
  rintro m σ H4 ⟨i, v4, rfl, hi, rfl, s4, e4, g4⟩
  refine ⟨_, rfl, _, .inl ⟨_, SqL.of g4, rfl⟩, ?_⟩
  by_cases hlt : i < bts.length
  · have hd : bts.drop i = bts[i] :: bts.drop (i + 1) := List.drop_eq_getElem_cons hlt
    have hm : bts[i] ∈ bts := List.getElem_mem hlt
    have htk : bts.take (i + 1) = bts.take i ++ [bts[i]] := by rw [List.take_add_one, List.getElem?_eq_getElem hlt]; rfl
    generalize bts[i] = b at hd hm htk
    have er : (bts.drop i).reverse = (bts.drop (i + 1)).reverse ++ [b] := by rw [hd, List.reverse_cons]
    rw [er, List.map_append] at g4 ⊢
    have ne : (!((bts.drop (i + 1)).reverse.map V.ref ++ [V.ref b]).isEmpty) = true := by
      cases (bts.drop (i + 1)).reverse.map V.ref <;> rfl
    rw [show (!((bts.drop (i + 1)).reverse.map V.ref ++ List.map V.ref [b]).isEmpty) = true from ne]
    refine iteT ⟨fun σ' H' => ∃ v4, σ' = [some (.ref pt), some v, some (.ref bq), some (.ref lq), v4] ∧ Same H H' ∧ H' bq = some (.lst ((bts.take (i + 1)).map V.ref)) ∧ H' lq = some (.lst ((bts.drop (i + 1)).reverse.map V.ref)), ?_, ?_⟩
    · rintro σ' H' ⟨v4, rfl, z1, z2, z3⟩
      exact ⟨_, by omega, i + 1, v4, rfl, hlt, rfl, z1, z2, z3⟩
    have hlast : ((bts.drop (i + 1)).reverse.map V.ref ++ [V.ref b])[((bts.drop (i + 1)).reverse.map V.ref ++ [V.ref b]).length - 1]? = some (V.ref b) := by
      rw [List.length_append, List.length_singleton, Nat.add_sub_cancel, List.getElem?_append_right (Nat.le_refl _), Nat.sub_self]
      rfl
    refine ⟨_, rfl, .inl ⟨rfl, _, SqL.of g4⟩, lq, _, _, rfl, rfl, g4, hlast, ?_⟩
    have edl : ((bts.drop (i + 1)).reverse.map V.ref ++ List.map V.ref [b]).dropLast = (bts.drop (i + 1)).reverse.map V.ref := List.dropLast_concat
    rw [edl]
    have s5 := same_put (o := .lst ((bts.drop (i + 1)).reverse.map V.ref)) s4 flq g4
    have e5 : upd H4 lq (.lst ((bts.drop (i + 1)).reverse.map V.ref)) bq = some (.lst ((bts.take i).map V.ref)) := by rw [upd_ne nbl]; exact e4
    have g5 : upd H4 lq (.lst ((bts.drop (i + 1)).reverse.map V.ref)) lq = some (.lst ((bts.drop (i + 1)).reverse.map V.ref)) := upd_same
    obtain ⟨xs, hxs⟩ := hb b hm
    generalize upd H4 lq (.lst ((bts.drop (i + 1)).reverse.map V.ref)) = H5 at s5 e5 g5 ⊢
    refine ⟨_, rfl, .ref b, .ref (He.ga K "Guard"), _, _, false, rfl, .own _, .base (.tup (s5 _ _ hxs)), kG, false, rfl, ?_⟩
    refine iteF ⟨_, rfl, .inl ⟨rfl, _, SqL.of e5⟩, _, rfl, bq, _, _, rfl, rfl, e5, by rw [List.length_map, List.length_take]; omega, ?_⟩
    refine ⟨_, rfl, same_put s5 hbq e5, ?_, ?_⟩
    · rw [htk, List.map_append]
      exact upd_same
    · rw [upd_ne (Ne.symm nbl)]
      exact g5
  · have hd : bts.drop i = [] := List.drop_of_length_le (by omega)
    have ht : bts.take i = bts := List.take_of_length_le (by omega)
    rw [hd] at g4 ⊢
    rw [ht] at e4
    refine iteF ⟨_, rfl, k bq H4 s4 hbq e4⟩


abbrev s_do_parts : Stmt := topS 103
theorem sc_do_parts : FnScope ["run", "parts", "block"] ["run", "parts"] (defScope s_do_parts) := ⟨rfl, rfl, rfl, by decide +kernel, rfl, by decide +kernel, by decide +kernel⟩
theorem ok_do_parts (T : TxtP K mg) (Tq : PL.TxtQ K w mg) (D : Def K mg "do_parts" s_do_parts) {LCc C : Addr} (RC : RunC K C) (C_blocks_at : Cal P w K mg base 1 "blocks_at" ["parts", "places"] spBlocksAt) (M_begin : MthX P w K mg base CX0 1 C "begin" ["self"] (spBegin K C)) (C_do_block : Cal P w K mg base 7 "do_block" ["run", "block"] (spDoBlock K LCc C 2)) : Cal P w K mg base 9 "do_parts" ["run", "parts"] (spDoParts LCc C) := by
  refine D.cal sc_do_parts (fun vs H Q E h => ?_) (fun _ _ _ _ _ _ us hl => match us, hl with | [_, _], _ => rfl) (fun f cdv A outer s H vs Q E hr h => ?_)
  · obtain ⟨H0, r, pt, bts, d, st, ps, parts, rfl, _⟩ := h
    rfl
  have hu := hu_of hr
  obtain ⟨H0, r, pt, bts, d, st, ps, parts, rfl, ro, hP, l1, prs, ok, k⟩ := h
  have pln := paired_ln prs
  have hbs : ∀ b ∈ bts, ∃ xs, H b = some (.tup xs) := fun b hb => by
    obtain ⟨i, hi, e⟩ := List.getElem_of_mem hb
    have hp : parts[i]? = some parts[i] := List.getElem?_eq_getElem (by omega)
    obtain ⟨bs, q, _⟩ := paired_at prs hp (show bts[i]? = some b by rw [List.getElem?_eq_getElem hi, e])
    exact ⟨_, ro.same _ _ q⟩
  refine ⟨_, (pss_one (ps_for PassesOwn.never rfl (pi_list (pe_cal C_blocks_at (hr.mono (by decide)) rfl (pa_cons (pv 1) (pa_cons (pe_fld (pv 0) rfl) pa_nil)))) (pg_name (i := 2) sc_do_parts.nd rfl (by first | exact Or.inl rfl | exact Or.inr rfl)) (pss_cons (ps_expr (pe_mth0 M_begin (pv 0) (hr.mono (by decide)) pass0))
      (pss_one (ps_expr (pe_cal C_do_block (hr.mono (by decide)) rfl (pa_cons (pv 0) (pa_cons (pv 2) pa_nil)))))))), ?_⟩
  refine ⟨_, rfl, _, rfl, r, C, d.dx, _, _, rfl, ro.obj, RC.cl, RC.n_origin, rfl, pt, _, bts, rfl, ro.same _ _ hP, l1, hbs, fun q H1 s1 fq hq => ?_⟩
  have ro1 := ro.sm s1
  have rb := ro1.reb
  have rs := ro1.reb_same
  have nq : ∀ {x : Addr} {o : HO}, H x = some o → q ≠ x := fun {x o} e z => by rw [z, e] at fq; cases fq
  have hq0' : (fun a => if a = r ∨ a = d.pa ∨ a = d.ca ∨ a = d.ha ∨ a = d.lg then none else H1 a) q = some (.lst (bts.map V.ref)) := by
    show (if q = r ∨ q = d.pa ∨ q = d.ca ∨ q = d.ha ∨ q = d.lg then none else H1 q) = _
    obtain ⟨es, l1', _⟩ := ro.log
    obtain ⟨kvs, h1', _⟩ := ro.held
    rw [if_neg (fun z => z.elim (nq ro.obj) fun z => z.elim (nq ro.pl) fun z => z.elim (nq ro.cells) fun z => z.elim (nq h1') (nq l1'))]
    exact hq
  have prs1 : Paired (PartAt LCc (fun a => if a = r ∨ a = d.pa ∨ a = d.ca ∨ a = d.ha ∨ a = d.lg then none else H1 a) ps) parts bts := paired_mono (fun p b z => z.same rs) prs
  have bk : ∀ {H' : Hp} {d' : RAd} {st' : RSt}, RunOk C (fun a => if a = r ∨ a = d.pa ∨ a = d.ca ∨ a = d.ha ∨ a = d.lg then none else H1 a) H' r d' st' → RunOk C H0 H' r d' st' := fun g => ro1.back g
  generalize (fun a => if a = r ∨ a = d.pa ∨ a = d.ca ∨ a = d.ha ∨ a = d.lg then none else H1 a) = G0 at rb rs prs1 bk hq0'
  refine ⟨q, rfl, ⟨_, SqL.of (rb.same _ _ hq0')⟩, for_it walk_list (fun i σ H' => ∃ (v2 : Option V) (d' : RAd) (st' : RSt), σ = [some (.ref r), some (.ref pt), v2] ∧ RunOk C G0 H' r d' st' ∧ okP ps (parts.drop i) st' ∧ runP ps (parts.drop i) st' = runP ps parts st)
    ⟨none, d, st, rfl, rb, ok, rfl⟩ (fun i σ H' _ ⟨_, _, _, _, z, _⟩ => SqL.of (z.same _ _ hq0')) ?_ ?_⟩
  · rintro i x σ H2 H3 hi ⟨v2, d', st', rfl, ro2, ok2, e2⟩ ⟨rfl, hx⟩
    rw [List.getElem?_map] at hx
    obtain ⟨b, hb, rfl⟩ := Option.map_eq_some_iff.mp hx
    have hi' := (List.getElem?_eq_some_iff.mp hb).1
    have hd : parts.drop i = parts[i] :: parts.drop (i + 1) := List.drop_eq_getElem_cons (by omega)
    have hp : parts[i]? = some parts[i] := List.getElem?_eq_getElem (by omega)
    generalize parts[i] = p at hd hp
    obtain ⟨bs, q1, q2, q3, q4⟩ := paired_at prs1 hp hb
    rw [hd] at ok2 e2
    obtain ⟨ok3, ok4⟩ := ok2
    refine ⟨_, rfl, r, d'.dx, _, rfl, ro2.obj, rfl, G0, r, d', st', rfl, ro2, fun d2 H4 ro4 => ?_⟩
    refine ⟨_, rfl, _, rfl, G0, r, b, bs, d2, _, ps, p.1, p.2, 0, rfl, ro4, q1, q2, q3, q4, ok3, fun H5 ro5 => ?_⟩
    exact ⟨_, d2, _, rfl, ro5, ok4, e2⟩
  · rintro σ H2 ⟨v2, d', st', rfl, ro2, ok2, e2⟩
    rw [show parts.drop (bts.map V.ref).length = [] from List.drop_of_length_le (by rw [List.length_map]; omega)] at e2
    refine k d' H2 ?_
    rw [← e2]
    exact bk ro2


abbrev s_whole_run : Stmt := topS 104
theorem sc_whole_run : FnScope ["body", "places", "watched", "run"] ["body", "places", "watched"] (defScope s_whole_run) := ⟨rfl, rfl, rfl, by decide +kernel, rfl, by decide +kernel, by decide +kernel⟩
theorem ok_whole_run (T : TxtP K mg) (Tq : PL.TxtQ K w mg) (D : Def K mg "whole_run" s_whole_run) {LCc CB C : Addr} (BC : BodyC K CB) (M_Run : Mkc P w K mg base 1 "Run" C ["self", "places", "cells", "watched"] (spRunInit K C)) (C_do_parts : Cal P w K mg base 9 "do_parts" ["run", "parts"] (spDoParts LCc C)) : Cal P w K mg base 10 "whole_run" ["body", "places", "watched"] (spWhole LCc CB C) := by
  refine D.cal sc_whole_run (fun vs H Q E h => ?_) (fun _ _ _ _ _ _ us hl => match us, hl with | [_, _, _], _ => rfl) (fun f cdv A outer s H vs Q E hr h => ?_)
  · obtain ⟨b, pq, n, reg, wt, bts, pls, ps, parts, rfl, _⟩ := h
    rfl
  have hu := hu_of hr
  obtain ⟨b, pq, n, reg, wt, bts, pls, ps, parts, rfl, hb, l1, prs, hpq, ok, k⟩ := h
  obtain ⟨dxb, pt, ot, rc, os, xx, yy, far, md, cv, b1, b2, b4, b5, b6, b7⟩ := hb
  refine ⟨_, (pss_cons (ps_set (i := 3) sc_whole_run.nd rfl (by first | exact Or.inl rfl | exact Or.inr rfl) (pe_mkc M_Run (hr.mono (by decide)) rfl (pa_cons (pv 1) (pa_cons pe_dnewK (pa_cons (pv 2) pa_nil)))))
      (pss_cons (ps_expr (pe_cal C_do_parts (hr.mono (by decide)) rfl (pa_cons (pv 3) (pa_cons (pe_fld (pv 0) rfl) pa_nil))))
      (pss_one (ps_ret (pv 3))))), ?_⟩
  refine ⟨_, rfl, fun ca hca => ⟨_, rfl, fun x dx hx hdx nx => ?_⟩⟩
  have sa := Same.new (o := .dK []) hca
  have ea : upd H ca (.dK []) ca = some (.dK []) := upd_same
  generalize upd H ca (.dK []) = Ha at sa ea hx hdx ⊢
  have sx : Same Ha (upd (upd Ha dx (.own x)) x (.ins C dx [])) := made_same hx hdx (But.refl x _)
  have nca : ca ≠ x := fun z => by rw [← z, ea] at hx; cases hx
  refine ⟨x, dx, pq, ca, pls, wt, rfl, upd_same, sx _ _ (sa _ _ hpq), sx _ _ ea, fun d H1 but dca f1 f2 f3 f4 f5 n1 n2 g1 g2 g3 g4 g5 g6 g7 => ⟨rfl, ?_⟩⟩
  have s1 := made_same hx hdx but
  have s01 := sa.trans s1
  have sxx := sa.trans sx
  have ro : RunOk C H H1 x d (st0 pls wt) := by
    refine ⟨?_, g3, g4, ?_, ⟨[], g5, Nat.le_refl _, fun y => rfl⟩, g6, ⟨[], g7, .nil⟩, s01, Same.free sa hx, Same.free sxx f2, ?_, Same.free sxx f3, Same.free sxx f5, n1, n2⟩
    · rw [g2]
      exact g1
    · rw [dca]
      exact s1 _ _ ea
    · rw [dca]
      exact hca
  refine ⟨_, rfl, _, rfl, b, CB, dxb, _, _, rfl, s01 _ _ b1, BC.cl, BC.n_parts, rfl, H, x, pt, bts, d, _, ps, parts, rfl, ro, b2, l1, prs, ok, fun d2 H2 ro2 => ?_⟩
  exact ⟨_, rfl, k x d2 H2 ro2⟩

end
end K19
end
section
set_option Elab.async false
set_option linter.all false
set_option maxRecDepth 100000
set_option maxHeartbeats 4000000
namespace K19
open PySem PySem.Spec PyProof.Rows L2
open PySem.W (ke_shaped_ints)
local macro_rules | `(tactic| walk_at "go") => `(tactic| first | refine ⟨_, rfl, ?_⟩ | refine .inl ⟨_, rfl, ?_⟩ | refine ⟨_, _, rfl, rfl, (by first | (show (0 : Int) < _; decide) | exact Or.inl ⟨by decide, by decide⟩ | exact Or.inr ⟨by decide, by decide⟩), ?_⟩ | refine ⟨_, _, rfl, rfl, ?_⟩)
section
variable {P : Program} {w : World} {K : PySem.W.Frag} {mg : Str → Option Value} {base : Heap}

def Cont.text : Cont → Str
  | .at_ n => ("@" : Str) ++ CF.num n
  | .tx s => s
def ContOk : Cont → Prop
  | .at_ n => n.natAbs.log2 < 1920 ∧ (CF.num n).length ≤ 2000
  | .tx s => CF.Lo s ∧ s.length ≤ 1000
def NdC (cs : Cells) : Prop := (cs.map (·.1)).Nodup
/-- the changed cells -/
def chg (cs : Cells) : Cells := cs.filter fun p => decide (p.2 ≠ .at_ p.1)
/-- text_of(content) -/
def spTextOf : Sp := fun vs H Q _ => ∃ c : Cont, vs = [c.v] ∧ ContOk c ∧ Q (.str c.text) H

abbrev s_text_of : Stmt := topS 85
theorem sc_text_of : FnScope ["content"] ["content"] (defScope s_text_of) := ⟨rfl, rfl, rfl, by decide +kernel, rfl, by decide +kernel, by decide +kernel⟩
theorem ok_text_of (T : TxtP K mg) (Tq : PL.TxtQ K w mg) (D : Def K mg "text_of" s_text_of) (T0 : Txt mg) : Cal P w K mg base 1 "text_of" ["content"] spTextOf := by
  refine D.cal sc_text_of (fun vs H Q E h => ?_) (fun _ _ _ _ _ _ us hl => match us, hl with | [_], _ => rfl) (fun f cdv A outer s H vs Q E hr h => ?_)
  · obtain ⟨c, rfl, _⟩ := h
    rfl
  have hu := hu_of hr
  obtain ⟨c, rfl, ok, k⟩ := h
  refine ⟨_, (pss_one (ps_ret (pe_ifExp (pt_val (pe_callB call_isi (by rfl) T0.f_isinstance (by decide +kernel) (pa_cons (pv 0) (pa_cons (pe_gty (by rfl) T.f_int (T := "int") (by decide +kernel)) pa_nil)))) (pe_joined (.cons pe_str (.cons (pe_fmt (pv 0)) .nil))) (pv 0)))), ?_⟩
  have big : sizeLine = 16777216 := sizeLine_eq
  cases c with
  | at_ n =>
    refine ⟨_, rfl, .int n, .ty "int", _, _, true, rfl, .ty "int", .base (.int n), kit_ty (by decide +kernel), true, rfl, ?_⟩
    have e1' : (("" : Str) ++ ("@" : Str)).length = 1 := by decide +kernel
    have e0 : (Str.empty ++ ("@" : Str)) = (("" : Str) ++ ("@" : Str)) := rfl
    refine iteT ⟨_, rfl, by rw [e0, e1', big]; omega, _, rfl, .inr ⟨n, rfl, ok.1, _, rfl, ?_, ?_⟩⟩
    · show ((Str.empty ++ ("@" : Str)) ++ CF.num n).length ≤ sizeLine
      have := ok.2
      rw [CF.len_app, e0, e1']
      omega
    · have e3 : (Str.empty ++ ("@" : Str)) ++ CF.num n = ("@" : Str) ++ CF.num n := by
        rw [show (Str.empty ++ ("@" : Str)) = ("@" : Str) by decide +kernel]
      show Q (.str ((Str.empty ++ ("@" : Str)) ++ CF.num n)) H
      rw [e3]
      exact k
  | tx s =>
    refine ⟨_, rfl, .str s, .ty "int", _, _, false, rfl, .ty "int", .base (.str s), kit_ty (by decide +kernel), false, rfl, ?_⟩
    exact iteF ⟨_, rfl, k⟩



theorem putC_new {cs : Cells} {n : Int} (c : Cont) (h : n ∉ cs.map (·.1)) : putC cs n c = cs ++ [(n, c)] := by
  unfold putC
  rw [if_neg]
  intro z
  obtain ⟨p, hp, e⟩ := List.any_eq_true.mp z
  exact h (List.mem_map.mpr ⟨p, hp, of_decide_eq_true e⟩)
theorem eqv_cont {c : Cont} {n : Int} : ∃ d, (∀ (K : PySem.W.Frag) (H : Hp), Dp K H c.v d) ∧ PyData.eqv d (.int n) = decide (c = .at_ n) ∧ (ContOk c → SeqAt.shaped d = true) := by
  cases c with
  | at_ m =>
    refine ⟨.int m, fun K H => .int m, ?_, fun _ => by rfl⟩
    show (m == n) = _
    by_cases e : m = n
    · rw [e]; simp
    · rw [decide_eq_false (fun z => e (Cont.at_.inj z))]; simpa using e
  | tx s =>
    refine ⟨.str s, fun K H => .str s, ?_, fun h => ?_⟩
    · rw [decide_eq_false (fun z => by cases z)]; rfl
    · have z := CF.flat_str h.1
      unfold SeqAt.shaped
      rw [z.1, z.2]
      rfl
theorem sh_int (n : Int) : SeqAt.shaped (.int n) = true := by rfl
/-- ending(body, places) -/
def spEnding (LCc CB : Addr) : Sp := fun vs H Q _ => ∃ (b pq : Addr) (n : Nat) (reg : Bool) (bts : List Addr) (pls : List Int) (ps : List Str) (parts : List Part), vs = [.ref b, .ref pq] ∧ BodyAt CB H b n reg (bts.map V.ref) ∧ bts.length ≤ 1000 ∧ Paired (PartAt LCc H ps) parts bts ∧ H pq = some (.lst (pls.map V.int)) ∧ okP ps parts (st0 pls false) ∧
  NdC (runP ps parts (st0 pls false)).cells ∧ (∀ p ∈ (runP ps parts (st0 pls false)).cells, ContOk p.2) ∧ (runP ps parts (st0 pls false)).cells.length ≤ 1000000 ∧
  ∀ (t ga D : Addr) H', Same H H' → H' t = some (.tup [.ref ga, .ref D]) → H' ga = some (.tup []) → H' D = some (.dK (kv (chg (runP ps parts (st0 pls false)).cells))) → Q (.ref t) H'

abbrev s_ending : Stmt := topS 105
theorem sc_ending : FnScope ["body", "places", "run", "cell", "content"] ["body", "places"] (defScope s_ending) := ⟨rfl, rfl, rfl, by decide +kernel, rfl, by decide +kernel, by decide +kernel⟩
theorem ok_ending (T : TxtP K mg) (Tq : PL.TxtQ K w mg) (D : Def K mg "ending" s_ending) {LCc CB C : Addr} (RC : RunC K C) (C_whole_run : Cal P w K mg base 10 "whole_run" ["body", "places", "watched"] (spWhole LCc CB C)) : Cal P w K mg base 11 "ending" ["body", "places"] (spEnding LCc CB) := by
  refine D.cal sc_ending (fun vs H Q E h => ?_) (fun _ _ _ _ _ _ us hl => match us, hl with | [_, _], _ => rfl) (fun f cdv A outer s H vs Q E hr h => ?_)
  · obtain ⟨b, pq, n, reg, bts, pls, ps, parts, rfl, _⟩ := h
    rfl
  have hu := hu_of hr
  obtain ⟨b, pq, n, reg, bts, pls, ps, parts, rfl, hb, l1, prs, hpq, ok, nd, co, cl, k⟩ := h
  refine ⟨_, (pss_cons (ps_set (i := 2) sc_ending.nd rfl (by first | exact Or.inl rfl | exact Or.inr rfl) (pe_cal C_whole_run (hr.mono (by decide)) rfl (pa_cons (pv 0) (pa_cons (pv 1) (pa_cons pe_bl pa_nil)))))
      (pss_one (ps_ret (pe_tup (pa_cons (pe_fld (pv 2) rfl) (pa_cons (pe_lock (pe_dc (own := [("cell", 3), ("content", 4)]) (g := gTup K 2 (gCons (gName 3) (gCons (gName 4) gNil))) (tt := tTest (tOp (rNeD K) (tVar 4) (tVar 3))) rfl sc_ending.nd (pi_items (pe_fld (pv 2) rfl)) (blkOk_by (N := ["body", "places", "run", "cell", "content"]) (sc := defScope s_ending) (by decide +kernel)) (fun _ _ _ _ _ => (pg_tup rfl (pgs_cons (pg_name (i := 3) sc_ending.nd rfl (by first | exact Or.inl rfl | exact Or.inr rfl)) (pgs_cons (pg_name (i := 4) sc_ending.nd rfl (by first | exact Or.inl rfl | exact Or.inr rfl)) pgs_nil)))) (fun _ _ _ _ _ => (pts_one (pt_cmpR (op_neD hr.units) (pv 4) (pv 3) (nomark _)))) (fun _ _ _ _ _ => (pv 3)) (fun _ _ _ _ _ => (pv 4)))) pa_nil)))))), ?_⟩
  refine ⟨_, rfl, _, rfl, b, pq, n, reg, false, bts, pls, ps, parts, rfl, hb, l1, prs, hpq, ok, fun r d H1 ro => ?_⟩
  generalize runP ps parts (st0 pls false) = st at ro nd co cl k
  refine ⟨_, rfl, r, C, d.dx, _, _, rfl, ro.obj, RC.cl, RC.n_given, rfl, ?_⟩
  refine ⟨d.ca, .dK (kv st.cells), ro.cells, trivial, fun od => ?_⟩
  have bf : But d.ca H1 (upd H1 d.ca (.frz od (.dK (kv st.cells)))) := But.upd _
  have ef : upd H1 d.ca (.frz od (.dK (kv st.cells))) d.ca = some (.frz od (.dK (kv st.cells))) := upd_same
  have nr : r ≠ d.ca := fun z => by have := ro.obj; rw [z, ro.cells] at this; cases this
  have ng : d.ga ≠ d.ca := fun z => by have := ro.given; rw [z, ro.cells] at this; cases this
  generalize upd H1 d.ca (.frz od (.dK (kv st.cells))) = Hf at bf ef ⊢
  refine ⟨_, rfl, r, C, d.dx, _, _, rfl, bf _ _ nr ro.obj, RC.cl, RC.n_cells, rfl, d.ca, od, _, rfl, ef, fun D hD => dc_it (tt := tTest (tOp (rNeD K) (tVar 4) (tVar 3))) walk_items (fun i H' => Same Hf H' ∧ H' D = some (.dK (kv (chg (st.cells.take i))))) ⟨Same.new hD, upd_same⟩ (fun i H' _ z => z.1 _ _ ef) ?_ ?_⟩
  · rintro i x G1 G2 hi ⟨s1, h1⟩ ⟨T0, x1, x2, rfl, hT0, rfl, e1, e2⟩
    rw [kv_len] at hi
    have hp : st.cells[i]? = some st.cells[i] := List.getElem?_eq_getElem hi
    obtain ⟨⟨m, c⟩, hmc⟩ : ∃ p, st.cells[i] = p := ⟨_, rfl⟩
    rw [hmc] at hp
    have hk : (kv st.cells)[i]? = some (Sum.inl m, c.v) := by unfold kv; rw [List.getElem?_map, hp]; rfl
    dsimp only at e1 e2
    rw [hk] at e1 e2
    cases e1
    cases e2
    refine ⟨T0, _, rfl, SqT.of upd_same, rfl, _, _, rfl, _, _, rfl, rfl, rfl, ?_⟩
    have sT := Same.new (o := .tup [kV (Sum.inl m), c.v]) hT0
    have h2 := sT _ _ h1
    have s2 := s1.trans sT
    generalize upd G1 T0 (.tup [kV (Sum.inl m), c.v]) = G3 at h2 s2 ⊢
    obtain ⟨dd, q1, q2, q3⟩ := eqv_cont (c := c) (n := m)
    refine ⟨_, rfl, _, rfl, dd, .int m, q1 _ _, .int m, q3 (co _ (List.mem_of_getElem? hp)), sh_int m, _, rfl, ?_⟩
    rw [q2]
    have tk : st.cells.take (i + 1) = st.cells.take i ++ [(m, c)] := by rw [List.take_add_one, hp]; rfl
    by_cases e : c = .at_ m
    · rw [decide_eq_true e]
      refine iteF ⟨s2, ?_⟩
      have : chg (st.cells.take (i + 1)) = chg (st.cells.take i) := by
        unfold chg
        rw [tk, List.filter_append, List.filter_cons, if_neg (by rw [decide_eq_true_iff]; exact fun z => z e), List.filter_nil, List.append_nil]
      rw [this]
      exact h2
    · rw [decide_eq_false e]
      have cc : chg (st.cells.take (i + 1)) = chg (st.cells.take i) ++ [(m, c)] := by
        unfold chg
        rw [tk, List.filter_append, List.filter_cons, if_pos (by rw [decide_eq_true_iff]; exact e), List.filter_nil]
      have fl : (chg (st.cells.take i)).length ≤ st.cells.length := by
        have h1 := List.length_filter_le (fun p : Int × Cont => decide (p.2 ≠ .at_ p.1)) (st.cells.take i)
        rw [List.length_take] at h1
        unfold chg
        omega
      refine iteT ⟨_, rfl, _, rfl, _, Sum.inl m, rfl, h2, by rw [kv_len, sizeLine_eq]; omega, same_put s2 hD h2, ?_⟩
      rw [kv_put, putC_new, ← cc]
      · exact upd_same
      · intro hm
        obtain ⟨p, hp1, hp2⟩ := List.mem_map.mp hm
        have hp3 := (List.mem_filter.mp hp1).1
        have nd2 : ((st.cells.take (i + 1)).map (·.1)).Nodup := List.Nodup.sublist ((List.take_sublist _ _).map _) nd
        rw [tk, List.map_append] at nd2
        exact (List.nodup_append.mp nd2).2.2 _ (List.mem_map.mpr ⟨p, hp3, rfl⟩) m (by simp) hp2
  · rintro G ⟨s1, h1⟩
    rw [kv_len, List.take_length] at h1
    have nD : D ≠ d.ca := fun z => by rw [z, ef] at hD; cases hD
    refine ⟨s1 _ _ ef, ?_⟩
    have bG : But d.ca G (upd G d.ca (.dK (kv st.cells))) := But.upd _
    have bb : But d.ca H1 (upd G d.ca (.dK (kv st.cells))) := (bf.trans (But.of s1)).trans bG
    have h3 := bG _ _ nD h1
    have g3 := bb _ _ ng ro.given
    have s3 : Same H (upd G d.ca (.dK (kv st.cells))) := fun a o e => bb _ _ (fun z => by rw [z, ro.fca] at e; cases e) (ro.same _ _ e)
    generalize upd G d.ca (.dK (kv st.cells)) = G9 at h3 g3 s3 ⊢
    refine ⟨by show 2 ≤ sizeLine; decide, fun t ht => ?_⟩
    have sq := Same.new (o := .tup [.ref d.ga, .ref D]) ht
    exact k t d.ga D _ (s3.trans sq) upd_same (sq _ _ g3) (sq _ _ h3)

end
end K19
end
section
set_option Elab.async false
set_option linter.all false
set_option maxRecDepth 100000
set_option maxHeartbeats 4000000
namespace K19
open PySem PySem.Spec PyProof.Rows L2
open PySem.W (ke_shaped_ints)
local macro_rules | `(tactic| walk_at "go") => `(tactic| first | refine ⟨_, rfl, ?_⟩ | refine .inl ⟨_, rfl, ?_⟩ | refine ⟨_, _, rfl, rfl, (by first | (show (0 : Int) < _; decide) | exact Or.inl ⟨by decide, by decide⟩ | exact Or.inr ⟨by decide, by decide⟩), ?_⟩ | refine ⟨_, _, rfl, rfl, ?_⟩)
section
variable {P : Program} {w : World} {K : PySem.W.Frag} {mg : Str → Option Value} {base : Heap}
def ofields (v1 v2 : V) : List (Str × V) := [("given", v1), ("cells", v2)]
structure OutC (K : PySem.W.Frag) (C : Addr) : Prop where
  cl : Cls K C
  n_given : NoAttr K C "given"
  n_cells : NoAttr K C "cells"
def spOutcomeInit (C : Addr) : Sp := fun vs H Q _ => ∃ (o dx : Addr) (v1 v2 : V), vs = [.ref o, v1, v2] ∧ H o = some (.ins C dx []) ∧ ∀ H', But o H H' → H' o = some (.ins C dx (ofields v1 v2)) → Q .non H'
abbrev s_Outcome___init__ : Stmt := inClass (topS 111) 0
theorem sc_Outcome___init__ : FnScope ["self", "given", "cells"] ["self", "given", "cells"] (defScope s_Outcome___init__) := ⟨rfl, rfl, rfl, by decide +kernel, rfl, by decide +kernel, by decide +kernel⟩
theorem ok_outcome_init {C f : Addr} {fd : FuncData} (LC : OutC K C) (F : FunD K "__init__" "Outcome.__init__" (defArgs s_Outcome___init__) (defBody s_Outcome___init__) (defScope s_Outcome___init__) [] [] f fd) : FnOk P w K mg base CX0 1 f fd ["self", "given", "cells"] (spOutcomeInit C) := by
  refine F.ok sc_Outcome___init__ (fun vs H Q E h => by obtain ⟨o, dx, v1, v2, rfl, _⟩ := h; rfl) (fun cdv A outer s H vs Q E hr h => ?_)
  suffices z : ∃ t, PSs (cxOf CX0 P w K mg base ["self", "given", "cells"] "Outcome.__init__" (defScope s_Outcome___init__) f cdv A outer s H E).nox (defBody s_Outcome___init__) t ∧ t { nx := fun _ H' => Q .non H', rt := Q } (start ["self", "given", "cells"] vs) H by
    obtain ⟨t, h1, h2⟩ := z
    exact ⟨t, h1.nox, h2⟩
  obtain ⟨o, dx, v1, v2, rfl, ho, k⟩ := h
  refine ⟨_, (pss_cons (ps_fld (pv 0) (pv 1) rfl)
      (pss_one (ps_fld (pv 0) (pv 2) rfl))), ?_⟩
  have lt : ∀ (l : List (Str × V)), l.length ≤ 8 → l.length < 1000 := fun l h => by omega
  refine ⟨_, rfl, _, rfl, o, C, dx, _, rfl, ho, LC.cl, LC.n_given, lt _ (Nat.le_of_ble_eq_true rfl), ?_⟩
  refine ⟨_, rfl, _, rfl, o, C, dx, _, rfl, upd_same, LC.cl, LC.n_cells, lt _ (Nat.le_of_ble_eq_true rfl), ?_⟩
  refine k _ ?_ upd_same
  exact (But.upd _).trans (But.upd _)


/-- check_places(pointers, places) of as many -/
def spCheckOk (K : PySem.W.Frag) : Sp := fun vs H Q _ => ∃ (a b : Addr) (xs ys : List V), vs = [.ref a, .ref b] ∧ SqT K H a xs ∧ H b = some (.lst ys) ∧ ys.length = xs.length ∧ Q .non H

abbrev s_check_places : Stmt := topS 19
theorem sc_check_places : FnScope ["pointers", "places"] ["pointers", "places"] (defScope s_check_places) := ⟨rfl, rfl, rfl, by decide +kernel, rfl, by decide +kernel, by decide +kernel⟩
theorem ok_check_places (T : TxtP K mg) (Tq : PL.TxtQ K w mg) (D : Def K mg "check_places" s_check_places) : Cal P w K mg base 1 "check_places" ["pointers", "places"] (spCheckOk K) := by
  refine D.cal sc_check_places (fun vs H Q E h => ?_) (fun _ _ _ _ _ _ us hl => match us, hl with | [_, _], _ => rfl) (fun f cdv A outer s H vs Q E hr h => ?_)
  · obtain ⟨a, b, xs, ys, rfl, _⟩ := h
    rfl
  have hu := hu_of hr
  obtain ⟨a, b, xs, ys, rfl, ha, hb, e, k⟩ := h
  refine ⟨_, (pss_one (ps_if (pt_cmpR op_ne (pe_callB call_len_seq (by rfl) T.f_len PySem.boot_len (pa_cons (pv 1) pa_nil)) (pe_callB call_len_seq (by rfl) T.f_len PySem.boot_len (pa_cons (pv 0) pa_nil)) (nomark _)) (pss_one ps_never) pss_nil)), ?_⟩
  refine ⟨_, rfl, _, _, rfl, .inl (SqL.of hb), _, rfl, _, _, rfl, .inr ha, rfl, _, rfl, ?_⟩
  rw [show (!decide (V.int (ys.length : Nat) = V.int (xs.length : Nat))) = false by rw [e, decide_eq_true rfl]; rfl]
  exact iteF k



theorem blk_ne {C : Addr} {H : Hp} {ps : List Str} {wds : Str → Option Int} {t : Tr} {i : Nat} {bs : List Addr} (h : BlkAt C H ps wds t i bs) (n : t ≠ .nil) : bs.isEmpty = false := by
  cases t with
  | nil => exact absurd rfl n
  | deed l r => obtain ⟨o, bs', rfl, _⟩ := h; rfl
  | times m b r => obtain ⟨o, bs', _, _, _, _, _, rfl, _⟩ := h; rfl
theorem lookC_map (f : Int → Cont) (n : Int) : ∀ ys : List Int, lookC (ys.map fun n => (n, f n)) n = if n ∈ ys then some (f n) else none
  | [] => rfl
  | y :: r => by
    unfold lookC
    rw [List.map_cons]
    by_cases e : y = n
    · rw [List.find?_cons_of_pos (by rw [e]; exact decide_eq_true rfl), if_pos (by rw [e]; exact List.mem_cons_self), e]
      rfl
    · rw [List.find?_cons_of_neg (by rw [decide_eq_true_iff]; exact e)]
      have ih := lookC_map f n r
      unfold lookC at ih
      rw [ih]
      by_cases m : n ∈ r
      · rw [if_pos m, if_pos (List.mem_cons_of_mem _ m)]
      · rw [if_neg m, if_neg (fun z => (List.mem_cons.mp z).elim (fun z => e z.symm) m)]
theorem look_mem {cs : Cells} {n : Int} (h : n ∈ cs.map (·.1)) : ∃ c, lookC cs n = some c ∧ (n, c) ∈ cs := by
  induction cs with
  | nil => cases h
  | cons p r ih =>
    unfold lookC
    by_cases e : p.1 = n
    · rw [List.find?_cons_of_pos (by rw [e]; exact decide_eq_true rfl)]
      exact ⟨p.2, rfl, by rw [← e]; exact List.mem_cons_self⟩
    · rw [List.find?_cons_of_neg (by rw [decide_eq_true_iff]; exact e)]
      rcases List.mem_cons.mp h with z | z
      · exact absurd z.symm e
      · obtain ⟨c, h1, h2⟩ := ih z
        exact ⟨c, h1, List.mem_cons_of_mem _ h2⟩
theorem look_none {cs : Cells} {n : Int} (h : n ∉ cs.map (·.1)) : lookC cs n = none := by
  unfold lookC
  rw [List.find?_eq_none.mpr]
  · rfl
  · intro p hp z
    exact h (List.mem_map.mpr ⟨p, hp, of_decide_eq_true z⟩)
/-- the outcome's cells tell what these cells hold -/
def Tells (res cs : Cells) : Prop := NdC res ∧ ∀ n, lookC res n = (lookC cs n).map fun c => Cont.tx c.text
theorem _root_.L2.Same.putD {H0 H : Hp} {D : Addr} {o : HO} (s : Same H0 H) (h : H0 D = none) : Same H0 (upd H D o) := fun c v e => by rw [upd_ne (fun z => by rw [z, h] at e; cases e)]; exact s _ _ e
/-- program.run(places) -/
def spProgRun (K : PySem.W.Frag) (LCc CB CP CO : Addr) : Sp := fun vs H Q _ => ∃ (p pq : Addr) (ps : List Str) (wds : Str → Option Int) (t : Tr) (pls : List Int), vs = [.ref p, .ref pq] ∧ ProgAt K LCc CB CP H p ps wds t ∧ H pq = some (.lst (pls.map V.int)) ∧ pls.length = ps.length ∧ t ≠ .nil ∧ t.depth < 2 ∧ t.Ok wds ∧ okT ps wds t (st0 pls false) ∧
  NdC (runT ps wds t (st0 pls false)).cells ∧ (∀ p ∈ (runT ps wds t (st0 pls false)).cells, ContOk p.2) ∧ (runT ps wds t (st0 pls false)).cells.length < 64 ∧
  ∀ (o D dx ga : Addr) (res : Cells) H', Same H H' → H' o = some (.ins CO dx (ofields (.ref ga) (.ref D))) → H' D = some (.dK (kv res)) → Tells res (chg (runT ps wds t (st0 pls false)).cells) → Q (.ref o) H'
/-- outcome.changed() -/
def spChanged (CO : Addr) : Sp := fun vs H Q _ => ∃ (o D dx : Addr) (v : V) (kvs : List (Key × V)), vs = [.ref o] ∧ H o = some (.ins CO dx (ofields v (.ref D))) ∧ H D = some (.dK kvs) ∧ ∀ (q : Addr) H', Same H H' → H q = none → H' q = some (.dK kvs) → Q (.ref q) H'

abbrev s_Program_run : Stmt := inClass (topS 108) 1
theorem sc_Program_run : FnScope ["self", "places", "given", "cells", "texts", "row", "cell", "content"] ["self", "places"] (defScope s_Program_run) := ⟨rfl, rfl, rfl, by decide +kernel, rfl, by decide +kernel, by decide +kernel⟩
theorem ok_prog_run {f : Addr} {fd : FuncData} (T : TxtP K mg) (Tq : PL.TxtQ K w mg) (F : FunD K "run" "Program.run" (defArgs s_Program_run) (defBody s_Program_run) (defScope s_Program_run) [] [] f fd) {LCc CB CP CO : Addr} (T0 : Txt mg) (f_sorted : mg "sorted" = none) (PC : ProgC K CP) (C_check_places : Cal P w K mg base 1 "check_places" ["pointers", "places"] (spCheckOk K)) (C_ending : Cal P w K mg base 11 "ending" ["body", "places"] (spEnding LCc CB)) (C_text_of : Cal P w K mg base 1 "text_of" ["content"] spTextOf) (M_Outcome : Mkc P w K mg base 1 "Outcome" CO ["self", "given", "cells"] (spOutcomeInit CO)) : FnOk P w K mg base CX0 12 f fd ["self", "places"] (spProgRun K LCc CB CP CO) := by
  refine F.ok sc_Program_run (fun vs H Q E h => by obtain ⟨p, pq, ps, wds, t, pls, rfl, _⟩ := h; rfl) (fun cdv A outer s H vs Q E hr h => ?_)
  suffices z : ∃ t, PSs (cxOf CX0 P w K mg base ["self", "places", "given", "cells", "texts", "row", "cell", "content"] "Program.run" (defScope s_Program_run) f cdv A outer s H E).nox (defBody s_Program_run) t ∧ t { nx := fun _ H' => Q .non H', rt := Q } (start ["self", "places", "given", "cells", "texts", "row", "cell", "content"] vs) H by
    obtain ⟨t, h1, h2⟩ := z
    exact ⟨t, h1.nox, h2⟩
  have hu := hu_of hr
  have big : sizeLine = 16777216 := sizeLine_eq
  obtain ⟨p, pq, ps, wds, t, pls, rfl, hp, hpq, pl, tn, td, tok, ok, nd, co, c64, k⟩ := h
  obtain ⟨dx, pt, b, bt, bs, reg, v4, v5, v6, ho, hT, hb, hbt, blk⟩ := hp
  have be := blk_ne blk tn
  rw [be] at hb
  refine ⟨_, (pss_cons (ps_expr (pe_cal C_check_places (hr.mono (by decide)) rfl (pa_cons (pe_fld (pv 0) rfl) (pa_cons (pv 1) pa_nil))))
      (pss_cons (ps_asg (pe_cal C_ending (hr.mono (by decide)) rfl (pa_cons (pe_fld (pv 0) rfl) (pa_cons (pv 1) pa_nil))) (pg_tup rfl (pgs_cons (pg_name (i := 2) sc_Program_run.nd rfl (by first | exact Or.inl rfl | exact Or.inr rfl)) (pgs_cons (pg_name (i := 3) sc_Program_run.nd rfl (by first | exact Or.inl rfl | exact Or.inr rfl)) pgs_nil))))
      (pss_cons (ps_setLc (i := 4) (own := [("row", 5)]) (g := gName 5) (tt := tYes) (te := (fun _ _ _ => False)) rfl sc_Program_run.nd rfl rfl (sw_true rfl rfl rfl (by decide +kernel)) (pi_tup (pv 2)) (blkOk_by (N := ["self", "places", "given", "cells", "texts", "row", "cell", "content"]) (sc := defScope s_Program_run) (by decide +kernel)) (fun _ _ _ _ _ => (pg_name (i := 5) sc_Program_run.nd rfl (Or.inl rfl))) (fun _ _ _ _ _ => pts_nil) (fun _ _ _ _ _ => PL.pe_never))
      (pss_one (ps_ret (pe_mkc M_Outcome (hr.mono (by decide)) rfl (pa_cons (pe_callTy call_tuple_of (by rfl) T.f_tuple (by decide +kernel) (pa_cons (pv 4) pa_nil)) (pa_cons (pe_dc (own := [("cell", 6)]) (g := gName 6) (tt := tYes) rfl sc_Program_run.nd (pi_list (pe_callB (call_sortedDI rfl) (by rfl) f_sorted (by decide +kernel) (pa_cons (pv 3) pa_nil))) (blkOk_by (N := ["self", "places", "given", "cells", "texts", "row", "cell", "content"]) (sc := defScope s_Program_run) (by decide +kernel)) (fun _ _ _ _ _ => (pg_name (i := 6) sc_Program_run.nd rfl (Or.inl rfl))) (fun _ _ _ _ _ => pts_nil) (fun _ _ _ _ _ => (pv 6)) (fun _ _ _ _ _ => (pe_cal C_text_of (hr.mono (by decide)) rfl (pa_cons (pe_dget hu (pv 3) (pv 6) (fun _ _ => rfl)) pa_nil)))) pa_nil)))))))), ?_⟩
  refine ⟨_, rfl, p, CP, dx, _, _, rfl, ho, PC.cl, PC.n_pointers, rfl, _, rfl, pt, pq, _, _, rfl, hT, hpq, by rw [List.length_map, List.length_map, pl], ?_⟩
  refine ⟨_, rfl, p, CP, dx, _, _, rfl, ho, PC.cl, PC.n_body, rfl, _, rfl, b, pq, _, reg, [bt], pls, ps, [(wds, t)], rfl, hb, by show 1 ≤ 1000; decide, .cons ⟨bs, hbt, blk, td, tok⟩ .nil, hpq, ⟨ok, True.intro⟩, nd, co, ?_, ?_⟩
  · have : (runT ps wds t (st0 pls false)).cells.length < 64 := c64
    show (runT ps wds t (beginF (st0 pls false))).cells.length ≤ 1000000
    exact Nat.le_of_lt (Nat.lt_of_lt_of_le c64 (by decide))
  change ∀ (t_1 ga D : Addr) H', Same H H' → H' t_1 = some (.tup [.ref ga, .ref D]) → H' ga = some (.tup []) → H' D = some (.dK (kv (chg (runT ps wds t (st0 pls false)).cells))) → _
  generalize (runT ps wds t (st0 pls false)).cells = cs at nd co c64 k
  intro t1 ga D H1 s1 h1 hga hD
  refine ⟨t1, _, rfl, SqT.of h1, rfl, _, _, rfl, _, _, rfl, rfl, ?_⟩
  refine ⟨_, rfl, ga, rfl, ⟨_, SqT.of hga⟩, fun L1 hL1 => lc_it (te := fun _ _ _ => False) walk_tup (fun i H' => Same H1 H' ∧ H' L1 = some (.lst [])) ⟨Same.new hL1, upd_same⟩ (fun i H' _ z => z.1.tup (SqT.of hga)) (fun i x H H' hi => absurd hi (Nat.not_lt_zero _)) ?_⟩
  rintro G2 ⟨s2, h2⟩
  refine ⟨_, rfl, L1, _, rfl, .inl ⟨SqL.of h2, fun tt htt => ?_⟩⟩
  have s3 := s2.trans (Same.new (o := .tup []) htt)
  have hD3 := s3 _ _ hD
  generalize upd G2 tt (.tup []) = G3 at s3 hD3 ⊢
  obtain ⟨cg, ecg⟩ : ∃ cg, chg cs = cg := ⟨_, rfl⟩
  have ndg : NdC cg := by rw [← ecg]; exact List.Nodup.sublist (List.filter_sublist.map _) nd
  have cog : ∀ p ∈ cg, ContOk p.2 := fun p hp => by rw [← ecg] at hp; exact co p (List.mem_filter.mp hp).1
  have cl : cg.length < 64 := by
    rw [← ecg]
    exact Nat.lt_of_le_of_lt (List.length_filter_le _ _) c64
  rw [ecg] at hD3 k
  refine ⟨_, rfl, D, kv cg, cg.map (·.1), rfl, .inl hD3, by unfold kv; rw [List.map_map, List.map_map]; rfl, by rw [List.length_map]; exact cl, fun ys q hperm hsort hq => ?_⟩
  have sq := Same.new (o := .lst (ys.map V.int)) hq
  have eq_ : upd G3 q (.lst (ys.map V.int)) q = some (.lst (ys.map V.int)) := upd_same
  have s4 := s3.trans sq
  have hD4 := sq _ _ hD3
  generalize upd G3 q (.lst (ys.map V.int)) = G4 at eq_ s4 hD4 ⊢
  have ndy : ys.Nodup := hperm.nodup_iff.mpr ndg
  have yl : ys.length < 64 := by rw [hperm.length_eq, List.length_map]; exact cl
  obtain ⟨f, hf⟩ : ∃ f : Int → Cont, f = fun n => Cont.tx (match lookC cg n with | some c => c.text | none => "") := ⟨_, rfl⟩
  refine ⟨q, rfl, ⟨_, SqL.of eq_⟩, fun R hR => dc_it (tk := tVar 6) (tv := tCall spTextOf [] E0 (tCons (tDGet (tVar 3) (tVar 6)) tNil)) walk_list (fun i H' => Same G4 H' ∧ H' R = some (.dK (kv ((ys.take i).map fun n => (n, f n))))) ⟨Same.new hR, upd_same⟩ (fun i H' _ z => SqL.of (z.1 _ _ eq_)) ?_ ?_⟩
  · rintro i y K1 K2 hi ⟨s5, h5⟩ ⟨rfl, hx⟩
    rw [List.getElem?_map] at hx
    obtain ⟨n, hn, rfl⟩ := Option.map_eq_some_iff.mp hx
    obtain ⟨c, hc, hm⟩ := look_mem (hperm.subset (List.mem_of_getElem? hn))
    have tk : ys.take (i + 1) = ys.take i ++ [n] := by rw [List.take_add_one, hn]; rfl
    refine ⟨rfl, _, rfl, _, rfl, _, rfl, D, c.v, rfl, ?_, c, rfl, cog _ hm, _, Sum.inl n, rfl, h5, ?_, s5.putD hR, ?_⟩
    · have z := DGet.k (k := Sum.inl n) (s5 _ _ hD4)
      rw [kv_val, hc] at z
      exact z
    · rw [kv_len, List.length_map, List.length_take, big]; omega
    · have ef : f n = Cont.tx c.text := by rw [hf]; dsimp only; rw [hc]
      have e9 : putK (kv ((ys.take i).map fun n => (n, f n))) (Sum.inl n) (V.str c.text) = kv ((ys.take (i + 1)).map fun n => (n, f n)) := by
        have z := kv_put ((ys.take i).map fun n => (n, f n)) n (Cont.tx c.text)
        rw [putC_new] at z
        · rw [tk, List.map_append]
          show _ = kv (_ ++ [(n, f n)])
          rw [ef]
          exact z
        · rw [List.map_map]
          intro hm2
          obtain ⟨m, hm3, hm4⟩ := List.mem_map.mp hm2
          have hm4' : m = n := hm4
          subst hm4'
          have nd2 : (ys.take i ++ [m]).Nodup := tk ▸ List.Nodup.sublist (List.take_sublist _ _) ndy
          exact (List.nodup_append.mp nd2).2.2 m hm3 m (by simp) rfl
      rw [e9]
      exact upd_same
  · rintro G5 ⟨s5, h5⟩
    rw [List.length_map, List.take_length] at h5
    refine fun x dx9 hx hdx ne => ?_
    refine ⟨x, dx9, _, _, rfl, upd_same, fun H9 but ho9 => ⟨rfl, ?_⟩⟩
    have s9 := made_same hx hdx but
    refine k x R dx9 tt _ H9 (((s1.trans s4).trans s5).trans s9) ho9 (s9 _ _ h5) ⟨?_, fun n => ?_⟩
    · unfold NdC
      rw [List.map_map]
      have e : ((fun x : Int × Cont => x.1) ∘ fun n => (n, f n)) = id := by funext n; rfl
      rw [e, List.map_id]
      exact ndy
    · rw [lookC_map]
      by_cases m : n ∈ ys
      · obtain ⟨c, hc, hm⟩ := look_mem (hperm.subset m)
        rw [if_pos m, hc, hf]
        dsimp only
        rw [hc]
        rfl
      · rw [if_neg m, look_none (fun z => m (hperm.symm.subset z))]
        rfl

abbrev s_Outcome_changed : Stmt := inClass (topS 111) 1
theorem sc_Outcome_changed : FnScope ["self"] ["self"] (defScope s_Outcome_changed) := ⟨rfl, rfl, rfl, by decide +kernel, rfl, by decide +kernel, by decide +kernel⟩
theorem ok_changed {f : Addr} {fd : FuncData} (T : TxtP K mg) (Tq : PL.TxtQ K w mg) (F : FunD K "changed" "Outcome.changed" (defArgs s_Outcome_changed) (defBody s_Outcome_changed) (defScope s_Outcome_changed) [] [] f fd) {CO : Addr} (f_dict : mg "dict" = none) (OC : OutC K CO) : FnOk P w K mg base CX0 1 f fd ["self"] (spChanged CO) := by
  refine F.ok sc_Outcome_changed (fun vs H Q E h => by obtain ⟨o, D, dx, v, kvs, rfl, _⟩ := h; rfl) (fun cdv A outer s H vs Q E hr h => ?_)
  suffices z : ∃ t, PSs (cxOf CX0 P w K mg base ["self"] "Outcome.changed" (defScope s_Outcome_changed) f cdv A outer s H E).nox (defBody s_Outcome_changed) t ∧ t { nx := fun _ H' => Q .non H', rt := Q } (start ["self"] vs) H by
    obtain ⟨t, h1, h2⟩ := z
    exact ⟨t, h1.nox, h2⟩
  have hu := hu_of hr
  have big : sizeLine = 16777216 := sizeLine_eq
  obtain ⟨o, D, dx, v, kvs, rfl, ho, hD, k⟩ := h
  refine ⟨_, (pss_one (ps_ret (pe_callTy call_dictD (by rfl) f_dict (by decide +kernel) (pa_cons (pe_fld (pv 0) rfl) pa_nil)))), ?_⟩
  exact ⟨_, rfl, o, CO, dx, _, _, rfl, ho, OC.cl, OC.n_cells, rfl, D, kvs, rfl, .inl hD, fun q hq => k q _ (Same.new hq) hq upd_same⟩
end
end K19
end
section
set_option Elab.async false
set_option linter.all false
set_option maxRecDepth 100000
set_option maxHeartbeats 2000000
/-! tables of sets with up to 511 for their mask -/
namespace TG
open PySem PySem.Spec PyProof.Rows L2
def orb (m : Nat) : Nat → Nat → List Nat
  | 0, _ => []
  | n + 1, x => x :: orb m n ((x * 5 + 1) % (m + 1))
theorem step_in (m : Nat) : ∀ k x, lcgI m ((x * 5 + 1) % (m + 1)) k = lcgI m x (k + 1)
  | 0, _ => rfl
  | k + 1, x => congrArg (fun z => (z * 5 + 1) % (m + 1)) (step_in m k x)
theorem orb_at (m : Nat) : ∀ n x k, k < n → (orb m n x)[k]? = some (lcgI m x k)
  | n + 1, x, 0, _ => rfl
  | n + 1, x, k + 1, h => (orb_at m n _ k (Nat.lt_of_succ_lt_succ h)).trans (congrArg some (step_in m k x))
theorem orb_len (m : Nat) : ∀ n x, (orb m n x).length = n
  | 0, _ => rfl
  | n + 1, x => congrArg (· + 1) (orb_len m n _)
theorem twice (m x a : Nat) : ∀ k, lcgI m (lcgI m x a) k = lcgI m x (a + k)
  | 0 => rfl
  | k + 1 => congrArg (fun z => (z * 5 + 1) % (m + 1)) (twice m x a k)
theorem whole511 : ((List.range 512).all fun j => (orb 511 512 0).contains j) = true := by decide +kernel
theorem back511 : lcgI 511 0 512 = 0 := by decide +kernel
theorem from0 {j : Nat} (h : j ≤ 511) : ∃ k, k ≤ 511 ∧ lcgI 511 0 k = j := by
  have c := List.all_eq_true.mp whole511 j (List.mem_range.mpr (by omega))
  have hm : j ∈ orb 511 512 0 := by simpa using c
  obtain ⟨k, hk, e⟩ := List.getElem_of_mem hm
  have hk' : k < 512 := by rw [orb_len] at hk; exact hk
  have := orb_at 511 512 0 k hk'
  rw [List.getElem?_eq_getElem hk, e] at this
  exact ⟨k, by omega, (Option.some.inj this).symm⟩
theorem round511 (k : Nat) : lcgI 511 0 (512 + k) = lcgI 511 0 k := by rw [← twice 511 0 512 k, back511]
theorem any511 {i j : Nat} (hi : i ≤ 511) (hj : j ≤ 511) : ∃ k, k ≤ 511 ∧ lcgI 511 i k = j := by
  obtain ⟨a, ha, rfl⟩ := from0 hi
  obtain ⟨b, hb, rfl⟩ := from0 hj
  by_cases c : a ≤ b
  · exact ⟨b - a, by omega, by rw [twice, show a + (b - a) = b by omega]⟩
  · exact ⟨512 + b - a, by omega, by rw [twice, show a + (512 + b - a) = 512 + b by omega, round511]⟩
/-- each slot begins a run of each hash's way -/
structure Mt (m : Nat) : Prop where
  is : m = 7 ∨ m = 31 ∨ m = 127 ∨ m = 511
  odd : m % 2 = 1
  hi : m ≤ 511
  met : ∀ (h : Int) (j : Nat), j ≤ m → ∃ n, n ≤ m + 12 ∧ runI m (SetTable.bits h) n = j
theorem mt_old {m : Nat} (h : MaskOk m) : Mt m := ⟨by rcases h with e | e | e <;> simp [e], mask_odd h, by rcases h with e | e | e <;> omega, fun x j hj => run_meets h x hj⟩
theorem mt511 : Mt 511 := ⟨by simp, rfl, Nat.le_refl _, fun h j hj => by
  obtain ⟨k, hk, e⟩ := any511 (runI_le 511 (SetTable.bits h) 12) hj
  exact ⟨12 + k, by omega, (runI_tail (bits_lt h) k).trans e⟩⟩
theorem Mt.walk {m : Nat} (M : Mt m) (h : Int) {j : Nat} (hj : j ≤ m) : ∃ k, k < 10 * SetTable.turns m ∧ way m h k = j := by
  obtain ⟨n, hn, e⟩ := M.met h j hj
  obtain ⟨k, hk, ek⟩ := run_nth m (SetTable.bits h) n
  refine ⟨k, by unfold SetTable.turns; omega, ?_⟩
  show (nth m _ k).j = j
  rw [ek]; exact e
theorem way_in {m : Nat} (h : Int) (k : Nat) : way m h k ≤ m := by
  have hi : SetTable.bits h % (m + 1) ≤ m := Nat.le_of_lt_succ (Nat.mod_lt _ (Nat.succ_pos _))
  have := nth_in (m := m) k (runAt m (SetTable.bits h % (m + 1)) (SetTable.bits h)) (by
    have := runEnd_bd hi
    show SetTable.bits h % (m + 1) + (SetTable.runEnd m (SetTable.bits h % (m + 1)) - SetTable.bits h % (m + 1)) ≤ m
    omega)
  exact Nat.le_trans (Nat.le_add_right _ _) this
/-- a table that finds all again -/
structure Tab (t : SetTable) (hs : List Int) : Prop where
  ris : Ris t.place.toList
  clean : t.dummies = #[]
  sz : t.place.size = hs.length
  mt : Mt t.mask
  bd : ∀ x ∈ t.place.toList, x ≤ t.mask
  way : ∀ (i : Nat) (h : Int) (j : Nat), hs[i]? = some h → t.place.toList[i]? = some j → ∃ k, L2.way t.mask h k = j ∧ ∀ l, l < k → L2.way t.mask h l ∈ t.place.toList
theorem Tab.gap {t : SetTable} {hs : List Int} (T : Tab t hs) (hl : hs.length ≤ t.mask) (h : Int) : ∃ K, K < 10 * SetTable.turns t.mask ∧ L2.way t.mask h K ∉ t.place.toList ∧ ∀ k, k < K → L2.way t.mask h k ∈ t.place.toList := by
  obtain ⟨j, hj, out⟩ := st_missing t.place.toList (t.mask + 1) (by rw [Array.length_toList, T.sz]; omega)
  obtain ⟨k, hk, rfl⟩ := T.mt.walk h (Nat.le_of_lt_succ hj)
  obtain ⟨K, a, b, c⟩ := st_least (p := fun k => L2.way t.mask h k ∉ t.place.toList) k out
  exact ⟨K, by omega, b, fun l hl => Classical.byContradiction (c l hl)⟩
theorem Tab.ahead {t : SetTable} {hs : List Int} (T : Tab t hs) {h : Int} {K i j : Nat} (hK : L2.way t.mask h K ∉ t.place.toList) (hi : hs[i]? = some h) (hj : t.place.toList[i]? = some j) : ∃ k, k < K ∧ L2.way t.mask h k = j := by
  obtain ⟨k, rfl, hb⟩ := T.way i h j hi hj
  refine ⟨k, Nat.lt_of_not_le fun z => ?_, rfl⟩
  rcases Nat.lt_or_eq_of_le z with z | z
  · exact hK (hb K z)
  · exact hK (z ▸ List.mem_of_getElem? hj)
theorem Tab.put {t : SetTable} {hs : List Int} (T : Tab t hs) {h : Int} {K : Nat} (hK : L2.way t.mask h K ∉ t.place.toList) (hb : ∀ k, k < K → L2.way t.mask h k ∈ t.place.toList) {j b : Nat} (ej : j = L2.way t.mask h K) (eb : b = SetTable.below t.place j) :
    b ≤ hs.length ∧ (t.put j).2 = b ∧ Tab (t.put j).1 (hs.take b ++ h :: hs.drop b) ∧ (t.put j).1.mask = t.mask ∧ (t.put j).1.led = t.led ∧ (t.put j).1.plain = t.plain ∧ (t.put j).1.fill = hs.length + 1 := by
  have cb : b ≤ hs.length := by have := (below_cut T.ris j).1; rw [T.sz] at this; rw [eb]; exact this
  have pl := put_place t j
  rw [← eb] at pl
  have lb : b ≤ t.place.toList.length := by rw [Array.length_toList, T.sz]; exact cb
  have len : (t.put j).1.place.size = hs.length + 1 := by rw [← Array.length_toList, pl, len_ins _ lb, Array.length_toList, T.sz]
  have stay : ∀ x, x ∈ t.place.toList → x ∈ (t.put j).1.place.toList := fun x hx => by rw [pl]; exact mem_ins.2 (.inr hx)
  have fresh : t.place[SetTable.below t.place j]? ≠ some j := fun e => by rw [← Array.getElem?_toList] at e; exact hK (ej ▸ List.mem_of_getElem? e)
  refine ⟨cb, eb.symm, ⟨ris_insert T.ris fresh, put_dm T.clean j, by rw [len, len_ins _ cb], T.mt, fun x hx => ?_, fun i g y h1 h2 => ?_⟩, rfl, rfl, rfl, ?_⟩
  · rw [pl] at hx
    rcases mem_ins.1 hx with e | e
    · rw [e, ej]; exact way_in h K
    · exact T.bd x e
  · rw [tins_get hs cb] at h1
    rw [pl, tins_get _ lb] at h2
    have old : ∀ i', hs[i']? = some g → t.place.toList[i']? = some y → ∃ k, L2.way t.mask g k = y ∧ ∀ l, l < k → L2.way t.mask g l ∈ (t.put j).1.place.toList := fun i' q1 q2 => by
      obtain ⟨k, e, z⟩ := T.way i' g y q1 q2
      exact ⟨k, e, fun l hl => stay _ (z l hl)⟩
    by_cases c : i < b
    · rw [if_pos c] at h1 h2; exact old i h1 h2
    · rw [if_neg c] at h1 h2
      by_cases d : i = b
      · rw [if_pos d] at h1 h2
        cases h1; cases h2
        exact ⟨K, ej.symm, fun l hl => stay _ (hb l hl)⟩
      · rw [if_neg d] at h1 h2; exact old _ h1 h2
  · show (t.put j).1.place.size + (t.put j).1.dummies.size = _
    rw [len, put_dm T.clean j]; rfl
/-! laid anew -/
theorem Mt.seat {m : Nat} (M : Mt m) (owner : Array (Option Nat)) (h : Int) {j : Nat} (hj : j ≤ m) (hf : oAt owner j = none) :
    ∃ K, SetTable.layClean.free m owner (SetTable.turns m) (SetTable.bits h % (m + 1)) (SetTable.bits h) = some (way m h K) ∧ oAt owner (way m h K) = none ∧ ∀ k, k < K → oAt owner (way m h k) ≠ none := by
  obtain ⟨n, hn, e⟩ := M.met h j hj
  generalize hi0 : SetTable.bits h % (m + 1) = i0
  have at_n : way m h (off m i0 (SetTable.bits h) n) = j := by
    show (nth m (runAt m _ _) _).j = j
    rw [hi0, nth_off, ← hi0, itL_run]; exact e
  obtain ⟨K, a, b, c⟩ := st_least (p := fun k => oAt owner (way m h k) = none) _ (by rw [at_n]; exact hf)
  refine ⟨K, ?_, b, c⟩
  have := free_spec m owner (SetTable.turns m) n i0 (SetTable.bits h) K (by unfold SetTable.turns; omega) a
    (fun k hk => by rw [← hi0]; exact Option.isNone_eq_false_iff.mpr (Option.isSome_iff_ne_none.mpr (c k hk))) (by rw [← hi0]; exact Option.isNone_iff_eq_none.mpr b)
  rw [this, ← hi0]
theorem Mt.next {m : Nat} (M : Mt m) {done : List Int} {owner : Array (Option Nat)} (W : Own m done owner) (hl : done.length ≤ m) (h : Int) :
    ∃ j, SetTable.layClean.free m owner (SetTable.turns m) (SetTable.bits h % (m + 1)) (SetTable.bits h) = some j ∧ Own m (done ++ [h]) (owner.setIfInBounds j (some done.length)) := by
  obtain ⟨ps, lps, sub⟩ := W.ps
  obtain ⟨e, he, out⟩ := st_missing ps (m + 1) (by omega)
  have hfree : oAt owner e = none := Classical.byContradiction fun z => out (sub e (by omega) z)
  obtain ⟨K, f1, f2, f3⟩ := M.seat owner h (Nat.le_of_lt_succ he) hfree
  obtain ⟨q, hq⟩ : ∃ q, q = way m h K := ⟨_, rfl⟩
  rw [← hq] at f1 f2
  have qm : q ≤ m := hq ▸ way_in h K
  have new := oAt_set_self (owner := owner) (some done.length) (j := q) (by rw [W.sz]; omega)
  have up : ∀ i, oAt owner i ≠ none → oAt (owner.setIfInBounds q (some done.length)) i ≠ none := fun i hi => by
    by_cases c : i = q
    · rw [c, new]; simp
    · rw [oAt_set_ne _ c]; exact hi
  refine ⟨q, f1, ⟨by rw [Array.size_setIfInBounds]; exact W.sz, fun j k hj z => ?_, fun k hk => ?_, q :: ps, by simp [lps], fun j hj z => ?_⟩⟩
  · by_cases c : j = q
    · rw [c, new] at z
      cases z
      exact ⟨h, K, by simp, hq.symm.trans c.symm, fun l hl => up _ (f3 l hl)⟩
    · rw [oAt_set_ne _ c] at z
      obtain ⟨g, K', a1, a2, a3⟩ := W.at_ j k hj z
      exact ⟨g, K', by rw [List.getElem?_append_left (List.getElem?_eq_some_iff.mp a1).1]; exact a1, a2, fun l hl => up _ (a3 l hl)⟩
  · rcases Nat.lt_or_ge k done.length with c | c
    · obtain ⟨j, hj, z⟩ := W.all k c
      exact ⟨j, hj, by rw [oAt_set_ne _ fun y => by rw [y, f2] at z; cases z]; exact z⟩
    · have : k = done.length := by simp at hk; omega
      exact ⟨q, qm, this ▸ new⟩
  · by_cases c : j = q
    · exact c ▸ List.mem_cons_self
    · rw [oAt_set_ne _ c] at z
      exact List.mem_cons_of_mem _ (sub j hj z)
theorem Mt.seats {m : Nat} (M : Mt m) : ∀ (todo done : List Int) (owner : Array (Option Nat)), Own m done owner → done.length + todo.length ≤ m →
    ∃ o', todo.foldl (stepF m) (some (owner, done.length)) = some (o', done.length + todo.length) ∧ Own m (done ++ todo) o'
  | [], done, owner, W, _ => ⟨owner, rfl, by simpa using W⟩
  | h :: todo, done, owner, W, hl => by
    simp only [List.length_cons] at hl
    obtain ⟨j, e, W1⟩ := M.next W (by omega) h
    obtain ⟨o', f, W2⟩ := M.seats todo (done ++ [h]) _ W1 (by simp; omega)
    have el : (done ++ [h]).length = done.length + 1 := by simp
    rw [el] at f
    refine ⟨o', ?_, by simpa using W2⟩
    rw [List.foldl_cons, stepF_some e, f, List.length_cons, show done.length + 1 + todo.length = done.length + (todo.length + 1) by omega]
theorem Mt.laid {m : Nat} (M : Mt m) {hs : Array Int} (hn : hs.size ≤ m) : ∃ o, SetTable.layClean m hs = some o ∧ Own m hs.toList o := by
  obtain ⟨o, f, W⟩ := M.seats hs.toList [] _ (Own.init m) (by simpa using hn)
  refine ⟨o, ?_, W⟩
  rw [layClean_eq]
  have f' : hs.toList.foldl (stepF m) (some (Array.replicate (m + 1) none, 0)) = some (o, 0 + hs.toList.length) := f
  rw [f']; rfl
theorem relay (t : SetTable) {hs : Array Int} {wanted M : Nat} (hw : SetTable.sizeAbove wanted - 1 = M) (hM : Mt M) (hn : hs.size ≤ M) :
    ∃ t' order, t.relaid hs wanted = some (t', order) ∧ order.toList.Perm (List.range hs.size) ∧ Tab t' (order.toList.map fun i => hs.getD i 0) ∧ t'.mask = M ∧ t'.led = t.led ∧ t'.plain = t.plain := by
  obtain ⟨o, e, W⟩ := hM.laid hn
  have live := ris_live (fun j => o.getD j none) (List.range (M + 1)) (show List.Pairwise _ _ from List.pairwise_lt_range)
  have up : Ris ((liveOf M o).map (·.1)) := live.1
  have low : ∀ x ∈ (liveOf M o).map (·.1), x ≤ M := fun x hx => Nat.le_of_lt_succ (List.mem_range.mp (live.2 x hx))
  have many : (liveOf M o).length = hs.size := by
    obtain ⟨ps, lp, sub⟩ := W.ps
    have lo := nat_nodup_len (List.range hs.size) ((liveOf M o).map (·.2)) List.nodup_range fun k hk => by
      obtain ⟨j, a, b⟩ := W.all k (by simpa using hk)
      exact List.mem_map_of_mem (f := (·.2)) ((mem_live W.sz).2 ⟨a, b⟩)
    have ndu : ((liveOf M o).map (·.1)).Nodup := up.imp fun h => Nat.ne_of_lt h
    have hi := nat_nodup_len _ ps ndu fun x hx => by
      obtain ⟨⟨y, k⟩, hq, rfl⟩ := List.mem_map.mp hx
      obtain ⟨a, b⟩ := (mem_live W.sz).1 hq
      exact sub y a (by rw [b]; simp)
    simp only [List.length_map, List.length_range] at lo hi
    simp only [Array.length_toList] at lp
    omega
  have all : ∀ k, k < hs.size → k ∈ (liveOf M o).map (·.2) := fun k hk => by
    obtain ⟨j, a, b⟩ := W.all k (by simpa using hk)
    exact List.mem_map_of_mem (f := (·.2)) ((mem_live W.sz).2 ⟨a, b⟩)
  refine ⟨tabOf t M o, ((liveOf M o).map (·.2)).toArray, ?_, perm_range _ _ (by simpa using many) all, ⟨up, rfl, ?_, hM, low, fun i h j h1 h2 => ?_⟩, rfl, rfl, rfl⟩
  · rw [relaid_eq, hw, e]; rfl
  · show ((liveOf M o).map (·.1)).toArray.size = _
    simp
  · have h2' : ((liveOf M o).map (·.1))[i]? = some j := h2
    have h1' : (((liveOf M o).map (·.2)).map fun i => hs.getD i 0)[i]? = some h := h1
    simp only [List.getElem?_map, Option.map_eq_some_iff] at h1' h2'
    obtain ⟨k, ⟨q, hq, rfl⟩, eh⟩ := h1'
    obtain ⟨q', hq', rfl⟩ := h2'
    rw [hq] at hq'; cases hq'
    obtain ⟨a, b⟩ := (mem_live W.sz).1 (show (q.1, q.2) ∈ _ from List.mem_of_getElem? hq)
    obtain ⟨g, K, a1, a2, a3⟩ := W.at_ q.1 q.2 a b
    have eg : g = h := by
      rw [← eh, Array.getD_eq_getD_getElem?, ← Array.getElem?_toList, a1]; rfl
    subst eg
    refine ⟨K, a2, fun l hl => ?_⟩
    obtain ⟨k2, z⟩ := Option.ne_none_iff_exists'.mp (a3 l hl)
    exact List.mem_map_of_mem (f := (·.1)) ((mem_live W.sz).2 ⟨way_in g l, z⟩)
end TG
end
section
set_option Elab.async false
set_option linter.all false
set_option maxRecDepth 100000
set_option maxHeartbeats 4000000
/-! sets of tuples of ints, fewer than 300 -/
namespace TG
open PySem PySem.Spec PyProof.Rows L2
structure SetG (P : Program) (w : World) (h : Heap) (a : Addr) (L : List (Addr × List Int)) (es : Array (Int × Value)) (ep : Nat) (t : SetTable) : Prop where
  ob : ∃ o, h.get? a = some o ∧ o.ExactSet ∧ o.data = .set es ep t
  rows : es.toList = rowsOf P w L
  tab : Tab t (L.map fun p => thash P w p.2)
  nd : (L.map Prod.snd).Nodup
  tup : ∀ p ∈ L, IsT P w h p.2 p.1
  plain : t.plain = true
  led : w.params.followText "set-order" = true ∨ t.led = true
  room : L.length * 5 < t.mask * 3
  few : L.length < 300
section
variable {P : Program} {w : World} {A : Around} {E : Value → Shared → Prop} {s : Shared} {a : Addr} {L : List (Addr × List Int)} {es : Array (Int × Value)} {ep : Nat} {t : SetTable}
theorem SetG.many (R : SetG P w s.heap a L es ep t) : es.size = L.length := by
  rw [← Array.length_toList, R.rows]; unfold rowsOf; rw [List.length_map]
theorem SetG.placed (R : SetG P w s.heap a L es ep t) : t.place.size = L.length := by have := R.tab.sz; rwa [List.length_map] at this
theorem SetG.fits (R : SetG P w s.heap a L es ep t) : t.fits es.size = true := by
  have h1 := R.placed; have h2 := R.many; have h3 := R.room
  unfold SetTable.fits SetTable.fill
  rw [R.tab.clean, Bool.and_eq_true, beq_iff_eq, decide_eq_true_eq]
  exact ⟨by omega, by show t.place.size + 0 ≤ t.mask; omega⟩
theorem SetG.row (R : SetG P w s.heap a L es ep t) {i : Nat} {p : Addr × List Int} (h : L[i]? = some p) : es[i]? = some (thash P w p.2, Value.ref p.1) := by
  rw [← Array.getElem?_toList, R.rows]; unfold rowsOf; rw [List.getElem?_map, h]; rfl
theorem SetG.whole (R : SetG P w s.heap a L es ep t) : ¬ t.gaveWay = true := by unfold SetTable.gaveWay; rw [R.tab.mt.odd]; decide
theorem nth_clean (m : Nat) : ∀ (n : Nat) (p : SetTable.Probe), p.dummy = none → (nth m p n).dummy = none
  | 0, _, h => h
  | n + 1, p, h => nth_clean m n _ (by unfold adv; split <;> exact h)
abbrev st0 (m : Nat) (h : Int) : SetTable.Probe := runAt m (SetTable.bits h % (m + 1)) (SetTable.bits h)
/-- where the way from its c-th step on leads -/
theorem SetG.look (R : SetG P w s.heap a L es ep t) {x : Addr} {k : List Int} (hx : IsT P w s.heap k x) (hu : A.units < cLine) {K : Nat} (big : K < 10 * SetTable.turns t.mask) (gap : way t.mask (thash P w k) K ∉ t.place.toList)
    (full : ∀ c, c < K → way t.mask (thash P w k) c ∈ t.place.toList) {Q : SetFound → Shared → Prop} (hin : k ∈ L.map Prod.snd → Q (.there none) s) (hout : k ∉ L.map Prod.snd → Q (.free (way t.mask (thash P w k) K) false) s) :
    ∀ (f c : Nat) (stand : Option SetTable.Probe), stand.getD (t.probeStart (thash P w k)) = nth t.mask (st0 t.mask (thash P w k)) c → c ≤ K → K - c < f →
      (∀ (i : Nat) (p : Addr × List Int), L[i]? = some p → p.2 = k → ∃ c', c ≤ c' ∧ c' < K ∧ t.place.toList[i]? = some (way t.mask (thash P w k) c')) → wpAny (model P w) A (setSearchFrom a (.ref x) (thash P w k) true f stand) Q E s := by
  obtain ⟨o, ho, hex, hd⟩ := R.ob
  intro f
  induction f with
  | zero => exact fun c _ _ _ hf _ => absurd hf (Nat.not_lt_zero _)
  | succ f ih =>
    intro c stand hst hc hf hre
    rw [setSearchFrom_succ]
    refine wpAny_bind (wpAny_setState_of ho hd R.fits ?_)
    dsimp only
    refine wp_if_neg R.whole ?_
    try refine wpAny_bind (wpAny_pure ?_)
    have go : ∀ q, (nth t.mask (nth t.mask (st0 t.mask (thash P w k)) c) q).j = way t.mask (thash P w k) (c + q) := fun q => congrArg SetTable.Probe.j (nth_add t.mask c _ q).symm
    have go' : ∀ q, nth t.mask (nth t.mask (st0 t.mask (thash P w k)) c) q = nth t.mask (st0 t.mask (thash P w k)) (c + q) := fun q => (nth_add t.mask c _ q).symm
    rcases go_spec t R.tab.ris R.tab.clean (fun i => (es[i]?.map (·.1)).getD 0) (thash P w k) (10 * SetTable.turns t.mask) (K - c) (nth t.mask (st0 t.mask (thash P w k)) c) (nth_clean _ c _ rfl) (by omega) (fun q hq => by rw [go]; exact full _ (by omega))
      (by rw [go, Nat.add_sub_cancel' hc]; exact gap) with ⟨q, i, hq, hi, hh, hno, hpr⟩ | ⟨hno, hpr⟩
    · rw [go, go'] at hpr
      rw [go] at hi
      have hpr' : t.probe (fun i => (es[i]?.map (·.1)).getD 0) (thash P w k) (stand.getD (t.probeStart (thash P w k))) = some (.candidate (way t.mask (thash P w k) (c + q)) i (nth t.mask (st0 t.mask (thash P w k)) (c + (q + 1)))) := by rw [hst]; exact hpr
      rw [hpr']
      dsimp only
      have hil : i < L.length := by
        have := (List.getElem?_eq_some_iff.mp hi).1
        rwa [Array.length_toList, R.placed] at this
      obtain ⟨p, hp⟩ : ∃ p, L[i]? = some p := ⟨_, List.getElem?_eq_getElem hil⟩
      have pm : p ∈ L := List.mem_of_getElem? hp
      have live := slot_live R.tab.ris hi
      have rest : wpAny (model P w) A (searchRest a (.ref x) (thash P w k) true f es t (way t.mask (thash P w k) (c + q)) i (nth t.mask (st0 t.mask (thash P w k)) (c + (q + 1)))) Q E s := by
        unfold searchRest
        rw [R.row hp]
        dsimp only
        refine wpAny_bind (wpAny_holding (wpAny_eqBool_tuple hu (R.tup p pm) hx ?_))
        refine wpAny_bind (wpAny_setState_of ho hd R.fits ?_)
        dsimp only
        by_cases hk : p.2 = k
        · exact wp_if_pos (by simp [hk]) (wpAny_pure (hin (List.mem_map.mpr ⟨p, pm, hk⟩)))
        · refine wp_if_neg (by simp [hk]) ?_
          try refine wpAny_bind (wpAny_pure ?_)
          rw [sameMem]
          dsimp only
          simp only [if_true, live, R.row hp]
          refine wpAny_bind (wpAny_isSame_ref_self (wpAny_bind (wpAny_pure ?_)))
          simp only [if_true]
          refine wp_if_neg (by simp [hk]) (ih (c + (q + 1)) _ rfl (by omega) (by omega) fun i0 p0 h0 k0 => ?_)
          obtain ⟨d, d1, d2, d3⟩ := hre i0 p0 h0 k0
          refine ⟨d, Classical.byContradiction fun nz => ?_, d2, d3⟩
          rcases Nat.lt_or_eq_of_le (show d ≤ c + q by omega) with z | z
          · refine hno (d - c) i0 (by omega) (by rw [go, Nat.add_sub_cancel' d1]; exact d3) ?_
            show (es[i0]?.map (·.1)).getD 0 = _
            rw [R.row h0, ← k0]; rfl
          · rw [z] at d3
            have := slot_live R.tab.ris d3
            rw [live] at this
            cases this
            rw [hp] at h0; cases h0
            exact hk k0
      by_cases hl : t.led = true
      · refine wp_if_neg (by simp [hl]) ?_
        try refine wpAny_bind (wpAny_pure ?_)
        exact rest
      · refine wp_if_pos (by simp [hl]) (wpAny_bind (seen_tup hx (fun y hy => ?_) (wp_if_neg (by decide) ?_)))
        · obtain ⟨e, he, rfl⟩ := List.mem_map.mp hy
          have hm : e ∈ es.toList := by simpa using (show e ∈ es ∧ _ by simpa using he).1
          rw [R.rows] at hm
          obtain ⟨p2, m2, rfl⟩ := List.mem_map.mp hm
          exact ⟨p2.2, p2.1, rfl, R.tup p2 m2⟩
        · try refine wpAny_bind (wpAny_pure ?_)
          exact rest
    · rw [go, Nat.add_sub_cancel' hc] at hpr
      have hpr' : t.probe (fun i => (es[i]?.map (·.1)).getD 0) (thash P w k) (stand.getD (t.probeStart (thash P w k))) = some (.empty (way t.mask (thash P w k) K) none) := by rw [hst]; exact hpr
      rw [hpr']
      dsimp only
      refine wpAny_pure (hout fun hm => ?_)
      obtain ⟨p0, m0, k0⟩ := List.mem_map.mp hm
      obtain ⟨i0, l0, e0⟩ := List.getElem_of_mem m0
      have h0 : L[i0]? = some p0 := by rw [List.getElem?_eq_getElem l0, e0]
      obtain ⟨d, d1, d2, d3⟩ := hre i0 p0 h0 k0
      refine hno (d - c) i0 (by omega) (by rw [go, Nat.add_sub_cancel' d1]; exact d3) ?_
      show (es[i0]?.map (·.1)).getD 0 = _
      rw [R.row h0, ← k0]; rfl
theorem SetG.search (R : SetG P w s.heap a L es ep t) {x : Addr} {k : List Int} (hx : IsT P w s.heap k x) (hu : A.units < cLine) {Q : SetFound → Shared → Prop} (hin : k ∈ L.map Prod.snd → Q (.there none) s)
    (hout : ∀ K, k ∉ L.map Prod.snd → way t.mask (thash P w k) K ∉ t.place.toList → (∀ c, c < K → way t.mask (thash P w k) c ∈ t.place.toList) → Q (.free (way t.mask (thash P w k) K) false) s) : wpAny (model P w) A (setSearch a (.ref x) (thash P w k) true) Q E s := by
  have room := R.room
  obtain ⟨K, big, gap, full⟩ := R.tab.gap (by rw [List.length_map]; omega) (thash P w k)
  have lid : K < 100000 := by have := R.tab.mt.hi; unfold SetTable.turns at big; omega
  unfold setSearch
  refine R.look hx hu big gap full hin (fun n => hout K n gap full) 100000 0 none rfl (Nat.zero_le _) (by omega) fun i p hp hk => ?_
  obtain ⟨j, hj⟩ : ∃ j, t.place.toList[i]? = some j := ⟨_, List.getElem?_eq_getElem (by rw [Array.length_toList, R.placed]; exact (List.getElem?_eq_some_iff.mp hp).1)⟩
  obtain ⟨c, hc, e⟩ := R.tab.ahead gap (i := i) (by rw [List.getElem?_map, hp, ← hk]; rfl) hj
  exact ⟨c, Nat.zero_le _, hc, by rw [hj, e]⟩
theorem size77 : SetTable.sizeAbove (SetTable.grown 77) = 512 := by decide +kernel
/-- laid anew, larger -/
theorem relay_set {o : Obj} (ho : s.heap.get? a = some o) (hex : o.ExactSet) (hd : o.data = .set es ep t) (rows : es.toList = rowsOf P w L) (T : Tab t (L.map fun p => thash P w p.2)) (nd : (L.map Prod.snd).Nodup) (tup : ∀ p ∈ L, IsT P w s.heap p.2 p.1) (pl : t.plain = true)
    (ld : w.params.followText "set-order" = true ∨ t.led = true) (few : L.length < 300) (under : L.length ≤ t.mask) {wanted M : Nat} (hw : SetTable.sizeAbove wanted = M + 1) (hM : Mt M) (hn : L.length * 5 < M * 3) {Q : Unit → Shared → Prop}
    (hQ : ∀ h' L' es' ep' t', Heap.SameBut a s.heap h' → SetG P w h' a L' es' ep' t' → L'.Perm L → Q () { s with heap := h' }) : wpAny (model P w) A (setRelay a wanted) Q E s := by
  have many : es.size = L.length := by rw [← Array.length_toList, rows]; unfold rowsOf; rw [List.length_map]
  have fits : t.fits es.size = true := by
    have := T.sz
    rw [List.length_map] at this
    unfold SetTable.fits SetTable.fill
    rw [T.clean, Bool.and_eq_true, beq_iff_eq, decide_eq_true_eq]
    exact ⟨by omega, by show t.place.size + 0 ≤ t.mask; omega⟩
  obtain ⟨t', order, e, pm, T', em, el, ep'⟩ := relay t (hs := es.map (·.1)) (wanted := wanted) (M := M) (by omega) hM (by rw [Array.size_map, many]; omega)
  rw [Array.size_map, many] at pm
  obtain ⟨L2', r1, r2, r3⟩ := order_rows L es order rows pm
  rw [← r3] at T'
  have len2 : (order.filterMap (es[·]?)).size = es.size := by
    rw [← Array.length_toList, r1, many, ← r2.length_eq]; unfold rowsOf; rw [List.length_map]
  have cap := hM.hi
  rw [setRelay_eq]
  refine wpAny_bind (wpAny_setState_of ho hd fits ?_)
  dsimp only
  refine wp_if_neg (by rw [hw, sizeLine_eq]; omega) ?_
  try refine wpAny_bind (wpAny_pure ?_)
  rw [e]
  dsimp only
  refine wpAny_bind (wp_if_neg (by rw [len2]; simp) ?_)
  try refine wpAny_bind (wpAny_pure ?_)
  refine wpAny_pure ?_
  dsimp only
  refine wpAny_storeSet_of ho hd (hQ _ L2' (order.filterMap (es[·]?)) (ep + 1) t' (Heap.SameBut.update ..) ⟨⟨_, store_at ho hd, ⟨hex.1, hex.2.1, hex.2.2⟩, rfl⟩, r1, T', (r2.map Prod.snd).nodup_iff.mpr nd, fun p hp => isT_same (tup p (r2.mem_iff.mp hp)) ho hd (Heap.SameBut.update ..), by rw [ep']; exact pl, by rw [el]; exact ld, by rw [r2.length_eq, em]; exact hn, by rw [r2.length_eq]; exact few⟩ r2) (by rw [len2, many, sizeLine_eq]; omega)
/-- one is added -/
theorem SetG.add (R : SetG P w s.heap a L es ep t) {x : Addr} {k : List Int} (hx : IsT P w s.heap k x) (hu : A.units < cLine) (few : L.length + 1 < 300) {Q : Bool → Shared → Prop}
    (hQ : ∀ b h' L' es' ep' t', Heap.SameBut a s.heap h' → SetG P w h' a L' es' ep' t' → (k ∈ L.map Prod.snd → L' = L) → (k ∉ L.map Prod.snd → L'.Perm ((x, k) :: L)) → Q b { s with heap := h' }) :
    wpAny (model P w) A (setAddHashed a (.ref x) (thash P w k)) Q E s := by
  obtain ⟨o, ho, hex, hd⟩ := R.ob
  have many := R.many
  have room := R.room
  unfold setAddHashed
  refine wpAny_holding ?_
  rw [show (100000 : Nat) = 99999 + 1 from rfl, setAddHashedIn_succ]
  refine wpAny_bind (wpAny_setState_of ho hd R.fits ?_)
  dsimp only
  refine wp_if_neg (by simp [byScan, Value.scannable]) ?_
  try refine wpAny_bind (wpAny_pure ?_)
  refine wpAny_bind (R.search hx hu (fun hm => wpAny_pure (hQ false s.heap L es ep t (Heap.SameBut.refl a s.heap) R (fun _ => rfl) fun z => absurd hm z)) fun K hm gap full => ?_)
  dsimp only
  refine wpAny_bind (wpAny_setState_of ho hd R.fits ?_)
  dsimp only
  generalize ej : way t.mask (thash P w k) K = j
  generalize eb : SetTable.below t.place j = b
  obtain ⟨b1, b2, T1, m1, l1, p1, f1⟩ := R.tab.put gap full ej.symm eb.symm
  rw [List.length_map] at f1
  generalize hpt : t.put j = pt at b2 T1 m1 l1 p1 f1 ⊢
  obtain ⟨t1, b'⟩ := pt
  dsimp only at b2 T1 m1 l1 p1 f1 ⊢
  subst b2
  have pl1 : t1.plain = true := by rw [p1]; exact R.plain
  first
    | (refine wpAny_bind ?_; refine wp_if_pos pl1 ?_; refine hashBy_tup hx ?_)
    | refine wp_if_pos pl1 (wpAny_bind (hashBy_tup hx ?_))
  simp only [if_true]
  have ins : (SetTable.insertAt es b' (thash P w k, Value.ref x)).toList = rowsOf P w (L.take b' ++ (x, k) :: L.drop b') := by rw [SetTable.toList_insertAt, rows_put, R.rows]
  have pm := put_perm L b' (x, k)
  have len1 : (L.take b' ++ (x, k) :: L.drop b').length = L.length + 1 := pm.length_eq
  rw [show (L.map fun p => thash P w p.2).take b' ++ thash P w k :: (L.map fun p => thash P w p.2).drop b' = (L.take b' ++ (x, k) :: L.drop b').map fun p => thash P w p.2 by rw [List.map_append, List.map_cons, List.map_take, List.map_drop]] at T1
  have nd1 : ((L.take b' ++ (x, k) :: L.drop b').map Prod.snd).Nodup := (pm.map Prod.snd).nodup_iff.mpr (by rw [List.map_cons]; exact List.nodup_cons.mpr ⟨hm, R.nd⟩)
  have es1 : (SetTable.insertAt es b' (thash P w k, Value.ref x)).size = L.length + 1 := by rw [← Array.length_toList, ins]; unfold rowsOf; rw [List.length_map, len1]
  generalize SetTable.insertAt es b' (thash P w k, Value.ref x) = en at ins es1 ⊢
  generalize L.take b' ++ (x, k) :: L.drop b' = L1 at pm len1 T1 nd1 ins
  refine wpAny_bind (wpAny_storeSet_of ho hd ?_ (by rw [es1, sizeLine_eq]; omega))
  have sb : Heap.SameBut a s.heap (s.heap.update a (Obj.putSet en t1)) := Heap.SameBut.update ..
  have ho1 := store_at (es' := en) (t' := t1) ho hd
  generalize s.heap.update a (Obj.putSet en t1) = h1 at sb ho1 ⊢
  have tup1 : ∀ p ∈ L1, IsT P w h1 p.2 p.1 := fun p hp => by
    rcases List.mem_cons.mp (pm.mem_iff.mp hp) with rfl | hp
    · exact isT_same hx ho hd sb
    · exact isT_same (R.tup p hp) ho hd sb
  have ld1 : w.params.followText "set-order" = true ∨ t1.led = true := by rw [l1]; exact R.led
  by_cases hf : t1.tooFull = true
  · first
      | (refine wpAny_bind ?_; refine wp_if_pos (by simp [hf]) ?_)
      | (refine wp_if_pos (by simp [hf]) ?_; refine wpAny_bind ?_)
    have brim : t.mask * 3 ≤ (L.length + 1) * 5 := by
      unfold SetTable.tooFull at hf
      rw [decide_eq_true_eq, f1, m1] at hf
      exact hf
    rw [many]
    have go : ∀ M, SetTable.sizeAbove (SetTable.grown (L.length + 1)) = M + 1 → Mt M → (L.length + 1) * 5 < M * 3 →
        wpAny (model P w) A (setRelay a (SetTable.grown (L.length + 1))) (fun _ s' => wpAny (model P w) A (pure true) Q E s') E { s with heap := h1 } := fun M g1 g2 g3 => by
      refine relay_set (s := { s with heap := h1 }) ho1 ⟨hex.1, hex.2.1, hex.2.2⟩ rfl ins T1 nd1 tup1 pl1 ld1 (by rw [len1]; exact few) (by rw [len1, m1]; omega) g1 g2 (by rw [len1]; exact g3) fun h2 L2' es2 ep2 t2 sb2 R2 pm2 => ?_
      exact wpAny_pure (hQ true h2 L2' es2 ep2 t2 (sb.trans sb2) R2 (fun z => absurd z hm) fun _ => pm2.trans pm)
    rcases R.tab.mt.is with e | e | e | e
    · have e2 : L.length = 4 := by omega
      exact go 31 (by rw [e2]; decide +kernel) (mt_old (.inr (.inl rfl))) (by omega)
    · have e2 : L.length = 18 := by omega
      exact go 127 (by rw [e2]; decide +kernel) (mt_old (.inr (.inr rfl))) (by omega)
    · have e2 : L.length = 76 := by omega
      exact go 511 (by rw [e2]; exact size77) mt511 (by omega)
    · omega
  · first
      | refine wp_if_neg (by simp [hf]) ?_
      | (refine wpAny_bind ?_; refine wp_if_neg (by simp [hf]) ?_; refine wpAny_pure ?_)
    refine wpAny_pure (hQ true h1 L1 en (ep + 1) t1 sb ⟨⟨_, ho1, ⟨hex.1, hex.2.1, hex.2.2⟩, rfl⟩, ins, T1, nd1, tup1, pl1, ld1, ?_, by rw [len1]; exact few⟩ (fun z => absurd z hm) fun _ => pm)
    unfold SetTable.tooFull at hf
    rw [decide_eq_true_eq, f1] at hf
    rw [len1]
    omega
end
end TG
end
section
set_option Elab.async false
set_option linter.all false
set_option maxRecDepth 100000
set_option maxHeartbeats 4000000
/-! {elt for a in .. for b in ..}: the set's kind is told by its first word and by what adding does -/
namespace TG
open PySem PySem.Spec PyProof.Rows L2
abbrev setC (elt t0 i0 t1 i1 : Expr) (scope : Scope) (pos : Pos) : Expr := .SetComp elt [⟨t0, i0, [], 0⟩, ⟨t1, i1, [], 0⟩] scope pos
section
variable {P : Program} {w : World} {A : Around} {R : Result → Shared → Prop} {s : Shared} {elt t0 i0 t1 i1 : Expr} {scope : Scope} {pos : Pos} {it acc : Value} {env : Env}
theorem turn_out : compTurn (setC elt t0 i0 t1 i1 scope pos) 0 it acc env = (do
      standAt i0.pos
      match ← pyNext it with
      | none => pure (.done .next)
      | some v =>
        letOwnedTupleGo t0 it v
        assign t0 env v
        let x ← eval i1 env
        standAt i1.pos
        let x ← foldedSetIterable i1 env x
        let _ ← runOwn (.compStart (setC elt t0 i0 t1 i1 scope pos) 1 (← holding [x] (pyIter x)) acc env) env
        again (.compLoop (setC elt t0 i0 t1 i1 scope pos) 0 it acc env)) := by rfl
theorem turn_in : compTurn (setC elt t0 i0 t1 i1 scope pos) 1 it acc env = (do
      standAt i1.pos
      match ← pyNext it with
      | none => pure (.done .next)
      | some v =>
        letOwnedTupleGo t1 it v
        assign t1 env v
        (do let y ← eval elt env; standAt elt.pos; let _ ← call (.builtin "set.add") [acc, y])
        again (.compLoop (setC elt t0 i0 t1 i1 scope pos) 1 it acc env)) := by rfl
/-- what a turn of the inner loop comes to -/
def InT (M : Model) (A : Around) (elt t1 : Expr) (it acc : Value) (env : Env) (stop : Shared → Prop) (next : Shared → Prop) (s : Shared) : Prop :=
  wpAny M A (pyNext it) (fun r sa => match r with
    | none => stop sa
    | some v => wpAny M A (letOwnedTupleGo t1 it v) (fun _ sb => wpAny M A (assign t1 env v) (fun _ sc => wpAny M A (eval elt env) (fun y sd => wpAny M A (call (.builtin "set.add") [acc, y]) (fun _ se => next se) (fun _ _ => False) sd) (fun _ _ => False) sc) (fun _ _ => False) sb) (fun _ _ => False) sa) (fun _ _ => False) s
theorem loop_in (J : Nat → Shared → Prop) (turn : ∀ n s, J n s → InT (model P w) A elt t1 it acc env (fun sa => R (.ok .next) sa) (fun se => ∃ m, m < n ∧ J m se) s) (n : Nat) (h : J n s) :
    codeAny (model P w) A (.compLoop (setC elt t0 i0 t1 i1 scope pos) 1 it acc env) R s := by
  refine codeAny_loop rfl J (fun n s hJ => ?_) n h
  show wpAny _ A ((compTurn (setC elt t0 i0 t1 i1 scope pos) 1 it acc env).onRaise (fun x => do noteFrame x env; theTreesLotGoes x)) _ _ s
  rw [turn_in]
  refine wpAny_noted (wpAny_bind (wpAny_standAt (wpAny_bind (wpAny_mono (turn n s hJ) (fun r sa ha => ?_) fun _ _ z => z.elim))))
  cases r with
  | none => exact wpAny_pure ha
  | some v =>
    refine wpAny_bind (wpAny_mono ha (fun _ sb hb => wpAny_bind (wpAny_mono hb (fun _ sc hc => ?_) fun _ _ z => z.elim)) fun _ _ z => z.elim)
    refine wpAny_bind (wpAny_bind (wpAny_mono hc (fun y sd hd => wpAny_bind (wpAny_standAt (wpAny_bind (wpAny_mono hd (fun _ se he => ?_) fun _ _ z => z.elim)))) fun _ _ z => z.elim))
    exact wpAny_pure (wpAny_pure ⟨rfl, he⟩)
def OutT (M : Model) (A : Around) (t0 i1 : Expr) (start : Value → Code) (it : Value) (env : Env) (stop : Shared → Prop) (next : Shared → Prop) (s : Shared) : Prop :=
  wpAny M A (pyNext it) (fun r sa => match r with
    | none => stop sa
    | some v => wpAny M A (letOwnedTupleGo t0 it v) (fun _ sb => wpAny M A (assign t0 env v) (fun _ sc => wpAny M A (eval i1 env) (fun x sd => wpAny M A (pyIter x) (fun jt se => codeAny M A (start jt) (fun r sf => match r with | .ok _ => next sf | .error _ => False) se) (fun _ _ => False) sd) (fun _ _ => False) sc) (fun _ _ => False) sb) (fun _ _ => False) sa) (fun _ _ => False) s
theorem loop_out (hs : ∀ x, foldedSetIterable i1 env x = pure x) (J : Nat → Shared → Prop)
    (turn : ∀ n s, J n s → OutT (model P w) A t0 i1 (fun jt => .compStart (setC elt t0 i0 t1 i1 scope pos) 1 jt acc env) it env (fun sa => R (.ok .next) sa) (fun se => ∃ m, m < n ∧ J m se) s) (n : Nat) (h : J n s) :
    codeAny (model P w) A (.compLoop (setC elt t0 i0 t1 i1 scope pos) 0 it acc env) R s := by
  refine codeAny_loop rfl J (fun n s hJ => ?_) n h
  show wpAny _ A ((compTurn (setC elt t0 i0 t1 i1 scope pos) 0 it acc env).onRaise (fun x => do noteFrame x env; theTreesLotGoes x)) _ _ s
  rw [turn_out]
  refine wpAny_noted (wpAny_bind (wpAny_standAt (wpAny_bind (wpAny_mono (turn n s hJ) (fun r sa ha => ?_) fun _ _ z => z.elim))))
  cases r with
  | none => exact wpAny_pure ha
  | some v =>
    refine wpAny_bind (wpAny_mono ha (fun _ sb hb => wpAny_bind (wpAny_mono hb (fun _ sc hc => ?_) fun _ _ z => z.elim)) fun _ _ z => z.elim)
    refine wpAny_bind (wpAny_mono hc (fun x sd hd => wpAny_bind (wpAny_standAt (wpAny_bind (wpAny_of_eq (hs x) (wpAny_bind (wpAny_holding (wpAny_mono hd (fun jt se he => ?_) fun _ _ z => z.elim))))))) fun _ _ z => z.elim)
    refine wpAny_bind (wpAny_runOwn ?_)
    rw [Around.mark_none]
    refine codeAny_mono he fun r sf hf => ?_
    cases r with
    | ok f => first | exact wpAny_pure ⟨rfl, hf⟩ | exact wpAny_bind (wpAny_pure (wpAny_pure ⟨rfl, hf⟩))
    | error e => exact hf.elim
/-- either way to begin -/
theorem start_of {k : Nat} (hk : k = 0 ∨ k = 1) (now : codeAny (model P w) A (.compLoop (setC elt t0 i0 t1 i1 scope pos) k it acc env) R s)
    (again : wpAny (model P w) A (pyIter it) (fun jt s' => codeAny (model P w) A (.compLoop (setC elt t0 i0 t1 i1 scope pos) k jt acc env) R s') (fun _ _ => False) s) :
    codeAny (model P w) A (.compStart (setC elt t0 i0 t1 i1 scope pos) k it acc env) R s := by
  refine codeAny_of_tree ?_
  show wpAny _ _ ((compStart (setC elt t0 i0 t1 i1 scope pos) k it acc env).onRaise (fun x => do noteFrame x env; standAt theWindowsPlace)) _ _ s
  refine wpAny_notedAt ?_
  unfold compStart
  rcases hk with rfl | rfl
  all_goals
    show wpAny _ _ (ask >>= _) _ _ s
    refine wpAny_bind (wpAny_askSetting (wpAny_ite ?_))
    split
    · first | exact wpAny_bind (wpAny_pure (wpAny_pure (And.intro rfl now))) | exact wpAny_pure (And.intro rfl now)
    · refine wpAny_bind (wpAny_rule ?_)
      exact wpAny_bind (wpAny_standAt (wpAny_bind (wpAny_mono again (fun jt s' z => wpAny_pure (And.intro rfl z)) fun _ _ z => z.elim)))
end

/-! ### as a rule of the layer -/
abbrev Adds := Addr → V → Hp → (Hp → Prop) → Prop
/-- what an added item does -/
def AddsOk (X : Cx) (ad : Adds) : Prop := ∀ (Y : Cx), Y.prog = X.prog → Y.w = X.w → Y.K = X.K → Y.A = X.A → ∀ (pins : List (Addr × Obj)) (s : Shared) (σ : L2.St) (H : Hp) (D : Addr) (y : V) (u : Value) (N : Hp → Prop), Inv Y pins σ H s → RelV y u → ad D y H N →
  wpAny (model X.prog X.w) X.A (call (.builtin "set.add") [.ref D, u]) (fun _ s' => ∃ H', Inv Y pins σ H' s' ∧ N H') (fun _ _ => False) s
def setO (w : World) : Obj := { cls := .type "set", dict := none, data := .set #[] 0 (.fresh 0 0 (!w.params.followText "set-order")) }
def NewOk (X : Cx) (em : Addr → HO) : Prop := ∀ (H : Hp) (h : Heap), ObjOk X.prog X.w H (h.push (setO X.w)) h.objs.size (em h.objs.size)
/-- the second source's own loop: from it N is reached -/
def Rest (ad : Adds) (g1 : TG) (te : TE) (vs1 : List Nat) (D : Addr) (N : Hp → Prop) (σ2 : L2.St) (J1 : It) (H4 : Hp) : Prop :=
  ∃ W1 : Nat → Nat → Hp → Prop, (∃ m, W1 0 m H4) ∧ ∀ j k H, W1 j k H → (J1.stop j H ∧ N H) ∨ (J1.go j H ∧ ∃ N1 : Hp → Prop, (∀ H', N1 H' → ∃ k', k' < k ∧ W1 (j + 1) k' H') ∧
    ∀ x H', J1.yld j H x H' → g1 x (wipe σ2 vs1) H' fun σ3 H5 => wipe σ3 vs1 = wipe σ2 vs1 ∧ te σ3 H5 fun y H6 => ad D y H6 N1)
def tSc2 (em : Addr → HO) (ad : Adds) (wi : TI) (g : TG) (wi1 : TI) (g1 : TG) (te : TE) (vs vs1 : List Nat) : TE := fun σ H Q => wi σ H fun J H1 => ∀ D, H1 D = none → ∃ W : Nat → Nat → Hp → Prop, (∃ m, W 0 m (upd H1 D (em D))) ∧ ∀ i m H, W i m H →
  (J.stop i H ∧ Q (.ref D) H) ∨ (J.go i H ∧ ∃ N : Hp → Prop, (∀ H', N H' → ∃ m', m' < m ∧ W (i + 1) m' H') ∧
    ∀ x H', J.yld i H x H' → g x (wipe σ vs) H' fun σ2 H2 => wipe σ2 vs = wipe σ vs ∧ wi1 σ2 H2 (Rest ad g1 te vs1 D N σ2))
section
variable {X : Cx}
theorem pins_keep {Y : Cx} {pins : List (Addr × Obj)} {σ : L2.St} {H' : Hp} {s7 s' : Shared} {fp : List Addr} (I : Inv Y (pins ++ pinsAt fp s7.heap) σ H' s') {b : Addr} {o : Obj} (hb : b ∈ fp) (e : s7.heap.get? b = some o) : s'.heap.get? b = some o ∧ H' b = none :=
  let z := I.pin (b, o) (List.mem_append_right _ (List.mem_append_right _ (mem_pinsAt hb e)))
  ⟨z.1, z.2.1⟩
/-- the inner loop -/
theorem inner {Y : Cx} {ad : Adds} (hY : Y.prog = X.prog ∧ Y.w = X.w ∧ Y.K = X.K ∧ Y.A = X.A) (hY2 : Y.calm = true) (add : AddsOk X ad) {elt t0 i0 t1 i1 : Expr} {scope : Scope} {pos : Pos} {g1 : TG} {te : TE} {vs1 : List Nat} {D : Addr} {N : Hp → Prop} {σ2 : L2.St} {pins : List (Addr × Obj)}
    (pg : PG Y t1 g1) (pe : PE Y elt te) {J1 : It} {H4 : Hp} {s : Shared} {it : Addr} {fp : List Addr} {tn : Nat → Heap → Prop} (I : Inv Y pins σ2 H4 s) (T : Turn Y.prog Y.w Y.K t1 J1 fp it tn) (st : tn 0 s.heap) (fo : ∀ b ∈ fp, FpOk Y pins H4 b) (h : Rest ad g1 te vs1 D N σ2 J1 H4)
    (hx : ∀ e s, ¬ Y.xe e s) :
    codeAny (model X.prog X.w) X.A (.compLoop (setC elt t0 i0 t1 i1 scope pos) 1 (.ref it) (.ref D) Y.env) (fun r s' => match r with | .ok _ => ∃ H', Inv Y pins (wipe σ2 vs1) H' s' ∧ N H' | .error _ => False) s := by
  obtain ⟨eP, ew, eK, eA⟩ := hY
  obtain ⟨W1, ⟨m1, w1⟩, turn⟩ := h
  have foN : ∀ {H' : Hp}, (∀ b ∈ fp, H' b = none) → ∀ b ∈ fp, FpOk Y pins H' b := fun hn b hb => ⟨hn b hb, (fo b hb).2⟩
  refine loop_in (fun k s' => ∃ j H', Inv Y pins (wipe σ2 vs1) H' s' ∧ tn j s'.heap ∧ (∀ b ∈ fp, H' b = none) ∧ W1 j k H') ?_ m1 ⟨0, H4, I.weak (wipe_length _ _) fun j v e => (wipe_some e).1, st, fun b hb => (fo b hb).1, w1⟩
  rintro k sa ⟨j, Ha, Ia, ta, na, wa⟩
  unfold InT
  rcases turn j k Ha wa with ⟨stop, fine⟩ | ⟨go, N1, hN1, step⟩
  · have d := T.done Y rfl rfl rfl hY2 j pins sa (wipe σ2 vs1) Ha (fun _ _ => False) Ia (foN na) ta stop
    rw [eP, ew, eA] at d
    exact thn d fun r sb ⟨hr, Ib⟩ => by subst hr; exact ⟨Ha, Ib, fine⟩
  · have d := T.item Y rfl rfl rfl hY2 j pins sa (wipe σ2 vs1) Ha (fun _ _ => False) Ia (foN na) ta go
    rw [eP, ew, eA] at d
    refine thn d fun r sb ⟨u, hr, hb⟩ => ?_
    subst hr
    refine thn hb fun _ sc ⟨x, Hc, Ic, rc, yc, tc, nc⟩ => ?_
    have Ic' := Ic.pinned (foN nc) (T.obj _ _ tc)
    have q := pg.run _ sc (wipe σ2 vs1) Hc x u _ Ic' rc (step x Hc yc)
    rw [eP, ew, eA] at q
    refine wpAny_mono q (fun _ sd ⟨σd, Hd, Id, hwd, qd⟩ => ?_) fun e s z => hx e s z
    have qe0 := pe.run _ sd σd Hd _ Id qd
    rw [eP, ew, eA] at qe0
    refine wpAny_mono qe0 (fun v se ⟨y, He, Ie, re, qe⟩ => ?_) fun e s z => hx e s z
    refine thn (add Y eP ew eK eA _ se σd He D y v N1 Ie re qe) fun _ sf ⟨Hf, If, nf⟩ => ?_
    obtain ⟨k', hk, wf⟩ := hN1 Hf nf
    refine ⟨k', hk, j + 1, Hf, If.unpinned.weak (by rw [← hwd, wipe_length]) (fun i v e => by rw [← hwd] at e; exact (wipe_some e).1), T.keep _ _ _ tc fun b hb o e => (pins_keep If hb e).1, fun b hb => ?_, wf⟩
    obtain ⟨o, e, _⟩ := T.obj _ _ tc b hb
    exact (pins_keep If hb e).2

theorem sc2_core {em : Addr → HO} {ad : Adds} (new : NewOk X em) (add : AddsOk X ad) {pins : List (Addr × Obj)} {s : Shared} {σ : L2.St} {H : Hp} {Q : VK} {elt t0 i0 t1 i1 : Expr} {scope : Scope} {own : List (PySem.Str × Nat)} {vs1 : List Nat} {pos pos' : Pos} {wi wi1 : TI} {g g1 : TG} {te : TE} {use : Option (Value → Sem Unit)} {Qf : Value → Shared → Prop}
    (hc : X.calm = true) (hN : X.N.Nodup) (I : Inv X pins σ H s) (hi : PI X t0 i0 wi) (ok : BlkOk X.N X.env.scope scope own) (hv : ∀ i ∈ vs1, i ∈ own.map (·.2))
    (hg : ∀ (s : Shared) (H : Hp) (C : Addr) (cl : List (PySem.Str × Addr)) (fp : List Addr), PG (X.blk s H scope (compEnvC scope cl C X.env) fp) t0 g)
    (he : ∀ (s : Shared) (H : Hp) (C : Addr) (cl : List (PySem.Str × Addr)) (fp : List Addr), PE (X.blk s H scope (compEnvC scope cl C X.env) fp) elt te)
    (hi1 : ∀ (s : Shared) (H : Hp) (C : Addr) (cl : List (PySem.Str × Addr)) (fp : List Addr), PI (X.blk s H scope (compEnvC scope cl C X.env) fp) t1 i1 wi1)
    (hg1 : ∀ (s : Shared) (H : Hp) (C : Addr) (cl : List (PySem.Str × Addr)) (fp : List Addr), PG (X.blk s H scope (compEnvC scope cl C X.env) fp) t1 g1)
    (hs : ∀ x, foldedSetIterable i0 X.env x = pure x) (hs1 : ∀ env x, foldedSetIterable i1 env x = pure x) (h : tSc2 em ad wi g wi1 g1 te (own.map (·.2)) vs1 σ H Q)
    (back : ∀ D C s' m H', Inv X pins σ H' s' → Q (.ref D) H' → s'.heap.Ns C m → FpOk X pins H' C → compPost (model X.prog X.w) X.A X.xe use Qf (.ref D) C (.ok .next) s') :
    wpAny (model X.prog X.w) X.A (comprehension (setC elt t0 i0 t1 i1 scope pos) scope X.env pos' (newSet (.type "set")) false (eval i0 X.env) use) Qf X.xe s := by
  have clo : ∀ y ∈ scope.names, y.2 = .free → ∃ c, X.env.cells.lookup y.1 = some c := fun y hy e => (ok.free y hy e).elim (fun k => I.ok.has _ (.inl k)) fun k => I.ok.has _ (.inr k)
  refine wpAny_comprehension_free (use := use) rfl hs (closure_ok clo) ok.kind (fun y hy e => by rw [ok.uniq y hy, e]) (thn (hi.run pins s σ H _ I h) fun xv sa hx => thn hx fun itv sb hb => ?_)
  obtain ⟨it, fp, tn, J, Hb, rfl, Ib, T, tb, fb, q⟩ := hb
  refine PpSet.newSet_ok (newEnv_comp ?_)
  obtain ⟨D, hD⟩ : ∃ D, D = sb.heap.objs.size := ⟨_, rfl⟩
  obtain ⟨W, ⟨m0, w0⟩, turn⟩ := q D (Ib.hok.fresh (Nat.le_of_eq hD.symm))
  rw [← hD]
  obtain ⟨sc, hsc⟩ : ∃ sc : Shared, sc = { sb with heap := sb.heap.push (setO X.w) } := ⟨_, rfl⟩
  have kc : ∀ b o, sb.heap.get? b = some o → sc.heap.get? b = some o := fun b o e => by rw [hsc]; exact Heap.get?_push_of_some _ e
  have Ic : Inv X pins σ (upd Hb D (em D)) sc := by
    rw [hsc, hD]
    exact Ib.laid (t' := sb.toks) (fun b o e => Heap.get?_push_of_some _ e) (Nat.le_refl _) (new _ _)
  have szc : sc.heap.objs.size = D + 1 := by rw [hsc, hD]; exact Heap.size_push _ _
  have below : ∀ b ∈ fp, b < D := fun b hb => by
    obtain ⟨o, e, _⟩ := T.obj _ _ tb b hb
    rw [hD]; exact Heap.lt_size e
  have fc : ∀ b ∈ fp, FpOk X pins (upd Hb D (em D)) b ∧ b < sc.heap.objs.size := fun b hb => by
    have lt := below b hb
    exact ⟨⟨by rw [upd_ne (Nat.ne_of_lt lt)]; exact (fb b hb).1, (fb b hb).2⟩, by rw [szc]; exact Nat.lt_succ_of_lt lt⟩
  have tc : tn 0 sc.heap := T.keep _ _ _ tb fun b _ o e => kc b o e
  obtain ⟨Hc, hHc⟩ : ∃ Hc, Hc = upd Hb D (em D) := ⟨_, rfl⟩
  rw [← hHc] at Ic fc w0
  have Id := block_start Ic ok hN fc
  obtain ⟨L, hL⟩ : ∃ L, L = sc.heap.objs.size := ⟨_, rfl⟩
  obtain ⟨ce, hce⟩ : ∃ ce, ce = compEnvC scope (cellsFrom (sc.heap.objs.size + 1) scope.names (cloFrom X.env.cells scope.names [])) sc.heap.objs.size X.env := ⟨_, rfl⟩
  obtain ⟨sd, hsd⟩ : ∃ sd : Shared, sd = { sc with heap := pushCells (sc.heap.push { cls := .type "dict", data := .dict #[] }) scope.names } := ⟨_, rfl⟩
  have pg := hg sc Hc sc.heap.objs.size (cellsFrom (sc.heap.objs.size + 1) scope.names (cloFrom X.env.cells scope.names [])) fp
  have pe := he sc Hc sc.heap.objs.size (cellsFrom (sc.heap.objs.size + 1) scope.names (cloFrom X.env.cells scope.names [])) fp
  have pi1 := hi1 sc Hc sc.heap.objs.size (cellsFrom (sc.heap.objs.size + 1) scope.names (cloFrom X.env.cells scope.names [])) fp
  have pg1 := hg1 sc Hc sc.heap.objs.size (cellsFrom (sc.heap.objs.size + 1) scope.names (cloFrom X.env.cells scope.names [])) fp
  rw [← hce] at Id pg pe pi1 pg1
  rw [← hsd] at Id
  have cL : ce.locals = L := by rw [hce, hL]; rfl
  suffices go : codeAny (model X.prog X.w) X.A (.compStart (setC elt t0 i0 t1 i1 scope pos) 0 (.ref it) (.ref D) ce) (compPost (model X.prog X.w) X.A X.xe use Qf (.ref D) L) sd by
    rw [hce, hL, hsd, hsc] at go
    exact go
  have td : tn 0 sd.heap := T.keep _ _ _ tc fun b _ o e => by rw [hsd]; exact pushCells_keeps _ _ _ _ (Heap.get?_push_of_some _ e)
  have foB : ∀ {σ' : L2.St} {H' : Hp} {s' : Shared}, Inv (X.blk sc Hc scope ce fp) [] σ' H' s' → (∀ b ∈ fp, H' b = none) → ∀ b ∈ fp, FpOk (X.blk sc Hc scope ce fp) [] H' b := fun {σ' H' s'} I' hn b hb =>
    ⟨hn b hb, (I'.ok.exf b hb).1, I'.ok.exfs b hb, .inl hb, fun x c e => (I'.ok.exf b hb).2 x c e, fun p hp => absurd hp (by simp)⟩
  have xeB : ∀ e s, ¬ (X.blk sc Hc scope ce fp).xe e s := fun e s z => z
  have loop : codeAny (model X.prog X.w) X.A (.compLoop (setC elt t0 i0 t1 i1 scope pos) 0 (.ref it) (.ref D) ce) (compPost (model X.prog X.w) X.A X.xe use Qf (.ref D) L) sd := by
    refine loop_out (hs1 ce) (fun n s' => ∃ i H', Inv (X.blk sc Hc scope ce fp) [] (wipe σ (own.map (·.2))) H' s' ∧ tn i s'.heap ∧ (∀ b ∈ fp, H' b = none) ∧ W i n H') ?_ m0 ⟨0, Hc, Id, td, fun b hb => (fc b hb).1.1, w0⟩
    rintro n se ⟨i, He, Ie, te', ne, we⟩
    unfold OutT
    rcases turn i n He we with ⟨stop, fine⟩ | ⟨go, N, hN, step⟩
    · refine thn (T.done (X.blk sc Hc scope ce fp) rfl rfl rfl hc i [] se _ He (fun _ _ => False) Ie (foB Ie ne) te' stop) fun r sf ⟨hr, If⟩ => ?_
      subst hr
      have Ig : Inv X pins σ He sf := Ic.call' (ch := fp) If.os If.base If.hok If.bare fun b hb => ⟨(fc b hb).1.2.2.2.1, (fc b hb).1.2.1, (fc b hb).1.2.2.2.2.1, (fc b hb).1.2.2.2.2.2⟩
      have fr : He ce.locals = none := If.free
      obtain ⟨m, ns, _⟩ := If.loc
      have ns : sf.heap.Ns ce.locals m := ns
      rw [cL] at ns fr
      exact back D L sf m He Ig fine ns (Ic.fpOk (Nat.le_of_eq hL.symm) fr)
    · refine thn (T.item (X.blk sc Hc scope ce fp) rfl rfl rfl hc i [] se _ He (fun _ _ => False) Ie (foB Ie ne) te' go) fun r sf ⟨u, hr, hf⟩ => ?_
      subst hr
      refine thn hf fun _ sg ⟨x, Hg, Ig, rg, yg, tg', ng⟩ => ?_
      refine wpAny_mono (pg.run _ sg _ Hg x u _ (Ig.pinned (foB Ig ng) (T.obj _ _ tg')) rg (step x Hg yg)) (fun _ sh ⟨σh, Hh, Ih, wh, qh⟩ => ?_) fun e s z => z
      refine wpAny_mono (pi1.run _ sh σh Hh _ Ih qh) (fun xv sj hx => wpAny_mono hx (fun jtv sk hk => ?_) fun e s z => z) fun e s z => z
      obtain ⟨jt, fp1, tn1, J1, Hk, rfl, Ik, T1, tk, fk, rest⟩ := hk
      have inn := inner (X := X) (Y := X.blk sc Hc scope ce fp) ⟨rfl, rfl, rfl, rfl⟩ hc add (elt := elt) (t0 := t0) (i0 := i0) (i1 := i1) (scope := scope) (pos := pos) pg1 pe Ik T1 tk fk rest xeB
      have fin : ∀ sf, (∃ H', Inv (X.blk sc Hc scope ce fp) ([] ++ pinsAt fp sg.heap) (wipe σh vs1) H' sf ∧ N H') → ∃ m, m < n ∧ ∃ i H', Inv (X.blk sc Hc scope ce fp) [] (wipe σ (own.map (·.2))) H' sf ∧ tn i sf.heap ∧ (∀ b ∈ fp, H' b = none) ∧ W i m H' := fun sf ⟨H', I', nx⟩ => by
        obtain ⟨m', hm, w'⟩ := hN H' nx
        refine ⟨m', hm, i + 1, H', (I'.unpinned (pins := [])).weak ((congrArg List.length wh.symm).trans ((wipe_length _ _).trans (wipe_length _ _).symm)) (fun j v e => ?_), T.keep _ _ _ tg' fun b hb o e => (pins_keep I' hb e).1, fun b hb => ?_, w'⟩
        · rw [← wh] at e
          obtain ⟨e1, e2⟩ := wipe_some e
          rw [wipe_out fun z => e2 (hv j z)]
          exact e1
        · obtain ⟨o, e, _⟩ := T.obj _ _ tg' b hb
          exact (pins_keep I' hb e).2
      have inn' := codeAny_mono inn (R' := fun r sf => match r with | .ok _ => ∃ m, m < n ∧ ∃ i H', Inv (X.blk sc Hc scope ce fp) [] (wipe σ (own.map (·.2))) H' sf ∧ tn i sf.heap ∧ (∀ b ∈ fp, H' b = none) ∧ W i m H' | .error _ => False) fun r sf hr => by
        cases r with
        | ok f => exact fin sf hr
        | error e => exact hr
      exact start_of (.inr rfl) inn' (T1.self X.A 0 _ _ _ tk inn')
  exact start_of (.inl rfl) loop (T.self X.A 0 _ _ _ td loop)
/-- as a value -/
theorem pe_sc2 {em : Addr → HO} {ad : Adds} (new : NewOk X em) (add : AddsOk X ad) {elt t0 i0 t1 i1 : Expr} {scope : Scope} {own : List (PySem.Str × Nat)} {vs1 : List Nat} {pos : Pos} {wi wi1 : TI} {g g1 : TG} {te : TE}
    (hc : X.calm = true) (hN : X.N.Nodup) (hi : PI X t0 i0 wi) (ok : BlkOk X.N X.env.scope scope own) (hv : ∀ i ∈ vs1, i ∈ own.map (·.2))
    (hg : ∀ (s : Shared) (H : Hp) (C : Addr) (cl : List (PySem.Str × Addr)) (fp : List Addr), PG (X.blk s H scope (compEnvC scope cl C X.env) fp) t0 g)
    (hi1 : ∀ (s : Shared) (H : Hp) (C : Addr) (cl : List (PySem.Str × Addr)) (fp : List Addr), PI (X.blk s H scope (compEnvC scope cl C X.env) fp) t1 i1 wi1)
    (hg1 : ∀ (s : Shared) (H : Hp) (C : Addr) (cl : List (PySem.Str × Addr)) (fp : List Addr), PG (X.blk s H scope (compEnvC scope cl C X.env) fp) t1 g1)
    (he : ∀ (s : Shared) (H : Hp) (C : Addr) (cl : List (PySem.Str × Addr)) (fp : List Addr), PE (X.blk s H scope (compEnvC scope cl C X.env) fp) elt te)
    (hs : ∀ x, foldedSetIterable i0 X.env x = pure x := by intro _; rfl) (hs1 : ∀ env x, foldedSetIterable i1 env x = pure x := by intro _ _; rfl) :
    PE X (setC elt t0 i0 t1 i1 scope pos) (tSc2 em ad wi g wi1 g1 te (own.map (·.2)) vs1) := by
  refine ⟨fun pins s σ H Q I h => ?_⟩
  rw [PpSet.eval_SetComp]
  refine sc2_core new add hc hN I hi ok hv hg he hi1 hg1 hs hs1 h fun D C s' m H' I' q hn f => ⟨m, hn, fun h'' sb => ?_⟩
  obtain ⟨f0, f1, f2, f3, f4, f5⟩ := f
  exact ⟨.ref D, H', I'.turned (t' := s'.toks) (fun b o hb e => (sb.2 b hb).trans e) f0 f1 f3 f4 f5, rfl, q⟩
end
end TG
end
section
set_option Elab.async false
set_option linter.all false
set_option maxRecDepth 100000
set_option maxHeartbeats 4000000
/-! {int for a in .. for b in ..} -/
namespace TG
open PySem PySem.Spec PyProof.Rows L2
section
variable {X : Cx}
theorem setI_new : NewOk X (fun D => SetO X.w D (fun _ => false) 0) := fun H h => by
  exact setO_new (setR_fresh X.w)
/-- adding an int -/
def adI (X : Cx) : Adds := fun D y H N => ∃ (k : Int) (S : Int → Bool) (n : Nat), H D = some (SetO X.w D S n) ∧ y = .int k ∧ n + 1 < scanBound ∧ N (upd H D (SetO X.w D (fun j => S j || decide (j = k)) (if S k = true then n else n + 1)))
theorem adI_ok : AddsOk X (adI X) := by
  intro Y eP ew eK eA pins s σ H D y u N I r h
  obtain ⟨k, S, n, hD, rfl, few, q⟩ := h
  obtain ⟨tk, rfl⟩ := r
  have R : SetR X.w s.heap D S n := by have z := I.hok D _ hD; rw [eP, ew] at z; exact z.1
  refine setR_add R few fun h' sb new => ?_
  have he : ∃ u, h'.get? D = some u := by
    have ⟨o, _, _, _, ho, _⟩ := new
    exact ⟨o, ho⟩
  refine ⟨_, I.write (e := D) (o := SetO X.w D (fun j => S j || decide (j = k)) (if S k = true then n else n + 1)) (t' := s.toks + 1) (by rw [hD]; trivial) (.inl rfl) (fun b u hb hu => (sb.2 b hb).trans hu) he (by rw [ew]; exact setO_new new), q⟩
end
end TG
end
section
set_option Elab.async false
set_option linter.all false
set_option maxRecDepth 100000
set_option maxHeartbeats 4000000
/-! the set of tuples as a tracked thing; sorted of it -/
namespace TG
open PySem PySem.Spec PyProof.Rows L2
def SetG0 (P : Program) (w : World) (a : Addr) (L : List (Addr × List Int)) (h : Heap) : Prop := ∃ (es : Array (Int × Value)) (ep : Nat) (t : SetTable), (∃ o, h.get? a = some o ∧ o.ExactSet ∧ o.data = .set es ep t) ∧ es.toList = rowsOf P w L ∧
  Tab t (L.map fun p => thash P w p.2) ∧ (L.map Prod.snd).Nodup ∧ t.plain = true ∧ (w.params.followText "set-order" = true ∨ t.led = true) ∧ L.length * 5 < t.mask * 3 ∧ L.length < 300
def SetGO (P : Program) (w : World) (a : Addr) (L : List (Addr × List Int)) : HO := .ext (SetG0 P w a L)
theorem SetG.bare {P : Program} {w : World} {h : Heap} {a : Addr} {L : List (Addr × List Int)} {es : Array (Int × Value)} {ep : Nat} {t : SetTable} (R : SetG P w h a L es ep t) : SetG0 P w a L h := ⟨es, ep, t, R.ob, R.rows, R.tab, R.nd, R.plain, R.led, R.room, R.few⟩
theorem SetG0.full {P : Program} {w : World} {h : Heap} {a : Addr} {L : List (Addr × List Int)} (R : SetG0 P w a L h) (ht : ∀ p ∈ L, IsT P w h p.2 p.1) : ∃ es ep t, SetG P w h a L es ep t := by
  obtain ⟨es, ep, t, h1, h2, h3, h4, h5, h6, h7, h8⟩ := R
  exact ⟨es, ep, t, h1, h2, h3, h4, ht, h5, h6, h7, h8⟩
theorem setGO_ok {P : Program} {w : World} {H : Hp} {h : Heap} {a : Addr} {L : List (Addr × List Int)} (R : SetG0 P w a L h) : ObjOk P w H h a (SetGO P w a L) := by
  obtain ⟨es, ep, t, ⟨o, ho, r⟩, q⟩ := id R
  refine ⟨R, ⟨o, ho⟩, fun h1 h2 p k => ?_⟩
  obtain ⟨es', ep', t', ⟨o', ho', r'⟩, q'⟩ := p
  exact ⟨es', ep', t', ⟨o', k o' ho', r'⟩, q'⟩
section
variable {X : Cx}
theorem setG_new : NewOk X (fun D => SetGO X.prog X.w D []) := fun H h => setGO_ok (by
  refine ⟨#[], 0, .fresh 0 0 (!X.w.params.followText "set-order"), ⟨_, Heap.get?_push_size _ rfl, ⟨rfl, rfl, rfl⟩, rfl⟩, rfl, ⟨List.Pairwise.nil, rfl, rfl, mt_old (.inl rfl), fun x hx => (by cases hx), fun i h j hi => (by simp at hi)⟩, List.nodup_nil, rfl, ?_, by show 0 * 5 < 7 * 3; decide, by show 0 < 300; decide⟩
  show _ ∨ (!X.w.params.followText "set-order") = true
  cases X.w.params.followText "set-order" <;> simp)
/-- adding a tuple of ints -/
def adT (X : Cx) : Adds := fun D y H N => ∃ (L : List (Addr × List Int)) (x : Addr) (k : List Int), H D = some (SetGO X.prog X.w D L) ∧ (∀ p ∈ L, SqT X.K H p.1 (p.2.map V.int)) ∧ y = .ref x ∧ SqT X.K H x (k.map V.int) ∧ L.length + 1 < 300 ∧
  ∀ L', (k ∈ L.map Prod.snd → L' = L) → (k ∉ L.map Prod.snd → L'.Perm ((x, k) :: L)) → N (upd H D (SetGO X.prog X.w D L'))
theorem adT_ok (hu : X.A.units + 8 < cLine) : AddsOk X (adT X) := by
  intro Y eP ew eK eA pins s σ H D y u N I r h
  obtain ⟨L, x, k, hD, hL, rfl, hx, few, q⟩ := h
  obtain rfl : u = Value.ref x := r
  have R0 : SetG0 X.prog X.w D L s.heap := by have z := I.hok D _ hD; rw [eP, ew] at z; exact z.1
  have hT : ∀ b k, SqT X.K H b (List.map V.int k) → IsT X.prog X.w s.heap k b := fun b k z => by
    have z' := I.isT (b := b) (k := k) (by rw [eK]; exact z)
    rw [eP, ew] at z'; exact z'
  obtain ⟨es, ep, t, R⟩ := R0.full fun p hp => hT _ _ (hL p hp)
  obtain ⟨oD, hoD, hcD, hdD⟩ := R.ob
  refine wpAny_call_entry PySem.F.slot_set_add ⟨_, hoD, hcD.1⟩ PySem.F.entry_set_add ?_ (PySem.F.args_set_add_2 _ _)
  unfold Builtin.«set.add» Builtin.Frozenset.oneOther
  simp only [List.isEmpty_nil, bind_assoc]
  unfold Builtin.Frozenset.addrOf setAdd
  refine wpAny_bind (wpAny_pure ?_)
  try dsimp only
  refine wpAny_bind (wpAny_pure ?_)
  try dsimp only
  refine wpAny_bind (wpAny_holding (wpAny_bind (wpAny_pyHash_tuple (by show X.A.units + 1 < cLine; omega) (hT _ _ hx) ?_)))
  refine SetG.add (s := { s with toks := s.toks + (k.length + 1) }) R (hT _ _ hx) (by show X.A.units + 1 < cLine; omega) few fun b h' L' es' ep' t' sb R' c1 c2 => ?_
  show wpAny _ _ (ret Value.none) _ _ _
  refine wpAny_pure ⟨_, rfl, upd H D (SetGO X.prog X.w D L'), ?_, q L' c1 c2⟩
  refine I.write (e := D) (t' := s.toks + (k.length + 1)) (by rw [hD]; trivial) (.inl rfl) (fun b u hb hu => (sb.2 b hb).trans hu) ?_ ?_
  · obtain ⟨o', ho', _⟩ := R'.ob; exact ⟨o', ho'⟩
  · rw [eP, ew]; exact setGO_ok R'.bare
/-! ### sorted -/
theorem tups_sortable {prog : Program} {w : World} {A : Around} {s : Shared} {a : Addr} {d : Nat} {B : Int} {vs : List Value} (hd : 1 ≤ d) (h0 : 0 < vs.length) (x : TS.TupsOk s.heap d B vs) (ha : ∀ o, s.heap.get? a = some o → o.cls ≠ .type "tuple") :
    SrtO.SortableO prog w A s a vs fun v u => decide (TS.code B (TS.intsOf s.heap v) < TS.code B (TS.intsOf s.heap u)) := by
  intro h' keep
  have kt : ∀ b o, s.heap.get? b = some o → o.cls = .type "tuple" → h'.get? b = some o := fun b o e c => keep b o (fun z => by subst z; exact ha o e c) e
  obtain ⟨fs, k, hl, hi⟩ := TS.firsts_of hd vs (x.keeps kt)
  refine ⟨tuples' true, fun Q E hq => ?_, fun p q hp hq => ?_⟩
  · refine PySem.W.kat_kind (T := Value.type "int") k (by omega) (fun f hf => ?_) rfl ?_
    · obtain ⟨n, t, rfl⟩ := hi f hf
      exact PySem.W.Looks.of_pure rfl
    · have e : (Value.type "int" != Value.type "tuple") = true := by first | decide +kernel | rfl | decide
      rw [e]; exact hq
  · obtain ⟨ns, tp, lp, bp⟩ := x _ hp
    obtain ⟨ms, tq, lq, bq⟩ := x _ hq
    have tp' := tp.keeps kt
    have tq' := tq.keeps kt
    have en := tp.ints
    have em := tq.ints
    obtain ⟨b, xs, e1, ⟨o, ho, hc, n, hdt⟩, i1⟩ := tp'
    obtain ⟨c, ys, e2, ⟨o', ho', hc', n', hdt'⟩, i2⟩ := tq'
    show wpAny (model prog w) A (keyLt' (tuples' true) p.1 q.1) (fun r s' => s' = _ ∧ r = decide (TS.code B (TS.intsOf s.heap p.1) < TS.code B (TS.intsOf s.heap q.1))) (fun _ _ => False) _
    rw [en, em, e1, e2]
    refine PySem.W.kat_lt ho hdt ho' hdt' ?_
    have sz : decide (xs.size < ys.size) = false := by
      have l1 := i1.length
      have l2 := i2.length
      rw [Array.length_toList] at l1 l2
      exact decide_eq_false (by omega)
    rw [sz]
    exact TS.lex_ints 0 i1 i2 (by omega) bp bq ⟨rfl, rfl⟩
theorem swo_by (r : Value → Int) : SrtO.Swo fun v u => decide (r v < r u) := ⟨fun x y h => by have := of_decide_eq_true h; exact decide_eq_false (by omega), fun x y z h1 h2 => by have a := of_decide_eq_false h1; have b := of_decide_eq_false h2; exact decide_eq_false (by omega)⟩
end
section
variable {P : Program} {w : World} {A : Around} {E : Value → Shared → Prop} {s : Shared} {a : Addr} {L : List (Addr × List Int)} {es : Array (Int × Value)} {ep : Nat} {t : SetTable}
theorem refs_in : ∀ {vs : List Value}, (∀ v ∈ vs, ∃ q ∈ L, v = Value.ref q.1) → ∃ M : List (Addr × List Int), vs = M.map (fun q => Value.ref q.1) ∧ ∀ q ∈ M, q ∈ L
  | [], _ => ⟨[], rfl, fun q hq => by cases hq⟩
  | v :: vs, h => by
    obtain ⟨q, hq, rfl⟩ := h v List.mem_cons_self
    obtain ⟨M, rfl, hM⟩ := refs_in fun u hu => h u (List.mem_cons_of_mem _ hu)
    exact ⟨q :: M, rfl, fun r hr => (List.mem_cons.mp hr).elim (fun z => z ▸ hq) (hM r)⟩
theorem SetG.one (R : SetG P w s.heap a L es ep t) {q r : Addr × List Int} (hq : q ∈ L) (hr : r ∈ L) (e : q.1 = r.1) : q = r := by
  have a1 := R.tup q hq
  rw [e] at a1
  exact Prod.ext e (a1.inj (R.tup r hr))
theorem SetG.perm (R : SetG P w s.heap a L es ep t) {M : List (Addr × List Int)} (hM : ∀ q ∈ M, q ∈ L) (pm : (M.map fun q => Value.ref q.1).Perm (L.map fun q => Value.ref q.1)) : M.Perm L := by
  have nL : L.Nodup := nodup_of_map R.nd
  have nref : (L.map fun q => Value.ref q.1).Nodup := List.pairwise_map.mpr (nL.imp_of_mem fun {q r} hq hr ne e => ne (R.one hq hr (Value.ref.inj e)))
  refine (List.perm_ext_iff_of_nodup (nodup_of_map (pm.nodup_iff.mpr nref)) nL).mpr fun q => ⟨hM q, fun hq => ?_⟩
  obtain ⟨r, hr, e⟩ := List.mem_map.mp (pm.mem_iff.mpr (List.mem_map.mpr ⟨q, hq, rfl⟩))
  rw [← R.one (hM r hr) hq (Value.ref.inj e)]
  exact hr
theorem SetG.sorted (R : SetG P w s.heap a L es ep t) (hh : A.handled = none) {d : Nat} {B : Int} (hd1 : 1 ≤ d) (hB : ∀ p ∈ L, p.2.length = d ∧ TS.Bd B p.2) {Q : Value → Shared → Prop}
    (hQ : ∀ s' p (out : Array Value) (c : Nat) (M : List (Addr × List Int)), (∀ b o, s.heap.get? b = some o → s'.heap.get? b = some o) → s'.gens = s.gens → s'.os = s.os → s.heap.objs.size ≤ p →
      s'.heap.get? p = some (seqObj "list" out c) → out.toList = M.map (fun q => Value.ref q.1) → M.Perm L → M.Pairwise (fun q r => TS.code B q.2 ≤ TS.code B r.2) → Q (.ref p) s') :
    wpAny (model P w) A (call (.builtin "sorted") [.ref a]) Q E s := by
  obtain ⟨o, ho, hex, hd⟩ := R.ob
  have many := R.many
  have few := R.few
  refine Calls.call_function_entry kind_sorted plain_sorted entry_sorted (args_sorted1 _) ?_
  unfold Builtin.«sorted»
  refine wpAny_bind (m := checkCount "sorted" 1 1 _) (wpAny_pure ?_)
  refine wpAny_bind (collect_set (A := A.in1) hh ⟨o, ho, hex.1, hd⟩ R.fits (by unfold scanBound; omega) R.tab.ris R.led fun sa vs ka za ga oa pm => ?_)
  have hes : es.toList.map (·.2) = L.map fun q => Value.ref q.1 := by rw [R.rows]; unfold rowsOf; rw [List.map_map]; rfl
  rw [hes] at pm
  have lv : vs.length = L.length := by rw [pm.length_eq, List.length_map]
  refine wpAny_bind (wpAny_newList ?_ (by rw [sizeLine_eq]; omega))
  obtain ⟨sb, hsb⟩ : ∃ sb : Shared, sb = { sa with heap := sa.heap.push (seqObj "list" vs.toArray 0) } := ⟨_, rfl⟩
  have hoL : sb.heap.get? sa.heap.objs.size = some (seqObj "list" vs.toArray 0) := by rw [hsb]; exact Heap.get?_push_size _ rfl
  have kb : ∀ b u, s.heap.get? b = some u → sb.heap.get? b = some u := fun b u e => by rw [hsb]; exact Heap.get?_push_of_some _ (ka b u e)
  have tk : ∀ q ∈ L, TS.TupInts sb.heap (.ref q.1) q.2 := fun q hq => tupInts_of (P := P) (w := w) (isT_keep (R.tup q hq) kb)
  have x : TS.TupsOk sb.heap d B vs := fun v hv => by
    obtain ⟨q, hq, rfl⟩ := List.mem_map.mp (pm.mem_iff.mp hv)
    exact ⟨q.2, tk q hq, (hB q hq).1, (hB q hq).2⟩
  suffices go : wpAny (model P w) A.in1 (call (.builtin "list.sort") [.ref sa.heap.objs.size]) (fun _ s' => wpAny (model P w) A.in1 (ret (.ref sa.heap.objs.size)) (fun v s' => ∃ u, v = .done (.ret u) ∧ Q u s') E s') E sb by
    rw [hsb] at go
    exact wpAny_bind (wpAny_holding go)
  refine wpAny_call_entry slot_list_sort ⟨_, hoL, rfl⟩ entry_list_sort ?_ (args_list_sort _)
  refine SrtO.list_sort_ord (swo_by fun v => TS.code B (TS.intsOf sb.heap v)) hoL (by rw [lv, sizeLine_eq]; omega) (fun h2 => tups_sortable hd1 (by omega) x fun o e c => ?_) fun out h1 h2 => ?_
  · rw [hoL] at e; cases e
    exact absurd (Value.type.inj c) (by decide)
  · refine ⟨_, rfl, ?_⟩
    obtain ⟨c, hc⟩ := sortedHeap_at (vs := vs) (out := out.toArray) hoL
    obtain ⟨M, eM, hM⟩ := refs_in (L := L) (vs := out) fun v hv => by
      obtain ⟨q, hq, e⟩ := List.mem_map.mp (pm.mem_iff.mp (h2.perm.mem_iff.mp hv))
      exact ⟨q, hq, e.symm⟩
    have pM : M.Perm L := R.perm hM (by rw [← eM]; exact h2.perm.trans pm)
    have up : M.Pairwise (fun q r => TS.code B q.2 ≤ TS.code B r.2) := by
      have h1' : List.Pairwise (fun v u => decide (TS.code B (TS.intsOf sb.heap u) < TS.code B (TS.intsOf sb.heap v)) = false) out := h1
      rw [eM] at h1'
      refine (List.pairwise_map.mp h1').imp_of_mem fun {q r} hq hr le => ?_
      rw [(tk q (hM q hq)).ints, (tk r (hM r hr)).ints] at le
      exact Int.not_lt.mp (of_decide_eq_false le)
    refine wpAny_pure ⟨_, rfl, hQ _ sa.heap.objs.size out.toArray c M (fun b u e => ?_) ?_ ?_ za hc (by simpa using eM) pM up⟩
    · have lt := Heap.lt_size (ka b u e)
      show (sortedHeap sb.heap sa.heap.objs.size vs out.toArray).get? b = some u
      rw [sortedHeap_old (Nat.ne_of_lt lt) (by rw [hsb]; show b < (sa.heap.push _).objs.size; rw [Heap.size_push]; exact Nat.lt_succ_of_lt lt)]
      exact kb b u e
    · show sb.gens = _; rw [hsb]; exact ga
    · show sb.os = _; rw [hsb]; exact oa
end
section
variable {X : Cx}
/-- sorted(set), the tuples of d ints in [0, B): a new list -/
def rSortG (X : Cx) (d : Nat) (B : Int) : List V → Hp → VK → Prop := fun vs H Q => ∃ (a : Addr) (L : List (Addr × List Int)), vs = [V.ref a] ∧ H a = some (SetGO X.prog X.w a L) ∧ (∀ p ∈ L, SqT X.K H p.1 (p.2.map V.int)) ∧ (∀ p ∈ L, p.2.length = d ∧ TS.Bd B p.2) ∧
  ∀ (M : List (Addr × List Int)) (p : Addr), M.Perm L → (M.map Prod.snd).Nodup → M.length < 300 → M.Pairwise (fun q r => TS.code B q.2 ≤ TS.code B r.2) → H p = none → Q (.ref p) (upd H p (.lst (M.map fun q => V.ref q.1)))
theorem cr_sortG {d : Nat} {B : Int} (hc : X.calm = true) (hd : 1 ≤ d) : CallR X (.builtin "sorted") (rSortG X d B) := by
  intro pins s σ H vs us Q I r h
  obtain ⟨a, L, rfl, ha, hk, hB, q⟩ := h
  obtain ⟨es, ep, t, R⟩ := (show SetG0 X.prog X.w a L s.heap from (I.hok a _ ha).1).full fun p hp => I.isT (hk p hp)
  rw [Vals.ref1 r]
  refine R.sorted (I.ok.hd hc) hd hB fun s' p out c M k g o hp hg hout pm up => ?_
  have few : M.length < 300 := by rw [pm.length_eq]; exact R.few
  have hn : H p = none := I.hok.fresh hp
  refine ⟨.ref p, upd H p (.lst (M.map fun q => V.ref q.1)), I.call' (ch := []) o (Un.laid k hp hn) (I.hok.laid k hp ⟨by rw [List.length_map, sizeLine_eq]; omega, out.toList, c, by rw [hout]; exact vals_of_refs M, hg⟩) (by rw [g]; exact I.bare) (fun _ z => nomatch z), rfl, q M p pm ((pm.map Prod.snd).nodup_iff.mpr R.nd) few up hn⟩
end
end TG
end
section
set_option Elab.async false
set_option linter.all false
set_option maxRecDepth 100000
set_option maxHeartbeats 1000000
namespace TG
open PySem PySem.Spec PyProof.Rows L2
theorem sc_out {J : It} {n : Nat} {G : Hp → Prop} {Y : Nat → Hp → V → Hp → Prop} (w : Walk J n G Y) {g : TG} {INN : (Hp → Prop) → L2.St → Hp → Prop} {vs : List Nat} {σ : L2.St} {H0 : Hp} {Qd : Hp → Prop} (Pv : Nat → Hp → Prop) (h0 : Pv 0 H0) (hG : ∀ i H, i ≤ n → Pv i H → G H)
    (hs : ∀ i x H H', i < n → Pv i H → Y i H x H' → g x (wipe σ vs) H' fun σ2 H2 => wipe σ2 vs = wipe σ vs ∧ INN (Pv (i + 1)) σ2 H2) (hd : ∀ H, Pv n H → Qd H) :
    ∃ W : Nat → Nat → Hp → Prop, (∃ m, W 0 m H0) ∧ ∀ i m H, W i m H → (J.stop i H ∧ Qd H) ∨ (J.go i H ∧ ∃ N : Hp → Prop, (∀ H', N H' → ∃ m', m' < m ∧ W (i + 1) m' H') ∧ ∀ x H', J.yld i H x H' → g x (wipe σ vs) H' fun σ2 H2 => wipe σ2 vs = wipe σ vs ∧ INN N σ2 H2) := by
  refine ⟨fun i m H => m = n - i ∧ i ≤ n ∧ Pv i H, ⟨n, by simp, Nat.zero_le _, h0⟩, ?_⟩
  rintro i m H ⟨rfl, hi, p⟩
  rcases Nat.lt_or_ge i n with c | c
  · exact .inr ⟨w.goes i H c (hG i H hi p), Pv (i + 1), fun H' p' => ⟨n - (i + 1), by omega, rfl, c, p'⟩, fun x H' y => hs i x H H' c p (w.yields i H x H' c (hG i H hi p) y)⟩
  · obtain rfl : i = n := Nat.le_antisymm hi c
    exact .inl ⟨w.stops H (hG i H hi p), hd H p⟩
theorem rest_it {J : It} {n : Nat} {G : Hp → Prop} {Y : Nat → Hp → V → Hp → Prop} (w : Walk J n G Y) {ad : Adds} {g1 : TG} {te : TE} {vs1 : List Nat} {D : Addr} {N : Hp → Prop} {σ2 : L2.St} {H4 : Hp} (Pv : Nat → Hp → Prop) (h0 : Pv 0 H4) (hG : ∀ i H, i ≤ n → Pv i H → G H)
    (hs : ∀ i x H H', i < n → Pv i H → Y i H x H' → g1 x (wipe σ2 vs1) H' fun σ3 H5 => wipe σ3 vs1 = wipe σ2 vs1 ∧ te σ3 H5 fun y H6 => ad D y H6 (Pv (i + 1))) (hd : ∀ H, Pv n H → N H) : Rest ad g1 te vs1 D N σ2 J H4 := by
  refine ⟨fun i m H => m = n - i ∧ i ≤ n ∧ Pv i H, ⟨n, by simp, Nat.zero_le _, h0⟩, ?_⟩
  rintro i m H ⟨rfl, hi, p⟩
  rcases Nat.lt_or_ge i n with c | c
  · exact .inr ⟨w.goes i H c (hG i H hi p), Pv (i + 1), fun H' p' => ⟨n - (i + 1), by omega, rfl, c, p'⟩, fun x H' y => hs i x H H' c p (w.yields i H x H' c (hG i H hi p) y)⟩
  · obtain rfl : i = n := Nat.le_antisymm hi c
    exact .inl ⟨w.stops H (hG i H hi p), hd H p⟩
end TG
end
section
set_option Elab.async false
set_option linter.all false
set_option maxRecDepth 100000
set_option maxHeartbeats 4000000
namespace K19
open PySem PySem.Spec PyProof.Rows L2
open PySem.W (ke_shaped_ints)
local macro_rules | `(tactic| walk_at "go") => `(tactic| first | refine ⟨_, rfl, ?_⟩ | refine .inl ⟨_, rfl, ?_⟩ | refine ⟨_, _, rfl, rfl, (by first | (show (0 : Int) < _; decide) | exact Or.inl ⟨by decide, by decide⟩ | exact Or.inr ⟨by decide, by decide⟩), ?_⟩ | refine ⟨_, _, rfl, rfl, ?_⟩)
section
variable {P : Program} {w : World} {K : PySem.W.Frag} {mg : Str → Option Value} {base : Heap}

theorem nd_len {L A : List Int} (nd : L.Nodup) (h : ∀ k ∈ L, k ∈ A) : L.length ≤ A.length := by
  induction L generalizing A with
  | nil => exact Nat.zero_le _
  | cons x r ih =>
    have hx := h x List.mem_cons_self
    have nd' := List.nodup_cons.mp nd
    have z := ih (A := A.erase x) nd'.2 (fun k hk => (List.mem_erase_of_ne (fun e => nd'.1 (by rw [← e]; exact hk))).mpr (h k (List.mem_cons_of_mem _ hk)))
    rw [List.length_erase_of_mem hx] at z
    have := List.length_pos_of_mem hx
    rw [List.length_cons]
    omega
/-- the set of the ints of L -/
def SetL (w : World) (H : Hp) (D : Addr) (L : List Int) : Prop := H D = some (SetO w D (fun k => decide (k ∈ L)) L.length) ∧ L.Nodup
theorem SetL.add {w : World} {H : Hp} {D : Addr} {L : List Int} (h : SetL w H D L) (k : Int) : ∃ L' : List Int, upd H D (SetO w D (fun j => decide (j ∈ L) || decide (j = k)) (if decide (k ∈ L) = true then L.length else L.length + 1)) = upd H D (SetO w D (fun j => decide (j ∈ L')) L'.length) ∧ L'.Nodup ∧ ∀ j, j ∈ L' ↔ j ∈ L ∨ j = k := by
  by_cases m : k ∈ L
  · refine ⟨L, ?_, h.2, fun j => ⟨.inl, fun z => z.elim id (fun e => by rw [e]; exact m)⟩⟩
    rw [if_pos (decide_eq_true m)]
    have e : (fun j => decide (j ∈ L) || decide (j = k)) = fun j => decide (j ∈ L) := by
      funext j
      by_cases q : j ∈ L
      · rw [decide_eq_true q]; rfl
      · rw [decide_eq_false q, decide_eq_false (fun e => q (by rw [e]; exact m))]; rfl
    rw [e]
  · refine ⟨L ++ [k], ?_, List.nodup_append.mpr ⟨h.2, by simp, fun x hx y hy e => m (by rw [List.mem_singleton.mp hy] at e; exact e ▸ hx)⟩, fun j => by simp⟩
    rw [if_neg (fun z => m (of_decide_eq_true z)), List.length_append, List.length_singleton]
    have e : (fun j => decide (j ∈ L) || decide (j = k)) = fun j => decide (j ∈ L ++ [k]) := by
      funext j
      simp only [List.mem_append, List.mem_singleton, Bool.decide_or]
    rw [e]


/-- program.reads(places) -/
def spReads (K : PySem.W.Frag) (LCc CB CP : Addr) : Sp := fun vs H Q _ => ∃ (p pq : Addr) (ps : List Str) (wds : Str → Option Int) (t : Tr) (pls : List Int) (A : List Int), vs = [.ref p, .ref pq] ∧ ProgAt K LCc CB CP H p ps wds t ∧ H pq = some (.lst (pls.map V.int)) ∧ pls.length = ps.length ∧ t ≠ .nil ∧ t.depth < 2 ∧ t.Ok wds ∧ okT ps wds t (st0 pls true) ∧
  A.length < 64 ∧ (∀ e ∈ (runT ps wds t (st0 pls true)).log, ∀ k ∈ e.1, k ∈ A) ∧
  ∀ (q : Addr) (ns : List Int) H', Same H H' → H' q = some (.lst (ns.map V.int)) → ns.Pairwise (· < ·) → (∀ k, k ∈ ns ↔ ∃ e ∈ (runT ps wds t (st0 pls true)).log, k ∈ e.1) → Q (.ref q) H'

abbrev s_Program_reads : Stmt := inClass (topS 108) 4
theorem sc_Program_reads : FnScope ["self", "places", "log", "_", "read", "cell"] ["self", "places"] (defScope s_Program_reads) := ⟨rfl, rfl, rfl, by decide +kernel, rfl, by decide +kernel, by decide +kernel⟩
theorem ok_prog_reads {f : Addr} {fd : FuncData} (T : TxtP K mg) (Tq : PL.TxtQ K w mg) (F : FunD K "reads" "Program.reads" (defArgs s_Program_reads) (defBody s_Program_reads) (defScope s_Program_reads) [] [] f fd) {LCc CB CP C : Addr} (f_sorted : mg "sorted" = none) (PC : ProgC K CP) (RC : RunC K C) (C_check_places : Cal P w K mg base 1 "check_places" ["pointers", "places"] (spCheckOk K)) (C_whole_run : Cal P w K mg base 10 "whole_run" ["body", "places", "watched"] (spWhole LCc CB C)) : FnOk P w K mg base CX0 11 f fd ["self", "places"] (spReads K LCc CB CP) := by
  refine F.ok sc_Program_reads (fun vs H Q E h => by obtain ⟨p, pq, ps, wds, t, pls, A, rfl, _⟩ := h; rfl) (fun cdv A outer s H vs Q E hr h => ?_)
  suffices z : ∃ t, PSs (cxOf CX0 P w K mg base ["self", "places", "log", "_", "read", "cell"] "Program.reads" (defScope s_Program_reads) f cdv A outer s H E).nox (defBody s_Program_reads) t ∧ t { nx := fun _ H' => Q .non H', rt := Q } (start ["self", "places", "log", "_", "read", "cell"] vs) H by
    obtain ⟨t, h1, h2⟩ := z
    exact ⟨t, h1.nox, h2⟩
  have hu := hu_of hr
  have big : sizeLine = 16777216 := sizeLine_eq
  obtain ⟨p, pq, ps, wds, t, pls, A, rfl, hp, hpq, pl, tn, td, tok, ok, a64, hA, k⟩ := h
  obtain ⟨dx, pt, b, bt, bs, reg, v4, v5, v6, ho, hT, hb, hbt, blk⟩ := hp
  have be := blk_ne blk tn
  rw [be] at hb
  refine ⟨_, (pss_cons (ps_expr (pe_cal C_check_places (hr.mono (by decide)) rfl (pa_cons (pe_fld (pv 0) rfl) (pa_cons (pv 1) pa_nil))))
      (pss_cons (ps_set (i := 2) sc_Program_reads.nd rfl (by first | exact Or.inl rfl | exact Or.inr rfl) (pe_fld (pe_cal C_whole_run (hr.mono (by decide)) rfl (pa_cons (pe_fld (pv 0) rfl) (pa_cons (pv 1) (pa_cons pe_bl pa_nil)))) rfl))
      (pss_one (ps_ret (pe_callB (cr_sortedSet rfl) (by rfl) f_sorted (by decide +kernel) (pa_cons (TG.pe_sc2 (own := [("_", 3), ("read", 4), ("cell", 5)]) (vs1 := [5]) (g := gTup K 4 (gCons (gName 3) (gCons (gName 3) (gCons (gName 4) (gCons (gName 3) (gNil)))))) (g1 := gName 5) (te := tVar 5) (wi1 := iList K (tVar 4)) TG.setI_new TG.adI_ok rfl sc_Program_reads.nd (pi_list (pv 2)) (blkOk_by (N := ["self", "places", "log", "_", "read", "cell"]) (sc := defScope s_Program_reads) (by decide +kernel)) (by decide) (fun _ _ _ _ _ => (pg_tup rfl (pgs_cons (pg_name (i := 3) sc_Program_reads.nd rfl (by first | exact Or.inl rfl | exact Or.inr rfl)) (pgs_cons (pg_name (i := 3) sc_Program_reads.nd rfl (by first | exact Or.inl rfl | exact Or.inr rfl)) (pgs_cons (pg_name (i := 4) sc_Program_reads.nd rfl (by first | exact Or.inl rfl | exact Or.inr rfl)) (pgs_cons (pg_name (i := 3) sc_Program_reads.nd rfl (by first | exact Or.inl rfl | exact Or.inr rfl)) pgs_nil)))))) (fun _ _ _ _ _ => (pi_list (pv 4))) (fun _ _ _ _ _ => (pg_name (i := 5) sc_Program_reads.nd rfl (Or.inl rfl))) (fun _ _ _ _ _ => (pv 5))) pa_nil)))))), ?_⟩
  refine ⟨_, rfl, p, CP, dx, _, _, rfl, ho, PC.cl, PC.n_pointers, rfl, _, rfl, pt, pq, _, _, rfl, hT, hpq, by rw [List.length_map, List.length_map, pl], ?_⟩
  refine ⟨_, rfl, p, CP, dx, _, _, rfl, ho, PC.cl, PC.n_body, rfl, _, rfl, b, pq, _, reg, true, [bt], pls, ps, [(wds, t)], rfl, hb, by show 1 ≤ 1000; decide, .cons ⟨bs, hbt, blk, td, tok⟩ .nil, hpq, ⟨ok, True.intro⟩, ?_⟩
  change ∀ (r : Addr) (d : RAd) H', RunOk C H H' r d (runT ps wds t (st0 pls true)) → _
  generalize runT ps wds t (st0 pls true) = st at hA k
  intro r d H1 ro
  obtain ⟨es, l1, l2⟩ := ro.log
  have pln := paired_ln l2
  refine ⟨r, C, d.dx, _, _, rfl, ro.obj, RC.cl, RC.n_log, rfl, ?_⟩
  refine ⟨_, rfl, d.lg, rfl, ⟨_, SqL.of l1⟩, fun D hD => ?_⟩
  refine TG.sc_out (INN := fun N σ2 H2 => iList K (tVar 4) σ2 H2 (TG.Rest (TG.adI _) (gName 5) (tVar 5) [5] D N σ2)) walk_list
    (fun i H' => Same H1 H' ∧ ∃ L, SetL w H' D L ∧ ∀ k, k ∈ L ↔ ∃ e ∈ st.log.take i, k ∈ e.1) ⟨Same.new hD, [], ⟨upd_same, List.nodup_nil⟩, fun k => by simp⟩ (fun i H' _ z => SqL.of (z.1 _ _ l1)) ?_ ?_
  · rintro i x H2 H3 hi ⟨s1, L, hL, mem⟩ ⟨rfl, hx⟩
    rw [List.getElem?_map] at hx
    obtain ⟨a, ha, rfl⟩ := Option.map_eq_some_iff.mp hx
    have hi' := (List.getElem?_eq_some_iff.mp ha).1
    have he : st.log[i]? = some st.log[i] := List.getElem?_eq_getElem (by omega)
    generalize st.log[i] = e at he
    obtain ⟨v1, v2, rd, wr, ws, g1, g2, g3, g4, g5, g6⟩ := (paired_at l2 he ha).same s1
    refine ⟨a, _, rfl, SqT.of g1, rfl, _, _, rfl, _, _, rfl, _, _, rfl, _, _, rfl, rfl, rfl, ?_⟩
    refine ⟨_, rfl, rd, rfl, ⟨_, SqL.of g2⟩, ?_⟩
    have nD : rd ≠ D := fun z => by have q := hL.1; rw [← z, g2] at q; cases q
    have em : e ∈ st.log := List.mem_of_getElem? he
    refine TG.rest_it walk_list (fun j H' => But D H3 H' ∧ ∃ L, SetL w H' D L ∧ ∀ k, k ∈ L ↔ (∃ e ∈ st.log.take i, k ∈ e.1) ∨ k ∈ e.1.take j) ⟨But.refl _ _, L, hL, fun k => by simpa using mem k⟩ (fun j H' _ z => SqL.of (z.1 _ _ nD g2)) ?_ ?_
    · rintro j y H5 H6 hj ⟨b1, L1, hL1, mem1⟩ ⟨rfl, hy⟩
      rw [List.getElem?_map] at hy
      obtain ⟨n, hn, rfl⟩ := Option.map_eq_some_iff.mp hy
      have kA : ∀ k ∈ L1, k ∈ A := fun k hk => by
        rcases (mem1 k).mp hk with ⟨e', h1, h2⟩ | h
        · exact hA e' (List.mem_of_mem_take h1) k h2
        · exact hA e em k (List.mem_of_mem_take h)
      have sb : scanBound = 4096 := rfl
      have := nd_len hL1.2 kA
      refine ⟨rfl, _, rfl, n, _, _, hL1.1, rfl, by omega, (?_ : But D H3 (upd _ D (SetO w D (fun j => decide (j ∈ L1) || decide (j = n)) (if decide (n ∈ L1) = true then L1.length else L1.length + 1))) ∧ ∃ L, SetL w (upd _ D (SetO w D (fun j => decide (j ∈ L1) || decide (j = n)) (if decide (n ∈ L1) = true then L1.length else L1.length + 1))) D L ∧ ∀ k, k ∈ L ↔ (∃ e ∈ st.log.take i, k ∈ e.1) ∨ k ∈ e.1.take (j + 1))⟩
      obtain ⟨L2, e1, e2, e3⟩ := hL1.add n
      rw [e1]
      refine ⟨b1.trans (But.upd _), L2, ⟨upd_same, e2⟩, fun k => ?_⟩
      rw [e3 k, mem1 k, List.take_add_one, hn, Option.toList_some, List.mem_append, List.mem_singleton, or_assoc]
    · rintro H5 ⟨b1, L1, hL1, mem1⟩
      refine ⟨fun c o q => b1 _ _ (fun z => by rw [z, hD] at q; cases q) (s1 _ _ q), L1, hL1, fun k => ?_⟩
      rw [mem1 k, List.take_add_one, he, Option.toList_some]
      have tl : e.1.take (e.1.map V.int).length = e.1 := List.take_of_length_le (by rw [List.length_map]; exact Nat.le_refl _)
      rw [tl]
      constructor
      · rintro (⟨e', h1, h2⟩ | h)
        · exact ⟨e', List.mem_append_left _ h1, h2⟩
        · exact ⟨e, List.mem_append_right _ (List.mem_singleton.mpr rfl), h⟩
      · rintro ⟨e', h1, h2⟩
        rcases List.mem_append.mp h1 with h1 | h1
        · exact .inl ⟨e', h1, h2⟩
        · rw [List.mem_singleton.mp h1] at h2
          exact .inr h2
  · rintro H2 ⟨s1, L, hL, mem⟩
    rw [List.length_map, ← pln, List.take_length] at mem
    have la : ∀ k ∈ L, k ∈ A := fun k hk => by
      obtain ⟨e, h1, h2⟩ := (mem k).mp hk
      exact hA e h1 k h2
    have := nd_len hL.2 la
    refine ⟨D, _, _, rfl, hL.1, by omega, fun ns q hs hm hl hq => ?_⟩
    refine k q ns _ ((ro.same.trans s1).trans (Same.new hq)) upd_same hs fun j => ?_
    rw [hm j, decide_eq_true_iff]
    exact mem j


/-- program.writes(places) -/
def spWrites (K : PySem.W.Frag) (LCc CB CP : Addr) : Sp := fun vs H Q _ => ∃ (p pq : Addr) (ps : List Str) (wds : Str → Option Int) (t : Tr) (pls : List Int) (A : List Int), vs = [.ref p, .ref pq] ∧ ProgAt K LCc CB CP H p ps wds t ∧ H pq = some (.lst (pls.map V.int)) ∧ pls.length = ps.length ∧ t ≠ .nil ∧ t.depth < 2 ∧ t.Ok wds ∧ okT ps wds t (st0 pls true) ∧
  A.length < 64 ∧ (∀ e ∈ (runT ps wds t (st0 pls true)).log, ∀ k ∈ e.2, k ∈ A) ∧
  ∀ (q : Addr) (ns : List Int) H', Same H H' → H' q = some (.lst (ns.map V.int)) → ns.Pairwise (· < ·) → (∀ k, k ∈ ns ↔ ∃ e ∈ (runT ps wds t (st0 pls true)).log, k ∈ e.2) → Q (.ref q) H'

abbrev s_Program_writes : Stmt := inClass (topS 108) 5
theorem sc_Program_writes : FnScope ["self", "places", "log", "_", "written", "cell"] ["self", "places"] (defScope s_Program_writes) := ⟨rfl, rfl, rfl, by decide +kernel, rfl, by decide +kernel, by decide +kernel⟩
theorem ok_prog_writes {f : Addr} {fd : FuncData} (T : TxtP K mg) (Tq : PL.TxtQ K w mg) (F : FunD K "writes" "Program.writes" (defArgs s_Program_writes) (defBody s_Program_writes) (defScope s_Program_writes) [] [] f fd) {LCc CB CP C : Addr} (f_sorted : mg "sorted" = none) (PC : ProgC K CP) (RC : RunC K C) (C_check_places : Cal P w K mg base 1 "check_places" ["pointers", "places"] (spCheckOk K)) (C_whole_run : Cal P w K mg base 10 "whole_run" ["body", "places", "watched"] (spWhole LCc CB C)) : FnOk P w K mg base CX0 11 f fd ["self", "places"] (spWrites K LCc CB CP) := by
  refine F.ok sc_Program_writes (fun vs H Q E h => by obtain ⟨p, pq, ps, wds, t, pls, A, rfl, _⟩ := h; rfl) (fun cdv A outer s H vs Q E hr h => ?_)
  suffices z : ∃ t, PSs (cxOf CX0 P w K mg base ["self", "places", "log", "_", "written", "cell"] "Program.writes" (defScope s_Program_writes) f cdv A outer s H E).nox (defBody s_Program_writes) t ∧ t { nx := fun _ H' => Q .non H', rt := Q } (start ["self", "places", "log", "_", "written", "cell"] vs) H by
    obtain ⟨t, h1, h2⟩ := z
    exact ⟨t, h1.nox, h2⟩
  have hu := hu_of hr
  have big : sizeLine = 16777216 := sizeLine_eq
  obtain ⟨p, pq, ps, wds, t, pls, A, rfl, hp, hpq, pl, tn, td, tok, ok, a64, hA, k⟩ := h
  obtain ⟨dx, pt, b, bt, bs, reg, v4, v5, v6, ho, hT, hb, hbt, blk⟩ := hp
  have be := blk_ne blk tn
  rw [be] at hb
  refine ⟨_, (pss_cons (ps_expr (pe_cal C_check_places (hr.mono (by decide)) rfl (pa_cons (pe_fld (pv 0) rfl) (pa_cons (pv 1) pa_nil))))
      (pss_cons (ps_set (i := 2) sc_Program_writes.nd rfl (by first | exact Or.inl rfl | exact Or.inr rfl) (pe_fld (pe_cal C_whole_run (hr.mono (by decide)) rfl (pa_cons (pe_fld (pv 0) rfl) (pa_cons (pv 1) (pa_cons pe_bl pa_nil)))) rfl))
      (pss_one (ps_ret (pe_callB (cr_sortedSet rfl) (by rfl) f_sorted (by decide +kernel) (pa_cons (TG.pe_sc2 (own := [("_", 3), ("written", 4), ("cell", 5)]) (vs1 := [5, 3]) (g := gTup K 4 (gCons (gName 3) (gCons (gName 3) (gCons (gName 3) (gCons (gName 4) (gNil)))))) (g1 := gTup K 2 (gCons (gName 5) (gCons (gName 3) (gNil)))) (te := tVar 5) (wi1 := iList K (tVar 4)) TG.setI_new TG.adI_ok rfl sc_Program_writes.nd (pi_list (pv 2)) (blkOk_by (N := ["self", "places", "log", "_", "written", "cell"]) (sc := defScope s_Program_writes) (by decide +kernel)) (by decide) (fun _ _ _ _ _ => (pg_tup rfl (pgs_cons (pg_name (i := 3) sc_Program_writes.nd rfl (by first | exact Or.inl rfl | exact Or.inr rfl)) (pgs_cons (pg_name (i := 3) sc_Program_writes.nd rfl (by first | exact Or.inl rfl | exact Or.inr rfl)) (pgs_cons (pg_name (i := 3) sc_Program_writes.nd rfl (by first | exact Or.inl rfl | exact Or.inr rfl)) (pgs_cons (pg_name (i := 4) sc_Program_writes.nd rfl (by first | exact Or.inl rfl | exact Or.inr rfl)) pgs_nil)))))) (fun _ _ _ _ _ => (pi_list (pv 4))) (fun _ _ _ _ _ => (pg_tup rfl (pgs_cons (pg_name (i := 5) sc_Program_writes.nd rfl (by first | exact Or.inl rfl | exact Or.inr rfl)) (pgs_cons (pg_name (i := 3) sc_Program_writes.nd rfl (by first | exact Or.inl rfl | exact Or.inr rfl)) pgs_nil)))) (fun _ _ _ _ _ => (pv 5))) pa_nil)))))), ?_⟩
  refine ⟨_, rfl, p, CP, dx, _, _, rfl, ho, PC.cl, PC.n_pointers, rfl, _, rfl, pt, pq, _, _, rfl, hT, hpq, by rw [List.length_map, List.length_map, pl], ?_⟩
  refine ⟨_, rfl, p, CP, dx, _, _, rfl, ho, PC.cl, PC.n_body, rfl, _, rfl, b, pq, _, reg, true, [bt], pls, ps, [(wds, t)], rfl, hb, by show 1 ≤ 1000; decide, .cons ⟨bs, hbt, blk, td, tok⟩ .nil, hpq, ⟨ok, True.intro⟩, ?_⟩
  change ∀ (r : Addr) (d : RAd) H', RunOk C H H' r d (runT ps wds t (st0 pls true)) → _
  generalize runT ps wds t (st0 pls true) = st at hA k
  intro r d H1 ro
  obtain ⟨es, l1, l2⟩ := ro.log
  have pln := paired_ln l2
  refine ⟨r, C, d.dx, _, _, rfl, ro.obj, RC.cl, RC.n_log, rfl, ?_⟩
  refine ⟨_, rfl, d.lg, rfl, ⟨_, SqL.of l1⟩, fun D hD => ?_⟩
  refine TG.sc_out (INN := fun N σ2 H2 => iList K (tVar 4) σ2 H2 (TG.Rest (TG.adI _) (gTup K 2 (gCons (gName 5) (gCons (gName 3) gNil))) (tVar 5) [5, 3] D N σ2)) walk_list
    (fun i H' => Same H1 H' ∧ ∃ L, SetL w H' D L ∧ ∀ k, k ∈ L ↔ ∃ e ∈ st.log.take i, k ∈ e.2) ⟨Same.new hD, [], ⟨upd_same, List.nodup_nil⟩, fun k => by simp⟩ (fun i H' _ z => SqL.of (z.1 _ _ l1)) ?_ ?_
  · rintro i x H2 H3 hi ⟨s1, L, hL, mem⟩ ⟨rfl, hx⟩
    rw [List.getElem?_map] at hx
    obtain ⟨a, ha, rfl⟩ := Option.map_eq_some_iff.mp hx
    have hi' := (List.getElem?_eq_some_iff.mp ha).1
    have he : st.log[i]? = some st.log[i] := List.getElem?_eq_getElem (by omega)
    generalize st.log[i] = e at he
    obtain ⟨v1, v2, rd, wr, ws, g1, g2, g3, g4, g5, g6⟩ := (paired_at l2 he ha).same s1
    refine ⟨a, _, rfl, SqT.of g1, rfl, _, _, rfl, _, _, rfl, _, _, rfl, _, _, rfl, rfl, rfl, ?_⟩
    refine ⟨_, rfl, wr, rfl, ⟨_, SqL.of g4⟩, ?_⟩
    have nD : wr ≠ D := fun z => by have q := hL.1; rw [← z, g4] at q; cases q
    have em : e ∈ st.log := List.mem_of_getElem? he
    refine TG.rest_it walk_list (fun j H' => But D H3 H' ∧ ∃ L, SetL w H' D L ∧ ∀ k, k ∈ L ↔ (∃ e ∈ st.log.take i, k ∈ e.2) ∨ k ∈ e.2.take j) ⟨But.refl _ _, L, hL, fun k => by simpa using mem k⟩ (fun j H' _ z => SqL.of (z.1 _ _ nD g4)) ?_ ?_
    · rintro j y H5 H6 hj ⟨b1, L1, hL1, mem1⟩ ⟨rfl, hy⟩
      rw [List.getElem?_map] at hy
      obtain ⟨wa, hwa, rfl⟩ := Option.map_eq_some_iff.mp hy
      have hj' := (List.getElem?_eq_some_iff.mp hwa).1
      have wl := paired_ln g6
      have hn : e.2[j]? = some e.2[j] := List.getElem?_eq_getElem (by omega)
      generalize e.2[j] = n at hn
      obtain ⟨v, hv⟩ := paired_at g6 hn hwa
      have nW : wa ≠ D := fun z => by have q := hL.1; rw [← z, hv] at q; cases q
      have kA : ∀ k ∈ L1, k ∈ A := fun k hk => by
        rcases (mem1 k).mp hk with ⟨e', h1, h2⟩ | h
        · exact hA e' (List.mem_of_mem_take h1) k h2
        · exact hA e em k (List.mem_of_mem_take h)
      have sb : scanBound = 4096 := rfl
      have := nd_len hL1.2 kA
      refine ⟨wa, _, rfl, SqT.of (b1 _ _ nW hv), rfl, _, _, rfl, _, _, rfl, rfl, rfl, _, rfl, n, _, _, hL1.1, rfl, by omega, (?_ : But D H3 (upd _ D (SetO w D (fun j => decide (j ∈ L1) || decide (j = n)) (if decide (n ∈ L1) = true then L1.length else L1.length + 1))) ∧ ∃ L, SetL w (upd _ D (SetO w D (fun j => decide (j ∈ L1) || decide (j = n)) (if decide (n ∈ L1) = true then L1.length else L1.length + 1))) D L ∧ ∀ k, k ∈ L ↔ (∃ e ∈ st.log.take i, k ∈ e.2) ∨ k ∈ e.2.take (j + 1))⟩
      obtain ⟨L2, e1, e2, e3⟩ := hL1.add n
      rw [e1]
      refine ⟨b1.trans (But.upd _), L2, ⟨upd_same, e2⟩, fun k => ?_⟩
      rw [e3 k, mem1 k, List.take_add_one, hn, Option.toList_some, List.mem_append, List.mem_singleton, or_assoc]
    · rintro H5 ⟨b1, L1, hL1, mem1⟩
      refine ⟨fun c o q => b1 _ _ (fun z => by rw [z, hD] at q; cases q) (s1 _ _ q), L1, hL1, fun k => ?_⟩
      rw [mem1 k, List.take_add_one, he, Option.toList_some]
      have tl : e.2.take (ws.map V.ref).length = e.2 := List.take_of_length_le (by rw [List.length_map, paired_ln g6]; exact Nat.le_refl _)
      rw [tl]
      constructor
      · rintro (⟨e', h1, h2⟩ | h)
        · exact ⟨e', List.mem_append_left _ h1, h2⟩
        · exact ⟨e, List.mem_append_right _ (List.mem_singleton.mpr rfl), h⟩
      · rintro ⟨e', h1, h2⟩
        rcases List.mem_append.mp h1 with h1 | h1
        · exact .inl ⟨e', h1, h2⟩
        · rw [List.mem_singleton.mp h1] at h2
          exact .inr h2
  · rintro H2 ⟨s1, L, hL, mem⟩
    rw [List.length_map, ← pln, List.take_length] at mem
    have la : ∀ k ∈ L, k ∈ A := fun k hk => by
      obtain ⟨e, h1, h2⟩ := (mem k).mp hk
      exact hA e h1 k h2
    have := nd_len hL.2 la
    refine ⟨D, _, _, rfl, hL.1, by omega, fun ns q hs hm hl hq => ?_⟩
    refine k q ns _ ((ro.same.trans s1).trans (Same.new hq)) upd_same hs fun j => ?_
    rw [hm j, decide_eq_true_iff]
    exact mem j
end
end K19
end
section
set_option Elab.async false
set_option linter.all false
set_option maxRecDepth 100000
set_option maxHeartbeats 4000000
namespace K19
open PySem PySem.Spec PyProof.Rows L2
open PySem.W (ke_shaped_ints)
local macro_rules | `(tactic| walk_at "go") => `(tactic| first | refine ⟨_, rfl, ?_⟩ | refine .inl ⟨_, rfl, ?_⟩ | refine ⟨_, _, rfl, rfl, (by first | (show (0 : Int) < _; decide) | exact Or.inl ⟨by decide, by decide⟩ | exact Or.inr ⟨by decide, by decide⟩), ?_⟩ | refine ⟨_, _, rfl, rfl, ?_⟩)
section
variable {P : Program} {w : World} {K : PySem.W.Frag} {mg : Str → Option Value} {base : Heap}

/-! what cells hold behind moves -/
theorem moveR {cs : Cells} {s t : Nat → Int} {G : Nat → Cont} : ∀ {m : Nat}, (∀ i j, i < m → j < m → t i = t j → i = j) → (∀ i, i < m → (∃ j, j < i ∧ s i = t j ∧ G i = G j) ∨ ((∀ j, j < i → s i ≠ t j) ∧ G i = getC cs (s i))) →
    (∀ j, j < m → getC (moveAll cs ((List.range m).map fun i => (s i, t i))) (t j) = G j) ∧ ∀ n, (∀ j, j < m → n ≠ t j) → getC (moveAll cs ((List.range m).map fun i => (s i, t i))) n = getC cs n
  | 0, _, _ => ⟨fun j h => absurd h (Nat.not_lt_zero _), fun n _ => rfl⟩
  | m + 1, inj, hG => by
    obtain ⟨ih1, ih2⟩ := moveR (m := m) (fun i j hi hj e => inj i j (by omega) (by omega) e) (fun i hi => hG i (by omega))
    have e : (List.range (m + 1)).map (fun i => (s i, t i)) = (List.range m).map (fun i => (s i, t i)) ++ [(s m, t m)] := by rw [List.range_succ, List.map_append]; rfl
    rw [e, moveAll_snoc]
    have val : getC (moveAll cs ((List.range m).map fun i => (s i, t i))) (s m) = G m := by
      rcases hG m (Nat.lt_succ_self _) with ⟨j, hj, e1, e2⟩ | ⟨h1, e2⟩
      · rw [e1, ih1 j hj, e2]
      · rw [ih2 _ (fun j hj => h1 j hj), e2]
    refine ⟨fun j hj => ?_, fun n hn => ?_⟩
    · rw [get_put]
      by_cases q : j = m
      · subst q
        rw [if_pos rfl]
        exact val
      · rw [if_neg (fun z => q (inj j m hj (Nat.lt_succ_self _) z))]
        exact ih1 j (by omega)
    · rw [get_put, if_neg (hn m (Nat.lt_succ_self _))]
      exact ih2 n (fun j hj => hn j (by omega))
theorem putR {cs : Cells} {t : Nat → Int} {c : Nat → Cont} : ∀ {m : Nat}, (∀ i j, i < m → j < m → t i = t j → i = j) →
    (∀ j, j < m → getC (putAll cs ((List.range m).map fun i => (t i, c i))) (t j) = c j) ∧ ∀ n, (∀ j, j < m → n ≠ t j) → getC (putAll cs ((List.range m).map fun i => (t i, c i))) n = getC cs n
  | 0, _ => ⟨fun j h => absurd h (Nat.not_lt_zero _), fun n _ => rfl⟩
  | m + 1, inj => by
    obtain ⟨ih1, ih2⟩ := putR (cs := cs) (c := c) (m := m) (fun i j hi hj e => inj i j (by omega) (by omega) e)
    have e : (List.range (m + 1)).map (fun i => (t i, c i)) = (List.range m).map (fun i => (t i, c i)) ++ [(t m, c m)] := by rw [List.range_succ, List.map_append]; rfl
    rw [e, putAll_snoc]
    refine ⟨fun j hj => ?_, fun n hn => ?_⟩
    · rw [get_put]
      by_cases q : j = m
      · subst q
        rw [if_pos rfl]
      · rw [if_neg (fun z => q (inj j m hj (Nat.lt_succ_self _) z))]
        exact ih1 j (by omega)
    · rw [get_put, if_neg (hn m (Nat.lt_succ_self _))]
      exact ih2 n (fun j hj => hn j (by omega))
/-- keys of what is written -/
theorem keys_put (cs : Cells) (n : Int) (c : Cont) : ∀ k, k ∈ (putC cs n c).map (·.1) ↔ k ∈ cs.map (·.1) ∨ k = n := by
  intro k
  unfold putC
  by_cases h : (cs.any fun p => decide (p.1 = n)) = true
  · rw [if_pos h, List.map_map]
    have e : (cs.map ((fun x : Int × Cont => x.1) ∘ fun p => if p.1 = n then (p.1, c) else p)) = cs.map (·.1) := by
      apply List.map_congr_left
      intro p _
      show (if p.1 = n then (p.1, c) else p).1 = p.1
      split <;> rfl
    rw [e]
    constructor
    · exact .inl
    · rintro (z | z)
      · exact z
      · obtain ⟨p, hp, q⟩ := List.any_eq_true.mp h
        exact z ▸ List.mem_map.mpr ⟨p, hp, of_decide_eq_true q⟩
  · rw [if_neg h, List.map_append, List.mem_append]
    simp
theorem nd_put {cs : Cells} (h : NdC cs) (n : Int) (c : Cont) : NdC (putC cs n c) := by
  by_cases m : n ∈ cs.map (·.1)
  · unfold NdC putC
    have q : (cs.any fun p => decide (p.1 = n)) = true := by
      obtain ⟨p, hp, e⟩ := List.mem_map.mp m
      exact List.any_eq_true.mpr ⟨p, hp, decide_eq_true e⟩
    rw [if_pos q, List.map_map]
    have e : (cs.map ((fun x : Int × Cont => x.1) ∘ fun p => if p.1 = n then (p.1, c) else p)) = cs.map (·.1) := by
      apply List.map_congr_left
      intro p _
      show (if p.1 = n then (p.1, c) else p).1 = p.1
      split <;> rfl
    rw [e]
    exact h
  · unfold NdC
    rw [putC_new c m, List.map_append]
    exact List.nodup_append.mpr ⟨h, by simp, fun x hx y hy z => m (by simp at hy; rw [hy] at z; exact z ▸ hx)⟩
theorem nd_putAll : ∀ {ps : List (Int × Cont)} {cs : Cells}, NdC cs → NdC (putAll cs ps)
  | [], _, h => h
  | p :: r, cs, h => nd_putAll (ps := r) (nd_put h p.1 p.2)
theorem nd_moveAll : ∀ {ps : List (Int × Int)} {cs : Cells}, NdC cs → NdC (moveAll cs ps)
  | [], _, h => h
  | p :: r, cs, h => nd_moveAll (ps := r) (nd_put h p.2 (getC cs p.1))
theorem keys_putAll : ∀ {ps : List (Int × Cont)} {cs : Cells} {k : Int}, k ∈ (putAll cs ps).map (·.1) ↔ k ∈ cs.map (·.1) ∨ k ∈ ps.map (·.1)
  | [], cs, k => by simp [putAll]
  | p :: r, cs, k => by
    show k ∈ (putAll (putC cs p.1 p.2) r).map (·.1) ↔ _
    rw [keys_putAll, keys_put, List.map_cons, List.mem_cons, or_assoc]
theorem keys_moveAll : ∀ {ps : List (Int × Int)} {cs : Cells} {k : Int}, k ∈ (moveAll cs ps).map (·.1) ↔ k ∈ cs.map (·.1) ∨ k ∈ ps.map (·.2)
  | [], cs, k => by simp [moveAll]
  | p :: r, cs, k => by
    show k ∈ (moveAll (putC cs p.2 (getC cs p.1)) r).map (·.1) ↔ _
    rw [keys_moveAll, keys_put, List.map_cons, List.mem_cons, or_assoc]
theorem look_in {cs : Cells} (h : NdC cs) {n : Int} {c : Cont} (m : (n, c) ∈ cs) : lookC cs n = some c := by
  induction cs with
  | nil => cases m
  | cons p r ih =>
    have h' := List.nodup_cons.mp h
    unfold lookC
    rcases List.mem_cons.mp m with e | m
    · rw [← e, List.find?_cons_of_pos (p := fun q : Int × Cont => decide (q.1 = n)) (show decide (n = n) = true from decide_eq_true rfl)]
      rfl
    · have ne : p.1 ≠ n := fun z => h'.1 (by show p.1 ∈ _; rw [z]; exact List.mem_map.mpr ⟨(n, c), m, rfl⟩)
      rw [List.find?_cons_of_neg (by rw [decide_eq_true_iff]; exact ne)]
      exact ih h'.2 m
theorem look_chg {cs : Cells} (h : NdC cs) (n : Int) : lookC (chg cs) n = if getC cs n = .at_ n then none else some (getC cs n) := by
  have hc : NdC (chg cs) := List.Nodup.sublist (List.filter_sublist.map _) h
  by_cases m : n ∈ cs.map (·.1)
  · obtain ⟨c, e1, e2⟩ := look_mem m
    have g : getC cs n = c := by unfold getC; rw [e1]; rfl
    rw [g]
    by_cases q : c = .at_ n
    · rw [if_pos q]
      apply look_none
      intro z
      obtain ⟨p, hp, e⟩ := List.mem_map.mp z
      obtain ⟨h1, h2⟩ := List.mem_filter.mp hp
      have z2 : (n, p.2) ∈ cs := by rw [← e]; exact h1
      have := look_in h z2
      rw [e1] at this
      have e3 : c = p.2 := Option.some.inj this
      have h3 := of_decide_eq_true h2
      apply h3
      rw [← e3, q, e]
    · rw [if_neg q]
      exact look_in hc (List.mem_filter.mpr ⟨e2, decide_eq_true q⟩)
  · have g : getC cs n = .at_ n := by unfold getC; rw [look_none m]; rfl
    rw [g, if_pos rfl]
    apply look_none
    intro z
    obtain ⟨p, hp, e⟩ := List.mem_map.mp z
    exact m (List.mem_map.mpr ⟨p, (List.mem_filter.mp hp).1, e⟩)
/-- dicts that tell the same are equal -/
theorem same_len {a b : Cells} (ha : NdC a) (hb : NdC b) (h : ∀ n, lookC a n = lookC b n) : a.length = b.length ∧ ∀ p ∈ kv a, valV (kv b) p.1 = some p.2 := by
  have sub : ∀ {a b : Cells}, NdC a → (∀ n, lookC a n = lookC b n) → ∀ k ∈ a.map (·.1), k ∈ b.map (·.1) := fun {a b} ha h k hk => by
    obtain ⟨c, e, _⟩ := look_mem hk
    rw [h] at e
    apply Classical.byContradiction
    intro z
    rw [look_none z] at e
    cases e
  have h1 := nd_len ha (sub ha h)
  have h2 := nd_len hb (sub hb fun n => (h n).symm)
  rw [List.length_map, List.length_map] at h1 h2
  refine ⟨by omega, fun p hp => ?_⟩
  obtain ⟨q, hq, rfl⟩ := List.mem_map.mp hp
  show valV (kv b) (Sum.inl q.1) = some q.2.v
  rw [kv_val, ← h, look_in ha (n := q.1) (c := q.2) hq]
  rfl
/-- lists in order that tell the same are equal -/
theorem sorted_eq : ∀ {a b : List Int}, a.Pairwise (· < ·) → b.Pairwise (· < ·) → (∀ k, k ∈ a ↔ k ∈ b) → a = b
  | [], [], _, _, _ => rfl
  | [], y :: r, _, _, h => by have := (h y).mpr List.mem_cons_self; cases this
  | x :: r, [], _, _, h => by have := (h x).mp List.mem_cons_self; cases this
  | x :: r, y :: s, ha, hb, h => by
    obtain ⟨a1, a2⟩ := List.pairwise_cons.mp ha
    obtain ⟨b1, b2⟩ := List.pairwise_cons.mp hb
    have e : x = y := by
      rcases List.mem_cons.mp ((h x).mp List.mem_cons_self) with e | m
      · exact e
      · rcases List.mem_cons.mp ((h y).mpr List.mem_cons_self) with e | m2
        · exact e.symm
        · have := b1 x m
          have := a1 y m2
          omega
    subst e
    rw [sorted_eq a2 b2 fun k => ?_]
    constructor
    · intro hk
      rcases List.mem_cons.mp ((h k).mp (List.mem_cons_of_mem _ hk)) with e | m
      · have := a1 k hk; omega
      · exact m
    · intro hk
      rcases List.mem_cons.mp ((h k).mpr (List.mem_cons_of_mem _ hk)) with e | m
      · have := b1 k hk; omega
      · exact m
theorem zip_map {α β γ : Type} (f : α → β) (g : α → γ) : ∀ l : List α, (l.map f).zip (l.map g) = l.map fun x => (f x, g x)
  | [] => rfl
  | x :: r => by rw [List.map_cons, List.map_cons, List.zip_cons_cons, zip_map f g r]; rfl
theorem rev_range {α : Type} (f : Nat → α) (m : Nat) : ((List.range m).map f).reverse = (List.range m).map fun i => f (m - 1 - i) := by
  apply List.ext_getElem
  · simp
  · intro i h1 h2
    simp at h1 h2
    simp [List.getElem_reverse]
end
end K19
end
section
set_option Elab.async false
set_option linter.all false
set_option maxRecDepth 100000
set_option maxHeartbeats 4000000
namespace K19
open PySem PySem.Spec PyProof.Rows L2
open PySem.W (ke_shaped_ints)
local macro_rules | `(tactic| walk_at "go") => `(tactic| first | refine ⟨_, rfl, ?_⟩ | refine .inl ⟨_, rfl, ?_⟩ | refine ⟨_, _, rfl, rfl, (by first | (show (0 : Int) < _; decide) | exact Or.inl ⟨by decide, by decide⟩ | exact Or.inr ⟨by decide, by decide⟩), ?_⟩ | refine ⟨_, _, rfl, rfl, ?_⟩)
section
variable {P : Program} {w : World} {K : PySem.W.Frag} {mg : Str → Option Value} {base : Heap}

/-! laps -/
def lapC (wd : Str) (sr tg : List Int) (cs : Cells) : Cells :=
  if wd = "copy" then putAll cs (tg.zip (sr.map (getC cs))) else if wd = "up" then moveAll cs (sr.zip tg) else moveAll cs (sr.reverse.zip tg.reverse)
theorem row_map (z s : Int) (m : Nat) : rowL z s m = (List.range m).map fun i => z + s + (i : Nat) := rfl
theorem zip_row (f g : Nat → Int) (m : Nat) : ((List.range m).map f).zip ((List.range m).map g) = (List.range m).map fun i => (f i, g i) := zip_map f g _
/-- a lap: what comes to stand, if what is drawn on is G -/
theorem lap_val {wd : Str} {S T : Int} {m : Nat} {cs : Cells} {G : Int → Cont} (hw : wd ∈ PL.Copying)
    (hG : ∀ k : Int, 0 ≤ k → k < m → (wd = "up" ∧ S < T ∧ T - S ≤ k ∧ G k = G (k - (T - S))) ∨ (wd = "down" ∧ T < S ∧ k - (T - S) < m ∧ G k = G (k - (T - S))) ∨
      (¬ (wd = "up" ∧ S < T ∧ T - S ≤ k) ∧ ¬ (wd = "down" ∧ T < S ∧ k - (T - S) < m) ∧ G k = getC cs (S + k))) :
    (∀ k : Int, 0 ≤ k → k < m → getC (lapC wd ((List.range m).map fun i => S + (i : Nat)) ((List.range m).map fun i => T + (i : Nat)) cs) (T + k) = G k) ∧
    ∀ n, ¬ (T ≤ n ∧ n < T + m) → getC (lapC wd ((List.range m).map fun i => S + (i : Nat)) ((List.range m).map fun i => T + (i : Nat)) cs) n = getC cs n := by
  have up_ne : ("up" : Str) ≠ "copy" := by decide +kernel
  have dn_ne : ("down" : Str) ≠ "copy" := by decide +kernel
  have dn_up : ("down" : Str) ≠ "up" := by decide +kernel
  unfold lapC
  by_cases c : wd = "copy"
  · subst c
    rw [if_pos rfl, List.map_map]
    have e : ((List.range m).map fun i => T + ((i : Nat) : Int)).zip ((List.range m).map ((getC cs) ∘ fun i => S + ((i : Nat) : Int))) = (List.range m).map fun i => (T + ((i : Nat) : Int), getC cs (S + ((i : Nat) : Int))) := zip_map (fun i => T + ((i : Nat) : Int)) ((getC cs) ∘ fun i => S + ((i : Nat) : Int)) _
    rw [e]
    obtain ⟨h1, h2⟩ := putR (cs := cs) (t := fun i => T + ((i : Nat) : Int)) (c := fun i => getC cs (S + ((i : Nat) : Int))) (m := m) (fun i j _ _ z => by omega)
    refine ⟨fun k k0 k1 => ?_, fun n hn => h2 n fun j hj z => hn (by omega)⟩
    have z := h1 k.toNat (by omega)
    rw [show ((k.toNat : Nat) : Int) = k by omega] at z
    rw [z]
    rcases hG k k0 k1 with ⟨q, _⟩ | ⟨q, _⟩ | ⟨_, _, q⟩
    · exact absurd q.symm up_ne
    · exact absurd q.symm dn_ne
    · exact q.symm
  rw [if_neg c]
  by_cases u : wd = "up"
  · subst u
    rw [if_pos rfl, zip_row]
    obtain ⟨h1, h2⟩ := moveR (cs := cs) (s := fun i => S + ((i : Nat) : Int)) (t := fun i => T + ((i : Nat) : Int)) (G := fun i => G (i : Nat)) (m := m) (fun i j _ _ z => by omega) (fun i hi => by
      rcases hG i (by omega) (by omega) with ⟨_, a, b, q⟩ | ⟨q, _⟩ | ⟨n1, _, q⟩
      · refine .inl ⟨i - (T - S).toNat, by omega, by omega, ?_⟩
        rw [q]
        congr 1
        omega
      · exact absurd q.symm dn_up
      · refine .inr ⟨fun j hj z => n1 ⟨rfl, ?_, ?_⟩, q⟩ <;> omega)
    refine ⟨fun k k0 k1 => ?_, fun n hn => h2 n fun j hj z => hn (by omega)⟩
    have z := h1 k.toNat (by omega)
    rwa [show ((k.toNat : Nat) : Int) = k by omega] at z
  · have d : wd = "down" := by
      unfold PL.Copying at hw
      simp only [List.mem_cons, List.not_mem_nil, or_false] at hw
      rcases hw with h | h | h
      · exact absurd h c
      · exact absurd h u
      · exact h
    subst d
    rw [if_neg u, rev_range, rev_range, zip_row]
    obtain ⟨h1, h2⟩ := moveR (cs := cs) (s := fun i => S + ((m - 1 - i : Nat) : Int)) (t := fun i => T + ((m - 1 - i : Nat) : Int)) (G := fun i => G ((m - 1 - i : Nat) : Int)) (m := m) (fun i j _ _ z => by omega) (fun i hi => by
      rcases hG ((m - 1 - i : Nat) : Int) (by omega) (by omega) with ⟨q, _⟩ | ⟨_, a, b, q⟩ | ⟨_, n1, q⟩
      · exact absurd q dn_up
      · refine .inl ⟨i - (S - T).toNat, by omega, by omega, ?_⟩
        rw [q]
        congr 1
        omega
      · refine .inr ⟨fun j hj z => n1 ⟨rfl, ?_, ?_⟩, q⟩ <;> omega)
    refine ⟨fun k k0 k1 => ?_, fun n hn => h2 n fun j hj z => hn (by omega)⟩
    have z := h1 (m - 1 - k.toNat) (by omega)
    rwa [show ((m - 1 - (m - 1 - k.toNat) : Nat) : Int) = k by omega] at z
/-- keys and form of a lap -/
theorem lap_keys {wd : Str} {S T : Int} {m : Nat} {cs : Cells} {k : Int} : k ∈ (lapC wd ((List.range m).map fun i => S + (i : Nat)) ((List.range m).map fun i => T + (i : Nat)) cs).map (·.1) ↔ k ∈ cs.map (·.1) ∨ (T ≤ k ∧ k < T + m) := by
  have r : ∀ f : Nat → Nat, (∀ i, i < m → f i < m) → (∀ j, j < m → ∃ i, i < m ∧ f i = j) → ((∃ i, i < m ∧ T + ((f i : Nat) : Int) = k) ↔ T ≤ k ∧ k < T + m) := fun f h1 h2 => by
    constructor
    · rintro ⟨i, hi, e⟩
      have := h1 i hi
      omega
    · rintro ⟨a, b⟩
      obtain ⟨i, hi, e⟩ := h2 (k - T).toNat (by omega)
      exact ⟨i, hi, by omega⟩
  unfold lapC
  split
  · rw [List.map_map]
    have e : ((List.range m).map fun i => T + ((i : Nat) : Int)).zip ((List.range m).map ((getC cs) ∘ fun i => S + ((i : Nat) : Int))) = (List.range m).map fun i => (T + ((i : Nat) : Int), getC cs (S + ((i : Nat) : Int))) := zip_map (fun i => T + ((i : Nat) : Int)) ((getC cs) ∘ fun i => S + ((i : Nat) : Int)) _
    rw [e, keys_putAll, List.map_map, ← r id (fun i h => h) (fun j h => ⟨j, h, rfl⟩)]
    simp [List.mem_map]
  · split
    · rw [zip_row, keys_moveAll, List.map_map, ← r id (fun i h => h) (fun j h => ⟨j, h, rfl⟩)]
      simp [List.mem_map]
    · rw [rev_range, rev_range, zip_row, keys_moveAll, List.map_map, ← r (fun i => m - 1 - i) (fun i h => by omega) (fun j h => ⟨m - 1 - j, by omega, by omega⟩)]
      simp [List.mem_map]
theorem lap_nd {wd : Str} {sr tg : List Int} {cs : Cells} (h : NdC cs) : NdC (lapC wd sr tg cs) := by
  unfold lapC
  split
  · exact nd_putAll h
  · split <;> exact nd_moveAll h
/-- how many periods further back a cell draws -/
def per (wd : Str) (a m q k : Int) : Int :=
  if q = 0 then -1 else if (wd = "up" ∧ 0 < a) ∨ (wd = "down" ∧ a < 0) then (if 0 < a then k else m - 1 - k) / (a.natAbs : Int) else min (q - 1) ((if 0 < a then k else m - 1 - k) / (a.natAbs : Int))
theorem div_step {l d : Int} (hd : 0 < d) : (l - d) / d = l / d - 1 := by
  have := Int.add_mul_ediv_right l (-1) (show d ≠ 0 by omega)
  rw [show l - d = l + -1 * d by omega, this]
  omega
structure Laps (wd : Str) (S a : Int) (m : Nat) (q : Nat) (cs : Cells) : Prop where
  nd : NdC cs
  val : ∀ k : Int, 0 ≤ k → k < m → getC cs (S + a + k) = .at_ (S + k - per wd a m q k * a)
  out : ∀ n, ¬ (S + a ≤ n ∧ n < S + a + m) → getC cs n = .at_ n
  keys : ∀ k, k ∈ cs.map (·.1) ↔ 0 < q ∧ S + a ≤ k ∧ k < S + a + m
theorem laps_0 {wd : Str} {S a : Int} {m : Nat} : Laps wd S a m 0 [] := by
  refine ⟨List.nodup_nil, fun k _ _ => ?_, fun _ _ => rfl, fun k => ?_⟩
  · have e : per wd a m (0 : Nat) k = -1 := if_pos rfl
    rw [e]
    show Cont.at_ (S + a + k) = _
    congr 1
    omega
  · constructor
    · intro h; cases h
    · rintro ⟨h, _⟩; exact absurd h (Nat.lt_irrefl _)
theorem laps_succ {wd : Str} {S a : Int} {m q : Nat} {cs : Cells} (hw : wd ∈ PL.Copying) (h : Laps wd S a m q cs) : Laps wd S a m (q + 1) (lapC wd ((List.range m).map fun i => S + (i : Nat)) ((List.range m).map fun i => S + a + (i : Nat)) cs) := by
  have q1 : ((q + 1 : Nat) : Int) ≠ 0 := by omega
  have dn_up : ("down" : Str) ≠ "up" := by decide +kernel
  obtain ⟨v1, v2⟩ := lap_val (wd := wd) (S := S) (T := S + a) (m := m) (cs := cs) (G := fun k => .at_ (S + k - per wd a m ((q + 1 : Nat) : Int) k * a)) hw (fun k k0 k1 => by
    have ta : S + a - S = a := by omega
    rw [ta]
    by_cases D : (wd = "up" ∧ 0 < a) ∨ (wd = "down" ∧ a < 0)
    · have e : ∀ k, per wd a m ((q + 1 : Nat) : Int) k = (if 0 < a then k else m - 1 - k) / (a.natAbs : Int) := fun k => by unfold per; rw [if_neg q1, if_pos D]
      rcases D with ⟨w, pa⟩ | ⟨w, na⟩
      · have e2 : ∀ k, per wd a m ((q + 1 : Nat) : Int) k = k / a := fun k => by rw [e, if_pos pa]; congr 1; omega
        by_cases c : a ≤ k
        · refine .inl ⟨w, by omega, c, ?_⟩
          rw [e2, e2, div_step pa, Int.sub_mul]
          congr 1
          omega
        · refine .inr (.inr ⟨fun z => c z.2.2, fun z => dn_up (z.1.symm.trans w), ?_⟩)
          rw [e2, Int.ediv_eq_zero_of_lt k0 (by omega), h.out _ (by omega)]
          congr 1
          omega
      · have e2 : ∀ k, per wd a m ((q + 1 : Nat) : Int) k = (m - 1 - k) / (-a) := fun k => by rw [e, if_neg (by omega)]; congr 1; omega
        by_cases c : k - a < m
        · refine .inr (.inl ⟨w, by omega, c, ?_⟩)
          rw [e2, e2, show (m : Int) - 1 - (k - a) = (m - 1 - k) - -a by omega, div_step (by omega), Int.sub_mul]
          congr 1
          omega
        · refine .inr (.inr ⟨fun z => dn_up (w.symm.trans z.1), fun z => c z.2.2, ?_⟩)
          rw [e2, Int.ediv_eq_zero_of_lt (by omega) (by omega), h.out _ (by omega)]
          congr 1
          omega
    · refine .inr (.inr ⟨fun z => D (.inl ⟨z.1, by omega⟩), fun z => D (.inr ⟨z.1, by omega⟩), ?_⟩)
      have e : ∀ (q : Nat) k, q ≠ 0 → per wd a m q k = min ((q : Int) - 1) ((if 0 < a then k else m - 1 - k) / (a.natAbs : Int)) := fun q k hq => by unfold per; rw [if_neg (by omega), if_neg D]
      by_cases a0 : a = 0
      · subst a0
        rw [Int.mul_zero]
        have z := h.val k k0 k1
        rw [Int.mul_zero] at z
        rw [show S + k = S + 0 + k by omega, z]
        congr 1
        omega
      · have dp : (0 : Int) < a.natAbs := by omega
        by_cases inr_ : 0 ≤ k - a ∧ k - a < m
        · have z := h.val (k - a) inr_.1 inr_.2
          rw [show S + k = S + a + (k - a) by omega, z, e (q + 1) k (by omega)]
          have key : min (((q + 1 : Nat) : Int) - 1) ((if 0 < a then k else m - 1 - k) / (a.natAbs : Int)) = per wd a m q (k - a) + 1 := by
            have st : (if 0 < a then k - a else m - 1 - (k - a)) / (a.natAbs : Int) = (if 0 < a then k else (m : Int) - 1 - k) / (a.natAbs : Int) - 1 := by
              rw [← div_step dp]
              congr 1
              split <;> omega
            have pos : 0 ≤ (if 0 < a then k - a else (m : Int) - 1 - (k - a)) / (a.natAbs : Int) := Int.ediv_nonneg (by split <;> omega) (by omega)
            by_cases q0 : q = 0
            · subst q0
              have e0 : per wd a m ((0 : Nat) : Int) (k - a) = -1 := if_pos rfl
              rw [e0]
              omega
            · rw [e q (k - a) q0, st]
              rw [st] at pos
              omega
          rw [key, Int.add_mul]
          congr 1
          omega
        · have z : (if 0 < a then k else (m : Int) - 1 - k) / (a.natAbs : Int) = 0 := Int.ediv_eq_zero_of_lt (by split <;> omega) (by split <;> omega)
          rw [e (q + 1) k (by omega), z, h.out _ (by omega)]
          have : min (((q + 1 : Nat) : Int) - 1) 0 = 0 := by omega
          rw [this, Int.zero_mul]
          congr 1
          omega)
  exact ⟨lap_nd h.nd, v1, fun n hn => by rw [v2 n hn]; exact h.out n hn, fun k => by
    rw [lap_keys, h.keys]
    constructor
    · rintro (⟨_, a, b⟩ | ⟨a, b⟩) <;> exact ⟨Nat.succ_pos _, a, b⟩
    · rintro ⟨_, a, b⟩; exact .inr ⟨a, b⟩⟩
theorem laps {wd : Str} {S a : Int} {m : Nat} (hw : wd ∈ PL.Copying) : ∀ q, Laps wd S a m q (rep (lapC wd ((List.range m).map fun i => S + (i : Nat)) ((List.range m).map fun i => S + a + (i : Nat))) q [])
  | 0 => laps_0
  | q + 1 => laps_succ hw (laps hw q)
theorem Laps.len {wd : Str} {S a : Int} {m q : Nat} {cs : Cells} (h : Laps wd S a m q cs) : cs.length ≤ m := by
  have z := nd_len (A := (List.range m).map fun i => S + a + ((i : Nat) : Int)) h.nd (fun k hk => by
    obtain ⟨_, h1, h2⟩ := (h.keys k).mp hk
    exact List.mem_map.mpr ⟨(k - (S + a)).toNat, List.mem_range.mpr (by omega), by omega⟩)
  rw [List.length_map, List.length_map, List.length_range] at z
  exact z
/-- what the cells hold -/
theorem Laps.cont {wd : Str} {S a : Int} {m q : Nat} {cs : Cells} (h : Laps wd S a m q cs) : ∀ p ∈ cs, ∃ k : Int, 0 ≤ k ∧ k < m ∧ p = (S + a + k, .at_ (S + k - per wd a m q k * a)) := by
  intro p hp
  obtain ⟨_, h1, h2⟩ := (h.keys p.1).mp (List.mem_map.mpr ⟨p, hp, rfl⟩)
  refine ⟨p.1 - (S + a), by omega, by omega, ?_⟩
  have z := h.val (p.1 - (S + a)) (by omega) (by omega)
  rw [show S + a + (p.1 - (S + a)) = p.1 by omega] at z
  unfold getC at z
  rw [look_in h.nd (n := p.1) (c := p.2) hp] at z
  rw [← show p.2 = _ from z, show S + a + (p.1 - (S + a)) = p.1 by omega]
end
end K19
end
section
set_option Elab.async false
set_option linter.all false
set_option maxRecDepth 100000
set_option maxHeartbeats 4000000
namespace K19
open PySem PySem.Spec PyProof.Rows L2
open PySem.W (ke_shaped_ints)
local macro_rules | `(tactic| walk_at "go") => `(tactic| first | refine ⟨_, rfl, ?_⟩ | refine .inl ⟨_, rfl, ?_⟩ | refine ⟨_, _, rfl, rfl, (by first | (show (0 : Int) < _; decide) | exact Or.inl ⟨by decide, by decide⟩ | exact Or.inr ⟨by decide, by decide⟩), ?_⟩ | refine ⟨_, _, rfl, rfl, ?_⟩)
section
variable {P : Program} {w : World} {K : PySem.W.Frag} {mg : Str → Option Value} {base : Heap}

theorem doF_copy {ps : List Str} {wds : Str → Option Int} {l : PL.Ln} {st : RSt} (hw : l.w ∈ PL.Copying) : doF ps wds l st = { st with cells := lapC l.w (srcR ps l st.pl) (tgtR ps wds l st.pl) st.cells } := by
  unfold doF lapC
  by_cases c : l.w = "copy"
  · rw [if_pos c, if_pos c]
  rw [if_neg c, if_neg c]
  by_cases u : l.w = "up"
  · rw [if_pos u, if_pos u]
  rw [if_neg u, if_neg u]
  have d : l.w = "down" := by
    unfold PL.Copying at hw
    simp only [List.mem_cons, List.not_mem_nil, or_false] at hw
    rcases hw with h | h | h
    · exact absurd h c
    · exact absurd h u
    · exact h
  rw [if_pos d]
/-- laps of one deed -/
theorem rep_lap {ps : List Str} {wds : Str → Option Int} {l : PL.Ln} {st : RSt} {pls : List Int} (hw : l.w ∈ PL.Copying) (hp : st.pl = pls) (hl : st.log = []) : ∀ q, rep (runT ps wds (.deed l .nil)) q st =
    { st with cells := rep (lapC l.w (srcR ps l pls) (tgtR ps wds l pls)) q st.cells, log := if st.wt = true then List.replicate q (srcR ps l pls, tgtR ps wds l pls) else [] }
  | 0 => by
    show st = _
    rw [show (if st.wt = true then List.replicate 0 (srcR ps l pls, tgtR ps wds l pls) else []) = [] by split <;> rfl, ← hl]
    rfl
  | q + 1 => by
    show lineF ps wds l (rep (runT ps wds (.deed l .nil)) q st) = _
    rw [rep_lap hw hp hl q]
    unfold lineF
    rw [doF_copy hw]
    cases b : st.wt with
    | true =>
      rw [if_pos rfl, if_pos rfl, if_pos rfl]
      subst hp
      rw [show List.replicate (q + 1) (srcR ps l st.pl, tgtR ps wds l st.pl) = List.replicate q (srcR ps l st.pl, tgtR ps wds l st.pl) ++ [(srcR ps l st.pl, tgtR ps wds l st.pl)] from List.replicate_succ' ..]
      rfl
    | false =>
      rw [if_neg (by simp), if_neg (by simp), if_neg (by simp)]
      subst hp
      rfl
/-- the deed of the law's first program -/
def mvL (wd z z' : Str) (m k k' : Int) : PL.Ln := ⟨wd, [.num "many" m, .fix "from", .spot z k, .fix "to", .spot z' k']⟩
theorem mv_src {wd z z' : Str} {m k k' : Int} {ps : List Str} {pls : List Int} : srcR ps (mvL wd z z' m k k') pls = rowL (pls.getD (ps.idxOf z) 0) k m := rfl
theorem mv_tgt {wd z z' : Str} {m k k' : Int} {ps : List Str} {wds : Str → Option Int} {pls : List Int} : tgtR ps wds (mvL wd z z' m k k') pls = rowL (pls.getD (ps.idxOf z') 0) k' m := rfl
theorem row_at {z s : Int} {m : Int} : rowL z s m = (List.range m.toNat).map fun i => (z + s) + (i : Nat) := rfl
structure Prog1 (ps : List Str) (wds : Str → Option Int) (l : PL.Ln) (n : Int) (pls : List Int) (wt : Bool) (cs : Cells) (S T m : Int) : Prop where
  tok : (Tr.times n (.deed l .nil) .nil).Ok wds
  ok : okT ps wds (.times n (.deed l .nil) .nil) (st0 pls wt)
  cells : (runT ps wds (.times n (.deed l .nil) .nil) (st0 pls wt)).cells = cs
  log : wt = true → ∀ e, e ∈ (runT ps wds (.times n (.deed l .nil) .nil) (st0 pls wt)).log ↔ e = (rowL S 0 m, rowL T 0 m)
theorem row_0 (z s m : Int) : rowL z s m = rowL (z + s) 0 m := by
  unfold rowL
  rw [Int.add_zero]
theorem prog1 {ps : List Str} {wds : Str → Option Int} {wd z z' : Str} {m k k' n : Int} {pls : List Int} {wt : Bool} (hw : wd ∈ PL.Copying) (hz : z ∈ ps) (hz' : z' ∈ ps) (len : pls.length = ps.length) (m1 : 1 ≤ m) (m16 : m ≤ 16) (n1 : 1 ≤ n) (n5 : n ≤ 5) :
    Prog1 ps wds (mvL wd z z' m k k') n pls wt (rep (lapC wd ((List.range m.toNat).map fun i => (pls.getD (ps.idxOf z) 0 + k) + (i : Nat)) ((List.range m.toNat).map fun i => (pls.getD (ps.idxOf z') 0 + k') + (i : Nat))) n.toNat []) (pls.getD (ps.idxOf z) 0 + k) (pls.getD (ps.idxOf z') 0 + k') m := by
  have big : ∀ q, (rep (lapC wd ((List.range m.toNat).map fun i => (pls.getD (ps.idxOf z) 0 + k) + (i : Nat)) ((List.range m.toNat).map fun i => (pls.getD (ps.idxOf z') 0 + k') + (i : Nat))) q []).length ≤ 16 ∧ (0 < q → ∀ x, pls.getD (ps.idxOf z') 0 + k' ≤ x → x < pls.getD (ps.idxOf z') 0 + k' + m → x ∈ (rep (lapC wd ((List.range m.toNat).map fun i => (pls.getD (ps.idxOf z) 0 + k) + (i : Nat)) ((List.range m.toNat).map fun i => (pls.getD (ps.idxOf z') 0 + k') + (i : Nat))) q []).map (·.1)) := fun q => by
    have h := laps (S := pls.getD (ps.idxOf z) 0 + k) (a := pls.getD (ps.idxOf z') 0 + k' - (pls.getD (ps.idxOf z) 0 + k)) (m := m.toNat) hw q
    rw [show pls.getD (ps.idxOf z) 0 + k + (pls.getD (ps.idxOf z') 0 + k' - (pls.getD (ps.idxOf z) 0 + k)) = pls.getD (ps.idxOf z') 0 + k' by omega] at h
    have h2 := h.keys
    rw [show pls.getD (ps.idxOf z) 0 + k + (pls.getD (ps.idxOf z') 0 + k' - (pls.getD (ps.idxOf z) 0 + k)) = pls.getD (ps.idxOf z') 0 + k' by omega] at h2
    exact ⟨by have := h.len; omega, fun q0 x a b => (h2 x).mpr ⟨q0, a, by omega⟩⟩
  have rp := fun q => rep_lap (ps := ps) (wds := wds) (l := mvL wd z z' m k k') (st := st0 pls wt) (pls := pls) hw rfl rfl q
  refine ⟨⟨⟨n1, n5⟩, ⟨.copy hw, trivial⟩, trivial⟩, ⟨fun q hq => ⟨?_, trivial⟩, trivial⟩, ?_, fun hwt e => ?_⟩
  · rw [rp q]
    refine ⟨⟨.copy hw, fun p hp => ?_, fun p hp => ?_, ?_, Nat.zero_le _, fun e => ?_, fun x ns e => ?_⟩, fun e => ⟨fun x hx => ?_, ?_, ?_⟩⟩
    · cases hp
      exact ⟨by show ps.idxOf z < pls.length; rw [len]; exact List.idxOf_lt_length_iff.mpr hz, by show m.toNat ≤ 1000; omega⟩
    · cases hp
      exact ⟨by show ps.idxOf z' < pls.length; rw [len]; exact List.idxOf_lt_length_iff.mpr hz', by show m.toNat ≤ 1000; omega⟩
    · exact Nat.le_trans (big q).1 (by decide)
    · change wd = "store" at e
      subst e
      exact absurd hw (by decide +kernel)
    · have := congrArg PL.Ln.w e
      change wd = "set" at this
      subst this
      exact absurd hw (by decide +kernel)
    · rw [doF_copy hw]
      obtain ⟨i, hi, rfl⟩ := List.mem_map.mp hx
      have hi' : i < m.toNat := List.mem_range.mp hi
      obtain ⟨c, e, _⟩ := look_mem ((big (q + 1)).2 (Nat.succ_pos _) (pls.getD (ps.idxOf z') 0 + k' + (i : Nat)) (by omega) (by omega))
      exact ⟨c, e⟩
    · show (rowL _ _ m).length ≤ 1000
      rw [rowL_len]
      omega
    · show (if (st0 pls wt).wt = true then List.replicate q _ else []).length ≤ 900000
      cases wt with
      | true =>
        show (List.replicate q _).length ≤ 900000
        rw [List.length_replicate]
        omega
      | false => exact Nat.zero_le _
  · show (rep (runT ps wds (.deed (mvL wd z z' m k k') .nil)) n.toNat (st0 pls wt)).cells = _
    rw [rp]
    rfl
  · show e ∈ (rep (runT ps wds (.deed (mvL wd z z' m k k') .nil)) n.toNat (st0 pls wt)).log ↔ _
    rw [rp]
    show e ∈ (if (st0 pls wt).wt = true then List.replicate n.toNat _ else []) ↔ _
    rw [if_pos (show (st0 pls wt).wt = true from hwt), List.mem_replicate]
    rw [mv_src, mv_tgt, row_0, row_0 _ k']
    exact ⟨fun z => z.2, fun z => ⟨by omega, z⟩⟩
/-! a register stored, and copied on -/
def setL (x : Str) (ns : List Int) : PL.Ln := ⟨"set", .name x :: ns.map (.num "cell")⟩
def storeL (x z : Str) (k : Int) : PL.Ln := ⟨"store", [.name x, .spot z k]⟩
def prog2 (x z wd : Str) (ns : List Int) (k m s t : Int) : Tr := .deed (setL x ns) (.deed (storeL x z k) (.deed (mvL wd z z m s t) .nil))
def stH (B : Int) (h : Str → Option (List Cont)) (cs : Cells) : RSt := ⟨[B], [B], cs, h, 1, false, []⟩
/-- what stands in the j-th cell of a register written again and again -/
def ring (ns : List Int) (j : Int) : Cont := .tx ("#" ++ CF.num (ns.getD (j % ns.length).toNat 0))
theorem ring_on {ns : List Int} (j : Int) : ring ns (j + ns.length) = ring ns j := by
  unfold ring
  rw [Int.add_emod_right]
theorem ring_at {ns : List Int} {j : Nat} (h : j < ns.length) : ring ns j = .tx ("#" ++ CF.num (ns.getD j 0)) := by
  unfold ring
  rw [Int.emod_eq_of_lt (by omega) (by omega)]
  rfl
structure Prog2 (ps : List Str) (wds : Str → Option Int) (t : Tr) (pls : List Int) (lo hi B : Int) (ns : List Int) : Prop where
  tok : t.Ok wds
  ok : okT ps wds t (st0 pls false)
  nd : NdC (runT ps wds t (st0 pls false)).cells
  val : ∀ j, lo ≤ j → j < hi → getC (runT ps wds t (st0 pls false)).cells (B + j) = ring ns j
  out : ∀ n, ¬ (B + lo ≤ n ∧ n < B + hi) → getC (runT ps wds t (st0 pls false)).cells n = .at_ n
  keys : ∀ n, n ∈ (runT ps wds t (st0 pls false)).cells.map (·.1) ↔ B + lo ≤ n ∧ n < B + hi
theorem stored {B : Int} {ns : List Int} : let cs := putAll [] ((rowL B 0 ns.length).zip (ns.map fun n => Cont.tx ("#" ++ CF.num n)))
    NdC cs ∧ (∀ j : Int, 0 ≤ j → j < ns.length → getC cs (B + j) = ring ns j) ∧ (∀ n, ¬ (B ≤ n ∧ n < B + ns.length) → getC cs n = .at_ n) ∧ ∀ n, n ∈ cs.map (·.1) ↔ B ≤ n ∧ n < B + ns.length := by
  have e : (rowL B 0 ns.length).zip (ns.map fun n => Cont.tx ("#" ++ CF.num n)) = (List.range ns.length).map fun i => (B + ((i : Nat) : Int), ring ns (i : Nat)) := by
    unfold rowL
    apply List.ext_getElem
    · rw [List.length_zip, List.length_map, List.length_map, List.length_map, List.length_range, List.length_range]
      omega
    · intro i h1 h2
      rw [List.length_map, List.length_range] at h2
      rw [List.getElem_zip, List.getElem_map, List.getElem_map, List.getElem_map, List.getElem_range, List.getElem_range, ring_at h2, List.getD, List.getElem?_eq_getElem h2]
      simp [Int.add_zero]
  intro cs
  have ecs : cs = putAll [] ((List.range ns.length).map fun i => (B + ((i : Nat) : Int), ring ns (i : Nat))) := congrArg _ e
  obtain ⟨h1, h2⟩ := putR (cs := []) (t := fun i => B + ((i : Nat) : Int)) (c := fun i => ring ns (i : Nat)) (m := ns.length) (fun i j _ _ z => by omega)
  rw [ecs]
  refine ⟨nd_putAll List.nodup_nil, fun j j0 j1 => ?_, fun n hn => ?_, fun n => ?_⟩
  · have z := h1 j.toNat (by omega)
    rwa [show ((j.toNat : Nat) : Int) = j by omega] at z
  · rw [h2 n fun j hj z => hn (by omega)]
    rfl
  · rw [keys_putAll, List.map_map]
    constructor
    · rintro (h | h)
      · cases h
      · obtain ⟨i, hi, rfl⟩ := List.mem_map.mp h
        have := List.mem_range.mp hi
        show B ≤ B + ((i : Nat) : Int) ∧ B + ((i : Nat) : Int) < _
        omega
    · intro h
      exact .inr (List.mem_map.mpr ⟨(n - B).toNat, List.mem_range.mpr (by omega), by show B + (((n - B).toNat : Nat) : Int) = n; omega⟩)
theorem run2 {x z wd : Str} {ns : List Int} {k m s t B : Int} {wds : Str → Option Int} (hwd : wd = "up" ∨ wd = "down") (hx : wds x = some (ns.length : Nat)) (n1 : 1 ≤ ns.length) (n8 : ns.length ≤ 8) (hn : ∀ n ∈ ns, -100 ≤ n ∧ n ≤ 300) (m1 : 1 ≤ m) (m16 : m ≤ 16)
    (hs : (wd = "up" ∧ s = k ∧ t = k + ns.length) ∨ (wd = "down" ∧ s = k + ns.length - m ∧ t = k - m)) :
    Prog2 [z] wds (prog2 x z wd ns k m s t) [B] (if wd = "up" then 0 else -m) ((if wd = "up" then 0 else -m) + ns.length + m) (B + k) ns := by
  have up_dn : ("up" : Str) ≠ "down" := by decide +kernel
  have hw : wd ∈ PL.Copying := by rcases hwd with rfl | rfl <;> decide +kernel
  have iz : ([z] : List Str).idxOf z = 0 := by rw [List.idxOf_cons_self]
  have pl0 : ([B] : List Int).getD (([z] : List Str).idxOf z) 0 = B := by rw [iz]; rfl
  have nums : numsOf (setL x ns) = ns.map fun n => Cont.tx ("#" ++ CF.num n) := by
    unfold numsOf setL
    rw [List.tail_cons, List.map_map]
    rfl
  have e1 : lineF [z] wds (setL x ns) (st0 [B] false) = stH B (fun y => if y = x then some (ns.map fun n => Cont.tx ("#" ++ CF.num n)) else none) [] := by
    rw [← nums]
    rfl
  have tg : tgtR [z] wds (storeL x z k) [B] = rowL (B + k) 0 ns.length := by
    have : tgtOf [z] wds (storeL x z k) = some (([z] : List Str).idxOf z, k, ((ns.length : Nat) : Int)) := by
      show (wds x).map _ = _
      rw [hx]
      rfl
    unfold tgtR
    rw [this]
    show rowL (([B] : List Int).getD (([z] : List Str).idxOf z) 0) k ns.length = _
    rw [pl0, row_0]
  have e2 : lineF [z] wds (storeL x z k) (stH B (fun y => if y = x then some (ns.map fun n => Cont.tx ("#" ++ CF.num n)) else none) []) = stH B (fun y => if y = x then some (ns.map fun n => Cont.tx ("#" ++ CF.num n)) else none) (putAll [] ((rowL (B + k) 0 ns.length).zip (ns.map fun n => Cont.tx ("#" ++ CF.num n)))) := by
    rw [← tg]
    show stH B (fun y => if y = x then some (ns.map fun n => Cont.tx ("#" ++ CF.num n)) else none) (putAll [] ((tgtR [z] wds (storeL x z k) [B]).zip ((if x = x then some (ns.map fun n => Cont.tx ("#" ++ CF.num n)) else none).getD []))) = _
    rw [if_pos rfl]
    rfl
  obtain ⟨s1, s2, s3, s4⟩ := stored (B := B + k) (ns := ns)
  generalize hcs : putAll [] ((rowL (B + k) 0 ns.length).zip (ns.map fun n => Cont.tx ("#" ++ CF.num n))) = cs at *
  have e3 : runT [z] wds (prog2 x z wd ns k m s t) (st0 [B] false) = stH B (fun y => if y = x then some (ns.map fun n => Cont.tx ("#" ++ CF.num n)) else none) (lapC wd ((List.range m.toNat).map fun i => (B + s) + (i : Nat)) ((List.range m.toNat).map fun i => (B + t) + (i : Nat)) cs) := by
    show lineF [z] wds (mvL wd z z m s t) (lineF [z] wds (storeL x z k) (lineF [z] wds (setL x ns) (st0 [B] false))) = _
    rw [e1, e2]
    unfold lineF
    rw [if_neg (show ¬ (stH B (fun y => if y = x then some (ns.map fun n => Cont.tx ("#" ++ CF.num n)) else none) cs).wt = true from fun z => nomatch z), doF_copy hw, mv_src, mv_tgt]
    show stH B (fun y => if y = x then some (ns.map fun n => Cont.tx ("#" ++ CF.num n)) else none) (lapC wd (rowL (([B] : List Int).getD (([z] : List Str).idxOf z) 0) s m) (rowL (([B] : List Int).getD (([z] : List Str).idxOf z) 0) t m) cs) = _
    rw [pl0]
    rfl
  have lenc : cs.length ≤ 8 := by
    have z := nd_len (A := rowL (B + k) 0 ns.length) s1 (fun n hn => by
      obtain ⟨h1, h2⟩ := (s4 n).mp hn
      exact List.mem_map.mpr ⟨(n - (B + k)).toNat, List.mem_range.mpr (by omega), by omega⟩)
    rw [List.length_map, rowL_len] at z
    omega
  obtain ⟨v1, v2⟩ := lap_val (wd := wd) (S := B + s) (T := B + t) (m := m.toNat) (cs := cs) (G := fun i => if wd = "up" then ring ns (i + ns.length) else ring ns (i - m)) hw (fun i i0 i1 => by
    rcases hs with ⟨rfl, rfl, rfl⟩ | ⟨rfl, rfl, rfl⟩
    · rw [if_pos rfl, if_pos rfl]
      by_cases c : (ns.length : Int) ≤ i
      · refine .inl ⟨rfl, by omega, by omega, ?_⟩
        rw [show i - (B + (s + ns.length) - (B + s)) + (ns.length : Int) = i by omega, ring_on]
      · refine .inr (.inr ⟨fun z => c (by omega), fun z => up_dn z.1, ?_⟩)
        rw [ring_on, ← s2 i i0 (by omega)]
    · rw [if_neg (fun z => up_dn z.symm), if_neg (fun z => up_dn z.symm)]
      by_cases c : i + ns.length < m
      · refine .inr (.inl ⟨rfl, by omega, by omega, ?_⟩)
        rw [show i - (B + (k - m) - (B + (k + ns.length - m))) - m = (i - m) + (ns.length : Int) by omega, ring_on]
      · refine .inr (.inr ⟨fun z => up_dn z.1.symm, fun z => c (by omega), ?_⟩)
        rw [← ring_on, show B + (k + ns.length - m) + i = B + k + (i - m + ns.length) by omega, s2 _ (by omega) (by omega)])
  refine ⟨⟨.set n1 n8, .store hx, .copy hw, trivial⟩, ⟨⟨⟨.set n1 n8, ?_, ?_, Nat.zero_le _, Nat.zero_le _, fun e => ?_, fun x' ns' e => ?_⟩, fun e => nomatch e⟩, ?_⟩, ?_, ?_, ?_, ?_⟩
  · intro p hp
    rw [show srcOf [z] (setL x ns) = none from src_set n1] at hp
    cases hp
  · intro p hp
    rw [show tgtOf [z] wds (setL x ns) = none from tgt_set n1] at hp
    cases hp
  · exact absurd (show ("set" : Str) = "store" from e) (by decide +kernel)
  · have e' := List.cons.inj (congrArg PL.Ln.ds e)
    have : ns = ns' := by
      have z := congrArg (List.map fun d => match d with | PL.Wd.num _ n => n | _ => 0) e'.2
      rw [List.map_map, List.map_map] at z
      have id1 : ∀ l : List Int, l.map ((fun d => match d with | PL.Wd.num _ n => n | _ => 0) ∘ PL.Wd.num "cell") = l := fun l => by
        conv => rhs; rw [← List.map_id l]
        rfl
      rwa [id1, id1] at z
    exact this ▸ hn
  · rw [e1]
    refine ⟨⟨⟨.store hx, ?_, ?_, Nat.zero_le _, (by show 1 ≤ 1000; decide), fun _ => ⟨_, if_pos rfl⟩, fun x' ns' e => ?_⟩, fun e => nomatch e⟩, ?_⟩
    · intro p hp
      cases hp
    · intro p hp
      have : tgtOf [z] wds (storeL x z k) = some (([z] : List Str).idxOf z, k, ((ns.length : Nat) : Int)) := by
        show (wds x).map _ = _
        rw [hx]
        rfl
      rw [this] at hp
      cases hp
      exact ⟨by show ([z] : List Str).idxOf z < 1; rw [iz]; decide, by show (ns.length : Int).toNat ≤ 1000; omega⟩
    · exact absurd (show ("store" : Str) = "set" from congrArg PL.Ln.w e) (by decide +kernel)
    · rw [e2]
      refine ⟨⟨⟨.copy hw, fun p hp => ?_, fun p hp => ?_, ?_, (by show 1 ≤ 1000; decide), fun e => ?_, fun x ns e => ?_⟩, fun e => nomatch e⟩, trivial⟩
      · cases hp
        exact ⟨by show ([z] : List Str).idxOf z < 1; rw [iz]; decide, by show m.toNat ≤ 1000; omega⟩
      · cases hp
        exact ⟨by show ([z] : List Str).idxOf z < 1; rw [iz]; decide, by show m.toNat ≤ 1000; omega⟩
      · exact Nat.le_trans lenc (by decide)
      · change wd = "store" at e
        subst e
        exact absurd hw (by decide +kernel)
      · have := congrArg PL.Ln.w e
        change wd = "set" at this
        subst this
        exact absurd hw (by decide +kernel)
  · rw [e3]
    exact lap_nd s1
  · intro j j0 j1
    rw [e3]
    show getC (lapC wd _ _ cs) _ = _
    rcases hs with ⟨rfl, rfl, rfl⟩ | ⟨rfl, rfl, rfl⟩
    · rw [if_pos rfl] at j0 j1
      by_cases c : (ns.length : Int) ≤ j
      · have z := v1 (j - ns.length) (by omega) (by omega)
        rw [if_pos rfl, show j - (ns.length : Int) + ns.length = j by omega, show B + (s + ns.length) + (j - (ns.length : Int)) = B + s + j by omega] at z
        exact z
      · rw [v2 _ (by omega)]
        exact s2 j j0 (by omega)
    · rw [if_neg (fun z => up_dn z.symm)] at j0 j1
      by_cases c : 0 ≤ j
      · rw [v2 _ (by omega)]
        exact s2 j c (by omega)
      · have z := v1 (j + m) (by omega) (by omega)
        rw [if_neg (fun z => up_dn z.symm), show j + m - m = j by omega, show B + (k - m) + (j + m) = B + k + j by omega] at z
        exact z
  · intro n hn'
    rw [e3]
    show getC (lapC wd _ _ cs) _ = _
    rcases hs with ⟨rfl, rfl, rfl⟩ | ⟨rfl, rfl, rfl⟩
    · rw [if_pos rfl] at hn'
      rw [v2 _ (by omega), s3 _ (by omega)]
    · rw [if_neg (fun z => up_dn z.symm)] at hn'
      rw [v2 _ (by omega), s3 _ (by omega)]
  · intro n
    rw [e3]
    show n ∈ (lapC wd _ _ cs).map (·.1) ↔ _
    rw [lap_keys, s4]
    rcases hs with ⟨rfl, rfl, rfl⟩ | ⟨rfl, rfl, rfl⟩
    · rw [if_pos rfl]
      omega
    · rw [if_neg (fun z => up_dn z.symm)]
      omega
end
end K19
end
section
set_option Elab.async false
set_option linter.all false
set_option maxRecDepth 100000
set_option maxHeartbeats 4000000
namespace K19
open PySem PySem.Spec PyProof.Rows L2
open PySem.W (ke_shaped_ints)
local macro_rules | `(tactic| walk_at "go") => `(tactic| first | refine ⟨_, rfl, ?_⟩ | refine .inl ⟨_, rfl, ?_⟩ | refine ⟨_, _, rfl, rfl, (by first | (show (0 : Int) < _; decide) | exact Or.inl ⟨by decide, by decide⟩ | exact Or.inr ⟨by decide, by decide⟩), ?_⟩ | refine ⟨_, _, rfl, rfl, ?_⟩)
section
variable {P : Program} {w : World} {K : PySem.W.Frag} {mg : Str → Option Value} {base : Heap}

def prog1T (wd z z' : Str) (m k k' n : Int) : Tr := .times n (.deed (mvL wd z z' m k k') .nil) .nil
theorem joinL_cons (S a : List Nat) (b : List Nat) (r : List (List Nat)) : TL.joinL S (a :: b :: r) = a ++ (S ++ TL.joinL S (b :: r)) := by
  first | rfl | simp [TL.joinL]
theorem joinL_one (S a : List Nat) : TL.joinL S [a] = a := by
  first | rfl | simp [TL.joinL]
theorem join_c (y a b : Str) (r : List Str) : Txt.join y (a :: b :: r) = a ++ (y ++ Txt.join y (b :: r)) := by
  apply TL.ext_tl
  rw [TL.tl_append, TL.tl_append, TL.join_eq, TL.tl_join, TL.join_eq, TL.tl_join]
  exact joinL_cons _ _ _ _
theorem join_1 (y a : Str) : Txt.join y [a] = a := by
  apply TL.ext_tl
  rw [TL.join_eq, TL.tl_join]
  exact joinL_one _ _
theorem app_assoc (a b c : Str) : (a ++ b) ++ c = a ++ (b ++ c) := by
  apply TL.ext_tl
  simp only [TL.tl_append, List.append_assoc]
theorem text1 (wd z z' : Str) (m k k' n : Int) : ((("times " : Str) ++ CF.num n) ++ ("\n" : Str) ++ Txt.join " " [wd, CF.num m, "from", CF.spot z k, "to", CF.spot z' k']) ++ ("\nend" : Str) = textOf (prog1T wd z z' m k k' n).lines := by
  have e1 : ("times " : Str) = ("times" : Str) ++ (" " : Str) := by decide +kernel
  have e2 : ("\nend" : Str) = ("\n" : Str) ++ ("end" : Str) := by decide +kernel
  show _ = Txt.join "\n" [Txt.join " " ["times", CF.num n], Txt.join " " [wd, CF.num m, "from", CF.spot z k, "to", CF.spot z' k'], Txt.join " " ["end"]]
  rw [join_c "\n", join_c "\n", join_1 "\n", join_1 " " "end", join_c " " "times", join_1 " " (CF.num n), e1, e2]
  simp only [app_assoc]
theorem text2 (z wd : Str) (ns : List Int) (k m s t : Int) (n1 : ns ≠ []) : Txt.join "\n" [("set x " : Str) ++ Txt.join " " (ns.map CF.num), ("store x " : Str) ++ CF.spot z k, Txt.join " " [wd, CF.num m, "from", CF.spot z s, "to", CF.spot z t]] = textOf (prog2 "x" z wd ns k m s t).lines := by
  have e1 : ("set x " : Str) = ("set" : Str) ++ ((" " : Str) ++ (("x" : Str) ++ (" " : Str))) := by decide +kernel
  have e2 : ("store x " : Str) = ("store" : Str) ++ ((" " : Str) ++ (("x" : Str) ++ (" " : Str))) := by decide +kernel
  obtain ⟨a, r, rfl⟩ := List.exists_cons_of_ne_nil n1
  have e3 : (setL "x" (a :: r)).text = ("set x " : Str) ++ Txt.join " " ((a :: r).map CF.num) := by
    show Txt.join " " ("set" :: "x" :: CF.num a :: (r.map (PL.Wd.num "cell")).map PL.Wd.text) = _
    have : (r.map (PL.Wd.num "cell")).map PL.Wd.text = r.map CF.num := by rw [List.map_map]; rfl
    rw [this, join_c, join_c, e1]
    simp only [app_assoc]
    rfl
  have e4 : (storeL "x" z k).text = ("store x " : Str) ++ CF.spot z k := by
    show Txt.join " " ["store", "x", CF.spot z k] = _
    rw [join_c, join_c, join_1, e2]
    simp only [app_assoc]
  show _ = Txt.join "\n" [(setL "x" (a :: r)).text, (storeL "x" z k).text, Txt.join " " [wd, CF.num m, "from", CF.spot z s, "to", CF.spot z t]]
  rw [e3, e4]
theorem mv_ok {ps : List Str} {wd z z' : Str} {m k k' : Int} (hw : wd ∈ PL.Copying) (hz : z ∈ ps) (hz' : z' ∈ ps) (m1 : 1 ≤ m) (m16 : m ≤ 16) (k0 : -30 ≤ k) (k1 : k ≤ 30) (l0 : -30 ≤ k') (l1 : k' ≤ 30) : (mvL wd z z' m k k').Ok ps := by
  refine ⟨?_, fun d hd => ?_⟩
  · have e : Txt.words "many from spot to spot" = (["many", "from", "spot", "to", "spot"] : List Str) := by decide +kernel
    show PL.Kinds wd ["many", "from", "spot", "to", "spot"]
    rw [← e]
    refine .form ?_
    unfold PL.Copying at hw
    simp only [List.mem_cons, List.not_mem_nil, or_false] at hw
    rcases hw with rfl | rfl | rfl <;> decide +kernel
  · unfold mvL at hd
    simp only [List.mem_cons, List.not_mem_nil, or_false] at hd
    rcases hd with rfl | rfl | rfl | rfl | rfl
    · exact ⟨by omega, by omega, ⟨1, 16, by decide +kernel, m1, m16⟩, fun e => absurd e (by decide +kernel)⟩
    · show ("from" : Str) ∈ PL.Fixed; decide +kernel
    · exact ⟨hz, k0, k1⟩
    · show ("to" : Str) ∈ PL.Fixed; decide +kernel
    · exact ⟨hz', l0, l1⟩
theorem mv_none {wd z z' : Str} {m k k' : Int} (hw : wd ∈ PL.Copying) : setOf (mvL wd z z' m k k') = none := by
  unfold PL.Copying at hw
  simp only [List.mem_cons, List.not_mem_nil, or_false] at hw
  show (if wd = "input" then _ else if wd = "set" then _ else none) = none
  rw [if_neg (show ¬ wd = "input" by rcases hw with rfl | rfl | rfl <;> decide +kernel), if_neg (show ¬ wd = "set" by rcases hw with rfl | rfl | rfl <;> decide +kernel)]
theorem mv_else {wd : Str} (hw : wd ∈ PL.Copying) : wd ≠ "else" := by
  unfold PL.Copying at hw
  simp only [List.mem_cons, List.not_mem_nil, or_false] at hw
  rcases hw with rfl | rfl | rfl <;> decide +kernel
def noW : Str → Option Int := fun _ => none
theorem lines1 {ps : List Str} {wd z z' : Str} {m k k' n : Int} (hw : wd ∈ PL.Copying) (hz : z ∈ ps) (hz' : z' ∈ ps) (m1 : 1 ≤ m) (m16 : m ≤ 16) (k0 : -30 ≤ k) (k1 : k ≤ 30) (l0 : -30 ≤ k') (l1 : k' ≤ 30) (n1 : 1 ≤ n) (n5 : n ≤ 5) :
    LinesOk ps (prog1T wd z z' m k k' n).lines noW := by
  refine ⟨fun l hl => ?_, by show 3 ≤ 40; decide, fun l hl => ?_, ?_, ?_⟩
  · have hl' : l ∈ [(⟨"times", [.num "laps" n]⟩ : PL.Ln), mvL wd z z' m k k', ⟨"end", []⟩] := hl
    simp only [List.mem_cons, List.not_mem_nil, or_false] at hl'
    rcases hl' with rfl | rfl | rfl
    · refine ⟨?_, fun d hd => ?_⟩
      · have e : Txt.words "laps" = (["laps"] : List Str) := by decide +kernel
        show PL.Kinds "times" ["laps"]
        rw [← e]
        exact .form (by decide +kernel)
      · rw [List.mem_singleton.mp hd]
        exact ⟨by omega, by omega, ⟨1, 5, by decide +kernel, n1, n5⟩, fun e => absurd e (by decide +kernel)⟩
    · exact mv_ok hw hz hz' m1 m16 k0 k1 l0 l1
    · refine ⟨?_, fun d hd => by cases hd⟩
      have e : Txt.words "" = ([] : List Str) := by decide +kernel
      show PL.Kinds "end" []
      rw [← e]
      exact .form (by decide +kernel)
  · have hl' : l ∈ [(⟨"times", [.num "laps" n]⟩ : PL.Ln), mvL wd z z' m k k', ⟨"end", []⟩] := hl
    simp only [List.mem_cons, List.not_mem_nil, or_false] at hl'
    rcases hl' with rfl | rfl | rfl
    · show ("times" : Str) ≠ "else"; decide +kernel
    · exact mv_else hw
    · show ("end" : Str) ≠ "else"; decide +kernel
  · show PL.placed ["times", wd, "end"] "input" [] = some []
    unfold PL.Copying at hw
    simp only [List.mem_cons, List.not_mem_nil, or_false] at hw
    rcases hw with rfl | rfl | rfl <;> decide +kernel
  · refine .inl ⟨n, rfl, .inr (.inr ⟨.copy hw, ?_⟩)⟩
    rw [show setOf _ = none from mv_none (z := z) (z' := z') (m := m) (k := k) (k' := k') hw]
    exact .inr (.inl ⟨rfl, 0, rfl, rfl⟩)
def xW (n : Nat) : Str → Option Int := fun y => if y = "x" then some (n : Int) else none
theorem lines2 {wd z : Str} {ns : List Int} {m k s t : Int} (hw : wd ∈ PL.Copying) (m1 : 1 ≤ m) (m16 : m ≤ 16) (k0 : -30 ≤ k) (k1 : k ≤ 30) (s0 : -30 ≤ s) (s1 : s ≤ 30) (l0 : -30 ≤ t) (l1 : t ≤ 30) (n1 : 1 ≤ ns.length) (n8 : ns.length ≤ 8) (hn : ∀ n ∈ ns, 0 ≤ n ∧ n ≤ 255) :
    LinesOk [z] (prog2 "x" z wd ns k m s t).lines (xW ns.length) := by
  have mz : z ∈ [z] := List.mem_cons_self
  have okx : CF.NameOk "x" := ⟨by decide +kernel, by decide +kernel, by decide +kernel, by decide +kernel⟩
  refine ⟨fun l hl => ?_, by show 3 ≤ 40; decide, fun l hl => ?_, ?_, ?_⟩
  · have hl' : l ∈ [setL "x" ns, storeL "x" z k, mvL wd z z m s t] := hl
    simp only [List.mem_cons, List.not_mem_nil, or_false] at hl'
    rcases hl' with rfl | rfl | rfl
    · refine ⟨?_, fun d hd => ?_⟩
      · have e : ((setL "x" ns).ds.map PL.Wd.kind) = ("name" : Str) :: List.replicate ns.length "cell" := by
          show ("name" : Str) :: (ns.map (PL.Wd.num "cell")).map PL.Wd.kind = _
          congr 1
          rw [List.map_map]
          exact List.map_eq_replicate_iff.mpr fun x _ => rfl
        rw [e]
        exact .set _ n1 n8
      · have hd' : d ∈ PL.Wd.name "x" :: ns.map (.num "cell") := hd
        rcases List.mem_cons.mp hd' with rfl | h
        · exact okx
        · obtain ⟨n, hn', rfl⟩ := List.mem_map.mp h
          have := hn n hn'
          exact ⟨by omega, by omega, ⟨0, 255, by decide +kernel, this.1, this.2⟩, fun e => absurd e (by decide +kernel)⟩
    · refine ⟨?_, fun d hd => ?_⟩
      · have e : Txt.words "name spot" = (["name", "spot"] : List Str) := by decide +kernel
        show PL.Kinds "store" ["name", "spot"]
        rw [← e]
        exact .form (by decide +kernel)
      · have hd' : d ∈ [PL.Wd.name "x", .spot z k] := hd
        simp only [List.mem_cons, List.not_mem_nil, or_false] at hd'
        rcases hd' with rfl | rfl
        · exact okx
        · exact ⟨mz, k0, k1⟩
    · exact mv_ok hw mz mz m1 m16 s0 s1 l0 l1
  · have hl' : l ∈ [setL "x" ns, storeL "x" z k, mvL wd z z m s t] := hl
    simp only [List.mem_cons, List.not_mem_nil, or_false] at hl'
    rcases hl' with rfl | rfl | rfl
    · show ("set" : Str) ≠ "else"; decide +kernel
    · show ("store" : Str) ≠ "else"; decide +kernel
    · exact mv_else hw
  · show PL.placed ["set", "store", wd] "input" [] = some []
    unfold PL.Copying at hw
    simp only [List.mem_cons, List.not_mem_nil, or_false] at hw
    rcases hw with rfl | rfl | rfl <;> decide +kernel
  · have e1 : setOf (setL "x" ns) = some (("x" : Str), ((ns.length : Nat) : Int)) := by
      show some (("x" : Str), (((ns.map (PL.Wd.num "cell")).length : Nat) : Int)) = _
      rw [List.length_map]
    have e2 : setOf (storeL "x" z k) = none := rfl
    refine .inr (.inr ⟨.set n8 (fun n e => nomatch e), ?_⟩)
    rw [show setOf _ = _ from e1]
    refine .inr (.inr ⟨.store (if_pos rfl), ?_⟩)
    rw [show setOf _ = _ from e2]
    refine .inr (.inr ⟨.copy hw, ?_⟩)
    rw [show setOf _ = none from mv_none (z := z) (z' := z) (m := m) (k := s) (k' := t) hw]
    rfl
end
end K19
end
section
set_option Elab.async false
set_option linter.all false
set_option maxRecDepth 100000
set_option maxHeartbeats 4000000
namespace K19
open PySem PySem.Spec PyProof.Rows L2
open PySem.W (ke_shaped_ints)
local macro_rules | `(tactic| walk_at "go") => `(tactic| first | refine ⟨_, rfl, ?_⟩ | refine .inl ⟨_, rfl, ?_⟩ | refine ⟨_, _, rfl, rfl, (by first | (show (0 : Int) < _; decide) | exact Or.inl ⟨by decide, by decide⟩ | exact Or.inr ⟨by decide, by decide⟩), ?_⟩ | refine ⟨_, _, rfl, rfl, ?_⟩)
section
variable {P : Program} {w : World} {K : PySem.W.Frag} {mg : Str → Option Value} {base : Heap}

theorem ifc {α : Sort _} {p q : Prop} [Decidable p] [Decidable q] (h : p ↔ q) (x y : α) : (if p then x else y) = if q then x else y := by
  by_cases c : p
  · rw [if_pos c, if_pos (h.mp c)]
  · rw [if_neg c, if_neg (fun z => c (h.mpr z))]
def srcK (wd : Str) (S a m n k : Int) : Int := S + (k - per wd a m n k * a)
/-- the dict that the law builds -/
def dueF (wd : Str) (S a m n : Int) : Nat → Cells
  | 0 => []
  | i + 1 => if srcK wd S a m n (i : Nat) ≠ S + a + (i : Nat) then putC (dueF wd S a m n i) (S + a + (i : Nat)) (.tx ("@" ++ CF.num (srcK wd S a m n (i : Nat)))) else dueF wd S a m n i
theorem due_nd {wd : Str} {S a m n : Int} : ∀ i, NdC (dueF wd S a m n i)
  | 0 => List.nodup_nil
  | i + 1 => by
    unfold dueF
    split
    · exact nd_put (due_nd i) _ _
    · exact due_nd i
theorem due_len {wd : Str} {S a m n : Int} : ∀ i, (dueF wd S a m n i).length ≤ i
  | 0 => Nat.le_refl _
  | i + 1 => by
    have h := due_len (wd := wd) (S := S) (a := a) (m := m) (n := n) i
    unfold dueF
    split
    · have := put_len (dueF wd S a m n i) (S + a + (i : Nat)) (.tx ("@" ++ CF.num (srcK wd S a m n (i : Nat))))
      omega
    · omega
theorem due_look {wd : Str} {S a m n x : Int} : ∀ i : Nat, lookC (dueF wd S a m n i) x = if S + a ≤ x ∧ x < S + a + i ∧ srcK wd S a m n (x - (S + a)) ≠ x then some (.tx ("@" ++ CF.num (srcK wd S a m n (x - (S + a))))) else none
  | 0 => by
    rw [if_neg (by omega)]
    rfl
  | i + 1 => by
    unfold dueF
    by_cases e : x = S + a + (i : Nat)
    · subst e
      rw [show S + a + (i : Nat) - (S + a) = (i : Nat) by omega]
      by_cases c : srcK wd S a m n (i : Nat) ≠ S + a + (i : Nat)
      · rw [if_pos c, look_put, if_pos rfl, if_pos ⟨by omega, by omega, c⟩]
      · rw [if_neg c, due_look i, if_neg (by omega), if_neg (fun z => c z.2.2)]
    · have r : (S + a ≤ x ∧ x < S + a + ((i + 1 : Nat) : Int) ∧ srcK wd S a m n (x - (S + a)) ≠ x) ↔ (S + a ≤ x ∧ x < S + a + (i : Nat) ∧ srcK wd S a m n (x - (S + a)) ≠ x) :=
        ⟨fun ⟨p, q, r⟩ => ⟨p, by omega, r⟩, fun ⟨p, q, r⟩ => ⟨p, by omega, r⟩⟩
      have ih := due_look (wd := wd) (S := S) (a := a) (m := m) (n := n) (x := x) i
      split
      · rw [look_put, if_neg e, ih]
        exact ifc r.symm _ _
      · rw [ih]
        exact ifc r.symm _ _
theorem due_is {wd : Str} {S a m n : Int} {cs res : Cells} (m1 : 1 ≤ m) (n1 : 1 ≤ n) (h : Laps wd S a m.toNat n.toNat cs) (t : Tells res (chg cs)) : ∀ x, lookC res x = lookC (dueF wd S a m n m.toNat) x := by
  intro x
  have hm : ((m.toNat : Nat) : Int) = m := by omega
  have hn : ((n.toNat : Nat) : Int) = n := by omega
  have hv := h.val
  have ho := h.out
  rw [hm] at hv ho
  rw [hn] at hv
  rw [t.2 x, look_chg h.nd, due_look, hm]
  by_cases c : S + a ≤ x ∧ x < S + a + m
  · have z := hv (x - (S + a)) (by omega) (by omega)
    rw [show S + a + (x - (S + a)) = x by omega, show S + (x - (S + a)) - per wd a m n (x - (S + a)) * a = srcK wd S a m n (x - (S + a)) by unfold srcK; omega] at z
    rw [z]
    by_cases e : srcK wd S a m n (x - (S + a)) = x
    · rw [if_pos (by rw [e]), if_neg (fun y => y.2.2 e)]
      rfl
    · rw [if_neg (fun y => e (Cont.at_.inj y)), if_pos ⟨c.1, c.2, e⟩]
      rfl
  · rw [ho x c, if_pos rfl, if_neg (fun y => c ⟨y.1, y.2.1⟩)]
    rfl
/-- the second dict -/
def dueG (ns : List Int) (B lo : Int) : Nat → Cells
  | 0 => []
  | i + 1 => putC (dueG ns B lo i) (B + (lo + (i : Nat))) (ring ns (lo + (i : Nat)))
theorem dueG_nd {ns : List Int} {B lo : Int} : ∀ i, NdC (dueG ns B lo i)
  | 0 => List.nodup_nil
  | i + 1 => nd_put (dueG_nd i) _ _
theorem dueG_len {ns : List Int} {B lo : Int} : ∀ i, (dueG ns B lo i).length ≤ i
  | 0 => Nat.le_refl _
  | i + 1 => by
    have h := dueG_len (ns := ns) (B := B) (lo := lo) i
    have := put_len (dueG ns B lo i) (B + (lo + (i : Nat))) (ring ns (lo + (i : Nat)))
    show (putC (dueG ns B lo i) (B + (lo + (i : Nat))) (ring ns (lo + (i : Nat)))).length ≤ i + 1
    omega
theorem dueG_look {ns : List Int} {B lo x : Int} : ∀ i : Nat, lookC (dueG ns B lo i) x = if B + lo ≤ x ∧ x < B + lo + i then some (ring ns (x - B)) else none
  | 0 => by
    rw [if_neg (by omega)]
    rfl
  | i + 1 => by
    show lookC (putC (dueG ns B lo i) (B + (lo + (i : Nat))) (ring ns (lo + (i : Nat)))) x = _
    rw [look_put]
    by_cases e : x = B + (lo + (i : Nat))
    · rw [if_pos e, if_pos (by omega), e, show B + (lo + (i : Nat)) - B = lo + (i : Nat) by omega]
    · rw [if_neg e, dueG_look i]
      exact ifc (by omega) _ _
theorem dueG_is {ps : List Str} {wds : Str → Option Int} {t : Tr} {pls : List Int} {lo hi B : Int} {ns : List Int} {res : Cells} (h : Prog2 ps wds t pls lo hi B ns) (hl : lo ≤ hi) (q : Tells res (chg (runT ps wds t (st0 pls false)).cells)) : ∀ x, lookC res x = lookC (dueG ns B lo (hi - lo).toNat) x := by
  intro x
  rw [q.2 x, look_chg h.nd, dueG_look]
  by_cases c : B + lo ≤ x ∧ x < B + hi
  · have z := h.val (x - B) (by omega) (by omega)
    rw [show B + (x - B) = x by omega] at z
    rw [z, if_neg (fun y => by unfold ring at y; cases y), if_pos (by omega)]
    rfl
  · rw [h.out x c, if_pos rfl, if_neg (by omega)]
    rfl
theorem Prog2.len {ps : List Str} {wds : Str → Option Int} {t : Tr} {pls : List Int} {lo hi B : Int} {ns : List Int} (h : Prog2 ps wds t pls lo hi B ns) : (runT ps wds t (st0 pls false)).cells.length ≤ (hi - lo).toNat := by
  have z := nd_len (A := (List.range (hi - lo).toNat).map fun i => B + lo + ((i : Nat) : Int)) h.nd (fun k hk => by
    obtain ⟨h1, h2⟩ := (h.keys k).mp hk
    exact List.mem_map.mpr ⟨(k - (B + lo)).toNat, List.mem_range.mpr (by omega), by omega⟩)
  rw [List.length_map, List.length_map, List.length_range] at z
  exact z
theorem num_lo3 {i : Int} (h0 : -100 ≤ i) (h1 : i ≤ 300) : CF.Lo (CF.num i) :=
  of_decide_eq_true (CF.small_all3 (p := fun i => decide (CF.Lo (CF.num i))) (by decide +kernel) h0 h1)
theorem ring_ok {ns : List Int} (n1 : 1 ≤ ns.length) (hn : ∀ n ∈ ns, 0 ≤ n ∧ n ≤ 255) (j : Int) : ∃ n, n ∈ ns ∧ ring ns j = .tx ("#" ++ CF.num n) ∧ (ns.getD (j % ns.length).toNat 0) = n ∧ ContOk (ring ns j) := by
  have e1 := Int.emod_nonneg j (show (ns.length : Int) ≠ 0 by omega)
  have e2 := Int.emod_lt_of_pos j (show (0 : Int) < ns.length by omega)
  have lt : (j % ns.length).toNat < ns.length := by omega
  have g : ns.getD (j % ns.length).toNat 0 = ns[(j % ns.length).toNat] := by rw [List.getD, List.getElem?_eq_getElem lt]; rfl
  have hm := List.getElem_mem lt
  have r : ring ns j = .tx ("#" ++ CF.num ns[(j % ns.length).toNat]) := by unfold ring; rw [g]
  refine ⟨_, hm, r, g, ?_⟩
  rw [r]
  have b := hn _ hm
  refine ⟨fun c hc => ?_, ?_⟩
  · have hc' : c ∈ TL.tl (("#" : Str) ++ CF.num ns[(j % ns.length).toNat]) := hc
    rw [TL.tl_append] at hc'
    rcases List.mem_append.mp hc' with h | h
    · exact (show CF.Lo "#" by decide +kernel) c h
    · exact num_lo3 (by omega) (by omega) c h
  · show (("#" : Str) ++ CF.num ns[(j % ns.length).toNat]).length ≤ 1000
    rw [CF.len_app]
    have := CF.num_len3 (i := ns[(j % ns.length).toNat]) (by omega) (by omega)
    have e : ("#" : Str).length = 1 := rfl
    omega
theorem Prog2.cont {ps : List Str} {wds : Str → Option Int} {t : Tr} {pls : List Int} {lo hi B : Int} {ns : List Int} (h : Prog2 ps wds t pls lo hi B ns) (n1 : 1 ≤ ns.length) (hn : ∀ n ∈ ns, 0 ≤ n ∧ n ≤ 255) : ∀ p ∈ (runT ps wds t (st0 pls false)).cells, ContOk p.2 := by
  intro p hp
  obtain ⟨h1, h2⟩ := (h.keys p.1).mp (List.mem_map.mpr ⟨p, hp, rfl⟩)
  have z := h.val (p.1 - B) (by omega) (by omega)
  rw [show B + (p.1 - B) = p.1 by omega] at z
  unfold getC at z
  rw [look_in h.nd (n := p.1) (c := p.2) hp] at z
  have z' : p.2 = ring ns (p.1 - B) := z
  rw [z']
  obtain ⟨_, _, _, _, q⟩ := ring_ok n1 hn (p.1 - B)
  exact q
theorem far_ok {n : Int} (h : n.natAbs < 2 ^ 1000) : n.natAbs.log2 < 1920 ∧ (CF.num n).length ≤ 2000 := by
  have l : n.natAbs.log2 < 1920 := by
    by_cases z : n.natAbs = 0
    · rw [z]; decide
    · exact Nat.lt_trans ((Nat.log2_lt z).mpr h) (by decide)
  exact ⟨l, Nat.le_trans (int_text_len_1921 l) (by decide)⟩
theorem per_le {wd : Str} {a m n k : Int} (k0 : 0 ≤ k) (k1 : k < m) (m16 : m ≤ 16) (n1 : 1 ≤ n) : 0 ≤ per wd a m n k ∧ per wd a m n k ≤ 16 := by
  have l0 : 0 ≤ (if 0 < a then k else m - 1 - k) ∧ (if 0 < a then k else m - 1 - k) ≤ 16 := by split <;> omega
  have d0 : 0 ≤ (if 0 < a then k else m - 1 - k) / (a.natAbs : Int) := Int.ediv_nonneg l0.1 (by omega)
  have d1 : (if 0 < a then k else m - 1 - k) / (a.natAbs : Int) ≤ 16 := Int.le_trans (Int.ediv_le_self _ l0.1) l0.2
  unfold per
  rw [if_neg (show ¬ n = 0 by omega)]
  generalize (if 0 < a then k else m - 1 - k) / (a.natAbs : Int) = d at *
  split <;> omega
theorem src_le {wd : Str} {S a m n k : Int} {b : Nat} (k0 : 0 ≤ k) (k1 : k < m) (m16 : m ≤ 16) (n1 : 1 ≤ n) (hS : S.natAbs ≤ b) (ha : a.natAbs ≤ b) : (srcK wd S a m n k).natAbs ≤ 17 * b + 16 := by
  obtain ⟨p0, p1⟩ := per_le (wd := wd) (a := a) k0 k1 m16 n1
  have e : (per wd a m n k * a).natAbs ≤ 16 * b := by
    rw [Int.natAbs_mul]
    exact Nat.mul_le_mul (by omega) ha
  unfold srcK
  omega
end
end K19
end
section
set_option Elab.async false
set_option linter.all false
set_option maxRecDepth 100000
set_option maxHeartbeats 4000000
namespace K19
open PySem PySem.Spec PyProof.Rows L2
open PySem.W (ke_shaped_ints)
local macro_rules | `(tactic| walk_at "go") => `(tactic| first | refine ⟨_, rfl, ?_⟩ | refine .inl ⟨_, rfl, ?_⟩ | refine ⟨_, _, rfl, rfl, (by first | (show (0 : Int) < _; decide) | exact Or.inl ⟨by decide, by decide⟩ | exact Or.inr ⟨by decide, by decide⟩), ?_⟩ | refine ⟨_, _, rfl, rfl, ?_⟩)
section
variable {P : Program} {w : World} {K : PySem.W.Frag} {mg : Str → Option Value} {base : Heap}

def letters : Str := "abcdefghijklmnopqrstuvwxyz"
theorem letters_all : ∀ c ∈ letters.cps.toList, 97 ≤ c ∧ c ≤ 122 := by decide +kernel
theorem letters_len : letters.length = 26 := by decide +kernel
theorem free_barred : ∀ z ∈ CF.Reserved, z ∈ barred := by decide +kernel
theorem sign_in' {c : Nat} (h : 97 ≤ c ∧ c ≤ 122) : c ∈ letters.cps.toList := sign_in h
/-- is_name(word) of a word of small letters -/
def spIsName : Sp := fun vs H Q _ => ∃ z : Str, vs = [.str z] ∧ 1 ≤ z.length ∧ z.length ≤ 12 ∧ (∀ c ∈ TL.tl z, 97 ≤ c ∧ c ≤ 122) ∧ ∀ H', Same H H' → Q (.bl (!decide (z ∈ barred))) H'
abbrev s_lis_name : Stmt := topS 119
theorem sc_lis_name : FnScope ["word", "odd", "sign"] ["word"] (defScope s_lis_name) := ⟨rfl, rfl, rfl, by decide +kernel, rfl, by decide +kernel, by decide +kernel⟩
theorem ok_lis_name (T : Txt mg) (D : Def K mg "_law_is_name" s_lis_name) (C__law_barred : Cal P w K mg base 1 "_law_barred" [] spBarred) : Cal P w K mg base 2 "_law_is_name" ["word"] spIsName := by
  refine D.cal sc_lis_name (fun vs H Q E h => ?_) (fun _ _ _ _ _ _ us hl => match us, hl with | [_], _ => rfl) (fun f cdv A outer s H vs Q E hr h => ?_)
  · obtain ⟨z, rfl, _⟩ := h
    rfl
  have hu := hu_of hr

  obtain ⟨z, rfl, z1, z12, low, k⟩ := h
  have hsz : z.length ≤ sizeLine := by rw [sizeLine_eq]; omega
  refine ⟨_, (pss_cons (ps_setLc (i := 1) (own := [("sign", 2)]) (g := gName 2) rfl sc_lis_name.nd rfl rfl (sw_true rfl rfl rfl (by decide +kernel)) (pi_str (pv 0)) (blkOk_by (N := ["word", "odd", "sign"]) (sc := defScope s_lis_name) (by decide +kernel)) (fun _ _ _ _ _ => (pg_name (i := 2) sc_lis_name.nd rfl (Or.inl rfl))) (fun _ _ _ _ _ => (pts_one (pt_cmpR op_notIn_sign (pv 2) pe_str (by rfl)))) (fun _ _ _ _ _ => (pv 2)))
      (pss_one (ps_ret (pe_and (pe_chain op_le op_le pe_int (pe_callB call_len (by rfl) T.f_len PySem.boot_len (pa_cons (pv 0) pa_nil)) pe_int) (pe_and (pe_cmpR (op_eqD hr.units) (pv 1) (pe_lst pa_nil) (nomark _)) (pe_one (pe_cmpR op_notIn_seq (pv 0) (pe_cal0 C__law_barred (hr.mono (by decide)) rfl) (by rfl)))))))), ?_⟩
  refine ⟨_, rfl, z, rfl, fun Dl hD => lc_it walk_str (fun i H' => Same H H' ∧ H' Dl = some (.lst [])) ⟨Same.new hD, upd_same⟩ (fun _ _ _ _ => True.intro) ?_ ?_⟩
  · rintro i x H1 H2 hi ⟨s1, h1⟩ ⟨rfl, c, hc, rfl⟩
    have hm := sign_in' (low c (by rw [← Array.getElem?_toList] at hc; exact List.mem_of_getElem? hc))
    exact ⟨rfl, _, rfl, c, _, rfl, rfl, _, rfl, ite2 (fun q => by
      change (!decide (c ∈ letters.cps.toList)) = true at q
      rw [decide_eq_true hm] at q
      cases q) (fun _ => ⟨s1, h1⟩)⟩
  · rintro H1 ⟨s1, h1⟩
    refine ⟨_, rfl, _, z.length, rfl, ⟨hsz, rfl⟩, _, _, rfl, rfl, _, rfl, ite2 (fun _ => ?_) (fun c => absurd (decide_eq_true (by omega)) c)⟩
    refine ⟨_, _, rfl, rfl, _, rfl, ite2 (fun _ => ?_) (fun c => absurd (decide_eq_true (by omega)) c)⟩
    refine ⟨_, rfl, Nat.zero_le _, fun e he => ?_⟩
    have h2 := (upd_ne (o := .lst []) (ne_of_none h1 he)).trans h1
    have s2 : Same H (upd H1 e (.lst [])) := s1.trans (Same.new he)
    refine ⟨.list [], .list [], .lst (SqL.of h2) .nil, .lst (SqL.of upd_same) .nil, shaped_strs (ys := []) (by simp), shaped_strs (ys := []) (by simp), _, rfl, ite2 (fun _ => ?_) (fun c => absurd rfl c)⟩
    refine ⟨_, rfl, rfl, fun p H3 hp s3 h4 => ?_⟩
    refine ⟨p, _, rfl, .inl (SqL.of h4), rfl, flat_strs _, ?_⟩
    rw [if_pos rfl, CF.inV_strs]
    exact k _ (s2.trans s3)



theorem pick6 {d : Int} {j : Nat} {v : V} (h0 : 0 ≤ d) (h1 : d < 12) (h : ([.int 0, .int 0, .int 1, .int 2, .int 11, .int d] : List V)[j]? = some v) : ∃ i : Int, v = .int i ∧ 0 ≤ i ∧ i ≤ 11 := by
  have hm := List.mem_of_getElem? h
  simp only [List.mem_cons, List.not_mem_nil, or_false] at hm
  rcases hm with rfl | rfl | rfl | rfl | rfl | rfl
  · exact ⟨0, rfl, by decide, by decide⟩
  · exact ⟨0, rfl, by decide, by decide⟩
  · exact ⟨1, rfl, by decide, by decide⟩
  · exact ⟨2, rfl, by decide, by decide⟩
  · exact ⟨11, rfl, by decide, by decide⟩
  · exact ⟨d, rfl, h0, by omega⟩
theorem letter_at {i : Int} (h0 : 0 ≤ i) (h1 : i < 26) : ∃ c, atI letters.cps.toList i = some c ∧ 97 ≤ c ∧ c ≤ 122 := by
  have hj : i.toNat < letters.cps.toList.length := by
    have : letters.cps.toList.length = 26 := by decide +kernel
    omega
  refine ⟨letters.cps.toList[i.toNat], ?_, letters_all _ (List.getElem_mem hj)⟩
  have h := atI_nat (xs := letters.cps.toList) (List.getElem?_eq_getElem hj)
  rwa [show ((i.toNat : Nat) : Int) = i by omega] at h
/-- the doubled letters -/
def doubles : List Str := letters.cps.toList.map fun c => (⟨#[c]⟩ : Str) ++ ⟨#[c]⟩
theorem doubles_ok : ∀ z ∈ doubles, CF.NameOk z := by
  have h : (doubles.all fun z => decide (z ∉ CF.Reserved) && (decide (1 ≤ z.length) && (decide (z.length ≤ 12) && z.cps.toList.all fun c => decide (97 ≤ c) && decide (c ≤ 122)))) = true := by decide +kernel
  intro z hz
  have := List.all_eq_true.mp h z hz
  simp only [Bool.and_eq_true, decide_eq_true_eq, List.all_eq_true] at this
  exact ⟨this.1, this.2.1, this.2.2.1, this.2.2.2⟩
theorem doubles_free {zs : List Str} (h : zs.length ≤ 2) : (doubles.filter fun z => !decide (z ∈ zs)) ≠ [] := by
  have m1 : ("aa" : Str) ∈ doubles := by decide +kernel
  have m2 : ("bb" : Str) ∈ doubles := by decide +kernel
  have m3 : ("cc" : Str) ∈ doubles := by decide +kernel
  have n12 : ("aa" : Str) ≠ "bb" := by decide +kernel
  have n13 : ("aa" : Str) ≠ "cc" := by decide +kernel
  have n23 : ("bb" : Str) ≠ "cc" := by decide +kernel
  intro e
  have all : ∀ z ∈ doubles, z ∈ zs := fun z hz => by
    apply Classical.byContradiction
    intro q
    have : z ∈ doubles.filter fun z => !decide (z ∈ zs) := List.mem_filter.mpr ⟨hz, by simp [q]⟩
    rw [e] at this
    cases this
  have a1 := all _ m1
  have a2 := all _ m2
  have a3 := all _ m3
  match zs, h with
  | [], _ => cases a1
  | [x], _ =>
    rw [List.mem_singleton] at a1 a2
    exact n12 (a1.trans a2.symm)
  | [x, y], _ =>
    simp only [List.mem_cons, List.not_mem_nil, or_false] at a1 a2 a3
    rcases a1 with a1 | a1 <;> rcases a2 with a2 | a2 <;> rcases a3 with a3 | a3 <;> first | exact n12 (a1.trans a2.symm) | exact n13 (a1.trans a3.symm) | exact n23 (a2.trans a3.symm)
/-- new_words(pen, many): names, no two the same -/
def spNewWords : Sp := fun vs H Q _ => ∃ (p l : Addr) (t many : Int), vs = [.ref p, .int many] ∧ Pen H p l t ∧ t ≤ 100000 ∧ 1 ≤ many ∧ many ≤ 3 ∧
  ∀ (q : Addr) (ps : List Str) (H' : Hp) (t' : Int), CF.Names ps → (ps.length : Int) = many → Pen H' p l t' → t ≤ t' → t' ≤ t + 60 → But p H H' → H q = none → H' q = some (.lst (ps.map V.str)) → Q (.ref q) H'
abbrev s_new_words : Stmt := topS 120
theorem sc_new_words : FnScope ["pen", "many", "letters", "found", "k", "size", "word", "pairs", "j", "sign", "pair"] ["pen", "many"] (defScope s_new_words) := ⟨rfl, rfl, rfl, by decide +kernel, rfl, by decide +kernel, by decide +kernel⟩
theorem ok_new_words (T : Txt mg) (D : Def K mg "_law_new_words" s_new_words) (C__law_draw : Cal P w K mg base 1 "_law_draw" ["pen", "span"] spDraw) (C__law_pick : Cal P w K mg base 2 "_law_pick" ["pen", "options"] (spPick K)) (C__law_is_name : Cal P w K mg base 2 "_law_is_name" ["word"] spIsName) : Cal P w K mg base 3 "_law_new_words" ["pen", "many"] spNewWords := by
  refine D.cal sc_new_words (fun vs H Q E h => ?_) (fun _ _ _ _ _ _ us hl => match us, hl with | [_, _], _ => rfl) (fun f cdv A outer s H vs Q E hr h => ?_)
  · obtain ⟨p, l, t, many, rfl, _⟩ := h
    rfl
  have hu := hu_of hr

  obtain ⟨p, l, t, many, rfl, pen, ht, m0, m1, k⟩ := h
  have big : sizeLine = 16777216 := sizeLine_eq
  refine ⟨_, (pss_cons (ps_asg (pe_tup (pa_cons pe_str (pa_cons (pe_lst pa_nil) pa_nil))) (pg_tup rfl (pgs_cons (pg_name (i := 2) sc_new_words.nd rfl (by first | exact Or.inl rfl | exact Or.inr rfl)) (pgs_cons (pg_name (i := 3) sc_new_words.nd rfl (by first | exact Or.inl rfl | exact Or.inr rfl)) pgs_nil))))
      (pss_cons (ps_for PassesOwn.never rfl (pi_range1 rfl T.f_range (pa_cons (pv 1) pa_nil)) (pg_name (i := 4) sc_new_words.nd rfl (by first | exact Or.inl rfl | exact Or.inr rfl)) (pss_cons (ps_set (i := 5) sc_new_words.nd rfl (by first | exact Or.inl rfl | exact Or.inr rfl) (pe_op op_add pe_int (pe_cal C__law_pick (hr.mono (by decide)) rfl (pa_cons (pv 0) (pa_cons (pe_lst (pa_cons pe_int (pa_cons pe_int (pa_cons pe_int (pa_cons pe_int (pa_cons pe_int (pa_cons (pe_cal C__law_draw (hr.mono (by decide)) rfl (pa_cons (pv 0) (pa_cons pe_int pa_nil))) pa_nil))))))) pa_nil)))))
      (pss_cons (ps_set (i := 6) sc_new_words.nd rfl (by first | exact Or.inl rfl | exact Or.inr rfl) (pe_join pe_str (pe_lc (own := [("j", 8)]) (g := gName 8) (tt := tYes) rfl sc_new_words.nd (pi_range1 rfl T.f_range (pa_cons (pv 5) pa_nil)) (blkOk_by (N := ["pen", "many", "letters", "found", "k", "size", "word", "pairs", "j", "sign", "pair"]) (sc := defScope s_new_words) (by decide +kernel)) (fun _ _ _ _ _ => (pg_name (i := 8) sc_new_words.nd rfl (Or.inl rfl))) (fun _ _ _ _ _ => pts_nil) (fun _ _ _ _ _ => (pe_ix ix_str (pv 2) (pe_cal C__law_draw (hr.mono (by decide)) rfl (pa_cons (pv 0) (pa_cons pe_int pa_nil))) (fun _ _ => rfl))))))
      (C8.pss_cut (ps_if (PW.pt (pw_or (pt_not (pt_val (pe_cal C__law_is_name (hr.mono (by decide)) rfl (pa_cons (pv 6) pa_nil)))) (pw_or1 (pt_cmpR op_in_seq (pv 6) (pv 3) (by rfl))))) (pss_cons (ps_setLc (i := 7) (own := [("sign", 9)]) (g := gName 9) (tt := tYes) rfl sc_new_words.nd rfl rfl (sw_true rfl rfl rfl (by decide +kernel)) (pi_str (pv 2)) (blkOk_by (N := ["pen", "many", "letters", "found", "k", "size", "word", "pairs", "j", "sign", "pair"]) (sc := defScope s_new_words) (by decide +kernel)) (fun _ _ _ _ _ => (pg_name (i := 9) sc_new_words.nd rfl (Or.inl rfl))) (fun _ _ _ _ _ => pts_nil) (fun _ _ _ _ _ => (pe_op op_add_str (pv 9) (pv 9))))
      (pss_one (ps_set (i := 6) sc_new_words.nd rfl (by first | exact Or.inl rfl | exact Or.inr rfl) (pe_ix ix_list (pe_lc (own := [("pair", 10)]) (g := gName 10) (tt := tTest (tOp (rIn K true) (tVar 10) (tVar 3))) rfl sc_new_words.nd (pi_list (pv 7)) (blkOk_by (N := ["pen", "many", "letters", "found", "k", "size", "word", "pairs", "j", "sign", "pair"]) (sc := defScope s_new_words) (by decide +kernel)) (fun _ _ _ _ _ => (pg_name (i := 10) sc_new_words.nd rfl (Or.inl rfl))) (fun _ _ _ _ _ => (pts_one (pt_cmpR op_notIn_seq (pv 10) (pv 3) (by rfl)))) (fun _ _ _ _ _ => (pv 10))) pe_int (fun _ _ => rfl))))) pss_nil)
      (pss_one (ps_expr (pe_bm PySem.F.plainAttrs_list PySem.F.slot_list_append PySem.F.type_list_append mt_append (pv 3) (pa_cons (pv 6) pa_nil))))))))
      (pss_one (ps_ret (pv 3))))), ?_⟩
  have hpl := pen.ne
  obtain ⟨op, hop⟩ := pen.at_
  refine ⟨Nat.zero_le _, fun f hf => ⟨by show 2 ≤ sizeLine; decide, fun tp htp => ⟨tp, _, rfl, SqT.of upd_same, rfl, _, _, rfl, _, _, rfl, rfl, ?_⟩⟩⟩
  have hfp : f ≠ p := fun z => by rw [z, hop] at hf; cases hf
  have hftp : f ≠ tp := fun z => by rw [← z, upd_same] at htp; cases htp
  have hfl : f ≠ l := fun z => by
    obtain ⟨ns, lf, g1, g2, _⟩ := pen.ex
    rw [z, g2] at hf
    cases hf
  have pen0 : Pen (upd (upd H f (.lst [])) tp (.tup [.str letters, .ref f])) p l t := (pen.new hf).new htp
  have b0 : But p H (upd (upd H f (.lst [])) tp (.tup [.str letters, .ref f])) := But.of ((Same.new hf).trans (Same.new htp))
  have hf0 : (upd (upd H f (.lst [])) tp (.tup [.str letters, .ref f])) f = some (.lst []) := (upd_ne hftp).trans upd_same
  refine ⟨_, rfl, many, rfl, by omega, by omega, for_range (n := many.toNat) (fun i σ H1 => ∃ (v4 v5 v6 v7 v8 v9 v10 : Option V) (zs : List Str) (t1 : Int), σ = [some (.ref p), some (.int many), some (.str letters), some (.ref f), v4, v5, v6, v7, v8, v9, v10] ∧ H1 f = some (.lst (zs.map V.str)) ∧ zs.length = i ∧ (∀ z ∈ zs, CF.NameOk z) ∧ zs.Nodup ∧
      Pen H1 p l t1 ∧ t ≤ t1 ∧ t1 ≤ t + 20 * i ∧ But p H H1)
    ⟨none, none, none, none, none, none, none, [], t, rfl, hf0, rfl, by simp, .nil, pen0, Int.le_refl _, by omega, b0⟩ ?_ ?_⟩
  · rintro i σ H1 hi ⟨v4, v5, v6, v7, v8, v9, v10, zs, t1, rfl, hf1, hzs, ok, nd, pen1, g1, g2, b1⟩
    -- size = 1 + pick(..)
    refine ⟨_, rfl, _, rfl, p, l, t1, 12, rfl, pen1, by omega, by decide, by decide, fun d H2 t2 d0 d1 pen2 g3 g4 b2 => ⟨by show 6 ≤ sizeLine; decide, fun q hq => ?_⟩⟩
    obtain ⟨o2, ho2⟩ := pen2.at_
    have hqp : q ≠ p := fun z => by rw [z, ho2] at hq; cases hq
    have hf2 : (upd H2 q (.lst [.int 0, .int 0, .int 1, .int 2, .int 11, .int d])) f = some (.lst (zs.map V.str)) := (Same.new hq) _ _ (b2 f _ hfp hf1)
    refine ⟨p, l, q, t2, _, rfl, pen2.new hq, by omega, hqp, .inl (SqL.of upd_same), by show 0 < 6; decide, by show 6 ≤ 1000000; decide, fun j v H3 t3 hv pen3 g5 g6 b3 => ?_⟩
    obtain ⟨sz, rfl, i0, i1⟩ := pick6 d0 d1 hv
    have hf3 := b3 f _ hfp hf2
    have b13 : But p H1 H3 := (b2.trans (But.of (Same.new hq))).trans b3
    refine ⟨_, _, rfl, rfl, ?_⟩
    -- word = ''.join(..)
    refine ⟨⟨_, rfl⟩, _, rfl, 1 + sz, rfl, by omega, by omega, fun Dl hD => lc_it walk_range (fun m H4 => ∃ (ys : List Str) (t4 : Int), H4 Dl = some (.lst (ys.map V.str)) ∧ ys.length = m ∧ (∀ y ∈ ys, ∃ c, TL.tl y = [c] ∧ 97 ≤ c ∧ c ≤ 122) ∧ Pen H4 p l t4 ∧ t3 ≤ t4 ∧ t4 ≤ t3 + m ∧ But p H3 H4)
      ⟨[], t3, upd_same, rfl, by simp, pen3.new hD, Int.le_refl _, by omega, But.of (Same.new hD)⟩ (fun _ _ _ _ => True.intro) ?_ ?_⟩
    · rintro m x H4 H5 hm ⟨ys, t4, hd4, hc, low, pen4, g7, g8, b4⟩ ⟨rfl, rfl⟩
      obtain ⟨o3, ho3⟩ := pen3.at_
      have hDp : Dl ≠ p := fun z => by rw [z, ho3] at hD; cases hD
      have hDl : Dl ≠ l := fun z => by
        obtain ⟨ns, lf, e1, e2, _⟩ := pen3.ex
        rw [z, e2] at hD
        cases hD
      refine ⟨rfl, _, rfl, _, rfl, p, l, t4, 26, rfl, pen4, by omega, by decide, by decide, fun c H6 t6 c0 c1 pen6 g9 g10 b6 => ?_⟩
      obtain ⟨s, hs, hs2⟩ := letter_at c0 c1
      refine ⟨letters, c, s, rfl, rfl, by show 26 ≤ sizeLine; decide, hs, _, b6 Dl _ hDp hd4, ?_, ys ++ [⟨#[s]⟩], t6, ?_, ?_, ?_, pen6.put hDp hDl, by omega, by omega, ?_⟩
      · rw [List.length_map]
        omega
      · rw [List.map_append]
        exact upd_same
      · rw [List.length_append, hc]
        rfl
      · intro y hy
        rcases List.mem_append.mp hy with h | h
        · exact low y h
        · rw [List.mem_singleton.mp h]
          exact ⟨s, rfl, hs2⟩
      · exact (b4.trans b6).put hD
    · rintro H4 ⟨ys, t4, hd4, hc, low, pen4, g7, g8, b4⟩
      have jl := CF.join_letters low
      have ysum : (ys.map (·.length)).sum ≤ ys.length * 1 := CF.sum_le fun w hw => by
        obtain ⟨c, hc, _⟩ := low w hw
        rw [TL.len_tl, hc]
        exact Nat.le_refl _
      have e0 : ("" : Str).length = 0 := rfl
      refine ⟨_, Dl, ys, rfl, rfl, .inl (SqL.of hd4), by rw [e0]; omega, ?_⟩
      have hf4 := b4 f _ hfp hf3
      generalize Txt.join "" ys = z at jl ⊢
      have b14 : But p H1 H4 := b13.trans b4
      -- if not is_name(word) or word in found
      refine ⟨fun σ' H' => ∃ (v7 v8 v9 v10 : Option V) (z' : Str), σ' = [some (.ref p), some (.int many), some (.str letters), some (.ref f), some (.int (0 + (i : Int))), some (.int (1 + sz)), some (.str z'), v7, v8, v9, v10] ∧ CF.NameOk z' ∧ z' ∉ zs ∧ H' f = some (.lst (zs.map V.str)) ∧ Pen H' p l t4 ∧ But p H1 H', ?_, ?_⟩
      · have zl : z.length = (1 + sz).toNat := by rw [jl.1, hc]
        refine ⟨_, rfl, z, rfl, by omega, by omega, jl.2, fun H5 s5 => ⟨_, rfl, ?_⟩⟩
        have hf5 := s5 f _ hf4
        have b5 : But p H1 H5 := b14.trans (But.of s5)
        have other : ∀ RT BK CT, tSeq (tAsg (tLc (iStr (tVar 2)) (gName 9) tYes (tOp (fun x y H Q => ∃ i j, x = V.str i ∧ y = V.str j ∧ i.length + j.length ≤ sizeLine ∧ Q (V.str (i ++ j)) H) (tVar 9) (tVar 9)) (List.map (fun x => x.snd) [("sign", 9)])) (gName 7)) (tAsg (tOp (rIxL K) (tLc (iList K (tVar 7)) (gName 10) (tTest (tOp (rIn K true) (tVar 10) (tVar 3))) (tVar 10) (List.map (fun x => x.snd) [("pair", 10)])) (tC (V.int 0))) (gName 6))
            { nx := fun σ' H' => ∃ (v7 v8 v9 v10 : Option V) (z' : Str), σ' = [some (.ref p), some (.int many), some (.str letters), some (.ref f), some (.int (0 + (i : Int))), some (.int (1 + sz)), some (.str z'), v7, v8, v9, v10] ∧ CF.NameOk z' ∧ z' ∉ zs ∧ H' f = some (.lst (zs.map V.str)) ∧ Pen H' p l t4 ∧ But p H1 H', rt := RT, bk := BK, ct := CT } [some (.ref p), some (.int many), some (.str letters), some (.ref f), some (.int (0 + (i : Int))), some (.int (1 + sz)), some (.str z), v7, v8, v9, v10] H5 := by
          intro RT BK CT
          refine ⟨_, rfl, letters, rfl, fun D2 hD2 => lc_it walk_str (fun m H' => Same H5 H' ∧ H' D2 = some (.lst ((doubles.take m).map V.str))) ⟨Same.new hD2, upd_same⟩ (fun _ _ _ _ => True.intro) ?_ ?_⟩
          · rintro m x H6 H7 hm ⟨s6, h1⟩ ⟨rfl, c, hc, rfl⟩
            have hd : doubles[m]? = some ((⟨#[c]⟩ : Str) ++ ⟨#[c]⟩) := by
              unfold doubles
              rw [List.getElem?_map, Array.getElem?_toList, hc]
              rfl
            refine ⟨rfl, _, rfl, _, rfl, _, _, rfl, rfl, by show 1 + 1 ≤ sizeLine; decide, _, h1, ?_, s6.put hD2, ?_⟩
            · rw [List.length_map, List.length_take]
              have : doubles.length = 26 := by decide +kernel
              omega
            · rw [List.take_add_one, hd, List.map_append]
              exact upd_same
          rintro H6 ⟨s6, h1⟩
          have tk : doubles.take letters.cps.size = doubles := List.take_of_length_le (by decide +kernel)
          rw [tk] at h1
          have hf6 := s6 f _ hf5
          refine ⟨_, rfl, D2, rfl, ⟨_, SqL.of h1⟩, fun D3 hD3 => lc_it walk_list (fun m H' => Same H6 H' ∧ H' D3 = some (.lst (((doubles.take m).filter fun z => !decide (z ∈ zs)).map V.str)))
            ⟨Same.new hD3, upd_same⟩ (fun m H' _ z => SqL.of (z.1 _ _ h1)) ?_ ?_⟩
          · rintro m x H7 H8 hm ⟨s7, h7⟩ ⟨rfl, hx⟩
            rw [List.getElem?_map] at hx
            obtain ⟨y, hy, rfl⟩ := Option.map_eq_some_iff.mp hx
            have tm : (doubles.take (m + 1)).filter (fun z => !decide (z ∈ zs)) = (doubles.take m).filter (fun z => !decide (z ∈ zs)) ++ [y].filter (fun z => !decide (z ∈ zs)) := by
              rw [List.take_add_one, hy, List.filter_append]; rfl
            refine ⟨rfl, _, rfl, _, rfl, f, _, rfl, .inl (SqL.of (s7 f _ hf6)), rfl, CF.flat_strs _, _, rfl, ?_⟩
            rw [if_pos rfl, CF.inV_strs, tm]
            cases e : decide (y ∈ zs) with
            | true =>
              refine iteF ⟨s7, ?_⟩
              rw [List.filter_cons_of_neg (by rw [e]; decide), List.filter_nil, List.append_nil]
              exact h7
            | false =>
              refine iteT ⟨_, rfl, _, h7, ?_, s7.put hD3, ?_⟩
              · have a1 := List.length_filter_le (fun z => !decide (z ∈ zs)) (doubles.take m)
                have a2 : doubles.length = 26 := by decide +kernel
                rw [List.length_take] at a1
                rw [List.length_map]
                omega
              · rw [List.filter_cons_of_pos (by rw [e]; rfl), List.filter_nil, List.map_append]
                exact upd_same
          rintro H7 ⟨s7, h7⟩
          rw [List.length_map, List.take_length] at h7
          have ne := doubles_free (zs := zs) (by omega)
          obtain ⟨y, r, er⟩ := List.exists_cons_of_ne_nil ne
          rw [er] at h7
          have ym : y ∈ doubles.filter fun z => !decide (z ∈ zs) := by rw [er]; exact List.mem_cons_self
          obtain ⟨y1, y2⟩ := List.mem_filter.mp ym
          refine ⟨D3, _, _, _, rfl, rfl, SqL.of h7, atI_nat (j := 0) rfl, ?_⟩
          exact ⟨_, _, _, _, y, rfl, doubles_ok y y1, by simpa using y2, s7 f _ hf6, (pen4.same s5).same (s6.trans s7), b5.trans (But.of (s6.trans s7))⟩
        cases e : decide (z ∈ barred) with
        | true => exact iteT (iteT (other _ _ _))
        | false =>
          refine iteF ⟨_, rfl, _, rfl, f, _, rfl, .inl (SqL.of hf5), rfl, CF.flat_strs _, _, rfl, ?_⟩
          rw [if_neg (by decide), CF.inV_strs]
          cases e2 : decide (z ∈ zs) with
          | true => exact iteT (other _ _ _)
          | false => exact iteF ⟨_, _, _, _, z, rfl, ⟨fun q => of_decide_eq_false e (free_barred z q), by omega, by omega, jl.2⟩, of_decide_eq_false e2, hf5, pen4.same s5, b5⟩
      · rintro σ' H6 ⟨w7, w8, w9, w10, z', rfl, nz, zn, hf6, pen6, b6⟩
        refine ⟨_, rfl, .inl ⟨rfl, _, SqL.of hf6⟩, _, rfl, f, _, _, rfl, rfl, hf6, by rw [List.length_map]; omega, ?_⟩
        refine ⟨_, _, _, _, _, _, _, zs ++ [z'], t4, rfl, ?_, by rw [List.length_append, List.length_singleton, hzs], ?_, ?_, pen6.put hfp hfl, by omega, by omega, (b1.trans b6).put hf⟩
        · rw [List.map_append]; exact upd_same
        · intro y hy
          rcases List.mem_append.mp hy with h | h
          · exact ok y h
          · rw [List.mem_singleton.mp h]; exact nz
        · exact List.nodup_append.mpr ⟨nd, by simp, by intro x hx y hy e; rw [List.mem_singleton.mp hy] at e; exact zn (e ▸ hx)⟩
  · rintro σ H1 ⟨v4, v5, v6, v7, v8, v9, v10, zs, t1, rfl, hf1, hzs, ok, nd, pen1, g1, g2, b1⟩
    exact ⟨_, rfl, k f zs H1 t1 ⟨ok, nd, by omega, by omega⟩ (by omega) pen1 g1 (by omega) b1 hf hf1⟩

end
end K19
end
section
set_option Elab.async false
set_option linter.all false
set_option maxRecDepth 100000
set_option maxHeartbeats 4000000
namespace K19
open PySem PySem.Spec PyProof.Rows L2
open PySem.W (ke_shaped_ints)
local macro_rules | `(tactic| walk_at "go") => `(tactic| first | refine ⟨_, rfl, ?_⟩ | refine .inl ⟨_, rfl, ?_⟩ | refine ⟨_, _, rfl, rfl, (by first | (show (0 : Int) < _; decide) | exact Or.inl ⟨by decide, by decide⟩ | exact Or.inr ⟨by decide, by decide⟩), ?_⟩ | refine ⟨_, _, rfl, rfl, ?_⟩)
section
variable {P : Program} {w : World} {K : PySem.W.Frag} {mg : Str → Option Value} {base : Heap}

/-- spot_text(name, number) -/
def spSpotText : Sp := fun vs H Q _ => ∃ (z : Str) (k : Int), vs = [.str z, .int k] ∧ z.length ≤ 12 ∧ -100 ≤ k ∧ k ≤ 100 ∧ Q (.str (CF.spot z k)) H
abbrev s_spot_text : Stmt := topS 117
theorem sc_spot_text : FnScope ["name", "number"] ["name", "number"] (defScope s_spot_text) := ⟨rfl, rfl, rfl, by decide +kernel, rfl, by decide +kernel, by decide +kernel⟩
theorem ok_spot_text (T : Txt mg) (D : Def K mg "_law_spot_text" s_spot_text) : Cal P w K mg base 1 "_law_spot_text" ["name", "number"] spSpotText := by
  refine D.cal sc_spot_text (fun vs H Q E h => ?_) (fun _ _ _ _ _ _ us hl => match us, hl with | [_, _], _ => rfl) (fun f cdv A outer s H vs Q E hr h => ?_)
  · obtain ⟨z, k, rfl, _⟩ := h
    rfl
  have hu := hu_of hr

  obtain ⟨z, k, rfl, hz, k0, k1, q⟩ := h
  refine ⟨_, (pss_one (ps_ret (pe_op op_add_str (pe_op op_add_str (pv 0) (pe_ifExp (pt_cmpR op_gt (pv 1) pe_int (nomark _)) (pe_op op_add_str pe_str (pe_callTy call_str_int (by rfl) T.f_str (by decide +kernel) (pa_cons (pv 1) pa_nil))) pe_str)) (pe_ifExp (pt_cmpR op_lt (pv 1) pe_int (nomark _)) (pe_callTy call_str_int (by rfl) T.f_str (by decide +kernel) (pa_cons (pv 1) pa_nil)) pe_str)))), ?_⟩
  have hn : (Str.ofString (toString k)).length ≤ 4 := CF.num_len k0 k1
  have hl := CF.log_small k0 k1
  have e1 : ("+" : Str).length = 1 := rfl
  have e0 : ("" : Str).length = 0 := rfl
  have ee : ∀ (x : Str), (z ++ x).length = z.length + x.length := fun x => CF.len_app z x
  have big : sizeLine = 16777216 := sizeLine_eq
  refine ⟨_, rfl, _, rfl, _, _, rfl, rfl, _, rfl, ?_⟩
  unfold CF.spot at q
  refine ite2 (fun c => ?_) (fun c => ?_)
  · have c1 : 0 < k := of_decide_eq_true c
    rw [if_pos c1, if_neg (by omega)] at q
    refine ⟨_, rfl, _, rfl, hl, _, _, rfl, rfl, by omega, _, _, rfl, rfl, by rw [CF.len_app]; omega, _, rfl, _, _, rfl, rfl, _, rfl, ite2 (fun d => absurd (of_decide_eq_true d) (by omega)) (fun _ => ?_)⟩
    exact ⟨_, _, rfl, rfl, by rw [ee, CF.len_app]; omega, q⟩
  · have c1 : ¬ 0 < k := fun x => c (decide_eq_true x)
    rw [if_neg c1] at q
    refine ⟨_, _, rfl, rfl, by omega, _, rfl, _, _, rfl, rfl, _, rfl, ite2 (fun d => ?_) (fun d => ?_)⟩
    · rw [if_pos (of_decide_eq_true d)] at q
      exact ⟨_, rfl, _, rfl, hl, _, _, rfl, rfl, by rw [ee]; omega, q⟩
    · rw [if_neg (fun x => d (decide_eq_true x))] at q
      exact ⟨_, _, rfl, rfl, by rw [ee]; omega, q⟩

end
end K19
end
section
set_option Elab.async false
set_option linter.all false
set_option maxRecDepth 100000
set_option maxHeartbeats 4000000
namespace K19
open PySem PySem.Spec PyProof.Rows L2
open PySem.W (ke_shaped_ints)
local macro_rules | `(tactic| walk_at "go") => `(tactic| first | refine ⟨_, rfl, ?_⟩ | refine .inl ⟨_, rfl, ?_⟩ | refine ⟨_, _, rfl, rfl, (by first | (show (0 : Int) < _; decide) | exact Or.inl ⟨by decide, by decide⟩ | exact Or.inr ⟨by decide, by decide⟩), ?_⟩ | refine ⟨_, _, rfl, rfl, ?_⟩)
section
variable {P : Program} {w : World} {K : PySem.W.Frag} {mg : Str → Option Value} {base : Heap}

/-- source(kind, many, ahead, laps, k) -/
def spSource : Sp := fun vs H Q _ => ∃ (wd : Str) (m a n k : Int), vs = [.str wd, .int m, .int a, .int n, .int k] ∧ 0 ≤ k ∧ k < m ∧ m ≤ 16 ∧ 1 ≤ n ∧ n ≤ 5 ∧ a.natAbs < 2 ^ 200 ∧ Q (.int (k - per wd a m n k * a)) H
abbrev s_source : Stmt := topS 121
theorem sc_source : FnScope ["kind", "many", "ahead", "laps", "k", "left", "periods"] ["kind", "many", "ahead", "laps", "k"] (defScope s_source) := ⟨rfl, rfl, rfl, by decide +kernel, rfl, by decide +kernel, by decide +kernel⟩
theorem ok_source (T : Txt mg) (D : Def K mg "_law_source" s_source) (Tq : PL.TxtQ K w mg) : Cal P w K mg base 1 "_law_source" ["kind", "many", "ahead", "laps", "k"] spSource := by
  refine D.cal sc_source (fun vs H Q E h => ?_) (fun _ _ _ _ _ _ us hl => match us, hl with | [_, _, _, _, _], _ => rfl) (fun f cdv A outer s H vs Q E hr h => ?_)
  · obtain ⟨wd, m, a, n, k, rfl, _⟩ := h
    rfl
  have hu := hu_of hr

  obtain ⟨wd, m, a, n, k, rfl, k0, k1, m16, n1, n5, ha, q⟩ := h
  refine ⟨_, (pss_cons (ps_if (pt_cmpR op_eq (pv 2) pe_int (nomark _)) (pss_one (ps_ret (pv 4))) pss_nil)
      (pss_cons (ps_set (i := 5) sc_source.nd rfl (by first | exact Or.inl rfl | exact Or.inr rfl) (pe_ifExp (pt_cmpR op_gt (pv 2) pe_int (nomark _)) (pv 4) (pe_op op_sub (pe_op op_sub (pv 1) pe_int) (pv 4))))
      (pss_cons (ps_set (i := 6) sc_source.nd rfl (by first | exact Or.inl rfl | exact Or.inr rfl) (pe_op op_fdivW (pv 5) (pe_callB call_abs (by rfl) T.f_abs (by decide +kernel) (pa_cons (pv 2) pa_nil))))
      (C8.pss_cut (ps_if (pt_cmpR op_ne (pv 0) (pe_ifExp (pt_cmpR op_gt (pv 2) pe_int (nomark _)) pe_str pe_str) (nomark _)) (pss_one (ps_set (i := 6) sc_source.nd rfl (by first | exact Or.inl rfl | exact Or.inr rfl) (pe_callB (call_min2 rfl) (by rfl) Tq.f_min (by decide +kernel) (pa_cons (pe_op op_sub (pv 3) pe_int) (pa_cons (pe_callTy call_int1 (by rfl) T.f_int (by decide +kernel) (pa_cons (pv 6) pa_nil)) pa_nil))))) pss_nil)
      (pss_one (ps_ret (pe_op op_sub (pv 4) (pe_op op_mul (pv 6) (pv 2))))))))), ?_⟩
  have up_dn : ("up" : Str) ≠ "down" := by decide +kernel
  refine ⟨_, rfl, rfl, _, rfl, ite2 (fun c => ?_) (fun c => ?_)⟩
  · have c1 : a = 0 := V.int.inj (of_decide_eq_true c)
    subst c1
    rw [Int.mul_zero, Int.sub_zero] at q
    exact ⟨_, rfl, q⟩
  have a0 : a ≠ 0 := fun z => c (decide_eq_true (by rw [z]))
  have ab : (if a < 0 then -a else a) = (a.natAbs : Int) := by split <;> omega
  have dp : (0 : Int) < a.natAbs := by omega
  have dl : ((a.natAbs : Int)).natAbs.log2 < 9000 := by
    rw [Int.natAbs_natCast]
    exact Nat.lt_trans ((Nat.log2_lt (by omega)).mpr ha) (by decide)
  have n0 : ¬ n = 0 := by omega
  have l0 : 0 ≤ (if 0 < a then k else m - 1 - k) ∧ (if 0 < a then k else m - 1 - k) ≤ 16 := by split <;> omega
  have d0 : 0 ≤ (if 0 < a then k else m - 1 - k) / (a.natAbs : Int) := Int.ediv_nonneg l0.1 (by omega)
  have d1 : (if 0 < a then k else m - 1 - k) / (a.natAbs : Int) ≤ 16 := Int.le_trans (Int.ediv_le_self _ l0.1) l0.2
  have key : ∀ x : Int, x = (if 0 < a then k else m - 1 - k) → (if 0 < a then k else m - 1 - k) = x := fun x h => h.symm
  -- left
  have left : ∀ (R : V → Hp → Prop), R (.int (if 0 < a then k else m - 1 - k)) H → (tIf (tTest (tOp (rI0 fun i j => V.bl (decide (j < i))) (tVar 2) (tC (V.int 0)))) (tVar 4) (tOp (rI0 fun i j => V.int (i - j)) (tOp (rI0 fun i j => V.int (i - j)) (tVar 1) (tC (V.int 1))) (tVar 4))) [some (.str wd), some (.int m), some (.int a), some (.int n), some (.int k), none, none] H R := fun R r => by
    refine ⟨_, rfl, _, _, rfl, rfl, _, rfl, ite2 (fun d => ?_) (fun d => ?_)⟩
    · rw [if_pos (of_decide_eq_true d)] at r
      exact ⟨_, rfl, r⟩
    · rw [if_neg (fun x => d (decide_eq_true x))] at r
      exact ⟨_, rfl, _, _, rfl, rfl, _, rfl, _, _, rfl, rfl, r⟩
  refine left _ ?_
  clear left key
  generalize hl : (if 0 < a then k else m - 1 - k) = l at *
  refine ⟨_, rfl, _, rfl, a, rfl, _, _, rfl, rfl, ⟨by rw [ab]; exact dp, by rw [ab]; exact dl⟩, ?_⟩
  rw [ab]
  have last : ∀ pr : Int, pr = per wd a m n k → tRet (tOp (rI0 fun i j => V.int (i - j)) (tVar 4) (tOp (rI CMul fun i j => V.int (i * j)) (tVar 6) (tVar 2))) { nx := fun _ H' => Q .non H', rt := Q } [some (.str wd), some (.int m), some (.int a), some (.int n), some (.int k), some (.int l), some (.int pr)] H := fun pr e => by
    subst e
    refine ⟨_, rfl, _, rfl, _, rfl, _, _, rfl, rfl, .inl ?_, _, _, rfl, rfl, q⟩
    unfold per
    rw [if_neg n0, hl]
    constructor <;> (split <;> omega)
  refine ⟨fun σ' H' => H' = H ∧ σ' = [some (.str wd), some (.int m), some (.int a), some (.int n), some (.int k), some (.int l), some (.int (per wd a m n k))], ?_, ?_⟩
  · have yes : ∀ d : Prop, (d ↔ (wd = "up" ∧ 0 < a) ∨ (wd = "down" ∧ a < 0)) → True := fun _ _ => trivial
    clear yes
    have ty : ∀ (z : Str) , z = (if 0 < a then ("up" : Str) else "down") → ((wd = "up" ∧ 0 < a) ∨ (wd = "down" ∧ a < 0) ↔ wd = z) := fun z e => by
      subst e
      by_cases p : 0 < a
      · rw [if_pos p]
        exact ⟨fun y => y.elim (fun y => y.1) (fun y => by omega), fun y => .inl ⟨y, p⟩⟩
      · rw [if_neg p]
        exact ⟨fun y => y.elim (fun y => by omega) (fun y => y.1), fun y => .inr ⟨y, by omega⟩⟩
    have rest : ∀ (z : Str), z = (if 0 < a then ("up" : Str) else "down") → ((!decide (V.str wd = V.str z)) = true → ((if 0 < a then ("up" : Str) else "down") ≠ wd)) := fun z e h f => by
      subst e
      rw [f] at h
      simp at h
    refine ⟨_, rfl, ?_⟩
    have tst : ∀ (R : V → Hp → Prop), R (.str (if 0 < a then "up" else "down")) H → (tIf (tTest (tOp (rI0 fun i j => V.bl (decide (j < i))) (tVar 2) (tC (V.int 0)))) (tC (V.str "up")) (tC (V.str "down"))) [some (.str wd), some (.int m), some (.int a), some (.int n), some (.int k), some (.int l), some (.int (l / (a.natAbs : Int)))] H R := fun R r => by
      refine ⟨_, rfl, _, _, rfl, rfl, _, rfl, ite2 (fun d => ?_) (fun d => ?_)⟩
      · rw [if_pos (of_decide_eq_true d)] at r
        exact r
      · rw [if_neg (fun x => d (decide_eq_true x))] at r
        exact r
    refine tst _ ⟨rfl, _, rfl, ite2 (fun d => ?_) (fun d => ?_)⟩
    · have dd : ¬ ((wd = "up" ∧ 0 < a) ∨ (wd = "down" ∧ a < 0)) := fun y => rest _ rfl d ((ty _ rfl).mp y).symm
      refine ⟨_, rfl, _, _, rfl, rfl, _, rfl, .inl ⟨_, rfl, _, _, rfl, rfl, ?_⟩⟩
      unfold per
      rw [if_neg n0, if_neg dd, hl]
      have e : (if l / (a.natAbs : Int) < n - 1 then l / (a.natAbs : Int) else n - 1) = min (n - 1) (l / (a.natAbs : Int)) := by omega
      rw [e]
      rfl
    · have dd : (wd = "up" ∧ 0 < a) ∨ (wd = "down" ∧ a < 0) := (ty _ rfl).mpr (Classical.byContradiction fun y => d (by
        have : decide (V.str wd = V.str (if 0 < a then ("up" : Str) else "down")) = false := decide_eq_false fun x => y (V.str.inj x)
        rw [this]; rfl))
      refine ⟨rfl, ?_⟩
      unfold per
      rw [if_neg n0, if_pos dd, hl]
      rfl
  · rintro σ' H' ⟨rfl, rfl⟩
    exact last _ rfl

end
end K19
end
section
set_option Elab.async false
set_option linter.all false
set_option maxRecDepth 100000
set_option maxHeartbeats 4000000
namespace L2
open PySem PySem.Spec PyProof.Rows
/-! a def run in one setting A (where it is known that no repr is under way) -/
section
variable {CX : CXT} {P : Program} {w : World} {K : PySem.W.Frag} {mg : Str → Option Value} {base : Heap}
theorem fun_at {k : Nat} {f : Addr} {x qual : Str} {params : Arguments} {body : List Stmt} {scope : Scope} {fd : FuncData} {N ps : List Str} {sp : Sp} (D : FunD K x qual params body scope [] [] f fd) (S : FnScope N ps scope)
    (len : ∀ vs H Q E, sp vs H Q E → vs.length = ps.length) (A : Around)
    (red : ∀ (cdv : Value) (outer : List Env) (s : Shared) (H : Hp) (vs : List V) (Q : VK) (E : XK), Room k (A.deeper (envOfC qual scope s.heap.objs.size f cdv)) → sp vs H Q E →
      ∃ t, PSs (cxOf CX P w K mg base N qual scope f cdv A outer s H E) body t ∧ t { nx := fun _ H' => Q .non H', rt := Q } (start N vs) H)
    {outer : List Env} {s : Shared} {H : Hp} {args : Args} {us : List Value} {vs : List V} {Q : VK} {E : XK} (hr : Room (k + 1) A) (e0 : Env0 P w K mg base A outer s H) (hb : BindsTo s fd args (ps.zip us)) (r : Vals vs us) (h : sp vs H Q E) :
    codeAny (model P w) A (.call (.ref f) args) (CR CX outer P w H s Q E) s := by
  obtain ⟨oc, od, dV, kV, doc, pm, an, cdv, ct, osl, rfl, lk, hcd, _, _⟩ := D.ex
  have here : ∀ b o, base.get? b = some o → s.heap.get? b = some o := fun b o z => (e0.bs b o z).1
  have KX : K.In s.heap := e0.mod.kin.keeps here
  have places : ∀ y ∈ ps.zip us, scope.names.lookup y.1 = some .local ∨ (scope.names.lookup y.1 = some .cell ∧ ((cellsFrom (s.heap.objs.size + 1) scope.names []).lookup y.1).isSome = true) := by
    rintro ⟨n, v⟩ hy
    rcases S.par n (List.of_mem_zip hy).1 with z | z
    · exact Or.inl z
    · exact Or.inr ⟨z, PySem.W.cellsFrom_some _ _ _ (Or.inl z)⟩
  refine codeAny_call_function hr.depth (KX _ _ lk) rfl S.co S.gen rfl (PySem.W.codeRec_of KX hcd) (hb _ _ _ _ (wpAny_newFunctionEnv_cells S.kind places fun env he s1 inside => ?_))
  subst he
  refine ⟨(e0.mod.nolimit.keeps here).keeps inside.toInCall.keep, codeAny_func ?_⟩
  obtain ⟨t, ht, hq⟩ := red cdv outer s H vs Q E (hr.deeper _) h
  have I := inv_start (CX := CX) (E := E) S hr.hd e0 (len _ _ _ _ h) r inside
  refine wpAny_mono (ht.run [] s1 (start N vs) H _ I hq) (fun fl s' z => ?_) fun e s' z => z
  match fl, z with
  | .ret u, ⟨v, σ', H', J, rv, q⟩ => exact ⟨v, H', J.os, J.bare, J.base, J.hok, rv, q⟩
  | .next, ⟨σ', H', J, q⟩ => exact ⟨.non, H', J.os, J.bare, J.base, J.hok, rfl, q⟩
  | .brk, ⟨_, _, _, q⟩ => exact q.elim
  | .cont, ⟨_, _, _, q⟩ => exact q.elim
/-- the script among what is tracked, or among the module's own objects -/
theorem script_hp {s₁ : Shared} {a : Addr} {vs : List Value} {ns : List Int} (KX : K.In s₁.heap) (ha : s₁.heap.get? a = some { cls := .type "list", data := .seq vs.toArray }) (hi : IntsAre vs ns) (hl : ns.length ≤ sizeLine) :
    ∃ H : Hp, Only H ∧ SqL K H a (ns.map V.int) ∧ HOk P w H s₁.heap ∧ (∀ b, H b ≠ none → b = a) ∧ (H a ≠ none → K.lookup a = none) := by
  have rv := vals_ints hi
  cases hk : K.lookup a with
  | some o =>
    have z := KX a o hk
    rw [ha] at z
    cases z
    exact ⟨fun _ => none, fun _ => Or.inl rfl, Or.inr ⟨_, vs.toArray, _, hk, rfl, rfl, rfl, by rw [List.size_toArray, hi.length]; exact hl, by simpa using rv⟩, fun b u z => (nomatch z), fun b z => absurd rfl z, fun z => absurd rfl z⟩
  | none =>
    refine ⟨fun b => if b = a then some (.frz { cls := .type "list", data := .seq vs.toArray } (.lst (ns.map V.int))) else none, fun b => ?_, Or.inl (Or.inr ⟨_, if_pos rfl⟩), fun b u z => ?_, fun b z => ?_, fun _ => rfl⟩
    · by_cases e : b = a
      · exact Or.inr ⟨_, _, if_pos e⟩
      · exact Or.inl (if_neg e)
    · have z' : (if b = a then some (HO.frz { cls := .type "list", data := .seq vs.toArray } (.lst (ns.map V.int))) else none) = some u := z
      by_cases e : b = a
      · rw [if_pos e] at z'
        cases z'
        rw [e]
        exact ⟨ha, by rw [List.length_map]; exact hl, vs, _, rv, ha⟩
      · rw [if_neg e] at z'
        cases z'
    · by_cases e : b = a
      · exact e
      · exact absurd (if_neg e) z
/-- the law's call, its def's promise given in the caller's setting alone -/
theorem law_at {fa a : Addr} {s₁ : Shared} {mb : Str → Option Value} {vs : List Value} {ns : List Int}
    (KX : K.In s₁.heap) (hns : s₁.heap.Ns mainGlobals mg) (hb : s₁.heap.Ns builtinsNs mb) (hbb : ∀ x : Str, x ≠ "__name__" → mb x = bootBuiltins x) (hlim : s₁.heap.NoLimit) (hg : s₁.gens = #[])
    (ha : s₁.heap.get? a = some { cls := .type "list", data := .seq vs.toArray }) (hi : IntsAre vs ns) (hl : ns.length ≤ sizeLine)
    (run : ∀ base : Heap, K.In base → base.Ns mainGlobals mg → ∀ H : Hp, Only H → SqL K H a (ns.map V.int) → Env0 P w K mg base callerA [] s₁ H →
      codeAny (model P w) callerA (.call (.ref fa) ⟨[.ref a], []⟩) (CR CX0 [] P w H s₁ (fun v _ => v = .bl true) fun _ _ _ => False) s₁) :
    codeAny (model P w) callerA (.call (.ref fa) ⟨[.ref a], []⟩) (fun r s' => r = .ok (.ret (.bool true)) ∧ OldK s₁.heap s'.heap ∧ s'.os = s₁.os ∧ AllBare s'.gens) s₁ := by
  obtain ⟨H, hO, hS, hok, hA, hK⟩ := script_hp (P := P) (w := w) KX ha hi hl
  have lists : ∀ {b : Addr} {o : Obj} {es : Array DictEntry} {ep : Nat}, s₁.heap.get? b = some o → o.data = .dict es ep → H b = none := by
    intro b o es ep z d
    cases q : H b with
    | none => rfl
    | some u =>
      have e : b = a := hA b (by rw [q]; exact Option.some_ne_none _)
      rw [e, ha] at z
      cases z
      cases d
  have names : ∀ {b : Addr} {m : Str → Option Value}, s₁.heap.Ns b m → (hidT s₁.heap H).Ns b m := fun ⟨o, es, ep, z, d, r⟩ => ⟨o, es, ep, hidT_get z (lists z d), d, r⟩
  have KB : K.In (hidT s₁.heap H) := fun b o z => hidT_get (KX b o z) (by
    cases q : H b with
    | none => rfl
    | some u =>
      have e : b = a := hA b (by rw [q]; exact Option.some_ne_none _)
      rw [e] at z q
      rw [hK (by rw [q]; exact Option.some_ne_none _)] at z
      cases z)
  obtain ⟨mc, l1, l2⟩ := id hlim
  refine codeAny_mono (run _ KB (names hns) H hO hS ⟨rfl, ⟨KB, names hns, ⟨mb, names hb, hbb⟩, mc, names l1, l2⟩, fun b o z => of_hidT z, Nat.le_of_eq (hidT_size _ _), trivial, fun b z => (nomatch z), hok, .of_eq hg⟩) fun r s' z => ?_
  match r, z with
  | .error e, z => exact z.elim
  | .ok .next, z => exact z.elim
  | .ok .brk, z => exact z.elim
  | .ok .cont, z => exact z.elim
  | .ok (.ret u), ⟨v, H', os, bare, un, hok', rv, q⟩ =>
    have q2 : v = .bl true := q
    subst q2
    obtain rfl : u = Value.bool true := rv
    refine ⟨rfl, OldK.of_keep fun b o e => ?_, os, bare⟩
    cases z : H b with
    | none => exact un.keep b o e z (fun y => nomatch y) (fun y => nomatch y)
    | some u =>
      rcases hO b with y | ⟨ob, xs, y⟩
      · rw [z] at y
        cases y
      · obtain ⟨e1, _⟩ := hok b _ y
        obtain ⟨e2, _⟩ := hok' b _ (un.frzs b ob _ y)
        rw [e] at e1
        cases e1
        exact e2
end
end L2
end
section
set_option Elab.async false
set_option linter.all false
set_option maxRecDepth 100000
set_option maxHeartbeats 4000000
namespace L2
open PySem PySem.Spec PyProof.Rows
/-! an own object whose __iter__ gives iter of a tuple that it keeps -/
/-- a tuple's iterator, tracked -/
def ItT (a it : Addr) (i : Nat) : HO := .ext fun h => h.get? it = some { cls := .type "tuple_iterator", data := .fields #[.ref a, .int (i : Nat) 0] }
theorem itT_ok {a it : Addr} {i : Nat} {P : Program} {w : World} {H : Hp} {h : Heap} (e : h.get? it = some { cls := .type "tuple_iterator", data := .fields #[.ref a, .int (i : Nat) 0] }) : ObjOk P w H h it (ItT a it i) := ⟨e, ⟨_, e⟩, fun h1 h2 q k => k _ q⟩
def rIterTN (K : PySem.W.Frag) (n : Nat) : List V → Hp → VK → Prop := fun xs H Q => ∃ (a : Addr) (zs : List V), xs = [.ref a] ∧ SqT K H a zs ∧ ∀ it, H it = none → n ≤ it → Q (.ref it) (upd H it (ItT a it 0))
theorem call_iterTN {X : Cx} : CallR X (.builtin "iter") (rIterTN X.K X.s_0.heap.objs.size) := by
  intro pins s σ H xs us Q I r h
  obtain ⟨a, zs, rfl, hq, q⟩ := h
  obtain ⟨u, rfl, ru⟩ := vals1 r
  obtain rfl : u = Value.ref a := ru
  obtain ⟨its, rv, p, hz⟩ := I.tuple hq
  refine PySem.Calls.call_function_entry rfl rfl PySem.W.kdk_entry_iter (PySem.W.kdk_args_iter (Value.ref a)) ?_
  refine wpAny_bind (wpAny_of_eq (rfl : someArgs "iter" 1 2 { pos := [Value.ref a] } = _) ?_)
  refine wpAny_bind (wpAny_pyIter_tuple p (wpAny_pure ⟨_, rfl, ?_⟩))
  exact ⟨.ref s.heap.objs.size, upd H s.heap.objs.size (ItT a s.heap.objs.size 0), I.laid (fun b u e => Heap.get?_push_of_some _ e) (Nat.le_refl _) (itT_ok (Heap.get?_push_size s.heap rfl)), rfl, q _ (I.hok.fresh (Nat.le_refl _)) I.sz⟩
theorem inst_at {P : Program} {w : World} {H : Hp} {h : Heap} {o C dx : Addr} {fs : List (Str × V)} (hk : HOk P w H h) (ho : H o = some (.ins C dx fs)) : ∃ ox od, PySem.W.InstAt h o ox C od := by
  have z := hk o _ ho
  simp only [ObjOk] at z
  obtain ⟨_, _, _, ho', mA, hn, _⟩ := z
  obtain ⟨od, h1, _⟩ := lookIn_ns hn
  exact ⟨_, some od, ho', rfl, rfl, h1⟩
/-- the call of __iter__, in whatever frame -/
def IterRun (P : Program) (w : World) (K : PySem.W.Frag) (mg : Str → Option Value) (base : Heap) (k : Nat) (C fI : Addr) (fld : Str) : Prop :=
  ∀ (A : Around) (outer : List Env) (s : Shared) (H : Hp) (o a dx : Addr) (fs : List (Str × V)) (xs : List V), Room k A → Env0 P w K mg base A outer s H → H o = some (.ins C dx fs) → fs.lookup fld = some (.ref a) → SqT K H a xs →
    codeAny (model P w) A (.call (.ref fI) ⟨[.ref o], []⟩) (CR CX0 outer P w H s (fun v H' => ∃ it, v = .ref it ∧ H it = none ∧ s.heap.objs.size ≤ it ∧ H' = upd H it (ItT a it 0)) (fun _ _ _ => False)) s
def iOwn (K : PySem.W.Frag) (C : Addr) (fld : Str) (te : TE) : TI := fun σ H R => te σ H fun x H1 => ∃ (o a dx : Addr) (fs : List (Str × V)) (xs : List V), x = .ref o ∧ H1 o = some (.ins C dx fs) ∧ fs.lookup fld = some (.ref a) ∧ SqT K H1 a xs ∧ R (Itt K a) H1
theorem pi_own {X : Cx} {tg e : Expr} {te : TE} {C fI : Addr} {k : Nat} {fld : Str} (he : PE X e te) (iC : PySem.W.findIn X.K (.ref C) "__iter__" = some (some (.ref fI))) (fF : PySem.W.isFn X.K (.ref fI) = true)
    (IR : IterRun X.prog X.w X.K X.mg X.base k C fI fld) (hr : Room k X.A) : PI X tg e (iOwn X.K C fld te) := by
  refine ⟨fun pins s σ H R I h => thn (he.run pins s σ H _ I h) fun v s1 ⟨x, H1, I1, r1, o, a, dx, fs, xs, ex, ho, hl, hq, q⟩ => ?_⟩
  subst ex
  obtain rfl : v = Value.ref o := r1
  obtain ⟨ox, od, inst⟩ := inst_at I1.hok ho
  obtain ⟨m, fr⟩ := I1.fr
  refine PySem.W.owit_iter fr I1.ok.mod.kin inst iC fF (wpAny_call (codeAny_mono (IR X.A X.stack s1 H1 o a dx fs xs hr I1.env0 ho hl hq) fun r s' z => ?_))
  cases r with
  | error er => exact z.elim
  | ok fl =>
    cases fl with
    | next => exact z.elim
    | brk => exact z.elim
    | cont => exact z.elim
    | ret u =>
      obtain ⟨v, H', J, rv, it, rfl, hit, sz, rfl⟩ := I1.after z
      obtain rfl : u = Value.ref it := rv
      have here : upd H1 it (ItT a it 0) it = some (ItT a it 0) := upd_same
      have hobj := (J.hok _ _ here)
      have hget : s'.heap.get? it = some { cls := .type "tuple_iterator", data := .fields #[.ref a, .int (0 : Nat) 0] } := hobj.1
      have isIt : s'.heap.IsTupleIter it a 0 := ⟨_, hget, rfl, rfl⟩
      have J2 := ItX.inv_drop J here
      have fp := ItX.inv_fp J here (Nat.le_trans I1.sz sz)
      rw [ItX.dropH_upd hit] at J2 fp
      refine wpAny_specialOf (r := some (.builtin "tuple_iterator.__next__")) isIt.typeIs ?_ ?_
      · exact F.slot_tuple_iterator_next.lookup
      · exact ⟨it, [it], _, Itt X.K a, H1, rfl, J2, turn_tuple a it, isIt, fun b hb => by rw [List.mem_singleton.mp hb]; exact fp, q⟩
/-- a def run once, its reading at the call's own state -/
theorem fun_once {CX : CXT} {P : Program} {w : World} {K : PySem.W.Frag} {mg : Str → Option Value} {base : Heap} {k : Nat} {f : Addr} {x qual : Str} {params : Arguments} {body : List Stmt} {scope : Scope} {fd : FuncData} {N ps : List Str} (D : FunD K x qual params body scope [] [] f fd) (S : FnScope N ps scope)
    {A : Around} {outer : List Env} {s : Shared} {H : Hp} {args : Args} {us : List Value} {vs : List V} {Q : VK} {E : XK} (hlen : vs.length = ps.length)
    (red : ∀ cdv : Value, Room k (A.deeper (envOfC qual scope s.heap.objs.size f cdv)) → ∃ t, PSs (cxOf CX P w K mg base N qual scope f cdv A outer s H E) body t ∧ t { nx := fun _ H' => Q .non H', rt := Q } (start N vs) H)
    (hr : Room (k + 1) A) (e0 : Env0 P w K mg base A outer s H) (hb : BindsTo s fd args (ps.zip us)) (r : Vals vs us) :
    codeAny (model P w) A (.call (.ref f) args) (CR CX outer P w H s Q E) s := by
  obtain ⟨oc, od, dV, kV, doc, pm, an, cdv, ct, osl, rfl, lk, hcd, _, _⟩ := D.ex
  have here : ∀ b o, base.get? b = some o → s.heap.get? b = some o := fun b o z => (e0.bs b o z).1
  have KX : K.In s.heap := e0.mod.kin.keeps here
  have places : ∀ y ∈ ps.zip us, scope.names.lookup y.1 = some .local ∨ (scope.names.lookup y.1 = some .cell ∧ ((cellsFrom (s.heap.objs.size + 1) scope.names []).lookup y.1).isSome = true) := by
    rintro ⟨n, v⟩ hy
    rcases S.par n (List.of_mem_zip hy).1 with z | z
    · exact Or.inl z
    · exact Or.inr ⟨z, PySem.W.cellsFrom_some _ _ _ (Or.inl z)⟩
  refine codeAny_call_function hr.depth (KX _ _ lk) rfl S.co S.gen rfl (PySem.W.codeRec_of KX hcd) (hb _ _ _ _ (wpAny_newFunctionEnv_cells S.kind places fun env he s1 inside => ?_))
  subst he
  refine ⟨(e0.mod.nolimit.keeps here).keeps inside.toInCall.keep, codeAny_func ?_⟩
  obtain ⟨t, ht, hq⟩ := red cdv (hr.deeper _)
  have I := inv_start (CX := CX) (E := E) S hr.hd e0 hlen r inside
  refine wpAny_mono (ht.run [] s1 (start N vs) H _ I hq) (fun fl s' z => ?_) fun e s' z => z
  match fl, z with
  | .ret u, ⟨v, σ', H', J, rv, q⟩ => exact ⟨v, H', J.os, J.bare, J.base, J.hok, rv, q⟩
  | .next, ⟨σ', H', J, q⟩ => exact ⟨.non, H', J.os, J.bare, J.base, J.hok, rfl, q⟩
  | .brk, ⟨_, _, _, q⟩ => exact q.elim
  | .cont, ⟨_, _, _, q⟩ => exact q.elim
end L2
end
section
set_option Elab.async false
set_option linter.all false
set_option maxRecDepth 100000
set_option maxHeartbeats 4000000
namespace L2
open PySem PySem.Spec PyProof.Rows
/-! len(o) and list(o) of an own object whose __len__ and __iter__ speak of a tuple that it keeps -/
def LenRun (P : Program) (w : World) (K : PySem.W.Frag) (mg : Str → Option Value) (base : Heap) (k : Nat) (C fL : Addr) (fld : Str) : Prop :=
  ∀ (A : Around) (outer : List Env) (s : Shared) (H : Hp) (o a dx : Addr) (fs : List (Str × V)) (xs : List V), Room k A → Env0 P w K mg base A outer s H → H o = some (.ins C dx fs) → fs.lookup fld = some (.ref a) → SqT K H a xs →
    codeAny (model P w) A (.call (.ref fL) ⟨[.ref o], []⟩) (CR CX0 outer P w H s (fun v H' => v = .int (xs.length : Nat) ∧ H' = H) (fun _ _ _ => False)) s
section
variable {X : Cx} {pins : List (Addr × Obj)} {σ : St} {H : Hp} {s : Shared} {C fL fI o a dx : Addr} {k : Nat} {fld : Str} {fs : List (Str × V)} {xs : List V} {A1 : Around}
theorem env0_at {n : Nat} (sb : Sub X n A1) (I : Inv X pins σ H s) : Env0 X.prog X.w X.K X.mg X.base A1 X.stack s H := by
  have e := I.env0
  exact ⟨by rw [sb.fr]; exact e.frames, e.mod, e.bs, e.bsz, e.funs, e.frf, e.hok, e.bare⟩
theorem len_own_at {Q : Value → Shared → Prop} {E : Value → Shared → Prop} (lC : PySem.W.findIn X.K (.ref C) "__len__" = some (some (.ref fL))) (fF : PySem.W.isFn X.K (.ref fL) = true)
    (LR : LenRun X.prog X.w X.K X.mg X.base k C fL fld) (sb : Sub X k A1.in1) (I : Inv X pins σ H s) (ho : H o = some (.ins C dx fs)) (hl : fs.lookup fld = some (.ref a)) (hq : SqT X.K H a xs) (hz : xs.length ≤ sizeLine)
    (h : ∀ s' t, Inv X pins σ H s' → Q (.int (xs.length : Nat) t) s') : wpAny (model X.prog X.w) A1 (call (.builtin "len") [.ref o]) Q E s := by
  obtain ⟨ox, od, inst⟩ := inst_at I.hok ho
  obtain ⟨m, fr⟩ := I.fr
  rw [sizeLine_eq] at hz
  refine PySem.W.len_K fr I.ok.mod.kin inst lC fF (wpAny_call (codeAny_mono (LR A1.in1 X.stack s H o a dx fs xs sb.room (env0_at sb I) ho hl hq) fun r s' z => ?_))
  cases r with
  | error er => exact z.elim
  | ok fl =>
    cases fl with
    | next => exact z.elim
    | brk => exact z.elim
    | cont => exact z.elim
    | ret u =>
      obtain ⟨v, H', J, rv, rfl, rfl⟩ := I.after z
      obtain ⟨t, rfl⟩ := rv
      exact ⟨⟨by omega, by omega⟩, h _ _ (J.tok _)⟩

/-- len(o) -/
def rLenOwn (K : PySem.W.Frag) (C : Addr) (fld : Str) : List V → Hp → VK → Prop := fun ys H Q => ∃ (o a dx : Addr) (fs : List (Str × V)) (xs : List V), ys = [.ref o] ∧ H o = some (.ins C dx fs) ∧ fs.lookup fld = some (.ref a) ∧ SqT K H a xs ∧ Q (.int (xs.length : Nat)) H
theorem call_lenOwn (lC : PySem.W.findIn X.K (.ref C) "__len__" = some (some (.ref fL))) (fF : PySem.W.isFn X.K (.ref fL) = true) (LR : LenRun X.prog X.w X.K X.mg X.base k C fL fld) (hr : Room (k + 1) X.A) : CallR X (.builtin "len") (rLenOwn X.K C fld) := by
  intro pins s σ H xs us Q I r h
  obtain ⟨o, a, dx, fs, ys, rfl, ho, hl, hq, q⟩ := h
  obtain ⟨u, rfl, ru⟩ := vals1 r
  obtain rfl : u = Value.ref o := ru
  obtain ⟨its, rv, p, hz⟩ := I.tuple hq
  have sb : Sub X k X.A.in1 := Sub.in1 (⟨hr, rfl⟩ : Sub X (k + 1) X.A)
  exact len_own_at lC fF LR sb I ho hl hq hz fun s' t J => ⟨.int (ys.length : Nat), H, J, ⟨t, rfl⟩, q⟩
/-- a tuple's iterator poured into a list -/
theorem tup_loop {Rs : Result → Shared → Prop} {it S : Addr} {its : List Value} (hh : A1.in1.handled = none) (rv : Vals xs its) (hz : xs.length ≤ sizeLine)
    (hdone : ∀ s', Inv X pins σ (upd H S (.lst xs)) s' → Rs (.ok (.ret .none)) s') :
    ∀ (n i : Nat) (s : Shared), xs.length - i = n → i ≤ xs.length → Inv X pins σ (upd H S (.lst (xs.take i))) s → s.heap.IsTupleIter it a i → s.heap.IsTuple a its.toArray → a ≠ it → S ≠ it → a ≠ S → FpOk X pins (upd H S (.lst (xs.take i))) it →
      codeAny (model X.prog X.w) A1 (.builtin "list.extend.loop" ⟨[.ref S, .ref it, .none], []⟩) Rs s := by
  have len := rv.length
  intro n
  induction n with
  | zero =>
    intro i s hk hi I hit ht nat nsi nas f
    have hin : i = xs.length := by omega
    refine codeAny_builtin PySem.F.entry_extend_loop ?_
    rw [Around.under_plainId PySem.F.plain_extend_loop _]
    show wpAny _ A1.in1 (pyNext (.ref it) >>= _) _ _ s
    refine wpAny_bind (wpAny_pyNext_tuple_end hh hit ht (by simp only [List.size_toArray, Array.getElem?_eq_none_iff]; omega) fun h' he => ?_)
    have J := I.turnedL (t' := s.toks) (ch := [it]) (fun b o hb e => he b o (fun z => hb (by rw [z]; exact List.mem_singleton.mpr rfl)) e) (fun b hb => by rw [List.mem_singleton.mp hb]; exact f)
    rw [hin, List.take_length] at J
    exact wpAny_pure (hdone _ J)
  | succ n ih =>
    intro i s hk hi I hit ht nat nsi nas f
    have hlt : i < its.length := by omega
    have hu : its[i]? = some its[i] := List.getElem?_eq_getElem hlt
    refine codeAny_builtin PySem.F.entry_extend_loop ?_
    rw [Around.under_plainId PySem.F.plain_extend_loop _]
    show wpAny _ A1.in1 (pyNext (.ref it) >>= _) _ _ s
    refine wpAny_bind (wpAny_pyNext_tuple_item hit ht (x := its[i]) (by rw [List.getElem?_toArray]; exact hu) fun h' hit' sb => ?_)
    have J := I.turnedL (t' := s.toks) (ch := [it]) (fun b o hb e => sb.extBut b o (fun z => hb (by rw [z]; exact List.mem_singleton.mpr rfl)) e) (fun b hb => by rw [List.mem_singleton.mp hb]; exact f)
    obtain ⟨z, its', c, r2, hl2, e⟩ := J.lstM upd_same
    show wpAny _ A1.in1 (updateSeq S (·.push its[i]) >>= _) _ _ _
    have hx : xs[i]? = some xs[i] := List.getElem?_eq_getElem (by omega)
    have tk : xs.take (i + 1) = xs.take i ++ [xs[i]] := by rw [List.take_add_one, hx]; rfl
    have tl : (xs.take i).length = i := by rw [List.length_take]; omega
    have J2 := J.lset (f := (·.push its[i])) (its' := its' ++ [its[i]]) (ys := xs.take (i + 1)) (t' := s.toks) upd_same e (by simp) (by rw [tk]; exact r2.append (.cons (by obtain ⟨u, e1, e2⟩ := rv.get hx; rw [hu] at e1; cases e1; exact e2) .nil)) (by rw [List.length_take]; omega)
    rw [upd_upd] at J2
    have ht' : h'.IsTuple a its.toArray := Heap.IsTuple.extBut ht sb.extBut nat
    refine wpAny_bind (wpAny_updateSeq e rfl (wpAny_pure ⟨plainId_quiet PySem.F.plain_extend_loop _, ?_⟩) (by rw [List.size_toArray]; omega) (by show (its'.toArray.push its[i]).size ≤ sizeLine + 1; rw [Array.size_push, List.size_toArray]; omega))
    have oth : ∀ b o, b ≠ S → h'.get? b = some o → (h'.update S (Obj.mapSeq (·.push its[i]))).get? b = some o := fun b o hb q => (Heap.get?_update_other _ _ (Ne.symm hb)).trans q
    refine ih (i + 1) _ (by omega) (by omega) J2 (hit'.at fun o q => oth it o (Ne.symm nsi) q) (ht'.at fun o q => oth a o nas q) nat nsi nas ⟨?_, f.2⟩
    have := f.1
    rw [upd_ne (Ne.symm nsi)] at this ⊢
    exact this
/-- what is said of the length -/
theorem hint_own {Q : Bool → Shared → Prop} {E : Value → Shared → Prop} (lC : PySem.W.findIn X.K (.ref C) "__len__" = some (some (.ref fL))) (fF : PySem.W.isFn X.K (.ref fL) = true)
    (LR : LenRun X.prog X.w X.K X.mg X.base k C fL fld) (sb : Sub X k A1.in1) (I : Inv X pins σ H s) (ho : H o = some (.ins C dx fs)) (hl : fs.lookup fld = some (.ref a)) (hq : SqT X.K H a xs) (hz : xs.length ≤ sizeLine)
    (h : ∀ s' b, Inv X pins σ H s' → Q b s') : wpAny (model X.prog X.w) A1 (Builtin.List.listLengthHint (.ref o)) Q E s := by
  obtain ⟨ox, od, inst⟩ := inst_at I.hok ho
  unfold Builtin.List.listLengthHint
  refine wpAny_bind (wpAny_bind (inst.type.here ((PySem.W.looks_findIn I.kIn lC).here ?_)))
  refine PySem.W.KFB.if_not rfl ?_
  refine wpAny_ite_true rfl ?_
  refine wpAny_bind (wpAny_rule ?_)
  refine wpAny_bind (wpAny_attempt (len_own_at lC fF LR sb I ho hl hq hz fun s' t J => ?_))
  refine wpAny_bind (m := asInt? _) (wpAny_pure ?_)
  have hz2 : (((xs.length : Nat) : Int)).toNat = xs.length := Int.toNat_natCast _
  have htl : Builtin.List.listTooLong (((xs.length : Nat) : Int)).toNat = false := by rw [hz2]; exact notLongL hz
  exact wpAny_ite_split (fun hab => absurd hab (by rw [htl]; decide)) (fun _ => wpAny_pure (h _ _ J))
theorem sqT_up {K : PySem.W.Frag} {q : Addr} {u : HO} (hq : H q = none ∨ ∃ ys, H q = some (.lst ys)) (h : SqT K H a xs) : SqT K (upd H q u) a xs := by
  rcases h with (h | ⟨v, h⟩) | h
  · exact .inl (.inl (by rw [upd_ne (fun z => by rw [z] at h; rcases hq with e | ⟨ys, e⟩ <;> rw [e] at h <;> cases h)]; exact h))
  · exact .inl (.inr ⟨v, by rw [upd_ne (fun z => by rw [z] at h; rcases hq with e | ⟨ys, e⟩ <;> rw [e] at h <;> cases h)]; exact h⟩)
  · exact .inr h
/-- list(o) -/
def rListOwn (K : PySem.W.Frag) (C : Addr) (fld : Str) : List V → Hp → VK → Prop := fun ys H Q => ∃ (o a dx : Addr) (fs : List (Str × V)) (xs : List V), ys = [.ref o] ∧ H o = some (.ins C dx fs) ∧ fs.lookup fld = some (.ref a) ∧ SqT K H a xs ∧ ∀ q, H q = none → Q (.ref q) (upd H q (.lst xs))
theorem call_listOwnT (lC : PySem.W.findIn X.K (.ref C) "__len__" = some (some (.ref fL))) (lF : PySem.W.isFn X.K (.ref fL) = true) (LR : LenRun X.prog X.w X.K X.mg X.base k C fL fld)
    (iC : PySem.W.findIn X.K (.ref C) "__iter__" = some (some (.ref fI))) (iF : PySem.W.isFn X.K (.ref fI) = true) (IR : IterRun X.prog X.w X.K X.mg X.base k C fI fld) (hc : X.calm = true) (hr : Room (k + 3) X.A) : CallR X (.type "list") (rListOwn X.K C fld) := by
  intro pins s σ H xs us Q I rv h
  obtain ⟨o, a, dx, fs, ys, rfl, ha, hl, hq, q⟩ := h
  obtain ⟨u, rfl, ru⟩ := rv.one
  cases ru
  have sb1 : Sub X (k + 1) X.A.in1.in1 := (Sub.in1 (Sub.in1 (⟨hr, rfl⟩ : Sub X (k + 3) X.A)))
  have hh : X.A.handled = none := I.ok.hd hc
  refine callType_codes (Q₁ := fun obj s₁ => obj = .ref s.heap.objs.size ∧ s₁ = { s with heap := s.heap.push { cls := .type "list", data := .seq #[] } }) PySem.F.called_list (PySem.F.typeCall_list_1 _) PySem.F.entry_list_init
    (code_list_new _ ⟨rfl, rfl⟩) fun obj s₁ h₁ => ?_
  obtain ⟨rfl, rfl⟩ := h₁
  have hS : (s.heap.push { cls := .type "list", data := .seq #[] }).get? s.heap.objs.size = some { cls := .type "list", data := .seq #[] } := Heap.get?_push_size _ rfl
  refine ⟨⟨_, hS, rfl⟩, PySem.F.args_list_init_2 _ _, ?_⟩
  have fr : H s.heap.objs.size = none := I.hok.fresh (Nat.le_refl _)
  have I1 : Inv X pins σ (upd H s.heap.objs.size (.lst [])) { s with heap := s.heap.push { cls := .type "list", data := .seq #[] } } := I.lnew (its := []) (t' := s.toks) .nil (Nat.zero_le _)
  have qf := q _ fr
  have hq1 := sqT_up (u := .lst []) (.inl fr) hq
  have ha1 : upd H s.heap.objs.size (.lst []) o = some (.ins C dx fs) := by rw [upd_ne (ne_of_none ha fr)]; exact ha
  show wpAny _ _ (do let old ← Builtin.List.listItems (.ref s.heap.objs.size); Builtin.List.listUpdate (.ref s.heap.objs.size) (fun _ => #[]); letGo old.toList.reverse; Builtin.List.listExtendWith (.ref s.heap.objs.size) (.ref o) .none) _ _ _
  refine wpAny_bind ?_
  unfold Builtin.List.listItems
  refine wpAny_bind (wpAny_seqItems hS rfl (wpAny_pure ?_))
  show wpAny _ _ (updateSeq s.heap.objs.size (fun _ => #[]) >>= fun _ => letGo (#[] : Array Value).toList.reverse >>= fun _ => Builtin.List.listExtendWith (.ref s.heap.objs.size) (.ref o) .none) _ _ _
  refine wpAny_bind (wpAny_updateSeq hS rfl ?_)
  have I2 := I1.lset (f := fun _ => #[]) (its := []) (its' := []) (ys := []) (t' := s.toks) upd_same hS rfl .nil (Nat.zero_le _)
  rw [upd_upd] at I2
  refine wpAny_bind (wpAny_letGo ?_)
  generalize hS0 : s.heap.objs.size = S at *
  generalize hs2 : ({ heap := (s.heap.push { cls := Value.type "list", data := Data.seq #[] }).update S (Obj.mapSeq fun _ => #[]), gens := s.gens, drawn := s.drawn, toks := s.toks, os := s.os } : Shared) = s2 at I2 ⊢
  obtain ⟨ox, od, inst⟩ := inst_at I2.hok ha1
  obtain ⟨m0, hF⟩ := I2.fr
  have hne : S ≠ o := fun z => by rw [z] at fr; rw [fr] at ha; cases ha
  unfold Builtin.List.listExtendWith
  refine wpAny_bind (inst.type.here ?_)
  have h1 : Builtin.List.listSameRef (.ref S) (.ref o) = false := by simp [Builtin.List.listSameRef, hne]
  have h2 : (Value.ref C == Value.type "list") = false := rfl
  have h3 : (Value.ref C == Value.type "tuple") = false := rfl
  simp only [h1, h2, h3, Bool.or_false, Bool.false_eq_true, if_false]
  refine wpAny_bind (PySem.W.owit_iter hF I2.ok.mod.kin inst iC iF (wpAny_call (codeAny_mono (IR X.A.in1.in1 X.stack s2 _ o a dx fs ys (sb1.room.mono (Nat.le_succ _)) (env0_at sb1 I2) ha1 hl hq1) fun r s' z => ?_)))
  cases r with
  | error er => exact z.elim
  | ok fl =>
    cases fl with
    | next => exact z.elim
    | brk => exact z.elim
    | cont => exact z.elim
    | ret u =>
      obtain ⟨v, H', J, rv, it, rfl, hit, sz, rfl⟩ := I2.after z
      obtain rfl : u = Value.ref it := rv
      have here : upd (upd H S (.lst [])) it (ItT a it 0) it = some (ItT a it 0) := upd_same
      have hobj := (J.hok _ _ here)
      have hget : s'.heap.get? it = some { cls := .type "tuple_iterator", data := .fields #[.ref a, .int (0 : Nat) 0] } := hobj.1
      have isIt : s'.heap.IsTupleIter it a 0 := ⟨_, hget, rfl, rfl⟩
      have hSit : S ≠ it := fun z => by
        rw [← z, upd_same] at hit
        cases hit
      refine wpAny_specialOf (r := some (.builtin "tuple_iterator.__next__")) isIt.typeIs ?_ ?_
      · exact F.slot_tuple_iterator_next.lookup
      have hq2 := sqT_up (u := ItT a it 0) (.inl hit) hq1
      have ito : it ≠ o := fun z => by rw [z, ha1] at hit; cases hit
      have ha2 : upd (upd H S (.lst [])) it (ItT a it 0) o = some (.ins C dx fs) := by rw [upd_ne (Ne.symm ito)]; exact ha1
      obtain ⟨_, _, _, hz⟩ := J.tuple hq2
      refine wpAny_bind (wpAny_holding (hint_own lC lF LR sb1.in1 J ha2 hl hq2 hz fun s3 b J3 => ?_))
      have hobj3 := (J3.hok _ _ here)
      have hget3 : s3.heap.get? it = some { cls := .type "tuple_iterator", data := .fields #[.ref a, .int (0 : Nat) 0] } := hobj3.1
      have isIt3 : s3.heap.IsTupleIter it a 0 := ⟨_, hget3, rfl, rfl⟩
      have J4 := ItX.inv_drop J3 here
      have fp4 := ItX.inv_fp J3 here (Nat.le_trans I2.sz sz)
      rw [ItX.dropH_upd hit] at J4 fp4
      obtain ⟨its, rvs, tupI, _⟩ := J4.tuple hq1
      have nait : a ≠ it := fun e => by
        obtain ⟨ob, hob, hcl, _⟩ := tupI
        rw [e, hget3] at hob
        cases hob
        exact absurd (Value.type.inj hcl) (by decide)
      have naS : a ≠ S := fun e => by
        obtain ⟨ob, hob, hcl, _⟩ := tupI
        obtain ⟨_, its', c, _, _, eS⟩ := J4.lstM upd_same
        rw [e, eS] at hob
        cases hob
        exact absurd (Value.type.inj hcl) (by decide)
      have key := tup_loop (A1 := X.A.in1) (X := X) (pins := pins) (σ := σ) (H := H) (Rs := wants (fun r s₂ => r = .none ∧ EP X pins σ Q (.ref S) s₂) X.xe) (it := it) (S := S) (a := a) hh rvs hz (fun s' I' => ⟨rfl, .ref S, _, I', rfl, qf⟩) ys.length 0
      obtain ⟨z, its4, c4, r4, hl4, e4⟩ := J4.lstM upd_same
      cases r4
      refine wpAny_ite_split (fun _ => ?_) (fun _ => wpAny_pure ⟨plainId_quiet PySem.F.plain_extend_loop _, key s3 rfl (Nat.zero_le _) J4 isIt3 tupI nait hSit naS fp4⟩)
      refine wpAny_bind (wpAny_rule ?_)
      refine wpAny_bind ?_
      show wpAny _ _ (updateSeq S (·.push .none) >>= fun _ => updateSeq S (·.pop)) _ _ _
      refine wpAny_bind (wpAny_updateSeq e4 rfl ?_)
      have K2 := J4.lset (f := (·.push Value.none)) (its' := [Value.none]) (ys := [.non]) (t' := s3.toks) upd_same e4 (by simp) (.cons rfl .nil) (by rw [List.length_singleton, sizeLine_eq]; decide)
      rw [upd_upd] at K2
      obtain ⟨z5, its5, k5, r5, hl5, e5⟩ := K2.lstM upd_same
      obtain ⟨u5, rfl, ru5⟩ := r5.one
      refine wpAny_updateSeq e5 rfl ?_ (by show 1 ≤ sizeLine; rw [sizeLine_eq]; decide) (by show 0 ≤ sizeLine + 1; exact Nat.zero_le _)
      have K3 := K2.lset (f := (·.pop)) (its := [u5]) (its' := []) (ys := []) (t' := s3.toks) upd_same e5 (by rfl) .nil (Nat.zero_le _)
      rw [upd_upd] at K3
      have o1 : ∀ (h : Heap) (f : Obj → Obj) (b : Addr) (ob : Obj), b ≠ S → h.get? b = some ob → (h.update S f).get? b = some ob := fun h f b ob hb q => (Heap.get?_update_other _ _ (Ne.symm hb)).trans q
      refine wpAny_pure ⟨plainId_quiet PySem.F.plain_extend_loop _, key _ rfl (Nat.zero_le _) K3 ?_ ?_ nait hSit naS fp4⟩
      · exact ⟨_, o1 _ _ _ _ (Ne.symm hSit) (o1 _ _ _ _ (Ne.symm hSit) hget3), rfl, rfl⟩
      · obtain ⟨ob, hob, hcl, hd⟩ := tupI
        exact ⟨ob, o1 _ _ _ _ naS (o1 _ _ _ _ naS hob), hcl, hd⟩
end
end L2
end
section
set_option Elab.async false
set_option linter.all false
set_option maxRecDepth 100000
set_option maxHeartbeats 4000000
namespace K19
open PySem PySem.Spec PyProof.Rows L2
open PySem.W (ke_shaped_ints)
local macro_rules | `(tactic| walk_at "go") => `(tactic| first | refine ⟨_, rfl, ?_⟩ | refine .inl ⟨_, rfl, ?_⟩ | refine ⟨_, _, rfl, rfl, (by first | (show (0 : Int) < _; decide) | exact Or.inl ⟨by decide, by decide⟩ | exact Or.inr ⟨by decide, by decide⟩), ?_⟩ | refine ⟨_, _, rfl, rfl, ?_⟩)
section
variable {P : Program} {w : World} {K : PySem.W.Frag} {mg : Str → Option Value} {base : Heap}

theorem dpsI (K : PySem.W.Frag) (H : Hp) : ∀ ns : List Int, DpAll K H (ns.map V.int) (ns.map PyData.int)
  | [] => .nil
  | i :: r => .cons (.int i) (dpsI K H r)
/-- is_moved(pointers, spots, many, laps, kind, places): as the document asks -/
def spIsMoved (K : PySem.W.Frag) : Sp := fun vs H Q _ => ∃ (pa sa qa : Addr) (ps : List Str) (pls : List Int) (wd z z' : Str) (x x' s s' m n : Int), vs = [.ref pa, .ref sa, .int m, .int n, .str wd, .ref qa] ∧ H pa = some (.lst (ps.map V.str)) ∧ H sa = some (.lst [.int s, .int s']) ∧ H qa = some (.lst (pls.map V.int)) ∧ CF.Names ps ∧ pls.length = ps.length ∧
  wd ∈ PL.Copying ∧ (1 ≤ m ∧ m ≤ 16) ∧ (1 ≤ n ∧ n ≤ 5) ∧ (-30 ≤ s ∧ s ≤ 30) ∧ (-30 ≤ s' ∧ s' ≤ 30) ∧ x.natAbs < 2 ^ 180 ∧ x'.natAbs < 2 ^ 180 ∧
  (atI (ps.map V.str) 0 = some (.str z) ∧ atI (ps.map V.str) (-1) = some (.str z') ∧ atI (pls.map V.int) 0 = some (.int x) ∧ atI (pls.map V.int) (-1) = some (.int x')) ∧ z ∈ ps ∧ z' ∈ ps ∧ pls.getD (ps.idxOf z) 0 = x ∧ pls.getD (ps.idxOf z') 0 = x' ∧
  ∀ H', Same H H' → Q (.bl true) H'
abbrev s_is_moved : Stmt := topS 122
theorem sc_is_moved : FnScope ["pointers", "spots", "many", "laps", "kind", "places", "one", "two", "line", "made", "start", "goal", "due", "ahead", "k", "source"] ["pointers", "spots", "many", "laps", "kind", "places"] (defScope s_is_moved) := ⟨rfl, rfl, rfl, by decide +kernel, rfl, by decide +kernel, by decide +kernel⟩
theorem ok_is_moved (T : Txt mg) (D : Def K mg "_law_is_moved" s_is_moved) (Tq : PL.TxtQ K w mg) {LCc CB CP CO : Addr} (C__law_spot_text : Cal P w K mg base 1 "_law_spot_text" ["name", "number"] spSpotText) (C__law_source : Cal P w K mg base 1 "_law_source" ["kind", "many", "ahead", "laps", "k"] spSource) (M_Program : Mkc P w K mg base 10 "Program" CP ["self", "pointers", "text"] (spProgInit K LCc CB CP)) (M_run : MthX P w K mg base CX0 12 CP "run" ["self", "places"] (spProgRun K LCc CB CP CO)) (M_changed : MthX P w K mg base CX0 1 CO "changed" ["self"] (spChanged CO)) (M_reads : MthX P w K mg base CX0 11 CP "reads" ["self", "places"] (spReads K LCc CB CP)) (M_writes : MthX P w K mg base CX0 11 CP "writes" ["self", "places"] (spWrites K LCc CB CP)) : Cal P w K mg base 13 "_law_is_moved" ["pointers", "spots", "many", "laps", "kind", "places"] (spIsMoved K) := by
  refine D.cal sc_is_moved (fun vs H Q E h => ?_) (fun _ _ _ _ _ _ us hl => match us, hl with | [_, _, _, _, _, _], _ => rfl) (fun f cdv A outer s H vs Q E hr h => ?_)
  · obtain ⟨pa, sa, qa, ps, pls, wd, z, z', x, x', s, s', m, n, rfl, _⟩ := h
    rfl
  have hu := hu_of hr

  obtain ⟨pa, sa, qa, ps, pls, wd, z, z', x, x', s1, s2, m, n, rfl, hpa, hsa, hqa, nm, len, hw, ⟨m1, m16⟩, ⟨n1, n5⟩, ⟨k0, k1⟩, ⟨l0, l1⟩, bx, bx', ⟨a1, a2, a3, a4⟩, mz, mz', g, g', k⟩ := h
  have big : sizeLine = 16777216 := sizeLine_eq
  have okz := nm.1 z mz
  have okz' := nm.1 z' mz'
  have hwl : wd.length ≤ 4 := by
    unfold PL.Copying at hw
    simp only [List.mem_cons, List.not_mem_nil, or_false] at hw
    rcases hw with rfl | rfl | rfl <;> decide +kernel
  have q1 := CF.spot_len (k := s1) okz.hi (by omega) (by omega)
  have q2 := CF.spot_len (k := s2) okz'.hi (by omega) (by omega)
  have q3 := CF.num_len3 (i := m) (by omega) (by omega)
  have q4 := CF.num_len3 (i := n) (by omega) (by omega)
  refine ⟨_, (pss_cons (ps_set (i := 6) sc_is_moved.nd rfl (by first | exact Or.inl rfl | exact Or.inr rfl) (pe_cal C__law_spot_text (hr.mono (by decide)) rfl (pa_cons (pe_ix ix_list (pv 0) pe_int (fun _ _ => rfl)) (pa_cons (pe_ix ix_list (pv 1) pe_int (fun _ _ => rfl)) pa_nil))))
      (pss_cons (ps_set (i := 7) sc_is_moved.nd rfl (by first | exact Or.inl rfl | exact Or.inr rfl) (pe_cal C__law_spot_text (hr.mono (by decide)) rfl (pa_cons (pe_ix ix_list (pv 0) (pe_un un_neg pe_int) (fun _ _ => rfl)) (pa_cons (pe_ix ix_list (pv 1) pe_int (fun _ _ => rfl)) pa_nil))))
      (pss_cons (ps_set (i := 8) sc_is_moved.nd rfl (by first | exact Or.inl rfl | exact Or.inr rfl) (pe_join pe_str (pe_lst (pa_cons (pv 4) (pa_cons (pe_callTy call_str_int (by rfl) T.f_str (by decide +kernel) (pa_cons (pv 2) pa_nil)) (pa_cons pe_str (pa_cons (pv 6) (pa_cons pe_str (pa_cons (pv 7) pa_nil)))))))))
      (pss_cons (ps_set (i := 9) sc_is_moved.nd rfl (by first | exact Or.inl rfl | exact Or.inr rfl) (pe_mkc M_Program (hr.mono (by decide)) rfl (pa_cons (pv 0) (pa_cons (pe_op op_add_str (pe_op op_add_str (pe_op op_add_str (pe_op op_add_str pe_str (pe_callTy call_str_int (by rfl) T.f_str (by decide +kernel) (pa_cons (pv 3) pa_nil))) pe_str) (pv 8)) pe_str) pa_nil))))
      (pss_cons (ps_par (i := 10) (j := 11) (by rfl) sc_is_moved.nd rfl rfl (by decide) rfl rfl (pa_cons (pe_op op_add (pe_ix ix_list (pv 5) pe_int (fun _ _ => rfl)) (pe_ix ix_list (pv 1) pe_int (fun _ _ => rfl))) (pa_cons (pe_op op_add (pe_ix ix_list (pv 5) (pe_un un_neg pe_int) (fun _ _ => rfl)) (pe_ix ix_list (pv 1) pe_int (fun _ _ => rfl))) pa_nil)) (by rfl))
      (pss_cons (ps_par (i := 12) (j := 13) (by rfl) sc_is_moved.nd rfl rfl (by decide) rfl rfl (pa_cons pe_dnewK (pa_cons (pe_op op_sub (pv 11) (pv 10)) pa_nil)) (by rfl))
      (pss_cons (ps_for PassesOwn.never rfl (pi_range1 rfl Tq.f_range (pa_cons (pv 2) pa_nil)) (pg_name (i := 14) sc_is_moved.nd rfl (by first | exact Or.inl rfl | exact Or.inr rfl)) (pss_cons (ps_set (i := 15) sc_is_moved.nd rfl (by first | exact Or.inl rfl | exact Or.inr rfl) (pe_op op_add (pv 10) (pe_cal C__law_source (hr.mono (by decide)) rfl (pa_cons (pv 4) (pa_cons (pv 2) (pa_cons (pv 13) (pa_cons (pv 3) (pa_cons (pv 14) pa_nil))))))))
      (pss_one (ps_if (pt_cmpR op_ne (pv 15) (pe_op op_add (pv 11) (pv 14)) (nomark _)) (pss_one (ps_dput hu (pv 12) (pe_op op_add (pv 11) (pv 14)) (pe_op op_add_str pe_str (pe_callTy call_str_int (by rfl) T.f_str (by decide +kernel) (pa_cons (pv 15) pa_nil))) rfl)) pss_nil))))
      (pss_cons (ps_if (pt_cmpR (op_ne_dictA (Nat.lt_of_le_of_lt (Nat.le_add_right _ _) hr.units)) (pe_mth0 M_changed (pe_mth M_run (pv 9) (hr.mono (by decide)) pass0 (pa_cons (pv 5) pa_nil)) (hr.mono (by decide)) pass0) (pv 12) (nomark _)) (pss_one (ps_ret pe_bl)) pss_nil)
      (pss_cons (ps_if (pt_cmpR (op_neD hr.units) (pe_mth M_reads (pv 9) (hr.mono (by decide)) pass0 (pa_cons (pv 5) pa_nil)) (pe_listRB rfl (by rfl) Tq.f_list (prg_2 (by rfl) Tq.f_range (pv 10) (pe_op op_add (pv 10) (pv 2)))) (nomark _)) (pss_one (ps_ret pe_bl)) pss_nil)
      (pss_one (ps_ret (pe_cmpR (op_eqD hr.units) (pe_mth M_writes (pv 9) (hr.mono (by decide)) pass0 (pa_cons (pv 5) pa_nil)) (pe_listRB rfl (by rfl) Tq.f_list (prg_2 (by rfl) Tq.f_range (pv 11) (pe_op op_add (pv 11) (pv 2)))) (nomark _))))))))))))), ?_⟩
  refine ⟨_, rfl, pa, _, _, _, rfl, rfl, SqL.of hpa, a1, _, rfl, sa, _, _, _, rfl, rfl, SqL.of hsa, atI_nat (j := 0) rfl, z, s1, rfl, okz.hi, by omega, by omega, ?_⟩
  refine ⟨_, rfl, _, rfl, pa, _, _, _, rfl, rfl, SqL.of hpa, a2, _, rfl, sa, _, _, _, rfl, rfl, SqL.of hsa, atI_nat (j := 1) rfl, z', s2, rfl, okz'.hi, by omega, by omega, ?_⟩
  refine ⟨⟨_, rfl⟩, _, rfl, _, rfl, _, rfl, CF.log_small3 (by omega) (by omega), _, rfl, _, rfl, by show 6 ≤ sizeLine; decide, fun jl hjl => ?_⟩
  have jn := CF.join_len " " [wd, CF.num m, "from", CF.spot z s1, "to", CF.spot z' s2]
  have e4 : ("from" : Str).length = 4 := by decide +kernel
  have e2 : ("to" : Str).length = 2 := by decide +kernel
  have e1 : (" " : Str).length = 1 := by decide +kernel
  simp only [List.map_cons, List.map_nil, List.sum_cons, List.sum_nil, List.length_cons, List.length_nil, e4, e2, e1] at jn
  have jb : (Txt.join " " [wd, CF.num m, "from", CF.spot z s1, "to", CF.spot z' s2]).length ≤ 100 := by omega
  refine ⟨_, jl, [wd, CF.num m, "from", CF.spot z s1, "to", CF.spot z' s2], rfl, rfl, .inl (SqL.of upd_same), ?_, ?_⟩
  · simp only [List.map_cons, List.map_nil, List.sum_cons, List.sum_nil, List.length_cons, List.length_nil, e4, e2, e1]
    omega
  have sj := Same.new (o := .lst [.str wd, .str (Str.ofString (toString m)), .str "from", .str (CF.spot z s1), .str "to", .str (CF.spot z' s2)]) hjl
  have tx := text1 wd z z' m s1 s2 n
  generalize Txt.join " " [wd, CF.num m, "from", CF.spot z s1, "to", CF.spot z' s2] = line at jb tx ⊢
  obtain ⟨H1, eH1⟩ : ∃ H1, H1 = upd H jl (.lst [.str wd, .str (Str.ofString (toString m)), .str "from", .str (CF.spot z s1), .str "to", .str (CF.spot z' s2)]) := ⟨_, rfl⟩
  rw [← eH1] at sj
  have tl6 : ("times " : Str).length = 6 := by decide +kernel
  have nl1 : ("\n" : Str).length = 1 := by decide +kernel
  have en4 : ("\nend" : Str).length = 4 := by decide +kernel
  refine ⟨_, rfl, _, rfl, _, rfl, CF.log_small3 (i := n) (by omega) (by omega), _, _, rfl, rfl, ?_, _, _, rfl, rfl, ?_, _, rfl, _, _, rfl, rfl, ?_, _, _, rfl, rfl, ?_, fun xo xd hxo hxd nexd => ?_⟩
  · show ("times " : Str).length + (CF.num n).length ≤ sizeLine
    omega
  · show (("times " : Str) ++ CF.num n).length + ("\n" : Str).length ≤ sizeLine
    rw [CF.len_app]
    omega
  · show ((("times " : Str) ++ CF.num n) ++ ("\n" : Str)).length + line.length ≤ sizeLine
    rw [CF.len_app, CF.len_app]
    omega
  · show (((("times " : Str) ++ CF.num n) ++ ("\n" : Str)) ++ line).length + ("\nend" : Str).length ≤ sizeLine
    rw [CF.len_app, CF.len_app, CF.len_app]
    omega
  rw [← eH1] at hxo hxd ⊢
  have P0 := prog1 (wds := noW) (k := s1) (k' := s2) (pls := pls) (wt := false) hw mz mz' len m1 m16 n1 n5
  have P1 := prog1 (wds := noW) (k := s1) (k' := s2) (pls := pls) (wt := true) hw mz mz' len m1 m16 n1 n5
  rw [g, g'] at P0 P1
  refine ⟨xo, xd, pa, ps, prog1T wd z z' m s1 s2 n, noW, by rw [← tx]; rfl, upd_same, .inl (SqL.of ((made_same (o1 := .own xo) (o2 := .ins CP xd []) hxo hxd (But.refl xo _)) _ _ (sj _ _ hpa))), nm, lines1 hw mz mz' m1 m16 k0 k1 l0 l1 n1 n5, P0.tok, by show max (0 + 1) 0 < 2; decide, fun H2 b2 pr => ⟨rfl, ?_⟩⟩
  have sm := sj.trans (made_same hxo hxd b2)
  refine ⟨_, rfl, qa, _, _, _, rfl, rfl, SqL.of (sm _ _ hqa), a3, _, rfl, sa, _, _, _, rfl, rfl, SqL.of (sm _ _ hsa), atI_nat (j := 0) rfl, _, _, rfl, rfl, ?_⟩
  refine ⟨_, rfl, _, rfl, qa, _, _, _, rfl, rfl, SqL.of (sm _ _ hqa), a4, _, rfl, sa, _, _, _, rfl, rfl, SqL.of (sm _ _ hsa), atI_nat (j := 1) rfl, _, _, rfl, rfl, _, _, rfl, ?_⟩
  refine fun dd hdd => ⟨_, rfl, _, rfl, _, _, rfl, rfl, _, _, rfl, ?_⟩
  have sd := Same.new (o := .dK []) hdd
  obtain ⟨S, eS⟩ : ∃ S, S = x + s1 := ⟨_, rfl⟩
  obtain ⟨Tg, eT⟩ : ∃ Tg, Tg = x' + s2 := ⟨_, rfl⟩
  obtain ⟨a, ea⟩ : ∃ a, a = Tg - S := ⟨_, rfl⟩
  rw [← eS, ← eT] at P0 P1
  have SaT : S + a = Tg := by omega
  have bS : S.natAbs ≤ 2 ^ 190 := by omega
  have ba : a.natAbs ≤ 2 ^ 190 := by omega
  have stp : ∀ i : Nat, dueF wd S a m n (i + 1) = if srcK wd S a m n (i : Nat) ≠ Tg + (i : Nat) then putC (dueF wd S a m n i) (Tg + (i : Nat)) (.tx ("@" ++ CF.num (srcK wd S a m n (i : Nat)))) else dueF wd S a m n i := fun i => by
    rw [← SaT]
    rfl
  refine ⟨_, rfl, m, rfl, by omega, by omega, for_range (lo := 0) (n := m.toNat) (fun i σ H' => ∃ (v14 v15 : Option V), σ = [some (.ref pa), some (.ref sa), some (.int m), some (.int n), some (.str wd), some (.ref qa), some (.str (CF.spot z s1)), some (.str (CF.spot z' s2)), some (.str line), some (.ref xo), some (.int S), some (.int Tg), some (.ref dd), some (.int a), v14, v15] ∧ Same H2 H' ∧ H' dd = some (.dK (kv (dueF wd S a m n i))))
    ⟨none, none, by rw [ea, eT, eS]; rfl, sd, upd_same⟩ ?_ ?_⟩
  · rintro i σ H3 hi ⟨v14, v15, rfl, s3, h3⟩
    rw [Int.zero_add]
    have i0 : (0 : Int) ≤ (i : Nat) := by omega
    have i1 : ((i : Nat) : Int) < m := by omega
    refine ⟨_, rfl, _, rfl, _, rfl, _, rfl, _, rfl, _, rfl, wd, m, a, n, _, rfl, i0, i1, m16, n1, n5, Nat.lt_of_le_of_lt ba (by decide), _, _, rfl, rfl, ?_⟩
    have es : S + ((i : Nat) - per wd a m n (i : Nat) * a) = srcK wd S a m n (i : Nat) := rfl
    refine ⟨_, rfl, _, rfl, _, rfl, _, _, rfl, rfl, rfl, _, rfl, ?_⟩
    have st := stp i
    have sl := src_le (wd := wd) (S := S) (a := a) (m := m) (n := n) (b := 2 ^ 190) i0 i1 m16 n1 bS ba
    have fo := far_ok (n := srcK wd S a m n (i : Nat)) (Nat.lt_of_le_of_lt sl (by decide))
    refine ite2 (fun c => ?_) (fun c => ?_)
    · have c1 : srcK wd S a m n (i : Nat) ≠ Tg + (i : Nat) := fun y => by
        have : decide (V.int (S + ((i : Nat) - per wd a m n (i : Nat) * a)) = V.int (Tg + (i : Nat))) = true := decide_eq_true (by rw [es, y])
        change (!decide (V.int (S + ((i : Nat) - per wd a m n (i : Nat) * a)) = V.int (Tg + (i : Nat)))) = true at c
        rw [this] at c
        cases c
      rw [if_pos c1] at st
      have pl : ("@" : Str).length = 1 := by decide +kernel
      refine ⟨_, rfl, _, rfl, fo.1, _, _, rfl, rfl, ?_, _, rfl, _, rfl, _, rfl, _, _, rfl, rfl, dd, _, rfl, DPut.k (k := Sum.inl (Tg + (i : Nat))) h3 ?_, ?_⟩
      · show ("@" : Str).length + (CF.num (srcK wd S a m n (i : Nat))).length ≤ sizeLine
        have := fo.2
        omega
      · rw [kv_len]
        have := due_len (wd := wd) (S := S) (a := a) (m := m) (n := n) i
        omega
      · refine ⟨_, _, rfl, s3.putD hdd, ?_⟩
        rw [upd_same, st, ← kv_put]
        rfl
    · have c1 : ¬ srcK wd S a m n (i : Nat) ≠ Tg + (i : Nat) := fun y => c (by
        have : decide (V.int (S + ((i : Nat) - per wd a m n (i : Nat) * a)) = V.int (Tg + (i : Nat))) = false := decide_eq_false fun q => y (V.int.inj q)
        rw [this]; rfl)
      rw [if_neg c1] at st
      refine ⟨_, _, rfl, s3, ?_⟩
      rw [st]
      exact h3
  · rintro σ H3 ⟨v14, v15, rfl, s3, h3⟩
    have lp := laps (S := S) (a := a) (m := m.toNat) hw n.toNat
    rw [SaT] at lp
    have hc := P0.cells
    obtain ⟨cs, ecs⟩ : ∃ cs, cs = rep (lapC wd ((List.range m.toNat).map fun i => S + (i : Nat)) ((List.range m.toNat).map fun i => Tg + (i : Nat))) n.toNat [] := ⟨_, rfl⟩
    rw [← ecs] at lp hc
    have hmN : ((m.toNat : Nat) : Int) = m := by omega
    have hnN : ((n.toNat : Nat) : Int) = n := by omega
    obtain ⟨dxp, ptp, bp, btp, bsp, regp, v4, v5, v6, hop, _⟩ := id pr
    have hop3 := s3 _ _ hop
    have pr3 := pr.same s3
    have hq3 := (sm.trans s3) _ _ hqa
    have dep : (prog1T wd z z' m s1 s2 n).depth < 2 := by show max (0 + 1) 0 < 2; decide
    -- run
    refine ⟨_, rfl, xo, dxp, _, rfl, hop3, rfl, _, rfl, xo, qa, ps, noW, prog1T wd z z' m s1 s2 n, pls, rfl, pr3, hq3, len, (fun y => by cases y), dep, P0.tok, P0.ok, ?_, ?_, ?_, fun o Dr dxo gao res H4 s4 ho4 hD4 tl => ?_⟩
    · rw [show (runT ps noW (prog1T wd z z' m s1 s2 n) (st0 pls false)).cells = cs from hc]
      exact lp.nd
    · rw [show (runT ps noW (prog1T wd z z' m s1 s2 n) (st0 pls false)).cells = cs from hc]
      intro p hp
      obtain ⟨k, k0, k1, rfl⟩ := lp.cont p hp
      rw [hmN] at k1
      have sl := src_le (wd := wd) (S := S) (a := a) (m := m) (n := n) (b := 2 ^ 190) k0 k1 m16 n1 bS ba
      have fo := far_ok (n := srcK wd S a m n k) (Nat.lt_of_le_of_lt sl (by decide))
      show _ ∧ _
      rw [hmN, hnN, show S + k - per wd a m n k * a = srcK wd S a m n k by unfold srcK; omega]
      exact fo
    · rw [show (runT ps noW (prog1T wd z z' m s1 s2 n) (st0 pls false)).cells = cs from hc]
      have := lp.len
      omega
    rw [show (runT ps noW (prog1T wd z z' m s1 s2 n) (st0 pls false)).cells = cs from hc] at tl
    -- changed
    refine ⟨o, dxo, _, rfl, ho4, rfl, o, Dr, dxo, _, _, rfl, ho4, hD4, fun cq H5 s5 hcq hcq5 => ?_⟩
    have s35 := s4.trans s5
    have lk := due_is m1 n1 lp tl
    have sle := same_len tl.1 (due_nd m.toNat) lk
    refine ⟨_, rfl, cq, dd, _, _, rfl, rfl, hcq5, s35 _ _ h3, by rw [kv_len, kv_len]; exact sle.1, fun p hp => ⟨sle.2 p hp, ?_⟩, _, rfl, iteF ?_⟩
    · obtain ⟨q, _, rfl⟩ := List.mem_map.mp hp
      show flatB q.2.v = true
      cases q.2 <;> rfl
    -- reads
    have s25 := s3.trans s35
    have hop5 := s35 _ _ hop3
    have lg := P1.log rfl
    have sp : ∀ y : Int, (rowL y 0 m).Pairwise (· < ·) := fun y => by
      unfold rowL
      rw [List.pairwise_map]
      exact List.Pairwise.imp (fun h => by omega) List.pairwise_lt_range
    have rv : ∀ y : Int, rgV y (y + m) = (rowL y 0 m).map V.int := fun y => by
      have := rowL_v y 0 m
      rwa [Int.add_zero] at this
    refine ⟨_, rfl, xo, dxp, _, rfl, hop5, rfl, _, rfl, xo, qa, ps, noW, prog1T wd z z' m s1 s2 n, pls, rowL S 0 m, rfl, pr.same s25, (sm.trans s25) _ _ hqa, len, (fun y => by cases y), dep, P1.tok, P1.ok, by rw [rowL_len]; omega, (fun e he k hk => by rw [(lg e).mp he] at hk; exact hk), fun rq rs H6 s6 hrq srt mem => ?_⟩
    have ers : rs = rowL S 0 m := sorted_eq srt (sp S) fun k => by
      rw [mem]
      exact ⟨fun ⟨e, he, hk⟩ => by rw [(lg e).mp he] at hk; exact hk, fun hk => ⟨_, (lg _).mpr rfl, hk⟩⟩
    subst ers
    refine ⟨_, rfl, _, rfl, _, rfl, _, _, rfl, rfl, _, _, rfl, rfl, by show (S + m - S).toNat ≤ 2 ^ 24; omega, fun r1 hr1 => ?_⟩
    have s7 := Same.new (o := .lst (rgV S (S + m))) hr1
    have e7 : upd H6 r1 (.lst (rgV S (S + m))) r1 = some (.lst ((rowL S 0 m).map V.int)) := by rw [← rv S]; exact upd_same
    refine ⟨.list ((rowL S 0 m).map .int), .list ((rowL S 0 m).map .int), .lst (SqL.of (s7 _ _ hrq)) (dpsI _ _ _), .lst (SqL.of e7) (dpsI _ _ _), PySem.W.ke_shaped_ints _, PySem.W.ke_shaped_ints _, _, rfl, ?_⟩
    rw [SeqAt.eqv_refl _ (SeqAt.canLay_of_shaped (PySem.W.ke_shaped_ints _))]
    refine iteF ?_
    -- writes
    have s27 := (s25.trans s6).trans s7
    refine ⟨_, rfl, xo, dxp, _, rfl, s27 _ _ hop, rfl, _, rfl, xo, qa, ps, noW, prog1T wd z z' m s1 s2 n, pls, rowL Tg 0 m, rfl, pr.same s27, (sm.trans s27) _ _ hqa, len, (fun y => by cases y), dep, P1.tok, P1.ok, by rw [rowL_len]; omega, (fun e he k hk => by rw [(lg e).mp he] at hk; exact hk), fun wq ws H8 s8 hwq srt2 mem2 => ?_⟩
    have ews : ws = rowL Tg 0 m := sorted_eq srt2 (sp Tg) fun k => by
      rw [mem2]
      exact ⟨fun ⟨e, he, hk⟩ => by rw [(lg e).mp he] at hk; exact hk, fun hk => ⟨_, (lg _).mpr rfl, hk⟩⟩
    subst ews
    refine ⟨_, rfl, _, rfl, _, rfl, _, _, rfl, rfl, _, _, rfl, rfl, by show (Tg + m - Tg).toNat ≤ 2 ^ 24; omega, fun r2 hr2 => ?_⟩
    have s9 := Same.new (o := .lst (rgV Tg (Tg + m))) hr2
    have e9 : upd H8 r2 (.lst (rgV Tg (Tg + m))) r2 = some (.lst ((rowL Tg 0 m).map V.int)) := by rw [← rv Tg]; exact upd_same
    refine ⟨.list ((rowL Tg 0 m).map .int), .list ((rowL Tg 0 m).map .int), .lst (SqL.of (s9 _ _ hwq)) (dpsI _ _ _), .lst (SqL.of e9) (dpsI _ _ _), PySem.W.ke_shaped_ints _, PySem.W.ke_shaped_ints _, ?_⟩
    rw [SeqAt.eqv_refl _ (SeqAt.canLay_of_shaped (PySem.W.ke_shaped_ints _))]
    exact k _ ((sm.trans s27).trans (s8.trans s9))

end
end K19
end
section
set_option Elab.async false
set_option linter.all false
set_option maxRecDepth 100000
set_option maxHeartbeats 4000000
namespace K19
open PySem PySem.Spec PyProof.Rows L2
open PySem.W (ke_shaped_ints)
local macro_rules | `(tactic| walk_at "go") => `(tactic| first | refine ⟨_, rfl, ?_⟩ | refine .inl ⟨_, rfl, ?_⟩ | refine ⟨_, _, rfl, rfl, (by first | (show (0 : Int) < _; decide) | exact Or.inl ⟨by decide, by decide⟩ | exact Or.inr ⟨by decide, by decide⟩), ?_⟩ | refine ⟨_, _, rfl, rfl, ?_⟩)
section
variable {P : Program} {w : World} {K : PySem.W.Frag} {mg : Str → Option Value} {base : Heap}

theorem pick5 {j : Nat} {v : V} (h : ([.int 1, .int 2, .int 3, .int 5, .int 8] : List V)[j]? = some v) : ∃ n : Nat, v = .int (n : Int) ∧ 1 ≤ n ∧ n ≤ 8 := by
  have hm := List.mem_of_getElem? h
  simp only [List.mem_cons, List.not_mem_nil, or_false] at hm
  rcases hm with rfl | rfl | rfl | rfl | rfl
  · exact ⟨1, rfl, by decide, by decide⟩
  · exact ⟨2, rfl, by decide, by decide⟩
  · exact ⟨3, rfl, by decide, by decide⟩
  · exact ⟨5, rfl, by decide, by decide⟩
  · exact ⟨8, rfl, by decide, by decide⟩
theorem butFree {p q : Addr} {H G : Hp} (b : But p H G) (h : G q = none) (n : q ≠ p) : H q = none := by
  cases e : H q with
  | none => rfl
  | some o => rw [b q o n e] at h; cases h
/-- drawn_on_right(pen, name, place) -/
def spDrawnR : Sp := fun vs H Q _ => ∃ (p l : Addr) (t : Int) (z : Str) (x : Int), vs = [.ref p, .str z, .int x] ∧ Pen H p l t ∧ t ≤ 100000 ∧ CF.NameOk z ∧ x.natAbs < 2 ^ 180 ∧
  ∀ (H' : Hp) (t' : Int), Pen H' p l t' → t ≤ t' → t' ≤ t + 40 → But p H H' → Q (.bl true) H'
abbrev s_drawn_on_right : Stmt := topS 123
theorem sc_drawn_on_right : FnScope ["pen", "name", "place", "width", "many", "j", "numbers", "k", "lines", "start", "goal", "low", "kind", "spots", "due", "n"] ["pen", "name", "place"] (defScope s_drawn_on_right) := ⟨rfl, rfl, rfl, by decide +kernel, rfl, by decide +kernel, by decide +kernel⟩
theorem ok_drawn_on_right (T : Txt mg) (D : Def K mg "_law_drawn_on_right" s_drawn_on_right) (Tq : PL.TxtQ K w mg) {LCc CB CP CO : Addr} (C__law_draw : Cal P w K mg base 1 "_law_draw" ["pen", "span"] spDraw) (C__law_pick : Cal P w K mg base 2 "_law_pick" ["pen", "options"] (spPick K)) (C__law_spot_text : Cal P w K mg base 1 "_law_spot_text" ["name", "number"] spSpotText) (M_Program : Mkc P w K mg base 10 "Program" CP ["self", "pointers", "text"] (spProgInit K LCc CB CP)) (M_run : MthX P w K mg base CX0 12 CP "run" ["self", "places"] (spProgRun K LCc CB CP CO)) (M_changed : MthX P w K mg base CX0 1 CO "changed" ["self"] (spChanged CO)) : Cal P w K mg base 13 "_law_drawn_on_right" ["pen", "name", "place"] spDrawnR := by
  refine D.cal sc_drawn_on_right (fun vs H Q E h => ?_) (fun _ _ _ _ _ _ us hl => match us, hl with | [_, _, _], _ => rfl) (fun f cdv A outer s H vs Q E hr h => ?_)
  · obtain ⟨p, l, t, z, x, rfl, _⟩ := h
    rfl
  have hu := hu_of hr

  obtain ⟨p, l, t, z, x, rfl, pen, ht, nz, bx, k⟩ := h
  have big : sizeLine = 16777216 := sizeLine_eq
  refine ⟨_, (pss_cons (ps_par (i := 3) (j := 4) (by rfl) sc_drawn_on_right.nd rfl rfl (by decide) rfl rfl (pa_cons (pe_cal C__law_pick (hr.mono (by decide)) rfl (pa_cons (pv 0) (pa_cons (pe_lst (pa_cons pe_int (pa_cons pe_int (pa_cons pe_int (pa_cons pe_int (pa_cons pe_int pa_nil)))))) pa_nil))) (pa_cons (pe_op op_add pe_int (pe_cal C__law_draw (hr.mono (by decide)) rfl (pa_cons (pv 0) (pa_cons pe_int pa_nil)))) pa_nil)) (by rfl))
      (pss_cons (ps_par (i := 6) (j := 7) (by rfl) sc_drawn_on_right.nd rfl rfl (by decide) rfl rfl (pa_cons (pe_lc (own := [("j", 5)]) (g := gName 5) (tt := tYes) rfl sc_drawn_on_right.nd (pi_range1 rfl Tq.f_range (pa_cons (pv 3) pa_nil)) (blkOk_by (N := ["pen", "name", "place", "width", "many", "j", "numbers", "k", "lines", "start", "goal", "low", "kind", "spots", "due", "n"]) (sc := defScope s_drawn_on_right) (by decide +kernel)) (fun _ _ _ _ _ => (pg_name (i := 5) sc_drawn_on_right.nd rfl (Or.inl rfl))) (fun _ _ _ _ _ => pts_nil) (fun _ _ _ _ _ => (pe_cal C__law_draw (hr.mono (by decide)) rfl (pa_cons (pv 0) (pa_cons pe_int pa_nil))))) (pa_cons (pe_cal C__law_draw (hr.mono (by decide)) rfl (pa_cons (pv 0) (pa_cons pe_int pa_nil))) pa_nil)) (by rfl))
      (pss_cons (ps_set (i := 8) sc_drawn_on_right.nd rfl (by first | exact Or.inl rfl | exact Or.inr rfl) (pe_lst (pa_cons (pe_op op_add_str pe_str (pe_join pe_str (pe_lc (own := [("n", 15)]) (g := gName 15) (tt := tYes) rfl sc_drawn_on_right.nd (pi_list (pv 6)) (blkOk_by (N := ["pen", "name", "place", "width", "many", "j", "numbers", "k", "lines", "start", "goal", "low", "kind", "spots", "due", "n"]) (sc := defScope s_drawn_on_right) (by decide +kernel)) (fun _ _ _ _ _ => (pg_name (i := 15) sc_drawn_on_right.nd rfl (Or.inl rfl))) (fun _ _ _ _ _ => pts_nil) (fun _ _ _ _ _ => (pe_callTy call_str_int (by rfl) T.f_str (by decide +kernel) (pa_cons (pv 15) pa_nil)))))) pa_nil)))
      (pss_cons (ps_expr (pe_bm PySem.F.plainAttrs_list PySem.F.slot_list_append PySem.F.type_list_append mt_append (pv 8) (pa_cons (pe_op op_add_str pe_str (pe_cal C__law_spot_text (hr.mono (by decide)) rfl (pa_cons (pv 1) (pa_cons (pv 7) pa_nil)))) pa_nil)))
      (pss_cons (ps_par3 (i := 9) (j := 10) (l := 11) (by rfl) sc_drawn_on_right.nd rfl rfl rfl (by decide) (by decide) (by decide) rfl rfl rfl (pa_cons (pv 7) (pa_cons (pe_op op_add (pv 7) (pv 3)) (pa_cons pe_int pa_nil))) (by rfl))
      (pss_cons (ps_set (i := 12) sc_drawn_on_right.nd rfl (by first | exact Or.inl rfl | exact Or.inr rfl) (pe_cal C__law_pick (hr.mono (by decide)) rfl (pa_cons (pv 0) (pa_cons (pe_lst (pa_cons pe_str (pa_cons pe_str pa_nil))) pa_nil))))
      (C8.pss_cut (ps_if (pt_cmpR op_eq (pv 12) pe_str (nomark _)) (pss_one (ps_par3 (i := 9) (j := 10) (l := 11) (by rfl) sc_drawn_on_right.nd rfl rfl rfl (by decide) (by decide) (by decide) rfl rfl rfl (pa_cons (pe_op op_sub (pe_op op_add (pv 7) (pv 3)) (pv 4)) (pa_cons (pe_op op_sub (pv 7) (pv 4)) (pa_cons (pe_un un_neg (pv 4)) pa_nil))) (by rfl))) pss_nil)
      (pss_cons (ps_set (i := 13) sc_drawn_on_right.nd rfl (by first | exact Or.inl rfl | exact Or.inr rfl) (pe_lst (pa_cons (pe_cal C__law_spot_text (hr.mono (by decide)) rfl (pa_cons (pv 1) (pa_cons (pv 9) pa_nil))) (pa_cons pe_str (pa_cons (pe_cal C__law_spot_text (hr.mono (by decide)) rfl (pa_cons (pv 1) (pa_cons (pv 10) pa_nil))) pa_nil)))))
      (pss_cons (ps_expr (pe_bm PySem.F.plainAttrs_list PySem.F.slot_list_append PySem.F.type_list_append mt_append (pv 8) (pa_cons (pe_join pe_str (pe_op op_cat (pe_lst (pa_cons (pv 12) (pa_cons (pe_callTy call_str_int (by rfl) T.f_str (by decide +kernel) (pa_cons (pv 4) pa_nil)) (pa_cons pe_str pa_nil)))) (pv 13))) pa_nil)))
      (pss_cons (ps_set (i := 14) sc_drawn_on_right.nd rfl (by first | exact Or.inl rfl | exact Or.inr rfl) pe_dnewK)
      (pss_cons (ps_for PassesOwn.never rfl (pi_range2 rfl Tq.f_range (pa_cons (pv 11) (pa_cons (pe_op op_add (pe_op op_add (pv 11) (pv 3)) (pv 4)) pa_nil))) (pg_name (i := 5) sc_drawn_on_right.nd rfl (by first | exact Or.inl rfl | exact Or.inr rfl)) (pss_one (ps_dput hu (pv 14) (pe_op op_add (pe_op op_add (pv 2) (pv 7)) (pv 5)) (pe_op op_add_str pe_str (pe_callTy call_str_int (by rfl) T.f_str (by decide +kernel) (pa_cons (pe_ix ix_list (pv 6) (pe_op op_mod (pe_callTy call_int1 (by rfl) T.f_int (by decide +kernel) (pa_cons (pv 5) pa_nil)) (pv 3)) (fun _ _ => rfl)) pa_nil))) rfl)))
      (pss_one (ps_ret (pe_cmpR (op_eq_dictA (Nat.lt_of_le_of_lt (Nat.le_add_right _ _) hr.units)) (pe_mth0 M_changed (pe_mth M_run (pe_mkc M_Program (hr.mono (by decide)) rfl (pa_cons (pe_lst (pa_cons (pv 1) pa_nil)) (pa_cons (pe_join pe_str (pv 8)) pa_nil))) (hr.mono (by decide)) pass0 (pa_cons (pe_lst (pa_cons (pv 2) pa_nil)) pa_nil)) (hr.mono (by decide)) pass0) (pv 14) (nomark _))))))))))))))), ?_⟩
  -- width, many
  refine ⟨_, rfl, by show 5 ≤ sizeLine; decide, fun q1 hq1 => ?_⟩
  obtain ⟨op, hop⟩ := pen.at_
  refine ⟨p, l, q1, t, _, rfl, pen.new hq1, by omega, (ne_of_none hop hq1).symm, .inl (SqL.of upd_same), by show 0 < 5; decide, by show 5 ≤ 1000000; decide, fun j v H1 t1 hv pen1 g1 g2 b1 => ?_⟩
  obtain ⟨wn, rfl, w1, w8⟩ := pick5 hv
  have b1' : But p H H1 := (But.of (Same.new hq1)).trans b1
  refine ⟨_, rfl, p, l, t1, 16, rfl, pen1, by omega, by decide, by decide, fun d H2 t2 d0 d1 pen2 g3 g4 b2 => ⟨_, _, rfl, rfl, _, _, rfl, ?_⟩⟩
  have b2' : But p H H2 := b1'.trans b2
  -- numbers, k
  refine ⟨_, rfl, (wn : Int), rfl, by omega, by omega, fun Dl hDl => lc_it walk_range (fun i H' => ∃ (ns : List Int) (t' : Int), H' Dl = some (.lst (ns.map V.int)) ∧ ns.length = i ∧ (∀ n ∈ ns, 0 ≤ n ∧ n ≤ 255) ∧ Pen H' p l t' ∧ t2 ≤ t' ∧ t' ≤ t2 + i ∧ But p H H')
    ⟨[], t2, upd_same, rfl, by simp, pen2.new hDl, Int.le_refl _, by omega, b2'.trans (But.of (Same.new hDl))⟩ (fun _ _ _ _ => True.intro) ?_ ?_⟩
  · rintro i y H3 H4 hi ⟨ns, t', hD, ln, lo, pen3, g5, g6, b3⟩ ⟨rfl, rfl⟩
    obtain ⟨o2, ho2⟩ := pen2.at_
    have hDp : Dl ≠ p := (ne_of_none ho2 hDl).symm
    have hDL : Dl ≠ l := fun e => by
      obtain ⟨ms, lf, e1, e2, _⟩ := pen2.ex
      rw [e, e2] at hDl
      cases hDl
    have hHD : H Dl = none := butFree b2' hDl hDp
    have hi' : i < wn := by omega
    refine ⟨rfl, _, rfl, p, l, t', 256, rfl, pen3, by omega, by decide, by decide, fun c H6 t6 c0 c1 pen6 g9 g10 b6 => ?_⟩
    refine ⟨_, b6 Dl _ hDp hD, by rw [List.length_map]; omega, ns ++ [c], t6, ?_, by rw [List.length_append, ln]; rfl, ?_, pen6.put hDp hDL, by omega, by omega, (b3.trans b6).put hHD⟩
    · rw [List.map_append]
      exact upd_same
    · intro n hn
      rcases List.mem_append.mp hn with h | h
      · exact lo n h
      · rw [List.mem_singleton.mp h]
        omega
  rintro H3 ⟨ns, t3, hD3, ln, lo, pen3, g5, g6, b3⟩
  have ln' : ns.length = wn := by omega
  clear ln
  refine ⟨_, rfl, p, l, t3, 13, rfl, pen3, by omega, by decide, by decide, fun c H4 t4 c0 c1 pen4 g7 g8 b4 => ⟨_, _, rfl, ?_⟩⟩
  obtain ⟨o2, ho2⟩ := pen2.at_
  have hDp : Dl ≠ p := (ne_of_none ho2 hDl).symm
  have hD4 := b4 Dl _ hDp hD3
  have b4' : But p H H4 := b3.trans b4
  -- lines
  refine ⟨⟨_, rfl⟩, _, rfl, Dl, rfl, ⟨_, SqL.of hD4⟩, fun D2 hD2 => lc_it walk_list (fun i H' => Same H4 H' ∧ H' D2 = some (.lst (((ns.take i).map CF.num).map V.str))) ⟨Same.new hD2, upd_same⟩ (fun i H' _ z => SqL.of (z.1 _ _ hD4)) ?_ ?_⟩
  · rintro i y H5 H6 hi ⟨s5, h5⟩ ⟨rfl, hy⟩
    rw [List.getElem?_map] at hy
    obtain ⟨n, hn, rfl⟩ := Option.map_eq_some_iff.mp hy
    have bn := lo n (List.mem_of_getElem? hn)
    refine ⟨rfl, _, rfl, _, rfl, CF.log_small3 (by omega) (by omega), _, h5, ?_, s5.put hD2, ?_⟩
    · rw [List.length_map, List.length_map, List.length_take]
      omega
    · rw [List.take_add_one, hn, List.map_append, List.map_append]
      exact upd_same
  rintro H5 ⟨s5, h5⟩
  rw [List.length_map, List.take_length] at h5
  have nb : ∀ y ∈ ns.map CF.num, y.length ≤ 4 := fun y hy => by
    obtain ⟨n, hn, rfl⟩ := List.mem_map.mp hy
    have := lo n hn
    exact CF.num_len3 (by omega) (by omega)
  have ysum := CF.sum_le (ws := ns.map CF.num) (b := 4) nb
  have jb := CF.join_len " " (ns.map CF.num)
  have sp1 : (" " : Str).length = 1 := by decide +kernel
  have sx6 : ("set x " : Str).length = 6 := by decide +kernel
  have st8 : ("store x " : Str).length = 8 := by decide +kernel
  rw [sp1, List.length_map] at jb
  rw [List.length_map] at ysum
  refine ⟨_, D2, ns.map CF.num, rfl, rfl, .inl (SqL.of h5), ?_, _, _, rfl, rfl, ?_, by show 1 ≤ sizeLine; decide, fun ll hll => ?_⟩
  · rw [sp1, List.length_map]
    omega
  · show ("set x " : Str).length + (Txt.join " " (ns.map CF.num)).length ≤ sizeLine
    omega
  have pen5 := pen4.same s5
  have b5 : But p H H5 := b4'.trans (But.of s5)
  obtain ⟨o5, ho5⟩ := pen5.at_
  have hlp : ll ≠ p := (ne_of_none ho5 hll).symm
  have hlL : ll ≠ l := fun e => by
    obtain ⟨ms, lf, e1, e2, _⟩ := pen5.ex
    rw [e, e2] at hll
    cases hll
  have hHl : H ll = none := butFree b5 hll hlp
  have hD5 := s5 _ _ hD4
  have hDll : Dl ≠ ll := ne_of_none hD5 hll
  have sl1 := CF.spot_len (k := c) nz.hi (by omega) (by omega)
  refine ⟨_, rfl, .inl ⟨rfl, _, SqL.of upd_same⟩, _, rfl, _, rfl, z, c, rfl, nz.hi, by omega, by omega, _, _, rfl, rfl, ?_, ll, _, _, rfl, rfl, upd_same, by show 1 < sizeLine; decide, ?_⟩
  · show ("store x " : Str).length + (CF.spot z c).length ≤ sizeLine
    omega
  -- start, goal, low; kind
  refine ⟨_, rfl, _, rfl, _, rfl, _, _, rfl, rfl, _, _, _, rfl, ?_⟩
  have pen6 := (pen5.new (o := .lst [.str (("set x " : Str) ++ Txt.join " " (ns.map CF.num))]) hll).put (o := .lst [.str (("set x " : Str) ++ Txt.join " " (ns.map CF.num)), .str (("store x " : Str) ++ CF.spot z c)]) hlp hlL
  have b6 : But p H (upd (upd H5 ll (.lst [.str (("set x " : Str) ++ Txt.join " " (ns.map CF.num))])) ll (.lst [.str (("set x " : Str) ++ Txt.join " " (ns.map CF.num)), .str (("store x " : Str) ++ CF.spot z c)])) := (b5.put hHl).put hHl
  have hl6 : upd (upd H5 ll (.lst [.str (("set x " : Str) ++ Txt.join " " (ns.map CF.num))])) ll (.lst [.str (("set x " : Str) ++ Txt.join " " (ns.map CF.num)), .str (("store x " : Str) ++ CF.spot z c)]) ll = some (.lst [.str (("set x " : Str) ++ Txt.join " " (ns.map CF.num)), .str (("store x " : Str) ++ CF.spot z c)]) := upd_same
  have hD6 : upd (upd H5 ll (.lst [.str (("set x " : Str) ++ Txt.join " " (ns.map CF.num))])) ll (.lst [.str (("set x " : Str) ++ Txt.join " " (ns.map CF.num)), .str (("store x " : Str) ++ CF.spot z c)]) Dl = some (.lst (ns.map V.int)) := (upd_ne hDll).trans ((upd_ne hDll).trans hD5)
  have hHD : H Dl = none := by
    have := b2'
    exact butFree b2' hDl hDp
  obtain ⟨o6, ho6⟩ := pen6.at_
  refine ⟨_, rfl, by show 2 ≤ sizeLine; decide, fun q3 hq3 => ⟨p, l, q3, t4, _, rfl, pen6.new hq3, by omega, (ne_of_none ho6 hq3).symm, .inl (SqL.of upd_same), by show 0 < 2; decide, by show 2 ≤ 1000000; decide, fun j v H7 t7 hv pen7 g9 g10 b7 => ?_⟩⟩
  have hl7 := b7 ll _ hlp ((upd_ne (ne_of_none hl6 hq3)).trans hl6)
  have hD7 := b7 Dl _ hDp ((upd_ne (ne_of_none hD6 hq3)).trans hD6)
  have b7' : But p H H7 := (b6.trans (But.of (Same.new hq3))).trans b7
  clear hl6 hD6 b6 pen6 hq3 b7 ho6
  obtain ⟨wd, rfl, hwd⟩ : ∃ wd : Str, v = .str wd ∧ (wd = "up" ∨ wd = "down") := by
    have hm := List.mem_of_getElem? hv
    simp only [List.mem_cons, List.not_mem_nil, or_false] at hm
    rcases hm with h | h
    · exact ⟨_, h, .inl rfl⟩
    · exact ⟨_, h, .inr rfl⟩
  have up_dn : ("up" : Str) ≠ "down" := by decide +kernel
  have hwl : wd.length ≤ 4 := by rcases hwd with rfl | rfl <;> decide +kernel
  have hw : wd ∈ PL.Copying := by rcases hwd with rfl | rfl <;> decide +kernel
  obtain ⟨m, em⟩ : ∃ m : Int, m = 1 + d := ⟨_, rfl⟩
  obtain ⟨sS, eS⟩ : ∃ s : Int, s = (if wd = "up" then c else c + wn - m) := ⟨_, rfl⟩
  obtain ⟨gG, eG⟩ : ∃ s : Int, s = (if wd = "up" then c + wn else c - m) := ⟨_, rfl⟩
  obtain ⟨lo_, eL⟩ : ∃ s : Int, s = (if wd = "up" then (0 : Int) else -m) := ⟨_, rfl⟩
  have bS : -30 ≤ sS ∧ sS ≤ 30 := by rw [eS]; split <;> omega
  have bG : -30 ≤ gG ∧ gG ≤ 30 := by rw [eG]; split <;> omega
  have bL : -30 ≤ lo_ ∧ lo_ ≤ 0 := by rw [eL]; split <;> omega
  refine ⟨fun σ' H' => H' = H7 ∧ σ' = [some (.ref p), some (.str z), some (.int x), some (.int (wn : Int)), some (.int m), none, some (.ref Dl), some (.int c), some (.ref ll), some (.int sS), some (.int gG), some (.int lo_), some (.str wd), none, none, none], ?_, ?_⟩
  · refine ⟨_, rfl, rfl, _, rfl, ite2 (fun q => ?_) (fun q => ?_)⟩
    · have e : wd = "down" := V.str.inj (of_decide_eq_true q)
      have nu : ¬ wd = "up" := fun y => up_dn (y.symm.trans e)
      rw [if_neg nu] at eS eG eL
      refine ⟨_, rfl, _, rfl, _, _, rfl, rfl, _, rfl, _, _, rfl, rfl, _, rfl, _, rfl, _, _, rfl, rfl, _, rfl, _, rfl, _, _, _, rfl, rfl, ?_⟩
      rw [eS, eG, eL, em]
      rfl
    · have e : wd = "up" := hwd.elim id fun y => absurd (by rw [y]; exact decide_eq_true rfl) q
      rw [if_pos e] at eS eG eL
      refine ⟨rfl, ?_⟩
      rw [eS, eG, eL, em]
      rfl
  rintro σ' H' ⟨rfl, rfl⟩
  clear hq1 hDl hD2
  -- spots
  have q1 := CF.spot_len (k := sS) nz.hi (by omega) (by omega)
  have q2 := CF.spot_len (k := gG) nz.hi (by omega) (by omega)
  have q3' := CF.num_len3 (i := m) (by omega) (by omega)
  refine ⟨_, rfl, _, rfl, z, sS, rfl, nz.hi, by omega, by omega, _, rfl, _, rfl, z, gG, rfl, nz.hi, by omega, by omega, by show 3 ≤ sizeLine; decide, fun sp hsp => ?_⟩
  have s8 := Same.new (o := .lst [.str (CF.spot z sS), .str "to", .str (CF.spot z gG)]) hsp
  refine ⟨_, rfl, .inl ⟨rfl, _, SqL.of (s8 _ _ hl7)⟩, ⟨_, rfl⟩, _, rfl, _, rfl, _, rfl, CF.log_small3 (by omega) (by omega), by show 3 ≤ sizeLine; decide, fun a1 ha1 => ⟨_, rfl, a1, sp, _, _, rfl, rfl, upd_same, (upd_ne (ne_of_none upd_same ha1)).trans upd_same, by show 3 + 3 ≤ sizeLine; decide, fun a2 ha2 => ?_⟩⟩
  have s9 := (s8.trans (Same.new ha1)).trans (Same.new (o := .lst ([.str wd, .str (Str.ofString (toString m)), .str "from"] ++ [.str (CF.spot z sS), .str "to", .str (CF.spot z gG)])) ha2)
  have hl9 := s9 ll _ hl7
  have hD9 := s9 Dl _ hD7
  have pen9 := pen7.same s9
  have b9 : But p H _ := b7'.trans (But.of s9)
  have jn := CF.join_len " " [wd, CF.num m, "from", CF.spot z sS, "to", CF.spot z gG]
  have e4 : ("from" : Str).length = 4 := by decide +kernel
  have e2 : ("to" : Str).length = 2 := by decide +kernel
  simp only [List.map_cons, List.map_nil, List.sum_cons, List.sum_nil, List.length_cons, List.length_nil, e4, e2, sp1] at jn
  have jb2 : (Txt.join " " [wd, CF.num m, "from", CF.spot z sS, "to", CF.spot z gG]).length ≤ 100 := by omega
  refine ⟨_, a2, [wd, CF.num m, "from", CF.spot z sS, "to", CF.spot z gG], rfl, rfl, .inl (SqL.of upd_same), ?_, ll, _, _, rfl, rfl, hl9, by show 2 < sizeLine; decide, ?_⟩
  · simp only [List.map_cons, List.map_nil, List.sum_cons, List.sum_nil, List.length_cons, List.length_nil, e4, e2, sp1]
    omega
  have pen10 := pen9.put (o := .lst [.str (("set x " : Str) ++ Txt.join " " (ns.map CF.num)), .str (("store x " : Str) ++ CF.spot z c), .str (Txt.join " " [wd, CF.num m, "from", CF.spot z sS, "to", CF.spot z gG])]) hlp hlL
  have b10 := b9.put (o := .lst [.str (("set x " : Str) ++ Txt.join " " (ns.map CF.num)), .str (("store x " : Str) ++ CF.spot z c), .str (Txt.join " " [wd, CF.num m, "from", CF.spot z sS, "to", CF.spot z gG])]) hHl
  have hD10 := (upd_ne (o := .lst [.str (("set x " : Str) ++ Txt.join " " (ns.map CF.num)), .str (("store x " : Str) ++ CF.spot z c), .str (Txt.join " " [wd, CF.num m, "from", CF.spot z sS, "to", CF.spot z gG])]) hDll).trans hD9
  obtain ⟨o10, ho10⟩ := pen10.at_
  refine fun dd hdd => ?_
  have hdp : dd ≠ p := (ne_of_none ho10 hdd).symm
  have hdL : dd ≠ l := fun e => by
    obtain ⟨ms, lf, f1, f2, _⟩ := pen10.ex
    have : _ = none := hdd
    rw [e] at hdd
    have f2' := f2.symm.trans hdd
    cases f2'
  have hdl : dd ≠ ll := fun e => by
    have h1 : _ = none := hdd
    rw [e] at hdd
    have f2' := (upd_same (a := ll)).symm.trans hdd
    cases f2'
  have hdD : dd ≠ Dl := (ne_of_none hD10 hdd).symm
  have hHd : H dd = none := butFree b10 hdd hdp
  obtain ⟨hi_, eH⟩ : ∃ y : Int, y = lo_ + wn + m := ⟨_, rfl⟩
  obtain ⟨B, eB⟩ : ∃ y : Int, y = x + c := ⟨_, rfl⟩
  refine ⟨_, rfl, _, rfl, _, rfl, _, _, rfl, rfl, _, rfl, _, _, rfl, rfl, _, _, rfl, ⟨by omega, by omega, by omega, by omega⟩, ?_⟩
  refine for_range (fun i σ H' => ∃ v5 : Option V, σ = [some (.ref p), some (.str z), some (.int x), some (.int (wn : Int)), some (.int m), v5, some (.ref Dl), some (.int c), some (.ref ll), some (.int sS), some (.int gG), some (.int lo_), some (.str wd), some (.ref sp), some (.ref dd), none] ∧
      Pen H' p l t7 ∧ But p H H' ∧ H' Dl = some (.lst (ns.map V.int)) ∧ H' ll = some (.lst ([("set x " : Str) ++ Txt.join " " (ns.map CF.num), ("store x " : Str) ++ CF.spot z c, Txt.join " " [wd, CF.num m, "from", CF.spot z sS, "to", CF.spot z gG]].map V.str)) ∧ H' dd = some (.dK (kv (dueG ns B lo_ i))))
    ⟨none, rfl, pen10.new hdd, b10.trans (But.of (Same.new hdd)), (Same.new hdd) _ _ hD10, (upd_ne hdl.symm).trans upd_same, upd_same⟩ ?_ ?_
  · rintro i σ H8 hi ⟨v5, rfl, pe, be, hDe, hle, hde⟩
    obtain ⟨n, hn, er, eg, _⟩ := ring_ok (by omega) lo (lo_ + (i : Nat))
    have lw : (0 : Int) < (wn : Int) := by omega
    have md : ((lo_ + (i : Nat)) % (wn : Int)) = ((((lo_ + (i : Nat)) % (wn : Int)).toNat : Nat) : Int) := by
      have := Int.emod_nonneg (lo_ + (i : Nat)) (show (wn : Int) ≠ 0 by omega)
      omega
    have lt : ((lo_ + (i : Nat)) % (wn : Int)).toNat < ns.length := by
      have := Int.emod_lt_of_pos (lo_ + (i : Nat)) lw
      omega
    have ga : atI (ns.map V.int) ((lo_ + (i : Nat)) % (wn : Int)) = some (.int n) := by
      rw [md]
      refine atI_nat ?_
      rw [List.getElem?_map, List.getElem?_eq_getElem lt]
      rw [ln', List.getD, List.getElem?_eq_getElem lt] at eg
      rw [← eg]
      rfl
    have bn := lo n hn
    have hs1 : ("#" : Str).length = 1 := by decide +kernel
    have nl := CF.num_len3 (i := n) (by omega) (by omega)
    refine ⟨_, rfl, _, rfl, .inl ⟨_, rfl, _, rfl, _, _, rfl, rfl, lw, Dl, _, _, _, rfl, rfl, SqL.of hDe, ga, _, rfl, CF.log_small3 (by omega) (by omega), _, _, rfl, rfl, ?_, _, rfl, ?_⟩⟩
    · show ("#" : Str).length + (CF.num n).length ≤ sizeLine
      omega
    refine ⟨_, rfl, _, rfl, _, _, rfl, rfl, _, rfl, _, _, rfl, rfl, dd, _, rfl, DPut.k (k := Sum.inl (x + c + (lo_ + (i : Nat)))) hde ?_, ?_⟩
    · rw [kv_len]
      have := dueG_len (ns := ns) (B := B) (lo := lo_) i
      omega
    · refine ⟨_, rfl, pe.put hdp hdL, be.put hHd, (upd_ne hdD.symm).trans hDe, (upd_ne hdl.symm).trans hle, ?_⟩
      rw [upd_same]
      show _ = some (HO.dK (kv (putC (dueG ns B lo_ i) (B + (lo_ + (i : Nat))) (ring ns (lo_ + (i : Nat))))))
      rw [er, ← kv_put, eB]
      rfl
  rintro σ H8 ⟨v5, rfl, pe, be, hDe, hle, hde⟩
  have n1 : 1 ≤ ns.length := by omega
  have n8 : ns.length ≤ 8 := by omega
  have P2 := run2 (x := "x") (z := z) (wd := wd) (ns := ns) (k := c) (m := m) (s := sS) (t := gG) (B := x) (wds := xW ns.length) hwd (by show (if (("x" : Str) = "x") then some (ns.length : Int) else none) = _; rw [if_pos rfl]; rfl) n1 n8 (fun n hn => by have := lo n hn; omega) (by omega) (by omega) (by
    rcases hwd with e | e
    · rw [if_pos e] at eS eG
      exact .inl ⟨e, eS, by rw [eG, ln']⟩
    · have nu : ¬ wd = "up" := fun y => up_dn (y.symm.trans e)
      rw [if_neg nu] at eS eG
      exact .inr ⟨e, by rw [eS, ln'], eG⟩)
  rw [← eL, ← eB] at P2
  rw [ln', ← eH] at P2
  have tx := text2 z wd ns c m sS gG (fun e => by rw [e] at n1; cases n1)
  have LO := lines2 (wd := wd) (z := z) (ns := ns) (m := m) (k := c) (s := sS) (t := gG) hw (by omega) (by omega) (by omega) (by omega) bS.1 bS.2 bG.1 bG.2 n1 n8 lo
  rw [ln'] at LO
  have jb3 := CF.join_len "\n" [("set x " : Str) ++ Txt.join " " (ns.map CF.num), ("store x " : Str) ++ CF.spot z c, Txt.join " " [wd, CF.num m, "from", CF.spot z sS, "to", CF.spot z gG]]
  have nl1 : ("\n" : Str).length = 1 := by decide +kernel
  refine ⟨_, rfl, by show 1 ≤ sizeLine; decide, fun pa hpa => ⟨⟨_, rfl⟩, _, rfl, _, ll, [("set x " : Str) ++ Txt.join " " (ns.map CF.num), ("store x " : Str) ++ CF.spot z c, Txt.join " " [wd, CF.num m, "from", CF.spot z sS, "to", CF.spot z gG]], rfl, rfl, .inl (SqL.of ((Same.new hpa) _ _ hle)), ?_, fun xo xd hxo hxd nexd => ?_⟩⟩
  · simp only [List.map_cons, List.map_nil, List.sum_cons, List.sum_nil, List.length_cons, List.length_nil, CF.len_app, nl1]
    omega
  have nmz : CF.Names [z] := ⟨fun y hy => by rw [List.mem_singleton.mp hy]; exact nz, by simp, by show 1 ≤ 1; decide, by show 1 ≤ 3; decide⟩
  refine ⟨xo, xd, pa, [z], prog2 "x" z wd ns c m sS gG, xW wn, by rw [← tx]; rfl, upd_same, .inl (SqL.of ((made_same (o1 := .own xo) (o2 := .ins CP xd []) hxo hxd (But.refl xo _)) _ _ upd_same)), nmz, LO, P2.tok, by show max (max 0 0) 0 < 2; decide, fun H9 b9' pr => ⟨rfl, ?_⟩⟩
  have s9b := (Same.new (o := .lst [.str z]) hpa).trans (made_same hxo hxd b9')
  obtain ⟨dxp, ptp, bp, btp, bsp, regp, v4, v5', v6, hop9, _⟩ := id pr
  refine ⟨xo, dxp, _, rfl, hop9, rfl, _, rfl, by show 1 ≤ sizeLine; decide, fun qa hqa => ?_⟩
  have s10 := Same.new (o := .lst [.int x]) hqa
  refine ⟨xo, qa, [z], xW wn, prog2 "x" z wd ns c m sS gG, [x], rfl, pr.same s10, upd_same, rfl, (fun y => by cases y), by show max (max 0 0) 0 < 2; decide, P2.tok, P2.ok, P2.nd, P2.cont n1 lo, ?_, fun o Dr dxo gao res H11 s11 ho hD tl => ?_⟩
  · have := P2.len
    omega
  refine ⟨o, dxo, _, rfl, ho, rfl, o, Dr, dxo, _, _, rfl, ho, hD, fun cq H12 s12 hcq hcq2 => ?_⟩
  have sall := ((s9b.trans s10).trans s11).trans s12
  have lk := dueG_is P2 (by omega) tl
  have sle := same_len tl.1 (dueG_nd _) lk
  refine ⟨_, rfl, cq, dd, _, _, rfl, rfl, hcq2, sall _ _ hde, ?_, fun p hp => ⟨?_, ?_⟩, ?_⟩
  · rw [kv_len, kv_len, sle.1, eH]
  · have := sle.2 p hp
    rw [eH] at this
    exact this
  · obtain ⟨q, _, rfl⟩ := List.mem_map.mp hp
    show flatB q.2.v = true
    cases q.2 <;> rfl
  exact k _ t7 (pe.same sall) (by omega) (by omega) (be.trans (But.of sall))

end
end K19
end
section
set_option Elab.async false
set_option linter.all false
set_option maxRecDepth 100000
set_option maxHeartbeats 4000000
namespace K19
open PySem PySem.Spec PyProof.Rows L2
open PySem.W (ke_shaped_ints)
local macro_rules | `(tactic| walk_at "go") => `(tactic| first | refine ⟨_, rfl, ?_⟩ | refine .inl ⟨_, rfl, ?_⟩ | refine ⟨_, _, rfl, rfl, (by first | (show (0 : Int) < _; decide) | exact Or.inl ⟨by decide, by decide⟩ | exact Or.inr ⟨by decide, by decide⟩), ?_⟩ | refine ⟨_, _, rfl, rfl, ?_⟩)
section
variable {P : Program} {w : World} {K : PySem.W.Frag} {mg : Str → Option Value} {base : Heap}

theorem places_of {ps : List Str} (nm : CF.Names ps) (l : ps.length ≤ 2) (base x2 : Int) : ∃ (z z' : Str) (pls : List Int) (x x' : Int), cutV [.int base, .int x2] none (some (ps.length : Int)) = pls.map V.int ∧ pls.length = ps.length ∧ atI (ps.map V.str) 0 = some (.str z) ∧ atI (ps.map V.str) (-1) = some (.str z') ∧ atI (pls.map V.int) 0 = some (.int x) ∧ atI (pls.map V.int) (-1) = some (.int x') ∧
    z ∈ ps ∧ z' ∈ ps ∧ pls.getD (ps.idxOf z) 0 = x ∧ pls.getD (ps.idxOf z') 0 = x' ∧ x = base ∧ (x' = base ∨ x' = x2) := by
  match ps, nm, l with
  | [], nm, _ => exact absurd nm.2.2.1 (by decide)
  | [z], nm, _ => exact ⟨z, z, [base], base, base, rfl, rfl, rfl, rfl, rfl, rfl, List.mem_cons_self, List.mem_cons_self, by rw [List.idxOf_cons_self]; rfl, by rw [List.idxOf_cons_self]; rfl, rfl, .inl rfl⟩
  | [z, y], nm, _ =>
    have e1 : ([z, y] : List Str).idxOf y = 1 := idx_eq nm.2.1 (i := 1) rfl
    exact ⟨z, y, [base, x2], base, x2, rfl, rfl, rfl, rfl, rfl, rfl, List.mem_cons_self, List.mem_cons_of_mem _ List.mem_cons_self, by rw [List.idxOf_cons_self]; rfl, by rw [e1]; rfl, rfl, .inr rfl⟩
  | _ :: _ :: _ :: r, _, l => exact absurd l (by simp)
/-- the law -/
def spLaw (K : PySem.W.Frag) : Sp := fun vs H Q _ => ∃ (a : Addr) (ns : List Int), vs = [.ref a] ∧ SqL K H a (ns.map V.int) ∧ ∀ H', Q (.bl true) H'
abbrev s_law : Stmt := topS 124
theorem sc_law : FnScope ["script", "pen", "turn", "pointers", "many", "laps", "kind", "spots", "base", "ahead", "places"] ["script"] (defScope s_law) := ⟨rfl, rfl, rfl, by decide +kernel, rfl, by decide +kernel, by decide +kernel⟩
theorem law_red (T : Txt mg) (Tq : PL.TxtQ K w mg) (C__law_begun_pen : Cal P w K mg base 1 "_law_begun_pen" ["script"] (spBegun K)) (C__law_draw : Cal P w K mg base 1 "_law_draw" ["pen", "span"] spDraw) (C__law_far_number : Cal P w K mg base 2 "_law_far_number" ["pen"] spFar) (C__law_new_words : Cal P w K mg base 3 "_law_new_words" ["pen", "many"] spNewWords) (C__law_is_moved : Cal P w K mg base 13 "_law_is_moved" ["pointers", "spots", "many", "laps", "kind", "places"] (spIsMoved K)) (C__law_drawn_on_right : Cal P w K mg base 13 "_law_drawn_on_right" ["pen", "name", "place"] spDrawnR)
    (A : Around) (f : Addr) (cdv : Value) (outer : List Env) (s : Shared) (H : Hp) (vs : List V) (Q : VK) (E : XK) (hr : Room 14 (A.deeper (envOfC "law" (defScope s_law) s.heap.objs.size f cdv))) (h : spLaw K vs H Q E) :
    ∃ t, PSs (cxOf CX0 P w K mg base ["script", "pen", "turn", "pointers", "many", "laps", "kind", "spots", "base", "ahead", "places"] "law" (defScope s_law) f cdv A outer s H E).nox (defBody s_law) t ∧ t { nx := fun _ H' => Q .non H', rt := Q } (start ["script", "pen", "turn", "pointers", "many", "laps", "kind", "spots", "base", "ahead", "places"] vs) H := by
  have hu := hu_of hr

  obtain ⟨a, ns, rfl, hS, k⟩ := h
  have big : sizeLine = 16777216 := sizeLine_eq
  have tt42 : (10 : Nat) ^ 42 < 2 ^ 170 := by decide
  refine ⟨_, (pss_cons (ps_set (i := 1) sc_law.nd rfl (by first | exact Or.inl rfl | exact Or.inr rfl) (pe_cal C__law_begun_pen (hr.mono (by decide)) rfl (pa_cons (pv 0) pa_nil)))
      (pss_cons (ps_for PassesOwn.never rfl (pi_range1 rfl Tq.f_range (pa_cons pe_int pa_nil)) (pg_name (i := 2) sc_law.nd rfl (by first | exact Or.inl rfl | exact Or.inr rfl)) (pss_cons (ps_set (i := 3) sc_law.nd rfl (by first | exact Or.inl rfl | exact Or.inr rfl) (pe_cal C__law_new_words (hr.mono (by decide)) rfl (pa_cons (pv 1) (pa_cons (pe_op op_add pe_int (pe_cal C__law_draw (hr.mono (by decide)) rfl (pa_cons (pv 1) (pa_cons pe_int pa_nil)))) pa_nil))))
      (pss_cons (ps_par (i := 4) (j := 5) (by rfl) sc_law.nd rfl rfl (by decide) rfl rfl (pa_cons (pe_op op_add pe_int (pe_cal C__law_draw (hr.mono (by decide)) rfl (pa_cons (pv 1) (pa_cons pe_int pa_nil)))) (pa_cons (pe_op op_add pe_int (pe_cal C__law_draw (hr.mono (by decide)) rfl (pa_cons (pv 1) (pa_cons pe_int pa_nil)))) pa_nil)) (by rfl))
      (pss_cons (ps_set (i := 6) sc_law.nd rfl (by first | exact Or.inl rfl | exact Or.inr rfl) (pe_ix ix_list (pe_lst (pa_cons pe_str (pa_cons pe_str (pa_cons pe_str pa_nil)))) (pe_cal C__law_draw (hr.mono (by decide)) rfl (pa_cons (pv 1) (pa_cons pe_int pa_nil))) (fun _ _ => rfl)))
      (pss_cons (ps_set (i := 7) sc_law.nd rfl (by first | exact Or.inl rfl | exact Or.inr rfl) (pe_lst (pa_cons (pe_op op_sub (pe_cal C__law_draw (hr.mono (by decide)) rfl (pa_cons (pv 1) (pa_cons pe_int pa_nil))) pe_int) (pa_cons (pe_op op_sub (pe_cal C__law_draw (hr.mono (by decide)) rfl (pa_cons (pv 1) (pa_cons pe_int pa_nil))) pe_int) pa_nil))))
      (pss_cons (ps_par (i := 8) (j := 9) (by rfl) sc_law.nd rfl rfl (by decide) rfl rfl (pa_cons (pe_op op_sub (pe_cal C__law_draw (hr.mono (by decide)) rfl (pa_cons (pv 1) (pa_cons pe_int pa_nil))) pe_int) (pa_cons (pe_op op_sub (pe_cal C__law_draw (hr.mono (by decide)) rfl (pa_cons (pv 1) (pa_cons pe_int pa_nil))) pe_int) pa_nil)) (by rfl))
      (C8.pss_cut (ps_if (pt_cmpR op_eq (pe_cal C__law_draw (hr.mono (by decide)) rfl (pa_cons (pv 1) (pa_cons pe_int pa_nil))) pe_int (nomark _)) (pss_one (ps_set (i := 8) sc_law.nd rfl (by first | exact Or.inl rfl | exact Or.inr rfl) (pe_cal C__law_far_number (hr.mono (by decide)) rfl (pa_cons (pv 1) pa_nil)))) pss_nil)
      (C8.pss_cut (ps_if (pt_cmpR op_eq (pe_cal C__law_draw (hr.mono (by decide)) rfl (pa_cons (pv 1) (pa_cons pe_int pa_nil))) pe_int (nomark _)) (pss_one (ps_set (i := 9) sc_law.nd rfl (by first | exact Or.inl rfl | exact Or.inr rfl) (pe_cal C__law_far_number (hr.mono (by decide)) rfl (pa_cons (pv 1) pa_nil)))) pss_nil)
      (pss_cons (ps_set (i := 10) sc_law.nd rfl (by first | exact Or.inl rfl | exact Or.inr rfl) (pe_slice sl_list (pe_lst (pa_cons (pv 8) (pa_cons (pe_op op_sub (pe_op op_add (pe_op op_add (pv 8) (pe_ix ix_list (pv 7) pe_int (fun _ _ => rfl))) (pv 9)) (pe_ix ix_list (pv 7) pe_int (fun _ _ => rfl))) pa_nil))) po_none (po_some (pe_callB call_len (by rfl) T.f_len PySem.boot_len (pa_cons (pv 3) pa_nil)))))
      (C8.pss_cut (ps_if (PW.pt (pw_and (pt_cmpR op_eq (pe_callB call_len (by rfl) T.f_len PySem.boot_len (pa_cons (pv 3) pa_nil)) pe_int (nomark _)) (pw_and1 (pt_cmpR op_lt (pe_callB call_abs (by rfl) T.f_abs (by decide +kernel) (pa_cons (pv 9) pa_nil)) pe_int (nomark _))))) (pss_one (ps_asg (pe_callB (call_max2 rfl) (by rfl) T.f_max (by decide +kernel) (pa_cons (pe_un un_neg pe_int) (pa_cons (pe_callB (call_min2 rfl) (by rfl) Tq.f_min (by decide +kernel) (pa_cons pe_int (pa_cons (pe_callTy call_int1 (by rfl) T.f_int (by decide +kernel) (pa_cons (pe_op op_add (pe_ix ix_list (pv 7) pe_int (fun _ _ => rfl)) (pv 9)) pa_nil)) pa_nil))) pa_nil))) (pg_sub (pv 7) pe_int set_list))) pss_nil)
      (pss_cons (ps_if (pt_not (pt_val (pe_cal C__law_is_moved (hr.mono (by decide)) rfl (pa_cons (pv 3) (pa_cons (pv 7) (pa_cons (pv 4) (pa_cons (pv 5) (pa_cons (pv 6) (pa_cons (pv 10) pa_nil))))))))) (pss_one (ps_ret pe_bl)) pss_nil)
      (pss_one (ps_if (pt_not (pt_val (pe_cal C__law_drawn_on_right (hr.mono (by decide)) rfl (pa_cons (pv 1) (pa_cons (pe_ix ix_list (pv 3) pe_int (fun _ _ => rfl)) (pa_cons (pv 8) pa_nil)))))) (pss_one (ps_ret pe_bl)) pss_nil)))))))))))))
      (pss_one (ps_ret pe_bl)))), ?_⟩
  refine ⟨_, rfl, a, ns, rfl, hS, fun p l H1 _ _ s1 pen => ?_⟩
  refine ⟨8, rfl, by decide, by decide, for_range (lo := 0) (n := 8) (fun i σ H2 => ∃ (v2 v3 v4 v5 v6 v7 v8 v9 v10 : Option V) (t : Int), σ = [some (.ref a), some (.ref p), v2, v3, v4, v5, v6, v7, v8, v9, v10] ∧ Pen H2 p l t ∧ t ≤ 200 * i) ⟨_, _, _, _, _, _, _, _, _, 0, rfl, pen, by simp⟩ ?hs ?hd⟩
  case hd =>
    rintro σ H2 ⟨v2, v3, v4, v5, v6, v7, v8, v9, v10, t, rfl, pen2, ht⟩
    exact k _
  rintro i σ H0 hi ⟨v2, v3, v4, v5, v6, v7, v8, v9, v10, t, rfl, pen, ht⟩
  -- pointers
  refine ⟨_, rfl, _, rfl, p, l, t, 2, rfl, pen, by omega, by decide, by decide, fun d H1 t1 d0 d1 pen1 g1 g2 b1 => ⟨_, _, rfl, rfl, ?_⟩⟩
  refine ⟨p, l, t1, 1 + d, rfl, pen1, by omega, by omega, by omega, fun q ps H2 t2 nm ln pen2 g3 g4 b2 hqn hq => ?_⟩
  have nqp : q ≠ p := fun z => by
    obtain ⟨o, ho⟩ := pen1.at_
    rw [z, ho] at hqn
    cases hqn
  have p2 : ps.length ≤ 2 := by omega
  -- many, laps
  refine ⟨_, rfl, p, l, t2, 16, rfl, pen2, by omega, by decide, by decide, fun dm H3 t3 m0 m1 pen3 g5 g6 b3 => ⟨_, _, rfl, rfl, _, rfl, p, l, t3, 5, rfl, pen3, by omega, by decide, by decide, fun dn H4 t4 n0 n1 pen4 g7 g8 b4 => ⟨_, _, rfl, rfl, _, _, rfl, ?_⟩⟩⟩
  have hq4 := b4 _ _ nqp (b3 _ _ nqp hq)
  -- kind
  refine ⟨by show 3 ≤ sizeLine; decide, fun kl hkl => ?_⟩
  have nkp : kl ≠ p := fun z => by
    obtain ⟨o, ho⟩ := pen4.at_
    rw [z, ho] at hkl
    cases hkl
  refine ⟨_, rfl, p, l, t4, 3, rfl, pen4.new hkl, by omega, by decide, by decide, fun dk H5 t5 k0 k1 pen5 g9 g10 b5 => ?_⟩
  have hk5 := b5 kl _ nkp upd_same
  have hq5 := b5 _ _ nqp ((Same.new hkl) _ _ hq4)
  obtain ⟨wd, hv, hw⟩ : ∃ wd : Str, atI ([.str "copy", .str "up", .str "down"] : List V) dk = some (.str wd) ∧ wd ∈ PL.Copying := by
    have : dk = 0 ∨ dk = 1 ∨ dk = 2 := by omega
    rcases this with rfl | rfl | rfl
    · exact ⟨"copy", rfl, by decide +kernel⟩
    · exact ⟨"up", rfl, by decide +kernel⟩
    · exact ⟨"down", rfl, by decide +kernel⟩
  refine ⟨kl, _, _, _, rfl, rfl, SqL.of hk5, hv, ?_⟩
  -- spots
  refine ⟨_, rfl, p, l, t5, 61, rfl, pen5, by omega, by decide, by decide, fun da H6 t6 a0 a1 pen6 g11 g12 b6 => ⟨_, _, rfl, rfl, _, rfl, p, l, t6, 61, rfl, pen6, by omega, by decide, by decide, fun db H7 t7 c0 c1 pen7 g13 g14 b7 => ⟨_, _, rfl, rfl, by show 2 ≤ sizeLine; decide, fun sl hsl => ?_⟩⟩⟩
  have nsp : sl ≠ p := fun z => by
    obtain ⟨o, ho⟩ := pen7.at_
    rw [z, ho] at hsl
    cases hsl
  have nsl : sl ≠ l := fun z => by
    obtain ⟨ms, lf, f1, f2, _⟩ := pen7.ex
    rw [z, f2] at hsl
    cases hsl
  have hq7 := b7 _ _ nqp (b6 _ _ nqp hq5)
  have nsq : q ≠ sl := ne_of_none hq7 hsl
  have pen7' := pen7.new (o := .lst [.int (da - 30), .int (db - 30)]) hsl
  have hs7 : upd H7 sl (.lst [.int (da - 30), .int (db - 30)]) sl = some (.lst [.int (da - 30), .int (db - 30)]) := upd_same
  have hq7' := (Same.new (o := .lst [.int (da - 30), .int (db - 30)]) hsl) _ _ hq7
  -- base, ahead
  refine ⟨_, rfl, p, l, t7, 201, rfl, pen7', by omega, by decide, by decide, fun de H8 t8 e0 e1 pen8 g15 g16 b8 => ⟨_, _, rfl, rfl, _, rfl, p, l, t8, 41, rfl, pen8, by omega, by decide, by decide, fun df H9 t9 f0 f1 pen9 g17 g18 b9 => ⟨_, _, rfl, rfl, _, _, rfl, ?_⟩⟩⟩
  have hs9 := b9 _ _ nsp (b8 _ _ nsp hs7)
  have hq9 := b9 _ _ nqp (b8 _ _ nqp hq7')
  obtain ⟨m, em⟩ : ∃ m : Int, m = 1 + dm := ⟨_, rfl⟩
  obtain ⟨n, en⟩ : ∃ n : Int, n = 1 + dn := ⟨_, rfl⟩
  obtain ⟨s0, es0⟩ : ∃ s : Int, s = da - 30 := ⟨_, rfl⟩
  obtain ⟨s1, es1⟩ : ∃ s : Int, s = db - 30 := ⟨_, rfl⟩
  refine ⟨fun σ' H' => ∃ (base : Int) (t' : Int), base.natAbs ≤ 2 ^ 170 ∧ σ' = [some (.ref a), some (.ref p), some (.int (0 + (i : Int))), some (.ref q), some (.int m), some (.int n), some (.str wd), some (.ref sl), some (.int base), some (.int (df - 20)), v10] ∧ Pen H' p l t' ∧ t9 ≤ t' ∧ t' ≤ t9 + 10 ∧ But p H9 H', ?_, ?_⟩
  · refine ⟨_, rfl, p, l, t9, 3, rfl, pen9, by omega, by decide, by decide, fun dg H10 t10 _ _ pen10 g19 g20 b10 => ⟨rfl, _, rfl, ite2 (fun _ => ?_) (fun _ => ?_)⟩⟩
    · exact ⟨_, rfl, p, l, t10, rfl, pen10, by omega, fun v H11 t11 bv pen11 g21 g22 b11 => ⟨v, t11, by omega, by rw [em, en]; rfl, pen11, by omega, by omega, b10.trans b11⟩⟩
    · exact ⟨de - 100, t10, by omega, by rw [em, en]; rfl, pen10, by omega, by omega, b10⟩
  rintro σ' H10 ⟨base, t10, bb, rfl, pen10, g19, g20, b10⟩
  have hs10 := b10 _ _ nsp hs9
  have hq10 := b10 _ _ nqp hq9
  refine ⟨fun σ' H' => ∃ (ahead : Int) (t' : Int), ahead.natAbs ≤ 2 ^ 170 ∧ σ' = [some (.ref a), some (.ref p), some (.int (0 + (i : Int))), some (.ref q), some (.int m), some (.int n), some (.str wd), some (.ref sl), some (.int base), some (.int ahead), v10] ∧ Pen H' p l t' ∧ t10 ≤ t' ∧ t' ≤ t10 + 10 ∧ But p H10 H', ?_, ?_⟩
  · refine ⟨_, rfl, p, l, t10, 8, rfl, pen10, by omega, by decide, by decide, fun dg H11 t11 _ _ pen11 g21 g22 b11 => ⟨rfl, _, rfl, ite2 (fun _ => ?_) (fun _ => ?_)⟩⟩
    · exact ⟨_, rfl, p, l, t11, rfl, pen11, by omega, fun v H12 t12 bv pen12 g23 g24 b12 => ⟨v, t12, by omega, rfl, pen12, by omega, by omega, b11.trans b12⟩⟩
    · exact ⟨df - 20, t11, by omega, rfl, pen11, by omega, by omega, b11⟩
  rintro σ' H11 ⟨ahead, t11, ba, rfl, pen11, g21, g22, b11⟩
  have hs11 := b11 _ _ nsp hs10
  have hq11 := b11 _ _ nqp hq10
  rw [← es0, ← es1] at hs11
  have bs0 : -30 ≤ s0 ∧ s0 ≤ 30 := by omega
  have bs1 : -30 ≤ s1 ∧ s1 ≤ 30 := by omega
  -- places
  obtain ⟨z, z', pls, x, x', hcut, plen, a1, a2, a3, a4, mz, mz', gz, gz', ex, ex'⟩ := places_of nm p2 base (base + s0 + ahead - s1)
  refine ⟨_, rfl, _, rfl, _, rfl, sl, _, _, _, rfl, rfl, SqL.of hs11, atI_nat (j := 0) rfl, _, _, rfl, rfl, _, rfl, _, _, rfl, rfl, _, rfl, sl, _, _, _, rfl, rfl, SqL.of hs11, atI_nat (j := 1) rfl, _, _, rfl, rfl, by show 2 ≤ sizeLine; decide, fun pl hpl => ?_⟩
  have s12 := Same.new (o := .lst [.int base, .int (base + s0 + ahead - s1)]) hpl
  refine ⟨_, rfl, _, ps.length, rfl, .inl ⟨_, SqL.of (s12 _ _ hq11), (List.length_map ..).symm⟩, _, rfl, pl, _, rfl, SqL.of upd_same, fun pc hpc => ?_⟩
  have s13 := s12.trans (Same.new (o := .lst (cutV [.int base, .int (base + s0 + ahead - s1)] none (some (ps.length : Int)))) hpc)
  have hpc2 : upd (upd H11 pl (.lst [.int base, .int (base + s0 + ahead - s1)])) pc (.lst (cutV [.int base, .int (base + s0 + ahead - s1)] none (some (ps.length : Int)))) pc = some (.lst (pls.map V.int)) := by rw [upd_same, hcut]
  have hs13 := s13 _ _ hs11
  have hq13 := s13 _ _ hq11
  have pen13 := pen11.same s13
  have npc : pc ≠ sl := fun e => by
    have h1 := s12 _ _ hs11
    have h2 : _ = none := hpc
    rw [e] at hpc
    have h3 := h1.symm.trans hpc
    cases h3
  refine ⟨fun σ' H' => ∃ (s1' : Int), (-30 ≤ s1' ∧ s1' ≤ 30) ∧ σ' = [some (.ref a), some (.ref p), some (.int (0 + (i : Int))), some (.ref q), some (.int m), some (.int n), some (.str wd), some (.ref sl), some (.int base), some (.int ahead), some (.ref pc)] ∧ Pen H' p l t11 ∧ H' sl = some (.lst [.int s0, .int s1']) ∧ H' q = some (.lst (ps.map V.str)) ∧ H' pc = some (.lst (pls.map V.int)), ?_, ?_⟩
  · refine ⟨_, rfl, _, ps.length, rfl, .inl ⟨_, SqL.of hq13, (List.length_map ..).symm⟩, rfl, _, rfl, ite2 (fun _ => ?_) (fun _ => ⟨s1, bs1, rfl, pen13, hs13, hq13, hpc2⟩)⟩
    refine ⟨_, rfl, ahead, rfl, _, _, rfl, rfl, _, rfl, ite2 (fun _ => ?_) (fun _ => ⟨s1, bs1, rfl, pen13, hs13, hq13, hpc2⟩)⟩
    refine ⟨_, rfl, _, rfl, sl, _, _, _, rfl, rfl, SqL.of hs13, atI_nat (j := 0) rfl, _, rfl, _, _, rfl, rfl, .inl ⟨_, rfl, _, _, rfl, _, _, rfl, ?_⟩⟩
    refine ⟨_, rfl, sl, _, _, 1, rfl, rfl, hs13, rfl, ?_⟩
    refine ⟨_, ?_, rfl, pen13.put nsp nsl, upd_same, (upd_ne nsq).trans hq13, (upd_ne npc).trans hpc2⟩
    split <;> split <;> omega
  rintro σ' H14 ⟨s1', bs1', rfl, pen14, hs14, hq14, hpc14⟩
  -- is_moved
  refine ⟨_, rfl, _, rfl, _, rfl, _, rfl, _, rfl, _, rfl, q, sl, pc, ps, pls, wd, z, z', x, x', s0, s1', m, n, rfl, hq14, hs14, hpc14, nm, plen, hw, ⟨by omega, by omega⟩, ⟨by omega, by omega⟩, bs0, bs1', by omega, by omega, ⟨a1, a2, a3, a4⟩, mz, mz', gz, gz', fun H15 s15 => ⟨_, rfl, iteF ?_⟩⟩
  -- drawn_on_right
  refine ⟨_, rfl, _, rfl, q, _, _, _, rfl, rfl, SqL.of (s15 _ _ hq14), a1, _, rfl, p, l, t11, z, base, rfl, pen14.same s15, by omega, nm.1 z mz, by omega, fun H16 t16 pen16 g23 g24 b16 => ⟨_, rfl, iteF ?_⟩⟩
  exact ⟨_, _, _, _, _, _, _, _, _, t16, rfl, pen16, by omega⟩
end
end K19
end
section
set_option Elab.async false
set_option linter.all false
set_option maxRecDepth 100000
set_option maxHeartbeats 0
namespace K19
open PySem PySem.Spec PyProof.Rows L2
def d_begun_pen : He.DefD := ⟨("_law_begun_pen", none), "_law_begun_pen", "_law_begun_pen", defArgs s_begun_pen, defBody s_begun_pen, defScope s_begun_pen, [], []⟩
def d_draw : He.DefD := ⟨("_law_draw", none), "_law_draw", "_law_draw", defArgs s_draw, defBody s_draw, defScope s_draw, [], []⟩
def d_pick : He.DefD := ⟨("_law_pick", none), "_law_pick", "_law_pick", defArgs s_pick, defBody s_pick, defScope s_pick, [], []⟩
def d_far_number : He.DefD := ⟨("_law_far_number", none), "_law_far_number", "_law_far_number", defArgs s_far_number, defBody s_far_number, defScope s_far_number, [], []⟩
def d_spot_text : He.DefD := ⟨("_law_spot_text", none), "_law_spot_text", "_law_spot_text", defArgs s_spot_text, defBody s_spot_text, defScope s_spot_text, [], []⟩
def d_barred : He.DefD := ⟨("_law_barred", none), "_law_barred", "_law_barred", defArgs s_barred, defBody s_barred, defScope s_barred, [], []⟩
def d_lis_name : He.DefD := ⟨("_law_is_name", none), "_law_is_name", "_law_is_name", defArgs s_lis_name, defBody s_lis_name, defScope s_lis_name, [], []⟩
def d_new_words : He.DefD := ⟨("_law_new_words", none), "_law_new_words", "_law_new_words", defArgs s_new_words, defBody s_new_words, defScope s_new_words, [], []⟩
def d_source : He.DefD := ⟨("_law_source", none), "_law_source", "_law_source", defArgs s_source, defBody s_source, defScope s_source, [], []⟩
def d_is_moved : He.DefD := ⟨("_law_is_moved", none), "_law_is_moved", "_law_is_moved", defArgs s_is_moved, defBody s_is_moved, defScope s_is_moved, [], []⟩
def d_drawn_on_right : He.DefD := ⟨("_law_drawn_on_right", none), "_law_drawn_on_right", "_law_drawn_on_right", defArgs s_drawn_on_right, defBody s_drawn_on_right, defScope s_drawn_on_right, [], []⟩
def d_lines_of : He.DefD := ⟨("lines_of", none), "lines_of", "lines_of", defArgs s_lines_of, defBody s_lines_of, defScope s_lines_of, [], []⟩
def d_is_name : He.DefD := ⟨("is_name", none), "is_name", "is_name", defArgs s_is_name, defBody s_is_name, defScope s_is_name, [], []⟩
def d_read_pointers : He.DefD := ⟨("read_pointers", none), "read_pointers", "read_pointers", defArgs s_read_pointers, defBody s_read_pointers, defScope s_read_pointers, [], []⟩
def d_read_number : He.DefD := ⟨("read_number", none), "read_number", "read_number", defArgs s_read_number, defBody s_read_number, defScope s_read_number, [], []⟩
def d_read_pointer : He.DefD := ⟨("read_pointer", none), "read_pointer", "read_pointer", defArgs s_read_pointer, defBody s_read_pointer, defScope s_read_pointer, [], []⟩
def d_read_spot : He.DefD := ⟨("read_spot", none), "read_spot", "read_spot", defArgs s_read_spot, defBody s_read_spot, defScope s_read_spot, [], []⟩
def d_far_of : He.DefD := ⟨("far_of", none), "far_of", "far_of", defArgs s_far_of, defBody s_far_of, defScope s_far_of, [], []⟩
def d_modulus_of : He.DefD := ⟨("modulus_of", none), "modulus_of", "modulus_of", defArgs s_modulus_of, defBody s_modulus_of, defScope s_modulus_of, [], []⟩
def d_read_line : He.DefD := ⟨("read_line", none), "read_line", "read_line", defArgs s_read_line, defBody s_read_line, defScope s_read_line, [], []⟩
def d_kinds_of : He.DefD := ⟨("kinds_of", none), "kinds_of", "kinds_of", defArgs s_kinds_of, defBody s_kinds_of, defScope s_kinds_of, [], []⟩
def d_read_word : He.DefD := ⟨("read_word", none), "read_word", "read_word", defArgs s_read_word, defBody s_read_word, defScope s_read_word, [], []⟩
def d_read_rows : He.DefD := ⟨("read_rows", none), "read_rows", "read_rows", defArgs s_read_rows, defBody s_read_rows, defScope s_read_rows, [], []⟩
def d_formed_rows : He.DefD := ⟨("formed_rows", none), "formed_rows", "formed_rows", defArgs s_formed_rows, defBody s_formed_rows, defScope s_formed_rows, [], []⟩
def d_placed_rows : He.DefD := ⟨("placed_rows", none), "placed_rows", "placed_rows", defArgs s_placed_rows, defBody s_placed_rows, defScope s_placed_rows, [], []⟩
def d_may_stand : He.DefD := ⟨("may_stand", none), "may_stand", "may_stand", defArgs s_may_stand, defBody s_may_stand, defScope s_may_stand, [], []⟩
def d_used_rows : He.DefD := ⟨("used_rows", none), "used_rows", "used_rows", defArgs s_used_rows, defBody s_used_rows, defScope s_used_rows, [], []⟩
def d_misuses : He.DefD := ⟨("misuses", none), "misuses", "misuses", defArgs s_misuses, defBody s_misuses, defScope s_misuses, [], []⟩
def d_width_of : He.DefD := ⟨("width_of", none), "width_of", "width_of", defArgs s_width_of, defBody s_width_of, defScope s_width_of, [], []⟩
def d_block_of : He.DefD := ⟨("block_of", none), "block_of", "block_of", defArgs s_block_of, defBody s_block_of, defScope s_block_of, [], []⟩
def d_source_of : He.DefD := ⟨("source_of", none), "source_of", "source_of", defArgs s_source_of, defBody s_source_of, defScope s_source_of, [], []⟩
def d_target_of : He.DefD := ⟨("target_of", none), "target_of", "target_of", defArgs s_target_of, defBody s_target_of, defScope s_target_of, [], []⟩
def d_offsets_of : He.DefD := ⟨("offsets_of", none), "offsets_of", "offsets_of", defArgs s_offsets_of, defBody s_offsets_of, defScope s_offsets_of, [], []⟩
def d_reach_of : He.DefD := ⟨("reach_of", none), "reach_of", "reach_of", defArgs s_reach_of, defBody s_reach_of, defScope s_reach_of, [], []⟩
def d_block_moves : He.DefD := ⟨("block_moves", none), "block_moves", "block_moves", defArgs s_block_moves, defBody s_block_moves, defScope s_block_moves, [], []⟩
def d_line_moves : He.DefD := ⟨("line_moves", none), "line_moves", "line_moves", defArgs s_line_moves, defBody s_line_moves, defScope s_line_moves, [], []⟩
def d_both_moves : He.DefD := ⟨("both_moves", none), "both_moves", "both_moves", defArgs s_both_moves, defBody s_both_moves, defScope s_both_moves, [], []⟩
def d_repeated_moves : He.DefD := ⟨("repeated_moves", none), "repeated_moves", "repeated_moves", defArgs s_repeated_moves, defBody s_repeated_moves, defScope s_repeated_moves, [], []⟩
def d_spans_moves : He.DefD := ⟨("spans_moves", none), "spans_moves", "spans_moves", defArgs s_spans_moves, defBody s_spans_moves, defScope s_spans_moves, [], []⟩
def d_read_body : He.DefD := ⟨("read_body", none), "read_body", "read_body", defArgs s_read_body, defBody s_read_body, defScope s_read_body, [], []⟩
def d_move_each : He.DefD := ⟨("move_each", none), "move_each", "move_each", defArgs s_move_each, defBody s_move_each, defScope s_move_each, [], []⟩
def d_do_copy : He.DefD := ⟨("do_copy", none), "do_copy", "do_copy", defArgs s_do_copy, defBody s_do_copy, defScope s_do_copy, [], []⟩
def d_do_up : He.DefD := ⟨("do_up", none), "do_up", "do_up", defArgs s_do_up, defBody s_do_up, defScope s_do_up, [], []⟩
def d_do_down : He.DefD := ⟨("do_down", none), "do_down", "do_down", defArgs s_do_down, defBody s_do_down, defScope s_do_down, [], []⟩
def d_do_store : He.DefD := ⟨("do_store", none), "do_store", "do_store", defArgs s_do_store, defBody s_do_store, defScope s_do_store, [], []⟩
def d_do_set : He.DefD := ⟨("do_set", none), "do_set", "do_set", defArgs s_do_set, defBody s_do_set, defScope s_do_set, [], []⟩
def d_do_line : He.DefD := ⟨("do_line", none), "do_line", "do_line", defArgs s_do_line, defBody s_do_line, defScope s_do_line, [], []⟩
def d_do_block : He.DefD := ⟨("do_block", none), "do_block", "do_block", defArgs s_do_block, defBody s_do_block, defScope s_do_block, [], []⟩
def d_do_parts : He.DefD := ⟨("do_parts", none), "do_parts", "do_parts", defArgs s_do_parts, defBody s_do_parts, defScope s_do_parts, [], []⟩
def d_blocks_at : He.DefD := ⟨("blocks_at", none), "blocks_at", "blocks_at", defArgs s_blocks_at, defBody s_blocks_at, defScope s_blocks_at, [], []⟩
def d_whole_run : He.DefD := ⟨("whole_run", none), "whole_run", "whole_run", defArgs s_whole_run, defBody s_whole_run, defScope s_whole_run, [], []⟩
def d_ending : He.DefD := ⟨("ending", none), "ending", "ending", defArgs s_ending, defBody s_ending, defScope s_ending, [], []⟩
def d_text_of : He.DefD := ⟨("text_of", none), "text_of", "text_of", defArgs s_text_of, defBody s_text_of, defScope s_text_of, [], []⟩
def d_check_places : He.DefD := ⟨("check_places", none), "check_places", "check_places", defArgs s_check_places, defBody s_check_places, defScope s_check_places, [], []⟩
def d_law : He.DefD := ⟨("law", none), "law", "law", defArgs s_law, defBody s_law, defScope s_law, [], []⟩
def d_Line___init__ : He.DefD := ⟨("Line", some "__init__"), "__init__", "Line.__init__", defArgs s_Line___init__, defBody s_Line___init__, defScope s_Line___init__, [], []⟩
def d_Body___init__ : He.DefD := ⟨("Body", some "__init__"), "__init__", "Body.__init__", defArgs s_Body___init__, defBody s_Body___init__, defScope s_Body___init__, [], []⟩
def d_Program___init__ : He.DefD := ⟨("Program", some "__init__"), "__init__", "Program.__init__", defArgs s_Program___init__, defBody s_Program___init__, defScope s_Program___init__, [], []⟩
def d_Run___init__ : He.DefD := ⟨("Run", some "__init__"), "__init__", "Run.__init__", defArgs s_Run___init__, defBody s_Run___init__, defScope s_Run___init__, [], []⟩
def d_Outcome___init__ : He.DefD := ⟨("Outcome", some "__init__"), "__init__", "Outcome.__init__", defArgs s_Outcome___init__, defBody s_Outcome___init__, defScope s_Outcome___init__, [], []⟩
def d_Run_begin : He.DefD := ⟨("Run", some "begin"), "begin", "Run.begin", defArgs s_Run_begin, defBody s_Run_begin, defScope s_Run_begin, [], []⟩
def d_Run_row : He.DefD := ⟨("Run", some "row"), "row", "Run.row", defArgs s_Run_row, defBody s_Run_row, defScope s_Run_row, [], []⟩
def d_Run_taken : He.DefD := ⟨("Run", some "taken"), "taken", "Run.taken", defArgs s_Run_taken, defBody s_Run_taken, defScope s_Run_taken, [], []⟩
def d_Run_put : He.DefD := ⟨("Run", some "put"), "put", "Run.put", defArgs s_Run_put, defBody s_Run_put, defScope s_Run_put, [], []⟩
def d_Run_note : He.DefD := ⟨("Run", some "note"), "note", "Run.note", defArgs s_Run_note, defBody s_Run_note, defScope s_Run_note, [], []⟩
def d_Program_run : He.DefD := ⟨("Program", some "run"), "run", "Program.run", defArgs s_Program_run, defBody s_Program_run, defScope s_Program_run, [], []⟩
def d_Program_reads : He.DefD := ⟨("Program", some "reads"), "reads", "Program.reads", defArgs s_Program_reads, defBody s_Program_reads, defScope s_Program_reads, [], []⟩
def d_Program_writes : He.DefD := ⟨("Program", some "writes"), "writes", "Program.writes", defArgs s_Program_writes, defBody s_Program_writes, defScope s_Program_writes, [], []⟩
def d_Outcome_changed : He.DefD := ⟨("Outcome", some "changed"), "changed", "Outcome.changed", defArgs s_Outcome_changed, defBody s_Outcome_changed, defScope s_Outcome_changed, [], []⟩
def fn : List He.DefD := [d_begun_pen, d_draw, d_pick, d_far_number, d_spot_text, d_barred, d_lis_name, d_new_words, d_source, d_is_moved, d_drawn_on_right, d_lines_of, d_is_name, d_read_pointers, d_read_number, d_read_pointer, d_read_spot, d_far_of, d_modulus_of, d_read_line, d_kinds_of, d_read_word, d_read_rows, d_formed_rows, d_placed_rows, d_may_stand, d_used_rows, d_misuses, d_width_of, d_block_of, d_source_of, d_target_of, d_offsets_of, d_reach_of, d_block_moves, d_line_moves, d_both_moves, d_repeated_moves, d_spans_moves, d_read_body, d_move_each, d_do_copy, d_do_up, d_do_down, d_do_store, d_do_set, d_do_line, d_do_block, d_do_parts, d_blocks_at, d_whole_run, d_ending, d_text_of, d_check_places, d_law, d_Line___init__, d_Body___init__, d_Program___init__, d_Run___init__, d_Outcome___init__, d_Run_begin, d_Run_row, d_Run_taken, d_Run_put, d_Run_note, d_Program_run, d_Program_reads, d_Program_writes, d_Outcome_changed]
def fa0 : List He.Fa := [.glo "_law_begun_pen", .glo "_law_draw", .glo "_law_pick", .glo "_law_far_number", .glo "_law_spot_text", .glo "_law_barred", .glo "_law_is_name", .glo "_law_new_words", .glo "_law_source", .glo "_law_is_moved", .glo "_law_drawn_on_right", .glo "lines_of", .glo "is_name", .glo "read_pointers", .glo "read_number", .glo "read_pointer", .glo "read_spot", .glo "far_of", .glo "modulus_of", .glo "read_line", .glo "kinds_of", .glo "read_word", .glo "read_rows", .glo "formed_rows", .glo "placed_rows"]
def fa1 : List He.Fa := [.glo "may_stand", .glo "used_rows", .glo "misuses", .glo "width_of", .glo "block_of", .glo "source_of", .glo "target_of", .glo "offsets_of", .glo "reach_of", .glo "block_moves", .glo "line_moves", .glo "both_moves", .glo "repeated_moves", .glo "spans_moves", .glo "read_body", .glo "move_each", .glo "do_copy", .glo "do_up", .glo "do_down", .glo "do_store", .glo "do_set", .glo "do_line", .glo "do_block", .glo "do_parts", .glo "blocks_at"]
def fa2 : List He.Fa := [.glo "whole_run", .glo "ending", .glo "text_of", .glo "check_places", .glo "law", .glo "Line", .glo "Body", .glo "Program", .glo "Run", .glo "Outcome", .glo "RESERVED", .glo "MODULI", .glo "OPENING", .glo "SETTING", .glo "COPYING", .glo "FIXED", .glo "CHUNKS", .glo "RANGES", .glo "FORMS", .glo "USED", .glo "DEEDS", .glo "Guard", .free "int", .free "len", .free "abs"]
def fa3 : List He.Fa := [.free "list", .free "range", .free "tuple", .free "isinstance", .free "str", .free "max", .free "all", .free "any", .free "min", .free "enumerate", .free "zip", .free "sorted", .free "dict", .free "bool", .free "sum", .int "LONGEST_NAME" (12), .int "MOST_POINTERS" (3), .int "FARTHEST_SPOT" (30), .int "LONGEST_NUMBER" (3), .int "FARTHEST" (40), .int "MOST_CELLS" (16), .int "MOST_SET" (8), .int "MOST_GIVEN" (4), .int "MOST_LINES" (40), .int "MOST_OPEN" (5)]
def fa4 : List He.Fa := [.int "WIDEST" (16), .int "MOST_TIMES" (5), .str "LETTERS" "abcdefghijklmnopqrstuvwxyz", .cls "Line", .mkr "Line", .cls "Body", .mkr "Body", .cls "Program", .mkr "Program", .cls "Run", .mkr "Run", .cls "Outcome", .mkr "Outcome", .noat "Line" "number", .noat "Line" "word", .noat "Line" "told", .noat "Line" "source", .noat "Line" "target", .noat "Line" "inner", .noat "Line" "other", .noat "Body" "parts", .noat "Body" "offsets", .noat "Body" "reach", .noat "Body" "far", .noat "Body" "modulus"]
def fa5 : List He.Fa := [.noat "Body" "calls", .noat "Body" "has_registers", .noat "Program" "pointers", .noat "Program" "text", .noat "Program" "body", .noat "Program" "reach", .noat "Program" "far", .noat "Program" "modulus", .noat "Run" "origin", .noat "Run" "places", .noat "Run" "cells", .noat "Run" "held", .noat "Run" "given", .noat "Run" "watched", .noat "Run" "log", .noat "Outcome" "given", .noat "Outcome" "cells", .meth "Run" "begin", .meth "Run" "row", .meth "Run" "taken", .meth "Run" "put", .meth "Run" "note", .meth "Program" "run", .meth "Program" "reads", .meth "Program" "writes"]
def fa6 : List He.Fa := [.meth "Outcome" "changed"]
def fa : List He.Fa := fa0 ++ (fa1 ++ (fa2 ++ (fa3 ++ (fa4 ++ (fa5 ++ (fa6))))))
/-- a written tuple of texts, of ints -/
def tupB (K : PySem.W.Frag) (x : Str) (ok : Array Value → Bool) : Bool := match K.lookup (He.ga K x) with
  | some ⟨.type t, _, .seq its _, _⟩ => decide (t = "tuple") && ok its
  | _ => false
def strsB (zs : List Str) (its : Array Value) : Bool := decide (its.toList.map (fun v => match v with | .str z _ => some z | _ => none) = zs.map some)
def intsB (zs : List Int) (its : Array Value) : Bool := decide (its.toList.map (fun v => match v with | .int z _ => some z | _ => none) = zs.map some)
theorem vals_strs : ∀ {zs : List Str} {its : List Value}, its.map (fun v => match v with | .str z _ => some z | _ => none) = zs.map some → Vals (zs.map V.str) its
  | [], [], _ => .nil
  | [], _ :: _, h => by cases h
  | _ :: _, [], h => by cases h
  | z :: r, v :: its, h => by
    rw [List.map_cons, List.map_cons, List.cons.injEq] at h
    obtain ⟨h1, h2⟩ := h
    refine .cons ?_ (vals_strs h2)
    revert h1
    cases v <;> intro h1 <;> first | (cases h1; exact ⟨_, rfl⟩) | cases h1
theorem vals_ints : ∀ {zs : List Int} {its : List Value}, its.map (fun v => match v with | .int z _ => some z | _ => none) = zs.map some → Vals (zs.map V.int) its
  | [], [], _ => .nil
  | [], _ :: _, h => by cases h
  | _ :: _, [], h => by cases h
  | z :: r, v :: its, h => by
    rw [List.map_cons, List.map_cons, List.cons.injEq] at h
    obtain ⟨h1, h2⟩ := h
    refine .cons ?_ (vals_ints h2)
    revert h1
    cases v <;> intro h1 <;> first | (cases h1; exact ⟨_, rfl⟩) | cases h1
theorem tupB_ok {K : PySem.W.Frag} {x : Str} {ok : Array Value → Bool} (h : tupB K x ok = true) : ∃ o its n, K.lookup (He.ga K x) = some o ∧ o.cls = .type "tuple" ∧ o.data = .seq its n ∧ ok its = true := by
  unfold tupB at h
  revert h
  split
  · rename_i t d its n sl e
    intro h
    simp only [Bool.and_eq_true, decide_eq_true_eq] at h
    obtain ⟨rfl, h2⟩ := h
    exact ⟨_, its, n, e, rfl, rfl, h2⟩
  · intro h
    cases h
theorem tupS_ok {K : PySem.W.Frag} {x : Str} {zs : List Str} (hz : zs.length ≤ 1000) (h : tupB K x (strsB zs) = true) (H : Hp) : SqT K H (He.ga K x) (zs.map V.str) := by
  obtain ⟨o, its, n, e1, e2, e3, e4⟩ := tupB_ok h
  have r := vals_strs (of_decide_eq_true e4)
  exact .inr ⟨o, its, n, e1, e2, e3, by have h1 := r.length; have h2 : its.toList.length = its.size := Array.length_toList; rw [List.length_map] at h1; rw [sizeLine_eq]; omega, r⟩
theorem tupI_ok {K : PySem.W.Frag} {x : Str} {zs : List Int} (hz : zs.length ≤ 1000) (h : tupB K x (intsB zs) = true) (H : Hp) : SqT K H (He.ga K x) (zs.map V.int) := by
  obtain ⟨o, its, n, e1, e2, e3, e4⟩ := tupB_ok h
  have r := vals_ints (of_decide_eq_true e4)
  exact .inr ⟨o, its, n, e1, e2, e3, by have h1 := r.length; have h2 : its.toList.length = its.size := Array.length_toList; rw [List.length_map] at h1; rw [sizeLine_eq]; omega, r⟩
def exB (K : PySem.W.Frag) : Bool := tupB K "RESERVED" (strsB CF.Reserved) && (tupB K "MODULI" (intsB [2, 4, 8]) && (tupB K "OPENING" (strsB PL.Opening) && (tupB K "SETTING" (strsB PL.Setting) && (tupB K "COPYING" (strsB PL.Copying) && (tupB K "FIXED" (strsB PL.Fixed) && (tupB K "CHUNKS" (intsB [1, 2, 4, 8]) && (decide (He.ga K "Body" ≠ He.ga K "Program") && (decide (He.ga K "Line" ≠ He.ga K "Program") && (dictP K "RANGES" PL.ranges && (dictS K "FORMS" PL.forms && (dictP K "USED" PL.useds && (dictN K "USED" ["input", "load", "set", "copy", "up", "down", "step"] && (dictF K "DEEDS" [("copy", "do_copy"), ("up", "do_up"), ("down", "do_down"), ("store", "do_store"), ("set", "do_set")] && (decide (PySem.W.kitOne K (.type "tuple") (.ref (He.ga K "Guard")) = some false)))))))))))))))
/-- what stands at the top's end, the statics and the written dicts with it -/
abbrev R : PySem.W.OpenRow := PySem.W.OpenLaw.row PySem.Challenge.rw_partlymet_k19_whole_smears
def ts : List He.Tab := [(fun K => He.ga K "RANGES", ["wide", "many", "index", "cell", "jump", "laps", "chunk"]), (fun K => He.ga K "FORMS", ["input", "load", "store", "join", "part", "each", "copy", "up", "down", "fill", "step", "times", "else", "end"]), (fun K => He.ga K "USED", ["store", "each", "fill", "give", "join", "part"]), (fun K => He.ga K "DEEDS", ["load", "store", "set", "join", "part", "each", "copy", "up", "down", "fill", "step"])]
def ofA (g : Addr → Option Obj) (a : Addr) : List Addr := match g a with
  | some o => He.refsD o
  | none => []
def isC (g : Addr → Option Obj) (a : Addr) : Bool := match g a with
  | some ⟨_, _, .cls _, _⟩ => true
  | _ => false
def frL {α : Sort _} : List Addr → (List Addr → α) → α
  | [], k => k []
  | a :: as, k => HandSHeadRun.frNat a fun a => frL as fun as => k (a :: as)
/-- the names' objects, what they name, the classes' methods and their code: the numbers in normal form -/
def asK (g : Addr → Option Obj) : List Addr :=
  frL (ofA g mainGlobals) fun a1 =>
  frL (a1.flatMap (ofA g)) fun a2 =>
  frL ((a1.filter (isC g)).flatMap (ofA g)) fun cs =>
  frL (cs.flatMap (ofA g)) fun ms =>
  frL (ms.flatMap (ofA g)) fun mc =>
  cStatics :: mainGlobals :: (a1 ++ (ms ++ (mc ++ a2)))
def frY (g : Addr → Option Obj) : PySem.W.Frag := He.frT g (asK g)
def obY (g : Addr → Option Obj) : He.AlX := (He.obsT fa fn ts (frY g), exB (frY g))
def SaysY (w : World) (h : Heap) : Prop := ∃ K : PySem.W.Frag, K.In h ∧ He.SaysT fa fn ts w K ∧ exB K = true
def hk : PySem.W.Hook where
  α := He.AlX
  obs s := obY s.heap.get?
  val w := He.valX fn ts w
  says := SaysY
  of w s e := ⟨frY s.heap.get?, He.frT_in, congrArg Prod.fst e, congrArg Prod.snd e⟩
  keeps w h h' z k := z.elim fun K y => ⟨K, PySem.W.Frag.In.keeps y.1 k, y.2⟩
def ob (s : PySem.W.SharedT) : He.AlX := obY (HandSHeadRun.getT s)
theorem ob_eq (s : PySem.W.SharedT) : ob s = hk.obs s.abs := congrArg obY (funext fun a => HandSHeadRun.getT_eq s a)
def lo0 : List Str := ["_wall", "PartlyError", "BadPointers", "BadProgram", "BadPlaces", "BadCount", "OtherPointers", "HasRegisters", "LETTERS", "RESERVED", "LONGEST_NAME", "MOST_POINTERS", "FARTHEST_SPOT", "LONGEST_NUMBER", "lines_of", "is_name", "read_pointers", "check_places", "read_number", "read_pointer", "read_spot", "FARTHEST", "MOST_CELLS", "MODULI", "Fact"]
def lo1 : List Str := ["read_fact", "read_apart", "read_distance", "read_remainder", "all_hold", "far_of", "modulus_of", "RANGES", "CHUNKS", "FORMS", "FIXED", "MOST_SET", "MOST_GIVEN", "read_line", "read_call", "kinds_of", "read_word", "MOST_LINES", "MOST_OPEN", "WIDEST", "OPENING", "SETTING", "USED", "read_rows", "formed_rows"]
def lo2 : List Str := ["placed_rows", "may_stand", "used_rows", "misuses", "width_of", "COPYING", "Line", "block_of", "source_of", "target_of", "offsets_of", "reach_of", "block_moves", "line_moves", "both_moves", "either_moves", "repeated_moves", "spans_moves", "call_moves", "Body", "Guard", "read_body", "joined_body", "joined_offsets", "blocks_at"]
def lo3 : List Str := ["Run", "text_of", "spot_cells", "do_load", "do_store", "do_set", "do_join", "do_part", "do_each", "do_copy", "do_up", "do_down", "move_each", "do_fill", "do_step", "DEEDS", "do_line", "do_call", "do_block", "do_parts", "whole_run", "ending", "MOST_TIMES", "Program", "body_program"]
def lo4 : List Str := ["put_together", "Outcome", "_law_begun_pen", "_law_draw", "_law_pick", "_law_far_number", "_law_spot_text", "_law_barred", "_law_is_name", "_law_new_words", "_law_source", "_law_is_moved", "_law_drawn_on_right"]
abbrev loose : List Str := lo0 ++ (lo1 ++ (lo2 ++ (lo3 ++ (lo4))))
end K19
end
section
set_option Elab.async false
set_option linter.all false
set_option maxRecDepth 100000
set_option maxHeartbeats 4000000
namespace HandSHeadRun
open PySem PySem.W PySem.Calls PyProof.Rows
/-! a top that asks once what the world follows: both answers -/
def fixW (w : World) (b : Bool) : World := { w with params := { w.params with followText := fun row => if row == "special-get-raises" then b else w.params.followText row } }
theorem fixW_eq (w : World) : fixW w (w.params.followText "special-get-raises") = w := by
  have e : (fun row => if row == "special-get-raises" then w.params.followText "special-get-raises" else w.params.followText row) = w.params.followText := by
    funext row
    by_cases h : (row == "special-get-raises") = true
    · rw [if_pos h, eq_of_beq h]
    · rw [if_neg h]
  unfold fixW
  rw [e]
theorem run_both {r : OpenRow} {q : Program} {H : Hook} {ob : SharedT → H.α} {M : Nat} {loose : List PySem.Str} (h1 : ∀ w, RunEq r q H ob M loose (fixW w true)) (h2 : ∀ w, RunEq r q H ob M loose (fixW w false)) (w : World) : RunEq r q H ob M loose w := by
  have e := fixW_eq w
  cases b : w.params.followText "special-get-raises" with
  | true => rw [b] at e; have := h1 w; rwa [e] at this
  | false => rw [b] at e; have := h2 w; rwa [e] at this
end HandSHeadRun
end
section
set_option Elab.async false
set_option linter.all false
set_option maxRecDepth 100000
set_option maxHeartbeats 0
namespace K19
open PySem PySem.Spec PyProof.Rows L2
noncomputable def E1 (w : World) (b : Bool) (os : OsState) : Option PySem.W.SharedT := HandSHeadRun.endF (HandSHeadRun.stepQ (HandSHeadRun.denQ HandSHeadRun.tabQ) R.prog (HandSHeadRun.fixW w b)) 9000 R.prog (HandSHeadRun.fixW w b) os
theorem seen_true (w : World) (os : OsState) : (E1 w true os).map (fun s => (HandSHeadRun.looksF R.prog (PySem.W.boot_heap (HandSHeadRun.fixW w true).params) s.abs, HandSHeadRun.seenQ (PySem.W.view R.prog [124]) loose (importedModules R.prog.main.body) (fun s => PySem.W.xlAt (PySem.W.view R.prog [124]) [] s && PySem.W.recOk R.toRowW.records s) s.abs)) = some (true, PySem.W.openGood (PySem.W.view R.prog [124]) loose) := by kernel_rfl
theorem says_true (w : World) (os : OsState) : (E1 w true os).map ob = some (hk.val (HandSHeadRun.fixW w true)) := by kernel_rfl
theorem seen_false (w : World) (os : OsState) : (E1 w false os).map (fun s => (HandSHeadRun.looksF R.prog (PySem.W.boot_heap (HandSHeadRun.fixW w false).params) s.abs, HandSHeadRun.seenQ (PySem.W.view R.prog [124]) loose (importedModules R.prog.main.body) (fun s => PySem.W.xlAt (PySem.W.view R.prog [124]) [] s && PySem.W.recOk R.toRowW.records s) s.abs)) = some (true, PySem.W.openGood (PySem.W.view R.prog [124]) loose) := by kernel_rfl
theorem says_false (w : World) (os : OsState) : (E1 w false os).map ob = some (hk.val (HandSHeadRun.fixW w false)) := by kernel_rfl
theorem map3 {α β γ δ : Type} {o : Option α} {f : α → β} {g : α → γ} {k : α → δ} {x : β} {y : γ} {z : δ} (a : o.map (fun s => (f s, g s)) = some (x, y)) (c : o.map k = some z) : o.map (fun s => (f s, g s, k s)) = some (x, y, z) := by
  cases o with
  | none => cases a
  | some s =>
    have e := Option.some.inj a
    have e1 : f s = x := congrArg Prod.fst e
    have e2 : g s = y := congrArg Prod.snd e
    rw [← e1, ← e2, ← Option.some.inj c]
    rfl
theorem runW1 (w : World) : HandSHeadRun.RunEq R (PySem.W.view R.prog [124]) hk ob 9000 loose (HandSHeadRun.fixW w true) := by
  intro os
  have a := seen_true w os
  have c := says_true w os
  unfold E1 at a c
  generalize HandSHeadRun.endF (HandSHeadRun.stepQ (HandSHeadRun.denQ HandSHeadRun.tabQ) R.prog (HandSHeadRun.fixW w true)) 9000 R.prog (HandSHeadRun.fixW w true) os = o at a c ⊢
  exact map3 a c
theorem runW2 (w : World) : HandSHeadRun.RunEq R (PySem.W.view R.prog [124]) hk ob 9000 loose (HandSHeadRun.fixW w false) := by
  intro os
  have a := seen_false w os
  have c := says_false w os
  unfold E1 at a c
  generalize HandSHeadRun.endF (HandSHeadRun.stepQ (HandSHeadRun.denQ HandSHeadRun.tabQ) R.prog (HandSHeadRun.fixW w false)) 9000 R.prog (HandSHeadRun.fixW w false) os = o at a c ⊢
  exact map3 a c
theorem run (w : World) : HandSHeadRun.RunEq R (PySem.W.view R.prog [124]) hk ob 9000 loose w := HandSHeadRun.run_both runW1 runW2 w
end K19
end
section
set_option Elab.async false
set_option linter.all false
set_option maxRecDepth 100000
set_option maxHeartbeats 4000000
namespace K19
open PySem PySem.Spec PyProof.Rows L2
section
variable {P : Program} {w : World} {K : PySem.W.Frag} {h : Heap} {mg : Str → Option Value} {base : Heap}
theorem glo (X : K.In h) (G : h.Ns mainGlobals mg) (c : He.SaysD fa fn K) (i : Nat) {x : Str} (e : fa[i]? = some (.glo x)) : mg x = some (.ref (He.ga K x)) := He.glo_ok X G (c.fact i e)
theorem fre (X : K.In h) (G : h.Ns mainGlobals mg) (c : He.SaysD fa fn K) (i : Nat) {x : Str} (e : fa[i]? = some (.free x)) : mg x = none := He.free_ok X G (c.fact i e)
theorem fint (X : K.In h) (G : h.Ns mainGlobals mg) (c : He.SaysD fa fn K) (i : Nat) {x : Str} {n : Int} (e : fa[i]? = some (.int x n)) : ∃ t, mg x = some (.int n t) := He.int_ok X G (c.fact i e)
theorem fstr (X : K.In h) (G : h.Ns mainGlobals mg) (c : He.SaysD fa fn K) (i : Nat) {x z : Str} (e : fa[i]? = some (.str x z)) : ∃ t, mg x = some (.str z t) := He.str_ok X G (c.fact i e)
theorem deff (X : K.In h) (G : h.Ns mainGlobals mg) (c : He.SaysD fa fn K) {x : Str} {st : Stmt} (i j : Nat) (ei : fn[i]? = some ⟨(x, none), x, x, defArgs st, defBody st, defScope st, [], []⟩) (ej : fa[j]? = some (.glo x)) : Def K mg x st := by
  obtain ⟨fd, F⟩ := c.def_ i ei
  exact ⟨_, fd, F, glo X G c j ej⟩
theorem exparts (e : exB K = true) : (tupB K "RESERVED" (strsB CF.Reserved)) = true ∧ (tupB K "MODULI" (intsB [2, 4, 8])) = true ∧ (tupB K "OPENING" (strsB PL.Opening)) = true ∧ (tupB K "SETTING" (strsB PL.Setting)) = true ∧ (tupB K "COPYING" (strsB PL.Copying)) = true ∧ (tupB K "FIXED" (strsB PL.Fixed)) = true ∧ (tupB K "CHUNKS" (intsB [1, 2, 4, 8])) = true ∧ (decide (He.ga K "Body" ≠ He.ga K "Program")) = true ∧ (decide (He.ga K "Line" ≠ He.ga K "Program")) = true ∧ (dictP K "RANGES" PL.ranges) = true ∧ (dictS K "FORMS" PL.forms) = true ∧ (dictP K "USED" PL.useds) = true ∧ (dictN K "USED" ["input", "load", "set", "copy", "up", "down", "step"]) = true ∧ (dictF K "DEEDS" [("copy", "do_copy"), ("up", "do_up"), ("down", "do_down"), ("store", "do_store"), ("set", "do_set")]) = true ∧ (decide (PySem.W.kitOne K (.type "tuple") (.ref (He.ga K "Guard")) = some false)) = true := by
  unfold exB at e
  simp only [Bool.and_eq_true] at e
  exact e
theorem txt (X : K.In h) (G : h.Ns mainGlobals mg) (c : He.SaysD fa fn K) : Txt mg where
  f_int := fre X G c 72 rfl
  f_len := fre X G c 73 rfl
  f_abs := fre X G c 74 rfl
  f_list := fre X G c 75 rfl
  f_range := fre X G c 76 rfl
  f_tuple := fre X G c 77 rfl
  f_isinstance := fre X G c 78 rfl
  f_str := fre X G c 79 rfl
  f_bool := fre X G c 88 rfl
  f_max := fre X G c 80 rfl
  f_sum := fre X G c 89 rfl
theorem txtP (X : K.In h) (G : h.Ns mainGlobals mg) (c : He.SaysD fa fn K) (e : exB K = true) : TxtP K mg where
  f_len := fre X G c 73 rfl
  f_all := fre X G c 81 rfl
  f_tuple := fre X G c 77 rfl
  f_int := fre X G c 72 rfl
  f_abs := fre X G c 74 rfl
  f_max := fre X G c 80 rfl
  f_enumerate := fre X G c 84 rfl
  c_LETTERS := fstr X G c 102 rfl
  c_LONGEST_NAME := fint X G c 90 rfl
  c_MOST_POINTERS := fint X G c 91 rfl
  c_FARTHEST_SPOT := fint X G c 92 rfl
  c_LONGEST_NUMBER := fint X G c 93 rfl
  c_FARTHEST := fint X G c 94 rfl
  c_MOST_CELLS := fint X G c 95 rfl
  g_RESERVED := glo X G c 60 rfl
  g_MODULI := glo X G c 61 rfl
  t_RESERVED := tupS_ok (by decide) (exparts e).1
  t_MODULI := tupI_ok (zs := [2, 4, 8]) (by decide) (exparts e).2.1
theorem txtQ (X : K.In h) (G : h.Ns mainGlobals mg) (c : He.SaysD fa fn K) (y : He.SaysT fa fn ts w K) (e : exB K = true) : PL.TxtQ K w mg where
  f_zip := fre X G c 85 rfl
  f_any := fre X G c 82 rfl
  f_all := fre X G c 81 rfl
  f_min := fre X G c 83 rfl
  f_max := fre X G c 80 rfl
  f_len := fre X G c 73 rfl
  f_range := fre X G c 76 rfl
  f_tuple := fre X G c 77 rfl
  f_list := fre X G c 75 rfl
  f_enumerate := fre X G c 84 rfl
  c_MOST_SET := fint X G c 96 rfl
  c_MOST_GIVEN := fint X G c 97 rfl
  c_MOST_LINES := fint X G c 98 rfl
  c_MOST_OPEN := fint X G c 99 rfl
  c_WIDEST := fint X G c 100 rfl
  c_MOST_TIMES := fint X G c 101 rfl
  g_RANGES := glo X G c 67 rfl
  d_RANGES := He.SaysT.tab y 0 rfl
  g_FORMS := glo X G c 68 rfl
  d_FORMS := He.SaysT.tab y 1 rfl
  g_USED := glo X G c 69 rfl
  d_USED := He.SaysT.tab y 2 rfl
  v_RANGES := dictP_ok (exparts e).2.2.2.2.2.2.2.2.2.1
  v_FORMS := dictS_ok (exparts e).2.2.2.2.2.2.2.2.2.2.1
  v_USED := dictP_ok (exparts e).2.2.2.2.2.2.2.2.2.2.2.1
  n_USED := dictN_ok (exparts e).2.2.2.2.2.2.2.2.2.2.2.2.1
  g_OPENING := glo X G c 62 rfl
  t_OPENING := tupS_ok (by decide) (exparts e).2.2.1
  g_SETTING := glo X G c 63 rfl
  t_SETTING := tupS_ok (by decide) (exparts e).2.2.2.1
  g_COPYING := glo X G c 64 rfl
  t_COPYING := tupS_ok (by decide) (exparts e).2.2.2.2.1
  g_FIXED := glo X G c 65 rfl
  t_FIXED := tupS_ok (by decide) (exparts e).2.2.2.2.2.1
  g_CHUNKS := glo X G c 66 rfl
  t_CHUNKS := tupI_ok (zs := [1, 2, 4, 8]) (by decide) (exparts e).2.2.2.2.2.2.1
theorem c_Line (c : He.SaysD fa fn K) : LineC K (He.ga K "Line") where
  cl := He.cls_ok (c.fact 103 rfl)
  n_number := He.noat_ok (c.fact 113 rfl)
  n_word := He.noat_ok (c.fact 114 rfl)
  n_told := He.noat_ok (c.fact 115 rfl)
  n_source := He.noat_ok (c.fact 116 rfl)
  n_target := He.noat_ok (c.fact 117 rfl)
  n_inner := He.noat_ok (c.fact 118 rfl)
  n_other := He.noat_ok (c.fact 119 rfl)
theorem c_Body (c : He.SaysD fa fn K) : BodyC K (He.ga K "Body") where
  cl := He.cls_ok (c.fact 105 rfl)
  n_parts := He.noat_ok (c.fact 120 rfl)
  n_offsets := He.noat_ok (c.fact 121 rfl)
  n_reach := He.noat_ok (c.fact 122 rfl)
  n_far := He.noat_ok (c.fact 123 rfl)
  n_modulus := He.noat_ok (c.fact 124 rfl)
  n_calls := He.noat_ok (c.fact 125 rfl)
  n_has_registers := He.noat_ok (c.fact 126 rfl)
theorem c_Program (c : He.SaysD fa fn K) : ProgC K (He.ga K "Program") where
  cl := He.cls_ok (c.fact 107 rfl)
  n_pointers := He.noat_ok (c.fact 127 rfl)
  n_text := He.noat_ok (c.fact 128 rfl)
  n_body := He.noat_ok (c.fact 129 rfl)
  n_reach := He.noat_ok (c.fact 130 rfl)
  n_far := He.noat_ok (c.fact 131 rfl)
  n_modulus := He.noat_ok (c.fact 132 rfl)
theorem c_Run (c : He.SaysD fa fn K) : RunC K (He.ga K "Run") where
  cl := He.cls_ok (c.fact 109 rfl)
  n_origin := He.noat_ok (c.fact 133 rfl)
  n_places := He.noat_ok (c.fact 134 rfl)
  n_cells := He.noat_ok (c.fact 135 rfl)
  n_held := He.noat_ok (c.fact 136 rfl)
  n_given := He.noat_ok (c.fact 137 rfl)
  n_watched := He.noat_ok (c.fact 138 rfl)
  n_log := He.noat_ok (c.fact 139 rfl)
theorem c_Outcome (c : He.SaysD fa fn K) : OutC K (He.ga K "Outcome") where
  cl := He.cls_ok (c.fact 111 rfl)
  n_given := He.noat_ok (c.fact 140 rfl)
  n_cells := He.noat_ok (c.fact 141 rfl)
theorem deed_of {x d : Str} {sp : Sp} (hg : mg d = some (.ref (He.ga K d))) (hn : PySem.W.nsIn K (He.ga K "DEEDS") x = some (some (.ref (He.ga K d)))) (C : Cal P w K mg base 3 d ["run", "line"] sp) : ∃ (f : Addr) (fd : FuncData), PySem.W.nsIn K (He.ga K "DEEDS") x = some (some (.ref f)) ∧ FnOk P w K mg base CX0 3 f fd ["run", "line"] sp ∧ PySem.W.keepIn K (.ref f) = true ∧ Binds K fd ["run", "line"] [] := by
  obtain ⟨f, fd, a, b, c, e⟩ := C.ex
  rw [hg] at b
  cases b
  exact ⟨_, fd, hn, a, c, e⟩
theorem red_all (X : K.In h) (G : h.Ns mainGlobals mg) (c : He.SaysD fa fn K) (y : He.SaysT fa fn ts w K) (e : exB K = true) (A : Around) (f : Addr) (cdv : Value) (outer : List Env) (s : Shared) (H : Hp) (vs : List V) (Q : VK) (E : XK) (hr : Room 14 (A.deeper (envOfC "law" (defScope s_law) s.heap.objs.size f cdv))) (hs : spLaw K vs H Q E) :
    ∃ t, PSs (cxOf CX0 P w K mg base ["script", "pen", "turn", "pointers", "many", "laps", "kind", "spots", "base", "ahead", "places"] "law" (defScope s_law) f cdv A outer s H E) (defBody s_law) t ∧ t { nx := fun _ H' => Q .non H', rt := Q } (start ["script", "pen", "turn", "pointers", "many", "laps", "kind", "spots", "base", "ahead", "places"] vs) H := by
  have T := txt X G c
  have TP := txtP X G c e
  have TQ := txtQ X G c y e
  have LC := c_Line c
  have BC := c_Body c
  have PC := c_Program c
  have RC := c_Run c
  have OC := c_Outcome c
  have ne : He.ga K "Body" ≠ He.ga K "Program" := of_decide_eq_true (exparts e).2.2.2.2.2.2.2.1
  have neL : He.ga K "Line" ≠ He.ga K "Program" := of_decide_eq_true (exparts e).2.2.2.2.2.2.2.2.1
  have fS : mg "sorted" = none := fre X G c 86 rfl
  have fD : mg "dict" = none := fre X G c 87 rfl
  have gG : mg "Guard" = some (.ref (He.ga K "Guard")) := glo X G c 71 rfl
  have kG : PySem.W.kitOne K (.type "tuple") (.ref (He.ga K "Guard")) = some false := of_decide_eq_true (exparts e).2.2.2.2.2.2.2.2.2.2.2.2.2.2
  have c_draw : Cal P w K mg base 1 "_law_draw" ["pen", "span"] spDraw := ok_draw T (deff X G c 1 1 rfl rfl)
  have c_begun : Cal P w K mg base 1 "_law_begun_pen" ["script"] (spBegun K) := ok_begun_pen T (deff X G c 0 0 rfl rfl)
  have c_pick : Cal P w K mg base 2 "_law_pick" ["pen", "options"] (spPick K) := ok_pick T (deff X G c 2 2 rfl rfl) c_draw
  have c_farn : Cal P w K mg base 2 "_law_far_number" ["pen"] spFar := ok_far_number T (deff X G c 3 3 rfl rfl) c_draw
  have c_spt : Cal P w K mg base 1 "_law_spot_text" ["name", "number"] spSpotText := ok_spot_text T (deff X G c 4 4 rfl rfl)
  have c_bar : Cal P w K mg base 1 "_law_barred" [] spBarred := ok_barred T (deff X G c 5 5 rfl rfl)
  have c_lisn : Cal P w K mg base 2 "_law_is_name" ["word"] spIsName := ok_lis_name T (deff X G c 6 6 rfl rfl) c_bar
  have c_nw : Cal P w K mg base 3 "_law_new_words" ["pen", "many"] spNewWords := ok_new_words T (deff X G c 7 7 rfl rfl) c_draw c_pick c_lisn
  have c_src : Cal P w K mg base 1 "_law_source" ["kind", "many", "ahead", "laps", "k"] spSource := ok_source T (deff X G c 8 8 rfl rfl) TQ
  have c_isn : Cal P w K mg base 1 "is_name" ["word"] spName := ok_is_name TP (deff X G c 12 12 rfl rfl)
  have c_lo : Cal P w K mg base 1 "lines_of" ["text"] spLinesOf := ok_lines_of TP (deff X G c 11 11 rfl rfl)
  have c_rps : Cal P w K mg base 2 "read_pointers" ["pointers"] (spReadPointers K) := ok_read_pointers TP (deff X G c 13 13 rfl rfl) c_isn
  have c_rn : Cal P w K mg base 1 "read_number" ["word", "low", "high"] spReadNumber := ok_read_number TP (deff X G c 14 14 rfl rfl)
  have c_rp : Cal P w K mg base 3 "read_pointer" ["word", "pointers"] (spReadPointer K) := ok_read_pointer TP (deff X G c 15 15 rfl rfl)
  have c_rs : Cal P w K mg base 4 "read_spot" ["word", "pointers"] (spReadSpot K) := ok_read_spot TP (deff X G c 16 16 rfl rfl) c_rp c_rn
  have c_ko : Cal P w K mg base 1 "kinds_of" ["word", "many"] spKindsOf := ok_kinds_of TP TQ (deff X G c 20 20 rfl rfl)
  have c_rw : Cal P w K mg base 5 "read_word" ["kind", "word", "pointers"] (spReadWord K) := ok_read_word TP TQ (deff X G c 21 21 rfl rfl) c_isn c_rs c_rp c_rn
  have c_rl : Cal P w K mg base 6 "read_line" ["line", "pointers", "functions"] (spReadLine K) := ok_read_line TP TQ (deff X G c 19 19 rfl rfl) c_rw c_ko
  have c_fr : Cal P w K mg base 7 "formed_rows" ["lines", "pointers", "functions"] (spFormed K) := ok_formed_rows TP TQ (deff X G c 23 23 rfl rfl) c_rl
  have c_ms : Cal P w K mg base 1 "may_stand" ["word", "before", "around"] (spMayStand K) := ok_may_stand TP TQ (deff X G c 25 25 rfl rfl)
  have c_pr : Cal P w K mg base 2 "placed_rows" ["rows"] (spPlaced K) := ok_placed_rows TP TQ (deff X G c 24 24 rfl rfl) c_ms
  have c_wo : Cal P w K mg base 1 "width_of" ["word", "told", "widths"] (spWidthOf K) := ok_width_of TP TQ (deff X G c 28 28 rfl rfl)
  have c_mu : Cal P w K mg base 2 "misuses" ["word", "told", "widths", "known"] (spMisuses K) := ok_misuses TP TQ (deff X G c 27 27 rfl rfl) c_wo
  have c_ur : Cal P w K mg base 3 "used_rows" ["rows"] (spUsed K) := ok_used_rows TP TQ (deff X G c 26 26 rfl rfl) c_mu c_wo
  have c_rr : Cal P w K mg base 8 "read_rows" ["pointers", "text", "functions"] (spReadRows K) := ok_read_rows TP TQ (deff X G c 22 22 rfl rfl) c_lo c_fr c_pr c_ur
  have c_so : Cal P w K mg base 1 "source_of" ["word", "told"] (spSourceOf K) := ok_source_of TP TQ (deff X G c 30 30 rfl rfl)
  have c_to : Cal P w K mg base 1 "target_of" ["word", "told", "widths"] (spTargetOf K) := ok_target_of TP TQ (deff X G c 31 31 rfl rfl)
  obtain ⟨fdLine, FLine⟩ := c.def_ 55 (d := d_Line___init__) rfl
  have mL : Mkc P w K mg base 1 "Line" (He.ga K "Line") ["self", "number", "word", "told", "source", "target", "inner", "other"] (spLineInit (He.ga K "Line")) := ⟨_, fdLine, ok_line_init LC FLine, glo X G c 55 rfl, He.mkr_ok (c.fact 104 rfl), FLine.bindsN (ps := ["self", "number", "word", "told", "source", "target", "inner", "other"]) fun _ _ _ _ _ _ us hl => match us, hl with | [_, _, _, _, _, _, _, _], _ => rfl⟩
  have c_bo0 : Cal P w K mg base 3 "block_of" ["rows", "widths", "index"] (spBlockOf K (He.ga K "Line") 0) := block_of_0 (deff X G c 29 29 rfl rfl)
  have c_bo1 : Cal P w K mg base 4 "block_of" ["rows", "widths", "index"] (spBlockOf K (He.ga K "Line") 1) := block_of_1 TP TQ (deff X G c 29 29 rfl rfl) c_bo0 c_so c_to mL
  have c_bo2 : Cal P w K mg base 5 "block_of" ["rows", "widths", "index"] (spBlockOf K (He.ga K "Line") 2) := block_of_1 TP TQ (deff X G c 29 29 rfl rfl) c_bo1 c_so c_to mL
  have c_bm : Cal P w K mg base 1 "both_moves" ["one", "two"] spBothMoves := ok_both_moves TP TQ (deff X G c 36 36 rfl rfl)
  have c_sm : Cal P w K mg base 1 "spans_moves" ["spans", "pointer"] (spSpansMoves K) := ok_spans_moves TP TQ (deff X G c 38 38 rfl rfl)
  have c_rm : Cal P w K mg base 1 "repeated_moves" ["moves", "laps"] spRepMoves := ok_repeated_moves TP TQ (deff X G c 37 37 rfl rfl)
  have c_blm0 : Cal P w K mg base 2 "block_moves" ["block", "pointer"] (spBlockMoves (He.ga K "Line") 0) := block_moves_0 (deff X G c 34 34 rfl rfl)
  have c_lm0 : Cal P w K mg base 3 "line_moves" ["line", "pointer"] (spLineMoves (He.ga K "Line") 0) := ok_line_moves (m := 0) TP TQ (deff X G c 35 35 rfl rfl) LC c_sm c_rm c_blm0
  have c_blm1 : Cal P w K mg base 4 "block_moves" ["block", "pointer"] (spBlockMoves (He.ga K "Line") 1) := block_moves_1 (m := 0) TP TQ (deff X G c 34 34 rfl rfl) c_bm c_lm0
  have c_lm1 : Cal P w K mg base 5 "line_moves" ["line", "pointer"] (spLineMoves (He.ga K "Line") 1) := ok_line_moves (m := 2) TP TQ (deff X G c 35 35 rfl rfl) LC c_sm c_rm c_blm1
  have c_blm2 : Cal P w K mg base 6 "block_moves" ["block", "pointer"] (spBlockMoves (He.ga K "Line") 2) := block_moves_1 (m := 2) TP TQ (deff X G c 34 34 rfl rfl) c_bm c_lm1
  have c_off : Cal P w K mg base 7 "offsets_of" ["block", "many"] (spOffsetsOf (He.ga K "Line")) := ok_offsets_of TP TQ (deff X G c 32 32 rfl rfl) c_blm2
  have c_rea : Cal P w K mg base 1 "reach_of" ["offsets"] (spReachOf K) := ok_reach_of TP TQ (deff X G c 33 33 rfl rfl)
  have c_far : Cal P w K mg base 1 "far_of" ["things"] (spFarB (He.ga K "Body")) := ok_far_of TP TQ (deff X G c 17 17 rfl rfl) BC
  have c_mod : Cal P w K mg base 1 "modulus_of" ["things"] (spModB (He.ga K "Body")) := ok_modulus_of TP TQ (deff X G c 18 18 rfl rfl) BC
  obtain ⟨fdBody, FBody⟩ := c.def_ 56 (d := d_Body___init__) rfl
  have mB : Mkc P w K mg base 2 "Body" (He.ga K "Body") ["self", "parts", "offsets", "measured", "calls", "has_registers"] (spBodyInit (He.ga K "Body")) := ⟨_, fdBody, ok_body_init BC FBody c_rea c_far c_mod, glo X G c 56 rfl, He.mkr_ok (c.fact 106 rfl), FBody.bindsN (ps := ["self", "parts", "offsets", "measured", "calls", "has_registers"]) fun _ _ _ _ _ _ us hl => match us, hl with | [_, _, _, _, _, _], _ => rfl⟩
  have c_rb : Cal P w K mg base 9 "read_body" ["pointers", "text", "functions"] (spReadBody K (He.ga K "Line") (He.ga K "Body")) := ok_read_body TP TQ (deff X G c 39 39 rfl rfl) c_rr c_bo2 c_off mB
  obtain ⟨fdProgram, FProgram⟩ := c.def_ 57 (d := d_Program___init__) rfl
  have mP : Mkc P w K mg base 10 "Program" (He.ga K "Program") ["self", "pointers", "text"] (spProgInit K (He.ga K "Line") (He.ga K "Body") (He.ga K "Program")) := ⟨_, fdProgram, ok_prog_init ne neL BC PC FProgram c_rps c_rb, glo X G c 57 rfl, He.mkr_ok (c.fact 108 rfl), FProgram.bindsN (ps := ["self", "pointers", "text"]) fun _ _ _ _ _ _ us hl => match us, hl with | [_, _, _], _ => rfl⟩
  obtain ⟨fdRun, FRun⟩ := c.def_ 58 (d := d_Run___init__) rfl
  have mR : Mkc P w K mg base 1 "Run" (He.ga K "Run") ["self", "places", "cells", "watched"] (spRunInit K (He.ga K "Run")) := ⟨_, fdRun, ok_run_init TP TQ FRun RC, glo X G c 58 rfl, He.mkr_ok (c.fact 110 rfl), FRun.bindsN (ps := ["self", "places", "cells", "watched"]) fun _ _ _ _ _ _ us hl => match us, hl with | [_, _, _, _], _ => rfl⟩
  obtain ⟨fdRunrow, FRunrow⟩ := c.def_ 61 (d := d_Run_row) rfl
  have m_row : MthX P w K mg base CX0 1 (He.ga K "Run") "row" ["self", "span"] (spRow K (He.ga K "Run")) := ⟨RC.cl, _, fdRunrow, ok_run_row TP TQ FRunrow RC, He.meth_ok (c.fact 143 rfl), FRunrow.bindsN (ps := ["self", "span"]) fun _ _ _ _ _ _ us hl => match us, hl with | [_, _], _ => rfl⟩
  obtain ⟨fdRuntaken, FRuntaken⟩ := c.def_ 62 (d := d_Run_taken) rfl
  have m_tak : MthX P w K mg base CX0 2 (He.ga K "Run") "taken" ["self", "span"] (spTaken K (He.ga K "Run")) := ⟨RC.cl, _, fdRuntaken, ok_run_taken TP TQ FRuntaken RC m_row, He.meth_ok (c.fact 144 rfl), FRuntaken.bindsN (ps := ["self", "span"]) fun _ _ _ _ _ _ us hl => match us, hl with | [_, _], _ => rfl⟩
  obtain ⟨fdRunput, FRunput⟩ := c.def_ 63 (d := d_Run_put) rfl
  have m_put : MthX P w K mg base CX0 2 (He.ga K "Run") "put" ["self", "span", "contents"] (spPut K (He.ga K "Run")) := ⟨RC.cl, _, fdRunput, ok_run_put TP TQ FRunput RC m_row, He.meth_ok (c.fact 145 rfl), FRunput.bindsN (ps := ["self", "span", "contents"]) fun _ _ _ _ _ _ us hl => match us, hl with | [_, _, _], _ => rfl⟩
  obtain ⟨fdRunnote, FRunnote⟩ := c.def_ 64 (d := d_Run_note) rfl
  have m_note : MthX P w K mg base CX0 1 (He.ga K "Run") "note" ["self", "line", "read", "written"] (spNote K (He.ga K "Run")) := ⟨RC.cl, _, fdRunnote, ok_run_note TP TQ FRunnote RC, He.meth_ok (c.fact 146 rfl), FRunnote.bindsN (ps := ["self", "line", "read", "written"]) fun _ _ _ _ _ _ us hl => match us, hl with | [_, _, _, _], _ => rfl⟩
  obtain ⟨fdRunbegin, FRunbegin⟩ := c.def_ 60 (d := d_Run_begin) rfl
  have m_beg : MthX P w K mg base CX0 1 (He.ga K "Run") "begin" ["self"] (spBegin K (He.ga K "Run")) := ⟨RC.cl, _, fdRunbegin, ok_run_begin TP TQ FRunbegin RC, He.meth_ok (c.fact 142 rfl), FRunbegin.bindsN (ps := ["self"]) fun _ _ _ _ _ _ us hl => match us, hl with | [_], _ => rfl⟩
  have c_me : Cal P w K mg base 1 "move_each" ["cells", "sources", "targets"] spMove := ok_move_each TP TQ (deff X G c 40 40 rfl rfl)
  have c_do_copy : Cal P w K mg base 3 "do_copy" ["run", "line"] (spDo K (He.ga K "Line") (He.ga K "Run") "copy") := ok_do_copy TP TQ (deff X G c 41 41 rfl rfl) LC RC m_tak m_put
  have c_do_up : Cal P w K mg base 3 "do_up" ["run", "line"] (spDo K (He.ga K "Line") (He.ga K "Run") "up") := ok_do_up TP TQ (deff X G c 42 42 rfl rfl) LC RC m_row c_me
  have c_do_down : Cal P w K mg base 3 "do_down" ["run", "line"] (spDo K (He.ga K "Line") (He.ga K "Run") "down") := ok_do_down TP TQ (deff X G c 43 43 rfl rfl) LC RC m_row c_me
  have c_do_store : Cal P w K mg base 3 "do_store" ["run", "line"] (spDo K (He.ga K "Line") (He.ga K "Run") "store") := ok_do_store TP TQ (deff X G c 44 44 rfl rfl) LC RC m_put
  have c_do_set : Cal P w K mg base 3 "do_set" ["run", "line"] (spDo K (He.ga K "Line") (He.ga K "Run") "set") := ok_do_set TP TQ (deff X G c 45 45 rfl rfl) LC RC 
  have DF := dictF_ok (exparts e).2.2.2.2.2.2.2.2.2.2.2.2.2.1
  have dt : DeedTab P w K mg base (He.ga K "Line") (He.ga K "Run") := ⟨glo X G c 70 rfl, He.SaysT.tab y 3 rfl, fun wd hw => by
    unfold DeedWords at hw
    simp only [List.mem_cons, List.not_mem_nil, or_false] at hw
    rcases hw with rfl | rfl | rfl | rfl | rfl
    · exact deed_of (glo X G c 41 rfl) (DF "copy" "do_copy" (by simp)) c_do_copy
    · exact deed_of (glo X G c 42 rfl) (DF "up" "do_up" (by simp)) c_do_up
    · exact deed_of (glo X G c 43 rfl) (DF "down" "do_down" (by simp)) c_do_down
    · exact deed_of (glo X G c 44 rfl) (DF "store" "do_store" (by simp)) c_do_store
    · exact deed_of (glo X G c 45 rfl) (DF "set" "do_set" (by simp)) c_do_set⟩
  have c_dl : Cal P w K mg base 4 "do_line" ["run", "line"] (spDoLine K (He.ga K "Line") (He.ga K "Run")) := ok_do_line TP TQ (deff X G c 46 46 rfl rfl) LC RC dt m_row m_note
  have c_db0 : Cal P w K mg base 5 "do_block" ["run", "block"] (spDoBlock K (He.ga K "Line") (He.ga K "Run") 0) := do_block_0 (deff X G c 47 47 rfl rfl)
  have c_db1 : Cal P w K mg base 6 "do_block" ["run", "block"] (spDoBlock K (He.ga K "Line") (He.ga K "Run") 1) := do_block_1 TP TQ (deff X G c 47 47 rfl rfl) LC RC c_dl c_db0
  have c_db2 : Cal P w K mg base 7 "do_block" ["run", "block"] (spDoBlock K (He.ga K "Line") (He.ga K "Run") 2) := do_block_1 TP TQ (deff X G c 47 47 rfl rfl) LC RC c_dl c_db1
  have c_ba : Cal P w K mg base 1 "blocks_at" ["parts", "places"] spBlocksAt := ok_blocks_at TP TQ (deff X G c 49 49 rfl rfl) T gG kG
  have c_dp : Cal P w K mg base 9 "do_parts" ["run", "parts"] (spDoParts (He.ga K "Line") (He.ga K "Run")) := ok_do_parts TP TQ (deff X G c 48 48 rfl rfl) RC c_ba m_beg c_db2
  have c_wr : Cal P w K mg base 10 "whole_run" ["body", "places", "watched"] (spWhole (He.ga K "Line") (He.ga K "Body") (He.ga K "Run")) := ok_whole_run TP TQ (deff X G c 50 50 rfl rfl) BC mR c_dp
  have c_end : Cal P w K mg base 11 "ending" ["body", "places"] (spEnding (He.ga K "Line") (He.ga K "Body")) := ok_ending TP TQ (deff X G c 51 51 rfl rfl) RC c_wr
  have c_tx : Cal P w K mg base 1 "text_of" ["content"] spTextOf := ok_text_of TP TQ (deff X G c 52 52 rfl rfl) T
  have c_cp : Cal P w K mg base 1 "check_places" ["pointers", "places"] (spCheckOk K) := ok_check_places TP TQ (deff X G c 53 53 rfl rfl)
  obtain ⟨fdOutcome, FOutcome⟩ := c.def_ 59 (d := d_Outcome___init__) rfl
  have mO : Mkc P w K mg base 1 "Outcome" (He.ga K "Outcome") ["self", "given", "cells"] (spOutcomeInit (He.ga K "Outcome")) := ⟨_, fdOutcome, ok_outcome_init OC FOutcome, glo X G c 59 rfl, He.mkr_ok (c.fact 112 rfl), FOutcome.bindsN (ps := ["self", "given", "cells"]) fun _ _ _ _ _ _ us hl => match us, hl with | [_, _, _], _ => rfl⟩
  obtain ⟨fdProgramrun, FProgramrun⟩ := c.def_ 65 (d := d_Program_run) rfl
  have m_run : MthX P w K mg base CX0 12 (He.ga K "Program") "run" ["self", "places"] (spProgRun K (He.ga K "Line") (He.ga K "Body") (He.ga K "Program") (He.ga K "Outcome")) := ⟨PC.cl, _, fdProgramrun, ok_prog_run TP TQ FProgramrun T fS PC c_cp c_end c_tx mO, He.meth_ok (c.fact 147 rfl), FProgramrun.bindsN (ps := ["self", "places"]) fun _ _ _ _ _ _ us hl => match us, hl with | [_, _], _ => rfl⟩
  obtain ⟨fdOutcomechanged, FOutcomechanged⟩ := c.def_ 68 (d := d_Outcome_changed) rfl
  have m_chg : MthX P w K mg base CX0 1 (He.ga K "Outcome") "changed" ["self"] (spChanged (He.ga K "Outcome")) := ⟨OC.cl, _, fdOutcomechanged, ok_changed TP TQ FOutcomechanged fD OC, He.meth_ok (c.fact 150 rfl), FOutcomechanged.bindsN (ps := ["self"]) fun _ _ _ _ _ _ us hl => match us, hl with | [_], _ => rfl⟩
  obtain ⟨fdProgramreads, FProgramreads⟩ := c.def_ 66 (d := d_Program_reads) rfl
  have m_rd : MthX P w K mg base CX0 11 (He.ga K "Program") "reads" ["self", "places"] (spReads K (He.ga K "Line") (He.ga K "Body") (He.ga K "Program")) := ⟨PC.cl, _, fdProgramreads, ok_prog_reads TP TQ FProgramreads fS PC RC c_cp c_wr, He.meth_ok (c.fact 148 rfl), FProgramreads.bindsN (ps := ["self", "places"]) fun _ _ _ _ _ _ us hl => match us, hl with | [_, _], _ => rfl⟩
  obtain ⟨fdProgramwrites, FProgramwrites⟩ := c.def_ 67 (d := d_Program_writes) rfl
  have m_wr : MthX P w K mg base CX0 11 (He.ga K "Program") "writes" ["self", "places"] (spWrites K (He.ga K "Line") (He.ga K "Body") (He.ga K "Program")) := ⟨PC.cl, _, fdProgramwrites, ok_prog_writes TP TQ FProgramwrites fS PC RC c_cp c_wr, He.meth_ok (c.fact 149 rfl), FProgramwrites.bindsN (ps := ["self", "places"]) fun _ _ _ _ _ _ us hl => match us, hl with | [_, _], _ => rfl⟩
  have c_mv : Cal P w K mg base 13 "_law_is_moved" ["pointers", "spots", "many", "laps", "kind", "places"] (spIsMoved K) := ok_is_moved T (deff X G c 9 9 rfl rfl) TQ c_spt c_src mP m_run m_chg m_rd m_wr
  have c_dr : Cal P w K mg base 13 "_law_drawn_on_right" ["pen", "name", "place"] spDrawnR := ok_drawn_on_right T (deff X G c 10 10 rfl rfl) TQ c_draw c_pick c_spt mP m_run m_chg
  obtain ⟨t, ht, q⟩ := law_red T TQ c_begun c_draw c_farn c_nw c_mv c_dr A f cdv outer s H vs Q E hr hs
  exact ⟨t, ht.nox, q⟩
end
end K19
end
set_option Elab.async false
set_option linter.all false
set_option maxRecDepth 100000
set_option maxHeartbeats 4000000
open PySem PySem.W PySem.Calls PyProof.Rows PySem.Spec
theorem PySem.Challenge.cw_partlymet_k19_whole_smears_holds : PySem.Challenge.rw_partlymet_k19_whole_smears.Holds := by
  w_on; o_law
  refine HandSHeadRun.head_any (r := OpenLaw.row PySem.Challenge.rw_partlymet_k19_whole_smears) (q := view (OpenLaw.row PySem.Challenge.rw_partlymet_k19_whole_smears).prog [124]) (H := K19.hk) (ob := K19.ob) (M := 9000) (loose := K19.loose) (d := HandSHeadRun.topDef (OpenLaw.row PySem.Challenge.rw_partlymet_k19_whole_smears).prog 124) (kwd := []) K19.ob_eq
    (by kernel_rfl) (fun s => by kernel_rfl) K19.run (by kernel_rfl) (by kernel_rfl) (by kernel_rfl) (by rfl) (by first | assumption | decide +kernel) (by decide +kernel) ⟨rfl, rfl, rfl, rfl, rfl, by decide +kernel⟩ ?hw ?hc
  case hw => w_witness2
  case hc =>
    refine Att.attach_call (l := PySem.Challenge.rw_partlymet_k19_whole_smears) (n := 63) rfl (by kernel_rfl) fun w s₀ s₁ mg mb fa o pm cd doc a vs ns G Y ho hd hcd hmg0 hobj hints hlen hg => ?_
    obtain ⟨K, KX, y, e⟩ := Y
    have c : He.SaysD K19.fa K19.fn K := congrArg Prod.fst y
    have hmg : mg ("law" : PySem.Str) = some (.ref fa) := by
      have e : (HandSHeadRun.topDef (OpenLaw.row PySem.Challenge.rw_partlymet_k19_whole_smears).prog 124).name = ("law" : PySem.Str) := by kernel_rfl
      rw [← e]
      exact hmg0
    obtain ⟨fd, F⟩ := c.def_ 54 (d := K19.d_law) rfl
    have ea := hmg.symm.trans (K19.glo KX G.T.g c 54 rfl)
    cases ea
    exact L2.law_at KX G.T.g G.T.b G.T.builtins G.T.nolimit hg hobj hints (Nat.le_trans hlen (by decide)) fun base KB hns H hO hS e0 =>
      L2.fun_at (k := 14) (vs := [L2.V.ref a]) (us := [Value.ref a]) (sp := K19.spLaw K) (ps := ["script"]) F K19.sc_law (fun vs H Q E h => by
          obtain ⟨a, ns, rfl, _⟩ := h
          rfl) callerA (fun cdv outer s H vs Q E hr hs => by
          obtain ⟨t, ht, q⟩ := K19.red_all KB hns c y e callerA _ cdv outer s H vs Q E hr hs
          exact ⟨t, ht, q⟩)
        ⟨rfl, by decide, by decide⟩ e0 (L2.FunD.bindsA (ps := ["script"]) F (fun _ _ _ _ _ _ us hl => match us, hl with | [_], _ => rfl) _ [_] rfl) (.cons rfl .nil) ⟨a, ns, rfl, hS, fun _ => rfl⟩
