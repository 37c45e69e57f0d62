import PyProof.Rows.All
import Wide.All
import OpenK.AllK
import Wide.FinOn
import HandS.ForExc
import HandS.FStr
import HandS.FStrTup
import KE.KExcIs
import HandS.ExcInit
import HandS.ExcField
import HandS.ClsMeth
import HandS.IsInst
import HandS.ForMost
import HandS.Defaults
import HandS.Wide
import HandS.Codes
import HandS.HeadHook2
import HandS.HeadHook4
import HandS.Lambda
import HandS.Nested
import HandS.Head0
import HandS.Head1
import HandS.Head2
import HandS.HeadEnd
import HandS.HeadHook1
import HandS.HeadHook3
import HandS.ExcIs
import HandS.Deep
import HandS.Walk
import HandS.Zip
import HandS.SortRule
import HandS.SortKw
import HandS.EndBits
import HandS.IterVal
import HandS.IterNext
import PySem.Challenge.RW_partlymet_k05_whole_implied
import HandS.Style
import HandS.StrMore
import HandS.TupAny
import HandS.Dict
import KE.KDictPairs
import KE.KDictCopyH
import KE.KDictKeyed
import HandS.OwnIter
import KE.KDictZip
import KE.GoesZip
import KE.GoesMore
import HandS.List
import KE.LtData
import HandS.More
import HandS.GenOver
import PyProof.GenRules
import PyProof.GenQ
import PyProof.ForAny
import PyProof.PassesOwn
import HandS.GenCall
import HandS.TupSets
import HandS.SetBool
import HandS.Comp
import HandS.SortOrd
import HandS.Sort
import HandS.NoneIn
import HandS.Conv
section
set_option Elab.async false
set_option linter.all false
set_option maxRecDepth 100000
set_option maxHeartbeats 4000000
namespace L2
open PySem PySem.Spec PyProof.Rows
section
variable {X : Cx}
/-- repr of data (lists, tuples of ints and texts): the text of the data -/
def rRepr (K : PySem.W.Frag) : List V → Hp → VK → Prop := fun xs H Q => ∃ (a : Addr) (d : PyData), xs = [.ref a] ∧ Dp K H (.ref a) d ∧ d.showable = true ∧ d.hasDict = false ∧ d.depth ≤ 60 ∧ d.shown.length ≤ sizeLine ∧ Q (.str d.shown) H
theorem call_reprD (hg : X.A.guards = some []) (hu : X.A.units + 64 < cLine) : CallR X (.builtin "repr") (rRepr X.K) := by
  intro pins s σ H xs us Q I r h
  obtain ⟨a, d, rfl, hd, hs, hn, hdp, hz, q⟩ := h
  obtain ⟨u, rfl, ru⟩ := vals1 r
  cases ru
  obtain ⟨as, rd⟩ := Dp.reads I d _ _ hd rfl
  exact repr_of_reads' rd hs (fun z => by rw [hn] at z; cases z) hg (by omega) (fun _ _ e => e) (fun h' u tk k => ⟨.str d.shown, H, I.kept (t' := tk) k, ⟨u, rfl⟩, q⟩) hz
/-- {t}, t a tuple of ints: some bounded text -/
def tFmtI (K : PySem.W.Frag) (te : TE) : TE := fun σ H Q => te σ H fun x H1 => ∃ (a : Addr) (l : List Int), x = .ref a ∧ SqT K H1 a (l.map V.int) ∧ (∀ i ∈ l, i.natAbs.log2 < 1920) ∧ l.length ≤ 100 ∧ ∀ m : Str, m.length ≤ 200000 → Q (.str m) H1
theorem repr_ints {prog : Program} {w : World} : ∀ {l : List Int} {its : List Value}, Vals (l.map V.int) its → (∀ i ∈ l, i.natAbs.log2 < 1920) → ReprAll prog w its (l.map fun i => ((toString i : String) : Str))
  | [], _, r, _ => by
    cases r
    exact .nil
  | i :: l, _, r, h => by
    cases r with
    | cons r1 r2 =>
      obtain ⟨t, rfl⟩ := r1
      exact .cons (ReprIs.int t (h i List.mem_cons_self)) (repr_ints r2 fun z hz => h z (List.mem_cons_of_mem _ hz))
theorem piled_ints : ∀ l : List Int, (∀ i ∈ l, i.natAbs.log2 < 1920) → piled (l.map fun i => ((toString i : String) : Str)) ≤ 1923 * l.length
  | [], _ => Nat.zero_le _
  | i :: l, h => by
    have h1 := int_text_len_1921 (h i List.mem_cons_self)
    have h2 := piled_ints l fun z hz => h z (List.mem_cons_of_mem _ hz)
    rw [List.map_cons, piled_cons, List.length_cons]
    omega
theorem pe_fmtI {e : Expr} {te : TE} {pos : Pos} {k : Nat} (hr : Room k X.A) (he : PE X e te) : PE X (.FormattedValue e (-1) none pos) (tFmtI X.K te) := by
  refine ⟨fun pins s σ H Q I h => wpAny_FormattedValue_plain (thn (he.run pins s σ H _ I h) fun v s1 hv => ?_)⟩
  obtain ⟨x, H1, I1, r1, a, l, rfl, ht, hc, hl, q⟩ := hv
  cases r1
  obtain ⟨its, rv, ⟨o, ho, hcl, n, hd⟩, _⟩ := I1.tuple ht
  have hp := piled_ints l hc
  have htx := fmt_text (l.map fun i => ((toString i : String) : Str))
  have hsl : (200000 : Nat) ≤ sizeLine := by decide
  refine fmt_tuple (ts := l.map fun i => ((toString i : String) : Str)) (by have := hr.units; omega) ho hcl hd (repr_ints rv hc) (by omega) fun m u tk hm => ⟨.str m, H1, I1.tok _, ⟨u, rfl⟩, q m (by omega)⟩
end
end L2
end
section
set_option Elab.async false
set_option linter.all false
set_option maxRecDepth 100000
set_option maxHeartbeats 4000000
namespace L2
open PySem PySem.Spec PyProof.Rows
/-! exceptions of own classes, with an own __init__, held as values -/
/-- C(e, ..) as a value: __init__ keeps sp at the new exception a -/
def tMkE (C : Addr) (sp : Sp) (dvs : List V) (ta : TA) : TE := fun σ H Q => ta σ H fun vs H1 => vs.length ≤ 1000 ∧ ∀ a, H1 a = none → sp (.ref a :: (vs ++ dvs)) (upd H1 a (exo a C none)) (fun v H2 => v = .non ∧ Q (.ref a) H2) (fun _ _ _ => False)
section
variable {X : Cx} {x : Str} {C fI : Addr} {k : Nat} {fd : FuncData} {ps : List Str} {sp : Sp} {ds : List Value} {dvs : List V} {e : Expr} {es : List Expr} {ta : TA} {p pos : Pos}
theorem run_mkE {pins : List (Addr × Obj)} {σ : St} {H : Hp} {s : Shared} {Q : VK} {us : List Value} {vs : List V} (T : OexC X.K C) (iC : PySem.W.findIn X.K (.ref C) "__init__" = some (some (.ref fI))) (tI : PySem.W.typeIn X.K (.ref fI) = some (.type "function"))
    (FO : FnOk X.prog X.w X.K X.mg X.base CX0 k fI fd ps sp) (hr : Room (k + 1) X.A) (hb : Binds X.K fd ps ds) (hd : Vals dvs ds) (I : Inv X pins σ H s) (r : Vals vs us) (hz : vs.length ≤ 1000)
    (q : ∀ a, H a = none → sp (.ref a :: (vs ++ dvs)) (upd H a (exo a C none)) (fun v H2 => v = .non ∧ Q (.ref a) H2) (fun _ _ _ => False)) :
    wpAny (model X.prog X.w) X.A (call (.ref C) us) (EP X pins σ Q) X.xe s := by
  obtain ⟨nm, qn, N, bs, bm, sn, sub, ab, col, dd, k0, k1, k2, k3, k5, hC, hbm⟩ := T.cls
  obtain ⟨hp, g, dr, tk, os⟩ := s
  have big : hp.objs.size ≤ hp.objs.size + 1 := Nat.le_succ _
  have new : H (hp.objs.size + 1) = none := I.hok.fresh big
  have hq := q (hp.objs.size + 1) new
  let h2 : Heap := (hp.push (PySem.W.kdv_tup us)).push (PySem.HandSPX.excO C hp.objs.size)
  have keep : ∀ b o, hp.get? b = some o → h2.get? b = some o := fun b o z => Heap.get?_push_of_some _ (Heap.get?_push_of_some _ z)
  have here : h2.get? (hp.objs.size + 1) = some (PySem.HandSPX.excO C hp.objs.size) := by
    show ((hp.push (PySem.W.kdv_tup us)).push (PySem.HandSPX.excO C hp.objs.size)).get? (hp.objs.size + 1) = _
    heap_get
  have J : Inv X pins σ (upd H (hp.objs.size + 1) (exo (hp.objs.size + 1) C none)) ⟨h2, g, dr, tk, os⟩ := I.laid (t' := tk) (h' := h2) keep big (exo_ok here)
  have rr : Vals (V.ref (hp.objs.size + 1) :: (vs ++ dvs)) (Value.ref (hp.objs.size + 1) :: (us ++ ds)) := .cons rfl (r.append hd)
  have hlen : (Value.ref (hp.objs.size + 1) :: us ++ ds).length = ps.length := by
    have z := rr.length
    rw [FO.len _ _ _ _ hq] at z
    exact z.symm
  have few : us.length ≤ sizeLine := by
    rw [← Paired.length r, sizeLine_eq]
    omega
  refine wpAny_call (PySem.HandSPX.call_own F.excBase_ValueError (fun Y => PySem.HandSPX.refsVE_contains Y bm hbm) (I.kIn _ _ hC) (PySem.W.looks_findIn I.kIn iC) (fun self => PySem.W.bind_fn I.kIn self tI) few ?_)
  refine codeAny_mono (FO.run _ X.stack _ _ ⟨Value.ref (hp.objs.size + 1) :: us, []⟩ _ _ _ (fun _ _ _ => False) (hr.make C us []) (J.env0.make C us []) (hb _ (Value.ref (hp.objs.size + 1) :: us) J.kIn hlen) rr hq) fun res s' z => ?_
  cases res with
  | error er => exact z.elim
  | ok fl =>
    cases fl with
    | ret u =>
      obtain ⟨v, H', J2, rv, ev, q2⟩ := J.after z
      subst ev
      exact ⟨rv, .ref (hp.objs.size + 1), H', J2, rfl, q2⟩
    | next => exact False.elim z
    | brk => exact False.elim z
    | cont => exact False.elim z
theorem pe_mkE (T : OexC X.K C) (iC : PySem.W.findIn X.K (.ref C) "__init__" = some (some (.ref fI))) (tI : PySem.W.typeIn X.K (.ref fI) = some (.type "function"))
    (FO : FnOk X.prog X.w X.K X.mg X.base CX0 k fI fd ps sp) (hr : Room (k + 1) X.A) (hb : Binds X.K fd ps ds) (hd : Vals dvs ds) (hg : Gl X x) (hm : X.mg x = some (.ref C)) (ha : PA X (e :: es) ta)
    (hdb : (x == ("__debug__" : Str)) = false := by decide) (he : starEach (e :: es) X.env = (false, eval e X.env) :: starEach es X.env := by rfl) (hpl : (backTo pos (starEach es X.env)).any (·.1) = false := by rfl) :
    PE X (.Call (.Name x p) (e :: es) [] pos) (tMkE C sp dvs ta) :=
  ⟨fun pins s σ H Q I h => wpAny_Call_Name_kw (ld_glob I hg hm (PySem.W.callWith_K (h₀ := X.base) I.ok.mod.kin T.kC (thn (ha.run pos pins s σ H _ I h) fun us s1 ⟨vs, H1, I1, r1, hz, q1⟩ => ⟨I1.kIn, run_mkE T iC tI FO hr hb hd I1 r1 hz q1⟩) he hpl) hdb)⟩
theorem pe_mkE0 (T : OexC X.K C) (iC : PySem.W.findIn X.K (.ref C) "__init__" = some (some (.ref fI))) (tI : PySem.W.typeIn X.K (.ref fI) = some (.type "function"))
    (FO : FnOk X.prog X.w X.K X.mg X.base CX0 k fI fd ps sp) (hr : Room (k + 1) X.A) (hb : Binds X.K fd ps ds) (hd : Vals dvs ds) (hg : Gl X x) (hm : X.mg x = some (.ref C))
    (hdb : (x == ("__debug__" : Str)) = false := by decide) : PE X (.Call (.Name x p) [] [] pos) (tMkE C sp dvs tNil) :=
  ⟨fun pins s σ H Q I h => wpAny_Call_Name_kw (ld_glob I hg hm (PySem.W.callWith_K0 I.kIn T.kC (run_mkE (us := []) T iC tI FO hr hb hd I .nil h.1 h.2)) hdb)⟩
end
/-! Base.__init__(self, e): Base an own class that has ValueError's __init__ -/
section
variable {X : Cx} {x : Str} {B : Addr} {e : Expr} {es : List Expr} {ta : TA} {p1 p2 pos : Pos}
theorem pe_binit {pl : Sem Bool} {mc : Value} (hg : Gl X x) (hm : X.mg x = some (.ref B)) (rd : ClX.CRead X.K B mc) (fv : PySem.W.findCls X.K (.ref B) mc "__init__" = some (.val (.builtin "ValueError.__init__"))) (ha : PA X (e :: es) ta)
    (hdb : (x == ("__debug__" : Str)) = false := by decide)
    (hc : eval (.Call (.Attribute (.Name x p1) "__init__" p2) (e :: es) [] pos) X.env = (do
      let ov ← eval (.Name x p1) X.env
      standAt p2.atName
      let (f, first) ← holding [ov] (getMethod ov "__init__" pl)
      callWith pos f first (backTo pos (starEach (e :: es) X.env)) (backToKw pos (keywordEach [] X.env))) := by rfl)
    (he : starEach (e :: es) X.env = (false, eval e X.env) :: starEach es X.env := by rfl) (hpl : (backTo pos (starEach es X.env)).any (·.1) = false := by rfl) :
    PE X (.Call (.Attribute (.Name x p1) "__init__" p2) (e :: es) [] pos) (tVeI X.K ta) := by
  refine ⟨fun pins s σ H Q I h => PySem.W.methodCall_KW (ld_glob I hg hm ?_ hdb) hc⟩
  refine PySem.W.method_cls I.kIn rd.ga (PySem.W.cls_value I.kIn rd.rd fv (by decide +kernel) ?_)
  show wpAny _ _ (callWith pos (Value.builtin "ValueError.__init__") [] (backTo pos (starEach (e :: es) X.env)) []) _ _ _
  refine PyProof.Rows.callWith_method1 (thn (ha.run pos pins _ σ H _ (I.tok _) h) fun us s1 ⟨vs, H1, J, r1, a, C, ws, ev, hl, T, ea, q⟩ => ?_) he hpl
  subst ev
  cases r1 with
  | @cons _ u0 _ ur ra rw' =>
    obtain rfl : u0 = Value.ref a := ra
    exact oinit_ok T J ea (by rw [← Paired.length rw', sizeLine_eq]; omega) fun s' J2 => ⟨.non, H1, J2, rfl, q⟩
end
/-! err.f, isinstance(err, C) -/
/-- what the top says of an own exception class, so that its exceptions are asked -/
structure ExV (K : PySem.W.Frag) (C : Addr) : Prop where
  xf : XfC K C
  cl : (PySem.W.clsIn K C).isSome = true
  ca : PySem.W.findIn K (.ref C) "__class__" = some (some (.builtin "object.__class__"))
  cg : PySem.W.specialIn K (.builtin "object.__class__") "__get__" = some (some (.builtin "getset_descriptor.__get__"))
  ct : PySem.W.takesIn K (.builtin "object.__class__") = some true
  ob : PySem.W.mroIn K C (.type "object") = some true
/-- an exception stands at a: of the class C, its dict (if it has one) with the fields fs -/
def ExAt (H : Hp) (a C : Addr) (fs : List (Str × V)) : Prop := (fs = [] ∧ H a = some (exo a C none)) ∨ ∃ dx, H a = some (exo a C (some dx)) ∧ H dx = some (exd dx fs)
section
variable {X : Cx}
theorem exAt_inst {pins : List (Addr × Obj)} {σ : St} {H : Hp} {s : Shared} {a C : Addr} {fs : List (Str × V)} (I : Inv X pins σ H s) (h : ExAt H a C fs) :
    ∃ ox od, PySem.W.InstAt s.heap a ox C od ∧ ∀ (f : Str) (v : V), fs.lookup f = some v → ∃ o u, od = some o ∧ PySem.W.lookIn f o = some (some u) ∧ RelV v u := by
  rcases h with ⟨rfl, h⟩ | ⟨dx, h, hd⟩
  · obtain ⟨t1, ho⟩ := exo_at I.hok h
    exact ⟨_, none, ⟨ho, rfl, rfl, trivial⟩, fun f v z => by cases z⟩
  · obtain ⟨t1, ho⟩ := exo_at I.hok h
    obtain ⟨mA, hn, rel⟩ := exd_at I.hok hd
    obtain ⟨od, h1, h2⟩ := lookIn_ns hn
    refine ⟨_, some od, ⟨ho, rfl, rfl, h1⟩, fun f v z => ?_⟩
    obtain ⟨u, hu, ru⟩ := RelO.some_of (v := v) (o := mA f) (by rw [← z]; exact rel f)
    exact ⟨od, u, rfl, by rw [h2, hu], ru⟩
/-- the reading of err.f -/
def tEf (K : PySem.W.Frag) (f : Str) (te : TE) : TE := fun σ H Q => te σ H fun x H1 => ∃ (a C : Addr) (fs : List (Str × V)) (v : V), x = .ref a ∧ ExAt H1 a C fs ∧ ExV K C ∧ PySem.W.findIn K (.ref C) f = some none ∧ fs.lookup f = some v ∧ Q v H1
theorem pe_ef {e : Expr} {te : TE} {f : Str} {pos : Pos} (he : PE X e te) (hb : attributeBase e f X.env (eval e X.env) = eval e X.env := by rfl) : PE X (.Attribute e f pos) (tEf X.K f te) := by
  refine ⟨fun pins s σ H Q I h => attr_of hb (thn (he.run pins s σ H _ I h) fun u s1 hh => ?_)⟩
  obtain ⟨x, H1, J, rx, a, C, fs, v, rfl, ha, T, hno, l, q⟩ := hh
  obtain rfl : u = Value.ref a := rx
  obtain ⟨ox, od, O, z⟩ := exAt_inst J ha
  obtain ⟨o, w, rfl, hw, rv⟩ := z f v l
  exact HandSPX.exc_get J.kIn O T.xf.ga T.xf.gg T.xf.exC (PySem.W.findObj_own T.xf.hdC hno rfl hw) (handed_of rv) ⟨v, H1, J.tok _, rv, q⟩
/-- isinstance(err, c) -/
def rIsEx (K : PySem.W.Frag) : List V → Hp → VK → Prop := fun xs H Q => ∃ (a C : Addr) (fs : List (Str × V)) (c : V) (u : Value) (b : Bool), xs = [.ref a, c] ∧ ExAt H a C fs ∧ ExV K C ∧ ClsV c u ∧ PySem.W.kitOne K (.ref C) u = some b ∧ Q (.bl b) H
theorem call_isEx : CallR X (.builtin "isinstance") (rIsEx X.K) := by
  intro pins s σ H xs us Q I r h
  obtain ⟨a, C, fs, c, u, b, rfl, ha, T, k, e, q⟩ := h
  obtain ⟨u1, u2, rfl, r1, r2⟩ := vals2 r
  obtain rfl : u1 = Value.ref a := r1
  have e2 := k.eq r2
  subst e2
  obtain ⟨ox, od, O, _⟩ := exAt_inst I ha
  exact PySem.W.kia_one (PySem.W.kitx_exc (od := od) T.cl T.xf.ga T.xf.gg T.xf.exC T.ca T.cg T.ct T.ob) I.kIn O e (fun z => nomatch z) fun tk => ⟨.bl b, H, I.tok tk, rfl, q⟩
end
end L2
end
section
set_option Elab.async false
set_option linter.all false
set_option maxRecDepth 100000
set_option maxHeartbeats 4000000
namespace L2
open PySem PySem.Spec PyProof.Rows
/-! a def of the text behind the top, and its promise, by its name -/
structure Def (K : PySem.W.Frag) (mg : Str → Option Value) (x : Str) (st : Stmt) : Prop where
  ex : ∃ f fd, FunD K x x (defArgs st) (defBody st) (defScope st) [] [] f fd ∧ mg x = some (.ref f)
structure Cal (P : Program) (w : World) (K : PySem.W.Frag) (mg : Str → Option Value) (base : Heap) (k : Nat) (x : Str) (ps : List Str) (sp : Sp) : Prop where
  ex : ∃ f fd, FnOk P w K mg base CX0 k f fd ps sp ∧ mg x = some (.ref f) ∧ PySem.W.keepIn K (.ref f) = true ∧ Binds K fd ps []
section
variable {P : Program} {w : World} {K : PySem.W.Frag} {mg : Str → Option Value} {base : Heap} {k : Nat} {x : Str} {N ps : List Str} {sp : Sp} {st : Stmt}
theorem Def.cal (D : Def K mg x st) (S : FnScope N ps (defScope st)) (len : ∀ vs H Q E, sp vs H Q E → vs.length = ps.length)
    (hb : ∀ (kV doc pm : Value) (an : Option Addr) (cdv ct : Value) (us : List Value), us.length = ps.length → bindArgs (PySem.W.fnOf x x (defArgs st) (defBody st) (defScope st) .none kV doc pm an cdv ct) ⟨us, []⟩ = pure (ps.zip us))
    (body : ∀ (f : Addr) (cdv : Value) (A : Around) (outer : List Env) (s : Shared) (H : Hp) (vs : List V) (Q : VK) (E : XK), Room k (A.deeper (envOfC x (defScope st) s.heap.objs.size f cdv)) → sp vs H Q E →
      ∃ t, PSs (cxOf CX0 P w K mg base N x (defScope st) f cdv A outer s H E).nox (defBody st) t ∧ t { nx := fun _ H' => Q .non H', rt := Q } (start N vs) H) : Cal P w K mg base (k + 1) x ps sp := by
  obtain ⟨f, fd, F, hm⟩ := D.ex
  refine ⟨f, fd, F.ok S len (fun cdv A outer s H vs Q E hr h => ?_), hm, F.kp, F.bindsN hb⟩
  obtain ⟨t, h1, h2⟩ := body f cdv A outer s H vs Q E hr h
  exact ⟨t, h1.nox, h2⟩
theorem Cal.mono {j : Nat} (C : Cal P w K mg base j x ps sp) (h : j ≤ k) : Cal P w K mg base k x ps sp := by
  obtain ⟨f, fd, G, m, kp, b⟩ := C.ex
  exact ⟨f, fd, G.mono h, m, kp, b⟩
end
section
variable {X : Cx} {k : Nat} {x : Str} {ps : List Str} {sp : Sp} {e : Expr} {es : List Expr} {t : TA} {p pos : Pos}
theorem pe_cal (C : Cal X.prog X.w X.K X.mg X.base k x ps sp) (hr : Room k X.A) (hg : Gl X x) (ha : PA X (e :: es) t) (hdb : (x == ("__debug__" : Str)) = false := by decide)
    (he : starEach (e :: es) X.env = (false, eval e X.env) :: starEach es X.env := by rfl) (hpl : (backTo pos (starEach es X.env)).any (·.1) = false := by rfl) : PE X (.Call (.Name x p) (e :: es) [] pos) (tCall sp [] E0 t) := by
  obtain ⟨f, fd, G, m, kp, b⟩ := C.ex
  exact pe_call G hr hg m kp b .nil pass0 ha hdb he hpl
theorem pe_cal0 (C : Cal X.prog X.w X.K X.mg X.base k x ps sp) (hr : Room k X.A) (hg : Gl X x) (hdb : (x == ("__debug__" : Str)) = false := by decide) : PE X (.Call (.Name x p) [] [] pos) (tCall sp [] E0 tNil) := by
  obtain ⟨f, fd, G, m, kp, b⟩ := C.ex
  exact pe_call0 G hr hg m kp b .nil pass0 hdb
end
section
variable {X : Cx} {x : Str} {a : Addr} {pos : Pos}
theorem pe_gref (hg : Gl X x) (hm : X.mg x = some (.ref a)) (hd : (x == ("__debug__" : Str)) = false := by decide) : PE X (.Name x pos) (tC (.ref a)) := pe_glob hg hm rfl hd
theorem pe_gint {i : Int} (hg : Gl X x) (hm : ∃ t, X.mg x = some (.int i t)) (hd : (x == ("__debug__" : Str)) = false := by decide) : PE X (.Name x pos) (tC (.int i)) := by
  obtain ⟨t, e⟩ := hm
  exact pe_glob hg e ⟨t, rfl⟩ hd
theorem pe_gstr {z : Str} (hg : Gl X x) (hm : ∃ t, X.mg x = some (.str z t)) (hd : (x == ("__debug__" : Str)) = false := by decide) : PE X (.Name x pos) (tC (.str z)) := by
  obtain ⟨t, e⟩ := hm
  exact pe_glob hg e ⟨t, rfl⟩ hd
theorem pe_gty {T : String} (hg : Gl X x) (hm : X.mg x = none) (hv : bootBuiltins x = some (.type T)) (hn : x ≠ "__name__" := by decide) (hd : (x == ("__debug__" : Str)) = false := by decide) : PE X (.Name x pos) (tC (.ty T)) := pe_bltn hg hm hv rfl hn hd
end
/-! what stays: all but the object at p -/
def But (p : Addr) (H H' : Hp) : Prop := ∀ b o, b ≠ p → H b = some o → H' b = some o
theorem But.refl (p : Addr) (H : Hp) : But p H H := fun _ _ _ h => h
theorem But.trans {p : Addr} {H H1 H2 : Hp} (a : But p H H1) (b : But p H1 H2) : But p H H2 := fun c o n h => b c o n (a c o n h)
theorem But.of {p : Addr} {H H' : Hp} (a : Same H H') : But p H H' := fun c o _ h => a c o h
theorem But.upd {p : Addr} {o : HO} (H : Hp) : But p H (upd H p o) := fun c u n h => by rw [upd_ne n]; exact h
theorem Same.new {H : Hp} {p : Addr} {o : HO} (h : H p = none) : Same H (upd H p o) := fun c u e => by rw [upd_ne (ne_of_none e h)]; exact e
theorem Same.put {H H' : Hp} {p : Addr} {o : HO} (s : Same H H') (h : H p = none) : Same H (upd H' p o) := fun c u e => by rw [upd_ne (ne_of_none e h)]; exact s c u e
theorem But.put {q : Addr} {H H' : Hp} {p : Addr} {o : HO} (s : But q H H') (h : H p = none) : But q H (L2.upd H' p o) := fun c u n e => by rw [upd_ne (ne_of_none e h)]; exact s c u n e
theorem But.free {p : Addr} {H H' : Hp} (s : But p H H') {a : Addr} (n : a ≠ p) (h : H' a = none) : H a = none := by
  cases e : H a with
  | none => rfl
  | some o => rw [s a o n e] at h; cases h
theorem But.seq {K : PySem.W.Frag} {p a : Addr} {H H' : Hp} {xs : List V} (s : But p H H') (n : a ≠ p) (h : SqL K H a xs) : SqL K H' a xs := by
  rcases h with (h | ⟨o, h⟩) | h
  · exact .inl (.inl (s _ _ n h))
  · exact .inl (.inr ⟨o, s _ _ n h⟩)
  · exact .inr h
/-! the pen: where the draws come from -/
def penV (l : Addr) (t lf : Int) : List (Key × V) := [(Sum.inr "cells", .ref l), (Sum.inr "turn", .int t), (Sum.inr "left", .int lf)]
structure Pen (H : Hp) (p l : Addr) (t : Int) : Prop where
  ex : ∃ (ns : List Int) (lf : Int), H p = some (.dK (penV l t lf)) ∧ H l = some (.lst (ns.map V.int)) ∧ 0 ≤ lf
  pos : 0 ≤ t
theorem Pen.ne {H : Hp} {p l : Addr} {t : Int} (h : Pen H p l t) : l ≠ p := by
  obtain ⟨ns, lf, h1, h2, _⟩ := h.ex
  exact ne_of h2 h1 (by intro z; cases z)
theorem Pen.at_ {H : Hp} {p l : Addr} {t : Int} (h : Pen H p l t) : ∃ o, H p = some o := by
  obtain ⟨ns, lf, h1, h2, _⟩ := h.ex
  exact ⟨_, h1⟩
theorem Pen.same {H H' : Hp} {p l : Addr} {t : Int} (h : Pen H p l t) (s : Same H H') : Pen H' p l t := by
  obtain ⟨ns, lf, h1, h2, h3⟩ := h.ex
  exact ⟨⟨ns, lf, s _ _ h1, s _ _ h2, h3⟩, h.pos⟩
theorem Pen.new {H : Hp} {p l q : Addr} {t : Int} {o : HO} (h : Pen H p l t) (n : H q = none) : Pen (upd H q o) p l t := h.same (Same.new n)
theorem Pen.put {H : Hp} {p l q : Addr} {t : Int} {o : HO} (h : Pen H p l t) (n1 : q ≠ p) (n2 : q ≠ l) : Pen (upd H q o) p l t := by
  obtain ⟨ns, lf, h1, h2, h3⟩ := h.ex
  exact ⟨⟨ns, lf, by rw [upd_ne n1.symm]; exact h1, by rw [upd_ne n2.symm]; exact h2, h3⟩, h.pos⟩
/-- what every drawing def leaves: the pen a few turns on, all else as it was -/
def Drew (c : Int) (p l : Addr) (t : Int) (H : Hp) (H' : Hp) : Prop := (∃ t', Pen H' p l t' ∧ t ≤ t' ∧ t' ≤ t + c) ∧ But p H H'
/-- draw(pen, span) -/
def spDraw : Sp := fun vs H Q _ => ∃ (p l : Addr) (t span : Int), vs = [.ref p, .int span] ∧ Pen H p l t ∧ t ≤ 1000000000 ∧ 0 < span ∧ span.natAbs < 2 ^ 250 ∧ ∀ (v : Int) (H' : Hp) (t' : Int), 0 ≤ v → v < span → Pen H' p l t' → t ≤ t' → t' ≤ t + 1 → But p H H' → Q (.int v) H'
end L2
end
section
set_option Elab.async false
set_option linter.all false
set_option maxRecDepth 100000
set_option maxHeartbeats 4000000
namespace L2
open PySem PySem.Spec PyProof.Rows
/-! defs that may raise, by name -/
theorem FunD.okX {P : Program} {w : World} {K : PySem.W.Frag} {mg : Str → Option Value} {base : Heap} {x qual : Str} {params : Arguments} {body : List Stmt} {scope : Scope} {f : Addr} {fd : FuncData} {N ps : List Str} {k : Nat} {sp : Sp} (F : FunD K x qual params body scope [] [] f fd) (S : FnScope N ps scope) (len : ∀ vs H Q E, sp vs H Q E → vs.length = ps.length)
    (hbody : ∀ (cdv : Value) (A : Around) (outer : List Env) (s : Shared) (H : Hp) (vs : List V) (Q : VK) (E : XK), Room k (A.deeper (envOfC qual scope s.heap.objs.size f cdv)) → sp vs H Q E →
      ∃ t, PSs (cxOf (CX P w) P w K mg base N qual scope f cdv A outer s H E) body t ∧ t { nx := fun _ H' => Q .non H', rt := Q } (start N vs) H) : FnOk P w K mg base (CX P w) (k + 1) f fd ps sp := by
  obtain ⟨oc, od, dV, kV, doc, pm, an, cdv, ct, osl, rfl, lk, hcd, _, _⟩ := F.ex
  exact fn_of lk hcd S len fun A outer s H vs Q E hr hsp => hbody cdv A outer s H vs Q E hr hsp
/-- nothing is let out -/
theorem passN {P : Program} {w : World} {X : Cx} : Passes (CX P w) X E0 := fun _ _ _ _ _ _ _ ⟨_, _, _, _, _, _, _, _, _, _, _, _, h⟩ => h.elim
theorem passV {P : Program} {w : World} {X : Cx} {E : XK} (h : ∀ cls d H, ¬ E cls d H) : Passes (CX P w) X E := fun _ _ _ _ _ _ _ ⟨_, _, H', cls, d, _, _, _, _, _, _, _, q⟩ => (h cls d H' q).elim
structure CalX (P : Program) (w : World) (K : PySem.W.Frag) (mg : Str → Option Value) (base : Heap) (k : Nat) (x : Str) (ps : List Str) (sp : Sp) : Prop where
  ex : ∃ f fd, FnOk P w K mg base (CX P w) k f fd ps sp ∧ mg x = some (.ref f) ∧ PySem.W.keepIn K (.ref f) = true ∧ Binds K fd ps []
section
variable {P : Program} {w : World} {K : PySem.W.Frag} {mg : Str → Option Value} {base : Heap} {k : Nat} {x : Str} {N ps : List Str} {sp : Sp} {st : Stmt}
theorem Def.calX (D : Def K mg x st) (S : FnScope N ps (defScope st)) (len : ∀ vs H Q E, sp vs H Q E → vs.length = ps.length)
    (hb : ∀ (kV doc pm : Value) (an : Option Addr) (cdv ct : Value) (us : List Value), us.length = ps.length → bindArgs (PySem.W.fnOf x x (defArgs st) (defBody st) (defScope st) .none kV doc pm an cdv ct) ⟨us, []⟩ = pure (ps.zip us))
    (body : ∀ (f : Addr) (cdv : Value) (A : Around) (outer : List Env) (s : Shared) (H : Hp) (vs : List V) (Q : VK) (E : XK), Room k (A.deeper (envOfC x (defScope st) s.heap.objs.size f cdv)) → sp vs H Q E →
      ∃ t, PSs (cxOf (CX P w) P w K mg base N x (defScope st) f cdv A outer s H E) (defBody st) t ∧ t { nx := fun _ H' => Q .non H', rt := Q } (start N vs) H) : CalX P w K mg base (k + 1) x ps sp := by
  obtain ⟨f, fd, F, hm⟩ := D.ex
  exact ⟨f, fd, F.okX S len (fun cdv A outer s H vs Q E hr h => body f cdv A outer s H vs Q E hr h), hm, F.kp, F.bindsN hb⟩
end
section
variable {X : Cx} {k : Nat} {x : Str} {ps : List Str} {sp : Sp} {e : Expr} {es : List Expr} {t : TA} {p pos : Pos} {W : WX}
/-- called where what it raises is taken -/
theorem pe_calX (tk : Takes X W) (C : CalX X.prog X.w X.K X.mg X.base k x ps sp) (hr : Room k X.A) (hg : Gl X x) (ha : PA X (e :: es) t) (hdb : (x == ("__debug__" : Str)) = false := by decide)
    (he : starEach (e :: es) X.env = (false, eval e X.env) :: starEach es X.env := by rfl) (hpl : (backTo pos (starEach es X.env)).any (·.1) = false := by rfl) : PE X (.Call (.Name x p) (e :: es) [] pos) (tCallS sp (WE W) t) := by
  obtain ⟨f, fd, G, m, kp, b⟩ := C.ex
  exact pe_callS G hr hg m kp b (fun σ => passAt tk σ) ha hdb he hpl
/-- called where nothing is raised -/
theorem pe_calN (C : CalX X.prog X.w X.K X.mg X.base k x ps sp) (hr : Room k X.A) (hg : Gl X x) (ha : PA X (e :: es) t) (hdb : (x == ("__debug__" : Str)) = false := by decide)
    (he : starEach (e :: es) X.env = (false, eval e X.env) :: starEach es X.env := by rfl) (hpl : (backTo pos (starEach es X.env)).any (·.1) = false := by rfl) : PE X (.Call (.Name x p) (e :: es) [] pos) (tCall sp [] E0 t) := by
  obtain ⟨f, fd, G, m, kp, b⟩ := C.ex
  exact pe_call G hr hg m kp b .nil passN ha hdb he hpl
end
/-- a method of a class -/
structure MthX (P : Program) (w : World) (K : PySem.W.Frag) (mg : Str → Option Value) (base : Heap) (CX : CXT) (k : Nat) (C : Addr) (m : Str) (ps : List Str) (sp : Sp) : Prop where
  cl : Cls K C
  ex : ∃ f fd, FnOk P w K mg base CX k f fd ps sp ∧ Meth K C m f ∧ Binds K fd ps []
section
variable {X : Cx} {CX0' : CXT} {k : Nat} {C : Addr} {m : Str} {ps : List Str} {sp : Sp} {o e : Expr} {es : List Expr} {to : TE} {t : TA} {apos pos : Pos} {E : XK}
theorem pe_mth {pl : Sem Bool} (M : MthX X.prog X.w X.K X.mg X.base CX0' k C m ps sp) (he : PE X o to) (hr : Room k X.A) (hx : Passes CX0' X E) (ha : PA X (e :: es) t)
    (hst : starEach (e :: es) X.env = (false, eval e X.env) :: starEach es X.env := by rfl) (hpl : (backTo pos (starEach es X.env)).any (·.1) = false := by rfl)
    (ht : eval (.Call (.Attribute o m apos) (e :: es) [] pos) X.env = (do
      let ov ← eval o X.env
      standAt apos.atName
      let (f, first) ← holding [ov] (getMethod ov m pl)
      callWith pos f first (backTo pos (starEach (e :: es) X.env)) (backToKw pos (keywordEach [] X.env))) := by rfl) :
    PE X (.Call (.Attribute o m apos) (e :: es) [] pos) (tMeth C m sp [] E to t) := by
  obtain ⟨f, fd, F, hm, hb⟩ := M.ex
  exact pe_meth he M.cl hm F hr hb .nil hx ha hst hpl ht
theorem pe_mth0 {pl : Sem Bool} (M : MthX X.prog X.w X.K X.mg X.base CX0' k C m ps sp) (he : PE X o to) (hr : Room k X.A) (hx : Passes CX0' X E)
    (ht : eval (.Call (.Attribute o m apos) [] [] pos) X.env = (do
      let ov ← eval o X.env
      standAt apos.atName
      let (f, first) ← holding [ov] (getMethod ov m pl)
      callWith pos f first (backTo pos (starEach [] X.env)) (backToKw pos (keywordEach [] X.env))) := by rfl) :
    PE X (.Call (.Attribute o m apos) [] [] pos) (tMeth C m sp [] E to tNil) := by
  obtain ⟨f, fd, F, hm, hb⟩ := M.ex
  exact pe_meth0 he M.cl hm F hr hb .nil hx ht
end
end L2
end
section
set_option Elab.async false
set_option linter.all false
set_option maxRecDepth 100000
set_option maxHeartbeats 4000000
namespace L2
open PySem PySem.Spec PyProof.Rows
/-! defs whose code object is known: they make functions -/
structure DefT (K : PySem.W.Frag) (mg : Str → Option Value) (x : Str) (st : Stmt) (c : Addr) : Prop where
  ex : ∃ f fd, FunD K x x (defArgs st) (defBody st) (defScope st) [] [] f fd ∧ mg x = some (.ref f) ∧ fd.code = .ref c
section
variable {P : Program} {w : World} {K : PySem.W.Frag} {mg : Str → Option Value} {base : Heap} {k : Nat} {x : Str} {N ps : List Str} {sp : Sp} {st : Stmt} {c : Addr}
theorem DefT.calCX {CX : CXT} (D : DefT K mg x st c) (S : FnScope N ps (defScope st)) (len : ∀ vs H Q E, sp vs H Q E → vs.length = ps.length)
    (hb : ∀ (kV doc pm : Value) (an : Option Addr) (cdv ct : Value) (us : List Value), us.length = ps.length → bindArgs (PySem.W.fnOf x x (defArgs st) (defBody st) (defScope st) .none kV doc pm an cdv ct) ⟨us, []⟩ = pure (ps.zip us))
    (body : ∀ (f : Addr) (A : Around) (outer : List Env) (s : Shared) (H : Hp) (vs : List V) (Q : VK) (E : XK), Room k (A.deeper (envOfC x (defScope st) s.heap.objs.size f (.ref c))) → sp vs H Q E →
      ∃ t, PSs (cxOf CX P w K mg base N x (defScope st) f (.ref c) A outer s H E) (defBody st) t ∧ t { nx := fun _ H' => Q .non H', rt := Q } (start N vs) H) :
    ∃ f fd, FnOk P w K mg base CX (k + 1) f fd ps sp ∧ mg x = some (.ref f) ∧ PySem.W.keepIn K (.ref f) = true ∧ Binds K fd ps [] := by
  obtain ⟨f, fd, F, hm, hc⟩ := D.ex
  have B := F.bindsN hb
  have kp := F.kp
  obtain ⟨oc, od, dV, kV, doc, pm, an, cdv, ct, osl, rfl, lk, hcd, _, _⟩ := F.ex
  have e : cdv = .ref c := hc
  subst e
  exact ⟨f, _, fn_of lk hcd S len fun A outer s H vs Q E hr hsp => body f A outer s H vs Q E hr hsp, hm, kp, B⟩
theorem DefT.cal (D : DefT K mg x st c) (S : FnScope N ps (defScope st)) (len : ∀ vs H Q E, sp vs H Q E → vs.length = ps.length)
    (hb : ∀ (kV doc pm : Value) (an : Option Addr) (cdv ct : Value) (us : List Value), us.length = ps.length → bindArgs (PySem.W.fnOf x x (defArgs st) (defBody st) (defScope st) .none kV doc pm an cdv ct) ⟨us, []⟩ = pure (ps.zip us))
    (body : ∀ (f : Addr) (A : Around) (outer : List Env) (s : Shared) (H : Hp) (vs : List V) (Q : VK) (E : XK), Room k (A.deeper (envOfC x (defScope st) s.heap.objs.size f (.ref c))) → sp vs H Q E →
      ∃ t, PSs (cxOf CX0 P w K mg base N x (defScope st) f (.ref c) A outer s H E) (defBody st) t ∧ t { nx := fun _ H' => Q .non H', rt := Q } (start N vs) H) : Cal P w K mg base (k + 1) x ps sp := ⟨D.calCX S len hb body⟩
/-- from the head -/
theorem defT_of {p : He.Defn} {fd : FuncData} (F : FunD K x x (defArgs st) (defBody st) (defScope st) [] [] (He.fAd K p) fd) (hm : mg x = some (.ref (He.fAd K p))) : DefT K mg x st (He.codeOf K p) := by
  refine ⟨_, fd, F, hm, ?_⟩
  obtain ⟨oc, od, dV, kV, doc, pm, an, cdv, ct, osl, rfl, lk, hcd, _, _⟩ := F.ex
  obtain ⟨c, rfl⟩ := He.codeIn_ref hcd
  rw [He.codeOf_eq lk (c := c) rfl]
end
/-- a suite that is read only where a fact holds -/
theorem pss_if {X : Cx} {ss : List Stmt} {t : TS} {p : Prop} (h : p → PSs X ss t) : PSs X ss (fun D σ H => p ∧ t D σ H) := ⟨fun pins s σ H D I ⟨hp, q⟩ => (h hp).run pins s σ H D I q⟩
end L2
end
section
set_option Elab.async false
set_option linter.all false
set_option maxRecDepth 100000
set_option maxHeartbeats 4000000
namespace He
open PySem PySem.Spec PyProof.Rows L2
/-! a Hook with the statics and with tables -/
def frZ (g : Addr → Option Obj) (n : Nat) : PySem.W.Frag := frT g (cStatics :: asD g n)
def obsZ (n : Nat) (fa : List Fa) (fn : List DefD) (tf : List Defn) (ex : PySem.W.Frag → Bool) (g : Addr → Option Obj) : AlX := (obsT fa fn [] (frZ g n), ex (frZ g n) && tabsB g tf (frZ g n))
theorem saysZ_of {n : Nat} {fa : List Fa} {fn : List DefD} {tf : List Defn} {ex : PySem.W.Frag → Bool} {w : World} {h : Heap} (e : obsZ n fa fn tf ex h.get? = valX fn [] w) : SaysX fa fn [] tf ex w h (frZ h.get? n) := by
  have e1 : obsT fa fn [] (frZ h.get? n) = valT fn [] w := congrArg (fun z : AlX => z.1) e
  have e2 : (ex (frZ h.get? n) && tabsB h.get? tf (frZ h.get? n)) = true := congrArg (fun z : AlX => z.2) e
  rw [Bool.and_eq_true] at e2
  obtain ⟨h1, h2⟩ := e2
  have key : ∀ p ∈ tf, PySem.W.codeHdIn (frZ h.get? n) (cT (frZ h.get? n) p).1 (cT (frZ h.get? n) p).2 = true ∧ ∃ o, h.get? (cT (frZ h.get? n) p).2 = some o ∧ emptyTab o = true := fun p hp => by
    have z := List.all_eq_true.mp h2 p hp
    rw [Bool.and_eq_true] at z
    obtain ⟨h3, h4⟩ := z
    refine ⟨h3, ?_⟩
    cases q : h.get? (cT (frZ h.get? n) p).2 with
    | none =>
      rw [q] at h4
      cases h4
    | some o =>
      rw [q] at h4
      exact ⟨o, rfl, h4⟩
  exact ⟨e1, h1, fun p hp => (key p hp).1, fun p hp => by
    obtain ⟨_, o, q, z⟩ := key p hp
    exact frT_none q z, fun p hp => by
    obtain ⟨_, o, q, z⟩ := key p hp
    rw [q, emptyTab_eq z]⟩
def hookZ (n : Nat) (fa : List Fa) (fn : List DefD) (tf : List Defn) (ex : PySem.W.Frag → Bool) : PySem.W.Hook where
  α := AlX
  obs := fun s => obsZ n fa fn tf ex s.heap.get?
  val := fun w => valX fn [] w
  says := fun w h => ∃ K : PySem.W.Frag, K.In h ∧ SaysX fa fn [] tf ex w h K
  of := fun _ _ e => ⟨_, frT_in, saysZ_of e⟩
  keeps := fun _ _ _ ⟨K, hK, c⟩ k => ⟨K, PySem.W.Frag.In.keeps hK k, ⟨c.t, c.more, c.hd, c.out, fun p hp => k _ _ (c.empty p hp)⟩⟩
end He
namespace L2
open PySem PySem.Spec PyProof.Rows
/-! what the top leaves: own exceptions -/
def oexB (K : PySem.W.Frag) (C : Addr) : Bool :=
  (match K.lookup C with
  | some { cls := .type t, dict := _, data := .cls cd, slots := sl } =>
    match cd.mro, sl.toList with
    | .ref C' :: bm, [_, _, _, _, some (.builtin n), _] => decide (t = "type") && (decide (C' = C) && (decide (n = "ValueError.__new__") && (cd.hasDict && (!cd.hasDel && HandSPX.refsVE bm))))
    | _, _ => false
  | _ => false) && (decide (PySem.W.findIn K (.ref C) "__setattr__" = some (some (.builtin "object.__setattr__"))) && (decide (PySem.W.subIn K (.ref C) (.type "BaseException") = some true) && (decide (PySem.W.typeIn K (.ref C) = some (.type "type")) && PySem.W.keepIn K (.ref C))))
theorem oexB_ok {K : PySem.W.Frag} {C : Addr} (h : oexB K C = true) : OexC K C := by
  unfold oexB at h
  simp only [Bool.and_eq_true, decide_eq_true_eq] at h
  obtain ⟨h1, h2, h3, h4, h5⟩ := h
  refine ⟨?_, h2, h3, h4, h5⟩
  revert h1
  split
  · rename_i t dd cd sl e
    split
    · rename_i C' bm k0 k1 k2 k3 n k5 em es
      intro h
      simp only [Bool.and_eq_true, decide_eq_true_eq, Bool.not_eq_true'] at h
      obtain ⟨a1, a2, a3, a4, a5, a6⟩ := h
      subst a1 a2 a3
      obtain ⟨nm, bs, mro, N, qn, hdct, sn, sub, ab, col, hd⟩ := cd
      simp only at em a4 a5
      subst em a4 a5
      obtain ⟨sl⟩ := sl
      simp only at es
      subst es
      exact ⟨nm, qn, N, bs, bm, sn, sub, ab, col, dd, k0, k1, k2, k3, k5, e, a6⟩
    · intro h
      cases h
  · intro h
    cases h
def iniB (K : PySem.W.Frag) (x : Str) : Bool := decide (PySem.W.findIn K (.ref (He.ga K x)) "__init__" = some (some (.ref (He.ma K (He.ga K x) "__init__")))) && decide (PySem.W.typeIn K (.ref (He.ma K (He.ga K x) "__init__")) = some (.type "function"))
theorem iniB_ok {K : PySem.W.Frag} {x : Str} (h : iniB K x = true) : PySem.W.findIn K (.ref (He.ga K x)) "__init__" = some (some (.ref (He.ma K (He.ga K x) "__init__"))) ∧ PySem.W.typeIn K (.ref (He.ma K (He.ga K x) "__init__")) = some (.type "function") := by
  unfold iniB at h
  simp only [Bool.and_eq_true, decide_eq_true_eq] at h
  exact h
def partB (K : PySem.W.Frag) : Bool :=
  PySem.W.readsIn K (He.ga K "PartlyError") (.type "type") && (decide (PySem.W.specialIn K (.ref (He.ga K "PartlyError")) "__getattribute__" = some (some (.builtin "type.__getattribute__"))) &&
  (match PySem.W.findCls K (.ref (He.ga K "PartlyError")) (.type "type") "__init__" with
  | some (.val (.builtin n)) => decide (n = "ValueError.__init__")
  | _ => false))
theorem partB_ok {K : PySem.W.Frag} (z : partB K = true) : ClX.CRead K (He.ga K "PartlyError") (.type "type") ∧ PySem.W.findCls K (.ref (He.ga K "PartlyError")) (.type "type") "__init__" = some (.val (.builtin "ValueError.__init__")) := by
  unfold partB at z
  simp only [Bool.and_eq_true, decide_eq_true_eq] at z
  refine ⟨⟨z.1, z.2.1⟩, ?_⟩
  have y := z.2.2
  revert y
  split
  · rename_i n en
    intro y
    rw [en, of_decide_eq_true y]
  · intro y
    cases y
def excB (K : PySem.W.Frag) (D : Addr) : Bool :=
  decide (PySem.W.findIn K (.ref D) "__getattribute__" = some (some (.builtin "BaseException.__getattribute__"))) && (decide (PySem.W.findIn K (.ref D) "__getattr__" = some none) && (decide (PySem.W.subIn K (.ref D) (.type "BaseException") = some true) && (PySem.W.hasDictIn K D && (decide (PySem.W.findIn K (.ref D) "__class__" = some (some (.builtin "object.__class__"))) && (decide (PySem.W.specialIn K (.builtin "object.__class__") "__get__" = some (some (.builtin "getset_descriptor.__get__"))) && (decide (PySem.W.takesIn K (.builtin "object.__class__") = some true) && decide (PySem.W.mroIn K D (.type "object") = some true)))))))
theorem excB_ok {K : PySem.W.Frag} {D : Addr} (h : excB K D = true) : ExcC K D := by
  unfold excB at h
  simp only [Bool.and_eq_true, decide_eq_true_eq] at h
  obtain ⟨h1, h2, h3, h4, h5, h6, h7, h8⟩ := h
  exact ⟨h1, h2, h3, h4, h5, h6, h7, h8⟩
end L2
end
section
set_option Elab.async false
set_option linter.all false
set_option maxRecDepth 100000
set_option maxHeartbeats 4000000
namespace L2
open PySem PySem.Spec PyProof.Rows
/-- a class of the text, made by its __init__ with the promise sp -/
structure Mkc (P : Program) (w : World) (K : PySem.W.Frag) (mg : Str → Option Value) (base : Heap) (k : Nat) (x : Str) (C : Addr) (ps : List Str) (sp : Sp) : Prop where
  ex : ∃ f fd, FnOk P w K mg base CX0 k f fd ps sp ∧ mg x = some (.ref C) ∧ Mk K C f ∧ Binds K fd ps []
section
variable {X : Cx} {k : Nat} {x : Str} {C : Addr} {ps : List Str} {sp : Sp} {e : Expr} {es : List Expr} {t : TA} {p pos : Pos}
theorem pe_mkc (M : Mkc X.prog X.w X.K X.mg X.base k x C ps sp) (hr : Room (k + 1) X.A) (hg : Gl X x) (ha : PA X (e :: es) t) (hdb : (x == ("__debug__" : Str)) = false := by decide)
    (he : starEach (e :: es) X.env = (false, eval e X.env) :: starEach es X.env := by rfl) (hpl : (backTo pos (starEach es X.env)).any (·.1) = false := by rfl) : PE X (.Call (.Name x p) (e :: es) [] pos) (tMake C sp [] E0 t) := by
  obtain ⟨f, fd, G, m, mk, b⟩ := M.ex
  exact pe_make mk G hr hg m b .nil pass0 ha hdb he hpl
end
end L2
end
section
set_option Elab.async false
set_option linter.all false
set_option maxRecDepth 100000
set_option maxHeartbeats 4000000
namespace L2
open PySem PySem.Spec PyProof.Rows
theorem But.nw {p q : Addr} {H H1 : Hp} {o : HO} (B : But p H H1) (h : H1 q = none) : But p H (L2.upd H1 q o) := B.trans (But.of (Same.new h))
theorem Same.tup {K : PySem.W.Frag} {a : Addr} {H H' : Hp} {xs : List V} (s : Same H H') (h : SqT K H a xs) : SqT K H' a xs := by
  rcases h with (h | ⟨o, h⟩) | h
  · exact .inl (.inl (s _ _ h))
  · exact .inl (.inr ⟨o, s _ _ h⟩)
  · exact .inr h
theorem But.tupI {K : PySem.W.Frag} {o a C dx : Addr} {fs : List (Str × V)} {H H' : Hp} {xs : List V} (b : But o H H') (ho : H o = some (.ins C dx fs)) (h : SqT K H a xs) : SqT K H' a xs := by
  rcases h with (h | ⟨u, h⟩) | h
  · exact .inl (.inl (b _ _ (fun z => by rw [z, ho] at h; cases h) h))
  · exact .inl (.inr ⟨u, b _ _ (fun z => by rw [z, ho] at h; cases h) h⟩)
  · exact .inr h
theorem units65 {k : Nat} {A : Around} (hr : Room k A) : A.units + 65 < cLine := by
  have := hr.un
  omega
end L2
namespace CF
open PySem PySem.Spec PyProof.Rows L2
/-! facts as the laws write them down -/
inductive FD where
  | by_ (a : Str) (m r : Int)
  | gap (a b : Str) (m r : Int)
  | apart (a : Str) (k n : Int) (b : Str) (e c : Int)
  | dist (w a b : Str) (n : Int)
  deriving DecidableEq
/-- the law's tuple -/
def FD.vs : FD → List V
  | .by_ a m r => [.str "by", .str a, .int m, .int r]
  | .gap a b m r => [.str "gap", .str a, .str b, .int m, .int r]
  | .apart a k n b e c => [.str "apart", .str a, .int k, .int n, .str b, .int e, .int c]
  | .dist w a b n => [.str w, .str a, .str b, .int n]
/-- its data -/
def FD.ds : FD → List PyData
  | .by_ a m r => [.str "by", .str a, .int m, .int r]
  | .gap a b m r => [.str "gap", .str a, .str b, .int m, .int r]
  | .apart a k n b e c => [.str "apart", .str a, .int k, .int n, .str b, .int e, .int c]
  | .dist w a b n => [.str w, .str a, .str b, .int n]
def Sorts : List Str := ["from", "upto", "is"]
def Rem (m r : Int) : Prop := (m = 2 ∨ m = 4 ∨ m = 8) ∧ 0 ≤ r ∧ r < m
def Off (k : Int) : Prop := -30 ≤ k ∧ k ≤ 30
def Many (n : Int) : Prop := 1 ≤ n ∧ n ≤ 16
/-- a fact over the pointers ps -/
def FD.Ok (ps : List Str) : FD → Prop
  | .by_ a m r => a ∈ ps ∧ Rem m r
  | .gap a b m r => a ∈ ps ∧ b ∈ ps ∧ b ≠ a ∧ Rem m r
  | .apart a k n b e c => a ∈ ps ∧ b ∈ ps ∧ b ≠ a ∧ Off k ∧ Many n ∧ Off e ∧ Many c
  | .dist w a b n => w ∈ Sorts ∧ a ∈ ps ∧ b ∈ ps ∧ b ≠ a ∧ -40 ≤ n ∧ n ≤ 40
/-- words that no pointer is named with -/
def Reserved : List Str := ["input", "load", "store", "set", "join", "part", "each", "copy", "up", "down", "fill", "step", "when", "else", "end", "times", "give", "call", "to", "from", "upto", "is", "apart", "by"]
/-- a pointer's name -/
structure NameOk (z : Str) : Prop where
  free : z ∉ Reserved
  lo : 1 ≤ z.length
  hi : z.length ≤ 12
  letters : ∀ c ∈ TL.tl z, 97 ≤ c ∧ c ≤ 122
def Names (ps : List Str) : Prop := (∀ z ∈ ps, NameOk z) ∧ ps.Nodup ∧ 1 ≤ ps.length ∧ ps.length ≤ 3
theorem dps_vs (K : PySem.W.Frag) (H : Hp) (f : FD) : DpAll K H f.vs f.ds := by
  cases f <;> repeat (first | exact .nil | refine .cons (by first | exact .str _ | exact .int _) ?_)
/-- facts at their places -/
inductive FAt (H : Hp) : List Addr → List FD → Prop
  | nil : FAt H [] []
  | cons {q : Addr} {f : FD} {qs : List Addr} {fs : List FD} : H q = some (.tup f.vs) → FAt H qs fs → FAt H (q :: qs) (f :: fs)
theorem FAt.same {H H' : Hp} {qs : List Addr} {fs : List FD} (h : FAt H qs fs) (s : Same H H') : FAt H' qs fs := by
  induction h with
  | nil => exact .nil
  | cons a _ ih => exact .cons (s _ _ a) ih
theorem FAt.but {p : Addr} {H H' : Hp} {kvs : List (Key × V)} {qs : List Addr} {fs : List FD} (h : FAt H qs fs) (hp : H p = some (.dK kvs)) (s : But p H H') : FAt H' qs fs := by
  induction h with
  | nil => exact .nil
  | cons a _ ih => exact .cons (s _ _ (fun z => by rw [z, hp] at a; cases a) a) ih
theorem FAt.app {H : Hp} {q : Addr} {f : FD} {qs : List Addr} {fs : List FD} (h : FAt H qs fs) (a : H q = some (.tup f.vs)) : FAt H (qs ++ [q]) (fs ++ [f]) := by
  induction h with
  | nil => exact .cons a .nil
  | cons b _ ih => exact .cons b ih
theorem FAt.up {H : Hp} {p : Addr} {xs : List V} {o : HO} {qs : List Addr} {fs : List FD} (h : FAt H qs fs) (hp : H p = some (.lst xs)) : FAt (upd H p o) qs fs := by
  induction h with
  | nil => exact .nil
  | cons a _ ih => exact .cons (by rw [upd_ne (fun z => by rw [z, hp] at a; cases a)]; exact a) ih
theorem FAt.len {H : Hp} {qs : List Addr} {fs : List FD} (h : FAt H qs fs) : qs.length = fs.length := by
  induction h with
  | nil => rfl
  | cons _ _ ih => rw [List.length_cons, List.length_cons, ih]
theorem FAt.at_ {H : Hp} {qs : List Addr} {fs : List FD} (h : FAt H qs fs) : ∀ {i : Nat} {q : Addr}, qs[i]? = some q → ∃ f, fs[i]? = some f ∧ H q = some (.tup f.vs) := by
  induction h with
  | nil => intro i q z; cases z
  | @cons q0 f qs fs a _ ih =>
    intro i q z
    cases i with
    | zero =>
      simp only [List.getElem?_cons_zero, Option.some.injEq] at z
      subst z
      exact ⟨f, rfl, a⟩
    | succ j =>
      rw [List.getElem?_cons_succ] at z ⊢
      exact ih z
theorem FAt.dps {K : PySem.W.Frag} {H : Hp} {qs : List Addr} {fs : List FD} (h : FAt H qs fs) : DpAll K H (qs.map V.ref) (fs.map fun f => PyData.tuple f.ds) := by
  induction h with
  | nil => exact .nil
  | cons a _ ih => exact .cons (.tup (SqT.of a) (dps_vs _ _ _)) ih
/-! data that is shaped -/
def Flat (d : PyData) : Prop := d.canLay0 = true ∧ d.depth = 0
theorem flats : ∀ ds : List PyData, (∀ d ∈ ds, Flat d) → PyData.canLayAll0 ds = true ∧ PyData.depthAll ds = 0
  | [], _ => ⟨rfl, rfl⟩
  | d :: r, h => by
    obtain ⟨a, b⟩ := flats r fun x hx => h x (List.mem_cons_of_mem _ hx)
    obtain ⟨c, e⟩ := h d List.mem_cons_self
    refine ⟨?_, ?_⟩
    · show (PyData.canLay0 d && PyData.canLayAll0 r) = true
      rw [a, c]
      rfl
    · show max (PyData.depth d) (PyData.depthAll r) = 0
      rw [b, e]
      rfl
theorem shaped_tup {ds : List PyData} (h : ∀ d ∈ ds, Flat d) : SeqAt.shaped (.tuple ds) = true := by
  obtain ⟨a, b⟩ := flats ds h
  show (PyData.canLayAll0 ds && decide (PyData.depthAll ds + 1 ≤ 64)) = true
  rw [a, b]
  rfl
theorem tups : ∀ ls : List (List PyData), (∀ ds ∈ ls, ∀ d ∈ ds, Flat d) → PyData.canLayAll0 (ls.map PyData.tuple) = true ∧ PyData.depthAll (ls.map PyData.tuple) ≤ 1
  | [], _ => ⟨rfl, by show 0 ≤ 1; decide⟩
  | ds :: r, h => by
    obtain ⟨a, b⟩ := tups r fun x hx => h x (List.mem_cons_of_mem _ hx)
    obtain ⟨c, e⟩ := flats ds (h ds List.mem_cons_self)
    refine ⟨?_, ?_⟩
    · show (PyData.canLayAll0 ds && PyData.canLayAll0 (r.map PyData.tuple)) = true
      rw [a, c]
      rfl
    · show max (PyData.depthAll ds + 1) (PyData.depthAll (r.map PyData.tuple)) ≤ 1
      rw [e]
      omega
theorem shaped_tups {ls : List (List PyData)} (h : ∀ ds ∈ ls, ∀ d ∈ ds, Flat d) : SeqAt.shaped (.list (ls.map PyData.tuple)) = true := by
  obtain ⟨a, b⟩ := tups ls h
  show (PyData.canLayAll0 (ls.map PyData.tuple) && decide (PyData.depthAll (ls.map PyData.tuple) + 1 ≤ 64)) = true
  rw [a, Bool.true_and]
  exact decide_eq_true (by omega)
def Lo (z : Str) : Prop := ∀ c ∈ z.cps.toList, c < 256
instance (z : Str) : Decidable (Lo z) := inferInstanceAs (Decidable (∀ c ∈ z.cps.toList, c < 256))
theorem lo_ok {z : Str} (h : Lo z) : PyData.strOk z = true := by
  unfold PyData.strOk
  rw [← Array.all_toList]
  exact List.all_eq_true.mpr fun c hc => decide_eq_true (Nat.lt_trans (h c hc) (by decide))
theorem flat_str {z : Str} (h : Lo z) : Flat (.str z) := ⟨lo_ok h, rfl⟩
theorem flat_int (i : Int) : Flat (.int i) := ⟨rfl, rfl⟩
theorem FD.flat {ps : List Str} (hp : ∀ z ∈ ps, Lo z) : ∀ {f : FD}, f.Ok ps → ∀ d ∈ f.ds, Flat d
  | .by_ a m r, ⟨h, _⟩ => by
    intro d hd
    simp only [FD.ds, List.mem_cons, List.not_mem_nil, or_false] at hd
    rcases hd with rfl | rfl | rfl | rfl
    · exact flat_str (by decide +kernel)
    · exact flat_str (hp _ h)
    · exact flat_int _
    · exact flat_int _
  | .gap a b m r, ⟨h, g, _⟩ => by
    intro d hd
    simp only [FD.ds, List.mem_cons, List.not_mem_nil, or_false] at hd
    rcases hd with rfl | rfl | rfl | rfl | rfl
    · exact flat_str (by decide +kernel)
    · exact flat_str (hp _ h)
    · exact flat_str (hp _ g)
    · exact flat_int _
    · exact flat_int _
  | .apart a k n b e c, ⟨h, g, _⟩ => by
    intro d hd
    simp only [FD.ds, List.mem_cons, List.not_mem_nil, or_false] at hd
    rcases hd with rfl | rfl | rfl | rfl | rfl | rfl | rfl
    · exact flat_str (by decide +kernel)
    · exact flat_str (hp _ h)
    · exact flat_int _
    · exact flat_int _
    · exact flat_str (hp _ g)
    · exact flat_int _
    · exact flat_int _
  | .dist w a b n, ⟨hw, h, g, _⟩ => by
    intro d hd
    simp only [FD.ds, List.mem_cons, List.not_mem_nil, or_false] at hd
    rcases hd with rfl | rfl | rfl | rfl
    · simp only [Sorts, List.mem_cons, List.not_mem_nil, or_false] at hw
      rcases hw with rfl | rfl | rfl <;> exact flat_str (by decide +kernel)
    · exact flat_str (hp _ h)
    · exact flat_str (hp _ g)
    · exact flat_int _
/-- what is in is found -/
theorem any_in {f : FD} {fs : List FD} (h : f ∈ fs) (hf : ∀ d ∈ f.ds, Flat d) : ((fs.map fun g => PyData.tuple g.ds).any fun z => PyData.eqv z (.tuple f.ds)) = true := by
  rw [List.any_map]
  refine List.any_eq_true.mpr ⟨f, h, ?_⟩
  exact SeqAt.eqv_refl _ (flats _ hf).1
/-! the texts of facts -/
def num (i : Int) : Str := Str.ofString (toString i)
def spot (z : Str) (k : Int) : Str := z ++ (if 0 < k then ("+" : Str) ++ num k else "") ++ (if k < 0 then num k else "")
def FD.words : FD → List Str
  | .by_ a m r => [a, "by", num m, num r]
  | .gap a b m r => [a, "to", b, "by", num m, num r]
  | .apart a k n b e c => ["apart", spot a k, num n, spot b e, num c]
  | .dist w a b n => [a, "to", b, w, num n]
def FD.text (f : FD) : Str := Txt.join " " f.words
/-- what holds of all small numbers -/
theorem small_all {p : Int → Bool} (h : ((List.range 201).all fun n => p ((n : Int) - 100)) = true) {i : Int} (h0 : -100 ≤ i) (h1 : i ≤ 100) : p i = true := by
  have z := List.all_eq_true.mp h (i + 100).toNat (List.mem_range.mpr (by omega))
  have e : (((i + 100).toNat : Nat) : Int) - 100 = i := by omega
  rw [e] at z
  exact z
theorem num_len {i : Int} (h0 : -100 ≤ i) (h1 : i ≤ 100) : (num i).length ≤ 4 :=
  of_decide_eq_true (small_all (p := fun i => decide ((num i).length ≤ 4)) (by decide +kernel) h0 h1)
theorem num_lo {i : Int} (h0 : -100 ≤ i) (h1 : i ≤ 100) : Lo (num i) :=
  of_decide_eq_true (small_all (p := fun i => decide (Lo (num i))) (by decide +kernel) h0 h1)
theorem log_small {i : Int} (h0 : -100 ≤ i) (h1 : i ≤ 100) : i.natAbs.log2 < 1920 :=
  of_decide_eq_true (small_all (p := fun i => decide (i.natAbs.log2 < 1920)) (by decide +kernel) h0 h1)
theorem len_app (x y : Str) : (x ++ y).length = x.length + y.length := strLen_append x y
theorem spot_len {z : Str} {k : Int} (hz : z.length ≤ 12) (h0 : -100 ≤ k) (h1 : k ≤ 100) : (spot z k).length ≤ 30 := by
  have := num_len h0 h1
  unfold spot
  rw [len_app, len_app]
  have e : ("+" : Str).length = 1 := rfl
  have e0 : ("" : Str).length = 0 := rfl
  split <;> split <;> (try rw [len_app]) <;> omega
theorem Rem.small {m r : Int} (h : Rem m r) : (-100 ≤ m ∧ m ≤ 100) ∧ (-100 ≤ r ∧ r ≤ 100) := by
  obtain ⟨h, h0, h1⟩ := h
  omega
/-- its words are short -/
theorem FD.short {ps : List Str} (hp : ∀ z ∈ ps, z.length ≤ 12) : ∀ {f : FD}, f.Ok ps → ∀ w ∈ f.words, w.length ≤ 30
  | .by_ a m r, ⟨h, g⟩ => by
    intro w hw
    have s := g.small
    have n1 := num_len s.1.1 s.1.2
    have n2 := num_len s.2.1 s.2.2
    have na := hp _ h
    simp only [FD.words, List.mem_cons, List.not_mem_nil, or_false] at hw
    rcases hw with rfl | rfl | rfl | rfl
    · omega
    · exact (by decide : ("by" : Str).length ≤ 30)
    · omega
    · omega
  | .gap a b m r, ⟨h, h2, _, g⟩ => by
    intro w hw
    have s := g.small
    have n1 := num_len s.1.1 s.1.2
    have n2 := num_len s.2.1 s.2.2
    have na := hp _ h
    have nb := hp _ h2
    simp only [FD.words, List.mem_cons, List.not_mem_nil, or_false] at hw
    rcases hw with rfl | rfl | rfl | rfl | rfl | rfl
    · omega
    · exact (by decide : ("to" : Str).length ≤ 30)
    · omega
    · exact (by decide : ("by" : Str).length ≤ 30)
    · omega
    · omega
  | .apart a k n b e c, ⟨h, h2, _, o1, m1, o2, m2⟩ => by
    obtain ⟨o11, o12⟩ := o1
    obtain ⟨m11, m12⟩ := m1
    obtain ⟨o21, o22⟩ := o2
    obtain ⟨m21, m22⟩ := m2
    intro w hw
    have s1 := spot_len (k := k) (hp _ h) (by omega) (by omega)
    have s2 := spot_len (k := e) (hp _ h2) (by omega) (by omega)
    have n1 := num_len (i := n) (by omega) (by omega)
    have n2 := num_len (i := c) (by omega) (by omega)
    simp only [FD.words, List.mem_cons, List.not_mem_nil, or_false] at hw
    rcases hw with rfl | rfl | rfl | rfl | rfl
    · exact (by decide : ("apart" : Str).length ≤ 30)
    · omega
    · omega
    · omega
    · omega
  | .dist w a b n, ⟨hw0, h, h2, _, n0, n1⟩ => by
    intro w hw
    have na := hp _ h
    have nb := hp _ h2
    have n1 := num_len (i := n) (by omega) (by omega)
    simp only [FD.words, List.mem_cons, List.not_mem_nil, or_false] at hw
    rcases hw with rfl | rfl | rfl | rfl | rfl
    · omega
    · exact (by decide : ("to" : Str).length ≤ 30)
    · omega
    · simp only [Sorts, List.mem_cons, List.not_mem_nil, or_false] at hw0
      rcases hw0 with rfl | rfl | rfl <;> decide
    · omega
theorem sum_le {ws : List Str} {b : Nat} (h : ∀ w ∈ ws, w.length ≤ b) : (ws.map (·.length)).sum ≤ ws.length * b := by
  induction ws with
  | nil => exact Nat.zero_le _
  | cons w r ih =>
    rw [List.map_cons, List.sum_cons, List.length_cons, Nat.succ_mul]
    have := h w List.mem_cons_self
    have := ih fun x hx => h x (List.mem_cons_of_mem _ hx)
    omega
theorem FD.few (f : FD) : f.words.length ≤ 6 := by
  cases f <;> exact Nat.le_of_ble_eq_true rfl
theorem FD.fits {ps : List Str} (hp : ∀ z ∈ ps, z.length ≤ 12) {f : FD} (h : f.Ok ps) : (f.words.map (·.length)).sum + f.words.length * (" " : Str).length ≤ 16777216 := by
  have a := sum_le (FD.short hp h)
  have b := f.few
  have e : (" " : Str).length = 1 := rfl
  have c : f.words.length * 30 ≤ 6 * 30 := Nat.mul_le_mul_right _ b
  rw [e]
  omega
theorem joinL_len (S : List Nat) : ∀ ps : List (List Nat), (TL.joinL S ps).length ≤ (ps.map List.length).sum + ps.length * S.length
  | [] => by simp [TL.joinL]
  | [p] => by simp [TL.joinL]
  | p :: q :: r => by
    have h := joinL_len S (q :: r)
    have e : TL.joinL S (p :: q :: r) = p ++ (S ++ TL.joinL S (q :: r)) := by
      first | rfl | simp [TL.joinL]
    rw [e, List.length_append, List.length_append, List.map_cons, List.sum_cons, List.length_cons, Nat.succ_mul]
    omega
theorem join_len (y : Str) (ws : List Str) : (Txt.join y ws).length ≤ (ws.map (·.length)).sum + ws.length * y.length := by
  rw [TL.join_eq, TL.len_tl, TL.tl_join]
  have h := joinL_len (TL.tl y) (ws.map TL.tl)
  have e : ((ws.map TL.tl).map List.length) = ws.map (·.length) := by
    rw [List.map_map]
    exact List.map_congr_left fun x _ => (TL.len_tl x).symm
  rw [e, List.length_map, ← TL.len_tl] at h
  exact h
theorem FD.text_len {ps : List Str} (hp : ∀ z ∈ ps, z.length ≤ 12) {f : FD} (h : f.Ok ps) : f.text.length ≤ 200 := by
  have j := join_len " " f.words
  have a := sum_le (FD.short hp h)
  have b := f.few
  have e : (" " : Str).length = 1 := rfl
  have c : f.words.length * 30 ≤ 6 * 30 := Nat.mul_le_mul_right _ b
  rw [e] at j
  unfold FD.text
  omega
def textOf (fs : List FD) : Str := Txt.join "\n" (fs.map FD.text)
theorem lines_fit {ps : List Str} (hp : ∀ z ∈ ps, z.length ≤ 12) {fs : List FD} (h : ∀ f ∈ fs, f.Ok ps) (n : fs.length ≤ 13) : ((fs.map FD.text).map (·.length)).sum + (fs.map FD.text).length * ("\n" : Str).length ≤ 4000 := by
  have a := sum_le (ws := fs.map FD.text) (b := 200) (fun w hw => by
    obtain ⟨f, hf, rfl⟩ := List.mem_map.mp hw
    exact FD.text_len hp (h f hf))
  have e : ("\n" : Str).length = 1 := rfl
  rw [List.length_map] at a ⊢
  have c : fs.length * 200 ≤ 13 * 200 := Nat.mul_le_mul_right _ n
  rw [e]
  omega
theorem text_fit {ps : List Str} (hp : ∀ z ∈ ps, z.length ≤ 12) {fs : List FD} (h : ∀ f ∈ fs, f.Ok ps) (n : fs.length ≤ 13) : (textOf fs).length ≤ 4000 :=
  Nat.le_trans (join_len _ _) (lines_fit hp h n)
/-! how far, which modulus -/
def ab (i : Int) : Int := if i < 0 then -i else i
def FD.far : FD → Int
  | .apart _ k n _ e c => ab k + n + ab e + c
  | .dist _ _ _ n => ab n
  | _ => 0
def FD.mod : FD → Int
  | .by_ _ m _ => m
  | .gap _ _ m _ => m
  | _ => 1
def mx (a b : Int) : Int := if b > a then b else a
def farOf (fs : List FD) : Int := fs.foldl (fun a f => mx a f.far) 0
def modOf (fs : List FD) : Int := fs.foldl (fun a f => mx a f.mod) 1
theorem NameOk.lo_ {z : Str} (h : NameOk z) : Lo z := fun c hc => by
  have := h.letters c hc
  omega
instance (z : Str) : Decidable (NameOk z) := decidable_of_iff (z ∉ Reserved ∧ 1 ≤ z.length ∧ z.length ≤ 12 ∧ ∀ c ∈ TL.tl z, 97 ≤ c ∧ c ≤ 122) ⟨fun h => ⟨h.1, h.2.1, h.2.2.1, h.2.2.2⟩, fun h => ⟨h.free, h.lo, h.hi, h.letters⟩⟩
theorem inV_strs (z : Str) (ns : List Str) : inV (.str z) (ns.map V.str) = decide (z ∈ ns) := by
  induction ns with
  | nil => rfl
  | cons w r ih =>
    have e : inV (.str z) ((w :: r).map V.str) = (decide (w = z) || inV (.str z) (r.map V.str)) := rfl
    rw [e, ih]
    by_cases h : w = z
    · rw [decide_eq_true h, Bool.true_or, decide_eq_true (List.mem_cons.mpr (.inl h.symm))]
    · rw [decide_eq_false h, Bool.false_or]
      exact decide_eq_decide.mpr ⟨fun y => List.mem_cons_of_mem _ y, fun y => (List.mem_cons.mp y).resolve_left fun e => h e.symm⟩
theorem flat_strs (ys : List Str) : (ys.map V.str).all flatV = true := by
  rw [List.all_map]
  exact List.all_eq_true.mpr fun _ _ => rfl
theorem cut_to (xs : List V) {m : Int} (h : 0 ≤ m) : cutV xs none (some m) = xs.take m.toNat := by
  unfold cutV HT.sIx
  simp only [if_neg (show ¬ m < 0 by omega), List.drop_zero, Nat.sub_zero]
  by_cases e : m.toNat ≤ xs.length
  · rw [Nat.min_eq_left e]
  · rw [Nat.min_eq_right (by omega), List.take_length, List.take_of_length_le (by omega)]
theorem drop_one {α : Type} [DecidableEq α] (x : α) : ∀ l : List α, l.Nodup → l.length ≤ (l.filter fun y => !decide (y = x)).length + 1
  | [], _ => Nat.zero_le _
  | y :: r, h => by
    have hr := (List.nodup_cons.mp h).2
    by_cases e : y = x
    · rw [List.filter_cons_of_neg (by rw [decide_eq_true e]; decide), List.length_cons]
      have : (r.filter fun y => !decide (y = x)) = r := List.filter_eq_self.mpr fun z hz => by
        have : z ≠ x := fun q => (List.nodup_cons.mp h).1 (e.symm ▸ q ▸ hz)
        rw [decide_eq_false this]
        rfl
      rw [this]
      omega
    · rw [List.filter_cons_of_pos (by rw [decide_eq_false e]; rfl), List.length_cons, List.length_cons]
      have := drop_one x r hr
      omega
theorem drop_all {α : Type} [DecidableEq α] (l : List α) (h : l.Nodup) : ∀ ns : List α, l.length ≤ (l.filter fun y => !decide (y ∈ ns)).length + ns.length
  | [] => by
    have : (l.filter fun y => !decide (y ∈ ([] : List α))) = l := List.filter_eq_self.mpr fun z _ => by simp
    rw [this]
    exact Nat.le_refl _
  | x :: ns => by
    have ih := drop_all l h ns
    have d := drop_one x (l.filter fun y => !decide (y ∈ ns)) (h.sublist List.filter_sublist)
    rw [List.filter_filter] at d
    have e : (l.filter fun a => (!decide (a = x)) && !decide (a ∈ ns)) = l.filter fun y => !decide (y ∈ x :: ns) := by
      refine List.filter_congr fun a _ => ?_
      by_cases e1 : a = x <;> by_cases e2 : a ∈ ns <;> simp [e1, e2]
    rw [e] at d
    rw [List.length_cons]
    omega
/-- a text joined out of letters -/
theorem joinL_nil : ∀ ps : List (List Nat), TL.joinL [] ps = ps.flatten
  | [] => rfl
  | [p] => by simp [TL.joinL]
  | p :: q :: r => by
    have h := joinL_nil (q :: r)
    have e : TL.joinL [] (p :: q :: r) = p ++ ([] ++ TL.joinL [] (q :: r)) := by
      first | rfl | simp [TL.joinL]
    rw [e, h]
    rfl
theorem join_letters {ys : List Str} (h : ∀ y ∈ ys, ∃ c, TL.tl y = [c] ∧ 97 ≤ c ∧ c ≤ 122) : (Txt.join "" ys).length = ys.length ∧ ∀ c ∈ TL.tl (Txt.join "" ys), 97 ≤ c ∧ c ≤ 122 := by
  have e : TL.tl (Txt.join "" ys) = (ys.map TL.tl).flatten := by
    rw [TL.join_eq, TL.tl_join]
    exact joinL_nil _
  have l : ∀ ys : List Str, (∀ y ∈ ys, ∃ c, TL.tl y = [c] ∧ 97 ≤ c ∧ c ≤ 122) → ((ys.map TL.tl).flatten).length = ys.length ∧ ∀ c ∈ (ys.map TL.tl).flatten, 97 ≤ c ∧ c ≤ 122 := by
    intro ys
    induction ys with
    | nil => intro _; exact ⟨rfl, by simp⟩
    | cons y r ih =>
      intro h
      obtain ⟨a, b⟩ := ih fun z hz => h z (List.mem_cons_of_mem _ hz)
      obtain ⟨c, hc, c0, c1⟩ := h y List.mem_cons_self
      rw [List.map_cons, List.flatten_cons, hc]
      refine ⟨by rw [List.length_append, a, List.length_cons]; simp [Nat.add_comm], fun d hd => ?_⟩
      rcases List.mem_append.mp hd with x | x
      · rw [List.mem_singleton.mp x]
        exact ⟨c0, c1⟩
      · exact b d x
  rw [TL.len_tl, e]
  exact l ys h
/-! a spot's text, taken apart -/
theorem num_plus {i : Int} (h0 : -100 ≤ i) (h1 : i ≤ 100) : 43 ∉ TL.tl (num i) :=
  of_decide_eq_true (small_all (p := fun i => decide (43 ∉ TL.tl (num i))) (by decide +kernel) h0 h1)
theorem num_neg {i : Int} (h0 : -100 ≤ i) (h1 : i ≤ 100) (h : i < 0) : num i = ("-" : Str) ++ num (-i) := by
  have z := of_decide_eq_true (small_all (p := fun i => decide (i < 0 → num i = ("-" : Str) ++ num (-i))) (by decide +kernel) h0 h1)
  exact z h
theorem NameOk.no {z : Str} (h : NameOk z) {c : Nat} (hc : c < 97) : c ∉ TL.tl z := fun hm => by
  have := h.letters c hm
  omega
theorem app_nil (z : Str) : z ++ ("" : Str) = z := TL.ext_tl (by rw [TL.tl_append]; exact List.append_nil _)
theorem app_as (x y z : Str) : (x ++ y) ++ z = x ++ (y ++ z) := TL.ext_tl (by rw [TL.tl_append, TL.tl_append, TL.tl_append, TL.tl_append, List.append_assoc])
theorem spot_pos {z : Str} {k : Int} (h : 0 < k) : spot z k = z ++ ("+" : Str) ++ num k := by
  unfold spot
  rw [if_pos h, if_neg (by omega), app_nil, app_as]
theorem spot_neg {z : Str} {k : Int} (h : k < 0) (h0 : -100 ≤ k) : spot z k = z ++ ("-" : Str) ++ num (-k) := by
  unfold spot
  rw [if_neg (by omega), if_pos h, app_nil, num_neg h0 (by omega) h, app_as]
theorem spot_zero {z : Str} : spot z 0 = z := by
  unfold spot
  rw [if_neg (by decide), if_neg (by decide), app_nil, app_nil]
def sgn (k : Int) : Str := if 0 < k then "+" else "-"
theorem spot_sign {z : Str} (hz : NameOk z) {k : Int} (h0 : -100 ≤ k) (h1 : k ≤ 100) : decide (43 ∈ (spot z k).cps.toList) = decide (0 < k) := by
  have hn := hz.no (c := 43) (by decide)
  refine decide_eq_decide.mpr ⟨fun hm => ?_, fun h => ?_⟩
  · have hm' : 43 ∈ TL.tl (spot z k) := hm
    rcases Int.lt_trichotomy k 0 with h | h | h
    · rw [spot_neg h h0, TL.tl_append, TL.tl_append] at hm'
      rcases List.mem_append.mp hm' with x | x
      · rcases List.mem_append.mp x with y | y
        · exact absurd y hn
        · exact absurd y (by decide +kernel)
      · exact absurd x (num_plus (by omega) (by omega))
    · rw [h, spot_zero] at hm'
      exact absurd hm' hn
    · exact h
  · show 43 ∈ TL.tl (spot z k)
    rw [spot_pos h, TL.tl_append, TL.tl_append]
    exact List.mem_append_left _ (List.mem_append_right _ (by decide +kernel))
theorem spot_parts {z : Str} (hz : NameOk z) {k : Int} (h0 : -100 ≤ k) (h1 : k ≤ 100) : Txt.partition (spot z k) (sgn k) = (z, (if k = 0 then ("" : Str) else sgn k), (if k = 0 then ("" : Str) else num (ab k))) := by
  unfold sgn ab
  rcases Int.lt_trichotomy k 0 with h | h | h
  · rw [if_neg (by omega), if_neg (by omega), if_neg (by omega), if_pos h, spot_neg h h0]
    exact TL.partition_app (s := 45) (S := []) rfl (hz.no (by decide))
  · subst h
    rw [if_neg (by decide), if_pos rfl, if_pos rfl, spot_zero]
    exact TL.partition_none (s := 45) (S := []) rfl (hz.no (by decide))
  · rw [if_pos h, if_neg (by omega), if_neg (by omega), if_neg (by omega), spot_pos h]
    exact TL.partition_app (s := 43) (S := []) rfl (hz.no (by decide))
/-! the greatest -/
theorem mxl (l : List Int) : ∀ a : Int, a ≤ l.foldl mx a ∧ (∀ y ∈ l, y ≤ l.foldl mx a) ∧ (l.foldl mx a = a ∨ l.foldl mx a ∈ l) := by
  induction l with
  | nil => exact fun a => ⟨Int.le_refl _, by simp, .inl rfl⟩
  | cons x r ih =>
    intro a
    obtain ⟨h1, h2, h3⟩ := ih (mx a x)
    have m1 : a ≤ mx a x ∧ x ≤ mx a x ∧ (mx a x = a ∨ mx a x = x) := by
      unfold mx
      split <;> omega
    rw [List.foldl_cons]
    refine ⟨by omega, fun y hy => ?_, ?_⟩
    · rcases List.mem_cons.mp hy with rfl | h
      · omega
      · exact h2 y h
    · rcases h3 with h | h
      · rcases m1.2.2 with e | e
        · exact .inl (h.trans e)
        · exact .inr (List.mem_cons.mpr (.inl (h.trans e)))
      · exact .inr (List.mem_cons_of_mem _ h)
theorem mx_is {l : List Int} {a m : Int} (hm : m ∈ l) (hle : ∀ y ∈ l, y ≤ m) (ha : ∀ y ∈ l, a ≤ y) : l.foldl mx a = m := by
  obtain ⟨h1, h2, h3⟩ := mxl l a
  have h4 := h2 m hm
  rcases h3 with h | h
  · have := ha m hm
    omega
  · have := hle _ h
    omega
theorem farOf_map (fs : List FD) : farOf fs = (fs.map FD.far).foldl mx 0 := by
  unfold farOf
  rw [List.foldl_map]
theorem modOf_map (fs : List FD) : modOf fs = (fs.map FD.mod).foldl mx 1 := by
  unfold modOf
  rw [List.foldl_map]
theorem far_nn {ps : List Str} {f : FD} (h : f.Ok ps) : 0 ≤ f.far := by
  have a (i : Int) : 0 ≤ ab i := by
    unfold ab
    split <;> omega
  cases f with
  | by_ a m r => exact Int.le_refl _
  | gap a b m r => exact Int.le_refl _
  | apart z k n y e c =>
    obtain ⟨_, _, _, _, m1, _, m2⟩ := h
    have := m1.1
    have := m2.1
    have := a k
    have := a e
    show 0 ≤ ab k + n + ab e + c
    omega
  | dist w z y n => exact a n
theorem mod_pos {ps : List Str} {f : FD} (h : f.Ok ps) : 1 ≤ f.mod := by
  cases f with
  | by_ a m r =>
    obtain ⟨_, hm, _⟩ := h
    show 1 ≤ m
    omega
  | gap a b m r =>
    obtain ⟨_, _, _, hm, _⟩ := h
    show 1 ≤ m
    omega
  | apart z k n y e c => exact Int.le_refl _
  | dist w z y n => exact Int.le_refl _
/-! a fact's text can be taken apart, and tells the fact -/
theorem num_space {i : Int} (h0 : -100 ≤ i) (h1 : i ≤ 100) : 32 ∉ TL.tl (num i) ∧ 10 ∉ TL.tl (num i) :=
  of_decide_eq_true (small_all (p := fun i => decide (32 ∉ TL.tl (num i) ∧ 10 ∉ TL.tl (num i))) (by decide +kernel) h0 h1)
theorem num_int {i : Int} (h0 : -100 ≤ i) (h1 : i ≤ 100) : PySem.intText? (num i) = some i :=
  of_decide_eq_true (small_all (p := fun i => decide (PySem.intText? (num i) = some i)) (by decide +kernel) h0 h1)
theorem num_inj {i j : Int} (h0 : -100 ≤ i) (h1 : i ≤ 100) (g0 : -100 ≤ j) (g1 : j ≤ 100) (e : num i = num j) : i = j := by
  have a := num_int h0 h1
  rw [e, num_int g0 g1] at a
  exact (Option.some.inj a).symm
theorem spot_space {z : Str} (hz : NameOk z) {k : Int} (h0 : -100 ≤ k) (h1 : k ≤ 100) {c : Nat} (hc : c = 32 ∨ c = 10) : c ∉ TL.tl (spot z k) := by
  have hn := hz.no (c := c) (by omega)
  have hk : c ∉ TL.tl (num k) := by
    rcases hc with rfl | rfl
    · exact (num_space h0 h1).1
    · exact (num_space h0 h1).2
  unfold spot
  rw [TL.tl_append, TL.tl_append]
  intro hm
  rcases List.mem_append.mp hm with hm | hm
  · rcases List.mem_append.mp hm with hm | hm
    · exact hn hm
    · split at hm
      · rw [TL.tl_append] at hm
        rcases List.mem_append.mp hm with hm | hm
        · rcases hc with rfl | rfl <;> exact absurd hm (by decide +kernel)
        · exact hk hm
      · cases hm
  · split at hm
    · exact hk hm
    · cases hm
theorem spot_inj {z y : Str} (hz : NameOk z) (hy : NameOk y) {k e : Int} (k0 : -30 ≤ k) (k1 : k ≤ 30) (e0 : -30 ≤ e) (e1 : e ≤ 30) (h : spot z k = spot y e) : z = y ∧ k = e := by
  have a := spot_sign hz (k := k) (by omega) (by omega)
  have b := spot_sign hy (k := e) (by omega) (by omega)
  rw [h, b] at a
  have sg : sgn k = sgn e := by
    unfold sgn
    have := decide_eq_decide.mp a
    by_cases kp : 0 < k
    · rw [if_pos kp, if_pos (this.mpr kp)]
    · rw [if_neg kp, if_neg (fun x => kp (this.mp x))]
  have p1 := spot_parts hz (k := k) (by omega) (by omega)
  have p2 := spot_parts hy (k := e) (by omega) (by omega)
  rw [h, sg, p2] at p1
  have q1 := (Prod.mk.inj p1).1
  have q2 := (Prod.mk.inj (Prod.mk.inj p1).2).1
  have q3 := (Prod.mk.inj (Prod.mk.inj p1).2).2
  refine ⟨q1.symm, ?_⟩
  have sne : ∀ k : Int, sgn k ≠ "" := fun k => by
    unfold sgn
    split <;> decide
  by_cases ke : k = 0
  · by_cases ee : e = 0
    · rw [ke, ee]
    · rw [if_neg ee, if_pos ke] at q2
      exact absurd q2 (sne e)
  · by_cases ee : e = 0
    · rw [if_pos ee, if_neg ke] at q2
      exact absurd q2.symm (fun x => sne e x)
    · rw [if_neg ee, if_neg ke] at q3
      have abk : 0 ≤ ab k ∧ ab k ≤ 30 ∧ (0 < k → ab k = k) ∧ (¬ 0 < k → ab k = -k) := by
        unfold ab
        split <;> omega
      have abe : 0 ≤ ab e ∧ ab e ≤ 30 ∧ (0 < e → ab e = e) ∧ (¬ 0 < e → ab e = -e) := by
        unfold ab
        split <;> omega
      have n := num_inj (by omega) (by omega) (by omega) (by omega) q3
      have d := decide_eq_decide.mp a
      by_cases kp : 0 < k
      · have := abk.2.2.1 kp
        have := abe.2.2.1 (d.mpr kp)
        omega
      · have := abk.2.2.2 kp
        have := abe.2.2.2 (fun x => kp (d.mp x))
        omega
theorem FD.nosp {ps : List Str} (hp : ∀ z ∈ ps, NameOk z) {c : Nat} (hc : c = 32 ∨ c = 10) : ∀ {f : FD}, f.Ok ps → ∀ w ∈ f.words, c ∉ TL.tl w := by
  have lit : ∀ w ∈ (["by", "to", "apart", "from", "upto", "is"] : List Str), c ∉ TL.tl w := by
    rcases hc with rfl | rfl <;> decide +kernel
  have nn : ∀ {i : Int}, -100 ≤ i → i ≤ 100 → c ∉ TL.tl (num i) := fun h0 h1 => by
    rcases hc with rfl | rfl
    · exact (num_space h0 h1).1
    · exact (num_space h0 h1).2
  have nz : ∀ z ∈ ps, c ∉ TL.tl z := fun z hz => (hp z hz).no (by omega)
  intro f ok w hw
  cases f with
  | by_ a m r =>
    obtain ⟨h, g⟩ := ok
    have s := g.small
    simp only [FD.words, List.mem_cons, List.not_mem_nil, or_false] at hw
    rcases hw with rfl | rfl | rfl | rfl
    · exact nz _ h
    · exact lit _ (by decide)
    · exact nn s.1.1 s.1.2
    · exact nn s.2.1 s.2.2
  | gap a b m r =>
    obtain ⟨h, h2, _, g⟩ := ok
    have s := g.small
    simp only [FD.words, List.mem_cons, List.not_mem_nil, or_false] at hw
    rcases hw with rfl | rfl | rfl | rfl | rfl | rfl
    · exact nz _ h
    · exact lit _ (by decide)
    · exact nz _ h2
    · exact lit _ (by decide)
    · exact nn s.1.1 s.1.2
    · exact nn s.2.1 s.2.2
  | apart a k n b e c2 =>
    obtain ⟨h, h2, _, o1, m1, o2, m2⟩ := ok
    obtain ⟨o11, o12⟩ := o1
    obtain ⟨m11, m12⟩ := m1
    obtain ⟨o21, o22⟩ := o2
    obtain ⟨m21, m22⟩ := m2
    simp only [FD.words, List.mem_cons, List.not_mem_nil, or_false] at hw
    rcases hw with rfl | rfl | rfl | rfl | rfl
    · exact lit _ (by decide)
    · exact spot_space (hp _ h) (by omega) (by omega) hc
    · exact nn (by omega) (by omega)
    · exact spot_space (hp _ h2) (by omega) (by omega) hc
    · exact nn (by omega) (by omega)
  | dist v a b n =>
    obtain ⟨hv, h, h2, _, n0, n1⟩ := ok
    simp only [FD.words, List.mem_cons, List.not_mem_nil, or_false] at hw
    rcases hw with rfl | rfl | rfl | rfl | rfl
    · exact nz _ h
    · exact lit _ (by decide)
    · exact nz _ h2
    · simp only [Sorts, List.mem_cons, List.not_mem_nil, or_false] at hv
      rcases hv with rfl | rfl | rfl <;> exact lit _ (by decide)
    · exact nn (by omega) (by omega)
theorem FD.split {ps : List Str} (hp : ∀ z ∈ ps, NameOk z) {f : FD} (ok : f.Ok ps) : Txt.split f.text " " = f.words :=
  TL.split_join (s := 32) (S := []) rfl (by decide +kernel) (by cases f <;> exact fun e => by cases e) (FD.nosp hp (.inl rfl) ok)
theorem FD.words_inj {ps : List Str} (hp : ∀ z ∈ ps, NameOk z) {f g : FD} (okf : f.Ok ps) (okg : g.Ok ps) (e : f.words = g.words) : f = g := by
  have noap : ∀ z ∈ ps, z ≠ "apart" := fun z hz x => (hp z hz).free (x ▸ by decide +kernel)
  cases f with
  | by_ a m r =>
    cases g with
    | by_ a2 m2 r2 =>
      obtain ⟨_, h1⟩ := okf
      obtain ⟨_, h2⟩ := okg
      have s1 := h1.small
      have s2 := h2.small
      simp only [FD.words, List.cons.injEq, and_true, true_and] at e
      obtain ⟨e1, e2, e3⟩ := e
      rw [e1, num_inj s1.1.1 s1.1.2 s2.1.1 s2.1.2 e2, num_inj s1.2.1 s1.2.2 s2.2.1 s2.2.2 e3]
    | gap => simp [FD.words] at e
    | apart => simp [FD.words] at e
    | dist => simp [FD.words] at e
  | gap a b m r =>
    cases g with
    | gap a2 b2 m2 r2 =>
      obtain ⟨_, _, _, h1⟩ := okf
      obtain ⟨_, _, _, h2⟩ := okg
      have s1 := h1.small
      have s2 := h2.small
      simp only [FD.words, List.cons.injEq, and_true, true_and] at e
      obtain ⟨e0, e1, e2, e3⟩ := e
      rw [e0, e1, num_inj s1.1.1 s1.1.2 s2.1.1 s2.1.2 e2, num_inj s1.2.1 s1.2.2 s2.2.1 s2.2.2 e3]
    | by_ => simp [FD.words] at e
    | apart => simp [FD.words] at e
    | dist => simp [FD.words] at e
  | apart a k n b j c =>
    cases g with
    | apart a2 k2 n2 b2 j2 c2 =>
      obtain ⟨h1, h2, _, ⟨o1, o2⟩, ⟨o3, o4⟩, ⟨o5, o6⟩, ⟨o7, o8⟩⟩ := okf
      obtain ⟨g1, g2, _, ⟨p1, p2⟩, ⟨p3, p4⟩, ⟨p5, p6⟩, ⟨p7, p8⟩⟩ := okg
      simp only [FD.words, List.cons.injEq, and_true, true_and] at e
      obtain ⟨e0, e1, e2, e3⟩ := e
      obtain ⟨x1, x2⟩ := spot_inj (hp _ h1) (hp _ g1) o1 o2 p1 p2 e0
      obtain ⟨x3, x4⟩ := spot_inj (hp _ h2) (hp _ g2) o5 o6 p5 p6 e2
      rw [x1, x2, x3, x4, num_inj (by omega) (by omega) (by omega) (by omega) e1, num_inj (by omega) (by omega) (by omega) (by omega) e3]
    | by_ => simp [FD.words] at e
    | gap => simp [FD.words] at e
    | dist v a2 b2 n2 =>
      simp only [FD.words, List.cons.injEq] at e
      exact absurd e.1.symm (noap _ okg.2.1)
  | dist v a b n =>
    cases g with
    | dist v2 a2 b2 n2 =>
      obtain ⟨_, _, _, _, n0, n1⟩ := okf
      obtain ⟨_, _, _, _, m0, m1⟩ := okg
      simp only [FD.words, List.cons.injEq, and_true, true_and] at e
      obtain ⟨e0, e1, e2, e3⟩ := e
      rw [e0, e1, e2, num_inj (by omega) (by omega) (by omega) (by omega) e3]
    | by_ => simp [FD.words] at e
    | gap => simp [FD.words] at e
    | apart a2 k2 n2 b2 j2 c2 =>
      simp only [FD.words, List.cons.injEq] at e
      exact absurd e.1 (noap _ okf.2.1)
theorem FD.text_inj {ps : List Str} (hp : ∀ z ∈ ps, NameOk z) {f g : FD} (okf : f.Ok ps) (okg : g.Ok ps) (e : f.text = g.text) : f = g := by
  refine FD.words_inj hp okf okg ?_
  rw [← FD.split hp okf, ← FD.split hp okg, e]
theorem joinL_mem {S : List Nat} {c : Nat} : ∀ {ps : List (List Nat)}, c ∈ TL.joinL S ps → c ∈ S ∨ ∃ p ∈ ps, c ∈ p
  | [], h => by cases h
  | [p], h => .inr ⟨p, List.mem_cons_self, by simpa [TL.joinL] using h⟩
  | p :: q :: r, h => by
    have e : TL.joinL S (p :: q :: r) = p ++ (S ++ TL.joinL S (q :: r)) := by
      first | rfl | simp [TL.joinL]
    rw [e] at h
    rcases List.mem_append.mp h with x | x
    · exact .inr ⟨p, List.mem_cons_self, x⟩
    · rcases List.mem_append.mp x with y | y
      · exact .inl y
      · rcases joinL_mem y with z | ⟨w, hw, hc⟩
        · exact .inl z
        · exact .inr ⟨w, List.mem_cons_of_mem _ hw, hc⟩
theorem FD.line_ok {ps : List Str} (hp : ∀ z ∈ ps, NameOk z) {f : FD} (ok : f.Ok ps) : 1 ≤ f.text.length ∧ 10 ∉ TL.tl f.text := by
  refine ⟨?_, fun hm => ?_⟩
  · unfold FD.text
    rw [TL.join_eq, TL.len_tl, TL.tl_join]
    have two : ∃ p q r, f.words = p :: q :: r := by cases f <;> exact ⟨_, _, _, rfl⟩
    obtain ⟨p, q, r, e⟩ := two
    rw [e]
    have e2 : TL.joinL (TL.tl " ") ((p :: q :: r).map TL.tl) = TL.tl p ++ (TL.tl " " ++ TL.joinL (TL.tl " ") ((q :: r).map TL.tl)) := by
      first | rfl | simp [TL.joinL]
    rw [e2, List.length_append, List.length_append]
    have : (TL.tl " ").length = 1 := rfl
    omega
  · unfold FD.text at hm
    rw [TL.join_eq, TL.tl_join] at hm
    rcases joinL_mem hm with h | ⟨p, h, hc⟩
    · exact absurd h (by decide +kernel)
    · obtain ⟨w, hw, rfl⟩ := List.mem_map.mp h
      exact FD.nosp hp (.inr rfl) ok w hw hc
end CF
end
section
set_option Elab.async false
set_option linter.all false
set_option maxRecDepth 100000
set_option maxHeartbeats 4000000
namespace L2
open PySem PySem.Spec PyProof.Rows
theorem meets_enumerate_newT (l : Addr) (items : Array Value) (n : Nat) (dct : Option Addr) (sl : Array (Option Value)) :
    Meets (Builtin.«enumerate.__new__» { pos := [Value.type "enumerate", Value.ref l] }) fun x R s =>
      s.heap.get? l = some { cls := Value.type "tuple", dict := dct, data := Data.seq items n, slots := sl } ∧
      R (Except.ok (Flow.ret (Value.ref (s.heap.push { cls := Value.type "tuple_iterator", data := Data.fields #[Value.ref l, Value.int 0 0] }).objs.size)))
        { heap := (s.heap.push { cls := Value.type "tuple_iterator", data := Data.fields #[Value.ref l, Value.int 0 0] }).push
              { cls := Value.type "enumerate", data := Data.fields #[Value.none, Value.bool false, Value.ref s.heap.objs.size, rawInt 0, Value.none, Value.none] },
          gens := s.gens, drawn := s.drawn, toks := s.toks, os := s.os } := by
  refine Meets.of_wp fun prog w A R s h => ?_
  obtain ⟨hp, g, d, tk, os⟩ := s
  obtain ⟨hl, h⟩ := h
  have hsub := sub_enumerate
  have hT : hp.IsTuple l items := ⟨_, hl, rfl, n, rfl⟩
  unfold Builtin.«enumerate.__new__»
  refine wpAny_bind ?_
  unfold Builtin.SmallTypes.newClass
  refine wpAny_bind ?_
  refine wpAny_pure ?_
  refine wpAny_ite_false rfl ?_
  refine wpAny_bind ?_
  rw [hsub]
  refine wpAny_pure ?_
  refine wpAny_ite_false rfl ?_
  refine wpAny_pure ?_
  refine wpAny_ite_true rfl ?_
  refine wpAny_bind ?_
  unfold Builtin.SmallTypes.calledThroughType
  refine wpAny_bind ?_
  refine wpAny_stack_any fun st => ?_
  refine wpAny_pure ?_
  have fin : wpAny (model prog w) A.in1 (do
              let __do_lift ← pyIter (Value.ref l)
              let __do_lift ← Builtin.SmallTypes.newRecord (Value.type "enumerate") (Builtin.SmallTypes.ownedTupleFields ++ [__do_lift, rawInt 0, Value.none, Value.none])
              ret __do_lift) (fun fin s' => ∃ v, fin = Fin.done (Flow.ret v) ∧ R (Except.ok (Flow.ret v)) s') (fun e s' => R (Except.error e) s') { heap := hp, gens := g, drawn := d, toks := tk, os := os } := by
    refine wpAny_bind (wpAny_pyIter_tuple hT ?_)
    refine wpAny_bind ?_
    unfold Builtin.SmallTypes.newRecord
    refine wpAny_newObj_type ?_ (by show 6 ≤ sizeLine + 2; decide)
    exact wpAny_pure ⟨_, rfl, h⟩
  split
  · generalize (_ == Value.type "enumerate") = short
    cases short
    · refine wpAny_ite_false rfl ?_
      refine wpAny_bind ?_
      show wpAny _ _ (pure (Value.ref l, none)) _ _ _
      exact wpAny_pure fin
    · refine wpAny_ite_true rfl ?_
      refine wpAny_bind ?_
      show wpAny _ _ (pure (Value.ref l, none)) _ _ _
      exact wpAny_pure fin
  · refine wpAny_ite_false rfl ?_
    refine wpAny_bind ?_
    show wpAny _ _ (pure (Value.ref l, none)) _ _ _
    exact wpAny_pure fin
theorem call_enumerate_tuple {prog : Program} {w : World} {A : Around} {E : Value → Shared → Prop} {s : Shared} {l : Addr} {items : Array Value} {Q : Value → Shared → Prop} (hT : s.heap.IsTuple l items)
    (h : ∀ h' : Heap, IsEnum h' (s.heap.objs.size + 1) s.heap.objs.size 0 Value.none → h'.IsTupleIter s.heap.objs.size l 0 → h'.objs.size = s.heap.objs.size + 2 → (∀ (b : Addr) (o : Obj), s.heap.get? b = some o → h'.get? b = some o) →
      Q (Value.ref (s.heap.objs.size + 1)) { heap := h', gens := s.gens, drawn := s.drawn, toks := s.toks, os := s.os }) :
    wpAny (model prog w) A (call (Value.type "enumerate") [Value.ref l]) Q E s := by
  obtain ⟨⟨c, dct, dt, sl⟩, hl, hc, n, hd⟩ := hT
  simp only at hc hd
  subst hc hd
  refine callType_new F.called_enumerate (by decide) (F.typeCall_enumerate_1 (Value.ref l)) (F.newCall_enumerate_1 (Value.ref l)) (fun obj => F.args_object_init_2 obj (Value.ref l)) F.entry_enumerate_new (meets_enumerate_newT l items n dct sl) ⟨hl, ?_⟩
  have hz := Heap.size_push s.heap { cls := Value.type "tuple_iterator", data := Data.fields #[Value.ref l, Value.int 0 0] }
  have he := Heap.get?_push_size (s.heap.push { cls := Value.type "tuple_iterator", data := Data.fields #[Value.ref l, Value.int 0 0] }) (o := { cls := Value.type "enumerate", data := Data.fields #[Value.none, Value.bool false, Value.ref s.heap.objs.size, rawInt 0, Value.none, Value.none] }) rfl
  show _ ∧ Q (Value.ref (s.heap.push _).objs.size) _
  rw [hz] at he ⊢
  refine ⟨⟨_, he, rfl⟩, h _ he ⟨_, Heap.get?_push_of_some _ (Heap.get?_push_size s.heap rfl), rfl, rfl⟩ ?_ fun b o x => Heap.get?_push_of_some _ (Heap.get?_push_of_some _ x)⟩
  rw [Heap.size_push, hz]
theorem draws_tuple {prog : Program} {w : World} {A : Around} (hh : A.handled = none) (it l : Addr) (hne : l ≠ it) (items : Array Value) :
    Draws prog w A it [it, l] items.size (fun i v => items[i]? = some v) fun i h => h.IsTupleIter it l i ∧ h.IsTuple l items where
  live _ _ st := by
    obtain ⟨⟨o, ho, _⟩, _⟩ := st
    exact ⟨o, ho⟩
  frame _ _ _ st hk := ⟨st.1.at fun o e => hk it (by simp) o e, by
    obtain ⟨o, ho, r⟩ := st.2
    exact ⟨o, hk l (by simp) o ho, r⟩⟩
  item i s Q E hi st hQ := RZ.nextOf_tuple_item (x := items[i]) st.1 st.2 (by simp [hi]) fun h' hit' hs' => hQ items[i] h' s.toks (by simp [hi]) ⟨hit', by
    obtain ⟨o, ho, r⟩ := st.2
    exact ⟨o, (hs'.right l hne).trans ho, r⟩⟩ hs'
  done s Q E st hE := RZ.nextOf_tuple_end hh st.1 st.2 (by simp) hE
/-- enumerate of a tuple -/
def IteT (K : PySem.W.Frag) (a : Addr) : It where
  go i H := ∃ xs x, SqT K H a xs ∧ xs[i]? = some x
  yld i H v H' := ∃ (T : Addr) (x : V), v = .ref T ∧ H T = none ∧ H' = upd H T (.tup [.int (i : Nat), x]) ∧ ∀ xs : List V, SqT K H a xs → xs[i]? = some x
  stop i H := ∃ xs, SqT K H a xs ∧ xs.length = i
theorem walk_enumT {K : PySem.W.Frag} {a : Addr} {xs : List V} : Walk (IteT K a) xs.length (fun H => SqT K H a xs) (YPair (fun i => some (.int (i : Nat))) (fun i => xs[i]?)) where
  goes i x hi q := ⟨xs, xs[i], q, by simp [hi]⟩
  stops x q := ⟨xs, q, rfl⟩
  yields i H v H' x q y := by
    obtain ⟨T, z, h1, h2, h3, h4⟩ := y
    exact ⟨T, _, z, h1, h2, h3, rfl, h4 xs q⟩
theorem turn_enumT {P : Program} {w : World} {K : PySem.W.Frag} {elts : List Expr} {kk : Nat} {tpos : Pos} (a e it : Addr) :
    Turn P w K (.Tuple elts kk tpos) (IteT K a) [e, it] e fun i h => (∃ old, IsEnum h e it (i : Nat) old) ∧ h.IsTupleIter it a i ∧ e ≠ it ∧ a ≠ it ∧ a ≠ e where
  mem := by simp
  obj i h st b hb := by
    obtain ⟨⟨old, he⟩, ⟨o, ho, hc, hd⟩, _⟩ := st
    have e' : b = e ∨ b = it := by simpa using hb
    rcases e' with rfl | rfl
    · exact ⟨_, he, fun v q => nomatch q⟩
    · exact ⟨o, ho, fun v q => by rw [hd] at q; cases q⟩
  keep i h h' st k := by
    obtain ⟨⟨old, he⟩, hi, hne⟩ := st
    exact ⟨⟨old, k e (by simp) _ he⟩, hi.at fun o q => k it (by simp) o q, hne⟩
  item X hP hw hK hc i pins s σ H E I hf st hg := by
    subst hP hw hK
    obtain ⟨⟨old, he⟩, hit, hne, hai, hae⟩ := st
    obtain ⟨xs, x, hq, hx⟩ := hg
    obtain ⟨its, rv, p, hz⟩ := I.tuple hq
    obtain ⟨u, hu, ru⟩ := Vals.get rv hx
    have hel := Heap.lt_size he
    have hil : it < s.heap.objs.size := by
      obtain ⟨o, q, _⟩ := hit
      exact Heap.lt_size q
    have hnil : a < s.heap.objs.size := by
      obtain ⟨o, q, _⟩ := p
      exact Heap.lt_size q
    have D : Draws X.prog X.w X.A.in1 it [it, a] its.toArray.size (fun i v => its.toArray[i]? = some v) fun i h => h.IsTupleIter it a i ∧ h.IsTuple a its.toArray := draws_tuple (A := X.A.in1) (I.ok.hd hc) it a hai its.toArray
    have hi : i < its.toArray.size := by
      rw [List.size_toArray]
      exact (List.getElem?_eq_some_iff.mp hu).1
    refine wpAny_pyNext_enum_itemD D he ⟨hit, p⟩ hi hne (by simp; exact ⟨hne, fun z => hae z.symm⟩) fun y h' tk hy ho st' hT hsz hk => ?_
    obtain rfl : y = u := by
      have hy' : its.toArray[i]? = some y := hy
      rw [List.getElem?_toArray, hu] at hy'
      exact (Option.some.inj hy').symm
    refine ⟨_, rfl, wpAny_letOwnedTupleGo_enum ho fun h'' he' sb => ?_⟩
    have hT2 := (sb.right s.heap.objs.size (Nat.ne_of_gt hel)).trans hT
    have I1 := Inv.turnedNew (t' := tk + 1) I (fun b ob hb q => (sb.right b fun z => hb (by rw [z]; simp)).trans (hk b ob (fun z => hb (by rw [z]; simp)) (fun z => hb (by rw [z]; simp)) q)) hf (Nat.le_refl s.heap.objs.size) (h' := h'') (ob := .tup [.int (i : Nat), x]) ⟨by show 2 ≤ sizeLine; decide, [Value.int (i : Nat) tk, y], .cons ⟨tk, rfl⟩ (.cons ru .nil), _, hT2, rfl, 0, rfl⟩
    refine ⟨.ref s.heap.objs.size, upd H s.heap.objs.size (.tup [.int (i : Nat), x]), I1, rfl, ⟨_, x, rfl, HOk.fresh I.hok (Nat.le_refl _), rfl, fun ys hy => ?_⟩, ⟨⟨y, ?_⟩, ?_, hne, hai, hae⟩, fun b hb => ?_⟩
    · rw [Inv.tuple_inj I hy hq]
      exact hx
    · have e1 : ((i + 1 : Nat) : Int) = (i : Int) + 1 := by omega
      rw [e1]
      exact he'
    · exact Heap.IsTupleIter.at st'.1 fun o q => (sb.right it hne.symm).trans q
    · have hb' : b < s.heap.objs.size := by
        have e' : b = e ∨ b = it := by simpa using hb
        rcases e' with rfl | rfl
        · exact hel
        · exact hil
      rw [upd_ne (Nat.ne_of_lt hb')]
      exact (hf b hb).1
  done X hP hw hK hc i pins s σ H E I hf st hg := by
    subst hP hw hK
    obtain ⟨⟨old, he⟩, hit, hne, hai, hae⟩ := st
    obtain ⟨xs, hq, hx⟩ := hg
    obtain ⟨its, rv, p, hz⟩ := I.tuple hq
    have D : Draws X.prog X.w X.A.in1 it [it, a] its.toArray.size (fun i v => its.toArray[i]? = some v) fun i h => h.IsTupleIter it a i ∧ h.IsTuple a its.toArray := draws_tuple (A := X.A.in1) (I.ok.hd hc) it a hai its.toArray
    have hl := Vals.length rv
    obtain ⟨f0, f1, f2, f3, f4, f5⟩ := hf it (by simp)
    have en : its.toArray.size = i := by
      rw [List.size_toArray]
      omega
    refine wpAny_pyNext_enum_endD D he (by rw [en]; exact ⟨hit, p⟩) fun h' eb => ⟨rfl, Inv.turned I (fun b o hb q => eb b o hb q) f0 f1 f3 f4 f5⟩
  self A i s Q E st h := by
    obtain ⟨⟨old, he⟩, _⟩ := st
    exact wpAny_pyIter_enum he h
def iEnumT (K : PySem.W.Frag) (ta : TA) : TI := fun σ H R => ta σ H fun vs H1 => ∃ (a : Addr) (xs : List V), vs = [.ref a] ∧ SqT K H1 a xs ∧ R (IteT K a) H1
theorem pi_enumT {X : Cx} {e : Expr} {ta : TA} {p pos tpos : Pos} {elts : List Expr} {kk : Nat} (hg : Gl X "enumerate") (hm : X.mg "enumerate" = none) (ha : PA X [e] ta) (hs : starEach [e] X.env = [(false, eval e X.env)] := by rfl) :
    PI X (.Tuple elts kk tpos) (.Call (.Name "enumerate" p) [e] [] pos) (iEnumT X.K ta) := by
  refine ⟨fun pins s σ H R I h => Call_ (ld_blt I hg hm boot_enumerate (PyProof.Rows.callWith_type1 (thn (ha.run pos pins s σ H _ I h) fun us s1 ⟨vs, H1, I1, r1, a, xs, ex, hq, q⟩ => ?_) hs rfl) (by decide) (by decide)) rfl⟩
  subst ex
  obtain ⟨u, rfl, ru⟩ := vals1 r1
  obtain rfl : u = Value.ref a := ru
  obtain ⟨its, rv, p', hz⟩ := I1.tuple hq
  have hla : a < s1.heap.objs.size := by
    obtain ⟨o, z, _⟩ := p'
    exact Heap.lt_size z
  refine call_enumerate_tuple p' fun h' he hit hsz hk => wpAny_pyIter_enum he ?_
  have I2 := I1.kept (t' := s1.toks) hk
  refine ⟨s1.heap.objs.size + 1, [s1.heap.objs.size + 1, s1.heap.objs.size], _, IteT X.K a, H1, rfl, I2, turn_enumT a _ _, ⟨⟨_, he⟩, hit, Nat.succ_ne_self _, Nat.ne_of_lt hla, Nat.ne_of_lt (Nat.lt_succ_of_lt hla)⟩, fun b hb => ?_, q⟩
  have e' : b = s1.heap.objs.size + 1 ∨ b = s1.heap.objs.size := by simpa using hb
  have le : s1.heap.objs.size ≤ b := by
    rcases e' with rfl | rfl
    · exact Nat.le_succ _
    · exact Nat.le_refl _
  exact I1.fpOk le (I1.hok.fresh le)
end L2
end
section
set_option Elab.async false
set_option linter.all false
set_option maxRecDepth 100000
set_option maxHeartbeats 4000000
namespace L2
open PySem PySem.Spec PyProof.Rows
/-! max(xs, default=d) of whole numbers -/
abbrev dArgs (I S : Addr) (d : Value) : Args := ⟨[.ref I, .none, .ref S], [("default", d)]⟩
theorem maxD_loop {prog : Program} {w : World} {A : Around} {R : Result → Shared → Prop} {I : Addr} {fp wr : List Addr} {n : Nat} {P : Nat → Value → Prop} {St : Nat → Heap → Prop} (d : Value)
    (W : Walks prog w A.in1 I fp wr n P St) (bt : Nat → Nat → Bool) (hcmp : CmpOf prog w A.in1 .Gt P bt) (S : Addr) (hSf : S ∉ fp) :
    ∀ (k j : Nat) (s : Shared) (vb : Value) (c : Nat), n - (j + 1) = k → j + 1 ≤ n → St (j + 1) s.heap → P (argBest bt j) vb → s.heap.get? S = some { cls := .type "list", data := .seq #[vb, vb] c } →
      (∀ (v : Value) (h' : Heap) (tk : Nat), P (argBest bt (n - 1)) v → (∀ (b : Addr) (o : Obj), b ∉ wr → b ≠ S → s.heap.get? b = some o → h'.get? b = some o) → R (.ok (.ret v)) { heap := h', gens := s.gens, drawn := s.drawn, toks := tk, os := s.os }) →
      codeAny (model prog w) A (.builtin "max.loop" (dArgs I S d)) R s := by
  have hSw : S ∉ wr := fun h => hSf (W.sub S h)
  intro k
  induction k with
  | zero =>
    intro j s vb c hk hj hst hPb hS hR
    have hin : j + 1 = n := by omega
    refine codeAny_builtin F.entry_max_loop ?_
    rw [Around.under_plainId F.plain_max_loop]
    refine wpAny_bind (wpAny_seqItems hS rfl ?_)
    refine wpAny_bind (wpAny_tryCatch (W.done s _ _ (by rw [← hin]; exact hst) fun h' tk hk' => ?_))
    have hS' := hk' S _ hSw hS
    refine wpAny_bind (wpAny_updateSeq hS' rfl ?_ (by first | exact Nat.zero_le _ | (show 2 ≤ _; decide)) (by first | exact Nat.zero_le _ | (show 2 ≤ _; decide)))
    refine wpAny_bind (wpAny_letGo (wpAny_pure ?_))
    exact hR vb _ tk (by rw [← hin]; exact hPb) fun b o hbw hbS e => (Heap.get?_update_other _ _ (Ne.symm hbS)).trans (hk' b o hbw e)
  | succ k ih =>
    intro j s vb c hk hj hst hPb hS hR
    refine codeAny_builtin F.entry_max_loop ?_
    rw [Around.under_plainId F.plain_max_loop]
    refine wpAny_bind (wpAny_seqItems hS rfl ?_)
    refine wpAny_bind (wpAny_tryCatch (W.item (j + 1) s _ _ (by omega) hst fun v h' tk hP hst' hk' => ?_))
    have hS' := hk' S _ hSw hS
    refine wpAny_bind (wpAny_pure ?_)
    refine wpAny_bind (wpAny_tryCatch (wpAny_holding ?_))
    refine wpAny_bind (hcmp (j + 1) (argBest bt j) v vb _ _ _ hP hPb ?_)
    refine wpAny_bind (wpAny_holding (wpAny_truthy_bool ?_))
    refine wpAny_bind (wpAny_letGo (wpAny_pure ?_))
    have best : argBest bt (j + 1) = if bt (j + 1) (argBest bt j) = true then j + 1 else argBest bt j := rfl
    have hname : toString "max" ++ toString ".loop" = "max.loop" := by decide
    cases hb : bt (j + 1) (argBest bt j) with
    | true =>
      rw [hb, if_pos rfl] at best
      refine wpAny_ite_true rfl ?_
      refine wpAny_bind (wpAny_updateSeq hS' rfl ?_ (by first | exact Nat.zero_le _ | (show 2 ≤ _; decide)) (by first | exact Nat.zero_le _ | (show 2 ≤ _; decide)))
      refine wpAny_bind (wpAny_letGo ?_)
      rw [hname]
      refine wpAny_pure ⟨plainId_quiet F.plain_max_loop (dArgs I S d), ih (j + 1) _ v _ (by omega) (by omega) (W.frame (j + 1 + 1) h' _ hst' fun b hbf o e => (Heap.get?_update_other _ _ fun h => hSf (by rw [h]; exact hbf)).trans e) (by rw [best]; exact hP) (Heap.get?_update_self _ hS' rfl) fun v' h'' tk'' hP' hk'' => hR v' h'' tk'' hP' fun b o hbw hbS e => hk'' b o hbw hbS ((Heap.get?_update_other _ _ (Ne.symm hbS)).trans (hk' b o hbw e))⟩
    | false =>
      rw [hb, if_neg (by decide)] at best
      refine wpAny_ite_false rfl ?_
      refine wpAny_bind (wpAny_letGo ?_)
      rw [hname]
      refine wpAny_pure ⟨plainId_quiet F.plain_max_loop (dArgs I S d), ih (j + 1) _ vb _ (by omega) (by omega) hst' (by rw [best]; exact hPb) hS' fun v' h'' tk'' hP' hk'' => hR v' h'' tk'' hP' fun b o hbw hbS e => hk'' b o hbw hbS (hk' b o hbw e)⟩
theorem maxD_first {prog : Program} {w : World} {A : Around} {R : Result → Shared → Prop} {I : Addr} {fp wr : List Addr} {n : Nat} {P : Nat → Value → Prop} {St : Nat → Heap → Prop} (d : Value)
    (W : Walks prog w A.in1 I fp wr n P St) (bt : Nat → Nat → Bool) (hcmp : CmpOf prog w A.in1 .Gt P bt) (S : Addr) (hSf : S ∉ fp) {s : Shared} {c : Nat} (hst : St 0 s.heap) (hS : s.heap.get? S = some { cls := .type "list", data := .seq #[] c })
    (hR : ∀ (v : Value) (h' : Heap) (tk : Nat), (n = 0 ∧ v = d) ∨ (0 < n ∧ P (argBest bt (n - 1)) v) → (∀ (b : Addr) (o : Obj), b ∉ wr → b ≠ S → s.heap.get? b = some o → h'.get? b = some o) → R (.ok (.ret v)) { heap := h', gens := s.gens, drawn := s.drawn, toks := tk, os := s.os }) :
    codeAny (model prog w) A (.builtin "max.loop" (dArgs I S d)) R s := by
  have hSw : S ∉ wr := fun h => hSf (W.sub S h)
  refine codeAny_builtin F.entry_max_loop ?_
  rw [Around.under_plainId F.plain_max_loop]
  refine wpAny_bind (wpAny_seqItems hS rfl ?_)
  cases n with
  | zero =>
    refine wpAny_bind (wpAny_tryCatch (W.done s _ _ hst fun h' tk hk' => ?_))
    refine wpAny_bind (wpAny_rule ?_)
    exact wpAny_pure (hR d h' tk (.inl ⟨rfl, rfl⟩) fun b o hbw _ e => hk' b o hbw e)
  | succ n =>
    refine wpAny_bind (wpAny_tryCatch (W.item 0 s _ _ (Nat.succ_pos _) hst fun v h' tk hP hst' hk' => ?_))
    have hS' := hk' S _ hSw hS
    have hname : toString "max" ++ toString ".loop" = "max.loop" := by decide
    refine wpAny_bind (wpAny_pure ?_)
    refine wpAny_bind (wpAny_updateSeq hS' rfl ?_ (by first | exact Nat.zero_le _ | (show 2 ≤ _; decide)) (by first | exact Nat.zero_le _ | (show 2 ≤ _; decide)))
    rw [hname]
    refine wpAny_pure ⟨plainId_quiet F.plain_max_loop (dArgs I S d), maxD_loop d W bt hcmp S hSf (n + 1 - (0 + 1)) 0 _ v _ rfl (by omega) (W.frame (0 + 1) h' _ hst' fun b hbf o e => (Heap.get?_update_other _ _ fun h => hSf (by rw [h]; exact hbf)).trans e) hP (Heap.get?_update_self _ hS' rfl) fun v' h'' tk'' hP' hk'' => hR v' h'' tk'' (.inr ⟨Nat.succ_pos _, hP'⟩) fun b o hbw hbS e => hk'' b o hbw hbS ((Heap.get?_update_other _ _ (Ne.symm hbS)).trans (hk' b o hbw e))⟩
end L2
end
section
set_option Elab.async false
set_option linter.all false
set_option maxRecDepth 100000
set_option maxHeartbeats 4000000
namespace L2
open PySem PySem.Spec PyProof.Rows
theorem call_tree_kw {prog : Program} {w : World} {A : Around} {E : Value → Shared → Prop} {s : Shared} {id : String} {b : Builtin} {args : List Value} {kw : List (Str × Value)} {Q : Value → Shared → Prop}
    (hk : builtinKind id = none) (hp : plainId id = true) (hb : entryFor table id = some b) (ha : argsOk id { pos := args, kw := kw })
    (hc : wpAny (model prog w) A.in1 (b { pos := args, kw := kw }) (fun fin s' => match fin with
        | Fin.done f => match (Except.ok f : Result) with
          | Except.ok (Flow.ret v) => Q v s'
          | Except.ok _ => False
          | Except.error e => E e s'
        | Fin.again c' => c'.quiet = true ∧ codeAny (model prog w) A c' (fun r s' => match r with
          | Except.ok (Flow.ret v) => Q v s'
          | Except.ok _ => False
          | Except.error e => E e s') s') E s) :
    wpAny (model prog w) A (call (Value.builtin id) args kw) Q E s := by
  refine wpAny_call (codeAny_call_builtin hp hb ?_)
  unfold checkBuiltinCall
  simp only [hk]
  unfold argsOk at ha
  cases h : Manifest.signature? id with
  | none =>
    simp only
    exact wpAny_pure hc
  | some sig =>
    rw [h] at ha
    simp only at ha ⊢
    rw [ha]
    exact wpAny_pure hc
/-- max(xs, default=d): d if there is nothing, else the greatest -/
def rMaxD (K : PySem.W.Frag) : List V → List V → Hp → VK → Prop := fun xs zs H Q => ∃ (a : Addr) (ns : List Int) (d : Int), xs = [.ref a] ∧ zs = [.int d] ∧ SqL K H a (ns.map V.int) ∧ (ns = [] → Q (.int d) H) ∧ ∀ m : Int, m ∈ ns → (∀ y ∈ ns, y ≤ m) → Q (.int m) H
theorem cr_maxD {X : Cx} (hc : X.calm = true) : CallRK X (.builtin "max") ["default"] (rMaxD X.K) := by
  intro pins s σ H xs zs us ws Q I rx rz h
  obtain ⟨a, ns, d, rfl, rfl, hs, q0, q⟩ := h
  obtain ⟨u, rfl, ru⟩ := vals1 rx
  obtain rfl : u = Value.ref a := ru
  obtain ⟨v, rfl, t0, rfl⟩ := vals1 rz
  obtain ⟨its, rv, hl0, hz⟩ := I.list hs
  have hh := I.ok.hd hc
  have hi := Vals.ints rv
  obtain ⟨xs, e⟩ := hi.allInts.items
  have hl : s.heap.IsList a (intItems xs) := by
    rw [← e]
    exact hl0.isList
  have hn : xs.toList.map (fun x => x.1) = ns := by
    rw [← nums_intItems xs, ← e]
    exact hi.numsOf
  have hsz : xs.size = ns.length := by
    rw [← hn, List.length_map, Array.length_toList]
  show wpAny _ _ (call (.builtin "max") [.ref a] [("default", .int d t0)]) _ _ _
  refine call_tree_kw F.kind_max F.plain_max F.entry_max ?_ ?_
  · show argsOk "max" _
    rfl
  refine wpAny_bind ?_
  refine wpAny_of_eq (a := [none, some (.int d t0)]) rfl ?_
  refine wpAny_bind (wpAny_pure ?_)
  refine wpAny_bind (iter_intList hl fun s₂ e2 st hfp hlI => ?_)
  subst e2
  refine wpAny_bind (wpAny_newList ?_ (by exact Nat.zero_le _))
  have hname : toString "max" ++ toString ".loop" = "max.loop" := by decide
  rw [hname]
  refine wpAny_pure ⟨plainId_quiet F.plain_max_loop _, ?_⟩
  have W : Walks X.prog X.w X.A.in1 s.heap.objs.size [s.heap.objs.size, a] [s.heap.objs.size] (intItems xs).size (fun i v => (intItems xs)[i]? = some v) (fun i h => h.IsListIter s.heap.objs.size a i ∧ h.IsList a (intItems xs)) := Walks.list (A := X.A.in1) hh _ a hlI (intItems xs)
  have size2 : ∀ o : Obj, (s.heap.push o).objs.size = s.heap.objs.size + 1 := fun o => Heap.size_push _ _
  have hSf : (s.heap.push { cls := Value.type "list_iterator", data := Data.fields #[Value.ref a, Value.int 0 0] }).objs.size ∉ [s.heap.objs.size, a] := fun hm => Nat.lt_irrefl _ (hfp _ hm)
  refine maxD_first (.int d t0) W (fun i j => decide (numAt xs i > numAt xs j)) (CmpOf.ints_gt (numAt xs) fun i v => intItems_at) _ hSf (W.frame 0 _ _ st fun b x o e => Heap.get?_push_of_some _ e) (Heap.get?_push_size _ rfl) fun v h' tk hv hk => ?_
  have keep : ∀ (b : Addr) (o : Obj), s.heap.get? b = some o → h'.get? b = some o := fun b o z => by
    have lt := Heap.lt_size z
    refine hk b o (by simp; exact Nat.ne_of_lt lt) ?_ (Heap.get?_push_of_some _ (Heap.get?_push_of_some _ z))
    rw [size2]
    exact Nat.ne_of_lt (Nat.lt_succ_of_lt lt)
  have I1 := I.kept (t' := tk) keep
  have isz : (intItems xs).size = ns.length := by
    rw [← hsz]
    exact Array.size_map
  rcases hv with ⟨n0, rfl⟩ | ⟨n0, hv⟩
  · refine ⟨.int d, H, I1, ⟨t0, rfl⟩, q0 (List.length_eq_zero_iff.mp (by omega))⟩
  · obtain ⟨t, rfl⟩ := intItems_at hv
    obtain ⟨h1, h2⟩ := argBest_gt (numAt xs) ((intItems xs).size - 1)
    refine ⟨.int _, H, I1, ⟨t, rfl⟩, q _ ?_ fun y hy => ?_⟩
    · rw [numAt_eq, hn]
      exact PySem.getD_mem (by omega)
    · rw [← hn] at hy
      obtain ⟨j, hj, rfl⟩ := mem_getD hy
      rw [← numAt_eq]
      rw [hn] at hj
      exact h2 j (by omega)
end L2
end
section
set_option Elab.async false
set_option linter.all false
set_option maxRecDepth 100000
set_option maxHeartbeats 4000000
namespace L2
open PySem PySem.Spec PyProof.Rows
/-! a def run in one setting A (where it is known that no repr is under way) -/
section
variable {CX : CXT} {P : Program} {w : World} {K : PySem.W.Frag} {mg : Str → Option Value} {base : Heap}
theorem fun_at {k : Nat} {f : Addr} {x qual : Str} {params : Arguments} {body : List Stmt} {scope : Scope} {fd : FuncData} {N ps : List Str} {sp : Sp} (D : FunD K x qual params body scope [] [] f fd) (S : FnScope N ps scope)
    (len : ∀ vs H Q E, sp vs H Q E → vs.length = ps.length) (A : Around)
    (red : ∀ (cdv : Value) (outer : List Env) (s : Shared) (H : Hp) (vs : List V) (Q : VK) (E : XK), Room k (A.deeper (envOfC qual scope s.heap.objs.size f cdv)) → sp vs H Q E →
      ∃ t, PSs (cxOf CX P w K mg base N qual scope f cdv A outer s H E) body t ∧ t { nx := fun _ H' => Q .non H', rt := Q } (start N vs) H)
    {outer : List Env} {s : Shared} {H : Hp} {args : Args} {us : List Value} {vs : List V} {Q : VK} {E : XK} (hr : Room (k + 1) A) (e0 : Env0 P w K mg base A outer s H) (hb : BindsTo s fd args (ps.zip us)) (r : Vals vs us) (h : sp vs H Q E) :
    codeAny (model P w) A (.call (.ref f) args) (CR CX outer P w H s Q E) s := by
  obtain ⟨oc, od, dV, kV, doc, pm, an, cdv, ct, osl, rfl, lk, hcd, _, _⟩ := D.ex
  have here : ∀ b o, base.get? b = some o → s.heap.get? b = some o := fun b o z => (e0.bs b o z).1
  have KX : K.In s.heap := e0.mod.kin.keeps here
  have places : ∀ y ∈ ps.zip us, scope.names.lookup y.1 = some .local ∨ (scope.names.lookup y.1 = some .cell ∧ ((cellsFrom (s.heap.objs.size + 1) scope.names []).lookup y.1).isSome = true) := by
    rintro ⟨n, v⟩ hy
    rcases S.par n (List.of_mem_zip hy).1 with z | z
    · exact Or.inl z
    · exact Or.inr ⟨z, PySem.W.cellsFrom_some _ _ _ (Or.inl z)⟩
  refine codeAny_call_function hr.depth (KX _ _ lk) rfl S.co S.gen rfl (PySem.W.codeRec_of KX hcd) (hb _ _ _ _ (wpAny_newFunctionEnv_cells S.kind places fun env he s1 inside => ?_))
  subst he
  refine ⟨(e0.mod.nolimit.keeps here).keeps inside.toInCall.keep, codeAny_func ?_⟩
  obtain ⟨t, ht, hq⟩ := red cdv outer s H vs Q E (hr.deeper _) h
  have I := inv_start (CX := CX) (E := E) S hr.hd e0 (len _ _ _ _ h) r inside
  refine wpAny_mono (ht.run [] s1 (start N vs) H _ I hq) (fun fl s' z => ?_) fun e s' z => z
  match fl, z with
  | .ret u, ⟨v, σ', H', J, rv, q⟩ => exact ⟨v, H', J.os, J.bare, J.base, J.hok, rv, q⟩
  | .next, ⟨σ', H', J, q⟩ => exact ⟨.non, H', J.os, J.bare, J.base, J.hok, rfl, q⟩
  | .brk, ⟨_, _, _, q⟩ => exact q.elim
  | .cont, ⟨_, _, _, q⟩ => exact q.elim
/-- the script among what is tracked, or among the module's own objects -/
theorem script_hp {s₁ : Shared} {a : Addr} {vs : List Value} {ns : List Int} (KX : K.In s₁.heap) (ha : s₁.heap.get? a = some { cls := .type "list", data := .seq vs.toArray }) (hi : IntsAre vs ns) (hl : ns.length ≤ sizeLine) :
    ∃ H : Hp, Only H ∧ SqL K H a (ns.map V.int) ∧ HOk P w H s₁.heap ∧ (∀ b, H b ≠ none → b = a) ∧ (H a ≠ none → K.lookup a = none) := by
  have rv := vals_ints hi
  cases hk : K.lookup a with
  | some o =>
    have z := KX a o hk
    rw [ha] at z
    cases z
    exact ⟨fun _ => none, fun _ => Or.inl rfl, Or.inr ⟨_, vs.toArray, _, hk, rfl, rfl, rfl, by rw [List.size_toArray, hi.length]; exact hl, by simpa using rv⟩, fun b u z => (nomatch z), fun b z => absurd rfl z, fun z => absurd rfl z⟩
  | none =>
    refine ⟨fun b => if b = a then some (.frz { cls := .type "list", data := .seq vs.toArray } (.lst (ns.map V.int))) else none, fun b => ?_, Or.inl (Or.inr ⟨_, if_pos rfl⟩), fun b u z => ?_, fun b z => ?_, fun _ => rfl⟩
    · by_cases e : b = a
      · exact Or.inr ⟨_, _, if_pos e⟩
      · exact Or.inl (if_neg e)
    · have z' : (if b = a then some (HO.frz { cls := .type "list", data := .seq vs.toArray } (.lst (ns.map V.int))) else none) = some u := z
      by_cases e : b = a
      · rw [if_pos e] at z'
        cases z'
        rw [e]
        exact ⟨ha, by rw [List.length_map]; exact hl, vs, _, rv, ha⟩
      · rw [if_neg e] at z'
        cases z'
    · by_cases e : b = a
      · exact e
      · exact absurd (if_neg e) z
/-- the law's call, its def's promise given in the caller's setting alone -/
theorem law_at {fa a : Addr} {s₁ : Shared} {mb : Str → Option Value} {vs : List Value} {ns : List Int}
    (KX : K.In s₁.heap) (hns : s₁.heap.Ns mainGlobals mg) (hb : s₁.heap.Ns builtinsNs mb) (hbb : ∀ x : Str, x ≠ "__name__" → mb x = bootBuiltins x) (hlim : s₁.heap.NoLimit) (hg : s₁.gens = #[])
    (ha : s₁.heap.get? a = some { cls := .type "list", data := .seq vs.toArray }) (hi : IntsAre vs ns) (hl : ns.length ≤ sizeLine)
    (run : ∀ base : Heap, K.In base → base.Ns mainGlobals mg → ∀ H : Hp, Only H → SqL K H a (ns.map V.int) → Env0 P w K mg base callerA [] s₁ H →
      codeAny (model P w) callerA (.call (.ref fa) ⟨[.ref a], []⟩) (CR CX0 [] P w H s₁ (fun v _ => v = .bl true) fun _ _ _ => False) s₁) :
    codeAny (model P w) callerA (.call (.ref fa) ⟨[.ref a], []⟩) (fun r s' => r = .ok (.ret (.bool true)) ∧ OldK s₁.heap s'.heap ∧ s'.os = s₁.os ∧ AllBare s'.gens) s₁ := by
  obtain ⟨H, hO, hS, hok, hA, hK⟩ := script_hp (P := P) (w := w) KX ha hi hl
  have lists : ∀ {b : Addr} {o : Obj} {es : Array DictEntry} {ep : Nat}, s₁.heap.get? b = some o → o.data = .dict es ep → H b = none := by
    intro b o es ep z d
    cases q : H b with
    | none => rfl
    | some u =>
      have e : b = a := hA b (by rw [q]; exact Option.some_ne_none _)
      rw [e, ha] at z
      cases z
      cases d
  have names : ∀ {b : Addr} {m : Str → Option Value}, s₁.heap.Ns b m → (hidT s₁.heap H).Ns b m := fun ⟨o, es, ep, z, d, r⟩ => ⟨o, es, ep, hidT_get z (lists z d), d, r⟩
  have KB : K.In (hidT s₁.heap H) := fun b o z => hidT_get (KX b o z) (by
    cases q : H b with
    | none => rfl
    | some u =>
      have e : b = a := hA b (by rw [q]; exact Option.some_ne_none _)
      rw [e] at z q
      rw [hK (by rw [q]; exact Option.some_ne_none _)] at z
      cases z)
  obtain ⟨mc, l1, l2⟩ := id hlim
  refine codeAny_mono (run _ KB (names hns) H hO hS ⟨rfl, ⟨KB, names hns, ⟨mb, names hb, hbb⟩, mc, names l1, l2⟩, fun b o z => of_hidT z, Nat.le_of_eq (hidT_size _ _), trivial, fun b z => (nomatch z), hok, .of_eq hg⟩) fun r s' z => ?_
  match r, z with
  | .error e, z => exact z.elim
  | .ok .next, z => exact z.elim
  | .ok .brk, z => exact z.elim
  | .ok .cont, z => exact z.elim
  | .ok (.ret u), ⟨v, H', os, bare, un, hok', rv, q⟩ =>
    have q2 : v = .bl true := q
    subst q2
    obtain rfl : u = Value.bool true := rv
    refine ⟨rfl, OldK.of_keep fun b o e => ?_, os, bare⟩
    cases z : H b with
    | none => exact un.keep b o e z (fun y => nomatch y) (fun y => nomatch y)
    | some u =>
      rcases hO b with y | ⟨ob, xs, y⟩
      · rw [z] at y
        cases y
      · obtain ⟨e1, _⟩ := hok b _ y
        obtain ⟨e2, _⟩ := hok' b _ (un.frzs b ob _ y)
        rw [e] at e1
        cases e1
        exact e2
end
end L2
end
section
set_option Elab.async false
set_option linter.all false
set_option maxRecDepth 100000
set_option maxHeartbeats 4000000
namespace L2
open PySem PySem.Spec PyProof.Rows
/-! an own object whose __iter__ gives iter of a tuple that it keeps -/
/-- a tuple's iterator, tracked -/
def ItT (a it : Addr) (i : Nat) : HO := .ext fun h => h.get? it = some { cls := .type "tuple_iterator", data := .fields #[.ref a, .int (i : Nat) 0] }
theorem itT_ok {a it : Addr} {i : Nat} {P : Program} {w : World} {H : Hp} {h : Heap} (e : h.get? it = some { cls := .type "tuple_iterator", data := .fields #[.ref a, .int (i : Nat) 0] }) : ObjOk P w H h it (ItT a it i) := ⟨e, ⟨_, e⟩, fun h1 h2 q k => k _ q⟩
def rIterTN (K : PySem.W.Frag) (n : Nat) : List V → Hp → VK → Prop := fun xs H Q => ∃ (a : Addr) (zs : List V), xs = [.ref a] ∧ SqT K H a zs ∧ ∀ it, H it = none → n ≤ it → Q (.ref it) (upd H it (ItT a it 0))
theorem call_iterTN {X : Cx} : CallR X (.builtin "iter") (rIterTN X.K X.s_0.heap.objs.size) := by
  intro pins s σ H xs us Q I r h
  obtain ⟨a, zs, rfl, hq, q⟩ := h
  obtain ⟨u, rfl, ru⟩ := vals1 r
  obtain rfl : u = Value.ref a := ru
  obtain ⟨its, rv, p, hz⟩ := I.tuple hq
  refine PySem.Calls.call_function_entry rfl rfl PySem.W.kdk_entry_iter (PySem.W.kdk_args_iter (Value.ref a)) ?_
  refine wpAny_bind (wpAny_of_eq (rfl : someArgs "iter" 1 2 { pos := [Value.ref a] } = _) ?_)
  refine wpAny_bind (wpAny_pyIter_tuple p (wpAny_pure ⟨_, rfl, ?_⟩))
  exact ⟨.ref s.heap.objs.size, upd H s.heap.objs.size (ItT a s.heap.objs.size 0), I.laid (fun b u e => Heap.get?_push_of_some _ e) (Nat.le_refl _) (itT_ok (Heap.get?_push_size s.heap rfl)), rfl, q _ (I.hok.fresh (Nat.le_refl _)) I.sz⟩
theorem inst_at {P : Program} {w : World} {H : Hp} {h : Heap} {o C dx : Addr} {fs : List (Str × V)} (hk : HOk P w H h) (ho : H o = some (.ins C dx fs)) : ∃ ox od, PySem.W.InstAt h o ox C od := by
  have z := hk o _ ho
  simp only [ObjOk] at z
  obtain ⟨_, _, _, ho', mA, hn, _⟩ := z
  obtain ⟨od, h1, _⟩ := lookIn_ns hn
  exact ⟨_, some od, ho', rfl, rfl, h1⟩
/-- the call of __iter__, in whatever frame -/
def IterRun (P : Program) (w : World) (K : PySem.W.Frag) (mg : Str → Option Value) (base : Heap) (k : Nat) (C fI : Addr) (fld : Str) : Prop :=
  ∀ (A : Around) (outer : List Env) (s : Shared) (H : Hp) (o a dx : Addr) (fs : List (Str × V)) (xs : List V), Room k A → Env0 P w K mg base A outer s H → H o = some (.ins C dx fs) → fs.lookup fld = some (.ref a) → SqT K H a xs →
    codeAny (model P w) A (.call (.ref fI) ⟨[.ref o], []⟩) (CR CX0 outer P w H s (fun v H' => ∃ it, v = .ref it ∧ H it = none ∧ s.heap.objs.size ≤ it ∧ H' = upd H it (ItT a it 0)) (fun _ _ _ => False)) s
def iOwn (K : PySem.W.Frag) (C : Addr) (fld : Str) (te : TE) : TI := fun σ H R => te σ H fun x H1 => ∃ (o a dx : Addr) (fs : List (Str × V)) (xs : List V), x = .ref o ∧ H1 o = some (.ins C dx fs) ∧ fs.lookup fld = some (.ref a) ∧ SqT K H1 a xs ∧ R (Itt K a) H1
theorem pi_own {X : Cx} {tg e : Expr} {te : TE} {C fI : Addr} {k : Nat} {fld : Str} (he : PE X e te) (iC : PySem.W.findIn X.K (.ref C) "__iter__" = some (some (.ref fI))) (fF : PySem.W.isFn X.K (.ref fI) = true)
    (IR : IterRun X.prog X.w X.K X.mg X.base k C fI fld) (hr : Room k X.A) : PI X tg e (iOwn X.K C fld te) := by
  refine ⟨fun pins s σ H R I h => thn (he.run pins s σ H _ I h) fun v s1 ⟨x, H1, I1, r1, o, a, dx, fs, xs, ex, ho, hl, hq, q⟩ => ?_⟩
  subst ex
  obtain rfl : v = Value.ref o := r1
  obtain ⟨ox, od, inst⟩ := inst_at I1.hok ho
  obtain ⟨m, fr⟩ := I1.fr
  refine PySem.W.owit_iter fr I1.ok.mod.kin inst iC fF (wpAny_call (codeAny_mono (IR X.A X.stack s1 H1 o a dx fs xs hr I1.env0 ho hl hq) fun r s' z => ?_))
  cases r with
  | error er => exact z.elim
  | ok fl =>
    cases fl with
    | next => exact z.elim
    | brk => exact z.elim
    | cont => exact z.elim
    | ret u =>
      obtain ⟨v, H', J, rv, it, rfl, hit, sz, rfl⟩ := I1.after z
      obtain rfl : u = Value.ref it := rv
      have here : upd H1 it (ItT a it 0) it = some (ItT a it 0) := upd_same
      have hobj := (J.hok _ _ here)
      have hget : s'.heap.get? it = some { cls := .type "tuple_iterator", data := .fields #[.ref a, .int (0 : Nat) 0] } := hobj.1
      have isIt : s'.heap.IsTupleIter it a 0 := ⟨_, hget, rfl, rfl⟩
      have J2 := ItX.inv_drop J here
      have fp := ItX.inv_fp J here (Nat.le_trans I1.sz sz)
      rw [ItX.dropH_upd hit] at J2 fp
      refine wpAny_specialOf (r := some (.builtin "tuple_iterator.__next__")) isIt.typeIs ?_ ?_
      · exact F.slot_tuple_iterator_next.lookup
      · exact ⟨it, [it], _, Itt X.K a, H1, rfl, J2, turn_tuple a it, isIt, fun b hb => by rw [List.mem_singleton.mp hb]; exact fp, q⟩
/-- a def run once, its reading at the call's own state -/
theorem fun_once {CX : CXT} {P : Program} {w : World} {K : PySem.W.Frag} {mg : Str → Option Value} {base : Heap} {k : Nat} {f : Addr} {x qual : Str} {params : Arguments} {body : List Stmt} {scope : Scope} {fd : FuncData} {N ps : List Str} (D : FunD K x qual params body scope [] [] f fd) (S : FnScope N ps scope)
    {A : Around} {outer : List Env} {s : Shared} {H : Hp} {args : Args} {us : List Value} {vs : List V} {Q : VK} {E : XK} (hlen : vs.length = ps.length)
    (red : ∀ cdv : Value, Room k (A.deeper (envOfC qual scope s.heap.objs.size f cdv)) → ∃ t, PSs (cxOf CX P w K mg base N qual scope f cdv A outer s H E) body t ∧ t { nx := fun _ H' => Q .non H', rt := Q } (start N vs) H)
    (hr : Room (k + 1) A) (e0 : Env0 P w K mg base A outer s H) (hb : BindsTo s fd args (ps.zip us)) (r : Vals vs us) :
    codeAny (model P w) A (.call (.ref f) args) (CR CX outer P w H s Q E) s := by
  obtain ⟨oc, od, dV, kV, doc, pm, an, cdv, ct, osl, rfl, lk, hcd, _, _⟩ := D.ex
  have here : ∀ b o, base.get? b = some o → s.heap.get? b = some o := fun b o z => (e0.bs b o z).1
  have KX : K.In s.heap := e0.mod.kin.keeps here
  have places : ∀ y ∈ ps.zip us, scope.names.lookup y.1 = some .local ∨ (scope.names.lookup y.1 = some .cell ∧ ((cellsFrom (s.heap.objs.size + 1) scope.names []).lookup y.1).isSome = true) := by
    rintro ⟨n, v⟩ hy
    rcases S.par n (List.of_mem_zip hy).1 with z | z
    · exact Or.inl z
    · exact Or.inr ⟨z, PySem.W.cellsFrom_some _ _ _ (Or.inl z)⟩
  refine codeAny_call_function hr.depth (KX _ _ lk) rfl S.co S.gen rfl (PySem.W.codeRec_of KX hcd) (hb _ _ _ _ (wpAny_newFunctionEnv_cells S.kind places fun env he s1 inside => ?_))
  subst he
  refine ⟨(e0.mod.nolimit.keeps here).keeps inside.toInCall.keep, codeAny_func ?_⟩
  obtain ⟨t, ht, hq⟩ := red cdv (hr.deeper _)
  have I := inv_start (CX := CX) (E := E) S hr.hd e0 hlen r inside
  refine wpAny_mono (ht.run [] s1 (start N vs) H _ I hq) (fun fl s' z => ?_) fun e s' z => z
  match fl, z with
  | .ret u, ⟨v, σ', H', J, rv, q⟩ => exact ⟨v, H', J.os, J.bare, J.base, J.hok, rv, q⟩
  | .next, ⟨σ', H', J, q⟩ => exact ⟨.non, H', J.os, J.bare, J.base, J.hok, rfl, q⟩
  | .brk, ⟨_, _, _, q⟩ => exact q.elim
  | .cont, ⟨_, _, _, q⟩ => exact q.elim
end L2
end
section
set_option Elab.async false
set_option linter.all false
set_option maxRecDepth 100000
set_option maxHeartbeats 4000000
namespace K05
open PySem.W (ke_shaped_ints)
open PySem PySem.Spec PyProof.Rows L2
def topS (i : Nat) : Stmt := PySem.Challenge.pw_partlymet_k05_whole_implied.main.body.getD i (.Pass ⟨0, 0, 0, 0⟩)
structure Txt (mg : Str → Option Value) : Prop where
  f_int : mg "int" = none
  f_len : mg "len" = none
  f_abs : mg "abs" = none
  f_list : mg "list" = none
  f_range : mg "range" = none
  f_tuple : mg "tuple" = none
  f_isinstance : mg "isinstance" = none
  f_str : mg "str" = none
  f_bool : mg "bool" = none
  f_max : mg "max" = none
  f_sum : mg "sum" = none
section
variable {P : Program} {w : World} {K : PySem.W.Frag} {mg : Str → Option Value} {base : Heap}
abbrev s_draw : Stmt := topS 45
theorem sc_draw : FnScope ["pen", "span", "digit", "turn", "cell", "mixed"] ["pen", "span"] (defScope s_draw) := ⟨rfl, rfl, rfl, by decide +kernel, rfl, by decide +kernel, by decide +kernel⟩

theorem pen_left (l : Addr) (t lf x : Int) : putK (penV l t lf) (Sum.inr "left" : Key) (.int x) = penV l t x := rfl
theorem pen_turn (l : Addr) (t lf x : Int) : putK (penV l t lf) (Sum.inr "turn" : Key) (.int x) = penV l x lf := rfl
theorem pen_size (l : Addr) (t lf : Int) : (penV l t lf).length < sizeLine := by
  show 3 < sizeLine
  decide
theorem mod_of {a b : Int} (h : 0 < b) : 0 ≤ a % b ∧ a % b < b := ⟨Int.emod_nonneg _ (by omega), Int.emod_lt_of_pos _ h⟩
theorem div_of {a b : Int} (h : 0 < b) (ha : 0 ≤ a) : 0 ≤ a / b := Int.ediv_nonneg ha (by omega)
theorem wide_span {i j : Int} (h : 0 < j) (hb : j.natAbs < 2 ^ 250) : CDivW i j := wide_div h hb (by decide) (by decide)
theorem dps_ints (K : PySem.W.Frag) (H : Hp) : ∀ ns : List Int, DpAll K H (ns.map V.int) (ns.map PyData.int)
  | [] => .nil
  | i :: r => .cons (.int i) (dps_ints K H r)
theorem at_ints {ns : List Int} {i : Int} (h : 0 ≤ i ∧ i < ((ns.map V.int).length : Int)) : ∃ c, atI (ns.map V.int) i = some (V.int c) := by
  have hj : i.toNat < ns.length := by
    have := h.2
    rw [List.length_map] at this
    omega
  exact ⟨ns[i.toNat], at_of (j := i.toNat) (by omega) (by rw [List.getElem?_map, List.getElem?_eq_getElem hj]; rfl)⟩
theorem ten18 : CPow 10 18 := ⟨by decide, by decide, by decide⟩
theorem abs_nn (i : Int) : 0 ≤ (if i < 0 then -i else i) := by split <;> omega
local macro_rules | `(tactic| walk_at "go") => `(tactic| first | refine ⟨_, rfl, ?_⟩ | refine .inl ⟨_, rfl, ?_⟩ | refine ⟨_, _, rfl, rfl, (by first | (show (0 : Int) < _; decide) | exact Or.inl ⟨by decide, by decide⟩ | exact Or.inr ⟨by decide, by decide⟩), ?_⟩ | refine ⟨_, _, rfl, rfl, ?_⟩)
theorem ok_draw (T : Txt mg) (D : Def K mg "_law_draw" s_draw) : Cal P w K mg base 1 "_law_draw" ["pen", "span"] spDraw := by
  refine D.cal sc_draw (fun vs H Q E h => ?_) (fun _ _ _ _ _ _ us hl => match us, hl with | [_, _], _ => rfl) (fun f cdv A outer s H vs Q E hr h => ?_)
  · obtain ⟨p, l, t, span, rfl, _⟩ := h
    rfl
  obtain ⟨p, l, t, span, rfl, pen, ht, hs, hz, k⟩ := h
  have hlp := pen.ne
  obtain ⟨⟨ns, lf, hp, hl, hlf⟩, h0⟩ := id pen
  have hu := hu_of hr
  refine ⟨_, (pss_cons (ps_if (pt_cmpR op_gt (pe_dget hu (pv 0) pe_str (fun _ _ => rfl)) pe_int (nomark _)) (pss_cons (ps_set (i := 2) sc_draw.nd rfl (by first | exact Or.inl rfl | exact Or.inr rfl) (pe_op op_mod (pe_callTy call_int1 (by rfl) T.f_int (by decide +kernel) (pa_cons (pe_dget hu (pv 0) pe_str (fun _ _ => rfl)) pa_nil)) (pv 1)))
      (pss_cons (ps_dput hu (pv 0) pe_str (pe_op op_fdivW (pe_dget hu (pv 0) pe_str (fun _ _ => rfl)) (pv 1)) rfl)
      (pss_one (ps_ret (pv 2))))) pss_nil)
      (pss_cons (ps_set (i := 3) sc_draw.nd rfl (by first | exact Or.inl rfl | exact Or.inr rfl) (pe_dget hu (pv 0) pe_str (fun _ _ => rfl)))
      (pss_cons (ps_dput hu (pv 0) pe_str (pe_op op_add (pv 3) pe_int) rfl)
      (pss_cons (ps_set (i := 4) sc_draw.nd rfl (by first | exact Or.inl rfl | exact Or.inr rfl) (pe_op op_add (pe_op op_mul pe_int (pv 3)) pe_int))
      (C8.pss_cut (ps_if (pt_cmpR (op_neD hr.units) (pe_dget hu (pv 0) pe_str (fun _ _ => rfl)) (pe_lst pa_nil) (nomark _)) (pss_one (ps_set (i := 4) sc_draw.nd rfl (by first | exact Or.inl rfl | exact Or.inr rfl) (pe_ix ix_list (pe_dget hu (pv 0) pe_str (fun _ _ => rfl)) (pe_op op_mod (pe_callTy call_int1 (by rfl) T.f_int (by decide +kernel) (pa_cons (pv 3) pa_nil)) (pe_callB call_len (by rfl) T.f_len PySem.boot_len (pa_cons (pe_dget hu (pv 0) pe_str (fun _ _ => rfl)) pa_nil))) (fun _ _ => rfl)))) pss_nil)
      (C8.pss_cut (ps_if (PW.pt (pw_and (pt_cmpR op_lt (pv 3) (pe_callB call_len (by rfl) T.f_len PySem.boot_len (pa_cons (pe_dget hu (pv 0) pe_str (fun _ _ => rfl)) pa_nil)) (nomark _)) (pw_and1 (pt_cmpR op_ge (pe_callB call_abs (by rfl) T.f_abs (by decide +kernel) (pa_cons (pv 4) pa_nil)) (pe_op op_pow pe_int pe_int) (nomark _))))) (pss_cons (ps_dput hu (pv 0) pe_str (pe_op op_fdivW (pe_op op_sub (pe_callB call_abs (by rfl) T.f_abs (by decide +kernel) (pa_cons (pv 4) pa_nil)) (pe_op op_pow pe_int pe_int)) (pv 1)) rfl)
      (pss_one (ps_ret (pe_op op_mod (pe_callTy call_int1 (by rfl) T.f_int (by decide +kernel) (pa_cons (pe_op op_sub (pe_callB call_abs (by rfl) T.f_abs (by decide +kernel) (pa_cons (pv 4) pa_nil)) (pe_op op_pow pe_int pe_int)) pa_nil)) (pv 1))))) pss_nil)
      (pss_cons (ps_set (i := 5) sc_draw.nd rfl (by first | exact Or.inl rfl | exact Or.inr rfl) (pe_op op_mul (pe_op op_mod (pe_callTy call_int1 (by rfl) T.f_int (by decide +kernel) (pa_cons (pv 4) pa_nil)) pe_int) pe_int))
      (pss_cons (ps_set (i := 5) sc_draw.nd rfl (by first | exact Or.inl rfl | exact Or.inr rfl) (pe_op op_mod (pe_callTy call_int1 (by rfl) T.f_int (by decide +kernel) (pa_cons (pe_op op_add (pe_op op_add (pv 5) (pe_op op_mul (pv 3) (pe_op op_add (pe_op op_mul (pv 3) pe_int) pe_int))) pe_int) pa_nil)) pe_int))
      (pss_cons (ps_set (i := 5) sc_draw.nd rfl (by first | exact Or.inl rfl | exact Or.inr rfl) (pe_op op_mod (pe_callTy call_int1 (by rfl) T.f_int (by decide +kernel) (pa_cons (pe_op op_mul (pv 5) (pe_op op_add (pv 5) pe_int)) pa_nil)) pe_int))
      (pss_cons (ps_set (i := 5) sc_draw.nd rfl (by first | exact Or.inl rfl | exact Or.inr rfl) (pe_op op_mod (pe_callTy call_int1 (by rfl) T.f_int (by decide +kernel) (pa_cons (pe_op op_add (pe_op op_add (pe_op op_mul (pv 5) (pv 5)) (pe_op op_mul pe_int (pv 5))) (pe_op op_mul pe_int (pv 3))) pa_nil)) pe_int))
      (pss_one (ps_ret (pe_op op_mod (pe_callTy call_int1 (by rfl) T.f_int (by decide +kernel) (pa_cons (pe_op op_fdivW (pe_op op_mod (pe_callTy call_int1 (by rfl) T.f_int (by decide +kernel) (pa_cons (pe_op op_mul (pv 5) (pe_op op_add (pv 5) pe_int)) pa_nil)) pe_int) pe_int) pa_nil)) (pv 1)))))))))))))), ?_⟩
  -- if pen['left'] > 0
  refine ⟨_, rfl, p, _, rfl, DGet.k (k := Sum.inr "left") hp, _, _, rfl, rfl, _, rfl, ?_⟩
  refine ite2 (fun c => ?_) (fun c => ?_)
  · have c1 : 0 < lf := of_decide_eq_true c
    have hm := mod_of (a := lf) hs
    refine ⟨_, rfl, p, _, rfl, DGet.k (k := Sum.inr "left") hp, .inl ⟨_, rfl, ?_⟩⟩
    refine ⟨_, rfl, _, _, rfl, rfl, hs, ?_⟩
    refine ⟨_, rfl, p, _, rfl, DGet.k (k := Sum.inr "left") hp, _, rfl, _, _, rfl, rfl, wide_span hs hz, _, rfl, p, _, rfl, DPut.k (k := Sum.inr "left") hp (pen_size _ _ _), ?_⟩
    rw [pen_left]
    refine ⟨_, rfl, k _ _ t hm.1 hm.2 ⟨⟨ns, _, upd_same, (upd_ne hlp).trans hl, div_of hs hlf⟩, h0⟩ (Int.le_refl _) (by omega) (But.upd H)⟩
  -- turn = pen['turn']; pen['turn'] = turn + 1; cell = ..
  refine ⟨_, rfl, p, _, rfl, DGet.k (k := Sum.inr "turn") hp, ?_⟩
  refine ⟨_, rfl, _, _, rfl, rfl, _, rfl, p, _, rfl, DPut.k (k := Sum.inr "turn") hp (pen_size _ _ _), ?_⟩
  rw [pen_turn]
  have hp1 : upd H p (.dK (penV l (t + 1) lf)) p = some (.dK (penV l (t + 1) lf)) := upd_same
  have hl1 : upd H p (.dK (penV l (t + 1) lf)) l = some (.lst (ns.map V.int)) := (upd_ne hlp).trans hl
  have b1 : But p H (upd H p (.dK (penV l (t + 1) lf))) := But.upd H
  generalize upd H p (.dK (penV l (t + 1) lf)) = H1 at hp1 hl1 b1 ⊢
  refine ⟨_, rfl, _, _, rfl, rfl, .inl ⟨by decide, by decide⟩, _, _, rfl, rfl, ?_⟩
  -- if pen['cells'] != []
  refine ⟨fun σ' H' => ∃ c : Int, σ' = [some (.ref p), some (.int span), none, some (.int t), some (.int c), none] ∧ H' p = some (.dK (penV l (t + 1) lf)) ∧ H' l = some (.lst (ns.map V.int)) ∧ But p H H', ?_, ?_⟩
  · refine ⟨_, rfl, p, _, rfl, DGet.k (k := Sum.inr "cells") hp1, Nat.zero_le _, fun e he => ?_⟩
    have hp2 := (upd_ne (o := .lst []) (ne_of_none hp1 he)).trans hp1
    have hl2 := (upd_ne (o := .lst []) (ne_of_none hl1 he)).trans hl1
    have b2 : But p H (upd H1 e (.lst [])) := fun c o n z => (Same.new he) c o (b1 c o n z)
    refine ⟨.list (ns.map PyData.int), .list [], .lst (SqL.of hl2) (dps_ints _ _ ns), .lst (SqL.of upd_same) .nil, ke_shaped_ints ns, ke_shaped_ints [], _, rfl, ?_⟩
    generalize upd H1 e (.lst []) = H2 at hp2 hl2 b2 ⊢
    refine ite2 (fun c1 => ?_) (fun c1 => ?_)
    · have hne : ns ≠ [] := by
        rintro rfl
        cases c1
      have hpos : (0 : Int) < ((ns.map V.int).length : Int) := by
        rw [List.length_map]
        have := List.length_pos_iff.mpr hne
        omega
      refine ⟨_, rfl, p, _, rfl, DGet.k (k := Sum.inr "cells") hp2, _, rfl, .inl ⟨_, rfl, ?_⟩⟩
      refine ⟨_, rfl, p, _, rfl, DGet.k (k := Sum.inr "cells") hp2, _, _, rfl, .inl ⟨_, SqL.of hl2, rfl⟩, ?_⟩
      refine ⟨_, _, rfl, rfl, hpos, ?_⟩
      obtain ⟨cell, hcell⟩ := at_ints (ns := ns) (i := t % ((ns.map V.int).length : Int)) (mod_of hpos)
      refine ⟨l, _, _, _, rfl, rfl, SqL.of hl2, hcell, ?_⟩
      exact ⟨cell, rfl, hp2, hl2, b2⟩
    · exact ⟨_, rfl, hp2, hl2, b2⟩
  rintro σ' H2 ⟨c, rfl, hp2, hl2, b2⟩
  -- if turn < len(..) and abs(cell) >= 10 ** 18
  refine ⟨fun σ' H' => σ' = [some (.ref p), some (.int span), none, some (.int t), some (.int c), none] ∧ H' p = some (.dK (penV l (t + 1) lf)) ∧ H' l = some (.lst (ns.map V.int)) ∧ But p H H', ?_, ?_⟩
  · refine ⟨_, rfl, _, rfl, p, _, rfl, DGet.k (k := Sum.inr "cells") hp2, _, _, rfl, .inl ⟨_, SqL.of hl2, rfl⟩, _, _, rfl, rfl, _, rfl, ?_⟩
    refine ite2 (fun _ => ?_) (fun _ => ⟨rfl, hp2, hl2, b2⟩)
    refine ⟨_, rfl, _, rfl, _, _, rfl, rfl, ten18, _, _, rfl, rfl, _, rfl, ?_⟩
    refine ite2 (fun big => ?_) (fun _ => ⟨rfl, hp2, hl2, b2⟩)
    have big' := of_decide_eq_true big
    have hd := mod_of (a := (if c < 0 then -c else c) - (10 : Int) ^ (18 : Int).toNat) hs
    refine ⟨_, rfl, _, rfl, _, _, rfl, rfl, ten18, _, _, rfl, rfl, _, rfl, _, _, rfl, rfl, wide_span hs hz, _, rfl, p, _, rfl, DPut.k (k := Sum.inr "left") hp2 (pen_size _ _ _), ?_⟩
    rw [pen_left]
    refine ⟨_, rfl, _, rfl, _, _, rfl, rfl, ten18, _, _, rfl, rfl, .inl ⟨_, rfl, _, rfl, _, _, rfl, rfl, hs, ?_⟩⟩
    exact k _ _ (t + 1) hd.1 hd.2 ⟨⟨ns, _, upd_same, (upd_ne hlp).trans hl2, div_of hs (by have : (10 : Int) ^ (18 : Int).toNat ≤ (if c < 0 then -c else c) := big'; omega)⟩, by omega⟩ (by omega) (by omega) (b2.trans (But.upd H2))
  rintro σ' H3 ⟨rfl, hp3, hl3, b3⟩
  have fin : Pen H3 p l (t + 1) := ⟨⟨ns, lf, hp3, hl3, hlf⟩, by omega⟩
  -- mixed = ..
  repeat walk_at "go"
  refine ⟨.inl ⟨by omega, by omega⟩, ?_⟩
  repeat walk_at "go"
  have m2 := mod_of (a := c % 4294967087 * 48611 + t * (t * 27919 + 10601) + 41) (b := 4294967029) (by decide)
  dsimp only
  generalize (c % 4294967087 * 48611 + t * (t * 27919 + 10601) + 41) % 4294967029 = m at m2 ⊢
  refine ⟨.inl ⟨by omega, by omega⟩, ?_⟩
  repeat walk_at "go"
  have m3 := mod_of (a := m * (m + 75013)) (b := 4294966997) (by decide)
  dsimp only
  generalize m * (m + 75013) % 4294966997 = n at m3 ⊢
  refine ⟨.inl ⟨by omega, by omega⟩, ?_⟩
  repeat walk_at "go"
  have m4 := mod_of (a := n * n + 30427 * n + 19 * t) (b := 4294966981) (by decide)
  dsimp only
  generalize (n * n + 30427 * n + 19 * t) % 4294966981 = o at m4 ⊢
  refine ⟨.inl ⟨by omega, by omega⟩, ?_⟩
  repeat walk_at "go"
  refine ⟨wide_span (by decide) (by decide), ?_⟩
  repeat walk_at "go"
  have m5 := mod_of (a := o * (o + 58111) % 4294966943 / 64) hs
  exact ⟨hs, k _ _ (t + 1) m5.1 m5.2 fin (by omega) (by omega) b3⟩
end
end K05
end
section
set_option Elab.async false
set_option linter.all false
set_option maxRecDepth 100000
set_option maxHeartbeats 4000000
namespace K05
open PySem PySem.Spec PyProof.Rows L2
open PySem.W (ke_shaped_ints)
local macro_rules | `(tactic| walk_at "go") => `(tactic| first | refine ⟨_, rfl, ?_⟩ | refine .inl ⟨_, rfl, ?_⟩ | refine ⟨_, _, rfl, rfl, (by first | (show (0 : Int) < _; decide) | exact Or.inl ⟨by decide, by decide⟩ | exact Or.inr ⟨by decide, by decide⟩), ?_⟩ | refine ⟨_, _, rfl, rfl, ?_⟩)
section
variable {P : Program} {w : World} {K : PySem.W.Frag} {mg : Str → Option Value} {base : Heap}
/-- what the program's own names are -/
structure TxtP (K : PySem.W.Frag) (mg : Str → Option Value) : Prop where
  f_len : mg "len" = none
  f_all : mg "all" = none
  f_tuple : mg "tuple" = none
  f_int : mg "int" = none
  f_abs : mg "abs" = none
  f_max : mg "max" = none
  f_enumerate : mg "enumerate" = none
  c_LETTERS : ∃ t, mg "LETTERS" = some (.str "abcdefghijklmnopqrstuvwxyz" t)
  g_RESERVED : mg "RESERVED" = some (.ref (He.ga K "RESERVED"))
  t_RESERVED : ∀ H : Hp, SqT K H (He.ga K "RESERVED") (CF.Reserved.map V.str)
  c_LONGEST_NAME : ∃ t, mg "LONGEST_NAME" = some (.int 12 t)
  c_MOST_POINTERS : ∃ t, mg "MOST_POINTERS" = some (.int 3 t)
  c_FARTHEST_SPOT : ∃ t, mg "FARTHEST_SPOT" = some (.int 30 t)
  c_LONGEST_NUMBER : ∃ t, mg "LONGEST_NUMBER" = some (.int 3 t)
  c_FARTHEST : ∃ t, mg "FARTHEST" = some (.int 40 t)
  c_MOST_CELLS : ∃ t, mg "MOST_CELLS" = some (.int 16 t)
  c_MOST_FACTS : ∃ t, mg "MOST_FACTS" = some (.int 12 t)
  g_MODULI : mg "MODULI" = some (.ref (He.ga K "MODULI"))
  t_MODULI : ∀ H : Hp, SqT K H (He.ga K "MODULI") [.int 2, .int 4, .int 8]

/-- is_name(word) of a pointer's name -/
def spName : Sp := fun vs H Q _ => ∃ z : Str, vs = [.str z] ∧ CF.NameOk z ∧ ∀ H', Same H H' → Q (.bl true) H'
theorem sign_in {c : Nat} (h : 97 ≤ c ∧ c ≤ 122) : c ∈ (("abcdefghijklmnopqrstuvwxyz" : Str)).cps.toList := by
  have all : ∀ n : Nat, n < 26 → (n + 97) ∈ (("abcdefghijklmnopqrstuvwxyz" : Str)).cps.toList := by decide +kernel
  have e : c = (c - 97) + 97 := by omega
  rw [e]
  exact all _ (by omega)
abbrev s_is_name : Stmt := topS 18
theorem sc_is_name : FnScope ["word", "letter"] ["word"] (defScope s_is_name) := ⟨rfl, rfl, rfl, by decide +kernel, rfl, by decide +kernel, by decide +kernel⟩
theorem ok_is_name (T : TxtP K mg) (D : Def K mg "is_name" s_is_name) : Cal P w K mg base 1 "is_name" ["word"] spName := by
  refine D.cal sc_is_name (fun vs H Q E h => ?_) (fun _ _ _ _ _ _ us hl => match us, hl with | [_], _ => rfl) (fun f cdv A outer s H vs Q E hr h => ?_)
  · obtain ⟨z, rfl, _⟩ := h
    rfl
  have hu := hu_of hr

  obtain ⟨z, rfl, nm, k⟩ := h
  refine ⟨_, (C8.pss_cut (ps_if (PW.pt (pw_or (pt_not (pt_chain op_le op_le pe_int (pe_callB call_len (by rfl) T.f_len PySem.boot_len (pa_cons (pv 0) pa_nil)) (pe_gint (by rfl) T.c_LONGEST_NAME))) (pw_or1 (pt_cmpR op_in_seq (pv 0) (pe_gref (by rfl) T.g_RESERVED) (by rfl))))) (pss_one (ps_ret pe_bl)) pss_nil)
      (pss_one (ps_ret (pe_callB (cr_all rfl) (by rfl) T.f_all (by decide +kernel) (pa_cons (pe_lc (own := [("letter", 1)]) (g := gName 1) (tt := tYes) rfl sc_is_name.nd (pi_str (pv 0)) (blkOk_by (N := ["word", "letter"]) (sc := defScope s_is_name) (by decide +kernel)) (fun _ _ _ _ _ => (pg_name (i := 1) sc_is_name.nd rfl (Or.inl rfl))) (fun _ _ _ _ _ => pts_nil) (fun _ _ _ _ _ => (pe_cmpR op_in_sign (pv 1) (pe_gstr (by rfl) T.c_LETTERS) (by rfl)))) pa_nil))))), ?_⟩
  have n1 := nm.lo
  have n2 := nm.hi
  refine ⟨fun σ' H' => σ' = [some (.str z), none] ∧ H' = H, ?_, ?_⟩
  · refine ⟨_, rfl, _, z.length, rfl, ⟨by rw [sizeLine_eq]; omega, rfl⟩, _, _, rfl, rfl, _, rfl, ite2 (fun _ => ?_) (fun c => absurd (decide_eq_true (by omega)) c)⟩
    refine ⟨_, _, rfl, rfl, _, rfl, ?_⟩
    rw [decide_eq_true (show (z.length : Int) ≤ 12 by omega)]
    refine iteF ?_
    refine ⟨_, rfl, _, _, rfl, .inr (T.t_RESERVED _), rfl, CF.flat_strs _, _, rfl, ?_⟩
    rw [if_neg (by decide), CF.inV_strs, decide_eq_false nm.free]
    exact iteF ⟨rfl, rfl⟩
  rintro σ' H' ⟨rfl, rfl⟩
  refine ⟨_, rfl, z, rfl, fun D hD => lc_it walk_str (fun i H1 => Same H' H1 ∧ H1 D = some (.lst ((List.replicate i true).map V.bl)))
    ⟨Same.new hD, upd_same⟩ (fun _ _ _ _ => True.intro) ?_ ?_⟩
  · rintro i x H1 H2 hi ⟨s1, h1⟩ ⟨rfl, c, hc, rfl⟩
    rw [← Array.getElem?_toList] at hc
    have inl : decide (c ∈ (("abcdefghijklmnopqrstuvwxyz" : Str)).cps.toList) = true := decide_eq_true (sign_in (nm.letters c (List.mem_of_getElem? hc)))
    refine ⟨rfl, _, rfl, c, _, rfl, rfl, _, h1, ?_, s1.put hD, ?_⟩
    · have e : z.cps.size = z.length := rfl
      rw [List.length_map, List.length_replicate, sizeLine_eq]
      omega
    · rw [inl, List.replicate_succ', List.map_append]
      exact upd_same
  · rintro H1 ⟨s1, h1⟩
    refine ⟨D, _, rfl, SqL.of h1, ?_⟩
    have al : (List.replicate z.cps.size true).all id = true := by
      rw [List.all_replicate]
      split <;> rfl
    rw [al]
    exact k _ s1



/-- lines_of(text) of lines joined -/
def spLinesOf : Sp := fun vs H Q _ => ∃ ws : List Str, vs = [.str (Txt.join "\n" ws)] ∧ (∀ w ∈ ws, 1 ≤ w.length ∧ 10 ∉ TL.tl w) ∧ (Txt.join "\n" ws).length ≤ 100000 ∧ ∀ (r : Addr) (H' : Hp), H r = none → Same H H' → H' r = some (.lst (ws.map V.str)) → Q (.ref r) H'
theorem join_one {ws : List Str} (h : ∀ w ∈ ws, 1 ≤ w.length ∧ 10 ∉ TL.tl w) (hn : ws ≠ []) : 1 ≤ (Txt.join "\n" ws).length := by
  rw [TL.join_eq, TL.len_tl, TL.tl_join]
  cases ws with
  | nil => exact absurd rfl hn
  | cons w r =>
    have hw := (h w List.mem_cons_self).1
    rw [TL.len_tl] at hw
    cases r with
    | nil => simpa [TL.joinL] using hw
    | cons w2 r =>
      have e : TL.joinL (TL.tl "\n") ((w :: w2 :: r).map TL.tl) = TL.tl w ++ (TL.tl "\n" ++ TL.joinL (TL.tl "\n") ((w2 :: r).map TL.tl)) := by
        first | rfl | simp [TL.joinL]
      rw [e, List.length_append]
      omega
theorem split_back {ws : List Str} (h : ∀ w ∈ ws, 1 ≤ w.length ∧ 10 ∉ TL.tl w) (hn : ws ≠ []) : Txt.split (Txt.join "\n" ws) "\n" = ws :=
  TL.split_join (s := 10) (S := []) rfl (by decide +kernel) hn fun p hp => (h p hp).2
abbrev s_lines_of : Stmt := topS 17
theorem sc_lines_of : FnScope ["text"] ["text"] (defScope s_lines_of) := ⟨rfl, rfl, rfl, by decide +kernel, rfl, by decide +kernel, by decide +kernel⟩
theorem ok_lines_of (T : TxtP K mg) (D : Def K mg "lines_of" s_lines_of) : Cal P w K mg base 1 "lines_of" ["text"] spLinesOf := by
  refine D.cal sc_lines_of (fun vs H Q E h => ?_) (fun _ _ _ _ _ _ us hl => match us, hl with | [_], _ => rfl) (fun f cdv A outer s H vs Q E hr h => ?_)
  · obtain ⟨ws, rfl, _⟩ := h
    rfl
  have hu := hu_of hr

  obtain ⟨ws, rfl, hw, hz, k⟩ := h
  refine ⟨_, (pss_one (ps_ret (pe_ifExp (pt_truth (pv 0) (by intro _; rfl)) (pe_split (pv 0) pe_str) (pe_lst pa_nil)))), ?_⟩
  have big : sizeLine = 16777216 := sizeLine_eq
  refine ⟨_, rfl, _, ⟨by omega, rfl⟩, ?_⟩
  cases ws with
  | nil =>
    have e : (Txt.join "\n" []).length = 0 := by
      rw [TL.join_eq, TL.len_tl, TL.tl_join]
      rfl
    have e2 : (((Txt.join "\n" []).length : Int) != 0) = false := by
      rw [e]
      rfl
    rw [e2]
    exact iteF ⟨Nat.zero_le _, fun r hr => k r _ hr (Same.new hr) upd_same⟩
  | cons w r0 =>
    have n1 := join_one hw (by simp)
    have e : (((Txt.join "\n" (w :: r0)).length : Int) != 0) = true := by
      simp only [bne_iff_ne, ne_eq]
      omega
    rw [e]
    refine iteT ⟨_, rfl, ⟨_, rfl⟩, _, _, rfl, rfl, by decide +kernel, by omega, fun r hr => ?_⟩
    rw [split_back hw (by simp)]
    exact k r _ hr (Same.new hr) upd_same

end
end K05
end
section
set_option Elab.async false
set_option linter.all false
set_option maxRecDepth 100000
set_option maxHeartbeats 4000000
namespace K05
open PySem PySem.Spec PyProof.Rows L2
open PySem.W (ke_shaped_ints)
local macro_rules | `(tactic| walk_at "go") => `(tactic| first | refine ⟨_, rfl, ?_⟩ | refine .inl ⟨_, rfl, ?_⟩ | refine ⟨_, _, rfl, rfl, (by first | (show (0 : Int) < _; decide) | exact Or.inl ⟨by decide, by decide⟩ | exact Or.inr ⟨by decide, by decide⟩), ?_⟩ | refine ⟨_, _, rfl, rfl, ?_⟩)
section
variable {P : Program} {w : World} {K : PySem.W.Frag} {mg : Str → Option Value} {base : Heap}

/-- read_pointers(pointers) of right names -/
def spReadPointers (K : PySem.W.Frag) : Sp := fun vs H Q _ => ∃ (a : Addr) (ps : List Str), vs = [.ref a] ∧ (SqL K H a (ps.map V.str) ∨ SqT K H a (ps.map V.str)) ∧ CF.Names ps ∧ ∀ (r : Addr) (H' : Hp), Same H H' → SqT K H' r (ps.map V.str) → Q (.ref r) H'
theorem not_before {α : Type} {l : List α} (h : l.Nodup) {i : Nat} {x : α} (e : l[i]? = some x) : x ∉ l.take i := by
  intro hm
  have a := List.take_append_drop i l
  rw [← a] at h
  have hd : x ∈ l.drop i := List.mem_of_getElem? (i := 0) (by rw [List.getElem?_drop]; exact e)
  exact (List.nodup_append.mp h).2.2 x hm x hd rfl
abbrev s_read_pointers : Stmt := topS 19
theorem sc_read_pointers : FnScope ["pointers", "names", "index", "name"] ["pointers"] (defScope s_read_pointers) := ⟨rfl, rfl, rfl, by decide +kernel, rfl, by decide +kernel, by decide +kernel⟩
theorem ok_read_pointers (T : TxtP K mg) (D : Def K mg "read_pointers" s_read_pointers) (C_is_name : Cal P w K mg base 1 "is_name" ["word"] spName) : Cal P w K mg base 2 "read_pointers" ["pointers"] (spReadPointers K) := by
  refine D.cal sc_read_pointers (fun vs H Q E h => ?_) (fun _ _ _ _ _ _ us hl => match us, hl with | [_], _ => rfl) (fun f cdv A outer s H vs Q E hr h => ?_)
  · obtain ⟨a, ps, rfl, _⟩ := h
    rfl
  have hu := hu_of hr

  obtain ⟨a, ps, rfl, hs, nm, k⟩ := h
  refine ⟨_, (C8.pss_cut (ps_set (i := 1) sc_read_pointers.nd rfl (by first | exact Or.inl rfl | exact Or.inr rfl) (pe_callTy call_tuple_of (by rfl) T.f_tuple (by decide +kernel) (pa_cons (pv 0) pa_nil)))
      (C8.pss_cut (ps_if (pt_not (pt_truth (pv 1) (by intro _; rfl))) (pss_one ps_never) pss_nil)
      (pss_cons (ps_for PassesOwn.never rfl (pi_enumT (by rfl) T.f_enumerate (pa_cons (pv 1) pa_nil)) (pg_tup rfl (pgs_cons (pg_name (i := 2) sc_read_pointers.nd rfl (by first | exact Or.inl rfl | exact Or.inr rfl)) (pgs_cons (pg_name (i := 3) sc_read_pointers.nd rfl (by first | exact Or.inl rfl | exact Or.inr rfl)) pgs_nil))) (pss_one (ps_if (PW.pt (pw_or (pt_cmpR op_eq (pv 2) (pe_gint (by rfl) T.c_MOST_POINTERS) (nomark _)) (pw_or (pt_not (pt_val (pe_cal C_is_name (hr.mono (by decide)) rfl (pa_cons (pv 3) pa_nil)))) (pw_or1 (pt_cmpR op_in_seq (pv 3) (pe_slice sl_tup (pv 1) po_none (po_some (pv 2))) (by rfl)))))) (pss_one ps_never) pss_nil)))
      (pss_one (ps_ret (pv 1)))))), ?_⟩
  refine ⟨fun σ' H' => ∃ t, σ' = [some (.ref a), some (.ref t), none, none] ∧ Same H H' ∧ SqT K H' t (ps.map V.str), ?_, ?_⟩
  · refine ⟨_, rfl, a, ps.map V.str, rfl, ?_⟩
    rcases hs with h | h
    · exact .inl ⟨h, fun l hl => ⟨l, rfl, Same.new hl, SqT.of upd_same⟩⟩
    · exact .inr ⟨h, a, rfl, fun _ _ z => z, h⟩
  rintro σ' H1 ⟨t, rfl, s1, hT⟩
  obtain ⟨oks, nd, n1, n3⟩ := nm
  have ne : (!(ps.map V.str).isEmpty) = true := by
    cases ps with
    | nil => cases n1
    | cons _ _ => rfl
  refine ⟨fun σ' H' => σ' = [some (.ref a), some (.ref t), none, none] ∧ H' = H1, ?_, ?_⟩
  · refine ⟨_, rfl, _, .inr (.inl ⟨_, hT, rfl⟩), ?_⟩
    rw [ne]
    exact iteF ⟨rfl, rfl⟩
  rintro σ' H' ⟨rfl, rfl⟩
  refine ⟨_, rfl, t, _, rfl, hT, for_it walk_enumT (fun i σ H2 => ∃ v2 v3, σ = [some (.ref a), some (.ref t), v2, v3] ∧ Same H' H2) ⟨none, none, rfl, fun _ _ z => z⟩ (fun i σ H2 _ ⟨_, _, _, s2⟩ => s2.tup hT) ?_ ?_⟩
  · rintro i x σ H2 H3 hi ⟨v2, v3, rfl, s2⟩ ⟨T0, x1, x2, rfl, hT0, rfl, e1, e2⟩
    cases e1
    have e2' : (ps.map V.str)[i]? = some x2 := e2
    rw [List.getElem?_map] at e2'
    obtain ⟨z, hz, rfl⟩ := Option.map_eq_some_iff.mp e2'
    rw [List.length_map] at hi
    have s3 := s2.trans (Same.new (o := .tup [.int (i : Nat), .str z]) hT0)
    refine ⟨T0, _, rfl, SqT.of upd_same, rfl, _, _, rfl, _, _, rfl, rfl, ?_⟩
    generalize upd H2 T0 (.tup [.int (i : Nat), .str z]) = H4 at s3 ⊢
    refine ⟨_, rfl, rfl, _, rfl, ite2 (fun c => absurd (of_decide_eq_true c) (fun e => by have := V.int.inj e; omega)) (fun _ => ?_)⟩
    refine ⟨_, rfl, z, rfl, oks z (List.mem_of_getElem? hz), fun H5 s5 => ⟨true, rfl, ?_⟩⟩
    refine iteF ?_
    have s35 := s3.trans s5
    have cut : cutV (ps.map V.str) none (some ((i : Nat) : Int)) = (ps.take i).map V.str := by
      rw [CF.cut_to _ (by omega), ← List.map_take]
      rfl
    refine ⟨_, rfl, _, rfl, _, rfl, _, rfl, t, _, rfl, s35.tup hT, ?_, fun p hp => ⟨p, _, rfl, .inr (SqT.of upd_same), rfl, ?_, _, rfl, ?_⟩⟩
    · rintro ⟨_, h⟩
      unfold HT.sIx at h
      simp only [if_neg (show ¬ ((i : Nat) : Int) < 0 by omega), List.length_map, Int.toNat_natCast] at h
      omega
    · rw [cut]
      exact CF.flat_strs _
    · rw [if_neg (by decide), cut, CF.inV_strs, decide_eq_false (not_before nd hz)]
      exact iteF ⟨_, _, rfl, s35.trans (Same.new hp)⟩
  · rintro σ H2 ⟨v2, v3, rfl, s2⟩
    exact ⟨_, rfl, k t H2 (s1.trans s2) (s2.tup hT)⟩

end
end K05
end
section
set_option Elab.async false
set_option linter.all false
set_option maxRecDepth 100000
set_option maxHeartbeats 4000000
namespace K05
open PySem PySem.Spec PyProof.Rows L2
open PySem.W (ke_shaped_ints)
local macro_rules | `(tactic| walk_at "go") => `(tactic| first | refine ⟨_, rfl, ?_⟩ | refine .inl ⟨_, rfl, ?_⟩ | refine ⟨_, _, rfl, rfl, (by first | (show (0 : Int) < _; decide) | exact Or.inl ⟨by decide, by decide⟩ | exact Or.inr ⟨by decide, by decide⟩), ?_⟩ | refine ⟨_, _, rfl, rfl, ?_⟩)
section
variable {P : Program} {w : World} {K : PySem.W.Frag} {mg : Str → Option Value} {base : Heap}

/-- read_number(word, low, high) of a number within -/
def spReadNumber : Sp := fun vs H Q _ => ∃ (n lo hi : Int), vs = [.str (CF.num n), .int lo, .int hi] ∧ -100 ≤ n ∧ n ≤ 100 ∧ lo ≤ n ∧ n ≤ hi ∧ Q (.int n) H
def dig (n : Int) : Str := if Txt.startswith (CF.num n) "-" = true then cutS (CF.num n) (some 1) none else CF.num n
theorem num_all : ((List.range 201).all fun k => (fun n : Int => Txt.isdigit (dig n) && (decide ((dig n).length ≤ 3) && (!(Txt.startswith (dig n) "0" && !decide (CF.num n = "0")) && decide (PySem.intText? (CF.num n) = some n)))) ((k : Int) - 100)) = true := by decide +kernel
theorem num_ok {n : Int} (h0 : -100 ≤ n) (h1 : n ≤ 100) : Txt.isdigit (dig n) = true ∧ (dig n).length ≤ 3 ∧ (Txt.startswith (dig n) "0" && !decide (CF.num n = "0")) = false ∧ PySem.intText? (CF.num n) = some n := by
  have z := CF.small_all (p := fun n : Int => Txt.isdigit (dig n) && (decide ((dig n).length ≤ 3) && (!(Txt.startswith (dig n) "0" && !decide (CF.num n = "0")) && decide (PySem.intText? (CF.num n) = some n)))) num_all h0 h1
  simp only [Bool.and_eq_true, decide_eq_true_eq, Bool.not_eq_true'] at z
  exact z
abbrev s_read_number : Stmt := topS 21
theorem sc_read_number : FnScope ["word", "low", "high", "digits", "number"] ["word", "low", "high"] (defScope s_read_number) := ⟨rfl, rfl, rfl, by decide +kernel, rfl, by decide +kernel, by decide +kernel⟩
theorem ok_read_number (T : TxtP K mg) (D : Def K mg "read_number" s_read_number) : Cal P w K mg base 1 "read_number" ["word", "low", "high"] spReadNumber := by
  refine D.cal sc_read_number (fun vs H Q E h => ?_) (fun _ _ _ _ _ _ us hl => match us, hl with | [_, _, _], _ => rfl) (fun f cdv A outer s H vs Q E hr h => ?_)
  · obtain ⟨n, lo, hi, rfl, _⟩ := h
    rfl
  have hu := hu_of hr

  obtain ⟨n, lo, hi, rfl, n0, n1, l0, l1, k⟩ := h
  obtain ⟨d1, d2, d3, d4⟩ := num_ok n0 n1
  have hl := CF.num_len n0 n1
  have big : sizeLine = 16777216 := sizeLine_eq
  refine ⟨_, (C8.pss_cut (ps_set (i := 3) sc_read_number.nd rfl (by first | exact Or.inl rfl | exact Or.inr rfl) (pe_ifExp (pt_val (pe_m1 PySem.F.slot_str_startswith PySem.F.type_str_startswith mt_startswith (pv 0) pe_str)) (pe_slice sl_str (pv 0) (po_some pe_int) po_none) (pv 0)))
      (C8.pss_cut (ps_if (PW.pt (pw_or (pt_not (pt_val (pe_m0 PySem.F.slot_str_isdigit PySem.F.type_str_isdigit mt_isdigit (pv 3)))) (pw_or1 (pt_cmpR op_gt (pe_callB call_len (by rfl) T.f_len PySem.boot_len (pa_cons (pv 3) pa_nil)) (pe_gint (by rfl) T.c_LONGEST_NUMBER) (nomark _))))) (pss_one (ps_ret pe_non)) pss_nil)
      (C8.pss_cut (ps_if (PW.pt (pw_and (pt_val (pe_m1 PySem.F.slot_str_startswith PySem.F.type_str_startswith mt_startswith (pv 3) pe_str)) (pw_and1 (pt_cmpR op_ne (pv 0) pe_str (nomark _))))) (pss_one (ps_ret pe_non)) pss_nil)
      (pss_cons (ps_set (i := 4) sc_read_number.nd rfl (by first | exact Or.inl rfl | exact Or.inr rfl) (pe_callTy call_int_str (by rfl) T.f_int (by decide +kernel) (pa_cons (pv 0) pa_nil)))
      (pss_one (ps_ret (pe_ifExp (pt_chain op_le op_le (pv 1) (pv 4) (pv 2)) (pv 4) pe_non))))))), ?_⟩
  refine ⟨fun σ' H' => σ' = [some (.str (CF.num n)), some (.int lo), some (.int hi), some (.str (dig n)), none] ∧ H' = H, ?_, ?_⟩
  · refine ⟨_, rfl, ⟨_, rfl⟩, _, _, rfl, rfl, _, rfl, ite2 (fun c => ?_) (fun c => ?_)⟩
    · exact ⟨_, rfl, 1, rfl, _, rfl, by omega, by rw [show dig n = _ from if_pos c]; rfl, rfl⟩
    · exact ⟨_, rfl, by rw [show dig n = _ from if_neg c]; rfl, rfl⟩
  rintro σ' H' ⟨rfl, rfl⟩
  refine ⟨fun σ H => σ = [some (.str (CF.num n)), some (.int lo), some (.int hi), some (.str (dig n)), none] ∧ H = H', ?_, ?_⟩
  · refine ⟨_, rfl, ⟨_, rfl⟩, _, rfl, rfl, trivial, _, rfl, ?_⟩
    rw [d1]
    refine iteF ?_
    exact ⟨_, rfl, _, (dig n).length, rfl, ⟨by omega, rfl⟩, _, _, rfl, rfl, _, rfl, ite2 (fun c => absurd (of_decide_eq_true c) (by omega)) (fun _ => ⟨rfl, rfl⟩)⟩
  rintro σ' H ⟨rfl, rfl⟩
  refine ⟨fun σ H1 => σ = [some (.str (CF.num n)), some (.int lo), some (.int hi), some (.str (dig n)), none] ∧ H1 = H, ?_, ?_⟩
  · refine ⟨_, rfl, ⟨_, rfl⟩, _, _, rfl, rfl, _, rfl, ite2 (fun c => ?_) (fun _ => ⟨rfl, rfl⟩)⟩
    refine ⟨_, rfl, rfl, _, rfl, ?_⟩
    have e : CF.num n = "0" := by
      rw [c, Bool.true_and] at d3
      simpa using d3
    have e2 : decide (V.str (CF.num n) = V.str "0") = true := decide_eq_true (by rw [e])
    rw [e2]
    exact iteF ⟨rfl, rfl⟩
  rintro σ' H1 ⟨rfl, rfl⟩
  refine ⟨_, rfl, _, n, rfl, d4, by omega, ?_⟩
  refine ⟨_, rfl, _, rfl, _, _, rfl, rfl, _, rfl, ite2 (fun _ => ?_) (fun c => absurd (decide_eq_true l0) c)⟩
  exact ⟨_, rfl, _, _, rfl, rfl, _, rfl, ite2 (fun _ => ⟨_, rfl, k⟩) (fun c => absurd (decide_eq_true l1) c)⟩



/-- read_pointer(word, pointers): the place of the name, if it is one -/
def spReadPointer (K : PySem.W.Frag) : Sp := fun vs H Q _ => ∃ (z : Str) (a : Addr) (ps : List Str), vs = [.str z, .ref a] ∧ SqT K H a (ps.map V.str) ∧ CF.Names ps ∧ ((∃ i : Nat, ps[i]? = some z ∧ ∀ H', Same H H' → Q (.int (i : Nat)) H') ∨ (z ∉ ps ∧ ∀ H', Same H H' → Q .non H'))
/-- read_spot(word, pointers) of a spot -/
def spReadSpot (K : PySem.W.Frag) : Sp := fun vs H Q _ => ∃ (z : Str) (k : Int) (i : Nat) (a : Addr) (ps : List Str), vs = [.str (CF.spot z k), .ref a] ∧ SqT K H a (ps.map V.str) ∧ CF.Names ps ∧ ps[i]? = some z ∧ -30 ≤ k ∧ k ≤ 30 ∧ ∀ (r : Addr) (H' : Hp), Same H H' → H r = none → H' r = some (.tup [.int (i : Nat), .int k]) → Q (.ref r) H'
abbrev s_read_spot : Stmt := topS 23
theorem sc_read_spot : FnScope ["word", "pointers", "sign", "name", "found", "digits", "pointer", "number"] ["word", "pointers"] (defScope s_read_spot) := ⟨rfl, rfl, rfl, by decide +kernel, rfl, by decide +kernel, by decide +kernel⟩
theorem ok_read_spot (T : TxtP K mg) (D : Def K mg "read_spot" s_read_spot) (C_read_pointer : Cal P w K mg base 3 "read_pointer" ["word", "pointers"] (spReadPointer K)) (C_read_number : Cal P w K mg base 1 "read_number" ["word", "low", "high"] spReadNumber) : Cal P w K mg base 4 "read_spot" ["word", "pointers"] (spReadSpot K) := by
  refine D.cal sc_read_spot (fun vs H Q E h => ?_) (fun _ _ _ _ _ _ us hl => match us, hl with | [_, _], _ => rfl) (fun f cdv A outer s H vs Q E hr h => ?_)
  · obtain ⟨z, k, i, a, ps, rfl, _⟩ := h
    rfl
  have hu := hu_of hr

  obtain ⟨z, k, i, a, ps, rfl, hT, nm, hi, k0, k1, kk⟩ := h
  refine ⟨_, (C8.pss_cut (ps_set (i := 2) sc_read_spot.nd rfl (by first | exact Or.inl rfl | exact Or.inr rfl) (pe_ifExp (pt_cmpR op_in_sign pe_str (pv 0) (by rfl)) pe_str pe_str))
      (C8.pss_cut (ps_asg (pe_partition (pv 0) (pv 2)) (pg_tup rfl (pgs_cons (pg_name (i := 3) sc_read_spot.nd rfl (by first | exact Or.inl rfl | exact Or.inr rfl)) (pgs_cons (pg_name (i := 4) sc_read_spot.nd rfl (by first | exact Or.inl rfl | exact Or.inr rfl)) (pgs_cons (pg_name (i := 5) sc_read_spot.nd rfl (by first | exact Or.inl rfl | exact Or.inr rfl)) pgs_nil)))))
      (C8.pss_cut (ps_set (i := 6) sc_read_spot.nd rfl (by first | exact Or.inl rfl | exact Or.inr rfl) (pe_cal C_read_pointer (hr.mono (by decide)) rfl (pa_cons (pv 3) (pa_cons (pv 1) pa_nil))))
      (C8.pss_cut (ps_if (pt_cmpR op_isN (pv 6) pe_non (nomark _)) (pss_one (ps_ret pe_non)) pss_nil)
      (C8.pss_cut (ps_if (pt_not (pt_truth (pv 4) (by intro _; rfl))) (pss_one (ps_ret (pe_tup (pa_cons (pv 6) (pa_cons pe_int pa_nil))))) pss_nil)
      (C8.pss_cut (ps_set (i := 7) sc_read_spot.nd rfl (by first | exact Or.inl rfl | exact Or.inr rfl) (pe_cal C_read_number (hr.mono (by decide)) rfl (pa_cons (pv 5) (pa_cons pe_int (pa_cons (pe_gint (by rfl) T.c_FARTHEST_SPOT) pa_nil)))))
      (C8.pss_cut (ps_if (pt_cmpR op_isN (pv 7) pe_non (nomark _)) (pss_one (ps_ret pe_non)) pss_nil)
      (pss_one (ps_ret (pe_tup (pa_cons (pv 6) (pa_cons (pe_ifExp (pt_cmpR op_eq (pv 2) pe_str (nomark _)) (pv 7) (pe_un un_neg (pv 7))) pa_nil)))))))))))), ?_⟩
  have zm : z ∈ ps := List.mem_of_getElem? hi
  have hz := nm.1 z zm
  have sl := CF.spot_len (k := k) hz.hi (by omega) (by omega)
  have sg := CF.spot_sign hz (k := k) (by omega) (by omega)
  have sp := CF.spot_parts hz (k := k) (by omega) (by omega)
  have big : sizeLine = 16777216 := sizeLine_eq
  generalize hw : CF.spot z k = wd at sl sg sp ⊢
  generalize hf : (if k = 0 then ("" : Str) else CF.sgn k) = fo at sp
  generalize hd : (if k = 0 then ("" : Str) else CF.num (CF.ab k)) = dg at sp
  have i3 : i < ps.length := (List.getElem?_eq_some_iff.mp hi).1
  -- sign
  refine ⟨fun σ' H' => σ' = [some (.str wd), some (.ref a), some (.str (CF.sgn k)), none, none, none, none, none] ∧ H' = H, ?_, ?_⟩
  · refine ⟨_, rfl, 43, wd, rfl, rfl, _, rfl, ?_⟩
    rw [sg]
    unfold CF.sgn
    refine ite2 (fun c => ?_) (fun c => ?_)
    · exact ⟨by rw [if_pos (of_decide_eq_true c)]; rfl, rfl⟩
    · exact ⟨by rw [if_neg (fun e => c (decide_eq_true e))]; rfl, rfl⟩
  rintro σ' H' ⟨rfl, rfl⟩
  -- partition
  refine ⟨fun σ' H1 => σ' = [some (.str wd), some (.ref a), some (.str (CF.sgn k)), some (.str z), some (.str fo), some (.str dg), none, none] ∧ Same H' H1, ?_, ?_⟩
  · refine ⟨_, rfl, ⟨_, rfl⟩, _, rfl, _, _, rfl, rfl, ?_, by omega, fun tp htp => ⟨tp, _, rfl, SqT.of upd_same, rfl, _, _, rfl, _, _, rfl, _, _, rfl, rfl, ?_⟩⟩
    · unfold CF.sgn
      split <;> decide +kernel
    · rw [sp]
      exact ⟨rfl, Same.new htp⟩
  rintro σ' H1 ⟨rfl, s1⟩
  -- pointer
  refine ⟨fun σ' H2 => σ' = [some (.str wd), some (.ref a), some (.str (CF.sgn k)), some (.str z), some (.str fo), some (.str dg), some (.int (i : Nat)), none] ∧ Same H' H2, ?_, ?_⟩
  · refine ⟨_, rfl, _, rfl, z, a, ps, rfl, s1.tup hT, nm, .inl ⟨i, hi, fun H2 s2 => ⟨rfl, s1.trans s2⟩⟩⟩
  rintro σ' H2 ⟨rfl, s2⟩
  refine ⟨fun σ' H3 => σ' = [some (.str wd), some (.ref a), some (.str (CF.sgn k)), some (.str z), some (.str fo), some (.str dg), some (.int (i : Nat)), none] ∧ H3 = H2, ?_, ?_⟩
  · refine ⟨_, rfl, rfl, _, rfl, ite2 (fun c => absurd (of_decide_eq_true c) (fun e => by cases e)) (fun _ => ⟨rfl, rfl⟩)⟩
  rintro σ' H3 ⟨rfl, rfl⟩
  -- found
  refine ⟨fun σ' H4 => σ' = [some (.str wd), some (.ref a), some (.str (CF.sgn k)), some (.str z), some (.str fo), some (.str dg), some (.int (i : Nat)), none] ∧ H4 = H3 ∧ k ≠ 0, ?_, ?_⟩
  · by_cases k0' : k = 0
    · rw [if_pos k0'] at hf
      subst hf
      have e : ("" : Str).length = 0 := rfl
      refine ⟨_, rfl, _, ⟨by rw [e]; omega, rfl⟩, ?_⟩
      refine iteT ⟨_, rfl, by show 2 ≤ sizeLine; decide, fun r hr => ?_⟩
      refine kk r _ (s2.put (s2.free hr)) (s2.free hr) ?_
      rw [k0']
      exact upd_same
    · rw [if_neg k0'] at hf
      have e : fo.length = 1 := by
        rw [← hf]
        unfold CF.sgn
        split <;> rfl
      refine ⟨_, rfl, _, ⟨by rw [e]; omega, rfl⟩, ?_⟩
      have e2 : ((fo.length : Int) != 0) = true := by
        rw [e]
        rfl
      rw [e2]
      exact iteF ⟨rfl, rfl, k0'⟩
  rintro σ' H4 ⟨rfl, rfl, kn⟩
  rw [if_neg kn] at hd
  have an : 1 ≤ CF.ab k ∧ CF.ab k ≤ 30 := by
    unfold CF.ab
    split <;> omega
  refine ⟨fun σ' H5 => σ' = [some (.str wd), some (.ref a), some (.str (CF.sgn k)), some (.str z), some (.str fo), some (.str dg), some (.int (i : Nat)), some (.int (CF.ab k))] ∧ H5 = H4, ?_, ?_⟩
  · exact ⟨_, rfl, CF.ab k, 1, 30, by rw [← hd]; rfl, by omega, by omega, an.1, an.2, rfl, rfl⟩
  rintro σ' H5 ⟨rfl, rfl⟩
  refine ⟨fun σ' H6 => σ' = [some (.str wd), some (.ref a), some (.str (CF.sgn k)), some (.str z), some (.str fo), some (.str dg), some (.int (i : Nat)), some (.int (CF.ab k))] ∧ H6 = H5, ?_, ?_⟩
  · refine ⟨_, rfl, rfl, _, rfl, ite2 (fun c => absurd (of_decide_eq_true c) (fun e => by cases e)) (fun _ => ⟨rfl, rfl⟩)⟩
  rintro σ' H6 ⟨rfl, rfl⟩
  have fin : ∀ r, H6 r = none → Q (.ref r) (upd H6 r (.tup [.int (i : Nat), .int k])) := fun r hr => kk r _ (s2.put (s2.free hr)) (s2.free hr) upd_same
  refine ⟨_, rfl, _, rfl, rfl, _, rfl, ?_⟩
  by_cases kp : 0 < k
  · have e : CF.sgn k = "+" := if_pos kp
    have e2 : CF.ab k = k := if_neg (by omega)
    rw [decide_eq_true (by rw [e]), e2]
    exact iteT ⟨_, rfl, by show 2 ≤ sizeLine; decide, fin⟩
  · have e : CF.sgn k = "-" := if_neg kp
    have e2 : -(CF.ab k) = k := by
      unfold CF.ab
      rw [if_pos (by omega)]
      omega
    have ne : ¬ (V.str (CF.sgn k) = V.str "+") := by
      rw [e]
      intro h
      exact absurd (V.str.inj h) (by decide)
    rw [decide_eq_false ne]
    refine iteF ⟨_, rfl, _, rfl, by show 2 ≤ sizeLine; decide, ?_⟩
    intro r hr
    show Q (.ref r) (upd H6 r (.tup [.int (i : Nat), .int (-(CF.ab k))]))
    rw [e2]
    exact fin r hr

end
end K05
end
section
set_option Elab.async false
set_option linter.all false
set_option maxRecDepth 100000
set_option maxHeartbeats 4000000
namespace K05
open PySem PySem.Spec PyProof.Rows L2
open PySem.W (ke_shaped_ints)
local macro_rules | `(tactic| walk_at "go") => `(tactic| first | refine ⟨_, rfl, ?_⟩ | refine .inl ⟨_, rfl, ?_⟩ | refine ⟨_, _, rfl, rfl, (by first | (show (0 : Int) < _; decide) | exact Or.inl ⟨by decide, by decide⟩ | exact Or.inr ⟨by decide, by decide⟩), ?_⟩ | refine ⟨_, _, rfl, rfl, ?_⟩)
section
variable {P : Program} {w : World} {K : PySem.W.Frag} {mg : Str → Option Value} {base : Heap}

def fields (w : Str) (v1 v2 : V) (nm : Addr) (sp : Addr) (far md : Int) : List (Str × V) := [("word", .str w), ("left", v1), ("right", v2), ("numbers", .ref nm), ("spans", .ref sp), ("far", .int far), ("modulus", .int md)]
structure FactC (K : PySem.W.Frag) (C : Addr) : Prop where
  cl : Cls K C
  n_word : NoAttr K C "word"
  n_left : NoAttr K C "left"
  n_right : NoAttr K C "right"
  n_numbers : NoAttr K C "numbers"
  n_spans : NoAttr K C "spans"
  n_far : NoAttr K C "far"
  n_modulus : NoAttr K C "modulus"
/-- Fact.__init__ -/
def spFactInit (K : PySem.W.Frag) (C : Addr) : Sp := fun vs H Q _ => ∃ (o dx nm : Addr) (w : Str) (v1 v2 : V) (ns : List Int), vs = [.ref o, .str w, v1, v2, .ref nm] ∧ H o = some (.ins C dx []) ∧ SqT K H nm (ns.map V.int) ∧
  ((w = "apart" ∧ ∃ (q1 q2 : Addr) (i k j e n c : Int), v1 = .ref q1 ∧ v2 = .ref q2 ∧ SqT K H q1 [.int i, .int k] ∧ SqT K H q2 [.int j, .int e] ∧ ns = [n, c] ∧
      ∀ (H' : Hp) (sp s1 s2 : Addr), But o H H' → H' s1 = some (.tup [.int i, .int k, .int n]) → H' s2 = some (.tup [.int j, .int e, .int c]) → H' sp = some (.tup [.ref s1, .ref s2]) → H' o = some (.ins C dx (fields w v1 v2 nm sp (n + c + CF.ab k + CF.ab e) 1)) → Q .non H') ∨
   (w = "by" ∧ ∃ m r : Int, ns = [m, r] ∧ ∀ (H' : Hp) (sp : Addr), But o H H' → H' o = some (.ins C dx (fields w v1 v2 nm sp 0 m)) → Q .non H') ∨
   (w ≠ "apart" ∧ w ≠ "by" ∧ ∃ n : Int, ns = [n] ∧ ∀ (H' : Hp) (sp : Addr), But o H H' → H' o = some (.ins C dx (fields w v1 v2 nm sp (CF.ab n) 1)) → Q .non H'))
abbrev s_Fact___init__ : Stmt := inClass (topS 28) 0
theorem sc_Fact___init__ : FnScope ["self", "word", "left", "right", "numbers"] ["self", "word", "left", "right", "numbers"] (defScope s_Fact___init__) := ⟨rfl, rfl, rfl, by decide +kernel, rfl, by decide +kernel, by decide +kernel⟩
theorem ok_fact_init {C f : Addr} {fd : FuncData} (T : TxtP K mg) (FC : FactC K C) (F : FunD K "__init__" "Fact.__init__" (defArgs s_Fact___init__) (defBody s_Fact___init__) (defScope s_Fact___init__) [] [] f fd) : FnOk P w K mg base CX0 1 f fd ["self", "word", "left", "right", "numbers"] (spFactInit K C) := by
  refine F.ok sc_Fact___init__ (fun vs H Q E h => by obtain ⟨o, dx, nm, w, v1, v2, ns, rfl, _⟩ := h; rfl) (fun cdv A outer s H vs Q E hr h => ?_)
  suffices z : ∃ t, PSs (cxOf CX0 P w K mg base ["self", "word", "left", "right", "numbers"] "Fact.__init__" (defScope s_Fact___init__) f cdv A outer s H E).nox (defBody s_Fact___init__) t ∧ t { nx := fun _ H' => Q .non H', rt := Q } (start ["self", "word", "left", "right", "numbers"] vs) H by
    obtain ⟨t, h1, h2⟩ := z
    exact ⟨t, h1.nox, h2⟩
  obtain ⟨o, dx, nm, w, v1, v2, ns, rfl, ho, hns, alt⟩ := h
  refine ⟨_, (pss_cons (ps_fld (pv 0) (pv 1) rfl)
      (pss_cons (ps_fld (pv 0) (pv 2) rfl)
      (pss_cons (ps_fld (pv 0) (pv 3) rfl)
      (pss_cons (ps_fld (pv 0) (pv 4) rfl)
      (pss_cons (ps_fld (pv 0) (pe_tup pa_nil) rfl)
      (pss_cons (ps_fld (pv 0) pe_int rfl)
      (pss_cons (ps_fld (pv 0) pe_int rfl)
      (pss_one (ps_if (pt_cmpR op_eq (pv 1) pe_str (nomark _)) (pss_cons (ps_fld (pv 0) (pe_tup (pa_cons (pe_op op_catT (pv 2) (pe_tup (pa_cons (pe_ix ix_tup (pv 4) pe_int (fun _ _ => rfl)) pa_nil))) (pa_cons (pe_op op_catT (pv 3) (pe_tup (pa_cons (pe_ix ix_tup (pv 4) pe_int (fun _ _ => rfl)) pa_nil))) pa_nil))) rfl)
      (pss_one (ps_fld (pv 0) (pe_op op_add (pe_op op_add (pe_op op_add (pe_ix ix_tup (pv 4) pe_int (fun _ _ => rfl)) (pe_ix ix_tup (pv 4) pe_int (fun _ _ => rfl))) (pe_callB call_abs (by rfl) T.f_abs (by decide +kernel) (pa_cons (pe_ix ix_tup (pv 2) pe_int (fun _ _ => rfl)) pa_nil))) (pe_callB call_abs (by rfl) T.f_abs (by decide +kernel) (pa_cons (pe_ix ix_tup (pv 3) pe_int (fun _ _ => rfl)) pa_nil))) rfl))) (pss_one (ps_if (pt_cmpR op_eq (pv 1) pe_str (nomark _)) (pss_one (ps_fld (pv 0) (pe_ix ix_tup (pv 4) pe_int (fun _ _ => rfl)) rfl)) (pss_one (ps_fld (pv 0) (pe_callB call_abs (by rfl) T.f_abs (by decide +kernel) (pa_cons (pe_ix ix_tup (pv 4) pe_int (fun _ _ => rfl)) pa_nil)) rfl))))))))))))), ?_⟩
  have lt : ∀ (l : List (Str × V)), l.length ≤ 7 → l.length < 1000 := fun l h => by omega
  refine ⟨_, rfl, _, rfl, o, C, dx, _, rfl, ho, FC.cl, FC.n_word, lt _ (by decide), ?_⟩
  refine ⟨_, rfl, _, rfl, o, C, dx, _, rfl, upd_same, FC.cl, FC.n_left, lt _ (Nat.le_of_ble_eq_true rfl), ?_⟩
  refine ⟨_, rfl, _, rfl, o, C, dx, _, rfl, upd_same, FC.cl, FC.n_right, lt _ (Nat.le_of_ble_eq_true rfl), ?_⟩
  refine ⟨_, rfl, _, rfl, o, C, dx, _, rfl, upd_same, FC.cl, FC.n_numbers, lt _ (Nat.le_of_ble_eq_true rfl), ?_⟩
  have b1 : ∀ x1 x2 x3 x4, But o H (upd (upd (upd (upd H o x1) o x2) o x3) o x4) := fun x1 x2 x3 x4 => (((But.upd (o := x1) H).trans (But.upd (o := x2) _)).trans (But.upd (o := x3) _)).trans (But.upd (o := x4) _)
  have b1' := b1 (.ins C dx (putF "word" (.str w) [])) (.ins C dx (putF "left" v1 (putF "word" (.str w) []))) (.ins C dx (putF "right" v2 (putF "left" v1 (putF "word" (.str w) [])))) (.ins C dx (putF "numbers" (.ref nm) (putF "right" v2 (putF "left" v1 (putF "word" (.str w) [])))))
  have h1 : (upd (upd (upd (upd H o (.ins C dx (putF "word" (.str w) []))) o (.ins C dx (putF "left" v1 (putF "word" (.str w) [])))) o (.ins C dx (putF "right" v2 (putF "left" v1 (putF "word" (.str w) []))))) o (.ins C dx (putF "numbers" (.ref nm) (putF "right" v2 (putF "left" v1 (putF "word" (.str w) [])))))) o = some (.ins C dx [("word", .str w), ("left", v1), ("right", v2), ("numbers", .ref nm)]) := upd_same
  generalize (upd (upd (upd (upd H o (.ins C dx (putF "word" (.str w) []))) o (.ins C dx (putF "left" v1 (putF "word" (.str w) [])))) o (.ins C dx (putF "right" v2 (putF "left" v1 (putF "word" (.str w) []))))) o (.ins C dx (putF "numbers" (.ref nm) (putF "right" v2 (putF "left" v1 (putF "word" (.str w) [])))))) = H1 at b1' h1 ⊢
  refine ⟨by show 0 ≤ sizeLine; decide, fun e he => ?_⟩
  have h2 := (Same.new (o := .tup []) he) _ _ h1
  have b2 : But o H (upd H1 e (.tup [])) := b1'.nw he
  generalize upd H1 e (.tup []) = H2 at h2 b2 ⊢
  refine ⟨_, rfl, o, C, dx, _, rfl, h2, FC.cl, FC.n_spans, lt _ (Nat.le_of_ble_eq_true rfl), ?_⟩
  refine ⟨_, rfl, o, C, dx, _, rfl, upd_same, FC.cl, FC.n_far, lt _ (Nat.le_of_ble_eq_true rfl), ?_⟩
  refine ⟨_, rfl, o, C, dx, _, rfl, upd_same, FC.cl, FC.n_modulus, lt _ (Nat.le_of_ble_eq_true rfl), ?_⟩
  have b3 : But o H (upd (upd (upd H2 o (.ins C dx (putF "spans" (.ref e) [("word", .str w), ("left", v1), ("right", v2), ("numbers", .ref nm)]))) o (.ins C dx (putF "far" (.int 0) (putF "spans" (.ref e) [("word", .str w), ("left", v1), ("right", v2), ("numbers", .ref nm)])))) o (.ins C dx (putF "modulus" (.int 1) (putF "far" (.int 0) (putF "spans" (.ref e) [("word", .str w), ("left", v1), ("right", v2), ("numbers", .ref nm)]))))) := ((b2.trans (But.upd (o := (.ins C dx (putF "spans" (.ref e) [("word", .str w), ("left", v1), ("right", v2), ("numbers", .ref nm)]))) _)).trans (But.upd (o := (.ins C dx (putF "far" (.int 0) (putF "spans" (.ref e) [("word", .str w), ("left", v1), ("right", v2), ("numbers", .ref nm)])))) _)).trans (But.upd (o := (.ins C dx (putF "modulus" (.int 1) (putF "far" (.int 0) (putF "spans" (.ref e) [("word", .str w), ("left", v1), ("right", v2), ("numbers", .ref nm)]))))) _)
  have h3 : (upd (upd (upd H2 o (.ins C dx (putF "spans" (.ref e) [("word", .str w), ("left", v1), ("right", v2), ("numbers", .ref nm)]))) o (.ins C dx (putF "far" (.int 0) (putF "spans" (.ref e) [("word", .str w), ("left", v1), ("right", v2), ("numbers", .ref nm)])))) o (.ins C dx (putF "modulus" (.int 1) (putF "far" (.int 0) (putF "spans" (.ref e) [("word", .str w), ("left", v1), ("right", v2), ("numbers", .ref nm)]))))) o = some (.ins C dx (fields w v1 v2 nm e 0 1)) := upd_same
  refine ⟨_, rfl, rfl, _, rfl, ?_⟩
  generalize (upd (upd (upd H2 o (.ins C dx (putF "spans" (.ref e) [("word", .str w), ("left", v1), ("right", v2), ("numbers", .ref nm)]))) o (.ins C dx (putF "far" (.int 0) (putF "spans" (.ref e) [("word", .str w), ("left", v1), ("right", v2), ("numbers", .ref nm)])))) o (.ins C dx (putF "modulus" (.int 1) (putF "far" (.int 0) (putF "spans" (.ref e) [("word", .str w), ("left", v1), ("right", v2), ("numbers", .ref nm)]))))) = H3 at b3 h3 ⊢
  have hn3 : SqT K H3 nm (ns.map V.int) := b3.tupI ho hns
  rcases alt with ⟨rfl, q1, q2, i, k, j, e1, n, c, rfl, rfl, hq1, hq2, rfl, kk⟩ | ⟨rfl, m, r, rfl, kk⟩ | ⟨nw1, nw2, n, rfl, kk⟩
  · refine ite2 (fun _ => ?_) (fun c => absurd (by decide +kernel) c)
    have hq1' := b3.tupI ho hq1
    have hq2' := b3.tupI ho hq2
    have tn : ∀ {a : Addr} {xs : List V} {H4 : Hp} {p : Addr} {u : HO}, SqT K H4 a xs → H4 p = none → SqT K (upd H4 p u) a xs := fun h hp => (Same.new hp).tup h
    refine ⟨_, rfl, _, rfl, nm, _, _, _, rfl, rfl, hn3, rfl, by show 1 ≤ sizeLine; decide, fun p1 hp1 => ?_⟩
    have B1 := b3.nw (o := .tup [.int n]) hp1
    have hq1a := tn (u := .tup [.int n]) hq1' hp1
    have hq2a := tn (u := .tup [.int n]) hq2' hp1
    have hna := tn (u := .tup [.int n]) hn3 hp1
    have h3a := Same.new (o := .tup [.int n]) hp1 _ _ h3
    have hp1' : upd H3 p1 (.tup [.int n]) p1 = some (.tup [.int n]) := upd_same
    generalize upd H3 p1 (.tup [.int n]) = H4 at B1 hq1a hq2a hna h3a hp1' ⊢
    refine ⟨q1, p1, _, _, rfl, rfl, hq1a, SqT.of hp1', by simp, by show 3 ≤ sizeLine; decide, (fun z => nomatch z), fun _ s1 hs1 => ?_⟩
    have B2 := B1.nw (o := .tup ([.int i, .int k] ++ [.int n])) hs1
    have hq2b := tn (u := .tup ([.int i, .int k] ++ [.int n])) hq2a hs1
    have hq1b := tn (u := .tup ([.int i, .int k] ++ [.int n])) hq1a hs1
    have hnb := tn (u := .tup ([.int i, .int k] ++ [.int n])) hna hs1
    have h3b := Same.new (o := .tup ([.int i, .int k] ++ [.int n])) hs1 _ _ h3a
    have hs1' : upd H4 s1 (.tup ([.int i, .int k] ++ [.int n])) s1 = some (.tup [.int i, .int k, .int n]) := upd_same
    generalize upd H4 s1 (.tup ([.int i, .int k] ++ [.int n])) = H5 at B2 hq2b hq1b hnb h3b hs1' ⊢
    refine ⟨_, rfl, _, rfl, nm, _, _, _, rfl, rfl, hnb, rfl, by show 1 ≤ sizeLine; decide, fun p2 hp2 => ?_⟩
    have B3 := B2.nw (o := .tup [.int c]) hp2
    have hq1c := tn (u := .tup [.int c]) hq1b hp2
    have hq2c := tn (u := .tup [.int c]) hq2b hp2
    have hnc := tn (u := .tup [.int c]) hnb hp2
    have h3c := Same.new (o := .tup [.int c]) hp2 _ _ h3b
    have hs1c := Same.new (o := .tup [.int c]) hp2 _ _ hs1'
    have hp2' : upd H5 p2 (.tup [.int c]) p2 = some (.tup [.int c]) := upd_same
    generalize upd H5 p2 (.tup [.int c]) = H6 at B3 hq1c hq2c hnc h3c hs1c hp2' ⊢
    refine ⟨q2, p2, _, _, rfl, rfl, hq2c, SqT.of hp2', by simp, by show 3 ≤ sizeLine; decide, (fun z => nomatch z), fun _ s2 hs2 => ?_⟩
    have B4 := B3.nw (o := .tup ([.int j, .int e1] ++ [.int c])) hs2
    have hq1d := tn (u := .tup ([.int j, .int e1] ++ [.int c])) hq1c hs2
    have hq2d := tn (u := .tup ([.int j, .int e1] ++ [.int c])) hq2c hs2
    have hnd := tn (u := .tup ([.int j, .int e1] ++ [.int c])) hnc hs2
    have h3d := Same.new (o := .tup ([.int j, .int e1] ++ [.int c])) hs2 _ _ h3c
    have hs1d := Same.new (o := .tup ([.int j, .int e1] ++ [.int c])) hs2 _ _ hs1c
    have hs2' : upd H6 s2 (.tup ([.int j, .int e1] ++ [.int c])) s2 = some (.tup [.int j, .int e1, .int c]) := upd_same
    show _ ∧ _
    refine ⟨by show 2 ≤ sizeLine; decide, fun sq hsq => ?_⟩
    have hsq0 : upd H6 s2 (.tup ([.int j, .int e1] ++ [.int c])) sq = none := hsq
    generalize hHH : upd H6 s2 (.tup ([.int j, .int e1] ++ [.int c])) = H7 at B4 hq1d hq2d hnd h3d hs1d hs2' hsq0
    have B5 := B4.nw (o := .tup [.ref s1, .ref s2]) hsq0
    have hq1e := tn (u := .tup [.ref s1, .ref s2]) hq1d hsq0
    have hq2e := tn (u := .tup [.ref s1, .ref s2]) hq2d hsq0
    have hne := tn (u := .tup [.ref s1, .ref s2]) hnd hsq0
    have h3e := Same.new (o := .tup [.ref s1, .ref s2]) hsq0 _ _ h3d
    have hs1e := Same.new (o := .tup [.ref s1, .ref s2]) hsq0 _ _ hs1d
    have hs2e := Same.new (o := .tup [.ref s1, .ref s2]) hsq0 _ _ hs2'
    have hsqe : upd H7 sq (.tup [.ref s1, .ref s2]) sq = some (.tup [.ref s1, .ref s2]) := upd_same
    refine ⟨_, rfl, o, C, dx, fields "apart" (.ref q1) (.ref q2) nm e 0 1, rfl, by subst hHH; exact h3e, FC.cl, FC.n_spans, lt _ (Nat.le_of_ble_eq_true rfl), ?_⟩
    subst hHH
    generalize upd (upd H6 s2 (.tup ([.int j, .int e1] ++ [.int c]))) sq (.tup [.ref s1, .ref s2]) = H8 at B5 hq1e hq2e hne h3e hs1e hs2e hsqe ⊢
    have B6 : But o H (upd H8 o (.ins C dx (putF "spans" (.ref sq) (fields "apart" (.ref q1) (.ref q2) nm e 0 1)))) := B5.trans (But.upd _)
    have U := But.upd (o := .ins C dx (putF "spans" (.ref sq) (fields "apart" (.ref q1) (.ref q2) nm e 0 1))) (p := o) H8
    have hq1f := U.tupI h3e hq1e
    have hq2f := U.tupI h3e hq2e
    have hnf := U.tupI h3e hne
    have ne1 : s1 ≠ o := fun z => by rw [z, h3e] at hs1e; cases hs1e
    have ne2 : s2 ≠ o := fun z => by rw [z, h3e] at hs2e; cases hs2e
    have ne3 : sq ≠ o := fun z => by rw [z, h3e] at hsqe; cases hsqe
    have hs1f := U _ _ ne1 hs1e
    have hs2f := U _ _ ne2 hs2e
    have hsqf := U _ _ ne3 hsqe
    refine ⟨_, rfl, nm, _, _, _, rfl, rfl, hnf, rfl, _, rfl, nm, _, _, _, rfl, rfl, hnf, rfl, _, _, rfl, rfl, _, rfl, q1, _, _, _, rfl, rfl, hq1f, rfl, _, rfl, _, _, rfl, rfl, _, rfl, q2, _, _, _, rfl, rfl, hq2f, rfl, _, rfl, _, _, rfl, rfl, ?_⟩
    refine ⟨_, rfl, o, C, dx, _, rfl, upd_same, FC.cl, FC.n_far, lt _ (Nat.le_of_ble_eq_true rfl), ?_⟩
    exact kk _ sq s1 s2 (B6.trans (But.upd _)) ((upd_ne ne1).trans hs1f) ((upd_ne ne2).trans hs2f) ((upd_ne ne3).trans hsqf) upd_same
  · refine ite2 (fun c => absurd c (by decide +kernel)) (fun _ => ?_)
    refine ⟨_, rfl, rfl, _, rfl, ite2 (fun _ => ?_) (fun c => absurd (by decide +kernel) c)⟩
    refine ⟨_, rfl, nm, _, _, _, rfl, rfl, hn3, rfl, _, rfl, o, C, dx, _, rfl, h3, FC.cl, FC.n_modulus, lt _ (Nat.le_of_ble_eq_true rfl), ?_⟩
    exact kk _ e (b3.trans (But.upd _)) upd_same
  · refine ite2 (fun c => absurd (V.str.inj (of_decide_eq_true c)) nw1) (fun _ => ?_)
    refine ⟨_, rfl, rfl, _, rfl, ite2 (fun c => absurd (V.str.inj (of_decide_eq_true c)) nw2) (fun _ => ?_)⟩
    refine ⟨_, rfl, nm, _, _, _, rfl, rfl, hn3, rfl, _, rfl, _, rfl, o, C, dx, _, rfl, h3, FC.cl, FC.n_far, lt _ (Nat.le_of_ble_eq_true rfl), ?_⟩
    exact kk _ e (b3.trans (But.upd _)) upd_same
end
end K05
end
section
set_option Elab.async false
set_option linter.all false
set_option maxRecDepth 100000
set_option maxHeartbeats 4000000
namespace K05
open PySem PySem.Spec PyProof.Rows L2
open PySem.W (ke_shaped_ints)
local macro_rules | `(tactic| walk_at "go") => `(tactic| first | refine ⟨_, rfl, ?_⟩ | refine .inl ⟨_, rfl, ?_⟩ | refine ⟨_, _, rfl, rfl, (by first | (show (0 : Int) < _; decide) | exact Or.inl ⟨by decide, by decide⟩ | exact Or.inr ⟨by decide, by decide⟩), ?_⟩ | refine ⟨_, _, rfl, rfl, ?_⟩)
section
variable {P : Program} {w : World} {K : PySem.W.Frag} {mg : Str → Option Value} {base : Heap}

/-- read_remainder(first, second, words) -/
def spReadRem (K : PySem.W.Frag) (C : Addr) : Sp := fun vs H Q _ => ∃ (v1 : V) (j : Int) (wl : Addr) (m r : Int), vs = [v1, .int j, .ref wl] ∧ SqL K H wl [.str (CF.num m), .str (CF.num r)] ∧ CF.Rem m r ∧
  ∀ (o dx nm sp : Addr) (H' : Hp), Same H H' → H o = none → H' o = some (.ins C dx (fields "by" v1 (.int j) nm sp 0 m)) → SqT K H' nm [.int m, .int r] → Q (.ref o) H'
theorem made_same {H1 H' : Hp} {x dx : Addr} {o1 o2 : HO} (hx : H1 x = none) (hdx : H1 dx = none) (b : But x (upd (upd H1 dx o1) x o2) H') : Same H1 H' := fun c u e => b _ _ (ne_of_none e hx) ((upd_ne (ne_of_none e hx)).trans ((upd_ne (ne_of_none e hdx)).trans e))
theorem made_tup {K : PySem.W.Frag} {H1 : Hp} {x dx a : Addr} {o1 o2 : HO} {xs : List V} (hx : H1 x = none) (hdx : H1 dx = none) (h : SqT K H1 a xs) : SqT K (upd (upd H1 dx o1) x o2) a xs := (made_same hx hdx (But.refl x _)).tup h
abbrev s_read_remainder : Stmt := topS 32
theorem sc_read_remainder : FnScope ["first", "second", "words", "modulus", "remainder"] ["first", "second", "words"] (defScope s_read_remainder) := ⟨rfl, rfl, rfl, by decide +kernel, rfl, by decide +kernel, by decide +kernel⟩
theorem ok_read_remainder (T : TxtP K mg) (D : Def K mg "read_remainder" s_read_remainder) {C : Addr} (C_read_number : Cal P w K mg base 1 "read_number" ["word", "low", "high"] spReadNumber) (M_Fact : Mkc P w K mg base 1 "Fact" C ["self", "word", "left", "right", "numbers"] (spFactInit K C)) : Cal P w K mg base 3 "read_remainder" ["first", "second", "words"] (spReadRem K C) := by
  refine D.cal sc_read_remainder (fun vs H Q E h => ?_) (fun _ _ _ _ _ _ us hl => match us, hl with | [_, _, _], _ => rfl) (fun f cdv A outer s H vs Q E hr h => ?_)
  · obtain ⟨v1, j, wl, m, r, rfl, _⟩ := h
    rfl
  have hu := hu_of hr

  obtain ⟨v1, j, wl, m, r, rfl, hw, rm, k⟩ := h
  have sm := rm.small
  obtain ⟨hm, r0, r1⟩ := rm
  refine ⟨_, (pss_cons (ps_set (i := 3) sc_read_remainder.nd rfl (by first | exact Or.inl rfl | exact Or.inr rfl) (pe_cal C_read_number (hr.mono (by decide)) rfl (pa_cons (pe_ix ix_list (pv 2) pe_int (fun _ _ => rfl)) (pa_cons (pe_ix ix_tup (pe_gref (by rfl) T.g_MODULI) pe_int (fun _ _ => rfl)) (pa_cons (pe_ix ix_tup (pe_gref (by rfl) T.g_MODULI) (pe_un un_neg pe_int) (fun _ _ => rfl)) pa_nil)))))
      (C8.pss_cut (ps_if (PW.pt (pw_or (pt_cmpR op_isN (pv 1) pe_non (nomark _)) (pw_or1 (pt_cmpR op_notIn_seq (pv 3) (pe_gref (by rfl) T.g_MODULI) (by rfl))))) (pss_one (ps_ret pe_non)) pss_nil)
      (pss_cons (ps_set (i := 4) sc_read_remainder.nd rfl (by first | exact Or.inl rfl | exact Or.inr rfl) (pe_cal C_read_number (hr.mono (by decide)) rfl (pa_cons (pe_ix ix_list (pv 2) pe_int (fun _ _ => rfl)) (pa_cons pe_int (pa_cons (pe_op op_sub (pv 3) pe_int) pa_nil)))))
      (pss_one (ps_ret (pe_ifExp (pt_cmpR op_isN (pv 4) pe_non (nomark _)) pe_non (pe_mkc M_Fact (hr.mono (by decide)) rfl (pa_cons pe_str (pa_cons (pv 0) (pa_cons (pv 1) (pa_cons (pe_tup (pa_cons (pv 3) (pa_cons (pv 4) pa_nil))) pa_nil))))))))))), ?_⟩
  refine ⟨_, rfl, wl, _, _, _, rfl, rfl, hw, rfl, _, _, _, _, rfl, rfl, T.t_MODULI _, rfl, _, rfl, _, _, _, _, rfl, rfl, T.t_MODULI _, rfl, m, 2, 8, rfl, sm.1.1, sm.1.2, by omega, by omega, ?_⟩
  refine ⟨fun σ' H' => σ' = [some v1, some (.int j), some (.ref wl), some (.int m), none] ∧ H' = H, ?_, ?_⟩
  · refine ⟨_, rfl, rfl, _, rfl, ite2 (fun c => absurd (of_decide_eq_true c) (fun e => by cases e)) (fun _ => ?_)⟩
    refine ⟨_, rfl, _, _, rfl, .inr (T.t_MODULI _), rfl, rfl, _, rfl, ?_⟩
    have inm : inV (.int m) [.int 2, .int 4, .int 8] = true := by
      rcases hm with rfl | rfl | rfl <;> decide
    rw [if_pos rfl, inm]
    exact iteF ⟨rfl, rfl⟩
  rintro σ' H' ⟨rfl, rfl⟩
  refine ⟨_, rfl, wl, _, _, _, rfl, rfl, hw, rfl, _, rfl, _, _, rfl, rfl, r, 0, m - 1, rfl, sm.2.1, sm.2.2, r0, by omega, ?_⟩
  refine ⟨_, rfl, rfl, _, rfl, ite2 (fun c => absurd (of_decide_eq_true c) (fun e => by cases e)) (fun _ => ?_)⟩
  refine ⟨_, rfl, _, rfl, _, rfl, _, rfl, by show 2 ≤ sizeLine; decide, fun nm hnm => fun x dx hx hdx ne => ?_⟩
  refine ⟨x, dx, nm, "by", v1, .int j, [m, r], rfl, upd_same, made_tup hx hdx (SqT.of upd_same), .inr (.inl ⟨rfl, m, r, rfl, fun H2 sp but ho => ⟨rfl, ?_⟩⟩)⟩
  have s1 := (Same.new hnm).trans (made_same hx hdx but)
  exact k x dx nm sp H2 s1 (Same.free (Same.new hnm) hx) ho ((made_same hx hdx but).tup (SqT.of upd_same))

end
end K05
end
section
set_option Elab.async false
set_option linter.all false
set_option maxRecDepth 100000
set_option maxHeartbeats 4000000
namespace K05
open PySem PySem.Spec PyProof.Rows L2
open PySem.W (ke_shaped_ints)
local macro_rules | `(tactic| walk_at "go") => `(tactic| first | refine ⟨_, rfl, ?_⟩ | refine .inl ⟨_, rfl, ?_⟩ | refine ⟨_, _, rfl, rfl, (by first | (show (0 : Int) < _; decide) | exact Or.inl ⟨by decide, by decide⟩ | exact Or.inr ⟨by decide, by decide⟩), ?_⟩ | refine ⟨_, _, rfl, rfl, ?_⟩)
section
variable {P : Program} {w : World} {K : PySem.W.Frag} {mg : Str → Option Value} {base : Heap}

/-- read_distance(words, pointers) -/
def spReadDist (K : PySem.W.Frag) (C : Addr) : Sp := fun vs H Q _ => ∃ (wl a : Addr) (ps : List Str) (z1 z2 w : Str) (i j : Nat) (n : Int), vs = [.ref wl, .ref a] ∧ SqL K H wl [.str z1, .str "to", .str z2, .str w, .str (CF.num n)] ∧ SqT K H a (ps.map V.str) ∧ CF.Names ps ∧ ps[i]? = some z1 ∧ ps[j]? = some z2 ∧ i ≠ j ∧ w ∈ CF.Sorts ∧ -40 ≤ n ∧ n ≤ 40 ∧
  ∀ (o dx nm sp : Addr) (H' : Hp), Same H H' → H o = none → H' o = some (.ins C dx (fields w (.int (i : Nat)) (.int (j : Nat)) nm sp (CF.ab n) 1)) → SqT K H' nm [.int n] → Q (.ref o) H'
abbrev s_read_distance : Stmt := topS 31
theorem sc_read_distance : FnScope ["words", "pointers", "first", "second", "distance"] ["words", "pointers"] (defScope s_read_distance) := ⟨rfl, rfl, rfl, by decide +kernel, rfl, by decide +kernel, by decide +kernel⟩
theorem ok_read_distance (T : TxtP K mg) (D : Def K mg "read_distance" s_read_distance) {C : Addr} (C_read_pointer : Cal P w K mg base 3 "read_pointer" ["word", "pointers"] (spReadPointer K)) (C_read_number : Cal P w K mg base 1 "read_number" ["word", "low", "high"] spReadNumber) (M_Fact : Mkc P w K mg base 1 "Fact" C ["self", "word", "left", "right", "numbers"] (spFactInit K C)) : Cal P w K mg base 4 "read_distance" ["words", "pointers"] (spReadDist K C) := by
  refine D.cal sc_read_distance (fun vs H Q E h => ?_) (fun _ _ _ _ _ _ us hl => match us, hl with | [_, _], _ => rfl) (fun f cdv A outer s H vs Q E hr h => ?_)
  · obtain ⟨wl, a, ps, z1, z2, w, i, j, n, rfl, _⟩ := h
    rfl
  have hu := hu_of hr

  obtain ⟨wl, a, ps, z1, z2, w, i, j, n, rfl, hw, hT, nm0, hi, hj, ij, hs, n0, n1, k⟩ := h
  refine ⟨_, (pss_cons (ps_par (i := 2) (j := 3) (by rfl) sc_read_distance.nd rfl rfl (by decide) rfl rfl (pa_cons (pe_cal C_read_pointer (hr.mono (by decide)) rfl (pa_cons (pe_ix ix_list (pv 0) pe_int (fun _ _ => rfl)) (pa_cons (pv 1) pa_nil))) (pa_cons (pe_cal C_read_pointer (hr.mono (by decide)) rfl (pa_cons (pe_ix ix_list (pv 0) pe_int (fun _ _ => rfl)) (pa_cons (pv 1) pa_nil))) pa_nil)) (by rfl))
      (pss_cons (ps_set (i := 4) sc_read_distance.nd rfl (by first | exact Or.inl rfl | exact Or.inr rfl) (pe_cal C_read_number (hr.mono (by decide)) rfl (pa_cons (pe_ix ix_list (pv 0) pe_int (fun _ _ => rfl)) (pa_cons (pe_un un_neg (pe_gint (by rfl) T.c_FARTHEST)) (pa_cons (pe_gint (by rfl) T.c_FARTHEST) pa_nil)))))
      (C8.pss_cut (ps_if (PW.pt (pw_or (pt_cmpR op_isN (pv 2) pe_non (nomark _)) (pw_or (pt_cmpR op_isN (pv 3) pe_non (nomark _)) (pw_or (pt_cmpR op_isN (pv 4) pe_non (nomark _)) (pw_or1 (pt_cmpR op_eq (pv 2) (pv 3) (nomark _))))))) (pss_one (ps_ret pe_non)) pss_nil)
      (pss_one (ps_ret (pe_mkc M_Fact (hr.mono (by decide)) rfl (pa_cons (pe_ix ix_list (pv 0) pe_int (fun _ _ => rfl)) (pa_cons (pv 2) (pa_cons (pv 3) (pa_cons (pe_tup (pa_cons (pv 4) pa_nil)) pa_nil)))))))))), ?_⟩
  refine ⟨_, rfl, wl, _, _, _, rfl, rfl, hw, rfl, _, rfl, z1, a, ps, rfl, hT, nm0, .inl ⟨i, hi, fun H1 s1 => ?_⟩⟩
  refine ⟨_, rfl, wl, _, _, _, rfl, rfl, s1.seq hw, rfl, _, rfl, z2, a, ps, rfl, s1.tup hT, nm0, .inl ⟨j, hj, fun H2 s2 => ⟨_, _, rfl, ?_⟩⟩⟩
  have s12 := s1.trans s2
  refine ⟨_, rfl, wl, _, _, _, rfl, rfl, s12.seq hw, rfl, _, rfl, n, -40, 40, rfl, by omega, by omega, n0, n1, ?_⟩
  refine ⟨fun σ' H' => σ' = [some (.ref wl), some (.ref a), some (.int (i : Nat)), some (.int (j : Nat)), some (.int n)] ∧ H' = H2, ?_, ?_⟩
  · refine ⟨_, rfl, rfl, _, rfl, ite2 (fun c => absurd (of_decide_eq_true c) (fun e => by cases e)) (fun _ => ?_)⟩
    refine ⟨_, rfl, rfl, _, rfl, ite2 (fun c => absurd (of_decide_eq_true c) (fun e => by cases e)) (fun _ => ?_)⟩
    refine ⟨_, rfl, rfl, _, rfl, ite2 (fun c => absurd (of_decide_eq_true c) (fun e => by cases e)) (fun _ => ?_)⟩
    refine ⟨_, rfl, _, rfl, rfl, _, rfl, ite2 (fun c => absurd (V.int.inj (of_decide_eq_true c)) (by omega)) (fun _ => ⟨rfl, rfl⟩)⟩
  rintro σ' H' ⟨rfl, rfl⟩
  refine ⟨_, rfl, wl, _, _, _, rfl, rfl, s12.seq hw, rfl, _, rfl, _, rfl, _, rfl, by show 1 ≤ sizeLine; decide, fun nm hnm => fun x dx hx hdx ne => ?_⟩
  have w1 : w ≠ "apart" := by
    simp only [CF.Sorts, List.mem_cons, List.not_mem_nil, or_false] at hs
    rcases hs with rfl | rfl | rfl <;> decide
  have w2 : w ≠ "by" := by
    simp only [CF.Sorts, List.mem_cons, List.not_mem_nil, or_false] at hs
    rcases hs with rfl | rfl | rfl <;> decide
  refine ⟨x, dx, nm, w, .int (i : Nat), .int (j : Nat), [n], rfl, upd_same, made_tup hx hdx (SqT.of upd_same), .inr (.inr ⟨w1, w2, n, rfl, fun H3 sp but ho => ⟨rfl, ?_⟩⟩)⟩
  have s3 := (s12.trans (Same.new hnm)).trans (made_same hx hdx but)
  exact k x dx nm sp H3 s3 (Same.free (s12.trans (Same.new hnm)) hx) ho ((made_same hx hdx but).tup (SqT.of upd_same))



/-- read_apart(words, pointers) -/
def spReadApart (K : PySem.W.Frag) (C : Addr) : Sp := fun vs H Q _ => ∃ (wl a : Addr) (ps : List Str) (z1 z2 : Str) (i j : Nat) (k1 n e c : Int), vs = [.ref wl, .ref a] ∧ SqL K H wl [.str "apart", .str (CF.spot z1 k1), .str (CF.num n), .str (CF.spot z2 e), .str (CF.num c)] ∧ SqT K H a (ps.map V.str) ∧ CF.Names ps ∧ ps[i]? = some z1 ∧ ps[j]? = some z2 ∧ i ≠ j ∧ CF.Off k1 ∧ CF.Many n ∧ CF.Off e ∧ CF.Many c ∧
  ∀ (o dx nm sp q1 q2 s1 s2 : Addr) (H' : Hp), Same H H' → H o = none → H' q1 = some (.tup [.int (i : Nat), .int k1]) → H' q2 = some (.tup [.int (j : Nat), .int e]) → H' s1 = some (.tup [.int (i : Nat), .int k1, .int n]) → H' s2 = some (.tup [.int (j : Nat), .int e, .int c]) → H' sp = some (.tup [.ref s1, .ref s2]) →
    H' o = some (.ins C dx (fields "apart" (.ref q1) (.ref q2) nm sp (n + c + CF.ab k1 + CF.ab e) 1)) → SqT K H' nm [.int n, .int c] → Q (.ref o) H'
abbrev s_read_apart : Stmt := topS 30
theorem sc_read_apart : FnScope ["words", "pointers", "first", "second", "many", "most"] ["words", "pointers"] (defScope s_read_apart) := ⟨rfl, rfl, rfl, by decide +kernel, rfl, by decide +kernel, by decide +kernel⟩
theorem ok_read_apart (T : TxtP K mg) (D : Def K mg "read_apart" s_read_apart) {C : Addr} (C_read_spot : Cal P w K mg base 4 "read_spot" ["word", "pointers"] (spReadSpot K)) (C_read_number : Cal P w K mg base 1 "read_number" ["word", "low", "high"] spReadNumber) (M_Fact : Mkc P w K mg base 1 "Fact" C ["self", "word", "left", "right", "numbers"] (spFactInit K C)) : Cal P w K mg base 5 "read_apart" ["words", "pointers"] (spReadApart K C) := by
  refine D.cal sc_read_apart (fun vs H Q E h => ?_) (fun _ _ _ _ _ _ us hl => match us, hl with | [_, _], _ => rfl) (fun f cdv A outer s H vs Q E hr h => ?_)
  · obtain ⟨wl, a, ps, z1, z2, i, j, k1, n, e, c, rfl, _⟩ := h
    rfl
  have hu := hu_of hr

  obtain ⟨wl, a, ps, z1, z2, i, j, k1, n, e, c, rfl, hw, hT, nm0, hi, hj, ij, ⟨k10, k11⟩, ⟨n0, n1⟩, ⟨e0, e1⟩, ⟨c0, c1⟩, k⟩ := h
  refine ⟨_, (pss_cons (ps_par (i := 2) (j := 3) (by rfl) sc_read_apart.nd rfl rfl (by decide) rfl rfl (pa_cons (pe_cal C_read_spot (hr.mono (by decide)) rfl (pa_cons (pe_ix ix_list (pv 0) pe_int (fun _ _ => rfl)) (pa_cons (pv 1) pa_nil))) (pa_cons (pe_cal C_read_spot (hr.mono (by decide)) rfl (pa_cons (pe_ix ix_list (pv 0) pe_int (fun _ _ => rfl)) (pa_cons (pv 1) pa_nil))) pa_nil)) (by rfl))
      (pss_cons (ps_par (i := 4) (j := 5) (by rfl) sc_read_apart.nd rfl rfl (by decide) rfl rfl (pa_cons (pe_cal C_read_number (hr.mono (by decide)) rfl (pa_cons (pe_ix ix_list (pv 0) pe_int (fun _ _ => rfl)) (pa_cons pe_int (pa_cons (pe_gint (by rfl) T.c_MOST_CELLS) pa_nil)))) (pa_cons (pe_cal C_read_number (hr.mono (by decide)) rfl (pa_cons (pe_ix ix_list (pv 0) pe_int (fun _ _ => rfl)) (pa_cons pe_int (pa_cons (pe_gint (by rfl) T.c_MOST_CELLS) pa_nil)))) pa_nil)) (by rfl))
      (C8.pss_cut (ps_if (PW.pt (pw_or (pt_cmpR op_isN (pv 2) pe_non (nomark _)) (pw_or (pt_cmpR op_isN (pv 3) pe_non (nomark _)) (pw_or (pt_cmpR op_isN (pv 4) pe_non (nomark _)) (pw_or (pt_cmpR op_isN (pv 5) pe_non (nomark _)) (pw_or1 (pt_cmpR op_eq (pe_ix ix_tup (pv 2) pe_int (fun _ _ => rfl)) (pe_ix ix_tup (pv 3) pe_int (fun _ _ => rfl)) (nomark _)))))))) (pss_one (ps_ret pe_non)) pss_nil)
      (pss_one (ps_ret (pe_mkc M_Fact (hr.mono (by decide)) rfl (pa_cons pe_str (pa_cons (pv 2) (pa_cons (pv 3) (pa_cons (pe_tup (pa_cons (pv 4) (pa_cons (pv 5) pa_nil))) pa_nil)))))))))), ?_⟩
  refine ⟨_, rfl, wl, _, _, _, rfl, rfl, hw, rfl, _, rfl, z1, k1, i, a, ps, rfl, hT, nm0, hi, k10, k11, fun q1 H1 s1 f1 h1 => ?_⟩
  refine ⟨_, rfl, wl, _, _, _, rfl, rfl, s1.seq hw, rfl, _, rfl, z2, e, j, a, ps, rfl, s1.tup hT, nm0, hj, e0, e1, fun q2 H2 s2 f2 h2 => ⟨_, _, rfl, ?_⟩⟩
  have s12 := s1.trans s2
  have h1' := s2 _ _ h1
  refine ⟨_, rfl, wl, _, _, _, rfl, rfl, s12.seq hw, rfl, n, 1, 16, rfl, by omega, by omega, n0, n1, ?_⟩
  refine ⟨_, rfl, wl, _, _, _, rfl, rfl, s12.seq hw, rfl, c, 1, 16, rfl, by omega, by omega, c0, c1, _, _, rfl, ?_⟩
  refine ⟨fun σ' H' => σ' = [some (.ref wl), some (.ref a), some (.ref q1), some (.ref q2), some (.int n), some (.int c)] ∧ H' = H2, ?_, ?_⟩
  · refine ⟨_, rfl, rfl, _, rfl, ite2 (fun c => absurd (of_decide_eq_true c) (fun e => by cases e)) (fun _ => ?_)⟩
    refine ⟨_, rfl, rfl, _, rfl, ite2 (fun c => absurd (of_decide_eq_true c) (fun e => by cases e)) (fun _ => ?_)⟩
    refine ⟨_, rfl, rfl, _, rfl, ite2 (fun c => absurd (of_decide_eq_true c) (fun e => by cases e)) (fun _ => ?_)⟩
    refine ⟨_, rfl, rfl, _, rfl, ite2 (fun c => absurd (of_decide_eq_true c) (fun e => by cases e)) (fun _ => ?_)⟩
    refine ⟨_, rfl, q1, _, _, _, rfl, rfl, SqT.of h1', rfl, _, rfl, q2, _, _, _, rfl, rfl, SqT.of h2, rfl, rfl, _, rfl, ite2 (fun c => absurd (V.int.inj (of_decide_eq_true c)) (by omega)) (fun _ => ⟨rfl, rfl⟩)⟩
  rintro σ' H' ⟨rfl, rfl⟩
  refine ⟨_, rfl, _, rfl, _, rfl, _, rfl, by show 2 ≤ sizeLine; decide, fun nm hnm => fun x dx hx hdx ne => ?_⟩
  have t1 : SqT K (upd H' nm (.tup [.int n, .int c])) q1 [.int (i : Nat), .int k1] := (Same.new hnm).tup (SqT.of h1')
  have t2 : SqT K (upd H' nm (.tup [.int n, .int c])) q2 [.int (j : Nat), .int e] := (Same.new hnm).tup (SqT.of h2)
  refine ⟨x, dx, nm, "apart", .ref q1, .ref q2, [n, c], rfl, upd_same, made_tup hx hdx (SqT.of upd_same), .inl ⟨rfl, q1, q2, (i : Nat), k1, (j : Nat), e, n, c, rfl, rfl, made_tup hx hdx t1, made_tup hx hdx t2, rfl, fun H3 sp a1 a2 but g1 g2 g3 ho => ⟨rfl, ?_⟩⟩⟩
  have s3 := made_same hx hdx but
  have s4 := (Same.new (o := .tup [.int n, .int c]) hnm).trans s3
  exact k x dx nm sp q1 q2 a1 a2 H3 (s12.trans s4) (Same.free (s12.trans (Same.new hnm)) hx) (s4 _ _ h1') (s4 _ _ h2) g1 g2 g3 ho (s3.tup (SqT.of upd_same))

end
end K05
end
section
set_option Elab.async false
set_option linter.all false
set_option maxRecDepth 100000
set_option maxHeartbeats 4000000
namespace K05
open PySem PySem.Spec PyProof.Rows L2
open PySem.W (ke_shaped_ints)
local macro_rules | `(tactic| walk_at "go") => `(tactic| first | refine ⟨_, rfl, ?_⟩ | refine .inl ⟨_, rfl, ?_⟩ | refine ⟨_, _, rfl, rfl, (by first | (show (0 : Int) < _; decide) | exact Or.inl ⟨by decide, by decide⟩ | exact Or.inr ⟨by decide, by decide⟩), ?_⟩ | refine ⟨_, _, rfl, rfl, ?_⟩)
section
variable {P : Program} {w : World} {K : PySem.W.Frag} {mg : Str → Option Value} {base : Heap}

def _root_.CF.FD.key : CF.FD → Str
  | .by_ _ _ _ => "by"
  | .gap _ _ _ _ => "by"
  | .apart _ _ _ _ _ _ => "apart"
  | .dist w _ _ _ => w
def _root_.CF.FD.nums : CF.FD → List Int
  | .by_ _ m r => [m, r]
  | .gap _ _ m r => [m, r]
  | .apart _ _ n _ _ c => [n, c]
  | .dist _ _ _ n => [n]
/-- the fact's ends and spans -/
def EndsAt (H : Hp) (ps : List Str) : CF.FD → V → V → Addr → Prop
  | .by_ a _ _, v1, v2, _ => v1 = .non ∧ ∃ j : Nat, ps[j]? = some a ∧ v2 = .int (j : Nat)
  | .gap a b _ _, v1, v2, _ => ∃ i j : Nat, ps[i]? = some a ∧ ps[j]? = some b ∧ v1 = .int (i : Nat) ∧ v2 = .int (j : Nat)
  | .dist _ a b _, v1, v2, _ => ∃ i j : Nat, ps[i]? = some a ∧ ps[j]? = some b ∧ v1 = .int (i : Nat) ∧ v2 = .int (j : Nat)
  | .apart a k n b e c, v1, v2, sp => ∃ (i j : Nat) (q1 q2 s1 s2 : Addr), ps[i]? = some a ∧ ps[j]? = some b ∧ v1 = .ref q1 ∧ v2 = .ref q2 ∧ H q1 = some (.tup [.int (i : Nat), .int k]) ∧ H q2 = some (.tup [.int (j : Nat), .int e]) ∧ H s1 = some (.tup [.int (i : Nat), .int k, .int n]) ∧ H s2 = some (.tup [.int (j : Nat), .int e, .int c]) ∧ H sp = some (.tup [.ref s1, .ref s2])
/-- a fact as the program keeps it -/
def FactAt (K : PySem.W.Frag) (C : Addr) (H : Hp) (ps : List Str) (o : Addr) (f : CF.FD) : Prop := ∃ (dx nm sp : Addr) (v1 v2 : V), H o = some (.ins C dx (fields f.key v1 v2 nm sp f.far f.mod)) ∧ SqT K H nm (f.nums.map V.int) ∧ EndsAt H ps f v1 v2 sp
theorem EndsAt.same {H H' : Hp} {ps : List Str} {f : CF.FD} {v1 v2 : V} {sp : Addr} (h : EndsAt H ps f v1 v2 sp) (s : Same H H') : EndsAt H' ps f v1 v2 sp := by
  cases f with
  | by_ a m r => exact h
  | gap a b m r => exact h
  | dist w a b n => exact h
  | apart a k n b e c =>
    obtain ⟨i, j, q1, q2, s1, s2, a1, a2, a3, a4, a5, a6, a7, a8, a9⟩ := h
    exact ⟨i, j, q1, q2, s1, s2, a1, a2, a3, a4, s _ _ a5, s _ _ a6, s _ _ a7, s _ _ a8, s _ _ a9⟩
theorem FactAt.same {K : PySem.W.Frag} {C : Addr} {H H' : Hp} {ps : List Str} {o : Addr} {f : CF.FD} (h : FactAt K C H ps o f) (s : Same H H') : FactAt K C H' ps o f := by
  obtain ⟨dx, nm, sp, v1, v2, h1, h2, h3⟩ := h
  exact ⟨dx, nm, sp, v1, v2, s _ _ h1, s.tup h2, h3.same s⟩
theorem name_ne {z : Str} (h : CF.NameOk z) {w : Str} (hw : w ∈ CF.Reserved) : z ≠ w := fun e => h.free (e ▸ hw)
/-- read_fact(words, pointers) of a right fact's words -/
def spReadFact (K : PySem.W.Frag) (C : Addr) : Sp := fun vs H Q _ => ∃ (wl a : Addr) (ps : List Str) (f : CF.FD), vs = [.ref wl, .ref a] ∧ SqL K H wl (f.words.map V.str) ∧ SqT K H a (ps.map V.str) ∧ CF.Names ps ∧ f.Ok ps ∧ ∀ (o : Addr) (H' : Hp), Same H H' → H o = none → FactAt K C H' ps o f → Q (.ref o) H'
abbrev s_read_fact : Stmt := topS 29
theorem sc_read_fact : FnScope ["words", "pointers", "first", "second"] ["words", "pointers"] (defScope s_read_fact) := ⟨rfl, rfl, rfl, by decide +kernel, rfl, by decide +kernel, by decide +kernel⟩
theorem ok_read_fact (T : TxtP K mg) (D : Def K mg "read_fact" s_read_fact) {C : Addr} (C_read_pointer : Cal P w K mg base 3 "read_pointer" ["word", "pointers"] (spReadPointer K)) (C_read_apart : Cal P w K mg base 5 "read_apart" ["words", "pointers"] (spReadApart K C)) (C_read_distance : Cal P w K mg base 4 "read_distance" ["words", "pointers"] (spReadDist K C)) (C_read_remainder : Cal P w K mg base 3 "read_remainder" ["first", "second", "words"] (spReadRem K C)) : Cal P w K mg base 6 "read_fact" ["words", "pointers"] (spReadFact K C) := by
  refine D.cal sc_read_fact (fun vs H Q E h => ?_) (fun _ _ _ _ _ _ us hl => match us, hl with | [_, _], _ => rfl) (fun f cdv A outer s H vs Q E hr h => ?_)
  · obtain ⟨wl, a, ps, f, rfl, _⟩ := h
    rfl
  have hu := hu_of hr

  obtain ⟨wl, a, ps, f, rfl, hw, hT, nm0, ok, k⟩ := h
  refine ⟨_, (C8.pss_cut (ps_if (PW.pt (pw_and (pt_cmpR op_eq (pe_callB call_len (by rfl) T.f_len PySem.boot_len (pa_cons (pv 0) pa_nil)) pe_int (nomark _)) (pw_and1 (pt_cmpR op_eq (pe_ix ix_list (pv 0) pe_int (fun _ _ => rfl)) pe_str (nomark _))))) (pss_one (ps_ret (pe_cal C_read_apart (hr.mono (by decide)) rfl (pa_cons (pv 0) (pa_cons (pv 1) pa_nil))))) pss_nil)
      (C8.pss_cut (ps_if (PW.pt (pw_and (pt_cmpR op_eq (pe_callB call_len (by rfl) T.f_len PySem.boot_len (pa_cons (pv 0) pa_nil)) pe_int (nomark _)) (pw_and (pt_cmpR op_eq (pe_ix ix_list (pv 0) pe_int (fun _ _ => rfl)) pe_str (nomark _)) (pw_and1 (pt_cmpR op_in_seq (pe_ix ix_list (pv 0) pe_int (fun _ _ => rfl)) (pe_tup (pa_cons pe_str (pa_cons pe_str (pa_cons pe_str pa_nil)))) (by rfl)))))) (pss_one (ps_ret (pe_cal C_read_distance (hr.mono (by decide)) rfl (pa_cons (pv 0) (pa_cons (pv 1) pa_nil))))) pss_nil)
      (C8.pss_cut (ps_if (PW.pt (pw_and (pt_cmpR op_eq (pe_callB call_len (by rfl) T.f_len PySem.boot_len (pa_cons (pv 0) pa_nil)) pe_int (nomark _)) (pw_and1 (pt_cmpR op_eq (pe_ix ix_list (pv 0) pe_int (fun _ _ => rfl)) pe_str (nomark _))))) (pss_one (ps_ret (pe_cal C_read_remainder (hr.mono (by decide)) rfl (pa_cons pe_non (pa_cons (pe_cal C_read_pointer (hr.mono (by decide)) rfl (pa_cons (pe_ix ix_list (pv 0) pe_int (fun _ _ => rfl)) (pa_cons (pv 1) pa_nil))) (pa_cons (pe_slice sl_list (pv 0) (po_some pe_int) po_none) pa_nil)))))) pss_nil)
      (C8.pss_cut (ps_if (PW.pt (pw_and (pt_cmpR op_eq (pe_callB call_len (by rfl) T.f_len PySem.boot_len (pa_cons (pv 0) pa_nil)) pe_int (nomark _)) (pw_and (pt_cmpR op_eq (pe_ix ix_list (pv 0) pe_int (fun _ _ => rfl)) pe_str (nomark _)) (pw_and1 (pt_cmpR op_eq (pe_ix ix_list (pv 0) pe_int (fun _ _ => rfl)) pe_str (nomark _)))))) (pss_cons (ps_par (i := 2) (j := 3) (by rfl) sc_read_fact.nd rfl rfl (by decide) rfl rfl (pa_cons (pe_cal C_read_pointer (hr.mono (by decide)) rfl (pa_cons (pe_ix ix_list (pv 0) pe_int (fun _ _ => rfl)) (pa_cons (pv 1) pa_nil))) (pa_cons (pe_cal C_read_pointer (hr.mono (by decide)) rfl (pa_cons (pe_ix ix_list (pv 0) pe_int (fun _ _ => rfl)) (pa_cons (pv 1) pa_nil))) pa_nil)) (by rfl))
      (pss_one (ps_ret (pe_ifExp (PW.pt (pw_or (pt_cmpR op_isN (pv 2) pe_non (nomark _)) (pw_or1 (pt_cmpR op_eq (pv 2) (pv 3) (nomark _))))) pe_non (pe_cal C_read_remainder (hr.mono (by decide)) rfl (pa_cons (pv 2) (pa_cons (pv 3) (pa_cons (pe_slice sl_list (pv 0) (po_some pe_int) po_none) pa_nil)))))))) pss_nil)
      (pss_one (ps_ret pe_non)))))), ?_⟩
  cases f with
  | by_ z m r =>
    obtain ⟨zin, rem⟩ := id ok
    obtain ⟨j, hj⟩ := List.getElem?_of_mem zin
    refine ⟨fun σ' H' => σ' = [some (.ref wl), some (.ref a), none, none] ∧ Same H H', ?_, ?_⟩
    · refine ⟨_, rfl, _, 4, rfl, .inl ⟨_, hw, rfl⟩, rfl, _, rfl, ite2 (fun c => absurd (V.int.inj (of_decide_eq_true c)) (by decide)) (fun _ => ?_)⟩
      exact ⟨rfl, fun _ _ z => z⟩
    rintro σ1 H1 ⟨rfl, s1⟩
    refine ⟨fun σ' H' => σ' = [some (.ref wl), some (.ref a), none, none] ∧ Same H H', ?_, ?_⟩
    · refine ⟨_, rfl, _, 4, rfl, .inl ⟨_, s1.seq hw, rfl⟩, rfl, _, rfl, ite2 (fun c => absurd (V.int.inj (of_decide_eq_true c)) (by decide)) (fun _ => ?_)⟩
      exact ⟨rfl, s1⟩
    rintro σ2 H2 ⟨rfl, s2⟩
    refine ⟨fun _ _ => False, ?_, fun _ _ z => z.elim⟩
    refine ⟨_, rfl, _, 4, rfl, .inl ⟨_, s2.seq hw, rfl⟩, rfl, _, rfl, ite2 (fun _ => ?_) (fun c => absurd (by decide +kernel) c)⟩
    refine ⟨_, rfl, wl, _, _, _, rfl, rfl, s2.seq hw, rfl, rfl, _, rfl, ite2 (fun _ => ?_) (fun c => absurd (by decide +kernel) c)⟩
    refine ⟨_, rfl, wl, _, _, _, rfl, rfl, s2.seq hw, rfl, _, rfl, z, a, ps, rfl, s2.tup hT, nm0, .inl ⟨j, hj, fun H3 s3 => ?_⟩⟩
    have s13 := s2.trans s3
    refine ⟨_, rfl, 2, rfl, wl, _, rfl, s13.seq hw, fun p hp => ?_⟩
    refine ⟨.non, (j : Nat), p, m, r, rfl, SqL.of upd_same, rem, fun o dx nm sp H4 s4 fo ho hn => ?_⟩
    have s14 := s13.trans (Same.new (o := .lst [.str (CF.num m), .str (CF.num r)]) hp)
    exact k o H4 (s14.trans s4) (s14.free fo) ⟨dx, nm, sp, .non, .int (j : Nat), ho, hn, rfl, j, hj, rfl⟩
  | gap z1 z2 m r =>
    obtain ⟨zin1, zin2, zne, rem⟩ := id ok
    obtain ⟨i, hi⟩ := List.getElem?_of_mem zin1
    obtain ⟨j, hj⟩ := List.getElem?_of_mem zin2
    have ij : i ≠ j := fun e => by
      rw [e, hj] at hi
      exact zne (Option.some.inj hi)
    refine ⟨fun σ' H' => σ' = [some (.ref wl), some (.ref a), none, none] ∧ Same H H', ?_, ?_⟩
    · refine ⟨_, rfl, _, 6, rfl, .inl ⟨_, hw, rfl⟩, rfl, _, rfl, ite2 (fun c => absurd (V.int.inj (of_decide_eq_true c)) (by decide)) (fun _ => ?_)⟩
      exact ⟨rfl, fun _ _ z => z⟩
    rintro σ1 H1 ⟨rfl, s1⟩
    refine ⟨fun σ' H' => σ' = [some (.ref wl), some (.ref a), none, none] ∧ Same H H', ?_, ?_⟩
    · refine ⟨_, rfl, _, 6, rfl, .inl ⟨_, s1.seq hw, rfl⟩, rfl, _, rfl, ite2 (fun c => absurd (V.int.inj (of_decide_eq_true c)) (by decide)) (fun _ => ?_)⟩
      exact ⟨rfl, s1⟩
    rintro σ2 H2 ⟨rfl, s2⟩
    refine ⟨fun σ' H' => σ' = [some (.ref wl), some (.ref a), none, none] ∧ Same H H', ?_, ?_⟩
    · refine ⟨_, rfl, _, 6, rfl, .inl ⟨_, s2.seq hw, rfl⟩, rfl, _, rfl, ite2 (fun c => absurd (V.int.inj (of_decide_eq_true c)) (by decide)) (fun _ => ?_)⟩
      exact ⟨rfl, s2⟩
    rintro σ3 H3 ⟨rfl, s3⟩
    refine ⟨fun _ _ => False, ?_, fun _ _ z => z.elim⟩
    refine ⟨_, rfl, _, 6, rfl, .inl ⟨_, s3.seq hw, rfl⟩, rfl, _, rfl, ite2 (fun _ => ?_) (fun c => absurd (by decide +kernel) c)⟩
    refine ⟨_, rfl, wl, _, _, _, rfl, rfl, s3.seq hw, rfl, rfl, _, rfl, ite2 (fun _ => ?_) (fun c => absurd (by decide +kernel) c)⟩
    refine ⟨_, rfl, wl, _, _, _, rfl, rfl, s3.seq hw, rfl, rfl, _, rfl, ite2 (fun _ => ?_) (fun c => absurd (by decide +kernel) c)⟩
    refine ⟨_, rfl, wl, _, _, _, rfl, rfl, s3.seq hw, rfl, _, rfl, z1, a, ps, rfl, s3.tup hT, nm0, .inl ⟨i, hi, fun H4 s4 => ?_⟩⟩
    have s34 := s3.trans s4
    refine ⟨_, rfl, wl, _, _, _, rfl, rfl, s34.seq hw, rfl, _, rfl, z2, a, ps, rfl, s34.tup hT, nm0, .inl ⟨j, hj, fun H5 s5 => ⟨_, _, rfl, ?_⟩⟩⟩
    have s35 := s34.trans s5
    refine ⟨_, rfl, rfl, _, rfl, ite2 (fun c => absurd (of_decide_eq_true c) (fun e => by cases e)) (fun _ => ?_)⟩
    refine ⟨_, rfl, _, rfl, rfl, _, rfl, ite2 (fun c => absurd (V.int.inj (of_decide_eq_true c)) (by omega)) (fun _ => ?_)⟩
    refine ⟨_, rfl, _, rfl, _, rfl, 4, rfl, wl, _, rfl, s35.seq hw, fun p hp => ?_⟩
    refine ⟨.int (i : Nat), (j : Nat), p, m, r, rfl, SqL.of upd_same, rem, fun o dx nm sp H6 s6 fo ho hn => ?_⟩
    have s36 := s35.trans (Same.new (o := .lst [.str (CF.num m), .str (CF.num r)]) hp)
    exact k o H6 (s36.trans s6) (s36.free fo) ⟨dx, nm, sp, .int (i : Nat), .int (j : Nat), ho, hn, i, j, hi, hj, rfl, rfl⟩
  | apart z1 k1 n z2 e c =>
    obtain ⟨zin1, zin2, zne, o1, m1, o2, m2⟩ := id ok
    obtain ⟨i, hi⟩ := List.getElem?_of_mem zin1
    obtain ⟨j, hj⟩ := List.getElem?_of_mem zin2
    have ij : i ≠ j := fun e => by
      rw [e, hj] at hi
      exact zne (Option.some.inj hi)
    refine ⟨fun _ _ => False, ?_, fun _ _ z => z.elim⟩
    refine ⟨_, rfl, _, 5, rfl, .inl ⟨_, hw, rfl⟩, rfl, _, rfl, ite2 (fun _ => ?_) (fun c => absurd (by decide +kernel) c)⟩
    refine ⟨_, rfl, wl, _, _, _, rfl, rfl, hw, rfl, rfl, _, rfl, ite2 (fun _ => ?_) (fun c => absurd (by decide +kernel) c)⟩
    refine ⟨_, rfl, _, rfl, wl, a, ps, z1, z2, i, j, k1, n, e, c, rfl, hw, hT, nm0, hi, hj, ij, o1, m1, o2, m2, fun o dx nm sp q1 q2 a1 a2 H' s1 fo h1 h2 h3 h4 h5 ho hn => ?_⟩
    have ef : n + c + CF.ab k1 + CF.ab e = (CF.FD.apart z1 k1 n z2 e c).far := by
      show _ = CF.ab k1 + n + CF.ab e + c
      omega
    rw [ef] at ho
    exact k o H' s1 fo ⟨dx, nm, sp, .ref q1, .ref q2, ho, hn, i, j, q1, q2, a1, a2, hi, hj, rfl, rfl, h1, h2, h3, h4, h5⟩
  | dist w z1 z2 n =>
    obtain ⟨hs, zin1, zin2, zne, n0, n1⟩ := id ok
    obtain ⟨i, hi⟩ := List.getElem?_of_mem zin1
    obtain ⟨j, hj⟩ := List.getElem?_of_mem zin2
    have ij : i ≠ j := fun e => by
      rw [e, hj] at hi
      exact zne (Option.some.inj hi)
    have nap : z1 ≠ "apart" := name_ne (nm0.1 z1 zin1) (by decide +kernel)
    have inw : inV (.str w) [.str "from", .str "upto", .str "is"] = true := by
      simp only [CF.Sorts, List.mem_cons, List.not_mem_nil, or_false] at hs
      rcases hs with rfl | rfl | rfl <;> decide +kernel
    refine ⟨fun σ' H' => σ' = [some (.ref wl), some (.ref a), none, none] ∧ Same H H', ?_, ?_⟩
    · refine ⟨_, rfl, _, 5, rfl, .inl ⟨_, hw, rfl⟩, rfl, _, rfl, ite2 (fun _ => ?_) (fun c => absurd (by decide +kernel) c)⟩
      refine ⟨_, rfl, wl, _, _, _, rfl, rfl, hw, rfl, rfl, _, rfl, ite2 (fun c => absurd (V.str.inj (of_decide_eq_true c)) nap) (fun _ => ⟨rfl, fun _ _ z => z⟩)⟩
    rintro σ1 H1 ⟨rfl, s1⟩
    refine ⟨fun _ _ => False, ?_, fun _ _ z => z.elim⟩
    refine ⟨_, rfl, _, 5, rfl, .inl ⟨_, s1.seq hw, rfl⟩, rfl, _, rfl, ite2 (fun _ => ?_) (fun c => absurd (by decide +kernel) c)⟩
    refine ⟨_, rfl, wl, _, _, _, rfl, rfl, s1.seq hw, rfl, rfl, _, rfl, ite2 (fun _ => ?_) (fun c => absurd (by decide +kernel) c)⟩
    refine ⟨_, rfl, wl, _, _, _, rfl, rfl, s1.seq hw, rfl, by show 3 ≤ sizeLine; decide, fun t ht => ?_⟩
    refine ⟨t, _, rfl, .inr (SqT.of upd_same), rfl, rfl, _, rfl, ite2 (fun _ => ?_) (fun c => absurd inw c)⟩
    have s2 := s1.trans (Same.new (o := .tup [.str "from", .str "upto", .str "is"]) ht)
    exact ⟨_, rfl, _, rfl, wl, a, ps, z1, z2, w, i, j, n, rfl, s2.seq hw, s2.tup hT, nm0, hi, hj, ij, hs, n0, n1, fun o dx nm sp H' s3 fo ho hn => k o H' (s2.trans s3) (s2.free fo) ⟨dx, nm, sp, .int (i : Nat), .int (j : Nat), ho, hn, i, j, hi, hj, rfl, rfl⟩⟩


end
end K05
end
section
set_option Elab.async false
set_option linter.all false
set_option maxRecDepth 100000
set_option maxHeartbeats 4000000
namespace K05
open PySem PySem.Spec PyProof.Rows L2
open PySem.W (ke_shaped_ints)
local macro_rules | `(tactic| walk_at "go") => `(tactic| first | refine ⟨_, rfl, ?_⟩ | refine .inl ⟨_, rfl, ?_⟩ | refine ⟨_, _, rfl, rfl, (by first | (show (0 : Int) < _; decide) | exact Or.inl ⟨by decide, by decide⟩ | exact Or.inr ⟨by decide, by decide⟩), ?_⟩ | refine ⟨_, _, rfl, rfl, ?_⟩)
section
variable {P : Program} {w : World} {K : PySem.W.Frag} {mg : Str → Option Value} {base : Heap}

/-- facts at their places -/
def FactsAt (K : PySem.W.Frag) (C : Addr) (H : Hp) (ps : List Str) (os : List Addr) (fs : List CF.FD) : Prop := os.length = fs.length ∧ ∀ (i : Nat) (o : Addr) (f : CF.FD), os[i]? = some o → fs[i]? = some f → FactAt K C H ps o f
theorem FactsAt.same {K : PySem.W.Frag} {C : Addr} {H H' : Hp} {ps : List Str} {os : List Addr} {fs : List CF.FD} (h : FactsAt K C H ps os fs) (s : Same H H') : FactsAt K C H' ps os fs := ⟨h.1, fun i o f a b => (h.2 i o f a b).same s⟩


/-- far_of of facts -/
def sp_far_of (K : PySem.W.Frag) (C : Addr) : Sp := fun vs H Q _ => ∃ (a : Addr) (os : List Addr) (fs : List CF.FD) (ps : List Str), vs = [.ref a] ∧ SqT K H a (os.map V.ref) ∧ FactsAt K C H ps os fs ∧ (∀ f ∈ fs, f.Ok ps) ∧ fs.length ≤ 1000 ∧ ∀ H', Same H H' → Q (.int (CF.farOf fs)) H'
abbrev s_pfar_of : Stmt := topS 34
theorem sc_pfar_of : FnScope ["things", "thing"] ["things"] (defScope s_pfar_of) := ⟨rfl, rfl, rfl, by decide +kernel, rfl, by decide +kernel, by decide +kernel⟩
theorem ok_pfar_of (T : TxtP K mg) (D : Def K mg "far_of" s_pfar_of) {C : Addr} (FC : FactC K C) : Cal P w K mg base 1 "far_of" ["things"] (sp_far_of K C) := by
  refine D.cal sc_pfar_of (fun vs H Q E h => ?_) (fun _ _ _ _ _ _ us hl => match us, hl with | [_], _ => rfl) (fun f cdv A outer s H vs Q E hr h => ?_)
  · obtain ⟨a, os, fs, ps, rfl, _⟩ := h
    rfl
  have hu := hu_of hr

  obtain ⟨a, os, fs, ps, rfl, hT, ⟨le, fat⟩, ok, sz, k⟩ := h
  refine ⟨_, (pss_one (ps_ret (pe_callBK (cr_maxD rfl) (by rfl) T.f_max (by decide +kernel) (pa_cons (pe_lc (own := [("thing", 1)]) (g := gName 1) (tt := tYes) (te := tFld K (tVar 1) "far") rfl sc_pfar_of.nd (pi_tup (pv 0)) (blkOk_by (N := ["things", "thing"]) (sc := defScope s_pfar_of) (by decide +kernel)) (fun _ _ _ _ _ => (pg_name (i := 1) sc_pfar_of.nd rfl (Or.inl rfl))) (fun _ _ _ _ _ => pts_nil) (fun _ _ _ _ _ => (pe_fld (pv 1) rfl))) pa_nil) (pk_cons pe_int pk_nil)))), ?_⟩
  refine ⟨_, rfl, a, rfl, ⟨_, hT⟩, fun D hD => lc_it walk_tup (fun i H' => Same H H' ∧ H' D = some (.lst (((fs.take i).map CF.FD.far).map V.int)))
    ⟨Same.new hD, upd_same⟩ (fun i H' _ z => z.1.tup hT) ?_ ?_⟩
  · rintro i y G1 G2 hi ⟨s1, h1⟩ ⟨rfl, hx⟩
    have hx' : (os.map V.ref)[i]? = some y := hx
    rw [List.getElem?_map] at hx'
    obtain ⟨o, ho, rfl⟩ := Option.map_eq_some_iff.mp hx'
    have il : i < fs.length := by
      rw [List.length_map] at hi
      omega
    have hf : fs[i]? = some fs[i] := List.getElem?_eq_getElem il
    obtain ⟨dx, nm, sp, v1, v2, g1, g2, g3⟩ := (fat i o _ ho hf).same s1
    refine ⟨rfl, _, rfl, o, C, dx, _, .int (fs[i]).far, rfl, g1, FC.cl, FC.n_far, rfl, _, h1, ?_, s1.put hD, ?_⟩
    · rw [List.length_map, List.length_map, sizeLine_eq]
      have := List.length_take_le i fs
      omega
    · have tm : ((fs.take (i + 1)).map CF.FD.far) = (fs.take i).map CF.FD.far ++ [(fs[i]).far] := by
        rw [List.take_add_one, hf, List.map_append]
        rfl
      rw [tm, List.map_append]
      exact upd_same
  · rintro G ⟨s1, h1⟩
    rw [List.length_map, le, List.take_length] at h1
    refine ⟨D, fs.map CF.FD.far, 0, rfl, rfl, SqL.of h1, fun e => ?_, fun m hm hle => ?_⟩
    · have e2 : CF.farOf fs = 0 := by
        rw [CF.farOf_map, e]
        rfl
      rw [← e2]
      exact k _ s1
    · have e2 : CF.farOf fs = m := by
        rw [CF.farOf_map]
        refine CF.mx_is hm hle fun y hy => ?_
        obtain ⟨f, hf, rfl⟩ := List.mem_map.mp hy
        exact CF.far_nn (ok f hf)
      rw [← e2]
      exact k _ s1



/-- modulus_of of facts -/
def sp_modulus_of (K : PySem.W.Frag) (C : Addr) : Sp := fun vs H Q _ => ∃ (a : Addr) (os : List Addr) (fs : List CF.FD) (ps : List Str), vs = [.ref a] ∧ SqT K H a (os.map V.ref) ∧ FactsAt K C H ps os fs ∧ (∀ f ∈ fs, f.Ok ps) ∧ fs.length ≤ 1000 ∧ ∀ H', Same H H' → Q (.int (CF.modOf fs)) H'
abbrev s_modulus_of : Stmt := topS 35
theorem sc_modulus_of : FnScope ["things", "thing"] ["things"] (defScope s_modulus_of) := ⟨rfl, rfl, rfl, by decide +kernel, rfl, by decide +kernel, by decide +kernel⟩
theorem ok_modulus_of (T : TxtP K mg) (D : Def K mg "modulus_of" s_modulus_of) {C : Addr} (FC : FactC K C) : Cal P w K mg base 1 "modulus_of" ["things"] (sp_modulus_of K C) := by
  refine D.cal sc_modulus_of (fun vs H Q E h => ?_) (fun _ _ _ _ _ _ us hl => match us, hl with | [_], _ => rfl) (fun f cdv A outer s H vs Q E hr h => ?_)
  · obtain ⟨a, os, fs, ps, rfl, _⟩ := h
    rfl
  have hu := hu_of hr

  obtain ⟨a, os, fs, ps, rfl, hT, ⟨le, fat⟩, ok, sz, k⟩ := h
  refine ⟨_, (pss_one (ps_ret (pe_callBK (cr_maxD rfl) (by rfl) T.f_max (by decide +kernel) (pa_cons (pe_lc (own := [("thing", 1)]) (g := gName 1) (tt := tYes) (te := tFld K (tVar 1) "modulus") rfl sc_modulus_of.nd (pi_tup (pv 0)) (blkOk_by (N := ["things", "thing"]) (sc := defScope s_modulus_of) (by decide +kernel)) (fun _ _ _ _ _ => (pg_name (i := 1) sc_modulus_of.nd rfl (Or.inl rfl))) (fun _ _ _ _ _ => pts_nil) (fun _ _ _ _ _ => (pe_fld (pv 1) rfl))) pa_nil) (pk_cons pe_int pk_nil)))), ?_⟩
  refine ⟨_, rfl, a, rfl, ⟨_, hT⟩, fun D hD => lc_it walk_tup (fun i H' => Same H H' ∧ H' D = some (.lst (((fs.take i).map CF.FD.mod).map V.int)))
    ⟨Same.new hD, upd_same⟩ (fun i H' _ z => z.1.tup hT) ?_ ?_⟩
  · rintro i y G1 G2 hi ⟨s1, h1⟩ ⟨rfl, hx⟩
    have hx' : (os.map V.ref)[i]? = some y := hx
    rw [List.getElem?_map] at hx'
    obtain ⟨o, ho, rfl⟩ := Option.map_eq_some_iff.mp hx'
    have il : i < fs.length := by
      rw [List.length_map] at hi
      omega
    have hf : fs[i]? = some fs[i] := List.getElem?_eq_getElem il
    obtain ⟨dx, nm, sp, v1, v2, g1, g2, g3⟩ := (fat i o _ ho hf).same s1
    refine ⟨rfl, _, rfl, o, C, dx, _, .int (fs[i]).mod, rfl, g1, FC.cl, FC.n_modulus, rfl, _, h1, ?_, s1.put hD, ?_⟩
    · rw [List.length_map, List.length_map, sizeLine_eq]
      have := List.length_take_le i fs
      omega
    · have tm : ((fs.take (i + 1)).map CF.FD.mod) = (fs.take i).map CF.FD.mod ++ [(fs[i]).mod] := by
        rw [List.take_add_one, hf, List.map_append]
        rfl
      rw [tm, List.map_append]
      exact upd_same
  · rintro G ⟨s1, h1⟩
    rw [List.length_map, le, List.take_length] at h1
    refine ⟨D, fs.map CF.FD.mod, 1, rfl, rfl, SqL.of h1, fun e => ?_, fun m hm hle => ?_⟩
    · have e2 : CF.modOf fs = 1 := by
        rw [CF.modOf_map, e]
        rfl
      rw [← e2]
      exact k _ s1
    · have e2 : CF.modOf fs = m := by
        rw [CF.modOf_map]
        refine CF.mx_is hm hle fun y hy => ?_
        obtain ⟨f, hf, rfl⟩ := List.mem_map.mp hy
        exact CF.mod_pos (ok f hf)
      rw [← e2]
      exact k _ s1

end
end K05
end
section
set_option Elab.async false
set_option linter.all false
set_option maxRecDepth 100000
set_option maxHeartbeats 4000000
namespace K05
open PySem PySem.Spec PyProof.Rows L2
open PySem.W (ke_shaped_ints)
local macro_rules | `(tactic| walk_at "go") => `(tactic| first | refine ⟨_, rfl, ?_⟩ | refine .inl ⟨_, rfl, ?_⟩ | refine ⟨_, _, rfl, rfl, (by first | (show (0 : Int) < _; decide) | exact Or.inl ⟨by decide, by decide⟩ | exact Or.inr ⟨by decide, by decide⟩), ?_⟩ | refine ⟨_, _, rfl, rfl, ?_⟩)
section
variable {P : Program} {w : World} {K : PySem.W.Frag} {mg : Str → Option Value} {base : Heap}

/-- read_facts(lines, pointers) of right facts' lines -/
def spReadFacts (K : PySem.W.Frag) (C : Addr) : Sp := fun vs H Q _ => ∃ (la a : Addr) (ps : List Str) (fs : List CF.FD), vs = [.ref la, .ref a] ∧ SqT K H la ((fs.map CF.FD.text).map V.str) ∧ SqT K H a (ps.map V.str) ∧ CF.Names ps ∧ (∀ f ∈ fs, f.Ok ps) ∧ fs.Nodup ∧ fs.length ≤ 12 ∧
  ∀ (r : Addr) (os : List Addr) (H' : Hp), Same H H' → H' r = some (.tup (os.map V.ref)) → FactsAt K C H' ps os fs → Q (.ref r) H'
theorem _root_.L2.SqT.upl {K : PySem.W.Frag} {H : Hp} {q a : Addr} {ys xs : List V} {u : HO} (hq : H q = some (.lst ys)) (h : SqT K H a xs) : SqT K (upd H q u) a xs := by
  rcases h with (h | ⟨v, h⟩) | h
  · exact .inl (.inl (by rw [upd_ne (fun z => by rw [z, hq] at h; cases h)]; exact h))
  · exact .inl (.inr ⟨v, by rw [upd_ne (fun z => by rw [z, hq] at h; cases h)]; exact h⟩)
  · exact .inr h
theorem EndsAt.upl {H : Hp} {q : Addr} {ys : List V} {u : HO} (hq : H q = some (.lst ys)) {ps : List Str} {f : CF.FD} {v1 v2 : V} {sp : Addr} (h : EndsAt H ps f v1 v2 sp) : EndsAt (upd H q u) ps f v1 v2 sp := by
  have t : ∀ {a : Addr} {xs : List V}, H a = some (.tup xs) → upd H q u a = some (.tup xs) := fun {a xs} h => by rw [upd_ne (fun z => by rw [z, hq] at h; cases h)]; exact h
  cases f with
  | by_ a m r => exact h
  | gap a b m r => exact h
  | dist w a b n => exact h
  | apart a k n b e c =>
    obtain ⟨i, j, q1, q2, s1, s2, a1, a2, a3, a4, a5, a6, a7, a8, a9⟩ := h
    exact ⟨i, j, q1, q2, s1, s2, a1, a2, a3, a4, t a5, t a6, t a7, t a8, t a9⟩
theorem FactAt.upl {K : PySem.W.Frag} {C : Addr} {H : Hp} {q : Addr} {ys : List V} {u : HO} (hq : H q = some (.lst ys)) {ps : List Str} {o : Addr} {f : CF.FD} (h : FactAt K C H ps o f) : FactAt K C (upd H q u) ps o f := by
  obtain ⟨dx, nm, sp, v1, v2, h1, h2, h3⟩ := h
  exact ⟨dx, nm, sp, v1, v2, by rw [upd_ne (fun z => by rw [z, hq] at h1; cases h1)]; exact h1, h2.upl hq, h3.upl hq⟩
theorem FactsAt.upl {K : PySem.W.Frag} {C : Addr} {H : Hp} {q : Addr} {ys : List V} {u : HO} (hq : H q = some (.lst ys)) {ps : List Str} {os : List Addr} {fs : List CF.FD} (h : FactsAt K C H ps os fs) : FactsAt K C (upd H q u) ps os fs := ⟨h.1, fun i o f a b => (h.2 i o f a b).upl hq⟩
theorem FactsAt.app {K : PySem.W.Frag} {C : Addr} {H : Hp} {ps : List Str} {os : List Addr} {fs : List CF.FD} {o : Addr} {f : CF.FD} (h : FactsAt K C H ps os fs) (a : FactAt K C H ps o f) : FactsAt K C H ps (os ++ [o]) (fs ++ [f]) := by
  obtain ⟨l, h⟩ := h
  refine ⟨by rw [List.length_append, List.length_append, l]; rfl, fun i o1 f1 e1 e2 => ?_⟩
  by_cases lt : i < os.length
  · rw [List.getElem?_append_left lt] at e1
    rw [List.getElem?_append_left (by omega)] at e2
    exact h i o1 f1 e1 e2
  · rw [List.getElem?_append_right (by omega)] at e1
    rw [List.getElem?_append_right (by omega), ← l] at e2
    cases hk : i - os.length with
    | zero =>
      rw [hk] at e1 e2
      simp only [List.getElem?_cons_zero, Option.some.injEq] at e1 e2
      rw [← e1, ← e2]
      exact a
    | succ n =>
      rw [hk] at e1
      cases e1
abbrev s_read_facts : Stmt := topS 39
theorem sc_read_facts : FnScope ["lines", "pointers", "rows", "index", "line", "fact"] ["lines", "pointers"] (defScope s_read_facts) := ⟨rfl, rfl, rfl, by decide +kernel, rfl, by decide +kernel, by decide +kernel⟩
theorem ok_read_facts (T : TxtP K mg) (D : Def K mg "read_facts" s_read_facts) {C : Addr} (C_read_fact : Cal P w K mg base 6 "read_fact" ["words", "pointers"] (spReadFact K C)) : Cal P w K mg base 7 "read_facts" ["lines", "pointers"] (spReadFacts K C) := by
  refine D.cal sc_read_facts (fun vs H Q E h => ?_) (fun _ _ _ _ _ _ us hl => match us, hl with | [_, _], _ => rfl) (fun f cdv A outer s H vs Q E hr h => ?_)
  · obtain ⟨la, a, ps, fs, rfl, _⟩ := h
    rfl
  have hu := hu_of hr

  obtain ⟨la, a, ps, fs, rfl, hl, hT, nm0, ok, nd, f12, k⟩ := h
  have hn : ∀ z ∈ ps, CF.NameOk z := nm0.1
  refine ⟨_, (pss_cons (ps_set (i := 2) sc_read_facts.nd rfl (by first | exact Or.inl rfl | exact Or.inr rfl) (pe_lst pa_nil))
      (pss_cons (ps_for PassesOwn.never rfl (pi_enumT (by rfl) T.f_enumerate (pa_cons (pv 0) pa_nil)) (pg_tup rfl (pgs_cons (pg_name (i := 3) sc_read_facts.nd rfl (by first | exact Or.inl rfl | exact Or.inr rfl)) (pgs_cons (pg_name (i := 4) sc_read_facts.nd rfl (by first | exact Or.inl rfl | exact Or.inr rfl)) pgs_nil))) (pss_cons (ps_set (i := 5) sc_read_facts.nd rfl (by first | exact Or.inl rfl | exact Or.inr rfl) (pe_cal C_read_fact (hr.mono (by decide)) rfl (pa_cons (pe_split (pv 4) pe_str) (pa_cons (pv 1) pa_nil))))
      (C8.pss_cut (ps_if (PW.pt (pw_or (pt_cmpR op_isN (pv 5) pe_non (nomark _)) (pw_or (pt_cmpR op_in_seq (pv 4) (pe_slice sl_tup (pv 0) po_none (po_some (pv 3))) (by rfl)) (pw_or1 (pt_cmpR op_eq (pv 3) (pe_gint (by rfl) T.c_MOST_FACTS) (nomark _)))))) (pss_one ps_never) pss_nil)
      (pss_one (ps_expr (pe_bm PySem.F.plainAttrs_list PySem.F.slot_list_append PySem.F.type_list_append mt_append (pv 2) (pa_cons (pv 5) pa_nil)))))))
      (pss_one (ps_ret (pe_callTy call_tuple_of (by rfl) T.f_tuple (by decide +kernel) (pa_cons (pv 2) pa_nil)))))), ?_⟩
  refine ⟨Nat.zero_le _, fun q hq => ?_⟩
  refine ⟨_, rfl, la, _, rfl, (Same.new hq).tup hl, for_it walk_enumT (fun i σ H1 => ∃ (v3 v4 v5 : Option V) (os : List Addr), σ = [some (.ref la), some (.ref a), some (.ref q), v3, v4, v5] ∧ Same H H1 ∧ H1 q = some (.lst (os.map V.ref)) ∧ FactsAt K C H1 ps os (fs.take i))
    ⟨none, none, none, [], rfl, Same.new hq, upd_same, rfl, fun i o f e => by cases e⟩ (fun i σ H1 _ ⟨_, _, _, _, _, s1, _⟩ => s1.tup hl) ?_ ?_⟩
  · rintro i x σ H1 H2 hi ⟨v3, v4, v5, os, rfl, s1, h1, fat⟩ ⟨T0, x1, x2, rfl, hT0, rfl, e1, e2⟩
    cases e1
    have e2' : ((fs.map CF.FD.text).map V.str)[i]? = some x2 := e2
    rw [List.getElem?_map, List.getElem?_map] at e2'
    obtain ⟨z0, hz0, rfl⟩ := Option.map_eq_some_iff.mp e2'
    obtain ⟨f, hf, rfl⟩ := Option.map_eq_some_iff.mp hz0
    have okf := ok f (List.mem_of_getElem? hf)
    have tl := CF.FD.text_len (fun z hz => (hn z hz).hi) okf
    have il : i < fs.length := (List.getElem?_eq_some_iff.mp hf).1
    have n1 := Same.new (o := .tup [.int (i : Nat), .str f.text]) hT0
    have h2 := n1 _ _ h1
    have fat2 := fat.same n1
    have s2 := s1.trans n1
    refine ⟨T0, _, rfl, SqT.of upd_same, rfl, _, _, rfl, _, _, rfl, rfl, ?_⟩
    generalize upd H1 T0 (.tup [.int (i : Nat), .str f.text]) = H3 at h2 fat2 s2 ⊢
    refine ⟨_, rfl, ⟨_, rfl⟩, _, _, rfl, rfl, by decide +kernel, by rw [sizeLine_eq]; omega, fun w hw => ?_⟩
    rw [CF.FD.split hn okf]
    have n2 := Same.new (o := .lst (f.words.map V.str)) hw
    refine ⟨_, rfl, w, a, ps, f, rfl, SqL.of upd_same, (s2.trans n2).tup hT, nm0, okf, fun o H4 s4 fo fo1 => ?_⟩
    have s24 := n2.trans s4
    have h4 := s24 _ _ h2
    have fat4 := fat2.same s24
    have s04 := s2.trans s24
    refine ⟨fun σ' H' => σ' = [some (.ref la), some (.ref a), some (.ref q), some (.int (i : Nat)), some (.str f.text), some (.ref o)] ∧ Same H4 H', ?_, ?_⟩
    · refine ⟨_, rfl, rfl, _, rfl, ite2 (fun c => absurd (of_decide_eq_true c) (fun e => by cases e)) (fun _ => ?_)⟩
      have cut : cutV ((fs.map CF.FD.text).map V.str) none (some ((i : Nat) : Int)) = ((fs.take i).map CF.FD.text).map V.str := by
        rw [CF.cut_to _ (by omega), ← List.map_take, ← List.map_take]
        rfl
      refine ⟨_, rfl, _, rfl, _, rfl, _, rfl, la, _, rfl, s04.tup hl, ?_, fun p hp => ⟨p, _, rfl, .inr (SqT.of upd_same), rfl, ?_, _, rfl, ?_⟩⟩
      · rintro ⟨_, h⟩
        unfold HT.sIx at h
        simp only [if_neg (show ¬ ((i : Nat) : Int) < 0 by omega), List.length_map, Int.toNat_natCast] at h
        omega
      · rw [cut]
        exact CF.flat_strs _
      · have nin : f.text ∉ (fs.take i).map CF.FD.text := fun hm => by
          obtain ⟨g, hg, eg⟩ := List.mem_map.mp hm
          have gf := CF.FD.text_inj hn (ok g (List.mem_of_mem_take hg)) okf eg
          exact not_before nd hf (gf ▸ hg)
        rw [if_neg (by decide), cut, CF.inV_strs, decide_eq_false nin]
        refine iteF ?_
        exact ⟨_, rfl, rfl, _, rfl, ite2 (fun c => absurd (V.int.inj (of_decide_eq_true c)) (by omega)) (fun _ => ⟨rfl, Same.new hp⟩)⟩
    rintro σ' H5 ⟨rfl, s5⟩
    have h5 := s5 _ _ h4
    refine ⟨_, rfl, .inl ⟨rfl, _, SqL.of h5⟩, _, rfl, q, _, _, rfl, rfl, h5, ?_, ?_⟩
    · rw [List.length_map, fat.1, List.length_take, sizeLine_eq]
      omega
    · have tk : fs.take (i + 1) = fs.take i ++ [f] := by
        rw [List.take_add_one, hf]
        rfl
      refine ⟨_, _, _, os ++ [o], rfl, (s04.trans s5).put hq, ?_, ?_⟩
      · rw [List.map_append]
        exact upd_same
      · rw [tk]
        exact ((fat4.same s5).app (fo1.same s5)).upl h5
  · rintro σ H1 ⟨v3, v4, v5, os, rfl, s1, h1, fat⟩
    rw [List.length_map, List.length_map, List.take_length] at fat
    refine ⟨_, rfl, q, _, rfl, .inl ⟨SqL.of h1, fun r hr => ?_⟩⟩
    exact k r os _ (s1.trans (Same.new hr)) upd_same (fat.same (Same.new hr))

end
end K05
end
section
set_option Elab.async false
set_option linter.all false
set_option maxRecDepth 100000
set_option maxHeartbeats 4000000
namespace K05
open PySem PySem.Spec PyProof.Rows L2
open PySem.W (ke_shaped_ints)
local macro_rules | `(tactic| walk_at "go") => `(tactic| first | refine ⟨_, rfl, ?_⟩ | refine .inl ⟨_, rfl, ?_⟩ | refine ⟨_, _, rfl, rfl, (by first | (show (0 : Int) < _; decide) | exact Or.inl ⟨by decide, by decide⟩ | exact Or.inr ⟨by decide, by decide⟩), ?_⟩ | refine ⟨_, _, rfl, rfl, ?_⟩)
section
variable {P : Program} {w : World} {K : PySem.W.Frag} {mg : Str → Option Value} {base : Heap}

def cfields (pt ln ft : Addr) (z : Str) (far md : Int) : List (Str × V) := [("pointers", .ref pt), ("text", .str z), ("lines", .ref ln), ("rows", .ref ft), ("far", .int far), ("modulus", .int md)]
structure ContractC (K : PySem.W.Frag) (D : Addr) : Prop where
  cl : Cls K D
  n_pointers : NoAttr K D "pointers"
  n_text : NoAttr K D "text"
  n_lines : NoAttr K D "lines"
  n_rows : NoAttr K D "rows"
  n_far : NoAttr K D "far"
  n_modulus : NoAttr K D "modulus"
/-- Contract.__init__ of right pointers and a right text -/
def spContractInit (K : PySem.W.Frag) (C D : Addr) : Sp := fun vs H Q _ => ∃ (o dx pa : Addr) (ps : List Str) (fs : List CF.FD), vs = [.ref o, .ref pa, .str (CF.textOf fs)] ∧ H o = some (.ins D dx []) ∧ (SqL K H pa (ps.map V.str) ∨ SqT K H pa (ps.map V.str)) ∧ CF.Names ps ∧ (∀ f ∈ fs, f.Ok ps) ∧ fs.Nodup ∧ fs.length ≤ 12 ∧
  ∀ (pt ln ft : Addr) (os : List Addr) (H' : Hp), But o H H' → H' o = some (.ins D dx (cfields pt ln ft (CF.textOf fs) (CF.farOf fs) (CF.modOf fs))) → SqT K H' pt (ps.map V.str) → H' ln = some (.tup ((fs.map CF.FD.text).map V.str)) → H' ft = some (.tup (os.map V.ref)) → FactsAt K C H' ps os fs → Q .non H'
theorem EndsAt.but {H H' : Hp} {q D dx : Addr} {ys : List (Str × V)} (b : But q H H') (hq : H q = some (.ins D dx ys)) {ps : List Str} {f : CF.FD} {v1 v2 : V} {sp : Addr} (h : EndsAt H ps f v1 v2 sp) : EndsAt H' ps f v1 v2 sp := by
  have t : ∀ {a : Addr} {xs : List V}, H a = some (.tup xs) → H' a = some (.tup xs) := fun {a xs} h => b _ _ (fun z => by rw [z, hq] at h; cases h) h
  cases f with
  | by_ a m r => exact h
  | gap a b m r => exact h
  | dist w a b n => exact h
  | apart a k n b e c =>
    obtain ⟨i, j, q1, q2, s1, s2, a1, a2, a3, a4, a5, a6, a7, a8, a9⟩ := h
    exact ⟨i, j, q1, q2, s1, s2, a1, a2, a3, a4, t a5, t a6, t a7, t a8, t a9⟩
theorem FactsAt.but {K : PySem.W.Frag} {C D q dx : Addr} {H H' : Hp} {ys : List (Str × V)} {ps : List Str} {os : List Addr} {fs : List CF.FD} (b : But q H H') (hq : H q = some (.ins D dx ys)) (nq : C ≠ D) (h : FactsAt K C H ps os fs) : FactsAt K C H' ps os fs := by
  refine ⟨h.1, fun i o f a e => ?_⟩
  obtain ⟨x, nm, sp, v1, v2, h1, h2, h3⟩ := h.2 i o f a e
  refine ⟨x, nm, sp, v1, v2, b _ _ (fun z => ?_) h1, b.tupI hq h2, h3.but b hq⟩
  rw [z, hq] at h1
  cases h1
  exact nq rfl
abbrev s_Contract___init__ : Stmt := inClass (topS 38) 0
theorem sc_Contract___init__ : FnScope ["self", "pointers", "text"] ["self", "pointers", "text"] (defScope s_Contract___init__) := ⟨rfl, rfl, rfl, by decide +kernel, rfl, by decide +kernel, by decide +kernel⟩
theorem ok_contract_init {C D f : Addr} {fd : FuncData} (nCD : C ≠ D) (T : TxtP K mg) (FC : FactC K C) (DC : ContractC K D) (F : FunD K "__init__" "Contract.__init__" (defArgs s_Contract___init__) (defBody s_Contract___init__) (defScope s_Contract___init__) [] [] f fd)
    (C_read_pointers : Cal P w K mg base 2 "read_pointers" ["pointers"] (spReadPointers K)) (C_lines_of : Cal P w K mg base 1 "lines_of" ["text"] spLinesOf) (C_read_facts : Cal P w K mg base 7 "read_facts" ["lines", "pointers"] (spReadFacts K C)) (C_far_of : Cal P w K mg base 1 "far_of" ["things"] (sp_far_of K C)) (C_modulus_of : Cal P w K mg base 1 "modulus_of" ["things"] (sp_modulus_of K C)) :
    FnOk P w K mg base CX0 8 f fd ["self", "pointers", "text"] (spContractInit K C D) := by
  refine F.ok sc_Contract___init__ (fun vs H Q E h => by obtain ⟨o, dx, pa, ps, fs, rfl, _⟩ := h; rfl) (fun cdv A outer s H vs Q E hr h => ?_)
  suffices z : ∃ t, PSs (cxOf CX0 P w K mg base ["self", "pointers", "text"] "Contract.__init__" (defScope s_Contract___init__) f cdv A outer s H E).nox (defBody s_Contract___init__) t ∧ t { nx := fun _ H' => Q .non H', rt := Q } (start ["self", "pointers", "text"] vs) H by
    obtain ⟨t, h1, h2⟩ := z
    exact ⟨t, h1.nox, h2⟩
  obtain ⟨o, dx, pa, ps, fs, rfl, ho, hs, nm0, ok, nd, f12, k⟩ := h
  have hn : ∀ z ∈ ps, CF.NameOk z := nm0.1
  have lt : ∀ (l : List (Str × V)), l.length ≤ 7 → l.length < 1000 := fun l h => by omega
  refine ⟨_, (pss_cons (ps_fld (pv 0) (pe_cal C_read_pointers (hr.mono (by decide)) rfl (pa_cons (pv 1) pa_nil)) rfl)
      (pss_cons (ps_fld (pv 0) (pv 2) rfl)
      (pss_cons (ps_fld (pv 0) (pe_callTy call_tuple_of (by rfl) T.f_tuple (by decide +kernel) (pa_cons (pe_cal C_lines_of (hr.mono (by decide)) rfl (pa_cons (pv 2) pa_nil)) pa_nil)) rfl)
      (pss_cons (ps_fld (pv 0) (pe_cal C_read_facts (hr.mono (by decide)) rfl (pa_cons (pe_fld (pv 0) rfl) (pa_cons (pe_fld (pv 0) rfl) pa_nil))) rfl)
      (pss_cons (ps_fld (pv 0) (pe_cal C_far_of (hr.mono (by decide)) rfl (pa_cons (pe_fld (pv 0) rfl) pa_nil)) rfl)
      (pss_one (ps_fld (pv 0) (pe_cal C_modulus_of (hr.mono (by decide)) rfl (pa_cons (pe_fld (pv 0) rfl) pa_nil)) rfl))))))), ?_⟩
  -- pointers, text
  refine ⟨_, rfl, pa, ps, rfl, hs, nm0, fun pt H1 s1 hpt => ⟨_, rfl, o, D, dx, _, rfl, s1 _ _ ho, DC.cl, DC.n_pointers, lt _ (by decide), ?_⟩⟩
  refine ⟨_, rfl, _, rfl, o, D, dx, _, rfl, upd_same, DC.cl, DC.n_text, lt _ (Nat.le_of_ble_eq_true rfl), ?_⟩
  have b1 : But o H (upd (upd H1 o (.ins D dx (putF "pointers" (.ref pt) []))) o (.ins D dx (putF "text" (.str (CF.textOf fs)) (putF "pointers" (.ref pt) [])))) := ((But.of s1).trans (But.upd (o := .ins D dx (putF "pointers" (.ref pt) [])) _)).trans (But.upd (o := .ins D dx (putF "text" (.str (CF.textOf fs)) (putF "pointers" (.ref pt) []))) _)
  have hp1 : SqT K (upd (upd H1 o (.ins D dx (putF "pointers" (.ref pt) []))) o (.ins D dx (putF "text" (.str (CF.textOf fs)) (putF "pointers" (.ref pt) [])))) pt (ps.map V.str) := ((But.upd (o := .ins D dx (putF "pointers" (.ref pt) [])) (p := o) H1).trans (But.upd (o := .ins D dx (putF "text" (.str (CF.textOf fs)) (putF "pointers" (.ref pt) []))) _)).tupI (s1 _ _ ho) hpt
  have ho1 : (upd (upd H1 o (.ins D dx (putF "pointers" (.ref pt) []))) o (.ins D dx (putF "text" (.str (CF.textOf fs)) (putF "pointers" (.ref pt) [])))) o = some (.ins D dx [("pointers", .ref pt), ("text", .str (CF.textOf fs))]) := upd_same
  generalize (upd (upd H1 o (.ins D dx (putF "pointers" (.ref pt) []))) o (.ins D dx (putF "text" (.str (CF.textOf fs)) (putF "pointers" (.ref pt) [])))) = H2 at b1 hp1 ho1 ⊢
  -- lines
  refine ⟨_, rfl, fs.map CF.FD.text, rfl, fun z hz => ?_, ?_, fun r H3 hr s3 h3 => ?_⟩
  · obtain ⟨g, hg, rfl⟩ := List.mem_map.mp hz
    exact CF.FD.line_ok hn (ok g hg)
  · have := CF.text_fit (fun z hz => (hn z hz).hi) ok (by omega)
    unfold CF.textOf at this
    omega
  refine ⟨r, _, rfl, .inl ⟨SqL.of h3, fun ln hln => ⟨_, rfl, o, D, dx, _, rfl, (s3.trans (Same.new hln)) _ _ ho1, DC.cl, DC.n_lines, lt _ (Nat.le_of_ble_eq_true rfl), ?_⟩⟩⟩
  have s4 : Same H2 (upd H3 ln (.tup ((fs.map CF.FD.text).map V.str))) := s3.trans (Same.new hln)
  have U1 : But o (upd H3 ln (.tup ((fs.map CF.FD.text).map V.str))) (upd (upd H3 ln (.tup ((fs.map CF.FD.text).map V.str))) o (.ins D dx (putF "lines" (.ref ln) [("pointers", .ref pt), ("text", .str (CF.textOf fs))]))) := But.upd (o := (.ins D dx (putF "lines" (.ref ln) [("pointers", .ref pt), ("text", .str (CF.textOf fs))]))) _
  have b2 : But o H (upd (upd H3 ln (.tup ((fs.map CF.FD.text).map V.str))) o (.ins D dx (putF "lines" (.ref ln) [("pointers", .ref pt), ("text", .str (CF.textOf fs))]))) := (b1.trans (But.of s4)).trans U1
  have hp2 : SqT K (upd (upd H3 ln (.tup ((fs.map CF.FD.text).map V.str))) o (.ins D dx (putF "lines" (.ref ln) [("pointers", .ref pt), ("text", .str (CF.textOf fs))]))) pt (ps.map V.str) := U1.tupI (s4 _ _ ho1) (s4.tup hp1)
  have lo : ln ≠ o := fun z => by
    have := s3 _ _ ho1
    rw [z, this] at hln
    cases hln
  have hl2 : (upd (upd H3 ln (.tup ((fs.map CF.FD.text).map V.str))) o (.ins D dx (putF "lines" (.ref ln) [("pointers", .ref pt), ("text", .str (CF.textOf fs))]))) ln = some (.tup ((fs.map CF.FD.text).map V.str)) := (upd_ne lo).trans upd_same
  have ho2 : (upd (upd H3 ln (.tup ((fs.map CF.FD.text).map V.str))) o (.ins D dx (putF "lines" (.ref ln) [("pointers", .ref pt), ("text", .str (CF.textOf fs))]))) o = some (.ins D dx [("pointers", .ref pt), ("text", .str (CF.textOf fs)), ("lines", .ref ln)]) := upd_same
  generalize upd (upd H3 ln (.tup ((fs.map CF.FD.text).map V.str))) o (.ins D dx (putF "lines" (.ref ln) [("pointers", .ref pt), ("text", .str (CF.textOf fs))])) = H4 at b2 hp2 hl2 ho2 ⊢
  -- facts
  refine ⟨_, rfl, o, D, dx, _, .ref ln, rfl, ho2, DC.cl, DC.n_lines, rfl, _, rfl, o, D, dx, _, .ref pt, rfl, ho2, DC.cl, DC.n_pointers, rfl, ?_⟩
  refine ⟨ln, pt, ps, fs, rfl, SqT.of hl2, hp2, nm0, ok, nd, f12, fun ft os H5 s5 hft fat => ⟨_, rfl, o, D, dx, _, rfl, s5 _ _ ho2, DC.cl, DC.n_rows, lt _ (Nat.le_of_ble_eq_true rfl), ?_⟩⟩
  have ho5 := s5 _ _ ho2
  have U2 : But o H5 (upd H5 o (.ins D dx (putF "rows" (.ref ft) [("pointers", .ref pt), ("text", .str (CF.textOf fs)), ("lines", .ref ln)]))) := But.upd (o := (.ins D dx (putF "rows" (.ref ft) [("pointers", .ref pt), ("text", .str (CF.textOf fs)), ("lines", .ref ln)]))) _
  have b3 : But o H (upd H5 o (.ins D dx (putF "rows" (.ref ft) [("pointers", .ref pt), ("text", .str (CF.textOf fs)), ("lines", .ref ln)]))) := (b2.trans (But.of s5)).trans U2
  have hp3 := U2.tupI ho5 (s5.tup hp2)
  have hl3 := U2 _ _ lo (s5 _ _ hl2)
  have fo : ft ≠ o := fun z => by
    rw [z, ho5] at hft
    cases hft
  have hf3 := U2 _ _ fo hft
  have fat3 := fat.but U2 ho5 nCD
  have ho3 : (upd H5 o (.ins D dx (putF "rows" (.ref ft) [("pointers", .ref pt), ("text", .str (CF.textOf fs)), ("lines", .ref ln)]))) o = some (.ins D dx [("pointers", .ref pt), ("text", .str (CF.textOf fs)), ("lines", .ref ln), ("rows", .ref ft)]) := upd_same
  generalize upd H5 o (.ins D dx (putF "rows" (.ref ft) [("pointers", .ref pt), ("text", .str (CF.textOf fs)), ("lines", .ref ln)])) = H6 at b3 hp3 hl3 hf3 fat3 ho3 ⊢
  -- far
  refine ⟨_, rfl, o, D, dx, _, .ref ft, rfl, ho3, DC.cl, DC.n_rows, rfl, ft, os, fs, ps, rfl, SqT.of hf3, fat3, ok, by omega, fun H7 s7 => ⟨_, rfl, o, D, dx, _, rfl, s7 _ _ ho3, DC.cl, DC.n_far, lt _ (Nat.le_of_ble_eq_true rfl), ?_⟩⟩
  have ho7 := s7 _ _ ho3
  have U3 : But o H7 (upd H7 o (.ins D dx (putF "far" (.int (CF.farOf fs)) [("pointers", .ref pt), ("text", .str (CF.textOf fs)), ("lines", .ref ln), ("rows", .ref ft)]))) := But.upd (o := (.ins D dx (putF "far" (.int (CF.farOf fs)) [("pointers", .ref pt), ("text", .str (CF.textOf fs)), ("lines", .ref ln), ("rows", .ref ft)]))) _
  have b4 : But o H (upd H7 o (.ins D dx (putF "far" (.int (CF.farOf fs)) [("pointers", .ref pt), ("text", .str (CF.textOf fs)), ("lines", .ref ln), ("rows", .ref ft)]))) := (b3.trans (But.of s7)).trans U3
  have hp4 := U3.tupI ho7 (s7.tup hp3)
  have hl4 := U3 _ _ lo (s7 _ _ hl3)
  have hf4 := U3 _ _ fo (s7 _ _ hf3)
  have fat4 := (fat3.same s7).but U3 ho7 nCD
  have ho4 : (upd H7 o (.ins D dx (putF "far" (.int (CF.farOf fs)) [("pointers", .ref pt), ("text", .str (CF.textOf fs)), ("lines", .ref ln), ("rows", .ref ft)]))) o = some (.ins D dx [("pointers", .ref pt), ("text", .str (CF.textOf fs)), ("lines", .ref ln), ("rows", .ref ft), ("far", .int (CF.farOf fs))]) := upd_same
  generalize upd H7 o (.ins D dx (putF "far" (.int (CF.farOf fs)) [("pointers", .ref pt), ("text", .str (CF.textOf fs)), ("lines", .ref ln), ("rows", .ref ft)])) = H8 at b4 hp4 hl4 hf4 fat4 ho4 ⊢
  -- modulus
  refine ⟨_, rfl, o, D, dx, _, .ref ft, rfl, ho4, DC.cl, DC.n_rows, rfl, ft, os, fs, ps, rfl, SqT.of hf4, fat4, ok, by omega, fun H9 s9 => ⟨_, rfl, o, D, dx, _, rfl, s9 _ _ ho4, DC.cl, DC.n_modulus, lt _ (Nat.le_of_ble_eq_true rfl), ?_⟩⟩
  have ho9 := s9 _ _ ho4
  have U4 : But o H9 (upd H9 o (.ins D dx (cfields pt ln ft (CF.textOf fs) (CF.farOf fs) (CF.modOf fs)))) := But.upd _
  exact k pt ln ft os _ ((b4.trans (But.of s9)).trans U4) upd_same (U4.tupI ho9 (s9.tup hp4)) (U4 _ _ lo (s9 _ _ hl4)) (U4 _ _ fo (s9 _ _ hf4)) ((fat4.same s9).but U4 ho9 nCD)
end
end K05
end
section
set_option Elab.async false
set_option linter.all false
set_option maxRecDepth 100000
set_option maxHeartbeats 4000000
namespace K05
open PySem PySem.Spec PyProof.Rows L2
open PySem.W (ke_shaped_ints)
local macro_rules | `(tactic| walk_at "go") => `(tactic| first | refine ⟨_, rfl, ?_⟩ | refine .inl ⟨_, rfl, ?_⟩ | refine ⟨_, _, rfl, rfl, (by first | (show (0 : Int) < _; decide) | exact Or.inl ⟨by decide, by decide⟩ | exact Or.inr ⟨by decide, by decide⟩), ?_⟩ | refine ⟨_, _, rfl, rfl, ?_⟩)
section
variable {P : Program} {w : World} {K : PySem.W.Frag} {mg : Str → Option Value} {base : Heap}

abbrev s_Contract___iter__ : Stmt := inClass (topS 38) 9
theorem sc_Contract___iter__ : FnScope ["self"] ["self"] (defScope s_Contract___iter__) := ⟨rfl, rfl, rfl, by decide +kernel, rfl, by decide +kernel, by decide +kernel⟩
theorem contract_iter {D f : Addr} {fd : FuncData} (f_iter : mg "iter" = none) (DC : ContractC K D) (F : FunD K "__iter__" "Contract.__iter__" (defArgs s_Contract___iter__) (defBody s_Contract___iter__) (defScope s_Contract___iter__) [] [] f fd) : IterRun P w K mg base 1 D f "lines" := by
  intro A outer s H o a dx fs xs hr e0 ho hl hq
  refine fun_once (k := 0) (us := [.ref o]) (vs := [.ref o]) F sc_Contract___iter__ rfl (fun cdv hr2 => ?_) hr e0 (FunD.bindsA (ps := ["self"]) F (fun _ _ _ _ _ _ us hl => match us, hl with | [_], _ => rfl) _ [_] rfl) (.cons rfl .nil)
  refine ⟨_, PSs.nox (pss_one (ps_ret (pe_callB call_iterTN (by rfl) f_iter (by decide +kernel) (pa_cons (pe_fld (pv 0) rfl) pa_nil)))), ?_⟩
  refine ⟨_, rfl, o, D, dx, fs, .ref a, rfl, ho, DC.cl, DC.n_lines, hl, a, xs, rfl, hq, fun it h0 hn => ?_⟩
  exact ⟨it, rfl, h0, hn, rfl⟩
end
end K05
end
section
set_option Elab.async false
set_option linter.all false
set_option maxRecDepth 100000
set_option maxHeartbeats 4000000
/-! dict(list of pairs) with tuples as keys -/
namespace DT
open PySem PySem.Spec PyProof.Rows L2
section
variable {X : Cx}
/-- e.1 the key, e.2.1 where it stands, e.2.2 the value -/
theorem pairs_tup {pins : List (Addr × Obj)} {σ : L2.St} {H : Hp} {s : Shared} (I : Inv X pins σ H s) : ∀ {ps : List Addr} {es : List (List L2.Key × Addr × V)}, Paired (fun p e => H p = some (.tup [.ref e.2.1, e.2.2]) ∧ H e.2.1 = some (.tup (e.1.map kV))) ps es →
    ∃ prs : List (List L2.Key × Addr × Value), Paired (fun (p : List L2.Key × V) (q : List L2.Key × Addr × Value) => p.1 = q.1 ∧ H q.2.1 = some (.tup (p.1.map kV)) ∧ RelV p.2 q.2.2) (es.map fun e => (e.1, e.2.2)) prs ∧ prs.map (·.1) = es.map (·.1) ∧
      Paired (fun p q => IsTup s.heap p #[.ref q.2.1, q.2.2] ∧ H q.2.1 = some (.tup (q.1.map kV))) ps prs
  | _, _, .nil => ⟨[], .nil, rfl, .nil⟩
  | _, _, .cons (a := p) (b := e) h t => by
    obtain ⟨prs, r1, r2, r3⟩ := pairs_tup I t
    obtain ⟨its, rv, ht, _⟩ := I.tuple (SqT.of h.1)
    obtain ⟨u, y, ei, ru, ry⟩ := vals2 rv
    subst ei
    cases ru
    exact ⟨(e.1, e.2.1, y) :: prs, .cons ⟨rfl, h.2, ry⟩ r1, by rw [List.map_cons, List.map_cons, r2], .cons ⟨ht, h.2⟩ r3⟩
theorem paired_get {α β : Type} {R : α → β → Prop} {xs : List α} {ys : List β} (h : Paired R xs ys) : xs.length = ys.length ∧ ∀ (i : Nat) (y : β), ys[i]? = some y → ∃ x, xs[i]? = some x ∧ R x y := by
  induction h with
  | nil => exact ⟨rfl, fun i y e => by simp at e⟩
  | cons h t ih =>
    refine ⟨by simp [ih.1], fun i y e => ?_⟩
    cases i with
    | zero => simp at e; subst e; exact ⟨_, by simp, h⟩
    | succ i =>
      obtain ⟨x, hx, r⟩ := ih.2 i y (by simpa using e)
      exact ⟨x, by simpa using hx, r⟩
/-- dict(xs) -/
theorem call_dictT (hcalm : X.calm = true) (hu : X.A.in1.in1.units < cLine) : CallR X (.type "dict") (fun xs H Q => ∃ (a : Addr) (ps : List Addr) (es : List (List L2.Key × Addr × V)), xs = [.ref a] ∧ SqL X.K H a (ps.map V.ref) ∧ Paired (fun p e => H p = some (.tup [.ref e.2.1, e.2.2]) ∧ H e.2.1 = some (.tup (e.1.map kV))) ps es ∧ (es.map (·.1)).Nodup ∧
    ∀ p, H p = none → Q (.ref p) (upd H p (.dT (es.map fun e => (e.1, e.2.2))))) := by
  intro pins s σ H xs us Q I r q
  obtain ⟨a, ps, es, ex, hq, hp, nd, q⟩ := q
  subst ex
  obtain ⟨u, eu, rx⟩ := vals1 r
  subst eu
  cases rx
  obtain ⟨its, rv, pl, hz⟩ := I.list hq
  have ei := refs_at rv
  subst ei
  rw [List.length_map] at hz
  obtain ⟨prs, kt, keys, tups⟩ := pairs_tup I hp
  obtain ⟨len, get⟩ := paired_get tups
  obtain ⟨o, n, ho, hc, hd, hdat⟩ := pl
  have isK : ∀ x ∈ prs, (tupleKind (mixKind X.prog X.w)).is s.heap x.1 x.2.1 := fun x hx => by
    obtain ⟨i, hi⟩ := List.mem_iff_getElem?.mp hx
    obtain ⟨p, _, _, h2⟩ := get i x hi
    exact key_of I.hok h2
  have items : PairItems s.heap (ps.map Value.ref).toArray (fun j => (ps[j]?).getD 0) (prs.map fun x => (Value.ref x.2.1, x.2.2)) := by
    refine ⟨by simp [len], fun j k v hj => ?_⟩
    rw [List.getElem?_map] at hj
    obtain ⟨x, hx, e⟩ := Option.map_eq_some_iff.mp hj
    cases e
    obtain ⟨p, hp1, hp2, _⟩ := get j x hx
    refine ⟨by simp [hp1], .inl ?_⟩
    show s.heap.IsTuple ((ps[j]?).getD 0) _
    rw [hp1]
    exact hp2
  refine call_dict_pairsH (knd := tupleKind (mixKind X.prog X.w)) (ps := prs) (PairArg.list a (ps.map Value.ref).toArray (fun j => (ps[j]?).getD 0) (prs.map fun x => (Value.ref x.2.1, x.2.2))) (I.ok.hd hcalm) hu ⟨⟨o, n, ho, hc, hd, hdat⟩, items⟩ ⟨by simp, fun i key v hr => ?_⟩ (fun h' hk x hx => ?_) (by rw [List.length_map, ← len]; exact hz) fun h' tk hd' k => ?_
  · have hr' : (prs.map fun x => (Value.ref x.2.1, x.2.2))[i]? = some (key, v) := hr
    rw [List.getElem?_map] at hr'
    obtain ⟨x, hx, e⟩ := Option.map_eq_some_iff.mp hr'
    cases e
    exact ⟨x.1, x.2.1, hx, rfl⟩
  · exact PySem.tupleKind_stays.stays (fun b o vs n e _ => hk b o (Nat.ne_of_lt (Heap.lt_size e)) (by simp) e) (isK x hx)
  · have hm : (s.heap.objs.size == sysModules) = false := beq_eq_false_iff_ne.mpr (Nat.ne_of_gt I.big)
    rw [storedAllH_nil_of_nodup prs (by rw [keys]; exact nd)] at hd'
    have hlen : (es.map fun e => (e.1, e.2.2)).length ≤ sizeLine := by
      have := congrArg List.length keys
      rw [List.length_map, List.length_map] at this
      rw [List.length_map, ← this, ← len]
      exact hz
    obtain ⟨o', es', ep', h1, h2, h3, h4, _, h5⟩ := hd'
    have fr := I.hok.fresh (a := s.heap.objs.size) (Nat.le_refl _)
    have kt' : Paired (fun (p : List L2.Key × V) (q : List L2.Key × Addr × Value) => p.1 = q.1 ∧ upd H s.heap.objs.size (.dT (es.map fun e => (e.1, e.2.2))) q.2.1 = some (.tup (p.1.map kV)) ∧ RelV p.2 q.2.2) (es.map fun e => (e.1, e.2.2)) prs :=
      Paired.mapP kt fun _ _ z => ⟨z.1, (upd_ne (ne_of_none z.2.1 fr)).trans z.2.1, z.2.2⟩
    exact ⟨.ref s.heap.objs.size, upd H s.heap.objs.size (.dT (es.map fun e => (e.1, e.2.2))), I.laid (t' := tk) (fun b o e => k b o (by simp) e) (Nat.le_refl _) (show ObjOk X.prog X.w _ _ _ (.dT _) from ⟨hlen, hm, prs, kt', o', es', ep', h1, h2, h3, h4, h5⟩), rfl, q _ fr⟩
end
end DT
end
section
set_option Elab.async false
set_option linter.all false
set_option maxRecDepth 100000
set_option maxHeartbeats 4000000
namespace L2
open PySem PySem.Spec PyProof.Rows
/-! len(o) and list(o) of an own object whose __len__ and __iter__ speak of a tuple that it keeps -/
def LenRun (P : Program) (w : World) (K : PySem.W.Frag) (mg : Str → Option Value) (base : Heap) (k : Nat) (C fL : Addr) (fld : Str) : Prop :=
  ∀ (A : Around) (outer : List Env) (s : Shared) (H : Hp) (o a dx : Addr) (fs : List (Str × V)) (xs : List V), Room k A → Env0 P w K mg base A outer s H → H o = some (.ins C dx fs) → fs.lookup fld = some (.ref a) → SqT K H a xs →
    codeAny (model P w) A (.call (.ref fL) ⟨[.ref o], []⟩) (CR CX0 outer P w H s (fun v H' => v = .int (xs.length : Nat) ∧ H' = H) (fun _ _ _ => False)) s
section
variable {X : Cx} {pins : List (Addr × Obj)} {σ : St} {H : Hp} {s : Shared} {C fL fI o a dx : Addr} {k : Nat} {fld : Str} {fs : List (Str × V)} {xs : List V} {A1 : Around}
theorem env0_at {n : Nat} (sb : Sub X n A1) (I : Inv X pins σ H s) : Env0 X.prog X.w X.K X.mg X.base A1 X.stack s H := by
  have e := I.env0
  exact ⟨by rw [sb.fr]; exact e.frames, e.mod, e.bs, e.bsz, e.funs, e.frf, e.hok, e.bare⟩
theorem len_own_at {Q : Value → Shared → Prop} {E : Value → Shared → Prop} (lC : PySem.W.findIn X.K (.ref C) "__len__" = some (some (.ref fL))) (fF : PySem.W.isFn X.K (.ref fL) = true)
    (LR : LenRun X.prog X.w X.K X.mg X.base k C fL fld) (sb : Sub X k A1.in1) (I : Inv X pins σ H s) (ho : H o = some (.ins C dx fs)) (hl : fs.lookup fld = some (.ref a)) (hq : SqT X.K H a xs) (hz : xs.length ≤ sizeLine)
    (h : ∀ s' t, Inv X pins σ H s' → Q (.int (xs.length : Nat) t) s') : wpAny (model X.prog X.w) A1 (call (.builtin "len") [.ref o]) Q E s := by
  obtain ⟨ox, od, inst⟩ := inst_at I.hok ho
  obtain ⟨m, fr⟩ := I.fr
  rw [sizeLine_eq] at hz
  refine PySem.W.len_K fr I.ok.mod.kin inst lC fF (wpAny_call (codeAny_mono (LR A1.in1 X.stack s H o a dx fs xs sb.room (env0_at sb I) ho hl hq) fun r s' z => ?_))
  cases r with
  | error er => exact z.elim
  | ok fl =>
    cases fl with
    | next => exact z.elim
    | brk => exact z.elim
    | cont => exact z.elim
    | ret u =>
      obtain ⟨v, H', J, rv, rfl, rfl⟩ := I.after z
      obtain ⟨t, rfl⟩ := rv
      exact ⟨⟨by omega, by omega⟩, h _ _ (J.tok _)⟩

/-- len(o) -/
def rLenOwn (K : PySem.W.Frag) (C : Addr) (fld : Str) : List V → Hp → VK → Prop := fun ys H Q => ∃ (o a dx : Addr) (fs : List (Str × V)) (xs : List V), ys = [.ref o] ∧ H o = some (.ins C dx fs) ∧ fs.lookup fld = some (.ref a) ∧ SqT K H a xs ∧ Q (.int (xs.length : Nat)) H
theorem call_lenOwn (lC : PySem.W.findIn X.K (.ref C) "__len__" = some (some (.ref fL))) (fF : PySem.W.isFn X.K (.ref fL) = true) (LR : LenRun X.prog X.w X.K X.mg X.base k C fL fld) (hr : Room (k + 1) X.A) : CallR X (.builtin "len") (rLenOwn X.K C fld) := by
  intro pins s σ H xs us Q I r h
  obtain ⟨o, a, dx, fs, ys, rfl, ho, hl, hq, q⟩ := h
  obtain ⟨u, rfl, ru⟩ := vals1 r
  obtain rfl : u = Value.ref o := ru
  obtain ⟨its, rv, p, hz⟩ := I.tuple hq
  have sb : Sub X k X.A.in1 := Sub.in1 (⟨hr, rfl⟩ : Sub X (k + 1) X.A)
  exact len_own_at lC fF LR sb I ho hl hq hz fun s' t J => ⟨.int (ys.length : Nat), H, J, ⟨t, rfl⟩, q⟩
/-- a tuple's iterator poured into a list -/
theorem tup_loop {Rs : Result → Shared → Prop} {it S : Addr} {its : List Value} (hh : A1.in1.handled = none) (rv : Vals xs its) (hz : xs.length ≤ sizeLine)
    (hdone : ∀ s', Inv X pins σ (upd H S (.lst xs)) s' → Rs (.ok (.ret .none)) s') :
    ∀ (n i : Nat) (s : Shared), xs.length - i = n → i ≤ xs.length → Inv X pins σ (upd H S (.lst (xs.take i))) s → s.heap.IsTupleIter it a i → s.heap.IsTuple a its.toArray → a ≠ it → S ≠ it → a ≠ S → FpOk X pins (upd H S (.lst (xs.take i))) it →
      codeAny (model X.prog X.w) A1 (.builtin "list.extend.loop" ⟨[.ref S, .ref it, .none], []⟩) Rs s := by
  have len := rv.length
  intro n
  induction n with
  | zero =>
    intro i s hk hi I hit ht nat nsi nas f
    have hin : i = xs.length := by omega
    refine codeAny_builtin PySem.F.entry_extend_loop ?_
    rw [Around.under_plainId PySem.F.plain_extend_loop _]
    show wpAny _ A1.in1 (pyNext (.ref it) >>= _) _ _ s
    refine wpAny_bind (wpAny_pyNext_tuple_end hh hit ht (by simp only [List.size_toArray, Array.getElem?_eq_none_iff]; omega) fun h' he => ?_)
    have J := I.turnedL (t' := s.toks) (ch := [it]) (fun b o hb e => he b o (fun z => hb (by rw [z]; exact List.mem_singleton.mpr rfl)) e) (fun b hb => by rw [List.mem_singleton.mp hb]; exact f)
    rw [hin, List.take_length] at J
    exact wpAny_pure (hdone _ J)
  | succ n ih =>
    intro i s hk hi I hit ht nat nsi nas f
    have hlt : i < its.length := by omega
    have hu : its[i]? = some its[i] := List.getElem?_eq_getElem hlt
    refine codeAny_builtin PySem.F.entry_extend_loop ?_
    rw [Around.under_plainId PySem.F.plain_extend_loop _]
    show wpAny _ A1.in1 (pyNext (.ref it) >>= _) _ _ s
    refine wpAny_bind (wpAny_pyNext_tuple_item hit ht (x := its[i]) (by rw [List.getElem?_toArray]; exact hu) fun h' hit' sb => ?_)
    have J := I.turnedL (t' := s.toks) (ch := [it]) (fun b o hb e => sb.extBut b o (fun z => hb (by rw [z]; exact List.mem_singleton.mpr rfl)) e) (fun b hb => by rw [List.mem_singleton.mp hb]; exact f)
    obtain ⟨z, its', c, r2, hl2, e⟩ := J.lstM upd_same
    show wpAny _ A1.in1 (updateSeq S (·.push its[i]) >>= _) _ _ _
    have hx : xs[i]? = some xs[i] := List.getElem?_eq_getElem (by omega)
    have tk : xs.take (i + 1) = xs.take i ++ [xs[i]] := by rw [List.take_add_one, hx]; rfl
    have tl : (xs.take i).length = i := by rw [List.length_take]; omega
    have J2 := J.lset (f := (·.push its[i])) (its' := its' ++ [its[i]]) (ys := xs.take (i + 1)) (t' := s.toks) upd_same e (by simp) (by rw [tk]; exact r2.append (.cons (by obtain ⟨u, e1, e2⟩ := rv.get hx; rw [hu] at e1; cases e1; exact e2) .nil)) (by rw [List.length_take]; omega)
    rw [upd_upd] at J2
    have ht' : h'.IsTuple a its.toArray := Heap.IsTuple.extBut ht sb.extBut nat
    refine wpAny_bind (wpAny_updateSeq e rfl (wpAny_pure ⟨plainId_quiet PySem.F.plain_extend_loop _, ?_⟩) (by rw [List.size_toArray]; omega) (by show (its'.toArray.push its[i]).size ≤ sizeLine + 1; rw [Array.size_push, List.size_toArray]; omega))
    have oth : ∀ b o, b ≠ S → h'.get? b = some o → (h'.update S (Obj.mapSeq (·.push its[i]))).get? b = some o := fun b o hb q => (Heap.get?_update_other _ _ (Ne.symm hb)).trans q
    refine ih (i + 1) _ (by omega) (by omega) J2 (hit'.at fun o q => oth it o (Ne.symm nsi) q) (ht'.at fun o q => oth a o nas q) nat nsi nas ⟨?_, f.2⟩
    have := f.1
    rw [upd_ne (Ne.symm nsi)] at this ⊢
    exact this
/-- what is said of the length -/
theorem hint_own {Q : Bool → Shared → Prop} {E : Value → Shared → Prop} (lC : PySem.W.findIn X.K (.ref C) "__len__" = some (some (.ref fL))) (fF : PySem.W.isFn X.K (.ref fL) = true)
    (LR : LenRun X.prog X.w X.K X.mg X.base k C fL fld) (sb : Sub X k A1.in1) (I : Inv X pins σ H s) (ho : H o = some (.ins C dx fs)) (hl : fs.lookup fld = some (.ref a)) (hq : SqT X.K H a xs) (hz : xs.length ≤ sizeLine)
    (h : ∀ s' b, Inv X pins σ H s' → Q b s') : wpAny (model X.prog X.w) A1 (Builtin.List.listLengthHint (.ref o)) Q E s := by
  obtain ⟨ox, od, inst⟩ := inst_at I.hok ho
  unfold Builtin.List.listLengthHint
  refine wpAny_bind (wpAny_bind (inst.type.here ((PySem.W.looks_findIn I.kIn lC).here ?_)))
  refine PySem.W.KFB.if_not rfl ?_
  refine wpAny_ite_true rfl ?_
  refine wpAny_bind (wpAny_rule ?_)
  refine wpAny_bind (wpAny_attempt (len_own_at lC fF LR sb I ho hl hq hz fun s' t J => ?_))
  refine wpAny_bind (m := asInt? _) (wpAny_pure ?_)
  have hz2 : (((xs.length : Nat) : Int)).toNat = xs.length := Int.toNat_natCast _
  have htl : Builtin.List.listTooLong (((xs.length : Nat) : Int)).toNat = false := by rw [hz2]; exact notLongL hz
  exact wpAny_ite_split (fun hab => absurd hab (by rw [htl]; decide)) (fun _ => wpAny_pure (h _ _ J))
theorem sqT_up {K : PySem.W.Frag} {q : Addr} {u : HO} (hq : H q = none ∨ ∃ ys, H q = some (.lst ys)) (h : SqT K H a xs) : SqT K (upd H q u) a xs := by
  rcases h with (h | ⟨v, h⟩) | h
  · exact .inl (.inl (by rw [upd_ne (fun z => by rw [z] at h; rcases hq with e | ⟨ys, e⟩ <;> rw [e] at h <;> cases h)]; exact h))
  · exact .inl (.inr ⟨v, by rw [upd_ne (fun z => by rw [z] at h; rcases hq with e | ⟨ys, e⟩ <;> rw [e] at h <;> cases h)]; exact h⟩)
  · exact .inr h
/-- list(o) -/
def rListOwn (K : PySem.W.Frag) (C : Addr) (fld : Str) : List V → Hp → VK → Prop := fun ys H Q => ∃ (o a dx : Addr) (fs : List (Str × V)) (xs : List V), ys = [.ref o] ∧ H o = some (.ins C dx fs) ∧ fs.lookup fld = some (.ref a) ∧ SqT K H a xs ∧ ∀ q, H q = none → Q (.ref q) (upd H q (.lst xs))
theorem call_listOwnT (lC : PySem.W.findIn X.K (.ref C) "__len__" = some (some (.ref fL))) (lF : PySem.W.isFn X.K (.ref fL) = true) (LR : LenRun X.prog X.w X.K X.mg X.base k C fL fld)
    (iC : PySem.W.findIn X.K (.ref C) "__iter__" = some (some (.ref fI))) (iF : PySem.W.isFn X.K (.ref fI) = true) (IR : IterRun X.prog X.w X.K X.mg X.base k C fI fld) (hc : X.calm = true) (hr : Room (k + 3) X.A) : CallR X (.type "list") (rListOwn X.K C fld) := by
  intro pins s σ H xs us Q I rv h
  obtain ⟨o, a, dx, fs, ys, rfl, ha, hl, hq, q⟩ := h
  obtain ⟨u, rfl, ru⟩ := rv.one
  cases ru
  have sb1 : Sub X (k + 1) X.A.in1.in1 := (Sub.in1 (Sub.in1 (⟨hr, rfl⟩ : Sub X (k + 3) X.A)))
  have hh : X.A.handled = none := I.ok.hd hc
  refine callType_codes (Q₁ := fun obj s₁ => obj = .ref s.heap.objs.size ∧ s₁ = { s with heap := s.heap.push { cls := .type "list", data := .seq #[] } }) PySem.F.called_list (PySem.F.typeCall_list_1 _) PySem.F.entry_list_init
    (code_list_new _ ⟨rfl, rfl⟩) fun obj s₁ h₁ => ?_
  obtain ⟨rfl, rfl⟩ := h₁
  have hS : (s.heap.push { cls := .type "list", data := .seq #[] }).get? s.heap.objs.size = some { cls := .type "list", data := .seq #[] } := Heap.get?_push_size _ rfl
  refine ⟨⟨_, hS, rfl⟩, PySem.F.args_list_init_2 _ _, ?_⟩
  have fr : H s.heap.objs.size = none := I.hok.fresh (Nat.le_refl _)
  have I1 : Inv X pins σ (upd H s.heap.objs.size (.lst [])) { s with heap := s.heap.push { cls := .type "list", data := .seq #[] } } := I.lnew (its := []) (t' := s.toks) .nil (Nat.zero_le _)
  have qf := q _ fr
  have hq1 := sqT_up (u := .lst []) (.inl fr) hq
  have ha1 : upd H s.heap.objs.size (.lst []) o = some (.ins C dx fs) := by rw [upd_ne (ne_of_none ha fr)]; exact ha
  show wpAny _ _ (do let old ← Builtin.List.listItems (.ref s.heap.objs.size); Builtin.List.listUpdate (.ref s.heap.objs.size) (fun _ => #[]); letGo old.toList.reverse; Builtin.List.listExtendWith (.ref s.heap.objs.size) (.ref o) .none) _ _ _
  refine wpAny_bind ?_
  unfold Builtin.List.listItems
  refine wpAny_bind (wpAny_seqItems hS rfl (wpAny_pure ?_))
  show wpAny _ _ (updateSeq s.heap.objs.size (fun _ => #[]) >>= fun _ => letGo (#[] : Array Value).toList.reverse >>= fun _ => Builtin.List.listExtendWith (.ref s.heap.objs.size) (.ref o) .none) _ _ _
  refine wpAny_bind (wpAny_updateSeq hS rfl ?_)
  have I2 := I1.lset (f := fun _ => #[]) (its := []) (its' := []) (ys := []) (t' := s.toks) upd_same hS rfl .nil (Nat.zero_le _)
  rw [upd_upd] at I2
  refine wpAny_bind (wpAny_letGo ?_)
  generalize hS0 : s.heap.objs.size = S at *
  generalize hs2 : ({ heap := (s.heap.push { cls := Value.type "list", data := Data.seq #[] }).update S (Obj.mapSeq fun _ => #[]), gens := s.gens, drawn := s.drawn, toks := s.toks, os := s.os } : Shared) = s2 at I2 ⊢
  obtain ⟨ox, od, inst⟩ := inst_at I2.hok ha1
  obtain ⟨m0, hF⟩ := I2.fr
  have hne : S ≠ o := fun z => by rw [z] at fr; rw [fr] at ha; cases ha
  unfold Builtin.List.listExtendWith
  refine wpAny_bind (inst.type.here ?_)
  have h1 : Builtin.List.listSameRef (.ref S) (.ref o) = false := by simp [Builtin.List.listSameRef, hne]
  have h2 : (Value.ref C == Value.type "list") = false := rfl
  have h3 : (Value.ref C == Value.type "tuple") = false := rfl
  simp only [h1, h2, h3, Bool.or_false, Bool.false_eq_true, if_false]
  refine wpAny_bind (PySem.W.owit_iter hF I2.ok.mod.kin inst iC iF (wpAny_call (codeAny_mono (IR X.A.in1.in1 X.stack s2 _ o a dx fs ys (sb1.room.mono (Nat.le_succ _)) (env0_at sb1 I2) ha1 hl hq1) fun r s' z => ?_)))
  cases r with
  | error er => exact z.elim
  | ok fl =>
    cases fl with
    | next => exact z.elim
    | brk => exact z.elim
    | cont => exact z.elim
    | ret u =>
      obtain ⟨v, H', J, rv, it, rfl, hit, sz, rfl⟩ := I2.after z
      obtain rfl : u = Value.ref it := rv
      have here : upd (upd H S (.lst [])) it (ItT a it 0) it = some (ItT a it 0) := upd_same
      have hobj := (J.hok _ _ here)
      have hget : s'.heap.get? it = some { cls := .type "tuple_iterator", data := .fields #[.ref a, .int (0 : Nat) 0] } := hobj.1
      have isIt : s'.heap.IsTupleIter it a 0 := ⟨_, hget, rfl, rfl⟩
      have hSit : S ≠ it := fun z => by
        rw [← z, upd_same] at hit
        cases hit
      refine wpAny_specialOf (r := some (.builtin "tuple_iterator.__next__")) isIt.typeIs ?_ ?_
      · exact F.slot_tuple_iterator_next.lookup
      have hq2 := sqT_up (u := ItT a it 0) (.inl hit) hq1
      have ito : it ≠ o := fun z => by rw [z, ha1] at hit; cases hit
      have ha2 : upd (upd H S (.lst [])) it (ItT a it 0) o = some (.ins C dx fs) := by rw [upd_ne (Ne.symm ito)]; exact ha1
      obtain ⟨_, _, _, hz⟩ := J.tuple hq2
      refine wpAny_bind (wpAny_holding (hint_own lC lF LR sb1.in1 J ha2 hl hq2 hz fun s3 b J3 => ?_))
      have hobj3 := (J3.hok _ _ here)
      have hget3 : s3.heap.get? it = some { cls := .type "tuple_iterator", data := .fields #[.ref a, .int (0 : Nat) 0] } := hobj3.1
      have isIt3 : s3.heap.IsTupleIter it a 0 := ⟨_, hget3, rfl, rfl⟩
      have J4 := ItX.inv_drop J3 here
      have fp4 := ItX.inv_fp J3 here (Nat.le_trans I2.sz sz)
      rw [ItX.dropH_upd hit] at J4 fp4
      obtain ⟨its, rvs, tupI, _⟩ := J4.tuple hq1
      have nait : a ≠ it := fun e => by
        obtain ⟨ob, hob, hcl, _⟩ := tupI
        rw [e, hget3] at hob
        cases hob
        exact absurd (Value.type.inj hcl) (by decide)
      have naS : a ≠ S := fun e => by
        obtain ⟨ob, hob, hcl, _⟩ := tupI
        obtain ⟨_, its', c, _, _, eS⟩ := J4.lstM upd_same
        rw [e, eS] at hob
        cases hob
        exact absurd (Value.type.inj hcl) (by decide)
      have key := tup_loop (A1 := X.A.in1) (X := X) (pins := pins) (σ := σ) (H := H) (Rs := wants (fun r s₂ => r = .none ∧ EP X pins σ Q (.ref S) s₂) X.xe) (it := it) (S := S) (a := a) hh rvs hz (fun s' I' => ⟨rfl, .ref S, _, I', rfl, qf⟩) ys.length 0
      obtain ⟨z, its4, c4, r4, hl4, e4⟩ := J4.lstM upd_same
      cases r4
      refine wpAny_ite_split (fun _ => ?_) (fun _ => wpAny_pure ⟨plainId_quiet PySem.F.plain_extend_loop _, key s3 rfl (Nat.zero_le _) J4 isIt3 tupI nait hSit naS fp4⟩)
      refine wpAny_bind (wpAny_rule ?_)
      refine wpAny_bind ?_
      show wpAny _ _ (updateSeq S (·.push .none) >>= fun _ => updateSeq S (·.pop)) _ _ _
      refine wpAny_bind (wpAny_updateSeq e4 rfl ?_)
      have K2 := J4.lset (f := (·.push Value.none)) (its' := [Value.none]) (ys := [.non]) (t' := s3.toks) upd_same e4 (by simp) (.cons rfl .nil) (by rw [List.length_singleton, sizeLine_eq]; decide)
      rw [upd_upd] at K2
      obtain ⟨z5, its5, k5, r5, hl5, e5⟩ := K2.lstM upd_same
      obtain ⟨u5, rfl, ru5⟩ := r5.one
      refine wpAny_updateSeq e5 rfl ?_ (by show 1 ≤ sizeLine; rw [sizeLine_eq]; decide) (by show 0 ≤ sizeLine + 1; exact Nat.zero_le _)
      have K3 := K2.lset (f := (·.pop)) (its := [u5]) (its' := []) (ys := []) (t' := s3.toks) upd_same e5 (by rfl) .nil (Nat.zero_le _)
      rw [upd_upd] at K3
      have o1 : ∀ (h : Heap) (f : Obj → Obj) (b : Addr) (ob : Obj), b ≠ S → h.get? b = some ob → (h.update S f).get? b = some ob := fun h f b ob hb q => (Heap.get?_update_other _ _ (Ne.symm hb)).trans q
      refine wpAny_pure ⟨plainId_quiet PySem.F.plain_extend_loop _, key _ rfl (Nat.zero_le _) K3 ?_ ?_ nait hSit naS fp4⟩
      · exact ⟨_, o1 _ _ _ _ (Ne.symm hSit) (o1 _ _ _ _ (Ne.symm hSit) hget3), rfl, rfl⟩
      · obtain ⟨ob, hob, hcl, hd⟩ := tupI
        exact ⟨ob, o1 _ _ _ _ naS (o1 _ _ _ _ naS hob), hcl, hd⟩
end
end L2
end
section
set_option Elab.async false
set_option linter.all false
set_option maxRecDepth 100000
set_option maxHeartbeats 4000000
namespace L2
open PySem PySem.Spec PyProof.Rows
theorem paired_app {α β : Type} {R : α → β → Prop} : ∀ {xs : List α} {ys : List β} {xs' : List α} {ys' : List β}, Paired R xs ys → Paired R xs' ys' → Paired R (xs ++ xs') (ys ++ ys')
  | _, _, _, _, .nil, q => q
  | _, _, _, _, .cons r t, q => .cons r (paired_app t q)
theorem paired_imp {α β : Type} {R S : α → β → Prop} (f : ∀ a b, R a b → S a b) : ∀ {xs : List α} {ys : List β}, Paired R xs ys → Paired S xs ys
  | _, _, .nil => .nil
  | _, _, .cons r t => .cons (f _ _ r) (paired_imp f t)
/-! list(zip(a, b)) of two lists -/
def PairV (H : Hp) (p : Addr) (xy : V × V) : Prop := H p = some (.tup [xy.1, xy.2])
structure ZSt (h : Heap) (z TI TO i1 i2 a b S : Addr) (i : Nat) : Prop where
  ti : IsPair h TI (.ref i1) (.ref i2)
  h1 : h.IsListIter i1 a i
  h2 : h.IsListIter i2 b i
  zz : (IsZip h z TI TO .none ∧ ∃ x y, IsPair h TO x y) ∨ ∃ T f oT, IsZipHeld h z TI TO T f ∧ h.get? T = some oT ∧ T ≠ z ∧ T ≠ i1 ∧ T ≠ i2 ∧ T ≠ S
theorem ZSt.up {h h' : Heap} {z TI TO i1 i2 a b S : Addr} {i : Nat} (st : ZSt h z TI TO i1 i2 a b S i) (k : ∀ c o, c ≠ S → h.get? c = some o → h'.get? c = some o) (nz : z ≠ S) (nTI : TI ≠ S) (nTO : TO ≠ S) (n1 : i1 ≠ S) (n2 : i2 ≠ S) : ZSt h' z TI TO i1 i2 a b S i := by
  obtain ⟨ti, h1, h2, zz⟩ := st
  refine ⟨k _ _ nTI ti, h1.at fun o e => k _ o n1 e, h2.at fun o e => k _ o n2 e, ?_⟩
  rcases zz with ⟨hz, x, y, hTO⟩ | ⟨T, f, oT, hz, hT, r1, r2, r3, r4⟩
  · exact .inl ⟨k _ _ nz hz, x, y, k _ _ nTO hTO⟩
  · exact .inr ⟨T, f, oT, k _ _ nz hz, k _ _ r4 hT, r1, r2, r3, r4⟩
section
variable {prog : Program} {w : World} {A : Around} {E : Value → Shared → Prop} {s : Shared}
theorem zst_next {z TI TO i1 i2 a b S : Addr} {i : Nat} {xs ys : Array Value} {x y : Value} {Q : Option Value → Shared → Prop} (D : ZipApart z TI TO i1 i2 a b) (st : ZSt s.heap z TI TO i1 i2 a b S i)
    (hl1 : s.heap.IsList a xs) (hl2 : s.heap.IsList b ys) (hx : xs[i]? = some x) (hy : ys[i]? = some y) (hS : S < s.heap.objs.size)
    (hQ : ∀ h', ZSt h' z TI TO i1 i2 a b S (i + 1) → IsPair h' s.heap.objs.size x y → (∀ c o, c ∉ [z, TI, TO, i1, i2] → s.heap.get? c = some o → h'.get? c = some o) → Q (some (.ref s.heap.objs.size)) { s with heap := h' }) :
    wpAny (model prog w) A (pyNext (.ref z)) Q E s := by
  obtain ⟨ti, h1, h2, zz⟩ := st
  have lt : ∀ {c o}, s.heap.get? c = some o → s.heap.objs.size ≠ c := fun e => Nat.ne_of_gt (Heap.lt_size e)
  have n1 : s.heap.objs.size ≠ i1 := let ⟨_, e, _⟩ := h1; lt e
  have n2 : s.heap.objs.size ≠ i2 := let ⟨_, e, _⟩ := h2; lt e
  rcases zz with ⟨hz, x0, y0, hTO⟩ | ⟨T, f, oT, hz, hT, r1, r2, r3, r4⟩
  · refine wpAny_pyNext_zip_item D hz ti hTO h1 h2 hl1 hl2 hx hy fun h' a1 a2 a3 a4 a5 a6 hk => hQ h' ⟨hk _ _ D.TIz D.TITO D.TIi1 D.TIi2 ti, a3, a4, .inr ⟨s.heap.objs.size, false, _, a1, a5, lt hz, n1, n2, Nat.ne_of_gt hS⟩⟩ a5 fun c o hc e => hk c o (fun q => hc (by simp [q])) (fun q => hc (by simp [q])) (fun q => hc (by simp [q])) (fun q => hc (by simp [q])) e
  · refine wpAny_pyNext_zip_item_held D hz hT ti h1 h2 hl1 hl2 hx hy fun h' a1 a3 a4 a5 a6 hk => hQ h' ⟨hk _ _ D.TIz D.TIi1 D.TIi2 ti, a3, a4, .inr ⟨T, true, oT, a1, hk _ _ r1 r2 r3 hT, r1, r2, r3, r4⟩⟩ a5 fun c o hc e => hk c o (fun q => hc (by simp [q])) (fun q => hc (by simp [q])) (fun q => hc (by simp [q])) e
theorem zst_end {z TI TO i1 i2 a b S : Addr} {i : Nat} {xs ys : Array Value} {Q : Option Value → Shared → Prop} (hh : A.handled = none) (D : ZipApart z TI TO i1 i2 a b) (st : ZSt s.heap z TI TO i1 i2 a b S i)
    (hl1 : s.heap.IsList a xs) (hl2 : s.heap.IsList b ys) (hend : xs[i]? = none ∨ ys[i]? = none)
    (hQ : ∀ h', (∀ c o, c ∉ [z, TI, TO, i1, i2] → s.heap.get? c = some o → h'.get? c = some o) → Q none { s with heap := h' }) :
    wpAny (model prog w) A (pyNext (.ref z)) Q E s := by
  obtain ⟨ti, h1, h2, zz⟩ := st
  rcases zz with ⟨hz, x0, y0, hTO⟩ | ⟨T, f, oT, hz, hT, r1, r2, r3, r4⟩
  · exact wpAny_pyNext_zip_end hh D hz ti hTO h1 h2 hl1 hl2 hend fun h' hk => hQ h' fun c o hc e => hk c o (fun q => hc (by simp [q])) (fun q => hc (by simp [q])) (fun q => hc (by simp [q])) (fun q => hc (by simp [q])) e
  · exact wpAny_pyNext_zip_end_held hh D hz hT ti h1 h2 hl1 hl2 hend fun h' hk => hQ h' fun c o hc e => hk c o (fun q => hc (by simp [q])) (fun q => hc (by simp [q])) (fun q => hc (by simp [q])) e
end
theorem nolen_zip : typeLookup (.type "zip") "__len__" = pure none := by rw [typeLookup_type, builtinLookup_eq_fast]; kernel_rfl
theorem nohint_zip : typeLookup (.type "zip") "__length_hint__" = pure none := by rw [typeLookup_type, builtinLookup_eq_fast]; kernel_rfl
section
variable {X : Cx} {pins : List (Addr × Obj)} {σ : St} {H : Hp} {s : Shared} {A1 : Around} {z TI TO i1 i2 a b S : Addr} {xs ys : List V}
theorem fp_at {H H' : Hp} {c : Addr} (f : FpOk X pins H c) (h : H' c = none) : FpOk X pins H' c := ⟨h, f.2⟩
theorem zip_at {xs ys : List V} {i : Nat} {x y : V} (h1 : xs[i]? = some x) (h2 : ys[i]? = some y) : (xs.zip ys).take (i + 1) = (xs.zip ys).take i ++ [(x, y)] := by
  rw [List.take_add_one]
  congr 1
  rw [show (xs.zip ys)[i]? = some (x, y) from List.getElem?_zip_eq_some.mpr ⟨h1, h2⟩]
  rfl
theorem zip_loop {Rs : Result → Shared → Prop} (hh : A1.in1.handled = none) (D : ZipApart z TI TO i1 i2 a b) (hf : ∀ c ∈ [z, TI, TO, i1, i2], FpOk X pins H c) (hS : ∀ c ∈ [z, TI, TO, i1, i2], c < S) (hSn : H S = none) (hx : SqL X.K H a xs) (hy : SqL X.K H b ys)
    (hdone : ∀ s' Hn ps, Inv X pins σ Hn s' → Hn S = some (.lst (ps.map V.ref)) → Paired (PairV Hn) ps (xs.zip ys) → Same H Hn → Rs (.ok (.ret .none)) s') :
    ∀ (n i : Nat) (s : Shared) (Hi : Hp) (ps : List Addr), (xs.zip ys).length - i = n → i ≤ (xs.zip ys).length → Inv X pins σ Hi s → Hi S = some (.lst (ps.map V.ref)) → Paired (PairV Hi) ps ((xs.zip ys).take i) → Same H Hi →
      (∀ c ∈ [z, TI, TO, i1, i2], Hi c = none) → ZSt s.heap z TI TO i1 i2 a b S i → codeAny (model X.prog X.w) A1 (.builtin "list.extend.loop" ⟨[.ref S, .ref z, .none], []⟩) Rs s := by
  intro n
  induction n with
  | zero =>
    intro i s Hi ps hk hi I hl pr sm fr st
    have hin : i = (xs.zip ys).length := by omega
    obtain ⟨its, rv, p, _⟩ := I.list (sm.seq hx)
    obtain ⟨its2, rv2, p2, _⟩ := I.list (sm.seq hy)
    have l1 := rv.length
    have l2 := rv2.length
    refine codeAny_builtin PySem.F.entry_extend_loop ?_
    rw [Around.under_plainId PySem.F.plain_extend_loop _]
    show wpAny _ A1.in1 (pyNext (.ref z) >>= _) _ _ s
    refine wpAny_bind (zst_end hh D st p.isList p2.isList ?_ fun h' he => ?_)
    · rw [List.length_zip] at hin
      rcases Nat.le_total xs.length ys.length with h | h
      · exact .inl (by simp only [List.getElem?_toArray, List.getElem?_eq_none_iff]; omega)
      · exact .inr (by simp only [List.getElem?_toArray, List.getElem?_eq_none_iff]; omega)
    have J := I.turnedL (t' := s.toks) (ch := [z, TI, TO, i1, i2]) he fun c hc => fp_at (hf c hc) (fr c hc)
    rw [hin, List.take_length] at pr
    exact wpAny_pure (hdone _ _ ps J hl pr sm)
  | succ n ih =>
    intro i s Hi ps hk hi I hl pr sm fr st
    have hlt : i < (xs.zip ys).length := by omega
    rw [List.length_zip] at hlt
    obtain ⟨its, rv, p, _⟩ := I.list (sm.seq hx)
    obtain ⟨its2, rv2, p2, _⟩ := I.list (sm.seq hy)
    have ex : xs[i]? = some xs[i] := List.getElem?_eq_getElem (by omega)
    have ey : ys[i]? = some ys[i] := List.getElem?_eq_getElem (by omega)
    obtain ⟨u, hu, ru⟩ := rv.get ex
    obtain ⟨u2, hu2, ru2⟩ := rv2.get ey
    refine codeAny_builtin PySem.F.entry_extend_loop ?_
    rw [Around.under_plainId PySem.F.plain_extend_loop _]
    show wpAny _ A1.in1 (pyNext (.ref z) >>= _) _ _ s
    obtain ⟨_, its0, c0, r0, _, e0⟩ := I.lstM hl
    have hSl : S < s.heap.objs.size := Heap.lt_size e0
    refine wpAny_bind (zst_next D st p.isList p2.isList (x := u) (y := u2) (by simpa using hu) (by simpa using hu2) hSl fun h' st' hT he => ?_)
    have new : ObjOk X.prog X.w (upd Hi s.heap.objs.size (.tup [xs[i], ys[i]])) h' s.heap.objs.size (.tup [xs[i], ys[i]]) :=
      ⟨by show 2 ≤ sizeLine; decide, [u, u2], .cons ru (.cons ru2 .nil), ⟨_, hT, rfl, _, rfl⟩⟩
    have J := I.turnedNew (t' := s.toks) (ch := [z, TI, TO, i1, i2]) he (fun c hc => fp_at (hf c hc) (fr c hc)) (Nat.le_refl _) new
    have hTn : Hi s.heap.objs.size = none := I.hok.fresh (Nat.le_refl _)
    have sT : Same Hi (upd Hi s.heap.objs.size (.tup [xs[i], ys[i]])) := Same.new hTn
    have hl2 := sT _ _ hl
    obtain ⟨z9, its', c, r2, hl3, e⟩ := J.lstM hl2
    show wpAny _ A1.in1 (updateSeq S (·.push (.ref s.heap.objs.size)) >>= _) _ _ _
    have lp : ps.length ≤ i := by
      have := pr.length
      rw [List.length_take] at this
      omega
    have lxs : xs.length ≤ sizeLine := by
      obtain ⟨_, _, _, h⟩ := I.list (sm.seq hx)
      exact h
    have J2 := J.lset (f := (·.push (.ref s.heap.objs.size))) (its' := its' ++ [.ref s.heap.objs.size]) (ys := (ps ++ [s.heap.objs.size]).map V.ref) (t' := s.toks) hl2 e (by simp) (by rw [List.map_append]; exact r2.append (.cons rfl .nil)) (by rw [List.length_map, List.length_append, List.length_singleton]; omega)
    refine wpAny_bind (wpAny_updateSeq e rfl (wpAny_pure ⟨plainId_quiet PySem.F.plain_extend_loop _, ?_⟩) (by rw [List.size_toArray, ← hl3, List.length_map]; omega) (by show (its'.toArray.push _).size ≤ sizeLine + 1; rw [Array.size_push, List.size_toArray, ← hl3, List.length_map]; omega))
    have oth : ∀ b o, b ≠ S → h'.get? b = some o → (h'.update S (Obj.mapSeq (·.push (.ref s.heap.objs.size)))).get? b = some o := fun b o hb q => (Heap.get?_update_other _ _ (Ne.symm hb)).trans q
    have nS : ∀ c ∈ [z, TI, TO, i1, i2], c ≠ S := fun c hc => Nat.ne_of_lt (hS c hc)
    refine ih (i + 1) _ (upd (upd Hi s.heap.objs.size (.tup [xs[i], ys[i]])) S (.lst ((ps ++ [s.heap.objs.size]).map V.ref))) (ps ++ [s.heap.objs.size]) (by omega) (by rw [List.length_zip]; omega) J2 upd_same ?_ ((sm.trans sT).put hSn) (fun c hc => ?_) (st'.up oth (nS z (by simp)) (nS TI (by simp)) (nS TO (by simp)) (nS i1 (by simp)) (nS i2 (by simp)))
    · rw [zip_at ex ey]
      have nTS : s.heap.objs.size ≠ S := Nat.ne_of_gt hSl
      refine paired_app (paired_imp (fun p xy h => ?_) pr) (.cons ((upd_ne nTS).trans upd_same) .nil)
      have h' := sT _ _ h
      exact (upd_ne (fun q => by have h5 : Hi p = some (.tup [xy.1, xy.2]) := h; rw [q, hl] at h5; cases h5)).trans h'
    · have h1 := fr c hc
      have nT : c ≠ s.heap.objs.size := Nat.ne_of_lt (Nat.lt_trans (hS c hc) hSl)
      rw [upd_ne (nS c hc), upd_ne nT]
      exact h1

/-- list(zip(a, b)) -/
def tListZip (K : PySem.W.Frag) (ta : TA) : TE := fun σ H Q => ta σ H fun vs H1 => ∃ (a b : Addr) (xs ys : List V), vs = [.ref a, .ref b] ∧ SqL K H1 a xs ∧ SqL K H1 b ys ∧
  ∀ (l : Addr) (ps : List Addr) (H' : Hp), H1 l = none → Same H1 H' → H' l = some (.lst (ps.map V.ref)) → Paired (PairV H') ps (xs.zip ys) → Q (.ref l) H'
theorem pe_listZip {e e2 : Expr} {ta : TA} {p pos p2 pos2 : Pos} {nm nz : Str} (hc : X.calm = true) (hg : Gl X nm) (hm : X.mg nm = none) (hv : bootBuiltins nm = some (.type "list")) (hg2 : Gl X nz) (hm2 : X.mg nz = none) (hv2 : bootBuiltins nz = some (.type "zip")) (ha : PA X [e, e2] ta)
    (hnm : nm ≠ "__name__" := by decide) (hdb : (nm == ("__debug__" : Str)) = false := by decide) (hnz : nz ≠ "__name__" := by decide) (hdz : (nz == ("__debug__" : Str)) = false := by decide)
    (hs : starEach [.Call (.Name nz p2) [e, e2] [] pos2] X.env = [(false, eval (.Call (.Name nz p2) [e, e2] [] pos2) X.env)] := by rfl)
    (hs2 : starEach [e, e2] X.env = (false, eval e X.env) :: starEach [e2] X.env := by rfl) (hpl : (backTo pos2 (starEach [e2] X.env)).any (·.1) = false := by rfl) :
    PE X (.Call (.Name nm p) [.Call (.Name nz p2) [e, e2] [] pos2] [] pos) (tListZip X.K ta) := by
  refine ⟨fun pins s σ H Q I h => ?_⟩
  refine Call_ (ld_blt I hg hm hv ?_ hnm hdb)
  refine PyProof.Rows.callWith_type1 ?_ hs rfl
  rw [hs]
  show wpAny _ _ (spliced ((false, eval (.Call (.Name nz p2) [e, e2] [] pos2) X.env) :: backTo pos [])) _ _ s
  refine Calls.spliced_cons ?_
  refine Call_ (ld_blt I hg2 hm2 hv2 (PyProof.Rows.callWith_type1 (thn (ha.run pos2 pins s σ H _ I h) fun us s1 ⟨vs, H1, I1, r1, q1⟩ => ?_) hs2 hpl) hnz hdz)
  obtain ⟨a, b, xs, ys, ex, hqx, hqy, q⟩ := q1
  subst ex
  cases r1 with
  | cons r rr =>
  cases rr with
  | cons r' rr =>
  cases rr
  cases r
  cases r'
  obtain ⟨its, rv, p1, _⟩ := I1.list hqx
  obtain ⟨its2, rv2, p2, _⟩ := I1.list hqy
  have la : a < s1.heap.objs.size := p1.lt
  have lb : b < s1.heap.objs.size := p2.lt
  have hh : X.A.handled = none := I1.ok.hd hc
  refine call_zip_2 p1.isList p2.isList fun h' hz hTI hTO h1 h2 hsz hk => ?_
  have D := PySem.W.ktu_apart s1.heap.objs.size a b la lb
  have I2 : Inv X pins σ H1 { s1 with heap := h' } := I1.kept (t' := s1.toks) hk
  have hf2 : ∀ c ∈ [s1.heap.objs.size + 4, s1.heap.objs.size + 2, s1.heap.objs.size + 3, s1.heap.objs.size, s1.heap.objs.size + 1], FpOk X pins H1 c := fun c hcm => by
    have e' : c = s1.heap.objs.size + 4 ∨ c = s1.heap.objs.size + 2 ∨ c = s1.heap.objs.size + 3 ∨ c = s1.heap.objs.size ∨ c = s1.heap.objs.size + 1 := by simpa using hcm
    have hle : s1.heap.objs.size ≤ c := by
      rcases e' with z | z | z | z | z
      · rw [z]; exact Nat.le_add_right _ _
      · rw [z]; exact Nat.le_add_right _ _
      · rw [z]; exact Nat.le_add_right _ _
      · rw [z]; exact Nat.le_refl _
      · rw [z]; exact Nat.le_add_right _ _
    exact I1.fpOk hle (I1.hok.fresh hle)
  have lt2 : ∀ c ∈ [s1.heap.objs.size + 4, s1.heap.objs.size + 2, s1.heap.objs.size + 3, s1.heap.objs.size, s1.heap.objs.size + 1], c < h'.objs.size := fun c hcm => by
    simp only [List.mem_cons, List.not_mem_nil, or_false] at hcm
    rcases hcm with z | z | z | z | z
    · rw [z]; exact Heap.lt_size hz
    · rw [z]; exact Heap.lt_size hTI
    · rw [z]; exact Heap.lt_size hTO
    · rw [z]; obtain ⟨_, e1, _⟩ := h1; exact Heap.lt_size e1
    · rw [z]; obtain ⟨_, e1, _⟩ := h2; exact Heap.lt_size e1
  generalize s1.heap.objs.size + 4 = z at *
  generalize s1.heap.objs.size + 2 = TI at *
  generalize s1.heap.objs.size + 3 = TO at *
  generalize s1.heap.objs.size + 1 = i2 at *
  generalize s1.heap.objs.size = i1 at *
  refine Calls.spliced_nil ?_
  generalize hs9 : ({ s1 with heap := h' } : Shared) = s2 at I2 ⊢
  obtain rfl : h' = s2.heap := by rw [← hs9]
  refine callType_codes (Q₁ := fun obj s₁ => obj = .ref s2.heap.objs.size ∧ s₁ = { s2 with heap := s2.heap.push { cls := .type "list", data := .seq #[] } }) PySem.F.called_list (PySem.F.typeCall_list_1 _) PySem.F.entry_list_init
    (code_list_new _ ⟨rfl, rfl⟩) fun obj s₁ h₁ => ?_
  obtain ⟨rfl, rfl⟩ := h₁
  have hS : (s2.heap.push { cls := .type "list", data := .seq #[] }).get? s2.heap.objs.size = some { cls := .type "list", data := .seq #[] } := Heap.get?_push_size _ rfl
  refine ⟨⟨_, hS, rfl⟩, PySem.F.args_list_init_2 _ _, ?_⟩
  have fr : H1 s2.heap.objs.size = none := I2.hok.fresh (Nat.le_refl _)
  have J1 : Inv X pins σ (upd H1 s2.heap.objs.size (.lst [])) { s2 with heap := s2.heap.push { cls := .type "list", data := .seq #[] } } := I2.lnew (its := []) (t' := s2.toks) .nil (Nat.zero_le _)
  show wpAny _ _ (do let old ← Builtin.List.listItems (.ref s2.heap.objs.size); Builtin.List.listUpdate (.ref s2.heap.objs.size) (fun _ => #[]); letGo old.toList.reverse; Builtin.List.listExtendWith (.ref s2.heap.objs.size) (.ref z) .none) _ _ _
  refine wpAny_bind ?_
  unfold Builtin.List.listItems
  refine wpAny_bind (wpAny_seqItems hS rfl (wpAny_pure ?_))
  show wpAny _ _ (updateSeq s2.heap.objs.size (fun _ => #[]) >>= fun _ => letGo (#[] : Array Value).toList.reverse >>= fun _ => Builtin.List.listExtendWith (.ref s2.heap.objs.size) (.ref z) .none) _ _ _
  refine wpAny_bind (wpAny_updateSeq hS rfl ?_)
  have J2 := J1.lset (f := fun _ => #[]) (its := []) (its' := []) (ys := []) (t' := s2.toks) upd_same hS rfl .nil (Nat.zero_le _)
  rw [upd_upd] at J2
  have hS2 := Heap.get?_update_self (Obj.mapSeq (fun _ => (#[] : Array Value))) hS rfl
  refine wpAny_bind (wpAny_letGo ?_)
  unfold Builtin.List.listExtendWith
  have up : ∀ (h : Heap) (f : Obj → Obj), (∀ b o, s2.heap.get? b = some o → h.get? b = some o) → ∀ b o, s2.heap.get? b = some o → (h.update s2.heap.objs.size f).get? b = some o := fun h f q b o e =>
    (Heap.get?_update_other _ _ (Ne.symm (Nat.ne_of_lt (Heap.lt_size e)))).trans (q b o e)
  have k1 : ∀ b o, s2.heap.get? b = some o → (s2.heap.push { cls := .type "list", data := .seq #[] }).get? b = some o := fun b o e => Heap.get?_push_of_some _ e
  have k2 := up _ (Obj.mapSeq (fun _ => (#[] : Array Value))) k1
  have hzS : s2.heap.objs.size ≠ z := Nat.ne_of_gt (Heap.lt_size hz)
  have zty : ∀ {h : Heap}, (∀ b o, s2.heap.get? b = some o → h.get? b = some o) → ({ s2 with heap := h } : Shared).TypeIs (.ref z) "zip" := fun {h} q => ⟨_, q _ _ hz, rfl⟩
  refine wpAny_bind (wpAny_typeOf (s := { s2 with heap := _ }) (zty k2) ?_)
  have g1 : Builtin.List.listSameRef (.ref s2.heap.objs.size) (.ref z) = false := by simp [Builtin.List.listSameRef, hzS]
  have g2 : (Value.type "zip" == Value.type "list") = false := by decide
  have g3 : (Value.type "zip" == Value.type "tuple") = false := by decide
  simp only [g1, g2, g3, Bool.or_false, Bool.false_eq_true, if_false]
  refine wpAny_bind (wpAny_pyIter_zip (s := { s2 with heap := _ }) (k2 _ _ hz) ?_)
  refine wpAny_bind (wpAny_holding ?_)
  unfold Builtin.List.listLengthHint
  refine wpAny_bind (wpAny_specialOf (s := { s2 with heap := _ }) (zty k2) nolen_zip ?_)
  show wpAny _ _ (specialOf (Value.ref z) (Str.ofString "__length_hint__") >>= _) _ _ _
  refine wpAny_bind (wpAny_specialOf (s := { s2 with heap := _ }) (zty k2) nohint_zip ?_)
  refine wpAny_pure ?_
  have hf3 : ∀ c ∈ [z, TI, TO, i1, i2], FpOk X pins H1 c := hf2
  have nS : ∀ c ∈ [z, TI, TO, i1, i2], c ≠ s2.heap.objs.size := fun c hc => Nat.ne_of_lt (lt2 c hc)
  have st : ∀ {h : Heap}, (∀ b o, s2.heap.get? b = some o → h.get? b = some o) → ZSt h z TI TO i1 i2 a b s2.heap.objs.size 0 := fun {h} k => ⟨k _ _ hTI, h1.at fun o e => k _ o e, h2.at fun o e => k _ o e, .inl ⟨k _ _ hz, _, _, k _ _ hTO⟩⟩
  have key := zip_loop (A1 := X.A.in1) (X := X) (pins := pins) (σ := σ) (H := H1) (Rs := wants (fun r s₂ => r = .none ∧ EP X pins σ Q (.ref s2.heap.objs.size) s₂) X.xe) hh D hf3 lt2 fr hqx hqy (fun s' Hn ps I' e1 e2 e3 => ⟨rfl, .ref s2.heap.objs.size, _, I', rfl, q _ ps _ fr e3 e1 e2⟩) (xs.zip ys).length 0
  show wpAny _ _ (rule "list.extend.makes-room" >>= fun _ => Builtin.List.listTouch (.ref s2.heap.objs.size) >>= fun _ =>
    again (.builtin "list.extend.loop" ⟨[.ref s2.heap.objs.size, .ref z, .none], []⟩)) _ _ _
  refine wpAny_bind (wpAny_rule ?_)
  refine wpAny_bind ?_
  show wpAny _ _ (updateSeq s2.heap.objs.size (·.push .none) >>= fun _ => updateSeq s2.heap.objs.size (·.pop)) _ _ _
  refine wpAny_bind (wpAny_updateSeq hS2 rfl ?_)
  have J3 := J2.lset (f := (·.push Value.none)) (its := []) (its' := [Value.none]) (ys := [.non]) (t' := s2.toks) upd_same hS2 (by rfl) (.cons rfl .nil) (by rw [List.length_singleton, sizeLine_eq]; decide)
  rw [upd_upd] at J3
  have hS3 := Heap.get?_update_self (Obj.mapSeq (·.push Value.none)) hS2 rfl
  refine wpAny_updateSeq (hz := by seq_fits) hS3 rfl ?_
  have J4 := J3.lset (f := (·.pop)) (its := [Value.none]) (its' := []) (ys := []) (t' := s2.toks) upd_same hS3 (by rfl) .nil (Nat.zero_le _)
  rw [upd_upd] at J4
  refine wpAny_pure ⟨plainId_quiet PySem.F.plain_extend_loop _, key _ _ [] rfl (Nat.zero_le _) J4 upd_same .nil (Same.new fr) (fun c hc => ?_) (st (up _ _ (up _ _ k2)))⟩
  rw [upd_ne (nS c hc)]
  exact (hf3 c hc).1
end
end L2
end
section
set_option Elab.async false
set_option linter.all false
set_option maxRecDepth 100000
set_option maxHeartbeats 4000000
/-! list(zip(a, b)) of a list and a tuple -/
namespace ZLT
open PySem PySem.Spec PyProof.Rows L2

structure ZSt (h : Heap) (z TI TO i1 i2 a b S : Addr) (i : Nat) : Prop where
  ti : IsPair h TI (.ref i1) (.ref i2)
  h1 : h.IsListIter i1 a i
  h2 : h.IsTupleIter i2 b i
  zz : (IsZip h z TI TO .none ∧ ∃ x y, IsPair h TO x y) ∨ ∃ T f oT, IsZipHeld h z TI TO T f ∧ h.get? T = some oT ∧ T ≠ z ∧ T ≠ i1 ∧ T ≠ i2 ∧ T ≠ S
theorem ZSt.up {h h' : Heap} {z TI TO i1 i2 a b S : Addr} {i : Nat} (st : ZSt h z TI TO i1 i2 a b S i) (k : ∀ c o, c ≠ S → h.get? c = some o → h'.get? c = some o) (nz : z ≠ S) (nTI : TI ≠ S) (nTO : TO ≠ S) (n1 : i1 ≠ S) (n2 : i2 ≠ S) : ZSt h' z TI TO i1 i2 a b S i := by
  obtain ⟨ti, h1, h2, zz⟩ := st
  refine ⟨k _ _ nTI ti, h1.at fun o e => k _ o n1 e, h2.at fun o e => k _ o n2 e, ?_⟩
  rcases zz with ⟨hz, x, y, hTO⟩ | ⟨T, f, oT, hz, hT, r1, r2, r3, r4⟩
  · exact .inl ⟨k _ _ nz hz, x, y, k _ _ nTO hTO⟩
  · exact .inr ⟨T, f, oT, k _ _ nz hz, k _ _ r4 hT, r1, r2, r3, r4⟩
section
variable {prog : Program} {w : World} {A : Around} {E : Value → Shared → Prop} {s : Shared}
theorem sep_of {z TI TO i1 i2 a b : Addr} (D : ZipApart z TI TO i1 i2 a b) (h1 : i1 ≠ b) (h2 : i2 ≠ a) (h3 : b ≠ z) (h4 : b ≠ TO) : ZipSep2 z TI TO i1 i2 [i1, a] [i2, b] where
  TIz := D.TIz
  TOz := D.TOz
  TITO := D.TITO
  TIi1 := D.TIi1
  mem1 := by simp
  zf1 := by have := D.i1z; have := D.l1z; simp; exact ⟨Ne.symm D.i1z, Ne.symm D.l1z⟩
  Tf1 := by simp; exact ⟨D.TOi1, Ne.symm D.l1TO⟩
  TIi2 := D.TIi2
  mem2 := by simp
  zf2 := by simp; exact ⟨Ne.symm D.i2z, Ne.symm h3⟩
  Tf2 := by simp; exact ⟨D.TOi2, Ne.symm h4⟩
  sep1_2 := by simp; exact ⟨D.i12, h1⟩
  sep2_1 := by simp; exact ⟨Ne.symm D.i12, h2⟩
/-- the zip's next item, where the last one is still held -/
theorem held_item {z TI TO T i1 i2 a b : Addr} {f : Bool} {oT : Obj} {i : Nat} {xs ys : Array Value} {x y : Value} {Q : Value → Shared → Prop} (S : ZipSep2 z TI TO i1 i2 [i1, a] [i2, b])
    (hz : IsZipHeld s.heap z TI TO T f) (hT : s.heap.get? T = some oT) (hTI : IsPair s.heap TI (.ref i1) (.ref i2)) (h1 : s.heap.IsListIter i1 a i) (h2 : s.heap.IsTupleIter i2 b i) (l1 : s.heap.IsList a xs) (l2 : s.heap.IsTuple b ys) (hx : xs[i]? = some x) (hy : ys[i]? = some y)
    (hQ : ∀ h', IsZipHeld h' z TI TO T true → h'.IsListIter i1 a (i + 1) → h'.IsTupleIter i2 b (i + 1) → IsPair h' s.heap.objs.size x y → (∀ c o, c ≠ z → c ≠ i1 → c ≠ i2 → s.heap.get? c = some o → h'.get? c = some o) → Q (.ref s.heap.objs.size) { s with heap := h' }) :
    wpAny (model prog w) A (Builtin.«zip.__next__» ⟨[.ref z], []⟩) (fun fin s' => ∃ v, fin = .done (.ret v) ∧ Q v s') E s := by
  have z1 : i1 ≠ z := fun e => S.zf1 (by simp [e])
  have z2 : i2 ≠ z := fun e => S.zf2 (by simp [e])
  have az : a ≠ z := fun e => S.zf1 (by simp [e])
  have bz : b ≠ z := fun e => S.zf2 (by simp [e])
  have n12 : i1 ≠ i2 := fun e => S.sep1_2 (by simp [e])
  have bi1 : b ≠ i1 := fun e => S.sep1_2 (by simp [e])
  show wpAny _ _ (field (.ref z) 2 >>= _) _ _ _
  refine wpAny_bind (wpAny_field hz rfl (x := .bool false) rfl ?_)
  show wpAny _ _ (field (.ref z) 3 >>= _) _ _ _
  refine wpAny_bind (wpAny_field hz rfl (x := .ref TI) rfl (wpAny_bind (wpAny_seqItems hTI rfl ?_)))
  show wpAny _ _ (Builtin.SmallTypes.ownedTupleIsFree (.ref z) >>= _) _ _ _
  refine wpAny_bind (wpAny_tupleHeld_zip hz hT fun ha za ka => ?_)
  simp only [Bool.false_eq_true, if_false]
  refine wpAny_bind ?_
  rw [← Array.forIn_toList]
  simp only [List.forIn_cons, List.forIn_nil]
  refine wpAny_bind (wpAny_bind (wpAny_holding ?_))
  show wpAny _ _ (Builtin.SmallTypes.nextOf (.ref i1) >>= _) _ _ _
  refine wpAny_bind (wpAny_nextOf_list_item (s := { s with heap := ha }) (h1.extBut ka.extBut z1) (l1.extBut ka.extBut az) hx fun hb h1b kb => wpAny_pure (wpAny_pure ?_))
  refine wpAny_bind (wpAny_bind (wpAny_holding ?_))
  show wpAny _ _ (Builtin.SmallTypes.nextOf (.ref i2) >>= _) _ _ _
  refine wpAny_bind (wpAny_nextOf_tuple_item (s := { s with heap := hb }) ((h2.extBut ka.extBut z2).extBut kb.extBut n12.symm) ((l2.extBut ka.extBut bz).extBut kb.extBut bi1) hy fun hc h2c kc => wpAny_pure (wpAny_pure (wpAny_pure ?_)))
  show wpAny _ _ (newTuple [x, y] >>= _) _ _ _
  refine wpAny_bind (wpAny_newTuple (wpAny_pure ⟨_, rfl, ?_⟩))
  have same : hc.objs.size = s.heap.objs.size := by rw [kc.1, kb.1, ka.1]
  have zc : IsZipHeld hc z TI TO T true := kc.extBut _ _ (Ne.symm z2) (kb.extBut _ _ (Ne.symm z1) za)
  have old : ∀ c o, c ≠ z → c ≠ i1 → c ≠ i2 → s.heap.get? c = some o → hc.get? c = some o := fun c o c1 c2 c3 e => kc.extBut _ _ c3 (kb.extBut _ _ c2 (ka.extBut _ _ c1 e))
  have h1c : hc.IsListIter i1 a (i + 1) := h1b.extBut kc.extBut n12
  show Q (.ref hc.objs.size) _
  have new : IsPair (hc.push { cls := .type "tuple", data := .seq #[x, y] }) hc.objs.size x y := Heap.get?_push_size _ rfl
  rw [same] at new ⊢
  exact hQ _ (Heap.get?_push_of_some _ zc) (h1c.at fun o e => Heap.get?_push_of_some _ e) (h2c.at fun o e => Heap.get?_push_of_some _ e) new fun c o c1 c2 c3 e => Heap.get?_push_of_some _ (old c o c1 c2 c3 e)
theorem held_end {z TI TO T i1 i2 a b : Addr} {f : Bool} {oT : Obj} {i : Nat} {xs ys : Array Value} {Q : PySem.Fin → Shared → Prop} (hh : A.handled = none) (S : ZipSep2 z TI TO i1 i2 [i1, a] [i2, b])
    (hz : IsZipHeld s.heap z TI TO T f) (hT : s.heap.get? T = some oT) (hTI : IsPair s.heap TI (.ref i1) (.ref i2)) (h1 : s.heap.IsListIter i1 a i) (h2 : s.heap.IsTupleIter i2 b i) (l1 : s.heap.IsList a xs) (l2 : s.heap.IsTuple b ys) (hend : xs[i]? = none ∨ ys[i]? = none)
    (hE : ∀ h' e, (∀ c o, c ≠ z → c ≠ i1 → c ≠ i2 → s.heap.get? c = some o → h'.get? c = some o) → (∃ o, h'.get? e = some o ∧ o.cls = .type "StopIteration") → E (.ref e) { s with heap := h' }) :
    wpAny (model prog w) A (Builtin.«zip.__next__» ⟨[.ref z], []⟩) Q E s := by
  have z1 : i1 ≠ z := fun e => S.zf1 (by simp [e])
  have z2 : i2 ≠ z := fun e => S.zf2 (by simp [e])
  have az : a ≠ z := fun e => S.zf1 (by simp [e])
  have bz : b ≠ z := fun e => S.zf2 (by simp [e])
  have n12 : i1 ≠ i2 := fun e => S.sep1_2 (by simp [e])
  have bi1 : b ≠ i1 := fun e => S.sep1_2 (by simp [e])
  show wpAny _ _ (field (.ref z) 2 >>= _) _ _ _
  refine wpAny_bind (wpAny_field hz rfl (x := .bool false) rfl ?_)
  show wpAny _ _ (field (.ref z) 3 >>= _) _ _ _
  refine wpAny_bind (wpAny_field hz rfl (x := .ref TI) rfl (wpAny_bind (wpAny_seqItems hTI rfl ?_)))
  show wpAny _ _ (Builtin.SmallTypes.ownedTupleIsFree (.ref z) >>= _) _ _ _
  refine wpAny_bind (wpAny_tupleHeld_zip hz hT fun ha za ka => ?_)
  simp only [Bool.false_eq_true, if_false]
  refine wpAny_bind ?_
  rw [← Array.forIn_toList]
  simp only [List.forIn_cons, List.forIn_nil]
  refine wpAny_bind (wpAny_bind (wpAny_holding ?_))
  show wpAny _ _ (Builtin.SmallTypes.nextOf (.ref i1) >>= _) _ _ _
  cases hx : xs[i]? with
  | none =>
    refine wpAny_bind (wpAny_nextOf_list_end (s := { s with heap := ha }) hh (h1.extBut ka.extBut z1) (l1.extBut ka.extBut az) hx fun hb e kb he => ?_)
    exact hE hb e (fun c o c1 c2 _ q => kb _ _ c2 (ka.extBut _ _ c1 q)) he
  | some x =>
    have hy : ys[i]? = none := hend.resolve_left (by rw [hx]; simp)
    refine wpAny_bind (wpAny_nextOf_list_item (s := { s with heap := ha }) (h1.extBut ka.extBut z1) (l1.extBut ka.extBut az) hx fun hb h1b kb => wpAny_pure (wpAny_pure ?_))
    refine wpAny_bind (wpAny_bind (wpAny_holding ?_))
    show wpAny _ _ (Builtin.SmallTypes.nextOf (.ref i2) >>= _) _ _ _
    refine wpAny_bind (wpAny_nextOf_tuple_end (s := { s with heap := hb }) hh ((h2.extBut ka.extBut z2).extBut kb.extBut n12.symm) ((l2.extBut ka.extBut bz).extBut kb.extBut bi1) hy fun hc e kc he => ?_)
    exact hE hc e (fun c o c1 c2 c3 q => kc _ _ c3 (kb.extBut _ _ c2 (ka.extBut _ _ c1 q))) he
theorem zst_next {z TI TO i1 i2 a b S : Addr} {i : Nat} {xs ys : Array Value} {x y : Value} {Q : Option Value → Shared → Prop} (hh : A.in1.handled = none) (D : ZipSep2 z TI TO i1 i2 [i1, a] [i2, b]) (st : ZSt s.heap z TI TO i1 i2 a b S i)
    (hl1 : s.heap.IsList a xs) (hl2 : s.heap.IsTuple b ys) (hx : xs[i]? = some x) (hy : ys[i]? = some y) (hS : S < s.heap.objs.size)
    (hQ : ∀ h' tk, ZSt h' z TI TO i1 i2 a b S (i + 1) → IsPair h' s.heap.objs.size x y → (∀ c o, c ∉ [z, TI, TO, i1, i2] → s.heap.get? c = some o → h'.get? c = some o) → Q (some (.ref s.heap.objs.size)) { s with heap := h', toks := tk }) :
    wpAny (model prog w) A (pyNext (.ref z)) Q E s := by
  obtain ⟨ti, h1, h2, zz⟩ := st
  have lt : ∀ {c o}, s.heap.get? c = some o → s.heap.objs.size ≠ c := fun e => Nat.ne_of_gt (Heap.lt_size e)
  have n1 : s.heap.objs.size ≠ i1 := let ⟨_, e, _⟩ := h1; lt e
  have n2 : s.heap.objs.size ≠ i2 := let ⟨_, e, _⟩ := h2; lt e
  have ai1 : a ≠ i1 := fun e => by
    obtain ⟨o, e1, c1, _⟩ := hl1
    obtain ⟨o', e2, c2, _⟩ := h1
    rw [e, e2] at e1; cases e1; rw [c2] at c1; exact absurd (Value.type.inj c1) (by decide)
  have bi2 : b ≠ i2 := fun e => by
    obtain ⟨o, e1, c1, _⟩ := hl2
    obtain ⟨o', e2, c2, _⟩ := h2
    rw [e, e2] at e1; cases e1; rw [c2] at c1; exact absurd (Value.type.inj c1) (by decide)
  rcases zz with ⟨hz, x0, y0, hTO⟩ | ⟨T, f, oT, hz, hT, r1, r2, r3, r4⟩
  · refine wpAny_pyNext_zipD2_item D (Draws.list hh i1 a ai1 xs) (Draws.tuple hh i2 b bi2 ys) hz ti hTO ⟨h1, hl1⟩ ⟨h2, hl2⟩ (Array.getElem?_eq_some_iff.mp hx).1 (Array.getElem?_eq_some_iff.mp hy).1 fun x1 x2 h' tk p1 p2 a1 a2 a3 a4 a5 a6 hk => ?_
    rw [hx] at p1; cases p1
    rw [hy] at p2; cases p2
    exact hQ h' tk ⟨hk _ _ D.TIz D.TITO D.TIi1 D.TIi2 ti, a3.1, a4.1, .inr ⟨s.heap.objs.size, false, _, a1, a5, lt hz, n1, n2, Nat.ne_of_gt hS⟩⟩ a5 fun c o hc e => hk c o (fun q => hc (by simp [q])) (fun q => hc (by simp [q])) (fun q => hc (by simp [q])) (fun q => hc (by simp [q])) e
  · have hTy : s.TypeIs (.ref z) "zip" := ⟨_, hz, rfl⟩
    unfold pyNext
    exact wpAny_bind (wpAny_attempt (wpAny_callSpecial?_slot (name := Str.ofString "__next__") hTy PySem.F.slot_zip_next (wpAny_call_entry PySem.F.slot_zip_next hTy PySem.F.entry_zip_next
      (held_item D hz hT ti h1 h2 hl1 hl2 hx hy fun h' a1 a3 a4 a5 hk => wpAny_pure (hQ h' s.toks ⟨hk _ _ D.TIz D.TIi1 D.TIi2 ti, a3, a4, .inr ⟨T, true, oT, a1, hk _ _ r1 r2 r3 hT, r1, r2, r3, r4⟩⟩ a5 fun c o hc e => hk c o (fun q => hc (by simp [q])) (fun q => hc (by simp [q])) (fun q => hc (by simp [q])) e)) (PySem.F.args_zip_next_1 _))))
theorem zst_end {z TI TO i1 i2 a b S : Addr} {i : Nat} {xs ys : Array Value} {Q : Option Value → Shared → Prop} (hh : A.in1.handled = none) (D : ZipSep2 z TI TO i1 i2 [i1, a] [i2, b]) (st : ZSt s.heap z TI TO i1 i2 a b S i)
    (hl1 : s.heap.IsList a xs) (hl2 : s.heap.IsTuple b ys) (hle1 : i ≤ xs.size) (hle2 : i ≤ ys.size) (hend : i = xs.size ∨ i = ys.size)
    (hQ : ∀ h' tk, (∀ c o, c ∉ [z, TI, TO, i1, i2] → s.heap.get? c = some o → h'.get? c = some o) → Q none { s with heap := h', toks := tk }) :
    wpAny (model prog w) A (pyNext (.ref z)) Q E s := by
  obtain ⟨ti, h1, h2, zz⟩ := st
  have ai1 : a ≠ i1 := fun e => by
    obtain ⟨o, e1, c1, _⟩ := hl1
    obtain ⟨o', e2, c2, _⟩ := h1
    rw [e, e2] at e1; cases e1; rw [c2] at c1; exact absurd (Value.type.inj c1) (by decide)
  have bi2 : b ≠ i2 := fun e => by
    obtain ⟨o, e1, c1, _⟩ := hl2
    obtain ⟨o', e2, c2, _⟩ := h2
    rw [e, e2] at e1; cases e1; rw [c2] at c1; exact absurd (Value.type.inj c1) (by decide)
  rcases zz with ⟨hz, x0, y0, hTO⟩ | ⟨T, f, oT, hz, hT, r1, r2, r3, r4⟩
  · exact wpAny_pyNext_zipD2_end D (Draws.list hh i1 a ai1 xs) (Draws.tuple hh i2 b bi2 ys) hz ti hTO ⟨h1, hl1⟩ ⟨h2, hl2⟩ hle1 hle2 hend fun h' tk hk => hQ h' tk fun c o hc e => hk c o (fun q => hc (by simp [q])) (fun q => hc (by simp [q])) (fun q => hc (by simp [q])) (fun q => hc (by simp [q])) e
  · have hTy : s.TypeIs (.ref z) "zip" := ⟨_, hz, rfl⟩
    unfold pyNext
    refine wpAny_bind (wpAny_attempt (wpAny_callSpecial?_slot (name := Str.ofString "__next__") hTy PySem.F.slot_zip_next (wpAny_call_entry PySem.F.slot_zip_next hTy PySem.F.entry_zip_next
      (held_end hh D hz hT ti h1 h2 hl1 hl2 (by rcases hend with e | e <;> simp [e]) fun h' e hk he => ?_) (PySem.F.args_zip_next_1 _))))
    obtain ⟨o, ho, hc⟩ := he
    refine wpAny_bind (wpAny_isInstance (T := "StopIteration") (b := true) ⟨o, ho, hc⟩ isSubtype_stop ?_)
    exact wpAny_pure (hQ h' s.toks fun c o hc e => hk c o (fun q => hc (by simp [q])) (fun q => hc (by simp [q])) (fun q => hc (by simp [q])) e)
end
abbrev zA (h : Heap) (l1 : Addr) : Heap := h.push { cls := .type "list_iterator", data := .fields #[.ref l1, .int 0 0] }
abbrev zB (h : Heap) (l1 l2 : Addr) : Heap := (zA h l1).push { cls := .type "tuple_iterator", data := .fields #[.ref l2, .int 0 0] }
abbrev zC (h : Heap) (l1 l2 : Addr) : Heap := (zB h l1 l2).push { cls := .type "tuple", data := .seq #[.ref h.objs.size, .ref (zA h l1).objs.size] }
abbrev zD (h : Heap) (l1 l2 : Addr) : Heap := (zC h l1 l2).push { cls := .type "tuple", data := .seq #[.none, .none] }
abbrev zE (h : Heap) (l1 l2 : Addr) : Heap := (zD h l1 l2).push { cls := .type "zip", data := .fields #[.none, .bool false, .bool false, .ref (zB h l1 l2).objs.size, .ref (zC h l1 l2).objs.size] }
theorem new_lt (a b : Addr) (us vs : Array Value) : Meets (Builtin.«zip.__new__» ⟨[.type "zip", .ref a, .ref b], []⟩) (fun _ R s => s.heap.IsList a us ∧ s.heap.IsTuple b vs ∧ R (.ok (.ret (.ref (zD s.heap a b).objs.size))) { s with heap := zE s.heap a b }) := by
  refine .of_wp fun prog w A R s h => ?_
  obtain ⟨hp, g, d, tk, os⟩ := s
  obtain ⟨e1, e2, h⟩ := h
  have sub0 := sub_zip
  have f1 : Heap.IsList (Shared.heap ⟨hp, g, d, tk, os⟩) a us := e1
  have f2 : Heap.IsTuple (Shared.heap ⟨hp.push { cls := .type "list_iterator", data := .fields #[.ref a, .int 0 0] }, g, d, tk, os⟩) b vs := Heap.IsTuple.push e2 _
  wp_walk using wpAny_pyIter_list f1, wpAny_pyIter_tuple f2
  exact ⟨_, rfl, h⟩
section
variable {prog : Program} {w : World} {A : Around} {E : Value → Shared → Prop} {s : Shared}
theorem call_lt {a b : Addr} {us vs : Array Value} {Q : Value → Shared → Prop} (e1 : s.heap.IsList a us) (e2 : s.heap.IsTuple b vs)
    (h : ∀ h', IsZip h' (s.heap.objs.size + 4) (s.heap.objs.size + 2) (s.heap.objs.size + 3) .none → IsPair h' (s.heap.objs.size + 2) (.ref s.heap.objs.size) (.ref (s.heap.objs.size + 1)) → IsPair h' (s.heap.objs.size + 3) .none .none →
      h'.IsListIter s.heap.objs.size a 0 → h'.IsTupleIter (s.heap.objs.size + 1) b 0 → (∀ c o, s.heap.get? c = some o → h'.get? c = some o) → Q (.ref (s.heap.objs.size + 4)) { s with heap := h' }) :
    wpAny (model prog w) A (call (.type "zip") [.ref a, .ref b]) Q E s := by
  have n1 : (zA s.heap a).objs.size = s.heap.objs.size + 1 := Heap.size_push ..
  have n2 : (zB s.heap a b).objs.size = s.heap.objs.size + 2 := (Heap.size_push ..).trans (by rw [n1])
  have n3 : (zC s.heap a b).objs.size = s.heap.objs.size + 3 := (Heap.size_push ..).trans (by rw [n2])
  have n4 : (zD s.heap a b).objs.size = s.heap.objs.size + 4 := (Heap.size_push ..).trans (by rw [n3])
  have up2 : ∀ {c o}, (zA s.heap a).get? c = some o → (zB s.heap a b).get? c = some o := fun e => Heap.get?_push_of_some _ e
  have up3 : ∀ {c o}, (zB s.heap a b).get? c = some o → (zC s.heap a b).get? c = some o := fun e => Heap.get?_push_of_some _ e
  have up4 : ∀ {c o}, (zC s.heap a b).get? c = some o → (zD s.heap a b).get? c = some o := fun e => Heap.get?_push_of_some _ e
  have up5 : ∀ {c o}, (zD s.heap a b).get? c = some o → (zE s.heap a b).get? c = some o := fun e => Heap.get?_push_of_some _ e
  have a1 : (zA s.heap a).get? s.heap.objs.size = some _ := Heap.get?_push_size _ rfl
  have a2 : (zB s.heap a b).get? (zA s.heap a).objs.size = some _ := Heap.get?_push_size _ rfl
  have a3 : (zC s.heap a b).get? (zB s.heap a b).objs.size = some _ := Heap.get?_push_size _ rfl
  have a4 : (zD s.heap a b).get? (zC s.heap a b).objs.size = some _ := Heap.get?_push_size _ rfl
  have a5 : (zE s.heap a b).get? (zD s.heap a b).objs.size = some _ := Heap.get?_push_size _ rfl
  rw [n1] at a2
  rw [n2, n1] at a3
  rw [n3] at a4
  rw [n4, n2, n3] at a5
  refine callType_new PySem.F.called_zip (by decide) (PySem.F.typeCall_zip_2 _ _) (PySem.F.newCall_zip_2 _ _) (fun obj => PySem.F.args_object_init_3 obj _ _) PySem.F.entry_zip_new (new_lt a b us vs) ⟨e1, e2, ?_⟩
  show _ ∧ _
  rw [n4]
  exact ⟨⟨_, a5, rfl⟩, h _ a5 (up5 (up4 a3)) (up5 a4) ⟨_, up5 (up4 (up3 (up2 a1))), rfl, rfl⟩ ⟨_, up5 (up4 (up3 a2)), rfl, rfl⟩ fun c o e => up5 (up4 (up3 (up2 (Heap.get?_push_of_some _ e))))⟩
end
section
variable {X : Cx} {pins : List (Addr × Obj)} {σ : L2.St} {H : Hp} {s : Shared} {A1 : Around} {z TI TO i1 i2 a b S : Addr} {xs ys : List V}
theorem loop_lt {Rs : Result → Shared → Prop} (hh : A1.in1.handled = none) (D : ZipSep2 z TI TO i1 i2 [i1, a] [i2, b]) (hf : ∀ c ∈ [z, TI, TO, i1, i2], FpOk X pins H c) (hS : ∀ c ∈ [z, TI, TO, i1, i2], c < S) (hSn : H S = none) (hx : SqL X.K H a xs) (hy : SqT X.K H b ys)
    (hdone : ∀ s' Hn ps, Inv X pins σ Hn s' → Hn S = some (.lst (ps.map V.ref)) → Paired (PairV Hn) ps (xs.zip ys) → Same H Hn → Rs (.ok (.ret .none)) s') :
    ∀ (n i : Nat) (s : Shared) (Hi : Hp) (ps : List Addr), (xs.zip ys).length - i = n → i ≤ (xs.zip ys).length → Inv X pins σ Hi s → Hi S = some (.lst (ps.map V.ref)) → Paired (PairV Hi) ps ((xs.zip ys).take i) → Same H Hi →
      (∀ c ∈ [z, TI, TO, i1, i2], Hi c = none) → ZSt s.heap z TI TO i1 i2 a b S i → codeAny (model X.prog X.w) A1 (.builtin "list.extend.loop" ⟨[.ref S, .ref z, .none], []⟩) Rs s := by
  intro n
  induction n with
  | zero =>
    intro i s Hi ps hk hi I hl pr sm fr st
    have hin : i = (xs.zip ys).length := by omega
    obtain ⟨its, rv, p, _⟩ := I.list (sm.seq hx)
    obtain ⟨its2, rv2, p2, _⟩ := I.tuple (hy.ext fun _ _ e => sm _ _ e)
    have l1 := rv.length
    have l2 := rv2.length
    refine codeAny_builtin PySem.F.entry_extend_loop ?_
    rw [Around.under_plainId PySem.F.plain_extend_loop _]
    show wpAny _ A1.in1 (pyNext (.ref z) >>= _) _ _ s
    rw [List.length_zip] at hin
    refine wpAny_bind (zst_end (A := A1.in1) hh D st p.isList p2 (by rw [List.size_toArray]; omega) (by rw [List.size_toArray]; omega) (by rw [List.size_toArray, List.size_toArray]; omega) fun h' tk he => ?_)
    rw [← List.length_zip] at hin
    have J := I.turnedL (t' := tk) (ch := [z, TI, TO, i1, i2]) he fun c hc => fp_at (hf c hc) (fr c hc)
    rw [hin, List.take_length] at pr
    exact wpAny_pure (hdone _ _ ps J hl pr sm)
  | succ n ih =>
    intro i s Hi ps hk hi I hl pr sm fr st
    have hlt : i < (xs.zip ys).length := by omega
    rw [List.length_zip] at hlt
    obtain ⟨its, rv, p, _⟩ := I.list (sm.seq hx)
    obtain ⟨its2, rv2, p2, _⟩ := I.tuple (hy.ext fun _ _ e => sm _ _ e)
    have ex : xs[i]? = some xs[i] := List.getElem?_eq_getElem (by omega)
    have ey : ys[i]? = some ys[i] := List.getElem?_eq_getElem (by omega)
    obtain ⟨u, hu, ru⟩ := rv.get ex
    obtain ⟨u2, hu2, ru2⟩ := rv2.get ey
    refine codeAny_builtin PySem.F.entry_extend_loop ?_
    rw [Around.under_plainId PySem.F.plain_extend_loop _]
    show wpAny _ A1.in1 (pyNext (.ref z) >>= _) _ _ s
    obtain ⟨_, its0, c0, r0, _, e0⟩ := I.lstM hl
    have hSl : S < s.heap.objs.size := Heap.lt_size e0
    refine wpAny_bind (zst_next (A := A1.in1) hh D st p.isList p2 (x := u) (y := u2) (by simpa using hu) (by simpa using hu2) hSl fun h' tk st' hT he => ?_)
    have new : ObjOk X.prog X.w (upd Hi s.heap.objs.size (.tup [xs[i], ys[i]])) h' s.heap.objs.size (.tup [xs[i], ys[i]]) :=
      ⟨by show 2 ≤ sizeLine; decide, [u, u2], .cons ru (.cons ru2 .nil), ⟨_, hT, rfl, _, rfl⟩⟩
    have J := I.turnedNew (t' := tk) (ch := [z, TI, TO, i1, i2]) he (fun c hc => fp_at (hf c hc) (fr c hc)) (Nat.le_refl _) new
    have hTn : Hi s.heap.objs.size = none := I.hok.fresh (Nat.le_refl _)
    have sT : Same Hi (upd Hi s.heap.objs.size (.tup [xs[i], ys[i]])) := Same.new hTn
    have hl2 := sT _ _ hl
    obtain ⟨z9, its', c, r2, hl3, e⟩ := J.lstM hl2
    show wpAny _ A1.in1 (updateSeq S (·.push (.ref s.heap.objs.size)) >>= _) _ _ _
    have lp : ps.length ≤ i := by
      have := pr.length
      rw [List.length_take] at this
      omega
    have lxs : xs.length ≤ sizeLine := by
      obtain ⟨_, _, _, h⟩ := I.list (sm.seq hx)
      exact h
    have J2 := J.lset (f := (·.push (.ref s.heap.objs.size))) (its' := its' ++ [.ref s.heap.objs.size]) (ys := (ps ++ [s.heap.objs.size]).map V.ref) (t' := tk) hl2 e (by simp) (by rw [List.map_append]; exact r2.append (.cons rfl .nil)) (by rw [List.length_map, List.length_append, List.length_singleton]; omega)
    refine wpAny_bind (wpAny_updateSeq e rfl (wpAny_pure ⟨plainId_quiet PySem.F.plain_extend_loop _, ?_⟩) (by rw [List.size_toArray, ← hl3, List.length_map]; omega) (by show (its'.toArray.push _).size ≤ sizeLine + 1; rw [Array.size_push, List.size_toArray, ← hl3, List.length_map]; omega))
    have oth : ∀ b o, b ≠ S → h'.get? b = some o → (h'.update S (Obj.mapSeq (·.push (.ref s.heap.objs.size)))).get? b = some o := fun b o hb q => (Heap.get?_update_other _ _ (Ne.symm hb)).trans q
    have nS : ∀ c ∈ [z, TI, TO, i1, i2], c ≠ S := fun c hc => Nat.ne_of_lt (hS c hc)
    refine ih (i + 1) _ (upd (upd Hi s.heap.objs.size (.tup [xs[i], ys[i]])) S (.lst ((ps ++ [s.heap.objs.size]).map V.ref))) (ps ++ [s.heap.objs.size]) (by omega) (by rw [List.length_zip]; omega) J2 upd_same ?_ ((sm.trans sT).put hSn) (fun c hc => ?_) (st'.up oth (nS z (by simp)) (nS TI (by simp)) (nS TO (by simp)) (nS i1 (by simp)) (nS i2 (by simp)))
    · rw [zip_at ex ey]
      have nTS : s.heap.objs.size ≠ S := Nat.ne_of_gt hSl
      refine paired_app (paired_imp (fun p xy h => ?_) pr) (.cons ((upd_ne nTS).trans upd_same) .nil)
      have h' := sT _ _ h
      exact (upd_ne (fun q => by have h5 : Hi p = some (.tup [xy.1, xy.2]) := h; rw [q, hl] at h5; cases h5)).trans h'
    · have h1 := fr c hc
      have nT : c ≠ s.heap.objs.size := Nat.ne_of_lt (Nat.lt_trans (hS c hc) hSl)
      rw [upd_ne (nS c hc), upd_ne nT]
      exact h1

/-- list(zip(a, b)), b a tuple -/
def tListZipT (K : PySem.W.Frag) (ta : TA) : TE := fun σ H Q => ta σ H fun vs H1 => ∃ (a b : Addr) (xs ys : List V), vs = [.ref a, .ref b] ∧ SqL K H1 a xs ∧ SqT K H1 b ys ∧
  ∀ (l : Addr) (ps : List Addr) (H' : Hp), H1 l = none → Same H1 H' → H' l = some (.lst (ps.map V.ref)) → Paired (PairV H') ps (xs.zip ys) → Q (.ref l) H'
theorem pe_listZipT {e e2 : Expr} {ta : TA} {p pos p2 pos2 : Pos} {nm nz : Str} (hc : X.calm = true) (hg : Gl X nm) (hm : X.mg nm = none) (hv : bootBuiltins nm = some (.type "list")) (hg2 : Gl X nz) (hm2 : X.mg nz = none) (hv2 : bootBuiltins nz = some (.type "zip")) (ha : PA X [e, e2] ta)
    (hnm : nm ≠ "__name__" := by decide) (hdb : (nm == ("__debug__" : Str)) = false := by decide) (hnz : nz ≠ "__name__" := by decide) (hdz : (nz == ("__debug__" : Str)) = false := by decide)
    (hs : starEach [.Call (.Name nz p2) [e, e2] [] pos2] X.env = [(false, eval (.Call (.Name nz p2) [e, e2] [] pos2) X.env)] := by rfl)
    (hs2 : starEach [e, e2] X.env = (false, eval e X.env) :: starEach [e2] X.env := by rfl) (hpl : (backTo pos2 (starEach [e2] X.env)).any (·.1) = false := by rfl) :
    PE X (.Call (.Name nm p) [.Call (.Name nz p2) [e, e2] [] pos2] [] pos) (tListZipT X.K ta) := by
  refine ⟨fun pins s σ H Q I h => ?_⟩
  refine Call_ (ld_blt I hg hm hv ?_ hnm hdb)
  refine PyProof.Rows.callWith_type1 ?_ hs rfl
  rw [hs]
  show wpAny _ _ (spliced ((false, eval (.Call (.Name nz p2) [e, e2] [] pos2) X.env) :: backTo pos [])) _ _ s
  refine Calls.spliced_cons ?_
  refine Call_ (ld_blt I hg2 hm2 hv2 (PyProof.Rows.callWith_type1 (thn (ha.run pos2 pins s σ H _ I h) fun us s1 ⟨vs, H1, I1, r1, q1⟩ => ?_) hs2 hpl) hnz hdz)
  obtain ⟨a, b, xs, ys, ex, hqx, hqy, q⟩ := q1
  subst ex
  cases r1 with
  | cons r rr =>
  cases rr with
  | cons r' rr =>
  cases rr
  cases r
  cases r'
  obtain ⟨its, rv, p1, _⟩ := I1.list hqx
  obtain ⟨its2, rv2, p2, _⟩ := I1.tuple hqy
  have la : a < s1.heap.objs.size := p1.lt
  have lb : b < s1.heap.objs.size := let ⟨_, e, _⟩ := p2; Heap.lt_size e
  have hh : X.A.handled = none := I1.ok.hd hc
  refine call_lt p1.isList p2 fun h' hz hTI hTO h1 h2 hk => ?_
  have D := sep_of (PySem.W.ktu_apart s1.heap.objs.size a b la lb) (Nat.ne_of_gt lb) (Nat.ne_of_gt (Nat.lt_succ_of_lt la)) (Nat.ne_of_lt (Nat.lt_of_lt_of_le lb (Nat.le_add_right _ 4))) (Nat.ne_of_lt (Nat.lt_of_lt_of_le lb (Nat.le_add_right _ 3)))
  have I2 : Inv X pins σ H1 { s1 with heap := h' } := I1.kept (t' := s1.toks) hk
  have hf2 : ∀ c ∈ [s1.heap.objs.size + 4, s1.heap.objs.size + 2, s1.heap.objs.size + 3, s1.heap.objs.size, s1.heap.objs.size + 1], FpOk X pins H1 c := fun c hcm => by
    have e' : c = s1.heap.objs.size + 4 ∨ c = s1.heap.objs.size + 2 ∨ c = s1.heap.objs.size + 3 ∨ c = s1.heap.objs.size ∨ c = s1.heap.objs.size + 1 := by simpa using hcm
    have hle : s1.heap.objs.size ≤ c := by
      rcases e' with z | z | z | z | z
      · rw [z]; exact Nat.le_add_right _ _
      · rw [z]; exact Nat.le_add_right _ _
      · rw [z]; exact Nat.le_add_right _ _
      · rw [z]; exact Nat.le_refl _
      · rw [z]; exact Nat.le_add_right _ _
    exact I1.fpOk hle (I1.hok.fresh hle)
  have lt2 : ∀ c ∈ [s1.heap.objs.size + 4, s1.heap.objs.size + 2, s1.heap.objs.size + 3, s1.heap.objs.size, s1.heap.objs.size + 1], c < h'.objs.size := fun c hcm => by
    simp only [List.mem_cons, List.not_mem_nil, or_false] at hcm
    rcases hcm with z | z | z | z | z
    · rw [z]; exact Heap.lt_size hz
    · rw [z]; exact Heap.lt_size hTI
    · rw [z]; exact Heap.lt_size hTO
    · rw [z]; obtain ⟨_, e1, _⟩ := h1; exact Heap.lt_size e1
    · rw [z]; obtain ⟨_, e1, _⟩ := h2; exact Heap.lt_size e1
  generalize s1.heap.objs.size + 4 = z at *
  generalize s1.heap.objs.size + 2 = TI at *
  generalize s1.heap.objs.size + 3 = TO at *
  generalize s1.heap.objs.size + 1 = i2 at *
  generalize s1.heap.objs.size = i1 at *
  refine Calls.spliced_nil ?_
  generalize hs9 : ({ s1 with heap := h' } : Shared) = s2 at I2 ⊢
  obtain rfl : h' = s2.heap := by rw [← hs9]
  refine callType_codes (Q₁ := fun obj s₁ => obj = .ref s2.heap.objs.size ∧ s₁ = { s2 with heap := s2.heap.push { cls := .type "list", data := .seq #[] } }) PySem.F.called_list (PySem.F.typeCall_list_1 _) PySem.F.entry_list_init
    (code_list_new _ ⟨rfl, rfl⟩) fun obj s₁ h₁ => ?_
  obtain ⟨rfl, rfl⟩ := h₁
  have hS : (s2.heap.push { cls := .type "list", data := .seq #[] }).get? s2.heap.objs.size = some { cls := .type "list", data := .seq #[] } := Heap.get?_push_size _ rfl
  refine ⟨⟨_, hS, rfl⟩, PySem.F.args_list_init_2 _ _, ?_⟩
  have fr : H1 s2.heap.objs.size = none := I2.hok.fresh (Nat.le_refl _)
  have J1 : Inv X pins σ (upd H1 s2.heap.objs.size (.lst [])) { s2 with heap := s2.heap.push { cls := .type "list", data := .seq #[] } } := I2.lnew (its := []) (t' := s2.toks) .nil (Nat.zero_le _)
  show wpAny _ _ (do let old ← Builtin.List.listItems (.ref s2.heap.objs.size); Builtin.List.listUpdate (.ref s2.heap.objs.size) (fun _ => #[]); letGo old.toList.reverse; Builtin.List.listExtendWith (.ref s2.heap.objs.size) (.ref z) .none) _ _ _
  refine wpAny_bind ?_
  unfold Builtin.List.listItems
  refine wpAny_bind (wpAny_seqItems hS rfl (wpAny_pure ?_))
  show wpAny _ _ (updateSeq s2.heap.objs.size (fun _ => #[]) >>= fun _ => letGo (#[] : Array Value).toList.reverse >>= fun _ => Builtin.List.listExtendWith (.ref s2.heap.objs.size) (.ref z) .none) _ _ _
  refine wpAny_bind (wpAny_updateSeq hS rfl ?_)
  have J2 := J1.lset (f := fun _ => #[]) (its := []) (its' := []) (ys := []) (t' := s2.toks) upd_same hS rfl .nil (Nat.zero_le _)
  rw [upd_upd] at J2
  have hS2 := Heap.get?_update_self (Obj.mapSeq (fun _ => (#[] : Array Value))) hS rfl
  refine wpAny_bind (wpAny_letGo ?_)
  unfold Builtin.List.listExtendWith
  have up : ∀ (h : Heap) (f : Obj → Obj), (∀ b o, s2.heap.get? b = some o → h.get? b = some o) → ∀ b o, s2.heap.get? b = some o → (h.update s2.heap.objs.size f).get? b = some o := fun h f q b o e =>
    (Heap.get?_update_other _ _ (Ne.symm (Nat.ne_of_lt (Heap.lt_size e)))).trans (q b o e)
  have k1 : ∀ b o, s2.heap.get? b = some o → (s2.heap.push { cls := .type "list", data := .seq #[] }).get? b = some o := fun b o e => Heap.get?_push_of_some _ e
  have k2 := up _ (Obj.mapSeq (fun _ => (#[] : Array Value))) k1
  have hzS : s2.heap.objs.size ≠ z := Nat.ne_of_gt (Heap.lt_size hz)
  have zty : ∀ {h : Heap}, (∀ b o, s2.heap.get? b = some o → h.get? b = some o) → ({ s2 with heap := h } : Shared).TypeIs (.ref z) "zip" := fun {h} q => ⟨_, q _ _ hz, rfl⟩
  refine wpAny_bind (wpAny_typeOf (s := { s2 with heap := _ }) (zty k2) ?_)
  have g1 : Builtin.List.listSameRef (.ref s2.heap.objs.size) (.ref z) = false := by simp [Builtin.List.listSameRef, hzS]
  have g2 : (Value.type "zip" == Value.type "list") = false := by decide
  have g3 : (Value.type "zip" == Value.type "tuple") = false := by decide
  simp only [g1, g2, g3, Bool.or_false, Bool.false_eq_true, if_false]
  refine wpAny_bind (wpAny_pyIter_zip (s := { s2 with heap := _ }) (k2 _ _ hz) ?_)
  refine wpAny_bind (wpAny_holding ?_)
  unfold Builtin.List.listLengthHint
  refine wpAny_bind (wpAny_specialOf (s := { s2 with heap := _ }) (zty k2) nolen_zip ?_)
  show wpAny _ _ (specialOf (Value.ref z) (Str.ofString "__length_hint__") >>= _) _ _ _
  refine wpAny_bind (wpAny_specialOf (s := { s2 with heap := _ }) (zty k2) nohint_zip ?_)
  refine wpAny_pure ?_
  have hf3 : ∀ c ∈ [z, TI, TO, i1, i2], FpOk X pins H1 c := hf2
  have nS : ∀ c ∈ [z, TI, TO, i1, i2], c ≠ s2.heap.objs.size := fun c hc => Nat.ne_of_lt (lt2 c hc)
  have st : ∀ {h : Heap}, (∀ b o, s2.heap.get? b = some o → h.get? b = some o) → ZSt h z TI TO i1 i2 a b s2.heap.objs.size 0 := fun {h} k => ⟨k _ _ hTI, h1.at fun o e => k _ o e, h2.at fun o e => k _ o e, .inl ⟨k _ _ hz, _, _, k _ _ hTO⟩⟩
  have key := loop_lt (A1 := X.A.in1) (X := X) (pins := pins) (σ := σ) (H := H1) (Rs := wants (fun r s₂ => r = .none ∧ EP X pins σ Q (.ref s2.heap.objs.size) s₂) X.xe) hh D hf3 lt2 fr hqx hqy (fun s' Hn ps I' e1 e2 e3 => ⟨rfl, .ref s2.heap.objs.size, _, I', rfl, q _ ps _ fr e3 e1 e2⟩) (xs.zip ys).length 0
  show wpAny _ _ (rule "list.extend.makes-room" >>= fun _ => Builtin.List.listTouch (.ref s2.heap.objs.size) >>= fun _ =>
    again (.builtin "list.extend.loop" ⟨[.ref s2.heap.objs.size, .ref z, .none], []⟩)) _ _ _
  refine wpAny_bind (wpAny_rule ?_)
  refine wpAny_bind ?_
  show wpAny _ _ (updateSeq s2.heap.objs.size (·.push .none) >>= fun _ => updateSeq s2.heap.objs.size (·.pop)) _ _ _
  refine wpAny_bind (wpAny_updateSeq hS2 rfl ?_)
  have J3 := J2.lset (f := (·.push Value.none)) (its := []) (its' := [Value.none]) (ys := [.non]) (t' := s2.toks) upd_same hS2 (by rfl) (.cons rfl .nil) (by rw [List.length_singleton, sizeLine_eq]; decide)
  rw [upd_upd] at J3
  have hS3 := Heap.get?_update_self (Obj.mapSeq (·.push Value.none)) hS2 rfl
  refine wpAny_updateSeq (hz := by seq_fits) hS3 rfl ?_
  have J4 := J3.lset (f := (·.pop)) (its := [Value.none]) (its' := []) (ys := []) (t' := s2.toks) upd_same hS3 (by rfl) .nil (Nat.zero_le _)
  rw [upd_upd] at J4
  refine wpAny_pure ⟨plainId_quiet PySem.F.plain_extend_loop _, key _ _ [] rfl (Nat.zero_le _) J4 upd_same .nil (Same.new fr) (fun c hc => ?_) (st (up _ _ (up _ _ k2)))⟩
  rw [upd_ne (nS c hc)]
  exact (hf3 c hc).1
end
end ZLT
end
section
set_option Elab.async false
set_option linter.all false
set_option maxRecDepth 100000
set_option maxHeartbeats 1000000
/-! the places that are enough: how they are gone through -/
namespace NM
/-- one by one -/
def lexI : List Int → List Int → Bool
  | [], [] => false
  | [], _ :: _ => true
  | _ :: _, [] => false
  | a :: r, b :: q => if a = b then lexI r q else decide (a < b)
theorem lex_irr : ∀ a : List Int, lexI a a = false
  | [] => rfl
  | a :: r => by simp [lexI, lex_irr r]
theorem lex_tr : ∀ {a b c : List Int}, lexI a b = true → lexI b c = true → lexI a c = true
  | [], [], c, h, _ => by simp [lexI] at h
  | [], b :: q, [], _, h => by simp [lexI] at h
  | [], b :: q, c :: p, _, _ => rfl
  | a :: r, [], c, h, _ => by simp [lexI] at h
  | a :: r, b :: q, [], _, h => by simp [lexI] at h
  | a :: r, b :: q, c :: p, h1, h2 => by
    simp only [lexI] at h1 h2 ⊢
    by_cases e1 : a = b
    · rw [if_pos e1] at h1
      by_cases e2 : b = c
      · rw [if_pos e2] at h2; rw [if_pos (e1.trans e2)]; exact lex_tr h1 h2
      · rw [if_neg e2] at h2; rw [if_neg (e1 ▸ e2), e1]; exact h2
    · rw [if_neg e1] at h1
      have h1 := of_decide_eq_true h1
      by_cases e2 : b = c
      · rw [if_neg (e2 ▸ e1), ← e2]; exact decide_eq_true h1
      · rw [if_neg e2] at h2
        have h2 := of_decide_eq_true h2
        rw [if_neg (by omega)]; exact decide_eq_true (by omega)
theorem lex_tot : ∀ {a b : List Int}, lexI a b = false → a ≠ b → lexI b a = true
  | [], [], _, n => absurd rfl n
  | [], b :: q, h, _ => by simp [lexI] at h
  | a :: r, [], _, _ => rfl
  | a :: r, b :: q, h, n => by
    simp only [lexI] at h ⊢
    by_cases e : a = b
    · rw [if_pos e] at h; rw [if_pos e.symm]; exact lex_tot h fun z => n (by rw [e, z])
    · rw [if_neg e] at h; have := of_decide_eq_false h; rw [if_neg (Ne.symm e)]; exact decide_eq_true (by omega)
theorem lex_asym {a b : List Int} (h : lexI a b = true) : lexI b a = false := by
  cases e : lexI b a with
  | false => rfl
  | true => have := lex_tr h e; rw [lex_irr] at this; cases this
abbrev Up (l : List (List Int)) : Prop := l.Pairwise fun a b => lexI a b = true
theorem up_uniq : ∀ {l m : List (List Int)}, Up l → Up m → (∀ z, z ∈ l ↔ z ∈ m) → l = m
  | [], m, _, _, h => by
    cases m with
    | nil => rfl
    | cons y m => exact absurd ((h y).mpr List.mem_cons_self) (by simp)
  | x :: l, [], _, _, h => absurd ((h x).mp List.mem_cons_self) (by simp)
  | x :: l, y :: m, hl, hm, h => by
    have hl' := List.pairwise_cons.mp hl
    have hm' := List.pairwise_cons.mp hm
    have e : x = y := by
      rcases List.mem_cons.mp ((h x).mp List.mem_cons_self) with e | e
      · exact e
      · rcases List.mem_cons.mp ((h y).mpr List.mem_cons_self) with e2 | e2
        · exact e2.symm
        · have := lex_asym (hm'.1 x e); rw [hl'.1 y e2] at this; cases this
    subst e
    refine congrArg _ (up_uniq hl'.2 hm'.2 fun z => ⟨fun hz => ?_, fun hz => ?_⟩)
    · rcases List.mem_cons.mp ((h z).mp (List.mem_cons_of_mem _ hz)) with e | e
      · have := hl'.1 z hz; rw [e, lex_irr] at this; cases this
      · exact e
    · rcases List.mem_cons.mp ((h z).mpr (List.mem_cons_of_mem _ hz)) with e | e
      · have := hm'.1 z hz; rw [e, lex_irr] at this; cases this
      · exact e
def insL (x : List Int) : List (List Int) → List (List Int)
  | [] => [x]
  | y :: l => if lexI x y then x :: y :: l else if x = y then y :: l else y :: insL x l
theorem mem_insL {x z : List Int} : ∀ {l : List (List Int)}, z ∈ insL x l ↔ z = x ∨ z ∈ l
  | [] => by simp [insL]
  | y :: l => by
    unfold insL
    by_cases h : lexI x y = true
    · rw [if_pos h]; simp
    · rw [if_neg h]
      by_cases e : x = y
      · rw [if_pos e]; simp [e]
      · rw [if_neg e, List.mem_cons, mem_insL, List.mem_cons]
        constructor
        · rintro (a | a | a) <;> simp [a]
        · rintro (a | a | a) <;> simp [a]
theorem up_insL {x : List Int} : ∀ {l : List (List Int)}, Up l → Up (insL x l)
  | [], _ => List.pairwise_singleton _ _
  | y :: l, h => by
    have h' := List.pairwise_cons.mp h
    unfold insL
    by_cases c : lexI x y = true
    · rw [if_pos c]
      exact List.pairwise_cons.mpr ⟨fun z hz => (List.mem_cons.mp hz).elim (fun e => e ▸ c) fun m => lex_tr c (h'.1 z m), h⟩
    · rw [if_neg c]
      by_cases e : x = y
      · rw [if_pos e]; exact h
      · rw [if_neg e]
        refine List.pairwise_cons.mpr ⟨fun z hz => ?_, up_insL h'.2⟩
        rcases mem_insL.mp hz with r | r
        · rw [r]; exact lex_tot (by simpa using c) e
        · exact h'.1 z r
def sortL (l : List (List Int)) : List (List Int) := l.foldr insL []
theorem mem_sortL {z : List Int} : ∀ {l : List (List Int)}, z ∈ sortL l ↔ z ∈ l
  | [] => Iff.rfl
  | x :: l => by show z ∈ insL x (sortL l) ↔ _; rw [mem_insL, mem_sortL, List.mem_cons]
theorem up_sortL : ∀ {l : List (List Int)}, Up (sortL l)
  | [] => List.Pairwise.nil
  | x :: l => up_insL (l := sortL l) up_sortL
/-! the rows -/
def turns (m s : Int) : List (List Int) := [[0, m, s], [0, s, m], [m, 0, s], [m, s, 0], [s, 0, m], [s, m, 0]]
/-- from where the middles go -/
def lowM (spread gap : Nat) : Nat := spread - gap
def manyM (spread gap : Nat) : Nat := min gap spread + 1 - (spread - gap)
def mids (spread gap : Nat) : List Int := (List.range (manyM spread gap)).map fun i => ((lowM spread gap + i : Nat) : Int)
def all3 (spread gap : Nat) : List (List Int) := (mids spread gap).flatMap fun m => turns m spread
def shape (count spread gap : Nat) : List (List Int) :=
  if count = 1 then [[0]] else if count = 2 then (if spread = 0 then [[0, 0]] else [[0, (spread : Int)], [(spread : Int), 0]]) else sortL (all3 spread gap)
def rowsAt (count gap spread : Nat) (least : Nat) : List (List Int) := (shape count spread gap).map fun row => row.map fun x => (least : Int) + x
def spreadAt (count gap modulus spread : Nat) : List (List Int) := (List.range modulus).flatMap fun least => rowsAt count gap spread least
def nearL (count gap modulus : Nat) : List (List Int) := (List.range ((count - 1) * gap + 1)).flatMap fun spread => spreadAt count gap modulus spread
theorem mem_mids {spread gap : Nat} {m : Int} : m ∈ mids spread gap ↔ 0 ≤ m ∧ m ≤ spread ∧ m ≤ gap ∧ (spread : Int) - m ≤ gap := by
  unfold mids manyM lowM
  simp only [List.mem_map, List.mem_range]
  constructor
  · rintro ⟨i, hi, rfl⟩
    have : min gap spread ≤ gap := Nat.min_le_left _ _
    have : min gap spread ≤ spread := Nat.min_le_right _ _
    omega
  · rintro ⟨h0, h1, h2, h3⟩
    refine ⟨m.toNat - (spread - gap), ?_, by omega⟩
    have : m.toNat ≤ min gap spread := Nat.le_min.mpr ⟨by omega, by omega⟩
    omega
theorem mem_all3 {spread gap : Nat} {z : List Int} : z ∈ all3 spread gap ↔ ∃ m : Int, (0 ≤ m ∧ m ≤ spread ∧ m ≤ gap ∧ (spread : Int) - m ≤ gap) ∧ z ∈ turns m spread := by
  unfold all3
  simp only [List.mem_flatMap, mem_mids]
/-- zs has the least one l and the spread s -/
structure IsRow (s l : Int) (zs : List Int) : Prop where
  all : ∀ z ∈ zs, l ≤ z ∧ z ≤ l + s
  lo : l ∈ zs
  hi : l + s ∈ zs
theorem IsRow.uniq {s l s' l' : Int} {zs : List Int} (a : IsRow s l zs) (b : IsRow s' l' zs) : s = s' ∧ l = l' := by
  have h1 := (a.all l' b.lo).1; have h2 := (b.all l a.lo).1
  have h3 := (a.all _ b.hi).2; have h4 := (b.all _ a.hi).2
  omega
theorem shape_row {count spread gap : Nat} (hc : count = 1 → spread = 0) {row : List Int} (h : row ∈ shape count spread gap) : IsRow spread 0 row := by
  unfold shape at h
  split at h
  · rename_i e
    have := hc e
    subst this
    simp at h
    subst h
    exact ⟨by simp, by simp, by simp⟩
  · split at h
    · split at h
      · rename_i e; subst e
        simp at h
        subst h
        exact ⟨by simp, by simp, by simp⟩
      · simp at h
        rcases h with rfl | rfl
        · exact ⟨by simp, by simp, by simp⟩
        · exact ⟨by simp, by simp, by simp⟩
    · obtain ⟨m, ⟨h0, h1, _⟩, ht⟩ := mem_all3.mp (mem_sortL.mp h)
      simp only [turns, List.mem_cons, List.not_mem_nil, or_false] at ht
      rcases ht with rfl | rfl | rfl | rfl | rfl | rfl <;> exact ⟨by simp; omega, by simp, by simp⟩
theorem shape_up {count spread gap : Nat} : Up (shape count spread gap) := by
  unfold shape
  split
  · exact List.pairwise_singleton _ _
  · split
    · split
      · exact List.pairwise_singleton _ _
      · rename_i h
        refine List.pairwise_cons.mpr ⟨fun z hz => ?_, List.pairwise_singleton _ _⟩
        simp at hz; subst hz
        simp only [lexI]
        rw [if_neg (by omega)]; exact decide_eq_true (by omega)
    · exact up_sortL
/-- the nearer one first -/
def RankLt (a b : List Int) : Prop := ∃ s l s' l', IsRow s l a ∧ IsRow s' l' b ∧ (s < s' ∨ (s = s' ∧ (l < l' ∨ (l = l' ∧ lexI a b = true))))
theorem RankLt.irr {a : List Int} : ¬ RankLt a a := by
  rintro ⟨s, l, s', l', h1, h2, h⟩
  obtain ⟨e1, e2⟩ := h1.uniq h2
  rcases h with h | ⟨_, h | ⟨_, h⟩⟩
  · omega
  · omega
  · rw [lex_irr] at h; cases h
theorem RankLt.tr {a b c : List Int} (x : RankLt a b) (y : RankLt b c) : RankLt a c := by
  obtain ⟨s, l, s1, l1, h1, h2, h⟩ := x
  obtain ⟨s2, l2, s', l', h3, h4, k⟩ := y
  obtain ⟨rfl, rfl⟩ := h2.uniq h3
  refine ⟨s, l, s', l', h1, h4, ?_⟩
  rcases h with h | ⟨e, h | ⟨e', h⟩⟩ <;> rcases k with k | ⟨f, k | ⟨f', k⟩⟩
  · exact .inl (by omega)
  · exact .inl (by omega)
  · exact .inl (by omega)
  · exact .inl (by omega)
  · exact .inr ⟨by omega, .inl (by omega)⟩
  · exact .inr ⟨by omega, .inl (by omega)⟩
  · exact .inl (by omega)
  · exact .inr ⟨by omega, .inl (by omega)⟩
  · exact .inr ⟨by omega, .inr ⟨by omega, lex_tr h k⟩⟩
theorem lex_shift (d : Int) : ∀ {a b : List Int}, lexI (a.map fun x => d + x) (b.map fun x => d + x) = lexI a b
  | [], [] => rfl
  | [], _ :: _ => rfl
  | _ :: _, [] => rfl
  | a :: r, b :: q => by
    simp only [List.map_cons, lexI, lex_shift d]
    by_cases e : a = b
    · rw [if_pos e, if_pos (by omega)]
    · rw [if_neg e, if_neg (by omega)]
      exact decide_eq_decide.mpr (by omega)
theorem row_shift {s l d : Int} {zs : List Int} (h : IsRow s l zs) : IsRow s (d + l) (zs.map fun x => d + x) := by
  refine ⟨fun z hz => ?_, List.mem_map.mpr ⟨_, h.lo, rfl⟩, List.mem_map.mpr ⟨_, h.hi, by omega⟩⟩
  obtain ⟨y, hy, rfl⟩ := List.mem_map.mp hz
  have := h.all y hy
  omega
theorem rows_row {count gap spread least : Nat} (hc : count = 1 → spread = 0) {zs : List Int} (h : zs ∈ rowsAt count gap spread least) : IsRow spread least zs := by
  unfold rowsAt at h
  obtain ⟨row, hr, rfl⟩ := List.mem_map.mp h
  have := row_shift (d := least) (shape_row hc hr)
  rwa [Int.add_zero] at this
theorem one_spread {count gap : Nat} {spread : Nat} (h : spread < (count - 1) * gap + 1) (hc : count = 1) : spread = 0 := by
  subst hc
  simp at h
  omega
theorem near_sorted (count gap modulus : Nat) : (nearL count gap modulus).Pairwise RankLt := by
  unfold nearL
  rw [List.pairwise_flatMap]
  refine ⟨fun spread hs => ?_, ?_⟩
  · have hc := one_spread (count := count) (gap := gap) (List.mem_range.mp hs)
    unfold spreadAt
    rw [List.pairwise_flatMap]
    refine ⟨fun least _ => ?_, ?_⟩
    · unfold rowsAt
      refine List.pairwise_map.mpr ((shape_up (count := count) (spread := spread) (gap := gap)).imp_of_mem fun {a b} ha hb h => ?_)
      have r1 := row_shift (d := (least : Int)) (shape_row hc ha)
      have r2 := row_shift (d := (least : Int)) (shape_row hc hb)
      exact ⟨_, _, _, _, r1, r2, .inr ⟨rfl, .inr ⟨rfl, by rw [lex_shift]; exact h⟩⟩⟩
    · refine List.pairwise_lt_range.imp fun {i j} hij x hx y hy => ?_
      exact ⟨_, _, _, _, rows_row hc hx, rows_row hc hy, .inr ⟨rfl, .inl (by omega)⟩⟩
  · refine List.pairwise_lt_range.imp_of_mem fun {i j} hi hj hij x hx y hy => ?_
    have ci := one_spread (count := count) (gap := gap) (List.mem_range.mp hi)
    have cj := one_spread (count := count) (gap := gap) (List.mem_range.mp hj)
    unfold spreadAt at hx hy
    obtain ⟨l1, _, hx⟩ := List.mem_flatMap.mp hx
    obtain ⟨l2, _, hy⟩ := List.mem_flatMap.mp hy
    exact ⟨_, _, _, _, rows_row ci hx, rows_row cj hy, .inl (by omega)⟩
/-- k places with the least one below the modulus and gaps of at most gap -/
def Near (count gap modulus : Nat) (zs : List Int) : Prop :=
  (count = 1 ∧ ∃ a, zs = [a] ∧ 0 ≤ a ∧ a < modulus) ∨
  (count = 2 ∧ ∃ a b l u : Int, zs = [a, b] ∧ ((a = l ∧ b = u) ∨ (a = u ∧ b = l)) ∧ 0 ≤ l ∧ l < modulus ∧ l ≤ u ∧ u ≤ l + gap) ∨
  (count = 3 ∧ ∃ l m u : Int, zs ∈ [[l, m, u], [l, u, m], [m, l, u], [m, u, l], [u, l, m], [u, m, l]] ∧ 0 ≤ l ∧ l < modulus ∧ l ≤ m ∧ m ≤ l + gap ∧ m ≤ u ∧ u ≤ m + gap)
theorem near_mem {count gap modulus : Nat} (hc : 1 ≤ count ∧ count ≤ 3) {zs : List Int} : zs ∈ nearL count gap modulus ↔ Near count gap modulus zs := by
  unfold nearL spreadAt rowsAt
  simp only [List.mem_flatMap, List.mem_range, List.mem_map]
  have h3 : count = 1 ∨ count = 2 ∨ count = 3 := by omega
  rcases h3 with rfl | rfl | rfl
  · constructor
    · rintro ⟨s, hs, l, hl, row, hr, rfl⟩
      simp [shape] at hr; subst hr
      exact .inl ⟨rfl, l, by simp, by omega, by omega⟩
    · rintro (⟨_, a, rfl, h0, h1⟩ | ⟨h, _⟩ | ⟨h, _⟩)
      · exact ⟨0, by simp, a.toNat, by omega, [0], by simp [shape], by simp; omega⟩
      · omega
      · omega
  · constructor
    · rintro ⟨s, hs, l, hl, row, hr, rfl⟩
      have hs' : s ≤ gap := by simp at hs; omega
      unfold shape at hr
      simp only [show ¬ (2 : Nat) = 1 by decide, if_false, if_true] at hr
      refine .inr (.inl ⟨rfl, ?_⟩)
      split at hr
      · simp at hr; subst hr
        exact ⟨l, l, l, l, by simp, .inl ⟨rfl, rfl⟩, by omega, by omega, by omega, by omega⟩
      · simp at hr
        rcases hr with rfl | rfl
        · exact ⟨l, l + s, l, l + s, by simp, .inl ⟨rfl, rfl⟩, by omega, by omega, by omega, by omega⟩
        · exact ⟨l + s, l, l, l + s, by simp, .inr ⟨rfl, rfl⟩, by omega, by omega, by omega, by omega⟩
    · rintro (⟨h, _⟩ | ⟨_, a, b, l, u, rfl, hab, h0, h1, h2, h4⟩ | ⟨h, _⟩)
      · omega
      · refine ⟨(u - l).toNat, by simp; omega, l.toNat, by omega, ?_⟩
        have el : ((l.toNat : Nat) : Int) = l := by omega
        have eu : (((u - l).toNat : Nat) : Int) = u - l := by omega
        by_cases e : u = l
        · refine ⟨[0, 0], by simp [shape, e], ?_⟩
          rcases hab with ⟨rfl, rfl⟩ | ⟨rfl, rfl⟩ <;> simp [el, e]
        · have ne : ¬ (u - l).toNat = 0 := by omega
          rcases hab with ⟨rfl, rfl⟩ | ⟨rfl, rfl⟩
          · exact ⟨[0, ((b - a).toNat : Nat)], by simp [shape, ne], by simp [el, eu]; omega⟩
          · exact ⟨[((a - b).toNat : Nat), 0], by simp [shape, ne], by simp [el, eu]; omega⟩
      · omega
  · constructor
    · rintro ⟨s, hs, l, hl, row, hr, rfl⟩
      unfold shape at hr
      simp only [show ¬ (3 : Nat) = 1 by decide, show ¬ (3 : Nat) = 2 by decide, if_false] at hr
      obtain ⟨m, ⟨g0, g1, g2, g3⟩, ht⟩ := mem_all3.mp (mem_sortL.mp hr)
      refine .inr (.inr ⟨rfl, l, l + m, l + s, ?_, by omega, by omega, by omega, by omega, by omega, by omega⟩)
      simp only [turns, List.mem_cons, List.not_mem_nil, or_false] at ht
      rcases ht with rfl | rfl | rfl | rfl | rfl | rfl <;> simp
    · rintro (⟨h, _⟩ | ⟨h, _⟩ | ⟨_, l, m, u, hz, h0, h1, h2, h4, h5, h6⟩)
      · omega
      · omega
      · refine ⟨(u - l).toNat, by simp; omega, l.toNat, by omega, ?_⟩
        have el : ((l.toNat : Nat) : Int) = l := by omega
        have eu : (((u - l).toNat : Nat) : Int) = u - l := by omega
        have inn : ∀ row, row ∈ turns (m - l) (u - l) → row ∈ shape 3 (u - l).toNat gap := fun row hrow => by
          unfold shape
          simp only [show ¬ (3 : Nat) = 1 by decide, show ¬ (3 : Nat) = 2 by decide, if_false]
          exact mem_sortL.mpr (mem_all3.mpr ⟨m - l, by omega, by rw [eu]; exact hrow⟩)
        simp only [List.mem_cons, List.not_mem_nil, or_false] at hz
        rcases hz with rfl | rfl | rfl | rfl | rfl | rfl
        · exact ⟨[0, m - l, u - l], inn _ (by simp [turns]), by simp [el]; omega⟩
        · exact ⟨[0, u - l, m - l], inn _ (by simp [turns]), by simp [el]; omega⟩
        · exact ⟨[m - l, 0, u - l], inn _ (by simp [turns]), by simp [el]; omega⟩
        · exact ⟨[m - l, u - l, 0], inn _ (by simp [turns]), by simp [el]; omega⟩
        · exact ⟨[u - l, 0, m - l], inn _ (by simp [turns]), by simp [el]; omega⟩
        · exact ⟨[u - l, m - l, 0], inn _ (by simp [turns]), by simp [el]; omega⟩
theorem near_len {count gap modulus : Nat} {zs : List Int} (h : Near count gap modulus zs) : zs.length = count := by
  rcases h with ⟨rfl, a, rfl, _⟩ | ⟨rfl, a, b, l, u, rfl, _⟩ | ⟨rfl, l, m, u, hz, _⟩
  · rfl
  · rfl
  · simp only [List.mem_cons, List.not_mem_nil, or_false] at hz
    rcases hz with rfl | rfl | rfl | rfl | rfl | rfl <;> rfl
end NM
end
section
set_option Elab.async false
set_option linter.all false
set_option maxRecDepth 100000
set_option maxHeartbeats 4000000
/-! a < b of data; the rank of places -/
namespace LD
open PySem PySem.Spec PyProof.Rows L2
open PySem.SeqAt
open PySem.W (dataLt alike alikeAll keyToks keyToksAll)
/-- d < e -/
def rLtD (K : PySem.W.Frag) : R2 := fun x y H Q => ∃ d e, Dp K H x d ∧ Dp K H y e ∧ alike d e = true ∧ d ≠ .none ∧ d.depth ≤ 64 ∧ Q (.bl (dataLt d e)) H
theorem op_ltD {X : Cx} (hu : X.A.units + 64 < cLine) : OpR X (compareOp .Lt) (rLtD X.K) := by
  intro pins s σ H x y v u Q I rx ry h
  obtain ⟨d, e, hd, he, al, nn, dp, q⟩ := h
  obtain ⟨as, r1⟩ := Dp.reads I d x v hd rx
  obtain ⟨bs, r2⟩ := Dp.reads I e y u he ry
  have hm : min d.depth e.depth ≤ 64 := Nat.le_trans (Nat.min_le_left _ _) dp
  exact PySem.W.rcLt_alike d e X.A s v u as bs r1 r2 al nn (by omega) X.prog X.w _ _ ⟨.bl _, H, I, rfl, q⟩
def intsD (zs : List Int) : List PyData := zs.map PyData.int
/-- the rank of zs -/
def rankD (s l : Int) (zs : List Int) : PyData := .list [.int s, .int l, .list (intsD zs)]
theorem alike_ints : ∀ a b : List Int, alikeAll (intsD a) (intsD b) = true
  | [], _ => by simp [intsD, alikeAll]
  | _ :: _, [] => by simp [intsD, alikeAll]
  | x :: r, y :: q => by
    have ih := alike_ints r q
    simp only [intsD, List.map_cons, alikeAll, alike, Bool.true_and] at ih ⊢
    exact ih
theorem alike_rank {s l s' l' : Int} {a b : List Int} : alike (rankD s l a) (rankD s' l' b) = true := by
  have h := alike_ints a b
  simp only [rankD, alike, alikeAll, h, Bool.true_and, Bool.and_true]
theorem eqv_int (a b : Int) : PyData.eqv (.int a) (.int b) = decide (a = b) := by simp only [PyData.eqv]; rfl
theorem lt_ints : ∀ {a b : List Int}, a.length = b.length → PyProof.Rows.lexLt itemOrd (keyToksAll (intsD a)) (keyToksAll (intsD b)) = NM.lexI a b
  | [], [], _ => by decide
  | x :: r, y :: q, h => by
    have ih := lt_ints (a := r) (b := q) (by simpa using h)
    by_cases e : x = y
    · subst e
      have := PySem.W.dataLt_all_yes (x := .int x) (y := .int x) (xs := intsD r) (ys := intsD q) (by simp [alike]) (by rw [eqv_int]; simp)
      simp only [intsD, List.map_cons] at this ih ⊢
      rw [this, ih]
      simp [NM.lexI]
    · have := PySem.W.dataLt_all_no (x := .int x) (y := .int y) (xs := intsD r) (ys := intsD q) (by simp [alike]) (by rw [eqv_int]; simpa using e)
      simp only [intsD, List.map_cons] at this ih ⊢
      rw [this, PySem.W.dataLt_int]
      simp [NM.lexI, e]
def rkLt (s l : Int) (a : List Int) (s' l' : Int) (b : List Int) : Bool := if s = s' then (if l = l' then NM.lexI a b else decide (l < l')) else decide (s < s')
theorem lt_one {x y : PyData} (h : alike x y = true) (e : PyData.eqv x y = true → dataLt x y = false) : PyProof.Rows.lexLt itemOrd (keyToksAll [x]) (keyToksAll [y]) = dataLt x y := by
  cases c : PyData.eqv x y with
  | true => rw [PySem.W.dataLt_all_yes h c, e c]; decide
  | false => exact PySem.W.dataLt_all_no h c
theorem rank_lt {s l s' l' : Int} {a b : List Int} (h : a.length = b.length) : dataLt (rankD s l a) (rankD s' l' b) = rkLt s l a s' l' b := by
  unfold rankD rkLt
  rw [PySem.W.dataLt_list]
  by_cases e : s = s'
  · subst e
    rw [if_pos rfl, PySem.W.dataLt_all_yes (by simp [alike]) (by rw [eqv_int]; simp)]
    by_cases f : l = l'
    · subst f
      rw [if_pos rfl, PySem.W.dataLt_all_yes (by simp [alike]) (by rw [eqv_int]; simp)]
      have hl : alike (.list (intsD a)) (.list (intsD b)) = true := by simp only [alike]; exact alike_ints a b
      rw [lt_one hl fun c => ?_, PySem.W.dataLt_list, lt_ints h]
      rw [PySem.W.dataLt_list, lt_ints h]
      have : a = b := by
        clear hl
        induction a generalizing b with
        | nil => cases b with
          | nil => rfl
          | cons _ _ => cases h
        | cons x r ih => cases b with
          | nil => cases h
          | cons y q =>
            simp only [intsD, List.map_cons, PyData.eqv, PyData.eqvAll, Bool.and_eq_true] at c
            obtain ⟨c1, c2⟩ := c
            rw [show x = y by simpa [PyData.eqv] using c1, ih (b := q) (by simpa using h) (by simpa [PyData.eqv, intsD] using c2)]
      rw [this, NM.lex_irr]
    · rw [if_neg f, PySem.W.dataLt_all_no (by simp [alike]) (by rw [eqv_int]; simpa using f), PySem.W.dataLt_int]
  · rw [if_neg e, PySem.W.dataLt_all_no (by simp [alike]) (by rw [eqv_int]; simpa using e), PySem.W.dataLt_int]
theorem rk_iff {s l s' l' : Int} {a b : List Int} (ha : NM.IsRow s l a) (hb : NM.IsRow s' l' b) : rkLt s l a s' l' b = true ↔ NM.RankLt a b := by
  unfold rkLt
  constructor
  · intro h
    refine ⟨s, l, s', l', ha, hb, ?_⟩
    split at h
    · rename_i e
      split at h
      · rename_i f
        exact .inr ⟨e, .inr ⟨f, h⟩⟩
      · exact .inr ⟨e, .inl (of_decide_eq_true h)⟩
    · exact .inl (of_decide_eq_true h)
  · rintro ⟨s1, l1, s2, l2, h1, h2, h⟩
    obtain ⟨rfl, rfl⟩ := ha.uniq h1
    obtain ⟨rfl, rfl⟩ := hb.uniq h2
    rcases h with h | ⟨rfl, h | ⟨rfl, h⟩⟩
    · rw [if_neg (by omega)]; exact decide_eq_true h
    · rw [if_pos rfl, if_neg (by omega)]; exact decide_eq_true h
    · rw [if_pos rfl, if_pos rfl]; exact h
theorem depth_rank {s l : Int} {a : List Int} : (rankD s l a).depth ≤ 64 := by
  have h : PyData.depthAll (intsD a) = 0 := by
    induction a with
    | nil => rfl
    | cons x r ih => show max (PyData.depth (.int x)) (PyData.depthAll (intsD r)) = 0; rw [ih]; rfl
  show max (PyData.depth (.int s)) (max (PyData.depth (.int l)) (max (PyData.depthAll (intsD a) + 1) (PyData.depthAll []))) + 1 ≤ 64
  rw [h]
  show max 0 (max 0 (max (0 + 1) 0)) + 1 ≤ 64
  decide
/-- the least one: the first of the kept ones -/
theorem least_first {Z : List (List Int)} {c : List Int → Bool} (up : Z.Pairwise NM.RankLt) {b : List Int} (hb : b ∈ Z) (cb : c b = true) (min : ∀ z ∈ Z, c z = true → ¬ NM.RankLt z b) : Z.find? c = some b := by
  induction Z with
  | nil => cases hb
  | cons z Z ih =>
    have up' := List.pairwise_cons.mp up
    by_cases e : c z = true
    · rw [List.find?_cons_of_pos e]
      rcases List.mem_cons.mp hb with rfl | hb'
      · rfl
      · exact absurd (up'.1 b hb') (min z List.mem_cons_self e)
    · rw [List.find?_cons_of_neg e]
      rcases List.mem_cons.mp hb with rfl | hb'
      · exact absurd cb e
      · exact ih up'.2 hb' fun y hy => min y (List.mem_cons_of_mem _ hy)
end LD
end
section
set_option Elab.async false
set_option linter.all false
set_option maxRecDepth 100000
set_option maxHeartbeats 4000000
namespace PL
open PySem PySem.Spec PyProof.Rows L2
/-! the lines of programs -/
def ranges : List (Str × Int × Int) := [("wide", 1, 8), ("many", 1, 16), ("index", 0, 15), ("cell", 0, 255), ("jump", -30, 30), ("laps", 1, 5), ("chunk", 1, 8)]
def forms : List (Str × Str) := [("input", "name wide"), ("load", "name chunk spot"), ("store", "name spot"), ("join", "name name name"), ("part", "name name index many"), ("each", "name name"), ("copy", "many from spot to spot"),
  ("up", "many from spot to spot"), ("down", "many from spot to spot"), ("fill", "many name spot"), ("step", "pointer jump"), ("times", "laps"), ("else", ""), ("end", "")]
def useds : List (Str × Int × Int) := [("store", 0, 1), ("each", 1, 2), ("fill", 1, 2), ("give", 0, 4), ("join", 1, 3), ("part", 1, 2)]
def Opening : List Str := ["when", "times"]
def Setting : List Str := ["input", "load", "set", "join", "part"]
def Copying : List Str := ["copy", "up", "down"]
def Fixed : List Str := ["from", "to"]
/-- a word behind the first one -/
inductive Wd
  | name (z : Str)
  | spot (z : Str) (k : Int)
  | ptr (z : Str)
  | fix (z : Str)
  | num (kd : Str) (n : Int)
namespace Wd
def kind : Wd → Str
  | name _ => "name"
  | spot _ _ => "spot"
  | ptr _ => "pointer"
  | fix z => z
  | num kd _ => kd
def text : Wd → Str
  | name z => z
  | spot z k => CF.spot z k
  | ptr z => z
  | fix z => z
  | num _ n => CF.num n
def Ok (ps : List Str) : Wd → Prop
  | name z => CF.NameOk z
  | spot z k => z ∈ ps ∧ -30 ≤ k ∧ k ≤ 30
  | ptr z => z ∈ ps
  | fix z => z ∈ Fixed
  | num kd n => -100 ≤ n ∧ n ≤ 100 ∧ (∃ lo hi, (kd, lo, hi) ∈ ranges ∧ lo ≤ n ∧ n ≤ hi) ∧ (kd = "chunk" → n = 1 ∨ n = 2 ∨ n = 4 ∨ n = 8)
end Wd
/-- what such a word tells -/
def Val (H : Hp) (ps : List Str) : Wd → V → Prop
  | .name z, v => v = .str z
  | .spot z k, v => ∃ (r : Addr) (i : Nat), v = .ref r ∧ ps[i]? = some z ∧ H r = some (.tup [.int (i : Nat), .int k])
  | .ptr z, v => ∃ i : Nat, ps[i]? = some z ∧ v = .int (i : Nat)
  | .fix z, v => v = .str z
  | .num _ n, v => v = .int n
theorem Val.same {H H' : Hp} {ps : List Str} {d : Wd} {v : V} (h : Val H ps d v) (s : Same H H') : Val H' ps d v := by
  cases d with
  | spot z k => obtain ⟨r, i, a, b, c⟩ := h; exact ⟨r, i, a, b, s _ _ c⟩
  | _ => exact h
theorem Val.not_none {H : Hp} {ps : List Str} {d : Wd} {v : V} (h : Val H ps d v) : v ≠ .non := by
  cases d with
  | spot z k => obtain ⟨r, i, a, b, c⟩ := h; rw [a]; exact fun z => by cases z
  | ptr z => obtain ⟨i, a, b⟩ := h; rw [b]; exact fun z => by cases z
  | name z => rw [show v = .str z from h]; exact fun z => by cases z
  | fix z => rw [show v = .str z from h]; exact fun z => by cases z
  | num k n => rw [show v = .int n from h]; exact fun z => by cases z
/-- the kinds behind a first word -/
inductive Kinds : Str → List Str → Prop
  | form {w f : Str} (h : (w, f) ∈ forms) : Kinds w (Txt.words f)
  | set (n : Nat) (h1 : 1 ≤ n) (h2 : n ≤ 8) : Kinds "set" ("name" :: List.replicate n "cell")
  | give (n : Nat) (h1 : 1 ≤ n) (h2 : n ≤ 4) : Kinds "give" (List.replicate n "name")
/-- a line that is neither when nor call -/
structure Ln where
  w : Str
  ds : List Wd
namespace Ln
def words (l : Ln) : List Str := l.w :: l.ds.map Wd.text
def text (l : Ln) : Str := Txt.join " " l.words
structure Ok (ps : List Str) (l : Ln) : Prop where
  kinds : Kinds l.w (l.ds.map Wd.kind)
  ds : ∀ d ∈ l.ds, d.Ok ps
/-- the words that are told -/
def told (l : Ln) : List Wd := l.ds.filter fun d => match d with | .fix _ => false | _ => true
end Ln
/-- what a line is read as: the word and the tuple of what is told -/
structure RowAt (H : Hp) (ps : List Str) (l : Ln) (r : Addr) : Prop where
  ex : ∃ (t : Addr) (vs : List V), H r = some (.tup [.str l.w, .ref t]) ∧ H t = some (.tup vs) ∧ Paired (Val H ps) l.told vs
theorem paired_same {H H' : Hp} {ps : List Str} (s : Same H H') : ∀ {ds : List Wd} {vs : List V}, Paired (Val H ps) ds vs → Paired (Val H' ps) ds vs
  | _, _, .nil => .nil
  | _, _, .cons r t => .cons (Val.same r s) (paired_same s t)
theorem RowAt.same {H H' : Hp} {ps : List Str} {l : Ln} {r : Addr} (h : RowAt H ps l r) (s : Same H H') : RowAt H' ps l r := by
  obtain ⟨t, vs, a, b, c⟩ := h.ex
  exact ⟨t, vs, s _ _ a, s _ _ b, paired_same s c⟩
/-- what the program's own names are -/
structure TxtQ (K : PySem.W.Frag) (w : World) (mg : Str → Option Value) : Prop where
  f_zip : mg "zip" = none
  f_any : mg "any" = none
  f_all : mg "all" = none
  f_min : mg "min" = none
  f_max : mg "max" = none
  f_len : mg "len" = none
  f_range : mg "range" = none
  f_tuple : mg "tuple" = none
  f_list : mg "list" = none
  f_enumerate : mg "enumerate" = none
  c_MOST_SET : ∃ t, mg "MOST_SET" = some (.int 8 t)
  c_MOST_GIVEN : ∃ t, mg "MOST_GIVEN" = some (.int 4 t)
  c_MOST_LINES : ∃ t, mg "MOST_LINES" = some (.int 40 t)
  c_MOST_OPEN : ∃ t, mg "MOST_OPEN" = some (.int 5 t)
  c_WIDEST : ∃ t, mg "WIDEST" = some (.int 16 t)
  c_MOST_TIMES : ∃ t, mg "MOST_TIMES" = some (.int 5 t)
  g_RANGES : mg "RANGES" = some (.ref (He.ga K "RANGES"))
  d_RANGES : ∃ es n, KDict K w (He.ga K "RANGES") es n
  v_RANGES : ∀ kd lo hi, (kd, lo, hi) ∈ ranges → ∃ t, PySem.W.nsIn K (He.ga K "RANGES") kd = some (some (.ref t)) ∧ ∀ H : Hp, SqT K H t [.int lo, .int hi]
  g_FORMS : mg "FORMS" = some (.ref (He.ga K "FORMS"))
  d_FORMS : ∃ es n, KDict K w (He.ga K "FORMS") es n
  v_FORMS : ∀ x f, (x, f) ∈ forms → ∃ t, PySem.W.nsIn K (He.ga K "FORMS") x = some (some (.str f t))
  g_USED : mg "USED" = some (.ref (He.ga K "USED"))
  d_USED : ∃ es n, KDict K w (He.ga K "USED") es n
  v_USED : ∀ x lo hi, (x, lo, hi) ∈ useds → ∃ t, PySem.W.nsIn K (He.ga K "USED") x = some (some (.ref t)) ∧ ∀ H : Hp, SqT K H t [.int lo, .int hi]
  n_USED : ∀ x ∈ (["input", "load", "set", "copy", "up", "down", "step"] : List Str), PySem.W.nsIn K (He.ga K "USED") x = some none
  g_OPENING : mg "OPENING" = some (.ref (He.ga K "OPENING"))
  t_OPENING : ∀ H : Hp, SqT K H (He.ga K "OPENING") (Opening.map V.str)
  g_SETTING : mg "SETTING" = some (.ref (He.ga K "SETTING"))
  t_SETTING : ∀ H : Hp, SqT K H (He.ga K "SETTING") (Setting.map V.str)
  g_COPYING : mg "COPYING" = some (.ref (He.ga K "COPYING"))
  t_COPYING : ∀ H : Hp, SqT K H (He.ga K "COPYING") (Copying.map V.str)
  g_FIXED : mg "FIXED" = some (.ref (He.ga K "FIXED"))
  t_FIXED : ∀ H : Hp, SqT K H (He.ga K "FIXED") (Fixed.map V.str)
  g_CHUNKS : mg "CHUNKS" = some (.ref (He.ga K "CHUNKS"))
  t_CHUNKS : ∀ H : Hp, SqT K H (He.ga K "CHUNKS") [.int 1, .int 2, .int 4, .int 8]
theorem pe_never {X : Cx} {e : Expr} : PE X e (fun _ _ _ => False) := ⟨fun _ _ _ _ _ _ h => h.elim⟩
theorem kdct {K : PySem.W.Frag} {w : World} {d : Addr} {x : Str} {u : Value} {v : V} (h : ∃ es n, KDict K w d es n) (e : PySem.W.nsIn K d x = some (some u)) (r : RelV v u) : KDct K w d x v := by
  obtain ⟨es, n, D⟩ := h
  exact ⟨es, n, u, D.at_, D.lit, e, r⟩
end PL
namespace PL
open PySem PySem.Spec PyProof.Rows L2
/-- whether a line may stand behind another one in open blocks (no else among them) -/
def stand (word before : Str) (around : List Str) : Bool :=
  if before = "give" then false else if word = "input" then decide (before = "input") else if word = "give" then around.isEmpty else if word = "end" then !around.isEmpty else !decide (word ∈ Opening) || decide (around.length < 5)
def push (word : Str) (around : List Str) : List Str := if word ∈ Opening then around ++ [word] else if word = "end" then around.dropLast else around
def placed : List Str → Str → List Str → Option (List Str)
  | [], _, ar => some ar
  | w :: ws, b, ar => if stand w b ar = true then placed ws w (push w ar) else none
def lastW : Str → List Str → Str
  | b, [] => b
  | _, w :: ws => lastW w ws
theorem lastW_snoc {w : Str} : ∀ (b : Str) (ws : List Str), lastW b (ws ++ [w]) = w
  | _, [] => rfl
  | _, x :: ws => lastW_snoc x ws
theorem placed_append {ys : List Str} : ∀ (xs : List Str) (b : Str) (ar : List Str), placed (xs ++ ys) b ar = (placed xs b ar).bind fun ar' => placed ys (lastW b xs) ar'
  | [], _, _ => rfl
  | x :: xs, b, ar => by
    show (if stand x b ar = true then placed (xs ++ ys) x (push x ar) else none) = ((if stand x b ar = true then placed xs x (push x ar) else none)).bind _
    by_cases h : stand x b ar = true
    · rw [if_pos h, if_pos h, placed_append xs]
      rfl
    · rw [if_neg h, if_neg h]
      rfl
theorem placed_at {ws : List Str} {b : Str} {ar z : List Str} (h : placed ws b ar = some z) {i : Nat} {w : Str} (hw : ws[i]? = some w) :
    ∃ ar', placed (ws.take i) b ar = some ar' ∧ stand w (lastW b (ws.take i)) ar' = true ∧ placed (ws.take (i + 1)) b ar = some (push w ar') := by
  have e : ws = ws.take i ++ w :: ws.drop (i + 1) := by
    have h1 := (List.take_append_drop i ws).symm
    have h2 : ws.drop i = w :: ws.drop (i + 1) := by
      have hi := (List.getElem?_eq_some_iff.mp hw)
      obtain ⟨hi, e⟩ := hi
      rw [List.drop_eq_getElem_cons hi, e]
    rw [h2] at h1
    exact h1
  rw [e, placed_append] at h
  cases q : placed (ws.take i) b ar with
  | none => rw [q] at h; cases h
  | some ar' =>
    rw [q] at h
    have h3 : (if stand w (lastW b (ws.take i)) ar' = true then placed (ws.drop (i + 1)) w (push w ar') else none) = some z := h
    by_cases hs : stand w (lastW b (ws.take i)) ar' = true
    · refine ⟨ar', rfl, hs, ?_⟩
      have e2 : ws.take (i + 1) = ws.take i ++ [w] := by rw [List.take_add_one, hw]; rfl
      rw [e2, placed_append, q]
      show (if stand w (lastW b (ws.take i)) ar' = true then placed [] w (push w ar') else none) = _
      rw [if_pos hs]
      rfl
    · rw [if_neg hs] at h3
      cases h3
theorem push_len (w : Str) (ar : List Str) : (push w ar).length ≤ ar.length + 1 := by
  unfold push
  split
  · rw [List.length_append, List.length_singleton]; omega
  · split
    · rw [List.length_dropLast]; omega
    · omega
theorem placed_len : ∀ {ws : List Str} {b : Str} {ar z : List Str}, placed ws b ar = some z → z.length ≤ ar.length + ws.length
  | [], _, _, _, h => by
    cases h
    exact Nat.le_refl _
  | w :: ws, b, ar, z, h => by
    have h3 : (if stand w b ar = true then placed ws w (push w ar) else none) = some z := h
    by_cases hs : stand w b ar = true
    · rw [if_pos hs] at h3
      have := placed_len h3
      have := push_len w ar
      rw [List.length_cons]
      omega
    · rw [if_neg hs] at h3
      cases h3
end PL
end
section
set_option Elab.async false
set_option linter.all false
set_option maxRecDepth 100000
set_option maxHeartbeats 4000000
namespace CF
open PySem PySem.Spec PyProof.Rows L2
theorem lo_tl {z : Str} : Lo z ↔ ∀ c ∈ TL.tl z, c < 256 := Iff.rfl
theorem lo_app {x y : Str} (h : Lo x) (g : Lo y) : Lo (x ++ y) := by
  rw [lo_tl, TL.tl_append]
  intro c hc
  rcases List.mem_append.mp hc with z | z
  · exact h c z
  · exact g c z
theorem spot_lo {z : Str} (hz : NameOk z) {k : Int} (h0 : -100 ≤ k) (h1 : k ≤ 100) : Lo (spot z k) := by
  unfold spot
  refine lo_app (lo_app hz.lo_ ?_) ?_
  · split
    · exact lo_app (by decide +kernel) (num_lo h0 h1)
    · decide +kernel
  · split
    · exact num_lo h0 h1
    · decide +kernel
theorem FD.wlo {ps : List Str} (hp : ∀ z ∈ ps, NameOk z) : ∀ {f : FD}, f.Ok ps → ∀ w ∈ f.words, Lo w := by
  have lit : ∀ w ∈ (["by", "to", "apart", "from", "upto", "is"] : List Str), Lo w := by decide +kernel
  have nz : ∀ z ∈ ps, Lo z := fun z hz => (hp z hz).lo_
  intro f ok w hw
  cases f with
  | by_ a m r =>
    obtain ⟨h, g⟩ := ok
    have s := g.small
    simp only [FD.words, List.mem_cons, List.not_mem_nil, or_false] at hw
    rcases hw with rfl | rfl | rfl | rfl
    · exact nz _ h
    · exact lit _ (by decide)
    · exact num_lo s.1.1 s.1.2
    · exact num_lo s.2.1 s.2.2
  | gap a b m r =>
    obtain ⟨h, h2, _, g⟩ := ok
    have s := g.small
    simp only [FD.words, List.mem_cons, List.not_mem_nil, or_false] at hw
    rcases hw with rfl | rfl | rfl | rfl | rfl | rfl
    · exact nz _ h
    · exact lit _ (by decide)
    · exact nz _ h2
    · exact lit _ (by decide)
    · exact num_lo s.1.1 s.1.2
    · exact num_lo s.2.1 s.2.2
  | apart a k n b e c2 =>
    obtain ⟨h, h2, _, o1, m1, o2, m2⟩ := ok
    obtain ⟨o11, o12⟩ := o1
    obtain ⟨m11, m12⟩ := m1
    obtain ⟨o21, o22⟩ := o2
    obtain ⟨m21, m22⟩ := m2
    simp only [FD.words, List.mem_cons, List.not_mem_nil, or_false] at hw
    rcases hw with rfl | rfl | rfl | rfl | rfl
    · exact lit _ (by decide)
    · exact spot_lo (hp _ h) (by omega) (by omega)
    · exact num_lo (by omega) (by omega)
    · exact spot_lo (hp _ h2) (by omega) (by omega)
    · exact num_lo (by omega) (by omega)
  | dist v a b n =>
    obtain ⟨hv, h, h2, _, n0, n1⟩ := ok
    simp only [FD.words, List.mem_cons, List.not_mem_nil, or_false] at hw
    rcases hw with rfl | rfl | rfl | rfl | rfl
    · exact nz _ h
    · exact lit _ (by decide)
    · exact nz _ h2
    · simp only [Sorts, List.mem_cons, List.not_mem_nil, or_false] at hv
      rcases hv with rfl | rfl | rfl <;> exact lit _ (by decide)
    · exact num_lo (by omega) (by omega)
theorem join_lo {y : Str} {ws : List Str} (hy : Lo y) (h : ∀ w ∈ ws, Lo w) : Lo (Txt.join y ws) := by
  intro c hc
  have hc2 : c ∈ TL.tl (Txt.join y ws) := hc
  rw [TL.join_eq, TL.tl_join] at hc2
  rcases joinL_mem hc2 with z | ⟨p, hp, z⟩
  · exact hy c z
  · obtain ⟨w, hw, rfl⟩ := List.mem_map.mp hp
    exact h w hw c z
theorem FD.text_lo {ps : List Str} (hp : ∀ z ∈ ps, NameOk z) {f : FD} (ok : f.Ok ps) : Lo f.text := join_lo (by decide +kernel) (FD.wlo hp ok)
end CF
end
section
set_option Elab.async false
set_option linter.all false
set_option maxRecDepth 100000
set_option maxHeartbeats 4000000
namespace CF
open PySem PySem.Spec PyProof.Rows L2
/-! facts at places -/
def look (ps : List Str) (zs : List Int) (a : Str) : Int := ((ps.zip zs).lookup a).getD 0
def FD.val (pl : Str → Int) : FD → Bool
  | .by_ a m r => decide (pl a % m = r)
  | .gap a b m r => decide ((pl b - pl a) % m = r)
  | .apart a k n b e c => decide (pl a + k + n ≤ pl b + e) || decide (pl b + e + c ≤ pl a + k)
  | .dist w a b n => if w = "from" then decide (n ≤ pl b - pl a) else if w = "upto" then decide (pl b - pl a ≤ n) else decide (pl b - pl a = n)
theorem look_at : ∀ {ps : List Str} {zs : List Int} {i : Nat} {a : Str}, ps.Nodup → zs.length = ps.length → ps[i]? = some a → zs[i]? = some (look ps zs a)
  | [], _, _, _, _, _, h => by simp at h
  | p :: ps, [], _, _, _, h, _ => by simp at h
  | p :: ps, z :: zs, 0, a, _, _, h => by
    simp at h
    subst h
    simp [look]
  | p :: ps, z :: zs, i + 1, a, nd, hl, h => by
    have hn : p ≠ a := fun e => (List.nodup_cons.mp nd).1 (by rw [e]; exact List.mem_of_getElem? (i := i) (by simpa using h))
    have ih := look_at (ps := ps) (zs := zs) (i := i) (a := a) (List.nodup_cons.mp nd).2 (by simpa using hl) (by simpa using h)
    have e : (a == p) = false := beq_eq_false_iff_ne.mpr (Ne.symm hn)
    unfold look at ih ⊢
    rw [List.zip_cons_cons, List.lookup_cons, e]
    simpa using ih
theorem look_val {ps : List Str} {zs : List Int} {a : Str} (nd : ps.Nodup) (hl : zs.length = ps.length) (h : a ∈ ps) : ∃ i : Nat, ps[i]? = some a ∧ zs[i]? = some (look ps zs a) := by
  obtain ⟨i, hi⟩ := List.mem_iff_getElem?.mp h
  exact ⟨i, hi, look_at nd hl hi⟩
theorem look_some {ps : List Str} {zs : List Int} {a : Str} (nd : ps.Nodup) (hl : zs.length = ps.length) (h : a ∈ ps) : (ps.zip zs).lookup a = some (look ps zs a) := by
  induction ps generalizing zs with
  | nil => cases h
  | cons p r ih =>
    cases zs with
    | nil => simp at hl
    | cons z zs =>
      by_cases e : a = p
      · subst e
        simp [look]
      · have e2 : (a == p) = false := beq_eq_false_iff_ne.mpr e
        have hr : a ∈ r := (List.mem_cons.mp h).resolve_left e
        have := ih (zs := zs) (List.nodup_cons.mp nd).2 (by simpa using hl) hr
        unfold look at this ⊢
        rw [List.zip_cons_cons, List.lookup_cons, e2]
        exact this
/-- places moved together, by a multiple of all moduli: nothing changes -/
theorem look_add {ps : List Str} {zs : List Int} {d : Int} {a : Str} (nd : ps.Nodup) (hl : zs.length = ps.length) (h : a ∈ ps) : look ps (zs.map (· + d)) a = look ps zs a + d := by
  obtain ⟨i, hi, hz⟩ := look_val nd hl h
  have h2 := look_at (zs := zs.map (· + d)) nd (by rw [List.length_map]; exact hl) hi
  rw [List.getElem?_map, hz] at h2
  exact (Option.some.inj h2).symm
theorem FD.val_add {ps : List Str} {zs : List Int} {d : Int} (nd : ps.Nodup) (hl : zs.length = ps.length) {f : FD} (ok : f.Ok ps) (hd : d % f.mod = 0) : f.val (look ps (zs.map (· + d))) = f.val (look ps zs) := by
  have two : ∀ {a b : Str}, a ∈ ps → b ∈ ps → look ps (zs.map (· + d)) b - look ps (zs.map (· + d)) a = look ps zs b - look ps zs a := fun ha hb => by
    rw [look_add nd hl ha, look_add nd hl hb]
    omega
  cases f with
  | by_ a m r =>
    obtain ⟨ha, hm, _⟩ := ok
    have hd' : d % m = 0 := hd
    simp only [FD.val]
    rw [look_add nd hl ha, Int.add_emod, hd', Int.add_zero, Int.emod_emod_of_dvd _ (Int.dvd_refl m)]
  | gap a b m r =>
    obtain ⟨ha, hb, _⟩ := ok
    simp only [FD.val]
    rw [two ha hb]
  | apart a k n b e c =>
    obtain ⟨ha, hb, _⟩ := ok
    simp only [FD.val]
    rw [look_add nd hl ha, look_add nd hl hb]
    congr 1
    · exact decide_eq_decide.mpr ⟨fun h => by omega, fun h => by omega⟩
    · exact decide_eq_decide.mpr ⟨fun h => by omega, fun h => by omega⟩
  | dist w a b n =>
    obtain ⟨_, ha, hb, _⟩ := ok
    simp only [FD.val]
    rw [two ha hb]
theorem FD.mod_dvd {ps : List Str} {f : FD} (ok : f.Ok ps) : (8 : Int) % f.mod = 0 := by
  cases f with
  | by_ a m r =>
    obtain ⟨_, hm, _⟩ := ok
    rcases hm with rfl | rfl | rfl <;> simp only [FD.mod] <;> decide
  | gap a b m r =>
    obtain ⟨_, _, _, hm, _⟩ := ok
    rcases hm with rfl | rfl | rfl <;> simp only [FD.mod] <;> decide
  | apart => simp only [FD.mod]; decide
  | dist => simp only [FD.mod]; decide
theorem FD.val_far {ps : List Str} {zs : List Int} {d : Int} (nd : ps.Nodup) (hl : zs.length = ps.length) {f : FD} (ok : f.Ok ps) : f.val (look ps (zs.map (· + 8 * d))) = f.val (look ps zs) :=
  FD.val_add nd hl ok (by
    have h := FD.mod_dvd ok
    obtain ⟨k, hk⟩ := Int.dvd_of_emod_eq_zero h
    exact Int.emod_eq_zero_of_dvd ⟨k * d, by rw [hk, Int.mul_assoc]⟩)
/-- which facts are false: their indexes -/
def brk (pl : Str → Int) (fs : List FD) : List Nat := (List.range fs.length).filter fun i => match fs[i]? with
  | some f => !f.val pl
  | none => false
def kept (pl : Str → Int) (fs : List FD) : Bool := fs.all fun f => f.val pl
end CF
end
section
set_option Elab.async false
set_option linter.all false
set_option maxRecDepth 100000
set_option maxHeartbeats 4000000
namespace K05
open PySem PySem.Spec PyProof.Rows L2
open PySem.W (ke_shaped_ints)
local macro_rules | `(tactic| walk_at "go") => `(tactic| first | refine ⟨_, rfl, ?_⟩ | refine .inl ⟨_, rfl, ?_⟩ | refine ⟨_, _, rfl, rfl, (by first | (show (0 : Int) < _; decide) | exact Or.inl ⟨by decide, by decide⟩ | exact Or.inr ⟨by decide, by decide⟩), ?_⟩ | refine ⟨_, _, rfl, rfl, ?_⟩)
section
variable {P : Program} {w : World} {K : PySem.W.Frag} {mg : Str → Option Value} {base : Heap}

/-- begun_pen(script) -/
def spBegun (K : PySem.W.Frag) : Sp := fun vs H Q _ => ∃ (a : Addr) (ns : List Int), vs = [.ref a] ∧ SqL K H a (ns.map V.int) ∧ ∀ (p l : Addr) (H' : Hp), H p = none → H l = none → Same H H' → Pen H' p l 0 → Q (.ref p) H'
theorem cut_ints (ns : List Int) (lo hi : Option Int) : ∃ ms : List Int, cutV (ns.map V.int) lo hi = ms.map V.int :=
  ⟨(ns.drop (HT.sIx (ns.map V.int).length 0 lo)).take (HT.sIx (ns.map V.int).length (ns.map V.int).length hi - HT.sIx (ns.map V.int).length 0 lo), by
    unfold cutV
    rw [List.map_take, List.map_drop]⟩
abbrev s_begun_pen : Stmt := topS 44
theorem sc_begun_pen : FnScope ["script"] ["script"] (defScope s_begun_pen) := ⟨rfl, rfl, rfl, by decide +kernel, rfl, by decide +kernel, by decide +kernel⟩
theorem ok_begun_pen (T : Txt mg) (D : Def K mg "_law_begun_pen" s_begun_pen) : Cal P w K mg base 1 "_law_begun_pen" ["script"] (spBegun K) := by
  refine D.cal sc_begun_pen (fun vs H Q E h => ?_) (fun _ _ _ _ _ _ us hl => match us, hl with | [_], _ => rfl) (fun f cdv A outer s H vs Q E hr h => ?_)
  · obtain ⟨a, ns, rfl, _⟩ := h
    rfl

  obtain ⟨a, ns, rfl, hS, k⟩ := h
  refine ⟨_, (pss_one (ps_ret (pe_disp (pps_cons pe_str (pe_callTy call_list_of (by rfl) T.f_list (by decide +kernel) (pa_cons (pe_slice sl_list (pv 0) po_none (po_some pe_int)) pa_nil)) (pps_cons pe_str pe_int (pps_cons pe_str pe_int pps_nil))) (by rfl) (by rfl) (fun z => by cases z) (by decide)))), ?_⟩
  intro p hp
  refine ⟨_, rfl, 63, rfl, a, _, rfl, (Same.new hp).seq hS, fun q hq => ?_⟩
  refine ⟨q, _, rfl, .inl (SqL.of upd_same), fun l hl => ?_⟩
  obtain ⟨ms, hms⟩ := cut_ints ns none (some 63)
  rw [hms]
  have hqp : q ≠ p := fun z => by rw [z, upd_same] at hq; cases hq
  have hlq : l ≠ q := fun z => by rw [z, upd_same] at hl; cases hl
  have hlp : l ≠ p := fun z => by rw [z, upd_ne hqp.symm, upd_same] at hl; cases hl
  have hl0 : H l = none := by rw [upd_ne hlq, upd_ne hlp] at hl; exact hl
  have hq0 : H q = none := by rw [upd_ne hqp] at hq; exact hq
  refine ⟨by rw [upd_ne hlp.symm, upd_ne hqp.symm, upd_same], penV l 0 0, rfl, by show 3 ≤ 15; decide, ?_⟩
  refine k p l _ hp hl0 ((((Same.new hp).put hq0).put hl0).put hp) ⟨⟨ms, 0, upd_same, (upd_ne hlp).trans upd_same, Int.le_refl _⟩, Int.le_refl _⟩



/-- pick(pen, options): one of the options -/
def spPick (K : PySem.W.Frag) : Sp := fun vs H Q _ => ∃ (p l a : Addr) (t : Int) (xs : List V), vs = [.ref p, .ref a] ∧ Pen H p l t ∧ t ≤ 1000000000 ∧ a ≠ p ∧ (SqL K H a xs ∨ SqT K H a xs) ∧ 0 < xs.length ∧ xs.length ≤ 1000000 ∧
  ∀ (j : Nat) (v : V) (H' : Hp) (t' : Int), xs[j]? = some v → Pen H' p l t' → t ≤ t' → t' ≤ t + 1 → But p H H' → Q v H'
theorem small_span {n : Nat} (h : n ≤ 1000000) : ((n : Int)).natAbs < 2 ^ 250 := by
  have e : ((n : Int)).natAbs = n := Int.natAbs_natCast n
  rw [e]
  exact Nat.lt_of_le_of_lt h (by decide)
theorem _root_.L2.But.tup {K : PySem.W.Frag} {p a : Addr} {H H' : Hp} {xs : List V} (s : But p H H') (n : a ≠ p) (h : SqT K H a xs) : SqT K H' a xs := by
  rcases h with (h | ⟨o, h⟩) | h
  · exact .inl (.inl (s _ _ n h))
  · exact .inl (.inr ⟨o, s _ _ n h⟩)
  · exact .inr h
abbrev s_pick : Stmt := topS 46
theorem sc_pick : FnScope ["pen", "options"] ["pen", "options"] (defScope s_pick) := ⟨rfl, rfl, rfl, by decide +kernel, rfl, by decide +kernel, by decide +kernel⟩
theorem ok_pick (T : Txt mg) (D : Def K mg "_law_pick" s_pick) (C__law_draw : Cal P w K mg base 1 "_law_draw" ["pen", "span"] spDraw) : Cal P w K mg base 2 "_law_pick" ["pen", "options"] (spPick K) := by
  refine D.cal sc_pick (fun vs H Q E h => ?_) (fun _ _ _ _ _ _ us hl => match us, hl with | [_, _], _ => rfl) (fun f cdv A outer s H vs Q E hr h => ?_)
  · obtain ⟨p, l, a, t, xs, rfl, _⟩ := h
    rfl

  obtain ⟨p, l, a, t, xs, rfl, pen, ht, hap, hx, h0, hz, k⟩ := h
  refine ⟨_, (pss_one (ps_ret (pe_ix ix_seq (pv 1) (pe_cal C__law_draw (hr.mono (by decide)) rfl (pa_cons (pv 0) (pa_cons (pe_callB call_len (by rfl) T.f_len PySem.boot_len (pa_cons (pv 1) pa_nil)) pa_nil))) (fun _ _ => rfl)))), ?_⟩
  refine ⟨_, rfl, _, rfl, _, rfl, _, xs.length, rfl, ?_, p, l, t, (xs.length : Int), rfl, pen, ht, by omega, small_span hz, fun v H' t' h1 h2 pen' h3 h4 but => ?_⟩
  · rcases hx with h | h
    · exact .inl ⟨xs, h, rfl⟩
    · exact .inr ⟨xs, h, rfl⟩
  have hj : v.toNat < xs.length := by omega
  have hv : xs[v.toNat]? = some (xs[v.toNat]) := List.getElem?_eq_getElem hj
  have hat : atI xs v = some (xs[v.toNat]) := at_of (j := v.toNat) (by omega) hv
  rcases hx with h | h
  · exact .inl ⟨a, xs, v, _, rfl, rfl, but.seq hap h, hat, k _ _ H' t' hv pen' h3 h4 but⟩
  · exact .inr (.inl ⟨a, xs, v, _, rfl, rfl, but.tup hap h, hat, k _ _ H' t' hv pen' h3 h4 but⟩)



end
end K05
end
section
set_option Elab.async false
set_option linter.all false
set_option maxRecDepth 100000
set_option maxHeartbeats 4000000
namespace K05
open PySem PySem.Spec PyProof.Rows L2
open PySem.W (ke_shaped_ints)
local macro_rules | `(tactic| walk_at "go") => `(tactic| first | refine ⟨_, rfl, ?_⟩ | refine .inl ⟨_, rfl, ?_⟩ | refine ⟨_, _, rfl, rfl, (by first | (show (0 : Int) < _; decide) | exact Or.inl ⟨by decide, by decide⟩ | exact Or.inr ⟨by decide, by decide⟩), ?_⟩ | refine ⟨_, _, rfl, rfl, ?_⟩)
section
variable {P : Program} {w : World} {K : PySem.W.Frag} {mg : Str → Option Value} {base : Heap}

/-- barred(): a list of texts -/
def barred : List Str := Txt.split (("input load store set join part each copy up down fill step when else end times give call" : Str) ++ (" to from upto is apart by" : Str)) (" " : Str)
def spBarred : Sp := fun vs H Q _ => vs = [] ∧ ∀ (p : Addr) (H' : Hp), H p = none → Same H H' → H' p = some (.lst (barred.map V.str)) → Q (.ref p) H'
theorem barred_len : (("input load store set join part each copy up down fill step when else end times give call" : Str)).length = 88 := by decide +kernel
theorem barred_len2 : ((" to from upto is apart by" : Str)).length = 25 := by decide +kernel
theorem len_app (x y : Str) : (x ++ y).length = x.length + y.length := strLen_append x y
theorem flat_strs (ys : List Str) : (ys.map V.str).all flatV = true := by
  rw [List.all_map]
  exact List.all_eq_true.mpr fun _ _ => rfl
theorem dps_strs (K : PySem.W.Frag) (H : Hp) : ∀ ys : List Str, DpAll K H (ys.map V.str) (ys.map PyData.str)
  | [] => .nil
  | y :: r => .cons (.str y) (dps_strs K H r)
/-- a text of small codes -/
def Low (z : Str) : Prop := ∀ c ∈ z.cps.toList, c < 256
theorem low_ok {z : Str} (h : Low z) : PyData.strOk z = true := by
  unfold PyData.strOk
  rw [← Array.all_toList]
  exact List.all_eq_true.mpr fun c hc => decide_eq_true (Nat.lt_trans (h c hc) (by decide))
theorem shaped_strs {ys : List Str} (h : ∀ y ∈ ys, Low y) : SeqAt.shaped (.list (ys.map PyData.str)) = true := by
  have h1 : ∀ ys : List Str, (∀ y ∈ ys, Low y) → PyData.canLayAll0 (ys.map PyData.str) = true ∧ PyData.depthAll (ys.map PyData.str) = 0 := by
    intro ys
    induction ys with
    | nil => intro _; exact ⟨rfl, rfl⟩
    | cons y r ih =>
      intro h
      obtain ⟨a, b⟩ := ih fun z hz => h z (List.mem_cons_of_mem _ hz)
      refine ⟨?_, ?_⟩
      · rw [List.map_cons]
        show (PyData.canLay0 (.str y) && PyData.canLayAll0 (r.map PyData.str)) = true
        rw [a, Bool.and_true]
        exact low_ok (h y List.mem_cons_self)
      · rw [List.map_cons]
        show max (PyData.depth (.str y)) (PyData.depthAll (r.map PyData.str)) = 0
        rw [b]
        rfl
  obtain ⟨a, b⟩ := h1 ys h
  show (PyData.canLayAll0 (ys.map PyData.str) && decide (PyData.depthAll (ys.map PyData.str) + 1 ≤ 64)) = true
  rw [a, b]
  rfl
end
end K05
end
section
set_option Elab.async false
set_option linter.all false
set_option maxRecDepth 100000
set_option maxHeartbeats 4000000
namespace K05
open PySem PySem.Spec PyProof.Rows L2
open PySem.W (ke_shaped_ints)
local macro_rules | `(tactic| walk_at "go") => `(tactic| first | refine ⟨_, rfl, ?_⟩ | refine .inl ⟨_, rfl, ?_⟩ | refine ⟨_, _, rfl, rfl, (by first | (show (0 : Int) < _; decide) | exact Or.inl ⟨by decide, by decide⟩ | exact Or.inr ⟨by decide, by decide⟩), ?_⟩ | refine ⟨_, _, rfl, rfl, ?_⟩)
section
variable {P : Program} {w : World} {K : PySem.W.Frag} {mg : Str → Option Value} {base : Heap}

/-- wide_fact(pen, pointers): a fact over the pointers -/
def spWideFact (K : PySem.W.Frag) : Sp := fun vs H Q _ => ∃ (p l a : Addr) (t : Int) (ps : List Str), vs = [.ref p, .ref a] ∧ Pen H p l t ∧ t ≤ 1000000 ∧ a ≠ p ∧ SqL K H a (ps.map V.str) ∧ 1 ≤ ps.length ∧ ps.length ≤ 3 ∧ (∀ z ∈ ps, Low z) ∧
  ∀ (q : Addr) (f : CF.FD) (H' : Hp) (t' : Int), f.Ok ps → Pen H' p l t' → t ≤ t' → t' ≤ t + 10 → But p H H' → H q = none → H' q = some (.tup f.vs) → Q (.ref q) H'
theorem str_of {ps : List Str} {j : Nat} {v : V} (h : (ps.map V.str)[j]? = some v) : ∃ z ∈ ps, v = .str z := by
  obtain ⟨z, hz, rfl⟩ := List.mem_map.mp (List.mem_of_getElem? h)
  exact ⟨z, hz, rfl⟩
theorem pick248 {j : Nat} {v : V} (h : ([.int 2, .int 4, .int 8] : List V)[j]? = some v) : ∃ m : Int, v = .int m ∧ (m = 2 ∨ m = 4 ∨ m = 8) := by
  have hm := List.mem_of_getElem? h
  simp only [List.mem_cons, List.not_mem_nil, or_false] at hm
  rcases hm with rfl | rfl | rfl
  · exact ⟨2, rfl, .inl rfl⟩
  · exact ⟨4, rfl, .inr (.inl rfl)⟩
  · exact ⟨8, rfl, .inr (.inr rfl)⟩
abbrev s_wide_fact : Stmt := topS 66
theorem sc_wide_fact : FnScope ["pen", "pointers", "way", "one", "m", "others", "two", "k", "a", "e", "number", "name"] ["pen", "pointers"] (defScope s_wide_fact) := ⟨rfl, rfl, rfl, by decide +kernel, rfl, by decide +kernel, by decide +kernel⟩
theorem ok_wide_fact (T : Txt mg) (D : Def K mg "_law_wide_fact" s_wide_fact) (C__law_draw : Cal P w K mg base 1 "_law_draw" ["pen", "span"] spDraw) (C__law_pick : Cal P w K mg base 2 "_law_pick" ["pen", "options"] (spPick K)) : Cal P w K mg base 3 "_law_wide_fact" ["pen", "pointers"] (spWideFact K) := by
  refine D.cal sc_wide_fact (fun vs H Q E h => ?_) (fun _ _ _ _ _ _ us hl => match us, hl with | [_, _], _ => rfl) (fun f cdv A outer s H vs Q E hr h => ?_)
  · obtain ⟨p, l, a, t, ps, rfl, _⟩ := h
    rfl
  have hu := hu_of hr

  obtain ⟨p, l, a, t, ps, rfl, pen, ht, hap, hS, h1, h3, hlow, k⟩ := h
  refine ⟨_, (pss_cons (ps_asg (pe_tup (pa_cons (pe_cal C__law_draw (hr.mono (by decide)) rfl (pa_cons (pv 0) (pa_cons pe_int pa_nil))) (pa_cons (pe_cal C__law_pick (hr.mono (by decide)) rfl (pa_cons (pv 0) (pa_cons (pv 1) pa_nil))) (pa_cons (pe_cal C__law_pick (hr.mono (by decide)) rfl (pa_cons (pv 0) (pa_cons (pe_lst (pa_cons pe_int (pa_cons pe_int (pa_cons pe_int pa_nil)))) pa_nil))) pa_nil)))) (pg_tup rfl (pgs_cons (pg_name (i := 2) sc_wide_fact.nd rfl (by first | exact Or.inl rfl | exact Or.inr rfl)) (pgs_cons (pg_name (i := 3) sc_wide_fact.nd rfl (by first | exact Or.inl rfl | exact Or.inr rfl)) (pgs_cons (pg_name (i := 4) sc_wide_fact.nd rfl (by first | exact Or.inl rfl | exact Or.inr rfl)) pgs_nil)))))
      (pss_cons (ps_setLc (i := 5) (own := [("name", 11)]) (g := gName 11) rfl sc_wide_fact.nd rfl rfl (sw_true rfl rfl rfl (by decide +kernel)) (pi_list (pv 1)) (blkOk_by (N := ["pen", "pointers", "way", "one", "m", "others", "two", "k", "a", "e", "number", "name"]) (sc := defScope s_wide_fact) (by decide +kernel)) (fun _ _ _ _ _ => (pg_name (i := 11) sc_wide_fact.nd rfl (Or.inl rfl))) (fun _ _ _ _ _ => (pts_one (pt_cmpR op_ne (pv 11) (pv 3) (nomark _)))) (fun _ _ _ _ _ => (pv 11)))
      (C8.pss_cut (ps_if (PW.pt (pw_or (pt_cmpR (op_eqD hr.units) (pv 5) (pe_lst pa_nil) (nomark _)) (pw_or1 (pt_cmpR op_eq (pv 2) pe_int (nomark _))))) (pss_one (ps_ret (pe_tup (pa_cons pe_str (pa_cons (pv 3) (pa_cons (pv 4) (pa_cons (pe_cal C__law_draw (hr.mono (by decide)) rfl (pa_cons (pv 0) (pa_cons (pv 4) pa_nil))) pa_nil))))))) pss_nil)
      (pss_cons (ps_set (i := 6) sc_wide_fact.nd rfl (by first | exact Or.inl rfl | exact Or.inr rfl) (pe_cal C__law_pick (hr.mono (by decide)) rfl (pa_cons (pv 0) (pa_cons (pv 5) pa_nil))))
      (pss_cons (ps_if (pt_cmpR op_eq (pv 2) pe_int (nomark _)) (pss_one (ps_ret (pe_tup (pa_cons pe_str (pa_cons (pv 3) (pa_cons (pv 6) (pa_cons (pv 4) (pa_cons (pe_cal C__law_draw (hr.mono (by decide)) rfl (pa_cons (pv 0) (pa_cons (pv 4) pa_nil))) pa_nil)))))))) pss_nil)
      (pss_cons (ps_if (pt_cmpR op_lt (pv 2) pe_int (nomark _)) (pss_cons (ps_par3 (i := 7) (j := 8) (l := 9) (by rfl) sc_wide_fact.nd rfl rfl rfl (by decide) (by decide) (by decide) rfl rfl rfl (pa_cons (pe_op op_sub (pe_cal C__law_draw (hr.mono (by decide)) rfl (pa_cons (pv 0) (pa_cons pe_int pa_nil))) pe_int) (pa_cons (pe_op op_add pe_int (pe_cal C__law_draw (hr.mono (by decide)) rfl (pa_cons (pv 0) (pa_cons pe_int pa_nil)))) (pa_cons (pe_op op_sub (pe_cal C__law_draw (hr.mono (by decide)) rfl (pa_cons (pv 0) (pa_cons pe_int pa_nil))) pe_int) pa_nil))) (by rfl))
      (pss_one (ps_ret (pe_tup (pa_cons pe_str (pa_cons (pv 3) (pa_cons (pv 7) (pa_cons (pv 8) (pa_cons (pv 6) (pa_cons (pv 9) (pa_cons (pe_op op_add pe_int (pe_cal C__law_draw (hr.mono (by decide)) rfl (pa_cons (pv 0) (pa_cons pe_int pa_nil)))) pa_nil))))))))))) pss_nil)
      (pss_cons (ps_set (i := 10) sc_wide_fact.nd rfl (by first | exact Or.inl rfl | exact Or.inr rfl) (pe_cal C__law_pick (hr.mono (by decide)) rfl (pa_cons (pv 0) (pa_cons (pe_lst (pa_cons pe_int (pa_cons (pe_un un_neg pe_int) (pa_cons pe_int (pa_cons (pe_op op_sub (pe_cal C__law_draw (hr.mono (by decide)) rfl (pa_cons (pv 0) (pa_cons pe_int pa_nil))) pe_int) (pa_cons (pe_op op_sub (pe_cal C__law_draw (hr.mono (by decide)) rfl (pa_cons (pv 0) (pa_cons pe_int pa_nil))) pe_int) pa_nil)))))) pa_nil))))
      (pss_one (ps_ret (pe_tup (pa_cons (pe_cal C__law_pick (hr.mono (by decide)) rfl (pa_cons (pv 0) (pa_cons (pe_lst (pa_cons pe_str (pa_cons pe_str (pa_cons pe_str (pa_cons pe_str (pa_cons pe_str pa_nil)))))) pa_nil))) (pa_cons (pv 3) (pa_cons (pv 6) (pa_cons (pv 10) pa_nil)))))))))))))), ?_⟩
  refine ⟨_, rfl, p, l, t, 9, rfl, pen, by omega, by decide, by decide, fun way H1 t1 w0 w1 pen1 g1 g2 b1 => ?_⟩
  have len0 : 0 < (ps.map V.str).length := by rw [List.length_map]; omega
  have len1 : (ps.map V.str).length ≤ 1000000 := by rw [List.length_map]; omega
  refine ⟨_, rfl, _, rfl, p, l, a, t1, _, rfl, pen1, by omega, hap, .inl (b1.seq hap hS), len0, len1, fun j1 v1 H2 t2 hv1 pen2 g3 g4 b2 => ?_⟩
  obtain ⟨one, hone, rfl⟩ := str_of hv1
  refine ⟨_, rfl, by show 3 ≤ sizeLine; decide, fun q hq => ?_⟩
  have hqp : q ≠ p := fun z => by
    obtain ⟨o, ho⟩ := pen2.at_
    rw [z, ho] at hq
    cases hq
  refine ⟨p, l, q, t2, _, rfl, pen2.new hq, by omega, hqp, .inl (SqL.of upd_same), by show 0 < 3; decide, by show 3 ≤ 1000000; decide, fun j2 v2 H3 t3 hv2 pen3 g5 g6 b3 => ?_⟩
  obtain ⟨m, rfl, hm⟩ := pick248 hv2
  have B3 : But p H H3 := (b1.trans b2).trans ((But.of (Same.new hq)).trans b3)
  refine ⟨by show 3 ≤ sizeLine; decide, fun tp htp => ?_⟩
  have pen4 := pen3.new (o := .tup [.int way, .str one, .int m]) htp
  have B4 : But p H (upd H3 tp (.tup [.int way, .str one, .int m])) := B3.nw htp
  have hT : upd H3 tp (.tup [.int way, .str one, .int m]) tp = some (.tup [.int way, .str one, .int m]) := upd_same
  generalize upd H3 tp (.tup [.int way, .str one, .int m]) = H4 at pen4 B4 hT ⊢
  refine ⟨tp, _, rfl, SqT.of hT, rfl, _, _, rfl, _, _, rfl, _, _, rfl, rfl, ?_⟩
  have hS4 := B4.seq hap hS
  refine ⟨_, rfl, a, rfl, ⟨_, hS4⟩, fun D hD => lc_it walk_list (fun i H' => Same H4 H' ∧ H' D = some (.lst (((ps.take i).filter (fun z => !decide (z = one))).map V.str)))
    ⟨Same.new hD, upd_same⟩ (fun i H' _ z => z.1.seq hS4) ?_ ?_⟩
  · rintro i y G1 G2 hi ⟨s1, h1⟩ ⟨rfl, hx⟩
    rw [List.getElem?_map] at hx
    obtain ⟨z, hz, rfl⟩ := Option.map_eq_some_iff.mp hx
    have tk : (ps.take (i + 1)).filter (fun z => !decide (z = one)) = (ps.take i).filter (fun z => !decide (z = one)) ++ [z].filter (fun z => !decide (z = one)) := by
      rw [List.take_add_one, hz, List.filter_append]
      rfl
    refine ⟨rfl, _, rfl, _, rfl, rfl, _, rfl, ?_⟩
    have dz : decide (V.str z = V.str one) = decide (z = one) := decide_eq_decide.mpr ⟨fun e => by cases e; rfl, fun e => by rw [e]⟩
    rw [dz, tk]
    cases e : decide (z = one) with
    | true =>
      refine iteF ⟨s1, ?_⟩
      rw [List.filter_cons_of_neg (by rw [e]; decide), List.filter_nil, List.append_nil]
      exact h1
    | false =>
      refine iteT ⟨_, rfl, _, h1, ?_, s1.put hD, ?_⟩
      · have := List.length_filter_le (fun z => !decide (z = one)) (ps.take i)
        have := List.length_take_le i ps
        rw [List.length_map, sizeLine_eq]
        omega
      · rw [List.filter_cons_of_pos (by rw [e]; rfl), List.filter_nil, List.map_append]
        exact upd_same
  rintro H5 ⟨s5, h5⟩
  rw [List.length_map, List.take_length] at h5
  generalize hos : ps.filter (fun z => !decide (z = one)) = os at h5
  have osn : ∀ z ∈ os, z ∈ ps ∧ z ≠ one := fun z hz => by
    rw [← hos] at hz
    obtain ⟨a1, a2⟩ := List.mem_filter.mp hz
    exact ⟨a1, fun e => by rw [e] at a2; simp at a2⟩
  have pen5 := pen4.same s5
  have B5 : But p H H5 := B4.trans (But.of s5)
  have osl : os.length ≤ 3 := by
    rw [← hos]
    exact Nat.le_trans (List.length_filter_le _ _) h3
  have hDp : D ≠ p := fun z => by
    obtain ⟨o, ho⟩ := pen4.at_
    rw [z, ho] at hD
    cases hD
  have olow : ∀ z ∈ os, Low z := fun z hz => hlow z (osn z hz).1
  have m0 : 0 < m := by omega
  have m1 : m.natAbs < 2 ^ 250 := by
    refine Nat.lt_of_le_of_lt (?_ : m.natAbs ≤ 8) (by decide)
    omega
  have fin : ∀ (f : CF.FD) (H7 : Hp) (t7 : Int), f.Ok ps → Pen H7 p l t7 → t ≤ t7 → t7 ≤ t + 10 → But p H H7 → ∀ tq, H7 tq = none → Q (.ref tq) (upd H7 tq (.tup f.vs)) := by
    intro f H7 t7 ok pen7 a1 a2 B7 tq htq
    refine k tq f _ t7 ok (pen7.new htq) a1 a2 (B7.nw htq) (B7.free (fun z => ?_) htq) upd_same
    obtain ⟨o, ho⟩ := pen7.at_
    rw [z, ho] at htq
    cases htq
  refine ⟨fun σ' H' => σ' = [some (.ref p), some (.ref a), some (.int way), some (.str one), some (.int m), some (.ref D), none, none, none, none, none, none] ∧ os ≠ [] ∧ H' D = some (.lst (os.map V.str)) ∧ Pen H' p l t3 ∧ But p H H', ?_, ?_⟩
  · refine ⟨_, rfl, Nat.zero_le _, fun e he => ?_⟩
    have h6 := (upd_ne (o := .lst []) (ne_of_none h5 he)).trans h5
    have pen6 := pen5.new (o := .lst []) he
    have B6 : But p H (upd H5 e (.lst [])) := B5.nw he
    refine ⟨.list (os.map PyData.str), .list [], .lst (SqL.of h6) (dps_strs _ _ os), .lst (SqL.of upd_same) .nil, shaped_strs olow, shaped_strs (ys := []) (by simp), _, rfl, ?_⟩
    generalize upd H5 e (.lst []) = H6 at h6 pen6 B6 ⊢
    refine ite2 (fun _ => ?_) (fun c => ?_)
    · refine iteT ?_
      exact ⟨_, rfl, _, rfl, _, rfl, _, rfl, p, l, t3, m, rfl, pen6, by omega, m0, m1, fun r H7 t7 r0 r1 pen7 g7 g8 b7 => ⟨by show 4 ≤ sizeLine; decide, fun tq htq => fin (.by_ one m r) H7 t7 ⟨hone, hm, r0, r1⟩ pen7 (by omega) (by omega) (B6.trans b7) tq htq⟩⟩
    refine ⟨_, rfl, rfl, _, rfl, ite2 (fun _ => ?_) (fun _ => ?_)⟩
    · exact ⟨_, rfl, _, rfl, _, rfl, _, rfl, p, l, t3, m, rfl, pen6, by omega, m0, m1, fun r H7 t7 r0 r1 pen7 g7 g8 b7 => ⟨by show 4 ≤ sizeLine; decide, fun tq htq => fin (.by_ one m r) H7 t7 ⟨hone, hm, r0, r1⟩ pen7 (by omega) (by omega) (B6.trans b7) tq htq⟩⟩
    · refine ⟨rfl, ?_, h6, pen6, B6⟩
      rintro rfl
      exact absurd c (by decide)
  · rintro σ' H6 ⟨rfl, one_, h6, pen6, B6⟩
    have lo0 : 0 < (os.map V.str).length := by
      rw [List.length_map]
      exact List.length_pos_iff.mpr one_
    refine ⟨_, rfl, _, rfl, p, l, D, t3, _, rfl, pen6, by omega, hDp, .inl (SqL.of h6), lo0, by rw [List.length_map]; omega, fun j7 v7 H7 t7 hv7 pen7 g7 g8 b7 => ?_⟩
    obtain ⟨two, htwo, rfl⟩ := str_of hv7
    obtain ⟨two1, two2⟩ := osn two htwo
    have B7 := B6.trans b7
    refine ⟨_, rfl, rfl, _, rfl, ite2 (fun _ => ?_) (fun _ => ?_)⟩
    · exact ⟨_, rfl, _, rfl, _, rfl, _, rfl, _, rfl, p, l, t7, m, rfl, pen7, by omega, m0, m1, fun r H8 t8 r0 r1 pen8 g9 g10 b8 => ⟨by show 5 ≤ sizeLine; decide, fun tq htq => fin (.gap one two m r) H8 t8 ⟨hone, two1, two2, hm, r0, r1⟩ pen8 (by omega) (by omega) (B7.trans b8) tq htq⟩⟩
    refine ⟨_, rfl, _, _, rfl, rfl, _, rfl, ite2 (fun _ => ?_) (fun _ => ?_)⟩
    · refine ⟨_, rfl, p, l, t7, 61, rfl, pen7, by omega, by decide, by decide, fun k1 H8 t8 k10 k11 pen8 g9 g10 b8 => ⟨_, _, rfl, rfl, ?_⟩⟩
      refine ⟨_, rfl, p, l, t8, 16, rfl, pen8, by omega, by decide, by decide, fun n1 H9 t9 n10 n11 pen9 g11 g12 b9 => ⟨_, _, rfl, rfl, ?_⟩⟩
      refine ⟨_, rfl, p, l, t9, 61, rfl, pen9, by omega, by decide, by decide, fun e1 H10 t10 e10 e11 pen10 g13 g14 b10 => ⟨_, _, rfl, rfl, _, _, _, rfl, ?_⟩⟩
      refine ⟨_, rfl, _, rfl, _, rfl, _, rfl, _, rfl, _, rfl, p, l, t10, 16, rfl, pen10, by omega, by decide, by decide, fun c1 H11 t11 c10 c11 pen11 g15 g16 b11 => ⟨_, _, rfl, rfl, by show 7 ≤ sizeLine; decide, fun tq htq => ?_⟩⟩
      exact fin (.apart one (k1 - 30) (1 + n1) two (e1 - 30) (1 + c1)) H11 t11 ⟨hone, two1, two2, ⟨by omega, by omega⟩, ⟨by omega, by omega⟩, ⟨by omega, by omega⟩, ⟨by omega, by omega⟩⟩ pen11 (by omega) (by omega) ((((B7.trans b8).trans b9).trans b10).trans b11) tq htq
    refine ⟨_, rfl, _, rfl, _, rfl, p, l, t7, 81, rfl, pen7, by omega, by decide, by decide, fun d1 H8 t8 d10 d11 pen8 g9 g10 b8 => ⟨_, _, rfl, rfl, ?_⟩⟩
    refine ⟨_, rfl, p, l, t8, 81, rfl, pen8, by omega, by decide, by decide, fun d2 H9 t9 d20 d21 pen9 g11 g12 b9 => ⟨_, _, rfl, rfl, by show 5 ≤ sizeLine; decide, fun q2 hq2 => ?_⟩⟩
    have q2p : q2 ≠ p := fun z => by
      obtain ⟨o, ho⟩ := pen9.at_
      rw [z, ho] at hq2
      cases hq2
    refine ⟨p, l, q2, t9, _, rfl, pen9.new hq2, by omega, q2p, .inl (SqL.of upd_same), by show 0 < 5; decide, by show 5 ≤ 1000000; decide, fun j10 v10 H10 t10 hv10 pen10 g13 g14 b10 => ?_⟩
    obtain ⟨n, rfl, n0, n1⟩ : ∃ n : Int, v10 = .int n ∧ -40 ≤ n ∧ n ≤ 40 := by
      have hm := List.mem_of_getElem? hv10
      simp only [List.mem_cons, List.not_mem_nil, or_false] at hm
      rcases hm with rfl | rfl | rfl | rfl | rfl
      · exact ⟨40, rfl, by decide, by decide⟩
      · exact ⟨-40, rfl, by decide, by decide⟩
      · exact ⟨0, rfl, by decide, by decide⟩
      · exact ⟨d1 - 40, rfl, by omega, by omega⟩
      · exact ⟨d2 - 40, rfl, by omega, by omega⟩
    refine ⟨_, rfl, by show 5 ≤ sizeLine; decide, fun q3 hq3 => ?_⟩
    have q3p : q3 ≠ p := fun z => by
      obtain ⟨o, ho⟩ := pen10.at_
      rw [z, ho] at hq3
      cases hq3
    refine ⟨p, l, q3, t10, _, rfl, pen10.new hq3, by omega, q3p, .inl (SqL.of upd_same), by show 0 < 5; decide, by show 5 ≤ 1000000; decide, fun j11 v11 H11 t11 hv11 pen11 g15 g16 b11 => ?_⟩
    obtain ⟨w, rfl, hw⟩ : ∃ w : Str, v11 = .str w ∧ w ∈ CF.Sorts := by
      have hm := List.mem_of_getElem? hv11
      simp only [List.mem_cons, List.not_mem_nil, or_false] at hm
      rcases hm with rfl | rfl | rfl | rfl | rfl
      · exact ⟨_, rfl, by decide⟩
      · exact ⟨_, rfl, by decide⟩
      · exact ⟨_, rfl, by decide⟩
      · exact ⟨_, rfl, by decide⟩
      · exact ⟨_, rfl, by decide⟩
    refine ⟨_, rfl, _, rfl, _, rfl, by show 4 ≤ sizeLine; decide, fun tq htq => ?_⟩
    exact fin (.dist w one two n) H11 t11 ⟨hw, hone, two1, two2, n0, n1⟩ pen11 (by omega) (by omega) (((((B7.trans b8).trans b9).trans ((But.of (Same.new hq2)).trans b10))).trans ((But.of (Same.new hq3)).trans b11)) tq htq

end
end K05
end
section
set_option Elab.async false
set_option linter.all false
set_option maxRecDepth 100000
set_option maxHeartbeats 4000000
namespace K05
open PySem PySem.Spec PyProof.Rows L2
open PySem.W (ke_shaped_ints)
local macro_rules | `(tactic| walk_at "go") => `(tactic| first | refine ⟨_, rfl, ?_⟩ | refine .inl ⟨_, rfl, ?_⟩ | refine ⟨_, _, rfl, rfl, (by first | (show (0 : Int) < _; decide) | exact Or.inl ⟨by decide, by decide⟩ | exact Or.inr ⟨by decide, by decide⟩), ?_⟩ | refine ⟨_, _, rfl, rfl, ?_⟩)
section
variable {P : Program} {w : World} {K : PySem.W.Frag} {mg : Str → Option Value} {base : Heap}

/-- wide_facts(pen, pointers, many): different facts over the pointers -/
def spWideFacts (K : PySem.W.Frag) : Sp := fun vs H Q _ => ∃ (p l a : Addr) (t many : Int) (ps : List Str), vs = [.ref p, .ref a, .int many] ∧ Pen H p l t ∧ t ≤ 100000 ∧ a ≠ p ∧ SqL K H a (ps.map V.str) ∧ 1 ≤ ps.length ∧ ps.length ≤ 3 ∧ (∀ z ∈ ps, Low z) ∧ 0 ≤ many ∧ many ≤ 13 ∧
  ∀ (q : Addr) (qs : List Addr) (fs : List CF.FD) (H' : Hp) (t' : Int), (∀ f ∈ fs, f.Ok ps) → fs.Nodup → (fs.length : Int) ≤ many → CF.FAt H' qs fs → Pen H' p l t' → t ≤ t' → t' ≤ t + 130 → But p H H' → H q = none → H' q = some (.lst (qs.map V.ref)) → Q (.ref q) H'
abbrev s_wide_facts : Stmt := topS 67
theorem sc_wide_facts : FnScope ["pen", "pointers", "many", "found", "k", "fact"] ["pen", "pointers", "many"] (defScope s_wide_facts) := ⟨rfl, rfl, rfl, by decide +kernel, rfl, by decide +kernel, by decide +kernel⟩
theorem ok_wide_facts (T : Txt mg) (D : Def K mg "_law_wide_facts" s_wide_facts) (C__law_wide_fact : Cal P w K mg base 3 "_law_wide_fact" ["pen", "pointers"] (spWideFact K)) : Cal P w K mg base 4 "_law_wide_facts" ["pen", "pointers", "many"] (spWideFacts K) := by
  refine D.cal sc_wide_facts (fun vs H Q E h => ?_) (fun _ _ _ _ _ _ us hl => match us, hl with | [_, _, _], _ => rfl) (fun f cdv A outer s H vs Q E hr h => ?_)
  · obtain ⟨p, l, a, t, many, ps, rfl, _⟩ := h
    rfl
  have hu := hu_of hr

  obtain ⟨p, l, a, t, many, ps, rfl, pen, ht, hap, hS, h1, h3, hlow, m0, m1, k⟩ := h
  refine ⟨_, (pss_cons (ps_set (i := 3) sc_wide_facts.nd rfl (by first | exact Or.inl rfl | exact Or.inr rfl) (pe_lst pa_nil))
      (pss_cons (ps_for PassesOwn.never rfl (pi_range1 rfl T.f_range (pa_cons (pv 2) pa_nil)) (pg_name (i := 4) sc_wide_facts.nd rfl (by first | exact Or.inl rfl | exact Or.inr rfl)) (pss_cons (ps_set (i := 5) sc_wide_facts.nd rfl (by first | exact Or.inl rfl | exact Or.inr rfl) (pe_cal C__law_wide_fact (hr.mono (by decide)) rfl (pa_cons (pv 0) (pa_cons (pv 1) pa_nil))))
      (pss_one (ps_if (pt_cmpR (op_notInD (units65 hr)) (pv 5) (pv 3) (by rfl)) (pss_one (ps_expr (pe_bm PySem.F.plainAttrs_list PySem.F.slot_list_append PySem.F.type_list_append mt_append (pv 3) (pa_cons (pv 5) pa_nil)))) pss_nil))))
      (pss_one (ps_ret (pv 3))))), ?_⟩
  refine ⟨by show 0 ≤ sizeLine; decide, fun q hq => ?_⟩
  have hqp : q ≠ p := fun z => by
    obtain ⟨o, ho⟩ := pen.at_
    rw [z, ho] at hq
    cases hq
  have hql : q ≠ l := fun z => by
    obtain ⟨ns, lf, e1, e2, _⟩ := pen.ex
    rw [z, e2] at hq
    cases hq
  refine ⟨_, rfl, many, rfl, by omega, by omega, for_range (lo := 0) (n := many.toNat) (fun i σ H1 => ∃ (v w : Option V) (qs : List Addr) (fs : List CF.FD) (t1 : Int), σ = [some (.ref p), some (.ref a), some (.int many), some (.ref q), v, w] ∧ H1 q = some (.lst (qs.map V.ref)) ∧ (∀ f ∈ fs, f.Ok ps) ∧ fs.Nodup ∧ fs.length ≤ i ∧ CF.FAt H1 qs fs ∧ Pen H1 p l t1 ∧ t ≤ t1 ∧ t1 ≤ t + 10 * i ∧ But p H H1)
    ⟨none, none, [], [], t, rfl, upd_same, by simp, .nil, Nat.zero_le _, .nil, pen.new hq, Int.le_refl _, by omega, (But.refl p H).nw hq⟩ ?_ ?_⟩
  · rintro i σ H1 hi ⟨v, w, qs, fs, t1, rfl, h1q, ok, nd, len, fat, pen1, g1, g2, b1⟩
    refine ⟨_, rfl, _, rfl, p, l, a, t1, ps, rfl, pen1, by omega, hap, b1.seq hap hS, h1, h3, hlow, fun r f H2 t2 okf pen2 g3 g4 b2 fresh h2 => ?_⟩
    have h2q := b2 _ _ hqp h1q
    have fat2 : CF.FAt H2 qs fs := by
      obtain ⟨ns, lf, e1, _⟩ := pen1.ex
      exact fat.but e1 b2
    have lo : ∀ z ∈ ps, CF.Lo z := hlow
    have shp : SeqAt.shaped (.list (fs.map fun f => PyData.tuple f.ds)) = true := by
      have e : (fs.map fun f => PyData.tuple f.ds) = (fs.map CF.FD.ds).map PyData.tuple := by
        rw [List.map_map]
        rfl
      rw [e]
      refine CF.shaped_tups fun ds hds => ?_
      obtain ⟨g, hg, rfl⟩ := List.mem_map.mp hds
      exact CF.FD.flat lo (ok g hg)
    refine ⟨_, rfl, _, rfl, .tuple f.ds, fs.map fun f => PyData.tuple f.ds, .tup (SqT.of h2) (CF.dps_vs _ _ _), .lst (SqL.of h2q) fat2.dps, CF.shaped_tup (CF.FD.flat lo okf), shp, _, rfl, ite2 (fun c => ?_) (fun c => ?_)⟩
    · have hr : r ≠ q := ne_of h2 h2q (by intro z; cases z)
      have nf : f ∉ fs := fun hin => by
        have e := CF.any_in hin (CF.FD.flat lo okf)
        rw [e] at c
        cases c
      refine ⟨_, rfl, .inl ⟨rfl, _, SqL.of h2q⟩, _, rfl, q, _, _, rfl, rfl, h2q, ?_, ?_⟩
      · rw [List.length_map, fat2.len, sizeLine_eq]
        omega
      · refine ⟨_, _, qs ++ [r], fs ++ [f], t2, rfl, ?_, ?_, ?_, ?_, ?_, pen2.put hqp hql, by omega, by omega, (b1.trans b2).put hq⟩
        · rw [List.map_append]
          exact upd_same
        · intro g hg
          rcases List.mem_append.mp hg with h | h
          · exact ok g h
          · rw [List.mem_singleton.mp h]
            exact okf
        · exact List.nodup_append.mpr ⟨nd, by simp, by intro x hx y hy e; rw [List.mem_singleton.mp hy] at e; exact nf (e ▸ hx)⟩
        · rw [List.length_append, List.length_singleton]
          omega
        · exact (fat2.app h2).up h2q
    · exact ⟨_, _, qs, fs, t2, rfl, h2q, ok, nd, by omega, fat2, pen2, by omega, by omega, b1.trans b2⟩
  · rintro σ H1 ⟨v, w, qs, fs, t1, rfl, h1q, ok, nd, len, fat, pen1, g1, g2, b1⟩
    exact ⟨_, rfl, k q qs fs H1 t1 ok nd (by omega) fat pen1 g1 (by omega) b1 hq h1q⟩

end
end K05
end
section
set_option Elab.async false
set_option linter.all false
set_option maxRecDepth 100000
set_option maxHeartbeats 4000000
namespace K05
open PySem PySem.Spec PyProof.Rows L2
open PySem.W (ke_shaped_ints)
local macro_rules | `(tactic| walk_at "go") => `(tactic| first | refine ⟨_, rfl, ?_⟩ | refine .inl ⟨_, rfl, ?_⟩ | refine ⟨_, _, rfl, rfl, (by first | (show (0 : Int) < _; decide) | exact Or.inl ⟨by decide, by decide⟩ | exact Or.inr ⟨by decide, by decide⟩), ?_⟩ | refine ⟨_, _, rfl, rfl, ?_⟩)
section
variable {P : Program} {w : World} {K : PySem.W.Frag} {mg : Str → Option Value} {base : Heap}

/-- spot_text(name, number) -/
def spSpotText : Sp := fun vs H Q _ => ∃ (z : Str) (k : Int), vs = [.str z, .int k] ∧ z.length ≤ 12 ∧ -100 ≤ k ∧ k ≤ 100 ∧ Q (.str (CF.spot z k)) H
abbrev s_spot_text : Stmt := topS 49
theorem sc_spot_text : FnScope ["name", "number"] ["name", "number"] (defScope s_spot_text) := ⟨rfl, rfl, rfl, by decide +kernel, rfl, by decide +kernel, by decide +kernel⟩
theorem ok_spot_text (T : Txt mg) (D : Def K mg "_law_spot_text" s_spot_text) : Cal P w K mg base 1 "_law_spot_text" ["name", "number"] spSpotText := by
  refine D.cal sc_spot_text (fun vs H Q E h => ?_) (fun _ _ _ _ _ _ us hl => match us, hl with | [_, _], _ => rfl) (fun f cdv A outer s H vs Q E hr h => ?_)
  · obtain ⟨z, k, rfl, _⟩ := h
    rfl
  have hu := hu_of hr

  obtain ⟨z, k, rfl, hz, k0, k1, q⟩ := h
  refine ⟨_, (pss_one (ps_ret (pe_op op_add_str (pe_op op_add_str (pv 0) (pe_ifExp (pt_cmpR op_gt (pv 1) pe_int (nomark _)) (pe_op op_add_str pe_str (pe_callTy call_str_int (by rfl) T.f_str (by decide +kernel) (pa_cons (pv 1) pa_nil))) pe_str)) (pe_ifExp (pt_cmpR op_lt (pv 1) pe_int (nomark _)) (pe_callTy call_str_int (by rfl) T.f_str (by decide +kernel) (pa_cons (pv 1) pa_nil)) pe_str)))), ?_⟩
  have hn : (Str.ofString (toString k)).length ≤ 4 := CF.num_len k0 k1
  have hl := CF.log_small k0 k1
  have e1 : ("+" : Str).length = 1 := rfl
  have e0 : ("" : Str).length = 0 := rfl
  have ee : ∀ (x : Str), (z ++ x).length = z.length + x.length := fun x => CF.len_app z x
  have big : sizeLine = 16777216 := sizeLine_eq
  refine ⟨_, rfl, _, rfl, _, _, rfl, rfl, _, rfl, ?_⟩
  unfold CF.spot at q
  refine ite2 (fun c => ?_) (fun c => ?_)
  · have c1 : 0 < k := of_decide_eq_true c
    rw [if_pos c1, if_neg (by omega)] at q
    refine ⟨_, rfl, _, rfl, hl, _, _, rfl, rfl, by omega, _, _, rfl, rfl, by rw [CF.len_app]; omega, _, rfl, _, _, rfl, rfl, _, rfl, ite2 (fun d => absurd (of_decide_eq_true d) (by omega)) (fun _ => ?_)⟩
    exact ⟨_, _, rfl, rfl, by rw [ee, CF.len_app]; omega, q⟩
  · have c1 : ¬ 0 < k := fun x => c (decide_eq_true x)
    rw [if_neg c1] at q
    refine ⟨_, _, rfl, rfl, by omega, _, rfl, _, _, rfl, rfl, _, rfl, ite2 (fun d => ?_) (fun d => ?_)⟩
    · rw [if_pos (of_decide_eq_true d)] at q
      exact ⟨_, rfl, _, rfl, hl, _, _, rfl, rfl, by rw [ee]; omega, q⟩
    · rw [if_neg (fun x => d (decide_eq_true x))] at q
      exact ⟨_, _, rfl, rfl, by rw [ee]; omega, q⟩



/-- fact_text(fact) -/
def spFactText (K : PySem.W.Frag) : Sp := fun vs H Q _ => ∃ (q : Addr) (f : CF.FD) (ps : List Str), vs = [.ref q] ∧ H q = some (.tup f.vs) ∧ f.Ok ps ∧ (∀ z ∈ ps, CF.NameOk z) ∧ ∀ H', Same H H' → Q (.str f.text) H'
abbrev s_fact_text : Stmt := topS 50
theorem sc_fact_text : FnScope ["fact", "one", "two"] ["fact"] (defScope s_fact_text) := ⟨rfl, rfl, rfl, by decide +kernel, rfl, by decide +kernel, by decide +kernel⟩
theorem ok_fact_text (T : Txt mg) (D : Def K mg "_law_fact_text" s_fact_text) (C__law_spot_text : Cal P w K mg base 1 "_law_spot_text" ["name", "number"] spSpotText) : Cal P w K mg base 2 "_law_fact_text" ["fact"] (spFactText K) := by
  refine D.cal sc_fact_text (fun vs H Q E h => ?_) (fun _ _ _ _ _ _ us hl => match us, hl with | [_], _ => rfl) (fun f cdv A outer s H vs Q E hr h => ?_)
  · obtain ⟨q, f, ps, rfl, _⟩ := h
    rfl
  have hu := hu_of hr

  obtain ⟨q, f, ps, rfl, hq, ok, nms, k⟩ := h
  refine ⟨_, (pss_cons (ps_if (pt_cmpR op_in_seq (pe_ix ix_tup (pv 0) pe_int (fun _ _ => rfl)) (pe_tup (pa_cons pe_str (pa_cons pe_str (pa_cons pe_str pa_nil)))) (by rfl)) (pss_one (ps_ret (pe_join pe_str (pe_lst (pa_cons (pe_ix ix_tup (pv 0) pe_int (fun _ _ => rfl)) (pa_cons pe_str (pa_cons (pe_ix ix_tup (pv 0) pe_int (fun _ _ => rfl)) (pa_cons (pe_ix ix_tup (pv 0) pe_int (fun _ _ => rfl)) (pa_cons (pe_callTy call_str_int (by rfl) T.f_str (by decide +kernel) (pa_cons (pe_ix ix_tup (pv 0) pe_int (fun _ _ => rfl)) pa_nil)) pa_nil))))))))) pss_nil)
      (pss_cons (ps_if (pt_cmpR op_eq (pe_ix ix_tup (pv 0) pe_int (fun _ _ => rfl)) pe_str (nomark _)) (pss_cons (ps_par (i := 1) (j := 2) (by rfl) sc_fact_text.nd rfl rfl (by decide) rfl rfl (pa_cons (pe_cal C__law_spot_text (hr.mono (by decide)) rfl (pa_cons (pe_ix ix_tup (pv 0) pe_int (fun _ _ => rfl)) (pa_cons (pe_ix ix_tup (pv 0) pe_int (fun _ _ => rfl)) pa_nil))) (pa_cons (pe_cal C__law_spot_text (hr.mono (by decide)) rfl (pa_cons (pe_ix ix_tup (pv 0) pe_int (fun _ _ => rfl)) (pa_cons (pe_ix ix_tup (pv 0) pe_int (fun _ _ => rfl)) pa_nil))) pa_nil)) (by rfl))
      (pss_one (ps_ret (pe_join pe_str (pe_lst (pa_cons pe_str (pa_cons (pv 1) (pa_cons (pe_callTy call_str_int (by rfl) T.f_str (by decide +kernel) (pa_cons (pe_ix ix_tup (pv 0) pe_int (fun _ _ => rfl)) pa_nil)) (pa_cons (pv 2) (pa_cons (pe_callTy call_str_int (by rfl) T.f_str (by decide +kernel) (pa_cons (pe_ix ix_tup (pv 0) pe_int (fun _ _ => rfl)) pa_nil)) pa_nil)))))))))) pss_nil)
      (pss_cons (ps_if (pt_cmpR op_eq (pe_ix ix_tup (pv 0) pe_int (fun _ _ => rfl)) pe_str (nomark _)) (pss_one (ps_ret (pe_join pe_str (pe_lst (pa_cons (pe_ix ix_tup (pv 0) pe_int (fun _ _ => rfl)) (pa_cons pe_str (pa_cons (pe_callTy call_str_int (by rfl) T.f_str (by decide +kernel) (pa_cons (pe_ix ix_tup (pv 0) pe_int (fun _ _ => rfl)) pa_nil)) (pa_cons (pe_callTy call_str_int (by rfl) T.f_str (by decide +kernel) (pa_cons (pe_ix ix_tup (pv 0) pe_int (fun _ _ => rfl)) pa_nil)) pa_nil)))))))) pss_nil)
      (pss_one (ps_ret (pe_join pe_str (pe_lst (pa_cons (pe_ix ix_tup (pv 0) pe_int (fun _ _ => rfl)) (pa_cons pe_str (pa_cons (pe_ix ix_tup (pv 0) pe_int (fun _ _ => rfl)) (pa_cons pe_str (pa_cons (pe_callTy call_str_int (by rfl) T.f_str (by decide +kernel) (pa_cons (pe_ix ix_tup (pv 0) pe_int (fun _ _ => rfl)) pa_nil)) (pa_cons (pe_callTy call_str_int (by rfl) T.f_str (by decide +kernel) (pa_cons (pe_ix ix_tup (pv 0) pe_int (fun _ _ => rfl)) pa_nil)) pa_nil))))))))))))), ?_⟩
  have hsz : ∀ z ∈ ps, z.length ≤ 12 := fun z hz => (nms z hz).hi
  have fits := CF.FD.fits hsz ok
  cases f with
  | by_ a m r =>
      have sm := ok.2.small
      refine ⟨_, rfl, q, _, _, _, rfl, rfl, SqT.of hq, rfl, by show 3 ≤ sizeLine; decide, fun t ht => ?_⟩
      have hq1 := Same.new (o := .tup [.str "from", .str "upto", .str "is"]) ht _ _ hq
      have s1 := Same.new (o := .tup [.str "from", .str "upto", .str "is"]) ht
      refine ⟨t, _, rfl, .inr (SqT.of upd_same), rfl, rfl, _, rfl, ite2 (fun c => absurd c (by decide +kernel)) (fun _ => ?_)⟩
      generalize upd H t (.tup [.str "from", .str "upto", .str "is"]) = H1 at hq1 s1 ⊢
      refine ⟨_, rfl, q, _, _, _, rfl, rfl, SqT.of hq1, rfl, rfl, _, rfl, ite2 (fun c => absurd c (by decide +kernel)) (fun _ => ?_)⟩
      refine ⟨_, rfl, q, _, _, _, rfl, rfl, SqT.of hq1, rfl, rfl, _, rfl, ite2 (fun _ => ?_) (fun c => absurd (by decide +kernel) c)⟩
      refine ⟨⟨_, rfl⟩, _, rfl, q, _, _, _, rfl, rfl, SqT.of hq1, rfl, _, rfl, q, _, _, _, rfl, rfl, SqT.of hq1, rfl, _, rfl, CF.log_small sm.1.1 sm.1.2, _, rfl, q, _, _, _, rfl, rfl, SqT.of hq1, rfl, _, rfl, CF.log_small sm.2.1 sm.2.2, by show 4 ≤ sizeLine; decide, fun u hu => ?_⟩
      exact ⟨_, u, (CF.FD.by_ a m r).words, rfl, rfl, .inl (SqL.of upd_same), fits, k _ (s1.put (s1.free hu))⟩
  | gap a b m r =>
      have sm := ok.2.2.2.small
      refine ⟨_, rfl, q, _, _, _, rfl, rfl, SqT.of hq, rfl, by show 3 ≤ sizeLine; decide, fun t ht => ?_⟩
      have hq1 := Same.new (o := .tup [.str "from", .str "upto", .str "is"]) ht _ _ hq
      have s1 := Same.new (o := .tup [.str "from", .str "upto", .str "is"]) ht
      refine ⟨t, _, rfl, .inr (SqT.of upd_same), rfl, rfl, _, rfl, ite2 (fun c => absurd c (by decide +kernel)) (fun _ => ?_)⟩
      generalize upd H t (.tup [.str "from", .str "upto", .str "is"]) = H1 at hq1 s1 ⊢
      refine ⟨_, rfl, q, _, _, _, rfl, rfl, SqT.of hq1, rfl, rfl, _, rfl, ite2 (fun c => absurd c (by decide +kernel)) (fun _ => ?_)⟩
      refine ⟨_, rfl, q, _, _, _, rfl, rfl, SqT.of hq1, rfl, rfl, _, rfl, ite2 (fun c => absurd c (by decide +kernel)) (fun _ => ?_)⟩
      refine ⟨⟨_, rfl⟩, _, rfl, q, _, _, _, rfl, rfl, SqT.of hq1, rfl, _, rfl, q, _, _, _, rfl, rfl, SqT.of hq1, rfl, _, rfl, q, _, _, _, rfl, rfl, SqT.of hq1, rfl, _, rfl, CF.log_small sm.1.1 sm.1.2, _, rfl, q, _, _, _, rfl, rfl, SqT.of hq1, rfl, _, rfl, CF.log_small sm.2.1 sm.2.2, by show 6 ≤ sizeLine; decide, fun u hu => ?_⟩
      exact ⟨_, u, (CF.FD.gap a b m r).words, rfl, rfl, .inl (SqL.of upd_same), fits, k _ (s1.put (s1.free hu))⟩
  | apart a k1 n b e c =>
      obtain ⟨oa, ob, _, o1, m1, o2, m2⟩ := id ok
      obtain ⟨o11, o12⟩ := o1
      obtain ⟨m11, m12⟩ := m1
      obtain ⟨o21, o22⟩ := o2
      obtain ⟨m21, m22⟩ := m2
      refine ⟨_, rfl, q, _, _, _, rfl, rfl, SqT.of hq, rfl, by show 3 ≤ sizeLine; decide, fun t ht => ?_⟩
      have hq1 := Same.new (o := .tup [.str "from", .str "upto", .str "is"]) ht _ _ hq
      have s1 := Same.new (o := .tup [.str "from", .str "upto", .str "is"]) ht
      refine ⟨t, _, rfl, .inr (SqT.of upd_same), rfl, rfl, _, rfl, ite2 (fun c => absurd c (by decide +kernel)) (fun _ => ?_)⟩
      generalize upd H t (.tup [.str "from", .str "upto", .str "is"]) = H1 at hq1 s1 ⊢
      refine ⟨_, rfl, q, _, _, _, rfl, rfl, SqT.of hq1, rfl, rfl, _, rfl, ite2 (fun _ => ?_) (fun c => absurd (by decide +kernel) c)⟩
      refine ⟨_, rfl, q, _, _, _, rfl, rfl, SqT.of hq1, rfl, _, rfl, q, _, _, _, rfl, rfl, SqT.of hq1, rfl, a, k1, rfl, hsz a oa, by omega, by omega, _, rfl, q, _, _, _, rfl, rfl, SqT.of hq1, rfl, _, rfl, q, _, _, _, rfl, rfl, SqT.of hq1, rfl, b, e, rfl, hsz b ob, by omega, by omega, _, _, rfl, ?_⟩
      refine ⟨⟨_, rfl⟩, _, rfl, _, rfl, q, _, _, _, rfl, rfl, SqT.of hq1, rfl, _, rfl, CF.log_small (by omega) (by omega), _, rfl, _, rfl, q, _, _, _, rfl, rfl, SqT.of hq1, rfl, _, rfl, CF.log_small (by omega) (by omega), by show 5 ≤ sizeLine; decide, fun u hu => ?_⟩
      exact ⟨_, u, (CF.FD.apart a k1 n b e c).words, rfl, rfl, .inl (SqL.of upd_same), fits, k _ (s1.put (s1.free hu))⟩
  | dist w a b n =>
      obtain ⟨hw, oa, ob, _, n0, n1⟩ := id ok
      refine ⟨_, rfl, q, _, _, _, rfl, rfl, SqT.of hq, rfl, by show 3 ≤ sizeLine; decide, fun t ht => ?_⟩
      have hq1 := Same.new (o := .tup [.str "from", .str "upto", .str "is"]) ht _ _ hq
      have s1 := Same.new (o := .tup [.str "from", .str "upto", .str "is"]) ht
      refine ⟨t, _, rfl, .inr (SqT.of upd_same), rfl, rfl, _, rfl, ?_⟩
      generalize upd H t (.tup [.str "from", .str "upto", .str "is"]) = H1 at hq1 s1 ⊢
      have inw : inV (.str w) [.str "from", .str "upto", .str "is"] = true := by
        simp only [CF.Sorts, List.mem_cons, List.not_mem_nil, or_false] at hw
        rcases hw with rfl | rfl | rfl <;> decide +kernel
      refine ite2 (fun _ => ?_) (fun c => absurd inw c)
      refine ⟨⟨_, rfl⟩, _, rfl, q, _, _, _, rfl, rfl, SqT.of hq1, rfl, _, rfl, q, _, _, _, rfl, rfl, SqT.of hq1, rfl, _, rfl, q, _, _, _, rfl, rfl, SqT.of hq1, rfl, _, rfl, q, _, _, _, rfl, rfl, SqT.of hq1, rfl, _, rfl, CF.log_small (by omega) (by omega), by show 5 ≤ sizeLine; decide, fun u hu => ?_⟩
      exact ⟨_, u, (CF.FD.dist w a b n).words, rfl, rfl, .inl (SqL.of upd_same), fits, k _ (s1.put (s1.free hu))⟩

end
end K05
end
section
set_option Elab.async false
set_option linter.all false
set_option maxRecDepth 100000
set_option maxHeartbeats 4000000
namespace K05
open PySem PySem.Spec PyProof.Rows L2
open PySem.W (ke_shaped_ints)
local macro_rules | `(tactic| walk_at "go") => `(tactic| first | refine ⟨_, rfl, ?_⟩ | refine .inl ⟨_, rfl, ?_⟩ | refine ⟨_, _, rfl, rfl, (by first | (show (0 : Int) < _; decide) | exact Or.inl ⟨by decide, by decide⟩ | exact Or.inr ⟨by decide, by decide⟩), ?_⟩ | refine ⟨_, _, rfl, rfl, ?_⟩)
section
variable {P : Program} {w : World} {K : PySem.W.Frag} {mg : Str → Option Value} {base : Heap}

/-- facts_text(facts) -/
def spFactsText : Sp := fun vs H Q _ => ∃ (q : Addr) (qs : List Addr) (fs : List CF.FD) (ps : List Str), vs = [.ref q] ∧ H q = some (.lst (qs.map V.ref)) ∧ CF.FAt H qs fs ∧ (∀ f ∈ fs, f.Ok ps) ∧ (∀ z ∈ ps, CF.NameOk z) ∧ fs.length ≤ 13 ∧ ∀ H', Same H H' → Q (.str (CF.textOf fs)) H'
theorem ref_of {H : Hp} {qs : List Addr} {fs : List CF.FD} (fat : CF.FAt H qs fs) {i : Nat} {x : V} (h : (qs.map V.ref)[i]? = some x) : ∃ r f, x = .ref r ∧ fs[i]? = some f ∧ H r = some (.tup f.vs) := by
  rw [List.getElem?_map] at h
  obtain ⟨r, hr, rfl⟩ := Option.map_eq_some_iff.mp h
  obtain ⟨f, hf, e⟩ := fat.at_ hr
  exact ⟨r, f, rfl, hf, e⟩
theorem take_map {α β : Type} {l : List α} {g : α → β} {i : Nat} {x : α} (h : l[i]? = some x) : (l.take (i + 1)).map g = (l.take i).map g ++ [g x] := by
  rw [List.take_add_one, h, List.map_append]
  rfl
abbrev s_facts_text : Stmt := topS 51
theorem sc_facts_text : FnScope ["facts", "fact"] ["facts"] (defScope s_facts_text) := ⟨rfl, rfl, rfl, by decide +kernel, rfl, by decide +kernel, by decide +kernel⟩
theorem ok_facts_text (T : Txt mg) (D : Def K mg "_law_facts_text" s_facts_text) (C__law_fact_text : Cal P w K mg base 2 "_law_fact_text" ["fact"] (spFactText K)) : Cal P w K mg base 3 "_law_facts_text" ["facts"] spFactsText := by
  refine D.cal sc_facts_text (fun vs H Q E h => ?_) (fun _ _ _ _ _ _ us hl => match us, hl with | [_], _ => rfl) (fun f cdv A outer s H vs Q E hr h => ?_)
  · obtain ⟨q, qs, fs, ps, rfl, _⟩ := h
    rfl
  have hu := hu_of hr

  obtain ⟨q, qs, fs, ps, rfl, hq, fat, ok, nms, n13, k⟩ := h
  have hsz : ∀ z ∈ ps, z.length ≤ 12 := fun z hz => (nms z hz).hi
  have fit := CF.lines_fit hsz ok n13
  refine ⟨_, (pss_one (ps_ret (pe_join pe_str (pe_lc (own := [("fact", 1)]) (g := gName 1) (tt := tYes) rfl sc_facts_text.nd (pi_list (pv 0)) (blkOk_by (N := ["facts", "fact"]) (sc := defScope s_facts_text) (by decide +kernel)) (fun _ _ _ _ _ => (pg_name (i := 1) sc_facts_text.nd rfl (Or.inl rfl))) (fun _ _ _ _ _ => pts_nil) (fun _ _ _ _ _ => (pe_cal C__law_fact_text (hr.mono (by decide)) rfl (pa_cons (pv 1) pa_nil))))))), ?_⟩
  refine ⟨⟨_, rfl⟩, _, rfl, q, rfl, ⟨_, SqL.of hq⟩, fun D hD => lc_it walk_list (fun i H' => Same H H' ∧ H' D = some (.lst (((fs.take i).map CF.FD.text).map V.str)))
    ⟨Same.new hD, upd_same⟩ (fun i H' _ z => SqL.of (z.1 _ _ hq)) ?_ ?_⟩
  · rintro i y G1 G2 hi ⟨s1, h1⟩ ⟨rfl, hx⟩
    obtain ⟨r, f, rfl, hf, hr⟩ := ref_of fat hx
    refine ⟨rfl, _, rfl, r, f, ps, rfl, s1 _ _ hr, ok f (List.mem_of_getElem? hf), nms, fun G3 s3 => ⟨_, s3 _ _ h1, ?_, (s1.trans s3).put hD, ?_⟩⟩
    · rw [List.length_map, List.length_map, sizeLine_eq]
      have := List.length_take_le i fs
      rw [List.length_take]
      omega
    · rw [take_map hf, List.map_append]
      exact upd_same
  · rintro G ⟨s1, h1⟩
    rw [List.length_map, fat.len, List.take_length] at h1
    exact ⟨_, D, _, rfl, rfl, .inl (SqL.of h1), by omega, k _ s1⟩



/-- far_of(fact) -/
def spFarOf : Sp := fun vs H Q _ => ∃ (q : Addr) (f : CF.FD) (ps : List Str), vs = [.ref q] ∧ H q = some (.tup f.vs) ∧ f.Ok ps ∧ ∀ H', Same H H' → Q (.int f.far) H'
abbrev s_far_of : Stmt := topS 55
theorem sc_far_of : FnScope ["fact"] ["fact"] (defScope s_far_of) := ⟨rfl, rfl, rfl, by decide +kernel, rfl, by decide +kernel, by decide +kernel⟩
theorem ok_far_of (T : Txt mg) (D : Def K mg "_law_far_of" s_far_of) : Cal P w K mg base 1 "_law_far_of" ["fact"] spFarOf := by
  refine D.cal sc_far_of (fun vs H Q E h => ?_) (fun _ _ _ _ _ _ us hl => match us, hl with | [_], _ => rfl) (fun f cdv A outer s H vs Q E hr h => ?_)
  · obtain ⟨q, f, ps, rfl, _⟩ := h
    rfl
  have hu := hu_of hr

  obtain ⟨q, f, ps, rfl, hq, ok, k⟩ := h
  refine ⟨_, (pss_cons (ps_if (pt_cmpR op_eq (pe_ix ix_tup (pv 0) pe_int (fun _ _ => rfl)) pe_str (nomark _)) (pss_one (ps_ret (pe_op op_add (pe_op op_add (pe_op op_add (pe_callB call_abs (by rfl) T.f_abs (by decide +kernel) (pa_cons (pe_ix ix_tup (pv 0) pe_int (fun _ _ => rfl)) pa_nil)) (pe_ix ix_tup (pv 0) pe_int (fun _ _ => rfl))) (pe_callB call_abs (by rfl) T.f_abs (by decide +kernel) (pa_cons (pe_ix ix_tup (pv 0) pe_int (fun _ _ => rfl)) pa_nil))) (pe_ix ix_tup (pv 0) pe_int (fun _ _ => rfl))))) pss_nil)
      (pss_one (ps_ret (pe_ifExp (pt_cmpR op_in_seq (pe_ix ix_tup (pv 0) pe_int (fun _ _ => rfl)) (pe_tup (pa_cons pe_str (pa_cons pe_str (pa_cons pe_str pa_nil)))) (by rfl)) (pe_callB call_abs (by rfl) T.f_abs (by decide +kernel) (pa_cons (pe_ix ix_tup (pv 0) pe_int (fun _ _ => rfl)) pa_nil)) pe_int)))), ?_⟩
  cases f with
  | by_ a m r =>
    refine ⟨_, rfl, q, _, _, _, rfl, rfl, SqT.of hq, rfl, rfl, _, rfl, ite2 (fun c => absurd c (by decide +kernel)) (fun _ => ?_)⟩
    refine ⟨_, rfl, q, _, _, _, rfl, rfl, SqT.of hq, rfl, by show 3 ≤ sizeLine; decide, fun t ht => ?_⟩
    exact ⟨t, _, rfl, .inr (SqT.of upd_same), rfl, rfl, _, rfl, ite2 (fun c => absurd c (by decide +kernel)) (fun _ => k _ (Same.new ht))⟩
  | gap a b m r =>
    refine ⟨_, rfl, q, _, _, _, rfl, rfl, SqT.of hq, rfl, rfl, _, rfl, ite2 (fun c => absurd c (by decide +kernel)) (fun _ => ?_)⟩
    refine ⟨_, rfl, q, _, _, _, rfl, rfl, SqT.of hq, rfl, by show 3 ≤ sizeLine; decide, fun t ht => ?_⟩
    exact ⟨t, _, rfl, .inr (SqT.of upd_same), rfl, rfl, _, rfl, ite2 (fun c => absurd c (by decide +kernel)) (fun _ => k _ (Same.new ht))⟩
  | apart a k1 n b e c =>
    refine ⟨_, rfl, q, _, _, _, rfl, rfl, SqT.of hq, rfl, rfl, _, rfl, ite2 (fun _ => ?_) (fun c => absurd (by decide +kernel) c)⟩
    exact ⟨_, rfl, q, _, _, _, rfl, rfl, SqT.of hq, rfl, _, rfl, _, rfl, q, _, _, _, rfl, rfl, SqT.of hq, rfl, _, _, rfl, rfl, _, rfl, q, _, _, _, rfl, rfl, SqT.of hq, rfl, _, rfl, _, _, rfl, rfl, _, rfl, q, _, _, _, rfl, rfl, SqT.of hq, rfl, _, _, rfl, rfl, k _ (fun _ _ z => z)⟩
  | dist w a b n =>
    have nap : ¬ decide (V.str w = V.str "apart") = true := by
      obtain ⟨hw, _⟩ := ok
      simp only [CF.Sorts, List.mem_cons, List.not_mem_nil, or_false] at hw
      rcases hw with rfl | rfl | rfl <;> decide +kernel
    have inw : inV (.str w) [.str "from", .str "upto", .str "is"] = true := by
      obtain ⟨hw, _⟩ := ok
      simp only [CF.Sorts, List.mem_cons, List.not_mem_nil, or_false] at hw
      rcases hw with rfl | rfl | rfl <;> decide +kernel
    refine ⟨_, rfl, q, _, _, _, rfl, rfl, SqT.of hq, rfl, rfl, _, rfl, ite2 (fun c => absurd c nap) (fun _ => ?_)⟩
    refine ⟨_, rfl, q, _, _, _, rfl, rfl, SqT.of hq, rfl, by show 3 ≤ sizeLine; decide, fun t ht => ?_⟩
    refine ⟨t, _, rfl, .inr (SqT.of upd_same), rfl, rfl, _, rfl, ite2 (fun _ => ?_) (fun c => absurd inw c)⟩
    have hq1 := Same.new (o := .tup [.str "from", .str "upto", .str "is"]) ht _ _ hq
    exact ⟨_, rfl, q, _, _, _, rfl, rfl, SqT.of hq1, rfl, _, rfl, k _ (Same.new ht)⟩



/-- modulus(facts) -/
def spModulus : Sp := fun vs H Q _ => ∃ (q : Addr) (qs : List Addr) (fs : List CF.FD) (ps : List Str), vs = [.ref q] ∧ H q = some (.lst (qs.map V.ref)) ∧ CF.FAt H qs fs ∧ (∀ f ∈ fs, f.Ok ps) ∧ ∀ H', Same H H' → Q (.int (CF.modOf fs)) H'
theorem mod_take {fs : List CF.FD} {i : Nat} {f : CF.FD} (h : fs[i]? = some f) : CF.modOf (fs.take (i + 1)) = CF.mx (CF.modOf (fs.take i)) f.mod := by
  unfold CF.modOf
  rw [List.take_add_one, h, List.foldl_append]
  rfl
theorem mx_le (a b : Int) : a ≤ CF.mx a b := by
  unfold CF.mx
  split <;> omega
theorem mod_pos : ∀ fs : List CF.FD, ∀ a : Int, 1 ≤ a → 1 ≤ fs.foldl (fun a f => CF.mx a f.mod) a
  | [], a, h => h
  | f :: r, a, h => mod_pos r _ (Int.le_trans h (mx_le _ _))
theorem mod_one (fs : List CF.FD) : 1 ≤ CF.modOf fs := mod_pos fs 1 (Int.le_refl _)
theorem mx_one {a : Int} (h : 1 ≤ a) : CF.mx a 1 = a := if_neg (by omega)
abbrev s_modulus : Stmt := topS 56
theorem sc_modulus : FnScope ["facts", "found", "fact"] ["facts"] (defScope s_modulus) := ⟨rfl, rfl, rfl, by decide +kernel, rfl, by decide +kernel, by decide +kernel⟩
theorem ok_modulus (T : Txt mg) (D : Def K mg "_law_modulus" s_modulus) : Cal P w K mg base 1 "_law_modulus" ["facts"] spModulus := by
  refine D.cal sc_modulus (fun vs H Q E h => ?_) (fun _ _ _ _ _ _ us hl => match us, hl with | [_], _ => rfl) (fun f cdv A outer s H vs Q E hr h => ?_)
  · obtain ⟨q0, qs, fs, ps, rfl, _⟩ := h
    rfl
  have hu := hu_of hr

  obtain ⟨q0, qs, fs, ps, rfl, hq0, fat, ok, k⟩ := h
  refine ⟨_, (pss_cons (ps_set (i := 1) sc_modulus.nd rfl (by first | exact Or.inl rfl | exact Or.inr rfl) pe_int)
      (pss_cons (ps_for PassesOwn.never rfl (pi_list (pv 0)) (pg_name (i := 2) sc_modulus.nd rfl (by first | exact Or.inl rfl | exact Or.inr rfl)) (pss_one (ps_if (pt_cmpR op_in_seq (pe_ix ix_tup (pv 2) pe_int (fun _ _ => rfl)) (pe_tup (pa_cons pe_str (pa_cons pe_str pa_nil))) (by rfl)) (pss_one (ps_set (i := 1) sc_modulus.nd rfl (by first | exact Or.inl rfl | exact Or.inr rfl) (pe_callB (call_max2 rfl) (by rfl) T.f_max (by decide +kernel) (pa_cons (pe_callTy call_int1 (by rfl) T.f_int (by decide +kernel) (pa_cons (pv 1) pa_nil)) (pa_cons (pe_callTy call_int1 (by rfl) T.f_int (by decide +kernel) (pa_cons (pe_ifExp (pt_cmpR op_eq (pe_ix ix_tup (pv 2) pe_int (fun _ _ => rfl)) pe_str (nomark _)) (pe_ix ix_tup (pv 2) pe_int (fun _ _ => rfl)) (pe_ix ix_tup (pv 2) pe_int (fun _ _ => rfl))) pa_nil)) pa_nil))))) pss_nil)))
      (pss_one (ps_ret (pv 1))))), ?_⟩
  refine ⟨_, rfl, q0, rfl, ⟨_, SqL.of hq0⟩, for_list (xs := qs.map V.ref) (fun i σ H' => ∃ v, σ = [some (.ref q0), some (.int (CF.modOf (fs.take i))), v] ∧ Same H H')
    ⟨none, rfl, fun _ _ z => z⟩ (fun i σ H' _ ⟨v, _, s⟩ => SqL.of (s _ _ hq0)) ?_ ?_⟩
  · rintro i y σ H1 hx ⟨v, rfl, s1⟩
    obtain ⟨q, f, rfl, hf, hq⟩ := ref_of fat hx
    have hq2 := s1 _ _ hq
    have mt := mod_take hf
    have m1 := mod_one (fs.take i)
    generalize CF.modOf (fs.take i) = m0 at mt m1 ⊢
    cases f with
    | by_ a m r =>
      refine ⟨_, rfl, q, _, _, _, rfl, rfl, SqT.of hq2, rfl, by show 2 ≤ sizeLine; decide, fun t ht => ?_⟩
      have s2 := s1.trans (Same.new (o := .tup [.str "by", .str "gap"]) ht)
      have hq3 := s2 _ _ hq
      refine ⟨t, _, rfl, .inr (SqT.of upd_same), rfl, ?_⟩
      generalize upd H1 t (.tup [.str "by", .str "gap"]) = H2 at s2 hq3 ⊢
      refine ⟨rfl, _, rfl, ite2 (fun _ => ?_) (fun c => absurd (by decide +kernel) c)⟩
      refine ⟨_, rfl, .inl ⟨_, rfl, ?_⟩⟩
      refine ⟨_, rfl, q, _, _, _, rfl, rfl, SqT.of hq3, rfl, rfl, _, rfl, ite2 (fun _ => ?_) (fun c => absurd (by decide +kernel) c)⟩
      refine ⟨_, rfl, q, _, _, _, rfl, rfl, SqT.of hq3, rfl, .inl ⟨_, rfl, _, _, rfl, ?_⟩⟩
      exact ⟨_, by rw [mt]; rfl, s2⟩
    | gap a b m r =>
      refine ⟨_, rfl, q, _, _, _, rfl, rfl, SqT.of hq2, rfl, by show 2 ≤ sizeLine; decide, fun t ht => ?_⟩
      have s2 := s1.trans (Same.new (o := .tup [.str "by", .str "gap"]) ht)
      have hq3 := s2 _ _ hq
      refine ⟨t, _, rfl, .inr (SqT.of upd_same), rfl, ?_⟩
      generalize upd H1 t (.tup [.str "by", .str "gap"]) = H2 at s2 hq3 ⊢
      refine ⟨rfl, _, rfl, ite2 (fun _ => ?_) (fun c => absurd (by decide +kernel) c)⟩
      refine ⟨_, rfl, .inl ⟨_, rfl, ?_⟩⟩
      refine ⟨_, rfl, q, _, _, _, rfl, rfl, SqT.of hq3, rfl, rfl, _, rfl, ite2 (fun c => absurd c (by decide +kernel)) (fun _ => ?_)⟩
      refine ⟨_, rfl, q, _, _, _, rfl, rfl, SqT.of hq3, rfl, .inl ⟨_, rfl, _, _, rfl, ?_⟩⟩
      exact ⟨_, by rw [mt]; rfl, s2⟩
    | apart a k1 n b e c =>
      refine ⟨_, rfl, q, _, _, _, rfl, rfl, SqT.of hq2, rfl, by show 2 ≤ sizeLine; decide, fun t ht => ?_⟩
      have s2 := s1.trans (Same.new (o := .tup [.str "by", .str "gap"]) ht)
      have hq3 := s2 _ _ hq
      refine ⟨t, _, rfl, .inr (SqT.of upd_same), rfl, ?_⟩
      generalize upd H1 t (.tup [.str "by", .str "gap"]) = H2 at s2 hq3 ⊢
      refine ⟨rfl, _, rfl, ite2 (fun c => absurd c (by decide +kernel)) (fun _ => ?_)⟩
      exact ⟨_, by rw [mt]; show _ = [_, some (V.int (CF.mx m0 1)), _]; rw [mx_one m1]; rfl, s2⟩
    | dist w a b n =>
      refine ⟨_, rfl, q, _, _, _, rfl, rfl, SqT.of hq2, rfl, by show 2 ≤ sizeLine; decide, fun t ht => ?_⟩
      have s2 := s1.trans (Same.new (o := .tup [.str "by", .str "gap"]) ht)
      have hq3 := s2 _ _ hq
      refine ⟨t, _, rfl, .inr (SqT.of upd_same), rfl, ?_⟩
      generalize upd H1 t (.tup [.str "by", .str "gap"]) = H2 at s2 hq3 ⊢
      have nin : ¬ inV (.str w) [.str "by", .str "gap"] = true := by
        obtain ⟨hw, _⟩ := ok _ (List.mem_of_getElem? hf)
        simp only [CF.Sorts, List.mem_cons, List.not_mem_nil, or_false] at hw
        rcases hw with rfl | rfl | rfl <;> decide +kernel
      refine ⟨rfl, _, rfl, ite2 (fun c => absurd c nin) (fun _ => ?_)⟩
      exact ⟨_, by rw [mt]; show _ = [_, some (V.int (CF.mx m0 1)), _]; rw [mx_one m1]; rfl, s2⟩
  · rintro σ H1 ⟨v, rfl, s1⟩
    rw [List.length_map, fat.len, List.take_length]
    exact ⟨_, rfl, k _ s1⟩

end
end K05
end
section
set_option Elab.async false
set_option linter.all false
set_option maxRecDepth 100000
set_option maxHeartbeats 4000000
namespace K05
open PySem PySem.Spec PyProof.Rows L2
open PySem.W (ke_shaped_ints)
local macro_rules | `(tactic| walk_at "go") => `(tactic| first | refine ⟨_, rfl, ?_⟩ | refine .inl ⟨_, rfl, ?_⟩ | refine ⟨_, _, rfl, rfl, (by first | (show (0 : Int) < _; decide) | exact Or.inl ⟨by decide, by decide⟩ | exact Or.inr ⟨by decide, by decide⟩), ?_⟩ | refine ⟨_, _, rfl, rfl, ?_⟩)
section
variable {P : Program} {w : World} {K : PySem.W.Frag} {mg : Str → Option Value} {base : Heap}

structure TxtL (mg : Str → Option Value) : Prop where
  f_zip : mg "zip" = none
  f_dict : mg "dict" = none


theorem eqv_nil (zs : List Str) : PyData.eqv (.list (zs.map PyData.str)) (.list []) = zs.isEmpty := by
  cases zs <;> rfl
theorem six_of {i : Int} {n : Nat} (h0 : 0 ≤ i) (h1 : i < n) : seqIndex? i n = some i.toNat := by
  unfold seqIndex?
  have h2 : ¬ i < 0 := by omega
  simp [h2, h1, h0]
theorem erase_perm {α : Type} : ∀ {l : List α} {i : Nat} (h : i < l.length), List.Perm ([l[i]] ++ l.eraseIdx i) l
  | x :: r, 0, _ => List.Perm.refl _
  | x :: r, i + 1, h => by
    have ih := erase_perm (l := r) (i := i) (by simpa using h)
    refine (List.Perm.swap x _ _).trans ?_
    exact List.Perm.cons x ih
theorem map_erase {α β : Type} (f : α → β) : ∀ (l : List α) (i : Nat), (l.map f).eraseIdx i = (l.eraseIdx i).map f
  | [], _ => rfl
  | _ :: _, 0 => rfl
  | x :: r, i + 1 => by
    show f x :: (r.map f).eraseIdx i = f x :: (r.eraseIdx i).map f
    rw [map_erase f r i]

/-- shuffled(pen, items): the items in some order -/
def spShuffled (K : PySem.W.Frag) : Sp := fun vs H Q _ => ∃ (p l a : Addr) (t : Int) (zs : List Str), vs = [.ref p, .ref a] ∧ Pen H p l t ∧ t ≤ 1000000 ∧ SqL K H a (zs.map V.str) ∧ zs.length ≤ 1000 ∧ (∀ z ∈ zs, Low z) ∧
  ∀ (r : Addr) (H' : Hp) (t' : Int) (ys : List Str), ys.Perm zs → Pen H' p l t' → t ≤ t' → t' ≤ t + zs.length → But p H H' → H r = none → H' r = some (.lst (ys.map V.str)) → Q (.ref r) H'
abbrev s_shuffled : Stmt := topS 47
theorem sc_shuffled : FnScope ["pen", "items", "rest", "found"] ["pen", "items"] (defScope s_shuffled) := ⟨rfl, rfl, rfl, by decide +kernel, rfl, by decide +kernel, by decide +kernel⟩
theorem ok_shuffled (T : Txt mg) (D : Def K mg "_law_shuffled" s_shuffled) (C__law_draw : Cal P w K mg base 1 "_law_draw" ["pen", "span"] spDraw) : Cal P w K mg base 2 "_law_shuffled" ["pen", "items"] (spShuffled K) := by
  refine D.cal sc_shuffled (fun vs H Q E h => ?_) (fun _ _ _ _ _ _ us hl => match us, hl with | [_, _], _ => rfl) (fun f cdv A outer s H vs Q E hr h => ?_)
  · obtain ⟨p, l, a, t, zs, rfl, _⟩ := h
    rfl
  have hu := hu_of hr

  obtain ⟨p, l, a, t, zs, rfl, pen, ht, ha, hz, low, k⟩ := h
  refine ⟨_, (pss_cons (ps_par (i := 2) (j := 3) (by rfl) sc_shuffled.nd rfl rfl (by decide) rfl rfl (pa_cons (pe_callTy call_list_of (by rfl) T.f_list (by decide +kernel) (pa_cons (pv 1) pa_nil)) (pa_cons (pe_lst pa_nil) pa_nil)) (by rfl))
      (pss_cons (ps_while PassesOwn.never (pt_cmpR (op_neD hr.units) (pv 2) (pe_lst pa_nil) (nomark _)) (pss_one (ps_expr (pe_bm PySem.F.plainAttrs_list PySem.F.slot_list_append PySem.F.type_list_append mt_append (pv 3) (pa_cons (pe_bm PySem.F.plainAttrs_list PySem.F.slot_list_pop PySem.F.type_list_pop mt_popAt (pv 2) (pa_cons (pe_cal C__law_draw (hr.mono (by decide)) rfl (pa_cons (pv 0) (pa_cons (pe_callB call_len (by rfl) T.f_len PySem.boot_len (pa_cons (pv 2) pa_nil)) pa_nil))) pa_nil)) pa_nil)))))
      (pss_one (ps_ret (pv 3))))), ?_⟩
  refine ⟨_, rfl, a, _, rfl, .inl ha, fun R hR => ⟨by show 0 ≤ sizeLine; decide, fun F hF => ⟨_, _, rfl, ?_⟩⟩⟩
  have hR0 : upd H R (.lst (zs.map V.str)) R = some (.lst (zs.map V.str)) := upd_same
  have nFR : F ≠ R := fun e => by rw [e, hR0] at hF; cases hF
  have hF0 : H F = none := by rw [upd_ne nFR] at hF; exact hF
  refine ⟨fun m σ H1 => ∃ (rest got : List Str) (t1 : Int), σ = [some (.ref p), some (.ref a), some (.ref R), some (.ref F)] ∧ H1 R = some (.lst (rest.map V.str)) ∧ H1 F = some (.lst (got.map V.str)) ∧ m = rest.length ∧ Pen H1 p l t1 ∧ t ≤ t1 ∧ t1 ≤ t + got.length ∧ (got ++ rest).Perm zs ∧ But p H H1,
    ⟨_, zs, [], t, rfl, (upd_ne nFR.symm).trans hR0, upd_same, rfl, (pen.new hR).new hF, Int.le_refl _, by simp, List.Perm.refl _, ((But.of (Same.new hR)).nw hF)⟩, ?_⟩
  rintro m σ H1 ⟨rest, got, t1, rfl, h1, h2, rfl, pen1, g1, g2, pm, b1⟩
  have plen : got.length + rest.length = zs.length := by
    have := pm.length_eq
    rw [List.length_append] at this
    exact this
  have lowr : ∀ z ∈ rest, Low z := fun z hz => low z (pm.mem_iff.mp (List.mem_append_right _ hz))
  refine ⟨_, rfl, by show 0 ≤ sizeLine; decide, fun e he => ⟨.list (rest.map PyData.str), .list [], .lst (SqL.of ((Same.new he) _ _ h1)) (dps_strs _ _ _), .lst (SqL.of upd_same) .nil, shaped_strs lowr, rfl, _, rfl, ?_⟩⟩
  rw [eqv_nil]
  have h1' := (Same.new (o := .lst []) he) _ _ h1
  have h2' := (Same.new (o := .lst []) he) _ _ h2
  have pen1' := pen1.new (o := .lst []) he
  have b1' := b1.nw (o := .lst []) he
  generalize upd H1 e (.lst []) = H2 at h1' h2' pen1' b1' ⊢
  cases rest with
  | nil =>
    rw [show (!([] : List Str).isEmpty) = false from rfl]
    refine iteF ⟨_, rfl, ?_⟩
    rw [List.append_nil] at pm
    exact k F H2 t1 got pm pen1' g1 (by simp only [List.length_nil] at plen; omega) b1' hF0 h2'
  | cons z0 rs =>
    rw [show (!(z0 :: rs).isEmpty) = true from rfl]
    refine iteT ⟨fun σ' H' => ∃ (rest' got' : List Str) (t2 : Int), σ' = [some (.ref p), some (.ref a), some (.ref R), some (.ref F)] ∧ H' R = some (.lst (rest'.map V.str)) ∧ H' F = some (.lst (got'.map V.str)) ∧ rest'.length < (z0 :: rs).length ∧ Pen H' p l t2 ∧ t ≤ t2 ∧ t2 ≤ t + got'.length ∧ (got' ++ rest').Perm zs ∧ But p H H', ?_, ?_⟩
    · rintro σ' H' ⟨rest', got', t2, e1, e2, e3, e4, e5, e6, e7, e8, e9⟩
      exact ⟨_, e4, rest', got', t2, e1, e2, e3, rfl, e5, e6, e7, e8, e9⟩
    · have hRp : R ≠ p := fun e => by
        obtain ⟨o, ho⟩ := pen.at_
        rw [e, ho] at hR
        cases hR
      have hFp : F ≠ p := fun e => by
        obtain ⟨o, ho⟩ := pen.at_
        rw [e, ho] at hF0
        cases hF0
      have hRl : R ≠ l := fun e => by
        obtain ⟨ns, lf, _, ho, _⟩ := pen.ex
        rw [e, ho] at hR
        cases hR
      have hFl : F ≠ l := fun e => by
        obtain ⟨ns, lf, _, ho, _⟩ := pen.ex
        rw [e, ho] at hF0
        cases hF0
      have ln : ((z0 :: rs).map V.str).length = (z0 :: rs).length := List.length_map ..
      refine ⟨_, rfl, .inl ⟨rfl, _, SqL.of h2'⟩, _, rfl, .inl ⟨rfl, _, SqL.of h1'⟩, _, rfl, _, rfl, _, _, rfl, .inl ⟨_, SqL.of h1', rfl⟩, p, l, t1, _, rfl, pen1', by omega, by rw [ln, List.length_cons]; omega, small_span (by rw [ln]; omega), fun v H3 t3 v0 v1 pen3 g3 g4 b3 => ?_⟩
      rw [ln] at v1
      have hi : v.toNat < (z0 :: rs).length := by omega
      have hat : ((z0 :: rs).map V.str)[v.toNat]? = some (.str (z0 :: rs)[v.toNat]) := by rw [List.getElem?_map, List.getElem?_eq_getElem hi]; rfl
      have h1c := b3 _ _ hRp h1'
      have h2c := b3 _ _ hFp h2'
      refine ⟨R, _, v, v.toNat, _, rfl, rfl, h1c, by omega, by omega, by rw [ln]; exact six_of v0 v1, hat, F, _, _, rfl, rfl, (upd_ne nFR).trans h2c, by rw [List.length_map, sizeLine_eq]; simp only [List.length_cons] at plen; omega, ?_⟩
      refine ⟨(z0 :: rs).eraseIdx v.toNat, got ++ [(z0 :: rs)[v.toNat]], t3, rfl, ?_, ?_, ?_, ?_, by omega, ?_, ?_, ?_⟩
      · rw [upd_ne nFR.symm, map_erase]
        exact upd_same
      · rw [List.map_append]
        exact upd_same
      · rw [List.length_eraseIdx_of_lt hi, List.length_cons]
        omega
      · exact (pen3.put hRp hRl).put hFp hFl
      · rw [List.length_append, List.length_singleton]
        omega
      · refine List.Perm.trans ?_ pm
        rw [List.append_assoc]
        exact (erase_perm hi).append_left _
      · exact ((b1'.trans b3).put hR).put hF0



/-- the names that there are -/
def NN : List Str := ["p", "q", "a", "b", "x", "y", "low", "ends", "partly", "setting", "upwards", "abcdefghijkl"]
theorem nn_ok : ∀ z ∈ NN, CF.NameOk z := by
  have h1 : ∀ z ∈ NN, z ∉ CF.Reserved := by decide +kernel
  have h2 : ∀ z ∈ NN, 1 ≤ z.length ∧ z.length ≤ 12 := by decide +kernel
  have h3 : ∀ z ∈ NN, ∀ c ∈ TL.tl z, 97 ≤ c ∧ c ≤ 122 := by decide +kernel
  exact fun z hz => ⟨h1 z hz, (h2 z hz).1, (h2 z hz).2, h3 z hz⟩
theorem nn_dup : NN.Nodup := by decide +kernel
theorem low_name {z : Str} (h : CF.NameOk z) : Low z := fun c hc => by
  have := h.letters c hc
  omega
/-- new_names(pen, many) -/
def spNewNames (K : PySem.W.Frag) : Sp := fun vs H Q _ => ∃ (p l : Addr) (t many : Int), vs = [.ref p, .int many] ∧ Pen H p l t ∧ t ≤ 100000 ∧ 1 ≤ many ∧ many ≤ 3 ∧
  ∀ (r : Addr) (H' : Hp) (t' : Int) (ps : List Str), CF.Names ps → (ps.length : Int) = many → Pen H' p l t' → t ≤ t' → t' ≤ t + 12 → But p H H' → H r = none → H' r = some (.lst (ps.map V.str)) → Q (.ref r) H'
abbrev s_new_names : Stmt := topS 48
theorem sc_new_names : FnScope ["pen", "many", "found"] ["pen", "many"] (defScope s_new_names) := ⟨rfl, rfl, rfl, by decide +kernel, rfl, by decide +kernel, by decide +kernel⟩
theorem ok_new_names (T : Txt mg) (D : Def K mg "_law_new_names" s_new_names) (C__law_shuffled : Cal P w K mg base 2 "_law_shuffled" ["pen", "items"] (spShuffled K)) : Cal P w K mg base 3 "_law_new_names" ["pen", "many"] (spNewNames K) := by
  refine D.cal sc_new_names (fun vs H Q E h => ?_) (fun _ _ _ _ _ _ us hl => match us, hl with | [_, _], _ => rfl) (fun f cdv A outer s H vs Q E hr h => ?_)
  · obtain ⟨p, l, t, many, rfl, _⟩ := h
    rfl
  have hu := hu_of hr

  obtain ⟨p, l, t, many, rfl, pen, ht, m1, m3, k⟩ := h
  refine ⟨_, (pss_cons (ps_set (i := 2) sc_new_names.nd rfl (by first | exact Or.inl rfl | exact Or.inr rfl) (pe_lst (pa_cons pe_str (pa_cons pe_str (pa_cons pe_str (pa_cons pe_str (pa_cons pe_str (pa_cons pe_str (pa_cons pe_str (pa_cons pe_str (pa_cons pe_str (pa_cons pe_str (pa_cons pe_str (pa_cons pe_str pa_nil))))))))))))))
      (pss_one (ps_ret (pe_slice sl_list (pe_cal C__law_shuffled (hr.mono (by decide)) rfl (pa_cons (pv 0) (pa_cons (pv 2) pa_nil))) po_none (po_some (pv 1)))))), ?_⟩
  refine ⟨by show 12 ≤ sizeLine; decide, fun F hF => ?_⟩
  refine ⟨_, rfl, _, rfl, p, l, F, t, NN, rfl, pen.new hF, by omega, SqL.of upd_same, by decide, fun z hz => low_name (nn_ok z hz), fun r H1 t1 ys pm pen1 g1 g2 b1 hr hR => ?_⟩
  refine ⟨_, rfl, many, rfl, r, _, rfl, SqL.of hR, fun S hS => ?_⟩
  have pl : ys.length = 12 := pm.length_eq
  have e : cutV (ys.map V.str) none (some many) = (ys.take many.toNat).map V.str := by
    unfold cutV
    rw [List.map_take, List.length_map]
    have e1 : HT.sIx ys.length 0 none = 0 := rfl
    have e2 : HT.sIx ys.length ys.length (some many) = many.toNat := by
      show (if many < 0 then (many + (ys.length : Int)).toNat else min many.toNat ys.length) = many.toNat
      rw [if_neg (by omega)]
      omega
    rw [e1, e2]
    rfl
  rw [e]
  have b2 : But p H (upd H1 S (.lst ((ys.take many.toNat).map V.str))) := ((But.of (Same.new hF)).trans b1).nw hS
  have hS0 : H S = none := by
    cases q : H S with
    | none => rfl
    | some o =>
      by_cases e : S = p
      · rw [e] at hS
        obtain ⟨o2, h2⟩ := pen1.at_
        rw [h2] at hS
        cases hS
      · rw [((But.of (Same.new hF)).trans b1) _ _ e q] at hS
        cases hS
  refine k S _ t1 (ys.take many.toNat) ⟨fun z hz => nn_ok z (pm.mem_iff.mp (List.mem_of_mem_take hz)), ?_, ?_, ?_⟩ ?_ (pen1.new hS) g1 g2 b2 hS0 upd_same
  · exact (pm.nodup_iff.mpr nn_dup).sublist (List.take_sublist _ _)
  · rw [List.length_take]
    omega
  · rw [List.length_take]
    omega
  · rw [List.length_take]
    omega



/-- the places by name -/
def atK (ps : List Str) (zs : List Int) : List (Key × V) := (ps.zip zs).map fun pz => ((Sum.inr pz.1 : Key), V.int pz.2)
theorem atK_val {ps : List Str} {zs : List Int} {a : Str} (nd : ps.Nodup) (hl : zs.length = ps.length) (h : a ∈ ps) : valV (atK ps zs) (Sum.inr a : Key) = some (V.int (CF.look ps zs a)) := by
  have h1 := CF.look_some nd hl h
  have h2 : ∀ l : List (Str × Int), valV (l.map fun pz => ((Sum.inr pz.1 : Key), V.int pz.2)) (Sum.inr a : Key) = (l.lookup a).map V.int := by
    intro l
    induction l with
    | nil => rfl
    | cons x r ih =>
      obtain ⟨b, z⟩ := x
      by_cases e : b = a
      · subst e
        rw [List.map_cons, valV_pos rfl]
        simp
      · rw [List.map_cons, List.lookup_cons, show (a == b) = false from beq_eq_false_iff_ne.mpr (Ne.symm e)]
        have e2 : ((Sum.inr b : Key)) ≠ (Sum.inr a : Key) := fun h => e (Sum.inr.inj h)
        rw [← ih]
        simp [valV, List.find?_cons, e2, e]
  unfold atK
  rw [h2, h1]
  rfl
theorem merge_new : ∀ (more kvs : List (Key × V)), (∀ k ∈ more.map (·.1), k ∉ kvs.map (·.1)) → (more.map (·.1)).Nodup → mergeK kvs more = kvs ++ more
  | [], kvs, _, _ => by simp [mergeK]
  | kv :: r, kvs, h, nd => by
    have nd' := List.nodup_cons.mp (show (kv.1 :: r.map (·.1)).Nodup from nd)
    have h0 : (kvs.any fun x => decide (x.1 = kv.1)) = false := by
      rw [List.any_eq_false]
      intro x hx e
      exact h kv.1 (by simp) (List.mem_map.mpr ⟨x, hx, of_decide_eq_true e⟩)
    have e1 : putK kvs kv.1 kv.2 = kvs ++ [kv] := by
      unfold putK
      rw [h0]
      rfl
    show mergeK (putK kvs kv.1 kv.2) r = _
    rw [e1, merge_new r (kvs ++ [kv]) (fun k hk hm => ?_) nd'.2, List.append_assoc]
    · rfl
    · rw [List.map_append, List.mem_append] at hm
      rcases hm with hm | hm
      · exact h k (by rw [List.map_cons]; exact List.mem_cons_of_mem _ hk) hm
      · have : k = kv.1 := by simpa using hm
        exact nd'.1 (this ▸ hk)
theorem keys_zip {ps : List Str} {zs : List Int} (hl : zs.length = ps.length) : (ps.zip zs).map (fun pz => (Sum.inr pz.1 : Key)) = ps.map fun p => (Sum.inr p : Key) := by
  have : (ps.zip zs).map (fun pz => (Sum.inr pz.1 : Key)) = ((ps.zip zs).map (·.1)).map fun p => (Sum.inr p : Key) := by rw [List.map_map]; rfl
  rw [this, List.map_fst_zip (by omega)]
theorem atK_merge {ps : List Str} {zs : List Int} (nd : ps.Nodup) (hl : zs.length = ps.length) : mergeK [] (atK ps zs) = atK ps zs := by
  have e := merge_new (atK ps zs) [] (fun _ _ h => by cases h) (by
    have : (atK ps zs).map (·.1) = ps.map fun p => (Sum.inr p : Key) := by
      unfold atK
      rw [List.map_map]
      exact keys_zip hl
    rw [this]
    exact List.Pairwise.map _ (fun a b n e => n (Sum.inr.inj e)) nd)
  rw [e, List.nil_append]
/-- at(pointers, places) -/
def spAt (K : PySem.W.Frag) : Sp := fun vs H Q _ => ∃ (a b : Addr) (ps : List Str) (zs : List Int), vs = [.ref a, .ref b] ∧ SqL K H a (ps.map V.str) ∧ SqT K H b (zs.map V.int) ∧ ps.Nodup ∧ zs.length = ps.length ∧
  ∀ (r : Addr) (H' : Hp), Same H H' → H r = none → H' r = some (.dK (atK ps zs)) → Q (.ref r) H'
theorem zip_vs (ps : List Str) (zs : List Int) : (ps.map V.str).zip (zs.map V.int) = (ps.zip zs).map fun pz => (V.str pz.1, V.int pz.2) := by rw [List.zip_map]; rfl
theorem paired_at {K : PySem.W.Frag} {H : Hp} : ∀ {qs : List Addr} {l : List (Str × Int)}, Paired (PairV H) qs (l.map fun pz => (V.str pz.1, V.int pz.2)) → Paired (fun p kv => SqT K H p [kV kv.1, kv.2]) qs (l.map fun pz => ((Sum.inr pz.1 : Key), V.int pz.2))
  | _, [], .nil => .nil
  | _, _ :: _, .cons r t => .cons (SqT.of r) (paired_at t)
abbrev s_at : Stmt := topS 53
theorem sc_at : FnScope ["pointers", "places"] ["pointers", "places"] (defScope s_at) := ⟨rfl, rfl, rfl, by decide +kernel, rfl, by decide +kernel, by decide +kernel⟩
theorem ok_at (T : Txt mg) (Z : TxtL mg) (D : Def K mg "_law_at" s_at) : Cal P w K mg base 1 "_law_at" ["pointers", "places"] (spAt K) := by
  refine D.cal sc_at (fun vs H Q E h => ?_) (fun _ _ _ _ _ _ us hl => match us, hl with | [_, _], _ => rfl) (fun f cdv A outer s H vs Q E hr h => ?_)
  · obtain ⟨a, b, ps, zs, rfl, _⟩ := h
    rfl
  have hu := hu_of hr

  obtain ⟨a, b, ps, zs, rfl, ha, hb, nd, hl, k⟩ := h
  refine ⟨_, (pss_one (ps_ret (pe_callTy (call_dictP rfl) (by rfl) Z.f_dict (by decide +kernel) (pa_cons (ZLT.pe_listZipT rfl (by rfl) T.f_list (by decide +kernel) (by rfl) Z.f_zip (by decide +kernel) (pa_cons (pv 0) (pa_cons (pv 1) pa_nil))) pa_nil)))), ?_⟩
  refine ⟨_, rfl, _, rfl, a, b, _, _, rfl, ha, hb, fun r qs H1 hr s1 h1 pr => ?_⟩
  rw [zip_vs] at pr
  refine ⟨r, qs, atK ps zs, rfl, SqL.of h1, paired_at pr, fun d hd => ?_⟩
  rw [atK_merge nd hl]
  exact k d _ (s1.put (s1.free hd)) (s1.free hd) upd_same



/-- true(fact, at) -/
def spTrue : Sp := fun vs H Q _ => ∃ (q d : Addr) (f : CF.FD) (ps : List Str) (zs : List Int), vs = [.ref q, .ref d] ∧ H q = some (.tup f.vs) ∧ f.Ok ps ∧ H d = some (.dK (atK ps zs)) ∧ ps.Nodup ∧ zs.length = ps.length ∧ ∀ H', Same H H' → Q (.bl (f.val (CF.look ps zs))) H'
theorem dget_at {H : Hp} {d : Addr} {ps : List Str} {zs : List Int} {a : Str} (hd : H d = some (.dK (atK ps zs))) (nd : ps.Nodup) (hl : zs.length = ps.length) (h : a ∈ ps) : DGet H d (.str a) (some (V.int (CF.look ps zs a))) := by
  rw [← atK_val nd hl h]
  exact DGet.k (k := (Sum.inr a : Key)) hd
abbrev s_true : Stmt := topS 52
theorem sc_true : FnScope ["fact", "at", "one", "two", "apart"] ["fact", "at"] (defScope s_true) := ⟨rfl, rfl, rfl, by decide +kernel, rfl, by decide +kernel, by decide +kernel⟩
theorem ok_true (T : Txt mg) (D : Def K mg "_law_true" s_true) : Cal P w K mg base 1 "_law_true" ["fact", "at"] spTrue := by
  refine D.cal sc_true (fun vs H Q E h => ?_) (fun _ _ _ _ _ _ us hl => match us, hl with | [_, _], _ => rfl) (fun f cdv A outer s H vs Q E hr h => ?_)
  · obtain ⟨q, d, f, ps, zs, rfl, _⟩ := h
    rfl
  have hu := hu_of hr

  obtain ⟨q, d, f, ps, zs, rfl, hq, ok, hd, nd, hl, k⟩ := h
  refine ⟨_, (pss_cons (ps_if (pt_cmpR op_eq (pe_ix ix_tup (pv 0) pe_int (fun _ _ => rfl)) pe_str (nomark _)) (pss_cons (ps_par (i := 2) (j := 3) (by rfl) sc_true.nd rfl rfl (by decide) rfl rfl (pa_cons (pe_op op_add (pe_dget hu (pv 1) (pe_ix ix_tup (pv 0) pe_int (fun _ _ => rfl)) (fun _ _ => rfl)) (pe_ix ix_tup (pv 0) pe_int (fun _ _ => rfl))) (pa_cons (pe_op op_add (pe_dget hu (pv 1) (pe_ix ix_tup (pv 0) pe_int (fun _ _ => rfl)) (fun _ _ => rfl)) (pe_ix ix_tup (pv 0) pe_int (fun _ _ => rfl))) pa_nil)) (by rfl))
      (pss_one (ps_ret (pe_or (pe_cmpR op_le (pe_op op_add (pv 2) (pe_ix ix_tup (pv 0) pe_int (fun _ _ => rfl))) (pv 3) (nomark _)) (pe_one (pe_cmpR op_le (pe_op op_add (pv 3) (pe_ix ix_tup (pv 0) pe_int (fun _ _ => rfl))) (pv 2) (nomark _))))))) pss_nil)
      (pss_cons (ps_if (pt_cmpR op_eq (pe_ix ix_tup (pv 0) pe_int (fun _ _ => rfl)) pe_str (nomark _)) (pss_one (ps_ret (pe_cmpR op_eq (pe_op op_mod (pe_callTy call_int1 (by rfl) T.f_int (by decide +kernel) (pa_cons (pe_dget hu (pv 1) (pe_ix ix_tup (pv 0) pe_int (fun _ _ => rfl)) (fun _ _ => rfl)) pa_nil)) (pe_ix ix_tup (pv 0) pe_int (fun _ _ => rfl))) (pe_ix ix_tup (pv 0) pe_int (fun _ _ => rfl)) (nomark _)))) pss_nil)
      (pss_cons (ps_set (i := 4) sc_true.nd rfl (by first | exact Or.inl rfl | exact Or.inr rfl) (pe_op op_sub (pe_dget hu (pv 1) (pe_ix ix_tup (pv 0) pe_int (fun _ _ => rfl)) (fun _ _ => rfl)) (pe_dget hu (pv 1) (pe_ix ix_tup (pv 0) pe_int (fun _ _ => rfl)) (fun _ _ => rfl))))
      (pss_cons (ps_if (pt_cmpR op_eq (pe_ix ix_tup (pv 0) pe_int (fun _ _ => rfl)) pe_str (nomark _)) (pss_one (ps_ret (pe_cmpR op_eq (pe_op op_mod (pe_callTy call_int1 (by rfl) T.f_int (by decide +kernel) (pa_cons (pv 4) pa_nil)) (pe_ix ix_tup (pv 0) pe_int (fun _ _ => rfl))) (pe_ix ix_tup (pv 0) pe_int (fun _ _ => rfl)) (nomark _)))) pss_nil)
      (pss_one (ps_ret (pe_ifExp (pt_cmpR op_eq (pe_ix ix_tup (pv 0) pe_int (fun _ _ => rfl)) pe_str (nomark _)) (pe_cmpR op_ge (pv 4) (pe_ix ix_tup (pv 0) pe_int (fun _ _ => rfl)) (nomark _)) (pe_ifExp (pt_cmpR op_eq (pe_ix ix_tup (pv 0) pe_int (fun _ _ => rfl)) pe_str (nomark _)) (pe_cmpR op_le (pv 4) (pe_ix ix_tup (pv 0) pe_int (fun _ _ => rfl)) (nomark _)) (pe_cmpR op_eq (pv 4) (pe_ix ix_tup (pv 0) pe_int (fun _ _ => rfl)) (nomark _)))))))))), ?_⟩
  have gt : ∀ {x : Str}, x ∈ ps → DGet H d (.str x) (some (V.int (CF.look ps zs x))) := fun h => dget_at hd nd hl h
  have kk : ∀ b : Bool, b = f.val (CF.look ps zs) → Q (.bl b) H := fun b e => e ▸ k H (Same.refl H)
  clear k
  cases f with
  | apart x k1 n y e c =>
    obtain ⟨ox, oy, _⟩ := id ok
    refine ⟨_, rfl, q, _, _, _, rfl, rfl, SqT.of hq, rfl, rfl, _, rfl, ite2 (fun _ => ?_) (fun c => absurd (by decide +kernel) c)⟩
    refine ⟨_, rfl, _, rfl, q, _, _, _, rfl, rfl, SqT.of hq, rfl, d, _, rfl, gt ox, _, rfl, q, _, _, _, rfl, rfl, SqT.of hq, rfl, _, _, rfl, rfl, ?_⟩
    refine ⟨_, rfl, _, rfl, q, _, _, _, rfl, rfl, SqT.of hq, rfl, d, _, rfl, gt oy, _, rfl, q, _, _, _, rfl, rfl, SqT.of hq, rfl, _, _, rfl, rfl, ?_⟩
    refine ⟨_, _, rfl, _, rfl, _, rfl, q, _, _, _, rfl, rfl, SqT.of hq, rfl, _, _, rfl, rfl, _, rfl, _, _, rfl, rfl, _, rfl, ite2 (fun c1 => ?_) (fun c1 => ?_)⟩
    · exact kk _ (by simp only [CF.FD.val]; rw [c1]; rfl)
    · refine ⟨_, rfl, _, rfl, q, _, _, _, rfl, rfl, SqT.of hq, rfl, _, _, rfl, rfl, _, rfl, _, _, rfl, rfl, ?_⟩
      exact kk _ (by simp only [CF.FD.val]; rw [Bool.eq_false_iff.mpr c1]; rfl)
  | by_ x m r =>
    obtain ⟨ox, hm, _⟩ := id ok
    refine ⟨_, rfl, q, _, _, _, rfl, rfl, SqT.of hq, rfl, rfl, _, rfl, ite2 (fun c => absurd c (by decide +kernel)) (fun _ => ?_)⟩
    refine ⟨_, rfl, q, _, _, _, rfl, rfl, SqT.of hq, rfl, rfl, _, rfl, ite2 (fun _ => ?_) (fun c => absurd (by decide +kernel) c)⟩
    refine ⟨_, rfl, _, rfl, q, _, _, _, rfl, rfl, SqT.of hq, rfl, d, _, rfl, gt ox, .inl ⟨_, rfl, _, rfl, q, _, _, _, rfl, rfl, SqT.of hq, rfl, _, _, rfl, rfl, by omega, _, rfl, q, _, _, _, rfl, rfl, SqT.of hq, rfl, rfl, ?_⟩⟩
    exact kk _ (decide_eq_decide.mpr ⟨V.int.inj, fun e => congrArg V.int e⟩)
  | gap x y m r =>
    obtain ⟨ox, oy, _, hm, _⟩ := id ok
    refine ⟨_, rfl, q, _, _, _, rfl, rfl, SqT.of hq, rfl, rfl, _, rfl, ite2 (fun c => absurd c (by decide +kernel)) (fun _ => ?_)⟩
    refine ⟨_, rfl, q, _, _, _, rfl, rfl, SqT.of hq, rfl, rfl, _, rfl, ite2 (fun c => absurd c (by decide +kernel)) (fun _ => ?_)⟩
    refine ⟨_, rfl, _, rfl, q, _, _, _, rfl, rfl, SqT.of hq, rfl, d, _, rfl, gt oy, _, rfl, _, rfl, q, _, _, _, rfl, rfl, SqT.of hq, rfl, d, _, rfl, gt ox, _, _, rfl, rfl, ?_⟩
    refine ⟨_, rfl, q, _, _, _, rfl, rfl, SqT.of hq, rfl, rfl, _, rfl, ite2 (fun _ => ?_) (fun c => absurd (by decide +kernel) c)⟩
    refine ⟨_, rfl, .inl ⟨_, rfl, _, rfl, q, _, _, _, rfl, rfl, SqT.of hq, rfl, _, _, rfl, rfl, by omega, _, rfl, q, _, _, _, rfl, rfl, SqT.of hq, rfl, rfl, ?_⟩⟩
    exact kk _ (decide_eq_decide.mpr ⟨V.int.inj, fun e => congrArg V.int e⟩)
  | dist w0 x y n =>
    obtain ⟨hw, ox, oy, _⟩ := id ok
    have hw3 : w0 = "from" ∨ w0 = "upto" ∨ w0 = "is" := by
      simp only [CF.Sorts, List.mem_cons, List.not_mem_nil, or_false] at hw
      exact hw
    refine ⟨_, rfl, q, _, _, _, rfl, rfl, SqT.of hq, rfl, rfl, _, rfl, ite2 (fun c => absurd (V.str.inj (of_decide_eq_true c)) (by rcases hw3 with rfl | rfl | rfl <;> decide +kernel)) (fun _ => ?_)⟩
    refine ⟨_, rfl, q, _, _, _, rfl, rfl, SqT.of hq, rfl, rfl, _, rfl, ite2 (fun c => absurd (V.str.inj (of_decide_eq_true c)) (by rcases hw3 with rfl | rfl | rfl <;> decide +kernel)) (fun _ => ?_)⟩
    refine ⟨_, rfl, _, rfl, q, _, _, _, rfl, rfl, SqT.of hq, rfl, d, _, rfl, gt oy, _, rfl, _, rfl, q, _, _, _, rfl, rfl, SqT.of hq, rfl, d, _, rfl, gt ox, _, _, rfl, rfl, ?_⟩
    refine ⟨_, rfl, q, _, _, _, rfl, rfl, SqT.of hq, rfl, rfl, _, rfl, ite2 (fun c => absurd (V.str.inj (of_decide_eq_true c)) (by rcases hw3 with rfl | rfl | rfl <;> decide +kernel)) (fun _ => ?_)⟩
    refine ⟨_, rfl, q, _, _, _, rfl, rfl, SqT.of hq, rfl, rfl, _, rfl, ?_⟩
    simp only [CF.FD.val] at kk
    by_cases h1 : w0 = "from"
    · rw [if_pos h1] at kk
      rw [decide_eq_true (by rw [h1])]
      exact iteT ⟨_, rfl, _, rfl, q, _, _, _, rfl, rfl, SqT.of hq, rfl, _, _, rfl, rfl, kk _ rfl⟩
    · rw [if_neg h1] at kk
      rw [decide_eq_false (fun e => h1 (V.str.inj e))]
      refine iteF ?_
      refine ⟨_, rfl, q, _, _, _, rfl, rfl, SqT.of hq, rfl, rfl, _, rfl, ?_⟩
      by_cases h2 : w0 = "upto"
      · rw [if_pos h2] at kk
        rw [decide_eq_true (by rw [h2])]
        exact iteT ⟨_, rfl, _, rfl, q, _, _, _, rfl, rfl, SqT.of hq, rfl, _, _, rfl, rfl, kk _ rfl⟩
      · rw [if_neg h2] at kk
        rw [decide_eq_false (fun e => h2 (V.str.inj e))]
        refine iteF ⟨_, rfl, _, rfl, q, _, _, _, rfl, rfl, SqT.of hq, rfl, rfl, ?_⟩
        exact kk _ (decide_eq_decide.mpr ⟨V.int.inj, fun e => congrArg V.int e⟩)



theorem idx_of {ps : List Str} {x : Str} (h : x ∈ ps) : ∃ i : Nat, i < ps.length ∧ (ps.map V.str)[i]? = some (.str x) ∧ (∀ (m : Nat) (z' : V), m < i → (ps.map V.str)[m]? = some z' → eqV z' (.str x) = false) := by
  induction ps with
  | nil => cases h
  | cons p r ih =>
    by_cases e : p = x
    · subst e
      exact ⟨0, by simp, rfl, fun m z' hm => absurd hm (by omega)⟩
    · have hr : x ∈ r := (List.mem_cons.mp h).resolve_left fun z => e z.symm
      obtain ⟨i, h1, h2, h3⟩ := ih hr
      refine ⟨i + 1, by simpa using h1, by simpa using h2, fun m z' hm hz => ?_⟩
      cases m with
      | zero =>
        have : z' = .str p := by simpa using hz.symm
        subst this
        show (p == x) = false
        exact beq_eq_false_iff_ne.mpr e
      | succ m => exact h3 m z' (by omega) (by simpa using hz)
theorem eqS (x : Str) : eqV (.str x) (.str x) = true := by
  show (x == x) = true
  exact beq_self_eq_true x
theorem ixn_nat {n i : Nat} (h : i < n) : ixN n (i : Int) = some i := by
  unfold ixN
  rw [if_pos (by omega), if_pos (by omega)]
  rfl
theorem eqv_nilT (fs : List PyData) : PyData.eqv (.list fs) (.list []) = fs.isEmpty := by
  cases fs <;> rfl
/-- new_places(pen, many, facts, pointers) -/
def spNewPlaces : Sp := fun vs H Q _ => ∃ (p l fq q : Addr) (t : Int) (qs : List Addr) (fs : List CF.FD) (ps : List Str), vs = [.ref p, .int (ps.length : Nat), .ref fq, .ref q] ∧ Pen H p l t ∧ t ≤ 100000 ∧ H fq = some (.lst (qs.map V.ref)) ∧ CF.FAt H qs fs ∧ fs.length ≤ 1000 ∧ (∀ f ∈ fs, f.Ok ps) ∧ H q = some (.lst (ps.map V.str)) ∧ CF.Names ps ∧
  ∀ (r : Addr) (H' : Hp) (t' : Int) (zs : List Int), zs.length = ps.length → Pen H' p l t' → t ≤ t' → t' ≤ t + 17 → But p H H' → H r = none → H' r = some (.lst (zs.map V.int)) → Q (.ref r) H'
/- _law_new_places: not in this law -/
end
end K05
end
section
set_option Elab.async false
set_option linter.all false
set_option maxRecDepth 100000
set_option maxHeartbeats 4000000
namespace L2
open PySem PySem.Spec PyProof.Rows
/-! raise X(): an own class whose __init__ takes nothing and keeps no field -/
section
variable {X : Cx}
theorem mk_endN {pins : List (Addr × Obj)} {σ : St} {H1 H2 : Hp} {Q : XK} {hp hp2 h2 : Heap} {g1 g2 : Array GenState} {d1 d2 : Drawn} {t1 t2 : Nat} {os1 os2 : OsState} {a C : Addr} (T : Raises X (.ref C)) (I1 : Inv X pins σ H1 ⟨hp, g1, d1, t1, os1⟩)
    (ha : hp.objs.size ≤ a) (k : ∀ b o, hp.get? b = some o → hp2.get? b = some o) (un : Un (frs X.stack) [] (upd H1 a (exo a C none)) H2 hp2 h2) (hok : HOk X.prog X.w H2 h2) (ho : os2 = os1) (hb : AllBare g2)
    (ea : H2 a = some (exo a C none)) (q : Q (.ref C) none (del H2 a)) : MkP X pins σ Q (.ref a) ⟨h2, g2, d2, t2, os2⟩ := by
  obtain ⟨t0, hoe⟩ := exo_at hok ea
  have hn : H1 a = none := I1.hok.fresh ha
  obtain ⟨G, g1', g2'⟩ := restrict h2 fun b => decide (b ≠ a)
  have gk : ∀ b, b ≠ a → G.get? b = h2.get? b := fun b hb => g1' b (decide_eq_true hb)
  have ge : G.get? a = none := g2' a (by simp)
  have nha : ∀ {b : Addr} {o : Obj}, hp.get? b = some o → b ≠ a := fun {b o} z => Nat.ne_of_lt (Nat.lt_of_lt_of_le (Heap.lt_size z) ha)
  have up : ∀ {b : Addr}, b ≠ a → H1 b = none → upd H1 a (exo a C none) b = none := fun {b} hb n => by rw [upd_ne hb]; exact n
  have U : Un (frs X.stack) [] H1 (del H2 a) hp G := {
    keep := fun b o z n hf hx => by
      rw [gk b (nha z)]
      exact un.keep b o (k b o z) (up (nha z) n) hf hx
    slot := fun b o z n hf hx => by
      rw [gk b (nha z)]
      exact un.slot b o (k b o z) (up (nha z) n) hf hx
    free := fun b o z n hx => by
      rw [del_ne (nha z)]
      exact un.free b o (k b o z) (up (nha z) n) hx
    there := fun b o z hx => by
      rw [gk b (nha z)]
      exact un.there b o (k b o z) hx
    tups := fun b xs z => by
      rw [del_ne (ne_of_none z hn)]
      exact un.tups b xs (by rw [upd_ne (ne_of_none z hn)]; exact z)
    frzs := fun b o v z => by
      rw [del_ne (ne_of_none z hn)]
      exact un.frzs b o v (by rw [upd_ne (ne_of_none z hn)]; exact z)
    tbls := fun b ps z => by
      rw [del_ne (ne_of_none z hn)]
      exact un.tbls b ps (by rw [upd_ne (ne_of_none z hn)]; exact z) }
  have hok3 : HOk X.prog X.w (del H2 a) G := fun b o z => by
    have hba : b ≠ a := fun e => by
      rw [e, del_same] at z
      cases z
    rw [del_ne hba] at z
    have noa : ∀ {c : Addr}, H2 c = some (.own b) → c ≠ a := fun {c} hc => at_ne ea hc exo_own
    exact (hok b o z).stay (fun c v hc y => by
        have hca : c ≠ a := by
          rcases hc with hc | hc
          · rw [hc]
            exact hba
          · exact noa hc
        rw [gk c hca]
        exact y)
      (fun c hc => by rw [del_ne (noa hc)]; exact hc) (fun c xs hc => by rw [del_ne (at_ne ea hc exo_tup)]; exact hc)
  have J : Inv X pins σ (del H2 a) ⟨G, g2, d2, t2, os2⟩ := I1.call' (ch := []) ho U hok3 hb (fun b z => absurd z (by simp))
  exact ⟨a, _, _, ⟨G, g2, d2, t2, os2⟩, _, .ref C, none, rfl, J, fun b o z => (gk b (fun e => by rw [e, ge] at z; cases z)).symm.trans z, ge, hoe, ⟨rfl, rfl⟩, rfl, rfl, del_same, rfl, hb, T, q⟩
def tMkN (C : Addr) (sp : Sp) : St → Hp → XK → Prop := fun _ H1 Q => ∀ a, H1 a = none → sp [.ref a] (upd H1 a (exo a C none)) (fun v H2 => v = .non ∧ H2 a = some (exo a C none) ∧ Q (.ref C) none (del H2 a)) (fun _ _ _ => False)
theorem pmk_oexN {CX : CXT} {x : Str} {C fI : Addr} {k : Nat} {fd : FuncData} {ps : List Str} {sp : Sp} {p pos : Pos} (T : OexC X.K C) (iC : PySem.W.findIn X.K (.ref C) "__init__" = some (some (.ref fI))) (tI : PySem.W.typeIn X.K (.ref fI) = some (.type "function"))
    (F1 : FnOk X.prog X.w X.K X.mg X.base CX k fI fd ps sp) (hr : Room (k + 1) X.A) (hb : Binds X.K fd ps []) (hx : Passes CX X (fun _ _ _ => False)) (hg : Gl X x) (hm : X.mg x = some (.ref C))
    (hdb : (x == ("__debug__" : Str)) = false := by decide) : PMk X (.Call (.Name x p) [] [] pos) (tMkN C sp) := by
  intro pins s σ H Q I q1
  obtain ⟨nm, q, N, bs, bm, sn, sub, ab, col, dd, k0, k1, k2, k3, k5, hC, hbm⟩ := T.cls
  refine wpAny_Call_Name_kw (ld_glob I hg hm (PySem.W.callWith_K0 I.kIn T.kC ?_) hdb)
  show wpAny _ _ (call (.ref C) []) _ _ _
  obtain ⟨hp, g, dr, tk, os⟩ := s
  have hsz : hp.objs.size ≤ hp.objs.size + 1 := Nat.le_succ _
  have hn : H (hp.objs.size + 1) = none := I.hok.fresh hsz
  have hq := q1 (hp.objs.size + 1) hn
  have kk : ∀ b o, hp.get? b = some o → ((hp.push (PySem.W.kdv_tup [])).push (PySem.HandSPX.excO C hp.objs.size)).get? b = some o := fun b o e => Heap.get?_push_of_some _ (Heap.get?_push_of_some _ e)
  have hget : ((hp.push (PySem.W.kdv_tup [])).push (PySem.HandSPX.excO C hp.objs.size)).get? (hp.objs.size + 1) = some (PySem.HandSPX.excO C hp.objs.size) := by heap_get
  have I2 : Inv X pins σ (upd H (hp.objs.size + 1) (exo (hp.objs.size + 1) C none)) ⟨(hp.push (PySem.W.kdv_tup [])).push (PySem.HandSPX.excO C hp.objs.size), g, dr, tk, os⟩ :=
    I.laid (t' := tk) (a := hp.objs.size + 1) (o := exo (hp.objs.size + 1) C none) (h' := (hp.push (PySem.W.kdv_tup [])).push (PySem.HandSPX.excO C hp.objs.size)) kk hsz (exo_ok hget)
  have r2 : Vals [V.ref (hp.objs.size + 1)] [Value.ref (hp.objs.size + 1)] := .cons rfl .nil
  have hl : [Value.ref (hp.objs.size + 1)].length = ps.length := by
    have e := r2.length
    rw [F1.len _ _ _ _ hq] at e
    exact e.symm
  refine wpAny_call (PySem.HandSPX.call_own F.excBase_ValueError (fun Y => PySem.HandSPX.refsVE_contains Y bm hbm) (I.kIn _ _ hC) (PySem.W.looks_findIn I.kIn iC) (fun self => PySem.W.bind_fn I.kIn self tI) (Nat.zero_le _)
    (codeAny_mono (F1.run _ X.stack _ _ ⟨[Value.ref (hp.objs.size + 1)], []⟩ [Value.ref (hp.objs.size + 1)] _ _ (fun _ _ _ => False) (hr.make C [] []) (I2.env0.make C [] []) (by
      have := hb ⟨(hp.push (PySem.W.kdv_tup [])).push (PySem.HandSPX.excO C hp.objs.size), g, dr, tk, os⟩ [Value.ref (hp.objs.size + 1)] I2.kIn (by simpa using hl)
      simpa using this) r2 hq) fun r s' hq' => ?_))
  cases r with
  | error er => exact hx pins σ _ _ er s' I2 hq'
  | ok fl =>
    cases fl with
    | ret u =>
      obtain ⟨v, H2, os2, bare2, un2, hok2, rv, ev, ea, q2⟩ := hq'
      subst ev
      obtain ⟨h2, g2, d2, t2, os'⟩ := s'
      exact ⟨rv, mk_endN (raises_own T.exC T.tyC) I hsz kk un2 hok2 os2 bare2 ea q2⟩
    | next => exact False.elim hq'
    | brk => exact False.elim hq'
    | cont => exact False.elim hq'
end
end L2
end
section
set_option Elab.async false
set_option linter.all false
set_option maxRecDepth 100000
set_option maxHeartbeats 1000000
/-! a generator's run up to its next yield or its end, with what is wanted there told anew each time -/
namespace GenY
open PySem GenW
open Sem (wp)
abbrev Post := End → Shared → Prop
def SegP (M : Model) (A : Around) (Φ : Post) (c : Code) (t : Sem PySem.Fin) (fs : List Frame) (s : Shared) : Prop :=
  ∀ Γ p, Γ.code = c → Γ.Woken A → ∃ e s', Runs M Γ p t fs s e s' ∧ (e.quiet = true ∧ Φ e s')
section
variable {M : Model} {A : Around} {Φ : Post} {c : Code} {fs : List Frame} {s : Shared}
theorem wrap_ {α : Type} {m : Sem α} {K : α → Sem PySem.Fin} {H : Value → Sem PySem.Fin} {gd lv}
    (h : wpAny M (A.over c fs) m (fun a s' => SegP M A Φ c (K a) fs s') (fun x s' => SegP M A Φ c (H x) fs s') s) : SegP M A Φ c (m.wrap K H gd lv) fs s := by
  rintro Γ p rfl hΓ
  exact runs_wrap_of_wp K H gd lv m (h (Γ.over fs) p (hΓ.over fs)) (fun a p' s' h' => h' Γ p' rfl hΓ) (fun x p' s' h' => h' Γ p' rfl hΓ)
theorem bind_ {α : Type} {m : Sem α} {K : α → Sem PySem.Fin}
    (h : wpAny M (A.over c fs) m (fun a s' => SegP M A Φ c (K a) fs s') (fun x s' => SegP M A Φ c (.raise x) fs s') s) : SegP M A Φ c (m >>= K) fs s := by
  rw [Sem.bind_eq_wrap']; exact wrap_ h
theorem bind_wrap_ {α β : Type} {m : Sem α} {K : α → Sem β} {K' : β → Sem PySem.Fin} {H' : Value → Sem PySem.Fin} {gd lv}
    (h : wpAny M (A.over c fs) m (fun a s' => SegP M A Φ c ((K a).wrap K' H' gd lv) fs s') (fun x s' => SegP M A Φ c (H' x) fs s') s) : SegP M A Φ c ((m >>= K).wrap K' H' gd lv) fs s := by
  rw [Sem.bind_eq_wrap', Sem.wrap_wrap]; exact wrap_ h
theorem at_ {p' : Pos} {k : Unit → Sem PySem.Fin} (h : SegP M A Φ c (k ()) fs s) : SegP M A Φ c (.at p' k) fs s :=
  wrap_ (m := standAt p') (K := k) (H := .raise) (gd := id) (lv := id) (wpAny_standAt h)
theorem point_ {l : List Value} {k : Unit → Sem PySem.Fin} (h : SegP M A Φ c (k ()) fs s) : SegP M A Φ c (.point l k) fs s :=
  wrap_ (m := point) (K := k) (H := .raise) (gd := id) (lv := fun _ => l) (wpAny_point h)
theorem call_ {c' : Code} {h g l} {k : Result → Sem PySem.Fin} (hc : ∀ p, SegP M A Φ c' (M.den c') (.ret k h g l c p [] :: fs) s) : SegP M A Φ c (.call c' h g l k) fs s := by
  rintro Γ p rfl hΓ
  obtain ⟨e, s', hr, he⟩ := hc p (Γ.goto c') p rfl (hΓ.goto c')
  exact ⟨e, s', runs_call_seg hr, he⟩
theorem leaf_ {k h g l c₁ p₁ kp} (r : Result) (hk : SegP M A Φ c₁ (k r) fs s) : SegP M A Φ c (leafOf r) (.ret k h g l c₁ p₁ kp :: fs) s := by
  rintro Γ p rfl hΓ
  obtain ⟨e, s', hr, he⟩ := hk (Γ.goto c₁) p₁ rfl (hΓ.goto c₁)
  exact ⟨e, s', Runs.pop r hr, he⟩
theorem again_ {c' : Code} (hq : c'.quiet = true) (hc : SegP M A Φ c' (M.den c') fs s) : SegP M A Φ c (.pure (.again c')) fs s := by
  rintro Γ p rfl hΓ
  obtain ⟨e, s', hr, he⟩ := hc (Γ.goto c') p rfl (hΓ.goto c')
  exact ⟨e, s', Runs.head (c₁ := c') (fun _ _ x => .again hq x) hr, he⟩
theorem end_ (r : Result) (h : Φ (.ret r) s) : SegP M A Φ c (leafOf r) [] s := by
  rintro Γ p rfl _
  exact ⟨.ret r, s, Runs.leaf r, rfl, h⟩
theorem yield_ {v g l} {k : Resume → Sem PySem.Fin} (hfs : splitAtGen fs = none) (hg : g = false) (hfg : fs.any Frame.guarded = false)
    (h : ∀ p, Φ (.susp v g l k c p fs) s) : SegP M A Φ c (.yield v g l k) fs s := by
  rintro Γ p rfl _
  exact ⟨_, s, Runs.yield' fs hfs, by simp [End.quiet, hg, hfg], h p⟩
theorem imp_ {Ψ : Post} {t : Sem PySem.Fin} (h : ∀ e s, Φ e s → Ψ e s) (x : SegP M A Φ c t fs s) : SegP M A Ψ c t fs s := fun Γ p hc hΓ => by
  obtain ⟨e, s', hr, hq, he⟩ := x Γ p hc hΓ
  exact ⟨e, s', hr, hq, h _ _ he⟩
end
section
variable {M : Model} {A : Around} {Φ : Post} {c : Code} {fs : List Frame} {s : Shared} {env : Env} {K : Flow → Sem PySem.Fin} {H : Value → Sem PySem.Fin} {gd : Bool → Bool} {lv : List Value → List Value}
theorem execs_nil_ (h : SegP M A Φ c (K .next) fs s) : SegP M A Φ c ((execs [] env).wrap K H gd lv) fs s := h
theorem execs_cons_ {st : Stmt} {rest : List Stmt}
    (h : SegP M A Φ c ((exec st env).wrap (fun f => match f with | .next => (execs rest env).wrap K H gd lv | f => K f) H gd lv) fs s) : SegP M A Φ c ((execs (st :: rest) env).wrap K H gd lv) fs s := by rw [execs_cons_wrap]; exact h
/-- yield e -/
theorem Expr_Yield_ {e : Expr} {ypos pos : Pos} (hfs : splitAtGen fs = none) (hgd : gd false = false) (hfg : fs.any Frame.guarded = false)
    (h : wpAny M (A.over c fs) (eval e env) (fun v s' => ∀ (l : List Value) (k : Resume → Sem PySem.Fin) (p : Pos), (∀ (Ψ : Post) (s'' : Shared), SegP M A Ψ c (K .next) fs s'' → SegP M A Ψ c (k (.send .none)) fs s'') → Φ (.susp v (gd false) l k c p fs) s')
      (fun x s' => SegP M A Φ c (H x) fs s') s) (hco : env.scope.isCoroutine = false := by rfl) (hi : interactive env = false := by rfl) :
    SegP M A Φ c ((exec (.Expr (.Yield (some e) ypos) pos) env).wrap K H gd lv) fs s := by
  rw [exec_Expr env _ pos hi rfl]
  show SegP M A Φ c (.at pos fun _ => ((eval e env >>= fun v => (standAt ypos >>= fun _ => yieldOut env v)) >>= fun x =>
    dropValue (.Yield (some e) ypos) pos x).wrap K H gd lv) fs s
  have hy : ∀ v, yieldOut env v = yieldValue v := fun v => by simp only [yieldOut, hco, Bool.false_eq_true, if_false]
  simp only [hy]
  refine at_ ?_
  rw [Sem.bind_eq_wrap', Sem.bind_eq_wrap', Sem.wrap_wrap, Sem.wrap_wrap]
  refine wrap_ (wpAny_mono h (fun v s' h' => ?_) fun _ _ x => x)
  refine at_ (yield_ hfs hgd hfg fun p => ?_)
  refine h' _ _ p fun Ψ s'' hx => ?_
  exact hx
end
section
variable {prog : Program} {w : World} {A : Around} {Φ : Post} {c : Code} {fs : List Frame} {s : Shared} {env : Env} {K : Flow → Sem PySem.Fin} {H : Value → Sem PySem.Fin} {gd : Bool → Bool} {lv : List Value → List Value}
theorem func_ {body : List Stmt}
    (h : SegP (model prog w) A Φ (.func body env) ((execs body env).wrap (fun f => .pure (.done (.ret (match f with | .ret v => v | _ => .none))))
      (fun e => (leaving env e).wrap (fun _ => .raise e) .raise id id) id id) fs s) :
    SegP (model prog w) A Φ (.func body env) ((model prog w).den (.func body env)) fs s := by
  show SegP _ A Φ _ (.point [] fun _ => ((execs body env).onRaise (leaving env)) >>= _) fs s
  refine point_ ?_
  rw [Sem.onRaise_eq_wrap, Sem.bind_eq_wrap', Sem.wrap_wrap]
  rw [Sem.wrap_congr (execs body env) _ _ (K' := fun f => .pure (.done (.ret (match f with | .ret v => v | _ => .none))))
    (H' := fun e => (leaving env e).wrap (fun _ => .raise e) .raise id id) (fun f => by cases f <;> rfl)
    (fun e => by rw [Sem.bind_eq_wrap, Sem.wrap_wrap]; rfl)]
  exact h
/-- for target in iter: body. No exception leaves -/
theorem For_ {target iter : Expr} {body : List Stmt} {pos : Pos} (hs : ∀ x, foldedSetIterable iter env x = pure x)
    (h : wpAny (model prog w) (A.over c fs) (eval iter env) (fun x s₁ => wpAny (model prog w) (A.over c fs) (pyIter x) (fun it s₂ =>
        ∀ p, SegP (model prog w) A Φ (.forLoop target it body [] env) ((model prog w).den (.forLoop target it body [] env))
          (.ret (fun r => ((match r with | .ok f => (.pure f : Sem Flow) | .error e => .raise e).onRaise fun (x : Value) => do
            if (← field x 1) == Value.none then unsupported "frame.own-activation:exception-without-traceback"
            setFlight x env.frame).wrap K H gd lv) none (gd false) (lv []) c p [] :: fs) s₂) (fun _ _ => False) s₁) (fun _ _ => False) s) :
    SegP (model prog w) A Φ c ((exec (.For target iter body [] pos) env).wrap K H gd lv) fs s := by
  rw [exec_For]
  refine bind_wrap_ (wpAny_standAt ?_)
  refine bind_wrap_ (wpAny_mono h (fun x s₁ h₁ => ?_) fun _ _ e => e.elim)
  refine bind_wrap_ (wpAny_of_eq (hs x) ?_)
  refine bind_wrap_ (wpAny_standAt ?_)
  refine bind_wrap_ (wpAny_holding (wpAny_mono h₁ (fun it s₂ h₂ => ?_) fun _ _ e => e.elim))
  exact call_ h₂
/-- one turn -/
theorem forTurn_ {target : Expr} {it : Value} {body : List Stmt}
    (h : wpAny (model prog w) (A.over (.forLoop target it body [] env) fs) (pyNext it) (fun r s₁ => match r with
      | none => SegP (model prog w) A Φ (.forLoop target it body [] env) (.pure (.again (.block [] env))) fs s₁
      | some v => wpAny (model prog w) (A.over (.forLoop target it body [] env) fs) (letOwnedTupleGo target it v) (fun _ s₁' =>
          wpAny (model prog w) (A.over (.forLoop target it body [] env) fs) (assign target env v) (fun _ s₂ =>
            SegP (model prog w) A Φ (.forLoop target it body [] env) ((execs body env).wrap (fun f => match f with
              | .next | .cont => .pure (.again (.forLoop target it body [] env))
              | .brk => .pure (.done .next)
              | .ret v => .pure (.done (.ret v))) (fun e => (do noteFrame e env; theTreesLotGoes e : Sem Unit).wrap (fun _ => .raise e) .raise id id) id id) fs s₂) (fun _ _ => False) s₁') (fun _ _ => False) s₁) (fun _ _ => False) s) :
    SegP (model prog w) A Φ (.forLoop target it body [] env) ((model prog w).den (.forLoop target it body [] env)) fs s := by
  show SegP _ A Φ _ ((forTurn target it body [] env).onRaise (fun x => do noteFrame x env; theTreesLotGoes x)) fs s
  rw [Sem.onRaise_eq_wrap]
  unfold forTurn
  refine bind_wrap_ (wpAny_standAt ?_)
  refine bind_wrap_ (wpAny_onRaise (wpAny_mono h (fun r s₁ h₁ => ?_) fun _ _ e => e.elim))
  cases r with
  | none => exact h₁
  | some v =>
    refine bind_wrap_ (wpAny_mono h₁ (fun _ s₁' h₁' => ?_) fun _ _ e => e.elim)
    refine bind_wrap_ (wpAny_mono h₁' (fun _ s₂ h₂ => ?_) fun _ _ e => e.elim)
    rw [Sem.bind_eq_wrap', Sem.wrap_wrap]
    rw [Sem.wrap_congr (execs body env) _ _ (K' := fun f => match f with
            | .next | .cont => .pure (.again (.forLoop target it body [] env))
            | .brk => .pure (.done .next)
            | .ret v => .pure (.done (.ret v))) (H' := (fun e => (do noteFrame e env; theTreesLotGoes e : Sem Unit).wrap (fun _ => .raise e) .raise id id))
        (fun f => by cases f <;> rfl)
        (fun e => by first | exact Sem.bind_eq_wrap _ _ | (show (do noteFrame e env; theTreesLotGoes e : Sem Unit).bind (fun _ => .raise e) = _; rw [Sem.bind_eq_wrap]))]
    exact h₂
theorem block_nil_ (h : SegP (model prog w) A Φ (.block [] env) (.pure (.done .next)) fs s) :
    SegP (model prog w) A Φ (.block [] env) ((model prog w).den (.block [] env)) fs s := by
  show SegP _ A Φ _ (do return Fin.done (← (execs [] env).onRaise (fun x => do noteFrame x env; theTreesLotGoes x))) fs s
  exact h
end
/-- waking: one run up to the next yield or the end -/
def Goes (M : Model) (A : Around) (Φ : Post) (gs : GenState) (s : Shared) : Prop :=
  match gs with
  | .fresh c => SegP M A Φ c (M.den c) [] s
  | .suspended k _ c _ fs _ => SegP M A Φ c (k (.send .none)) fs s
  | _ => False
section
variable {M : Model}
theorem wpAny_resumeP {A : Around} {Φ : Post} {E : Value → Shared → Prop} {s : Shared} {g : Nat} {gs : GenState}
    {l : List Value} {α : Type} {k : GenResult → Sem α} {Q : α → Shared → Prop} (hg : s.gens[g]? = some gs)
    (hgo : Goes M A Φ gs (s.setGen g .running))
    (h : ∀ e s₁, e.quiet = true → Φ e s₁ → wpAny M A (k e.result) Q E (s₁.setGen g e.genState)) :
    wpAny M A (.resume g (.send .none) l k) Q E s := by
  intro Γ p hΓ
  rw [Sem.wp_resume]
  have hB : ∀ c, (Γ.wake c p).Woken A := fun c => hΓ.wake c p
  cases gs with
  | fresh c =>
    obtain ⟨e₁, s₁, hr, hq, he⟩ := hgo (Γ.wake c p) p rfl (hB c)
    exact ⟨_, _, by unfold Wakes; rw [hg]; exact ⟨e₁, s₁, hr, hq, rfl, rfl⟩, h e₁ s₁ hq he Γ p hΓ⟩
  | suspended k₀ l₀ c₀ p₀ fs₀ cl =>
    obtain ⟨e₁, s₁, hr, hq, he⟩ := hgo (Γ.wake c₀ p) p₀ rfl (hB c₀)
    exact ⟨_, _, by unfold Wakes; rw [hg]; exact ⟨e₁, s₁, hr, hq, rfl, rfl⟩, h e₁ s₁ hq he Γ p hΓ⟩
  | running => exact hgo.elim
  | finished => exact hgo.elim
end
section
variable {P : Program} {w : World} {A : Around} {E : Value → Shared → Prop} {s : Shared}
/-- next of a generator, by its run: it hands out v and sleeps, or it is at its end -/
theorem next_genP {a : Addr} {g : Nat} {gs : GenState} {Φ : Post} {Q : Option Value → Shared → Prop} (hh : A.handled = none)
    (hl : s.heap.NoLimit) (hroom : A.depth < recursionLimit) (hg : s.heap.IsGen a g) (hgs : s.gens[g]? = some gs)
    (hgo : Goes (model P w) A.in1 Φ gs (s.setGen g .running))
    (hY : ∀ v gd l k c p fs s₁, (End.susp v gd l k c p fs).quiet = true → Φ (.susp v gd l k c p fs) s₁ → Q (some v) (s₁.setGen g (End.susp v gd l k c p fs).genState))
    (hR : ∀ r s₁, Φ (.ret r) s₁ → (r = .ok (.ret .none) ∨ r = .ok .next) ∧ ∀ h', (∀ b o, s₁.heap.get? b = some o → h'.get? b = some o) → Q none { s₁.setGen g .finished with heap := h' }) :
    wpAny (model P w) A (pyNext (.ref a)) Q E s := by
  unfold pyNext
  refine wpAny_bind (wpAny_attempt (wpAny_callSpecial?_slot (name := Str.ofString "__next__") hg.typeIs slot_gen_next
    (wpAny_call_entry slot_gen_next hg.typeIs entry_gen_next ?_ (args_gen_next _))))
  show wpAny _ A.in1 (Builtin.Generator.genWake (.ref a) (.send .none)) _ _ s
  unfold Builtin.Generator.genWake
  refine wpAny_bind (wpAny_holding (wpAny_genNumber hg (wpAny_bind (wpAny_genState hgs ?_))))
  cases gs with
  | running => exact hgo.elim
  | finished => exact hgo.elim
  | _ =>
    refine wpAny_bind (wpAny_roomToWake hl hroom ?_)
    show wpAny _ A.in1 (.resume g (.send .none) [] _) _ _ s
    refine wpAny_resumeP hgs hgo fun e s₁ hq he => ?_
    cases e with
    | ret r =>
      obtain ⟨hr, hp⟩ := hR r s₁ he
      have hres : End.result (.ret r) = .returned .none := by
        rcases hr with hr | hr <;> rw [hr] <;> rfl
      have hgst : End.genState (.ret r) = .finished := rfl
      rw [hres, hgst]
      show wpAny _ A.in1 (newExc (.type "StopIteration") [] >>= _) _ _ _
      refine wpAny_bind ?_
      simp only [newExc, newTuple]
      refine wpAny_bind (wpAny_newObj_type ?_ (by size_fits))
      refine wpAny_bind (m := firstArgMember _ _) (wpAny_of_eq (a := Value.none) (by first | rfl | (simp only [firstArgMember]; rfl)) ?_)
      refine wpAny_newObj_type ?_ (by size_fits)
      simp only [raiseNew]
      refine wpAny_bind (wpAny_bind (wpAny_handled ?_))
      first | rw [show A.in1.handled = none from hh] | rw [hh]
      refine wpAny_throw ?_
      refine wpAny_bind (wpAny_isInstance (T := "StopIteration") (b := true) ⟨_, Heap.get?_push_size _ rfl, rfl⟩ isSubtype_stop ?_)
      exact wpAny_pure (hp _ fun b o hb => Heap.get?_push_of_some _ (Heap.get?_push_of_some _ hb))
    | susp v gd l k c p fs => exact wpAny_pure ⟨v, rfl, wpAny_pure (hY v gd l k c p fs s₁ hq he)⟩
end
end GenY
end
section
set_option Elab.async false
set_option linter.all false
set_option maxRecDepth 100000
set_option maxHeartbeats 1000000
/-! no run takes back a generator or an address, none wakes the dead -/
namespace GenY
open PySem GenW
open Sem (wp)
structure Mono (s s' : Shared) : Prop where
  gens : s.gens.size ≤ s'.gens.size
  size : s.heap.objs.size ≤ s'.heap.objs.size
  dead : ∀ b, b < s.heap.objs.size → s.heap.get? b = none → s'.heap.get? b = none
theorem Mono.refl {s : Shared} : Mono s s := ⟨Nat.le_refl _, Nat.le_refl _, fun _ _ h => h⟩
theorem Mono.trans {a b c : Shared} (x : Mono a b) (y : Mono b c) : Mono a c := ⟨Nat.le_trans x.gens y.gens, Nat.le_trans x.size y.size, fun q h e => y.dead q (Nat.lt_of_lt_of_le h x.size) (x.dead q h e)⟩
theorem Mono.of_heap {s s' : Shared} (h : s'.heap = s.heap) (g : s.gens.size ≤ s'.gens.size) : Mono s s' := ⟨g, by rw [h]; exact Nat.le_refl _, fun b _ e => by rw [h]; exact e⟩
theorem Mono.upd {s : Shared} {a : Addr} {f : Obj → Obj} (h : (s.heap.get? a).isSome = true) : Mono s { s with heap := s.heap.update a f } := by
  refine ⟨Nat.le_refl _, by show _ ≤ (s.heap.update a f).objs.size; rw [Heap.size_update]; exact Nat.le_refl _, fun b hb e => ?_⟩
  show (s.heap.update a f).get? b = none
  by_cases hab : b = a
  · rw [hab] at e; rw [e] at h; cases h
  · rw [Heap.get?_update_ne _ _ _ _ hab]; exact e
theorem Mono.push {s : Shared} {o : Obj} : Mono s { s with heap := s.heap.push o } := by
  refine ⟨Nat.le_refl _, by show _ ≤ (s.heap.push o).objs.size; rw [Heap.size_push]; exact Nat.le_succ _, fun b hb e => ?_⟩
  show (s.heap.push o).get? b = none
  rw [Heap.get?_push_ne _ _ _ (Nat.ne_of_lt hb)]; exact e
theorem Mono.setGen {s : Shared} {g : Nat} {x : GenState} : Mono s (s.setGen g x) := .of_heap rfl (by simp [Shared.setGen])
theorem runs_mono {M : Model} {Γ : Ctx} {p : Pos} {t : Sem PySem.Fin} {fs : List Frame} {s s' : Shared} {e : End} (h : Runs M Γ p t fs s e s') : Mono s s' := by
  induction h with
  | done => exact .refl
  | raise => exact .refl
  | again _ _ ih => exact ih
  | rule _ ih => exact ih
  | «at» _ ih => exact ih
  | load _ _ ih => exact ih
  | update h _ ih => exact (Mono.upd h).trans ih
  | loadIfAlive _ ih => exact ih
  | point _ ih => exact ih
  | alloc _ ih => exact Mono.push.trans ih
  | fresh _ ih => exact ⟨ih.gens, ih.size, ih.dead⟩
  | ask _ ih => exact ih
  | choose _ _ ih => exact ⟨ih.gens, ih.size, ih.dead⟩
  | os _ ih => exact ⟨ih.gens, ih.size, ih.dead⟩
  | handled _ ih => exact ih
  | genState _ _ ih => exact ih
  | stack _ ih => exact ih
  | thread _ ih => exact ih
  | newGen _ ih => exact ⟨Nat.le_trans (by simp) ih.gens, ih.size, ih.dead⟩
  | call _ _ ih1 ih2 => exact ih1.trans ih2
  | callSusp _ ih => exact ih
  | yield => exact .refl
  | resumeFresh _ _ _ _ ih1 ih2 => exact Mono.setGen.trans (ih1.trans (Mono.setGen.trans ih2))
  | resumeSuspended _ _ _ _ ih1 ih2 => exact Mono.setGen.trans (ih1.trans (Mono.setGen.trans ih2))
  | resumeJustStarted _ _ _ ih => exact ih
  | resumeThrowFresh _ _ ih => exact Mono.setGen.trans ih
  | resumeRunning _ _ ih => exact ih
  | resumeFinished _ _ ih => exact ih
  | segRet _ _ ih1 ih2 => exact ih1.trans ih2
  | segGen _ _ ih1 ih2 => exact ih1.trans (Mono.setGen.trans ih2)
  | segSuspOut _ _ ih => exact ih
  | segSuspGen _ _ _ _ ih1 ih2 => exact ih1.trans (Mono.setGen.trans ih2)
/-- .. and what no run takes back is told with it -/
theorem SegP.mono {M : Model} {A : Around} {Φ : Post} {c : Code} {t : Sem PySem.Fin} {fs : List Frame} {s : Shared} (h : SegP M A Φ c t fs s) : SegP M A (fun e s' => Φ e s' ∧ Mono s s') c t fs s := fun Γ p hc hΓ => by
  obtain ⟨e, s', hr, hq, he⟩ := h Γ p hc hΓ
  exact ⟨e, s', hr, hq, he, runs_mono hr⟩
end GenY
end
section
set_option Elab.async false
set_option linter.all false
set_option maxRecDepth 100000
set_option maxHeartbeats 2000000
/-! a generator def's body, walked by a for loop: its context is laid anew at each waking -/
namespace L2
open PySem PySem.Spec PyProof.Rows GenW GenY
structure GP where
  P : Program
  w : World
  K : PySem.W.Frag
  mg : Str → Option Value
  base : Heap
  N : List Str
  qual : Str
  scope : Scope
  f : Addr
  cdv : Value
  A : Around
  outer : List Env
  L : Addr
abbrev GP.env (G : GP) : Env := envOfC G.qual G.scope G.L G.f G.cdv
/-- what stood when it was woken, up to the generator's frame; all else that is not its own -/
structure Ix where
  s0 : Shared
  pn : List (Addr × Obj)
  F : Hp
@[reducible] def GP.cx (G : GP) (ix : Ix) : Cx where
  prog := G.P
  w := G.w
  K := G.K
  mg := G.mg
  base := G.base
  A := G.A.deeper G.env
  N := G.N
  s_0 := ix.s0
  H_0 := ix.F
  env := G.env
  outer := G.outer
  stack := G.env :: G.outer
  ex := []
  calm := true
  fn := fun _ => true
  pn := ix.pn
  xe := fun _ _ => False
/-- the lists and tuples, but for the one at t -/
def plainBut (t : Addr) (H : Hp) : Hp := fun b => if b = t then none else match H b with
  | some (.lst xs) => some (.lst xs)
  | some (.tup xs) => some (.tup xs)
  | _ => none
theorem plainBut_at {t : Addr} {H : Hp} : plainBut t H t = none := by unfold plainBut; rw [if_pos rfl]
theorem plainBut_sub {t : Addr} {H : Hp} {b : Addr} {o : HO} (h : plainBut t H b = some o) : b ≠ t ∧ H b = some o ∧ ((∃ xs, o = .lst xs) ∨ ∃ xs, o = .tup xs) := by
  unfold plainBut at h
  split at h
  · cases h
  · rename_i hb
    refine ⟨hb, ?_⟩
    split at h
    · rename_i xs e
      cases h
      exact ⟨e, .inl ⟨xs, rfl⟩⟩
    · rename_i xs e
      cases h
      exact ⟨e, .inr ⟨xs, rfl⟩⟩
    · cases h
theorem plainBut_lst {t : Addr} {H : Hp} {b : Addr} {xs : List V} (hb : b ≠ t) (h : H b = some (.lst xs)) : plainBut t H b = some (.lst xs) := by
  unfold plainBut; rw [if_neg hb, h]
theorem plainBut_tup {t : Addr} {H : Hp} {b : Addr} {xs : List V} (hb : b ≠ t) (h : H b = some (.tup xs)) : plainBut t H b = some (.tup xs) := by
  unfold plainBut; rw [if_neg hb, h]
structure IxOk (G : GP) (ix : Ix) (ip : List (Addr × Obj)) : Prop where
  sz : ix.s0.heap.objs.size = G.L
  dj : ∀ p ∈ ix.pn, ∀ q ∈ ip, p.1 ≠ q.1
  lo : ∀ q ∈ ip, G.L < q.1
theorem IxOk.left {G : GP} {ix : Ix} {ip jp : List (Addr × Obj)} (h : IxOk G ix (ip ++ jp)) : IxOk G ix ip := ⟨h.sz, fun p hp q hq => h.dj p hp q (List.mem_append_left _ hq), fun q hq => h.lo q (List.mem_append_left _ hq)⟩
/-- all that is tracked stays so -/
def ZExt (H H' : Hp) : Prop := ∀ b o, H b = some o → H' b = some o
/-- what a run comes to: n items are to come, j are out -/
def PostG (G : GP) (zss : List (List V)) : Nat → Ix → Nat → Post
  | 0 => fun ix j e s1 => match e with
    | .ret r => (r = .ok (.ret .none) ∨ r = .ok .next) ∧ j = zss.length ∧ ∃ ip σ H, Inv (G.cx ix) ip σ H s1
    | _ => False
  | n + 1 => fun ix j e s1 => match e with
    | .ret r => (r = .ok (.ret .none) ∨ r = .ok .next) ∧ j = zss.length ∧ ∃ ip σ H, Inv (G.cx ix) ip σ H s1
    | .susp v gd l k c p fs => ∃ ip σ H t zs, zss[j]? = some zs ∧ v = .ref t ∧ H t = some (.tup zs) ∧ IxOk G ix ip ∧ Inv (G.cx ix) ip σ H s1 ∧
        ∀ s' ix' H', IxOk G ix' ip → ZExt (plainBut t H) H' → Inv (G.cx ix') ip σ H' s' → SegP (model G.P G.w) G.A (PostG G zss n ix' (j + 1)) c (k (.send .none)) fs s'
theorem PostG.ret {G : GP} {zss : List (List V)} {n : Nat} {ix : Ix} {j : Nat} {r : Result} {s1 : Shared} (hr : r = .ok (.ret .none) ∨ r = .ok .next) (hj : j = zss.length) (h : ∃ ip σ H, Inv (G.cx ix) ip σ H s1) : PostG G zss n ix j (.ret r) s1 := by
  cases n with
  | zero => exact ⟨hr, hj, h⟩
  | succ n => exact ⟨hr, hj, h⟩
structure GE where
  nx : Nat → Ix → L2.St → Hp → Prop
  rt : Nat → Ix → VK
  bk : Nat → Ix → L2.St → Hp → Prop := fun _ _ _ _ => False
  ct : Nat → Ix → L2.St → Hp → Prop := fun _ _ _ _ => False
def GE.at (D : GE) (j : Nat) (ix : Ix) : Ends := { nx := D.nx j ix, rt := D.rt j ix, bk := D.bk j ix, ct := D.ct j ix }
abbrev TGF := GE → Nat → Ix → L2.St → Hp → Prop
def GSPp (G : GP) (ip : List (Addr × Obj)) (D : GE) (j : Nat) (ix : Ix) (f : Flow) (s : Shared) : Prop := IxOk G ix ip ∧ SP (G.cx ix) ip (D.at j ix) f s
structure GCp (G : GP) (c : Code) (fs : List Frame) (gd : Bool → Bool) : Prop where
  over : G.A.over c fs = G.A.deeper G.env
  split : splitAtGen fs = none
  guard : fs.any Frame.guarded = false
  gd : gd false = false
structure GKp (G : GP) (zss : List (List V)) (ip : List (Addr × Obj)) (D : GE) (c : Code) (fs : List Frame) (K : Flow → Sem PySem.Fin) : Prop where
  ok : ∀ (n j : Nat) (ix : Ix) (s : Shared) (f : Flow), n + j = zss.length → GSPp G ip D j ix f s → SegP (model G.P G.w) G.A (PostG G zss n ix j) c (K f) fs s
structure GF1 (G : GP) (zss : List (List V)) (st : Stmt) (t : TGF) : Prop where
  run : ∀ (ip : List (Addr × Obj)) (n j : Nat) (c : Code) (fs : List Frame) (K : Flow → Sem PySem.Fin) (J : Value → Sem PySem.Fin) (gd : Bool → Bool) (lv : List Value → List Value) (s : Shared) (ix : Ix) (σ : L2.St) (H : Hp) (D : GE),
    GCp G c fs gd → n + j = zss.length → GKp G zss ip D c fs K → IxOk G ix ip → Inv (G.cx ix) ip σ H s → t D j ix σ H → SegP (model G.P G.w) G.A (PostG G zss n ix j) c ((exec st G.env).wrap K J gd lv) fs s
structure GFs (G : GP) (zss : List (List V)) (st : List Stmt) (t : TGF) : Prop where
  run : ∀ (ip : List (Addr × Obj)) (n j : Nat) (c : Code) (fs : List Frame) (K : Flow → Sem PySem.Fin) (J : Value → Sem PySem.Fin) (gd : Bool → Bool) (lv : List Value → List Value) (s : Shared) (ix : Ix) (σ : L2.St) (H : Hp) (D : GE),
    GCp G c fs gd → n + j = zss.length → GKp G zss ip D c fs K → IxOk G ix ip → Inv (G.cx ix) ip σ H s → t D j ix σ H → SegP (model G.P G.w) G.A (PostG G zss n ix j) c ((execs st G.env).wrap K J gd lv) fs s
section
variable {G : GP} {zss : List (List V)} {st : Stmt} {rest : List Stmt}
def tGp (t : Ix → TS) : TGF := fun D j ix σ H => t ix (D.at j ix) σ H
theorem gf_ps {t : Ix → TS} (h : ∀ ix, PS (G.cx ix) st (t ix)) : GF1 G zss st (tGp t) := by
  refine ⟨fun ip n j c fs K J gd lv s ix σ H D g hn k io I ht => wrap_ ?_⟩
  rw [g.over]
  exact wpAny_mono ((h ix).run _ s σ H (D.at j ix) I ht) (fun f s' hs => k.ok n j ix s' f hn ⟨io, hs⟩) fun _ _ x => x.elim
def tG0p : TGF := fun D j ix σ H => D.nx j ix σ H
theorem gfs_nil : GFs G zss [] tG0p := by
  refine ⟨fun ip n j c fs K J gd lv s ix σ H D g hn k io I ht => execs_nil_ (k.ok n j ix s .next hn ⟨io, ⟨σ, H, I, ht⟩⟩)⟩
def tGThenp (t u : TGF) : TGF := fun D j ix σ H => t { D with nx := fun j' ix' σ' H' => u D j' ix' σ' H' } j ix σ H
theorem gfs_cons {t u : TGF} (a : GF1 G zss st t) (b : GFs G zss rest u) : GFs G zss (st :: rest) (tGThenp t u) := by
  refine ⟨fun ip n j c fs K J gd lv s ix σ H D g hn k io I ht => execs_cons_ ?_⟩
  refine a.run ip n j c fs _ J gd lv s ix σ H { D with nx := fun j' ix' σ' H' => u D j' ix' σ' H' } g hn ⟨fun n' j' ix' s' f hn' hs => ?_⟩ io I ht
  obtain ⟨io', hs⟩ := hs
  cases f with
  | next =>
    obtain ⟨σ', H', I', q⟩ := hs
    exact b.run ip n' j' c fs K J gd lv s' ix' σ' H' D g hn' k io' I' q
  | brk => exact k.ok n' j' ix' s' .brk hn' ⟨io', hs⟩
  | cont => exact k.ok n' j' ix' s' .cont hn' ⟨io', hs⟩
  | ret u => exact k.ok n' j' ix' s' (.ret u) hn' ⟨io', hs⟩
theorem gfs_one {t : TGF} (a : GF1 G zss st t) : GFs G zss [st] (tGThenp t tG0p) := gfs_cons a gfs_nil
/-- yield e: a tuple that is of no use to the generator behind it -/
def tGYp (zss : List (List V)) (te : Ix → TE) : TGF := fun D j ix σ H => te ix σ H fun x H1 => ∃ t zs, x = .ref t ∧ H1 t = some (.tup zs) ∧ zss[j]? = some zs ∧ ∀ ix' H', ZExt (plainBut t H1) H' → D.nx (j + 1) ix' σ H'
theorem gf_yield {e : Expr} {yp pos : Pos} {te : Ix → TE} (he : ∀ ix, PE (G.cx ix) e (te ix)) (hco : G.scope.isCoroutine = false) (hi : interactive G.env = false := by rfl) : GF1 G zss (.Expr (.Yield (some e) yp) pos) (tGYp zss te) := by
  refine ⟨fun ip n j c fs K J gd lv s ix σ H D g hn k io I ht => ?_⟩
  refine Expr_Yield_ g.split g.gd g.guard ?_ hco hi
  rw [g.over]
  refine wpAny_mono ((he ix).run _ s σ H _ I ht) (fun v s' hv => ?_) fun _ _ x => x.elim
  obtain ⟨x, H1, I1, rv, t, zs, rfl, h1, hz, q⟩ := hv
  obtain rfl : v = Value.ref t := rv
  have hj : j < zss.length := by
    rcases Nat.lt_or_ge j zss.length with h | h
    · exact h
    · rw [List.getElem?_eq_none_iff.mpr h] at hz
      cases hz
  obtain ⟨n, rfl⟩ : ∃ m, n = m + 1 := ⟨n - 1, by omega⟩
  intro l kk p hk
  refine ⟨ip, σ, H1, t, zs, hz, rfl, h1, io, I1, fun s'' ix' H' io' hx I' => hk _ s'' ?_⟩
  exact k.ok n (j + 1) ix' s'' .next (by omega) ⟨io', ⟨σ, _, I', q ix' H' hx⟩⟩
/-- a for loop of the generator -/
def tGForp (wi : Ix → TI) (g : Ix → TG) (tb : TGF) : TGF := fun D j ix σ H => wi ix σ H fun J H1 => ∃ W : Nat → Nat → Nat → Ix → L2.St → Hp → Prop, (∃ m, W 0 m j ix σ H1) ∧ ∀ i m j ix σ H, W i m j ix σ H →
  (J.stop i H ∧ D.nx j ix σ H) ∨ (J.go i H ∧ ∃ N : Nat → Ix → L2.St → Hp → Prop, (∀ j' ix' σ' H', N j' ix' σ' H' → ∃ m', m' < m ∧ W (i + 1) m' j' ix' σ' H') ∧ ∀ x H', J.yld i H x H' → g ix x σ H' fun σ2 H2 => tb { D with nx := N, ct := N, bk := D.nx } j ix σ2 H2)
theorem gcp_loop {c c' : Code} {fs : List Frame} {gd : Bool → Bool} {k : Result → Sem PySem.Fin} {l kp : List Value} {p : Pos} (g : GCp G c fs gd) (hw : c'.weight = 0) (hu : c'.cUnits = 0) :
    GCp G c' (.ret k none (gd false) l c p kp :: fs) id where
  over := (over_loop hw hu).trans g.over
  split := by
    show (splitAtGen fs).map _ = none
    rw [g.split]; rfl
  guard := by
    show (gd false || fs.any Frame.guarded) = false
    rw [g.gd, g.guard]; rfl
  gd := rfl
theorem gf_for {tg iter : Expr} {body : List Stmt} {wi : Ix → TI} {g : Ix → TG} {tb : TGF} {pos : Pos} (hi : ∀ ix, PI (G.cx ix) tg iter (wi ix)) (hg : ∀ ix, PG (G.cx ix) tg (g ix)) (hb : GFs G zss body tb)
    (hs : ∀ x, foldedSetIterable iter G.env x = pure x := by intro _; rfl) : GF1 G zss (.For tg iter body [] pos) (tGForp wi g tb) := by
  refine ⟨fun ip n j c fs K J gd lv s ix σ H D gc hn k io I ht => ?_⟩
  refine For_ hs ?_
  rw [gc.over]
  refine thn ((hi ix).run ip s σ H _ I ht) fun v s1 h1 => thn h1 fun itv s2 h2 => ?_
  obtain ⟨it, fp, tn, Jt, H2, rfl, I2, T, st2, f2, W, ⟨m0, w0⟩, turn⟩ := h2
  intro p
  have gl := fun (kk : Result → Sem PySem.Fin) => gcp_loop (k := kk) (c' := .forLoop tg (.ref it) body [] G.env) (l := lv []) (kp := []) (p := p) gc rfl rfl
  have loop : ∀ (m i n j : Nat) (ix : Ix) (s : Shared) (σ : L2.St) (H : Hp), n + j = zss.length → W i m j ix σ H → IxOk G ix ip → Inv (G.cx ix) ip σ H s → tn i s.heap → (∀ b ∈ fp, FpOk (G.cx ix) ip H b) →
      SegP (model G.P G.w) G.A (PostG G zss n ix j) (.forLoop tg (.ref it) body [] G.env) ((model G.P G.w).den (.forLoop tg (.ref it) body [] G.env))
        (.ret (fun r => ((match r with | .ok f => (.pure f : Sem Flow) | .error e => .raise e).onRaise fun (x : Value) => do
            if (← field x 1) == Value.none then unsupported "frame.own-activation:exception-without-traceback"
            setFlight x G.env.frame).wrap K J gd lv) none (gd false) (lv []) c p [] :: fs) s := by
    intro m
    induction m using Nat.strongRecOn with
    | ind m ih =>
      intro i n j ix s σ H hn w io I st fo
      refine forTurn_ ?_
      rw [(gl _).over]
      rcases turn i m j ix σ H w with ⟨stop, qn⟩ | ⟨go, N, hN, step⟩
      · refine thn (T.done (G.cx ix) rfl rfl rfl rfl i ip s σ H _ I fo st stop) fun r s4 ⟨hr, I4⟩ => ?_
        subst hr
        exact again_ rfl (block_nil_ (leaf_ (.ok .next) (k.ok n j ix s4 .next hn ⟨io, ⟨σ, H, I4, qn⟩⟩)))
      · refine thn (T.item (G.cx ix) rfl rfl rfl rfl i ip s σ H _ I fo st go) fun r s4 ⟨u, hr, h4⟩ => ?_
        subst hr
        refine thn h4 fun _ s5 ⟨x, H5, I5, r5, y5, st5, fr5⟩ => ?_
        have fo5 : ∀ b ∈ fp, FpOk (G.cx ix) ip H5 b := fun b hb => ⟨fr5 b hb, (fo b hb).2⟩
        have I5' := I5.pinned fo5 (T.obj _ _ st5)
        refine thn ((hg ix).run _ s5 σ H5 x u _ I5' r5 (step x H5 y5)) fun _ s6 ⟨σ6, H6, I6, q6⟩ => ?_
        have io' : IxOk G ix (ip ++ pinsAt fp s5.heap) := ⟨io.sz, fun p hp q hq => by
          rcases List.mem_append.mp hq with hq | hq
          · exact io.dj p hp q hq
          · obtain ⟨hb, _⟩ := of_pinsAt hq
            exact (fo q.1 hb).2.2.2.2.2 p (List.mem_append_left _ hp), fun q hq => by
          rcases List.mem_append.mp hq with hq | hq
          · exact io.lo q hq
          · obtain ⟨hb, _⟩ := of_pinsAt hq
            obtain ⟨_, z2, _, z4, _⟩ := fo q.1 hb
            have z4' : ix.s0.heap.objs.size ≤ q.1 := z4.resolve_left (by simp)
            rw [io.sz] at z4'
            exact Nat.lt_of_le_of_ne z4' (Ne.symm z2)⟩
        refine hb.run (ip ++ pinsAt fp s5.heap) n j _ _ _ _ id id s6 ix σ6 H6 { D with nx := N, ct := N, bk := D.nx } (gl _) hn ⟨fun n' j' ix' s7 f hn' hs => ?_⟩ io' I6 q6
        obtain ⟨io7, hs⟩ := hs
        have again : ∀ {σ7 : L2.St} {H7 : Hp}, Inv (G.cx ix') (ip ++ pinsAt fp s5.heap) σ7 H7 s7 → N j' ix' σ7 H7 → SegP (model G.P G.w) G.A (PostG G zss n' ix' j') (.forLoop tg (.ref it) body [] G.env) (.pure (.again (.forLoop tg (.ref it) body [] G.env)))
            (.ret (fun r => ((match r with | .ok f => (.pure f : Sem Flow) | .error e => .raise e).onRaise fun (x : Value) => do
              if (← field x 1) == Value.none then unsupported "frame.own-activation:exception-without-traceback"
              setFlight x G.env.frame).wrap K J gd lv) none (gd false) (lv []) c p [] :: fs) s7 := fun {σ7 H7} I7 n7 => by
          obtain ⟨m', hm, w7⟩ := hN j' ix' σ7 H7 n7
          have pin7 : ∀ b ∈ fp, ∃ o, s5.heap.get? b = some o ∧ s7.heap.get? b = some o ∧ H7 b = none := fun b hb => by
            obtain ⟨o, e, d⟩ := T.obj _ _ st5 b hb
            obtain ⟨z1, z2, _⟩ := I7.pin (b, o) (List.mem_append_right _ (List.mem_append_right _ (mem_pinsAt hb e)))
            exact ⟨o, e, z1, z2⟩
          refine again_ rfl (ih m' hm (i + 1) n' j' ix' s7 σ7 H7 hn' w7 io7.left I7.unpinned (T.keep _ _ _ st5 fun b hb o e => ?_) fun b hb => ?_)
          · obtain ⟨o', e1, e2, _⟩ := pin7 b hb
            rw [e] at e1; cases e1
            exact e2
          · obtain ⟨o', e1, e2, e3⟩ := pin7 b hb
            obtain ⟨z1, z2, z3, z4, z5, z6⟩ := fo b hb
            refine ⟨e3, z2, z3, z4.imp (fun h => h) (fun h => ?_), z5, fun p hp => ?_⟩
            · have a1 : ix.s0.heap.objs.size ≤ b := h
              show ix'.s0.heap.objs.size ≤ b
              rw [io7.sz, ← io.sz]
              exact a1
            · rcases List.mem_append.mp hp with hp | hp
              · exact io7.dj p hp (b, o') (List.mem_append_right _ (mem_pinsAt hb e1))
              · exact z6 p (List.mem_append_right _ hp)
        cases f with
        | next => obtain ⟨σ7, H7, I7, n7⟩ := hs; exact again I7 n7
        | cont => obtain ⟨σ7, H7, I7, n7⟩ := hs; exact again I7 n7
        | brk =>
          obtain ⟨σ7, H7, I7, q7⟩ := hs
          exact leaf_ (.ok .next) (k.ok n' j' ix' s7 .next hn' ⟨io7.left, ⟨σ7, H7, I7.unpinned, q7⟩⟩)
        | ret v =>
          obtain ⟨x7, σ7, H7, I7, r7, q7⟩ := hs
          exact leaf_ (.ok (.ret v)) (k.ok n' j' ix' s7 (.ret v) hn' ⟨io7.left, ⟨x7, σ7, H7, I7.unpinned, r7, q7⟩⟩)
  exact loop m0 0 n j ix s2 σ H2 hn w0 io I2 st2 f2
/-- the whole body -/
theorem gfs_top {t : TGF} {ix : Ix} {σ : L2.St} {H : Hp} {s : Shared} (hA : G.A.handled = none) (hb : GFs G zss rest t) (io : IxOk G ix []) (I : Inv (G.cx ix) [] σ H s)
    (ht : t { nx := fun j _ _ _ => j = zss.length, rt := fun j _ v _ => v = .non ∧ j = zss.length } 0 ix σ H) :
    SegP (model G.P G.w) G.A (PostG G zss zss.length ix 0) (.func rest G.env) ((model G.P G.w).den (.func rest G.env)) [] s := by
  refine func_ (hb.run [] zss.length 0 _ [] _ _ id id s ix σ H _ ⟨over_func, rfl, rfl, rfl⟩ (Nat.add_zero _) ⟨fun n j ix' s' f hn hs => ?_⟩ io I ht)
  obtain ⟨io', hs⟩ := hs
  cases f with
  | next =>
    obtain ⟨σ', H', I', q⟩ := hs
    exact end_ (.ok (.ret .none)) (PostG.ret (.inl rfl) q ⟨_, _, _, I'⟩)
  | brk => obtain ⟨_, _, _, q⟩ := hs; exact q.elim
  | cont => obtain ⟨_, _, _, q⟩ := hs; exact q.elim
  | ret u =>
    obtain ⟨v, σ', H', I', rv, ev, q⟩ := hs
    subst ev
    have eu : u = Value.none := rv
    subst eu
    exact end_ (.ok (.ret .none)) (PostG.ret (.inl rfl) q ⟨_, _, _, I'⟩)
end
end L2
end
section
set_option Elab.async false
set_option linter.all false
set_option maxRecDepth 100000
set_option maxHeartbeats 2000000
/-! a sleeping generator, as its consumer sees it -/
namespace L2
open PySem PySem.Spec PyProof.Rows GenW GenY
/-! ### the heap up to the generator's frame, without what it tracks -/
def freedO : Obj := { cls := .none, data := .freed }
noncomputable def truncH (L : Nat) (H : Hp) (h : Heap) : Heap :=
  ⟨(Array.range L).map fun b => if (H b).isSome then freedO else (h.objs[b]?).getD freedO, h.life⟩
theorem truncH_size {L : Nat} {H : Hp} {h : Heap} : (truncH L H h).objs.size = L := by simp [truncH]
theorem truncH_get {L b : Nat} {H : Hp} {h : Heap} (hb : b < L) (hn : H b = none) : (truncH L H h).get? b = h.get? b := by
  unfold truncH Heap.get?
  simp only [Array.getElem?_map, Array.getElem?_range, hb, if_true, Option.map_some, hn, Option.isSome_none, Bool.false_eq_true, if_false]
  cases e : h.objs[b]? with
  | none => rfl
  | some o => rfl
theorem of_truncH {L b : Nat} {H : Hp} {h : Heap} {o : Obj} (e : (truncH L H h).get? b = some o) : b < L ∧ H b = none ∧ h.get? b = some o := by
  have hb : b < L := by
    have := Heap.lt_size e
    rwa [truncH_size] at this
  cases hn : H b with
  | none =>
    rw [truncH_get hb hn] at e
    exact ⟨hb, rfl, e⟩
  | some u =>
    unfold truncH Heap.get? at e
    simp [hb, hn, freedO] at e
def isCell (d : Data) : Bool := match d with | .cell _ => true | _ => false
theorem notCell {d : Data} (h : ∀ v, d ≠ .cell v) : isCell d = false := by
  cases d <;> first | rfl | exact absurd rfl (h _)
theorem of_notCell {d : Data} (h : isCell d = false) : ∀ v, d ≠ .cell v := fun v e => by rw [e] at h; cases h
open Classical in
/-- all that is younger than the generator's frame, no cell, not its own -/
noncomputable def foreign (L : Addr) (ip : List (Addr × Obj)) (H : Hp) (h : Heap) : List (Addr × Obj) :=
  (List.range h.objs.size).filterMap fun b => if L < b ∧ (∀ q ∈ ip, q.1 ≠ b) ∧ H b = none then (match h.get? b with | some o => if isCell o.data = false then some (b, o) else none | none => none) else none
theorem mem_foreign {L : Addr} {ip : List (Addr × Obj)} {H : Hp} {h : Heap} {b : Addr} {o : Obj} (h1 : L < b) (h2 : ∀ q ∈ ip, q.1 ≠ b) (h3 : H b = none) (e : h.get? b = some o) (d : ∀ v, o.data ≠ .cell v) : (b, o) ∈ foreign L ip H h := by
  unfold foreign
  refine List.mem_filterMap.mpr ⟨b, List.mem_range.mpr (Heap.lt_size e), ?_⟩
  rw [if_pos ⟨h1, h2, h3⟩, e]
  show (if isCell o.data = false then some (b, o) else none) = _
  rw [if_pos (notCell d)]
theorem of_foreign {L : Addr} {ip : List (Addr × Obj)} {H : Hp} {h : Heap} {p : Addr × Obj} (hp : p ∈ foreign L ip H h) : L < p.1 ∧ (∀ q ∈ ip, q.1 ≠ p.1) ∧ H p.1 = none ∧ h.get? p.1 = some p.2 ∧ ∀ v, p.2.data ≠ .cell v := by
  unfold foreign at hp
  obtain ⟨b, _, e⟩ := List.mem_filterMap.mp hp
  split at e
  · rename_i c
    cases q : h.get? b with
    | none => rw [q] at e; cases e
    | some o =>
      rw [q] at e
      have e' : (if isCell o.data = false then some (b, o) else none) = some p := e
      split at e'
      · rename_i d
        cases e'
        exact ⟨c.1, c.2.1, c.2.2, q, of_notCell d⟩
      · cases e'
  · cases e


/-- a thing that stands as it stood, if it is no cell and all that it leans on is no cell -/
theorem ObjOk.keepS {P : Program} {w : World} {H H' : Hp} {h h' : Heap} {a : Addr} {u : HO} (hok : HOk P w H h) (x : ObjOk P w H h a u) (ka : ∀ v, h.get? a = some v → h'.get? a = some v)
    (k : ∀ b u v, H b = some u → h.get? b = some v → (∀ z, v.data ≠ .cell z) → h'.get? b = some v ∧ H' b = some u) : ObjOk P w H' h' a u := by
  induction u with
  | lst xs => obtain ⟨z, its, n, r, e⟩ := x; exact ⟨z, its, n, r, ka _ e⟩
  | tup xs => obtain ⟨z, its, r, ob, e, c⟩ := x; exact ⟨z, its, r, ob, ka _ e, c⟩
  | dK kvs => obtain ⟨z, y, vs, r, ob, es, ep, e, c⟩ := x; exact ⟨z, y, vs, r, ob, es, ep, ka _ e, c⟩
  | dT kvs =>
    obtain ⟨z, y, xs, r, ob, es, ep, e, c⟩ := x
    refine ⟨z, y, xs, Paired.mapP r fun p q z => ⟨z.1, ?_, z.2.2⟩, ob, es, ep, ka _ e, c⟩
    obtain ⟨z1, its, r1, ob1, e1, c1, nl1, hd1⟩ := hok _ _ z.2.1
    exact (k _ _ _ z.2.1 e1 fun v q => by rw [hd1] at q; cases q).2
  | set S n => obtain ⟨ob, es, ep, t, e, c⟩ := x; exact ⟨ob, es, ep, t, ka _ e, c⟩
  | ins C dx fs =>
    obtain ⟨d, z, ne, e, mA, ⟨od, es, ep, e2, c2, c⟩, r⟩ := x
    obtain ⟨k1, k2⟩ := k dx _ _ d e2 fun v q => by rw [c2] at q; cases q
    exact ⟨k2, z, ne, ka _ e, mA, ⟨od, es, ep, k1, c2, c⟩, r⟩
  | own y => obtain ⟨ob, e⟩ := x; exact ⟨ob, ka _ e⟩
  | xd fs => obtain ⟨mA, ⟨od, es, ep, e, c⟩, r⟩ := x; exact ⟨mA, ⟨od, es, ep, ka _ e, c⟩, r⟩
  | rng lo hi => obtain ⟨t, u, v, e⟩ := x; exact ⟨t, u, v, ka _ e⟩
  | frz ob u ih => obtain ⟨e, q⟩ := x; exact ⟨ka _ e, ih q⟩
  | tbl ps =>
    have e : h.get? a = some { cls := .none, data := .fields ps } := x
    show h'.get? a = some { cls := .none, data := .fields ps }
    exact ka _ e
  | met f y =>
    have e : h.get? a = some (PySem.W.methodObj (.ref f) (.ref y)) := x
    show h'.get? a = some (PySem.W.methodObj (.ref f) (.ref y))
    exact ka _ e
  | ext φ => obtain ⟨p, ⟨o, e⟩, st⟩ := x; exact ⟨st _ _ p fun o q => ka _ q, ⟨o, ka _ e⟩, st⟩
theorem ObjOk.there {P : Program} {w : World} {H : Hp} {h : Heap} {a : Addr} {u : HO} (x : ObjOk P w H h a u) : ∃ o, h.get? a = some o := by
  induction u with
  | lst xs => obtain ⟨z, its, n, r, e⟩ := x; exact ⟨_, e⟩
  | tup xs => obtain ⟨z, its, r, ob, e, c⟩ := x; exact ⟨_, e⟩
  | dK kvs => obtain ⟨z, y, vs, r, ob, es, ep, e, c⟩ := x; exact ⟨_, e⟩
  | dT kvs => obtain ⟨z, y, xs, r, ob, es, ep, e, c⟩ := x; exact ⟨_, e⟩
  | set S n => obtain ⟨ob, es, ep, t, e, c⟩ := x; exact ⟨_, e⟩
  | ins C dx fs => obtain ⟨d, z, ne, e, _⟩ := x; exact ⟨_, e⟩
  | own y => exact x
  | xd fs => obtain ⟨mA, ⟨od, es, ep, e, c⟩, r⟩ := x; exact ⟨_, e⟩
  | rng lo hi => obtain ⟨t, u, v, e⟩ := x; exact ⟨_, e⟩
  | frz ob u ih => exact ⟨_, x.1⟩
  | tbl ps => exact ⟨_, x⟩
  | met f y => exact ⟨_, x⟩
  | ext φ => exact x.2.1
/-- these are no cells -/
def Sol : HO → Prop
  | .ext _ => False
  | .own _ => False
  | .frz _ _ => False
  | _ => True
theorem ObjOk.sol {P : Program} {w : World} {H : Hp} {h : Heap} {a : Addr} {u : HO} (x : ObjOk P w H h a u) (su : Sol u) : ∃ o, h.get? a = some o ∧ ∀ z, o.data ≠ .cell z := by
  cases u with
  | lst xs => obtain ⟨z, its, n, r, e⟩ := x; exact ⟨_, e, fun z q => by cases q⟩
  | tup xs => obtain ⟨z, its, r, ob, e, c, nl, hd⟩ := x; exact ⟨_, e, fun z q => by rw [hd] at q; cases q⟩
  | dK kvs => obtain ⟨z, y, vs, r, ob, es, ep, e, c, d, _⟩ := x; exact ⟨_, e, fun z q => by rw [d] at q; cases q⟩
  | dT kvs => obtain ⟨z, y, xs, r, ob, es, ep, e, c, d, _⟩ := x; exact ⟨_, e, fun z q => by rw [d] at q; cases q⟩
  | set S n => obtain ⟨ob, es, ep, t, e, c, d, _⟩ := x; exact ⟨_, e, fun z q => by rw [d] at q; cases q⟩
  | ins C dx fs => obtain ⟨d, z, ne, e, _⟩ := x; exact ⟨_, e, fun z q => by cases q⟩
  | own y => exact su.elim
  | xd fs => obtain ⟨mA, ⟨od, es, ep, e, d, c⟩, r⟩ := x; exact ⟨_, e, fun z q => by rw [d] at q; cases q⟩
  | rng lo hi => obtain ⟨t, u, v, e⟩ := x; exact ⟨_, e, fun z q => by cases q⟩
  | frz ob u => exact su.elim
  | tbl ps => exact ⟨_, x, fun z q => by cases q⟩
  | met f y => exact ⟨_, x, fun z q => by cases q⟩
  | ext φ => exact su.elim
def GP.cs (G : GP) : List Addr := G.env.cells.filterMap fun p => G.env.cells.lookup p.1
theorem mem_cs {G : GP} {c : Addr} : c ∈ G.cs ↔ ∃ x, G.env.cells.lookup x = some c := by
  constructor
  · intro h
    obtain ⟨p, _, e⟩ := List.mem_filterMap.mp h
    exact ⟨p.1, e⟩
  · rintro ⟨x, e⟩
    exact List.mem_filterMap.mpr ⟨(x, c), PySem.mem_of_lookup e, e⟩
open Classical in
/-- the cells that are younger than the frame, and not its own -/
noncomputable def frozen (L : Addr) (cs : List Addr) (H : Hp) (h : Heap) : Hp := fun b =>
  if L < b ∧ b ∉ cs ∧ H b = none then (match h.get? b with | some o => if isCell o.data = true then some (.frz o (.own b)) else none | none => none) else none
theorem frozen_at {L : Addr} {cs : List Addr} {H : Hp} {h : Heap} {b : Addr} {o : Obj} (h1 : L < b) (h2 : b ∉ cs) (h3 : H b = none) (e : h.get? b = some o) (d : isCell o.data = true) : frozen L cs H h b = some (.frz o (.own b)) := by
  unfold frozen
  rw [if_pos ⟨h1, h2, h3⟩, e]
  show (if isCell o.data = true then _ else _) = _
  rw [if_pos d]
theorem of_frozen {L : Addr} {cs : List Addr} {H : Hp} {h : Heap} {b : Addr} {u : HO} (q : frozen L cs H h b = some u) : L < b ∧ b ∉ cs ∧ H b = none ∧ ∃ o, h.get? b = some o ∧ isCell o.data = true ∧ u = .frz o (.own b) := by
  unfold frozen at q
  split at q
  · rename_i c
    cases e : h.get? b with
    | none => rw [e] at q; cases q
    | some o =>
      rw [e] at q
      have q' : (if isCell o.data = true then some (HO.frz o (.own b)) else none) = some u := q
      split at q'
      · rename_i d
        cases q'
        exact ⟨c.1, c.2.1, c.2.2, o, rfl, d, rfl⟩
      · cases q'
  · cases q
noncomputable def ixOf (G : GP) (s : Shared) (ip : List (Addr × Obj)) (H : Hp) : Ix := ⟨{ s with heap := truncH G.L H s.heap }, foreign G.L ip H s.heap, frozen G.L G.cs H s.heap⟩
def plus (H F : Hp) : Hp := fun b => match H b with | some o => some o | none => F b
theorem plus_of {H F : Hp} {b : Addr} {o : HO} (h : H b = some o) : plus H F b = some o := by unfold plus; rw [h]
theorem plus_none {H F : Hp} {b : Addr} (h : H b = none) : plus H F b = F b := by unfold plus; rw [h]
theorem plus_ext {H F : Hp} : ZExt H (plus H F) := fun _ _ h => plus_of h
/-- what stays of it while it sleeps -/
structure GPOk (G : GP) : Prop where
  mod : Mod G.K G.mg G.base
  kind : G.env.scope.kind = .function
  inj : ∀ x y c, G.env.cells.lookup x = some c → G.env.cells.lookup y = some c → x = y
  has : ∀ x, (G.env.kindOf x = some .cell ∨ G.env.kindOf x = some .free) → ∃ c, G.env.cells.lookup x = some c
  hd : G.A.handled = none
  frames : G.A.frames = some G.outer
  bsz : G.base.objs.size ≤ G.L
  fl : ∀ b ∈ frs G.outer, b < G.L
  cg : ∀ x c, G.env.cells.lookup x = some c → G.L < c
structure Liv (G : GP) (ip : List (Addr × Obj)) (σ : L2.St) (H : Hp) (h : Heap) : Prop where
  loc : ∃ m, h.Ns G.L m ∧ ∀ (i : Nat) (x : Str) (v : V), G.N[i]? = some x → σ[i]? = some (some v) → Vis G.env.scope x → ∃ u, RelV v u ∧ Look G.env h m x u
  cell : ∀ x c, G.env.cells.lookup x = some c → ∃ v, h.IsCell c v
  free : H G.L = none
  freeC : ∀ x c, G.env.cells.lookup x = some c → H c = none
  pin : ∀ p ∈ ip, h.get? p.1 = some p.2 ∧ H p.1 = none ∧ G.L < p.1 ∧ ∀ v, p.2.data ≠ .cell v
  own : ∀ b u, H b = some u → G.L ≤ b ∧ ((∃ xs, u = .lst xs) ∨ ∃ xs, u = .tup xs) ∧ ObjOk G.P G.w H h b u
  len : σ.length = G.N.length
/-- its own: the frame, what is pinned, what it tracks -/
def ownL (G : GP) (ip : List (Addr × Obj)) (H : Hp) (h : Heap) : List Addr := G.L :: (ip.map (·.1) ++ (List.range h.objs.size).filter fun b => (H b).isSome)
theorem mem_ownL {G : GP} {ip : List (Addr × Obj)} {H : Hp} {h : Heap} {b : Addr} (hb : b ∈ ownL G ip H h) : b = G.L ∨ (∃ p ∈ ip, p.1 = b) ∨ ∃ u, H b = some u := by
  rcases List.mem_cons.mp hb with e | hb
  · exact .inl e
  · rcases List.mem_append.mp hb with hb | hb
    · obtain ⟨p, hp, e⟩ := List.mem_map.mp hb
      exact .inr (.inl ⟨p, hp, e⟩)
    · have := (List.mem_filter.mp hb).2
      exact .inr (.inr (Option.isSome_iff_exists.mp this))
section
variable {G : GP} {ip : List (Addr × Obj)} {σ : L2.St} {H : Hp} {s s' : Shared}
theorem Liv.inOwn (l : Liv G ip σ H s.heap) {b : Addr} {u : HO} (e : H b = some u) : b ∈ ownL G ip H s.heap := by
  refine List.mem_cons_of_mem _ (List.mem_append_right _ (List.mem_filter.mpr ⟨List.mem_range.mpr (l.own b u e).2.2.lt, ?_⟩))
  rw [e]; rfl
theorem inOwn_pin {h : Heap} {p : Addr × Obj} (hp : p ∈ ip) : p.1 ∈ ownL G ip H h := List.mem_cons_of_mem _ (List.mem_append_left _ (List.mem_map_of_mem hp))
theorem Liv.lo (l : Liv G ip σ H s.heap) {b : Addr} (hb : b ∈ ownL G ip H s.heap) : G.L ≤ b := by
  rcases mem_ownL hb with e | ⟨p, hp, e⟩ | ⟨u, e⟩
  · exact Nat.le_of_eq e.symm
  · rw [← e]; exact Nat.le_of_lt (l.pin p hp).2.2.1
  · exact (l.own b u e).1
theorem Liv.obj (l : Liv G ip σ H s.heap) {b : Addr} (hb : b ∈ ownL G ip H s.heap) : ∃ o, s.heap.get? b = some o ∧ ∀ v, o.data ≠ .cell v := by
  rcases mem_ownL hb with e | ⟨p, hp, e⟩ | ⟨u, e⟩
  · obtain ⟨m, ⟨o, es, ep, ho, hd, _⟩, _⟩ := l.loc
    rw [e]
    exact ⟨o, ho, fun v q => by rw [hd] at q; cases q⟩
  · obtain ⟨h1, _, _, h4⟩ := l.pin p hp
    rw [← e]; exact ⟨_, h1, h4⟩
  · obtain ⟨_, h2, h3⟩ := l.own b u e
    rcases h2 with ⟨xs, rfl⟩ | ⟨xs, rfl⟩
    · exact h3.sol trivial
    · exact h3.sol trivial
theorem Liv.keep (l : Liv G ip σ H s.heap) (k : ∀ b ∈ ownL G ip H s.heap ++ G.cs, ∀ o, s.heap.get? b = some o → s'.heap.get? b = some o) : Liv G ip σ H s'.heap := by
  have ko : ∀ b ∈ ownL G ip H s.heap, ∀ o, s.heap.get? b = some o → s'.heap.get? b = some o := fun b hb => k b (List.mem_append_left _ hb)
  have kc : ∀ x c, G.env.cells.lookup x = some c → ∀ o, s.heap.get? c = some o → s'.heap.get? c = some o := fun x c e => k c (List.mem_append_right _ (mem_cs.mpr ⟨x, e⟩))
  refine ⟨?_, fun x c e => ?_, l.free, l.freeC, fun p hp => ?_, fun b u e => ?_, l.len⟩
  · obtain ⟨m, ⟨o, es, ep, ho, r⟩, hl⟩ := l.loc
    refine ⟨m, ⟨o, es, ep, ko _ List.mem_cons_self o ho, r⟩, fun i x v e1 e2 e3 => ?_⟩
    obtain ⟨u, rv, q⟩ := hl i x v e1 e2 e3
    refine ⟨u, rv, ?_⟩
    rcases q with q | ⟨kk, c, e, o', ho', hd'⟩
    · exact .inl q
    · exact .inr ⟨kk, c, e, o', kc x c e o' ho', hd'⟩
  · obtain ⟨v, o, ho, hd⟩ := l.cell x c e
    exact ⟨v, o, kc x c e o ho, hd⟩
  · obtain ⟨h1, h2, h3, h4⟩ := l.pin p hp
    exact ⟨ko _ (inOwn_pin hp) _ h1, h2, h3, h4⟩
  · obtain ⟨h1, h2, h3⟩ := l.own b u e
    refine ⟨h1, h2, ?_⟩
    have kb := ko b (l.inOwn e)
    rcases h2 with ⟨xs, rfl⟩ | ⟨xs, rfl⟩
    · obtain ⟨z, its, n, r, e1⟩ := h3
      exact ⟨z, its, n, r, kb _ e1⟩
    · obtain ⟨z, its, r, ob, e1, c⟩ := h3
      exact ⟨z, its, r, ob, kb _ e1, c⟩
/-- the state at a waking -/
structure WakeOk (G : GP) (s : Shared) : Prop where
  bs : ∀ b o, G.base.get? b = some o → s.heap.get? b = some o
  funs : s.heap.FunFrames G.base G.outer
  bare : AllBare s.gens
theorem lay (ok : GPOk G) (l : Liv G ip σ H s.heap) (w : WakeOk G s) : IxOk G (ixOf G s ip H) ip ∧ Inv (G.cx (ixOf G s ip H)) ip σ (plus H (frozen G.L G.cs H s.heap)) s := by
  have bl : ∀ b o, G.base.get? b = some o → b < G.L := fun b o e => Nat.lt_of_lt_of_le (Heap.lt_size e) ok.bsz
  have hlo : ∀ b, b < G.L → H b = none := fun b hb => by
    cases q : H b with
    | none => rfl
    | some u => exact absurd hb (Nat.not_lt.mpr (l.own b u q).1)
  have flo : ∀ b, b ≤ G.L → frozen G.L G.cs H s.heap b = none := fun b hb => by
    cases q : frozen G.L G.cs H s.heap b with
    | none => rfl
    | some u => exact absurd hb (Nat.not_le.mpr (of_frozen q).1)
  have tr : ∀ b o, b < G.L → s.heap.get? b = some o → (truncH G.L H s.heap).get? b = some o := fun b o hb e => by rw [truncH_get hb (hlo b hb)]; exact e
  refine ⟨⟨truncH_size, fun p hp q hq e => (of_foreign hp).2.1 q hq e.symm, fun q hq => (l.pin q hq).2.2.1⟩, ⟨⟨ok.mod, ok.kind, rfl, rfl, ?_, ok.inj, ok.has, fun x c _ e => ?_, fun _ => ok.hd, Around.frames_deeper ok.frames, .inr ⟨rfl, rfl⟩, fun b hb => absurd hb (by simp), fun b o e => ⟨tr b o (bl b o e) (w.bs b o e), flo b (Nat.le_of_lt (bl b o e))⟩, ?_, fun b o _ hb => absurd hb (by simp), fun b hb => absurd hb (by simp), ?_, fun b hb => flo b (Nat.le_of_lt (ok.fl b hb))⟩,
    rfl, w.bare, ⟨fun b o e n _ _ => (of_truncH e).2.2, fun b o e n _ _ => ⟨o.slots, (of_truncH e).2.2⟩, fun b o e n _ => ?_, fun b o e _ => ⟨o, (of_truncH e).2.2⟩, fun b xs q => ?_, fun b o u q => ?_, fun b ps q => ?_⟩, l.loc, l.cell, ?_, fun x c e => ?_, fun p hp => ?_, fun b u e => ?_, l.len⟩⟩
  · show (truncH G.L H s.heap).objs.size ≤ G.L
    rw [truncH_size]; exact Nat.le_refl _
  · show (truncH G.L H s.heap).objs.size ≤ c
    rw [truncH_size]; exact Nat.le_of_lt (ok.cg x c e)
  · show G.base.objs.size ≤ (truncH G.L H s.heap).objs.size
    rw [truncH_size]; exact ok.bsz
  · show (truncH G.L H s.heap).FunFrames G.base G.outer
    have all : ∀ (l : List Env), (∀ b ∈ frs l, b ∈ frs G.outer) → s.heap.FunFrames G.base l → (truncH G.L H s.heap).FunFrames G.base l := by
      intro l
      induction l with
      | nil => intro _ _; trivial
      | cons env r ih =>
        intro hs hl
        obtain ⟨hk, ⟨L, o, hf, hn, ho, hd⟩, hr⟩ := hl
        have hL : L ∈ frs G.outer := hs L (by unfold frs; rw [List.filterMap_cons, hf]; exact List.mem_cons_self)
        exact ⟨hk, ⟨L, o, hf, hn, tr L o (ok.fl L hL) ho, hd⟩, ih (fun b hb => hs b (by unfold frs; rw [List.filterMap_cons, hf]; exact List.mem_cons_of_mem _ hb)) hr⟩
    exact all G.outer (fun _ h => h) w.funs
  · rw [plus_none (of_truncH e).2.1]; exact n
  · obtain ⟨_, _, _, _, _, _, z⟩ := of_frozen q
    cases z
  · rw [plus_none (of_frozen q).2.2.1]; exact q
  · obtain ⟨_, _, _, _, _, _, z⟩ := of_frozen q
    cases z
  · show plus H _ G.L = none
    rw [plus_none l.free]; exact flo _ (Nat.le_refl _)
  · rw [plus_none (l.freeC x c e)]
    cases q : frozen G.L G.cs H s.heap c with
    | none => rfl
    | some u => exact absurd (mem_cs.mpr ⟨x, e⟩) (of_frozen q).2.1
  · rcases List.mem_append.mp hp with hp | hp
    · obtain ⟨h1, h2, h3, h4, h5⟩ := of_foreign hp
      refine ⟨h4, ?_, Nat.ne_of_gt h1, fun hb => absurd (ok.fl _ hb) (Nat.not_lt.mpr (Nat.le_of_lt h1)), h5⟩
      rw [plus_none h3]
      cases q : frozen G.L G.cs H s.heap p.1 with
      | none => rfl
      | some u =>
        obtain ⟨_, _, _, o, e, d, _⟩ := of_frozen q
        rw [h4] at e; cases e
        rw [notCell h5] at d; cases d
    · obtain ⟨h1, h2, h3, h4⟩ := l.pin p hp
      refine ⟨h1, ?_, Nat.ne_of_gt h3, fun hb => absurd (ok.fl _ hb) (Nat.not_lt.mpr (Nat.le_of_lt h3)), h4⟩
      rw [plus_none h2]
      cases q : frozen G.L G.cs H s.heap p.1 with
      | none => rfl
      | some u =>
        obtain ⟨_, _, _, o, e, d, _⟩ := of_frozen q
        rw [h1] at e; cases e
        rw [notCell h4] at d; cases d
  · cases q : H b with
    | some u' =>
      rw [plus_of q] at e
      cases e
      obtain ⟨_, h2, h3⟩ := l.own b u q
      rcases h2 with ⟨xs, rfl⟩ | ⟨xs, rfl⟩
      · exact h3
      · exact h3
    | none =>
      rw [plus_none q] at e
      obtain ⟨_, _, _, o, e1, _, rfl⟩ := of_frozen e
      exact ⟨e1, o, e1⟩
end

end L2
end
section
set_option Elab.async false
set_option linter.all false
set_option maxRecDepth 100000
set_option maxHeartbeats 2000000
/-! what a sleeping generator will hand out -/
namespace L2
open PySem PySem.Spec PyProof.Rows GenW GenY
/-- a waking leaves all that is not its own -/
structure WKept (G : GP) (own : List Addr) (s s1 : Shared) : Prop where
  os : s1.os = s.os
  bare : AllBare s1.gens
  mono : Mono s s1
  keep : ∀ b o, b ∉ own → b ∉ G.cs → b ∉ frs G.outer → s.heap.get? b = some o → s1.heap.get? b = some o
  slot : ∀ b o, b ∉ own → b ∉ G.cs → b ∈ frs G.outer → s.heap.get? b = some o → ∃ sl, s1.heap.get? b = some { o with slots := sl }
  cell : ∀ x c, G.env.cells.lookup x = some c → ∃ v, s1.heap.IsCell c v
/-- its end, or what it hands out and what comes next -/
def EndA (G : GP) (zss : List (List V)) (j : Nat) (own : List Addr) (next : List Addr → GenState → Shared → Prop) (s : Shared) : Post := fun e s1 => WKept G own s s1 ∧ match e with
  | .ret r => (r = .ok (.ret .none) ∨ r = .ok .next) ∧ j = zss.length
  | .susp v gd l k c p fs => ∃ (t : Addr) (zs : List V) (own' : List Addr), zss[j]? = some zs ∧ v = .ref t ∧ ObjOk G.P G.w (fun _ => none) s1.heap t (.tup zs) ∧ (t ∈ own ∨ s.heap.objs.size ≤ t) ∧ G.L < t ∧
      (∀ b ∈ own', b ∈ own ∨ s.heap.objs.size ≤ b) ∧ (∀ b ∈ own', G.L ≤ b) ∧ t ∉ own' ∧ t ∉ G.cs ∧ (∀ b ∈ own', ∃ o, s1.heap.get? b = some o ∧ ∀ v, o.data ≠ .cell v) ∧
      next own' (End.susp v gd l k c p fs).genState s1
def Asl (G : GP) (zss : List (List V)) : Nat → Nat → List Addr → GenState → Shared → Prop
  | 0 => fun j own gs s => ∀ s', WakeOk G s' → (∀ b ∈ own ++ G.cs, ∀ o, s.heap.get? b = some o → s'.heap.get? b = some o) → Goes (model G.P G.w) G.A (EndA G zss j own (fun _ _ _ => False) s') gs s'
  | n + 1 => fun j own gs s => ∀ s', WakeOk G s' → (∀ b ∈ own ++ G.cs, ∀ o, s.heap.get? b = some o → s'.heap.get? b = some o) → Goes (model G.P G.w) G.A (EndA G zss j own (fun own' gs' s1 => Asl G zss n (j + 1) own' gs' s1) s') gs s'
section
variable {G : GP} {zss : List (List V)}
theorem plainBut_two {t : Addr} {H : Hp} {b : Addr} {u : HO} (h : plainBut t H b = some u) : (∃ xs, u = .lst xs) ∨ ∃ xs, u = .tup xs := (plainBut_sub h).2.2
/-- what a run from such a state leaves -/
theorem wk_of {ip ip' : List (Addr × Obj)} {σ σ' : L2.St} {H H' : Hp} {s s1 : Shared} (ok : GPOk G) (l : Liv G ip σ H s.heap) (I : Inv (G.cx (ixOf G s ip H)) ip' σ' H' s1) (m : Mono s s1) : WKept G (ownL G ip H s.heap) s s1 := by
  have hlo : ∀ b, b < G.L → H b = none := fun b hb => by
    cases q : H b with
    | none => rfl
    | some u => exact absurd hb (Nat.not_lt.mpr (l.own b u q).1)
  have flo : ∀ b, b ≤ G.L → frozen G.L G.cs H s.heap b = none := fun b hb => by
    cases q : frozen G.L G.cs H s.heap b with
    | none => rfl
    | some u => exact absurd hb (Nat.not_le.mpr (of_frozen q).1)
  have ho : ∀ b o, b ∉ ownL G ip H s.heap → s.heap.get? b = some o → H b = none ∧ b ≠ G.L ∧ ∀ q ∈ ip, q.1 ≠ b := fun b o hb e => by
    refine ⟨?_, fun z => hb (by rw [z]; exact List.mem_cons_self), fun q hq z => hb (by rw [← z]; exact inOwn_pin hq)⟩
    cases q : H b with
    | none => rfl
    | some u => exact absurd (l.inOwn q) hb
  refine ⟨I.os, I.bare, m, fun b o h1 h2 h3 e => ?_, fun b o h1 h2 h3 e => ?_, I.cell⟩
  · obtain ⟨q1, q2, q3⟩ := ho b o h1 e
    rcases Nat.lt_or_ge b G.L with hb | hb
    · exact I.base.keep b o (by show (truncH G.L H s.heap).get? b = some o; rw [truncH_get hb q1]; exact e) (flo b (Nat.le_of_lt hb)) h3 (by simp)
    · have hb' : G.L < b := Nat.lt_of_le_of_ne hb (Ne.symm q2)
      cases d : isCell o.data with
      | false => exact (I.pin (b, o) (List.mem_append_left _ (mem_foreign hb' q3 q1 e (of_notCell d)))).1
      | true =>
        have f := frozen_at hb' h2 q1 e d
        have x := I.hok b _ (I.base.frzs b _ _ f)
        exact x.1
  · obtain ⟨q1, q2, q3⟩ := ho b o h1 e
    have hb := ok.fl b h3
    exact I.base.slot b o (by show (truncH G.L H s.heap).get? b = some o; rw [truncH_get hb q1]; exact e) (flo b (Nat.le_of_lt hb)) h3 (by simp)
/-- what is tracked or pinned behind was its own, or is new -/
theorem young_of {ip ip' : List (Addr × Obj)} {σ σ' : L2.St} {H H' : Hp} {s s1 : Shared} {b : Addr} (ok : GPOk G) (l : Liv G ip σ H s.heap) (I : Inv (G.cx (ixOf G s ip H)) ip' σ' H' s1) (m : Mono s s1)
    (h : (∃ xs, H' b = some (.lst xs)) ∨ ∃ xs, H' b = some (.tup xs)) : (b ∈ ownL G ip H s.heap ∨ s.heap.objs.size ≤ b) ∧ G.L < b ∧ b ∉ G.cs := by
  have hne : H' b ≠ none := by rcases h with ⟨xs, e⟩ | ⟨xs, e⟩ <;> rw [e] <;> simp
  have hcs : b ∉ G.cs := fun z => by
    obtain ⟨x, e⟩ := mem_cs.mp z
    exact hne (I.freeC x b e)
  have hbL : b ≠ G.L := fun z => hne (by rw [z]; exact I.free)
  obtain ⟨o1, e1⟩ : ∃ o, s1.heap.get? b = some o := by
    rcases h with ⟨xs, e⟩ | ⟨xs, e⟩
    · exact (I.hok b _ e).there
    · exact (I.hok b _ e).there
  have main : ∀ (hn : b ∉ ownL G ip H s.heap) (hs : b < s.heap.objs.size), False := fun hn hs => by
    have q1 : H b = none := by
      cases q : H b with
      | none => rfl
      | some u => exact absurd (l.inOwn q) hn
    have q3 : ∀ q ∈ ip, q.1 ≠ b := fun q hq z => hn (by rw [← z]; exact inOwn_pin hq)
    cases e : s.heap.get? b with
    | none => rw [m.dead b hs e] at e1; cases e1
    | some o =>
      rcases Nat.lt_or_ge b G.L with hb | hb
      · refine hne (I.base.free b o (by show (truncH G.L H s.heap).get? b = some o; rw [truncH_get hb q1]; exact e) ?_ (by simp))
        show frozen G.L G.cs H s.heap b = none
        cases q : frozen G.L G.cs H s.heap b with
        | none => rfl
        | some u => exact absurd (of_frozen q).1 (Nat.not_lt.mpr (Nat.le_of_lt hb))
      · have hb' : G.L < b := Nat.lt_of_le_of_ne hb (Ne.symm hbL)
        cases d : isCell o.data with
        | false => exact hne (I.pin (b, o) (List.mem_append_left _ (mem_foreign hb' q3 q1 e (of_notCell d)))).2.1
        | true =>
          have f := I.base.frzs b _ _ (frozen_at hb' hcs q1 e d)
          rcases h with ⟨xs, z⟩ | ⟨xs, z⟩ <;> rw [f] at z <;> cases z
  have hlt : G.L < s.heap.objs.size := let ⟨_, hn, _⟩ := l.loc; hn.lt
  by_cases hn : b ∈ ownL G ip H s.heap
  · exact ⟨.inl hn, Nat.lt_of_le_of_ne (l.lo hn) (Ne.symm hbL), hcs⟩
  · rcases Nat.lt_or_ge b s.heap.objs.size with hs | hs
    · exact (main hn hs).elim
    · exact ⟨.inr hs, Nat.lt_of_lt_of_le hlt hs, hcs⟩
theorem pin_young {ip ip' : List (Addr × Obj)} {σ σ' : L2.St} {H H' : Hp} {s s1 : Shared} (ok : GPOk G) (l : Liv G ip σ H s.heap) (io : IxOk G (ixOf G s ip H) ip') (I : Inv (G.cx (ixOf G s ip H)) ip' σ' H' s1) (m : Mono s s1)
    {q : Addr × Obj} (hq : q ∈ ip') : q.1 ∈ ownL G ip H s.heap ∨ s.heap.objs.size ≤ q.1 := by
  obtain ⟨p1, p2, p3, p4, p5⟩ := I.pin q (List.mem_append_right _ hq)
  have hb' := io.lo q hq
  by_cases hn : q.1 ∈ ownL G ip H s.heap
  · exact .inl hn
  · refine .inr (Nat.le_of_not_lt fun hs => ?_)
    have q1 : H q.1 = none := by
      cases z : H q.1 with
      | none => rfl
      | some u => exact absurd (l.inOwn z) hn
    have q3 : ∀ p ∈ ip, p.1 ≠ q.1 := fun p hp z => hn (by rw [← z]; exact inOwn_pin hp)
    cases e : s.heap.get? q.1 with
    | none => rw [m.dead _ hs e] at p1; cases p1
    | some o =>
      cases d : isCell o.data with
      | false => exact io.dj (q.1, o) (mem_foreign hb' q3 q1 e (of_notCell d)) q hq rfl
      | true =>
        by_cases hc : q.1 ∈ G.cs
        · obtain ⟨x, ex⟩ := mem_cs.mp hc
          obtain ⟨v, ob, eo, hd⟩ := I.cell x q.1 ex
          rw [p1] at eo; cases eo
          exact p5 v hd
        · have f := I.base.frzs q.1 _ _ (frozen_at hb' hc q1 e d)
          rw [p2] at f; cases f
/-- what it is at a yield -/
theorem liv_of {ip ip' : List (Addr × Obj)} {σ σ' : L2.St} {H H' : Hp} {s s1 : Shared} {t : Addr} (ok : GPOk G) (l : Liv G ip σ H s.heap) (io : IxOk G (ixOf G s ip H) ip') (I : Inv (G.cx (ixOf G s ip H)) ip' σ' H' s1) (m : Mono s s1) :
    Liv G ip' σ' (plainBut t H') s1.heap := by
  have sub : ∀ b, H' b = none → plainBut t H' b = none := fun b h => by
    cases q : plainBut t H' b with
    | none => rfl
    | some u => rw [(plainBut_sub q).2.1] at h; cases h
  refine ⟨I.loc, I.cell, sub _ I.free, fun x c e => sub _ (I.freeC x c e), fun p hp => ?_, fun b u e => ?_, I.len⟩
  · obtain ⟨p1, p2, p3, p4, p5⟩ := I.pin p (List.mem_append_right _ hp)
    exact ⟨p1, sub _ p2, io.lo p hp, p5⟩
  · obtain ⟨h1, h2, h3⟩ := plainBut_sub e
    have ob := I.hok b u h2
    refine ⟨Nat.le_of_lt (young_of (b := b) ok l I m ?_).2.1, h3, ?_⟩
    · rcases h3 with ⟨xs, rfl⟩ | ⟨xs, rfl⟩
      · exact .inl ⟨xs, h2⟩
      · exact .inr ⟨xs, h2⟩
    · rcases h3 with ⟨xs, rfl⟩ | ⟨xs, rfl⟩
      · exact ob
      · exact ob
theorem asl_of (ok : GPOk G) : ∀ (n j : Nat) {ip : List (Addr × Obj)} {σ : L2.St} {H : Hp} {s : Shared} {l : List Value} {k : Resume → Sem PySem.Fin} {c : Code} {p : Pos} {fs : List Frame} {cl : Bool}, Liv G ip σ H s.heap →
    (∀ s' ix' H', IxOk G ix' ip → ZExt H H' → Inv (G.cx ix') ip σ H' s' → SegP (model G.P G.w) G.A (PostG G zss n ix' j) c (k (.send .none)) fs s') → Asl G zss n j (ownL G ip H s.heap) (.suspended k l c p fs cl) s := by
  intro n
  induction n with
  | zero =>
    intro j ip σ H s l k c p fs cl lv h s' w kp
    have lv' := lv.keep kp
    obtain ⟨io, I⟩ := lay ok lv' w
    refine imp_ (fun e s1 he => ?_) (h s' _ _ io plus_ext I).mono
    obtain ⟨he, m⟩ := he
    cases e with
    | susp v gd l k c p fs => exact he.elim
    | ret r =>
      obtain ⟨hr, hj, ip', σ', H', I'⟩ := he
      have wk := wk_of ok lv' I' m
      refine ⟨⟨wk.os, wk.bare, wk.mono, fun b o h1 h2 h3 e => wk.keep b o ?_ h2 h3 e, fun b o h1 h2 h3 e => wk.slot b o ?_ h2 h3 e, wk.cell⟩, hr, hj⟩
      all_goals
        intro hb
        refine h1 ?_
        rcases mem_ownL hb with z | ⟨q, hq, z⟩ | ⟨u, z⟩
        · rw [z]; exact List.mem_cons_self
        · rw [← z]; exact inOwn_pin hq
        · exact lv.inOwn z
  | succ n ih =>
    intro j ip σ H s l k c p fs cl lv h s' w kp
    have lv' := lv.keep kp
    have same : ∀ b, b ∈ ownL G ip H s'.heap → b ∈ ownL G ip H s.heap := fun b hb => by
      rcases mem_ownL hb with z | ⟨q, hq, z⟩ | ⟨u, z⟩
      · rw [z]; exact List.mem_cons_self
      · rw [← z]; exact inOwn_pin hq
      · exact lv.inOwn z
    obtain ⟨io, I⟩ := lay ok lv' w
    refine imp_ (fun e s1 he => ?_) (h s' _ _ io plus_ext I).mono
    obtain ⟨he, m⟩ := he
    cases e with
    | ret r =>
      obtain ⟨hr, hj, ip', σ', H', I'⟩ := he
      have wk := wk_of ok lv' I' m
      exact ⟨⟨wk.os, wk.bare, wk.mono, fun b o h1 h2 h3 e => wk.keep b o (fun z => h1 (same b z)) h2 h3 e, fun b o h1 h2 h3 e => wk.slot b o (fun z => h1 (same b z)) h2 h3 e, wk.cell⟩, hr, hj⟩
    | susp v gd l k c p fs =>
      obtain ⟨ip', σ', H', t, zs, hz, hv, ht, io', I', hk⟩ := he
      have wk := wk_of ok lv' I' m
      obtain ⟨y1, y2, y3⟩ := young_of (b := t) ok lv' I' m (.inr ⟨zs, ht⟩)
      have lv2 : Liv G ip' σ' (plainBut t H') s1.heap := liv_of ok lv' io' I' m
      refine ⟨⟨wk.os, wk.bare, wk.mono, fun b o h1 h2 h3 e => wk.keep b o (fun z => h1 (same b z)) h2 h3 e, fun b o h1 h2 h3 e => wk.slot b o (fun z => h1 (same b z)) h2 h3 e, wk.cell⟩,
        t, zs, ownL G ip' (plainBut t H') s1.heap, hz, hv, I'.hok t _ ht, y1.imp (same t) id, y2, fun b hb => ?_, fun b hb => lv2.lo hb, fun hb => ?_, y3, fun b hb => lv2.obj hb, ih (j + 1) lv2 hk⟩
      · rcases mem_ownL hb with z | ⟨q, hq, z⟩ | ⟨u, z⟩
        · exact .inl (by rw [z]; exact List.mem_cons_self)
        · rw [← z]; exact (pin_young ok lv' io' I' m hq).imp (same _) id
        · obtain ⟨_, h2, h3⟩ := plainBut_sub z
          refine (young_of (b := b) ok lv' I' m ?_).1.imp (same _) id
          rcases h3 with ⟨xs, rfl⟩ | ⟨xs, rfl⟩
          · exact .inl ⟨xs, h2⟩
          · exact .inr ⟨xs, h2⟩
      · rcases mem_ownL hb with z | ⟨q, hq, z⟩ | ⟨u, z⟩
        · exact absurd z (Nat.ne_of_gt y2)
        · have := (I'.pin q (List.mem_append_right _ hq)).2.1
          rw [z, ht] at this; cases this
        · rw [plainBut_at] at z; cases z
/-- one that has not begun -/
theorem asl_new (ok : GPOk G) {rest : List Stmt} {t : TGF} {σ : L2.St} {s : Shared} (hb : GFs G zss rest t) (lv : Liv G [] σ (fun _ => none) s.heap)
    (ht : ∀ ix H, t { nx := fun j _ _ _ => j = zss.length, rt := fun j _ v _ => v = .non ∧ j = zss.length } 0 ix σ H) :
    Asl G zss zss.length 0 (ownL G [] (fun _ => none) s.heap) (.fresh (.func rest G.env)) s := by
  have go : ∀ s', WakeOk G s' → (∀ b ∈ ownL G [] (fun _ => none) s.heap ++ G.cs, ∀ o, s.heap.get? b = some o → s'.heap.get? b = some o) → ∃ ix, Liv G [] σ (fun _ => none) s'.heap ∧ ix = ixOf G s' [] (fun _ => none) ∧
      SegP (model G.P G.w) G.A (fun e s1 => PostG G zss zss.length ix 0 e s1 ∧ Mono s' s1) (.func rest G.env) ((model G.P G.w).den (.func rest G.env)) [] s' := fun s' w kp => by
    have lv' := lv.keep kp
    obtain ⟨io, I⟩ := lay ok lv' w
    exact ⟨_, lv', rfl, (gfs_top ok.hd hb io I (ht _ _)).mono⟩
  have same : ∀ {s' : Shared} (b : Addr), b ∈ ownL G [] (fun _ => none) s'.heap → b ∈ ownL G [] (fun _ => none) s.heap := fun {s'} b hb => by
    rcases mem_ownL hb with z | ⟨q, hq, z⟩ | ⟨u, z⟩
    · rw [z]; exact List.mem_cons_self
    · cases hq
    · cases z
  cases hn : zss.length with
  | zero =>
    intro s' w kp
    obtain ⟨ix, lv', rfl, x⟩ := go s' w kp
    refine imp_ (fun e s1 he => ?_) x
    obtain ⟨he, m⟩ := he
    rw [hn] at he
    cases e with
    | susp v gd l k c p fs => exact he.elim
    | ret r =>
      obtain ⟨hr, hj, ip', σ', H', I'⟩ := he
      have wk := wk_of ok lv' I' m
      exact ⟨⟨wk.os, wk.bare, wk.mono, fun b o h1 h2 h3 e => wk.keep b o (fun z => h1 (same b z)) h2 h3 e, fun b o h1 h2 h3 e => wk.slot b o (fun z => h1 (same b z)) h2 h3 e, wk.cell⟩, hr, hj⟩
  | succ n =>
    intro s' w kp
    obtain ⟨ix, lv', rfl, x⟩ := go s' w kp
    refine imp_ (fun e s1 he => ?_) x
    obtain ⟨he, m⟩ := he
    rw [hn] at he
    cases e with
    | ret r =>
      obtain ⟨hr, hj, ip', σ', H', I'⟩ := he
      have wk := wk_of ok lv' I' m
      exact ⟨⟨wk.os, wk.bare, wk.mono, fun b o h1 h2 h3 e => wk.keep b o (fun z => h1 (same b z)) h2 h3 e, fun b o h1 h2 h3 e => wk.slot b o (fun z => h1 (same b z)) h2 h3 e, wk.cell⟩, hr, hj⟩
    | susp v gd l k c p fs =>
      obtain ⟨ip', σ', H', t, zs, hz, hv, ht, io', I', hk⟩ := he
      have wk := wk_of ok lv' I' m
      obtain ⟨y1, y2, y3⟩ := young_of (b := t) ok lv' I' m (.inr ⟨zs, ht⟩)
      have lv2 : Liv G ip' σ' (plainBut t H') s1.heap := liv_of ok lv' io' I' m
      refine ⟨⟨wk.os, wk.bare, wk.mono, fun b o h1 h2 h3 e => wk.keep b o (fun z => h1 (same b z)) h2 h3 e, fun b o h1 h2 h3 e => wk.slot b o (fun z => h1 (same b z)) h2 h3 e, wk.cell⟩,
        t, zs, ownL G ip' (plainBut t H') s1.heap, hz, hv, I'.hok t _ ht, y1.imp (same t) id, y2, fun b hb => ?_, fun b hb => lv2.lo hb, fun hb => ?_, y3, fun b hb => lv2.obj hb, asl_of ok n 1 lv2 hk⟩
      · rcases mem_ownL hb with z | ⟨q, hq, z⟩ | ⟨u, z⟩
        · exact .inl (by rw [z]; exact List.mem_cons_self)
        · rw [← z]; exact (pin_young ok lv' io' I' m hq).imp (same _) id
        · obtain ⟨_, h2, h3⟩ := plainBut_sub z
          refine (young_of (b := b) ok lv' I' m ?_).1.imp (same _) id
          rcases h3 with ⟨xs, rfl⟩ | ⟨xs, rfl⟩
          · exact .inl ⟨xs, h2⟩
          · exact .inr ⟨xs, h2⟩
      · rcases mem_ownL hb with z | ⟨q, hq, z⟩ | ⟨u, z⟩
        · exact absurd z (Nat.ne_of_gt y2)
        · have := (I'.pin q (List.mem_append_right _ hq)).2.1
          rw [z, ht] at this; cases this
        · rw [plainBut_at] at z; cases z
end
end L2
end
section
set_option Elab.async false
set_option linter.all false
set_option maxRecDepth 100000
set_option maxHeartbeats 2000000
/-! a run that wakes no sleeping generator of those that stand ahead leaves them as they are: their states may be anything that sleeps at the same place -/
namespace GenP
open PySem
open Sem (wp)
def isRet : Frame → Bool
  | .ret .. => true
  | .gen .. => false
def OkF (fs : List Frame) : Prop := fs.all isRet = true
def OkG : GenState → Prop
  | .suspended _ _ _ _ fs _ => OkF fs
  | _ => True
def OkE : End → Prop
  | .susp _ _ _ _ _ _ fs => OkF fs
  | .ret _ => True
/-- asleep at the same place, but it cannot be woken -/
def pois : GenState → GenState
  | .suspended _ l c p fs cl => .suspended (fun _ => .unsupported "") l c p fs cl
  | y => y
def isSusp : GenState → Bool
  | .suspended .. => true
  | _ => false
theorem pois_seen (y : GenState) : (pois y).seen = y.seen := by cases y <;> rfl
theorem pois_bare (y : GenState) : (pois y).bare = y.bare := by cases y <;> rfl
def RG (Y : Nat → Option GenState) (a b : Array GenState) : Prop :=
  a.size = b.size ∧ (∀ (i : Nat) (y : GenState), a[i]? = some y → ∃ z, b[i]? = some z ∧ ((Y i = none ∧ z = y ∧ OkG y) ∨ (y = pois z ∧ Y i = some z ∧ isSusp z = true))) ∧ ∀ (i : Nat), a.size ≤ i → Y i = none
theorem split_ok {fs : List Frame} (h : OkF fs) : splitAtGen fs = none := by
  induction fs with
  | nil => rfl
  | cons f r ih =>
    cases f with
    | ret k hh g l c p kp =>
      have h' : OkF r := by unfold OkF at *; simpa [isRet] using h
      show (splitAtGen r).map _ = none
      rw [ih h']; rfl
    | gen g k l c p => simp [OkF, isRet] at h
theorem okF_app {a b : List Frame} (ha : OkF a) (hb : OkF b) : OkF (a ++ b) := by
  unfold OkF at *; rw [List.all_append, ha, hb]; rfl
theorem okF_cons {f : Frame} {r : List Frame} (h : OkF (f :: r)) : isRet f = true ∧ OkF r := by
  unfold OkF at *; simpa using h
theorem no_unsupported {M : Model} {Γ : Ctx} {p : Pos} {wh : String} {t : Sem PySem.Fin} {fs : List Frame} {s s' : Shared} {e : End} (h : Runs M Γ p t fs s e s') (ht : t = .unsupported wh) : False := by
  induction h <;> first | (cases ht; done) | (rename_i ih _; exact ih ht) | (rename_i ih; exact ih ht) | (rename_i ih _ _; exact ih ht) | (simp_all)
section
variable {M : Model} {Y : Nat → Option GenState}
theorem RG.set {a b : Array GenState} {g : Nat} {x : GenState} (h : RG Y a b) (hY : Y g = none) (hx : OkG x) : RG Y (a.setIfInBounds g x) (b.setIfInBounds g x) := by
  refine ⟨by simp [h.1], fun i y hi => ?_, fun i hi => h.2.2 i (by simpa using hi)⟩
  by_cases e : g = i
  · subst e
    rw [Array.getElem?_setIfInBounds_self] at hi ⊢
    by_cases q : g < a.size
    · rw [if_pos q] at hi; cases hi
      rw [if_pos (h.1 ▸ q)]
      exact ⟨_, rfl, .inl ⟨hY, rfl, hx⟩⟩
    · rw [if_neg q] at hi; cases hi
  · rw [Array.getElem?_setIfInBounds_ne e] at hi ⊢
    exact h.2.1 i y hi
theorem RG.push {a b : Array GenState} {x : GenState} (h : RG Y a b) (hx : OkG x) : RG Y (a.push x) (b.push x) := by
  refine ⟨by simp [h.1], fun i y hi => ?_, fun i hi => h.2.2 i (by simp at hi; omega)⟩
  rw [Array.getElem?_push] at hi ⊢
  by_cases q : i = a.size
  · rw [if_pos q] at hi; cases hi
    rw [if_pos (h.1 ▸ q)]
    exact ⟨_, rfl, .inl ⟨h.2.2 i (by omega), rfl, hx⟩⟩
  · rw [if_neg q] at hi
    rw [if_neg (h.1 ▸ q)]
    exact h.2.1 i y hi
theorem RG.plain {a b : Array GenState} {g : Nat} {y : GenState} (h : RG Y a b) (e : a[g]? = some y) (hy : isSusp y = false) : b[g]? = some y := by
  obtain ⟨z, hz, q⟩ := h.2.1 g y e
  rcases q with ⟨_, rfl, _⟩ | ⟨rfl, _, hs⟩
  · exact hz
  · cases z <;> simp [isSusp, pois] at hs hy
theorem RG.free {a b : Array GenState} {g : Nat} {y : GenState} (h : RG Y a b) (e : a[g]? = some y) (hy : isSusp y = false) : Y g = none := by
  obtain ⟨z, hz, q⟩ := h.2.1 g y e
  rcases q with ⟨h0, _⟩ | ⟨rfl, _, hs⟩
  · exact h0
  · cases z <;> simp [isSusp, pois] at hs hy
theorem okE_gen {e : End} (h : OkE e) : OkG e.genState := by
  cases e with
  | ret r => trivial
  | susp v g l k c p fs => exact h
theorem runs_rel {Γ : Ctx} {p : Pos} {t : Sem PySem.Fin} {fs : List Frame} {s s' : Shared} {e : End} (h : Runs M Γ p t fs s e s') :
    OkF fs → ∀ G, RG Y s.gens G → ∃ G', Runs M Γ p t fs { s with gens := G } e { s' with gens := G' } ∧ RG Y s'.gens G' ∧ OkE e := by
  induction h with
  | done => exact fun _ G hG => ⟨G, .done, hG, trivial⟩
  | raise => exact fun _ G hG => ⟨G, .raise, hG, trivial⟩
  | again hq _ ih => exact fun hf G hG => let ⟨G', r, x, y⟩ := ih hf G hG; ⟨G', .again hq r, x, y⟩
  | rule _ ih => exact fun hf G hG => let ⟨G', r, x, y⟩ := ih hf G hG; ⟨G', .rule r, x, y⟩
  | «at» _ ih => exact fun hf G hG => let ⟨G', r, x, y⟩ := ih hf G hG; ⟨G', .at r, x, y⟩
  | load ho _ ih => exact fun hf G hG => let ⟨G', r, x, y⟩ := ih hf G hG; ⟨G', .load ho r, x, y⟩
  | update ho _ ih => exact fun hf G hG => let ⟨G', r, x, y⟩ := ih hf G hG; ⟨G', .update ho r, x, y⟩
  | loadIfAlive _ ih => exact fun hf G hG => let ⟨G', r, x, y⟩ := ih hf G hG; ⟨G', .loadIfAlive r, x, y⟩
  | point _ ih => exact fun hf G hG => let ⟨G', r, x, y⟩ := ih hf G hG; ⟨G', .point r, x, y⟩
  | alloc _ ih => exact fun hf G hG => let ⟨G', r, x, y⟩ := ih hf G hG; ⟨G', .alloc r, x, y⟩
  | fresh _ ih => exact fun hf G hG => let ⟨G', r, x, y⟩ := ih hf G hG; ⟨G', .fresh r, x, y⟩
  | ask _ ih => exact fun hf G hG => let ⟨G', r, x, y⟩ := ih hf G hG; ⟨G', .ask r, x, y⟩
  | choose hn _ ih => exact fun hf G hG => let ⟨G', r, x, y⟩ := ih hf G hG; ⟨G', .choose hn r, x, y⟩
  | os _ ih => exact fun hf G hG => let ⟨G', r, x, y⟩ := ih hf G hG; ⟨G', .os r, x, y⟩
  | handled _ ih => exact fun hf G hG => let ⟨G', r, x, y⟩ := ih hf G hG; ⟨G', .handled r, x, y⟩
  | genState hg _ ih =>
    intro hf G hG
    obtain ⟨G', r, x, y⟩ := ih hf G hG
    obtain ⟨z, hz, q⟩ := hG.2.1 _ _ hg
    refine ⟨G', .genState (st := z) hz ?_, x, y⟩
    rcases q with ⟨_, rfl, _⟩ | ⟨rfl, _, _⟩
    · exact r
    · rw [pois_seen] at r; exact r
  | stack _ ih => exact fun hf G hG => let ⟨G', r, x, y⟩ := ih hf G hG; ⟨G', .stack r, x, y⟩
  | thread _ ih => exact fun hf G hG => let ⟨G', r, x, y⟩ := ih hf G hG; ⟨G', .thread r, x, y⟩
  | newGen _ ih =>
    intro hf G hG
    obtain ⟨G', r, x, y⟩ := ih hf (G.push (.fresh _)) (hG.push trivial)
    refine ⟨G', .newGen ?_, x, y⟩
    rw [← show ((_ : Shared).gens).size = G.size from hG.1]
    exact r
  | call _ _ ih1 ih2 =>
    intro hf G hG
    obtain ⟨G1, r1, x1, _⟩ := ih1 rfl G hG
    obtain ⟨G2, r2, x2, y2⟩ := ih2 hf G1 x1
    exact ⟨G2, .call r1 r2, x2, y2⟩
  | callSusp _ ih1 =>
    intro hf G hG
    obtain ⟨G1, r1, x1, y1⟩ := ih1 rfl G hG
    exact ⟨G1, .callSusp r1, x1, okF_app y1 rfl⟩
  | yield => exact fun _ G hG => ⟨G, .yield, hG, rfl⟩
  | resumeFresh hg _ hq _ ih1 ih2 =>
    intro hf G hG
    obtain ⟨G1, r1, x1, y1⟩ := ih1 rfl _ (hG.set (x := .running) (hG.free hg rfl) trivial)
    obtain ⟨G2, r2, x2, y2⟩ := ih2 hf _ (x1.set (hG.free hg rfl) (okE_gen y1))
    exact ⟨G2, .resumeFresh (hG.plain hg rfl) r1 hq r2, x2, y2⟩
  | resumeSuspended hg h1 hq _ ih1 ih2 =>
    intro hf G hG
    obtain ⟨z, hz, q⟩ := hG.2.1 _ _ hg
    rcases q with ⟨h0, rfl, hok⟩ | ⟨hp, _, hs⟩
    · obtain ⟨G1, r1, x1, y1⟩ := ih1 hok _ (hG.set (x := .running) h0 trivial)
      obtain ⟨G2, r2, x2, y2⟩ := ih2 hf _ (x1.set h0 (okE_gen y1))
      exact ⟨G2, .resumeSuspended hz r1 hq r2, x2, y2⟩
    · cases z with
      | suspended k l c p fs cl =>
        unfold pois at hp
        cases hp
        exact (no_unsupported h1 rfl).elim
      | fresh c => simp [isSusp] at hs
      | running => simp [isSusp] at hs
      | finished => simp [isSusp] at hs
  | resumeJustStarted hg hv _ ih =>
    intro hf G hG
    obtain ⟨G', r, x, y⟩ := ih hf G hG
    exact ⟨G', .resumeJustStarted (hG.plain hg rfl) hv r, x, y⟩
  | resumeThrowFresh hg _ ih =>
    intro hf G hG
    obtain ⟨G', r, x, y⟩ := ih hf _ (hG.set (x := .finished) (hG.free hg rfl) trivial)
    exact ⟨G', .resumeThrowFresh (hG.plain hg rfl) r, x, y⟩
  | resumeRunning hg _ ih =>
    intro hf G hG
    obtain ⟨G', r, x, y⟩ := ih hf G hG
    exact ⟨G', .resumeRunning (hG.plain hg rfl) r, x, y⟩
  | resumeFinished hg _ ih =>
    intro hf G hG
    obtain ⟨G', r, x, y⟩ := ih hf G hG
    exact ⟨G', .resumeFinished (hG.plain hg rfl) r, x, y⟩
  | segRet _ _ ih1 ih2 =>
    intro hf G hG
    obtain ⟨G1, r1, x1, _⟩ := ih1 rfl G hG
    obtain ⟨G2, r2, x2, y2⟩ := ih2 (okF_cons hf).2 G1 x1
    exact ⟨G2, .segRet r1 r2, x2, y2⟩
  | segGen _ _ _ _ => exact fun hf => absurd (okF_cons hf).1 (by simp [isRet])
  | segSuspOut hs _ ih =>
    intro hf G hG
    obtain ⟨G1, r1, x1, y1⟩ := ih rfl G hG
    exact ⟨G1, .segSuspOut hs r1, x1, okF_app y1 hf⟩
  | segSuspGen hs _ _ _ _ _ => exact fun hf => absurd (split_ok hf) (by rw [hs]; simp)
theorem wp_rel {α : Type} (t : Sem α) : ∀ {Γ : Ctx} {Q : α → Pos → Shared → Prop} {E : Value → Pos → Shared → Prop} {p : Pos} {s : Shared} {G : Array GenState}, RG Y s.gens G → wp M Γ t Q E p s →
    wp M Γ t (fun a p' s' => ∃ s0, RG Y s0.gens s'.gens ∧ s' = { s0 with gens := s'.gens } ∧ Q a p' s0) (fun a p' s' => ∃ s0, RG Y s0.gens s'.gens ∧ s' = { s0 with gens := s'.gens } ∧ E a p' s0) p { s with gens := G } := by
  induction t with
  | pure a => exact fun hG h => ⟨_, hG, rfl, h⟩
  | raise e => exact fun hG h => ⟨_, hG, rfl, h⟩
  | unsupported w => exact fun _ h => h.elim
  | finish e => exact fun _ h => h.elim
  | rule t k ih => exact fun hG h => by simp only [Sem.wp_rule] at h ⊢; exact ih _ hG h
  | «at» p k ih => exact fun hG h => by simp only [Sem.wp_at] at h ⊢; exact ih _ hG h
  | load a p k ih => exact fun hG h => by rw [Sem.wp_load] at h ⊢; obtain ⟨o, ho, h⟩ := h; exact ⟨o, ho, ih _ hG h⟩
  | update a p f k ih => exact fun hG h => by rw [Sem.wp_update] at h ⊢; exact ⟨h.1, ih () (s := { (_ : Shared) with heap := _ }) hG h.2⟩
  | alloc o k ih => exact fun hG h => by simp only [Sem.wp_alloc] at h ⊢; exact ih _ (s := { (_ : Shared) with heap := _ }) hG h
  | loadIfAlive a k ih => exact fun hG h => by simp only [Sem.wp_loadIfAlive] at h ⊢; exact ih _ hG h
  | point l k ih => exact fun hG h => by simp only [Sem.wp_point] at h ⊢; exact ih _ hG h
  | register a k ih => exact fun _ h => by simp only [Sem.wp_register] at h
  | fresh k ih =>
    intro Γ Q E p s G hG h
    simp only [Sem.wp_fresh] at h ⊢
    exact ih _ (s := { s with toks := s.toks + 1 }) hG h
  | ask k ih => exact fun hG h => by simp only [Sem.wp_ask] at h ⊢; exact ih _ hG h
  | choose src n k ih => exact fun hG h => by rw [Sem.wp_choose] at h ⊢; exact ⟨h.1, ih _ (s := { (_ : Shared) with drawn := _ }) hG h.2⟩
  | os q l k ih =>
    intro Γ Q E p s G hG h
    simp only [Sem.wp_os] at h ⊢
    exact ih _ (s := { s with os := (Os.step s.os q).1 }) hG h
  | call c hh g l k ih =>
    intro Γ Q E p s G hG h
    rw [Sem.wp_call] at h ⊢
    obtain ⟨r, s1, hr, h1⟩ := h
    obtain ⟨G1, r1, x1, _⟩ := runs_rel hr rfl G hG
    exact ⟨r, _, r1, ih r x1 h1⟩
  | handled own k ih => exact fun hG h => by simp only [Sem.wp_handled] at h ⊢; exact ih _ hG h
  | newGen c k ih =>
    intro Γ Q E p s G hG h
    simp only [Sem.wp_newGen] at h ⊢
    rw [← show s.gens.size = G.size from hG.1]
    exact ih _ (s := { s with gens := s.gens.push (.fresh c) }) (hG.push (x := .fresh c) trivial) h
  | genState g k ih =>
    intro Γ Q E p s G hG h
    rw [Sem.wp_genState] at h ⊢
    obtain ⟨st, hst, h⟩ := h
    obtain ⟨z, hz, q⟩ := hG.2.1 _ _ hst
    refine ⟨z, hz, ?_⟩
    rcases q with ⟨_, rfl, _⟩ | ⟨rfl, _, _⟩
    · exact ih _ hG h
    · rw [pois_seen] at h; exact ih _ hG h
  | resume g r l k ih =>
    intro Γ Q E p s G hG h
    rw [Sem.wp_resume] at h ⊢
    obtain ⟨res, s1, hw, h1⟩ := h
    unfold Wakes at hw
    cases hg : s.gens[g]? with
    | none => rw [hg] at hw; exact hw.elim
    | some y =>
      rw [hg] at hw
      obtain ⟨z, hz, q⟩ := hG.2.1 _ _ hg
      have same : ∀ (x : Y g = none ∧ z = y ∧ OkG y), ∃ G1, Wakes M Γ p g r { s with gens := G } res { s1 with gens := G1 } ∧ RG Y s1.gens G1 := by
        rintro ⟨h0, rfl, hok⟩
        unfold Wakes
        show ∃ G1, (match G[g]? with | none => _ | some (.fresh c) => _ | some (.suspended k₀ _ c₀ p₀ fs _) => _ | some .running => _ | some .finished => _) ∧ _
        rw [hz]
        cases z with
        | fresh c =>
          cases r with
          | send v =>
            cases v with
            | none =>
              obtain ⟨e1, s2, hr, hq, rfl, rfl⟩ := hw
              obtain ⟨G1, r1, x1, y1⟩ := runs_rel hr rfl _ (hG.set (x := .running) h0 trivial)
              exact ⟨G1.setIfInBounds g e1.genState, ⟨e1, { s2 with gens := G1 }, r1, hq, rfl, rfl⟩, x1.set h0 (okE_gen y1)⟩
            | _ => obtain ⟨rfl, rfl⟩ := hw; exact ⟨G, ⟨rfl, rfl⟩, hG⟩
          | throw v => obtain ⟨rfl, rfl⟩ := hw; exact ⟨G.setIfInBounds g .finished, ⟨rfl, rfl⟩, hG.set h0 trivial⟩
        | suspended k₀ l₀ c₀ p₀ fs cl =>
          obtain ⟨e1, s2, hr, hq, rfl, rfl⟩ := hw
          obtain ⟨G1, r1, x1, y1⟩ := runs_rel hr hok _ (hG.set (x := .running) h0 trivial)
          exact ⟨G1.setIfInBounds g e1.genState, ⟨e1, { s2 with gens := G1 }, r1, hq, rfl, rfl⟩, x1.set h0 (okE_gen y1)⟩
        | running => obtain ⟨rfl, rfl⟩ := hw; exact ⟨G, ⟨rfl, rfl⟩, hG⟩
        | finished => obtain ⟨rfl, rfl⟩ := hw; exact ⟨G, ⟨rfl, rfl⟩, hG⟩
      rcases q with q | ⟨rfl, _, hs⟩
      · obtain ⟨G1, w1, x1⟩ := same q
        exact ⟨res, _, w1, ih res x1 h1⟩
      · cases z with
        | suspended k₀ l₀ c₀ p₀ fs cl =>
          obtain ⟨e1, s2, hr, _⟩ := hw
          exact (no_unsupported hr rfl).elim
        | fresh c => simp [isSusp] at hs
        | running => simp [isSusp] at hs
        | finished => simp [isSusp] at hs
  | yield v g l k ih => exact fun _ h => by simp only [Sem.wp_yield] at h
  | stack k ih => exact fun hG h => by simp only [Sem.wp_stack] at h ⊢; exact ih _ hG h
  | fork c k ih => exact fun _ h => by simp only [Sem.wp_fork] at h
  | thread k ih => exact fun hG h => by simp only [Sem.wp_thread] at h ⊢; exact ih _ hG h
  | await a t d l k ih => exact fun _ h => by simp only [Sem.wp_await] at h
end
end GenP
namespace GenP
open PySem
/-- all that sleeps cannot be woken -/
def poisA (a : Array GenState) : Array GenState := a.map pois
def sleeps (a : Array GenState) (i : Nat) : Option GenState := match a[i]? with
  | some y => if isSusp y then some y else none
  | none => none
theorem poisA_rel (a : Array GenState) : RG (sleeps a) (poisA a) a := by
  refine ⟨by simp [poisA], fun i y h => ?_, fun i h => ?_⟩
  · unfold poisA at h
    rw [Array.getElem?_map] at h
    cases e : a[i]? with
    | none => rw [e] at h; cases h
    | some z =>
      rw [e] at h
      cases h
      refine ⟨z, rfl, ?_⟩
      unfold sleeps
      rw [e]
      cases z with
      | suspended k l c p fs cl => exact .inr ⟨rfl, rfl, rfl⟩
      | fresh c => exact .inl ⟨rfl, rfl, trivial⟩
      | running => exact .inl ⟨rfl, rfl, trivial⟩
      | finished => exact .inl ⟨rfl, rfl, trivial⟩
  · unfold sleeps
    rw [Array.getElem?_eq_none_iff.mpr (by simpa [poisA] using h)]
theorem poisA_bare {a : Array GenState} (h : ∀ y ∈ a, y.bare = true) : ∀ y ∈ poisA a, y.bare = true := by
  intro y hy
  unfold poisA at hy
  obtain ⟨z, hz, rfl⟩ := Array.mem_map.mp hy
  rw [pois_bare]; exact h z hz
theorem RG.bare {Y : Nat → Option GenState} {a b : Array GenState} (r : RG Y a b) (h : ∀ y ∈ a, y.bare = true) : ∀ y ∈ b, y.bare = true := by
  intro y hy
  obtain ⟨i, hi, rfl⟩ := Array.mem_iff_getElem.mp hy
  have hia : i < a.size := r.1 ▸ hi
  obtain ⟨z, hz, q⟩ := r.2.1 i a[i] (by simp [hia])
  have ez : z = b[i] := by
    have : b[i]? = some b[i] := by simp [hi]
    rw [this] at hz; cases hz; rfl
  subst ez
  have hb := h a[i] (Array.getElem_mem hia)
  rcases q with ⟨_, e, _⟩ | ⟨e, _, _⟩
  · rw [e]; exact hb
  · rw [e, pois_bare] at hb; exact hb
/-- what sleeps ahead sleeps behind -/
def Slp (a b : Array GenState) : Prop := ∀ (g : Nat) (y : GenState), a[g]? = some y → isSusp y = true → b[g]? = some y
theorem RG.slp {a b c : Array GenState} (r : RG (sleeps a) b c) : Slp a c := fun g y e hy => by
  have hs : sleeps a g = some y := by unfold sleeps; rw [e]; show (if isSusp y then some y else none) = _; rw [hy]; rfl
  have hlt : g < b.size := by
    rcases Nat.lt_or_ge g b.size with h | h
    · exact h
    · have := r.2.2 g h
      rw [hs] at this; cases this
  obtain ⟨z, hz, q⟩ := r.2.1 g b[g] (by simp [hlt])
  rcases q with ⟨h0, _⟩ | ⟨_, h1, _⟩
  · rw [hs] at h0; cases h0
  · rw [hs] at h1; cases h1; exact hz
/-- THE RULE: where a thing is shown of the state in which nothing that sleeps can be woken, it holds of the state itself, and what sleeps is left as it was -/
theorem wpAny_slp {α : Type} {M : Model} {A : Around} {t : Sem α} {Q : α → Shared → Prop} {E : Value → Shared → Prop} {s : Shared}
    (h : wpAny M A t Q E { s with gens := poisA s.gens }) :
    wpAny M A t (fun a s' => ∃ g0 : Array GenState, Slp s.gens s'.gens ∧ ((∀ y ∈ g0, y.bare = true) → ∀ y ∈ s'.gens, y.bare = true) ∧ Q a { s' with gens := g0 })
      (fun e s' => ∃ g0 : Array GenState, Slp s.gens s'.gens ∧ ((∀ y ∈ g0, y.bare = true) → ∀ y ∈ s'.gens, y.bare = true) ∧ E e { s' with gens := g0 }) s := by
  intro Γ p hΓ
  have x := wp_rel t (poisA_rel s.gens) (h Γ p hΓ)
  refine Sem.wp_mono M Γ t (fun a p' s' h' => ?_) (fun a p' s' h' => ?_) p s x
  all_goals
    obtain ⟨s0, r, es, q⟩ := h'
    refine ⟨s0.gens, r.slp, r.bare, ?_⟩
    rw [es]
    exact q
end GenP
end
section
set_option Elab.async false
set_option linter.all false
set_option maxRecDepth 100000
set_option maxHeartbeats 2000000
/-! for x in g(..): body, where g is a generator def whose items are tuples -/
namespace GenY
open PySem GenW
open Sem (wp)
section
variable {P : Program} {w : World} {A : Around} {E : Value → Shared → Prop} {s : Shared}
theorem goes_imp {M : Model} {Φ Ψ : Post} {gs : GenState} (h : ∀ e s1, Φ e s1 → Mono s s1 → Ψ e s1) (x : Goes M A Φ gs s) : Goes M A Ψ gs s := by
  cases gs with
  | fresh c => exact imp_ (fun e s1 ⟨a, b⟩ => h e s1 a b) (SegP.mono x)
  | suspended k l c p fs cl => exact imp_ (fun e s1 ⟨a, b⟩ => h e s1 a b) (SegP.mono x)
  | running => exact x.elim
  | finished => exact x.elim
end
end GenY
namespace L2
open PySem PySem.Spec PyProof.Rows GenW GenY GenP
section
variable {X : Cx} {pins : List (Addr × Obj)} {σ : List (Option V)} {H H' : Hp} {s s' : Shared}
theorem Inv.gens {g0 : Array GenState} (I : Inv X pins σ H { s with gens := g0 }) (h : AllBare s.gens) : Inv X pins σ H s :=
  ⟨I.ok, I.os, h, I.base, I.loc, I.cell, I.free, I.freeC, I.pin, I.hok, I.len⟩
/-- another word for what is tracked -/
theorem Inv.retrack (I : Inv X pins σ H s) (hf : ∀ b o, X.s_0.heap.get? b = some o → H b = none → H' b = none) (ht : ∀ b xs, X.H_0 b = some (.tup xs) → H b = some (.tup xs) → H' b = some (.tup xs))
    (hz : ∀ b o u, X.H_0 b = some (.frz o u) → H b = some (.frz o u) → H' b = some (.frz o u)) (hb : ∀ b ps qs, X.H_0 b = some (.tbl qs) → H b = some (.tbl ps) → H' b = some (.tbl ps)) (hL : H' X.env.locals = none)
    (hC : ∀ x c, X.env.cells.lookup x = some c → H' c = none) (hp : ∀ p ∈ X.pn ++ pins, H' p.1 = none) (hok : HOk X.prog X.w H' s.heap) : Inv X pins σ H' s :=
  ⟨I.ok, I.os, I.bare, ⟨I.base.keep, I.base.slot, fun b o e n hx => hf b o e (I.base.free b o e n hx), I.base.there, fun b xs e => ht b xs e (I.base.tups b xs e), fun b o u e => hz b o u e (I.base.frzs b o u e), fun b ps e => by
    obtain ⟨more, q⟩ := I.base.tbls b ps e
    exact ⟨more, hb b _ _ e q⟩⟩, I.loc, I.cell, hL, hC, fun p hq => ⟨(I.pin p hq).1, hp p hq, (I.pin p hq).2.2⟩, hok, I.len⟩
theorem Asl.move {G : GP} {zss : List (List V)} {n j : Nat} {own : List Addr} {gs : GenState} (a : Asl G zss n j own gs s) (k : ∀ b ∈ own ++ G.cs, ∀ o, s.heap.get? b = some o → s'.heap.get? b = some o) : Asl G zss n j own gs s' := by
  cases n with
  | zero => exact fun s2 w k2 => a s2 w fun b hb o e => k2 b hb o (k b hb o e)
  | succ n => exact fun s2 w k2 => a s2 w fun b hb o e => k2 b hb o (k b hb o e)
/-- without the cells -/
def sans (cs : List Addr) (H : Hp) : Hp := fun b => if b ∈ cs then none else H b
theorem sans_in {cs : List Addr} {b : Addr} (h : b ∈ cs) : sans cs H b = none := if_pos h
theorem sans_out {cs : List Addr} {b : Addr} (h : b ∉ cs) : sans cs H b = H b := if_neg h
theorem of_sans {cs : List Addr} {b : Addr} {u : HO} (h : sans cs H b = some u) : b ∉ cs ∧ H b = some u := by
  by_cases hb : b ∈ cs
  · rw [sans_in hb] at h; cases h
  · exact ⟨hb, by rw [sans_out hb] at h; exact h⟩
open Classical in
/-- the cells as they stand -/
noncomputable def with_ (cs : List Addr) (h : Heap) (H : Hp) : Hp := fun b => if b ∈ cs then (match h.get? b with | some o => some (.frz o (.own b)) | none => none) else H b
theorem with_in {cs : List Addr} {h : Heap} {b : Addr} {o : Obj} (hb : b ∈ cs) (e : h.get? b = some o) : with_ cs h H b = some (.frz o (.own b)) := by
  unfold with_; rw [if_pos hb, e]
theorem with_out {cs : List Addr} {h : Heap} {b : Addr} (hb : b ∉ cs) : with_ cs h H b = H b := if_neg hb
/-- the generator stands beside what the consumer has -/
structure Beside (X : Cx) (pins : List (Addr × Obj)) (G : GP) : Prop where
  P : G.P = X.prog
  w : G.w = X.w
  A : G.A = X.A.in1
  outer : G.outer = X.stack
  base : G.base = X.base
  s0 : X.s_0.heap.objs.size ≤ G.L
  loc : X.env.locals < G.L
  cells : ∀ x c, X.env.cells.lookup x = some c → c < G.L
  pins : ∀ p ∈ X.pn ++ pins, p.1 < G.L
  fl : ∀ b ∈ frs X.stack, b < G.L
  cs : ∀ c ∈ G.cs, G.L < c
  nt : ∀ c ∈ G.cs, ∀ xs, X.H_0 c ≠ some (.tup xs)
  nz : ∀ c ∈ G.cs, ∀ o u, X.H_0 c ≠ some (.frz o u)
  nb : ∀ c ∈ G.cs, ∀ ps, X.H_0 c ≠ some (.tbl ps)
/-- what of the generator's is kept by the consumer -/
structure Holds (G : GP) (own : List Addr) (H : Hp) (h : Heap) : Prop where
  own : ∀ b ∈ own, H b = none ∧ G.L ≤ b ∧ ∃ o, h.get? b = some o ∧ ∀ v, o.data ≠ .cell v
  cs : ∀ c ∈ G.cs, ∃ o, h.get? c = some o ∧ H c = some (.frz o (.own c)) ∧ isCell o.data = true
theorem HOk.sans {P : Program} {w : World} {h : Heap} {cs : List Addr} (hk : HOk P w H h) (hc : ∀ c ∈ cs, ∃ o u, H c = some (.frz o u)) : HOk P w (sans cs H) h := fun b u e => by
  obtain ⟨hb, e⟩ := of_sans e
  refine (hk b u e).stay (fun _ _ _ q => q) (fun c q => ?_) fun c xs q => ?_
  · by_cases z : c ∈ cs
    · obtain ⟨o, u', e'⟩ := hc c z
      rw [q] at e'; cases e'
    · rw [sans_out z]; exact q
  · by_cases z : c ∈ cs
    · obtain ⟨o, u', e'⟩ := hc c z
      rw [q] at e'; cases e'
    · rw [sans_out z]; exact q
/-- behind a waking -/
theorem Inv.woke {G : GP} {own : List Addr} {s1 s2 : Shared} {extra : Hp} (I : Inv X pins σ H s) (B : Beside X pins G) (hd : Holds G own H s.heap) (wk : WKept G own s s1) (os : s2.os = s1.os) (bare : AllBare s2.gens) (k : ∀ b o, s1.heap.get? b = some o → s2.heap.get? b = some o)
    (hx : ∀ b u, extra b = some u → G.L < b ∧ b ∉ G.cs ∧ H b = none ∧ ∀ K, ObjOk X.prog X.w K s2.heap b u) :
    Inv X pins σ (with_ G.cs s2.heap (plus H extra)) s2 := by
  have hcs : ∀ c ∈ G.cs, ∃ o u, H c = some (.frz o u) := fun c hc => by
    obtain ⟨o, _, e, _⟩ := hd.cs c hc
    exact ⟨o, _, e⟩
  have lo : ∀ b ∈ own ++ G.cs, G.L ≤ b := fun b hb => (List.mem_append.mp hb).elim (fun z => (hd.own b z).2.1) fun z => Nat.le_of_lt (B.cs b z)
  have nfl : ∀ b, G.L ≤ b → X.s_0.heap.get? b = none := fun b hb => Heap.get?_none_of_le (Nat.le_trans B.s0 hb)
  -- the cells are no longer tracked
  have I0 : Inv X pins σ (sans G.cs H) s := by
    refine I.retrack (fun b o e n => ?_) (fun b xs e q => ?_) (fun b o u e q => ?_) (fun b ps qs e q => ?_) ?_ (fun x c e => ?_) (fun p hp => ?_) (I.hok.sans hcs)
    · by_cases z : b ∈ G.cs
      · exact sans_in z
      · rw [sans_out z]; exact n
    · rw [sans_out fun z => B.nt b z xs e]; exact q
    · rw [sans_out fun z => B.nz b z o u e]; exact q
    · rw [sans_out fun z => B.nb b z qs e]; exact q
    · by_cases z : X.env.locals ∈ G.cs
      · exact sans_in z
      · rw [sans_out z]; exact I.free
    · by_cases z : c ∈ G.cs
      · exact sans_in z
      · rw [sans_out z]; exact I.freeC x c e
    · by_cases z : p.1 ∈ G.cs
      · exact sans_in z
      · rw [sans_out z]; exact (I.pin p hp).2.1
  have kp : ∀ b o, b ∉ own ++ G.cs → b ∉ frs X.stack → s.heap.get? b = some o → s2.heap.get? b = some o := fun b o h1 h2 e =>
    k b o (wk.keep b o (fun z => h1 (List.mem_append_left _ z)) (fun z => h1 (List.mem_append_right _ z)) (by rw [B.outer]; exact h2) e)
  have sl : ∀ b o, b ∉ own ++ G.cs → b ∈ frs X.stack → s.heap.get? b = some o → ∃ sl, s2.heap.get? b = some { o with slots := sl } := fun b o h1 h2 e => by
    obtain ⟨z, q⟩ := wk.slot b o (fun z => h1 (List.mem_append_left _ z)) (fun z => h1 (List.mem_append_right _ z)) (by rw [B.outer]; exact h2) e
    exact ⟨z, k b _ q⟩
  have trk : ∀ b u, sans G.cs H b = some u → b ∉ own ++ G.cs ∧ b ∉ frs X.stack := fun b u e => by
    obtain ⟨hb, e'⟩ := of_sans e
    refine ⟨fun z => ?_, fun z => ?_⟩
    · rcases List.mem_append.mp z with z | z
      · rw [(hd.own b z).1] at e'; cases e'
      · exact hb z
    · rw [I.stkFree b z] at e'; cases e'
  have hok2 : HOk X.prog X.w (sans G.cs H) s2.heap := fun b u e => by
    refine (I0.hok b u e).stay (fun c o hc q => ?_) (fun _ q => q) fun _ _ q => q
    have : ∃ u', sans G.cs H c = some u' := by
      rcases hc with z | z
      · rw [z]; exact ⟨u, e⟩
      · exact ⟨_, z⟩
    obtain ⟨u', e'⟩ := this
    obtain ⟨t1, t2⟩ := trk c u' e'
    exact kp c o t1 t2 q
  have I1 : Inv X pins σ (sans G.cs H) s2 := by
    refine I0.call' (ch := own ++ G.cs) (os.trans wk.os) ⟨fun b o e _ h1 h2 => kp b o h2 h1 e, fun b o e _ h1 h2 => sl b o h2 h1 e, fun b o e n _ => n, fun b o e h2 => ?_, fun _ _ e => e, fun _ _ _ e => e, fun b ps e => ⟨#[], by rw [e]; simp⟩⟩ hok2 bare fun b hb => ⟨.inr (Nat.le_trans B.s0 (lo b hb)), fun z => ?_, fun x c e z => ?_, fun p hp z => ?_⟩
    · by_cases h1 : b ∈ frs X.stack
      · obtain ⟨z, q⟩ := sl b o h2 h1 e
        exact ⟨_, q⟩
      · exact ⟨o, kp b o h2 h1 e⟩
    · exact absurd (lo b hb) (Nat.not_le.mpr (z ▸ B.loc))
    · exact absurd (lo b hb) (Nat.not_le.mpr (z ▸ B.cells x c e))
    · exact absurd (lo b hb) (Nat.not_le.mpr (z ▸ B.pins p hp))
  have cell2 : ∀ c ∈ G.cs, ∃ o, s2.heap.get? c = some o := fun c hc => by
    obtain ⟨x, e⟩ := mem_cs.mp hc
    obtain ⟨v, o, eo, _⟩ := wk.cell x c e
    exact ⟨o, k c o eo⟩
  have lt2 : ∀ b, b ≤ G.L → with_ G.cs s2.heap (plus H extra) b = H b := fun b hb => by
    rw [with_out fun z => absurd (B.cs b z) (Nat.not_lt.mpr hb)]
    cases q : H b with
    | some u => exact plus_of q
    | none =>
      rw [plus_none q]
      cases r : extra b with
      | none => rfl
      | some u => exact absurd (hx b u r).1 (Nat.not_lt.mpr hb)
  have old : ∀ b u, b ∉ G.cs → H b = some u → with_ G.cs s2.heap (plus H extra) b = some u := fun b u hb e => by
    rw [with_out hb]; exact plus_of e
  refine I1.retrack (fun b o e n => ?_) (fun b xs e q => ?_) (fun b o u e q => ?_) (fun b ps qs e q => ?_) ?_ (fun x c e => ?_) (fun p hp => ?_) fun b u e => ?_
  · have hb : b < G.L := Nat.lt_of_not_le fun z => by rw [nfl b z] at e; cases e
    rw [lt2 b (Nat.le_of_lt hb)]
    rw [sans_out fun z => absurd (B.cs b z) (Nat.not_lt.mpr (Nat.le_of_lt hb))] at n
    exact n
  · obtain ⟨h1, h2⟩ := of_sans q; exact old b _ h1 h2
  · obtain ⟨h1, h2⟩ := of_sans q; exact old b _ h1 h2
  · obtain ⟨h1, h2⟩ := of_sans q; exact old b _ h1 h2
  · rw [lt2 _ (Nat.le_of_lt B.loc)]; exact I.free
  · rw [lt2 _ (Nat.le_of_lt (B.cells x c e))]; exact I.freeC x c e
  · rw [lt2 _ (Nat.le_of_lt (B.pins p hp))]; exact (I.pin p hp).2.1
  · by_cases hb : b ∈ G.cs
    · obtain ⟨o, eo⟩ := cell2 b hb
      rw [with_in hb eo] at e
      cases e
      exact ⟨eo, o, eo⟩
    · rw [with_out hb] at e
      cases q : H b with
      | none =>
        rw [plus_none q] at e
        exact (hx b u e).2.2.2 _
      | some u' =>
        rw [plus_of q] at e
        cases e
        have e0 : sans G.cs H b = some u := by rw [sans_out hb]; exact q
        refine (hok2 b u e0).stay (fun _ _ _ z => z) (fun c z => ?_) fun c xs z => ?_
        · obtain ⟨z1, z2⟩ := of_sans z; exact old c _ z1 z2
        · obtain ⟨z1, z2⟩ := of_sans z; exact old c _ z1 z2
end
end L2
end
section
set_option Elab.async false
set_option linter.all false
set_option maxRecDepth 100000
set_option maxHeartbeats 2000000
/-! calling a generator def, and the loop over it -/
namespace L2
open PySem PySem.Spec PyProof.Rows GenW GenY GenP
/-- a promise of a generator def: the arguments, what it hands out -/
abbrev SpZ := List V → List (List V) → Prop
/-- what a call of it gives -/
def GNew (P : Program) (w : World) (K : PySem.W.Frag) (mg : Str → Option Value) (base : Heap) (A : Around) (outer : List Env) (s : Shared) (zss : List (List V)) (u : Value) (s' : Shared) : Prop :=
  ∃ (a : Addr) (g : Nat) (gs : GenState) (G : GP), u = .ref a ∧ G.P = P ∧ G.w = w ∧ G.A = A.in1 ∧ G.outer = outer ∧ G.base = base ∧ G.L = s.heap.objs.size ∧ G.L < a ∧ a ∉ G.cs ∧ s'.heap.IsGen a g ∧ s'.gens[g]? = some gs ∧ s'.os = s.os ∧ AllBare s'.gens ∧
    (∀ b o, s.heap.get? b = some o → s'.heap.get? b = some o) ∧ (∀ c ∈ G.cs, G.L < c ∧ ∃ o, s'.heap.get? c = some o ∧ isCell o.data = true) ∧ (∃ o, s'.heap.get? G.L = some o ∧ ∀ v, o.data ≠ .cell v) ∧ Asl G zss zss.length 0 [G.L] gs s'
structure GFnZ (P : Program) (w : World) (K : PySem.W.Frag) (mg : Str → Option Value) (base : Heap) (k : Nat) (f : Addr) (fd : FuncData) (ps : List Str) (sp : SpZ) : Prop where
  len : ∀ vs zss, sp vs zss → vs.length = ps.length
  run : ∀ (A : Around) (outer : List Env) (s : Shared) (H : Hp) (args : Args) (us : List Value) (vs : List V) (zss : List (List V)), Room k A → Env0 P w K mg base A outer s H → BindsTo s fd args (ps.zip us) → Vals vs us → sp vs zss →
    codeAny (model P w) A (.call (.ref f) args) (fun r s' => match r with | .ok (.ret u) => GNew P w K mg base A outer s zss u s' | _ => False) s
/-- the generator of a call -/
abbrev gpOf (P : Program) (w : World) (K : PySem.W.Frag) (mg : Str → Option Value) (base : Heap) (N : List Str) (qual : Str) (scope : Scope) (f : Addr) (cdv : Value) (A : Around) (outer : List Env) (L : Addr) : GP :=
  ⟨P, w, K, mg, base, N, qual, scope, f, cdv, A, outer, L⟩
theorem gfnZ_of {P : Program} {w : World} {K : PySem.W.Frag} {mg : Str → Option Value} {base : Heap} {k : Nat} {f : Addr} {name qual : Str} {params : Arguments} {body : List Stmt} {scope : Scope} {dV kV doc pm cdv ct oc : Value} {an od : Option Addr}
    {osl : Array (Option Value)} {N ps : List Str} {sp : SpZ} (lk : K.lookup f = some ⟨oc, od, .func (PySem.W.fnOf name qual params body scope dV kV doc pm an cdv ct), osl⟩) (hcd : PySem.W.codeIn K cdv qual = true) (S : GScope N ps scope)
    (len : ∀ vs zss, sp vs zss → vs.length = ps.length)
    (hbody : ∀ (A : Around) (outer : List Env) (L : Addr) (vs : List V) (zss : List (List V)), Room k (A.deeper (envOfC qual scope L f cdv)) → sp vs zss →
      ∃ t, GFs (gpOf P w K mg base N qual scope f cdv A outer L) zss body t ∧ ∀ ix H, t { nx := fun j _ _ _ => j = zss.length, rt := fun j _ v _ => v = .non ∧ j = zss.length } 0 ix (start N vs) H) :
    GFnZ P w K mg base (k + 2) f (PySem.W.fnOf name qual params body scope dV kV doc pm an cdv ct) ps sp := by
  refine ⟨len, fun A outer s H args us vs zss hr e0 hb r hsp => ?_⟩
  have hl := len _ _ hsp
  have KX : K.In s.heap := e0.mod.kin.keeps fun b o e => (e0.bs b o e).1
  have lim : s.heap.NoLimit := e0.mod.nolimit.keeps fun b o e => (e0.bs b o e).1
  have hkind : ∀ y ∈ ps.zip us, scope.names.lookup y.1 = some .local ∨ (scope.names.lookup y.1 = some .cell ∧ ((cellsFrom (s.heap.objs.size + 1) scope.names []).lookup y.1).isSome = true) := fun ⟨n, v⟩ hy => by
    rcases S.par n (List.of_mem_zip hy).1 with q | q
    · exact .inl q
    · exact .inr ⟨q, PySem.W.cellsFrom_some _ _ _ (.inl q)⟩
  refine codeAny_call_generator hr.depth (KX _ _ lk) rfl S.co S.gen rfl (PySem.W.codeRec_of KX hcd) (hb _ _ _ _ ?_)
  refine wpAny_newFunctionEnv_cells S.kind hkind fun env he s1 x => ?_
  subst he
  refine ⟨lim.keeps x.toInCall.keep, ?_⟩
  have I1 := inv_startG (E := fun _ _ _ => False) S hr.hd e0 hl r x
  obtain ⟨h1, tk, es1, hk1⟩ := x.done
  have os1 : s1.os = s.os := by rw [es1]
  have gen1 : s1.gens = s.gens := by rw [es1]
  have lt1 : s.heap.objs.size < s1.heap.objs.size := x.toInCall.ns.lt
  have kp1 : ∀ b o, s.heap.get? b = some o → s1.heap.get? b = some o := x.toInCall.keep
  have ok : GPOk (gpOf P w K mg base N qual scope f cdv A.in1 outer s.heap.objs.size) := by
    refine ⟨I1.ok.mod, I1.ok.kind, I1.ok.inj, I1.ok.has, hr.hd, e0.frames, e0.bsz, fun b hb => ?_, fun y c e => x.above y c (PySem.mem_of_lookup e)⟩
    obtain ⟨_, o, ho, _⟩ := e0.funs.mem hb
    exact Heap.lt_size ho
  obtain ⟨t, ht, hq⟩ := hbody A.in1 outer s.heap.objs.size vs zss (Room.deeper (Room.in1 hr) _) hsp
  have csc : ∀ c ∈ (gpOf P w K mg base N qual scope f cdv A.in1 outer s.heap.objs.size).cs, s.heap.objs.size < c ∧ ∃ o, s1.heap.get? c = some o ∧ isCell o.data = true := fun c hc => by
    obtain ⟨y, e⟩ := mem_cs.mp hc
    obtain ⟨v, o, eo, hd⟩ := I1.cell y c e
    exact ⟨ok.cg y c e, o, eo, by rw [hd]; rfl⟩
  obtain ⟨oL, es, ep, hoL, hdL, _⟩ := x.toInCall.ns
  have main : ∀ (go : Obj) (nm qn : Value) (tk2 : Nat), go.cls = .type "generator" → go.data = .fields #[.int s1.gens.size 0, nm, qn] → go.slots = #[] → (∀ h : Heap, (h.push go).get? h.objs.size = some go) →
      GNew P w K mg base A outer s zss (.ref s1.heap.objs.size) { s1 with gens := s1.gens.push (.fresh (.func body (envOfC qual scope s.heap.objs.size f cdv))), toks := tk2, heap := s1.heap.push go } := by
    intro go nm qn tk2 hgc hgd0 hgs hgp
    have kp2 : ∀ b o, s1.heap.get? b = some o → (s1.heap.push go).get? b = some o := fun b o e => Heap.get?_push_of_some _ e
    have lv : Liv (gpOf P w K mg base N qual scope f cdv A.in1 outer s.heap.objs.size) [] (start N vs) (fun _ => none) s1.heap :=
      ⟨I1.loc, I1.cell, rfl, fun _ _ _ => rfl, fun p hp => (by cases hp), fun b u e => (by cases e), I1.len⟩
    have lv2 := lv.keep (s := s1) (s' := { s1 with gens := s1.gens.push (.fresh (.func body (envOfC qual scope s.heap.objs.size f cdv))), toks := tk2, heap := s1.heap.push go }) fun b _ o e => kp2 b o e
    have as := asl_new ok ht lv2 hq
    have own : ownL (gpOf P w K mg base N qual scope f cdv A.in1 outer s.heap.objs.size) [] (fun _ => none) (s1.heap.push go) = [s.heap.objs.size] := by
      unfold ownL
      simp
    refine ⟨s1.heap.objs.size, s1.gens.size, _, gpOf P w K mg base N qual scope f cdv A.in1 outer s.heap.objs.size, rfl, rfl, rfl, rfl, rfl, rfl, rfl, lt1, fun hc => ?_, ⟨go, nm, qn, hgp _, hgc, hgd0, hgs⟩, Array.getElem?_push_size .., os1, ?_, fun b o e => kp2 b o (kp1 b o e), fun c hc => ?_, ⟨oL, kp2 _ _ hoL, fun v q => by rw [hdL] at q; cases q⟩, ?_⟩
    · obtain ⟨_, o, eo, _⟩ := csc _ hc
      exact absurd (Heap.lt_size eo) (Nat.lt_irrefl _)
    · exact AllBare.push (by rw [gen1]; exact e0.bare) rfl
    · obtain ⟨q1, o, eo, q2⟩ := csc c hc
      exact ⟨q1, o, kp2 c o eo, q2⟩
    · have as' := as
      rw [own] at as'
      exact as'
  exact main _ _ _ _ rfl rfl rfl fun h => Heap.get?_push_size _ rfl
/-! ### the consumer -/
/-- the generator's cells may have turned; nothing that H1 tracks is one of them -/
def Chg (H1 H H' : Hp) : Prop := ∀ b, H' b = H b ∨ (H1 b = none ∧ (∃ o u, H b = some (.frz o u)) ∧ ∃ o u, H' b = some (.frz o u))
theorem Chg.refl {H1 H : Hp} : Chg H1 H H := fun _ => .inl rfl
theorem Chg.same {H1 H H' : Hp} (c : Chg H1 H H') (s : Same H1 H) : Same H1 H' := fun b o e => by
  rcases c b with h | ⟨h, _⟩
  · rw [h]; exact s b o e
  · rw [h] at e; cases e
theorem Chg.but {H1 H H' : Hp} {p : Addr} (c : Chg H1 H H') (s : But p H1 H) : But p H1 H' := fun b o n e => by
  rcases c b with h | ⟨h, _⟩
  · rw [h]; exact s b o n e
  · rw [h] at e; cases e
theorem Chg.at_ {H1 H H' : Hp} {b : Addr} {u : HO} (c : Chg H1 H H') (e : H b = some u) (hu : ∀ o z, u ≠ .frz o z) : H' b = some u := by
  rcases c b with h | ⟨_, ⟨o, z, q⟩, _⟩
  · rw [h]; exact e
  · rw [q] at e; cases e; exact absurd rfl (hu o z)
/-- the generator's cells stay -/
def Fz (H1 H H' : Hp) : Prop := ∀ b o u, H1 b = none → H b = some (.frz o u) → H' b = some (.frz o u)
theorem Fz.same {H1 H H' : Hp} (s : Same H H') : Fz H1 H H' := fun b o u _ e => s b _ e
theorem Fz.but {H1 H H' : Hp} {p : Addr} (s : But p H H') (hp : ∃ x, H1 p = some x) : Fz H1 H H' := fun b o u n e => s b _ (fun z => by obtain ⟨x, hx⟩ := hp; rw [z, hx] at n; cases n) e
/-- an expression whose value is a generator that has not begun -/
abbrev TZ := L2.St → Hp → (List (List V) → Hp → Prop) → Prop
structure PZ (X : Cx) (e : Expr) (t : TZ) : Prop where
  run : ∀ (pins : List (Addr × Obj)) (s : Shared) (σ : L2.St) (H : Hp) (R : List (List V) → Hp → Prop), Inv X pins σ H s → t σ H R → wpAny (model X.prog X.w) X.A (eval e X.env)
    (fun u s' => ∃ zss H1 s1, Inv X pins σ H1 s1 ∧ R zss H1 ∧ GNew X.prog X.w X.K X.mg X.base X.A X.stack s1 zss u s') X.xe s
def tCallZ (sp : SpZ) (t : TA) : TZ := fun σ H R => t σ H fun vs H1 => ∃ zss, sp vs zss ∧ R zss H1
def tForGen (t : TZ) (g : TG) (tb : TS) : TS := fun D σ H => t σ H fun zss H1 => ∃ W : Nat → L2.St → Hp → Prop, (∀ H2, (∀ b, H2 b = H1 b ∨ (H1 b = none ∧ ∃ o u, H2 b = some (.frz o u))) → W 0 σ H2) ∧
  ∀ i σ H, i ≤ zss.length → W i σ H → ∀ H3, Chg H1 H H3 → (i = zss.length → D.nx σ H3) ∧ ∀ zs, zss[i]? = some zs → ∃ N : L2.St → Hp → Prop, (∀ σ' H', N σ' H' → Fz H1 H3 H' ∧ W (i + 1) σ' H') ∧
    ∀ t, H3 t = none → g (.ref t) σ (upd H3 t (.tup zs)) fun σ2 H4 => tb { D with nx := N, ct := N, bk := D.nx } σ2 H4
section
variable {X : Cx} {k : Nat} {x : Str} {f : Addr} {fd : FuncData} {ps : List Str} {sp : SpZ} {e : Expr} {es : List Expr} {t : TA} {p pos pos' : Pos}
theorem run_gfnZ {pins : List (Addr × Obj)} {σ : L2.St} {H : Hp} {s : Shared} {us : List Value} {vs : List V} {zss : List (List V)} {E1 : Value → Shared → Prop} (F : GFnZ X.prog X.w X.K X.mg X.base k f fd ps sp) (hr : Room k X.A) (hb : Binds X.K fd ps [])
    (I : Inv X pins σ H s) (r : Vals vs us) (h : sp vs zss) :
    wpAny (model X.prog X.w) X.A (call (.ref f) us) (fun u s' => GNew X.prog X.w X.K X.mg X.base X.A X.stack s zss u s') E1 s := by
  have hl2 : us.length = ps.length := by rw [← r.length]; exact F.len _ _ h
  have hb' := hb s us I.kIn (by simpa using hl2)
  rw [List.append_nil] at hb'
  refine wpAny_call (codeAny_mono (F.run X.A X.stack s H ⟨us, []⟩ us vs zss hr I.env0 hb' r h) fun r s' hq => ?_)
  cases r with
  | error e => exact False.elim hq
  | ok fl =>
    cases fl with
    | ret u => exact hq
    | next => exact False.elim hq
    | brk => exact False.elim hq
    | cont => exact False.elim hq
/-- f(e, ..) -/
theorem pz_call (F : GFnZ X.prog X.w X.K X.mg X.base k f fd ps sp) (hr : Room k X.A) (hg : Gl X x) (hm : X.mg x = some (.ref f)) (hk : PySem.W.keepIn X.K (.ref f) = true) (hb : Binds X.K fd ps [])
    (ha : PA X (e :: es) t) (hdb : (x == ("__debug__" : Str)) = false := by decide) (he : starEach (e :: es) X.env = (false, eval e X.env) :: starEach es X.env := by rfl) (hpl : (backTo pos' (starEach es X.env)).any (·.1) = false := by rfl) :
    PZ X (.Call (.Name x p) (e :: es) [] pos') (tCallZ sp t) := by
  refine ⟨fun pins s σ H R I h => ?_⟩
  refine wpAny_Call_Name_kw (ld_glob I hg hm ?_ hdb)
  refine PySem.W.callWith_K (h₀ := X.base) I.ok.mod.kin hk (thn (ha.run pos' pins s σ H _ I h) fun us s1 ⟨vs, H1, I1, r, zss, q1, q2⟩ => ⟨I1.kIn, ?_⟩) he hpl
  exact thn (run_gfnZ F hr hb I1 r q1) fun u s2 hG => ⟨zss, H1, s1, I1, q2, hG⟩
end
section
variable {X : Cx} {tg : Expr} {pos : Pos}
/-- behind the call: the cells are tracked, all else stands beside -/
theorem GNew.inv {pins : List (Addr × Obj)} {σ : L2.St} {H : Hp} {s s' : Shared} {zss : List (List V)} {u : Value} (I : Inv X pins σ H s) (h : GNew X.prog X.w X.K X.mg X.base X.A X.stack s zss u s') :
    ∃ a g gs G H2, u = .ref a ∧ Beside X pins G ∧ s'.heap.IsGen a g ∧ s'.gens[g]? = some gs ∧ G.L < a ∧ a ∉ G.cs ∧ Asl G zss zss.length 0 [G.L] gs s' ∧ Inv X pins σ H2 s' ∧ Holds G [G.L] H2 s'.heap ∧ H2 a = none ∧
      (∀ c ∈ G.cs, H c = none) ∧ ∀ b, H2 b = H b ∨ (H b = none ∧ ∃ o u, H2 b = some (.frz o u)) := by
  obtain ⟨a, g, gs, G, rfl, hP, hw, hA, ho, hB, hL, la, ac, ig, hg, os, bare, kp, cs, oL, asl⟩ := h
  have I1 : Inv X pins σ H s' := I.call' (ch := []) os (Un.kept kp) (I.hok.kept kp) bare fun b z => by simp at z
  have nH : ∀ b, s.heap.objs.size ≤ b → H b = none := fun b hb => I.hok.fresh hb
  have csn : ∀ c ∈ G.cs, H c = none := fun c hc => nH c (by rw [← hL]; exact Nat.le_of_lt (cs c hc).1)
  have B : Beside X pins G := by
    refine ⟨hP, hw, hA, ho, hB, ?_, ?_, fun x c e => ?_, fun p hp => ?_, fun b hb => ?_, fun c hc => (cs c hc).1, fun c hc xs e => ?_, fun c hc o u e => ?_, fun c hc ps e => ?_⟩
    · rw [hL]; exact I.sz
    · rw [hL]; exact I.lt
    · rw [hL]; obtain ⟨v, q⟩ := I.cell x c e; exact q.lt
    · rw [hL]; exact Heap.lt_size (I.pin p hp).1
    · rw [hL]
      obtain ⟨_, o, e, _⟩ := I.stack.mem hb
      exact Heap.lt_size e
    · have := I.base.tups c xs e
      rw [csn c hc] at this; cases this
    · have := I.base.frzs c o u e
      rw [csn c hc] at this; cases this
    · obtain ⟨m, this⟩ := I.base.tbls c ps e
      rw [csn c hc] at this; cases this
  have lo : ∀ b, b ≤ G.L → with_ G.cs s'.heap H b = H b := fun b hb => with_out fun z => absurd (cs b z).1 (Nat.not_lt.mpr hb)
  have at_ : ∀ c ∈ G.cs, ∃ o, s'.heap.get? c = some o ∧ with_ G.cs s'.heap H c = some (.frz o (.own c)) ∧ isCell o.data = true := fun c hc => by
    obtain ⟨_, o, e, d⟩ := cs c hc
    exact ⟨o, e, with_in hc e, d⟩
  have old : ∀ b u, H b = some u → with_ G.cs s'.heap H b = some u := fun b u e => by
    rw [with_out fun z => by rw [csn b z] at e; cases e]; exact e
  have I2 : Inv X pins σ (with_ G.cs s'.heap H) s' := by
    refine I1.retrack (fun b o e n => ?_) (fun b xs e q => old b _ q) (fun b o u e q => old b _ q) (fun b ps qs e q => old b _ q) ?_ (fun x c e => ?_) (fun p hp => ?_) fun b u e => ?_
    · rw [lo b (Nat.le_of_lt (Nat.lt_of_lt_of_le (Heap.lt_size e) B.s0))]; exact n
    · rw [lo _ (Nat.le_of_lt B.loc)]; exact I1.free
    · rw [lo _ (Nat.le_of_lt (B.cells x c e))]; exact I1.freeC x c e
    · rw [lo _ (Nat.le_of_lt (B.pins p hp))]; exact (I1.pin p hp).2.1
    · by_cases hb : b ∈ G.cs
      · obtain ⟨o, e1, e2, _⟩ := at_ b hb
        rw [e2] at e; cases e
        exact ⟨e1, o, e1⟩
      · rw [with_out hb] at e
        exact (I1.hok b u e).stay (fun _ _ _ q => q) (fun c q => old c _ q) fun c xs q => old c _ q
  refine ⟨a, g, gs, G, with_ G.cs s'.heap H, rfl, B, ig, hg, la, ac, asl, I2, ⟨fun b hb => ?_, at_⟩, ?_, csn, fun b => ?_⟩
  · rw [List.mem_singleton.mp hb]
    refine ⟨?_, Nat.le_refl _, oL⟩
    rw [lo _ (Nat.le_refl _)]
    exact nH _ (by rw [hL]; exact Nat.le_refl _)
  · rw [with_out ac]
    exact nH _ (by rw [← hL]; exact Nat.le_of_lt la)
  · by_cases hb : b ∈ G.cs
    · obtain ⟨o, _, e2, _⟩ := at_ b hb
      exact .inr ⟨csn b hb, o, _, e2⟩
    · exact .inl (with_out hb)
end
end L2
end
section
set_option Elab.async false
set_option linter.all false
set_option maxRecDepth 100000
set_option maxHeartbeats 2000000
/-! the loop over a generator -/
namespace L2
open PySem PySem.Spec PyProof.Rows GenW GenY GenP
theorem Asl.go {G : GP} {zss : List (List V)} {n j : Nat} {own : List Addr} {gs : GenState} {s s' : Shared} (a : Asl G zss n j own gs s) (w : WakeOk G s') (k : ∀ b ∈ own ++ G.cs, ∀ o, s.heap.get? b = some o → s'.heap.get? b = some o) :
    Goes (model G.P G.w) G.A (EndA G zss j own (fun own' gs' s1 => ∃ m, n = m + 1 ∧ Asl G zss m (j + 1) own' gs' s1) s') gs s' := by
  cases n with
  | zero =>
    refine goes_imp (fun e s1 h _ => ?_) (a s' w k)
    obtain ⟨h1, h2⟩ := h
    refine ⟨h1, ?_⟩
    cases e with
    | ret r => exact h2
    | susp v gd l k c p fs =>
      obtain ⟨t, zs, own', q1, q2, q3, q4, q5, q6, q7, q8, q9, q10, q11⟩ := h2
      exact q11.elim
  | succ n =>
    refine goes_imp (fun e s1 h _ => ?_) (a s' w k)
    obtain ⟨h1, h2⟩ := h
    refine ⟨h1, ?_⟩
    cases e with
    | ret r => exact h2
    | susp v gd l k c p fs =>
      obtain ⟨t, zs, own', q1, q2, q3, q4, q5, q6, q7, q8, q9, q10, q11⟩ := h2
      exact ⟨t, zs, own', q1, q2, q3, q4, q5, q6, q7, q8, q9, q10, n, rfl, q11⟩
theorem WKept.unset {G : GP} {own : List Addr} {s s1 : Shared} {g : Nat} {x : GenState} (w : WKept G own (s.setGen g x) s1) : WKept G own s s1 :=
  ⟨w.os, w.bare, ⟨by have := w.mono.gens; simpa [Shared.setGen] using this, w.mono.size, w.mono.dead⟩, w.keep, w.slot, w.cell⟩
theorem allBare_setG {s : Shared} {g : Nat} {x : GenState} (h : AllBare s.gens) (hx : x.bare = true) : AllBare (s.setGen g x).gens := fun y hy => by
  unfold Shared.setGen at hy
  rcases Array.mem_or_eq_of_mem_setIfInBounds hy with z | z
  · exact h y z
  · rw [z]; exact hx
section
variable {X : Cx} {tg : Expr} {pos : Pos} {body : List Stmt} {iter : Expr} {tz : TZ} {g : TG} {tb : TS}
theorem ps_forGen (hx : ∀ e s, ¬ X.xe e s) (hc : X.calm = true) (hroom : X.A.depth < recursionLimit) (hi : PZ X iter tz) (hg : PG X tg g) (hb : PSs X body tb) (hs : ∀ x, foldedSetIterable iter X.env x = pure x := by intro _; rfl) :
    PS X (.For tg iter body [] pos) (tForGen tz g tb) := by
  have hp : PassesOwn (model X.prog X.w) X.A X.env X.xe := fun e s h => (hx e s h).elim
  refine ⟨fun pins s σ H D I h => ?_⟩
  refine wpAny_For (thn (hi.run pins s σ H _ I h) fun v s1 ⟨zss, H1, s0, I0, ⟨W, w0, turn⟩, hN⟩ => ?_) hs
  obtain ⟨a, gn, gs, G, H2, rfl, B, ig, hgs, la, ac, asl, I2, hd, na, csn, dH⟩ := hN.inv I0
  refine wpAny_pyIter_gen ig ?_
  have fsl : ∀ b ∈ X.fs, b < G.L := fun b hb => B.fl b (by
    rcases I0.ok.stk with e | ⟨e, hf⟩
    · rw [e]; exact hb
    · rw [e]; unfold frs; rw [List.filterMap_cons, hf]; exact List.mem_cons_of_mem _ hb)
  have fpo : ∀ {K : Hp} {b : Addr}, K b = none → G.L ≤ b → FpOk X pins K b := fun {K b} n lo =>
    ⟨n, fun z => absurd lo (Nat.not_le.mpr (z ▸ B.loc)), fun z => absurd lo (Nat.not_le.mpr (fsl b z)), .inr (Nat.le_trans B.s0 lo), fun x c e z => absurd lo (Nat.not_le.mpr (z ▸ B.cells x c e)), fun p hp z => absurd lo (Nat.not_le.mpr (z ▸ B.pins p hp))⟩
  refine codeAny_forLoop_any (fun n s' => ∃ i σ' H' own gs', n = zss.length - i ∧ i ≤ zss.length ∧ Inv X pins σ' H' s' ∧ s'.heap.IsGen a gn ∧ s'.gens[gn]? = some gs' ∧ Asl G zss (zss.length - i) i own gs' s' ∧ Holds G own H' s'.heap ∧ a ∉ own ∧ H' a = none ∧ W i σ' H')
    ?_ zss.length ⟨0, σ, H2, [G.L], gs, rfl, Nat.zero_le _, I2, ig, hgs, asl, hd, fun z => absurd (List.mem_singleton.mp z) (Nat.ne_of_gt la), na, w0 H2 dH⟩
  rintro n s3 ⟨i, σ3, H3, own, gs3, rfl, hle, I3, ig3, hg3, asl3, hd3, an3, na3, w3⟩
  have wk3 : WakeOk G (s3.setGen gn .running) := ⟨fun b o e => I3.bk b o (by rw [← B.base]; exact e), by rw [B.base, B.outer]; exact I3.stack, allBare_setG I3.bare rfl⟩
  have goes := asl3.go wk3 fun b hb o e => e
  rw [B.P, B.w, B.A] at goes
  refine wpAny_passesOwn hp (next_genP (I3.ok.hd hc) I3.nolimit hroom ig3 hg3 goes (fun v gd l k c p fs s1 hq he => ?_) fun r s1 he => ?_)
  · -- an item
    obtain ⟨wk, t, zs, own', hz, rfl, ht, y1, y2, y3, y4, y5, y6, y7, m, hm, asl4⟩ := he
    have hi : i < zss.length := (List.getElem?_eq_some_iff.mp hz).1
    have em : m = zss.length - (i + 1) := by omega
    subst em
    have hHt : H3 t = none := by
      rcases y1 with z | z
      · exact (hd3.own t z).1
      · exact I3.hok.fresh z
    have bare4 : AllBare (s1.setGen gn (End.susp (.ref t) gd l k c p fs).genState).gens := allBare_setG wk.bare (End.bare_of_quiet hq)
    have I4 := I3.woke (s2 := s1.setGen gn (End.susp (.ref t) gd l k c p fs).genState) (extra := fun b => if b = t then some (.tup zs) else none) B hd3 wk.unset rfl bare4 (fun b o e => e) fun b u e => by
      have e' : (if b = t then some (HO.tup zs) else none) = some u := e
      by_cases hb : b = t
      · rw [if_pos hb] at e'
        cases e'
        subst hb
        rw [B.P, B.w] at ht
        exact ⟨y2, y6, hHt, fun K => ht⟩
      · rw [if_neg hb] at e'; cases e'
    have hfun : with_ G.cs s1.heap (plus H3 fun b => if b = t then some (.tup zs) else none) = upd (with_ G.cs s1.heap H3) t (.tup zs) := by
      funext b
      by_cases hb : b = t
      · subst hb
        rw [upd_same, with_out y6, plus_none hHt, if_pos rfl]
      · rw [upd_ne hb]
        by_cases hc : b ∈ G.cs
        · unfold with_; rw [if_pos hc, if_pos hc]
        · rw [with_out hc, with_out hc]
          cases q : H3 b with
          | some u => exact plus_of q
          | none => rw [plus_none q, if_neg hb]
    have I4' : Inv X pins σ3 (upd (with_ G.cs s1.heap H3) t (.tup zs)) (s1.setGen gn (End.susp (.ref t) gd l k c p fs).genState) := by
      rw [← hfun]; exact I4
    have cell1 : ∀ c ∈ G.cs, ∃ o, s1.heap.get? c = some o ∧ isCell o.data = true := fun c hc => by
      obtain ⟨x, e⟩ := mem_cs.mp hc
      obtain ⟨v, o, eo, hv⟩ := wk.cell x c e
      exact ⟨o, eo, by rw [hv]; rfl⟩
    have chg : Chg H1 H3 (with_ G.cs s1.heap H3) := fun b => by
      by_cases hc : b ∈ G.cs
      · obtain ⟨o, eo, _⟩ := cell1 b hc
        obtain ⟨o', _, e', _⟩ := hd3.cs b hc
        exact .inr ⟨csn b hc, ⟨o', _, e'⟩, ⟨o, _, with_in hc eo⟩⟩
      · exact .inl (with_out hc)
    obtain ⟨N, hN, step⟩ := (turn i σ3 H3 hle w3 _ chg).2 zs hz
    have hWt : with_ G.cs s1.heap H3 t = none := by rw [with_out y6]; exact hHt
    have q6 := step t hWt
    -- what is kept through the body
    have ownN : ∀ b ∈ own', with_ G.cs s1.heap H3 b = none ∧ b ∉ G.cs ∧ b ≠ t := fun b hb => by
      have nc : b ∉ G.cs := fun hc => by
        obtain ⟨o, eo, hv⟩ := cell1 b hc
        obtain ⟨o', eo', hv'⟩ := y7 b hb
        rw [eo] at eo'; cases eo'
        rw [notCell hv'] at hv; cases hv
      refine ⟨?_, nc, fun z => y5 (z ▸ hb)⟩
      rw [with_out nc]
      rcases y3 b hb with z | z
      · exact (hd3.own b z).1
      · exact I3.hok.fresh z
    have an4 : a ∉ own' := fun hb => by
      rcases y3 a hb with z | z
      · exact an3 z
      · obtain ⟨o, _, _, e, _⟩ := ig3
        exact absurd (Heap.lt_size e) (Nat.not_lt.mpr z)
    have nt4 : a ≠ t := fun z => by
      rcases y1 with q | q
      · exact an3 (z ▸ q)
      · obtain ⟨o, _, _, e, _⟩ := ig3
        exact absurd (Heap.lt_size e) (Nat.not_lt.mpr (z ▸ q))
    have afr : a ∉ frs G.outer := fun z => absurd (B.fl a (by rw [← B.outer]; exact z)) (Nat.not_lt.mpr (Nat.le_of_lt la))
    have ig4 : s1.heap.IsGen a gn := by
      obtain ⟨o, n1, n2, e, r⟩ := ig3
      exact ⟨o, n1, n2, wk.keep a o an3 ac afr e, r⟩
    have na4 : with_ G.cs s1.heap H3 a = none := by rw [with_out ac]; exact na3
    obtain ⟨oa, _, _, eoa, hca, hda, _⟩ := id ig4
    have hf4 : ∀ b ∈ a :: own', FpOk X pins (upd (with_ G.cs s1.heap H3) t (.tup zs)) b := fun b hb => by
      rcases List.mem_cons.mp hb with z | z
      · subst z; exact fpo (by rw [upd_ne nt4]; exact na4) (Nat.le_of_lt la)
      · obtain ⟨z1, z2, z3⟩ := ownN b z
        exact fpo (by rw [upd_ne z3]; exact z1) (y4 b z)
    have ob4 : ∀ b ∈ a :: own', ∃ o, s1.heap.get? b = some o ∧ ∀ v, o.data ≠ .cell v := fun b hb => by
      rcases List.mem_cons.mp hb with z | z
      · subst z; exact ⟨oa, eoa, fun v q => by rw [hda] at q; cases q⟩
      · exact y7 b z
    have I5 : Inv X (pins ++ pinsAt (a :: own') s1.heap) σ3 (upd (with_ G.cs s1.heap H3) t (.tup zs)) (s1.setGen gn (End.susp (.ref t) gd l k c p fs).genState) := I4'.pinned hf4 ob4
    have hgn : gn < (s1.setGen gn (End.susp (.ref t) gd l k c p fs).genState).gens.size := by
      have h1 : gn < s3.gens.size := (Array.getElem?_eq_some_iff.mp hg3).1
      have h2 := wk.unset.mono.gens
      simp only [Shared.setGen, Array.size_setIfInBounds]
      omega
    have slot5 : (s1.setGen gn (End.susp (.ref t) gd l k c p fs).genState).gens[gn]? = some (End.susp (.ref t) gd l k c p fs).genState := by
      have : gn < s1.gens.size := by simpa [Shared.setGen] using hgn
      simp [Shared.setGen, this]
    have ss5 : isSusp (End.susp (.ref t) gd l k c p fs).genState = true := rfl
    show wpAny _ _ (letOwnedTupleGo tg (.ref a) (.ref t)) _ _ _
    refine go_of (M := model X.prog X.w) eoa hca hda (by decide) ?_
    -- the target
    have I5p : Inv X (pins ++ pinsAt (a :: own') s1.heap) σ3 (upd (with_ G.cs s1.heap H3) t (.tup zs)) { s1.setGen gn (End.susp (.ref t) gd l k c p fs).genState with gens := poisA (s1.setGen gn (End.susp (.ref t) gd l k c p fs).genState).gens } :=
      ⟨I5.ok, I5.os, poisA_bare I5.bare, I5.base, I5.loc, I5.cell, I5.free, I5.freeC, I5.pin, I5.hok, I5.len⟩
    refine wpAny_passesOwn hp (wpAny_mono (wpAny_slp (hg.run _ _ σ3 _ (.ref t) (.ref t) _ I5p rfl q6)) (fun _ s6 h6 => ?_) fun e s6 h6 => ?_)
    rotate_left
    · obtain ⟨g0, _, _, z⟩ := h6; exact (hx _ _ z).elim
    obtain ⟨g6, sl6, bb6, σ6, H6, I6, q7⟩ := h6
    have I6' : Inv X (pins ++ pinsAt (a :: own') s1.heap) σ6 H6 s6 := I6.gens (bb6 I6.bare)
    have slot6 : s6.gens[gn]? = some (End.susp (.ref t) gd l k c p fs).genState := sl6 gn _ slot5 ss5
    have I6p : Inv X (pins ++ pinsAt (a :: own') s1.heap) σ6 H6 { s6 with gens := poisA s6.gens } :=
      ⟨I6'.ok, I6'.os, poisA_bare I6'.bare, I6'.base, I6'.loc, I6'.cell, I6'.free, I6'.freeC, I6'.pin, I6'.hok, I6'.len⟩
    refine wpAny_passesOwn hp (wpAny_mono (wpAny_slp (hb.run _ _ σ6 H6 _ I6p q7)) (fun f s7 h7 => ?_) fun e s6 h6 => ?_)
    rotate_left
    · obtain ⟨g0, _, _, z⟩ := h6; exact (hx _ _ z).elim
    obtain ⟨g7, sl7, bb7, q8⟩ := h7
    have slot7 : s7.gens[gn]? = some (End.susp (.ref t) gd l k c p fs).genState := sl7 gn _ slot6 ss5
    have again : ∀ {σ7 : L2.St} {H7 : Hp}, Inv X (pins ++ pinsAt (a :: own') s1.heap) σ7 H7 { s7 with gens := g7 } → N σ7 H7 → ∃ mm, mm < zss.length - i ∧ ∃ i' σ' H' own gs', mm = zss.length - i' ∧ i' ≤ zss.length ∧ Inv X pins σ' H' s7 ∧ s7.heap.IsGen a gn ∧ s7.gens[gn]? = some gs' ∧ Asl G zss (zss.length - i') i' own gs' s7 ∧ Holds G own H' s7.heap ∧ a ∉ own ∧ H' a = none ∧ W i' σ' H' := fun {σ7 H7} I7 n7 => by
      obtain ⟨fz, w7⟩ := hN σ7 H7 n7
      have I7' : Inv X (pins ++ pinsAt (a :: own') s1.heap) σ7 H7 s7 := I7.gens (bb7 I7.bare)
      have pin7 : ∀ b ∈ a :: own', ∃ o, s1.heap.get? b = some o ∧ s7.heap.get? b = some o ∧ H7 b = none ∧ ∀ v, o.data ≠ .cell v := fun b hb => by
        obtain ⟨o, e, d⟩ := ob4 b hb
        obtain ⟨z1, z2, _⟩ := I7'.pin (b, o) (List.mem_append_right _ (List.mem_append_right _ (mem_pinsAt hb e)))
        exact ⟨o, e, z1, z2, d⟩
      have cell7 : ∀ c ∈ G.cs, ∃ o, s1.heap.get? c = some o ∧ s7.heap.get? c = some o ∧ H7 c = some (.frz o (.own c)) ∧ isCell o.data = true := fun c hc => by
        obtain ⟨o, eo, hv⟩ := cell1 c hc
        have e7 := fz c o (.own c) (csn c hc) (with_in hc eo)
        exact ⟨o, eo, (I7'.hok c _ e7).1, e7, hv⟩
      refine ⟨zss.length - (i + 1), by omega, i + 1, σ7, H7, own', _, rfl, hi, I7'.unpinned, ?_, slot7, asl4.move fun b hb o e => ?_, ⟨fun b hb => ?_, fun c hc => ?_⟩, an4, (pin7 a List.mem_cons_self).choose_spec.2.2.1, w7⟩
      · obtain ⟨o, n1, n2, e, r⟩ := ig4
        obtain ⟨o', e1, e2, _⟩ := pin7 a List.mem_cons_self
        rw [e] at e1; cases e1
        exact ⟨o, n1, n2, e2, r⟩
      · rcases List.mem_append.mp hb with z | z
        · obtain ⟨o', e1, e2, _⟩ := pin7 b (List.mem_cons_of_mem _ z)
          rw [e] at e1; cases e1
          exact e2
        · obtain ⟨o', e1, e2, _⟩ := cell7 b z
          have e' : s1.heap.get? b = some o := e
          rw [e'] at e1; cases e1
          exact e2
      · obtain ⟨o', e1, e2, e3, d⟩ := pin7 b (List.mem_cons_of_mem _ hb)
        exact ⟨e3, y4 b hb, o', e2, d⟩
      · obtain ⟨o', e1, e2, e3, d⟩ := cell7 c hc
        exact ⟨o', e2, e3, d⟩
    cases f with
    | next => obtain ⟨σ7, H7, I7, n7⟩ := q8; exact again I7 n7
    | cont => obtain ⟨σ7, H7, I7, n7⟩ := q8; exact again I7 n7
    | brk =>
      obtain ⟨σ7, H7, I7, q9⟩ := q8
      exact ⟨σ7, H7, (I7.gens (bb7 I7.bare)).unpinned, q9⟩
    | ret v =>
      obtain ⟨x7, σ7, H7, I7, r7, q9⟩ := q8
      exact ⟨x7, σ7, H7, (I7.gens (bb7 I7.bare)).unpinned, r7, q9⟩
  · -- the end
    obtain ⟨wk, hr, hj⟩ := he
    refine ⟨hr, fun h' kh => ?_⟩
    have bare4 : AllBare (s1.setGen gn .finished).gens := allBare_setG wk.bare rfl
    have I4 := I3.woke (s2 := { s1.setGen gn .finished with heap := h' }) (extra := fun _ => none) B hd3 wk.unset rfl bare4 kh fun b u e => by cases e
    have hfun : with_ G.cs h' (plus H3 fun _ => none) = with_ G.cs h' H3 := by
      funext b
      by_cases hc : b ∈ G.cs
      · unfold with_; rw [if_pos hc, if_pos hc]
      · rw [with_out hc, with_out hc]
        cases q : H3 b with
        | some u => exact plus_of q
        | none => rw [plus_none q]
    have chg : Chg H1 H3 (with_ G.cs h' H3) := fun b => by
      by_cases hc : b ∈ G.cs
      · obtain ⟨x, e⟩ := mem_cs.mp hc
        obtain ⟨v, o, eo, hv⟩ := wk.cell x b e
        obtain ⟨o', _, e', _⟩ := hd3.cs b hc
        exact .inr ⟨csn b hc, ⟨o', _, e'⟩, ⟨o, _, with_in hc (kh b o eo)⟩⟩
      · exact .inl (with_out hc)
    have q := (turn i σ3 H3 hle w3 _ chg).1 hj
    rw [← hfun] at q
    exact wpAny_execs_nil ⟨σ3, _, I4, q⟩
end
end L2
end
section
set_option Elab.async false
set_option linter.all false
set_option maxRecDepth 100000
set_option maxHeartbeats 2000000
/-! tables of sets with up to 511 for their mask -/
namespace TG
open PySem PySem.Spec PyProof.Rows L2
def orb (m : Nat) : Nat → Nat → List Nat
  | 0, _ => []
  | n + 1, x => x :: orb m n ((x * 5 + 1) % (m + 1))
theorem step_in (m : Nat) : ∀ k x, lcgI m ((x * 5 + 1) % (m + 1)) k = lcgI m x (k + 1)
  | 0, _ => rfl
  | k + 1, x => congrArg (fun z => (z * 5 + 1) % (m + 1)) (step_in m k x)
theorem orb_at (m : Nat) : ∀ n x k, k < n → (orb m n x)[k]? = some (lcgI m x k)
  | n + 1, x, 0, _ => rfl
  | n + 1, x, k + 1, h => (orb_at m n _ k (Nat.lt_of_succ_lt_succ h)).trans (congrArg some (step_in m k x))
theorem orb_len (m : Nat) : ∀ n x, (orb m n x).length = n
  | 0, _ => rfl
  | n + 1, x => congrArg (· + 1) (orb_len m n _)
theorem twice (m x a : Nat) : ∀ k, lcgI m (lcgI m x a) k = lcgI m x (a + k)
  | 0 => rfl
  | k + 1 => congrArg (fun z => (z * 5 + 1) % (m + 1)) (twice m x a k)
theorem whole511 : ((List.range 512).all fun j => (orb 511 512 0).contains j) = true := by decide +kernel
theorem back511 : lcgI 511 0 512 = 0 := by decide +kernel
theorem from0 {j : Nat} (h : j ≤ 511) : ∃ k, k ≤ 511 ∧ lcgI 511 0 k = j := by
  have c := List.all_eq_true.mp whole511 j (List.mem_range.mpr (by omega))
  have hm : j ∈ orb 511 512 0 := by simpa using c
  obtain ⟨k, hk, e⟩ := List.getElem_of_mem hm
  have hk' : k < 512 := by rw [orb_len] at hk; exact hk
  have := orb_at 511 512 0 k hk'
  rw [List.getElem?_eq_getElem hk, e] at this
  exact ⟨k, by omega, (Option.some.inj this).symm⟩
theorem round511 (k : Nat) : lcgI 511 0 (512 + k) = lcgI 511 0 k := by rw [← twice 511 0 512 k, back511]
theorem any511 {i j : Nat} (hi : i ≤ 511) (hj : j ≤ 511) : ∃ k, k ≤ 511 ∧ lcgI 511 i k = j := by
  obtain ⟨a, ha, rfl⟩ := from0 hi
  obtain ⟨b, hb, rfl⟩ := from0 hj
  by_cases c : a ≤ b
  · exact ⟨b - a, by omega, by rw [twice, show a + (b - a) = b by omega]⟩
  · exact ⟨512 + b - a, by omega, by rw [twice, show a + (512 + b - a) = 512 + b by omega, round511]⟩
/-- each slot begins a run of each hash's way -/
structure Mt (m : Nat) : Prop where
  is : m = 7 ∨ m = 31 ∨ m = 127 ∨ m = 511
  odd : m % 2 = 1
  hi : m ≤ 511
  met : ∀ (h : Int) (j : Nat), j ≤ m → ∃ n, n ≤ m + 12 ∧ runI m (SetTable.bits h) n = j
theorem mt_old {m : Nat} (h : MaskOk m) : Mt m := ⟨by rcases h with e | e | e <;> simp [e], mask_odd h, by rcases h with e | e | e <;> omega, fun x j hj => run_meets h x hj⟩
theorem mt511 : Mt 511 := ⟨by simp, rfl, Nat.le_refl _, fun h j hj => by
  obtain ⟨k, hk, e⟩ := any511 (runI_le 511 (SetTable.bits h) 12) hj
  exact ⟨12 + k, by omega, (runI_tail (bits_lt h) k).trans e⟩⟩
theorem Mt.walk {m : Nat} (M : Mt m) (h : Int) {j : Nat} (hj : j ≤ m) : ∃ k, k < 10 * SetTable.turns m ∧ way m h k = j := by
  obtain ⟨n, hn, e⟩ := M.met h j hj
  obtain ⟨k, hk, ek⟩ := run_nth m (SetTable.bits h) n
  refine ⟨k, by unfold SetTable.turns; omega, ?_⟩
  show (nth m _ k).j = j
  rw [ek]; exact e
theorem way_in {m : Nat} (h : Int) (k : Nat) : way m h k ≤ m := by
  have hi : SetTable.bits h % (m + 1) ≤ m := Nat.le_of_lt_succ (Nat.mod_lt _ (Nat.succ_pos _))
  have := nth_in (m := m) k (runAt m (SetTable.bits h % (m + 1)) (SetTable.bits h)) (by
    have := runEnd_bd hi
    show SetTable.bits h % (m + 1) + (SetTable.runEnd m (SetTable.bits h % (m + 1)) - SetTable.bits h % (m + 1)) ≤ m
    omega)
  exact Nat.le_trans (Nat.le_add_right _ _) this
/-- a table that finds all again -/
structure Tab (t : SetTable) (hs : List Int) : Prop where
  ris : Ris t.place.toList
  clean : t.dummies = #[]
  sz : t.place.size = hs.length
  mt : Mt t.mask
  bd : ∀ x ∈ t.place.toList, x ≤ t.mask
  way : ∀ (i : Nat) (h : Int) (j : Nat), hs[i]? = some h → t.place.toList[i]? = some j → ∃ k, L2.way t.mask h k = j ∧ ∀ l, l < k → L2.way t.mask h l ∈ t.place.toList
theorem Tab.gap {t : SetTable} {hs : List Int} (T : Tab t hs) (hl : hs.length ≤ t.mask) (h : Int) : ∃ K, K < 10 * SetTable.turns t.mask ∧ L2.way t.mask h K ∉ t.place.toList ∧ ∀ k, k < K → L2.way t.mask h k ∈ t.place.toList := by
  obtain ⟨j, hj, out⟩ := st_missing t.place.toList (t.mask + 1) (by rw [Array.length_toList, T.sz]; omega)
  obtain ⟨k, hk, rfl⟩ := T.mt.walk h (Nat.le_of_lt_succ hj)
  obtain ⟨K, a, b, c⟩ := st_least (p := fun k => L2.way t.mask h k ∉ t.place.toList) k out
  exact ⟨K, by omega, b, fun l hl => Classical.byContradiction (c l hl)⟩
theorem Tab.ahead {t : SetTable} {hs : List Int} (T : Tab t hs) {h : Int} {K i j : Nat} (hK : L2.way t.mask h K ∉ t.place.toList) (hi : hs[i]? = some h) (hj : t.place.toList[i]? = some j) : ∃ k, k < K ∧ L2.way t.mask h k = j := by
  obtain ⟨k, rfl, hb⟩ := T.way i h j hi hj
  refine ⟨k, Nat.lt_of_not_le fun z => ?_, rfl⟩
  rcases Nat.lt_or_eq_of_le z with z | z
  · exact hK (hb K z)
  · exact hK (z ▸ List.mem_of_getElem? hj)
theorem Tab.put {t : SetTable} {hs : List Int} (T : Tab t hs) {h : Int} {K : Nat} (hK : L2.way t.mask h K ∉ t.place.toList) (hb : ∀ k, k < K → L2.way t.mask h k ∈ t.place.toList) {j b : Nat} (ej : j = L2.way t.mask h K) (eb : b = SetTable.below t.place j) :
    b ≤ hs.length ∧ (t.put j).2 = b ∧ Tab (t.put j).1 (hs.take b ++ h :: hs.drop b) ∧ (t.put j).1.mask = t.mask ∧ (t.put j).1.led = t.led ∧ (t.put j).1.plain = t.plain ∧ (t.put j).1.fill = hs.length + 1 := by
  have cb : b ≤ hs.length := by have := (below_cut T.ris j).1; rw [T.sz] at this; rw [eb]; exact this
  have pl := put_place t j
  rw [← eb] at pl
  have lb : b ≤ t.place.toList.length := by rw [Array.length_toList, T.sz]; exact cb
  have len : (t.put j).1.place.size = hs.length + 1 := by rw [← Array.length_toList, pl, len_ins _ lb, Array.length_toList, T.sz]
  have stay : ∀ x, x ∈ t.place.toList → x ∈ (t.put j).1.place.toList := fun x hx => by rw [pl]; exact mem_ins.2 (.inr hx)
  have fresh : t.place[SetTable.below t.place j]? ≠ some j := fun e => by rw [← Array.getElem?_toList] at e; exact hK (ej ▸ List.mem_of_getElem? e)
  refine ⟨cb, eb.symm, ⟨ris_insert T.ris fresh, put_dm T.clean j, by rw [len, len_ins _ cb], T.mt, fun x hx => ?_, fun i g y h1 h2 => ?_⟩, rfl, rfl, rfl, ?_⟩
  · rw [pl] at hx
    rcases mem_ins.1 hx with e | e
    · rw [e, ej]; exact way_in h K
    · exact T.bd x e
  · rw [tins_get hs cb] at h1
    rw [pl, tins_get _ lb] at h2
    have old : ∀ i', hs[i']? = some g → t.place.toList[i']? = some y → ∃ k, L2.way t.mask g k = y ∧ ∀ l, l < k → L2.way t.mask g l ∈ (t.put j).1.place.toList := fun i' q1 q2 => by
      obtain ⟨k, e, z⟩ := T.way i' g y q1 q2
      exact ⟨k, e, fun l hl => stay _ (z l hl)⟩
    by_cases c : i < b
    · rw [if_pos c] at h1 h2; exact old i h1 h2
    · rw [if_neg c] at h1 h2
      by_cases d : i = b
      · rw [if_pos d] at h1 h2
        cases h1; cases h2
        exact ⟨K, ej.symm, fun l hl => stay _ (hb l hl)⟩
      · rw [if_neg d] at h1 h2; exact old _ h1 h2
  · show (t.put j).1.place.size + (t.put j).1.dummies.size = _
    rw [len, put_dm T.clean j]; rfl
/-! laid anew -/
theorem Mt.seat {m : Nat} (M : Mt m) (owner : Array (Option Nat)) (h : Int) {j : Nat} (hj : j ≤ m) (hf : oAt owner j = none) :
    ∃ K, SetTable.layClean.free m owner (SetTable.turns m) (SetTable.bits h % (m + 1)) (SetTable.bits h) = some (way m h K) ∧ oAt owner (way m h K) = none ∧ ∀ k, k < K → oAt owner (way m h k) ≠ none := by
  obtain ⟨n, hn, e⟩ := M.met h j hj
  generalize hi0 : SetTable.bits h % (m + 1) = i0
  have at_n : way m h (off m i0 (SetTable.bits h) n) = j := by
    show (nth m (runAt m _ _) _).j = j
    rw [hi0, nth_off, ← hi0, itL_run]; exact e
  obtain ⟨K, a, b, c⟩ := st_least (p := fun k => oAt owner (way m h k) = none) _ (by rw [at_n]; exact hf)
  refine ⟨K, ?_, b, c⟩
  have := free_spec m owner (SetTable.turns m) n i0 (SetTable.bits h) K (by unfold SetTable.turns; omega) a
    (fun k hk => by rw [← hi0]; exact Option.isNone_eq_false_iff.mpr (Option.isSome_iff_ne_none.mpr (c k hk))) (by rw [← hi0]; exact Option.isNone_iff_eq_none.mpr b)
  rw [this, ← hi0]
theorem Mt.next {m : Nat} (M : Mt m) {done : List Int} {owner : Array (Option Nat)} (W : Own m done owner) (hl : done.length ≤ m) (h : Int) :
    ∃ j, SetTable.layClean.free m owner (SetTable.turns m) (SetTable.bits h % (m + 1)) (SetTable.bits h) = some j ∧ Own m (done ++ [h]) (owner.setIfInBounds j (some done.length)) := by
  obtain ⟨ps, lps, sub⟩ := W.ps
  obtain ⟨e, he, out⟩ := st_missing ps (m + 1) (by omega)
  have hfree : oAt owner e = none := Classical.byContradiction fun z => out (sub e (by omega) z)
  obtain ⟨K, f1, f2, f3⟩ := M.seat owner h (Nat.le_of_lt_succ he) hfree
  obtain ⟨q, hq⟩ : ∃ q, q = way m h K := ⟨_, rfl⟩
  rw [← hq] at f1 f2
  have qm : q ≤ m := hq ▸ way_in h K
  have new := oAt_set_self (owner := owner) (some done.length) (j := q) (by rw [W.sz]; omega)
  have up : ∀ i, oAt owner i ≠ none → oAt (owner.setIfInBounds q (some done.length)) i ≠ none := fun i hi => by
    by_cases c : i = q
    · rw [c, new]; simp
    · rw [oAt_set_ne _ c]; exact hi
  refine ⟨q, f1, ⟨by rw [Array.size_setIfInBounds]; exact W.sz, fun j k hj z => ?_, fun k hk => ?_, q :: ps, by simp [lps], fun j hj z => ?_⟩⟩
  · by_cases c : j = q
    · rw [c, new] at z
      cases z
      exact ⟨h, K, by simp, hq.symm.trans c.symm, fun l hl => up _ (f3 l hl)⟩
    · rw [oAt_set_ne _ c] at z
      obtain ⟨g, K', a1, a2, a3⟩ := W.at_ j k hj z
      exact ⟨g, K', by rw [List.getElem?_append_left (List.getElem?_eq_some_iff.mp a1).1]; exact a1, a2, fun l hl => up _ (a3 l hl)⟩
  · rcases Nat.lt_or_ge k done.length with c | c
    · obtain ⟨j, hj, z⟩ := W.all k c
      exact ⟨j, hj, by rw [oAt_set_ne _ fun y => by rw [y, f2] at z; cases z]; exact z⟩
    · have : k = done.length := by simp at hk; omega
      exact ⟨q, qm, this ▸ new⟩
  · by_cases c : j = q
    · exact c ▸ List.mem_cons_self
    · rw [oAt_set_ne _ c] at z
      exact List.mem_cons_of_mem _ (sub j hj z)
theorem Mt.seats {m : Nat} (M : Mt m) : ∀ (todo done : List Int) (owner : Array (Option Nat)), Own m done owner → done.length + todo.length ≤ m →
    ∃ o', todo.foldl (stepF m) (some (owner, done.length)) = some (o', done.length + todo.length) ∧ Own m (done ++ todo) o'
  | [], done, owner, W, _ => ⟨owner, rfl, by simpa using W⟩
  | h :: todo, done, owner, W, hl => by
    simp only [List.length_cons] at hl
    obtain ⟨j, e, W1⟩ := M.next W (by omega) h
    obtain ⟨o', f, W2⟩ := M.seats todo (done ++ [h]) _ W1 (by simp; omega)
    have el : (done ++ [h]).length = done.length + 1 := by simp
    rw [el] at f
    refine ⟨o', ?_, by simpa using W2⟩
    rw [List.foldl_cons, stepF_some e, f, List.length_cons, show done.length + 1 + todo.length = done.length + (todo.length + 1) by omega]
theorem Mt.laid {m : Nat} (M : Mt m) {hs : Array Int} (hn : hs.size ≤ m) : ∃ o, SetTable.layClean m hs = some o ∧ Own m hs.toList o := by
  obtain ⟨o, f, W⟩ := M.seats hs.toList [] _ (Own.init m) (by simpa using hn)
  refine ⟨o, ?_, W⟩
  rw [layClean_eq]
  have f' : hs.toList.foldl (stepF m) (some (Array.replicate (m + 1) none, 0)) = some (o, 0 + hs.toList.length) := f
  rw [f']; rfl
theorem relay (t : SetTable) {hs : Array Int} {wanted M : Nat} (hw : SetTable.sizeAbove wanted - 1 = M) (hM : Mt M) (hn : hs.size ≤ M) :
    ∃ t' order, t.relaid hs wanted = some (t', order) ∧ order.toList.Perm (List.range hs.size) ∧ Tab t' (order.toList.map fun i => hs.getD i 0) ∧ t'.mask = M ∧ t'.led = t.led ∧ t'.plain = t.plain := by
  obtain ⟨o, e, W⟩ := hM.laid hn
  have live := ris_live (fun j => o.getD j none) (List.range (M + 1)) (show List.Pairwise _ _ from List.pairwise_lt_range)
  have up : Ris ((liveOf M o).map (·.1)) := live.1
  have low : ∀ x ∈ (liveOf M o).map (·.1), x ≤ M := fun x hx => Nat.le_of_lt_succ (List.mem_range.mp (live.2 x hx))
  have many : (liveOf M o).length = hs.size := by
    obtain ⟨ps, lp, sub⟩ := W.ps
    have lo := nat_nodup_len (List.range hs.size) ((liveOf M o).map (·.2)) List.nodup_range fun k hk => by
      obtain ⟨j, a, b⟩ := W.all k (by simpa using hk)
      exact List.mem_map_of_mem (f := (·.2)) ((mem_live W.sz).2 ⟨a, b⟩)
    have ndu : ((liveOf M o).map (·.1)).Nodup := up.imp fun h => Nat.ne_of_lt h
    have hi := nat_nodup_len _ ps ndu fun x hx => by
      obtain ⟨⟨y, k⟩, hq, rfl⟩ := List.mem_map.mp hx
      obtain ⟨a, b⟩ := (mem_live W.sz).1 hq
      exact sub y a (by rw [b]; simp)
    simp only [List.length_map, List.length_range] at lo hi
    simp only [Array.length_toList] at lp
    omega
  have all : ∀ k, k < hs.size → k ∈ (liveOf M o).map (·.2) := fun k hk => by
    obtain ⟨j, a, b⟩ := W.all k (by simpa using hk)
    exact List.mem_map_of_mem (f := (·.2)) ((mem_live W.sz).2 ⟨a, b⟩)
  refine ⟨tabOf t M o, ((liveOf M o).map (·.2)).toArray, ?_, perm_range _ _ (by simpa using many) all, ⟨up, rfl, ?_, hM, low, fun i h j h1 h2 => ?_⟩, rfl, rfl, rfl⟩
  · rw [relaid_eq, hw, e]; rfl
  · show ((liveOf M o).map (·.1)).toArray.size = _
    simp
  · have h2' : ((liveOf M o).map (·.1))[i]? = some j := h2
    have h1' : (((liveOf M o).map (·.2)).map fun i => hs.getD i 0)[i]? = some h := h1
    simp only [List.getElem?_map, Option.map_eq_some_iff] at h1' h2'
    obtain ⟨k, ⟨q, hq, rfl⟩, eh⟩ := h1'
    obtain ⟨q', hq', rfl⟩ := h2'
    rw [hq] at hq'; cases hq'
    obtain ⟨a, b⟩ := (mem_live W.sz).1 (show (q.1, q.2) ∈ _ from List.mem_of_getElem? hq)
    obtain ⟨g, K, a1, a2, a3⟩ := W.at_ q.1 q.2 a b
    have eg : g = h := by
      rw [← eh, Array.getD_eq_getD_getElem?, ← Array.getElem?_toList, a1]; rfl
    subst eg
    refine ⟨K, a2, fun l hl => ?_⟩
    obtain ⟨k2, z⟩ := Option.ne_none_iff_exists'.mp (a3 l hl)
    exact List.mem_map_of_mem (f := (·.1)) ((mem_live W.sz).2 ⟨way_in g l, z⟩)
end TG
end
section
set_option Elab.async false
set_option linter.all false
set_option maxRecDepth 100000
set_option maxHeartbeats 4000000
/-! sets of tuples of ints, fewer than 300 -/
namespace TG
open PySem PySem.Spec PyProof.Rows L2
structure SetG (P : Program) (w : World) (h : Heap) (a : Addr) (L : List (Addr × List Int)) (es : Array (Int × Value)) (ep : Nat) (t : SetTable) : Prop where
  ob : ∃ o, h.get? a = some o ∧ o.ExactSet ∧ o.data = .set es ep t
  rows : es.toList = rowsOf P w L
  tab : Tab t (L.map fun p => thash P w p.2)
  nd : (L.map Prod.snd).Nodup
  tup : ∀ p ∈ L, IsT P w h p.2 p.1
  plain : t.plain = true
  led : w.params.followText "set-order" = true ∨ t.led = true
  room : L.length * 5 < t.mask * 3
  few : L.length < 300
section
variable {P : Program} {w : World} {A : Around} {E : Value → Shared → Prop} {s : Shared} {a : Addr} {L : List (Addr × List Int)} {es : Array (Int × Value)} {ep : Nat} {t : SetTable}
theorem SetG.many (R : SetG P w s.heap a L es ep t) : es.size = L.length := by
  rw [← Array.length_toList, R.rows]; unfold rowsOf; rw [List.length_map]
theorem SetG.placed (R : SetG P w s.heap a L es ep t) : t.place.size = L.length := by have := R.tab.sz; rwa [List.length_map] at this
theorem SetG.fits (R : SetG P w s.heap a L es ep t) : t.fits es.size = true := by
  have h1 := R.placed; have h2 := R.many; have h3 := R.room
  unfold SetTable.fits SetTable.fill
  rw [R.tab.clean, Bool.and_eq_true, beq_iff_eq, decide_eq_true_eq]
  exact ⟨by omega, by show t.place.size + 0 ≤ t.mask; omega⟩
theorem SetG.row (R : SetG P w s.heap a L es ep t) {i : Nat} {p : Addr × List Int} (h : L[i]? = some p) : es[i]? = some (thash P w p.2, Value.ref p.1) := by
  rw [← Array.getElem?_toList, R.rows]; unfold rowsOf; rw [List.getElem?_map, h]; rfl
theorem SetG.whole (R : SetG P w s.heap a L es ep t) : ¬ t.gaveWay = true := by unfold SetTable.gaveWay; rw [R.tab.mt.odd]; decide
theorem nth_clean (m : Nat) : ∀ (n : Nat) (p : SetTable.Probe), p.dummy = none → (nth m p n).dummy = none
  | 0, _, h => h
  | n + 1, p, h => nth_clean m n _ (by unfold adv; split <;> exact h)
abbrev st0 (m : Nat) (h : Int) : SetTable.Probe := runAt m (SetTable.bits h % (m + 1)) (SetTable.bits h)
/-- where the way from its c-th step on leads -/
theorem SetG.look (R : SetG P w s.heap a L es ep t) {x : Addr} {k : List Int} (hx : IsT P w s.heap k x) (hu : A.units < cLine) {K : Nat} (big : K < 10 * SetTable.turns t.mask) (gap : way t.mask (thash P w k) K ∉ t.place.toList)
    (full : ∀ c, c < K → way t.mask (thash P w k) c ∈ t.place.toList) {Q : SetFound → Shared → Prop} (hin : k ∈ L.map Prod.snd → Q (.there none) s) (hout : k ∉ L.map Prod.snd → Q (.free (way t.mask (thash P w k) K) false) s) :
    ∀ (f c : Nat) (stand : Option SetTable.Probe), stand.getD (t.probeStart (thash P w k)) = nth t.mask (st0 t.mask (thash P w k)) c → c ≤ K → K - c < f →
      (∀ (i : Nat) (p : Addr × List Int), L[i]? = some p → p.2 = k → ∃ c', c ≤ c' ∧ c' < K ∧ t.place.toList[i]? = some (way t.mask (thash P w k) c')) → wpAny (model P w) A (setSearchFrom a (.ref x) (thash P w k) true f stand) Q E s := by
  obtain ⟨o, ho, hex, hd⟩ := R.ob
  intro f
  induction f with
  | zero => exact fun c _ _ _ hf _ => absurd hf (Nat.not_lt_zero _)
  | succ f ih =>
    intro c stand hst hc hf hre
    rw [setSearchFrom_succ]
    refine wpAny_bind (wpAny_setState_of ho hd R.fits ?_)
    dsimp only
    refine wp_if_neg R.whole ?_
    try refine wpAny_bind (wpAny_pure ?_)
    have go : ∀ q, (nth t.mask (nth t.mask (st0 t.mask (thash P w k)) c) q).j = way t.mask (thash P w k) (c + q) := fun q => congrArg SetTable.Probe.j (nth_add t.mask c _ q).symm
    have go' : ∀ q, nth t.mask (nth t.mask (st0 t.mask (thash P w k)) c) q = nth t.mask (st0 t.mask (thash P w k)) (c + q) := fun q => (nth_add t.mask c _ q).symm
    rcases go_spec t R.tab.ris R.tab.clean (fun i => (es[i]?.map (·.1)).getD 0) (thash P w k) (10 * SetTable.turns t.mask) (K - c) (nth t.mask (st0 t.mask (thash P w k)) c) (nth_clean _ c _ rfl) (by omega) (fun q hq => by rw [go]; exact full _ (by omega))
      (by rw [go, Nat.add_sub_cancel' hc]; exact gap) with ⟨q, i, hq, hi, hh, hno, hpr⟩ | ⟨hno, hpr⟩
    · rw [go, go'] at hpr
      rw [go] at hi
      have hpr' : t.probe (fun i => (es[i]?.map (·.1)).getD 0) (thash P w k) (stand.getD (t.probeStart (thash P w k))) = some (.candidate (way t.mask (thash P w k) (c + q)) i (nth t.mask (st0 t.mask (thash P w k)) (c + (q + 1)))) := by rw [hst]; exact hpr
      rw [hpr']
      dsimp only
      have hil : i < L.length := by
        have := (List.getElem?_eq_some_iff.mp hi).1
        rwa [Array.length_toList, R.placed] at this
      obtain ⟨p, hp⟩ : ∃ p, L[i]? = some p := ⟨_, List.getElem?_eq_getElem hil⟩
      have pm : p ∈ L := List.mem_of_getElem? hp
      have live := slot_live R.tab.ris hi
      have rest : wpAny (model P w) A (searchRest a (.ref x) (thash P w k) true f es t (way t.mask (thash P w k) (c + q)) i (nth t.mask (st0 t.mask (thash P w k)) (c + (q + 1)))) Q E s := by
        unfold searchRest
        rw [R.row hp]
        dsimp only
        refine wpAny_bind (wpAny_holding (wpAny_eqBool_tuple hu (R.tup p pm) hx ?_))
        refine wpAny_bind (wpAny_setState_of ho hd R.fits ?_)
        dsimp only
        by_cases hk : p.2 = k
        · exact wp_if_pos (by simp [hk]) (wpAny_pure (hin (List.mem_map.mpr ⟨p, pm, hk⟩)))
        · refine wp_if_neg (by simp [hk]) ?_
          try refine wpAny_bind (wpAny_pure ?_)
          rw [sameMem]
          dsimp only
          simp only [if_true, live, R.row hp]
          refine wpAny_bind (wpAny_isSame_ref_self (wpAny_bind (wpAny_pure ?_)))
          simp only [if_true]
          refine wp_if_neg (by simp [hk]) (ih (c + (q + 1)) _ rfl (by omega) (by omega) fun i0 p0 h0 k0 => ?_)
          obtain ⟨d, d1, d2, d3⟩ := hre i0 p0 h0 k0
          refine ⟨d, Classical.byContradiction fun nz => ?_, d2, d3⟩
          rcases Nat.lt_or_eq_of_le (show d ≤ c + q by omega) with z | z
          · refine hno (d - c) i0 (by omega) (by rw [go, Nat.add_sub_cancel' d1]; exact d3) ?_
            show (es[i0]?.map (·.1)).getD 0 = _
            rw [R.row h0, ← k0]; rfl
          · rw [z] at d3
            have := slot_live R.tab.ris d3
            rw [live] at this
            cases this
            rw [hp] at h0; cases h0
            exact hk k0
      by_cases hl : t.led = true
      · refine wp_if_neg (by simp [hl]) ?_
        try refine wpAny_bind (wpAny_pure ?_)
        exact rest
      · refine wp_if_pos (by simp [hl]) (wpAny_bind (seen_tup hx (fun y hy => ?_) (wp_if_neg (by decide) ?_)))
        · obtain ⟨e, he, rfl⟩ := List.mem_map.mp hy
          have hm : e ∈ es.toList := by simpa using (show e ∈ es ∧ _ by simpa using he).1
          rw [R.rows] at hm
          obtain ⟨p2, m2, rfl⟩ := List.mem_map.mp hm
          exact ⟨p2.2, p2.1, rfl, R.tup p2 m2⟩
        · try refine wpAny_bind (wpAny_pure ?_)
          exact rest
    · rw [go, Nat.add_sub_cancel' hc] at hpr
      have hpr' : t.probe (fun i => (es[i]?.map (·.1)).getD 0) (thash P w k) (stand.getD (t.probeStart (thash P w k))) = some (.empty (way t.mask (thash P w k) K) none) := by rw [hst]; exact hpr
      rw [hpr']
      dsimp only
      refine wpAny_pure (hout fun hm => ?_)
      obtain ⟨p0, m0, k0⟩ := List.mem_map.mp hm
      obtain ⟨i0, l0, e0⟩ := List.getElem_of_mem m0
      have h0 : L[i0]? = some p0 := by rw [List.getElem?_eq_getElem l0, e0]
      obtain ⟨d, d1, d2, d3⟩ := hre i0 p0 h0 k0
      refine hno (d - c) i0 (by omega) (by rw [go, Nat.add_sub_cancel' d1]; exact d3) ?_
      show (es[i0]?.map (·.1)).getD 0 = _
      rw [R.row h0, ← k0]; rfl
theorem SetG.search (R : SetG P w s.heap a L es ep t) {x : Addr} {k : List Int} (hx : IsT P w s.heap k x) (hu : A.units < cLine) {Q : SetFound → Shared → Prop} (hin : k ∈ L.map Prod.snd → Q (.there none) s)
    (hout : ∀ K, k ∉ L.map Prod.snd → way t.mask (thash P w k) K ∉ t.place.toList → (∀ c, c < K → way t.mask (thash P w k) c ∈ t.place.toList) → Q (.free (way t.mask (thash P w k) K) false) s) : wpAny (model P w) A (setSearch a (.ref x) (thash P w k) true) Q E s := by
  have room := R.room
  obtain ⟨K, big, gap, full⟩ := R.tab.gap (by rw [List.length_map]; omega) (thash P w k)
  have lid : K < 100000 := by have := R.tab.mt.hi; unfold SetTable.turns at big; omega
  unfold setSearch
  refine R.look hx hu big gap full hin (fun n => hout K n gap full) 100000 0 none rfl (Nat.zero_le _) (by omega) fun i p hp hk => ?_
  obtain ⟨j, hj⟩ : ∃ j, t.place.toList[i]? = some j := ⟨_, List.getElem?_eq_getElem (by rw [Array.length_toList, R.placed]; exact (List.getElem?_eq_some_iff.mp hp).1)⟩
  obtain ⟨c, hc, e⟩ := R.tab.ahead gap (i := i) (by rw [List.getElem?_map, hp, ← hk]; rfl) hj
  exact ⟨c, Nat.zero_le _, hc, by rw [hj, e]⟩
theorem size77 : SetTable.sizeAbove (SetTable.grown 77) = 512 := by decide +kernel
/-- laid anew, larger -/
theorem relay_set {o : Obj} (ho : s.heap.get? a = some o) (hex : o.ExactSet) (hd : o.data = .set es ep t) (rows : es.toList = rowsOf P w L) (T : Tab t (L.map fun p => thash P w p.2)) (nd : (L.map Prod.snd).Nodup) (tup : ∀ p ∈ L, IsT P w s.heap p.2 p.1) (pl : t.plain = true)
    (ld : w.params.followText "set-order" = true ∨ t.led = true) (few : L.length < 300) (under : L.length ≤ t.mask) {wanted M : Nat} (hw : SetTable.sizeAbove wanted = M + 1) (hM : Mt M) (hn : L.length * 5 < M * 3) {Q : Unit → Shared → Prop}
    (hQ : ∀ h' L' es' ep' t', Heap.SameBut a s.heap h' → SetG P w h' a L' es' ep' t' → L'.Perm L → Q () { s with heap := h' }) : wpAny (model P w) A (setRelay a wanted) Q E s := by
  have many : es.size = L.length := by rw [← Array.length_toList, rows]; unfold rowsOf; rw [List.length_map]
  have fits : t.fits es.size = true := by
    have := T.sz
    rw [List.length_map] at this
    unfold SetTable.fits SetTable.fill
    rw [T.clean, Bool.and_eq_true, beq_iff_eq, decide_eq_true_eq]
    exact ⟨by omega, by show t.place.size + 0 ≤ t.mask; omega⟩
  obtain ⟨t', order, e, pm, T', em, el, ep'⟩ := relay t (hs := es.map (·.1)) (wanted := wanted) (M := M) (by omega) hM (by rw [Array.size_map, many]; omega)
  rw [Array.size_map, many] at pm
  obtain ⟨L2', r1, r2, r3⟩ := order_rows L es order rows pm
  rw [← r3] at T'
  have len2 : (order.filterMap (es[·]?)).size = es.size := by
    rw [← Array.length_toList, r1, many, ← r2.length_eq]; unfold rowsOf; rw [List.length_map]
  have cap := hM.hi
  rw [setRelay_eq]
  refine wpAny_bind (wpAny_setState_of ho hd fits ?_)
  dsimp only
  refine wp_if_neg (by rw [hw, sizeLine_eq]; omega) ?_
  try refine wpAny_bind (wpAny_pure ?_)
  rw [e]
  dsimp only
  refine wpAny_bind (wp_if_neg (by rw [len2]; simp) ?_)
  try refine wpAny_bind (wpAny_pure ?_)
  refine wpAny_pure ?_
  dsimp only
  refine wpAny_storeSet_of ho hd (hQ _ L2' (order.filterMap (es[·]?)) (ep + 1) t' (Heap.SameBut.update ..) ⟨⟨_, store_at ho hd, ⟨hex.1, hex.2.1, hex.2.2⟩, rfl⟩, r1, T', (r2.map Prod.snd).nodup_iff.mpr nd, fun p hp => isT_same (tup p (r2.mem_iff.mp hp)) ho hd (Heap.SameBut.update ..), by rw [ep']; exact pl, by rw [el]; exact ld, by rw [r2.length_eq, em]; exact hn, by rw [r2.length_eq]; exact few⟩ r2) (by rw [len2, many, sizeLine_eq]; omega)
/-- one is added -/
theorem SetG.add (R : SetG P w s.heap a L es ep t) {x : Addr} {k : List Int} (hx : IsT P w s.heap k x) (hu : A.units < cLine) (few : L.length + 1 < 300) {Q : Bool → Shared → Prop}
    (hQ : ∀ b h' L' es' ep' t', Heap.SameBut a s.heap h' → SetG P w h' a L' es' ep' t' → (k ∈ L.map Prod.snd → L' = L) → (k ∉ L.map Prod.snd → L'.Perm ((x, k) :: L)) → Q b { s with heap := h' }) :
    wpAny (model P w) A (setAddHashed a (.ref x) (thash P w k)) Q E s := by
  obtain ⟨o, ho, hex, hd⟩ := R.ob
  have many := R.many
  have room := R.room
  unfold setAddHashed
  refine wpAny_holding ?_
  rw [show (100000 : Nat) = 99999 + 1 from rfl, setAddHashedIn_succ]
  refine wpAny_bind (wpAny_setState_of ho hd R.fits ?_)
  dsimp only
  refine wp_if_neg (by simp [byScan, Value.scannable]) ?_
  try refine wpAny_bind (wpAny_pure ?_)
  refine wpAny_bind (R.search hx hu (fun hm => wpAny_pure (hQ false s.heap L es ep t (Heap.SameBut.refl a s.heap) R (fun _ => rfl) fun z => absurd hm z)) fun K hm gap full => ?_)
  dsimp only
  refine wpAny_bind (wpAny_setState_of ho hd R.fits ?_)
  dsimp only
  generalize ej : way t.mask (thash P w k) K = j
  generalize eb : SetTable.below t.place j = b
  obtain ⟨b1, b2, T1, m1, l1, p1, f1⟩ := R.tab.put gap full ej.symm eb.symm
  rw [List.length_map] at f1
  generalize hpt : t.put j = pt at b2 T1 m1 l1 p1 f1 ⊢
  obtain ⟨t1, b'⟩ := pt
  dsimp only at b2 T1 m1 l1 p1 f1 ⊢
  subst b2
  have pl1 : t1.plain = true := by rw [p1]; exact R.plain
  first
    | (refine wpAny_bind ?_; refine wp_if_pos pl1 ?_; refine hashBy_tup hx ?_)
    | refine wp_if_pos pl1 (wpAny_bind (hashBy_tup hx ?_))
  simp only [if_true]
  have ins : (SetTable.insertAt es b' (thash P w k, Value.ref x)).toList = rowsOf P w (L.take b' ++ (x, k) :: L.drop b') := by rw [SetTable.toList_insertAt, rows_put, R.rows]
  have pm := put_perm L b' (x, k)
  have len1 : (L.take b' ++ (x, k) :: L.drop b').length = L.length + 1 := pm.length_eq
  rw [show (L.map fun p => thash P w p.2).take b' ++ thash P w k :: (L.map fun p => thash P w p.2).drop b' = (L.take b' ++ (x, k) :: L.drop b').map fun p => thash P w p.2 by rw [List.map_append, List.map_cons, List.map_take, List.map_drop]] at T1
  have nd1 : ((L.take b' ++ (x, k) :: L.drop b').map Prod.snd).Nodup := (pm.map Prod.snd).nodup_iff.mpr (by rw [List.map_cons]; exact List.nodup_cons.mpr ⟨hm, R.nd⟩)
  have es1 : (SetTable.insertAt es b' (thash P w k, Value.ref x)).size = L.length + 1 := by rw [← Array.length_toList, ins]; unfold rowsOf; rw [List.length_map, len1]
  generalize SetTable.insertAt es b' (thash P w k, Value.ref x) = en at ins es1 ⊢
  generalize L.take b' ++ (x, k) :: L.drop b' = L1 at pm len1 T1 nd1 ins
  refine wpAny_bind (wpAny_storeSet_of ho hd ?_ (by rw [es1, sizeLine_eq]; omega))
  have sb : Heap.SameBut a s.heap (s.heap.update a (Obj.putSet en t1)) := Heap.SameBut.update ..
  have ho1 := store_at (es' := en) (t' := t1) ho hd
  generalize s.heap.update a (Obj.putSet en t1) = h1 at sb ho1 ⊢
  have tup1 : ∀ p ∈ L1, IsT P w h1 p.2 p.1 := fun p hp => by
    rcases List.mem_cons.mp (pm.mem_iff.mp hp) with rfl | hp
    · exact isT_same hx ho hd sb
    · exact isT_same (R.tup p hp) ho hd sb
  have ld1 : w.params.followText "set-order" = true ∨ t1.led = true := by rw [l1]; exact R.led
  by_cases hf : t1.tooFull = true
  · first
      | (refine wpAny_bind ?_; refine wp_if_pos (by simp [hf]) ?_)
      | (refine wp_if_pos (by simp [hf]) ?_; refine wpAny_bind ?_)
    have brim : t.mask * 3 ≤ (L.length + 1) * 5 := by
      unfold SetTable.tooFull at hf
      rw [decide_eq_true_eq, f1, m1] at hf
      exact hf
    rw [many]
    have go : ∀ M, SetTable.sizeAbove (SetTable.grown (L.length + 1)) = M + 1 → Mt M → (L.length + 1) * 5 < M * 3 →
        wpAny (model P w) A (setRelay a (SetTable.grown (L.length + 1))) (fun _ s' => wpAny (model P w) A (pure true) Q E s') E { s with heap := h1 } := fun M g1 g2 g3 => by
      refine relay_set (s := { s with heap := h1 }) ho1 ⟨hex.1, hex.2.1, hex.2.2⟩ rfl ins T1 nd1 tup1 pl1 ld1 (by rw [len1]; exact few) (by rw [len1, m1]; omega) g1 g2 (by rw [len1]; exact g3) fun h2 L2' es2 ep2 t2 sb2 R2 pm2 => ?_
      exact wpAny_pure (hQ true h2 L2' es2 ep2 t2 (sb.trans sb2) R2 (fun z => absurd z hm) fun _ => pm2.trans pm)
    rcases R.tab.mt.is with e | e | e | e
    · have e2 : L.length = 4 := by omega
      exact go 31 (by rw [e2]; decide +kernel) (mt_old (.inr (.inl rfl))) (by omega)
    · have e2 : L.length = 18 := by omega
      exact go 127 (by rw [e2]; decide +kernel) (mt_old (.inr (.inr rfl))) (by omega)
    · have e2 : L.length = 76 := by omega
      exact go 511 (by rw [e2]; exact size77) mt511 (by omega)
    · omega
  · first
      | refine wp_if_neg (by simp [hf]) ?_
      | (refine wpAny_bind ?_; refine wp_if_neg (by simp [hf]) ?_; refine wpAny_pure ?_)
    refine wpAny_pure (hQ true h1 L1 en (ep + 1) t1 sb ⟨⟨_, ho1, ⟨hex.1, hex.2.1, hex.2.2⟩, rfl⟩, ins, T1, nd1, tup1, pl1, ld1, ?_, by rw [len1]; exact few⟩ (fun z => absurd z hm) fun _ => pm)
    unfold SetTable.tooFull at hf
    rw [decide_eq_true_eq, f1] at hf
    rw [len1]
    omega
end
end TG
end
section
set_option Elab.async false
set_option linter.all false
set_option maxRecDepth 100000
set_option maxHeartbeats 4000000
/-! {elt for a in .. for b in ..}: the set's kind is told by its first word and by what adding does -/
namespace TG
open PySem PySem.Spec PyProof.Rows L2
abbrev setC (elt t0 i0 t1 i1 : Expr) (scope : Scope) (pos : Pos) : Expr := .SetComp elt [⟨t0, i0, [], 0⟩, ⟨t1, i1, [], 0⟩] scope pos
section
variable {P : Program} {w : World} {A : Around} {R : Result → Shared → Prop} {s : Shared} {elt t0 i0 t1 i1 : Expr} {scope : Scope} {pos : Pos} {it acc : Value} {env : Env}
theorem turn_out : compTurn (setC elt t0 i0 t1 i1 scope pos) 0 it acc env = (do
      standAt i0.pos
      match ← pyNext it with
      | none => pure (.done .next)
      | some v =>
        letOwnedTupleGo t0 it v
        assign t0 env v
        let x ← eval i1 env
        standAt i1.pos
        let x ← foldedSetIterable i1 env x
        let _ ← runOwn (.compStart (setC elt t0 i0 t1 i1 scope pos) 1 (← holding [x] (pyIter x)) acc env) env
        again (.compLoop (setC elt t0 i0 t1 i1 scope pos) 0 it acc env)) := by rfl
theorem turn_in : compTurn (setC elt t0 i0 t1 i1 scope pos) 1 it acc env = (do
      standAt i1.pos
      match ← pyNext it with
      | none => pure (.done .next)
      | some v =>
        letOwnedTupleGo t1 it v
        assign t1 env v
        (do let y ← eval elt env; standAt elt.pos; let _ ← call (.builtin "set.add") [acc, y])
        again (.compLoop (setC elt t0 i0 t1 i1 scope pos) 1 it acc env)) := by rfl
/-- what a turn of the inner loop comes to -/
def InT (M : Model) (A : Around) (elt t1 : Expr) (it acc : Value) (env : Env) (stop : Shared → Prop) (next : Shared → Prop) (s : Shared) : Prop :=
  wpAny M A (pyNext it) (fun r sa => match r with
    | none => stop sa
    | some v => wpAny M A (letOwnedTupleGo t1 it v) (fun _ sb => wpAny M A (assign t1 env v) (fun _ sc => wpAny M A (eval elt env) (fun y sd => wpAny M A (call (.builtin "set.add") [acc, y]) (fun _ se => next se) (fun _ _ => False) sd) (fun _ _ => False) sc) (fun _ _ => False) sb) (fun _ _ => False) sa) (fun _ _ => False) s
theorem loop_in (J : Nat → Shared → Prop) (turn : ∀ n s, J n s → InT (model P w) A elt t1 it acc env (fun sa => R (.ok .next) sa) (fun se => ∃ m, m < n ∧ J m se) s) (n : Nat) (h : J n s) :
    codeAny (model P w) A (.compLoop (setC elt t0 i0 t1 i1 scope pos) 1 it acc env) R s := by
  refine codeAny_loop rfl J (fun n s hJ => ?_) n h
  show wpAny _ A ((compTurn (setC elt t0 i0 t1 i1 scope pos) 1 it acc env).onRaise (fun x => do noteFrame x env; theTreesLotGoes x)) _ _ s
  rw [turn_in]
  refine wpAny_noted (wpAny_bind (wpAny_standAt (wpAny_bind (wpAny_mono (turn n s hJ) (fun r sa ha => ?_) fun _ _ z => z.elim))))
  cases r with
  | none => exact wpAny_pure ha
  | some v =>
    refine wpAny_bind (wpAny_mono ha (fun _ sb hb => wpAny_bind (wpAny_mono hb (fun _ sc hc => ?_) fun _ _ z => z.elim)) fun _ _ z => z.elim)
    refine wpAny_bind (wpAny_bind (wpAny_mono hc (fun y sd hd => wpAny_bind (wpAny_standAt (wpAny_bind (wpAny_mono hd (fun _ se he => ?_) fun _ _ z => z.elim)))) fun _ _ z => z.elim))
    exact wpAny_pure (wpAny_pure ⟨rfl, he⟩)
def OutT (M : Model) (A : Around) (t0 i1 : Expr) (start : Value → Code) (it : Value) (env : Env) (stop : Shared → Prop) (next : Shared → Prop) (s : Shared) : Prop :=
  wpAny M A (pyNext it) (fun r sa => match r with
    | none => stop sa
    | some v => wpAny M A (letOwnedTupleGo t0 it v) (fun _ sb => wpAny M A (assign t0 env v) (fun _ sc => wpAny M A (eval i1 env) (fun x sd => wpAny M A (pyIter x) (fun jt se => codeAny M A (start jt) (fun r sf => match r with | .ok _ => next sf | .error _ => False) se) (fun _ _ => False) sd) (fun _ _ => False) sc) (fun _ _ => False) sb) (fun _ _ => False) sa) (fun _ _ => False) s
theorem loop_out (hs : ∀ x, foldedSetIterable i1 env x = pure x) (J : Nat → Shared → Prop)
    (turn : ∀ n s, J n s → OutT (model P w) A t0 i1 (fun jt => .compStart (setC elt t0 i0 t1 i1 scope pos) 1 jt acc env) it env (fun sa => R (.ok .next) sa) (fun se => ∃ m, m < n ∧ J m se) s) (n : Nat) (h : J n s) :
    codeAny (model P w) A (.compLoop (setC elt t0 i0 t1 i1 scope pos) 0 it acc env) R s := by
  refine codeAny_loop rfl J (fun n s hJ => ?_) n h
  show wpAny _ A ((compTurn (setC elt t0 i0 t1 i1 scope pos) 0 it acc env).onRaise (fun x => do noteFrame x env; theTreesLotGoes x)) _ _ s
  rw [turn_out]
  refine wpAny_noted (wpAny_bind (wpAny_standAt (wpAny_bind (wpAny_mono (turn n s hJ) (fun r sa ha => ?_) fun _ _ z => z.elim))))
  cases r with
  | none => exact wpAny_pure ha
  | some v =>
    refine wpAny_bind (wpAny_mono ha (fun _ sb hb => wpAny_bind (wpAny_mono hb (fun _ sc hc => ?_) fun _ _ z => z.elim)) fun _ _ z => z.elim)
    refine wpAny_bind (wpAny_mono hc (fun x sd hd => wpAny_bind (wpAny_standAt (wpAny_bind (wpAny_of_eq (hs x) (wpAny_bind (wpAny_holding (wpAny_mono hd (fun jt se he => ?_) fun _ _ z => z.elim))))))) fun _ _ z => z.elim)
    refine wpAny_bind (wpAny_runOwn ?_)
    rw [Around.mark_none]
    refine codeAny_mono he fun r sf hf => ?_
    cases r with
    | ok f => first | exact wpAny_pure ⟨rfl, hf⟩ | exact wpAny_bind (wpAny_pure (wpAny_pure ⟨rfl, hf⟩))
    | error e => exact hf.elim
/-- either way to begin -/
theorem start_of {k : Nat} (hk : k = 0 ∨ k = 1) (now : codeAny (model P w) A (.compLoop (setC elt t0 i0 t1 i1 scope pos) k it acc env) R s)
    (again : wpAny (model P w) A (pyIter it) (fun jt s' => codeAny (model P w) A (.compLoop (setC elt t0 i0 t1 i1 scope pos) k jt acc env) R s') (fun _ _ => False) s) :
    codeAny (model P w) A (.compStart (setC elt t0 i0 t1 i1 scope pos) k it acc env) R s := by
  refine codeAny_of_tree ?_
  show wpAny _ _ ((compStart (setC elt t0 i0 t1 i1 scope pos) k it acc env).onRaise (fun x => do noteFrame x env; standAt theWindowsPlace)) _ _ s
  refine wpAny_notedAt ?_
  unfold compStart
  rcases hk with rfl | rfl
  all_goals
    show wpAny _ _ (ask >>= _) _ _ s
    refine wpAny_bind (wpAny_askSetting (wpAny_ite ?_))
    split
    · first | exact wpAny_bind (wpAny_pure (wpAny_pure (And.intro rfl now))) | exact wpAny_pure (And.intro rfl now)
    · refine wpAny_bind (wpAny_rule ?_)
      exact wpAny_bind (wpAny_standAt (wpAny_bind (wpAny_mono again (fun jt s' z => wpAny_pure (And.intro rfl z)) fun _ _ z => z.elim)))
end

/-! ### as a rule of the layer -/
abbrev Adds := Addr → V → Hp → (Hp → Prop) → Prop
/-- what an added item does -/
def AddsOk (X : Cx) (ad : Adds) : Prop := ∀ (Y : Cx), Y.prog = X.prog → Y.w = X.w → Y.K = X.K → Y.A = X.A → ∀ (pins : List (Addr × Obj)) (s : Shared) (σ : L2.St) (H : Hp) (D : Addr) (y : V) (u : Value) (N : Hp → Prop), Inv Y pins σ H s → RelV y u → ad D y H N →
  wpAny (model X.prog X.w) X.A (call (.builtin "set.add") [.ref D, u]) (fun _ s' => ∃ H', Inv Y pins σ H' s' ∧ N H') (fun _ _ => False) s
def setO (w : World) : Obj := { cls := .type "set", dict := none, data := .set #[] 0 (.fresh 0 0 (!w.params.followText "set-order")) }
def NewOk (X : Cx) (em : Addr → HO) : Prop := ∀ (H : Hp) (h : Heap), ObjOk X.prog X.w H (h.push (setO X.w)) h.objs.size (em h.objs.size)
/-- the second source's own loop: from it N is reached -/
def Rest (ad : Adds) (g1 : TG) (te : TE) (vs1 : List Nat) (D : Addr) (N : Hp → Prop) (σ2 : L2.St) (J1 : It) (H4 : Hp) : Prop :=
  ∃ W1 : Nat → Nat → Hp → Prop, (∃ m, W1 0 m H4) ∧ ∀ j k H, W1 j k H → (J1.stop j H ∧ N H) ∨ (J1.go j H ∧ ∃ N1 : Hp → Prop, (∀ H', N1 H' → ∃ k', k' < k ∧ W1 (j + 1) k' H') ∧
    ∀ x H', J1.yld j H x H' → g1 x (wipe σ2 vs1) H' fun σ3 H5 => wipe σ3 vs1 = wipe σ2 vs1 ∧ te σ3 H5 fun y H6 => ad D y H6 N1)
def tSc2 (em : Addr → HO) (ad : Adds) (wi : TI) (g : TG) (wi1 : TI) (g1 : TG) (te : TE) (vs vs1 : List Nat) : TE := fun σ H Q => wi σ H fun J H1 => ∀ D, H1 D = none → ∃ W : Nat → Nat → Hp → Prop, (∃ m, W 0 m (upd H1 D (em D))) ∧ ∀ i m H, W i m H →
  (J.stop i H ∧ Q (.ref D) H) ∨ (J.go i H ∧ ∃ N : Hp → Prop, (∀ H', N H' → ∃ m', m' < m ∧ W (i + 1) m' H') ∧
    ∀ x H', J.yld i H x H' → g x (wipe σ vs) H' fun σ2 H2 => wipe σ2 vs = wipe σ vs ∧ wi1 σ2 H2 (Rest ad g1 te vs1 D N σ2))
section
variable {X : Cx}
theorem pins_keep {Y : Cx} {pins : List (Addr × Obj)} {σ : L2.St} {H' : Hp} {s7 s' : Shared} {fp : List Addr} (I : Inv Y (pins ++ pinsAt fp s7.heap) σ H' s') {b : Addr} {o : Obj} (hb : b ∈ fp) (e : s7.heap.get? b = some o) : s'.heap.get? b = some o ∧ H' b = none :=
  let z := I.pin (b, o) (List.mem_append_right _ (List.mem_append_right _ (mem_pinsAt hb e)))
  ⟨z.1, z.2.1⟩
/-- the inner loop -/
theorem inner {Y : Cx} {ad : Adds} (hY : Y.prog = X.prog ∧ Y.w = X.w ∧ Y.K = X.K ∧ Y.A = X.A) (hY2 : Y.calm = true) (add : AddsOk X ad) {elt t0 i0 t1 i1 : Expr} {scope : Scope} {pos : Pos} {g1 : TG} {te : TE} {vs1 : List Nat} {D : Addr} {N : Hp → Prop} {σ2 : L2.St} {pins : List (Addr × Obj)}
    (pg : PG Y t1 g1) (pe : PE Y elt te) {J1 : It} {H4 : Hp} {s : Shared} {it : Addr} {fp : List Addr} {tn : Nat → Heap → Prop} (I : Inv Y pins σ2 H4 s) (T : Turn Y.prog Y.w Y.K t1 J1 fp it tn) (st : tn 0 s.heap) (fo : ∀ b ∈ fp, FpOk Y pins H4 b) (h : Rest ad g1 te vs1 D N σ2 J1 H4)
    (hx : ∀ e s, ¬ Y.xe e s) :
    codeAny (model X.prog X.w) X.A (.compLoop (setC elt t0 i0 t1 i1 scope pos) 1 (.ref it) (.ref D) Y.env) (fun r s' => match r with | .ok _ => ∃ H', Inv Y pins (wipe σ2 vs1) H' s' ∧ N H' | .error _ => False) s := by
  obtain ⟨eP, ew, eK, eA⟩ := hY
  obtain ⟨W1, ⟨m1, w1⟩, turn⟩ := h
  have foN : ∀ {H' : Hp}, (∀ b ∈ fp, H' b = none) → ∀ b ∈ fp, FpOk Y pins H' b := fun hn b hb => ⟨hn b hb, (fo b hb).2⟩
  refine loop_in (fun k s' => ∃ j H', Inv Y pins (wipe σ2 vs1) H' s' ∧ tn j s'.heap ∧ (∀ b ∈ fp, H' b = none) ∧ W1 j k H') ?_ m1 ⟨0, H4, I.weak (wipe_length _ _) fun j v e => (wipe_some e).1, st, fun b hb => (fo b hb).1, w1⟩
  rintro k sa ⟨j, Ha, Ia, ta, na, wa⟩
  unfold InT
  rcases turn j k Ha wa with ⟨stop, fine⟩ | ⟨go, N1, hN1, step⟩
  · have d := T.done Y rfl rfl rfl hY2 j pins sa (wipe σ2 vs1) Ha (fun _ _ => False) Ia (foN na) ta stop
    rw [eP, ew, eA] at d
    exact thn d fun r sb ⟨hr, Ib⟩ => by subst hr; exact ⟨Ha, Ib, fine⟩
  · have d := T.item Y rfl rfl rfl hY2 j pins sa (wipe σ2 vs1) Ha (fun _ _ => False) Ia (foN na) ta go
    rw [eP, ew, eA] at d
    refine thn d fun r sb ⟨u, hr, hb⟩ => ?_
    subst hr
    refine thn hb fun _ sc ⟨x, Hc, Ic, rc, yc, tc, nc⟩ => ?_
    have Ic' := Ic.pinned (foN nc) (T.obj _ _ tc)
    have q := pg.run _ sc (wipe σ2 vs1) Hc x u _ Ic' rc (step x Hc yc)
    rw [eP, ew, eA] at q
    refine wpAny_mono q (fun _ sd ⟨σd, Hd, Id, hwd, qd⟩ => ?_) fun e s z => hx e s z
    have qe0 := pe.run _ sd σd Hd _ Id qd
    rw [eP, ew, eA] at qe0
    refine wpAny_mono qe0 (fun v se ⟨y, He, Ie, re, qe⟩ => ?_) fun e s z => hx e s z
    refine thn (add Y eP ew eK eA _ se σd He D y v N1 Ie re qe) fun _ sf ⟨Hf, If, nf⟩ => ?_
    obtain ⟨k', hk, wf⟩ := hN1 Hf nf
    refine ⟨k', hk, j + 1, Hf, If.unpinned.weak (by rw [← hwd, wipe_length]) (fun i v e => by rw [← hwd] at e; exact (wipe_some e).1), T.keep _ _ _ tc fun b hb o e => (pins_keep If hb e).1, fun b hb => ?_, wf⟩
    obtain ⟨o, e, _⟩ := T.obj _ _ tc b hb
    exact (pins_keep If hb e).2

theorem sc2_core {em : Addr → HO} {ad : Adds} (new : NewOk X em) (add : AddsOk X ad) {pins : List (Addr × Obj)} {s : Shared} {σ : L2.St} {H : Hp} {Q : VK} {elt t0 i0 t1 i1 : Expr} {scope : Scope} {own : List (PySem.Str × Nat)} {vs1 : List Nat} {pos pos' : Pos} {wi wi1 : TI} {g g1 : TG} {te : TE} {use : Option (Value → Sem Unit)} {Qf : Value → Shared → Prop}
    (hc : X.calm = true) (hN : X.N.Nodup) (I : Inv X pins σ H s) (hi : PI X t0 i0 wi) (ok : BlkOk X.N X.env.scope scope own) (hv : ∀ i ∈ vs1, i ∈ own.map (·.2))
    (hg : ∀ (s : Shared) (H : Hp) (C : Addr) (cl : List (PySem.Str × Addr)) (fp : List Addr), PG (X.blk s H scope (compEnvC scope cl C X.env) fp) t0 g)
    (he : ∀ (s : Shared) (H : Hp) (C : Addr) (cl : List (PySem.Str × Addr)) (fp : List Addr), PE (X.blk s H scope (compEnvC scope cl C X.env) fp) elt te)
    (hi1 : ∀ (s : Shared) (H : Hp) (C : Addr) (cl : List (PySem.Str × Addr)) (fp : List Addr), PI (X.blk s H scope (compEnvC scope cl C X.env) fp) t1 i1 wi1)
    (hg1 : ∀ (s : Shared) (H : Hp) (C : Addr) (cl : List (PySem.Str × Addr)) (fp : List Addr), PG (X.blk s H scope (compEnvC scope cl C X.env) fp) t1 g1)
    (hs : ∀ x, foldedSetIterable i0 X.env x = pure x) (hs1 : ∀ env x, foldedSetIterable i1 env x = pure x) (h : tSc2 em ad wi g wi1 g1 te (own.map (·.2)) vs1 σ H Q)
    (back : ∀ D C s' m H', Inv X pins σ H' s' → Q (.ref D) H' → s'.heap.Ns C m → FpOk X pins H' C → compPost (model X.prog X.w) X.A X.xe use Qf (.ref D) C (.ok .next) s') :
    wpAny (model X.prog X.w) X.A (comprehension (setC elt t0 i0 t1 i1 scope pos) scope X.env pos' (newSet (.type "set")) false (eval i0 X.env) use) Qf X.xe s := by
  have clo : ∀ y ∈ scope.names, y.2 = .free → ∃ c, X.env.cells.lookup y.1 = some c := fun y hy e => (ok.free y hy e).elim (fun k => I.ok.has _ (.inl k)) fun k => I.ok.has _ (.inr k)
  refine wpAny_comprehension_free (use := use) rfl hs (closure_ok clo) ok.kind (fun y hy e => by rw [ok.uniq y hy, e]) (thn (hi.run pins s σ H _ I h) fun xv sa hx => thn hx fun itv sb hb => ?_)
  obtain ⟨it, fp, tn, J, Hb, rfl, Ib, T, tb, fb, q⟩ := hb
  refine PpSet.newSet_ok (newEnv_comp ?_)
  obtain ⟨D, hD⟩ : ∃ D, D = sb.heap.objs.size := ⟨_, rfl⟩
  obtain ⟨W, ⟨m0, w0⟩, turn⟩ := q D (Ib.hok.fresh (Nat.le_of_eq hD.symm))
  rw [← hD]
  obtain ⟨sc, hsc⟩ : ∃ sc : Shared, sc = { sb with heap := sb.heap.push (setO X.w) } := ⟨_, rfl⟩
  have kc : ∀ b o, sb.heap.get? b = some o → sc.heap.get? b = some o := fun b o e => by rw [hsc]; exact Heap.get?_push_of_some _ e
  have Ic : Inv X pins σ (upd Hb D (em D)) sc := by
    rw [hsc, hD]
    exact Ib.laid (t' := sb.toks) (fun b o e => Heap.get?_push_of_some _ e) (Nat.le_refl _) (new _ _)
  have szc : sc.heap.objs.size = D + 1 := by rw [hsc, hD]; exact Heap.size_push _ _
  have below : ∀ b ∈ fp, b < D := fun b hb => by
    obtain ⟨o, e, _⟩ := T.obj _ _ tb b hb
    rw [hD]; exact Heap.lt_size e
  have fc : ∀ b ∈ fp, FpOk X pins (upd Hb D (em D)) b ∧ b < sc.heap.objs.size := fun b hb => by
    have lt := below b hb
    exact ⟨⟨by rw [upd_ne (Nat.ne_of_lt lt)]; exact (fb b hb).1, (fb b hb).2⟩, by rw [szc]; exact Nat.lt_succ_of_lt lt⟩
  have tc : tn 0 sc.heap := T.keep _ _ _ tb fun b _ o e => kc b o e
  obtain ⟨Hc, hHc⟩ : ∃ Hc, Hc = upd Hb D (em D) := ⟨_, rfl⟩
  rw [← hHc] at Ic fc w0
  have Id := block_start Ic ok hN fc
  obtain ⟨L, hL⟩ : ∃ L, L = sc.heap.objs.size := ⟨_, rfl⟩
  obtain ⟨ce, hce⟩ : ∃ ce, ce = compEnvC scope (cellsFrom (sc.heap.objs.size + 1) scope.names (cloFrom X.env.cells scope.names [])) sc.heap.objs.size X.env := ⟨_, rfl⟩
  obtain ⟨sd, hsd⟩ : ∃ sd : Shared, sd = { sc with heap := pushCells (sc.heap.push { cls := .type "dict", data := .dict #[] }) scope.names } := ⟨_, rfl⟩
  have pg := hg sc Hc sc.heap.objs.size (cellsFrom (sc.heap.objs.size + 1) scope.names (cloFrom X.env.cells scope.names [])) fp
  have pe := he sc Hc sc.heap.objs.size (cellsFrom (sc.heap.objs.size + 1) scope.names (cloFrom X.env.cells scope.names [])) fp
  have pi1 := hi1 sc Hc sc.heap.objs.size (cellsFrom (sc.heap.objs.size + 1) scope.names (cloFrom X.env.cells scope.names [])) fp
  have pg1 := hg1 sc Hc sc.heap.objs.size (cellsFrom (sc.heap.objs.size + 1) scope.names (cloFrom X.env.cells scope.names [])) fp
  rw [← hce] at Id pg pe pi1 pg1
  rw [← hsd] at Id
  have cL : ce.locals = L := by rw [hce, hL]; rfl
  suffices go : codeAny (model X.prog X.w) X.A (.compStart (setC elt t0 i0 t1 i1 scope pos) 0 (.ref it) (.ref D) ce) (compPost (model X.prog X.w) X.A X.xe use Qf (.ref D) L) sd by
    rw [hce, hL, hsd, hsc] at go
    exact go
  have td : tn 0 sd.heap := T.keep _ _ _ tc fun b _ o e => by rw [hsd]; exact pushCells_keeps _ _ _ _ (Heap.get?_push_of_some _ e)
  have foB : ∀ {σ' : L2.St} {H' : Hp} {s' : Shared}, Inv (X.blk sc Hc scope ce fp) [] σ' H' s' → (∀ b ∈ fp, H' b = none) → ∀ b ∈ fp, FpOk (X.blk sc Hc scope ce fp) [] H' b := fun {σ' H' s'} I' hn b hb =>
    ⟨hn b hb, (I'.ok.exf b hb).1, I'.ok.exfs b hb, .inl hb, fun x c e => (I'.ok.exf b hb).2 x c e, fun p hp => absurd hp (by simp)⟩
  have xeB : ∀ e s, ¬ (X.blk sc Hc scope ce fp).xe e s := fun e s z => z
  have loop : codeAny (model X.prog X.w) X.A (.compLoop (setC elt t0 i0 t1 i1 scope pos) 0 (.ref it) (.ref D) ce) (compPost (model X.prog X.w) X.A X.xe use Qf (.ref D) L) sd := by
    refine loop_out (hs1 ce) (fun n s' => ∃ i H', Inv (X.blk sc Hc scope ce fp) [] (wipe σ (own.map (·.2))) H' s' ∧ tn i s'.heap ∧ (∀ b ∈ fp, H' b = none) ∧ W i n H') ?_ m0 ⟨0, Hc, Id, td, fun b hb => (fc b hb).1.1, w0⟩
    rintro n se ⟨i, He, Ie, te', ne, we⟩
    unfold OutT
    rcases turn i n He we with ⟨stop, fine⟩ | ⟨go, N, hN, step⟩
    · refine thn (T.done (X.blk sc Hc scope ce fp) rfl rfl rfl hc i [] se _ He (fun _ _ => False) Ie (foB Ie ne) te' stop) fun r sf ⟨hr, If⟩ => ?_
      subst hr
      have Ig : Inv X pins σ He sf := Ic.call' (ch := fp) If.os If.base If.hok If.bare fun b hb => ⟨(fc b hb).1.2.2.2.1, (fc b hb).1.2.1, (fc b hb).1.2.2.2.2.1, (fc b hb).1.2.2.2.2.2⟩
      have fr : He ce.locals = none := If.free
      obtain ⟨m, ns, _⟩ := If.loc
      have ns : sf.heap.Ns ce.locals m := ns
      rw [cL] at ns fr
      exact back D L sf m He Ig fine ns (Ic.fpOk (Nat.le_of_eq hL.symm) fr)
    · refine thn (T.item (X.blk sc Hc scope ce fp) rfl rfl rfl hc i [] se _ He (fun _ _ => False) Ie (foB Ie ne) te' go) fun r sf ⟨u, hr, hf⟩ => ?_
      subst hr
      refine thn hf fun _ sg ⟨x, Hg, Ig, rg, yg, tg', ng⟩ => ?_
      refine wpAny_mono (pg.run _ sg _ Hg x u _ (Ig.pinned (foB Ig ng) (T.obj _ _ tg')) rg (step x Hg yg)) (fun _ sh ⟨σh, Hh, Ih, wh, qh⟩ => ?_) fun e s z => z
      refine wpAny_mono (pi1.run _ sh σh Hh _ Ih qh) (fun xv sj hx => wpAny_mono hx (fun jtv sk hk => ?_) fun e s z => z) fun e s z => z
      obtain ⟨jt, fp1, tn1, J1, Hk, rfl, Ik, T1, tk, fk, rest⟩ := hk
      have inn := inner (X := X) (Y := X.blk sc Hc scope ce fp) ⟨rfl, rfl, rfl, rfl⟩ hc add (elt := elt) (t0 := t0) (i0 := i0) (i1 := i1) (scope := scope) (pos := pos) pg1 pe Ik T1 tk fk rest xeB
      have fin : ∀ sf, (∃ H', Inv (X.blk sc Hc scope ce fp) ([] ++ pinsAt fp sg.heap) (wipe σh vs1) H' sf ∧ N H') → ∃ m, m < n ∧ ∃ i H', Inv (X.blk sc Hc scope ce fp) [] (wipe σ (own.map (·.2))) H' sf ∧ tn i sf.heap ∧ (∀ b ∈ fp, H' b = none) ∧ W i m H' := fun sf ⟨H', I', nx⟩ => by
        obtain ⟨m', hm, w'⟩ := hN H' nx
        refine ⟨m', hm, i + 1, H', (I'.unpinned (pins := [])).weak ((congrArg List.length wh.symm).trans ((wipe_length _ _).trans (wipe_length _ _).symm)) (fun j v e => ?_), T.keep _ _ _ tg' fun b hb o e => (pins_keep I' hb e).1, fun b hb => ?_, w'⟩
        · rw [← wh] at e
          obtain ⟨e1, e2⟩ := wipe_some e
          rw [wipe_out fun z => e2 (hv j z)]
          exact e1
        · obtain ⟨o, e, _⟩ := T.obj _ _ tg' b hb
          exact (pins_keep I' hb e).2
      have inn' := codeAny_mono inn (R' := fun r sf => match r with | .ok _ => ∃ m, m < n ∧ ∃ i H', Inv (X.blk sc Hc scope ce fp) [] (wipe σ (own.map (·.2))) H' sf ∧ tn i sf.heap ∧ (∀ b ∈ fp, H' b = none) ∧ W i m H' | .error _ => False) fun r sf hr => by
        cases r with
        | ok f => exact fin sf hr
        | error e => exact hr
      exact start_of (.inr rfl) inn' (T1.self X.A 0 _ _ _ tk inn')
  exact start_of (.inl rfl) loop (T.self X.A 0 _ _ _ td loop)
/-- as a value -/
theorem pe_sc2 {em : Addr → HO} {ad : Adds} (new : NewOk X em) (add : AddsOk X ad) {elt t0 i0 t1 i1 : Expr} {scope : Scope} {own : List (PySem.Str × Nat)} {vs1 : List Nat} {pos : Pos} {wi wi1 : TI} {g g1 : TG} {te : TE}
    (hc : X.calm = true) (hN : X.N.Nodup) (hi : PI X t0 i0 wi) (ok : BlkOk X.N X.env.scope scope own) (hv : ∀ i ∈ vs1, i ∈ own.map (·.2))
    (hg : ∀ (s : Shared) (H : Hp) (C : Addr) (cl : List (PySem.Str × Addr)) (fp : List Addr), PG (X.blk s H scope (compEnvC scope cl C X.env) fp) t0 g)
    (hi1 : ∀ (s : Shared) (H : Hp) (C : Addr) (cl : List (PySem.Str × Addr)) (fp : List Addr), PI (X.blk s H scope (compEnvC scope cl C X.env) fp) t1 i1 wi1)
    (hg1 : ∀ (s : Shared) (H : Hp) (C : Addr) (cl : List (PySem.Str × Addr)) (fp : List Addr), PG (X.blk s H scope (compEnvC scope cl C X.env) fp) t1 g1)
    (he : ∀ (s : Shared) (H : Hp) (C : Addr) (cl : List (PySem.Str × Addr)) (fp : List Addr), PE (X.blk s H scope (compEnvC scope cl C X.env) fp) elt te)
    (hs : ∀ x, foldedSetIterable i0 X.env x = pure x := by intro _; rfl) (hs1 : ∀ env x, foldedSetIterable i1 env x = pure x := by intro _ _; rfl) :
    PE X (setC elt t0 i0 t1 i1 scope pos) (tSc2 em ad wi g wi1 g1 te (own.map (·.2)) vs1) := by
  refine ⟨fun pins s σ H Q I h => ?_⟩
  rw [PpSet.eval_SetComp]
  refine sc2_core new add hc hN I hi ok hv hg he hi1 hg1 hs hs1 h fun D C s' m H' I' q hn f => ⟨m, hn, fun h'' sb => ?_⟩
  obtain ⟨f0, f1, f2, f3, f4, f5⟩ := f
  exact ⟨.ref D, H', I'.turned (t' := s'.toks) (fun b o hb e => (sb.2 b hb).trans e) f0 f1 f3 f4 f5, rfl, q⟩
end
end TG
end
section
set_option Elab.async false
set_option linter.all false
set_option maxRecDepth 100000
set_option maxHeartbeats 4000000
/-! the set of tuples as a tracked thing; sorted of it -/
namespace TG
open PySem PySem.Spec PyProof.Rows L2
def SetG0 (P : Program) (w : World) (a : Addr) (L : List (Addr × List Int)) (h : Heap) : Prop := ∃ (es : Array (Int × Value)) (ep : Nat) (t : SetTable), (∃ o, h.get? a = some o ∧ o.ExactSet ∧ o.data = .set es ep t) ∧ es.toList = rowsOf P w L ∧
  Tab t (L.map fun p => thash P w p.2) ∧ (L.map Prod.snd).Nodup ∧ t.plain = true ∧ (w.params.followText "set-order" = true ∨ t.led = true) ∧ L.length * 5 < t.mask * 3 ∧ L.length < 300
def SetGO (P : Program) (w : World) (a : Addr) (L : List (Addr × List Int)) : HO := .ext (SetG0 P w a L)
theorem SetG.bare {P : Program} {w : World} {h : Heap} {a : Addr} {L : List (Addr × List Int)} {es : Array (Int × Value)} {ep : Nat} {t : SetTable} (R : SetG P w h a L es ep t) : SetG0 P w a L h := ⟨es, ep, t, R.ob, R.rows, R.tab, R.nd, R.plain, R.led, R.room, R.few⟩
theorem SetG0.full {P : Program} {w : World} {h : Heap} {a : Addr} {L : List (Addr × List Int)} (R : SetG0 P w a L h) (ht : ∀ p ∈ L, IsT P w h p.2 p.1) : ∃ es ep t, SetG P w h a L es ep t := by
  obtain ⟨es, ep, t, h1, h2, h3, h4, h5, h6, h7, h8⟩ := R
  exact ⟨es, ep, t, h1, h2, h3, h4, ht, h5, h6, h7, h8⟩
theorem setGO_ok {P : Program} {w : World} {H : Hp} {h : Heap} {a : Addr} {L : List (Addr × List Int)} (R : SetG0 P w a L h) : ObjOk P w H h a (SetGO P w a L) := by
  obtain ⟨es, ep, t, ⟨o, ho, r⟩, q⟩ := id R
  refine ⟨R, ⟨o, ho⟩, fun h1 h2 p k => ?_⟩
  obtain ⟨es', ep', t', ⟨o', ho', r'⟩, q'⟩ := p
  exact ⟨es', ep', t', ⟨o', k o' ho', r'⟩, q'⟩
section
variable {X : Cx}
theorem setG_new : NewOk X (fun D => SetGO X.prog X.w D []) := fun H h => setGO_ok (by
  refine ⟨#[], 0, .fresh 0 0 (!X.w.params.followText "set-order"), ⟨_, Heap.get?_push_size _ rfl, ⟨rfl, rfl, rfl⟩, rfl⟩, rfl, ⟨List.Pairwise.nil, rfl, rfl, mt_old (.inl rfl), fun x hx => (by cases hx), fun i h j hi => (by simp at hi)⟩, List.nodup_nil, rfl, ?_, by show 0 * 5 < 7 * 3; decide, by show 0 < 300; decide⟩
  show _ ∨ (!X.w.params.followText "set-order") = true
  cases X.w.params.followText "set-order" <;> simp)
/-- adding a tuple of ints -/
def adT (X : Cx) : Adds := fun D y H N => ∃ (L : List (Addr × List Int)) (x : Addr) (k : List Int), H D = some (SetGO X.prog X.w D L) ∧ (∀ p ∈ L, SqT X.K H p.1 (p.2.map V.int)) ∧ y = .ref x ∧ SqT X.K H x (k.map V.int) ∧ L.length + 1 < 300 ∧
  ∀ L', (k ∈ L.map Prod.snd → L' = L) → (k ∉ L.map Prod.snd → L'.Perm ((x, k) :: L)) → N (upd H D (SetGO X.prog X.w D L'))
theorem adT_ok (hu : X.A.units + 8 < cLine) : AddsOk X (adT X) := by
  intro Y eP ew eK eA pins s σ H D y u N I r h
  obtain ⟨L, x, k, hD, hL, rfl, hx, few, q⟩ := h
  obtain rfl : u = Value.ref x := r
  have R0 : SetG0 X.prog X.w D L s.heap := by have z := I.hok D _ hD; rw [eP, ew] at z; exact z.1
  have hT : ∀ b k, SqT X.K H b (List.map V.int k) → IsT X.prog X.w s.heap k b := fun b k z => by
    have z' := I.isT (b := b) (k := k) (by rw [eK]; exact z)
    rw [eP, ew] at z'; exact z'
  obtain ⟨es, ep, t, R⟩ := R0.full fun p hp => hT _ _ (hL p hp)
  obtain ⟨oD, hoD, hcD, hdD⟩ := R.ob
  refine wpAny_call_entry PySem.F.slot_set_add ⟨_, hoD, hcD.1⟩ PySem.F.entry_set_add ?_ (PySem.F.args_set_add_2 _ _)
  unfold Builtin.«set.add» Builtin.Frozenset.oneOther
  simp only [List.isEmpty_nil, bind_assoc]
  unfold Builtin.Frozenset.addrOf setAdd
  refine wpAny_bind (wpAny_pure ?_)
  try dsimp only
  refine wpAny_bind (wpAny_pure ?_)
  try dsimp only
  refine wpAny_bind (wpAny_holding (wpAny_bind (wpAny_pyHash_tuple (by show X.A.units + 1 < cLine; omega) (hT _ _ hx) ?_)))
  refine SetG.add (s := { s with toks := s.toks + (k.length + 1) }) R (hT _ _ hx) (by show X.A.units + 1 < cLine; omega) few fun b h' L' es' ep' t' sb R' c1 c2 => ?_
  show wpAny _ _ (ret Value.none) _ _ _
  refine wpAny_pure ⟨_, rfl, upd H D (SetGO X.prog X.w D L'), ?_, q L' c1 c2⟩
  refine I.write (e := D) (t' := s.toks + (k.length + 1)) (by rw [hD]; trivial) (.inl rfl) (fun b u hb hu => (sb.2 b hb).trans hu) ?_ ?_
  · obtain ⟨o', ho', _⟩ := R'.ob; exact ⟨o', ho'⟩
  · rw [eP, ew]; exact setGO_ok R'.bare
/-! ### sorted -/
theorem tups_sortable {prog : Program} {w : World} {A : Around} {s : Shared} {a : Addr} {d : Nat} {B : Int} {vs : List Value} (hd : 1 ≤ d) (h0 : 0 < vs.length) (x : TS.TupsOk s.heap d B vs) (ha : ∀ o, s.heap.get? a = some o → o.cls ≠ .type "tuple") :
    SrtO.SortableO prog w A s a vs fun v u => decide (TS.code B (TS.intsOf s.heap v) < TS.code B (TS.intsOf s.heap u)) := by
  intro h' keep
  have kt : ∀ b o, s.heap.get? b = some o → o.cls = .type "tuple" → h'.get? b = some o := fun b o e c => keep b o (fun z => by subst z; exact ha o e c) e
  obtain ⟨fs, k, hl, hi⟩ := TS.firsts_of hd vs (x.keeps kt)
  refine ⟨tuples' true, fun Q E hq => ?_, fun p q hp hq => ?_⟩
  · refine PySem.W.kat_kind (T := Value.type "int") k (by omega) (fun f hf => ?_) rfl ?_
    · obtain ⟨n, t, rfl⟩ := hi f hf
      exact PySem.W.Looks.of_pure rfl
    · have e : (Value.type "int" != Value.type "tuple") = true := by first | decide +kernel | rfl | decide
      rw [e]; exact hq
  · obtain ⟨ns, tp, lp, bp⟩ := x _ hp
    obtain ⟨ms, tq, lq, bq⟩ := x _ hq
    have tp' := tp.keeps kt
    have tq' := tq.keeps kt
    have en := tp.ints
    have em := tq.ints
    obtain ⟨b, xs, e1, ⟨o, ho, hc, n, hdt⟩, i1⟩ := tp'
    obtain ⟨c, ys, e2, ⟨o', ho', hc', n', hdt'⟩, i2⟩ := tq'
    show wpAny (model prog w) A (keyLt' (tuples' true) p.1 q.1) (fun r s' => s' = _ ∧ r = decide (TS.code B (TS.intsOf s.heap p.1) < TS.code B (TS.intsOf s.heap q.1))) (fun _ _ => False) _
    rw [en, em, e1, e2]
    refine PySem.W.kat_lt ho hdt ho' hdt' ?_
    have sz : decide (xs.size < ys.size) = false := by
      have l1 := i1.length
      have l2 := i2.length
      rw [Array.length_toList] at l1 l2
      exact decide_eq_false (by omega)
    rw [sz]
    exact TS.lex_ints 0 i1 i2 (by omega) bp bq ⟨rfl, rfl⟩
theorem swo_by (r : Value → Int) : SrtO.Swo fun v u => decide (r v < r u) := ⟨fun x y h => by have := of_decide_eq_true h; exact decide_eq_false (by omega), fun x y z h1 h2 => by have a := of_decide_eq_false h1; have b := of_decide_eq_false h2; exact decide_eq_false (by omega)⟩
end
section
variable {P : Program} {w : World} {A : Around} {E : Value → Shared → Prop} {s : Shared} {a : Addr} {L : List (Addr × List Int)} {es : Array (Int × Value)} {ep : Nat} {t : SetTable}
theorem refs_in : ∀ {vs : List Value}, (∀ v ∈ vs, ∃ q ∈ L, v = Value.ref q.1) → ∃ M : List (Addr × List Int), vs = M.map (fun q => Value.ref q.1) ∧ ∀ q ∈ M, q ∈ L
  | [], _ => ⟨[], rfl, fun q hq => by cases hq⟩
  | v :: vs, h => by
    obtain ⟨q, hq, rfl⟩ := h v List.mem_cons_self
    obtain ⟨M, rfl, hM⟩ := refs_in fun u hu => h u (List.mem_cons_of_mem _ hu)
    exact ⟨q :: M, rfl, fun r hr => (List.mem_cons.mp hr).elim (fun z => z ▸ hq) (hM r)⟩
theorem SetG.one (R : SetG P w s.heap a L es ep t) {q r : Addr × List Int} (hq : q ∈ L) (hr : r ∈ L) (e : q.1 = r.1) : q = r := by
  have a1 := R.tup q hq
  rw [e] at a1
  exact Prod.ext e (a1.inj (R.tup r hr))
theorem SetG.perm (R : SetG P w s.heap a L es ep t) {M : List (Addr × List Int)} (hM : ∀ q ∈ M, q ∈ L) (pm : (M.map fun q => Value.ref q.1).Perm (L.map fun q => Value.ref q.1)) : M.Perm L := by
  have nL : L.Nodup := nodup_of_map R.nd
  have nref : (L.map fun q => Value.ref q.1).Nodup := List.pairwise_map.mpr (nL.imp_of_mem fun {q r} hq hr ne e => ne (R.one hq hr (Value.ref.inj e)))
  refine (List.perm_ext_iff_of_nodup (nodup_of_map (pm.nodup_iff.mpr nref)) nL).mpr fun q => ⟨hM q, fun hq => ?_⟩
  obtain ⟨r, hr, e⟩ := List.mem_map.mp (pm.mem_iff.mpr (List.mem_map.mpr ⟨q, hq, rfl⟩))
  rw [← R.one (hM r hr) hq (Value.ref.inj e)]
  exact hr
theorem SetG.sorted (R : SetG P w s.heap a L es ep t) (hh : A.handled = none) {d : Nat} {B : Int} (hd1 : 1 ≤ d) (hB : ∀ p ∈ L, p.2.length = d ∧ TS.Bd B p.2) {Q : Value → Shared → Prop}
    (hQ : ∀ s' p (out : Array Value) (c : Nat) (M : List (Addr × List Int)), (∀ b o, s.heap.get? b = some o → s'.heap.get? b = some o) → s'.gens = s.gens → s'.os = s.os → s.heap.objs.size ≤ p →
      s'.heap.get? p = some (seqObj "list" out c) → out.toList = M.map (fun q => Value.ref q.1) → M.Perm L → M.Pairwise (fun q r => TS.code B q.2 ≤ TS.code B r.2) → Q (.ref p) s') :
    wpAny (model P w) A (call (.builtin "sorted") [.ref a]) Q E s := by
  obtain ⟨o, ho, hex, hd⟩ := R.ob
  have many := R.many
  have few := R.few
  refine Calls.call_function_entry kind_sorted plain_sorted entry_sorted (args_sorted1 _) ?_
  unfold Builtin.«sorted»
  refine wpAny_bind (m := checkCount "sorted" 1 1 _) (wpAny_pure ?_)
  refine wpAny_bind (collect_set (A := A.in1) hh ⟨o, ho, hex.1, hd⟩ R.fits (by unfold scanBound; omega) R.tab.ris R.led fun sa vs ka za ga oa pm => ?_)
  have hes : es.toList.map (·.2) = L.map fun q => Value.ref q.1 := by rw [R.rows]; unfold rowsOf; rw [List.map_map]; rfl
  rw [hes] at pm
  have lv : vs.length = L.length := by rw [pm.length_eq, List.length_map]
  refine wpAny_bind (wpAny_newList ?_ (by rw [sizeLine_eq]; omega))
  obtain ⟨sb, hsb⟩ : ∃ sb : Shared, sb = { sa with heap := sa.heap.push (seqObj "list" vs.toArray 0) } := ⟨_, rfl⟩
  have hoL : sb.heap.get? sa.heap.objs.size = some (seqObj "list" vs.toArray 0) := by rw [hsb]; exact Heap.get?_push_size _ rfl
  have kb : ∀ b u, s.heap.get? b = some u → sb.heap.get? b = some u := fun b u e => by rw [hsb]; exact Heap.get?_push_of_some _ (ka b u e)
  have tk : ∀ q ∈ L, TS.TupInts sb.heap (.ref q.1) q.2 := fun q hq => tupInts_of (P := P) (w := w) (isT_keep (R.tup q hq) kb)
  have x : TS.TupsOk sb.heap d B vs := fun v hv => by
    obtain ⟨q, hq, rfl⟩ := List.mem_map.mp (pm.mem_iff.mp hv)
    exact ⟨q.2, tk q hq, (hB q hq).1, (hB q hq).2⟩
  suffices go : wpAny (model P w) A.in1 (call (.builtin "list.sort") [.ref sa.heap.objs.size]) (fun _ s' => wpAny (model P w) A.in1 (ret (.ref sa.heap.objs.size)) (fun v s' => ∃ u, v = .done (.ret u) ∧ Q u s') E s') E sb by
    rw [hsb] at go
    exact wpAny_bind (wpAny_holding go)
  refine wpAny_call_entry slot_list_sort ⟨_, hoL, rfl⟩ entry_list_sort ?_ (args_list_sort _)
  refine SrtO.list_sort_ord (swo_by fun v => TS.code B (TS.intsOf sb.heap v)) hoL (by rw [lv, sizeLine_eq]; omega) (fun h2 => tups_sortable hd1 (by omega) x fun o e c => ?_) fun out h1 h2 => ?_
  · rw [hoL] at e; cases e
    exact absurd (Value.type.inj c) (by decide)
  · refine ⟨_, rfl, ?_⟩
    obtain ⟨c, hc⟩ := sortedHeap_at (vs := vs) (out := out.toArray) hoL
    obtain ⟨M, eM, hM⟩ := refs_in (L := L) (vs := out) fun v hv => by
      obtain ⟨q, hq, e⟩ := List.mem_map.mp (pm.mem_iff.mp (h2.perm.mem_iff.mp hv))
      exact ⟨q, hq, e.symm⟩
    have pM : M.Perm L := R.perm hM (by rw [← eM]; exact h2.perm.trans pm)
    have up : M.Pairwise (fun q r => TS.code B q.2 ≤ TS.code B r.2) := by
      have h1' : List.Pairwise (fun v u => decide (TS.code B (TS.intsOf sb.heap u) < TS.code B (TS.intsOf sb.heap v)) = false) out := h1
      rw [eM] at h1'
      refine (List.pairwise_map.mp h1').imp_of_mem fun {q r} hq hr le => ?_
      rw [(tk q (hM q hq)).ints, (tk r (hM r hr)).ints] at le
      exact Int.not_lt.mp (of_decide_eq_false le)
    refine wpAny_pure ⟨_, rfl, hQ _ sa.heap.objs.size out.toArray c M (fun b u e => ?_) ?_ ?_ za hc (by simpa using eM) pM up⟩
    · have lt := Heap.lt_size (ka b u e)
      show (sortedHeap sb.heap sa.heap.objs.size vs out.toArray).get? b = some u
      rw [sortedHeap_old (Nat.ne_of_lt lt) (by rw [hsb]; show b < (sa.heap.push _).objs.size; rw [Heap.size_push]; exact Nat.lt_succ_of_lt lt)]
      exact kb b u e
    · show sb.gens = _; rw [hsb]; exact ga
    · show sb.os = _; rw [hsb]; exact oa
end
section
variable {X : Cx}
/-- sorted(set), the tuples of d ints in [0, B): a new list -/
def rSortG (X : Cx) (d : Nat) (B : Int) : List V → Hp → VK → Prop := fun vs H Q => ∃ (a : Addr) (L : List (Addr × List Int)), vs = [V.ref a] ∧ H a = some (SetGO X.prog X.w a L) ∧ (∀ p ∈ L, SqT X.K H p.1 (p.2.map V.int)) ∧ (∀ p ∈ L, p.2.length = d ∧ TS.Bd B p.2) ∧
  ∀ (M : List (Addr × List Int)) (p : Addr), M.Perm L → (M.map Prod.snd).Nodup → M.length < 300 → M.Pairwise (fun q r => TS.code B q.2 ≤ TS.code B r.2) → H p = none → Q (.ref p) (upd H p (.lst (M.map fun q => V.ref q.1)))
theorem cr_sortG {d : Nat} {B : Int} (hc : X.calm = true) (hd : 1 ≤ d) : CallR X (.builtin "sorted") (rSortG X d B) := by
  intro pins s σ H vs us Q I r h
  obtain ⟨a, L, rfl, ha, hk, hB, q⟩ := h
  obtain ⟨es, ep, t, R⟩ := (show SetG0 X.prog X.w a L s.heap from (I.hok a _ ha).1).full fun p hp => I.isT (hk p hp)
  rw [Vals.ref1 r]
  refine R.sorted (I.ok.hd hc) hd hB fun s' p out c M k g o hp hg hout pm up => ?_
  have few : M.length < 300 := by rw [pm.length_eq]; exact R.few
  have hn : H p = none := I.hok.fresh hp
  refine ⟨.ref p, upd H p (.lst (M.map fun q => V.ref q.1)), I.call' (ch := []) o (Un.laid k hp hn) (I.hok.laid k hp ⟨by rw [List.length_map, sizeLine_eq]; omega, out.toList, c, by rw [hout]; exact vals_of_refs M, hg⟩) (by rw [g]; exact I.bare) (fun _ z => nomatch z), rfl, q M p pm ((pm.map Prod.snd).nodup_iff.mpr R.nd) few up hn⟩
end
end TG
end
section
set_option Elab.async false
set_option linter.all false
set_option maxRecDepth 100000
set_option maxHeartbeats 4000000
/-! a range object that is gone through; generator defs by their names -/
namespace L2
open PySem PySem.Spec PyProof.Rows GenW GenY
section
variable {X : Cx} {tg e : Expr} {te : TE}
def iRngV (te : TE) : TI := fun σ H R => te σ H fun x H1 => ∃ (a : Addr) (lo hi : Int), x = .ref a ∧ H1 a = some (.rng lo hi) ∧ (-(2 ^ 62) ≤ lo ∧ lo < 2 ^ 62 ∧ -(2 ^ 62) ≤ hi ∧ hi < 2 ^ 62) ∧ R (Itr lo (hi - lo).toNat) H1
theorem pi_rngV (he : PE X e te) : PI X tg e (iRngV te) := by
  refine ⟨fun pins s σ H R I h => thn (he.run pins s σ H _ I h) fun u s1 ⟨x, H1, I1, r, a, lo, hi, ex, ha, ⟨h1, h2, h3, h4⟩, q⟩ => ?_⟩
  subst ex
  obtain rfl : u = Value.ref a := r
  obtain ⟨t, u, v, ob⟩ := I1.hok a _ ha
  refine wpAny_pyIter_range ob (small_one h1 h2 h3 h4) ?_
  have kp : ∀ b o, s1.heap.get? b = some o → (s1.heap.push { cls := .type "range_iterator", data := .fields #[.int lo 0, .int (Builtin.Range.rangeSize lo hi 1) 0, .int 1 0] }).get? b = some o := fun b o e => Heap.get?_push_of_some _ e
  refine ⟨s1.heap.objs.size, [s1.heap.objs.size], _, _, H1, rfl, I1.kept (t' := s1.toks) kp, turn_range _ lo (hi - lo).toNat, ?_, fun b hb => ?_, q⟩
  · have e1 : lo + ((0 : Nat) : Int) * 1 = lo := by simp
    have e2 : (((hi - lo).toNat : Nat) : Int) - ((0 : Nat) : Int) = Builtin.Range.rangeSize lo hi 1 := by rw [rangeSize_one]; split <;> omega
    show IsRangeIter _ _ (lo + ((0 : Nat) : Int) * 1) ((((hi - lo).toNat : Nat) : Int) - ((0 : Nat) : Int)) 1
    rw [e1, e2]
    exact Heap.get?_push_size _ rfl
  · rw [List.mem_singleton.mp hb]
    exact I1.fpOk (Nat.le_refl _) (I1.hok.fresh (Nat.le_refl _))
end
/-- a generator def and its promise, by its name -/
structure CalZ (P : Program) (w : World) (K : PySem.W.Frag) (mg : Str → Option Value) (base : Heap) (k : Nat) (x : Str) (ps : List Str) (sp : SpZ) : Prop where
  ex : ∃ f fd, GFnZ P w K mg base k f fd ps sp ∧ mg x = some (.ref f) ∧ PySem.W.keepIn K (.ref f) = true ∧ Binds K fd ps []
section
variable {P : Program} {w : World} {K : PySem.W.Frag} {mg : Str → Option Value} {base : Heap} {k : Nat} {x : Str} {N ps : List Str} {sp : SpZ} {st : Stmt}
theorem Def.calZ (D : Def K mg x st) (S : GScope N ps (defScope st)) (len : ∀ vs zss, sp vs zss → vs.length = ps.length)
    (hb : ∀ (kV doc pm : Value) (an : Option Addr) (cdv ct : Value) (us : List Value), us.length = ps.length → bindArgs (PySem.W.fnOf x x (defArgs st) (defBody st) (defScope st) .none kV doc pm an cdv ct) ⟨us, []⟩ = pure (ps.zip us))
    (body : ∀ (f : Addr) (cdv : Value) (A : Around) (outer : List Env) (L : Addr) (vs : List V) (zss : List (List V)), Room k (A.deeper (envOfC x (defScope st) L f cdv)) → sp vs zss →
      ∃ t, GFs (gpOf P w K mg base N x (defScope st) f cdv A outer L) zss (defBody st) t ∧ ∀ ix H, t { nx := fun j _ _ _ => j = zss.length, rt := fun j _ v _ => v = .non ∧ j = zss.length } 0 ix (start N vs) H) : CalZ P w K mg base (k + 2) x ps sp := by
  obtain ⟨f, fd, F, hm⟩ := D.ex
  have B := F.bindsN hb
  obtain ⟨oc, od, dV, kV, doc, pm, an, cdv, ct, osl, efd, lk, hcd, _, _⟩ := F.ex
  subst efd
  exact ⟨f, _, gfnZ_of lk hcd S len (fun A outer L vs zss hr h => body f cdv A outer L vs zss hr h), hm, F.kp, B⟩
end
section
variable {X : Cx} {k : Nat} {x : Str} {ps : List Str} {sp : SpZ} {e : Expr} {es : List Expr} {t : TA} {p pos : Pos}
theorem pz_cal (C : CalZ X.prog X.w X.K X.mg X.base k x ps sp) (hr : Room k X.A) (hg : Gl X x) (ha : PA X (e :: es) t) (hdb : (x == ("__debug__" : Str)) = false := by decide)
    (he : starEach (e :: es) X.env = (false, eval e X.env) :: starEach es X.env := by rfl) (hpl : (backTo pos (starEach es X.env)).any (·.1) = false := by rfl) : PZ X (.Call (.Name x p) (e :: es) [] pos) (tCallZ sp t) := by
  obtain ⟨f, fd, G, m, kp, b⟩ := C.ex
  exact pz_call G hr hg m kp b ha hdb he hpl
end
end L2
namespace L2
open PySem PySem.Spec PyProof.Rows GenW GenY
theorem gfor_it {J : It} {n : Nat} {G : Hp → Prop} {Y : Nat → Hp → V → Hp → Prop} (w : Walk J n G Y) {g : Ix → TG} {tb : TGF} {D : GE} {j : Nat} {ix : Ix} {σ : L2.St} {H : Hp} (Pv : Nat → Nat → L2.St → Hp → Prop) (h0 : Pv 0 j σ H) (hG : ∀ i j σ H, i ≤ n → Pv i j σ H → G H)
    (hs : ∀ i j ix x σ H H', i < n → Pv i j σ H → Y i H x H' → g ix x σ H' fun σ2 H2 => tb { D with nx := fun j _ σ H => Pv (i + 1) j σ H, ct := fun j _ σ H => Pv (i + 1) j σ H, bk := D.nx } j ix σ2 H2) (hd : ∀ j ix σ H, Pv n j σ H → D.nx j ix σ H) :
    ∃ W : Nat → Nat → Nat → Ix → L2.St → Hp → Prop, (∃ m, W 0 m j ix σ H) ∧ ∀ i m j ix σ H, W i m j ix σ H →
      (J.stop i H ∧ D.nx j ix σ H) ∨ (J.go i H ∧ ∃ N : Nat → Ix → L2.St → Hp → Prop, (∀ j' ix' σ' H', N j' ix' σ' H' → ∃ m', m' < m ∧ W (i + 1) m' j' ix' σ' H') ∧ ∀ x H', J.yld i H x H' → g ix x σ H' fun σ2 H2 => tb { D with nx := N, ct := N, bk := D.nx } j ix σ2 H2) := by
  refine ⟨fun i m j ix σ H => m = n - i ∧ i ≤ n ∧ Pv i j σ H, ⟨n, by simp, Nat.zero_le _, h0⟩, ?_⟩
  rintro i m j ix σ H ⟨rfl, hi, p⟩
  rcases Nat.lt_or_ge i n with c | c
  · exact .inr ⟨w.goes i H c (hG i j σ H hi p), fun j _ σ H => Pv (i + 1) j σ H, fun j' ix' σ' H' p' => ⟨n - (i + 1), by omega, rfl, c, p'⟩, fun x H' y => hs i j ix x σ H H' c p (w.yields i H x H' c (hG i j σ H hi p) y)⟩
  · obtain rfl : i = n := Nat.le_antisymm hi c
    exact .inl ⟨w.stops H (hG i j σ H hi p), hd j ix σ H p⟩
/-- what is left of a list, a step on -/
theorem drop_next {α : Type} {l : List α} {i : Nat} {x : α} (h : l[i]? = some x) : l.drop i = x :: l.drop (i + 1) := by
  obtain ⟨h1, h2⟩ := List.getElem?_eq_some_iff.mp h
  rw [← h2]; exact List.drop_eq_getElem_cons h1
theorem range_next {n i : Nat} (h : i < n) : (List.range n).drop i = i :: (List.range n).drop (i + 1) := drop_next (by simp [h])
theorem range_end (n : Nat) : (List.range n).drop n = [] := List.drop_of_length_le (by simp)
end L2
end
section
set_option Elab.async false
set_option linter.all false
set_option maxRecDepth 100000
set_option maxHeartbeats 4000000
namespace K05
open PySem PySem.Spec PyProof.Rows L2
open PySem.W (ke_shaped_ints)
local macro_rules | `(tactic| walk_at "go") => `(tactic| first | refine ⟨_, rfl, ?_⟩ | refine .inl ⟨_, rfl, ?_⟩ | refine ⟨_, _, rfl, rfl, (by first | (show (0 : Int) < _; decide) | exact Or.inl ⟨by decide, by decide⟩ | exact Or.inr ⟨by decide, by decide⟩), ?_⟩ | refine ⟨_, _, rfl, rfl, ?_⟩)
section
variable {P : Program} {w : World} {K : PySem.W.Frag} {mg : Str → Option Value} {base : Heap}
abbrev s_read_pointer : Stmt := topS 22
theorem sc_read_pointer : FnScope ["word", "pointers", "index", "name"] ["word", "pointers"] (defScope s_read_pointer) := ⟨rfl, rfl, rfl, by decide +kernel, rfl, by decide +kernel, by decide +kernel⟩
theorem ok_read_pointer (T : TxtP K mg) (D : Def K mg "read_pointer" s_read_pointer) : Cal P w K mg base 3 "read_pointer" ["word", "pointers"] (spReadPointer K) := by
  refine D.cal sc_read_pointer (fun vs H Q E h => ?_) (fun _ _ _ _ _ _ us hl => match us, hl with | [_, _], _ => rfl) (fun f cdv A outer s H vs Q E hr h => ?_)
  · obtain ⟨z, a, ps, rfl, _⟩ := h
    rfl
  have hu := hu_of hr

  obtain ⟨z, a, ps, rfl, hT, nm, alt⟩ := h
  refine ⟨_, (pss_cons (ps_for PassesOwn.never rfl (pi_enumT (by rfl) T.f_enumerate (pa_cons (pv 1) pa_nil)) (pg_tup rfl (pgs_cons (pg_name (i := 2) sc_read_pointer.nd rfl (by first | exact Or.inl rfl | exact Or.inr rfl)) (pgs_cons (pg_name (i := 3) sc_read_pointer.nd rfl (by first | exact Or.inl rfl | exact Or.inr rfl)) pgs_nil))) (pss_one (ps_if (pt_cmpR op_eq (pv 3) (pv 0) (nomark _)) (pss_one (ps_ret (pv 2))) pss_nil)))
      (pss_one (ps_ret pe_non))), ?_⟩
  obtain ⟨oks, nd, n1, n3⟩ := nm
  refine ⟨_, rfl, a, _, rfl, hT, for_it walk_enumT (fun i σ H2 => ∃ v2 v3, σ = [some (.str z), some (.ref a), v2, v3] ∧ Same H H2 ∧ z ∉ ps.take i) ⟨none, none, rfl, fun _ _ z => z, by simp⟩ (fun i σ H2 _ ⟨_, _, _, s2, _⟩ => s2.tup hT) ?_ ?_⟩
  · rintro i x σ H2 H3 hi ⟨v2, v3, rfl, s2, no⟩ ⟨T0, x1, x2, rfl, hT0, rfl, e1, e2⟩
    cases e1
    have e2' : (ps.map V.str)[i]? = some x2 := e2
    rw [List.getElem?_map] at e2'
    obtain ⟨y, hy, rfl⟩ := Option.map_eq_some_iff.mp e2'
    have s3 := s2.trans (Same.new (o := .tup [.int (i : Nat), .str y]) hT0)
    refine ⟨T0, _, rfl, SqT.of upd_same, rfl, _, _, rfl, _, _, rfl, rfl, ?_⟩
    generalize upd H2 T0 (.tup [.int (i : Nat), .str y]) = H4 at s3 ⊢
    refine ⟨_, rfl, _, rfl, rfl, _, rfl, ite2 (fun c => ?_) (fun c => ?_)⟩
    · have e := V.str.inj (of_decide_eq_true c)
      rw [e] at hy
      rcases alt with ⟨j, hj, k⟩ | ⟨nin, k⟩
      · have ij : i = j := by
          have hi2 := (List.getElem?_eq_some_iff.mp hy).1
          exact (List.getElem?_inj hi2 nd).mp (hy.trans hj.symm)
        rw [← ij] at k
        exact ⟨_, rfl, k _ s3⟩
      · exact absurd (List.mem_of_getElem? hy) nin
    · refine ⟨_, _, rfl, s3, ?_⟩
      rw [List.take_add_one, hy]
      simp only [Option.toList_some, List.mem_append, List.mem_singleton, not_or]
      exact ⟨no, fun e => c (decide_eq_true (by rw [e]))⟩
  · rintro σ H2 ⟨v2, v3, rfl, s2, no⟩
    have nin : z ∉ ps := by
      have : (ps.map V.str).length = ps.length := List.length_map ..
      rw [this, List.take_length] at no
      exact no
    rcases alt with ⟨j, hj, k⟩ | ⟨_, k⟩
    · exact absurd (List.mem_of_getElem? hj) nin
    · exact k _ s2

end
end K05
end
section
set_option Elab.async false
set_option linter.all false
set_option maxRecDepth 100000
set_option maxHeartbeats 4000000
namespace K05
open PySem PySem.Spec PyProof.Rows L2
open PySem.W (ke_shaped_ints)
local macro_rules | `(tactic| walk_at "go") => `(tactic| first | refine ⟨_, rfl, ?_⟩ | refine .inl ⟨_, rfl, ?_⟩ | refine ⟨_, _, rfl, rfl, (by first | (show (0 : Int) < _; decide) | exact Or.inl ⟨by decide, by decide⟩ | exact Or.inr ⟨by decide, by decide⟩), ?_⟩ | refine ⟨_, _, rfl, rfl, ?_⟩)
section
variable {P : Program} {w : World} {K : PySem.W.Frag} {mg : Str → Option Value} {base : Heap}

theorem rix_of {K : PySem.W.Frag} {H : Hp} {a : Addr} {xs : List V} {j : Nat} {v : V} {Q : VK} (h : SqL K H a xs ∨ SqT K H a xs) (e : xs[j]? = some v) (q : Q v H) : rIx K (.ref a) (.int (j : Nat)) H Q := by
  rcases h with h | h
  · exact .inl ⟨a, xs, _, v, rfl, rfl, h, atI_nat e, q⟩
  · exact .inr (.inl ⟨a, xs, _, v, rfl, rfl, h, atI_nat e, q⟩)
theorem int_at {zs : List Int} {j : Nat} {z : Int} (h : zs[j]? = some z) : (zs.map V.int)[j]? = some (.int z) := by rw [List.getElem?_map, h]; rfl
/-- fact.holds(places) -/
def spHolds (K : PySem.W.Frag) (C : Addr) : Sp := fun vs H Q _ => ∃ (o a : Addr) (ps : List Str) (f : CF.FD) (zs : List Int), vs = [.ref o, .ref a] ∧ FactAt K C H ps o f ∧ f.Ok ps ∧ ps.Nodup ∧ (SqL K H a (zs.map V.int) ∨ SqT K H a (zs.map V.int)) ∧ zs.length = ps.length ∧ Q (.bl (f.val (CF.look ps zs))) H

abbrev s_Fact_holds : Stmt := inClass (topS 28) 1
theorem sc_Fact_holds : FnScope ["self", "places", "one", "ahead", "many", "other", "behind", "most", "start", "begin", "distance"] ["self", "places"] (defScope s_Fact_holds) := ⟨rfl, rfl, rfl, by decide +kernel, rfl, by decide +kernel, by decide +kernel⟩
theorem ok_holds {C f : Addr} {fd : FuncData} (T : TxtP K mg) (FC : FactC K C) (F : FunD K "holds" "Fact.holds" (defArgs s_Fact_holds) (defBody s_Fact_holds) (defScope s_Fact_holds) [] [] f fd) : FnOk P w K mg base CX0 1 f fd ["self", "places"] (spHolds K C) := by
  refine F.ok sc_Fact_holds (fun vs H Q E h => by obtain ⟨o, a, ps, f, zs, rfl, _⟩ := h; rfl) (fun cdv A outer s H vs Q E hr h => ?_)
  suffices z : ∃ t, PSs (cxOf CX0 P w K mg base ["self", "places", "one", "ahead", "many", "other", "behind", "most", "start", "begin", "distance"] "Fact.holds" (defScope s_Fact_holds) f cdv A outer s H E).nox (defBody s_Fact_holds) t ∧ t { nx := fun _ H' => Q .non H', rt := Q } (start ["self", "places", "one", "ahead", "many", "other", "behind", "most", "start", "begin", "distance"] vs) H by
    obtain ⟨t, h1, h2⟩ := z
    exact ⟨t, h1.nox, h2⟩
  obtain ⟨o, a, ps, fc, zs, rfl, ⟨dx, nm, sp, v1, v2, ho, hnm, he⟩, ok, nd, hz, zl, k⟩ := h
  refine ⟨_, (pss_cons (ps_if (pt_cmpR op_eq (pe_fld (pv 0) rfl) pe_str (nomark _)) (pss_cons (ps_asg (pe_fld (pv 0) rfl) (pg_tup rfl (pgs_cons (pg_tup rfl (pgs_cons (pg_name (i := 2) sc_Fact_holds.nd rfl (by first | exact Or.inl rfl | exact Or.inr rfl)) (pgs_cons (pg_name (i := 3) sc_Fact_holds.nd rfl (by first | exact Or.inl rfl | exact Or.inr rfl)) (pgs_cons (pg_name (i := 4) sc_Fact_holds.nd rfl (by first | exact Or.inl rfl | exact Or.inr rfl)) pgs_nil)))) (pgs_cons (pg_tup rfl (pgs_cons (pg_name (i := 5) sc_Fact_holds.nd rfl (by first | exact Or.inl rfl | exact Or.inr rfl)) (pgs_cons (pg_name (i := 6) sc_Fact_holds.nd rfl (by first | exact Or.inl rfl | exact Or.inr rfl)) (pgs_cons (pg_name (i := 7) sc_Fact_holds.nd rfl (by first | exact Or.inl rfl | exact Or.inr rfl)) pgs_nil)))) pgs_nil))))
      (pss_cons (ps_par (i := 8) (j := 9) (by rfl) sc_Fact_holds.nd rfl rfl (by decide) rfl rfl (pa_cons (pe_op op_add (pe_ix ix_seq (pv 1) (pv 2) (fun _ _ => rfl)) (pv 3)) (pa_cons (pe_op op_add (pe_ix ix_seq (pv 1) (pv 5) (fun _ _ => rfl)) (pv 6)) pa_nil)) (by rfl))
      (pss_one (ps_ret (pe_or (pe_cmpR op_le (pe_op op_add (pv 8) (pv 4)) (pv 9) (nomark _)) (pe_one (pe_cmpR op_le (pe_op op_add (pv 9) (pv 7)) (pv 8) (nomark _)))))))) pss_nil)
      (pss_cons (ps_set (i := 10) sc_Fact_holds.nd rfl (by first | exact Or.inl rfl | exact Or.inr rfl) (pe_ix ix_seq (pv 1) (pe_fld (pv 0) rfl) (fun _ _ => rfl)))
      (C8.pss_cut (ps_if (pt_cmpR op_notN (pe_fld (pv 0) rfl) pe_non (nomark _)) (pss_one (ps_set (i := 10) sc_Fact_holds.nd rfl (by first | exact Or.inl rfl | exact Or.inr rfl) (pe_op op_sub (pv 10) (pe_ix ix_seq (pv 1) (pe_fld (pv 0) rfl) (fun _ _ => rfl))))) pss_nil)
      (pss_cons (ps_if (pt_cmpR op_eq (pe_fld (pv 0) rfl) pe_str (nomark _)) (pss_one (ps_ret (pe_cmpR op_eq (pe_op op_mod (pv 10) (pe_ix ix_tup (pe_fld (pv 0) rfl) pe_int (fun _ _ => rfl))) (pe_ix ix_tup (pe_fld (pv 0) rfl) pe_int (fun _ _ => rfl)) (nomark _)))) pss_nil)
      (pss_cons (ps_if (pt_cmpR op_eq (pe_fld (pv 0) rfl) pe_str (nomark _)) (pss_one (ps_ret (pe_cmpR op_ge (pv 10) (pe_ix ix_tup (pe_fld (pv 0) rfl) pe_int (fun _ _ => rfl)) (nomark _)))) pss_nil)
      (pss_cons (ps_if (pt_cmpR op_eq (pe_fld (pv 0) rfl) pe_str (nomark _)) (pss_one (ps_ret (pe_cmpR op_le (pv 10) (pe_ix ix_tup (pe_fld (pv 0) rfl) pe_int (fun _ _ => rfl)) (nomark _)))) pss_nil)
      (pss_one (ps_ret (pe_cmpR op_eq (pv 10) (pe_ix ix_tup (pe_fld (pv 0) rfl) pe_int (fun _ _ => rfl)) (nomark _)))))))))), ?_⟩
  refine ⟨_, rfl, o, C, dx, _, .str fc.key, rfl, ho, FC.cl, FC.n_word, rfl, rfl, _, rfl, ?_⟩
  have fl : ∀ {i : Nat} {z : Str}, ps[i]? = some z → (zs.map V.int)[i]? = some (.int (CF.look ps zs z)) := fun h => int_at (CF.look_at nd zl h)
  cases fc with
  | apart x k1 n y e1 c =>
    obtain ⟨i, j, q1, q2, s1, s2, hi, hj, rfl, rfl, a5, a6, a7, a8, a9⟩ := he
    refine ite2 (fun _ => ?_) (fun c => absurd (decide_eq_true rfl) c)
    refine ⟨_, rfl, o, C, dx, _, .ref sp, rfl, ho, FC.cl, FC.n_spans, rfl, ?_⟩
    refine ⟨sp, _, rfl, SqT.of a9, rfl, _, _, rfl, s1, _, rfl, SqT.of a7, rfl, _, _, rfl, _, _, rfl, _, _, rfl, rfl, _, _, rfl, s2, _, rfl, SqT.of a8, rfl, _, _, rfl, _, _, rfl, _, _, rfl, rfl, rfl, ?_⟩
    refine ⟨_, rfl, _, rfl, rix_of hz (fl hi) ?_⟩
    refine ⟨_, rfl, _, _, rfl, rfl, ?_⟩
    refine ⟨_, rfl, _, rfl, rix_of hz (fl hj) ?_⟩
    refine ⟨_, rfl, _, _, rfl, rfl, ?_⟩
    refine ⟨_, _, rfl, _, rfl, _, rfl, _, _, rfl, rfl, _, rfl, _, _, rfl, rfl, _, rfl, ite2 (fun c1 => ?_) (fun c1 => ?_)⟩
    · have e : CF.FD.val (CF.look ps zs) (.apart x k1 n y e1 c) = true := by
        simp only [CF.FD.val]
        rw [c1]
        rfl
      rw [e] at k
      exact k
    · refine ⟨_, rfl, _, rfl, _, _, rfl, rfl, _, rfl, _, _, rfl, rfl, ?_⟩
      have e : CF.FD.val (CF.look ps zs) (.apart x k1 n y e1 c) = decide (CF.look ps zs y + e1 + c ≤ CF.look ps zs x + k1) := by
        simp only [CF.FD.val]
        rw [Bool.eq_false_iff.mpr c1]
        rfl
      rw [e] at k
      exact k
  | by_ x m r =>
    obtain ⟨rfl, j, hj, rfl⟩ := he
    obtain ⟨_, hm, _⟩ := ok
    refine ite2 (fun c => absurd (V.str.inj (of_decide_eq_true c)) (show ("by" : Str) ≠ "apart" by decide)) (fun _ => ?_)
    refine ⟨_, rfl, _, rfl, o, C, dx, _, .int (j : Nat), rfl, ho, FC.cl, FC.n_right, rfl, rix_of hz (fl hj) ?_⟩
    refine ⟨fun σ' H' => σ' = [some (.ref o), some (.ref a), none, none, none, none, none, none, none, none, some (.int (CF.look ps zs x))] ∧ H' = H, ?_, ?_⟩
    · refine ⟨_, rfl, o, C, dx, _, .non, rfl, ho, FC.cl, FC.n_left, rfl, rfl, _, rfl, ite2 (fun c => absurd c (by decide +kernel)) (fun _ => ⟨rfl, rfl⟩)⟩
    rintro σ' H' ⟨rfl, rfl⟩
    refine ⟨_, rfl, o, C, dx, _, .str "by", rfl, ho, FC.cl, FC.n_word, rfl, rfl, _, rfl, ite2 (fun _ => ?_) (fun c => absurd (decide_eq_true rfl) c)⟩
    refine ⟨_, rfl, _, rfl, o, C, dx, _, .ref nm, rfl, ho, FC.cl, FC.n_numbers, rfl, nm, _, 0, _, rfl, rfl, hnm, rfl, _, _, rfl, rfl, by omega, ?_⟩
    refine ⟨_, rfl, o, C, dx, _, .ref nm, rfl, ho, FC.cl, FC.n_numbers, rfl, nm, _, 1, _, rfl, rfl, hnm, rfl, rfl, ?_⟩
    have e : decide (V.int (CF.look ps zs x % m) = V.int r) = CF.FD.val (CF.look ps zs) (.by_ x m r) := decide_eq_decide.mpr ⟨V.int.inj, fun e => by rw [e]⟩
    rw [e]
    exact k
  | gap x y m r =>
    obtain ⟨i, j, hi, hj, rfl, rfl⟩ := he
    obtain ⟨_, _, _, hm, _⟩ := ok
    refine ite2 (fun c => absurd (V.str.inj (of_decide_eq_true c)) (show ("by" : Str) ≠ "apart" by decide)) (fun _ => ?_)
    refine ⟨_, rfl, _, rfl, o, C, dx, _, .int (j : Nat), rfl, ho, FC.cl, FC.n_right, rfl, rix_of hz (fl hj) ?_⟩
    refine ⟨fun σ' H' => σ' = [some (.ref o), some (.ref a), none, none, none, none, none, none, none, none, some (.int (CF.look ps zs y - CF.look ps zs x))] ∧ H' = H, ?_, ?_⟩
    · refine ⟨_, rfl, o, C, dx, _, .int (i : Nat), rfl, ho, FC.cl, FC.n_left, rfl, rfl, _, rfl, ite2 (fun _ => ?_) (fun c => absurd rfl c)⟩
      exact ⟨_, rfl, _, rfl, _, rfl, o, C, dx, _, .int (i : Nat), rfl, ho, FC.cl, FC.n_left, rfl, rix_of hz (fl hi) ⟨_, _, rfl, rfl, rfl, rfl⟩⟩
    rintro σ' H' ⟨rfl, rfl⟩
    refine ⟨_, rfl, o, C, dx, _, .str "by", rfl, ho, FC.cl, FC.n_word, rfl, rfl, _, rfl, ite2 (fun _ => ?_) (fun c => absurd (decide_eq_true rfl) c)⟩
    refine ⟨_, rfl, _, rfl, o, C, dx, _, .ref nm, rfl, ho, FC.cl, FC.n_numbers, rfl, nm, _, 0, _, rfl, rfl, hnm, rfl, _, _, rfl, rfl, by omega, ?_⟩
    refine ⟨_, rfl, o, C, dx, _, .ref nm, rfl, ho, FC.cl, FC.n_numbers, rfl, nm, _, 1, _, rfl, rfl, hnm, rfl, rfl, ?_⟩
    have e : decide (V.int ((CF.look ps zs y - CF.look ps zs x) % m) = V.int r) = CF.FD.val (CF.look ps zs) (.gap x y m r) := decide_eq_decide.mpr ⟨V.int.inj, fun e => by rw [e]⟩
    rw [e]
    exact k
  | dist w0 x y n =>
    obtain ⟨i, j, hi, hj, rfl, rfl⟩ := he
    obtain ⟨hw, _, _, _, _, _⟩ := ok
    have hw3 : w0 = "from" ∨ w0 = "upto" ∨ w0 = "is" := by
      simp only [CF.Sorts, List.mem_cons, List.not_mem_nil, or_false] at hw
      exact hw
    refine ite2 (fun c => absurd (V.str.inj (of_decide_eq_true c)) (show w0 ≠ "apart" by rcases hw3 with rfl | rfl | rfl <;> decide +kernel)) (fun _ => ?_)
    refine ⟨_, rfl, _, rfl, o, C, dx, _, .int (j : Nat), rfl, ho, FC.cl, FC.n_right, rfl, rix_of hz (fl hj) ?_⟩
    refine ⟨fun σ' H' => σ' = [some (.ref o), some (.ref a), none, none, none, none, none, none, none, none, some (.int (CF.look ps zs y - CF.look ps zs x))] ∧ H' = H, ?_, ?_⟩
    · refine ⟨_, rfl, o, C, dx, _, .int (i : Nat), rfl, ho, FC.cl, FC.n_left, rfl, rfl, _, rfl, ite2 (fun _ => ?_) (fun c => absurd rfl c)⟩
      exact ⟨_, rfl, _, rfl, _, rfl, o, C, dx, _, .int (i : Nat), rfl, ho, FC.cl, FC.n_left, rfl, rix_of hz (fl hi) ⟨_, _, rfl, rfl, rfl, rfl⟩⟩
    rintro σ' H' ⟨rfl, rfl⟩
    refine ⟨_, rfl, o, C, dx, _, .str w0, rfl, ho, FC.cl, FC.n_word, rfl, rfl, _, rfl, ite2 (fun c => absurd (V.str.inj (of_decide_eq_true c)) (by rcases hw3 with rfl | rfl | rfl <;> decide +kernel)) (fun _ => ?_)⟩
    refine ⟨_, rfl, o, C, dx, _, .str w0, rfl, ho, FC.cl, FC.n_word, rfl, rfl, _, rfl, ?_⟩
    have num0 : ∀ (Q : VK), Q (.int n) H' → ∃ v1, v1 = v1 ∧ Q (.int n) H' := fun Q h => ⟨(), rfl, h⟩
    simp only [CF.FD.val] at k
    by_cases h1 : w0 = "from"
    · rw [if_pos h1] at k
      rw [decide_eq_true (by rw [h1])]
      refine iteT ⟨_, rfl, _, rfl, o, C, dx, _, .ref nm, rfl, ho, FC.cl, FC.n_numbers, rfl, nm, _, 0, _, rfl, rfl, hnm, rfl, _, _, rfl, rfl, ?_⟩
      exact k
    · rw [if_neg h1] at k
      rw [decide_eq_false (fun e => h1 (V.str.inj e))]
      refine iteF ?_
      refine ⟨_, rfl, o, C, dx, _, .str w0, rfl, ho, FC.cl, FC.n_word, rfl, rfl, _, rfl, ?_⟩
      by_cases h2 : w0 = "upto"
      · rw [if_pos h2] at k
        rw [decide_eq_true (by rw [h2])]
        refine iteT ⟨_, rfl, _, rfl, o, C, dx, _, .ref nm, rfl, ho, FC.cl, FC.n_numbers, rfl, nm, _, 0, _, rfl, rfl, hnm, rfl, _, _, rfl, rfl, ?_⟩
        exact k
      · rw [if_neg h2] at k
        rw [decide_eq_false (fun e => h2 (V.str.inj e))]
        refine iteF ⟨_, rfl, _, rfl, o, C, dx, _, .ref nm, rfl, ho, FC.cl, FC.n_numbers, rfl, nm, _, 0, _, rfl, rfl, hnm, rfl, rfl, ?_⟩
        have e : decide (V.int (CF.look ps zs y - CF.look ps zs x) = V.int n) = decide (CF.look ps zs y - CF.look ps zs x = n) := decide_eq_decide.mpr ⟨V.int.inj, fun e => by rw [e]⟩
        rw [e]
        exact k
end
end K05
end
section
set_option Elab.async false
set_option linter.all false
set_option maxRecDepth 100000
set_option maxHeartbeats 4000000
namespace K05
open PySem PySem.Spec PyProof.Rows L2
open PySem.W (ke_shaped_ints)
local macro_rules | `(tactic| walk_at "go") => `(tactic| first | refine ⟨_, rfl, ?_⟩ | refine .inl ⟨_, rfl, ?_⟩ | refine ⟨_, _, rfl, rfl, (by first | (show (0 : Int) < _; decide) | exact Or.inl ⟨by decide, by decide⟩ | exact Or.inr ⟨by decide, by decide⟩), ?_⟩ | refine ⟨_, _, rfl, rfl, ?_⟩)
section
variable {P : Program} {w : World} {K : PySem.W.Frag} {mg : Str → Option Value} {base : Heap}

theorem fit2 {x y : Str} {a b : Nat} (hx : x.length ≤ a) (hy : y.length ≤ b) : (x ++ y).length ≤ a + b := by
  rw [len_app]
  omega
theorem fit_line {x : Str} {a : Nat} (h : x.length ≤ a) (ha : a ≤ 1000000) : x.length ≤ sizeLine := by
  rw [sizeLine_eq]
  omega
/-- what a field's value must be, so that the error's text can be written -/
def okI (x : V) (_ : Hp) : Prop := ∃ i : Int, x = .int i ∧ i.natAbs.log2 < 1920
def okS (x : V) (_ : Hp) : Prop := ∃ y : Str, x = .str y ∧ y.length ≤ 200
def okT (K : PySem.W.Frag) (x : V) (H : Hp) : Prop := ∃ (q : Addr) (l : List Int), x = .ref q ∧ SqT K H q (l.map V.int) ∧ (∀ i ∈ l, i.natAbs.log2 < 1920) ∧ l.length ≤ 100
/-- C.__init__(self, x): the field f is kept -/
def spIni (C : Addr) (f : Str) (ok : V → Hp → Prop) : Sp := fun vs H Q _ => ∃ (a : Addr) (x : V), vs = [.ref a, x] ∧ H a = some (exo a C none) ∧ ok x H ∧ ∀ dx, H dx = none → dx ≠ a → Q .non (upd (upd H dx (exd dx [(f, x)])) a (exo a C (some dx)))
def spIni0 (C : Addr) : Sp := fun vs H Q _ => ∃ a : Addr, vs = [.ref a] ∧ H a = some (exo a C none) ∧ Q .non H
/-- the base of the errors, as the top has made it -/
structure TxtE (K : PySem.W.Frag) (mg : Str → Option Value) (B : Addr) : Prop where
  f_tuple : mg "tuple" = none
  g_PartlyError : mg "PartlyError" = some (.ref B)
  r_PartlyError : ClX.CRead K B (.type "type")
  i_PartlyError : PySem.W.findCls K (.ref B) (.type "type") "__init__" = some (.val (.builtin "ValueError.__init__"))



abbrev s_BadPointers : Stmt := inClass (topS 6) 0
theorem sc_BadPointers : FnScope ["self", "index"] ["self", "index"] (defScope s_BadPointers) := ⟨rfl, rfl, rfl, by decide +kernel, rfl, by decide +kernel, by decide +kernel⟩
theorem ok_BadPointers {B C f : Addr} {fd : FuncData} (T : TxtE K mg B) (F : FunD K "__init__" "BadPointers.__init__" (defArgs s_BadPointers) (defBody s_BadPointers) (defScope s_BadPointers) [] [] f fd) (O : OexC K C) (hno : PySem.W.findIn K (.ref C) "index" = some none) : FnOk P w K mg base CX0 1 f fd ["self", "index"] (spIni C "index" okI) := by
  refine F.ok sc_BadPointers (fun vs H Q E h => by obtain ⟨a, x, rfl, _⟩ := h; rfl) (fun cdv A outer s H vs Q E hr h => ?_)
  suffices z : ∃ t, PSs (cxOf CX0 P w K mg base ["self", "index"] "BadPointers.__init__" (defScope s_BadPointers) f cdv A outer s H E).nox (defBody s_BadPointers) t ∧ t { nx := fun _ H' => Q .non H', rt := Q } (start ["self", "index"] vs) H by
    obtain ⟨t, h1, h2⟩ := z
    exact ⟨t, h1.nox, h2⟩

  obtain ⟨a, x, rfl, ha, ⟨i, rfl, hi⟩, k⟩ := h
  refine ⟨_, (pss_cons (ps_expr (pe_binit (by rfl) T.g_PartlyError T.r_PartlyError T.i_PartlyError (pa_cons (pv 0) (pa_cons (pe_joined (.cons pe_str (.cons (pe_fmt (pv 1)) (.cons pe_str .nil)))) pa_nil))))
      (pss_one (ps_ost (pv 0) (pv 1)))), ?_⟩
  refine ⟨_, rfl, _, rfl, fit_line (a := 1000) (by decide +kernel) (by decide), _, rfl, .inr ⟨i, rfl, hi, _, rfl, fit_line (fit2 (a := 1000) (by decide +kernel) (int_text_len_1921 hi)) (by decide), _, rfl, fit_line (fit2 (fit2 (a := 1000) (by decide +kernel) (int_text_len_1921 hi)) (b := 1000) (by decide +kernel)) (by decide), a, C, _, rfl, (by show 1 ≤ 1000; decide), O, ha, ?_⟩⟩
  exact ⟨_, rfl, _, rfl, a, C, rfl, O, hno, .inl ⟨ha, k⟩⟩


abbrev s_BadContract : Stmt := inClass (topS 7) 0
theorem sc_BadContract : FnScope ["self", "line"] ["self", "line"] (defScope s_BadContract) := ⟨rfl, rfl, rfl, by decide +kernel, rfl, by decide +kernel, by decide +kernel⟩
theorem ok_BadContract {B C f : Addr} {fd : FuncData} (T : TxtE K mg B) (F : FunD K "__init__" "BadContract.__init__" (defArgs s_BadContract) (defBody s_BadContract) (defScope s_BadContract) [] [] f fd) (O : OexC K C) (hno : PySem.W.findIn K (.ref C) "line" = some none) : FnOk P w K mg base CX0 1 f fd ["self", "line"] (spIni C "line" okI) := by
  refine F.ok sc_BadContract (fun vs H Q E h => by obtain ⟨a, x, rfl, _⟩ := h; rfl) (fun cdv A outer s H vs Q E hr h => ?_)
  suffices z : ∃ t, PSs (cxOf CX0 P w K mg base ["self", "line"] "BadContract.__init__" (defScope s_BadContract) f cdv A outer s H E).nox (defBody s_BadContract) t ∧ t { nx := fun _ H' => Q .non H', rt := Q } (start ["self", "line"] vs) H by
    obtain ⟨t, h1, h2⟩ := z
    exact ⟨t, h1.nox, h2⟩

  obtain ⟨a, x, rfl, ha, ⟨i, rfl, hi⟩, k⟩ := h
  refine ⟨_, (pss_cons (ps_expr (pe_binit (by rfl) T.g_PartlyError T.r_PartlyError T.i_PartlyError (pa_cons (pv 0) (pa_cons (pe_joined (.cons pe_str (.cons (pe_fmt (pv 1)) (.cons pe_str .nil)))) pa_nil))))
      (pss_one (ps_ost (pv 0) (pv 1)))), ?_⟩
  refine ⟨_, rfl, _, rfl, fit_line (a := 1000) (by decide +kernel) (by decide), _, rfl, .inr ⟨i, rfl, hi, _, rfl, fit_line (fit2 (a := 1000) (by decide +kernel) (int_text_len_1921 hi)) (by decide), _, rfl, fit_line (fit2 (fit2 (a := 1000) (by decide +kernel) (int_text_len_1921 hi)) (b := 1000) (by decide +kernel)) (by decide), a, C, _, rfl, (by show 1 ≤ 1000; decide), O, ha, ?_⟩⟩
  exact ⟨_, rfl, _, rfl, a, C, rfl, O, hno, .inl ⟨ha, k⟩⟩


abbrev s_BadPlaces : Stmt := inClass (topS 8) 0
theorem sc_BadPlaces : FnScope ["self"] ["self"] (defScope s_BadPlaces) := ⟨rfl, rfl, rfl, by decide +kernel, rfl, by decide +kernel, by decide +kernel⟩
theorem ok_BadPlaces {B C f : Addr} {fd : FuncData} (T : TxtE K mg B) (F : FunD K "__init__" "BadPlaces.__init__" (defArgs s_BadPlaces) (defBody s_BadPlaces) (defScope s_BadPlaces) [] [] f fd) (O : OexC K C) : FnOk P w K mg base CX0 1 f fd ["self"] (spIni0 C) := by
  refine F.ok sc_BadPlaces (fun vs H Q E h => by obtain ⟨a, rfl, _⟩ := h; rfl) (fun cdv A outer s H vs Q E hr h => ?_)
  suffices z : ∃ t, PSs (cxOf CX0 P w K mg base ["self"] "BadPlaces.__init__" (defScope s_BadPlaces) f cdv A outer s H E).nox (defBody s_BadPlaces) t ∧ t { nx := fun _ H' => Q .non H', rt := Q } (start ["self"] vs) H by
    obtain ⟨t, h1, h2⟩ := z
    exact ⟨t, h1.nox, h2⟩

  obtain ⟨a, rfl, ha, k⟩ := h
  refine ⟨_, (pss_one (ps_expr (pe_binit (by rfl) T.g_PartlyError T.r_PartlyError T.i_PartlyError (pa_cons (pv 0) (pa_cons pe_str pa_nil))))), ?_⟩
  exact ⟨_, rfl, a, C, _, rfl, by decide, O, ha, k⟩


abbrev s_OtherPointers : Stmt := inClass (topS 9) 0
theorem sc_OtherPointers : FnScope ["self"] ["self"] (defScope s_OtherPointers) := ⟨rfl, rfl, rfl, by decide +kernel, rfl, by decide +kernel, by decide +kernel⟩
theorem ok_OtherPointers {B C f : Addr} {fd : FuncData} (T : TxtE K mg B) (F : FunD K "__init__" "OtherPointers.__init__" (defArgs s_OtherPointers) (defBody s_OtherPointers) (defScope s_OtherPointers) [] [] f fd) (O : OexC K C) : FnOk P w K mg base CX0 1 f fd ["self"] (spIni0 C) := by
  refine F.ok sc_OtherPointers (fun vs H Q E h => by obtain ⟨a, rfl, _⟩ := h; rfl) (fun cdv A outer s H vs Q E hr h => ?_)
  suffices z : ∃ t, PSs (cxOf CX0 P w K mg base ["self"] "OtherPointers.__init__" (defScope s_OtherPointers) f cdv A outer s H E).nox (defBody s_OtherPointers) t ∧ t { nx := fun _ H' => Q .non H', rt := Q } (start ["self"] vs) H by
    obtain ⟨t, h1, h2⟩ := z
    exact ⟨t, h1.nox, h2⟩

  obtain ⟨a, rfl, ha, k⟩ := h
  refine ⟨_, (pss_one (ps_expr (pe_binit (by rfl) T.g_PartlyError T.r_PartlyError T.i_PartlyError (pa_cons (pv 0) (pa_cons pe_str pa_nil))))), ?_⟩
  exact ⟨_, rfl, a, C, _, rfl, by decide, O, ha, k⟩



/-- an error of the package, as a class that is made -/
structure ExK (P : Program) (w : World) (K : PySem.W.Frag) (mg : Str → Option Value) (base : Heap) (x : Str) (ps : List Str) (sp : Sp) : Prop where
  o : OexC K (He.ga K x)
  g : mg x = some (.ref (He.ga K x))
  ex : ∃ f fd, FnOk P w K mg base CX0 1 f fd ps sp ∧ Binds K fd ps [] ∧ PySem.W.findIn K (.ref (He.ga K x)) "__init__" = some (some (.ref f)) ∧ PySem.W.typeIn K (.ref f) = some (.type "function")
section
variable {X : Cx} {x : Str} {ps : List Str} {sp : Sp} {e : Expr} {es : List Expr} {ta : TA} {p pos : Pos}
theorem pmk_ek0 (M : ExK X.prog X.w X.K X.mg X.base x ps sp) (hr : Room 2 X.A) (hg : Gl X x) (hdb : (x == ("__debug__" : Str)) = false := by decide) : PMk X (.Call (.Name x p) [] [] pos) (tMkN (He.ga X.K x) sp) := by
  obtain ⟨f, fd, F1, b, i, t⟩ := M.ex
  exact pmk_oexN M.o i t F1 hr b pass0 hg M.g hdb
theorem pmk_ek1 (M : ExK X.prog X.w X.K X.mg X.base x ps sp) (hr : Room 2 X.A) (hg : Gl X x) (ha : PA X (e :: es) ta) (hdb : (x == ("__debug__" : Str)) = false := by decide)
    (he : starEach (e :: es) X.env = (false, eval e X.env) :: starEach es X.env := by rfl) (hpl : (backTo pos (starEach es X.env)).any (·.1) = false := by rfl) : PMk X (.Call (.Name x p) (e :: es) [] pos) (tMkO (He.ga X.K x) sp [] ta) := by
  obtain ⟨f, fd, F1, b, i, t⟩ := M.ex
  exact pmk_oex M.o i t F1 hr b .nil pass0 hg M.g ha hdb he hpl
end
end
end K05
end
section
set_option Elab.async false
set_option linter.all false
set_option maxRecDepth 100000
set_option maxHeartbeats 4000000
namespace K05
open PySem PySem.Spec PyProof.Rows L2
open PySem.W (ke_shaped_ints)
local macro_rules | `(tactic| walk_at "go") => `(tactic| first | refine ⟨_, rfl, ?_⟩ | refine .inl ⟨_, rfl, ?_⟩ | refine ⟨_, _, rfl, rfl, (by first | (show (0 : Int) < _; decide) | exact Or.inl ⟨by decide, by decide⟩ | exact Or.inr ⟨by decide, by decide⟩), ?_⟩ | refine ⟨_, _, rfl, rfl, ?_⟩)
section
variable {P : Program} {w : World} {K : PySem.W.Frag} {mg : Str → Option Value} {base : Heap}

theorem del_upd {H : Hp} {a : Addr} {o : HO} (h : H a = none) : del (upd H a o) a = H := by
  funext b
  by_cases e : b = a
  · rw [e, del_same, h]
  · rw [del_ne e, upd_ne e]
/-- check_places(pointers, places) -/
def spCheck (K : PySem.W.Frag) : Sp := fun vs H Q E => ∃ (pa a : Addr) (xs ys : List V), vs = [.ref pa, .ref a] ∧ SqT K H pa xs ∧ (SqL K H a ys ∨ SqT K H a ys) ∧ ((ys.length = xs.length ∧ Q .non H) ∨ (ys.length ≠ xs.length ∧ E (.ref (He.ga K "BadPlaces")) none H))
theorem lenV_seq {K : PySem.W.Frag} {H : Hp} {a : Addr} {xs : List V} (h : SqL K H a xs ∨ SqT K H a xs) : LenV K (.ref a) H xs.length := h.elim (fun h => .inl ⟨xs, h, rfl⟩) fun h => .inr ⟨xs, h, rfl⟩

abbrev s_check_places : Stmt := topS 20
theorem sc_check_places : FnScope ["pointers", "places"] ["pointers", "places"] (defScope s_check_places) := ⟨rfl, rfl, rfl, by decide +kernel, rfl, by decide +kernel, by decide +kernel⟩
theorem ok_check_places (T : TxtP K mg) (D : Def K mg "check_places" s_check_places) (E_BadPlaces : ExK P w K mg base "BadPlaces" ["self"] (spIni0 (He.ga K "BadPlaces"))) : CalX P w K mg base 3 "check_places" ["pointers", "places"] (spCheck K) := by
  refine D.calX sc_check_places (fun vs H Q E h => ?_) (fun _ _ _ _ _ _ us hl => match us, hl with | [_, _], _ => rfl) (fun f cdv A outer s H vs Q E hr h => ?_)
  · obtain ⟨pa, a, xs, ys, rfl, _⟩ := h
    rfl
  have hu := hu_of hr

  obtain ⟨pa, a, xs, ys, rfl, hx, hy, alt⟩ := h
  refine ⟨_, (pss_one (ps_if (pt_cmpR op_ne (pe_callB call_len (by rfl) T.f_len PySem.boot_len (pa_cons (pv 1) pa_nil)) (pe_callB call_len (by rfl) T.f_len PySem.boot_len (pa_cons (pv 0) pa_nil)) (nomark _)) (pss_one (ps_raise rfl (takes_of rfl rfl rfl rfl) (pmk_ek0 E_BadPlaces (hr.mono (by decide)) rfl))) pss_nil)), ?_⟩
  refine ⟨_, rfl, _, _, rfl, lenV_seq hy, _, rfl, _, _, rfl, .inr ⟨_, hx, rfl⟩, rfl, _, rfl, ?_⟩
  rcases alt with ⟨e, k⟩ | ⟨ne, k⟩
  · rw [show (!decide (V.int (ys.length : Nat) = V.int (xs.length : Nat))) = false by rw [e]; simp]
    exact iteF k
  · rw [show (!decide (V.int (ys.length : Nat) = V.int (xs.length : Nat))) = true by
      rw [decide_eq_false (fun z => ne (by have := V.int.inj z; omega))]
      rfl]
    refine iteT fun e he => ⟨e, rfl, upd_same, rfl, upd_same, ?_⟩
    rw [del_upd he]
    exact k



/-- all_hold(facts, places) -/
def spAllHold (K : PySem.W.Frag) (C : Addr) : Sp := fun vs H Q _ => ∃ (ft a : Addr) (ps : List Str) (os : List Addr) (fs : List CF.FD) (zs : List Int), vs = [.ref ft, .ref a] ∧ SqT K H ft (os.map V.ref) ∧ FactsAt K C H ps os fs ∧ (∀ f ∈ fs, f.Ok ps) ∧ ps.Nodup ∧ (SqL K H a (zs.map V.int) ∨ SqT K H a (zs.map V.int)) ∧ zs.length = ps.length ∧ Q (.bl (CF.kept (CF.look ps zs) fs)) H
abbrev s_all_hold : Stmt := topS 33
theorem sc_all_hold : FnScope ["facts", "places", "fact"] ["facts", "places"] (defScope s_all_hold) := ⟨rfl, rfl, rfl, by decide +kernel, rfl, by decide +kernel, by decide +kernel⟩
theorem ok_all_hold (T : TxtP K mg) (D : Def K mg "all_hold" s_all_hold) {C : Addr} (M_holds : MthX P w K mg base CX0 1 C "holds" ["self", "places"] (spHolds K C)) : Cal P w K mg base 3 "all_hold" ["facts", "places"] (spAllHold K C) := by
  refine D.cal sc_all_hold (fun vs H Q E h => ?_) (fun _ _ _ _ _ _ us hl => match us, hl with | [_, _], _ => rfl) (fun f cdv A outer s H vs Q E hr h => ?_)
  · obtain ⟨ft, a, ps, os, fs, zs, rfl, _⟩ := h
    rfl
  have hu := hu_of hr

  obtain ⟨ft, a, ps, os, fs, zs, rfl, hT, fat, ok, nd, hz, zl, k⟩ := h
  refine ⟨_, (pss_cons (ps_for PassesOwn.never rfl (pi_tup (pv 0)) (pg_name (i := 2) sc_all_hold.nd rfl (by first | exact Or.inl rfl | exact Or.inr rfl)) (pss_one (ps_if (pt_not (pt_val (pe_mth M_holds (pv 2) (hr.mono (by decide)) pass0 (pa_cons (pv 1) pa_nil)))) (pss_one (ps_ret pe_bl)) pss_nil)))
      (pss_one (ps_ret pe_bl))), ?_⟩
  have ol : (os.map V.ref).length = os.length := List.length_map ..
  refine ⟨_, rfl, ft, rfl, ⟨_, hT⟩, for_it walk_tup (fun i σ H' => ∃ v, σ = [some (.ref ft), some (.ref a), v] ∧ H' = H ∧ ∀ f ∈ fs.take i, f.val (CF.look ps zs) = true) ⟨none, rfl, rfl, by simp⟩ (fun i σ H' _ ⟨_, _, e, _⟩ => e ▸ hT) ?_ ?_⟩
  · rintro i x σ H1 H2 hi ⟨v, rfl, rfl, al⟩ ⟨rfl, hx⟩
    rw [List.getElem?_map] at hx
    obtain ⟨o, ho, rfl⟩ := Option.map_eq_some_iff.mp hx
    have il : i < fs.length := by
      rw [ol, fat.1] at hi
      exact hi
    have hf : fs[i]? = some fs[i] := List.getElem?_eq_getElem il
    have fa := fat.2 i o _ ho hf
    obtain ⟨dx, nm, sp, v1, v2, g1, g2, g3⟩ := id fa
    refine ⟨_, rfl, o, dx, _, rfl, g1, rfl, _, rfl, o, a, ps, fs[i], zs, rfl, fa, ok _ (List.mem_of_getElem? hf), nd, hz, zl, _, rfl, ?_⟩
    cases e : CF.FD.val (CF.look ps zs) fs[i] with
    | true =>
      refine iteF ⟨_, rfl, rfl, fun f hm => ?_⟩
      rw [List.take_add_one, hf] at hm
      rcases List.mem_append.mp hm with h | h
      · exact al f h
      · rw [Option.toList_some, List.mem_singleton] at h
        rw [h]
        exact e
    | false =>
      refine iteT ?_
      have kf : CF.kept (CF.look ps zs) fs = false := by
        unfold CF.kept
        rw [List.all_eq_false]
        exact ⟨fs[i], List.mem_of_getElem? hf, by rw [e]; decide⟩
      rw [kf] at k
      exact k
  · rintro σ H1 ⟨v, rfl, rfl, al⟩
    rw [ol, fat.1, List.take_length] at al
    have kt : CF.kept (CF.look ps zs) fs = true := List.all_eq_true.mpr al
    rw [kt] at k
    exact k

end
end K05
end
section
set_option Elab.async false
set_option linter.all false
set_option maxRecDepth 100000
set_option maxHeartbeats 4000000
namespace K05
open PySem PySem.Spec PyProof.Rows L2
open PySem.W (ke_shaped_ints)
local macro_rules | `(tactic| walk_at "go") => `(tactic| first | refine ⟨_, rfl, ?_⟩ | refine .inl ⟨_, rfl, ?_⟩ | refine ⟨_, _, rfl, rfl, (by first | (show (0 : Int) < _; decide) | exact Or.inl ⟨by decide, by decide⟩ | exact Or.inr ⟨by decide, by decide⟩), ?_⟩ | refine ⟨_, _, rfl, rfl, ?_⟩)
section
variable {P : Program} {w : World} {K : PySem.W.Frag} {mg : Str → Option Value} {base : Heap}

/-- a contract over ps of the facts fs -/
def ConAt (K : PySem.W.Frag) (C Dc : Addr) (H : Hp) (o : Addr) (ps : List Str) (fs : List CF.FD) : Prop := ∃ (dx pt ln ft : Addr) (os : List Addr), H o = some (.ins Dc dx (cfields pt ln ft (CF.textOf fs) (CF.farOf fs) (CF.modOf fs))) ∧ SqT K H pt (ps.map V.str) ∧ H ln = some (.tup ((fs.map CF.FD.text).map V.str)) ∧ SqT K H ft (os.map V.ref) ∧ FactsAt K C H ps os fs
theorem ConAt.same {K : PySem.W.Frag} {C Dc : Addr} {H H' : Hp} {o : Addr} {ps : List Str} {fs : List CF.FD} (h : ConAt K C Dc H o ps fs) (s : Same H H') : ConAt K C Dc H' o ps fs := by
  obtain ⟨dx, pt, ln, ft, os, h1, h2, h3, h4, h5⟩ := h
  exact ⟨dx, pt, ln, ft, os, s _ _ h1, s.tup h2, s _ _ h3, s.tup h4, h5.same s⟩
/-- contract.keeps(places) -/
def spKeeps (K : PySem.W.Frag) (C Dc : Addr) : Sp := fun vs H Q E => ∃ (o a : Addr) (ps : List Str) (fs : List CF.FD) (zs : List Int), vs = [.ref o, .ref a] ∧ ConAt K C Dc H o ps fs ∧ (∀ f ∈ fs, f.Ok ps) ∧ ps.Nodup ∧ (SqL K H a (zs.map V.int) ∨ SqT K H a (zs.map V.int)) ∧
  ((zs.length = ps.length ∧ Q (.bl (CF.kept (CF.look ps zs) fs)) H) ∨ (zs.length ≠ ps.length ∧ E (.ref (He.ga K "BadPlaces")) none H))
/-- contract.broken(places) -/
def spBroken (K : PySem.W.Frag) (C Dc : Addr) : Sp := fun vs H Q E => ∃ (o a : Addr) (ps : List Str) (fs : List CF.FD) (zs : List Int), vs = [.ref o, .ref a] ∧ ConAt K C Dc H o ps fs ∧ (∀ f ∈ fs, f.Ok ps) ∧ fs.length ≤ 1000 ∧ ps.Nodup ∧ (SqL K H a (zs.map V.int) ∨ SqT K H a (zs.map V.int)) ∧
  ((zs.length = ps.length ∧ ∀ (r : Addr) (H' : Hp), Same H H' → H r = none → H' r = some (.lst ((CF.brk (CF.look ps zs) fs).map fun i => V.int (i : Nat))) → Q (.ref r) H') ∨ (zs.length ≠ ps.length ∧ E (.ref (He.ga K "BadPlaces")) none H))
theorem map_len {zs : List Int} {ps : List Str} : ((zs.map V.int).length = (ps.map V.str).length) = (zs.length = ps.length) := by rw [List.length_map, List.length_map]

abbrev s_Contract_keeps : Stmt := inClass (topS 38) 1
theorem sc_Contract_keeps : FnScope ["self", "places"] ["self", "places"] (defScope s_Contract_keeps) := ⟨rfl, rfl, rfl, by decide +kernel, rfl, by decide +kernel, by decide +kernel⟩
theorem ok_Contract_keeps {f : Addr} {fd : FuncData} (T : TxtP K mg) (F : FunD K "keeps" "Contract.keeps" (defArgs s_Contract_keeps) (defBody s_Contract_keeps) (defScope s_Contract_keeps) [] [] f fd) {C Dc : Addr} (DC : ContractC K Dc) (C_check_places : CalX P w K mg base 3 "check_places" ["pointers", "places"] (spCheck K)) (C_all_hold : Cal P w K mg base 3 "all_hold" ["facts", "places"] (spAllHold K C)) : FnOk P w K mg base (CX P w) 4 f fd ["self", "places"] (spKeeps K C Dc) := by
  refine F.okX sc_Contract_keeps (fun vs H Q E h => by obtain ⟨o, a, ps, fs, zs, rfl, _⟩ := h; rfl) (fun cdv A outer s H vs Q E hr h => ?_)
  have hu := hu_of hr

  obtain ⟨o, a, ps, fs, zs, rfl, ⟨dx, pt, ln, ft, os, ho, hpt, hln, hft, fat⟩, ok, nd, hz, alt⟩ := h
  refine ⟨_, (pss_cons (ps_expr (pe_calX (takes_of rfl rfl rfl rfl) C_check_places (hr.mono (by decide)) rfl (pa_cons (pe_fld (pv 0) rfl) (pa_cons (pv 1) pa_nil))))
      (pss_one (ps_ret (pe_cal C_all_hold (hr.mono (by decide)) rfl (pa_cons (pe_fld (pv 0) rfl) (pa_cons (pv 1) pa_nil)))))), ?_⟩
  refine ⟨_, rfl, o, Dc, dx, _, .ref pt, rfl, ho, DC.cl, DC.n_pointers, rfl, _, rfl, pt, a, _, _, rfl, hpt, hz, ?_⟩
  rcases alt with ⟨e, k⟩ | ⟨ne, k⟩
  · refine .inl ⟨map_len.mpr e, ?_⟩
    exact ⟨_, rfl, o, Dc, dx, _, .ref ft, rfl, ho, DC.cl, DC.n_rows, rfl, _, rfl, ft, a, ps, os, fs, zs, rfl, hft, fat, ok, nd, hz, e, k⟩
  · exact .inr ⟨fun z => ne (map_len.mp z), k⟩



theorem brk_next {pl : Str → Int} {fs : List CF.FD} {i : Nat} {f : CF.FD} (h : fs[i]? = some f) : ((List.range (i + 1)).filter fun j => match fs[j]? with | some g => !g.val pl | none => false) = ((List.range i).filter fun j => match fs[j]? with | some g => !g.val pl | none => false) ++ (if f.val pl = true then [] else [i]) := by
  rw [List.range_succ, List.filter_append]
  congr 1
  simp only [List.filter_cons, List.filter_nil, h]
  cases e : f.val pl <;> simp
abbrev s_Contract_broken : Stmt := inClass (topS 38) 2
theorem sc_Contract_broken : FnScope ["self", "places", "index", "fact"] ["self", "places"] (defScope s_Contract_broken) := ⟨rfl, rfl, rfl, by decide +kernel, rfl, by decide +kernel, by decide +kernel⟩
theorem ok_Contract_broken {f : Addr} {fd : FuncData} (T : TxtP K mg) (F : FunD K "broken" "Contract.broken" (defArgs s_Contract_broken) (defBody s_Contract_broken) (defScope s_Contract_broken) [] [] f fd) {C Dc : Addr} (DC : ContractC K Dc) (C_check_places : CalX P w K mg base 3 "check_places" ["pointers", "places"] (spCheck K)) (M_holds : MthX P w K mg base CX0 1 C "holds" ["self", "places"] (spHolds K C)) : FnOk P w K mg base (CX P w) 4 f fd ["self", "places"] (spBroken K C Dc) := by
  refine F.okX sc_Contract_broken (fun vs H Q E h => by obtain ⟨o, a, ps, fs, zs, rfl, _⟩ := h; rfl) (fun cdv A outer s H vs Q E hr h => ?_)
  have hu := hu_of hr

  obtain ⟨o, a, ps, fs, zs, rfl, ⟨dx, pt, ln, ft, os, ho, hpt, hln, hft, fat⟩, ok, big, nd, hz, alt⟩ := h
  refine ⟨_, (pss_cons (ps_expr (pe_calX (takes_of rfl rfl rfl rfl) C_check_places (hr.mono (by decide)) rfl (pa_cons (pe_fld (pv 0) rfl) (pa_cons (pv 1) pa_nil))))
      (pss_one (ps_ret (pe_lc (own := [("index", 2), ("fact", 3)]) (g := gTup K 2 (gCons (gName 2) (gCons (gName 3) (gNil)))) rfl sc_Contract_broken.nd (pi_enumT (by rfl) T.f_enumerate (pa_cons (pe_fld (pv 0) rfl) pa_nil)) (blkOk_by (N := ["self", "places", "index", "fact"]) (sc := defScope s_Contract_broken) (by decide +kernel)) (fun _ _ _ _ _ => (pg_tup rfl (pgs_cons (pg_name (i := 2) sc_Contract_broken.nd rfl (by first | exact Or.inl rfl | exact Or.inr rfl)) (pgs_cons (pg_name (i := 3) sc_Contract_broken.nd rfl (by first | exact Or.inl rfl | exact Or.inr rfl)) pgs_nil)))) (fun _ _ _ _ _ => (pts_one (pt_not (pt_val (pe_mth M_holds (pv 3) (hr.mono (by decide)) pass0 (pa_cons (pv 1) pa_nil)))))) (fun _ _ _ _ _ => (pv 2)))))), ?_⟩
  refine ⟨_, rfl, o, Dc, dx, _, .ref pt, rfl, ho, DC.cl, DC.n_pointers, rfl, _, rfl, pt, a, _, _, rfl, hpt, hz, ?_⟩
  rcases alt with ⟨e, k⟩ | ⟨ne, k⟩
  · refine .inl ⟨map_len.mpr e, ?_⟩
    have ol : (os.map V.ref).length = os.length := List.length_map ..
    refine ⟨_, rfl, o, Dc, dx, _, .ref ft, rfl, ho, DC.cl, DC.n_rows, rfl, ft, _, rfl, hft, fun D hD => lc_it walk_enumT (fun i H' => Same H H' ∧ H' D = some (.lst (((List.range i).filter fun j => match fs[j]? with | some g => !g.val (CF.look ps zs) | none => false).map fun i => V.int (i : Nat))))
      ⟨Same.new hD, upd_same⟩ (fun i H' _ z => z.1.tup hft) ?_ ?_⟩
    · rintro i x H1 H2 hi ⟨s1, h1⟩ ⟨T0, x1, x2, rfl, hT0, rfl, e1, e2⟩
      cases e1
      have e2' : (os.map V.ref)[i]? = some x2 := e2
      rw [List.getElem?_map] at e2'
      obtain ⟨p, hp, rfl⟩ := Option.map_eq_some_iff.mp e2'
      have il : i < fs.length := by
        rw [ol, fat.1] at hi
        exact hi
      have hf : fs[i]? = some fs[i] := List.getElem?_eq_getElem il
      have s2 := s1.trans (Same.new (o := .tup [.int (i : Nat), .ref p]) hT0)
      have h2 := Same.new (o := .tup [.int (i : Nat), .ref p]) hT0 _ _ h1
      have fa := (fat.2 i p _ hp hf).same s2
      have hz2 : SqL K (upd H1 T0 (.tup [.int (i : Nat), .ref p])) a (zs.map V.int) ∨ SqT K (upd H1 T0 (.tup [.int (i : Nat), .ref p])) a (zs.map V.int) := hz.elim (fun h => .inl (s2.seq h)) fun h => .inr (s2.tup h)
      refine ⟨T0, _, rfl, SqT.of upd_same, rfl, _, _, rfl, _, _, rfl, rfl, rfl, ?_⟩
      generalize upd H1 T0 (.tup [.int (i : Nat), .ref p]) = H4 at s2 h2 fa hz2 ⊢
      obtain ⟨dx2, nm, sp, v1, v2, g1, g2, g3⟩ := id fa
      refine ⟨_, rfl, p, dx2, _, rfl, g1, rfl, _, rfl, p, a, ps, fs[i], zs, rfl, fa, ok _ (List.mem_of_getElem? hf), nd, hz2, e, _, rfl, ?_⟩
      rw [brk_next hf]
      cases ev : CF.FD.val (CF.look ps zs) fs[i] with
      | true =>
        rw [if_pos rfl, List.append_nil]
        exact iteF ⟨s2, h2⟩
      | false =>
        rw [if_neg (show ¬ (false = true) by decide)]
        refine iteT ⟨_, rfl, _, h2, ?_, s2.put hD, ?_⟩
        · rw [List.length_map, sizeLine_eq]
          have h3 := List.length_filter_le (fun j => match fs[j]? with | some g => !g.val (CF.look ps zs) | none => false) (List.range i)
          rw [List.length_range] at h3
          omega
        · rw [List.map_append]
          exact upd_same
    · rintro H1 ⟨s1, h1⟩
      rw [ol, fat.1] at h1
      exact k D H1 s1 hD h1
  · exact .inr ⟨fun z => ne (map_len.mp z), k⟩

end
end K05
end
section
set_option Elab.async false
set_option linter.all false
set_option maxRecDepth 100000
set_option maxHeartbeats 1000000
namespace TG
open PySem PySem.Spec PyProof.Rows L2
theorem sc_out {J : It} {n : Nat} {G : Hp → Prop} {Y : Nat → Hp → V → Hp → Prop} (w : Walk J n G Y) {g : TG} {INN : (Hp → Prop) → L2.St → Hp → Prop} {vs : List Nat} {σ : L2.St} {H0 : Hp} {Qd : Hp → Prop} (Pv : Nat → Hp → Prop) (h0 : Pv 0 H0) (hG : ∀ i H, i ≤ n → Pv i H → G H)
    (hs : ∀ i x H H', i < n → Pv i H → Y i H x H' → g x (wipe σ vs) H' fun σ2 H2 => wipe σ2 vs = wipe σ vs ∧ INN (Pv (i + 1)) σ2 H2) (hd : ∀ H, Pv n H → Qd H) :
    ∃ W : Nat → Nat → Hp → Prop, (∃ m, W 0 m H0) ∧ ∀ i m H, W i m H → (J.stop i H ∧ Qd H) ∨ (J.go i H ∧ ∃ N : Hp → Prop, (∀ H', N H' → ∃ m', m' < m ∧ W (i + 1) m' H') ∧ ∀ x H', J.yld i H x H' → g x (wipe σ vs) H' fun σ2 H2 => wipe σ2 vs = wipe σ vs ∧ INN N σ2 H2) := by
  refine ⟨fun i m H => m = n - i ∧ i ≤ n ∧ Pv i H, ⟨n, by simp, Nat.zero_le _, h0⟩, ?_⟩
  rintro i m H ⟨rfl, hi, p⟩
  rcases Nat.lt_or_ge i n with c | c
  · exact .inr ⟨w.goes i H c (hG i H hi p), Pv (i + 1), fun H' p' => ⟨n - (i + 1), by omega, rfl, c, p'⟩, fun x H' y => hs i x H H' c p (w.yields i H x H' c (hG i H hi p) y)⟩
  · obtain rfl : i = n := Nat.le_antisymm hi c
    exact .inl ⟨w.stops H (hG i H hi p), hd H p⟩
theorem rest_it {J : It} {n : Nat} {G : Hp → Prop} {Y : Nat → Hp → V → Hp → Prop} (w : Walk J n G Y) {ad : Adds} {g1 : TG} {te : TE} {vs1 : List Nat} {D : Addr} {N : Hp → Prop} {σ2 : L2.St} {H4 : Hp} (Pv : Nat → Hp → Prop) (h0 : Pv 0 H4) (hG : ∀ i H, i ≤ n → Pv i H → G H)
    (hs : ∀ i x H H', i < n → Pv i H → Y i H x H' → g1 x (wipe σ2 vs1) H' fun σ3 H5 => wipe σ3 vs1 = wipe σ2 vs1 ∧ te σ3 H5 fun y H6 => ad D y H6 (Pv (i + 1))) (hd : ∀ H, Pv n H → N H) : Rest ad g1 te vs1 D N σ2 J H4 := by
  refine ⟨fun i m H => m = n - i ∧ i ≤ n ∧ Pv i H, ⟨n, by simp, Nat.zero_le _, h0⟩, ?_⟩
  rintro i m H ⟨rfl, hi, p⟩
  rcases Nat.lt_or_ge i n with c | c
  · exact .inr ⟨w.goes i H c (hG i H hi p), Pv (i + 1), fun H' p' => ⟨n - (i + 1), by omega, rfl, c, p'⟩, fun x H' y => hs i x H H' c p (w.yields i H x H' c (hG i H hi p) y)⟩
  · obtain rfl : i = n := Nat.le_antisymm hi c
    exact .inl ⟨w.stops H (hG i H hi p), hd H p⟩
end TG
end
section
set_option Elab.async false
set_option linter.all false
set_option maxRecDepth 100000
set_option maxHeartbeats 4000000
namespace K05
open PySem PySem.Spec PyProof.Rows L2
open PySem.W (ke_shaped_ints)
local macro_rules | `(tactic| walk_at "go") => `(tactic| first | refine ⟨_, rfl, ?_⟩ | refine .inl ⟨_, rfl, ?_⟩ | refine ⟨_, _, rfl, rfl, (by first | (show (0 : Int) < _; decide) | exact Or.inl ⟨by decide, by decide⟩ | exact Or.inr ⟨by decide, by decide⟩), ?_⟩ | refine ⟨_, _, rfl, rfl, ?_⟩)
section
variable {P : Program} {w : World} {K : PySem.W.Frag} {mg : Str → Option Value} {base : Heap}

/-- the names that the walk over the places asks for -/
structure TxtN (mg : Str → Option Value) : Prop where
  f_range : mg "range" = none
  f_max : mg "max" = none
  f_min : mg "min" = none
  f_tuple : mg "tuple" = none
  f_sorted : mg "sorted" = none


/-- the tuples at ts are the rows rs -/
def RowsAt (H : Hp) (ts : List Addr) (rs : List (List Int)) : Prop := ts.length = rs.length ∧ ∀ (i : Nat) (t : Addr) (r : List Int), ts[i]? = some t → rs[i]? = some r → H t = some (.tup (r.map V.int))
theorem RowsAt.same {H H' : Hp} {ts : List Addr} {rs : List (List Int)} (h : RowsAt H ts rs) (s : Same H H') : RowsAt H' ts rs := ⟨h.1, fun i t r a b => s _ _ (h.2 i t r a b)⟩
theorem RowsAt.nil {H : Hp} : RowsAt H [] [] := ⟨rfl, fun i t r a => by simp at a⟩
theorem RowsAt.cons {H : Hp} {t : Addr} {r : List Int} {ts : List Addr} {rs : List (List Int)} (h : H t = some (.tup (r.map V.int))) (hs : RowsAt H ts rs) : RowsAt H (t :: ts) (r :: rs) := ⟨by simp [hs.1], fun i u q a b => by
  cases i with
  | zero => simp at a b; subst a; subst b; exact h
  | succ i => exact hs.2 i u q (by simpa using a) (by simpa using b)⟩
theorem tru_int {K : PySem.W.Frag} {i : Int} {H : Hp} : TruV K (.int i) H (!decide (i = 0)) := rfl
theorem ten24 : (1024 : Int) = 1024 := rfl
/-- turns(middle, spread) -/
def spTurns (K : PySem.W.Frag) : Sp := fun vs H Q _ => ∃ m s : Int, vs = [.int m, .int s] ∧ ∀ (q : Addr) (ts : List Addr) (H' : Hp), Same H H' → H q = none → H' q = some (.lst (ts.map V.ref)) → RowsAt H' ts (NM.turns m s) → Q (.ref q) H'

abbrev s_turns : Stmt := topS 3
theorem sc_turns : FnScope ["middle", "spread"] ["middle", "spread"] (defScope s_turns) := ⟨rfl, rfl, rfl, by decide +kernel, rfl, by decide +kernel, by decide +kernel⟩
theorem ok_turns (T : TxtN mg) (D : Def K mg "turns" s_turns) : Cal P w K mg base 1 "turns" ["middle", "spread"] (spTurns K) := by
  refine D.cal sc_turns (fun vs H Q E h => ?_) (fun _ _ _ _ _ _ us hl => match us, hl with | [_, _], _ => rfl) (fun f cdv A outer s H vs Q E hr h => ?_)
  · obtain ⟨m, s, rfl, _⟩ := h
    rfl
  have hu := hu_of hr

  obtain ⟨m, s, rfl, k⟩ := h
  have big : sizeLine = 16777216 := sizeLine_eq
  refine ⟨_, (pss_one (ps_ret (pe_lst (pa_cons (pe_tup (pa_cons pe_int (pa_cons (pv 0) (pa_cons (pv 1) pa_nil)))) (pa_cons (pe_tup (pa_cons pe_int (pa_cons (pv 1) (pa_cons (pv 0) pa_nil)))) (pa_cons (pe_tup (pa_cons (pv 0) (pa_cons pe_int (pa_cons (pv 1) pa_nil)))) (pa_cons (pe_tup (pa_cons (pv 0) (pa_cons (pv 1) (pa_cons pe_int pa_nil)))) (pa_cons (pe_tup (pa_cons (pv 1) (pa_cons pe_int (pa_cons (pv 0) pa_nil)))) (pa_cons (pe_tup (pa_cons (pv 1) (pa_cons (pv 0) (pa_cons pe_int pa_nil)))) pa_nil))))))))), ?_⟩
  have z6 : ∀ n : Nat, n ≤ 6 → n ≤ sizeLine := fun n h => by omega
  refine ⟨_, rfl, _, rfl, z6 3 (by decide), fun t1 h1 => ?_⟩
  refine ⟨_, rfl, _, rfl, z6 3 (by decide), fun t2 h2 => ?_⟩
  refine ⟨_, rfl, _, rfl, z6 3 (by decide), fun t3 h3 => ?_⟩
  refine ⟨_, rfl, _, rfl, z6 3 (by decide), fun t4 h4 => ?_⟩
  refine ⟨_, rfl, _, rfl, z6 3 (by decide), fun t5 h5 => ?_⟩
  refine ⟨_, rfl, _, rfl, z6 3 (by decide), fun t6 h6 => ⟨z6 6 (by decide), fun q hq => ?_⟩⟩
  have s1 := Same.new (o := .tup [.int 0, .int m, .int s]) h1
  have s2 := Same.new (o := .tup [.int 0, .int s, .int m]) h2
  have s3 := Same.new (o := .tup [.int m, .int 0, .int s]) h3
  have s4 := Same.new (o := .tup [.int m, .int s, .int 0]) h4
  have s5 := Same.new (o := .tup [.int s, .int 0, .int m]) h5
  have s6 := Same.new (o := .tup [.int s, .int m, .int 0]) h6
  have s7 := Same.new (o := .lst [.ref t1, .ref t2, .ref t3, .ref t4, .ref t5, .ref t6]) hq
  have all := s1.trans (s2.trans (s3.trans (s4.trans (s5.trans (s6.trans s7)))))
  have hq0 := ((s1.trans (s2.trans (s3.trans (s4.trans (s5.trans s6)))))).free hq
  refine k q [t1, t2, t3, t4, t5, t6] _ all hq0 upd_same ?_
  exact .cons (s7 _ _ (s6 _ _ (s5 _ _ (s4 _ _ (s3 _ _ (s2 _ _ upd_same)))))) (.cons (s7 _ _ (s6 _ _ (s5 _ _ (s4 _ _ (s3 _ _ upd_same))))) (.cons (s7 _ _ (s6 _ _ (s5 _ _ (s4 _ _ upd_same)))) (.cons (s7 _ _ (s6 _ _ (s5 _ _ upd_same))) (.cons (s7 _ _ (s6 _ _ upd_same)) (.cons (s7 _ _ upd_same) .nil)))))



theorem code3 {a b c a' b' c' : Int} (h : (0 ≤ a ∧ a < 1024) ∧ (0 ≤ b ∧ b < 1024) ∧ (0 ≤ c ∧ c < 1024)) (h' : (0 ≤ a' ∧ a' < 1024) ∧ (0 ≤ b' ∧ b' < 1024) ∧ (0 ≤ c' ∧ c' < 1024)) (le : TS.code 1024 [a, b, c] ≤ TS.code 1024 [a', b', c']) (ne : [a, b, c] ≠ [a', b', c']) : NM.lexI [a, b, c] [a', b', c'] = true := by
  have e : ∀ x y z : Int, TS.code 1024 [x, y, z] = x * 1048576 + (y * 1024 + (z * 1 + 0)) := fun x y z => rfl
  rw [e, e] at le
  simp only [NM.lexI]
  by_cases h1 : a = a'
  · rw [if_pos h1]
    by_cases h2 : b = b'
    · rw [if_pos h2]
      by_cases h3 : c = c'
      · exact absurd (by rw [h1, h2, h3]) ne
      · rw [if_neg h3]; exact decide_eq_true (by omega)
    · rw [if_neg h2]; exact decide_eq_true (by omega)
  · rw [if_neg h1]; exact decide_eq_true (by omega)
theorem in_all3 {spread gap : Nat} {z : List Int} (h : z ∈ NM.all3 spread gap) (b : spread < 1024) : ∃ x y u : Int, z = [x, y, u] ∧ (0 ≤ x ∧ x < 1024) ∧ (0 ≤ y ∧ y < 1024) ∧ (0 ≤ u ∧ u < 1024) := by
  obtain ⟨m, ⟨h0, h1, _⟩, ht⟩ := NM.mem_all3.mp h
  simp only [NM.turns, List.mem_cons, List.not_mem_nil, or_false] at ht
  rcases ht with rfl | rfl | rfl | rfl | rfl | rfl <;> exact ⟨_, _, _, rfl, by omega, by omega, by omega⟩
/-- the sorted rows are just those of shape -/
theorem sorted_all3 {spread gap : Nat} {M : List (Addr × List Int)} (b : spread < 1024) (nd : (M.map Prod.snd).Nodup) (up : M.Pairwise fun q r => TS.code 1024 q.2 ≤ TS.code 1024 r.2) (mem : ∀ z, z ∈ M.map Prod.snd ↔ z ∈ NM.all3 spread gap) : M.map Prod.snd = NM.sortL (NM.all3 spread gap) := by
  refine NM.up_uniq ?_ NM.up_sortL fun z => (mem z).trans NM.mem_sortL.symm
  have h2 : (M.map Prod.snd).Pairwise fun a c => TS.code 1024 a ≤ TS.code 1024 c := List.pairwise_map.mpr up
  refine (h2.and nd).imp_of_mem fun {a c} ha hc ⟨le, ne⟩ => ?_
  obtain ⟨x, y, u, rfl, b1⟩ := in_all3 ((mem a).mp ha) b
  obtain ⟨x', y', u', rfl, b2⟩ := in_all3 ((mem c).mp hc) b
  exact code3 b1 b2 le ne
/-- what the set has got -/
def GotR (K : PySem.W.Frag) (H : Hp) (L : List (Addr × List Int)) (got : List (List Int)) : Prop := (∀ p ∈ L, H p.1 = some (.tup (p.2.map V.int))) ∧ (∀ p ∈ L, p.2 ∈ got) ∧ (∀ z ∈ got, z ∈ L.map Prod.snd) ∧ L.length ≤ got.length
theorem GotR.same {K : PySem.W.Frag} {H H' : Hp} {L : List (Addr × List Int)} {got : List (List Int)} (h : GotR K H L got) (s : Same H H') : GotR K H' L got := ⟨fun p hp => s _ _ (h.1 p hp), h.2⟩
theorem GotR.add {K : PySem.W.Frag} {H : Hp} {L L' : List (Addr × List Int)} {got : List (List Int)} {x : Addr} {k : List Int} (h : GotR K H L got) (hx : H x = some (.tup (k.map V.int))) (c1 : k ∈ L.map Prod.snd → L' = L) (c2 : k ∉ L.map Prod.snd → L'.Perm ((x, k) :: L)) : GotR K H L' (got ++ [k]) := by
  obtain ⟨h1, h2, h3, h4⟩ := h
  by_cases c : k ∈ L.map Prod.snd
  · rw [c1 c]
    refine ⟨h1, fun p hp => List.mem_append_left _ (h2 p hp), fun z hz => ?_, by simp; omega⟩
    rcases List.mem_append.mp hz with e | e
    · exact h3 z e
    · rw [List.mem_singleton.mp e]; exact c
  · have pm := c2 c
    refine ⟨fun p hp => ?_, fun p hp => ?_, fun z hz => ?_, by rw [pm.length_eq]; simp; omega⟩
    · rcases List.mem_cons.mp (pm.mem_iff.mp hp) with rfl | e
      · exact hx
      · exact h1 p e
    · rcases List.mem_cons.mp (pm.mem_iff.mp hp) with rfl | e
      · simp
      · exact List.mem_append_left _ (h2 p e)
    · refine (pm.map Prod.snd).mem_iff.mpr ?_
      rw [List.map_cons]
      rcases List.mem_append.mp hz with e | e
      · exact List.mem_cons_of_mem _ (h3 z e)
      · rw [List.mem_singleton.mp e]; exact List.mem_cons_self
theorem mids_len (spread gap : Nat) : (NM.mids spread gap).length = NM.manyM spread gap := by simp [NM.mids]
theorem mids_get {spread gap i : Nat} (h : i < NM.manyM spread gap) : (NM.mids spread gap)[i]? = some (((NM.lowM spread gap + i : Nat)) : Int) := by simp [NM.mids, h]
theorem flat_take (f : Int → List (List Int)) {l : List Int} {i : Nat} {m : Int} (h : l[i]? = some m) : (l.take (i + 1)).flatMap f = (l.take i).flatMap f ++ f m := by rw [List.take_add_one, h]; simp
theorem flat6 (s : Int) (l : List Int) : (l.flatMap fun m => NM.turns m s).length = 6 * l.length := by
  induction l with
  | nil => rfl
  | cons m l ih => rw [List.flatMap_cons, List.length_append, ih, List.length_cons]; show 6 + _ = _; omega
theorem maxS (spread gap : Nat) : (if (spread : Int) - gap > 0 then (spread : Int) - gap else 0) = (NM.lowM spread gap : Int) := by unfold NM.lowM; split <;> omega
theorem minS (spread gap : Nat) : (if (spread : Int) < gap then (spread : Int) else gap) = ((min gap spread : Nat) : Int) := by
  rcases Nat.lt_or_ge spread gap with c | c
  · rw [if_pos (by omega), Nat.min_eq_right (by omega)]
  · rw [if_neg (by omega), Nat.min_eq_left c]
theorem manyS (spread gap : Nat) : (((min gap spread : Nat) : Int) + 1 - (NM.lowM spread gap : Int)).toNat = NM.manyM spread gap := by unfold NM.manyM NM.lowM; omega
/-- shapes(count, spread, gap) -/
def spShapes (K : PySem.W.Frag) : Sp := fun vs H Q _ => ∃ count spread gap : Nat, vs = [.int count, .int spread, .int gap] ∧ 1 ≤ count ∧ count ≤ 3 ∧ spread ≤ 1000000 ∧ (count = 3 → gap ≤ 40 ∧ spread ≤ 100) ∧ gap ≤ 1000000 ∧
  ∀ (q : Addr) (ts : List Addr) (H' : Hp), Same H H' → H q = none → H' q = some (.lst (ts.map V.ref)) → RowsAt H' ts (NM.shape count spread gap) → Q (.ref q) H'

abbrev s_shapes : Stmt := topS 2
theorem sc_shapes : FnScope ["count", "spread", "gap", "middles", "middle", "turn"] ["count", "spread", "gap"] (defScope s_shapes) := ⟨rfl, rfl, rfl, by decide +kernel, rfl, by decide +kernel, by decide +kernel⟩
theorem ok_shapes (T : TxtN mg) (D : Def K mg "shapes" s_shapes) (C_turns : Cal P w K mg base 1 "turns" ["middle", "spread"] (spTurns K)) : Cal P w K mg base 3 "shapes" ["count", "spread", "gap"] (spShapes K) := by
  refine D.cal sc_shapes (fun vs H Q E h => ?_) (fun _ _ _ _ _ _ us hl => match us, hl with | [_, _, _], _ => rfl) (fun f cdv A outer s H vs Q E hr h => ?_)
  · obtain ⟨count, spread, gap, rfl, _⟩ := h
    rfl
  have hu := hu_of hr

  have hu8 : (A.deeper (envOfC "shapes" (defScope s_shapes) s.heap.objs.size f cdv)).units + 8 < cLine := by have := hr.un; omega
  obtain ⟨count, spread, gap, rfl, c1, c3, sb, b3, gb, k⟩ := h
  have big : sizeLine = 16777216 := sizeLine_eq
  refine ⟨_, (pss_cons (ps_if (pt_cmpR op_eq (pv 0) pe_int (nomark _)) (pss_one (ps_ret (pe_lst (pa_cons (pe_tup (pa_cons pe_int pa_nil)) pa_nil)))) pss_nil)
      (pss_cons (ps_if (pt_cmpR op_eq (pv 0) pe_int (nomark _)) (pss_one (ps_ret (pe_ifExp (pt_truth (pv 1) (by intro _; rfl)) (pe_lst (pa_cons (pe_tup (pa_cons pe_int (pa_cons (pv 1) pa_nil))) (pa_cons (pe_tup (pa_cons (pv 1) (pa_cons pe_int pa_nil))) pa_nil))) (pe_lst (pa_cons (pe_tup (pa_cons pe_int (pa_cons pe_int pa_nil))) pa_nil))))) pss_nil)
      (pss_cons (ps_set (i := 3) sc_shapes.nd rfl (by first | exact Or.inl rfl | exact Or.inr rfl) (pe_callTy cr_range2 (by rfl) T.f_range (by decide +kernel) (pa_cons (pe_callB (call_max2 rfl) (by rfl) T.f_max (by decide +kernel) (pa_cons pe_int (pa_cons (pe_op op_sub (pv 1) (pv 2)) pa_nil))) (pa_cons (pe_op op_add (pe_callB (call_min2 rfl) (by rfl) T.f_min (by decide +kernel) (pa_cons (pv 2) (pa_cons (pv 1) pa_nil))) pe_int) pa_nil))))
      (pss_one (ps_ret (pe_callB (TG.cr_sortG (d := 3) (B := 1024) rfl (by decide)) (by rfl) T.f_sorted (by decide +kernel) (pa_cons (TG.pe_sc2 (own := [("middle", 4), ("turn", 5)]) (vs1 := [5]) (g := gName 4) (g1 := gName 5) (te := tVar 5) (wi1 := iList K (tCall (spTurns K) [] E0 (tCons (tVar 4) (tCons (tVar 1) tNil)))) TG.setG_new (TG.adT_ok hu8) rfl sc_shapes.nd (pi_rngV (pv 3)) (blkOk_by (by rfl)) (by decide)
      (fun _ _ _ _ _ => (pg_name (i := 4) sc_shapes.nd rfl (Or.inl rfl))) (fun _ _ _ _ _ => (pi_list (pe_cal C_turns (hr.mono (by decide)) rfl (pa_cons (pv 4) (pa_cons (pv 1) pa_nil))))) (fun _ _ _ _ _ => (pg_name (i := 5) sc_shapes.nd rfl (Or.inl rfl))) (fun _ _ _ _ _ => (pv 5))) pa_nil))))))), ?_⟩
  have e1 : ((decide (V.int (count : Nat) = V.int 1)) = true) ↔ count = 1 := ⟨fun z => by have := V.int.inj (of_decide_eq_true z); omega, fun z => by rw [z]; rfl⟩
  have e2 : ((decide (V.int (count : Nat) = V.int 2)) = true) ↔ count = 2 := ⟨fun z => by have := V.int.inj (of_decide_eq_true z); omega, fun z => by rw [z]; rfl⟩
  refine ⟨_, rfl, rfl, _, rfl, ite2 (fun h => ?_) (fun h => ?_)⟩
  · have := e1.mp h
    subst this
    refine ⟨by show 1 ≤ sizeLine; omega, fun t ht => ⟨by show 1 ≤ sizeLine; omega, fun q hq => ?_⟩⟩
    have hq0 : H q = none := (Same.new ht).free hq
    exact k q [t] _ ((Same.new ht).put hq0) hq0 upd_same (.cons (by rw [upd_ne (ne_of_none upd_same hq)]; exact upd_same) .nil)
  have h1 : count ≠ 1 := fun z => h (e1.mpr z)
  refine ⟨_, rfl, rfl, _, rfl, ite2 (fun h => ?_) (fun h => ?_)⟩
  · have := e2.mp h
    subst this
    refine ⟨_, rfl, _, tru_int, ?_⟩
    have two : ∀ (r1 r2 : List Int) (s0 : spread ≠ 0), r1 = [0, (spread : Int)] → r2 = [(spread : Int), 0] → NM.shape 2 spread gap = [r1, r2] := fun r1 r2 s0 a b => by rw [a, b]; simp [NM.shape, s0]
    by_cases s0 : spread = 0
    · subst s0
      refine iteF ?_
      refine ⟨by show 2 ≤ sizeLine; omega, fun t ht => ⟨by show 1 ≤ sizeLine; omega, fun q hq => ?_⟩⟩
      have hq0 : H q = none := (Same.new ht).free hq
      exact k q [t] _ ((Same.new ht).put hq0) hq0 upd_same (.cons (by rw [upd_ne (ne_of_none upd_same hq)]; exact upd_same) .nil)
    · have tr : (!decide ((spread : Int) = 0)) = true := by simp; omega
      rw [tr]
      refine iteT ?_
      refine ⟨_, rfl, by show 2 ≤ sizeLine; omega, fun t ht => ⟨_, rfl, by show 2 ≤ sizeLine; omega, fun u hu' => ⟨by show 2 ≤ sizeLine; omega, fun q hq => ?_⟩⟩⟩
      have s1 := Same.new (o := .tup [.int 0, .int (spread : Nat)]) ht
      have hu0 := s1.free hu'
      have s2 := s1.put (o := .tup [.int (spread : Nat), .int 0]) hu0
      have hq0 := s2.free hq
      refine k q [t, u] _ (s2.put hq0) hq0 upd_same ?_
      rw [two _ _ s0 rfl rfl]
      refine .cons ?_ (.cons ?_ .nil)
      · rw [upd_ne (ne_of_none (by rw [upd_ne (ne_of_none upd_same hu')]; exact upd_same) hq), upd_ne (ne_of_none upd_same hu')]; exact upd_same
      · rw [upd_ne (ne_of_none upd_same hq)]; exact upd_same
  have h2 : count ≠ 2 := fun z => h (e2.mpr z)
  obtain rfl : count = 3 := by omega
  obtain ⟨g40, s100⟩ := b3 rfl
  refine ⟨_, rfl, _, rfl, _, _, rfl, rfl, _, _, rfl, _, rfl, _, rfl, _, _, rfl, _, _, rfl, rfl, _, _, rfl, fun p hp => ?_⟩
  rw [maxS, minS]
  have s0 := Same.new (o := .rng (NM.lowM spread gap : Int) (((min gap spread : Nat) : Int) + 1)) hp
  have lm : NM.lowM spread gap ≤ 1000000 := by unfold NM.lowM; omega
  have mn : min gap spread ≤ 1000000 := Nat.le_trans (Nat.min_le_left _ _) gb
  refine ⟨_, rfl, p, _, _, rfl, upd_same, ⟨by omega, by omega, by omega, by omega⟩, fun D hD => ?_⟩
  rw [manyS]
  have len : (NM.mids spread gap).length = NM.manyM spread gap := mids_len spread gap
  have few : NM.manyM spread gap ≤ 41 := by unfold NM.manyM; have := Nat.min_le_left gap spread; omega
  generalize hHp : upd H p (.rng (NM.lowM spread gap : Int) (((min gap spread : Nat) : Int) + 1)) = H1 at s0 hD ⊢
  refine TG.sc_out (INN := fun N σ2 H2 => iList K (tCall (spTurns K) [] E0 (tCons (tVar 4) (tCons (tVar 1) tNil))) σ2 H2 (TG.Rest (TG.adT _) (gName 5) (tVar 5) [5] D N σ2)) walk_range
    (fun i H' => Same H1 H' ∧ ∃ L, H' D = some (TG.SetGO _ _ D L) ∧ GotR K H' L (((NM.mids spread gap).take i).flatMap fun m => NM.turns m spread)) ⟨Same.new hD, [], upd_same, fun p hp => (by cases hp), fun p hp => (by cases hp), fun z hz => (by simp at hz), Nat.zero_le _⟩ (fun _ _ _ _ => trivial) ?_ ?_
  · rintro i x H2 H3 hi ⟨s1, L, hL, got⟩ ⟨rfl, rfl⟩
    rw [← len] at hi
    obtain ⟨m, hm⟩ : ∃ m, (NM.mids spread gap)[i]? = some m := ⟨_, List.getElem?_eq_getElem hi⟩
    have em : m = (NM.lowM spread gap : Int) + i := by
      have := mids_get (spread := spread) (gap := gap) (i := i) (by omega)
      rw [hm] at this
      have := Option.some.inj this
      omega
    subst em
    rw [flat_take _ hm]
    have base6 : (((NM.mids spread gap).take i).flatMap fun m => NM.turns m spread).length ≤ 6 * i := by rw [flat6, List.length_take]; omega
    generalize (((NM.mids spread gap).take i).flatMap fun m => NM.turns m spread) = acc at got base6 ⊢
    refine ⟨rfl, _, rfl, _, rfl, _, _, rfl, fun q ts H4 s2 hq h4 rows => ⟨q, rfl, ⟨_, SqL.of h4⟩, ?_⟩⟩
    have hD4 := s2 _ _ hL
    have hqD : q ≠ D := fun z => by rw [z, hL] at hq; cases hq
    refine TG.rest_it walk_list (fun k H' => But D H4 H' ∧ ∃ L, H' D = some (TG.SetGO _ _ D L) ∧ GotR K H' L (acc ++ (NM.turns ((NM.lowM spread gap : Int) + i) spread).take k)) ⟨But.refl _ _, L, hD4, by simpa using got.same s2⟩ (fun k H' _ z => .inl (.inl (z.1 _ _ hqD h4))) ?_ ?_
    · rintro j x H5 H6 hj ⟨b1, L1, hL1, got1⟩ ⟨rfl, hx⟩
      rw [List.getElem?_map] at hx
      obtain ⟨t, ht, rfl⟩ := Option.map_eq_some_iff.mp hx
      have hj6 : j < (NM.turns ((NM.lowM spread gap : Int) + i) spread).length := by rw [← rows.1]; exact (List.getElem?_eq_some_iff.mp ht).1
      obtain ⟨r, hr⟩ : ∃ r, (NM.turns ((NM.lowM spread gap : Int) + i) spread)[j]? = some r := ⟨_, List.getElem?_eq_getElem hj6⟩
      have htD : t ≠ D := ne_of (rows.2 j t r ht hr) hD4 (by intro z; cases z)
      have htt := b1 t _ htD (rows.2 j t r ht hr)
      have l6 : (NM.turns ((NM.lowM spread gap : Int) + i) spread).length = 6 := rfl
      refine ⟨rfl, _, rfl, L1, t, r, hL1, fun p hp => SqT.of (got1.1 p hp), rfl, SqT.of htt, ?_, fun L2' c1 c2 => ?_⟩
      · have := got1.2.2.2
        rw [List.length_append, List.length_take] at this
        omega
      · have g2 := got1.add htt c1 c2
        rw [List.take_add_one, hr, ← List.append_assoc]
        refine ⟨fun b o n e => by rw [upd_ne n]; exact b1 b o n e, L2', upd_same, fun p hp => ?_, g2.2⟩
        have hp1 := g2.1 p hp
        rw [upd_ne (ne_of hp1 hL1 (by intro z; cases z))]
        exact hp1
    · rintro H5 ⟨b1, L1, hL1, got1⟩
      refine ⟨fun b o e => b1 b o (ne_of_none e hD) (s2 b o (s1 b o e)), L1, hL1, ?_⟩
      rw [show (ts.map V.ref).length = (NM.turns ((NM.lowM spread gap : Int) + i) spread).length by rw [List.length_map, rows.1], List.take_length] at got1
      exact got1
  · rintro H2 ⟨s1, L, hL, got⟩
    rw [← len, List.take_length] at got
    have mem : ∀ p ∈ L, p.2 ∈ NM.all3 spread gap := fun p hp => got.2.1 p hp
    refine ⟨D, L, rfl, hL, fun p hp => SqT.of (got.1 p hp), fun p hp => ?_, fun M q pm nd few up hq => ?_⟩
    · obtain ⟨x, y, u, e, b1, b2, b3⟩ := in_all3 (mem p hp) (by omega)
      rw [e]
      refine ⟨rfl, fun z hz => ?_⟩
      simp only [List.mem_cons, List.not_mem_nil, or_false] at hz
      rcases hz with rfl | rfl | rfl
      · exact b1
      · exact b2
      · exact b3
    · have ms : M.map Prod.snd = NM.sortL (NM.all3 spread gap) := sorted_all3 (by omega) nd up fun z => by
        rw [(pm.map Prod.snd).mem_iff]
        exact ⟨fun h => by obtain ⟨p, hp, rfl⟩ := List.mem_map.mp h; exact mem p hp, fun h => got.2.2.1 z h⟩
      have s2 := s0.trans s1
      have hq0 := s2.free hq
      refine k q (M.map Prod.fst) _ (s2.put hq0) hq0 (by rw [List.map_map]; exact upd_same) ⟨?_, fun i t r ht hr => ?_⟩
      · rw [List.length_map]
        have := congrArg List.length ms
        rw [List.length_map] at this
        rw [this]
        simp [NM.shape]
      · rw [List.getElem?_map] at ht
        obtain ⟨pr, hpr, rfl⟩ := Option.map_eq_some_iff.mp ht
        have er : pr.2 = r := by
          have e3 : NM.shape 3 spread gap = M.map Prod.snd := by rw [ms]; simp [NM.shape]
          rw [e3, List.getElem?_map, hpr] at hr
          exact Option.some.inj hr
        have e1 := got.1 pr (pm.mem_iff.mp (List.mem_of_getElem? hpr))
        rw [← er, upd_ne (ne_of_none e1 hq)]
        exact e1

end
end K05
end
section
set_option Elab.async false
set_option linter.all false
set_option maxRecDepth 100000
set_option maxHeartbeats 4000000
namespace K05
open PySem PySem.Spec PyProof.Rows L2
open PySem.W (ke_shaped_ints)
local macro_rules | `(tactic| walk_at "go") => `(tactic| first | refine ⟨_, rfl, ?_⟩ | refine .inl ⟨_, rfl, ?_⟩ | refine ⟨_, _, rfl, rfl, (by first | (show (0 : Int) < _; decide) | exact Or.inl ⟨by decide, by decide⟩ | exact Or.inr ⟨by decide, by decide⟩), ?_⟩ | refine ⟨_, _, rfl, rfl, ?_⟩)
section
variable {P : Program} {w : World} {K : PySem.W.Frag} {mg : Str → Option Value} {base : Heap}

/-- near_places(count, width, far, modulus) -/
def spNear : SpZ := fun vs zss => ∃ count width far modulus : Nat, vs = [.int count, .int width, .int far, .int modulus] ∧ 1 ≤ count ∧ count ≤ 3 ∧ 1 ≤ modulus ∧ width + far + modulus ≤ 10000 ∧ (count = 3 → width + far + modulus ≤ 40) ∧
  zss = (NM.nearL count (width + far + modulus) modulus).map fun r => r.map V.int

abbrev s_near : Stmt := topS 1
theorem sc_near : GScope ["count", "width", "far", "modulus", "gap", "spread", "rows", "least", "row", "shift"] ["count", "width", "far", "modulus"] (defScope s_near) := ⟨rfl, rfl, rfl, by decide +kernel, rfl, by decide +kernel, by decide +kernel⟩
theorem ok_near (T : TxtN mg) (C_shapes : Cal P w K mg base 3 "shapes" ["count", "spread", "gap"] (spShapes K)) (D : Def K mg "near_places" s_near) : CalZ P w K mg base 5 "near_places" ["count", "width", "far", "modulus"] spNear := by
  refine D.calZ sc_near (fun vs zss h => ?_) (fun _ _ _ _ _ _ us hl => match us, hl with | [_, _, _, _], _ => rfl) (fun f cdv A outer L vs zss hr h => ?_)
  · obtain ⟨count, width, far, modulus, rfl, _⟩ := h
    rfl
  have hu := hu_of hr

  obtain ⟨count, width, far, modulus, rfl, c1, c3, m1, g1, g3, rfl⟩ := h
  have big : sizeLine = 16777216 := sizeLine_eq
  refine ⟨_, (gfs_cons (gf_ps (fun _ => (ps_set (i := 4) sc_near.nd rfl (by first | exact Or.inl rfl | exact Or.inr rfl) (pe_op op_add (pe_op op_add (pv 1) (pv 2)) (pv 3)))))
      (gfs_one (gf_for (fun _ => (pi_range1 rfl T.f_range (pa_cons (pe_op op_add (pe_op op_mul (pe_op op_sub (pv 0) pe_int) (pv 4)) pe_int) pa_nil))) (fun _ => (pg_name (i := 5) sc_near.nd rfl (by first | exact Or.inl rfl | exact Or.inr rfl))) (gfs_cons (gf_ps (fun _ => (ps_set (i := 6) sc_near.nd rfl (by first | exact Or.inl rfl | exact Or.inr rfl) (pe_cal C_shapes (hr.mono (by decide)) rfl (pa_cons (pv 0) (pa_cons (pv 5) (pa_cons (pv 4) pa_nil)))))))
      (gfs_one (gf_for (fun _ => (pi_range1 rfl T.f_range (pa_cons (pv 3) pa_nil))) (fun _ => (pg_name (i := 7) sc_near.nd rfl (by first | exact Or.inl rfl | exact Or.inr rfl))) (gfs_one (gf_for (fun _ => (pi_list (pv 6))) (fun _ => (pg_name (i := 8) sc_near.nd rfl (by first | exact Or.inl rfl | exact Or.inr rfl))) (gfs_one (gf_yield (fun _ => (pe_callTy call_tuple_of (by rfl) T.f_tuple (by decide +kernel) (pa_cons (pe_lc (own := [("shift", 9)]) (g := gName 9) (tt := tYes) rfl sc_near.nd (pi_tup (pv 8)) (blkOk_by (N := ["count", "width", "far", "modulus", "gap", "spread", "rows", "least", "row", "shift"]) (sc := defScope s_near) (by decide +kernel)) (fun _ _ _ _ _ => (pg_name (i := 9) sc_near.nd rfl (Or.inl rfl))) (fun _ _ _ _ _ => pts_nil) (fun _ _ _ _ _ => (pe_op op_add (pv 7) (pv 9)))) pa_nil))) rfl)))))))))), fun ix H => ?_⟩
  obtain ⟨gap, hgap⟩ : ∃ gap, gap = width + far + modulus := ⟨_, rfl⟩
  refine ⟨_, rfl, _, rfl, _, _, rfl, rfl, _, rfl, _, _, rfl, rfl, ?_⟩
  have eg : (width : Int) + far + modulus = (gap : Nat) := by omega
  dsimp only
  rw [eg, ← hgap]
  rw [← hgap] at g1 g3
  have cm : (count - 1) * gap ≤ 20000 := by
    have : count - 1 = 0 ∨ count - 1 = 1 ∨ count - 1 = 2 := by omega
    rcases this with e | e | e <;> rw [e] <;> omega
  have ec : ((count : Nat) : Int) - 1 = ((count - 1 : Nat) : Int) := by omega
  refine ⟨_, rfl, _, _, rfl, rfl, _, rfl, _, _, rfl, rfl, .inl ⟨by omega, by omega⟩, _, _, rfl, rfl, _, rfl, ?_⟩
  have en : (((count : Nat) : Int) - 1) * (gap : Int) + 1 = (((count - 1) * gap + 1 : Nat) : Int) := by rw [ec]; push_cast; rfl
  rw [en]
  refine ⟨by omega, by omega, ?_⟩
  rw [Int.toNat_natCast]
  generalize hn : (count - 1) * gap + 1 = n at cm ⊢
  generalize hZ : NM.nearL count gap modulus = Z
  have hZ' : Z = (List.range n).flatMap fun spread => NM.spreadAt count gap modulus spread := by rw [← hZ, ← hn]; rfl
  have lenZ : (Z.map fun r => r.map V.int).length = Z.length := List.length_map ..
  refine gfor_it (n := n) walk_range (fun i j σ H' => ∃ a b c d, σ = [some (.int count), some (.int width), some (.int far), some (.int modulus), some (.int (gap : Nat)), a, b, c, d, none] ∧ Z.drop j = ((List.range n).drop i).flatMap (fun spread => NM.spreadAt count gap modulus spread) ∧ j ≤ Z.length)
    ⟨none, none, none, none, rfl, by rw [List.drop_zero, List.drop_zero, hZ'], Nat.zero_le _⟩ (fun _ _ _ _ _ _ => trivial) ?_ ?_
  rotate_left
  · rintro j ix σ H1 ⟨_, _, _, _, _, h1, h2⟩
    show j = (Z.map fun r => r.map V.int).length
    rw [range_end] at h1
    have := List.drop_eq_nil_iff.mp h1
    rw [lenZ]; omega
  rintro s j ix x σ H1 H2 hs ⟨_, b, c, d, rfl, hd, hj⟩ ⟨rfl, rfl⟩
  rw [range_next hs, List.flatMap_cons] at hd
  generalize ((List.range n).drop (s + 1)).flatMap (fun spread => NM.spreadAt count gap modulus spread) = more at hd ⊢
  refine ⟨_, rfl, _, rfl, _, rfl, count, s, gap, by show [V.int _, V.int (0 + (s : Int)), V.int _] = _; rw [Int.zero_add], c1, c3, by omega, fun h3 => ⟨g3 h3, ?_⟩, by omega, fun q ts H3 s3 hq h3 rows => ?_⟩
  · subst h3; have := g3 rfl; omega
  refine ⟨_, rfl, _, rfl, by omega, by omega, ?_⟩
  rw [Int.toNat_natCast]
  refine gfor_it (n := modulus) walk_range (fun l j σ H' => ∃ c d, σ = [some (.int count), some (.int width), some (.int far), some (.int modulus), some (.int (gap : Nat)), some (.int (0 + (s : Nat))), some (.ref q), c, d, none] ∧ H' q = some (.lst (ts.map V.ref)) ∧ RowsAt H' ts (NM.shape count s gap) ∧
    Z.drop j = ((List.range modulus).drop l).flatMap (fun least => NM.rowsAt count gap s least) ++ more ∧ j ≤ Z.length) ⟨c, d, rfl, h3, rows, hd, hj⟩ (fun _ _ _ _ _ _ => trivial) ?_ ?_
  rotate_left
  · rintro j ix σ H4 ⟨c, d, rfl, _, _, h1, h2⟩
    rw [range_end] at h1
    exact ⟨_, _, _, _, rfl, h1, h2⟩
  rintro l j ix x σ H4 H5 hl ⟨_, d, rfl, h4, rows4, hd, hj⟩ ⟨rfl, rfl⟩
  rw [range_next hl, List.flatMap_cons, List.append_assoc] at hd
  generalize ((List.range modulus).drop (l + 1)).flatMap (fun least => NM.rowsAt count gap s least) ++ more = more2 at hd ⊢
  refine ⟨_, rfl, q, rfl, ⟨_, SqL.of h4⟩, ?_⟩
  have lts : (ts.map V.ref).length = ts.length := List.length_map ..
  rw [show NM.rowsAt count gap s l = ((NM.shape count s gap).drop 0).map fun row => row.map fun x => (l : Int) + x by rw [List.drop_zero]; rfl] at hd
  refine gfor_it walk_list (fun k j σ H' => ∃ d, σ = [some (.int count), some (.int width), some (.int far), some (.int modulus), some (.int (gap : Nat)), some (.int (0 + (s : Nat))), some (.ref q), some (.int (0 + (l : Nat))), d, none] ∧ H' q = some (.lst (ts.map V.ref)) ∧ RowsAt H' ts (NM.shape count s gap) ∧
    Z.drop j = (((NM.shape count s gap).drop k).map fun row => row.map fun x => (l : Int) + x) ++ more2 ∧ j ≤ Z.length) ⟨d, rfl, h4, rows4, hd, hj⟩ (fun k j σ H' _ ⟨_, _, h, _⟩ => SqL.of h) ?_ ?_
  rotate_left
  · rintro j ix σ H6 ⟨d, rfl, h6, rows6, h1, h2⟩
    rw [lts, rows6.1, List.drop_length] at h1
    exact ⟨_, _, rfl, h6, rows6, h1, h2⟩
  rintro k j ix x σ H6 H7 hk ⟨_, rfl, h6, rows6, hd, hj⟩ ⟨rfl, hx⟩
  rw [List.getElem?_map] at hx
  obtain ⟨t, ht, rfl⟩ := Option.map_eq_some_iff.mp hx
  have hks : k < (NM.shape count s gap).length := by rw [← rows6.1]; rw [lts] at hk; exact hk
  obtain ⟨row, hrow⟩ : ∃ row, (NM.shape count s gap)[k]? = some row := ⟨_, List.getElem?_eq_getElem hks⟩
  have htr := rows6.2 k t row ht hrow
  rw [drop_next hrow, List.map_cons, List.cons_append] at hd
  have hjl : j < Z.length := by
    rcases Nat.lt_or_ge j Z.length with h | h
    · exact h
    · rw [List.drop_of_length_le h] at hd; cases hd
  have hzj : Z[j]? = some (row.map fun x => (l : Int) + x) := by
    have := congrArg (fun l : List (List Int) => l[0]?) hd
    simpa using this
  have hd2 : Z.drop (j + 1) = (((NM.shape count s gap).drop (k + 1)).map fun row => row.map fun x => (l : Int) + x) ++ more2 := by
    have e := drop_next hzj
    rw [e] at hd
    exact (List.cons.inj hd).2
  have rl : row.length ≤ 3 := by
    have hm : (row.map fun x => (l : Int) + x) ∈ NM.nearL count gap modulus := by rw [hZ]; exact List.mem_of_getElem? hzj
    have := NM.near_len ((NM.near_mem ⟨c1, c3⟩).mp hm)
    rw [List.length_map] at this
    omega
  refine ⟨_, rfl, t, rfl, ⟨_, SqT.of htr⟩, fun D hD => lc_it walk_tup (fun i H' => Same H7 H' ∧ H' D = some (.lst (((row.take i).map fun x => (l : Int) + x).map V.int))) ⟨Same.new hD, upd_same⟩ (fun i H' _ z => SqT.of (z.1 _ _ htr)) ?_ ?_⟩
  · rintro i y H8 H9 hi ⟨s8, h8⟩ ⟨rfl, hy⟩
    rw [List.getElem?_map] at hy
    obtain ⟨v, hv, rfl⟩ := Option.map_eq_some_iff.mp hy
    refine ⟨rfl, _, rfl, _, rfl, _, _, rfl, rfl, _, h8, ?_, s8.put hD, ?_⟩
    · simp only [List.length_map, List.length_take]; omega
    · rw [List.take_add_one, hv, List.map_append, List.map_append, Int.zero_add]; exact upd_same
  · rintro H8 ⟨s8, h8⟩
    rw [List.length_map, List.take_length] at h8
    refine ⟨D, _, rfl, .inl ⟨SqL.of h8, fun u hu8 => ?_⟩⟩
    refine ⟨u, _, rfl, upd_same, by rw [List.getElem?_map, hzj]; rfl, fun ix' H9 hx => ⟨_, rfl, ?_, ⟨by rw [rows6.1], fun i a r ha hr => ?_⟩, hd2, hjl⟩⟩
    · have hq8 := s8 _ _ h6
      exact hx _ _ (plainBut_lst (ne_of_none hq8 hu8) (by rw [upd_ne (ne_of_none hq8 hu8)]; exact hq8))
    · have ha8 := s8 _ _ (rows6.2 i a r ha hr)
      exact hx _ _ (plainBut_tup (ne_of_none ha8 hu8) (by rw [upd_ne (ne_of_none ha8 hu8)]; exact ha8))
end
end K05
end
section
set_option Elab.async false
set_option linter.all false
set_option maxRecDepth 100000
set_option maxHeartbeats 4000000
namespace K05
open PySem PySem.Spec PyProof.Rows L2
open PySem.W (ke_shaped_ints)
local macro_rules | `(tactic| walk_at "go") => `(tactic| first | refine ⟨_, rfl, ?_⟩ | refine .inl ⟨_, rfl, ?_⟩ | refine ⟨_, _, rfl, rfl, (by first | (show (0 : Int) < _; decide) | exact Or.inl ⟨by decide, by decide⟩ | exact Or.inr ⟨by decide, by decide⟩), ?_⟩ | refine ⟨_, _, rfl, rfl, ?_⟩)
section
variable {P : Program} {w : World} {K : PySem.W.Frag} {mg : Str → Option Value} {base : Heap}

theorem passNo {P : Program} {w : World} {X : Cx} : Passes (L2.CX P w) X E0 := fun _ _ _ _ _ _ _ h => by
  obtain ⟨_, _, _, _, _, _, _, _, _, _, _, _, z⟩ := h
  exact z.elim
/-- the first of the places that are enough that keep the facts -/
def firstKept (ps : List Str) (fs : List CF.FD) : Option (List Int) := (NM.nearL ps.length ((CF.farOf fs).toNat + (CF.modOf fs).toNat) (CF.modOf fs).toNat).find? fun zs => CF.kept (CF.look ps zs) fs
theorem far_nn (fs : List CF.FD) : 0 ≤ CF.farOf fs := by
  unfold CF.farOf
  have : ∀ (l : List CF.FD) (a : Int), 0 ≤ a → 0 ≤ l.foldl (fun a f => CF.mx a f.far) a := by
    intro l
    induction l with
    | nil => exact fun a h => h
    | cons f l ih => exact fun a h => ih _ (by show 0 ≤ (if f.far > a then f.far else a); split <;> omega)
  exact this fs 0 (Int.le_refl _)
theorem mod_pos1 (fs : List CF.FD) : 1 ≤ CF.modOf fs := by
  unfold CF.modOf
  have : ∀ (l : List CF.FD) (a : Int), 1 ≤ a → 1 ≤ l.foldl (fun a f => CF.mx a f.mod) a := by
    intro l
    induction l with
    | nil => exact fun a h => h
    | cons f l ih => exact fun a h => ih _ (by show 1 ≤ (if f.mod > a then f.mod else a); split <;> omega)
  exact this fs 1 (Int.le_refl _)
/-- of what size a question is asked -/
def AskOk (n : Nat) (gap : Int) : Prop := 1 ≤ n ∧ n ≤ 3 ∧ gap ≤ 10000 ∧ (n = 3 → gap ≤ 40)
theorem near_len' {n gap m : Nat} (h : 1 ≤ n ∧ n ≤ 3) {zs : List Int} (hz : zs ∈ NM.nearL n gap m) : zs.length = n := NM.near_len ((NM.near_mem h).mp hz)
/-- contract.nearest() -/
def spNearest (K : PySem.W.Frag) (C Dc : Addr) : Sp := fun vs H Q _ => ∃ (o : Addr) (ps : List Str) (fs : List CF.FD), vs = [.ref o] ∧ ConAt K C Dc H o ps fs ∧ (∀ f ∈ fs, f.Ok ps) ∧ ps.Nodup ∧ AskOk ps.length (CF.farOf fs + CF.modOf fs) ∧
  ∀ H', Same H H' → match firstKept ps fs with
    | none => Q .non H'
    | some zs => ∀ t, H' t = some (.tup (zs.map V.int)) → Q (.ref t) H'

abbrev s_Contract_nearest : Stmt := inClass (topS 38) 3
theorem sc_Contract_nearest : FnScope ["self", "places"] ["self"] (defScope s_Contract_nearest) := ⟨rfl, rfl, rfl, by decide +kernel, rfl, by decide +kernel, by decide +kernel⟩
theorem ok_Contract_nearest {f : Addr} {fd : FuncData} (T : TxtP K mg) (C_near_places : CalZ P w K mg base 5 "near_places" ["count", "width", "far", "modulus"] spNear) {C Dc : Addr} (DC : ContractC K Dc) (M_keeps : MthX P w K mg base (CX P w) 4 Dc "keeps" ["self", "places"] (spKeeps K C Dc)) (F : FunD K "nearest" "Contract.nearest" (defArgs s_Contract_nearest) (defBody s_Contract_nearest) (defScope s_Contract_nearest) [] [] f fd) : FnOk P w K mg base CX0 6 f fd ["self"] (spNearest K C Dc) := by
  refine F.ok sc_Contract_nearest (fun vs H Q E h => by obtain ⟨o, ps, fs, rfl, _⟩ := h; rfl) (fun cdv A outer s H vs Q E hr h => ?_)
  suffices z : ∃ t, PSs (cxOf CX0 P w K mg base ["self", "places"] "Contract.nearest" (defScope s_Contract_nearest) f cdv A outer s H E).nox (defBody s_Contract_nearest) t ∧ t { nx := fun _ H' => Q .non H', rt := Q } (start ["self", "places"] vs) H by
    obtain ⟨t, h1, h2⟩ := z
    exact ⟨t, h1.nox, h2⟩
  have hu := hu_of hr

  obtain ⟨o, ps, fs, rfl, ca, ok, nd, ⟨n1, n3, gb, g3⟩, k⟩ := h
  have fn := far_nn fs
  have mp := mod_pos1 fs
  refine ⟨_, (pss_cons (ps_forGen (fun _ _ h => h) rfl hr.depth (pz_cal C_near_places (hr.mono (by decide)) rfl (pa_cons (pe_callB call_len (by rfl) T.f_len PySem.boot_len (pa_cons (pe_fld (pv 0) rfl) pa_nil)) (pa_cons pe_int (pa_cons (pe_fld (pv 0) rfl) (pa_cons (pe_fld (pv 0) rfl) pa_nil))))) (pg_name (i := 1) sc_Contract_nearest.nd rfl (by first | exact Or.inl rfl | exact Or.inr rfl)) (pss_one (ps_if (pt_val (pe_mth M_keeps (pv 0) (hr.mono (by decide)) passNo (pa_cons (pv 1) pa_nil))) (pss_one (ps_ret (pv 1))) pss_nil)))
      (pss_one (ps_ret pe_non))), ?_⟩
  obtain ⟨dx, pt, ln, ft, os, ho, hpt, hln, hft, fat⟩ := id ca
  refine ⟨_, rfl, o, Dc, dx, _, .ref pt, rfl, ho, DC.cl, DC.n_pointers, rfl, _, _, rfl, .inr ⟨_, hpt, rfl⟩, ?_⟩
  have lp : (ps.map V.str).length = ps.length := List.length_map ..
  obtain ⟨fa, hfa⟩ : ∃ fa : Nat, CF.farOf fs = (fa : Int) := ⟨(CF.farOf fs).toNat, by omega⟩
  obtain ⟨mo, hmo⟩ : ∃ mo : Nat, CF.modOf fs = (mo : Int) := ⟨(CF.modOf fs).toNat, by omega⟩
  refine ⟨_, rfl, o, Dc, dx, _, .int (CF.farOf fs), rfl, ho, DC.cl, DC.n_far, rfl, _, rfl, o, Dc, dx, _, .int (CF.modOf fs), rfl, ho, DC.cl, DC.n_modulus, rfl, _, ⟨ps.length, 0, fa, mo, ?_, n1, n3, by omega, by omega, fun e => by have := g3 e; omega, rfl⟩, ?_⟩
  · rw [lp, hfa, hmo]; rfl
  have unf : firstKept ps fs = (NM.nearL ps.length (0 + fa + mo) mo).find? fun zs => CF.kept (CF.look ps zs) fs := by
    unfold firstKept
    rw [hfa, hmo, Int.toNat_natCast, Int.toNat_natCast, Nat.zero_add]
  rw [unf] at k
  have lenz : ∀ zs ∈ NM.nearL ps.length (0 + fa + mo) mo, zs.length = ps.length := fun zs hz => near_len' ⟨n1, n3⟩ hz
  generalize NM.nearL ps.length (0 + fa + mo) mo = Z at k lenz ⊢
  refine ⟨fun i σ H' => (∃ v, σ = [some (.ref o), v]) ∧ Same H H' ∧ ∀ zs ∈ Z.take i, CF.kept (CF.look ps zs) fs = false, fun H2 e => ⟨⟨none, rfl⟩, fun b u h => ?_, by simp⟩, ?_⟩
  · rcases e b with z | ⟨z, _⟩
    · rw [z]; exact h
    · rw [h] at z; cases z
  rintro i σ H1 hi ⟨⟨v, rfl⟩, s1, none_⟩ H3 chg
  have s3 := chg.same s1
  refine ⟨fun e => ?_, fun zs hz => ?_⟩
  · have kf : Z.find? (fun zs => CF.kept (CF.look ps zs) fs) = none := List.find?_eq_none.mpr fun zs hz => by
      rw [none_ zs (by rw [e, List.length_map, List.take_length]; exact hz)]
      decide
    have := k H3 s3
    rw [kf] at this
    exact this
  · rw [List.getElem?_map] at hz
    obtain ⟨r, hr, rfl⟩ := Option.map_eq_some_iff.mp hz
    refine ⟨fun σ' H' => (∃ v, σ' = [some (.ref o), v]) ∧ Same H3 H' ∧ CF.kept (CF.look ps r) fs = false, fun σ' H' ⟨h1, h2, h3⟩ => ⟨Fz.same h2, h1, s3.trans h2, fun zs hz => ?_⟩, fun t ht => ?_⟩
    · rw [List.take_add_one, hr] at hz
      rcases List.mem_append.mp hz with h | h
      · exact none_ zs h
      · rw [Option.toList_some, List.mem_singleton] at h
        rw [h]; exact h3
    · have s4 := s3.put (o := .tup (r.map V.int)) (s3.free ht)
      have sn := Same.new (o := .tup (r.map V.int)) ht
      have ht4 : upd H3 t (.tup (r.map V.int)) t = some (.tup (r.map V.int)) := upd_same
      generalize upd H3 t (.tup (r.map V.int)) = H4 at s4 sn ht4 ⊢
      refine ⟨_, rfl, o, dx, _, rfl, s4 _ _ ho, rfl, _, rfl, o, t, ps, fs, r, rfl, ca.same s4, ok, nd, .inr (SqT.of ht4), .inl ⟨lenz r (List.mem_of_getElem? hr), _, rfl, ?_⟩⟩
      cases e : CF.kept (CF.look ps r) fs with
      | true =>
        refine iteT ⟨_, rfl, ?_⟩
        have kf : Z.find? (fun zs => CF.kept (CF.look ps zs) fs) = some r := by
          have il := (List.getElem?_eq_some_iff.mp hr).1
          rw [← List.take_append_drop i Z, List.find?_append, List.find?_eq_none.mpr (fun zs hz => by rw [none_ zs hz]; decide), drop_next hr, List.find?_cons_of_pos (by rw [e])]
          rfl
        have := k H4 s4
        rw [kf] at this
        exact this t ht4
      | false => exact iteF ⟨⟨_, rfl⟩, sn, rfl⟩
end
end K05
end
section
set_option Elab.async false
set_option linter.all false
set_option maxRecDepth 100000
set_option maxHeartbeats 4000000
/-! far places are like near ones -/
namespace CP
open PySem PySem.Spec PyProof.Rows L2 CF
/-- two distances that no fact tells apart -/
def Alike (F d d' : Int) : Prop := d' = d ∨ (F < d ∧ F < d') ∨ (d < -F ∧ d' < -F)
structure LikeP (F M : Int) (ps : List Str) (pl pl' : Str → Int) : Prop where
  at_ : ∀ a ∈ ps, M ∣ pl' a - pl a
  diff : ∀ a ∈ ps, ∀ b ∈ ps, Alike F (pl b - pl a) (pl' b - pl' a)
theorem ab_cases (z : Int) : (0 ≤ z ∧ ab z = z) ∨ (z < 0 ∧ ab z = -z) := by
  unfold ab
  split <;> omega
theorem val_like {F M : Int} {ps : List Str} {pl pl' : Str → Int} (L : LikeP F M ps pl pl') {f : FD} (ok : f.Ok ps) (hf : f.far ≤ F) (hm : f.mod ∣ M) : f.val pl' = f.val pl := by
  have cong : ∀ {m x y : Int}, m ∣ M → M ∣ y - x → y % m = x % m := fun {m x y} h1 h2 => by
    have := Int.dvd_trans h1 h2
    exact Int.emod_eq_emod_iff_emod_sub_eq_zero.mpr (Int.emod_eq_zero_of_dvd this)
  cases f with
  | by_ a m r =>
    obtain ⟨ha, _⟩ := ok
    simp only [FD.val]
    rw [cong (m := m) hm (L.at_ a ha)]
  | gap a b m r =>
    obtain ⟨ha, hb, _⟩ := ok
    simp only [FD.val]
    have h : M ∣ (pl' b - pl' a) - (pl b - pl a) := by
      have := Int.dvd_sub (L.at_ b hb) (L.at_ a ha)
      rw [show (pl' b - pl' a) - (pl b - pl a) = (pl' b - pl b) - (pl' a - pl a) by omega]
      exact this
    rw [cong (m := m) hm h]
  | dist w a b n =>
    obtain ⟨_, ha, hb, _⟩ := ok
    have d := L.diff a ha b hb
    simp only [FD.far] at hf
    have an := ab_cases n
    simp only [FD.val]
    unfold Alike at d
    have e1 : decide (n ≤ pl' b - pl' a) = decide (n ≤ pl b - pl a) := decide_eq_decide.mpr (by omega)
    have e2 : decide (pl' b - pl' a ≤ n) = decide (pl b - pl a ≤ n) := decide_eq_decide.mpr (by omega)
    have e3 : decide (pl' b - pl' a = n) = decide (pl b - pl a = n) := decide_eq_decide.mpr (by omega)
    simp only [e1, e2, e3, ge_iff_le]
  | apart a k n b e c =>
    obtain ⟨ha, hb, _, h1, h2, h3, h4⟩ := ok
    have d := L.diff a ha b hb
    simp only [FD.far] at hf
    have ak := ab_cases k
    have ae := ab_cases e
    obtain ⟨n1, _⟩ := h2
    obtain ⟨c1, _⟩ := h4
    simp only [FD.val]
    unfold Alike at d
    have e1 : decide (pl' a + k + n ≤ pl' b + e) = decide (pl a + k + n ≤ pl b + e) := decide_eq_decide.mpr (by omega)
    have e2 : decide (pl' b + e + c ≤ pl' a + k) = decide (pl b + e + c ≤ pl a + k) := decide_eq_decide.mpr (by omega)
    rw [e1, e2]
/-- a distance made small -/
def comp (F M d : Int) : Int := if d ≤ F then d else F + 1 + (d - F - 1) % M
theorem comp_ok {F M d : Int} (hF : 0 ≤ F) (hM : 1 ≤ M) (hd : 0 ≤ d) : 0 ≤ comp F M d ∧ comp F M d ≤ F + M ∧ (comp F M d = d ∨ (F < d ∧ F < comp F M d)) ∧ ∃ k, comp F M d = d + M * k := by
  unfold comp
  split
  · exact ⟨hd, by omega, .inl rfl, 0, by rw [Int.mul_zero, Int.add_zero]⟩
  · have h1 := Int.emod_nonneg (d - F - 1) (show M ≠ 0 by omega)
    have h2 := Int.emod_lt_of_pos (d - F - 1) (show 0 < M by omega)
    have h3 := Int.mul_ediv_add_emod (d - F - 1) M
    refine ⟨by omega, by omega, .inr ⟨by omega, by omega⟩, -((d - F - 1) / M), ?_⟩
    rw [Int.mul_neg]
    omega
/-- where a place goes -/
def phi (F M l m u z : Int) : Int := if z ≤ l then l % M else if z ≤ m then l % M + comp F M (m - l) else l % M + comp F M (m - l) + comp F M (u - m)
structure Tri (F M l m u l' m' u' : Int) (g : Int → Int) : Prop where
  gl : g l = l'
  gm : g m = m'
  gu : g u = u'
  l0 : 0 ≤ l'
  l1 : l' < M
  lm : l' ≤ m'
  lm2 : m' ≤ l' + (F + M)
  mu : m' ≤ u'
  mu2 : u' ≤ m' + (F + M)
  like : ∀ x ∈ [l, m, u], M ∣ g x - x ∧ ∀ y ∈ [l, m, u], Alike F (y - x) (g y - g x)
theorem tri {F M l m u : Int} (hF : 0 ≤ F) (hM : 1 ≤ M) (h1 : l ≤ m) (h2 : m ≤ u) : ∃ l' m' u' g, Tri F M l m u l' m' u' g := by
  obtain ⟨a1, a2, a3, k1, a4⟩ := comp_ok hF hM (show 0 ≤ m - l by omega)
  obtain ⟨b1, b2, b3, k2, b4⟩ := comp_ok hF hM (show 0 ≤ u - m by omega)
  have c1 := Int.emod_nonneg l (show M ≠ 0 by omega)
  have c2 := Int.emod_lt_of_pos l (show 0 < M by omega)
  have c3 := Int.mul_ediv_add_emod l M
  have gl : phi F M l m u l = l % M := if_pos (Int.le_refl _)
  have gm : phi F M l m u m = l % M + comp F M (m - l) := by
    unfold phi
    split
    · have : m = l := by omega
      subst this
      rcases a3 with e | ⟨e, _⟩ <;> omega
    · rw [if_pos (Int.le_refl _)]
  have gu : phi F M l m u u = l % M + comp F M (m - l) + comp F M (u - m) := by
    unfold phi
    split
    · rcases a3 with e | ⟨e, _⟩ <;> rcases b3 with e' | ⟨e', _⟩ <;> omega
    · split
      · rcases b3 with e' | ⟨e', _⟩ <;> omega
      · rfl
  refine ⟨_, _, _, phi F M l m u, gl, gm, gu, c1, c2, by omega, by omega, by omega, by omega, fun x hx => ?_⟩
  generalize phi F M l m u = g at gl gm gu ⊢
  generalize comp F M (m - l) = d1 at *
  generalize comp F M (u - m) = d2 at *
  have dl : M ∣ l % M - l := ⟨-(l / M), by rw [Int.mul_neg]; omega⟩
  have dm : M ∣ l % M + d1 - m := by
    have : l % M + d1 - m = (l % M - l) + M * k1 := by omega
    rw [this]
    exact Int.dvd_add dl ⟨k1, rfl⟩
  have du : M ∣ l % M + d1 + d2 - u := by
    have : l % M + d1 + d2 - u = (l % M + d1 - m) + M * k2 := by omega
    rw [this]
    exact Int.dvd_add dm ⟨k2, rfl⟩
  unfold Alike
  simp only [List.mem_cons, List.not_mem_nil, or_false] at hx ⊢
  refine ⟨?_, fun y hy => ?_⟩
  · rcases hx with rfl | rfl | rfl
    · rw [gl]; exact dl
    · rw [gm]; exact dm
    · rw [gu]; exact du
  · clear dl dm du a4 b4
    rcases hx with rfl | rfl | rfl <;> rcases hy with rfl | rfl | rfl <;> simp only [gl, gm, gu] <;> omega
theorem look_map {ps : List Str} {zs : List Int} {a : Str} (g : Int → Int) (nd : ps.Nodup) (hl : zs.length = ps.length) (h : a ∈ ps) : look ps (zs.map g) a = g (look ps zs a) ∧ look ps zs a ∈ zs := by
  obtain ⟨i, hi, hz⟩ := look_val nd hl h
  have h2 := look_at (zs := zs.map g) nd (by rw [List.length_map]; exact hl) hi
  rw [List.getElem?_map, hz] at h2
  exact ⟨(Option.some.inj h2).symm, List.mem_of_getElem? hz⟩
/-- near places that are like them -/
theorem small {ps : List Str} {zs : List Int} {F M : Nat} (hM : 1 ≤ M) (nd : ps.Nodup) (hl : zs.length = ps.length) (h1 : 1 ≤ ps.length) (h3 : ps.length ≤ 3) :
    ∃ zs', NM.Near ps.length (F + M) M zs' ∧ LikeP F M ps (look ps zs) (look ps zs') := by
  have fin : ∀ {l m u l' m' u' : Int} {g : Int → Int}, Tri F M l m u l' m' u' g → (∀ z ∈ zs, z ∈ [l, m, u]) → LikeP F M ps (look ps zs) (look ps (zs.map g)) := fun {l m u l' m' u' g} T sub => by
    refine ⟨fun a ha => ?_, fun a ha b hb => ?_⟩
    · obtain ⟨e, i⟩ := look_map g nd hl ha
      rw [e]
      exact (T.like _ (sub _ i)).1
    · obtain ⟨e, i⟩ := look_map g nd hl ha
      obtain ⟨e', i'⟩ := look_map g nd hl hb
      rw [e, e']
      exact (T.like _ (sub _ i)).2 _ (sub _ i')
  have hF : (0 : Int) ≤ (F : Int) := by omega
  have hM' : (1 : Int) ≤ (M : Int) := by omega
  match zs, hl with
  | [], hl => simp at hl; omega
  | [x], hl =>
    obtain ⟨l', m', u', g, T⟩ := tri hF hM' (Int.le_refl x) (Int.le_refl x)
    refine ⟨[x].map g, .inl ⟨hl.symm, l', by rw [List.map_cons, T.gl]; rfl, T.l0, T.l1⟩, fin T (by simp)⟩
  | [x, y], hl =>
    have hn : ps.length = 2 := hl.symm
    rcases Int.le_total x y with c | c
    · obtain ⟨l', m', u', g, T⟩ := tri hF hM' (Int.le_refl x) c
      have e : m' = l' := T.gm.symm.trans T.gl
      have mu := T.mu
      have mu2 := T.mu2
      refine ⟨[x, y].map g, .inr (.inl ⟨hn, l', u', l', u', by rw [List.map_cons, List.map_cons, T.gl, T.gu]; rfl, .inl ⟨rfl, rfl⟩, T.l0, T.l1, by omega, by omega⟩), fin T (by simp)⟩
    · obtain ⟨l', m', u', g, T⟩ := tri hF hM' (Int.le_refl y) c
      have e : m' = l' := T.gm.symm.trans T.gl
      have mu := T.mu
      have mu2 := T.mu2
      refine ⟨[x, y].map g, .inr (.inl ⟨hn, u', l', l', u', by rw [List.map_cons, List.map_cons, T.gl, T.gu]; rfl, .inr ⟨rfl, rfl⟩, T.l0, T.l1, by omega, by omega⟩), fin T (by simp)⟩
  | [x, y, z], hl =>
    have hn : ps.length = 3 := hl.symm
    have go : ∀ {l m u : Int}, l ≤ m → m ≤ u → [x, y, z] ∈ [[l, m, u], [l, u, m], [m, l, u], [m, u, l], [u, l, m], [u, m, l]] → ∃ zs', NM.Near ps.length (F + M) M zs' ∧ LikeP F M ps (look ps [x, y, z]) (look ps zs') := fun {l m u} q1 q2 hp => by
      obtain ⟨l', m', u', g, T⟩ := tri hF hM' q1 q2
      have l0 := T.l0
      have l1 := T.l1
      have lm := T.lm
      have lm2 := T.lm2
      have mu := T.mu
      have mu2 := T.mu2
      refine ⟨[x, y, z].map g, .inr (.inr ⟨hn, l', m', u', ?_, l0, l1, lm, by omega, mu, by omega⟩), fin T ?_⟩
      · have := List.mem_map_of_mem (f := List.map g) hp
        simpa only [List.map_cons, List.map_nil, T.gl, T.gm, T.gu] using this
      · simp only [List.mem_cons, List.not_mem_nil, or_false, List.cons.injEq, and_true] at hp
        intro w hw
        simp only [List.mem_cons, List.not_mem_nil, or_false] at hw ⊢
        rcases hp with ⟨rfl, rfl, rfl⟩ | ⟨rfl, rfl, rfl⟩ | ⟨rfl, rfl, rfl⟩ | ⟨rfl, rfl, rfl⟩ | ⟨rfl, rfl, rfl⟩ | ⟨rfl, rfl, rfl⟩ <;> rcases hw with rfl | rfl | rfl <;> simp
    rcases Int.le_total x y with c1 | c1 <;> rcases Int.le_total y z with c2 | c2 <;> rcases Int.le_total x z with c3 | c3
    · exact go c1 c2 (by simp)
    · exact go c1 c2 (by simp)
    · exact go c3 c2 (by simp)
    · exact go c3 c1 (by simp)
    · exact go c1 c3 (by simp)
    · exact go c2 c3 (by simp)
    · exact go c2 c1 (by simp)
    · exact go c2 c1 (by simp)
  | _ :: _ :: _ :: _ :: _, hl => simp at hl; omega
end CP
namespace CP
open PySem PySem.Spec PyProof.Rows L2 CF
theorem mod4 {ps : List Str} : ∀ {f : CF.FD}, f.Ok ps → f.mod = 1 ∨ f.mod = 2 ∨ f.mod = 4 ∨ f.mod = 8
  | .by_ .., ⟨_, h, _⟩ => .inr h
  | .gap .., ⟨_, _, _, h, _⟩ => .inr h
  | .apart .., _ => .inl rfl
  | .dist .., _ => .inl rfl
theorem mx_ge (a b : Int) : a ≤ mx a b ∧ b ≤ mx a b ∧ (mx a b = a ∨ mx a b = b) := by
  unfold mx
  split <;> omega
/-- what the greatest of them is -/
theorem fold_ge (g : CF.FD → Int) : ∀ (fs : List CF.FD) (a : Int), a ≤ fs.foldl (fun a f => mx a (g f)) a ∧ (∀ f ∈ fs, g f ≤ fs.foldl (fun a f => mx a (g f)) a) ∧ (fs.foldl (fun a f => mx a (g f)) a = a ∨ ∃ f ∈ fs, g f = fs.foldl (fun a f => mx a (g f)) a)
  | [], a => ⟨Int.le_refl _, by simp, .inl rfl⟩
  | f :: r, a => by
    obtain ⟨h1, h2, h3⟩ := fold_ge g r (mx a (g f))
    obtain ⟨m1, m2, m3⟩ := mx_ge a (g f)
    refine ⟨Int.le_trans m1 h1, fun x hx => ?_, ?_⟩
    · rcases List.mem_cons.mp hx with rfl | hx
      · exact Int.le_trans m2 h1
      · exact h2 x hx
    · rcases h3 with e | ⟨x, hx, e⟩
      · rcases m3 with e' | e'
        · exact .inl (by show r.foldl _ (mx a (g f)) = a; rw [e, e'])
        · exact .inr ⟨f, List.mem_cons_self, by show g f = r.foldl _ (mx a (g f)); rw [e, e']⟩
      · exact .inr ⟨x, List.mem_cons_of_mem _ hx, e⟩
theorem far_le {fs : List CF.FD} {f : CF.FD} (h : f ∈ fs) : f.far ≤ farOf fs := (fold_ge (·.far) fs 0).2.1 f h
theorem mod_le {fs : List CF.FD} {f : CF.FD} (h : f ∈ fs) : f.mod ≤ modOf fs := (fold_ge (·.mod) fs 1).2.1 f h
theorem far_0 (fs : List CF.FD) : 0 ≤ farOf fs := (fold_ge (·.far) fs 0).1
theorem mod_1 (fs : List CF.FD) : 1 ≤ modOf fs := (fold_ge (·.mod) fs 1).1
theorem far_up {fs : List CF.FD} {b : Int} (h0 : 0 ≤ b) (h : ∀ f ∈ fs, f.far ≤ b) : farOf fs ≤ b := by
  rcases (fold_ge (·.far) fs 0).2.2 with e | ⟨f, hf, e⟩
  · show fs.foldl (fun a f => mx a f.far) 0 ≤ b; rw [e]; exact h0
  · show fs.foldl (fun a f => mx a f.far) 0 ≤ b; rw [← e]; exact h f hf
theorem mod_up {fs : List CF.FD} {b : Int} (h0 : 1 ≤ b) (h : ∀ f ∈ fs, f.mod ≤ b) : modOf fs ≤ b := by
  rcases (fold_ge (·.mod) fs 1).2.2 with e | ⟨f, hf, e⟩
  · show fs.foldl (fun a f => mx a f.mod) 1 ≤ b; rw [e]; exact h0
  · show fs.foldl (fun a f => mx a f.mod) 1 ≤ b; rw [← e]; exact h f hf
theorem mods {ps : List Str} {fs : List CF.FD} (ok : ∀ f ∈ fs, f.Ok ps) : modOf fs = 1 ∨ modOf fs = 2 ∨ modOf fs = 4 ∨ modOf fs = 8 := by
  rcases (fold_ge (·.mod) fs 1).2.2 with e | ⟨f, hf, e⟩
  · exact .inl e
  · have := mod4 (ok f hf)
    rw [show f.mod = modOf fs from e] at this
    exact this
theorem dvd4 {n M : Int} (h1 : n = 1 ∨ n = 2 ∨ n = 4 ∨ n = 8) (h2 : M = 1 ∨ M = 2 ∨ M = 4 ∨ M = 8) (h : n ≤ M) : n ∣ M := by
  rcases h2 with rfl | rfl | rfl | rfl <;> rcases h1 with rfl | rfl | rfl | rfl <;> first | (exfalso; omega) | decide
/-- fs1 implies fs2 -/
def Imp (ps : List Str) (fs1 fs2 : List CF.FD) : Prop := ∀ zs : List Int, zs.length = ps.length → kept (look ps zs) fs1 = true → kept (look ps zs) fs2 = true
theorem kept_congr {pl pl' : Str → Int} {fs : List CF.FD} (h : ∀ f ∈ fs, f.val pl' = f.val pl) : kept pl' fs = kept pl fs := by
  unfold kept
  rw [Bool.eq_iff_iff, List.all_eq_true, List.all_eq_true]
  exact ⟨fun a f hf => (h f hf) ▸ a f hf, fun a f hf => (h f hf).symm ▸ a f hf⟩
theorem imp_near {ps : List Str} {fs1 fs2 : List CF.FD} {F M : Nat} (nd : ps.Nodup) (h1 : 1 ≤ ps.length) (h3 : ps.length ≤ 3) (ok1 : ∀ f ∈ fs1, f.Ok ps) (ok2 : ∀ f ∈ fs2, f.Ok ps) (hF : ∀ f ∈ fs1 ++ fs2, f.far ≤ (F : Int)) (hM : ∀ f ∈ fs1 ++ fs2, f.mod ∣ (M : Int)) (M1 : 1 ≤ M)
    (all : ∀ z, NM.Near ps.length (F + M) M z → kept (look ps z) fs1 = true → kept (look ps z) fs2 = true) : Imp ps fs1 fs2 := by
  intro zs hl k1
  obtain ⟨zs', near, L⟩ := small (F := F) (M := M) M1 nd hl h1 h3
  have e1 := kept_congr (fs := fs1) fun f hf => val_like L (ok1 f hf) (hF f (List.mem_append_left _ hf)) (hM f (List.mem_append_left _ hf))
  have e2 := kept_congr (fs := fs2) fun f hf => val_like L (ok2 f hf) (hF f (List.mem_append_right _ hf)) (hM f (List.mem_append_right _ hf))
  rw [← e2]
  exact all zs' near (by rw [e1]; exact k1)
theorem near_len' {n g m : Nat} {z : List Int} (h : NM.Near n g m z) : z.length = n := NM.near_len h
end CP
namespace CP
open PySem PySem.Spec PyProof.Rows L2 CF
theorem flat_le {α : Type} (f : Nat → List α) (b : Nat) (h : ∀ i, (f i).length ≤ b) (n : Nat) : ((List.range n).flatMap f).length ≤ n * b := by
  induction n with
  | zero => simp
  | succ n ih =>
    have e : [n].flatMap f = f n := by simp
    rw [List.range_succ, List.flatMap_append, List.length_append, Nat.succ_mul, e]
    have := h n
    omega
theorem ins_len (x : List Int) : ∀ l : List (List Int), (NM.insL x l).length ≤ l.length + 1
  | [] => by simp [NM.insL]
  | y :: l => by
    unfold NM.insL
    split
    · simp
    · split
      · simp
      · have := ins_len x l
        simp
        exact this
theorem sort_len : ∀ l : List (List Int), (NM.sortL l).length ≤ l.length
  | [] => by simp [NM.sortL]
  | x :: l => by
    have h1 := ins_len x (NM.sortL l)
    have h2 := sort_len l
    show (NM.insL x (NM.sortL l)).length ≤ _
    rw [List.length_cons]
    omega
theorem all3_len (spread gap : Nat) : (NM.all3 spread gap).length ≤ (gap + 1) * 6 := by
  unfold NM.all3 NM.mids
  rw [List.flatMap_map]
  refine Nat.le_trans (flat_le _ 6 (fun i => by simp [NM.turns]) _) (Nat.mul_le_mul_right _ ?_)
  unfold NM.manyM
  have := Nat.min_le_left gap spread
  omega
/-- there are not too many of them -/
theorem near_few {count gap modulus : Nat} (hc : 1 ≤ count ∧ count ≤ 3) (m8 : modulus ≤ 8) (g : gap ≤ 10000) (g3 : count = 3 → gap ≤ 40) : (NM.nearL count gap modulus).length ≤ 170000 := by
  have row : ∀ spread least, (NM.rowsAt count gap spread least).length ≤ if count = 3 then 246 else 2 := fun spread least => by
    unfold NM.rowsAt
    rw [List.length_map]
    unfold NM.shape
    split
    · split <;> simp
    · split
      · rename_i e
        split <;> simp [e]
      · have h3 : count = 3 := by omega
        rw [if_pos h3]
        have h4 := sort_len (NM.all3 spread gap)
        have h5 := all3_len spread gap
        have := g3 h3
        omega
  unfold NM.nearL NM.spreadAt
  by_cases h3 : count = 3
  · simp only [if_pos h3] at row
    have g' := g3 h3
    have a : ∀ i, ((List.range modulus).flatMap fun least => NM.rowsAt count gap i least).length ≤ 1968 := fun i => by
      have := flat_le (fun least => NM.rowsAt count gap i least) 246 (fun l => row i l) modulus
      omega
    have b := flat_le (fun spread => (List.range modulus).flatMap fun least => NM.rowsAt count gap spread least) 1968 a ((count - 1) * gap + 1)
    rw [h3] at b ⊢
    omega
  · simp only [if_neg h3] at row
    have a : ∀ i, ((List.range modulus).flatMap fun least => NM.rowsAt count gap i least).length ≤ 16 := fun i => by
      have := flat_le (fun least => NM.rowsAt count gap i least) 2 (fun l => row i l) modulus
      omega
    have b := flat_le (fun spread => (List.range modulus).flatMap fun least => NM.rowsAt count gap spread least) 16 a ((count - 1) * gap + 1)
    have c : count = 1 ∨ count = 2 := by omega
    rcases c with rfl | rfl <;> omega
theorem brk_congr {pl pl' : Str → Int} {fs : List CF.FD} (h : ∀ f ∈ fs, f.val pl' = f.val pl) : brk pl' fs = brk pl fs := by
  unfold brk
  refine List.filter_congr fun i hi => ?_
  have hi' := List.mem_range.mp hi
  rw [List.getElem?_eq_getElem hi']
  show (!FD.val _ fs[i]) = !FD.val _ fs[i]
  rw [h _ (List.getElem_mem hi')]
theorem brk_near {ps : List Str} {fs : List CF.FD} {F M : Nat} (nd : ps.Nodup) (h1 : 1 ≤ ps.length) (h3 : ps.length ≤ 3) (ok : ∀ f ∈ fs, f.Ok ps) (hF : ∀ f ∈ fs, f.far ≤ (F : Int)) (hM : ∀ f ∈ fs, f.mod ∣ (M : Int)) (M1 : 1 ≤ M) {zs : List Int} (hl : zs.length = ps.length) :
    ∃ z, NM.Near ps.length (F + M) M z ∧ brk (look ps z) fs = brk (look ps zs) fs := by
  obtain ⟨zs', near, L⟩ := small (F := F) (M := M) M1 nd hl h1 h3
  exact ⟨zs', near, brk_congr fun f hf => val_like L (ok f hf) (hF f hf) (hM f hf)⟩
end CP
end
section
set_option Elab.async false
set_option linter.all false
set_option maxRecDepth 100000
set_option maxHeartbeats 4000000
namespace K05
open PySem PySem.Spec PyProof.Rows L2
open PySem.W (ke_shaped_ints)
local macro_rules | `(tactic| walk_at "go") => `(tactic| first | refine ⟨_, rfl, ?_⟩ | refine .inl ⟨_, rfl, ?_⟩ | refine ⟨_, _, rfl, rfl, (by first | (show (0 : Int) < _; decide) | exact Or.inl ⟨by decide, by decide⟩ | exact Or.inr ⟨by decide, by decide⟩), ?_⟩ | refine ⟨_, _, rfl, rfl, ?_⟩)
section
variable {P : Program} {w : World} {K : PySem.W.Frag} {mg : Str → Option Value} {base : Heap}

/-- far_of of two contracts -/
def sp_cfar (K : PySem.W.Frag) (C Dc : Addr) : Sp := fun vs H Q _ => ∃ (a o1 o2 : Addr) (ps1 ps2 : List Str) (fs1 fs2 : List CF.FD), vs = [.ref a] ∧ H a = some (.lst [.ref o1, .ref o2]) ∧ ConAt K C Dc H o1 ps1 fs1 ∧ ConAt K C Dc H o2 ps2 fs2 ∧
  ∀ m H', (m = CF.farOf fs1 ∨ m = CF.farOf fs2) → CF.farOf fs1 ≤ m → CF.farOf fs2 ≤ m → Same H H' → Q (.int m) H'
abbrev s_cfar_of : Stmt := topS 34
theorem sc_cfar_of : FnScope ["things", "thing"] ["things"] (defScope s_cfar_of) := ⟨rfl, rfl, rfl, by decide +kernel, rfl, by decide +kernel, by decide +kernel⟩
theorem ok_cfar_of (T : TxtP K mg) (D : Def K mg "far_of" s_cfar_of) {C Dc : Addr} (DC : ContractC K Dc) : Cal P w K mg base 1 "far_of" ["things"] (sp_cfar K C Dc) := by
  refine D.cal sc_cfar_of (fun vs H Q E h => ?_) (fun _ _ _ _ _ _ us hl => match us, hl with | [_], _ => rfl) (fun f cdv A outer s H vs Q E hr h => ?_)
  · obtain ⟨a, o1, o2, ps1, ps2, fs1, fs2, rfl, _⟩ := h
    rfl
  have hu := hu_of hr

  obtain ⟨a, o1, o2, ps1, ps2, fs1, fs2, rfl, ha, c1, c2, k⟩ := h
  refine ⟨_, (pss_one (ps_ret (pe_callBK (cr_maxD rfl) (by rfl) T.f_max (by decide +kernel) (pa_cons (pe_lc (own := [("thing", 1)]) (g := gName 1) (tt := tYes) (te := tFld K (tVar 1) "far") rfl sc_cfar_of.nd (pi_list (pv 0)) (blkOk_by (N := ["things", "thing"]) (sc := defScope s_cfar_of) (by decide +kernel)) (fun _ _ _ _ _ => (pg_name (i := 1) sc_cfar_of.nd rfl (Or.inl rfl))) (fun _ _ _ _ _ => pts_nil) (fun _ _ _ _ _ => (pe_fld (pv 1) rfl))) pa_nil) (pk_cons pe_int pk_nil)))), ?_⟩
  obtain ⟨dx1, _, _, _, _, h1, _⟩ := c1
  obtain ⟨dx2, _, _, _, _, h2, _⟩ := c2
  have big : sizeLine = 16777216 := sizeLine_eq
  refine ⟨_, rfl, a, rfl, ⟨_, SqL.of ha⟩, fun D hD => lc_it walk_list (fun i H' => Same H H' ∧ H' D = some (.lst ((([CF.farOf fs1, CF.farOf fs2] : List Int).take i).map V.int)))
    ⟨Same.new hD, upd_same⟩ (fun i H' _ z => SqL.of (z.1 _ _ ha)) ?_ ?_⟩
  · rintro i y G1 G2 hi ⟨s1, g1⟩ ⟨rfl, hx⟩
    have i2 : i = 0 ∨ i = 1 := by
      have : i < 2 := hi
      omega
    rcases i2 with rfl | rfl
    · cases hx
      exact ⟨rfl, _, rfl, o1, Dc, dx1, _, .int (CF.farOf fs1), rfl, s1 _ _ h1, DC.cl, DC.n_far, rfl, _, g1, by rw [big, List.length_map, List.length_take]; exact Nat.lt_of_le_of_lt (Nat.min_le_left _ _) (by decide), s1.put hD, upd_same⟩
    · cases hx
      exact ⟨rfl, _, rfl, o2, Dc, dx2, _, .int (CF.farOf fs2), rfl, s1 _ _ h2, DC.cl, DC.n_far, rfl, _, g1, by rw [big, List.length_map, List.length_take]; exact Nat.lt_of_le_of_lt (Nat.min_le_left _ _) (by decide), s1.put hD, upd_same⟩
  · rintro G ⟨s1, g1⟩
    refine ⟨D, [CF.farOf fs1, CF.farOf fs2], 0, rfl, rfl, SqL.of g1, fun e => (by cases e), fun m hm hle => ?_⟩
    refine k m _ (by simpa using hm) (hle _ (by simp)) (hle _ (by simp)) s1



/-- modulus_of of two contracts -/
def sp_cmodulus (K : PySem.W.Frag) (C Dc : Addr) : Sp := fun vs H Q _ => ∃ (a o1 o2 : Addr) (ps1 ps2 : List Str) (fs1 fs2 : List CF.FD), vs = [.ref a] ∧ H a = some (.lst [.ref o1, .ref o2]) ∧ ConAt K C Dc H o1 ps1 fs1 ∧ ConAt K C Dc H o2 ps2 fs2 ∧
  ∀ m H', (m = CF.modOf fs1 ∨ m = CF.modOf fs2) → CF.modOf fs1 ≤ m → CF.modOf fs2 ≤ m → Same H H' → Q (.int m) H'
abbrev s_cmodulus_of : Stmt := topS 35
theorem sc_cmodulus_of : FnScope ["things", "thing"] ["things"] (defScope s_cmodulus_of) := ⟨rfl, rfl, rfl, by decide +kernel, rfl, by decide +kernel, by decide +kernel⟩
theorem ok_cmodulus_of (T : TxtP K mg) (D : Def K mg "modulus_of" s_cmodulus_of) {C Dc : Addr} (DC : ContractC K Dc) : Cal P w K mg base 1 "modulus_of" ["things"] (sp_cmodulus K C Dc) := by
  refine D.cal sc_cmodulus_of (fun vs H Q E h => ?_) (fun _ _ _ _ _ _ us hl => match us, hl with | [_], _ => rfl) (fun f cdv A outer s H vs Q E hr h => ?_)
  · obtain ⟨a, o1, o2, ps1, ps2, fs1, fs2, rfl, _⟩ := h
    rfl
  have hu := hu_of hr

  obtain ⟨a, o1, o2, ps1, ps2, fs1, fs2, rfl, ha, c1, c2, k⟩ := h
  refine ⟨_, (pss_one (ps_ret (pe_callBK (cr_maxD rfl) (by rfl) T.f_max (by decide +kernel) (pa_cons (pe_lc (own := [("thing", 1)]) (g := gName 1) (tt := tYes) (te := tFld K (tVar 1) "modulus") rfl sc_cmodulus_of.nd (pi_list (pv 0)) (blkOk_by (N := ["things", "thing"]) (sc := defScope s_cmodulus_of) (by decide +kernel)) (fun _ _ _ _ _ => (pg_name (i := 1) sc_cmodulus_of.nd rfl (Or.inl rfl))) (fun _ _ _ _ _ => pts_nil) (fun _ _ _ _ _ => (pe_fld (pv 1) rfl))) pa_nil) (pk_cons pe_int pk_nil)))), ?_⟩
  obtain ⟨dx1, _, _, _, _, h1, _⟩ := c1
  obtain ⟨dx2, _, _, _, _, h2, _⟩ := c2
  have big : sizeLine = 16777216 := sizeLine_eq
  refine ⟨_, rfl, a, rfl, ⟨_, SqL.of ha⟩, fun D hD => lc_it walk_list (fun i H' => Same H H' ∧ H' D = some (.lst ((([CF.modOf fs1, CF.modOf fs2] : List Int).take i).map V.int)))
    ⟨Same.new hD, upd_same⟩ (fun i H' _ z => SqL.of (z.1 _ _ ha)) ?_ ?_⟩
  · rintro i y G1 G2 hi ⟨s1, g1⟩ ⟨rfl, hx⟩
    have i2 : i = 0 ∨ i = 1 := by
      have : i < 2 := hi
      omega
    rcases i2 with rfl | rfl
    · cases hx
      exact ⟨rfl, _, rfl, o1, Dc, dx1, _, .int (CF.modOf fs1), rfl, s1 _ _ h1, DC.cl, DC.n_modulus, rfl, _, g1, by rw [big, List.length_map, List.length_take]; exact Nat.lt_of_le_of_lt (Nat.min_le_left _ _) (by decide), s1.put hD, upd_same⟩
    · cases hx
      exact ⟨rfl, _, rfl, o2, Dc, dx2, _, .int (CF.modOf fs2), rfl, s1 _ _ h2, DC.cl, DC.n_modulus, rfl, _, g1, by rw [big, List.length_map, List.length_take]; exact Nat.lt_of_le_of_lt (Nat.min_le_left _ _) (by decide), s1.put hD, upd_same⟩
  · rintro G ⟨s1, g1⟩
    refine ⟨D, [CF.modOf fs1, CF.modOf fs2], 1, rfl, rfl, SqL.of g1, fun e => (by cases e), fun m hm hle => ?_⟩
    refine k m _ (by simpa using hm) (hle _ (by simp)) (hle _ (by simp)) s1



theorem text_nil : CF.textOf [] = "" := by decide +kernel
/-- joined_lines(pointers, lines, rows) -/
def spJoined (K : PySem.W.Frag) (C Dc : Addr) : Sp := fun vs H Q _ => ∃ (pa la ra : Addr) (os : List Addr) (ps : List Str) (fs : List CF.FD), vs = [.ref pa, .ref la, .ref ra] ∧ SqT K H pa (ps.map V.str) ∧ CF.Names ps ∧ H la = some (.tup ((fs.map CF.FD.text).map V.str)) ∧ H ra = some (.tup (os.map V.ref)) ∧ FactsAt K C H ps os fs ∧ (∀ f ∈ fs, f.Ok ps) ∧ fs.length ≤ 12 ∧
  ∀ (o : Addr) (H' : Hp), Same H H' → ConAt K C Dc H' o ps fs → Q (.ref o) H'
abbrev s_joined_lines : Stmt := topS 40
theorem sc_joined_lines : FnScope ["pointers", "lines", "rows", "joined"] ["pointers", "lines", "rows"] (defScope s_joined_lines) := ⟨rfl, rfl, rfl, by decide +kernel, rfl, by decide +kernel, by decide +kernel⟩
theorem ok_joined_lines (T : TxtP K mg) (D : Def K mg "joined_lines" s_joined_lines) {C Dc : Addr} (nCD : C ≠ Dc) (DC : ContractC K Dc) (M_Contract : Mkc P w K mg base 8 "Contract" Dc ["self", "pointers", "text"] (spContractInit K C Dc)) (C_far_of : Cal P w K mg base 1 "far_of" ["things"] (sp_far_of K C)) (C_modulus_of : Cal P w K mg base 1 "modulus_of" ["things"] (sp_modulus_of K C)) : Cal P w K mg base 10 "joined_lines" ["pointers", "lines", "rows"] (spJoined K C Dc) := by
  refine D.cal sc_joined_lines (fun vs H Q E h => ?_) (fun _ _ _ _ _ _ us hl => match us, hl with | [_, _, _], _ => rfl) (fun f cdv A outer s H vs Q E hr h => ?_)
  · obtain ⟨pa, la, ra, os, ps, fs, rfl, _⟩ := h
    rfl
  have hu := hu_of hr

  obtain ⟨pa, la, ra, os, ps, fs, rfl, hp, nms, hl, hr', fat, ok, f12, k⟩ := h
  refine ⟨_, (pss_cons (ps_set (i := 3) sc_joined_lines.nd rfl (by first | exact Or.inl rfl | exact Or.inr rfl) (pe_mkc M_Contract (hr.mono (by decide)) rfl (pa_cons (pv 0) (pa_cons pe_str pa_nil))))
      (pss_cons (ps_fld (pv 3) (pe_join pe_str (pv 1)) rfl)
      (pss_cons (ps_fld (pv 3) (pv 1) rfl)
      (pss_cons (ps_fld (pv 3) (pv 2) rfl)
      (pss_cons (ps_fld (pv 3) (pe_cal C_far_of (hr.mono (by decide)) rfl (pa_cons (pv 2) pa_nil)) rfl)
      (pss_cons (ps_fld (pv 3) (pe_cal C_modulus_of (hr.mono (by decide)) rfl (pa_cons (pv 2) pa_nil)) rfl)
      (pss_one (ps_ret (pv 3))))))))), ?_⟩
  have big : sizeLine = 16777216 := sizeLine_eq
  have lt : ∀ (l : List (Str × V)), l.length ≤ 7 → l.length < 1000 := fun l h => by omega
  have fit := CF.lines_fit (fun z hz => (nms.1 z hz).hi) ok (by omega)
  refine ⟨_, rfl, fun o dx ho hdx ne => ?_⟩
  refine ⟨o, dx, pa, ps, [], by rw [text_nil]; rfl, upd_same, .inr ((made_same ho hdx (But.refl o _)).tup hp), nms, by simp, .nil, by decide, fun pt ln ft os0 H6 but ho6 hpt hln hft fat2 => ⟨rfl, ?_⟩⟩
  have s6 : Same H H6 := made_same ho hdx but
  have hl6 := s6 _ _ hl
  have hr6 := s6 _ _ hr'
  have fat6 := fat.same s6
  have nlo : ∀ {G : Hp} {q : Addr} {xs : List V} {fl : List (Str × V)}, G q = some (.tup xs) → G o = some (.ins Dc dx fl) → q ≠ o := fun h1 h2 e => by rw [e, h2] at h1; cases h1
  refine ⟨⟨_, rfl⟩, _, rfl, _, la, fs.map CF.FD.text, rfl, rfl, .inr (SqT.of hl6), by omega, _, rfl, o, Dc, dx, _, rfl, ho6, DC.cl, DC.n_text, lt _ (Nat.le_of_ble_eq_true rfl), ?_⟩
  refine ⟨_, rfl, _, rfl, o, Dc, dx, _, rfl, upd_same, DC.cl, DC.n_lines, lt _ (Nat.le_of_ble_eq_true rfl), ?_⟩
  refine ⟨_, rfl, _, rfl, o, Dc, dx, _, rfl, upd_same, DC.cl, DC.n_rows, lt _ (Nat.le_of_ble_eq_true rfl), ?_⟩
  rw [upd_upd, upd_upd]
  let Keep : Hp → Prop := fun G => G la = some (.tup ((fs.map CF.FD.text).map V.str)) ∧ G ra = some (.tup (os.map V.ref)) ∧ SqT K G pt (ps.map V.str) ∧ FactsAt K C G ps os fs
  have kS : ∀ {G G' : Hp}, Keep G → Same G G' → Keep G' := fun {G G'} ⟨a, b, c, d⟩ s => ⟨s _ _ a, s _ _ b, s.tup c, d.same s⟩
  have kU : ∀ {G : Hp} {fl : List (Str × V)} {u : HO}, Keep G → G o = some (.ins Dc dx fl) → Keep (upd G o u) := fun {G fl u} ⟨a, b, c, d⟩ h => by
    have bt : But o G (upd G o u) := fun b v ne h => (upd_ne ne).trans h
    exact ⟨(upd_ne (nlo a h)).trans a, (upd_ne (nlo b h)).trans b, bt.tupI h c, d.but bt h nCD⟩
  have sU : ∀ {G : Hp} {u : HO}, Same H G → Same H (upd G o u) := fun {G u} s b v h => (upd_ne (fun e => by rw [e, ho] at h; cases h)).trans (s _ _ h)
  have k0 := kU (u := .ins Dc dx (putF "rows" (.ref ra) (putF "lines" (.ref la) (putF "text" (.str (Txt.join "
" (List.map CF.FD.text fs))) (cfields pt ln ft (CF.textOf []) (CF.farOf []) (CF.modOf [])))))) ⟨hl6, hr6, hpt, fat6⟩ ho6
  have s0 := sU (u := .ins Dc dx (putF "rows" (.ref ra) (putF "lines" (.ref la) (putF "text" (.str (Txt.join "
" (List.map CF.FD.text fs))) (cfields pt ln ft (CF.textOf []) (CF.farOf []) (CF.modOf [])))))) s6
  refine ⟨_, rfl, ra, os, fs, ps, rfl, SqT.of k0.2.1, k0.2.2.2, ok, by omega, fun H7 s7 => ?_⟩
  have ho7 := s7 _ _ upd_same
  have k7 := kS k0 s7
  refine ⟨_, rfl, o, Dc, dx, _, rfl, ho7, DC.cl, DC.n_far, lt _ (Nat.le_of_ble_eq_true rfl), ?_⟩
  have k8 := kU (u := .ins Dc dx (putF "far" (.int (CF.farOf fs)) (putF "rows" (.ref ra) (putF "lines" (.ref la) (putF "text" (.str (Txt.join "
" (List.map CF.FD.text fs))) (cfields pt ln ft (CF.textOf []) (CF.farOf []) (CF.modOf []))))))) k7 ho7
  have s8 := sU (u := .ins Dc dx (putF "far" (.int (CF.farOf fs)) (putF "rows" (.ref ra) (putF "lines" (.ref la) (putF "text" (.str (Txt.join "
" (List.map CF.FD.text fs))) (cfields pt ln ft (CF.textOf []) (CF.farOf []) (CF.modOf []))))))) (s0.trans s7)
  refine ⟨_, rfl, ra, os, fs, ps, rfl, SqT.of k8.2.1, k8.2.2.2, ok, by omega, fun H9 s9 => ?_⟩
  have ho9 := s9 _ _ upd_same
  have k9 := kS k8 s9
  refine ⟨_, rfl, o, Dc, dx, _, rfl, ho9, DC.cl, DC.n_modulus, lt _ (Nat.le_of_ble_eq_true rfl), ?_⟩
  have k10 := kU (u := .ins Dc dx (putF "modulus" (.int (CF.modOf fs)) (putF "far" (.int (CF.farOf fs)) (putF "rows" (.ref ra) (putF "lines" (.ref la) (putF "text" (.str (Txt.join "
" (List.map CF.FD.text fs))) (cfields pt ln ft (CF.textOf []) (CF.farOf []) (CF.modOf [])))))))) k9 ho9
  exact ⟨_, rfl, k o _ (sU (s8.trans s9)) ⟨dx, pt, la, ra, os, upd_same, k10.2.2.1, k10.1, SqT.of k10.2.1, k10.2.2.2⟩⟩

end
end K05
end
section
set_option Elab.async false
set_option linter.all false
set_option maxRecDepth 100000
set_option maxHeartbeats 4000000
namespace K05
open PySem PySem.Spec PyProof.Rows L2
open PySem.W (ke_shaped_ints)
local macro_rules | `(tactic| walk_at "go") => `(tactic| first | refine ⟨_, rfl, ?_⟩ | refine .inl ⟨_, rfl, ?_⟩ | refine ⟨_, _, rfl, rfl, (by first | (show (0 : Int) < _; decide) | exact Or.inl ⟨by decide, by decide⟩ | exact Or.inr ⟨by decide, by decide⟩), ?_⟩ | refine ⟨_, _, rfl, rfl, ?_⟩)
section
variable {P : Program} {w : World} {K : PySem.W.Frag} {mg : Str → Option Value} {base : Heap}

/-- fact_contract(pointers, text) -/
def spFactContract (K : PySem.W.Frag) (C Dc : Addr) : Sp := fun vs H Q _ => ∃ (pa : Addr) (ps : List Str) (f : CF.FD), vs = [.ref pa, .str f.text] ∧ SqT K H pa (ps.map V.str) ∧ CF.Names ps ∧ f.Ok ps ∧
  ∀ (o : Addr) (H' : Hp), Same H H' → ConAt K C Dc H' o ps [f] → Q (.ref o) H'
abbrev s_fact_contract : Stmt := topS 41
theorem sc_fact_contract : FnScope ["pointers", "text", "fact"] ["pointers", "text"] (defScope s_fact_contract) := ⟨rfl, rfl, rfl, by decide +kernel, rfl, by decide +kernel, by decide +kernel⟩
theorem ok_fact_contract (T : TxtP K mg) (D : Def K mg "fact_contract" s_fact_contract) {C Dc : Addr} (C_read_fact : Cal P w K mg base 6 "read_fact" ["words", "pointers"] (spReadFact K C)) (C_joined_lines : Cal P w K mg base 10 "joined_lines" ["pointers", "lines", "rows"] (spJoined K C Dc)) : Cal P w K mg base 11 "fact_contract" ["pointers", "text"] (spFactContract K C Dc) := by
  refine D.cal sc_fact_contract (fun vs H Q E h => ?_) (fun _ _ _ _ _ _ us hl => match us, hl with | [_, _], _ => rfl) (fun f cdv A outer s H vs Q E hr h => ?_)
  · obtain ⟨pa, ps, f, rfl, _⟩ := h
    rfl
  have hu := hu_of hr

  obtain ⟨pa, ps, f, rfl, hp, nms, ok, k⟩ := h
  refine ⟨_, (pss_cons (ps_set (i := 2) sc_fact_contract.nd rfl (by first | exact Or.inl rfl | exact Or.inr rfl) (pe_cal C_read_fact (hr.mono (by decide)) rfl (pa_cons (pe_split (pv 1) pe_str) (pa_cons (pv 0) pa_nil))))
      (pss_cons (ps_if (pt_cmpR op_isN (pv 2) pe_non (nomark _)) (pss_one ps_never) pss_nil)
      (pss_one (ps_ret (pe_cal C_joined_lines (hr.mono (by decide)) rfl (pa_cons (pv 0) (pa_cons (pe_tup (pa_cons (pv 1) pa_nil)) (pa_cons (pe_tup (pa_cons (pv 2) pa_nil)) pa_nil)))))))), ?_⟩
  have hn : ∀ z ∈ ps, CF.NameOk z := nms.1
  have tl := CF.FD.text_len (fun z hz => (hn z hz).hi) ok
  refine ⟨_, rfl, ⟨_, rfl⟩, _, _, rfl, rfl, by decide +kernel, by rw [sizeLine_eq]; omega, fun w hw => ?_⟩
  rw [CF.FD.split hn ok]
  have n2 := Same.new (o := .lst (f.words.map V.str)) hw
  refine ⟨_, rfl, w, pa, ps, f, rfl, SqL.of upd_same, n2.tup hp, nms, ok, fun o H4 s4 fo fo1 => ?_⟩
  have s24 := n2.trans s4
  refine ⟨_, rfl, rfl, _, rfl, ite2 (fun c => absurd (of_decide_eq_true c) (fun e => by cases e)) (fun _ => ?_)⟩
  refine ⟨_, rfl, _, rfl, by show 1 ≤ sizeLine; decide, fun t1 ht1 => ⟨_, rfl, by show 1 ≤ sizeLine; decide, fun t2 ht2 => ?_⟩⟩
  have z1 := Same.new (o := .tup [.str f.text]) ht1
  have z2 := Same.new (o := .tup [.ref o]) ht2
  have zz := s24.trans (z1.trans z2)
  refine ⟨pa, t1, t2, [o], ps, [f], rfl, zz.tup hp, nms, z2 _ _ upd_same, upd_same, ⟨rfl, fun i x g a b => ?_⟩, by simpa using ok, (by show 1 ≤ 12; decide), fun o2 H5 s5 con => k o2 H5 (zz.trans s5) con⟩
  cases i with
  | zero =>
    simp at a b
    subst a; subst b
    exact fo1.same (z1.trans z2)
  | succ i => simp at a



/-- of what size a question about two contracts is -/
def Ask2 (n : Nat) (fs1 fs2 : List CF.FD) : Prop := ∃ F M : Int, (∀ f ∈ fs1 ++ fs2, f.far ≤ F ∧ f.mod ≤ M) ∧ 0 ≤ F ∧ 1 ≤ M ∧ AskOk n (F + M)
/-- implied(one, other) -/
def spImplied (K : PySem.W.Frag) (C Dc : Addr) : Sp := fun vs H Q _ => ∃ (o1 o2 : Addr) (ps : List Str) (fs1 fs2 : List CF.FD), vs = [.ref o1, .ref o2] ∧ ConAt K C Dc H o1 ps fs1 ∧ ConAt K C Dc H o2 ps fs2 ∧ (∀ f ∈ fs1, f.Ok ps) ∧ (∀ f ∈ fs2, f.Ok ps) ∧ ps.Nodup ∧ Ask2 ps.length fs1 fs2 ∧
  ∀ (b : Bool) H', Same H H' → (b = true ↔ CP.Imp ps fs1 fs2) → Q (.bl b) H'
abbrev s_implied : Stmt := topS 42
theorem sc_implied : FnScope ["one", "other", "far", "modulus", "places"] ["one", "other"] (defScope s_implied) := ⟨rfl, rfl, rfl, by decide +kernel, rfl, by decide +kernel, by decide +kernel⟩
theorem ok_implied (T : TxtP K mg) (D : Def K mg "implied" s_implied) {C Dc : Addr} (DC : ContractC K Dc) (C_far_of : Cal P w K mg base 1 "far_of" ["things"] (sp_cfar K C Dc)) (C_modulus_of : Cal P w K mg base 1 "modulus_of" ["things"] (sp_cmodulus K C Dc)) (C_near_places : CalZ P w K mg base 5 "near_places" ["count", "width", "far", "modulus"] spNear) (M_keeps : MthX P w K mg base (CX P w) 4 Dc "keeps" ["self", "places"] (spKeeps K C Dc)) : Cal P w K mg base 6 "implied" ["one", "other"] (spImplied K C Dc) := by
  refine D.cal sc_implied (fun vs H Q E h => ?_) (fun _ _ _ _ _ _ us hl => match us, hl with | [_, _], _ => rfl) (fun f cdv A outer s H vs Q E hr h => ?_)
  · obtain ⟨o1, o2, ps, fs1, fs2, rfl, _⟩ := h
    rfl
  have hu := hu_of hr
  obtain ⟨o1, o2, ps, fs1, fs2, rfl, c1, c2, ok1, ok2, nd, ⟨F0, M0, bd, F00, M00, n1, n3, gb, g3⟩, k⟩ := h
  refine ⟨_, (pss_cons (ps_par (i := 2) (j := 3) (by rfl) sc_implied.nd rfl rfl (by decide) rfl rfl (pa_cons (pe_cal C_far_of (hr.mono (by decide)) rfl (pa_cons (pe_lst (pa_cons (pv 0) (pa_cons (pv 1) pa_nil))) pa_nil)) (pa_cons (pe_cal C_modulus_of (hr.mono (by decide)) rfl (pa_cons (pe_lst (pa_cons (pv 0) (pa_cons (pv 1) pa_nil))) pa_nil)) pa_nil)) (by rfl))
      (pss_cons (ps_forGen (fun _ _ h => h) rfl hr.depth (pz_cal C_near_places (hr.mono (by decide)) rfl (pa_cons (pe_callB call_len (by rfl) T.f_len PySem.boot_len (pa_cons (pe_fld (pv 0) rfl) pa_nil)) (pa_cons pe_int (pa_cons (pv 2) (pa_cons (pv 3) pa_nil))))) (pg_name (i := 4) sc_implied.nd rfl (by first | exact Or.inl rfl | exact Or.inr rfl)) (pss_one (ps_if (PW.pt (pw_and (pt_val (pe_mth M_keeps (pv 0) (hr.mono (by decide)) passNo (pa_cons (pv 4) pa_nil))) (pw_and1 (pt_not (pt_val (pe_mth M_keeps (pv 1) (hr.mono (by decide)) passNo (pa_cons (pv 4) pa_nil))))))) (pss_one (ps_ret pe_bl)) pss_nil)))
      (pss_one (ps_ret pe_bl)))), ?_⟩
  refine ⟨_, rfl, _, rfl, by show 2 ≤ sizeLine; decide, fun L1 hL1 => ?_⟩
  have z1 := Same.new (o := .lst [.ref o1, .ref o2]) hL1
  refine ⟨L1, o1, o2, ps, ps, fs1, fs2, rfl, upd_same, c1.same z1, c2.same z1, fun F H1 hF F1 F2 s1 => ?_⟩
  refine ⟨_, rfl, _, rfl, by show 2 ≤ sizeLine; decide, fun L2 hL2 => ?_⟩
  have z2 := (z1.trans s1).trans (Same.new (o := .lst [.ref o1, .ref o2]) hL2)
  refine ⟨L2, o1, o2, ps, ps, fs1, fs2, rfl, upd_same, c1.same z2, c2.same z2, fun M H2 hM M1 M2 s2 => ⟨_, _, rfl, ?_⟩⟩
  have z3 := z2.trans s2
  have d1 := c1.same z3
  have d2 := c2.same z3
  obtain ⟨dx, pt, ln, ft, os, ho, hpt, _⟩ := id d1
  obtain ⟨dx', pt', ln', ft', os', ho', hpt', _⟩ := id d2
  have fa1 : CF.farOf fs1 ≤ F0 := CP.far_up F00 fun f hf => (bd f (List.mem_append_left _ hf)).1
  have fa2 : CF.farOf fs2 ≤ F0 := CP.far_up F00 fun f hf => (bd f (List.mem_append_right _ hf)).1
  have mo1 : CF.modOf fs1 ≤ M0 := CP.mod_up M00 fun f hf => (bd f (List.mem_append_left _ hf)).2
  have mo2 : CF.modOf fs2 ≤ M0 := CP.mod_up M00 fun f hf => (bd f (List.mem_append_right _ hf)).2
  have f0 := CP.far_0 fs1
  have m0 := CP.mod_1 fs1
  have mods : M = 1 ∨ M = 2 ∨ M = 4 ∨ M = 8 := by
    rcases hM with e | e
    · rw [e]; exact CP.mods ok1
    · rw [e]; exact CP.mods ok2
  obtain ⟨fa, rfl⟩ : ∃ fa : Nat, F = (fa : Int) := ⟨F.toNat, by omega⟩
  obtain ⟨mo, rfl⟩ : ∃ mo : Nat, M = (mo : Int) := ⟨M.toNat, by omega⟩
  have far_ : ∀ f ∈ fs1 ++ fs2, f.far ≤ (fa : Int) := fun f hf => by
    rcases List.mem_append.mp hf with h | h
    · exact Int.le_trans (CP.far_le h) F1
    · exact Int.le_trans (CP.far_le h) F2
  have dvd_ : ∀ f ∈ fs1 ++ fs2, f.mod ∣ (mo : Int) := fun f hf => by
    rcases List.mem_append.mp hf with h | h
    · exact CP.dvd4 (CP.mod4 (ok1 f h)) mods (Int.le_trans (CP.mod_le h) M1)
    · exact CP.dvd4 (CP.mod4 (ok2 f h)) mods (Int.le_trans (CP.mod_le h) M2)
  have imp := CP.imp_near (fs1 := fs1) (fs2 := fs2) (F := fa) (M := mo) nd n1 n3 ok1 ok2 far_ dvd_ (by omega)
  have lp : (ps.map V.str).length = ps.length := List.length_map ..
  refine ⟨_, rfl, o1, Dc, dx, _, .ref pt, rfl, ho, DC.cl, DC.n_pointers, rfl, _, _, rfl, .inr ⟨_, hpt, rfl⟩, _, rfl, _, rfl, _, ⟨ps.length, 0, fa, mo, ?_, n1, n3, by omega, by omega, fun e => by have := g3 e; omega, rfl⟩, ?_⟩
  · rw [lp]; rfl
  have lenz : ∀ zs ∈ NM.nearL ps.length (0 + fa + mo) mo, zs.length = ps.length := fun zs hz => near_len' ⟨n1, n3⟩ hz
  have isn : ∀ z, NM.Near ps.length (fa + mo) mo z → z ∈ NM.nearL ps.length (0 + fa + mo) mo := fun z hz => (NM.near_mem ⟨n1, n3⟩).mpr (by rw [Nat.zero_add]; exact hz)
  generalize NM.nearL ps.length (0 + fa + mo) mo = Z at lenz isn ⊢
  refine ⟨fun i σ H' => (∃ v, σ = [some (.ref o1), some (.ref o2), some (.int fa), some (.int mo), v]) ∧ Same H2 H' ∧ ∀ zs ∈ Z.take i, CF.kept (CF.look ps zs) fs1 = true → CF.kept (CF.look ps zs) fs2 = true, fun H3 e => ⟨⟨none, rfl⟩, fun b u h => ?_, by simp⟩, ?_⟩
  · rcases e b with z | ⟨z, _⟩
    · rw [z]; exact h
    · rw [h] at z; cases z
  rintro i σ H3 hi ⟨⟨v, rfl⟩, s3, none_⟩ H4 chg
  have s4 := chg.same s3
  refine ⟨fun e => ?_, fun zs hz => ?_⟩
  · refine k true H4 (z3.trans s4) ⟨fun _ => imp fun z hz => ?_, fun _ => rfl⟩
    exact none_ z (by rw [e, List.length_map, List.take_length]; exact isn z hz)
  · rw [List.getElem?_map] at hz
    obtain ⟨r, hr, rfl⟩ := Option.map_eq_some_iff.mp hz
    have rm := List.mem_of_getElem? hr
    refine ⟨fun σ' H' => (∃ v, σ' = [some (.ref o1), some (.ref o2), some (.int fa), some (.int mo), v]) ∧ Same H4 H' ∧ (CF.kept (CF.look ps r) fs1 = true → CF.kept (CF.look ps r) fs2 = true), fun σ' H' ⟨h1, h2, h3⟩ => ⟨Fz.same h2, h1, s4.trans h2, fun zs hz => ?_⟩, fun t ht => ?_⟩
    · rw [List.take_add_one, hr] at hz
      rcases List.mem_append.mp hz with h | h
      · exact none_ zs h
      · rw [Option.toList_some, List.mem_singleton] at h
        rw [h]; exact h3
    · have sn := Same.new (o := .tup (r.map V.int)) ht
      have s5 := s4.trans sn
      have ht5 : upd H4 t (.tup (r.map V.int)) t = some (.tup (r.map V.int)) := upd_same
      generalize upd H4 t (.tup (r.map V.int)) = H5 at s5 sn ht5 ⊢
      refine ⟨_, rfl, o1, dx, _, rfl, s5 _ _ ho, rfl, _, rfl, o1, t, ps, fs1, r, rfl, d1.same s5, ok1, nd, .inr (SqT.of ht5), .inl ⟨lenz r rm, _, rfl, ?_⟩⟩
      cases e1 : CF.kept (CF.look ps r) fs1 with
      | false => exact iteF (iteF ⟨⟨_, rfl⟩, sn, fun h => by cases h⟩)
      | true =>
        refine iteT ⟨_, rfl, o2, dx', _, rfl, s5 _ _ ho', rfl, _, rfl, o2, t, ps, fs2, r, rfl, d2.same s5, ok2, nd, .inr (SqT.of ht5), .inl ⟨lenz r rm, _, rfl, ?_⟩⟩
        cases e2 : CF.kept (CF.look ps r) fs2 with
        | true => exact iteF ⟨⟨_, rfl⟩, sn, fun _ => rfl⟩
        | false =>
          refine iteT (k false H5 (z3.trans s5) ⟨fun h => (by cases h), fun h => ?_⟩)
          have := h r (lenz r rm) e1
          rw [e2] at this
          exact this

end
end K05
end
section
set_option Elab.async false
set_option linter.all false
set_option maxRecDepth 100000
set_option maxHeartbeats 4000000
namespace K05
open PySem PySem.Spec PyProof.Rows L2
open PySem.W (ke_shaped_ints)
local macro_rules | `(tactic| walk_at "go") => `(tactic| first | refine ⟨_, rfl, ?_⟩ | refine .inl ⟨_, rfl, ?_⟩ | refine ⟨_, _, rfl, rfl, (by first | (show (0 : Int) < _; decide) | exact Or.inl ⟨by decide, by decide⟩ | exact Or.inr ⟨by decide, by decide⟩), ?_⟩ | refine ⟨_, _, rfl, rfl, ?_⟩)
section
variable {P : Program} {w : World} {K : PySem.W.Frag} {mg : Str → Option Value} {base : Heap}

theorem Ask2.symm {n : Nat} {fs1 fs2 : List CF.FD} (h : Ask2 n fs1 fs2) : Ask2 n fs2 fs1 := by
  obtain ⟨F, M, bd, a, b, c⟩ := h
  exact ⟨F, M, fun f hf => bd f (by rw [List.mem_append] at hf ⊢; exact hf.symm), a, b, c⟩
/-- contract.follows(line) -/
def spFollows (K : PySem.W.Frag) (C Dc : Addr) : Sp := fun vs H Q _ => ∃ (o : Addr) (ps : List Str) (fs : List CF.FD) (f : CF.FD), vs = [.ref o, .str f.text] ∧ ConAt K C Dc H o ps fs ∧ (∀ g ∈ fs, g.Ok ps) ∧ f.Ok ps ∧ CF.Names ps ∧ Ask2 ps.length fs [f] ∧
  ∀ (b : Bool) H', Same H H' → (b = true ↔ CP.Imp ps fs [f]) → Q (.bl b) H'
abbrev s_Contract_follows : Stmt := inClass (topS 38) 4
theorem sc_Contract_follows : FnScope ["self", "line"] ["self", "line"] (defScope s_Contract_follows) := ⟨rfl, rfl, rfl, by decide +kernel, rfl, by decide +kernel, by decide +kernel⟩
theorem ok_Contract_follows {f : Addr} {fd : FuncData} (T : TxtP K mg) (F : FunD K "follows" "Contract.follows" (defArgs s_Contract_follows) (defBody s_Contract_follows) (defScope s_Contract_follows) [] [] f fd) {C Dc : Addr} (DC : ContractC K Dc) (C_fact_contract : Cal P w K mg base 11 "fact_contract" ["pointers", "text"] (spFactContract K C Dc)) (C_implied : Cal P w K mg base 6 "implied" ["one", "other"] (spImplied K C Dc)) : FnOk P w K mg base CX0 12 f fd ["self", "line"] (spFollows K C Dc) := by
  refine F.ok sc_Contract_follows (fun vs H Q E h => by obtain ⟨o, ps, fs, f, rfl, _⟩ := h; rfl) (fun cdv A outer s H vs Q E hr h => ?_)
  suffices z : ∃ t, PSs (cxOf CX0 P w K mg base ["self", "line"] "Contract.follows" (defScope s_Contract_follows) f cdv A outer s H E).nox (defBody s_Contract_follows) t ∧ t { nx := fun _ H' => Q .non H', rt := Q } (start ["self", "line"] vs) H by
    obtain ⟨t, h1, h2⟩ := z
    exact ⟨t, h1.nox, h2⟩
  have hu := hu_of hr

  obtain ⟨o, ps, fs, f, rfl, con, ok, okf, nms, ask, k⟩ := h
  obtain ⟨dx, pt, ln, ft, os, ho, hpt, _⟩ := id con
  refine ⟨_, (pss_one (ps_ret (pe_cal C_implied (hr.mono (by decide)) rfl (pa_cons (pv 0) (pa_cons (pe_cal C_fact_contract (hr.mono (by decide)) rfl (pa_cons (pe_fld (pv 0) rfl) (pa_cons (pv 1) pa_nil))) pa_nil))))), ?_⟩
  refine ⟨_, rfl, _, rfl, o, Dc, dx, _, .ref pt, rfl, ho, DC.cl, DC.n_pointers, rfl, _, rfl, pt, ps, f, rfl, hpt, nms, okf, fun o2 H1 s1 c2 => ?_⟩
  exact ⟨o, o2, ps, fs, [f], rfl, con.same s1, c2, ok, by simpa using okf, nms.2.1, ask, fun b H2 s2 hb => k b H2 (s1.trans s2) hb⟩



theorem shaped_strsT {zs : List Str} (h : ∀ z ∈ zs, CF.Lo z) : SeqAt.shaped (.tuple (zs.map PyData.str)) = true := CF.shaped_tup fun d hd => by
  obtain ⟨z, hz, rfl⟩ := List.mem_map.mp hd
  exact CF.flat_str (h z hz)
theorem strs_dps {K : PySem.W.Frag} {H : Hp} : ∀ zs : List Str, DpAll K H (zs.map V.str) (zs.map PyData.str)
  | [] => .nil
  | z :: r => .cons (.str z) (strs_dps r)
theorem ne_refl {d : PyData} (h : SeqAt.shaped d = true) : (!PyData.eqv d d) = false := by
  rw [SeqAt.eqv_refl d (SeqAt.canLay_of_shaped h)]
  rfl
/-- contract.implies(other) -/
def spImplies (K : PySem.W.Frag) (C Dc : Addr) : Sp := fun vs H Q _ => ∃ (o1 o2 : Addr) (ps : List Str) (fs1 fs2 : List CF.FD), vs = [.ref o1, .ref o2] ∧ ConAt K C Dc H o1 ps fs1 ∧ ConAt K C Dc H o2 ps fs2 ∧ (∀ f ∈ fs1, f.Ok ps) ∧ (∀ f ∈ fs2, f.Ok ps) ∧ CF.Names ps ∧ Ask2 ps.length fs1 fs2 ∧
  ∀ (b : Bool) H', Same H H' → (b = true ↔ CP.Imp ps fs1 fs2) → Q (.bl b) H'
abbrev s_Contract_implies : Stmt := inClass (topS 38) 6
theorem sc_Contract_implies : FnScope ["self", "other"] ["self", "other"] (defScope s_Contract_implies) := ⟨rfl, rfl, rfl, by decide +kernel, rfl, by decide +kernel, by decide +kernel⟩
theorem ok_Contract_implies {f : Addr} {fd : FuncData} (T : TxtP K mg) (F : FunD K "implies" "Contract.implies" (defArgs s_Contract_implies) (defBody s_Contract_implies) (defScope s_Contract_implies) [] [] f fd) {C Dc : Addr} (DC : ContractC K Dc) (C_implied : Cal P w K mg base 6 "implied" ["one", "other"] (spImplied K C Dc)) : FnOk P w K mg base CX0 7 f fd ["self", "other"] (spImplies K C Dc) := by
  refine F.ok sc_Contract_implies (fun vs H Q E h => by obtain ⟨o1, o2, ps, fs1, fs2, rfl, _⟩ := h; rfl) (fun cdv A outer s H vs Q E hr h => ?_)
  suffices z : ∃ t, PSs (cxOf CX0 P w K mg base ["self", "other"] "Contract.implies" (defScope s_Contract_implies) f cdv A outer s H E).nox (defBody s_Contract_implies) t ∧ t { nx := fun _ H' => Q .non H', rt := Q } (start ["self", "other"] vs) H by
    obtain ⟨t, h1, h2⟩ := z
    exact ⟨t, h1.nox, h2⟩
  have hu := hu_of hr

  obtain ⟨o1, o2, ps, fs1, fs2, rfl, c1, c2, ok1, ok2, nms, ask, k⟩ := h
  obtain ⟨dx, pt, ln, ft, os, ho, hpt, _⟩ := id c1
  obtain ⟨dx', pt', ln', ft', os', ho', hpt', _⟩ := id c2
  have sh := shaped_strsT (zs := ps) fun z hz => (nms.1 z hz).lo_
  refine ⟨_, (pss_cons (ps_if (pt_cmpR (op_neD hr.units) (pe_fld (pv 0) rfl) (pe_fld (pv 1) rfl) (nomark _)) (pss_one ps_never) pss_nil)
      (pss_one (ps_ret (pe_cal C_implied (hr.mono (by decide)) rfl (pa_cons (pv 0) (pa_cons (pv 1) pa_nil)))))), ?_⟩
  refine ⟨_, rfl, o1, Dc, dx, _, .ref pt, rfl, ho, DC.cl, DC.n_pointers, rfl, _, rfl, o2, Dc, dx', _, .ref pt', rfl, ho', DC.cl, DC.n_pointers, rfl, .tuple (ps.map PyData.str), .tuple (ps.map PyData.str), .tup hpt (strs_dps _), .tup hpt' (strs_dps _), sh, sh, _, rfl, ?_⟩
  rw [ne_refl sh]
  refine iteF ⟨_, rfl, _, rfl, o1, o2, ps, fs1, fs2, rfl, c1, c2, ok1, ok2, nms.2.1, ask, k⟩



/-- contract.same(other) -/
def spSame (K : PySem.W.Frag) (C Dc : Addr) : Sp := fun vs H Q _ => ∃ (o1 o2 : Addr) (ps : List Str) (fs1 fs2 : List CF.FD), vs = [.ref o1, .ref o2] ∧ ConAt K C Dc H o1 ps fs1 ∧ ConAt K C Dc H o2 ps fs2 ∧ (∀ f ∈ fs1, f.Ok ps) ∧ (∀ f ∈ fs2, f.Ok ps) ∧ CF.Names ps ∧ Ask2 ps.length fs1 fs2 ∧
  ∀ (b : Bool) H', Same H H' → (b = true ↔ (CP.Imp ps fs1 fs2 ∧ CP.Imp ps fs2 fs1)) → Q (.bl b) H'
abbrev s_Contract_same : Stmt := inClass (topS 38) 7
theorem sc_Contract_same : FnScope ["self", "other"] ["self", "other"] (defScope s_Contract_same) := ⟨rfl, rfl, rfl, by decide +kernel, rfl, by decide +kernel, by decide +kernel⟩
theorem ok_Contract_same {f : Addr} {fd : FuncData} (T : TxtP K mg) (F : FunD K "same" "Contract.same" (defArgs s_Contract_same) (defBody s_Contract_same) (defScope s_Contract_same) [] [] f fd) {C Dc : Addr} (M_implies : MthX P w K mg base CX0 7 Dc "implies" ["self", "other"] (spImplies K C Dc)) : FnOk P w K mg base CX0 8 f fd ["self", "other"] (spSame K C Dc) := by
  refine F.ok sc_Contract_same (fun vs H Q E h => by obtain ⟨o1, o2, ps, fs1, fs2, rfl, _⟩ := h; rfl) (fun cdv A outer s H vs Q E hr h => ?_)
  suffices z : ∃ t, PSs (cxOf CX0 P w K mg base ["self", "other"] "Contract.same" (defScope s_Contract_same) f cdv A outer s H E).nox (defBody s_Contract_same) t ∧ t { nx := fun _ H' => Q .non H', rt := Q } (start ["self", "other"] vs) H by
    obtain ⟨t, h1, h2⟩ := z
    exact ⟨t, h1.nox, h2⟩
  have hu := hu_of hr

  obtain ⟨o1, o2, ps, fs1, fs2, rfl, c1, c2, ok1, ok2, nms, ask, k⟩ := h
  obtain ⟨dx, pt, ln, ft, os, ho, hpt, _⟩ := id c1
  obtain ⟨dx', pt', ln', ft', os', ho', hpt', _⟩ := id c2
  refine ⟨_, (pss_one (ps_ret (pe_and (pe_mth M_implies (pv 0) (hr.mono (by decide)) pass0 (pa_cons (pv 1) pa_nil)) (pe_one (pe_mth M_implies (pv 1) (hr.mono (by decide)) pass0 (pa_cons (pv 0) pa_nil)))))), ?_⟩
  refine ⟨_, rfl, o1, dx, _, rfl, ho, rfl, _, rfl, o1, o2, ps, fs1, fs2, rfl, c1, c2, ok1, ok2, nms, ask, fun b H1 s1 hb => ?_⟩
  cases b with
  | false => exact ⟨_, rfl, iteF (k false H1 s1 ⟨fun h => (by cases h), fun h => absurd (hb.mpr h.1) (by decide)⟩)⟩
  | true => exact ⟨_, rfl, iteT ⟨_, rfl, o2, dx', _, rfl, s1 _ _ ho', rfl, _, rfl, o2, o1, ps, fs2, fs1, rfl, c2.same s1, c1.same s1, ok2, ok1, nms, ask.symm, fun b2 H2 s2 hb2 => k b2 H2 (s1.trans s2) ⟨fun e => ⟨hb.mp rfl, hb2.mp e⟩, fun e => hb2.mpr e.2⟩⟩⟩



/-- at no places it is the one fact that is false -/
def IdleP (ps : List Str) (fs : List CF.FD) (k : Nat) : Prop := ∀ zs : List Int, zs.length = ps.length → CF.brk (CF.look ps zs) fs ≠ [k]
/-- contract.idle() -/
def spIdle (K : PySem.W.Frag) (C Dc : Addr) : Sp := fun vs H Q _ => ∃ (o : Addr) (ps : List Str) (fs : List CF.FD), vs = [.ref o] ∧ ConAt K C Dc H o ps fs ∧ (∀ f ∈ fs, f.Ok ps) ∧ fs.length ≤ 12 ∧ ps.Nodup ∧ AskOk ps.length (CF.farOf fs + CF.modOf fs) ∧
  ∀ (g : Nat → Bool) (r : Addr) H', Same H H' → H r = none → (∀ k, k < fs.length → (g k = true ↔ IdleP ps fs k)) → H' r = some (.lst (((List.range fs.length).filter g).map fun k => V.int (k : Nat))) → Q (.ref r) H'
/-- what the dict at D has as keys -/
def NeedD (H : Hp) (D : Addr) (n : Nat) (S : Nat → Prop) : Prop := ∃ kvs : List (L2.Key × V), H D = some (.dK kvs) ∧ kvs.length ≤ n ∧ ∀ k : Nat, (valV kvs (Sum.inl (k : Int))).isSome = true ↔ S k
abbrev s_Contract_idle : Stmt := inClass (topS 38) 5
theorem sc_Contract_idle : FnScope ["self", "needed", "places", "false", "index"] ["self"] (defScope s_Contract_idle) := ⟨rfl, rfl, rfl, by decide +kernel, rfl, by decide +kernel, by decide +kernel⟩
theorem ok_Contract_idle {f : Addr} {fd : FuncData} (T : TxtP K mg) (F : FunD K "idle" "Contract.idle" (defArgs s_Contract_idle) (defBody s_Contract_idle) (defScope s_Contract_idle) [] [] f fd) (TN : TxtN mg) {C Dc : Addr} (DC : ContractC K Dc) (C_near_places : CalZ P w K mg base 5 "near_places" ["count", "width", "far", "modulus"] spNear) (M_broken : MthX P w K mg base (CX P w) 4 Dc "broken" ["self", "places"] (spBroken K C Dc)) : FnOk P w K mg base CX0 7 f fd ["self"] (spIdle K C Dc) := by
  refine F.ok sc_Contract_idle (fun vs H Q E h => by obtain ⟨o, ps, fs, rfl, _⟩ := h; rfl) (fun cdv A outer s H vs Q E hr h => ?_)
  suffices z : ∃ t, PSs (cxOf CX0 P w K mg base ["self", "needed", "places", "false", "index"] "Contract.idle" (defScope s_Contract_idle) f cdv A outer s H E).nox (defBody s_Contract_idle) t ∧ t { nx := fun _ H' => Q .non H', rt := Q } (start ["self", "needed", "places", "false", "index"] vs) H by
    obtain ⟨t, h1, h2⟩ := z
    exact ⟨t, h1.nox, h2⟩
  have hu := hu_of hr
  obtain ⟨o, ps, fs, rfl, con, ok, f12, nd, ⟨n1, n3, gb, g3⟩, k⟩ := h
  obtain ⟨dx, pt, ln, ft, os, ho, hpt, hln, hft, fat⟩ := id con
  have lp : (ps.map V.str).length = ps.length := List.length_map ..
  have big : sizeLine = 16777216 := sizeLine_eq
  refine ⟨_, (pss_cons (ps_set (i := 1) sc_Contract_idle.nd rfl (by first | exact Or.inl rfl | exact Or.inr rfl) pe_dnewK)
      (pss_cons (ps_forGen (fun _ _ h => h) rfl hr.depth (pz_cal C_near_places (hr.mono (by decide)) rfl (pa_cons (pe_callB call_len (by rfl) T.f_len PySem.boot_len (pa_cons (pe_fld (pv 0) rfl) pa_nil)) (pa_cons pe_int (pa_cons (pe_fld (pv 0) rfl) (pa_cons (pe_fld (pv 0) rfl) pa_nil))))) (pg_name (i := 2) sc_Contract_idle.nd rfl (by first | exact Or.inl rfl | exact Or.inr rfl)) (pss_cons (ps_set (i := 3) sc_Contract_idle.nd rfl (by first | exact Or.inl rfl | exact Or.inr rfl) (pe_mth M_broken (pv 0) (hr.mono (by decide)) passNo (pa_cons (pv 2) pa_nil)))
      (pss_one (ps_if (pt_cmpR op_eq (pe_callB call_len (by rfl) T.f_len PySem.boot_len (pa_cons (pv 3) pa_nil)) pe_int (nomark _)) (pss_one (ps_dput hu (pv 1) (pe_ix ix_list (pv 3) pe_int (fun _ _ => rfl)) pe_bl rfl)) pss_nil))))
      (pss_one (ps_ret (pe_lc (own := [("index", 4)]) (g := gName 4) rfl sc_Contract_idle.nd (pi_range1 rfl TN.f_range (pa_cons (pe_callB call_len (by rfl) T.f_len PySem.boot_len (pa_cons (pe_fld (pv 0) rfl) pa_nil)) pa_nil)) (blkOk_by (N := ["self", "needed", "places", "false", "index"]) (sc := defScope s_Contract_idle) (by decide +kernel)) (fun _ _ _ _ _ => (pg_name (i := 4) sc_Contract_idle.nd rfl (Or.inl rfl))) (fun _ _ _ _ _ => (pts_one (pt_cmp (pc_dnotin hu (pv 4) (pv 1))))) (fun _ _ _ _ _ => (pv 4))))))), ?_⟩
  refine fun D hD => ?_
  have sD := Same.new (o := .dK []) hD
  have need0 : NeedD (upd H D (.dK [])) D 0 (fun _ => False) := ⟨[], upd_same, Nat.le_refl _, fun k => ⟨fun h => (by cases h), False.elim⟩⟩
  generalize upd H D (.dK []) = H1 at sD need0 ⊢
  have f0 := CP.far_0 fs
  have m0 := CP.mod_1 fs
  have mods := CP.mods ok
  obtain ⟨fa, hfa⟩ : ∃ fa : Nat, CF.farOf fs = (fa : Int) := ⟨(CF.farOf fs).toNat, by omega⟩
  obtain ⟨mo, hmo⟩ : ∃ mo : Nat, CF.modOf fs = (mo : Int) := ⟨(CF.modOf fs).toNat, by omega⟩
  refine ⟨_, rfl, o, Dc, dx, _, .ref pt, rfl, sD _ _ ho, DC.cl, DC.n_pointers, rfl, _, _, rfl, .inr ⟨_, sD.tup hpt, rfl⟩, ?_⟩
  refine ⟨_, rfl, o, Dc, dx, _, .int (CF.farOf fs), rfl, sD _ _ ho, DC.cl, DC.n_far, rfl, _, rfl, o, Dc, dx, _, .int (CF.modOf fs), rfl, sD _ _ ho, DC.cl, DC.n_modulus, rfl, _, ⟨ps.length, 0, fa, mo, ?_, n1, n3, by omega, by omega, fun e => by have := g3 e; omega, rfl⟩, ?_⟩
  · rw [lp, hfa, hmo]; rfl
  have lenz : ∀ zs ∈ NM.nearL ps.length (0 + fa + mo) mo, zs.length = ps.length := fun zs hz => near_len' ⟨n1, n3⟩ hz
  have isn : ∀ z, NM.Near ps.length (fa + mo) mo z → z ∈ NM.nearL ps.length (0 + fa + mo) mo := fun z hz => (NM.near_mem ⟨n1, n3⟩).mpr (by rw [Nat.zero_add]; exact hz)
  have few := CP.near_few (count := ps.length) (gap := 0 + fa + mo) (modulus := mo) ⟨n1, n3⟩ (by omega) (by omega) (fun e => by have := g3 e; omega)
  have wide : ∀ zs : List Int, zs.length = ps.length → ∃ z, NM.Near ps.length (fa + mo) mo z ∧ CF.brk (CF.look ps z) fs = CF.brk (CF.look ps zs) fs := fun zs hl =>
    CP.brk_near nd n1 n3 ok (fun f hf => by rw [← hfa]; exact CP.far_le hf) (fun f hf => by rw [← hmo]; exact CP.dvd4 (CP.mod4 (ok f hf)) mods (CP.mod_le hf)) (by omega) hl
  generalize NM.nearL ps.length (0 + fa + mo) mo = Z at lenz isn few ⊢
  have dT : H1 D ≠ none := fun e => by obtain ⟨kvs, h, _⟩ := need0; rw [h] at e; cases e
  refine ⟨fun i σ H' => (∃ v2 v3 v4, σ = [some (.ref o), some (.ref D), v2, v3, v4]) ∧ But D H1 H' ∧ NeedD H' D i (fun k => ∃ z ∈ Z.take i, CF.brk (CF.look ps z) fs = [k]), fun H2 e => ⟨⟨none, none, none, rfl⟩, fun b u n h => ?_, ?_⟩, ?_⟩
  · rcases e b with z | ⟨z, _⟩
    · rw [z]; exact h
    · rw [h] at z; cases z
  · obtain ⟨kvs, h1, h2, h3⟩ := need0
    refine ⟨kvs, ?_, h2, fun k => (h3 k).trans ⟨False.elim, fun ⟨z, hz, _⟩ => by simp at hz⟩⟩
    rcases e D with z | ⟨z, _⟩
    · rw [z]; exact h1
    · exact absurd z dT
  rintro i σ H2 hi ⟨⟨v2, v3, v4, rfl⟩, b2, need⟩ H3 chg
  have b3 := chg.but b2
  have need3 : NeedD H3 D i (fun k => ∃ z ∈ Z.take i, CF.brk (CF.look ps z) fs = [k]) := by
    obtain ⟨kvs, h1, h2⟩ := need
    exact ⟨kvs, chg.at_ h1 (fun _ _ e => by cases e), h2⟩
  have s3 : Same H H3 := fun b u h => b3 _ _ (fun e => by rw [e, hD] at h; cases h) (sD _ _ h)
  refine ⟨fun e => ?_, fun zs hz => ?_⟩
  · rw [e, List.length_map, List.take_length] at need3
    obtain ⟨kvs, h1, h2, h3⟩ := need3
    have gok : ∀ k : Nat, ((!(valV kvs (Sum.inl (k : Int))).isSome) = true ↔ IdleP ps fs k) := fun k => by
      rw [Bool.not_eq_true']
      constructor
      · intro hn zs hl hb
        obtain ⟨z, nz, ez⟩ := wide zs hl
        have := (h3 k).mpr ⟨z, isn z nz, ez.trans hb⟩
        rw [hn] at this
        cases this
      · intro hI
        cases hv : (valV kvs (Sum.inl (k : Int))).isSome with
        | false => rfl
        | true =>
          obtain ⟨z, hz, ez⟩ := (h3 k).mp hv
          exact absurd ez (hI z (lenz z hz))
    generalize hg : (fun k : Nat => !(valV kvs (Sum.inl (k : Int))).isSome) = g
    have ll : ((fs.map CF.FD.text).map V.str).length = fs.length := by rw [List.length_map, List.length_map]
    refine ⟨_, rfl, o, Dc, dx, _, .ref ln, rfl, s3 _ _ ho, DC.cl, DC.n_lines, rfl, _, _, rfl, .inr ⟨_, SqT.of (s3 _ _ hln), rfl⟩, _, rfl, by omega, by omega, fun R hR => lc_it walk_range (fun j H' => Same H3 H' ∧ H' R = some (.lst (((List.range j).filter g).map fun k => V.int (k : Nat))))
      ⟨Same.new hR, upd_same⟩ (fun _ _ _ _ => True.intro) ?_ ?_⟩
    · rintro j x G1 G2 hj ⟨s4, h4⟩ ⟨rfl, rfl⟩
      have hj' : j < fs.length := by
        have hj2 : j < ((((fs.map CF.FD.text).map V.str).length : Nat) : Int).toNat := hj
        rw [ll] at hj2
        omega
      have dg : DGet G2 D (V.int (0 + (j : Int))) (valV kvs (Sum.inl (j : Int))) := by
        rw [Int.zero_add]
        exact DGet.k (k := (Sum.inl (j : Int) : L2.Key)) (s4 _ _ h1)
      have tk : (List.range (j + 1)).filter g = (List.range j).filter g ++ [j].filter g := by rw [List.range_succ, List.filter_append]
      refine ⟨rfl, _, rfl, _, rfl, D, _, rfl, dg, _, rfl, ?_⟩
      rw [tk]
      have gj : g j = !(valV kvs (Sum.inl (j : Int))).isSome := by rw [← hg]
      rw [← gj]
      cases e2 : g j with
      | true =>
        rw [List.filter_cons_of_pos e2, List.filter_nil]
        refine iteT ⟨_, rfl, _, h4, ?_, s4.put hR, ?_⟩
        · rw [List.length_map, big]
          have h5 := List.length_filter_le g (List.range j)
          rw [List.length_range] at h5
          omega
        · rw [List.map_append]
          show upd G2 R (.lst (_ ++ [V.int (0 + (j : Int))])) R = _
          rw [Int.zero_add]
          exact upd_same
      | false =>
        rw [List.filter_cons_of_neg (by rw [e2]; decide), List.filter_nil, List.append_nil]
        exact iteF ⟨s4, h4⟩
    · rintro G ⟨s4, h4⟩
      have e3 : ((((fs.map CF.FD.text).map V.str).length : Nat) : Int).toNat = fs.length := by rw [ll]; omega
      rw [e3] at h4
      exact k g R G (s3.trans s4) (s3.free hR) (fun k _ => by rw [← hg]; exact gok k) h4
  · rw [List.getElem?_map] at hz
    obtain ⟨r, hr, rfl⟩ := Option.map_eq_some_iff.mp hz
    have rm := List.mem_of_getElem? hr
    have il := (List.getElem?_eq_some_iff.mp hr).1
    have tk : Z.take (i + 1) = Z.take i ++ [r] := by rw [List.take_add_one, hr]; rfl
    have dH3 : ∃ x, H1 D = some x := by
      cases e : H1 D with
      | none => exact absurd e dT
      | some x => exact ⟨x, rfl⟩
    refine ⟨fun σ' H' => (∃ v2 v3 v4, σ' = [some (.ref o), some (.ref D), v2, v3, v4]) ∧ But D H3 H' ∧ NeedD H' D (i + 1) (fun k => ∃ z ∈ Z.take (i + 1), CF.brk (CF.look ps z) fs = [k]), fun σ' H' ⟨h1, h2, h3⟩ => ⟨Fz.but h2 dH3, h1, b3.trans h2, h3⟩, fun t ht => ?_⟩
    rw [tk]
    have sn := Same.new (o := .tup (r.map V.int)) ht
    have s4 := s3.trans sn
    have ht4 : upd H3 t (.tup (r.map V.int)) t = some (.tup (r.map V.int)) := upd_same
    generalize upd H3 t (.tup (r.map V.int)) = H4 at s4 sn ht4 ⊢
    refine ⟨_, rfl, o, dx, _, rfl, s4 _ _ ho, rfl, _, rfl, o, t, ps, fs, r, rfl, con.same s4, ok, by omega, nd, .inr (SqT.of ht4), .inl ⟨lenz r rm, fun rq H5 s5 hrn hrq => ?_⟩⟩
    have s35 := sn.trans s5
    obtain ⟨kvs, h1, h2, h3⟩ := need3
    have h15 := s35 _ _ h1
    refine ⟨_, rfl, _, _, rfl, .inl ⟨_, SqL.of hrq, rfl⟩, rfl, _, rfl, ite2 (fun c => ?_) (fun c => ?_)⟩
    · have c1 : (CF.brk (CF.look ps r) fs).length = 1 := by
        have := V.int.inj (of_decide_eq_true c)
        rw [List.length_map] at this
        omega
      obtain ⟨k0, hk0⟩ := List.length_eq_one_iff.mp c1
      rw [hk0] at hrq
      refine ⟨_, rfl, _, rfl, rq, _, 0, .int (k0 : Nat), rfl, rfl, SqL.of hrq, rfl, D, _, rfl, DPut.k (k := (Sum.inl (k0 : Int) : L2.Key)) h15 (by omega), ⟨_, _, _, rfl⟩, ?_, _, upd_same, ?_, fun k => ?_⟩
      · exact (But.of s35).trans fun b u n h => (upd_ne n).trans h
      · exact Nat.le_trans (length_putK _ _ _) (by omega)
      · rw [valV_put]
        by_cases ek : k = k0
        · subst ek
          rw [if_pos rfl]
          exact ⟨fun _ => ⟨r, by simp, hk0⟩, fun _ => rfl⟩
        · rw [if_neg (fun e => ek (by have := Sum.inl.inj e; omega)), h3]
          constructor
          · rintro ⟨z, hz, ez⟩
            exact ⟨z, List.mem_append_left _ hz, ez⟩
          · rintro ⟨z, hz, ez⟩
            rcases List.mem_append.mp hz with h | h
            · exact ⟨z, h, ez⟩
            · rw [List.mem_singleton.mp h, hk0] at ez
              cases ez
              exact absurd rfl ek
    · refine ⟨⟨_, _, _, rfl⟩, But.of s35, kvs, h15, by omega, fun k => (h3 k).trans ⟨fun ⟨z, hz, ez⟩ => ⟨z, List.mem_append_left _ hz, ez⟩, fun ⟨z, hz, ez⟩ => ?_⟩⟩
      rcases List.mem_append.mp hz with h | h
      · exact ⟨z, h, ez⟩
      · rw [List.mem_singleton.mp h] at ez
        refine absurd ?_ c
        rw [List.length_map, ez]
        rfl

end
end K05
end
section
set_option Elab.async false
set_option linter.all false
set_option maxRecDepth 100000
set_option maxHeartbeats 4000000
namespace K05
open PySem PySem.Spec PyProof.Rows L2
open PySem.W (ke_shaped_ints)
local macro_rules | `(tactic| walk_at "go") => `(tactic| first | refine ⟨_, rfl, ?_⟩ | refine .inl ⟨_, rfl, ?_⟩ | refine ⟨_, _, rfl, rfl, (by first | (show (0 : Int) < _; decide) | exact Or.inl ⟨by decide, by decide⟩ | exact Or.inr ⟨by decide, by decide⟩), ?_⟩ | refine ⟨_, _, rfl, rfl, ?_⟩)
section
variable {P : Program} {w : World} {K : PySem.W.Frag} {mg : Str → Option Value} {base : Heap}

structure TxtM (mg : Str → Option Value) : Prop where
  f_min : mg "min" = none
  f_max : mg "max" = none


/-- keeps(pointers, facts, places) -/
def spLKeeps (K : PySem.W.Frag) : Sp := fun vs H Q _ => ∃ (a fq r : Addr) (qs : List Addr) (ps : List Str) (fs : List CF.FD) (zs : List Int), vs = [.ref a, .ref fq, .ref r] ∧ SqL K H a (ps.map V.str) ∧ H fq = some (.lst (qs.map V.ref)) ∧ CF.FAt H qs fs ∧ (∀ f ∈ fs, f.Ok ps) ∧ fs.length ≤ 1000 ∧ SqT K H r (zs.map V.int) ∧ ps.Nodup ∧ zs.length = ps.length ∧
  ∀ H', Same H H' → Q (.bl (CF.kept (CF.look ps zs) fs)) H'
theorem not_in {pl : Str → Int} : ∀ fs : List CF.FD, (!inV (.bl false) (fs.map fun f => V.bl (f.val pl))) = CF.kept pl fs
  | [] => rfl
  | f :: fs => by
    have ih := not_in (pl := pl) fs
    unfold inV CF.kept at ih ⊢
    rw [List.map_cons, List.any_cons, List.all_cons, Bool.not_or, ih]
    cases f.val pl <;> rfl
theorem flat_bls (bs : List Bool) : (bs.map V.bl).all flatV = true := by
  induction bs with
  | nil => rfl
  | cons b r ih => rw [List.map_cons, List.all_cons, ih]; rfl
abbrev s_keeps : Stmt := topS 54
theorem sc_keeps : FnScope ["pointers", "facts", "places", "at", "fact"] ["pointers", "facts", "places"] (defScope s_keeps) := ⟨rfl, rfl, rfl, by decide +kernel, rfl, by decide +kernel, by decide +kernel⟩
theorem ok_keeps (T : Txt mg) (D : Def K mg "_law_keeps" s_keeps) (C__law_at : Cal P w K mg base 1 "_law_at" ["pointers", "places"] (spAt K)) (C__law_true : Cal P w K mg base 1 "_law_true" ["fact", "at"] spTrue) : Cal P w K mg base 2 "_law_keeps" ["pointers", "facts", "places"] (spLKeeps K) := by
  refine D.cal sc_keeps (fun vs H Q E h => ?_) (fun _ _ _ _ _ _ us hl => match us, hl with | [_, _, _], _ => rfl) (fun f cdv A outer s H vs Q E hr h => ?_)
  · obtain ⟨a, fq, r, qs, ps, fs, zs, rfl, _⟩ := h
    rfl
  have hu := hu_of hr

  obtain ⟨a, fq, r, qs, ps, fs, zs, rfl, ha, hf, fat, ok, few, hrow, nd, hl, k⟩ := h
  refine ⟨_, (pss_cons (ps_set (i := 3) sc_keeps.nd rfl (by first | exact Or.inl rfl | exact Or.inr rfl) (pe_cal C__law_at (hr.mono (by decide)) rfl (pa_cons (pv 0) (pa_cons (pv 2) pa_nil))))
      (pss_one (ps_ret (pe_cmpR op_notIn_seq pe_bl (pe_lc (own := [("fact", 4)]) (g := gName 4) (tt := tYes) rfl sc_keeps.nd (pi_list (pv 1)) (blkOk_by (N := ["pointers", "facts", "places", "at", "fact"]) (sc := defScope s_keeps) (by decide +kernel)) (fun _ _ _ _ _ => (pg_name (i := 4) sc_keeps.nd rfl (Or.inl rfl))) (fun _ _ _ _ _ => pts_nil) (fun _ _ _ _ _ => (pe_cal C__law_true (hr.mono (by decide)) rfl (pa_cons (pv 4) (pa_cons (pv 3) pa_nil))))) (by rfl))))), ?_⟩
  refine ⟨_, rfl, _, rfl, a, r, ps, zs, rfl, ha, hrow, nd, hl, fun d H1 s1 hd h1 => ?_⟩
  refine ⟨_, rfl, fq, rfl, ⟨_, SqL.of (s1 _ _ hf)⟩, fun D hD => lc_it walk_list (fun i H' => Same H1 H' ∧ H' D = some (.lst (((fs.take i).map fun f => V.bl (f.val (CF.look ps zs))))))
    ⟨Same.new hD, upd_same⟩ (fun i H' _ z => SqL.of (z.1 _ _ (s1 _ _ hf))) ?_ ?_⟩
  · rintro i y G1 G2 hi ⟨s2, h2⟩ ⟨rfl, hx⟩
    obtain ⟨q, f, rfl, hff, hq⟩ := ref_of fat hx
    refine ⟨rfl, _, rfl, _, rfl, q, d, f, ps, zs, rfl, s2 _ _ (s1 _ _ hq), ok f (List.mem_of_getElem? hff), s2 _ _ h1, nd, hl, fun G3 s3 => ⟨_, s3 _ _ h2, ?_, (s2.trans s3).put hD, ?_⟩⟩
    · rw [List.length_map, sizeLine_eq, List.length_take]
      omega
    · rw [take_map hff]
      exact upd_same
  · rintro G ⟨s2, h2⟩
    rw [List.length_map, fat.len, List.take_length] at h2
    refine ⟨D, _, rfl, .inl (SqL.of h2), rfl, ?_, ?_⟩
    · have := flat_bls (fs.map fun f => f.val (CF.look ps zs))
      rw [List.map_map] at this
      exact this
    · show Q (.bl (!inV (.bl false) (fs.map fun f => V.bl (f.val (CF.look ps zs))))) G
      rw [not_in]
      exact k G (s1.trans s2)



theorem far_fold : ∀ (fs : List CF.FD) (a : Int), a ≤ fs.foldl (fun a f => CF.mx a f.far) a ∧ (∀ f ∈ fs, f.far ≤ fs.foldl (fun a f => CF.mx a f.far) a) ∧ (fs.foldl (fun a f => CF.mx a f.far) a = a ∨ ∃ f ∈ fs, f.far = fs.foldl (fun a f => CF.mx a f.far) a)
  | [], a => ⟨Int.le_refl _, by simp, .inl rfl⟩
  | f :: r, a => by
    obtain ⟨h1, h2, h3⟩ := far_fold r (CF.mx a f.far)
    have m1 : a ≤ CF.mx a f.far := mx_le _ _
    have m2 : f.far ≤ CF.mx a f.far := by unfold CF.mx; split <;> omega
    refine ⟨Int.le_trans m1 h1, fun g hg => ?_, ?_⟩
    · rcases List.mem_cons.mp hg with rfl | hg
      · exact Int.le_trans m2 h1
      · exact h2 g hg
    · rcases h3 with e | ⟨g, hg, e⟩
      · by_cases c : f.far > a
        · exact .inr ⟨f, List.mem_cons_self, by show f.far = r.foldl _ (CF.mx a f.far); rw [e]; unfold CF.mx; rw [if_pos c]⟩
        · exact .inl (by show r.foldl _ (CF.mx a f.far) = a; rw [e]; unfold CF.mx; rw [if_neg c])
      · exact .inr ⟨g, List.mem_cons_of_mem _ hg, e⟩
/-- what max tells of nought and the fars -/
theorem far_max {fs : List CF.FD} {m : Int} (h1 : m ∈ [0] ++ fs.map CF.FD.far) (h2 : ∀ y ∈ [0] ++ fs.map CF.FD.far, y ≤ m) : m = CF.farOf fs := by
  obtain ⟨g1, g2, g3⟩ := far_fold fs 0
  have e : CF.farOf fs = fs.foldl (fun a f => CF.mx a f.far) 0 := rfl
  rw [e]
  generalize fs.foldl (fun a f => CF.mx a f.far) 0 = F at g1 g2 g3 ⊢
  have up : m ≤ F := by
    rcases List.mem_append.mp h1 with h | h
    · rw [List.mem_singleton.mp h]; exact g1
    · obtain ⟨f, hf, rfl⟩ := List.mem_map.mp h
      exact g2 f hf
  have lo : F ≤ m := by
    rcases g3 with e | ⟨f, hf, e⟩
    · rw [e]; exact h2 0 (by simp)
    · rw [← e]; exact h2 _ (List.mem_append_right _ (List.mem_map.mpr ⟨f, hf, rfl⟩))
  omega
/-- room(pointers, [], facts, {}) -/
def spRoom (K : PySem.W.Frag) : Sp := fun vs H Q _ => ∃ (a pr fq : Addr) (fn : V) (qs : List Addr) (ps : List Str) (fs : List CF.FD), vs = [.ref a, .ref pr, .ref fq, fn] ∧ H pr = some (.lst []) ∧ H fq = some (.lst (qs.map V.ref)) ∧ CF.FAt H qs fs ∧ (∀ f ∈ fs, f.Ok ps) ∧ fs.length ≤ 1000 ∧
  ∀ (t : Addr) (H' : Hp), Same H H' → H' t = some (.tup [.int (1 + CF.farOf fs), .int (CF.modOf fs)]) → Q (.ref t) H'
abbrev s_room : Stmt := topS 65
theorem sc_room : FnScope ["pointers", "programs", "facts", "functions", "every", "low", "high", "orders", "one", "far", "fact"] ["pointers", "programs", "facts", "functions"] (defScope s_room) := ⟨rfl, rfl, rfl, by decide +kernel, rfl, by decide +kernel, by decide +kernel⟩
theorem ok_room (T : Txt mg) (M : TxtM mg) (D : Def K mg "_law_room" s_room) (C__law_far_of : Cal P w K mg base 1 "_law_far_of" ["fact"] spFarOf) (C__law_modulus : Cal P w K mg base 1 "_law_modulus" ["facts"] spModulus) : Cal P w K mg base 3 "_law_room" ["pointers", "programs", "facts", "functions"] (spRoom K) := by
  refine D.cal sc_room (fun vs H Q E h => ?_) (fun _ _ _ _ _ _ us hl => match us, hl with | [_, _, _, _], _ => rfl) (fun f cdv A outer s H vs Q E hr h => ?_)
  · obtain ⟨a, pr, fq, fn, qs, ps, fs, rfl, _⟩ := h
    rfl
  have hu := hu_of hr

  obtain ⟨a, pr, fq, fn, qs, ps, fs, rfl, hp, hf, fat, ok, few, k⟩ := h
  refine ⟨_, (pss_cons (ps_par3 (i := 4) (j := 5) (l := 6) (by rfl) sc_room.nd rfl rfl rfl (by decide) (by decide) (by decide) rfl rfl rfl (pa_cons (pe_callTy call_list_of (by rfl) T.f_list (by decide +kernel) (pa_cons (pv 2) pa_nil)) (pa_cons pe_int (pa_cons pe_int pa_nil))) (by rfl))
      (pss_cons (ps_for PassesOwn.never rfl (pi_list (pv 1)) (pg_name (i := 7) sc_room.nd rfl (by first | exact Or.inl rfl | exact Or.inr rfl)) (pss_cons (ps_set (i := 8) sc_room.nd rfl (by first | exact Or.inl rfl | exact Or.inr rfl) PL.pe_never)
      (pss_cons (ps_par (i := 5) (j := 6) (by rfl) sc_room.nd rfl rfl (by decide) rfl rfl (pa_cons PL.pe_never (pa_cons PL.pe_never pa_nil)) (by rfl))
      (pss_one (ps_set (i := 4) sc_room.nd rfl (by first | exact Or.inl rfl | exact Or.inr rfl) (pe_op op_cat (pv 4) PL.pe_never))))))
      (pss_cons (ps_set (i := 9) sc_room.nd rfl (by first | exact Or.inl rfl | exact Or.inr rfl) (pe_callB (cr_max rfl) (by rfl) M.f_max (by decide +kernel) (pa_cons (pe_op op_cat (pe_lst (pa_cons pe_int pa_nil)) (pe_lc (own := [("fact", 10)]) (g := gName 10) (tt := tYes) rfl sc_room.nd (pi_list (pv 4)) (blkOk_by (N := ["pointers", "programs", "facts", "functions", "every", "low", "high", "orders", "one", "far", "fact"]) (sc := defScope s_room) (by decide +kernel)) (fun _ _ _ _ _ => (pg_name (i := 10) sc_room.nd rfl (Or.inl rfl))) (fun _ _ _ _ _ => pts_nil) (fun _ _ _ _ _ => (pe_callTy call_int1 (by rfl) T.f_int (by decide +kernel) (pa_cons (pe_cal C__law_far_of (hr.mono (by decide)) rfl (pa_cons (pv 10) pa_nil)) pa_nil))))) pa_nil)))
      (pss_one (ps_ret (pe_tup (pa_cons (pe_op op_add (pe_op op_sub (pe_op op_add pe_int (pv 6)) (pv 5)) (pv 9)) (pa_cons (pe_cal C__law_modulus (hr.mono (by decide)) rfl (pa_cons (pv 4) pa_nil)) pa_nil)))))))), ?_⟩
  refine ⟨_, rfl, fq, _, rfl, .inl (SqL.of hf), fun L hL => ⟨_, _, _, rfl, ?_⟩⟩
  have sL := Same.new (o := .lst (qs.map V.ref)) hL
  have hL0 : upd H L (.lst (qs.map V.ref)) L = some (.lst (qs.map V.ref)) := upd_same
  generalize upd H L (.lst (qs.map V.ref)) = H1 at sL hL0 ⊢
  refine ⟨_, rfl, pr, rfl, ⟨_, SqL.of (sL _ _ hp)⟩, for_list (xs := []) (fun i σ H' => σ = [some (.ref a), some (.ref pr), some (.ref fq), some fn, some (.ref L), some (.int 0), some (.int 0), none, none, none, none] ∧ H' = H1)
    ⟨rfl, rfl⟩ (fun i σ H' _ ⟨_, e⟩ => by rw [e]; exact SqL.of (sL _ _ hp)) (fun i y σ H' hx => by cases i <;> cases hx) ?_⟩
  rintro σ H' ⟨rfl, rfl⟩
  refine ⟨by show 1 ≤ sizeLine; decide, fun Z hZ => ⟨_, rfl, L, rfl, ⟨_, SqL.of (Same.new hZ _ _ hL0)⟩, ?_⟩⟩
  have sZ := Same.new (o := .lst [.int 0]) hZ
  have hZ0 : upd H' Z (.lst [.int 0]) Z = some (.lst [.int 0]) := upd_same
  generalize upd H' Z (.lst [.int 0]) = H2 at sZ hZ0 ⊢
  have s2 := sL.trans sZ
  refine fun D hD => lc_it walk_list (fun i G => Same H2 G ∧ G D = some (.lst (((fs.take i).map fun f => V.int f.far)))) ⟨Same.new hD, upd_same⟩ (fun i G _ z => SqL.of (z.1 _ _ (sZ _ _ hL0))) ?_ ?_
  · rintro i y G1 G2 hi ⟨s3, h3⟩ ⟨rfl, hx⟩
    obtain ⟨q, f, rfl, hff, hq⟩ := ref_of fat hx
    refine ⟨rfl, _, rfl, q, f, ps, rfl, s3 _ _ (s2 _ _ hq), ok f (List.mem_of_getElem? hff), fun G3 s4 => .inl ⟨_, rfl, _, s4 _ _ h3, ?_, (s3.trans s4).put hD, ?_⟩⟩
    · rw [List.length_map, sizeLine_eq, List.length_take]
      omega
    · rw [take_map hff]
      exact upd_same
  · rintro G ⟨s3, h3⟩
    rw [List.length_map, fat.len, List.take_length] at h3
    have hZ3 := s3 _ _ hZ0
    refine ⟨Z, D, _, _, rfl, rfl, hZ3, h3, ?_, fun W hW => ?_⟩
    · rw [List.length_map, sizeLine_eq]
      show 1 + fs.length ≤ 16777216
      omega
    have sW := (s2.trans s3).put (o := .lst ([V.int 0] ++ List.map (fun f => V.int f.far) fs)) ((s2.trans s3).free hW)
    have sG := s3.put (o := .lst ([V.int 0] ++ List.map (fun f => V.int f.far) fs)) (s3.free hW)
    have hL4 := (Same.new (o := .lst ([V.int 0] ++ List.map (fun f => V.int f.far) fs)) hW) _ _ (s3 _ _ (sZ _ _ hL0))
    have fat4 := fat.same sW
    have hW0 : upd G W (.lst ([V.int 0] ++ List.map (fun f => V.int f.far) fs)) W = some (.lst (([0] ++ fs.map CF.FD.far).map V.int)) := by rw [List.map_append, List.map_map]; exact upd_same
    generalize upd G W (.lst ([V.int 0] ++ List.map (fun f => V.int f.far) fs)) = H4 at sW sG hL4 fat4 hW0 ⊢
    refine ⟨W, _, rfl, SqL.of hW0, by simp, fun m h1 h2 => ?_⟩
    rw [far_max h1 h2]
    refine ⟨_, rfl, _, _, rfl, rfl, _, rfl, _, _, rfl, rfl, _, rfl, _, _, rfl, rfl, _, rfl, L, qs, fs, ps, rfl, hL4, fat4, ok, fun H5 s5 => ⟨by show 2 ≤ sizeLine; decide, fun t ht => ?_⟩⟩
    have e1 : (1 : Int) + 0 - 0 + CF.farOf fs = 1 + CF.farOf fs := by omega
    show Q (.ref t) (upd H5 t (.tup [.int ((1 : Int) + 0 - 0 + CF.farOf fs), .int (CF.modOf fs)]))
    rw [e1]
    exact k t _ ((sW.trans s5).put ((sW.trans s5).free ht)) upd_same

end
end K05
end
section
set_option Elab.async false
set_option linter.all false
set_option maxRecDepth 100000
set_option maxHeartbeats 4000000
namespace K05
open PySem PySem.Spec PyProof.Rows L2
open PySem.W (ke_shaped_ints)
local macro_rules | `(tactic| walk_at "go") => `(tactic| first | refine ⟨_, rfl, ?_⟩ | refine .inl ⟨_, rfl, ?_⟩ | refine ⟨_, _, rfl, rfl, (by first | (show (0 : Int) < _; decide) | exact Or.inl ⟨by decide, by decide⟩ | exact Or.inr ⟨by decide, by decide⟩), ?_⟩ | refine ⟨_, _, rfl, rfl, ?_⟩)
section
variable {P : Program} {w : World} {K : PySem.W.Frag} {mg : Str → Option Value} {base : Heap}

theorem ab_le {z b : Int} (h0 : -b ≤ z) (h1 : z ≤ b) : CF.ab z ≤ b := by
  unfold CF.ab
  split <;> omega
theorem small_nat {x : Int} (h0 : 0 ≤ x) (h1 : x ≤ 100) : x.natAbs < 2 ^ 250 := Nat.lt_of_le_of_lt (show x.natAbs ≤ 100 by omega) (by decide)
/-- of what size small facts are -/
def SmallOk (far : Int) (ms : List Int) : Prop := 4 ≤ far ∧ far ≤ 16 ∧ 1 ≤ ms.length ∧ ms.length ≤ 2 ∧ ∀ m ∈ ms, (m = 2 ∨ m = 4) ∧ far + m ≤ 18
theorem pick_ms {ms : List Int} {j : Nat} {v : V} (h : (ms.map V.int)[j]? = some v) : ∃ m ∈ ms, v = .int m := by
  obtain ⟨m, hm, rfl⟩ := List.mem_map.mp (List.mem_of_getElem? h)
  exact ⟨m, hm, rfl⟩
/-- a fact so small -/
def FSmall (far : Int) (ms : List Int) (f : CF.FD) : Prop := f.far ≤ far ∧ (f.mod = 1 ∨ f.mod ∈ ms)
/-- new_fact(pen, pointers, far, moduli) -/
def spNewFact (K : PySem.W.Frag) : Sp := fun vs H Q _ => ∃ (p l a md : Addr) (t far : Int) (ms : List Int) (ps : List Str), vs = [.ref p, .ref a, .int far, .ref md] ∧ Pen H p l t ∧ t ≤ 1000000 ∧ a ≠ p ∧ md ≠ p ∧ SqL K H a (ps.map V.str) ∧ SqL K H md (ms.map V.int) ∧ SmallOk far ms ∧ 1 ≤ ps.length ∧ ps.length ≤ 3 ∧ (∀ z ∈ ps, Low z) ∧
  ∀ (q : Addr) (f : CF.FD) (H' : Hp) (t' : Int), f.Ok ps → FSmall far ms f → Pen H' p l t' → t ≤ t' → t' ≤ t + 10 → But p H H' → H q = none → H' q = some (.tup f.vs) → Q (.ref q) H'
abbrev s_new_fact : Stmt := topS 57
theorem sc_new_fact : FnScope ["pen", "pointers", "far", "moduli", "way", "one", "others", "m", "two", "a", "b", "left", "k", "e", "near", "name"] ["pen", "pointers", "far", "moduli"] (defScope s_new_fact) := ⟨rfl, rfl, rfl, by decide +kernel, rfl, by decide +kernel, by decide +kernel⟩
theorem ok_new_fact (T : Txt mg) (M : TxtM mg) (D : Def K mg "_law_new_fact" s_new_fact) (C__law_draw : Cal P w K mg base 1 "_law_draw" ["pen", "span"] spDraw) (C__law_pick : Cal P w K mg base 2 "_law_pick" ["pen", "options"] (spPick K)) : Cal P w K mg base 3 "_law_new_fact" ["pen", "pointers", "far", "moduli"] (spNewFact K) := by
  refine D.cal sc_new_fact (fun vs H Q E h => ?_) (fun _ _ _ _ _ _ us hl => match us, hl with | [_, _, _, _], _ => rfl) (fun f cdv A outer s H vs Q E hr h => ?_)
  · obtain ⟨p, l, a, md, t, far, ms, ps, rfl, _⟩ := h
    rfl
  have hu := hu_of hr

  obtain ⟨p, l, a, md, t, far, ms, ps, rfl, pen, ht, hap, hmp, hS, hM, small, h1, h3, hlow, k⟩ := h
  obtain ⟨f4, f16, ms1, ms2, mok⟩ := id small
  refine ⟨_, (pss_cons (ps_asg (pe_tup (pa_cons (pe_cal C__law_draw (hr.mono (by decide)) rfl (pa_cons (pv 0) (pa_cons pe_int pa_nil))) (pa_cons (pe_cal C__law_pick (hr.mono (by decide)) rfl (pa_cons (pv 0) (pa_cons (pv 1) pa_nil))) pa_nil))) (pg_tup rfl (pgs_cons (pg_name (i := 4) sc_new_fact.nd rfl (by first | exact Or.inl rfl | exact Or.inr rfl)) (pgs_cons (pg_name (i := 5) sc_new_fact.nd rfl (by first | exact Or.inl rfl | exact Or.inr rfl)) pgs_nil))))
      (pss_cons (ps_par (i := 6) (j := 7) (by rfl) sc_new_fact.nd rfl rfl (by decide) rfl rfl (pa_cons (pe_lc (own := [("name", 15)]) (g := gName 15) rfl sc_new_fact.nd (pi_list (pv 1)) (blkOk_by (N := ["pen", "pointers", "far", "moduli", "way", "one", "others", "m", "two", "a", "b", "left", "k", "e", "near", "name"]) (sc := defScope s_new_fact) (by decide +kernel)) (fun _ _ _ _ _ => (pg_name (i := 15) sc_new_fact.nd rfl (Or.inl rfl))) (fun _ _ _ _ _ => (pts_one (pt_cmpR op_ne (pv 15) (pv 5) (nomark _)))) (fun _ _ _ _ _ => (pv 15))) (pa_cons (pe_cal C__law_pick (hr.mono (by decide)) rfl (pa_cons (pv 0) (pa_cons (pv 3) pa_nil))) pa_nil)) (by rfl))
      (C8.pss_cut (ps_if (PW.pt (pw_or (pt_cmpR (op_eqD hr.units) (pv 6) (pe_lst pa_nil) (nomark _)) (pw_or1 (pt_cmpR op_eq (pv 4) pe_int (nomark _))))) (pss_one (ps_ret (pe_tup (pa_cons pe_str (pa_cons (pv 5) (pa_cons (pv 7) (pa_cons (pe_cal C__law_draw (hr.mono (by decide)) rfl (pa_cons (pv 0) (pa_cons (pv 7) pa_nil))) pa_nil))))))) pss_nil)
      (pss_cons (ps_set (i := 8) sc_new_fact.nd rfl (by first | exact Or.inl rfl | exact Or.inr rfl) (pe_cal C__law_pick (hr.mono (by decide)) rfl (pa_cons (pv 0) (pa_cons (pv 6) pa_nil))))
      (pss_cons (ps_if (pt_cmpR op_eq (pv 4) pe_int (nomark _)) (pss_one (ps_ret (pe_tup (pa_cons pe_str (pa_cons (pv 5) (pa_cons (pv 8) (pa_cons (pv 7) (pa_cons (pe_cal C__law_draw (hr.mono (by decide)) rfl (pa_cons (pv 0) (pa_cons (pv 7) pa_nil))) pa_nil)))))))) pss_nil)
      (C8.pss_cut (ps_if (PW.pt (pw_and (pt_cmpR op_lt (pv 4) pe_int (nomark _)) (pw_and1 (pt_cmpR op_gt (pv 2) pe_int (nomark _))))) (pss_cons (ps_set (i := 9) sc_new_fact.nd rfl (by first | exact Or.inl rfl | exact Or.inr rfl) (pe_op op_add pe_int (pe_cal C__law_draw (hr.mono (by decide)) rfl (pa_cons (pv 0) (pa_cons (pe_callB (call_min2 rfl) (by rfl) M.f_min (by decide +kernel) (pa_cons pe_int (pa_cons (pe_op op_fdivW (pv 2) pe_int) pa_nil))) pa_nil)))))
      (pss_cons (ps_par (i := 10) (j := 11) (by rfl) sc_new_fact.nd rfl rfl (by decide) rfl rfl (pa_cons (pe_op op_add pe_int (pe_cal C__law_draw (hr.mono (by decide)) rfl (pa_cons (pv 0) (pa_cons (pe_callB (call_min2 rfl) (by rfl) M.f_min (by decide +kernel) (pa_cons pe_int (pa_cons (pe_op op_fdivW (pv 2) pe_int) pa_nil))) pa_nil)))) (pa_cons (pe_callB (call_min2 rfl) (by rfl) M.f_min (by decide +kernel) (pa_cons pe_int (pa_cons (pe_op op_fdivW (pv 2) pe_int) pa_nil))) pa_nil)) (by rfl))
      (pss_cons (ps_par (i := 12) (j := 13) (by rfl) sc_new_fact.nd rfl rfl (by decide) rfl rfl (pa_cons (pe_op op_sub (pe_cal C__law_draw (hr.mono (by decide)) rfl (pa_cons (pv 0) (pa_cons (pe_op op_add (pe_op op_mul pe_int (pv 11)) pe_int) pa_nil))) (pv 11)) (pa_cons (pe_op op_sub (pe_cal C__law_draw (hr.mono (by decide)) rfl (pa_cons (pv 0) (pa_cons (pe_op op_add (pe_op op_mul pe_int (pv 11)) pe_int) pa_nil))) (pv 11)) pa_nil)) (by rfl))
      (pss_one (ps_ret (pe_tup (pa_cons pe_str (pa_cons (pv 5) (pa_cons (pv 12) (pa_cons (pv 9) (pa_cons (pv 8) (pa_cons (pv 13) (pa_cons (pv 10) pa_nil))))))))))))) pss_nil)
      (pss_cons (ps_set (i := 14) sc_new_fact.nd rfl (by first | exact Or.inl rfl | exact Or.inr rfl) (pe_callB (call_min2 rfl) (by rfl) M.f_min (by decide +kernel) (pa_cons pe_int (pa_cons (pe_callTy call_int1 (by rfl) T.f_int (by decide +kernel) (pa_cons (pv 2) pa_nil)) pa_nil))))
      (pss_one (ps_ret (pe_tup (pa_cons (pe_cal C__law_pick (hr.mono (by decide)) rfl (pa_cons (pv 0) (pa_cons (pe_lst (pa_cons pe_str (pa_cons pe_str (pa_cons pe_str (pa_cons pe_str (pa_cons pe_str pa_nil)))))) pa_nil))) (pa_cons (pv 5) (pa_cons (pv 8) (pa_cons (pe_op op_sub (pe_cal C__law_draw (hr.mono (by decide)) rfl (pa_cons (pv 0) (pa_cons (pe_op op_add (pe_op op_mul pe_int (pv 14)) pe_int) pa_nil))) (pv 14)) pa_nil)))))))))))))), ?_⟩
  refine ⟨_, rfl, p, l, t, 8, rfl, pen, by omega, by decide, by decide, fun way H1 t1 w0 w1 pen1 g1 g2 b1 => ?_⟩
  have len0 : 0 < (ps.map V.str).length := by rw [List.length_map]; omega
  have len1 : (ps.map V.str).length ≤ 1000000 := by rw [List.length_map]; omega
  refine ⟨_, rfl, _, rfl, p, l, a, t1, _, rfl, pen1, by omega, hap, .inl (b1.seq hap hS), len0, len1, fun j1 v1 H2 t2 hv1 pen2 g3 g4 b2 => ?_⟩
  obtain ⟨one, hone, rfl⟩ := str_of hv1
  refine ⟨by show 2 ≤ sizeLine; decide, fun tp htp => ?_⟩
  have pen2 := pen2.new (o := .tup [.int way, .str one]) htp
  have B2 : But p H (upd H2 tp (.tup [.int way, .str one])) := (b1.trans b2).nw htp
  have hT : upd H2 tp (.tup [.int way, .str one]) tp = some (.tup [.int way, .str one]) := upd_same
  generalize upd H2 tp (.tup [.int way, .str one]) = H2 at pen2 B2 hT ⊢
  refine ⟨tp, _, rfl, SqT.of hT, rfl, _, _, rfl, _, _, rfl, rfl, ?_⟩
  have hS2 := B2.seq hap hS
  refine ⟨_, rfl, a, rfl, ⟨_, hS2⟩, fun D hD => lc_it walk_list (fun i H' => Same H2 H' ∧ H' D = some (.lst (((ps.take i).filter (fun z => !decide (z = one))).map V.str)))
    ⟨Same.new hD, upd_same⟩ (fun i H' _ z => z.1.seq hS2) ?_ ?_⟩
  · rintro i y G1 G2 hi ⟨s1, h1⟩ ⟨rfl, hx⟩
    rw [List.getElem?_map] at hx
    obtain ⟨z, hz, rfl⟩ := Option.map_eq_some_iff.mp hx
    have tk : (ps.take (i + 1)).filter (fun z => !decide (z = one)) = (ps.take i).filter (fun z => !decide (z = one)) ++ [z].filter (fun z => !decide (z = one)) := by
      rw [List.take_add_one, hz, List.filter_append]
      rfl
    refine ⟨rfl, _, rfl, _, rfl, rfl, _, rfl, ?_⟩
    have dz : decide (V.str z = V.str one) = decide (z = one) := decide_eq_decide.mpr ⟨fun e => by cases e; rfl, fun e => by rw [e]⟩
    rw [dz, tk]
    cases e : decide (z = one) with
    | true =>
      refine iteF ⟨s1, ?_⟩
      rw [List.filter_cons_of_neg (by rw [e]; decide), List.filter_nil, List.append_nil]
      exact h1
    | false =>
      refine iteT ⟨_, rfl, _, h1, ?_, s1.put hD, ?_⟩
      · have := List.length_filter_le (fun z => !decide (z = one)) (ps.take i)
        have := List.length_take_le i ps
        rw [List.length_map, sizeLine_eq]
        omega
      · rw [List.filter_cons_of_pos (by rw [e]; rfl), List.filter_nil, List.map_append]
        exact upd_same
  rintro H3 ⟨s3, h3'⟩
  rw [List.length_map, List.take_length] at h3'
  generalize hos : ps.filter (fun z => !decide (z = one)) = os at h3'
  have osn : ∀ z ∈ os, z ∈ ps ∧ z ≠ one := fun z hz => by
    rw [← hos] at hz
    obtain ⟨a1, a2⟩ := List.mem_filter.mp hz
    exact ⟨a1, fun e => by rw [e] at a2; simp at a2⟩
  have pen3 := pen2.same s3
  have B3 : But p H H3 := B2.trans (But.of s3)
  have osl : os.length ≤ 3 := by
    rw [← hos]
    exact Nat.le_trans (List.length_filter_le _ _) h3
  have hDp : D ≠ p := fun z => by
    obtain ⟨o, ho⟩ := pen2.at_
    rw [z, ho] at hD
    cases hD
  have olow : ∀ z ∈ os, Low z := fun z hz => hlow z (osn z hz).1
  have hM3 := B3.seq hmp hM
  refine ⟨_, rfl, _, rfl, p, l, md, t2, _, rfl, pen3, by omega, hmp, .inl hM3, by rw [List.length_map]; omega, by rw [List.length_map]; omega, fun j2 v2 H5 t5 hv2 pen5 g5 g6 b5 => ?_⟩
  obtain ⟨m, hm, rfl⟩ := pick_ms hv2
  obtain ⟨m24, mfar⟩ := mok m hm
  have B5 := B3.trans b5
  have h5 := b5 _ _ hDp h3'
  have m0 : 0 < m := by omega
  have m1 : m.natAbs < 2 ^ 250 := by
    refine Nat.lt_of_le_of_lt (?_ : m.natAbs ≤ 8) (by decide)
    omega
  have rem : ∀ r : Int, 0 ≤ r → r < m → CF.Rem m r := fun r r0 r1 => ⟨by omega, r0, r1⟩
  have fin : ∀ (f : CF.FD) (H7 : Hp) (t7 : Int), f.Ok ps → FSmall far ms f → Pen H7 p l t7 → t ≤ t7 → t7 ≤ t + 10 → But p H H7 → ∀ tq, H7 tq = none → Q (.ref tq) (upd H7 tq (.tup f.vs)) := by
    intro f H7 t7 ok sm pen7 a1 a2 B7 tq htq
    refine k tq f _ t7 ok sm (pen7.new htq) a1 a2 (B7.nw htq) (B7.free (fun z => ?_) htq) upd_same
    obtain ⟨o, ho⟩ := pen7.at_
    rw [z, ho] at htq
    cases htq
  refine ⟨_, _, rfl, ?_⟩
  refine ⟨fun σ' H' => σ' = [some (.ref p), some (.ref a), some (.int far), some (.ref md), some (.int way), some (.str one), some (.ref D), some (.int m), none, none, none, none, none, none, none, none] ∧ os ≠ [] ∧ H' D = some (.lst (os.map V.str)) ∧ Pen H' p l t5 ∧ But p H H', ?_, ?_⟩
  · refine ⟨_, rfl, Nat.zero_le _, fun e he => ?_⟩
    have h6 := (upd_ne (o := .lst []) (ne_of_none h5 he)).trans h5
    have pen6 := pen5.new (o := .lst []) he
    have B6 : But p H (upd H5 e (.lst [])) := B5.nw he
    refine ⟨.list (os.map PyData.str), .list [], .lst (SqL.of h6) (dps_strs _ _ os), .lst (SqL.of upd_same) .nil, shaped_strs olow, shaped_strs (ys := []) (by simp), _, rfl, ?_⟩
    generalize upd H5 e (.lst []) = H6 at h6 pen6 B6 ⊢
    have one_ : ∀ {K2 : VK}, K2 = K2 → True := fun _ => trivial
    have ret1 : ∀ (H7 : Hp) (t7 r : Int), 0 ≤ r → r < m → Pen H7 p l t7 → t5 ≤ t7 → t7 ≤ t5 + 1 → But p H6 H7 → ∀ tq, H7 tq = none → Q (.ref tq) (upd H7 tq (.tup (CF.FD.by_ one m r).vs)) := fun H7 t7 r r0 r1 pen7 g7 g8 b7 tq htq =>
      fin (.by_ one m r) H7 t7 ⟨hone, rem r r0 r1⟩ ⟨by show (0 : Int) ≤ far; omega, .inr hm⟩ pen7 (by omega) (by omega) (B6.trans b7) tq htq
    refine ite2 (fun _ => ?_) (fun c => ?_)
    · refine iteT ?_
      exact ⟨_, rfl, _, rfl, _, rfl, _, rfl, p, l, t5, m, rfl, pen6, by omega, m0, m1, fun r H7 t7 r0 r1 pen7 g7 g8 b7 => ⟨by show 4 ≤ sizeLine; decide, fun tq htq => ret1 H7 t7 r r0 r1 pen7 g7 g8 b7 tq htq⟩⟩
    refine ⟨_, rfl, rfl, _, rfl, ite2 (fun _ => ?_) (fun _ => ?_)⟩
    · exact ⟨_, rfl, _, rfl, _, rfl, _, rfl, p, l, t5, m, rfl, pen6, by omega, m0, m1, fun r H7 t7 r0 r1 pen7 g7 g8 b7 => ⟨by show 4 ≤ sizeLine; decide, fun tq htq => ret1 H7 t7 r r0 r1 pen7 g7 g8 b7 tq htq⟩⟩
    · refine ⟨rfl, ?_, h6, pen6, B6⟩
      rintro rfl
      exact absurd c (by decide)
  rintro σ' H6 ⟨rfl, one_, h6, pen6, B6⟩
  have lo0 : 0 < (os.map V.str).length := by
    rw [List.length_map]
    exact List.length_pos_iff.mpr one_
  refine ⟨_, rfl, _, rfl, p, l, D, t5, _, rfl, pen6, by omega, hDp, .inl (SqL.of h6), lo0, by rw [List.length_map]; omega, fun j7 v7 H7 t7 hv7 pen7 g7 g8 b7 => ?_⟩
  obtain ⟨two, htwo, rfl⟩ := str_of hv7
  obtain ⟨two1, two2⟩ := osn two htwo
  have B7 := B6.trans b7
  refine ⟨_, rfl, rfl, _, rfl, ite2 (fun _ => ?_) (fun _ => ?_)⟩
  · exact ⟨_, rfl, _, rfl, _, rfl, _, rfl, _, rfl, p, l, t7, m, rfl, pen7, by omega, m0, m1, fun r H8 t8 r0 r1 pen8 g9 g10 b8 => ⟨by show 5 ≤ sizeLine; decide, fun tq htq => fin (.gap one two m r) H8 t8 ⟨hone, two1, two2, rem r r0 r1⟩ ⟨by show (0 : Int) ≤ far; omega, .inr hm⟩ pen8 (by omega) (by omega) (B7.trans b8) tq htq⟩⟩
  refine ⟨fun σ' H' => σ' = [some (.ref p), some (.ref a), some (.int far), some (.ref md), some (.int way), some (.str one), some (.ref D), some (.int m), some (.str two), none, none, none, none, none, none, none] ∧ H' = H7, ?_, ?_⟩
  · refine ⟨_, rfl, _, _, rfl, rfl, _, rfl, ite2 (fun _ => ?_) (fun _ => ?_)⟩
    · refine ⟨_, rfl, _, _, rfl, rfl, _, rfl, ite2 (fun c => ?_) (fun _ => ?_)⟩
      · have c5 : 5 < far := of_decide_eq_true c
        have d3 : (if far / 3 < 16 then far / 3 else 16) = far / 3 := if_pos (by omega)
        have d6 : (if far / 6 < 30 then far / 6 else 30) = far / 6 := if_pos (by omega)
        have dv : CDivW far 3 := ⟨by decide, by decide⟩
        have dv6 : CDivW far 6 := ⟨by decide, by decide⟩
        refine ⟨_, rfl, _, rfl, _, _, rfl, rfl, dv, _, _, rfl, p, l, t7, _, rfl, pen7, by omega, by rw [d3]; omega, by rw [d3]; exact small_nat (by omega) (by omega), fun n1 H8 t8 n10 n11 pen8 g9 g10 b8 => ⟨_, _, rfl, rfl, ?_⟩⟩
        refine ⟨_, rfl, _, rfl, _, _, rfl, rfl, dv, _, _, rfl, p, l, t8, _, rfl, pen8, by omega, by rw [d3]; omega, by rw [d3]; exact small_nat (by omega) (by omega), fun n2 H9 t9 n20 n21 pen9 g11 g12 b9 => ⟨_, _, rfl, rfl, ?_⟩⟩
        rw [d3] at n11 n21
        refine ⟨_, rfl, _, _, rfl, rfl, dv6, _, _, rfl, _, _, rfl, ?_⟩
        rw [d6]
        refine ⟨_, rfl, _, rfl, _, _, rfl, rfl, .inl ⟨by decide, by decide⟩, _, _, rfl, rfl, p, l, t9, _, rfl, pen9, by omega, by omega, small_nat (by omega) (by omega), fun k1 H10 t10 k10 k11 pen10 g13 g14 b10 => ⟨_, rfl, _, _, rfl, rfl, ?_⟩⟩
        refine ⟨_, rfl, _, rfl, _, _, rfl, rfl, .inl ⟨by decide, by decide⟩, _, _, rfl, rfl, p, l, t10, _, rfl, pen10, by omega, by omega, small_nat (by omega) (by omega), fun e1 H11 t11 e10 e11 pen11 g15 g16 b11 => ⟨_, rfl, _, _, rfl, rfl, _, _, rfl, ?_⟩⟩
        refine ⟨_, rfl, _, rfl, _, rfl, _, rfl, _, rfl, _, rfl, by show 7 ≤ sizeLine; decide, fun tq htq => ?_⟩
        refine fin (.apart one (k1 - far / 6) (1 + n1) two (e1 - far / 6) (1 + n2)) H11 t11 ⟨hone, two1, two2, ⟨by omega, by omega⟩, ⟨by omega, by omega⟩, ⟨by omega, by omega⟩, ⟨by omega, by omega⟩⟩ ⟨?_, .inl rfl⟩ pen11 (by omega) (by omega) ((((B7.trans b8).trans b9).trans b10).trans b11) tq htq
        have q1 := ab_le (z := k1 - far / 6) (b := far / 6) (by omega) (by omega)
        have q2 := ab_le (z := e1 - far / 6) (b := far / 6) (by omega) (by omega)
        simp only [CF.FD.far]
        omega
      · exact ⟨rfl, rfl⟩
    · exact ⟨rfl, rfl⟩
  rintro σ' H' ⟨rfl, rfl⟩
  have d40 : (if far < 40 then far else 40) = far := if_pos (by omega)
  refine ⟨_, rfl, .inl ⟨_, rfl, _, _, rfl, ?_⟩⟩
  rw [d40]
  refine ⟨_, rfl, by show 5 ≤ sizeLine; decide, fun q3 hq3 => ?_⟩
  have q3p : q3 ≠ p := fun z => by
    obtain ⟨o, ho⟩ := pen7.at_
    rw [z, ho] at hq3
    cases hq3
  refine ⟨p, l, q3, t7, _, rfl, pen7.new hq3, by omega, q3p, .inl (SqL.of upd_same), by show 0 < 5; decide, by show 5 ≤ 1000000; decide, fun j11 v11 H8 t8 hv11 pen8 g9 g10 b8 => ?_⟩
  obtain ⟨w, rfl, hw⟩ : ∃ w : Str, v11 = .str w ∧ w ∈ CF.Sorts := by
    have hm := List.mem_of_getElem? hv11
    simp only [List.mem_cons, List.not_mem_nil, or_false] at hm
    rcases hm with rfl | rfl | rfl | rfl | rfl <;> exact ⟨_, rfl, by decide⟩
  refine ⟨_, rfl, _, rfl, _, rfl, _, rfl, _, _, rfl, rfl, .inl ⟨by decide, by decide⟩, _, _, rfl, rfl, p, l, t8, _, rfl, pen8, by omega, by omega, small_nat (by omega) (by omega), fun k1 H9 t9 k10 k11 pen9 g11 g12 b9 => ⟨_, rfl, _, _, rfl, rfl, by show 4 ≤ sizeLine; decide, fun tq htq => ?_⟩⟩
  refine fin (.dist w one two (k1 - far)) H9 t9 ⟨hw, hone, two1, two2, by omega, by omega⟩ ⟨?_, .inl rfl⟩ pen9 (by omega) (by omega) ((B7.trans ((But.of (Same.new hq3)).trans b8)).trans b9) tq htq
  simp only [CF.FD.far]
  exact ab_le (by omega) (by omega)

end
end K05
end
section
set_option Elab.async false
set_option linter.all false
set_option maxRecDepth 100000
set_option maxHeartbeats 4000000
namespace K05
open PySem PySem.Spec PyProof.Rows L2
open PySem.W (ke_shaped_ints)
local macro_rules | `(tactic| walk_at "go") => `(tactic| first | refine ⟨_, rfl, ?_⟩ | refine .inl ⟨_, rfl, ?_⟩ | refine ⟨_, _, rfl, rfl, (by first | (show (0 : Int) < _; decide) | exact Or.inl ⟨by decide, by decide⟩ | exact Or.inr ⟨by decide, by decide⟩), ?_⟩ | refine ⟨_, _, rfl, rfl, ?_⟩)
section
variable {P : Program} {w : World} {K : PySem.W.Frag} {mg : Str → Option Value} {base : Heap}

/-- facts so small, all of them -/
def Smalls (far : Int) (ms : List Int) (fs : List CF.FD) : Prop := ∀ f ∈ fs, FSmall far ms f
/-- new_facts(pen, pointers, many, far, moduli) -/
def spNewFacts (K : PySem.W.Frag) : Sp := fun vs H Q _ => ∃ (p l a md : Addr) (t many far : Int) (ms : List Int) (ps : List Str), vs = [.ref p, .ref a, .int many, .int far, .ref md] ∧ Pen H p l t ∧ t ≤ 100000 ∧ a ≠ p ∧ md ≠ p ∧ SqL K H a (ps.map V.str) ∧ SqL K H md (ms.map V.int) ∧ SmallOk far ms ∧ 1 ≤ ps.length ∧ ps.length ≤ 3 ∧ (∀ z ∈ ps, Low z) ∧ 0 ≤ many ∧ many ≤ 13 ∧
  ∀ (q : Addr) (qs : List Addr) (fs : List CF.FD) (H' : Hp) (t' : Int), (∀ f ∈ fs, f.Ok ps) → Smalls far ms fs → fs.Nodup → (fs.length : Int) ≤ many → CF.FAt H' qs fs → Pen H' p l t' → t ≤ t' → t' ≤ t + 130 → But p H H' → H q = none → H' q = some (.lst (qs.map V.ref)) → Q (.ref q) H'
abbrev s_new_facts : Stmt := topS 58
theorem sc_new_facts : FnScope ["pen", "pointers", "many", "far", "moduli", "found", "k", "fact"] ["pen", "pointers", "many", "far", "moduli"] (defScope s_new_facts) := ⟨rfl, rfl, rfl, by decide +kernel, rfl, by decide +kernel, by decide +kernel⟩
theorem ok_new_facts (T : Txt mg) (D : Def K mg "_law_new_facts" s_new_facts) (C__law_new_fact : Cal P w K mg base 3 "_law_new_fact" ["pen", "pointers", "far", "moduli"] (spNewFact K)) : Cal P w K mg base 4 "_law_new_facts" ["pen", "pointers", "many", "far", "moduli"] (spNewFacts K) := by
  refine D.cal sc_new_facts (fun vs H Q E h => ?_) (fun _ _ _ _ _ _ us hl => match us, hl with | [_, _, _, _, _], _ => rfl) (fun f cdv A outer s H vs Q E hr h => ?_)
  · obtain ⟨p, l, a, md, t, many, far, ms, ps, rfl, _⟩ := h
    rfl
  have hu := hu_of hr

  obtain ⟨p, l, a, md, t, many, far, ms, ps, rfl, pen, ht, hap, hmp, hS, hM, small, h1, h3, hlow, m0, m1, k⟩ := h
  refine ⟨_, (pss_cons (ps_set (i := 5) sc_new_facts.nd rfl (by first | exact Or.inl rfl | exact Or.inr rfl) (pe_lst pa_nil))
      (pss_cons (ps_for PassesOwn.never rfl (pi_range1 rfl T.f_range (pa_cons (pv 2) pa_nil)) (pg_name (i := 6) sc_new_facts.nd rfl (by first | exact Or.inl rfl | exact Or.inr rfl)) (pss_cons (ps_set (i := 7) sc_new_facts.nd rfl (by first | exact Or.inl rfl | exact Or.inr rfl) (pe_cal C__law_new_fact (hr.mono (by decide)) rfl (pa_cons (pv 0) (pa_cons (pv 1) (pa_cons (pv 3) (pa_cons (pv 4) pa_nil))))))
      (pss_one (ps_if (pt_cmpR (op_notInD (units65 hr)) (pv 7) (pv 5) (by rfl)) (pss_one (ps_expr (pe_bm PySem.F.plainAttrs_list PySem.F.slot_list_append PySem.F.type_list_append mt_append (pv 5) (pa_cons (pv 7) pa_nil)))) pss_nil))))
      (pss_one (ps_ret (pv 5))))), ?_⟩
  refine ⟨by show 0 ≤ sizeLine; decide, fun q hq => ?_⟩
  have hqp : q ≠ p := fun z => by
    obtain ⟨o, ho⟩ := pen.at_
    rw [z, ho] at hq
    cases hq
  have hql : q ≠ l := fun z => by
    obtain ⟨ns, lf, e1, e2, _⟩ := pen.ex
    rw [z, e2] at hq
    cases hq
  refine ⟨_, rfl, many, rfl, by omega, by omega, for_range (lo := 0) (n := many.toNat) (fun i σ H1 => ∃ (v w : Option V) (qs : List Addr) (fs : List CF.FD) (t1 : Int), σ = [some (.ref p), some (.ref a), some (.int many), some (.int far), some (.ref md), some (.ref q), v, w] ∧ H1 q = some (.lst (qs.map V.ref)) ∧ (∀ f ∈ fs, f.Ok ps) ∧ Smalls far ms fs ∧ fs.Nodup ∧ fs.length ≤ i ∧ CF.FAt H1 qs fs ∧ Pen H1 p l t1 ∧ t ≤ t1 ∧ t1 ≤ t + 10 * i ∧ But p H H1)
    ⟨none, none, [], [], t, rfl, upd_same, by simp, (fun _ h => by cases h), .nil, Nat.zero_le _, .nil, pen.new hq, Int.le_refl _, by omega, (But.refl p H).nw hq⟩ ?_ ?_⟩
  · rintro i σ H1 hi ⟨v, w, qs, fs, t1, rfl, h1q, ok, sm, nd, len, fat, pen1, g1, g2, b1⟩
    refine ⟨_, rfl, _, rfl, _, rfl, _, rfl, p, l, a, md, t1, far, ms, ps, rfl, pen1, by omega, hap, hmp, b1.seq hap hS, b1.seq hmp hM, small, h1, h3, hlow, fun r f H2 t2 okf smf pen2 g3 g4 b2 fresh h2 => ?_⟩
    have h2q := b2 _ _ hqp h1q
    have fat2 : CF.FAt H2 qs fs := by
      obtain ⟨ns, lf, e1, _⟩ := pen1.ex
      exact fat.but e1 b2
    have lo : ∀ z ∈ ps, CF.Lo z := hlow
    have shp : SeqAt.shaped (.list (fs.map fun f => PyData.tuple f.ds)) = true := by
      have e : (fs.map fun f => PyData.tuple f.ds) = (fs.map CF.FD.ds).map PyData.tuple := by
        rw [List.map_map]
        rfl
      rw [e]
      refine CF.shaped_tups fun ds hds => ?_
      obtain ⟨g, hg, rfl⟩ := List.mem_map.mp hds
      exact CF.FD.flat lo (ok g hg)
    refine ⟨_, rfl, _, rfl, .tuple f.ds, fs.map fun f => PyData.tuple f.ds, .tup (SqT.of h2) (CF.dps_vs _ _ _), .lst (SqL.of h2q) fat2.dps, CF.shaped_tup (CF.FD.flat lo okf), shp, _, rfl, ite2 (fun c => ?_) (fun c => ?_)⟩
    · have hr : r ≠ q := ne_of h2 h2q (by intro z; cases z)
      have nf : f ∉ fs := fun hin => by
        have e := CF.any_in hin (CF.FD.flat lo okf)
        rw [e] at c
        cases c
      refine ⟨_, rfl, .inl ⟨rfl, _, SqL.of h2q⟩, _, rfl, q, _, _, rfl, rfl, h2q, ?_, ?_⟩
      · rw [List.length_map, fat2.len, sizeLine_eq]
        omega
      · refine ⟨_, _, qs ++ [r], fs ++ [f], t2, rfl, ?_, ?_, ?_, ?_, ?_, ?_, pen2.put hqp hql, by omega, by omega, (b1.trans b2).put hq⟩
        · rw [List.map_append]
          exact upd_same
        · intro g hg
          rcases List.mem_append.mp hg with h | h
          · exact ok g h
          · rw [List.mem_singleton.mp h]
            exact okf
        · intro g hg
          rcases List.mem_append.mp hg with h | h
          · exact sm g h
          · rw [List.mem_singleton.mp h]
            exact smf
        · exact List.nodup_append.mpr ⟨nd, by simp, by intro x hx y hy e; rw [List.mem_singleton.mp hy] at e; exact nf (e ▸ hx)⟩
        · rw [List.length_append, List.length_singleton]
          omega
        · exact (fat2.app h2).up h2q
    · exact ⟨_, _, qs, fs, t2, rfl, h2q, ok, sm, nd, by omega, fat2, pen2, by omega, by omega, b1.trans b2⟩
  · rintro σ H1 ⟨v, w, qs, fs, t1, rfl, h1q, ok, sm, nd, len, fat, pen1, g1, g2, b1⟩
    exact ⟨_, rfl, k q qs fs H1 t1 ok sm nd (by omega) fat pen1 g1 (by omega) b1 hq h1q⟩



/-- of what size the facts asked about are -/
def Asked (n : Nat) (fs : List CF.FD) : Prop := AskOk n (CF.farOf fs + CF.modOf fs)
theorem mod_fold : ∀ (fs : List CF.FD) (a : Int), fs.foldl (fun a f => CF.mx a f.mod) a = a ∨ ∃ f ∈ fs, f.mod = fs.foldl (fun a f => CF.mx a f.mod) a
  | [], a => .inl rfl
  | f :: r, a => by
    rcases mod_fold r (CF.mx a f.mod) with e | ⟨g, hg, e⟩
    · by_cases c : f.mod > a
      · exact .inr ⟨f, List.mem_cons_self, by show f.mod = r.foldl _ (CF.mx a f.mod); rw [e]; unfold CF.mx; rw [if_pos c]⟩
      · exact .inl (by show r.foldl _ (CF.mx a f.mod) = a; rw [e]; unfold CF.mx; rw [if_neg c])
    · exact .inr ⟨g, List.mem_cons_of_mem _ hg, e⟩
theorem far_upto {fs : List CF.FD} {b : Int} (h0 : 0 ≤ b) (h : ∀ f ∈ fs, f.far ≤ b) : CF.farOf fs ≤ b := by
  rcases (far_fold fs 0).2.2 with e | ⟨f, hf, e⟩
  · show fs.foldl (fun a f => CF.mx a f.far) 0 ≤ b; rw [e]; exact h0
  · show fs.foldl (fun a f => CF.mx a f.far) 0 ≤ b; rw [← e]; exact h f hf
theorem mod_upto {fs : List CF.FD} {b : Int} (h0 : 1 ≤ b) (h : ∀ f ∈ fs, f.mod ≤ b) : CF.modOf fs ≤ b := by
  rcases mod_fold fs 1 with e | ⟨f, hf, e⟩
  · show fs.foldl (fun a f => CF.mx a f.mod) 1 ≤ b; rw [e]; exact h0
  · show fs.foldl (fun a f => CF.mx a f.mod) 1 ≤ b; rw [← e]; exact h f hf
theorem ab_up {z b : Int} (h : -b ≤ z ∧ z ≤ b) : CF.ab z ≤ b := ab_le h.1 h.2
theorem wide_far {ps : List Str} : ∀ {f : CF.FD}, f.Ok ps → f.far ≤ 92
  | .by_ .., _ => by show (0 : Int) ≤ 92; decide
  | .gap .., _ => by show (0 : Int) ≤ 92; decide
  | .apart a k n b e c, ⟨_, _, _, h1, h2, h3, h4⟩ => by
    have q1 := ab_up h1
    have q2 := ab_up h3
    obtain ⟨_, h2⟩ := h2
    obtain ⟨_, h4⟩ := h4
    simp only [CF.FD.far]
    omega
  | .dist w a b n, ⟨_, _, _, _, h1, h2⟩ => by
    have := ab_le (b := 40) h1 h2
    simp only [CF.FD.far]
    omega
theorem wide_mod {ps : List Str} : ∀ {f : CF.FD}, f.Ok ps → f.mod = 1 ∨ f.mod = 2 ∨ f.mod = 4 ∨ f.mod = 8
  | .by_ .., ⟨_, h, _⟩ => .inr h
  | .gap .., ⟨_, _, _, h, _⟩ => .inr h
  | .apart .., _ => .inl rfl
  | .dist .., _ => .inl rfl
theorem wide_asked {ps : List Str} {fs : List CF.FD} (h1 : 1 ≤ ps.length) (h2 : ps.length ≤ 3) (n3 : ps.length ≠ 3) (ok : ∀ f ∈ fs, f.Ok ps) : Asked ps.length fs := by
  have a := far_upto (fs := fs) (b := 92) (by decide) fun f hf => wide_far (ok f hf)
  have b := mod_upto (fs := fs) (b := 8) (by decide) fun f hf => by have := wide_mod (ok f hf); omega
  exact ⟨h1, h2, by omega, fun e => absurd e n3⟩
theorem small_asked {far : Int} {ms : List Int} {ps : List Str} {fs : List CF.FD} (so : SmallOk far ms) (h1 : 1 ≤ ps.length) (h2 : ps.length ≤ 3) (sm : Smalls far ms fs) : Asked ps.length fs := by
  obtain ⟨f4, f16, _, _, mo⟩ := so
  have a := far_upto (fs := fs) (b := far) (by omega) fun f hf => (sm f hf).1
  have b := mod_upto (fs := fs) (b := 4) (by decide) fun f hf => by
    rcases (sm f hf).2 with e | e
    · omega
    · have := (mo _ e).1; omega
  exact ⟨h1, h2, by omega, fun _ => by omega⟩
/-- small_facts(pen, pointers, many), asked_facts(pen, pointers, many) -/
def spAsked (K : PySem.W.Frag) : Sp := fun vs H Q _ => ∃ (p l a : Addr) (t many : Int) (ps : List Str), vs = [.ref p, .ref a, .int many] ∧ Pen H p l t ∧ t ≤ 90000 ∧ a ≠ p ∧ SqL K H a (ps.map V.str) ∧ 1 ≤ ps.length ∧ ps.length ≤ 3 ∧ (∀ z ∈ ps, Low z) ∧ 0 ≤ many ∧ many ≤ 13 ∧
  ∀ (q : Addr) (qs : List Addr) (fs : List CF.FD) (H' : Hp) (t' : Int), (∀ f ∈ fs, f.Ok ps) → Asked ps.length fs → fs.Nodup → (fs.length : Int) ≤ many → CF.FAt H' qs fs → Pen H' p l t' → t ≤ t' → t' ≤ t + 140 → But p H H' → H q = none → H' q = some (.lst (qs.map V.ref)) → Q (.ref q) H'
abbrev s_small_facts : Stmt := topS 68
theorem sc_small_facts : FnScope ["pen", "pointers", "many", "far", "moduli", "found", "sort", "fact"] ["pen", "pointers", "many"] (defScope s_small_facts) := ⟨rfl, rfl, rfl, by decide +kernel, rfl, by decide +kernel, by decide +kernel⟩
theorem ok_small_facts (T : Txt mg) (D : Def K mg "_law_small_facts" s_small_facts) (C__law_draw : Cal P w K mg base 1 "_law_draw" ["pen", "span"] spDraw) (C__law_new_facts : Cal P w K mg base 4 "_law_new_facts" ["pen", "pointers", "many", "far", "moduli"] (spNewFacts K)) : Cal P w K mg base 5 "_law_small_facts" ["pen", "pointers", "many"] (spAsked K) := by
  refine D.cal sc_small_facts (fun vs H Q E h => ?_) (fun _ _ _ _ _ _ us hl => match us, hl with | [_, _, _], _ => rfl) (fun f cdv A outer s H vs Q E hr h => ?_)
  · obtain ⟨p, l, a, t, many, ps, rfl, _⟩ := h
    rfl
  have hu := hu_of hr

  obtain ⟨p, l, a, t, many, ps, rfl, pen, ht, hap, hS, h1, h3, hlow, m0, m1, k⟩ := h
  refine ⟨_, (pss_cons (ps_par3 (i := 3) (j := 4) (l := 5) (by rfl) sc_small_facts.nd rfl rfl rfl (by decide) (by decide) (by decide) rfl rfl rfl (pa_cons pe_int (pa_cons (pe_lst (pa_cons pe_int pa_nil)) (pa_cons (pe_lst pa_nil) pa_nil))) (by rfl))
      (pss_cons (ps_set (i := 6) sc_small_facts.nd rfl (by first | exact Or.inl rfl | exact Or.inr rfl) (pe_cal C__law_draw (hr.mono (by decide)) rfl (pa_cons (pv 0) (pa_cons pe_int pa_nil))))
      (C8.pss_cut (ps_if (pt_cmpR op_gt (pv 6) pe_int (nomark _)) (pss_one (ps_asg (pe_ix ix_list (pe_lst (pa_cons (pe_lst (pa_cons pe_int (pa_cons (pe_lst (pa_cons pe_int pa_nil)) pa_nil))) (pa_cons (pe_lst (pa_cons pe_int (pa_cons (pe_lst (pa_cons pe_int (pa_cons pe_int pa_nil))) pa_nil))) pa_nil))) (pe_op op_sub (pv 6) pe_int) (fun _ _ => rfl)) (pg_unl rfl (pgs_cons (pg_name (i := 3) sc_small_facts.nd rfl (by first | exact Or.inl rfl | exact Or.inr rfl)) (pgs_cons (pg_name (i := 4) sc_small_facts.nd rfl (by first | exact Or.inl rfl | exact Or.inr rfl)) pgs_nil))))) pss_nil)
      (pss_cons (ps_for PassesOwn.never rfl (pi_list (pe_cal C__law_new_facts (hr.mono (by decide)) rfl (pa_cons (pv 0) (pa_cons (pv 1) (pa_cons (pv 2) (pa_cons (pv 3) (pa_cons (pv 4) pa_nil))))))) (pg_name (i := 7) sc_small_facts.nd rfl (by first | exact Or.inl rfl | exact Or.inr rfl)) (pss_one (ps_if (PW.pt (pw_or (pt_cmpR op_gt (pv 6) pe_int (nomark _)) (pw_or1 (pt_cmpR op_notIn_seq (pe_ix ix_tup (pv 7) pe_int (fun _ _ => rfl)) (pe_tup (pa_cons pe_str (pa_cons pe_str pa_nil))) (by rfl))))) (pss_one (ps_expr (pe_bm PySem.F.plainAttrs_list PySem.F.slot_list_append PySem.F.type_list_append mt_append (pv 5) (pa_cons (pv 7) pa_nil)))) pss_nil)))
      (pss_one (ps_ret (pv 5))))))), ?_⟩
  have npen : ∀ {H1 : Hp} {D : Addr} {t1 : Int}, Pen H1 p l t1 → H1 D = none → D ≠ p ∧ D ≠ l := fun {H1 D t1} pn hD => by
    obtain ⟨ns, lf, h1, h2, _⟩ := pn.ex
    exact ⟨fun e => (by rw [e, h1] at hD; cases hD), fun e => (by rw [e, h2] at hD; cases hD)⟩
  refine ⟨by show 1 ≤ sizeLine; decide, fun M0 hM0 => ⟨by show 0 ≤ sizeLine; decide, fun F hF => ⟨_, _, _, rfl, ?_⟩⟩⟩
  have nM := npen pen hM0
  have pen0 := pen.new (o := .lst [.int 2]) hM0
  have b0 := (But.refl p H).nw (o := .lst [.int 2]) hM0
  have hM : upd H M0 (.lst [.int 2]) M0 = some (.lst [.int 2]) := upd_same
  have hFH : H F = none := by
    by_cases e : F = M0
    · rw [e]; exact hM0
    · rw [upd_ne e] at hF; exact hF
  generalize upd H M0 (.lst [.int 2]) = H0 at hF pen0 b0 hM ⊢
  have nF := npen pen0 hF
  have pen1 := pen0.new (o := .lst []) hF
  have b1 := b0.nw (o := .lst []) hF
  have hM1 := (Same.new (o := .lst []) hF) _ _ hM
  have hF1 : upd H0 F (.lst []) F = some (.lst []) := upd_same
  generalize upd H0 F (.lst []) = H1 at pen1 b1 hM1 hF1 ⊢
  refine ⟨_, rfl, p, l, t, 3, rfl, pen1, by omega, by decide, by decide, fun sort H2 t2 so0 so1 pen2 g1 g2 b2 => ?_⟩
  have hM2 := b2 _ _ nM.1 hM1
  have hF2 := b2 _ _ nF.1 hF1
  refine ⟨fun σ' H' => ∃ (far : Int) (md : Addr) (ms : List Int), σ' = [some (.ref p), some (.ref a), some (.int many), some (.int far), some (.ref md), some (.ref F), some (.int sort), none] ∧ SmallOk far ms ∧ SqL K H' md (ms.map V.int) ∧ md ≠ p ∧ H' F = some (.lst []) ∧ Pen H' p l t2 ∧ But p H H', ?_, ?_⟩
  · refine ⟨_, rfl, _, _, rfl, rfl, _, rfl, ite2 (fun c => ?_) (fun _ => ?_)⟩
    · have c0 : 0 < sort := of_decide_eq_true c
      refine ⟨by show 1 ≤ sizeLine; decide, fun A1 hA1 => ⟨by show 2 ≤ sizeLine; decide, fun A2 hA2 => ⟨by show 2 ≤ sizeLine; decide, fun A3 hA3 => ⟨by show 2 ≤ sizeLine; decide, fun A4 hA4 => ⟨by show 2 ≤ sizeLine; decide, fun A5 hA5 => ?_⟩⟩⟩⟩⟩
      have n1 := npen pen2 hA1
      have q1 : upd H2 A1 (.lst [.int 2]) A1 = some (.lst [.int 2]) := upd_same
      have sa := Same.new (o := .lst [.int 2]) hA1
      generalize upd H2 A1 (.lst [.int 2]) = G1 at hA2 hA3 hA4 hA5 q1 sa ⊢
      have sb := Same.new (o := .lst [.int 9, .ref A1]) hA2
      have q2 : upd G1 A2 (.lst [.int 9, .ref A1]) A2 = some (.lst [.int 9, .ref A1]) := upd_same
      generalize upd G1 A2 (.lst [.int 9, .ref A1]) = G2 at hA3 hA4 hA5 q2 sb ⊢
      have n3 := npen (pen2.same (sa.trans sb)) hA3
      have sc := Same.new (o := .lst [.int 2, .int 4]) hA3
      have q3 : upd G2 A3 (.lst [.int 2, .int 4]) A3 = some (.lst [.int 2, .int 4]) := upd_same
      generalize upd G2 A3 (.lst [.int 2, .int 4]) = G3 at hA4 hA5 q3 sc ⊢
      have sd := Same.new (o := .lst [.int 4, .ref A3]) hA4
      have q4 : upd G3 A4 (.lst [.int 4, .ref A3]) A4 = some (.lst [.int 4, .ref A3]) := upd_same
      generalize upd G3 A4 (.lst [.int 4, .ref A3]) = G4 at hA5 q4 sd ⊢
      have se := Same.new (o := .lst [.ref A2, .ref A4]) hA5
      have q5 : upd G4 A5 (.lst [.ref A2, .ref A4]) A5 = some (.lst [.ref A2, .ref A4]) := upd_same
      generalize upd G4 A5 (.lst [.ref A2, .ref A4]) = G5 at q5 se ⊢
      have s5 := (((sa.trans sb).trans sc).trans sd).trans se
      have hs : sort = 1 ∨ sort = 2 := by omega
      rcases hs with rfl | rfl
      · refine ⟨_, rfl, _, _, rfl, rfl, A5, _, 0, .ref A2, rfl, rfl, SqL.of q5, rfl, A2, _, rfl, SqL.of ((sc.trans sd).trans se _ _ q2), rfl, _, _, rfl, _, _, rfl, rfl, ?_⟩
        exact ⟨9, A1, [2], rfl, ⟨by decide, by decide, by decide, by decide, by decide⟩, SqL.of (((sb.trans sc).trans sd).trans se _ _ q1), n1.1, s5 _ _ hF2, pen2.same s5, (b1.trans b2).trans (But.of s5)⟩
      · refine ⟨_, rfl, _, _, rfl, rfl, A5, _, 1, .ref A4, rfl, rfl, SqL.of q5, rfl, A4, _, rfl, SqL.of (se _ _ q4), rfl, _, _, rfl, _, _, rfl, rfl, ?_⟩
        exact ⟨4, A3, [2, 4], rfl, ⟨by decide, by decide, by decide, by decide, by decide⟩, SqL.of ((sd.trans se) _ _ q3), n3.1, s5 _ _ hF2, pen2.same s5, (b1.trans b2).trans (But.of s5)⟩
    · exact ⟨16, M0, [2], rfl, ⟨by decide, by decide, by decide, by decide, by decide⟩, SqL.of hM2, nM.1, hF2, pen2, b1.trans b2⟩
  rintro σ' H3 ⟨far, md, ms, rfl, small, hmd, nmd, hF3, pen3, b3⟩
  refine ⟨_, rfl, _, rfl, _, rfl, _, rfl, _, rfl, p, l, a, md, t2, many, far, ms, ps, rfl, pen3, by omega, hap, nmd, b3.seq hap hS, hmd, small, h1, h3, hlow, m0, m1, fun q qs fs H4 t4 ok sm nd len fat pen4 g3 g4 b4 hq hqs => ⟨q, rfl, ⟨_, SqL.of hqs⟩, ?_⟩⟩
  have nFq : q ≠ F := fun e => by rw [e, hF3] at hq; cases hq
  have hF4 := b4 _ _ nF.1 hF3
  have B4 := b3.trans b4
  refine for_list (fun i σ H5 => ∃ (v : Option V) (qs2 : List Addr) (fs2 : List CF.FD), σ = [some (.ref p), some (.ref a), some (.int many), some (.int far), some (.ref md), some (.ref F), some (.int sort), v] ∧ H5 F = some (.lst (qs2.map V.ref)) ∧ CF.FAt H5 qs2 fs2 ∧ fs2.length ≤ i ∧ fs2.Sublist (fs.take i) ∧ H5 q = some (.lst (qs.map V.ref)) ∧ CF.FAt H5 qs fs ∧ Pen H5 p l t4 ∧ But p H H5)
    ⟨none, [], [], rfl, hF4, .nil, Nat.zero_le _, by simp, hqs, fat, pen4, B4⟩ (fun i σ H5 _ ⟨_, _, _, _, _, _, _, _, h, _⟩ => SqL.of h) ?_ ?_
  · rintro i y σ H5 hx ⟨v, qs2, fs2, rfl, e1, e2, e3, e4, e5, e6, e7, e8⟩
    obtain ⟨r, f, rfl, hff, hr⟩ := ref_of e6 hx
    have tk : fs.take (i + 1) = fs.take i ++ [f] := by rw [List.take_add_one, hff]; rfl
    have il := (List.getElem?_eq_some_iff.mp hff).1
    have nq : ∀ {H6 : Hp}, Same H5 H6 → ∃ (v : Option V) (qs2 : List Addr) (fs2 : List CF.FD), [some (V.ref p), some (.ref a), some (.int many), some (.int far), some (.ref md), some (.ref F), some (.int sort), some (.ref r)] = [some (.ref p), some (.ref a), some (.int many), some (.int far), some (.ref md), some (.ref F), some (.int sort), v] ∧ H6 F = some (.lst (qs2.map V.ref)) ∧ CF.FAt H6 qs2 fs2 ∧ fs2.length ≤ i + 1 ∧ fs2.Sublist (fs.take (i + 1)) ∧ H6 q = some (.lst (qs.map V.ref)) ∧ CF.FAt H6 qs fs ∧ Pen H6 p l t4 ∧ But p H H6 :=
      fun {H6} s => ⟨_, qs2, fs2, rfl, s _ _ e1, e2.same s, by omega, by rw [tk]; exact e4.trans (List.sublist_append_left _ _), s _ _ e5, e6.same s, e7.same s, e8.trans (But.of s)⟩
    have app : ∀ {H6 : Hp}, Same H5 H6 → ∃ (p1 : Addr) (xs : List V) (y1 : V), V.ref F = .ref p1 ∧ [V.ref r] = [y1] ∧ H6 p1 = some (.lst xs) ∧ xs.length < sizeLine ∧ (∃ (v : Option V) (qs2 : List Addr) (fs2 : List CF.FD), [some (V.ref p), some (.ref a), some (.int many), some (.int far), some (.ref md), some (.ref F), some (.int sort), some (.ref r)] = [some (.ref p), some (.ref a), some (.int many), some (.int far), some (.ref md), some (.ref F), some (.int sort), v] ∧ upd H6 p1 (.lst (xs ++ [y1])) F = some (.lst (qs2.map V.ref)) ∧ CF.FAt (upd H6 p1 (.lst (xs ++ [y1]))) qs2 fs2 ∧ fs2.length ≤ i + 1 ∧ fs2.Sublist (fs.take (i + 1)) ∧ upd H6 p1 (.lst (xs ++ [y1])) q = some (.lst (qs.map V.ref)) ∧ CF.FAt (upd H6 p1 (.lst (xs ++ [y1]))) qs fs ∧ Pen (upd H6 p1 (.lst (xs ++ [y1]))) p l t4 ∧ But p H (upd H6 p1 (.lst (xs ++ [y1])))) := fun {H6} s => by
      have f1 := s _ _ e1
      refine ⟨F, _, .ref r, rfl, rfl, f1, ?_, _, qs2 ++ [r], fs2 ++ [f], rfl, ?_, ((e2.same s).app (s _ _ hr)).up f1, ?_, ?_, (upd_ne nFq).trans (s _ _ e5), (e6.same s).up f1, (e7.same s).put nF.1 nF.2, (e8.trans (But.of s)).put hFH⟩
      · rw [List.length_map, e2.len, sizeLine_eq]
        have : fs.length ≤ 13 := by omega
        omega
      · rw [List.map_append]; exact upd_same
      · rw [List.length_append, List.length_singleton]; omega
      · rw [tk]; exact e4.append (List.Sublist.refl [f])
    refine ⟨_, rfl, _, _, rfl, rfl, _, rfl, ite2 (fun _ => ?_) (fun _ => ?_)⟩
    · refine iteT ⟨_, rfl, .inl ⟨rfl, _, SqL.of e1⟩, _, rfl, app (Same.refl _)⟩
    have fl : flatV (V.str "by") = true := rfl
    have word : ∃ (w : Str) (vs : List V), f.vs = .str w :: vs := by cases f <;> exact ⟨_, _, rfl⟩
    obtain ⟨w, vs, hw⟩ := word
    rw [hw] at hr
    refine ⟨_, rfl, r, _, _, .str w, rfl, rfl, SqT.of hr, at_of (j := 0) (by simp) rfl, by show 2 ≤ sizeLine; decide, fun T0 hT => ⟨T0, _, rfl, .inr (SqT.of upd_same), rfl, rfl, _, rfl, ite2 (fun _ => ?_) (fun _ => ?_)⟩⟩
    · exact ⟨_, rfl, .inl ⟨rfl, _, SqL.of ((Same.new hT) _ _ e1)⟩, _, rfl, app (Same.new hT)⟩
    · exact nq (Same.new hT)
  · rintro σ H5 ⟨v, qs2, fs2, rfl, e1, e2, e3, e4, e5, e6, e7, e8⟩
    have mem : ∀ f ∈ fs2, f ∈ fs := fun f hf => List.mem_of_mem_take (e4.subset hf)
    refine ⟨_, rfl, k F qs2 fs2 H5 t4 (fun f hf => ok f (mem f hf)) (small_asked small h1 h3 fun f hf => sm f (mem f hf)) ((nd.sublist (List.take_sublist _ _)).sublist e4) ?_ e2 e7 (by omega) (by omega) e8 hFH e1⟩
    rw [List.length_map, fat.len] at e3
    omega


abbrev s_asked_facts : Stmt := topS 69
theorem sc_asked_facts : FnScope ["pen", "pointers", "many"] ["pen", "pointers", "many"] (defScope s_asked_facts) := ⟨rfl, rfl, rfl, by decide +kernel, rfl, by decide +kernel, by decide +kernel⟩
theorem ok_asked_facts (T : Txt mg) (D : Def K mg "_law_asked_facts" s_asked_facts) (C__law_small_facts : Cal P w K mg base 5 "_law_small_facts" ["pen", "pointers", "many"] (spAsked K)) (C__law_wide_facts : Cal P w K mg base 4 "_law_wide_facts" ["pen", "pointers", "many"] (spWideFacts K)) : Cal P w K mg base 6 "_law_asked_facts" ["pen", "pointers", "many"] (spAsked K) := by
  refine D.cal sc_asked_facts (fun vs H Q E h => ?_) (fun _ _ _ _ _ _ us hl => match us, hl with | [_, _, _], _ => rfl) (fun f cdv A outer s H vs Q E hr h => ?_)
  · obtain ⟨p, l, a, t, many, ps, rfl, _⟩ := h
    rfl
  have hu := hu_of hr

  obtain ⟨p, l, a, t, many, ps, rfl, pen, ht, hap, hS, h1, h3, hlow, m0, m1, k⟩ := h
  refine ⟨_, (pss_one (ps_ret (pe_ifExp (pt_cmpR op_eq (pe_callB call_len (by rfl) T.f_len PySem.boot_len (pa_cons (pv 1) pa_nil)) pe_int (nomark _)) (pe_cal C__law_small_facts (hr.mono (by decide)) rfl (pa_cons (pv 0) (pa_cons (pv 1) (pa_cons (pv 2) pa_nil)))) (pe_cal C__law_wide_facts (hr.mono (by decide)) rfl (pa_cons (pv 0) (pa_cons (pv 1) (pa_cons (pv 2) pa_nil))))))), ?_⟩
  refine ⟨_, rfl, _, _, rfl, .inl ⟨_, hS, rfl⟩, rfl, _, rfl, ite2 (fun c => ?_) (fun c => ?_)⟩
  · exact ⟨_, rfl, _, rfl, _, rfl, p, l, a, t, many, ps, rfl, pen, ht, hap, hS, h1, h3, hlow, m0, m1, k⟩
  · refine ⟨_, rfl, _, rfl, _, rfl, p, l, a, t, many, ps, rfl, pen, by omega, hap, hS, h1, h3, hlow, m0, m1, fun q qs fs H' t' ok nd len fat pen' g1 g2 b hq h' => k q qs fs H' t' ok (wide_asked h1 h3 (fun e => c ?_) ok) nd len fat pen' g1 (by omega) b hq h'⟩
    rw [List.length_map, e]
    rfl

end
end K05
end
section
set_option Elab.async false
set_option linter.all false
set_option maxRecDepth 100000
set_option maxHeartbeats 4000000
namespace K05
open PySem PySem.Spec PyProof.Rows L2
open PySem.W (ke_shaped_ints)
local macro_rules | `(tactic| walk_at "go") => `(tactic| first | refine ⟨_, rfl, ?_⟩ | refine .inl ⟨_, rfl, ?_⟩ | refine ⟨_, _, rfl, rfl, (by first | (show (0 : Int) < _; decide) | exact Or.inl ⟨by decide, by decide⟩ | exact Or.inr ⟨by decide, by decide⟩), ?_⟩ | refine ⟨_, _, rfl, rfl, ?_⟩)
section
variable {P : Program} {w : World} {K : PySem.W.Frag} {mg : Str → Option Value} {base : Heap}

theorem pe_imp {X : Cx} {e : Expr} {t t' : TE} (h : PE X e t) (f : ∀ σ H Q, t' σ H Q → t σ H Q) : PE X e t' := ⟨fun pins s σ H Q I w => h.run pins s σ H Q I (f _ _ _ w)⟩
/-- a if k > c else z -/
def tPick (i j : Nat) (c z : Int) : TE := fun σ H Q => ∃ m kk : Int, σ[i]? = some (some (.int m)) ∧ σ[j]? = some (some (.int kk)) ∧ Q (.int (if c < kk then m else z)) H
theorem pick_ok {i j : Nat} {c z : Int} : ∀ (σ : L2.St) (H : Hp) (Q : VK), tPick i j c z σ H Q → (tIf (tTest (tOp (rI0 fun i j => V.bl (decide (j < i))) (tVar j) (tC (V.int c)))) (tVar i) (tC (V.int z))) σ H Q := by
  rintro σ H Q ⟨m, kk, h1, h2, q⟩
  refine ⟨_, h2, _, _, rfl, rfl, _, rfl, ite2 (fun e => ?_) (fun e => ?_)⟩
  · rw [if_pos (of_decide_eq_true e)] at q
    exact ⟨_, h1, q⟩
  · rw [if_neg (fun x => e (decide_eq_true x))] at q
    exact q
/-! the rows, as they are found -/
def rwX (k : Int) (l o t : Int) : List (List Int) := if 2 < k then [[l, l + o, l + o + t], [l, l + o + t, l + o], [l + o, l, l + o + t], [l + o, l + o + t, l], [l + o + t, l, l + o], [l + o + t, l + o, l]] else [[l, l + o], [l + o, l]]
def accT (k l o : Int) (n : Nat) : List (List Int) := (List.range n).flatMap fun t : Nat => rwX k l o (t : Int)
def accO (k l : Int) (n2 n : Nat) : List (List Int) := (List.range n).flatMap fun o : Nat => accT k l (o : Int) n2
def accL (k : Int) (n1 n2 n : Nat) : List (List Int) := (List.range n).flatMap fun l : Nat => (if k = 1 then [[(l : Int)]] else []) ++ accO k (l : Int) n2 n1
theorem range_flat {α : Type} (f : Nat → List α) (n : Nat) : (List.range (n + 1)).flatMap f = (List.range n).flatMap f ++ f n := by rw [List.range_succ, List.flatMap_append]; simp
theorem flat_len {α : Type} (f : Nat → List α) (b : Nat) (h : ∀ i, (f i).length ≤ b) (n : Nat) : ((List.range n).flatMap f).length ≤ n * b := by
  induction n with
  | zero => simp
  | succ n ih => rw [range_flat, List.length_append, Nat.succ_mul]; have := h n; omega
theorem rwX_len (k l o t : Int) : (rwX k l o t).length ≤ 6 := by unfold rwX; split <;> simp
/-- just the places that are enough -/
theorem accL_near {k n1 n2 m : Nat} {most : Nat} (hk : 1 ≤ k ∧ k ≤ 3) (hm : 1 ≤ most) (h1 : n1 = if 1 < k then most else 0) (h2 : n2 = if 2 < k then most else 1) {z : List Int} : z ∈ accL (k : Int) n1 n2 m ↔ NM.Near k (most - 1) m z := by
  have h3 : k = 1 ∨ k = 2 ∨ k = 3 := by omega
  rcases h3 with rfl | rfl | rfl
  · subst h1 h2
    simp only [accL, accO, NM.Near, List.mem_flatMap, List.mem_range, List.mem_append]
    constructor
    · rintro ⟨l, hl, h | ⟨o, ho, _⟩⟩
      · simp at h; subst h
        exact .inl ⟨trivial, (l : Int), rfl, by omega, by omega⟩
      · simp at ho
    · rintro (⟨_, a, rfl, h0, h1⟩ | ⟨h, _⟩ | ⟨h, _⟩)
      · exact ⟨a.toNat, by omega, .inl (by simp; omega)⟩
      · omega
      · omega
  · subst h1 h2
    simp only [accL, accO, accT, rwX, NM.Near, List.mem_flatMap, List.mem_range, List.mem_append]
    constructor
    · rintro ⟨l, hl, h | ⟨o, ho, t, ht, hz⟩⟩
      · simp at h
      · simp at ho ht hz
        refine .inr (.inl ⟨by trivial, ?_⟩)
        rcases hz with rfl | rfl
        · exact ⟨_, _, l, l + o, rfl, .inl ⟨rfl, rfl⟩, by omega, by omega, by omega, by omega⟩
        · exact ⟨_, _, l, l + o, rfl, .inr ⟨rfl, rfl⟩, by omega, by omega, by omega, by omega⟩
    · rintro (⟨h, _⟩ | ⟨_, a, b, l, u, rfl, hab, h0, h1, h2, h4⟩ | ⟨h, _⟩)
      · omega
      · refine ⟨l.toNat, by omega, .inr ⟨(u - l).toNat, by first | omega | (simp; omega), 0, by first | omega | simp, ?_⟩⟩
        have e1 : ((l.toNat : Nat) : Int) = l := by omega
        have e2 : ((l.toNat : Nat) : Int) + (((u - l).toNat : Nat) : Int) = u := by omega
        rcases hab with ⟨rfl, rfl⟩ | ⟨rfl, rfl⟩
        · simp; left; omega
        · simp; right; omega
      · omega
  · subst h1 h2
    simp only [accL, accO, accT, rwX, NM.Near, List.mem_flatMap, List.mem_range, List.mem_append]
    constructor
    · rintro ⟨l, hl, h | ⟨o, ho, t, ht, hz⟩⟩
      · simp at h
      · try simp at ho ht
        refine .inr (.inr ⟨by trivial, l, l + o, l + o + t, by simpa using hz, by omega, by omega, by omega, by omega, by omega, by omega⟩)
    · rintro (⟨h, _⟩ | ⟨h, _⟩ | ⟨_, l, m', u, hz, h0, h1, h2, h4, h5, h6⟩)
      · omega
      · omega
      · refine ⟨l.toNat, by omega, .inr ⟨(m' - l).toNat, by first | omega | (simp; omega), (u - m').toNat, by first | omega | (simp; omega), ?_⟩⟩
        have e1 : ((l.toNat : Nat) : Int) = l := by omega
        have e2 : l + (((m' - l).toNat : Nat) : Int) = m' := by omega
        have e3 : m' + (((u - m').toNat : Nat) : Int) = u := by omega
        rw [e1, e2, e3]
        simpa using hz
/-! what the dict has got -/
def entL (L : List (List Int)) : List (List Key × V) := L.map fun z => (z.map (fun i => (Sum.inl i : Key)), V.bl true)
theorem inl_inj {a b : List Int} (h : a.map (fun i => (Sum.inl i : Key)) = b.map (fun i => (Sum.inl i : Key))) : a = b := by
  induction a generalizing b with
  | nil => cases b with
    | nil => rfl
    | cons _ _ => cases h
  | cons x r ih => cases b with
    | nil => cases h
    | cons y q =>
      rw [List.map_cons, List.map_cons, List.cons.injEq] at h
      rw [Sum.inl.inj h.1, ih h.2]
theorem put_ent (L : List (List Int)) (z : List Int) : putK (entL L) (z.map fun i => (Sum.inl i : Key)) (V.bl true) = entL (if z ∈ L then L else L ++ [z]) := by
  have an : ((entL L).any fun kv => decide (kv.1 = z.map fun i => (Sum.inl i : Key))) = decide (z ∈ L) := by
    unfold entL
    rw [List.any_map, Bool.eq_iff_iff, List.any_eq_true, decide_eq_true_iff]
    constructor
    · rintro ⟨y, hy, e⟩
      rw [← inl_inj (of_decide_eq_true e)]
      exact hy
    · exact fun h => ⟨z, h, decide_eq_true rfl⟩
  unfold putK
  rw [an]
  by_cases h : z ∈ L
  · rw [if_pos (decide_eq_true h), if_pos h]
    have : ∀ kv ∈ entL L, (if kv.1 = z.map (fun i => (Sum.inl i : Key)) then (kv.1, V.bl true) else kv) = kv := fun kv hkv => by
      obtain ⟨y, _, rfl⟩ := List.mem_map.mp hkv
      split <;> rfl
    conv => rhs; rw [← List.map_id (entL L)]
    exact List.map_congr_left this
  · rw [if_neg (by simpa using h), if_neg h]
    unfold entL
    rw [List.map_append]
    rfl
/-- the dict at D holds just acc -/
def GotD (H : Hp) (D : Addr) (acc : List (List Int)) : Prop := ∃ L, H D = some (.dT (entL L)) ∧ (∀ z, z ∈ L ↔ z ∈ acc) ∧ L.length ≤ acc.length ∧ L.Nodup
theorem GotD.of {H H' : Hp} {D : Addr} {acc : List (List Int)} (h : GotD H D acc) (e : ∀ o, H D = some o → H' D = some o) : GotD H' D acc := by
  obtain ⟨L, h1, h2⟩ := h
  exact ⟨L, e _ h1, h2⟩
theorem GotD.same {H H' : Hp} {D : Addr} {acc : List (List Int)} (h : GotD H D acc) (s : Same H H') : GotD H' D acc := h.of fun o e => s _ _ e
/-- one more -/
theorem GotD.put {H : Hp} {D t : Addr} {acc : List (List Int)} {z : List Int} (h : GotD H D acc) (ht : H t = some (.tup (z.map V.int))) (hl : acc.length < sizeLine) : ∃ H', DPut H D (.ref t) (.bl true) H' ∧ GotD H' D (acc ++ [z]) ∧ But D H H' := by
  obtain ⟨L, h1, h2, h3, h4⟩ := h
  have len : (entL L).length = L.length := List.length_map ..
  have ht' : H t = some (.tup ((z.map (fun i => (Sum.inl i : Key))).map kV)) := by rw [List.map_map]; exact ht
  refine ⟨_, DPut.t h1 ht' (by rw [len]; omega), ⟨if z ∈ L then L else L ++ [z], ?_, fun y => ?_, ?_, ?_⟩, fun b o ne e => (upd_ne ne).trans e⟩
  · rw [put_ent]; exact upd_same
  · split
    · rename_i hz
      rw [List.mem_append, List.mem_singleton]
      exact ⟨fun hy => .inl ((h2 y).mp hy), fun hy => hy.elim (fun a => (h2 y).mpr a) fun e => e ▸ hz⟩
    · rw [List.mem_append, List.mem_append, h2]
  · split
    · rw [List.length_append]; exact Nat.le_trans h3 (Nat.le_add_right _ _)
    · rw [List.length_append, List.length_append]; exact Nat.add_le_add_right h3 _
  · split
    · exact h4
    · rename_i hz
      exact List.nodup_append.mpr ⟨h4, by simp, by intro x hx y hy e; rw [List.mem_singleton.mp hy] at e; exact hz (e ▸ hx)⟩
theorem accT_len (k l o : Int) {n : Nat} (h : n ≤ 110) : (accT k l o n).length ≤ 660 := by
  have := flat_len (fun t : Nat => rwX k l o (t : Int)) 6 (fun i => rwX_len _ _ _ _) n
  unfold accT
  omega
theorem accO_len (k l : Int) {n2 n : Nat} (h2 : n2 ≤ 110) (h : n ≤ 110) : (accO k l n2 n).length ≤ 72600 := by
  have := flat_len (fun o : Nat => accT k l (o : Int) n2) 660 (fun i => accT_len _ _ _ h2) n
  unfold accO
  omega
theorem accL_len (k : Int) {n1 n2 : Nat} (h1 : n1 ≤ 110) (h2 : n2 ≤ 110) (n : Nat) (h : n ≤ 8) : (accL k n1 n2 n).length ≤ 600000 := by
  have := flat_len (fun l : Nat => (if k = 1 then [[(l : Int)]] else []) ++ accO k (l : Int) n2 n1) 72601 (fun i => by
    rw [List.length_append]
    have := accO_len k (i : Int) h2 h1
    split <;> simp <;> omega) n
  unfold accL
  omega
theorem rows_keys {H : Hp} : ∀ {L : List (List Int)} {bs : List Addr}, IsKeys H (entL L) bs → RowsAt H bs L
  | [], _, .nil => .nil
  | z :: L, _ :: _, .cons h r => .cons (by rw [List.map_map] at h; exact h) (rows_keys r)


/-- spreads(k, gap, modulus) -/
def spSpreads (K : PySem.W.Frag) : Sp := fun vs H Q _ => ∃ k gap m : Nat, vs = [.int k, .int gap, .int m] ∧ 1 ≤ k ∧ k ≤ 3 ∧ 1 ≤ gap ∧ gap + m ≤ 110 ∧ 1 ≤ m ∧ m ≤ 8 ∧
  ∀ (q : Addr) (ts : List Addr) (zs : List (List Int)) (H' : Hp), Same H H' → H' q = some (.lst (ts.map V.ref)) → RowsAt H' ts zs → zs.length ≤ 600000 → zs.Nodup → (∀ z, z ∈ zs ↔ NM.Near k (gap + m - 1) m z) → Q (.ref q) H'
abbrev s_spreads : Stmt := topS 59
theorem sc_spreads : FnScope ["k", "gap", "modulus", "most", "found", "low", "one", "two", "b", "c", "rows", "row"] ["k", "gap", "modulus"] (defScope s_spreads) := ⟨rfl, rfl, rfl, by decide +kernel, rfl, by decide +kernel, by decide +kernel⟩
theorem ok_spreads (T : Txt mg) (M : TxtM mg) (D : Def K mg "_law_spreads" s_spreads) : Cal P w K mg base 1 "_law_spreads" ["k", "gap", "modulus"] (spSpreads K) := by
  refine D.cal sc_spreads (fun vs H Q E h => ?_) (fun _ _ _ _ _ _ us hl => match us, hl with | [_, _, _], _ => rfl) (fun f cdv A outer s H vs Q E hr h => ?_)
  · obtain ⟨k, gap, m, rfl, _⟩ := h
    rfl
  have hu := hu_of hr

  obtain ⟨k, gap, m, rfl, k1, k3, g1, gm, m1, m8, kk⟩ := h
  refine ⟨_, (pss_cons (ps_par (i := 3) (j := 4) (by rfl) sc_spreads.nd rfl rfl (by decide) rfl rfl (pa_cons (pe_op op_add (pv 1) (pv 2)) (pa_cons pe_dnewT pa_nil)) (by rfl))
      (pss_cons (ps_for PassesOwn.never rfl (pi_range1 rfl T.f_range (pa_cons (pv 2) pa_nil)) (pg_name (i := 5) sc_spreads.nd rfl (by first | exact Or.inl rfl | exact Or.inr rfl)) (C8.pss_cut (ps_if (pt_cmpR op_eq (pv 0) pe_int (nomark _)) (pss_one (ps_dput hu (pv 4) (pe_tup (pa_cons (pv 5) pa_nil)) pe_bl rfl)) pss_nil)
      (pss_one (ps_for PassesOwn.never rfl (pi_range1 rfl T.f_range (pa_cons (pe_imp (pe_ifExp (pt_cmpR op_gt (pv 0) pe_int (nomark _)) (pv 3) pe_int) (pick_ok (i := 3) (j := 0) (c := 1) (z := 0))) pa_nil)) (pg_name (i := 6) sc_spreads.nd rfl (by first | exact Or.inl rfl | exact Or.inr rfl)) (pss_one (ps_for PassesOwn.never rfl (pi_range1 rfl T.f_range (pa_cons (pe_imp (pe_ifExp (pt_cmpR op_gt (pv 0) pe_int (nomark _)) (pv 3) pe_int) (pick_ok (i := 3) (j := 0) (c := 2) (z := 1))) pa_nil)) (pg_name (i := 7) sc_spreads.nd rfl (by first | exact Or.inl rfl | exact Or.inr rfl)) (pss_cons (ps_par (i := 8) (j := 9) (by rfl) sc_spreads.nd rfl rfl (by decide) rfl rfl (pa_cons (pe_op op_add (pv 5) (pv 6)) (pa_cons (pe_op op_add (pe_op op_add (pv 5) (pv 6)) (pv 7)) pa_nil)) (by rfl))
      (pss_cons (ps_set (i := 10) sc_spreads.nd rfl (by first | exact Or.inl rfl | exact Or.inr rfl) (pe_lst (pa_cons (pe_tup (pa_cons (pv 5) (pa_cons (pv 8) pa_nil))) (pa_cons (pe_tup (pa_cons (pv 8) (pa_cons (pv 5) pa_nil))) pa_nil))))
      (C8.pss_cut (ps_if (pt_cmpR op_gt (pv 0) pe_int (nomark _)) (pss_one (ps_set (i := 10) sc_spreads.nd rfl (by first | exact Or.inl rfl | exact Or.inr rfl) (pe_lst (pa_cons (pe_tup (pa_cons (pv 5) (pa_cons (pv 8) (pa_cons (pv 9) pa_nil)))) (pa_cons (pe_tup (pa_cons (pv 5) (pa_cons (pv 9) (pa_cons (pv 8) pa_nil)))) (pa_cons (pe_tup (pa_cons (pv 8) (pa_cons (pv 5) (pa_cons (pv 9) pa_nil)))) (pa_cons (pe_tup (pa_cons (pv 8) (pa_cons (pv 9) (pa_cons (pv 5) pa_nil)))) (pa_cons (pe_tup (pa_cons (pv 9) (pa_cons (pv 5) (pa_cons (pv 8) pa_nil)))) (pa_cons (pe_tup (pa_cons (pv 9) (pa_cons (pv 8) (pa_cons (pv 5) pa_nil)))) pa_nil))))))))) pss_nil)
      (pss_one (ps_for PassesOwn.never rfl (pi_list (pv 10)) (pg_name (i := 11) sc_spreads.nd rfl (by first | exact Or.inl rfl | exact Or.inr rfl)) (pss_one (ps_dput hu (pv 4) (pv 11) pe_bl rfl)))))))))))))
      (pss_one (ps_ret (pe_callTy (call_list_dT rfl) (by rfl) T.f_list (by decide +kernel) (pa_cons (pv 4) pa_nil)))))), ?_⟩
  refine ⟨_, rfl, _, rfl, _, _, rfl, rfl, fun D hD => ⟨_, _, rfl, ?_⟩⟩

  have big : sizeLine = 16777216 := sizeLine_eq
  have B0 : But D H (upd H D (.dT [])) := fun b o ne e => (upd_ne ne).trans e
  have G0 : GotD (upd H D (.dT [])) D [] := ⟨[], upd_same, fun z => Iff.rfl, Nat.le_refl _, .nil⟩
  generalize upd H D (.dT []) = H0 at B0 G0 ⊢
  obtain ⟨N1, hN1, eN1, bN1⟩ : ∃ N1 : Nat, (if (1 : Int) < (k : Int) then ((gap : Int) + m) else 0) = (N1 : Int) ∧ N1 = (if 1 < k then gap + m else 0) ∧ N1 ≤ 110 := by
    by_cases c : 1 < k
    · exact ⟨gap + m, by rw [if_pos (by omega)]; omega, by rw [if_pos c], by omega⟩
    · exact ⟨0, by rw [if_neg (by omega)]; rfl, by rw [if_neg c], by omega⟩
  obtain ⟨N2, hN2, eN2, bN2⟩ : ∃ N2 : Nat, (if (2 : Int) < (k : Int) then ((gap : Int) + m) else 1) = (N2 : Int) ∧ N2 = (if 2 < k then gap + m else 1) ∧ N2 ≤ 110 := by
    by_cases c : 2 < k
    · exact ⟨gap + m, by rw [if_pos (by omega)]; omega, by rw [if_pos c], by omega⟩
    · exact ⟨1, by rw [if_neg (by omega)]; rfl, by rw [if_neg c], by omega⟩
  have near := fun z => accL_near (k := k) (n1 := N1) (n2 := N2) (m := m) (most := gap + m) ⟨k1, k3⟩ (by omega) eN1 eN2 (z := z)
  have lenL := accL_len (k : Int) bN1 bN2
  have lenO := fun l n (h : n ≤ 110) => accO_len (k : Int) l bN2 h
  have lenT := fun l o n (h : n ≤ 110) => accT_len (k : Int) l o h
  clear eN1 eN2
  refine ⟨_, rfl, _, rfl, by omega, by omega, ?_⟩
  rw [Int.toNat_natCast]
  refine for_range (lo := 0) (n := m) (fun i σ H1 => ∃ v5 v6 v7 v8 v9 v10 v11 : Option V, σ = [some (.int (k : Nat)), some (.int (gap : Nat)), some (.int (m : Nat)), some (.int ((gap : Int) + m)), some (.ref D), v5, v6, v7, v8, v9, v10, v11] ∧ GotD H1 D (accL (k : Int) N1 N2 i) ∧ But D H H1)
    ⟨none, none, none, none, none, none, none, rfl, G0, B0⟩ ?_ ?_
  · rintro l σ H1 hl ⟨v5, v6, v7, v8, v9, v10, v11, rfl, g1, b1⟩
    rw [Int.zero_add]
    have lenA := lenL l (by omega)
    have accS : accL (k : Int) N1 N2 (l + 1) = accL (k : Int) N1 N2 l ++ ((if (k : Int) = 1 then [[(l : Int)]] else []) ++ accO (k : Int) (l : Int) N2 N1) := range_flat _ _
    rw [accS]
    generalize accL (k : Int) N1 N2 l = A at g1 lenA ⊢
    refine ⟨fun σ' H' => σ' = [some (.int (k : Nat)), some (.int (gap : Nat)), some (.int (m : Nat)), some (.int ((gap : Int) + m)), some (.ref D), some (.int (l : Nat)), v6, v7, v8, v9, v10, v11] ∧ GotD H' D (A ++ (if (k : Int) = 1 then [[(l : Int)]] else [])) ∧ But D H H', ?_, ?_⟩
    · refine ⟨_, rfl, rfl, _, rfl, ite2 (fun c => ?_) (fun c => ?_)⟩
      · have e1 : (k : Int) = 1 := V.int.inj (of_decide_eq_true c)
        refine ⟨_, rfl, _, rfl, by show 1 ≤ sizeLine; decide, fun t ht => ?_⟩
        obtain ⟨H', dp, g', b'⟩ := (g1.same (Same.new (o := .tup [.int (l : Nat)]) ht)).put (z := [(l : Int)]) (show upd H1 t (.tup [.int (l : Nat)]) t = some (.tup ([(l : Int)].map V.int)) from upd_same) (by omega)
        refine ⟨D, H', rfl, dp, rfl, ?_, (b1.nw ht).trans b'⟩
        rw [if_pos e1]
        exact g'
      · refine ⟨rfl, ?_, b1⟩
        rw [if_neg (fun e => c (decide_eq_true (congrArg V.int e))), List.append_nil]
        exact g1
    rintro σ' H2 ⟨rfl, g2, b2⟩
    rw [← List.append_assoc]
    have lenA2 : (A ++ (if (k : Int) = 1 then [[(l : Int)]] else [])).length ≤ 600001 := by
      rw [List.length_append]
      split <;> simp <;> omega
    generalize A ++ (if (k : Int) = 1 then [[(l : Int)]] else []) = A2 at g2 lenA2 ⊢
    refine ⟨_, _, rfl, rfl, _, rfl, by rw [hN1]; omega, by rw [hN1]; omega, ?_⟩
    rw [hN1, Int.toNat_natCast]
    refine for_range (lo := 0) (n := N1) (fun o σ H1 => ∃ v6 v7 v8 v9 v10 v11 : Option V, σ = [some (.int (k : Nat)), some (.int (gap : Nat)), some (.int (m : Nat)), some (.int ((gap : Int) + m)), some (.ref D), some (.int (l : Nat)), v6, v7, v8, v9, v10, v11] ∧ GotD H1 D (A2 ++ accO (k : Int) (l : Int) N2 o) ∧ But D H H1)
      ⟨v6, v7, v8, v9, v10, v11, rfl, by simpa [accO] using g2, b2⟩ ?_ ?_
    · rintro o σ H3 ho ⟨v6, v7, v8, v9, v10, v11, rfl, g3, b3⟩
      rw [Int.zero_add]
      have lenA3 : (A2 ++ accO (k : Int) (l : Int) N2 o).length ≤ 700000 := by
        have := lenO l o (by omega)
        rw [List.length_append]
        omega
      have accS2 : accO (k : Int) (l : Int) N2 (o + 1) = accO (k : Int) (l : Int) N2 o ++ accT (k : Int) (l : Int) (o : Int) N2 := range_flat _ _
      rw [accS2, ← List.append_assoc]
      generalize A2 ++ accO (k : Int) (l : Int) N2 o = A3 at g3 lenA3 ⊢
      refine ⟨_, _, rfl, rfl, _, rfl, by rw [hN2]; omega, by rw [hN2]; omega, ?_⟩
      rw [hN2, Int.toNat_natCast]
      refine for_range (lo := 0) (n := N2) (fun t σ H1 => ∃ v7 v8 v9 v10 v11 : Option V, σ = [some (.int (k : Nat)), some (.int (gap : Nat)), some (.int (m : Nat)), some (.int ((gap : Int) + m)), some (.ref D), some (.int (l : Nat)), some (.int (o : Nat)), v7, v8, v9, v10, v11] ∧ GotD H1 D (A3 ++ accT (k : Int) (l : Int) (o : Int) t) ∧ But D H H1)
        ⟨v7, v8, v9, v10, v11, rfl, by simpa [accT] using g3, b3⟩ ?_ ?_
      · rintro t σ H4 ht ⟨v7, v8, v9, v10, v11, rfl, g4, b4⟩
        rw [Int.zero_add]
        have lenA4 : (A3 ++ accT (k : Int) (l : Int) (o : Int) t).length ≤ 701000 := by
          have := lenT l o t (by omega)
          rw [List.length_append]
          omega
        have accS3 : accT (k : Int) (l : Int) (o : Int) (t + 1) = accT (k : Int) (l : Int) (o : Int) t ++ rwX (k : Int) (l : Int) (o : Int) (t : Int) := range_flat _ _
        rw [accS3, ← List.append_assoc]
        generalize A3 ++ accT (k : Int) (l : Int) (o : Int) t = A4 at g4 lenA4 ⊢
        refine ⟨_, rfl, _, rfl, _, _, rfl, rfl, _, rfl, _, rfl, _, _, rfl, rfl, _, rfl, _, _, rfl, rfl, _, _, rfl, ?_⟩
        refine ⟨_, rfl, _, rfl, by show 2 ≤ sizeLine; decide, fun w1 hw1 => ?_⟩
        have z1 := Same.new (o := .tup [.int (l : Nat), .int ((l : Int) + o)]) hw1
        have f1 : upd H4 w1 (.tup [.int (l : Nat), .int ((l : Int) + o)]) w1 = some (.tup [.int (l : Nat), .int ((l : Int) + o)]) := upd_same
        generalize upd H4 w1 (.tup [.int (l : Nat), .int ((l : Int) + o)]) = F1 at z1 f1 ⊢
        refine ⟨_, rfl, _, rfl, by show 2 ≤ sizeLine; decide, fun w2 hw2 => ?_⟩
        have z2 := Same.new (o := .tup [.int ((l : Int) + o), .int (l : Nat)]) hw2
        have f2 : upd F1 w2 (.tup [.int ((l : Int) + o), .int (l : Nat)]) w2 = some (.tup [.int ((l : Int) + o), .int (l : Nat)]) := upd_same
        generalize upd F1 w2 (.tup [.int ((l : Int) + o), .int (l : Nat)]) = F2 at z2 f2 ⊢
        refine ⟨by show 2 ≤ sizeLine; decide, fun q1 hq1 => ?_⟩
        have z3 := Same.new (o := .lst [.ref w1, .ref w2]) hq1
        have f3 : upd F2 q1 (.lst [.ref w1, .ref w2]) q1 = some (.lst [.ref w1, .ref w2]) := upd_same
        generalize upd F2 q1 (.lst [.ref w1, .ref w2]) = G0 at z3 f3 ⊢
        have zz := (z1.trans z2).trans z3
        have gd := g4.same zz
        have bd := b4.trans (But.of zz)
        refine ⟨fun σ' H' => ∃ (q : Addr) (ts : List Addr) (v11 : Option V), σ' = [some (.int (k : Nat)), some (.int (gap : Nat)), some (.int (m : Nat)), some (.int ((gap : Int) + m)), some (.ref D), some (.int (l : Nat)), some (.int (o : Nat)), some (.int (t : Nat)), some (.int ((l : Int) + o)), some (.int ((l : Int) + o + t)), some (.ref q), v11] ∧ H' q = some (.lst (ts.map V.ref)) ∧ RowsAt H' ts (rwX (k : Int) (l : Int) (o : Int) (t : Int)) ∧ GotD H' D A4 ∧ But D H H', ?_, ?_⟩
        · refine ⟨_, rfl, _, _, rfl, rfl, _, rfl, ite2 (fun c => ?_) (fun c => ?_)⟩
          · skip
            refine ⟨_, rfl, _, rfl, _, rfl, by show 3 ≤ sizeLine; decide, fun u1 hu1 => ?_⟩
            have s1 := Same.new (o := .tup [.int (l : Nat), .int ((l : Int) + o), .int ((l : Int) + o + t)]) hu1
            have e1 : upd G0 u1 (.tup [.int (l : Nat), .int ((l : Int) + o), .int ((l : Int) + o + t)]) u1 = some (.tup [.int (l : Nat), .int ((l : Int) + o), .int ((l : Int) + o + t)]) := upd_same
            generalize upd G0 u1 (.tup [.int (l : Nat), .int ((l : Int) + o), .int ((l : Int) + o + t)]) = G1 at s1 e1 ⊢
            refine ⟨_, rfl, _, rfl, _, rfl, by show 3 ≤ sizeLine; decide, fun u2 hu2 => ?_⟩
            have s2 := Same.new (o := .tup [.int (l : Nat), .int ((l : Int) + o + t), .int ((l : Int) + o)]) hu2
            have e2 : upd G1 u2 (.tup [.int (l : Nat), .int ((l : Int) + o + t), .int ((l : Int) + o)]) u2 = some (.tup [.int (l : Nat), .int ((l : Int) + o + t), .int ((l : Int) + o)]) := upd_same
            generalize upd G1 u2 (.tup [.int (l : Nat), .int ((l : Int) + o + t), .int ((l : Int) + o)]) = G2 at s2 e2 ⊢
            refine ⟨_, rfl, _, rfl, _, rfl, by show 3 ≤ sizeLine; decide, fun u3 hu3 => ?_⟩
            have s3 := Same.new (o := .tup [.int ((l : Int) + o), .int (l : Nat), .int ((l : Int) + o + t)]) hu3
            have e3 : upd G2 u3 (.tup [.int ((l : Int) + o), .int (l : Nat), .int ((l : Int) + o + t)]) u3 = some (.tup [.int ((l : Int) + o), .int (l : Nat), .int ((l : Int) + o + t)]) := upd_same
            generalize upd G2 u3 (.tup [.int ((l : Int) + o), .int (l : Nat), .int ((l : Int) + o + t)]) = G3 at s3 e3 ⊢
            refine ⟨_, rfl, _, rfl, _, rfl, by show 3 ≤ sizeLine; decide, fun u4 hu4 => ?_⟩
            have s4 := Same.new (o := .tup [.int ((l : Int) + o), .int ((l : Int) + o + t), .int (l : Nat)]) hu4
            have e4 : upd G3 u4 (.tup [.int ((l : Int) + o), .int ((l : Int) + o + t), .int (l : Nat)]) u4 = some (.tup [.int ((l : Int) + o), .int ((l : Int) + o + t), .int (l : Nat)]) := upd_same
            generalize upd G3 u4 (.tup [.int ((l : Int) + o), .int ((l : Int) + o + t), .int (l : Nat)]) = G4 at s4 e4 ⊢
            refine ⟨_, rfl, _, rfl, _, rfl, by show 3 ≤ sizeLine; decide, fun u5 hu5 => ?_⟩
            have s5 := Same.new (o := .tup [.int ((l : Int) + o + t), .int (l : Nat), .int ((l : Int) + o)]) hu5
            have e5 : upd G4 u5 (.tup [.int ((l : Int) + o + t), .int (l : Nat), .int ((l : Int) + o)]) u5 = some (.tup [.int ((l : Int) + o + t), .int (l : Nat), .int ((l : Int) + o)]) := upd_same
            generalize upd G4 u5 (.tup [.int ((l : Int) + o + t), .int (l : Nat), .int ((l : Int) + o)]) = G5 at s5 e5 ⊢
            refine ⟨_, rfl, _, rfl, _, rfl, by show 3 ≤ sizeLine; decide, fun u6 hu6 => ?_⟩
            have s6 := Same.new (o := .tup [.int ((l : Int) + o + t), .int ((l : Int) + o), .int (l : Nat)]) hu6
            have e6 : upd G5 u6 (.tup [.int ((l : Int) + o + t), .int ((l : Int) + o), .int (l : Nat)]) u6 = some (.tup [.int ((l : Int) + o + t), .int ((l : Int) + o), .int (l : Nat)]) := upd_same
            generalize upd G5 u6 (.tup [.int ((l : Int) + o + t), .int ((l : Int) + o), .int (l : Nat)]) = G6 at s6 e6 ⊢
            refine ⟨by show 6 ≤ sizeLine; decide, fun q2 hq2 => ?_⟩
            have s7 := Same.new (o := .lst [.ref u1, .ref u2, .ref u3, .ref u4, .ref u5, .ref u6]) hq2
            have e7 : upd G6 q2 (.lst [.ref u1, .ref u2, .ref u3, .ref u4, .ref u5, .ref u6]) q2 = some (.lst [.ref u1, .ref u2, .ref u3, .ref u4, .ref u5, .ref u6]) := upd_same
            generalize upd G6 q2 (.lst [.ref u1, .ref u2, .ref u3, .ref u4, .ref u5, .ref u6]) = G7 at s7 e7 ⊢
            have t6 := s7
            have t5 := s6.trans t6
            have t4 := s5.trans t5
            have t3 := s4.trans t4
            have t2 := s3.trans t3
            have t1 := s2.trans t2
            have t0 := s1.trans t1
            refine ⟨q2, [u1, u2, u3, u4, u5, u6], _, rfl, e7, ?_, gd.same t0, bd.trans (But.of t0)⟩
            unfold rwX
            rw [if_pos (of_decide_eq_true c)]
            exact .cons (t1 _ _ e1) (.cons (t2 _ _ e2) (.cons (t3 _ _ e3) (.cons (t4 _ _ e4) (.cons (t5 _ _ e5) (.cons (t6 _ _ e6) .nil)))))
          · refine ⟨q1, [w1, w2], _, rfl, f3, ?_, gd, bd⟩
            unfold rwX
            rw [if_neg (fun x => c (decide_eq_true x))]
            exact .cons ((z2.trans z3) _ _ f1) (.cons (z3 _ _ f2) .nil)
        rintro σ' H5 ⟨q, ts, v11, rfl, hq, rows, g5, b5⟩
        have nq : q ≠ D := fun e => by
          obtain ⟨L, hL, _⟩ := g5
          rw [e, hL] at hq
          cases hq
        have rl := rwX_len (k : Int) (l : Int) (o : Int) (t : Int)
        generalize rwX (k : Int) (l : Int) (o : Int) (t : Int) = R at rows rl ⊢
        refine ⟨_, rfl, q, rfl, ⟨_, SqL.of hq⟩, for_list (fun j σ H6 => ∃ v11 : Option V, σ = [some (.int (k : Nat)), some (.int (gap : Nat)), some (.int (m : Nat)), some (.int ((gap : Int) + m)), some (.ref D), some (.int (l : Nat)), some (.int (o : Nat)), some (.int (t : Nat)), some (.int ((l : Int) + o)), some (.int ((l : Int) + o + t)), some (.ref q), v11] ∧ GotD H6 D (A4 ++ R.take j) ∧ But D H5 H6)
          ⟨v11, rfl, by simpa using g5, But.refl _ _⟩ (fun j σ H6 _ ⟨_, _, _, h⟩ => SqL.of (h _ _ nq hq)) ?_ ?_⟩
        · rintro j x σ H6 hx ⟨v11, rfl, g6, b6⟩
          rw [List.getElem?_map] at hx
          obtain ⟨u, hu1, rfl⟩ := Option.map_eq_some_iff.mp hx
          have hj : j < R.length := by rw [← rows.1]; exact (List.getElem?_eq_some_iff.mp hu1).1
          have hr := rows.2 j u R[j] hu1 (List.getElem?_eq_getElem hj)
          have nu : u ≠ D := fun e => by
            obtain ⟨L, hL, _⟩ := g5
            rw [e, hL] at hr
            cases hr
          obtain ⟨H7, dp, g7, b7⟩ := g6.put (b6 _ _ nu hr) (by rw [List.length_append, List.length_take]; omega)
          refine ⟨_, rfl, _, rfl, D, H7, rfl, dp, _, rfl, ?_, b6.trans b7⟩
          rw [List.take_add_one, List.getElem?_eq_getElem hj, ← List.append_assoc]
          exact g7
        · rintro σ H6 ⟨v11, rfl, g6, b6⟩
          rw [List.length_map, rows.1, List.take_length] at g6
          exact ⟨_, _, _, _, _, rfl, g6, b5.trans b6⟩
      · rintro σ H4 ⟨v7, v8, v9, v10, v11, rfl, g4, b4⟩
        exact ⟨_, _, _, _, _, _, rfl, g4, b4⟩
    · rintro σ H3 ⟨v6, v7, v8, v9, v10, v11, rfl, g3, b3⟩
      exact ⟨_, _, _, _, _, _, _, rfl, g3, b3⟩
  · rintro σ H1 ⟨v5, v6, v7, v8, v9, v10, v11, rfl, ⟨L, h1, h2, h3, h4⟩, b1⟩
    refine ⟨_, rfl, D, _, rfl, .inl h1, fun q bs hq ik => ?_⟩
    have sm : Same H H1 := fun b o e => b1 _ _ (fun z => by rw [z, hD] at e; cases e) e
    exact kk q bs L _ (sm.put (sm.free hq)) upd_same ((rows_keys ik).same (Same.new hq)) (by have := lenL m m8; omega) h4 fun z => (h2 z).trans (near z)

end
end K05
end
section
set_option Elab.async false
set_option linter.all false
set_option maxRecDepth 100000
set_option maxHeartbeats 4000000
namespace K05
open PySem PySem.Spec PyProof.Rows L2
open PySem.W (ke_shaped_ints)
local macro_rules | `(tactic| walk_at "go") => `(tactic| first | refine ⟨_, rfl, ?_⟩ | refine .inl ⟨_, rfl, ?_⟩ | refine ⟨_, _, rfl, rfl, (by first | (show (0 : Int) < _; decide) | exact Or.inl ⟨by decide, by decide⟩ | exact Or.inr ⟨by decide, by decide⟩), ?_⟩ | refine ⟨_, _, rfl, rfl, ?_⟩)
section
variable {P : Program} {w : World} {K : PySem.W.Frag} {mg : Str → Option Value} {base : Heap}

/-- near_fact(pen, pointers, facts) -/
def spNearFact (K : PySem.W.Frag) : Sp := fun vs H Q _ => ∃ (p l a fq : Addr) (t : Int) (qs : List Addr) (ps : List Str) (fs : List CF.FD), vs = [.ref p, .ref a, .ref fq] ∧ Pen H p l t ∧ t ≤ 1000000 ∧ fq ≠ p ∧ H fq = some (.lst (qs.map V.ref)) ∧ CF.FAt H qs fs ∧ (∀ f ∈ fs, f.Ok ps) ∧ 1 ≤ fs.length ∧ fs.length ≤ 1000 ∧
  ∀ (q : Addr) (f : CF.FD) (H' : Hp) (t' : Int), f.Ok ps → f.far ≤ CF.farOf fs → f.mod ≤ CF.modOf fs → Pen H' p l t' → t ≤ t' → t' ≤ t + 4 → But p H H' → H' q = some (.tup f.vs) → Q (.ref q) H'
abbrev s_near_fact : Stmt := topS 70
theorem sc_near_fact : FnScope ["pen", "pointers", "facts", "fact", "more", "most", "other", "is_chain", "one"] ["pen", "pointers", "facts"] (defScope s_near_fact) := ⟨rfl, rfl, rfl, by decide +kernel, rfl, by decide +kernel, by decide +kernel⟩
theorem ok_near_fact (T : Txt mg) (M : TxtM mg) (D : Def K mg "_law_near_fact" s_near_fact) (C__law_draw : Cal P w K mg base 1 "_law_draw" ["pen", "span"] spDraw) (C__law_pick : Cal P w K mg base 2 "_law_pick" ["pen", "options"] (spPick K)) (C__law_far_of : Cal P w K mg base 1 "_law_far_of" ["fact"] spFarOf) : Cal P w K mg base 3 "_law_near_fact" ["pen", "pointers", "facts"] (spNearFact K) := by
  refine D.cal sc_near_fact (fun vs H Q E h => ?_) (fun _ _ _ _ _ _ us hl => match us, hl with | [_, _, _], _ => rfl) (fun f cdv A outer s H vs Q E hr h => ?_)
  · obtain ⟨p, l, a, fq, t, qs, ps, fs, rfl, _⟩ := h
    rfl
  have hu := hu_of hr

  obtain ⟨p, l, a, fq, t, qs, ps, fs, rfl, pen, ht, hfp, hf, fat, ok, f1, f1000, k⟩ := h
  refine ⟨_, (pss_cons (ps_par (i := 3) (j := 4) (by rfl) sc_near_fact.nd rfl rfl (by decide) rfl rfl (pa_cons (pe_cal C__law_pick (hr.mono (by decide)) rfl (pa_cons (pv 0) (pa_cons (pv 2) pa_nil))) (pa_cons (pe_op op_sub (pe_cal C__law_draw (hr.mono (by decide)) rfl (pa_cons (pv 0) (pa_cons pe_int pa_nil))) pe_int) pa_nil)) (by rfl))
      (pss_cons (ps_set (i := 5) sc_near_fact.nd rfl (by first | exact Or.inl rfl | exact Or.inr rfl) (pe_callB (call_min2 rfl) (by rfl) M.f_min (by decide +kernel) (pa_cons pe_int (pa_cons (pe_callB (cr_max rfl) (by rfl) M.f_max (by decide +kernel) (pa_cons (pe_lc (own := [("one", 8)]) (g := gName 8) (tt := tYes) rfl sc_near_fact.nd (pi_list (pv 2)) (blkOk_by (N := ["pen", "pointers", "facts", "fact", "more", "most", "other", "is_chain", "one"]) (sc := defScope s_near_fact) (by decide +kernel)) (fun _ _ _ _ _ => (pg_name (i := 8) sc_near_fact.nd rfl (Or.inl rfl))) (fun _ _ _ _ _ => pts_nil) (fun _ _ _ _ _ => (pe_callTy call_int1 (by rfl) T.f_int (by decide +kernel) (pa_cons (pe_cal C__law_far_of (hr.mono (by decide)) rfl (pa_cons (pv 8) pa_nil)) pa_nil)))) pa_nil)) pa_nil))))
      (C8.pss_cut (ps_if (PW.pt (pw_and (pt_cmpR op_in_seq (pe_ix ix_tup (pv 3) pe_int (fun _ _ => rfl)) (pe_tup (pa_cons pe_str (pa_cons pe_str pa_nil))) (by rfl)) (pw_and1 (pt_cmpR op_le (pe_callB call_abs (by rfl) T.f_abs (by decide +kernel) (pa_cons (pe_op op_add (pe_ix ix_tup (pv 3) pe_int (fun _ _ => rfl)) (pv 4)) pa_nil)) (pv 5) (nomark _))))) (pss_cons (ps_set (i := 6) sc_near_fact.nd rfl (by first | exact Or.inl rfl | exact Or.inr rfl) (pe_cal C__law_pick (hr.mono (by decide)) rfl (pa_cons (pv 0) (pa_cons (pv 2) pa_nil))))
      (pss_cons (ps_set (i := 7) sc_near_fact.nd rfl (by first | exact Or.inl rfl | exact Or.inr rfl) (pe_and (pe_cmpR op_eq (pe_ix ix_tup (pv 6) pe_int (fun _ _ => rfl)) (pe_ix ix_tup (pv 3) pe_int (fun _ _ => rfl)) (nomark _)) (pe_and (pe_cmpR op_eq (pe_ix ix_tup (pv 6) pe_int (fun _ _ => rfl)) (pe_ix ix_tup (pv 3) pe_int (fun _ _ => rfl)) (nomark _)) (pe_one (pe_cmpR op_ne (pe_ix ix_tup (pv 6) pe_int (fun _ _ => rfl)) (pe_ix ix_tup (pv 3) pe_int (fun _ _ => rfl)) (nomark _))))))
      (C8.pss_cut (ps_if (PW.pt (pw_and (pt_val (pv 7)) (pw_and1 (pt_cmpR op_le (pe_callB call_abs (by rfl) T.f_abs (by decide +kernel) (pa_cons (pe_op op_add (pe_ix ix_tup (pv 3) pe_int (fun _ _ => rfl)) (pe_ix ix_tup (pv 6) pe_int (fun _ _ => rfl))) pa_nil)) (pv 5) (nomark _))))) (pss_one (ps_ret (pe_tup (pa_cons (pe_ix ix_tup (pv 3) pe_int (fun _ _ => rfl)) (pa_cons (pe_ix ix_tup (pv 3) pe_int (fun _ _ => rfl)) (pa_cons (pe_ix ix_tup (pv 6) pe_int (fun _ _ => rfl)) (pa_cons (pe_op op_add (pe_ix ix_tup (pv 3) pe_int (fun _ _ => rfl)) (pe_ix ix_tup (pv 6) pe_int (fun _ _ => rfl))) pa_nil))))))) pss_nil)
      (pss_one (ps_ret (pe_tup (pa_cons (pe_ix ix_tup (pv 3) pe_int (fun _ _ => rfl)) (pa_cons (pe_ix ix_tup (pv 3) pe_int (fun _ _ => rfl)) (pa_cons (pe_ix ix_tup (pv 3) pe_int (fun _ _ => rfl)) (pa_cons (pe_op op_add (pe_ix ix_tup (pv 3) pe_int (fun _ _ => rfl)) (pv 4)) pa_nil)))))))))) pss_nil)
      (pss_cons (ps_if (pt_cmpR op_eq (pe_ix ix_tup (pv 3) pe_int (fun _ _ => rfl)) pe_str (nomark _)) (pss_one (ps_ret (pe_tup (pa_cons (pe_cal C__law_pick (hr.mono (by decide)) rfl (pa_cons (pv 0) (pa_cons (pe_lst (pa_cons pe_str (pa_cons pe_str pa_nil))) pa_nil))) (pa_cons (pe_ix ix_tup (pv 3) pe_int (fun _ _ => rfl)) (pa_cons (pe_ix ix_tup (pv 3) pe_int (fun _ _ => rfl)) (pa_cons (pe_ix ix_tup (pv 3) pe_int (fun _ _ => rfl)) pa_nil))))))) pss_nil)
      (C8.pss_cut (ps_if (PW.pt (pw_and (pt_cmpR op_eq (pe_ix ix_tup (pv 3) pe_int (fun _ _ => rfl)) pe_str (nomark _)) (pw_and1 (pt_cmpR op_gt (pe_ix ix_tup (pv 3) pe_int (fun _ _ => rfl)) pe_int (nomark _))))) (pss_one (ps_ret (pe_tup (pa_cons pe_str (pa_cons (pe_ix ix_tup (pv 3) pe_int (fun _ _ => rfl)) (pa_cons pe_int (pa_cons (pe_op op_mod (pe_callTy call_int1 (by rfl) T.f_int (by decide +kernel) (pa_cons (pe_ix ix_tup (pv 3) pe_int (fun _ _ => rfl)) pa_nil)) pe_int) pa_nil))))))) pss_nil)
      (pss_cons (ps_if (pt_cmpR op_eq (pe_ix ix_tup (pv 3) pe_int (fun _ _ => rfl)) pe_str (nomark _)) (pss_one (ps_ret (pe_tup (pa_cons pe_str (pa_cons (pe_ix ix_tup (pv 3) pe_int (fun _ _ => rfl)) (pa_cons (pe_ix ix_tup (pv 3) pe_int (fun _ _ => rfl)) (pa_cons (pe_ix ix_tup (pv 3) pe_int (fun _ _ => rfl)) (pa_cons (pe_op op_mod (pe_callTy call_int1 (by rfl) T.f_int (by decide +kernel) (pa_cons (pe_un un_neg (pe_ix ix_tup (pv 3) pe_int (fun _ _ => rfl))) pa_nil)) (pe_ix ix_tup (pv 3) pe_int (fun _ _ => rfl))) pa_nil)))))))) pss_nil)
      (pss_cons (ps_if (pt_cmpR op_eq (pe_ix ix_tup (pv 3) pe_int (fun _ _ => rfl)) pe_str (nomark _)) (pss_one (ps_ret (pe_tup (pa_cons pe_str (pa_cons (pe_ix ix_tup (pv 3) pe_int (fun _ _ => rfl)) (pa_cons (pe_ix ix_tup (pv 3) pe_int (fun _ _ => rfl)) (pa_cons (pe_ix ix_tup (pv 3) pe_int (fun _ _ => rfl)) (pa_cons (pe_ix ix_tup (pv 3) pe_int (fun _ _ => rfl)) (pa_cons (pe_ix ix_tup (pv 3) pe_int (fun _ _ => rfl)) (pa_cons (pe_ix ix_tup (pv 3) pe_int (fun _ _ => rfl)) pa_nil)))))))))) pss_nil)
      (pss_one (ps_ret (pv 3)))))))))), ?_⟩
  have qlen := fat.len
  have p1 : 0 < (qs.map V.ref).length := by rw [List.length_map]; omega
  have p2 : (qs.map V.ref).length ≤ 1000000 := by rw [List.length_map]; omega
  have kd : ∀ {Ha Hb : Hp} {ta : Int} {b : Addr} {xs : List V}, Pen Ha p l ta → But p Ha Hb → Ha b = some (.tup xs) → Hb b = some (.tup xs) := fun {Ha Hb ta b xs} pn bt e => by
    obtain ⟨ns, lf, h1, _⟩ := pn.ex
    exact bt _ _ (fun z => by rw [z, h1] at e; cases e) e
  have fin : ∀ (f : CF.FD) (H7 : Hp) (t7 : Int), f.Ok ps → f.far ≤ CF.farOf fs → f.mod ≤ CF.modOf fs → Pen H7 p l t7 → t ≤ t7 → t7 ≤ t + 4 → But p H H7 → ∀ tq, H7 tq = none → Q (.ref tq) (upd H7 tq (.tup f.vs)) := fun f H7 t7 okf hfar hmod pen7 a1 a2 B7 tq htq =>
    k tq f _ t7 okf hfar hmod (pen7.new htq) a1 a2 (B7.nw htq) upd_same
  -- the fact
  refine ⟨_, rfl, _, rfl, p, l, fq, t, qs.map V.ref, rfl, pen, by omega, hfp, .inl (SqL.of hf), p1, p2, fun j v H1 t1 hv pen1 g1 g2 b1 => ?_⟩
  obtain ⟨r, f, rfl, hff, hr⟩ := ref_of fat hv
  have fm := List.mem_of_getElem? hff
  have okf := ok f fm
  refine ⟨_, rfl, p, l, t1, 3, rfl, pen1, by omega, by decide, by decide, fun d H2 t2 d0 d1 pen2 g3 g4 b2 => ⟨_, _, rfl, rfl, _, _, rfl, ?_⟩⟩
  have B2 := b1.trans b2
  have hf2 := B2 _ _ hfp hf
  have fat2 : CF.FAt H2 qs fs := by
    obtain ⟨ns, lf, h1, _⟩ := pen.ex
    exact fat.but h1 B2
  -- most
  refine ⟨_, rfl, fq, rfl, ⟨_, SqL.of hf2⟩, fun D hD => lc_it walk_list (fun i G => Same H2 G ∧ G D = some (.lst (((fs.take i).map fun f => V.int f.far)))) ⟨Same.new hD, upd_same⟩ (fun i G _ z => SqL.of (z.1 _ _ hf2)) ?_ ?_⟩
  · rintro i y G1 G2 hi ⟨s3, h3⟩ ⟨rfl, hx⟩
    obtain ⟨q, f, rfl, hff, hq⟩ := ref_of fat2 hx
    refine ⟨rfl, _, rfl, q, f, ps, rfl, s3 _ _ hq, ok f (List.mem_of_getElem? hff), fun G3 s4 => .inl ⟨_, rfl, _, s4 _ _ h3, ?_, (s3.trans s4).put hD, ?_⟩⟩
    · rw [List.length_map, sizeLine_eq, List.length_take]
      omega
    · rw [take_map hff]
      exact upd_same
  rintro H4 ⟨s4, h4⟩
  rw [List.length_map, fat.len, List.take_length] at h4
  have h4' : H4 D = some (.lst ((fs.map CF.FD.far).map V.int)) := by rw [List.map_map]; exact h4
  refine ⟨D, _, rfl, SqL.of h4', by rw [List.length_map]; omega, fun mm hm1 hm2 => ⟨_, _, rfl, ?_⟩⟩
  have ff := CP.far_le fm
  have mf := CP.mod_le fm
  have m1 := CP.mod_1 fs
  have mmF : mm ≤ CF.farOf fs := by
    obtain ⟨g, hg, rfl⟩ := List.mem_map.mp hm1
    exact CP.far_le hg
  generalize hmost : (if mm < 40 then mm else 40) = most
  have most1 : most ≤ 40 ∧ most ≤ CF.farOf fs := by
    rw [← hmost]
    split <;> omega
  clear hm1 hm2 hmost
  have pen4 := pen2.same s4
  have B4 : But p H H4 := B2.trans (But.of s4)
  have hr4 := s4 _ _ (kd pen B2 hr)
  have fat4 := fat2.same s4
  have hf4 := s4 _ _ hf2
  clear h4 h4' hD
  refine ⟨fun σ' H' => σ' = [some (.ref p), some (.ref a), some (.ref fq), some (.ref r), some (.int (d - 1)), some (.int most), none, none, none] ∧ Same H4 H', ?_, ?_⟩
  · cases f with
    | by_ x m r0 =>
      exact ⟨_, rfl, r, _, _, _, rfl, rfl, SqT.of hr4, rfl, by show 2 ≤ sizeLine; decide, fun T0 hT => ⟨T0, _, rfl, .inr (SqT.of upd_same), rfl, rfl, _, rfl, ite2 (fun c => absurd c (by decide +kernel)) (fun _ => iteF ⟨rfl, Same.new hT⟩)⟩⟩
    | gap x y m r0 =>
      exact ⟨_, rfl, r, _, _, _, rfl, rfl, SqT.of hr4, rfl, by show 2 ≤ sizeLine; decide, fun T0 hT => ⟨T0, _, rfl, .inr (SqT.of upd_same), rfl, rfl, _, rfl, ite2 (fun c => absurd c (by decide +kernel)) (fun _ => iteF ⟨rfl, Same.new hT⟩)⟩⟩
    | apart x k1 n y e0 c0 =>
      exact ⟨_, rfl, r, _, _, _, rfl, rfl, SqT.of hr4, rfl, by show 2 ≤ sizeLine; decide, fun T0 hT => ⟨T0, _, rfl, .inr (SqT.of upd_same), rfl, rfl, _, rfl, ite2 (fun c => absurd c (by decide +kernel)) (fun _ => iteF ⟨rfl, Same.new hT⟩)⟩⟩
    | dist w x y n =>
      obtain ⟨hw, ox, oy, nxy, n0, n1⟩ := id okf
      refine ⟨_, rfl, r, _, _, _, rfl, rfl, SqT.of hr4, rfl, by show 2 ≤ sizeLine; decide, fun T0 hT => ⟨T0, _, rfl, .inr (SqT.of upd_same), rfl, rfl, _, rfl, ?_⟩⟩
      have sT := Same.new (o := .tup [.str "from", .str "upto"]) hT
      generalize upd H4 T0 (.tup [.str "from", .str "upto"]) = HA at sT ⊢
      have hrA := sT _ _ hr4
      refine ite2 (fun _ => ?_) (fun _ => iteF ⟨rfl, sT⟩)
      refine ⟨_, rfl, r, _, _, _, rfl, rfl, SqT.of hrA, rfl, _, rfl, _, _, rfl, rfl, _, rfl, _, rfl, _, _, rfl, rfl, _, rfl, ite2 (fun c => ?_) (fun _ => ⟨rfl, sT⟩)⟩
      have c := of_decide_eq_true c
      have ab1 : CF.ab (n + (d - 1)) ≤ most := c
      have ab2 := CP.ab_cases (n + (d - 1))
      clear c
      have fatA := fat4.same sT
      have penA := pen4.same sT
      refine ⟨_, rfl, _, rfl, p, l, fq, t2, qs.map V.ref, rfl, penA, by omega, hfp, .inl (SqL.of (sT _ _ hf4)), p1, p2, fun j2 v2 H5 t5 hv2 pen5 g5 g6 b5 => ?_⟩
      obtain ⟨r2, g, rfl, hgg, hr2A⟩ := ref_of fatA hv2
      have okg := ok g (List.mem_of_getElem? hgg)
      have hr5 := kd penA b5 hrA
      have hr2 := kd penA b5 hr2A
      have B5 : But p H H5 := (B4.trans (But.of sT)).trans b5
      cases g with
      | by_ x2 m2 r02 =>
        refine ⟨_, rfl, r2, _, _, _, rfl, rfl, SqT.of hr2, rfl, _, rfl, r, _, _, _, rfl, rfl, SqT.of hr5, rfl, rfl, _, rfl, ite2 (fun c => absurd (V.str.inj (of_decide_eq_true c)) (by
          simp only [CF.Sorts, List.mem_cons, List.not_mem_nil, or_false] at hw
          rcases hw with rfl | rfl | rfl <;> decide +kernel)) (fun _ => ?_)⟩
        refine ⟨fun σ' H' => σ' = [some (.ref p), some (.ref a), some (.ref fq), some (.ref r), some (.int (d - 1)), some (.int most), some (.ref r2), some (.bl false), none] ∧ H' = H5, ⟨_, rfl, _, rfl, iteF (iteF ⟨rfl, rfl⟩)⟩, ?_⟩
        rintro σ' H' ⟨rfl, rfl⟩
        refine ⟨_, rfl, r, _, _, _, rfl, rfl, SqT.of hr5, rfl, _, rfl, r, _, _, _, rfl, rfl, SqT.of hr5, rfl, _, rfl, r, _, _, _, rfl, rfl, SqT.of hr5, rfl, _, rfl, r, _, _, _, rfl, rfl, SqT.of hr5, rfl, _, rfl, _, _, rfl, rfl, by show 4 ≤ sizeLine; decide, fun tq htq => ?_⟩
        exact fin (.dist w x y (n + (d - 1))) H' t5 ⟨hw, ox, oy, nxy, by omega, by omega⟩ (by simp only [CF.FD.far]; omega) (by simp only [CF.FD.mod]; omega) pen5 (by omega) (by omega) B5 tq htq
      | gap x2 y2 m2 r02 =>
        refine ⟨_, rfl, r2, _, _, _, rfl, rfl, SqT.of hr2, rfl, _, rfl, r, _, _, _, rfl, rfl, SqT.of hr5, rfl, rfl, _, rfl, ite2 (fun c => absurd (V.str.inj (of_decide_eq_true c)) (by
          simp only [CF.Sorts, List.mem_cons, List.not_mem_nil, or_false] at hw
          rcases hw with rfl | rfl | rfl <;> decide +kernel)) (fun _ => ?_)⟩
        refine ⟨fun σ' H' => σ' = [some (.ref p), some (.ref a), some (.ref fq), some (.ref r), some (.int (d - 1)), some (.int most), some (.ref r2), some (.bl false), none] ∧ H' = H5, ⟨_, rfl, _, rfl, iteF (iteF ⟨rfl, rfl⟩)⟩, ?_⟩
        rintro σ' H' ⟨rfl, rfl⟩
        refine ⟨_, rfl, r, _, _, _, rfl, rfl, SqT.of hr5, rfl, _, rfl, r, _, _, _, rfl, rfl, SqT.of hr5, rfl, _, rfl, r, _, _, _, rfl, rfl, SqT.of hr5, rfl, _, rfl, r, _, _, _, rfl, rfl, SqT.of hr5, rfl, _, rfl, _, _, rfl, rfl, by show 4 ≤ sizeLine; decide, fun tq htq => ?_⟩
        exact fin (.dist w x y (n + (d - 1))) H' t5 ⟨hw, ox, oy, nxy, by omega, by omega⟩ (by simp only [CF.FD.far]; omega) (by simp only [CF.FD.mod]; omega) pen5 (by omega) (by omega) B5 tq htq
      | apart x2 k2 n2 y2 e2 c2 =>
        refine ⟨_, rfl, r2, _, _, _, rfl, rfl, SqT.of hr2, rfl, _, rfl, r, _, _, _, rfl, rfl, SqT.of hr5, rfl, rfl, _, rfl, ite2 (fun c => absurd (V.str.inj (of_decide_eq_true c)) (by
          simp only [CF.Sorts, List.mem_cons, List.not_mem_nil, or_false] at hw
          rcases hw with rfl | rfl | rfl <;> decide +kernel)) (fun _ => ?_)⟩
        refine ⟨fun σ' H' => σ' = [some (.ref p), some (.ref a), some (.ref fq), some (.ref r), some (.int (d - 1)), some (.int most), some (.ref r2), some (.bl false), none] ∧ H' = H5, ⟨_, rfl, _, rfl, iteF (iteF ⟨rfl, rfl⟩)⟩, ?_⟩
        rintro σ' H' ⟨rfl, rfl⟩
        refine ⟨_, rfl, r, _, _, _, rfl, rfl, SqT.of hr5, rfl, _, rfl, r, _, _, _, rfl, rfl, SqT.of hr5, rfl, _, rfl, r, _, _, _, rfl, rfl, SqT.of hr5, rfl, _, rfl, r, _, _, _, rfl, rfl, SqT.of hr5, rfl, _, rfl, _, _, rfl, rfl, by show 4 ≤ sizeLine; decide, fun tq htq => ?_⟩
        exact fin (.dist w x y (n + (d - 1))) H' t5 ⟨hw, ox, oy, nxy, by omega, by omega⟩ (by simp only [CF.FD.far]; omega) (by simp only [CF.FD.mod]; omega) pen5 (by omega) (by omega) B5 tq htq
      | dist w2 x2 y2 n2 =>
        obtain ⟨hw2, ox2, oy2, nxy2, n02, n12⟩ := id okg
        refine ⟨_, rfl, r2, _, _, _, rfl, rfl, SqT.of hr2, rfl, _, rfl, r, _, _, _, rfl, rfl, SqT.of hr5, rfl, rfl, _, rfl, ite2 (fun c1 => ?_) (fun _ => ?_)⟩
        · refine ⟨_, rfl, r2, _, _, _, rfl, rfl, SqT.of hr2, rfl, _, rfl, r, _, _, _, rfl, rfl, SqT.of hr5, rfl, rfl, _, rfl, ite2 (fun c2 => ?_) (fun _ => ?_)⟩
          · refine ⟨_, rfl, r2, _, _, _, rfl, rfl, SqT.of hr2, rfl, _, rfl, r, _, _, _, rfl, rfl, SqT.of hr5, rfl, rfl, ?_⟩
            cases e3 : decide (V.str y2 = V.str x) with
            | true =>
              rw [show (!true) = false from rfl]
              refine ⟨fun σ' H' => σ' = [some (.ref p), some (.ref a), some (.ref fq), some (.ref r), some (.int (d - 1)), some (.int most), some (.ref r2), some (.bl false), none] ∧ H' = H5, ⟨_, rfl, _, rfl, iteF (iteF ⟨rfl, rfl⟩)⟩, ?_⟩
              rintro σ' H' ⟨rfl, rfl⟩
              refine ⟨_, rfl, r, _, _, _, rfl, rfl, SqT.of hr5, rfl, _, rfl, r, _, _, _, rfl, rfl, SqT.of hr5, rfl, _, rfl, r, _, _, _, rfl, rfl, SqT.of hr5, rfl, _, rfl, r, _, _, _, rfl, rfl, SqT.of hr5, rfl, _, rfl, _, _, rfl, rfl, by show 4 ≤ sizeLine; decide, fun tq htq => ?_⟩
              exact fin (.dist w x y (n + (d - 1))) H' t5 ⟨hw, ox, oy, nxy, by omega, by omega⟩ (by simp only [CF.FD.far]; omega) (by simp only [CF.FD.mod]; omega) pen5 (by omega) (by omega) B5 tq htq
            | false =>
              rw [show (!false) = true from rfl]
              have nyx : y2 ≠ x := fun e => of_decide_eq_false e3 (congrArg V.str e)
              refine ⟨fun σ' H' => σ' = [some (.ref p), some (.ref a), some (.ref fq), some (.ref r), some (.int (d - 1)), some (.int most), some (.ref r2), some (.bl true), none] ∧ H' = H5, ⟨_, rfl, _, rfl, iteT ⟨_, rfl, r, _, _, _, rfl, rfl, SqT.of hr5, rfl, _, rfl, r2, _, _, _, rfl, rfl, SqT.of hr2, rfl, _, _, rfl, rfl, _, rfl, _, rfl, _, _, rfl, rfl, _, rfl, ite2 (fun c4 => ?_) (fun _ => ⟨rfl, rfl⟩)⟩⟩, ?_⟩
              · have c4 := of_decide_eq_true c4
                have ab3 : CF.ab (n + n2) ≤ most := c4
                have ab4 := CP.ab_cases (n + n2)
                clear c4
                refine ⟨_, rfl, r, _, _, _, rfl, rfl, SqT.of hr5, rfl, _, rfl, r, _, _, _, rfl, rfl, SqT.of hr5, rfl, _, rfl, r2, _, _, _, rfl, rfl, SqT.of hr2, rfl, _, rfl, r, _, _, _, rfl, rfl, SqT.of hr5, rfl, _, rfl, r2, _, _, _, rfl, rfl, SqT.of hr2, rfl, _, _, rfl, rfl, by show 4 ≤ sizeLine; decide, fun tq htq => ?_⟩
                exact fin (.dist w x y2 (n + n2)) H5 t5 ⟨hw, ox, oy2, nyx, by omega, by omega⟩ (by simp only [CF.FD.far]; omega) (by simp only [CF.FD.mod]; omega) pen5 (by omega) (by omega) B5 tq htq
              rintro σ' H' ⟨rfl, rfl⟩
              refine ⟨_, rfl, r, _, _, _, rfl, rfl, SqT.of hr5, rfl, _, rfl, r, _, _, _, rfl, rfl, SqT.of hr5, rfl, _, rfl, r, _, _, _, rfl, rfl, SqT.of hr5, rfl, _, rfl, r, _, _, _, rfl, rfl, SqT.of hr5, rfl, _, rfl, _, _, rfl, rfl, by show 4 ≤ sizeLine; decide, fun tq htq => ?_⟩
              exact fin (.dist w x y (n + (d - 1))) H' t5 ⟨hw, ox, oy, nxy, by omega, by omega⟩ (by simp only [CF.FD.far]; omega) (by simp only [CF.FD.mod]; omega) pen5 (by omega) (by omega) B5 tq htq
          ·
            refine ⟨fun σ' H' => σ' = [some (.ref p), some (.ref a), some (.ref fq), some (.ref r), some (.int (d - 1)), some (.int most), some (.ref r2), some (.bl false), none] ∧ H' = H5, ⟨_, rfl, _, rfl, iteF (iteF ⟨rfl, rfl⟩)⟩, ?_⟩
            rintro σ' H' ⟨rfl, rfl⟩
            refine ⟨_, rfl, r, _, _, _, rfl, rfl, SqT.of hr5, rfl, _, rfl, r, _, _, _, rfl, rfl, SqT.of hr5, rfl, _, rfl, r, _, _, _, rfl, rfl, SqT.of hr5, rfl, _, rfl, r, _, _, _, rfl, rfl, SqT.of hr5, rfl, _, rfl, _, _, rfl, rfl, by show 4 ≤ sizeLine; decide, fun tq htq => ?_⟩
            exact fin (.dist w x y (n + (d - 1))) H' t5 ⟨hw, ox, oy, nxy, by omega, by omega⟩ (by simp only [CF.FD.far]; omega) (by simp only [CF.FD.mod]; omega) pen5 (by omega) (by omega) B5 tq htq
        ·
          refine ⟨fun σ' H' => σ' = [some (.ref p), some (.ref a), some (.ref fq), some (.ref r), some (.int (d - 1)), some (.int most), some (.ref r2), some (.bl false), none] ∧ H' = H5, ⟨_, rfl, _, rfl, iteF (iteF ⟨rfl, rfl⟩)⟩, ?_⟩
          rintro σ' H' ⟨rfl, rfl⟩
          refine ⟨_, rfl, r, _, _, _, rfl, rfl, SqT.of hr5, rfl, _, rfl, r, _, _, _, rfl, rfl, SqT.of hr5, rfl, _, rfl, r, _, _, _, rfl, rfl, SqT.of hr5, rfl, _, rfl, r, _, _, _, rfl, rfl, SqT.of hr5, rfl, _, rfl, _, _, rfl, rfl, by show 4 ≤ sizeLine; decide, fun tq htq => ?_⟩
          exact fin (.dist w x y (n + (d - 1))) H' t5 ⟨hw, ox, oy, nxy, by omega, by omega⟩ (by simp only [CF.FD.far]; omega) (by simp only [CF.FD.mod]; omega) pen5 (by omega) (by omega) B5 tq htq
  rintro σ' H5 ⟨rfl, s5⟩
  have pen5 := pen4.same s5
  have B5 : But p H H5 := B4.trans (But.of s5)
  have hr5 := s5 _ _ hr4
  have same_ : ∀ f', f' = f → Q (.ref r) H5 := fun _ _ => k r f H5 t2 okf ff mf pen5 (by omega) (by omega) B5 hr5
  cases f with
  | by_ x m r0 =>
    obtain ⟨ox, hm, r00, r01⟩ := id okf
    refine ⟨_, rfl, r, _, _, _, rfl, rfl, SqT.of hr5, rfl, rfl, _, rfl, ite2 (fun c => absurd c (by decide +kernel)) (fun _ => ?_)⟩

    refine ⟨fun σ' H' => σ' = [some (.ref p), some (.ref a), some (.ref fq), some (.ref r), some (.int (d - 1)), some (.int most), none, none, none] ∧ H' = H5, ⟨_, rfl, r, _, _, _, rfl, rfl, SqT.of hr5, rfl, rfl, _, rfl, ite2 (fun _ => ?_) (fun c => absurd (by decide +kernel) c)⟩, ?_⟩
    · refine ⟨_, rfl, r, _, _, _, rfl, rfl, SqT.of hr5, rfl, _, _, rfl, rfl, _, rfl, ite2 (fun c => ?_) (fun _ => ⟨rfl, rfl⟩)⟩
      have c2 : 2 < m := of_decide_eq_true c
      refine ⟨_, rfl, r, _, _, _, rfl, rfl, SqT.of hr5, rfl, _, rfl, r, _, _, _, rfl, rfl, SqT.of hr5, rfl, .inl ⟨_, rfl, _, _, rfl, rfl, by first | decide | omega, by show 4 ≤ sizeLine; decide, fun tq htq => ?_⟩⟩
      have mf' : m ≤ CF.modOf fs := mf
      have f00 := CP.far_0 fs
      exact fin (.by_ x 2 (r0 % 2)) H5 t2 ⟨ox, .inl rfl, by omega, by omega⟩ (by simp only [CF.FD.far]; omega) (by simp only [CF.FD.mod]; omega) pen5 (by omega) (by omega) B5 tq htq
    rintro σ' H' ⟨rfl, rfl⟩
    refine ⟨_, rfl, r, _, _, _, rfl, rfl, SqT.of hr5, rfl, rfl, _, rfl, ite2 (fun c => absurd c (by decide +kernel)) (fun _ => ?_)⟩

    refine ⟨_, rfl, r, _, _, _, rfl, rfl, SqT.of hr5, rfl, rfl, _, rfl, ite2 (fun c => absurd c (by decide +kernel)) (fun _ => ?_)⟩

    exact ⟨_, rfl, same_ _ rfl⟩
  | gap x y m r0 =>
    obtain ⟨ox, oy, nxy, hm, r00, r01⟩ := id okf
    refine ⟨_, rfl, r, _, _, _, rfl, rfl, SqT.of hr5, rfl, rfl, _, rfl, ite2 (fun c => absurd c (by decide +kernel)) (fun _ => ?_)⟩

    refine ⟨fun σ' H' => σ' = [some (.ref p), some (.ref a), some (.ref fq), some (.ref r), some (.int (d - 1)), some (.int most), none, none, none] ∧ H' = H5, ⟨_, rfl, r, _, _, _, rfl, rfl, SqT.of hr5, rfl, rfl, _, rfl, ite2 (fun c => absurd c (by decide +kernel)) (fun _ => iteF ⟨rfl, rfl⟩)⟩, ?_⟩
    rintro σ' H' ⟨rfl, rfl⟩
    refine ⟨_, rfl, r, _, _, _, rfl, rfl, SqT.of hr5, rfl, rfl, _, rfl, ite2 (fun _ => ?_) (fun c => absurd (by decide +kernel) c)⟩
    refine ⟨_, rfl, r, _, _, _, rfl, rfl, SqT.of hr5, rfl, _, rfl, r, _, _, _, rfl, rfl, SqT.of hr5, rfl, _, rfl, r, _, _, _, rfl, rfl, SqT.of hr5, rfl, _, rfl, r, _, _, _, rfl, rfl, SqT.of hr5, rfl, _, rfl, .inl ⟨_, rfl, _, rfl, r, _, _, _, rfl, rfl, SqT.of hr5, rfl, _, _, rfl, rfl, by omega, by show 5 ≤ sizeLine; decide, fun tq htq => ?_⟩⟩
    have e1 := Int.emod_nonneg (-r0) (show m ≠ 0 by omega)
    have e2 := Int.emod_lt_of_pos (-r0) (show 0 < m by omega)
    exact fin (.gap y x m (-r0 % m)) H' t2 ⟨oy, ox, nxy.symm, hm, e1, e2⟩ ff mf pen5 (by omega) (by omega) B5 tq htq
  | apart x k1 n y e0 c0 =>
    obtain ⟨ox, oy, nxy, q1, q2, q3, q4⟩ := id okf
    refine ⟨_, rfl, r, _, _, _, rfl, rfl, SqT.of hr5, rfl, rfl, _, rfl, ite2 (fun c => absurd c (by decide +kernel)) (fun _ => ?_)⟩

    refine ⟨fun σ' H' => σ' = [some (.ref p), some (.ref a), some (.ref fq), some (.ref r), some (.int (d - 1)), some (.int most), none, none, none] ∧ H' = H5, ⟨_, rfl, r, _, _, _, rfl, rfl, SqT.of hr5, rfl, rfl, _, rfl, ite2 (fun c => absurd c (by decide +kernel)) (fun _ => iteF ⟨rfl, rfl⟩)⟩, ?_⟩
    rintro σ' H' ⟨rfl, rfl⟩
    refine ⟨_, rfl, r, _, _, _, rfl, rfl, SqT.of hr5, rfl, rfl, _, rfl, ite2 (fun c => absurd c (by decide +kernel)) (fun _ => ?_)⟩

    refine ⟨_, rfl, r, _, _, _, rfl, rfl, SqT.of hr5, rfl, rfl, _, rfl, ite2 (fun _ => ?_) (fun c => absurd (by decide +kernel) c)⟩
    refine ⟨_, rfl, r, _, _, _, rfl, rfl, SqT.of hr5, rfl, _, rfl, r, _, _, _, rfl, rfl, SqT.of hr5, rfl, _, rfl, r, _, _, _, rfl, rfl, SqT.of hr5, rfl, _, rfl, r, _, _, _, rfl, rfl, SqT.of hr5, rfl, _, rfl, r, _, _, _, rfl, rfl, SqT.of hr5, rfl, _, rfl, r, _, _, _, rfl, rfl, SqT.of hr5, rfl, by show 7 ≤ sizeLine; decide, fun tq htq => ?_⟩
    simp only [CF.FD.far] at ff
    exact fin (.apart y e0 c0 x k1 n) H' t2 ⟨oy, ox, nxy.symm, q3, q4, q1, q2⟩ (by simp only [CF.FD.far]; omega) (by simp only [CF.FD.mod]; omega) pen5 (by omega) (by omega) B5 tq htq
  | dist w x y n =>
    obtain ⟨hw, ox, oy, nxy, n0, n1⟩ := id okf
    have hw3 : w = "from" ∨ w = "upto" ∨ w = "is" := by
      simp only [CF.Sorts, List.mem_cons, List.not_mem_nil, or_false] at hw
      exact hw
    simp only [CF.FD.far] at ff
    refine ⟨_, rfl, r, _, _, _, rfl, rfl, SqT.of hr5, rfl, rfl, _, rfl, ite2 (fun _ => ?_) (fun _ => ?_)⟩
    · refine ⟨_, rfl, by show 2 ≤ sizeLine; decide, fun q3 hq3 => ?_⟩
      have q3p : q3 ≠ p := fun z => by
        obtain ⟨o, ho⟩ := pen5.at_
        rw [z, ho] at hq3
        cases hq3
      have hrq := (Same.new (o := .lst [.str "from", .str "upto"]) hq3) _ _ hr5
      refine ⟨p, l, q3, t2, _, rfl, pen5.new hq3, by omega, q3p, .inl (SqL.of upd_same), by show 0 < 2; decide, by show 2 ≤ 1000000; decide, fun j9 v9 H9 t9 hv9 pen9 g9 g10 b9 => ?_⟩
      obtain ⟨w9, rfl, hw9⟩ : ∃ w9 : Str, v9 = .str w9 ∧ w9 ∈ CF.Sorts := by
        have hm := List.mem_of_getElem? hv9
        simp only [List.mem_cons, List.not_mem_nil, or_false] at hm
        rcases hm with rfl | rfl <;> exact ⟨_, rfl, by decide⟩
      have hr9 := kd (pen5.new hq3) b9 hrq
      refine ⟨_, rfl, r, _, _, _, rfl, rfl, SqT.of hr9, rfl, _, rfl, r, _, _, _, rfl, rfl, SqT.of hr9, rfl, _, rfl, r, _, _, _, rfl, rfl, SqT.of hr9, rfl, by show 4 ≤ sizeLine; decide, fun tq htq => ?_⟩
      exact fin (.dist w9 x y n) H9 t9 ⟨hw9, ox, oy, nxy, n0, n1⟩ (by simp only [CF.FD.far]; omega) (by simp only [CF.FD.mod]; omega) pen9 (by omega) (by omega) (B5.trans ((But.of (Same.new hq3)).trans b9)) tq htq
    have nb : ∀ z : Str, z = "by" ∨ z = "gap" ∨ z = "apart" → w ≠ z := fun z hz e => by
      subst e
      rcases hw3 with rfl | rfl | rfl <;> rcases hz with h | h | h <;> exact absurd h (by decide +kernel)
    refine ⟨fun σ' H' => σ' = [some (.ref p), some (.ref a), some (.ref fq), some (.ref r), some (.int (d - 1)), some (.int most), none, none, none] ∧ H' = H5, ⟨_, rfl, r, _, _, _, rfl, rfl, SqT.of hr5, rfl, rfl, _, rfl, ite2 (fun c => absurd (V.str.inj (of_decide_eq_true c)) (nb _ (.inl rfl))) (fun _ => iteF ⟨rfl, rfl⟩)⟩, ?_⟩
    rintro σ' H' ⟨rfl, rfl⟩
    refine ⟨_, rfl, r, _, _, _, rfl, rfl, SqT.of hr5, rfl, rfl, _, rfl, ite2 (fun c => absurd (V.str.inj (of_decide_eq_true c)) (nb _ (.inr (.inl rfl)))) (fun _ => ?_)⟩
    refine ⟨_, rfl, r, _, _, _, rfl, rfl, SqT.of hr5, rfl, rfl, _, rfl, ite2 (fun c => absurd (V.str.inj (of_decide_eq_true c)) (nb _ (.inr (.inr rfl)))) (fun _ => ?_)⟩
    exact ⟨_, rfl, same_ _ rfl⟩

end
end K05
end
section
set_option Elab.async false
set_option linter.all false
set_option maxRecDepth 100000
set_option maxHeartbeats 4000000
namespace K05
open PySem PySem.Spec PyProof.Rows L2
open PySem.W (ke_shaped_ints)
local macro_rules | `(tactic| walk_at "go") => `(tactic| first | refine ⟨_, rfl, ?_⟩ | refine .inl ⟨_, rfl, ?_⟩ | refine ⟨_, _, rfl, rfl, (by first | (show (0 : Int) < _; decide) | exact Or.inl ⟨by decide, by decide⟩ | exact Or.inr ⟨by decide, by decide⟩), ?_⟩ | refine ⟨_, _, rfl, rfl, ?_⟩)
section
variable {P : Program} {w : World} {K : PySem.W.Frag} {mg : Str → Option Value} {base : Heap}

/-- other_facts(pen, pointers, facts) -/
def spOther (K : PySem.W.Frag) : Sp := fun vs H Q _ => ∃ (p l a fq : Addr) (t : Int) (qs : List Addr) (ps : List Str) (fs : List CF.FD), vs = [.ref p, .ref a, .ref fq] ∧ Pen H p l t ∧ t ≤ 90000 ∧ a ≠ p ∧ fq ≠ p ∧ SqL K H a (ps.map V.str) ∧ 1 ≤ ps.length ∧ ps.length ≤ 3 ∧ (∀ z ∈ ps, Low z) ∧ H fq = some (.lst (qs.map V.ref)) ∧ CF.FAt H qs fs ∧ (∀ f ∈ fs, f.Ok ps) ∧ fs.length ≤ 13 ∧
  ∀ (q : Addr) (qs2 : List Addr) (fs2 : List CF.FD) (H' : Hp) (t' : Int), (∀ f ∈ fs2, f.Ok ps) → (ps.length = 3 → ∀ f ∈ fs2, f.far ≤ CF.farOf fs ∧ f.mod ≤ CF.modOf fs) → fs2.Nodup → fs2.length ≤ 3 → CF.FAt H' qs2 fs2 → Pen H' p l t' → t ≤ t' → t' ≤ t + 60 → But p H H' → H q = none → H' q = some (.lst (qs2.map V.ref)) → Q (.ref q) H'
/-- a fact, or none -/
def MayF (H : Hp) (ps : List Str) (fs : List CF.FD) (v : V) : Prop := v = .non ∨ ∃ (q : Addr) (f : CF.FD), v = .ref q ∧ H q = some (.tup f.vs) ∧ f.Ok ps ∧ (ps.length = 3 → f.far ≤ CF.farOf fs ∧ f.mod ≤ CF.modOf fs)
theorem MayF.same {H H' : Hp} {ps : List Str} {fs : List CF.FD} {v : V} (h : MayF H ps fs v) (s : Same H H') : MayF H' ps fs v := h.elim .inl fun ⟨q, f, a, b, c⟩ => .inr ⟨q, f, a, s _ _ b, c⟩
abbrev s_other_facts : Stmt := topS 71
theorem sc_other_facts : FnScope ["pen", "pointers", "facts", "found", "k", "fact"] ["pen", "pointers", "facts"] (defScope s_other_facts) := ⟨rfl, rfl, rfl, by decide +kernel, rfl, by decide +kernel, by decide +kernel⟩
theorem ok_other_facts (T : Txt mg) (D : Def K mg "_law_other_facts" s_other_facts) (C__law_draw : Cal P w K mg base 1 "_law_draw" ["pen", "span"] spDraw) (C__law_near_fact : Cal P w K mg base 3 "_law_near_fact" ["pen", "pointers", "facts"] (spNearFact K)) (C__law_wide_fact : Cal P w K mg base 3 "_law_wide_fact" ["pen", "pointers"] (spWideFact K)) : Cal P w K mg base 4 "_law_other_facts" ["pen", "pointers", "facts"] (spOther K) := by
  refine D.cal sc_other_facts (fun vs H Q E h => ?_) (fun _ _ _ _ _ _ us hl => match us, hl with | [_, _, _], _ => rfl) (fun f cdv A outer s H vs Q E hr h => ?_)
  · obtain ⟨p, l, a, fq, t, qs, ps, fs, rfl, _⟩ := h
    rfl
  have hu := hu_of hr

  obtain ⟨p, l, a, fq, t, qs, ps, fs, rfl, pen, ht, hap, hfp, hS, h1, h3, hlow, hf, fat, ok, f13, k⟩ := h
  refine ⟨_, (pss_cons (ps_set (i := 3) sc_other_facts.nd rfl (by first | exact Or.inl rfl | exact Or.inr rfl) (pe_lst pa_nil))
      (pss_cons (ps_for PassesOwn.never rfl (pi_range1 rfl T.f_range (pa_cons (pe_cal C__law_draw (hr.mono (by decide)) rfl (pa_cons (pv 0) (pa_cons pe_int pa_nil))) pa_nil)) (pg_name (i := 4) sc_other_facts.nd rfl (by first | exact Or.inl rfl | exact Or.inr rfl)) (C8.pss_cut (ps_set (i := 5) sc_other_facts.nd rfl (by first | exact Or.inl rfl | exact Or.inr rfl) (pe_ifExp (PW.pt (pw_and (pt_cmpR (op_neD hr.units) (pv 2) (pe_lst pa_nil) (nomark _)) (pw_and1 (pt_cmpR op_gt (pe_cal C__law_draw (hr.mono (by decide)) rfl (pa_cons (pv 0) (pa_cons pe_int pa_nil))) pe_int (nomark _))))) (pe_cal C__law_near_fact (hr.mono (by decide)) rfl (pa_cons (pv 0) (pa_cons (pv 1) (pa_cons (pv 2) pa_nil)))) pe_non))
      (C8.pss_cut (ps_if (PW.pt (pw_and (pt_cmpR op_isN (pv 5) pe_non (nomark _)) (pw_and1 (pt_cmpR op_lt (pe_callB call_len (by rfl) T.f_len PySem.boot_len (pa_cons (pv 1) pa_nil)) pe_int (nomark _))))) (pss_one (ps_set (i := 5) sc_other_facts.nd rfl (by first | exact Or.inl rfl | exact Or.inr rfl) (pe_cal C__law_wide_fact (hr.mono (by decide)) rfl (pa_cons (pv 0) (pa_cons (pv 1) pa_nil))))) pss_nil)
      (pss_one (ps_if (PW.pt (pw_and (pt_cmpR op_notN (pv 5) pe_non (nomark _)) (pw_and1 (pt_cmpR (op_notInD (units65 hr)) (pv 5) (pv 3) (by rfl))))) (pss_one (ps_expr (pe_bm PySem.F.plainAttrs_list PySem.F.slot_list_append PySem.F.type_list_append mt_append (pv 3) (pa_cons (pv 5) pa_nil)))) pss_nil)))))
      (pss_one (ps_ret (pv 3))))), ?_⟩
  have npen : ∀ {H1 : Hp} {D : Addr} {t1 : Int}, Pen H1 p l t1 → H1 D = none → D ≠ p ∧ D ≠ l := fun {H1 D t1} pn hD => by
    obtain ⟨ns, lf, h1, h2, _⟩ := pn.ex
    exact ⟨fun e => (by rw [e, h1] at hD; cases hD), fun e => (by rw [e, h2] at hD; cases hD)⟩
  have shp : ∀ {gs : List CF.FD}, (∀ f ∈ gs, f.Ok ps) → SeqAt.shaped (.list (gs.map fun f => PyData.tuple f.ds)) = true := fun {gs} okg => by
    have e : (gs.map fun f => PyData.tuple f.ds) = (gs.map CF.FD.ds).map PyData.tuple := by
      rw [List.map_map]
      rfl
    rw [e]
    refine CF.shaped_tups fun ds hds => ?_
    obtain ⟨g, hg, rfl⟩ := List.mem_map.mp hds
    exact CF.FD.flat (show ∀ z ∈ ps, CF.Lo z from hlow) (okg g hg)
  refine ⟨by show 0 ≤ sizeLine; decide, fun F hF => ?_⟩
  have nF := npen pen hF
  have pen0 := pen.new (o := .lst []) hF
  have b0 := (But.refl p H).nw (o := .lst []) hF
  have hF0 : upd H F (.lst []) F = some (.lst []) := upd_same
  generalize upd H F (.lst []) = H0 at pen0 b0 hF0 ⊢
  refine ⟨_, rfl, p, l, t, 4, rfl, pen0, by omega, by decide, by decide, fun m H1 t1 m0 m1 pen1 g1 g2 b1 => ?_⟩
  refine ⟨m, rfl, by omega, by omega, for_range (lo := 0) (n := m.toNat) (fun i σ H2 => ∃ (v w : Option V) (qs2 : List Addr) (fs2 : List CF.FD) (t2 : Int), σ = [some (.ref p), some (.ref a), some (.ref fq), some (.ref F), v, w] ∧ H2 F = some (.lst (qs2.map V.ref)) ∧ (∀ f ∈ fs2, f.Ok ps) ∧ (ps.length = 3 → ∀ f ∈ fs2, f.far ≤ CF.farOf fs ∧ f.mod ≤ CF.modOf fs) ∧ fs2.Nodup ∧ fs2.length ≤ i ∧ CF.FAt H2 qs2 fs2 ∧ Pen H2 p l t2 ∧ t1 ≤ t2 ∧ t2 ≤ t1 + 16 * i ∧ But p H H2)
    ⟨none, none, [], [], t1, rfl, b1 _ _ nF.1 hF0, by simp, by simp, .nil, Nat.zero_le _, .nil, pen1, Int.le_refl _, by omega, b0.trans b1⟩ ?_ ?_⟩
  · rintro i σ H2 hi ⟨v, w, qs2, fs2, t2, rfl, e1, ok2, sm2, nd2, len2, fat2, pen2, g3, g4, b2⟩
    have i3 : i < 3 := by omega
    have hf2 := b2 _ _ hfp hf
    have fatH : CF.FAt H2 qs fs := by
      obtain ⟨ns, lf, h1, _⟩ := pen.ex
      exact fat.but h1 b2
    refine ⟨fun σ' H' => ∃ (x : V) (w' : Option V) (t3 : Int), σ' = [some (.ref p), some (.ref a), some (.ref fq), some (.ref F), w', some x] ∧ MayF H' ps fs x ∧ Pen H' p l t3 ∧ t2 ≤ t3 ∧ t3 ≤ t2 + 5 ∧ But p H2 H', ?_, ?_⟩
    · have sh : SeqAt.shaped (.list (fs.map fun f => PyData.tuple f.ds)) = true := shp ok
      refine ⟨_, rfl, by show 0 ≤ sizeLine; decide, fun e he => ⟨.list (fs.map fun f => PyData.tuple f.ds), .list [], .lst (SqL.of ((Same.new he) _ _ hf2)) (fatH.same (Same.new he)).dps, .lst (SqL.of upd_same) .nil, sh, rfl, _, rfl, ?_⟩⟩
      rw [eqv_nilT]
      have se := Same.new (o := .lst []) he
      have pe := pen2.new (o := .lst []) he
      have hfe := se _ _ hf2
      have fate := fatH.same se
      generalize upd H2 e (.lst []) = H3 at se pe hfe fate ⊢
      cases hfs : fs with
      | nil =>
        exact iteF (iteF ⟨.non, _, t2, rfl, .inl rfl, pe, by omega, by omega, But.of se⟩)
      | cons f0 r0 =>
        rw [← hfs]
        have pos : 1 ≤ fs.length := by rw [hfs]; simp
        rw [show (!(fs.map fun f => PyData.tuple f.ds).isEmpty) = true by rw [hfs]; rfl]
        refine iteT ⟨_, rfl, p, l, t2, 4, rfl, pe, by omega, by decide, by decide, fun d H4 t3 d0 d1 pen3 g5 g6 b3 => ⟨_, _, rfl, rfl, _, rfl, ite2 (fun _ => ?_) (fun _ => ⟨.non, _, t3, rfl, .inl rfl, pen3, by omega, by omega, (But.of se).trans b3⟩)⟩⟩
        have fat4 : CF.FAt H4 qs fs := by
          obtain ⟨ns, lf, h1, _⟩ := pe.ex
          exact fate.but h1 b3
        exact ⟨_, rfl, _, rfl, _, rfl, p, l, a, fq, t3, qs, ps, fs, rfl, pen3, by omega, hfp, b3 _ _ hfp hfe, fat4, ok, pos, by omega, fun q f H5 t5 okf hfar hmod pen5 g7 g8 b5 hq => ⟨.ref q, _, t5, rfl, .inr ⟨q, f, rfl, hq, okf, fun _ => ⟨hfar, hmod⟩⟩, pen5, by omega, by omega, ((But.of se).trans b3).trans b5⟩⟩
    rintro σ' H3 ⟨x, w', t3, rfl, may, pen3, g5, g6, b3⟩
    have B3 := b2.trans b3
    refine ⟨fun σ' H' => ∃ (x : V) (w' : Option V) (t4 : Int), σ' = [some (.ref p), some (.ref a), some (.ref fq), some (.ref F), w', some x] ∧ MayF H' ps fs x ∧ Pen H' p l t4 ∧ t2 ≤ t4 ∧ t4 ≤ t2 + 16 ∧ But p H2 H', ?_, ?_⟩
    · rcases may with rfl | ⟨q, f, rfl, hq, okf, sm⟩
      · refine ⟨_, rfl, rfl, _, rfl, iteT ⟨_, rfl, _, _, rfl, .inl ⟨_, B3.seq hap hS, rfl⟩, _, _, rfl, rfl, _, rfl, ite2 (fun c => ?_) (fun _ => ⟨.non, _, t3, rfl, .inl rfl, pen3, by omega, by omega, b3⟩)⟩⟩
        have c3 : ((ps.map V.str).length : Int) < 3 := of_decide_eq_true c
        rw [List.length_map] at c3
        exact ⟨_, rfl, _, rfl, p, l, a, t3, ps, rfl, pen3, by omega, hap, B3.seq hap hS, h1, h3, hlow, fun q f H4 t4 okf pen4 g7 g8 b4 _ hq => ⟨.ref q, _, t4, rfl, .inr ⟨q, f, rfl, hq, okf, fun e => by omega⟩, pen4, by omega, by omega, b3.trans b4⟩⟩
      · exact ⟨_, rfl, rfl, _, rfl, iteF (iteF ⟨.ref q, _, t3, rfl, .inr ⟨q, f, rfl, hq, okf, sm⟩, pen3, by omega, by omega, b3⟩)⟩
    rintro σ' H4 ⟨x, w', t4, rfl, may, pen4, g7, g8, b4⟩
    have h4F := b4 _ _ nF.1 e1
    have fat4 : CF.FAt H4 qs2 fs2 := by
      obtain ⟨ns, lf, h1, _⟩ := pen2.ex
      exact fat2.but h1 b4
    rcases may with rfl | ⟨q, f, rfl, hq, okf, sm⟩
    · exact ⟨_, rfl, rfl, _, rfl, iteF (iteF ⟨_, _, qs2, fs2, t4, rfl, h4F, ok2, sm2, nd2, by omega, fat4, pen4, by omega, by omega, b2.trans b4⟩)⟩
    have lo : ∀ z ∈ ps, CF.Lo z := hlow
    refine ⟨_, rfl, rfl, _, rfl, iteT ⟨_, rfl, _, rfl, .tuple f.ds, fs2.map fun f => PyData.tuple f.ds, .tup (SqT.of hq) (CF.dps_vs _ _ _), .lst (SqL.of h4F) fat4.dps, CF.shaped_tup (CF.FD.flat lo okf), shp ok2, _, rfl, ite2 (fun c => ?_) (fun _ => ⟨_, _, qs2, fs2, t4, rfl, h4F, ok2, sm2, nd2, by omega, fat4, pen4, by omega, by omega, b2.trans b4⟩)⟩⟩
    have hqF : q ≠ F := ne_of hq h4F (by intro z; cases z)
    have nf : f ∉ fs2 := fun hin => by
      have e := CF.any_in hin (CF.FD.flat lo okf)
      rw [e] at c
      cases c
    refine ⟨_, rfl, .inl ⟨rfl, _, SqL.of h4F⟩, _, rfl, F, _, _, rfl, rfl, h4F, ?_, ?_⟩
    · rw [List.length_map, fat4.len, sizeLine_eq]
      omega
    · refine ⟨_, _, qs2 ++ [q], fs2 ++ [f], t4, rfl, ?_, ?_, ?_, ?_, ?_, ?_, pen4.put nF.1 nF.2, by omega, by omega, (b2.trans b4).put hF⟩
      · rw [List.map_append]
        exact upd_same
      · intro g hg
        rcases List.mem_append.mp hg with h | h
        · exact ok2 g h
        · rw [List.mem_singleton.mp h]
          exact okf
      · intro e g hg
        rcases List.mem_append.mp hg with h | h
        · exact sm2 e g h
        · rw [List.mem_singleton.mp h]
          exact sm e
      · exact List.nodup_append.mpr ⟨nd2, by simp, by intro x hx y hy e; rw [List.mem_singleton.mp hy] at e; exact nf (e ▸ hx)⟩
      · rw [List.length_append, List.length_singleton]
        omega
      · exact (fat4.app hq).up h4F
  · rintro σ H2 ⟨v, w, qs2, fs2, t2, rfl, e1, ok2, sm2, nd2, len2, fat2, pen2, g3, g4, b2⟩
    exact ⟨_, rfl, k F qs2 fs2 H2 t2 ok2 sm2 nd2 (by omega) fat2 pen2 (by omega) (by omega) b2 hF e1⟩

end
end K05
end
section
set_option Elab.async false
set_option linter.all false
set_option maxRecDepth 100000
set_option maxHeartbeats 4000000
namespace K05
open PySem PySem.Spec PyProof.Rows L2
open PySem.W (ke_shaped_ints)
local macro_rules | `(tactic| walk_at "go") => `(tactic| first | refine ⟨_, rfl, ?_⟩ | refine .inl ⟨_, rfl, ?_⟩ | refine ⟨_, _, rfl, rfl, (by first | (show (0 : Int) < _; decide) | exact Or.inl ⟨by decide, by decide⟩ | exact Or.inr ⟨by decide, by decide⟩), ?_⟩ | refine ⟨_, _, rfl, rfl, ?_⟩)
section
variable {P : Program} {w : World} {K : PySem.W.Frag} {mg : Str → Option Value} {base : Heap}

theorem cut_from {xs : List V} {k : Nat} (h : k ≤ xs.length) : cutV xs (some ((k : Nat) : Int)) none = xs.drop k := by
  unfold cutV
  have e1 : HT.sIx xs.length 0 (some ((k : Nat) : Int)) = k := by
    rw [HT.sIx_nat]
    exact Nat.min_eq_left h
  have e2 : HT.sIx xs.length xs.length none = xs.length := rfl
  rw [e1, e2, List.take_of_length_le (by rw [List.length_drop]; omega)]
theorem _root_.CF.FAt.take {H : Hp} {qs : List Addr} {fs : List CF.FD} (h : CF.FAt H qs fs) : ∀ k, CF.FAt H (qs.take k) (fs.take k) := by
  induction h with
  | nil => intro k; simp; exact .nil
  | cons a _ ih =>
    intro k
    cases k with
    | zero => exact .nil
    | succ k => exact .cons a (ih k)
theorem _root_.CF.FAt.drop {H : Hp} {qs : List Addr} {fs : List CF.FD} (h : CF.FAt H qs fs) : ∀ k, CF.FAt H (qs.drop k) (fs.drop k) := by
  induction h with
  | nil => intro k; simp; exact .nil
  | cons a t ih =>
    intro k
    cases k with
    | zero => exact .cons a t
    | succ k => exact ih k
theorem _root_.CF.FAt.app2 {H : Hp} {qs qs2 : List Addr} {fs fs2 : List CF.FD} (h : CF.FAt H qs fs) (h2 : CF.FAt H qs2 fs2) : CF.FAt H (qs ++ qs2) (fs ++ fs2) := by
  induction h with
  | nil => exact h2
  | cons a _ ih => exact .cons a ih
def restOf (fs : List CF.FD) (k : Nat) : List CF.FD := fs.take k ++ fs.drop (k + 1)
theorem filt_one (n k : Nat) : k < n → (List.range n).filter (fun i => decide (i = k)) = [k] := by
  induction n with
  | zero => intro h; omega
  | succ n ih =>
    intro h
    rw [List.range_succ, List.filter_append]
    by_cases e : n = k
    · subst e
      have : (List.range n).filter (fun i => decide (i = n)) = [] := by
        rw [List.filter_eq_nil_iff]
        intro i hi
        have := List.mem_range.mp hi
        simp
        omega
      rw [this]
      simp
    · rw [ih (by omega)]
      simp [e]
/-- k alone is false -/
theorem brk_one {pl : Str → Int} {fs : List CF.FD} {k : Nat} (hk : k < fs.length) : CF.brk pl fs = [k] ↔ (CF.kept pl fs = false ∧ CF.kept pl (restOf fs k) = true) := by
  have mem : ∀ f, f ∈ restOf fs k ↔ ∃ i, ∃ h : i < fs.length, i ≠ k ∧ fs[i] = f := fun f => by
    unfold restOf
    rw [List.mem_append, List.mem_take_iff_getElem, List.mem_drop_iff_getElem]
    constructor
    · rintro (⟨i, h, e⟩ | ⟨i, h, e⟩)
      · exact ⟨i, by omega, by omega, e⟩
      · exact ⟨k + 1 + i, by omega, by omega, e⟩
    · rintro ⟨i, h, n, e⟩
      rcases Nat.lt_or_ge i k with c | c
      · exact .inl ⟨i, by omega, e⟩
      · refine .inr ⟨i - (k + 1), by omega, ?_⟩
        have : k + 1 + (i - (k + 1)) = i := by omega
        simp only [this]
        exact e
  have mem_brk : ∀ i, i ∈ CF.brk pl fs ↔ ∃ h : i < fs.length, CF.FD.val pl fs[i] = false := fun i => by
    unfold CF.brk
    rw [List.mem_filter, List.mem_range]
    constructor
    · rintro ⟨h, e⟩
      rw [List.getElem?_eq_getElem h] at e
      exact ⟨h, by simpa using e⟩
    · rintro ⟨h, e⟩
      refine ⟨h, ?_⟩
      rw [List.getElem?_eq_getElem h]
      show (!CF.FD.val pl fs[i]) = true
      rw [e]
      rfl
  unfold CF.kept
  rw [List.all_eq_false, List.all_eq_true]
  constructor
  · intro h
    obtain ⟨_, k2⟩ := (mem_brk k).mp (by rw [h]; simp)
    refine ⟨⟨fs[k], List.getElem_mem hk, by rw [k2]; decide⟩, fun f hf => ?_⟩
    obtain ⟨i, hi, n, rfl⟩ := (mem f).mp hf
    cases e : CF.FD.val pl fs[i] with
    | true => rfl
    | false =>
      have := (mem_brk i).mpr ⟨hi, e⟩
      rw [h] at this
      exact absurd (List.mem_singleton.mp this) n
  · rintro ⟨⟨f, hf, nf⟩, all⟩
    rw [← filt_one fs.length k hk]
    unfold CF.brk
    refine List.filter_congr fun i hi => ?_
    have hi' := List.mem_range.mp hi
    rw [List.getElem?_eq_getElem hi']
    show (!CF.FD.val pl fs[i]) = decide (i = k)
    by_cases e : i = k
    · subst e
      obtain ⟨j, hj, rfl⟩ := List.mem_iff_getElem.mp hf
      by_cases e2 : j = i
      · subst e2
        simpa using nf
      · exact absurd (all _ ((mem _).mpr ⟨j, hj, e2, rfl⟩)) nf
    · rw [all _ ((mem _).mpr ⟨i, hi', e, rfl⟩)]
      simp [e]
/-- the dict of the rows that are kept -/
def KeptD (H : Hp) (d : Addr) (zs : List (List Int)) (c : List Int → Bool) : Prop := ∃ kvs : List (List L2.Key × V), H d = some (.dT kvs) ∧ ∀ z ∈ zs, (valV kvs (z.map fun i => (Sum.inl i : L2.Key))).isSome = c z
theorem rows_dps {K : PySem.W.Frag} {H : Hp} : ∀ {us : List Addr} {ws : List (List Int)}, RowsAt H us ws → DpAll K H (us.map V.ref) (ws.map fun z => PyData.tuple (LD.intsD z))
  | [], [], _ => .nil
  | [], _ :: _, h => by cases h.1
  | _ :: _, [], h => by cases h.1
  | u :: us, w :: ws, h => by
    have hints : ∀ zs : List Int, DpAll K H (zs.map V.int) (LD.intsD zs) := fun zs => by
      induction zs with
      | nil => exact .nil
      | cons z r ih => exact .cons (.int z) ih
    exact .cons (.tup (SqT.of (h.2 0 u w rfl rfl)) (hints w)) (rows_dps ⟨by have := h.1; simp at this; exact this, fun i t r a b => h.2 (i + 1) t r (by simpa using a) (by simpa using b)⟩)
theorem rows_shaped (ws : List (List Int)) : SeqAt.shaped (.list (ws.map fun z => PyData.tuple (LD.intsD z))) = true := by
  have e : (ws.map fun z => PyData.tuple (LD.intsD z)) = (ws.map LD.intsD).map PyData.tuple := by rw [List.map_map]; rfl
  rw [e]
  refine CF.shaped_tups fun ds hds d hd => ?_
  obtain ⟨w, _, rfl⟩ := List.mem_map.mp hds
  obtain ⟨z, _, rfl⟩ := List.mem_map.mp hd
  exact CF.flat_int z
theorem rows_up2 {H : Hp} {ts : List Addr} {zs : List (List Int)} {p : Addr} {xs : List V} {o : HO} (h : RowsAt H ts zs) (hp : H p = some (.lst xs)) : RowsAt (upd H p o) ts zs := ⟨h.1, fun i t r a b => by
  have := h.2 i t r a b
  exact (upd_ne (fun e => by rw [e, hp] at this; cases this)).trans this⟩
theorem rows_get {H : Hp} {ts : List Addr} {zs : List (List Int)} (h : RowsAt H ts zs) {i : Nat} {x : V} (hx : (ts.map V.ref)[i]? = some x) : ∃ t z, x = .ref t ∧ ts[i]? = some t ∧ zs[i]? = some z ∧ H t = some (.tup (z.map V.int)) := by
  rw [List.getElem?_map] at hx
  obtain ⟨t, ht, rfl⟩ := Option.map_eq_some_iff.mp hx
  have hj : i < zs.length := by rw [← h.1]; exact (List.getElem?_eq_some_iff.mp ht).1
  exact ⟨t, zs[i], rfl, ht, List.getElem?_eq_getElem hj, h.2 i t _ ht (List.getElem?_eq_getElem hj)⟩
theorem rows_snoc2 {H : Hp} {ts : List Addr} {zs : List (List Int)} {t : Addr} {z : List Int} (h : RowsAt H ts zs) (ht : H t = some (.tup (z.map V.int))) : RowsAt H (ts ++ [t]) (zs ++ [z]) := by
  refine ⟨by simp [h.1], fun i u r a b => ?_⟩
  by_cases c : i < ts.length
  · rw [List.getElem?_append_left c] at a
    rw [List.getElem?_append_left (by rw [← h.1]; exact c)] at b
    exact h.2 i u r a b
  · rw [List.getElem?_append_right (by omega)] at a
    rw [List.getElem?_append_right (by rw [← h.1]; omega)] at b
    have i0 : i - ts.length = 0 := by
      have := (List.getElem?_eq_some_iff.mp a).1
      simp at this
      omega
    rw [i0] at a
    rw [← h.1, i0] at b
    simp at a b
    subst a; subst b
    exact ht
/-- idle(pointers, facts, kept_rows, rows) -/
def spLIdle (K : PySem.W.Frag) : Sp := fun vs H Q _ => ∃ (a fq kd rq : Addr) (qs ts : List Addr) (ps : List Str) (fs : List CF.FD) (zs : List (List Int)), vs = [.ref a, .ref fq, .ref kd, .ref rq] ∧ SqL K H a (ps.map V.str) ∧ ps.Nodup ∧ H fq = some (.lst (qs.map V.ref)) ∧ CF.FAt H qs fs ∧ (∀ f ∈ fs, f.Ok ps) ∧ fs.length ≤ 100 ∧ KeptD H kd zs (fun z => CF.kept (CF.look ps z) fs) ∧ H rq = some (.lst (ts.map V.ref)) ∧ RowsAt H ts zs ∧ zs.length ≤ 600000 ∧ (∀ z ∈ zs, z.length = ps.length) ∧
  ∀ (g : Nat → Bool) (r : Addr) H', Same H H' → H r = none → (∀ k, k < fs.length → (g k = true ↔ ∀ z ∈ zs, CF.brk (CF.look ps z) fs ≠ [k])) → H' r = some (.lst (((List.range fs.length).filter g).map fun k => V.int (k : Nat))) → Q (.ref r) H'
abbrev s_idle : Stmt := topS 72
theorem sc_idle : FnScope ["pointers", "facts", "kept_rows", "rows", "found", "k", "rest", "row"] ["pointers", "facts", "kept_rows", "rows"] (defScope s_idle) := ⟨rfl, rfl, rfl, by decide +kernel, rfl, by decide +kernel, by decide +kernel⟩
theorem ok_idle (T : Txt mg) (D : Def K mg "_law_idle" s_idle) (C__law_keeps : Cal P w K mg base 2 "_law_keeps" ["pointers", "facts", "places"] (spLKeeps K)) : Cal P w K mg base 3 "_law_idle" ["pointers", "facts", "kept_rows", "rows"] (spLIdle K) := by
  refine D.cal sc_idle (fun vs H Q E h => ?_) (fun _ _ _ _ _ _ us hl => match us, hl with | [_, _, _, _], _ => rfl) (fun f cdv A outer s H vs Q E hr h => ?_)
  · obtain ⟨a, fq, kd, rq, qs, ts, ps, fs, zs, rfl, _⟩ := h
    rfl
  have hu := hu_of hr

  obtain ⟨a, fq, kd, rq, qs, ts, ps, fs, zs, rfl, ha, nd, hf, fat, ok, f100, ⟨kvs, hkd, isK⟩, hrq, rows, few, lenz, k⟩ := h
  refine ⟨_, (pss_cons (ps_set (i := 4) sc_idle.nd rfl (by first | exact Or.inl rfl | exact Or.inr rfl) (pe_lst pa_nil))
      (pss_cons (ps_for PassesOwn.never rfl (pi_range1 rfl T.f_range (pa_cons (pe_callB call_len (by rfl) T.f_len PySem.boot_len (pa_cons (pv 1) pa_nil)) pa_nil)) (pg_name (i := 5) sc_idle.nd rfl (by first | exact Or.inl rfl | exact Or.inr rfl)) (pss_cons (ps_set (i := 6) sc_idle.nd rfl (by first | exact Or.inl rfl | exact Or.inr rfl) (pe_op op_cat (pe_slice sl_list (pv 1) po_none (po_some (pv 5))) (pe_slice sl_list (pv 1) (po_some (pe_op op_add (pv 5) pe_int)) po_none)))
      (pss_one (ps_if (pt_cmpR (op_eqD hr.units) (pe_lc (own := [("row", 7)]) (g := gName 7) rfl sc_idle.nd (pi_list (pv 3)) (blkOk_by (N := ["pointers", "facts", "kept_rows", "rows", "found", "k", "rest", "row"]) (sc := defScope s_idle) (by decide +kernel)) (fun _ _ _ _ _ => (pg_name (i := 7) sc_idle.nd rfl (Or.inl rfl))) (fun _ _ _ _ _ => (pts_one (PW.pt (pw_and (pt_cmp (pc_dnotin hu (pv 7) (pv 2))) (pw_and1 (pt_val (pe_cal C__law_keeps (hr.mono (by decide)) rfl (pa_cons (pv 0) (pa_cons (pv 6) (pa_cons (pv 7) pa_nil)))))))))) (fun _ _ _ _ _ => (pv 7))) (pe_lst pa_nil) (nomark _)) (pss_one (ps_expr (pe_bm PySem.F.plainAttrs_list PySem.F.slot_list_append PySem.F.type_list_append mt_append (pv 4) (pa_cons (pv 5) pa_nil)))) pss_nil))))
      (pss_one (ps_ret (pv 4))))), ?_⟩
  have big : sizeLine = 16777216 := sizeLine_eq
  let g : Nat → Bool := fun k => (zs.filter fun z => !CF.kept (CF.look ps z) fs && CF.kept (CF.look ps z) (restOf fs k)).isEmpty
  refine ⟨by show 0 ≤ sizeLine; decide, fun F hF => ?_⟩
  have sF := Same.new (o := .lst []) hF
  have hF0 : upd H F (.lst []) F = some (.lst []) := upd_same
  generalize upd H F (.lst []) = H0 at sF hF0 ⊢
  refine ⟨_, rfl, _, _, rfl, .inl ⟨_, SqL.of (sF _ _ hf), rfl⟩, _, rfl, by rw [List.length_map, fat.len]; omega, by rw [List.length_map, fat.len]; omega, ?_⟩
  have e0 : ((((qs.map V.ref).length : Nat) : Int)).toNat = fs.length := by rw [List.length_map, fat.len]; omega
  rw [e0]
  refine for_range (lo := 0) (n := fs.length) (fun i σ H' => ∃ v1 v2 v3 : Option V, σ = [some (.ref a), some (.ref fq), some (.ref kd), some (.ref rq), some (.ref F), v1, v2, v3] ∧ But F H0 H' ∧ H' F = some (.lst (((List.range i).filter g).map fun k => V.int (k : Nat))))
    ⟨none, none, none, rfl, But.refl _ _, hF0⟩ ?_ ?_
  · rintro i σ H1 hi ⟨v1, v2, v3, rfl, b1, h1⟩
    have s1 : Same H H1 := fun b o e => b1 _ _ (fun z => by rw [z, hF] at e; cases e) (sF _ _ e)
    have hf1 := s1 _ _ hf
    have qll : (qs.map V.ref).length = fs.length := by rw [List.length_map, fat.len]
    refine ⟨_, rfl, _, rfl, _, rfl, fq, _, rfl, SqL.of hf1, fun S1 hS1 => ?_⟩
    have z1 := Same.new (o := .lst (cutV (qs.map V.ref) none (some (0 + (i : Int))))) hS1
    have hA1 : upd H1 S1 (.lst (cutV (qs.map V.ref) none (some (0 + (i : Int))))) S1 = some (.lst ((qs.take i).map V.ref)) := by
      rw [CF.cut_to _ (by omega), show (0 + (i : Int)).toNat = i by omega, ← List.map_take]
      exact upd_same
    generalize upd H1 S1 (.lst (cutV (qs.map V.ref) none (some (0 + (i : Int))))) = G1 at z1 hA1 ⊢
    refine ⟨_, rfl, _, rfl, _, _, rfl, rfl, _, rfl, fq, _, rfl, SqL.of (z1 _ _ hf1), fun S2 hS2 => ?_⟩
    have z2 := Same.new (o := .lst (cutV (qs.map V.ref) (some (0 + (i : Int) + 1)) none)) hS2
    have hA2 : upd G1 S2 (.lst (cutV (qs.map V.ref) (some (0 + (i : Int) + 1)) none)) S2 = some (.lst ((qs.drop (i + 1)).map V.ref)) := by
      rw [show (0 + (i : Int) + 1) = ((i + 1 : Nat) : Int) by omega, cut_from (by rw [qll]; omega), ← List.map_drop]
      exact upd_same
    generalize upd G1 S2 (.lst (cutV (qs.map V.ref) (some (0 + (i : Int) + 1)) none)) = G2 at z2 hA2 ⊢
    refine ⟨S1, S2, _, _, rfl, rfl, z2 _ _ hA1, hA2, by rw [List.length_map, List.length_map, List.length_take, List.length_drop, fat.len, big]; omega, fun S3 hS3 => ?_⟩
    rw [← List.map_append]
    have z3 := Same.new (o := .lst ((qs.take i ++ qs.drop (i + 1)).map V.ref)) hS3
    have hA3 : upd G2 S3 (.lst ((qs.take i ++ qs.drop (i + 1)).map V.ref)) S3 = some (.lst ((qs.take i ++ qs.drop (i + 1)).map V.ref)) := upd_same
    generalize upd G2 S3 (.lst ((qs.take i ++ qs.drop (i + 1)).map V.ref)) = G3 at z3 hA3 ⊢
    have z13 := (z1.trans z2).trans z3
    have s3 := s1.trans z13
    have fatR : CF.FAt H (qs.take i ++ qs.drop (i + 1)) (restOf fs i) := (fat.take i).app2 (fat.drop (i + 1))
    have okR : ∀ f ∈ restOf fs i, f.Ok ps := fun f hf => by
      rcases List.mem_append.mp hf with h | h
      · exact ok f (List.mem_of_mem_take h)
      · exact ok f (List.mem_of_mem_drop h)
    have lenR : (restOf fs i).length ≤ 1000 := by
      unfold restOf
      rw [List.length_append, List.length_take, List.length_drop]
      omega
    let c : List Int → Bool := fun z => !CF.kept (CF.look ps z) fs && CF.kept (CF.look ps z) (restOf fs i)
    refine ⟨_, rfl, rq, rfl, ⟨_, SqL.of (s3 _ _ hrq)⟩, fun D hD => lc_it walk_list (fun j H' => Same G3 H' ∧ ∃ us : List Addr, H' D = some (.lst (us.map V.ref)) ∧ us.length ≤ j ∧ RowsAt H' us ((zs.take j).filter c)) ⟨Same.new hD, [], upd_same, Nat.le_refl _, by simpa using RowsAt.nil⟩ (fun j H' _ z => SqL.of (z.1 _ _ (s3 _ _ hrq))) ?_ ?_⟩
    · rintro j y K1 K2 hj ⟨s4, us, h4, ul, r4⟩ ⟨rfl, hx⟩
      obtain ⟨t, z, rfl, ht, hz, hr0⟩ := rows_get rows hx
      have zm := List.mem_of_getElem? hz
      have s34 := s3.trans s4
      have tk : (zs.take (j + 1)).filter c = (zs.take j).filter c ++ [z].filter c := by rw [List.take_add_one, hz, List.filter_append]; rfl
      have dg : DGet K2 kd (.ref t) (valV kvs (z.map fun i => (Sum.inl i : L2.Key))) := DGet.t (s34 _ _ hkd) (by rw [List.map_map]; exact s34 _ _ hr0)
      have jl : j < zs.length := (List.getElem?_eq_some_iff.mp hz).1
      refine ⟨rfl, _, rfl, _, rfl, kd, _, rfl, dg, _, rfl, ?_⟩
      have ik : (valV kvs (z.map fun i => (Sum.inl i : L2.Key))).isSome = CF.kept (CF.look ps z) fs := isK z zm
      rw [ik, tk]
      cases e : CF.kept (CF.look ps z) fs with
      | true =>
        have e2 : c z = false := by show (!CF.kept (CF.look ps z) fs && _) = false; rw [e]; rfl
        rw [List.filter_cons_of_neg (by rw [e2]; decide), List.filter_nil, List.append_nil]
        exact iteF (iteF ⟨s4, us, h4, by omega, r4⟩)
      | false =>
        refine iteT ⟨_, rfl, _, rfl, _, rfl, a, S3, t, _, ps, restOf fs i, z, rfl, s34.seq ha, s4 _ _ hA3, fatR.same s34, okR, lenR, SqT.of (s34 _ _ hr0), nd, lenz z zm, fun K3 s5 => ⟨_, rfl, ?_⟩⟩
        cases e3 : CF.kept (CF.look ps z) (restOf fs i) with
        | true =>
          have e2 : c z = true := by show (!CF.kept (CF.look ps z) fs && _) = true; rw [e, e3]; rfl
          rw [List.filter_cons_of_pos e2, List.filter_nil]
          refine iteT ⟨_, rfl, _, s5 _ _ h4, ?_, (s4.trans s5).put hD, us ++ [t], ?_, ?_, ?_⟩
          · rw [List.length_map]
            omega
          · rw [List.map_append]; exact upd_same
          · rw [List.length_append, List.length_singleton]; omega
          · exact rows_up2 (rows_snoc2 (r4.same s5) ((s34.trans s5) _ _ hr0)) (s5 _ _ h4)
        | false =>
          have e2 : c z = false := by show (!CF.kept (CF.look ps z) fs && _) = false; rw [e3, Bool.and_false]
          rw [List.filter_cons_of_neg (by rw [e2]; decide), List.filter_nil, List.append_nil]
          exact iteF ⟨s4.trans s5, us, s5 _ _ h4, by omega, r4.same s5⟩
    · rintro K1 ⟨s4, us, h4, ul, r4⟩
      rw [List.length_map, rows.1, List.take_length] at r4
      refine ⟨by show 0 ≤ sizeLine; decide, fun e he => ⟨.list ((zs.filter c).map fun z => PyData.tuple (LD.intsD z)), .list [], .lst (SqL.of ((Same.new he) _ _ h4)) (rows_dps (r4.same (Same.new he))), .lst (SqL.of upd_same) .nil, rows_shaped _, rfl, _, rfl, ?_⟩⟩
      rw [eqv_nilT]
      have gi : ((zs.filter c).map fun z => PyData.tuple (LD.intsD z)).isEmpty = g i := by
        show _ = (zs.filter c).isEmpty
        cases zs.filter c <;> rfl
      rw [gi]
      have tkg : (List.range (i + 1)).filter g = (List.range i).filter g ++ [i].filter g := by rw [List.range_succ, List.filter_append]
      rw [tkg]
      have s5 := (z13.trans s4).trans (Same.new (o := .lst []) he)
      have hF5 := s5 _ _ h1
      have b5 := b1.trans (But.of s5)
      generalize upd K1 e (.lst []) = K5 at s5 hF5 b5 ⊢
      cases e6 : g i with
      | true =>
        rw [List.filter_cons_of_pos e6, List.filter_nil]
        refine iteT ⟨_, rfl, .inl ⟨rfl, _, SqL.of hF5⟩, _, rfl, F, _, _, rfl, rfl, hF5, ?_, _, _, _, rfl, ?_, ?_⟩
        · rw [List.length_map, big]
          have h5 := List.length_filter_le g (List.range i)
          rw [List.length_range] at h5
          omega
        · exact fun b o n e => (upd_ne n).trans (b5 b o n e)
        · rw [List.map_append]
          show upd K5 F (.lst (_ ++ [V.int (0 + (i : Int))])) F = _
          rw [Int.zero_add]
          exact upd_same
      | false =>
        rw [List.filter_cons_of_neg (by rw [e6]; decide), List.filter_nil, List.append_nil]
        exact iteF ⟨_, _, _, rfl, b5, hF5⟩
  · rintro σ H1 ⟨v1, v2, v3, rfl, b1, h1⟩
    have s1 : Same H H1 := fun b o e => b1 _ _ (fun z => by rw [z, hF] at e; cases e) (sF _ _ e)
    refine ⟨_, rfl, k g F H1 s1 hF (fun k hk => ?_) h1⟩
    show (zs.filter _).isEmpty = true ↔ _
    rw [List.isEmpty_iff, List.filter_eq_nil_iff]
    constructor
    · intro h z hz e
      have := (brk_one hk).mp e
      exact h z hz (by rw [this.1, this.2]; rfl)
    · intro h z hz e
      rw [Bool.and_eq_true, Bool.not_eq_true'] at e
      exact h z hz ((brk_one hk).mpr e)

end
end K05
end
section
set_option Elab.async false
set_option linter.all false
set_option maxRecDepth 100000
set_option maxHeartbeats 4000000
namespace K05
open PySem PySem.Spec PyProof.Rows L2
open PySem.W (ke_shaped_ints)
local macro_rules | `(tactic| walk_at "go") => `(tactic| first | refine ⟨_, rfl, ?_⟩ | refine .inl ⟨_, rfl, ?_⟩ | refine ⟨_, _, rfl, rfl, (by first | (show (0 : Int) < _; decide) | exact Or.inl ⟨by decide, by decide⟩ | exact Or.inr ⟨by decide, by decide⟩), ?_⟩ | refine ⟨_, _, rfl, rfl, ?_⟩)
section
variable {P : Program} {w : World} {K : PySem.W.Frag} {mg : Str → Option Value} {base : Heap}

/-- the walk over an own contract -/
structure ItW (P : Program) (w : World) (K : PySem.W.Frag) (mg : Str → Option Value) (base : Heap) (C fI : Addr) : Prop where
  iC : PySem.W.findIn K (.ref C) "__iter__" = some (some (.ref fI))
  iF : PySem.W.isFn K (.ref fI) = true
  IR : IterRun P w K mg base 1 C fI "lines"

theorem shaped_bls (bs : List Bool) : SeqAt.shaped (.list (bs.map PyData.bool)) = true := by
  have h : PyData.canLayAll0 (bs.map PyData.bool) = true ∧ PyData.depthAll (bs.map PyData.bool) = 0 := CF.flats _ fun d hd => by
    obtain ⟨b, _, rfl⟩ := List.mem_map.mp hd
    exact ⟨rfl, rfl⟩
  show (PyData.canLayAll0 (bs.map PyData.bool) && decide (PyData.depthAll (bs.map PyData.bool) + 1 ≤ 64)) = true
  rw [h.1, h.2]
  rfl
theorem bls_dps {K : PySem.W.Frag} {H : Hp} : ∀ bs : List Bool, DpAll K H (bs.map V.bl) (bs.map PyData.bool)
  | [] => .nil
  | b :: r => .cons (.bl b) (bls_dps r)
theorem ints_dps {K : PySem.W.Frag} {H : Hp} : ∀ zs : List Int, DpAll K H (zs.map V.int) (zs.map PyData.int)
  | [] => .nil
  | z :: r => .cons (.int z) (ints_dps r)
theorem ne_refl2 {d : PyData} (h : SeqAt.shaped d = true) : (!PyData.eqv d d) = false := by
  rw [SeqAt.eqv_refl d (SeqAt.canLay_of_shaped h)]
  rfl
theorem cut_last (xs : List V) (y : V) : cutV (xs ++ [y]) none (some (-1)) = xs := by
  unfold cutV
  have e1 : HT.sIx (xs ++ [y]).length 0 none = 0 := rfl
  have e2 : HT.sIx (xs ++ [y]).length (xs ++ [y]).length (some (-1)) = xs.length := by
    show (if (-1 : Int) < 0 then ((-1 : Int) + ((xs ++ [y]).length : Int)).toNat else min (-1 : Int).toNat (xs ++ [y]).length) = _
    rw [if_pos (by decide), List.length_append, List.length_singleton]
    omega
  rw [e1, e2]
  simp
theorem no_false (bs : List Bool) : (!inV (.bl false) (bs.map V.bl)) = bs.all id := by
  induction bs with
  | nil => rfl
  | cons b r ih =>
    unfold inV at ih ⊢
    rw [List.map_cons, List.any_cons, List.all_cons, Bool.not_or, ih]
    cases b <;> rfl
theorem flat_bl2 (bs : List Bool) : (bs.map V.bl).all flatV = true := by
  induction bs with
  | nil => rfl
  | cons b r ih => rw [List.map_cons, List.all_cons, ih]; rfl
/-- the size of what is asked in a turn -/
theorem ask_all {n : Nat} {fs fs2 : List CF.FD} {ps : List Str} (hn : n = ps.length) (ask : Asked n fs) (ok : ∀ f ∈ fs, f.Ok ps) (ok2 : ∀ f ∈ fs2, f.Ok ps) (sm : n = 3 → ∀ f ∈ fs2, f.far ≤ CF.farOf fs ∧ f.mod ≤ CF.modOf fs) {gs hs : List CF.FD} (hg : ∀ f ∈ gs, f ∈ fs ∨ f ∈ fs2) (hh : ∀ f ∈ hs, f ∈ fs ∨ f ∈ fs2) : Ask2 n gs hs := by
  obtain ⟨n1, n3, gb, g3⟩ := ask
  by_cases e : n = 3
  · refine ⟨CF.farOf fs, CF.modOf fs, fun f hf => ?_, CP.far_0 _, CP.mod_1 _, n1, n3, gb, g3⟩
    have : f ∈ fs ∨ f ∈ fs2 := (List.mem_append.mp hf).elim (hg f) (hh f)
    rcases this with h | h
    · exact ⟨CP.far_le h, CP.mod_le h⟩
    · exact sm e f h
  · refine ⟨92, 8, fun f hf => ?_, by decide, by decide, n1, n3, by decide, fun h => absurd h e⟩
    have : f ∈ fs ∨ f ∈ fs2 := (List.mem_append.mp hf).elim (hg f) (hh f)
    have okf : f.Ok ps := this.elim (ok f) (ok2 f)
    have := wide_mod okf
    exact ⟨wide_far okf, by omega⟩
theorem imp_all {ps : List Str} {fs gs : List CF.FD} : CP.Imp ps fs gs ↔ ∀ f ∈ gs, CP.Imp ps fs [f] := by
  unfold CP.Imp
  have one : ∀ (pl : Str → Int) (f : CF.FD), CF.kept pl [f] = f.val pl := fun pl f => by simp [CF.kept]
  constructor
  · intro h f hf zs hl hk
    rw [one]
    exact List.all_eq_true.mp (h zs hl hk) f hf
  · intro h zs hl hk
    refine List.all_eq_true.mpr fun f hf => ?_
    have := h f hf zs hl hk
    rw [one] at this
    exact this
/-- over the rows is over all places -/
theorem imp_rows {ps : List Str} {fs fs2 gs hs : List CF.FD} {zs : List (List Int)} {fa mo : Nat} (nd : ps.Nodup) (p1 : 1 ≤ ps.length) (p3 : ps.length ≤ 3) (ok : ∀ f ∈ fs, f.Ok ps) (ok2 : ∀ f ∈ fs2, f.Ok ps) (hfa : CF.farOf (fs ++ fs2) = (fa : Int)) (hmo : CF.modOf (fs ++ fs2) = (mo : Int)) (near : ∀ z, z ∈ zs ↔ NM.Near ps.length (fa + mo) mo z)
    (hg : ∀ f ∈ gs, f ∈ fs ∨ f ∈ fs2) (hh : ∀ f ∈ hs, f ∈ fs ∨ f ∈ fs2) : (∀ z ∈ zs, CF.kept (CF.look ps z) gs = true → CF.kept (CF.look ps z) hs = true) ↔ CP.Imp ps gs hs := by
  have okA : ∀ f ∈ fs ++ fs2, f.Ok ps := fun f hf => (List.mem_append.mp hf).elim (ok f) (ok2 f)
  have inA : ∀ f ∈ gs ++ hs, f ∈ fs ++ fs2 := fun f hf => List.mem_append.mpr ((List.mem_append.mp hf).elim (hg f) (hh f))
  have m1 := CP.mod_1 (fs ++ fs2)
  constructor
  · intro h
    refine CP.imp_near (F := fa) (M := mo) nd p1 p3 (fun f hf => okA f (inA f (List.mem_append_left _ hf))) (fun f hf => okA f (inA f (List.mem_append_right _ hf))) (fun f hf => by rw [← hfa]; exact CP.far_le (inA f hf)) (fun f hf => by rw [← hmo]; exact CP.dvd4 (CP.mod4 (okA f (inA f hf))) (CP.mods okA) (CP.mod_le (inA f hf))) (by omega) fun z hz => ?_
    exact h z ((near z).mpr hz)
  · intro h z hz
    exact h z (NM.near_len ((near z).mp hz))
theorem idle_rows {ps : List Str} {fs fs2 : List CF.FD} {zs : List (List Int)} {fa mo : Nat} (nd : ps.Nodup) (p1 : 1 ≤ ps.length) (p3 : ps.length ≤ 3) (ok : ∀ f ∈ fs, f.Ok ps) (ok2 : ∀ f ∈ fs2, f.Ok ps) (hfa : CF.farOf (fs ++ fs2) = (fa : Int)) (hmo : CF.modOf (fs ++ fs2) = (mo : Int)) (near : ∀ z, z ∈ zs ↔ NM.Near ps.length (fa + mo) mo z) (k : Nat) : (∀ z ∈ zs, CF.brk (CF.look ps z) fs ≠ [k]) ↔ IdleP ps fs k := by
  have okA : ∀ f ∈ fs ++ fs2, f.Ok ps := fun f hf => (List.mem_append.mp hf).elim (ok f) (ok2 f)
  have m1 := CP.mod_1 (fs ++ fs2)
  constructor
  · intro h z hl e
    obtain ⟨z', nz, ez⟩ := CP.brk_near (F := fa) (M := mo) nd p1 p3 ok (fun f hf => by rw [← hfa]; exact CP.far_le (List.mem_append_left _ hf)) (fun f hf => by rw [← hmo]; exact CP.dvd4 (CP.mod4 (ok f hf)) (CP.mods okA) (CP.mod_le (List.mem_append_left _ hf))) (by omega) hl
    exact h z' ((near z').mpr nz) (ez.trans e)
  · intro h z hz
    exact h z (NM.near_len ((near z).mp hz))
def inK (z : List Int) : List L2.Key := z.map fun i => (Sum.inl i : L2.Key)
theorem inK_kV (z : List Int) : (inK z).map kV = z.map V.int := by
  unfold inK
  rw [List.map_map]
  rfl
def EsAt (H : Hp) (us : List Addr) (es : List (List L2.Key × Addr × V)) : Prop := Paired (fun p e => H p = some (.tup [.ref e.2.1, e.2.2]) ∧ H e.2.1 = some (.tup (e.1.map kV))) us es
theorem EsAt.mono {H H' : Hp} {us : List Addr} {es : List (List L2.Key × Addr × V)} (h : EsAt H us es) (s : ∀ b xs, H b = some (.tup xs) → H' b = some (.tup xs)) : EsAt H' us es := Paired.mapP h fun _ _ z => ⟨s _ _ z.1, s _ _ z.2⟩
theorem EsAt.snoc {H : Hp} {us : List Addr} {es : List (List L2.Key × Addr × V)} {u : Addr} {e : List L2.Key × Addr × V} (h : EsAt H us es) (h1 : H u = some (.tup [.ref e.2.1, e.2.2])) (h2 : H e.2.1 = some (.tup (e.1.map kV))) : EsAt H (us ++ [u]) (es ++ [e]) := Paired.snoc h ⟨h1, h2⟩
theorem keys_some {kvs : List (List L2.Key × V)} {ws : List (List Int)} (h : kvs.map (·.1) = ws.map inK) (z : List Int) : (valV kvs (inK z)).isSome = decide (z ∈ ws) := by
  rw [← valV_any]
  have : (kvs.any fun kv => decide (kv.1 = inK z)) = (kvs.map (·.1)).any fun k => decide (k = inK z) := by rw [List.any_map]; rfl
  rw [this, h, List.any_map, Bool.eq_iff_iff, List.any_eq_true, decide_eq_true_iff]
  constructor
  · rintro ⟨w, hw, e⟩
    rw [← inl_inj (of_decide_eq_true e)]
    exact hw
  · exact fun hz => ⟨z, hz, decide_eq_true rfl⟩
theorem keys_nodup {ws : List (List Int)} (h : ws.Nodup) : (ws.map inK).Nodup := List.Pairwise.map _ (fun a b ne e => ne (inl_inj e)) h
/-- what follows, fact by fact -/
def DueAt (ps : List Str) (fs gs : List CF.FD) (bs : List Bool) : Prop := bs.length = gs.length ∧ ∀ (n : Nat) (b : Bool) (f : CF.FD), bs[n]? = some b → gs[n]? = some f → (b = true ↔ CP.Imp ps fs [f])
theorem DueAt.snoc {ps : List Str} {fs gs : List CF.FD} {bs : List Bool} {b : Bool} {f : CF.FD} (h : DueAt ps fs gs bs) (hb : b = true ↔ CP.Imp ps fs [f]) : DueAt ps fs (gs ++ [f]) (bs ++ [b]) := by
  refine ⟨by simp [h.1], fun n b' f' e1 e2 => ?_⟩
  by_cases c : n < bs.length
  · rw [List.getElem?_append_left c] at e1
    rw [List.getElem?_append_left (by rw [← h.1]; exact c)] at e2
    exact h.2 n b' f' e1 e2
  · rw [List.getElem?_append_right (by omega)] at e1
    rw [List.getElem?_append_right (by rw [← h.1]; omega)] at e2
    have i0 : n - bs.length = 0 := by
      have := (List.getElem?_eq_some_iff.mp e1).1
      simp at this
      omega
    rw [i0] at e1
    rw [← h.1, i0] at e2
    simp at e1 e2
    subst e1; subst e2
    exact hb
theorem DueAt.uniq {ps : List Str} {fs gs : List CF.FD} {bs bs' : List Bool} (h : DueAt ps fs gs bs) (h' : DueAt ps fs gs bs') : bs = bs' := by
  refine List.ext_getElem? fun n => ?_
  by_cases c : n < gs.length
  · have c1 : n < bs.length := by rw [h.1]; exact c
    have c2 : n < bs'.length := by rw [h'.1]; exact c
    rw [List.getElem?_eq_getElem c1, List.getElem?_eq_getElem c2]
    have e1 := h.2 n _ _ (List.getElem?_eq_getElem c1) (List.getElem?_eq_getElem c)
    have e2 := h'.2 n _ _ (List.getElem?_eq_getElem c2) (List.getElem?_eq_getElem c)
    exact congrArg some (Bool.eq_iff_iff.mpr (e1.trans e2.symm))
  · rw [List.getElem?_eq_none (by rw [h.1]; omega), List.getElem?_eq_none (by rw [h'.1]; omega)]
theorem DueAt.all_ {ps : List Str} {fs gs : List CF.FD} {bs : List Bool} (h : DueAt ps fs gs bs) : bs.all id = true ↔ CP.Imp ps fs gs := by
  rw [imp_all, List.all_eq_true]
  constructor
  · intro a f hf
    obtain ⟨n, hn, rfl⟩ := List.mem_iff_getElem.mp hf
    have c1 : n < bs.length := by rw [h.1]; exact hn
    exact (h.2 n _ _ (List.getElem?_eq_getElem c1) (List.getElem?_eq_getElem hn)).mp (a _ (List.getElem_mem c1))
  · intro a b hb
    obtain ⟨n, hn, rfl⟩ := List.mem_iff_getElem.mp hb
    have c1 : n < gs.length := by rw [← h.1]; exact hn
    exact (h.2 n _ _ (List.getElem?_eq_getElem hn) (List.getElem?_eq_getElem c1)).mpr (a _ (List.getElem_mem c1))


theorem and_due {K : PySem.W.Frag} {σ : L2.St} {H : Hp} {dq : Addr} {due : List Bool} {b0 : Bool} {R : VK} (hσ : σ[12]? = some (some (.ref dq))) (hd : H dq = some (.lst (due.map V.bl))) (h : R (.bl (b0 && (!inV (.bl false) (due.map V.bl)))) H) : if b0 = true then tOp (rIn K true) (tC (V.bl false)) (tVar 12) σ H R else R (V.bl false) H := by
  cases b0 with
  | true => exact iteT ⟨_, hσ, dq, _, rfl, .inl (SqL.of hd), rfl, flat_bl2 _, h⟩
  | false => exact iteF h
/-- what a turn does with what it has made -/
def tTurn (K : PySem.W.Frag) (C Dc : Addr) : TS := C8.tCut (tIfS (tTest (tOp (rNeD K) (tLc (iList K (tVar 5)) (gName 16) tYes (tMeth Dc "follows" (spFollows K C Dc) [] E0 (tVar 6) (tCons (tCall (spFactText K) [] E0 (tCons (tVar 16) tNil)) tNil)) ([16])) (tVar 12))) (tRet (tC (V.bl false))) tNext) (C8.tCut (tIfS (tOr (tTest (tOp rNe (tMeth Dc "implies" (spImplies K C Dc) [] E0 (tVar 6) (tCons (tVar 7) tNil)) (tOp (rIn K true) (tC (V.bl false)) (tVar 12)))) (tTest (tOp rNe (tMeth Dc "implies" (spImplies K C Dc) [] E0 (tVar 7) (tCons (tVar 6) tNil)) (tVar 13)))) (tRet (tC (V.bl false))) tNext) (C8.tCut (tIfS (tOr (tTest (tOp rNe (tMeth Dc "same" (spSame K C Dc) [] E0 (tVar 6) (tCons (tVar 7) tNil)) (tAndV (tVar 13) (tOp (rIn K true) (tC (V.bl false)) (tVar 12))))) (tTest (tOp rNe (tMeth Dc "same" (spSame K C Dc) [] E0 (tVar 7) (tCons (tVar 6) tNil)) (tAndV (tVar 13) (tOp (rIn K true) (tC (V.bl false)) (tVar 12)))))) (tRet (tC (V.bl false))) tNext) (tSeq (tAsg (tMeth Dc "idle" (spIdle K C Dc) [] E0 (tVar 6) tNil) (gName 14)) (C8.tCut (tIfS (tTest (tOp (rNeD K) (tVar 14) (tCall (spLIdle K) [] E0 (tCons (tVar 3) (tCons (tVar 4) (tCons (tVar 10) (tCons (tVar 9) tNil))))))) (tRet (tC (V.bl false))) tNext) (tSeq (tDrop (tBM K "list" rAppend (tVar 14) (tCons (tC (V.int 99)) tNil))) (C8.tCut (tIfS (tTest (tOp (rNeD K) (tMeth Dc "idle" (spIdle K C Dc) [] E0 (tVar 6) tNil) (tSl (rSlL K) (tVar 14) tNoPart (tPart (tUn (rU fun i => V.int (-i)) (tC (V.int 1))))))) (tRet (tC (V.bl false))) tNext) (tIfS (tTest (tOp (rNeD K) (tLc (iOwn K Dc "lines" (tVar 6)) (gName 17) tYes (tMeth Dc "follows" (spFollows K C Dc) [] E0 (tVar 6) (tCons (tVar 17) tNil)) ([17])) (tLc (iList K (tVar 4)) (gName 16) tYes (tC (V.bl true)) ([16])))) (tRet (tC (V.bl false))) tNext)))))))
theorem turn_rest {K : PySem.W.Frag} {C Dc : Addr} {D : Ends} {G8 : Hp} {a p q fq oq o o2 rt rq kd bq dq : Addr} {i : Int} {b0 : Bool} {v14 v15 v16 v17 : Option V} {ps : List Str} {fs fs2 : List CF.FD} {qs qs2 ts : List Addr} {zs : List (List Int)} {kvs : List (List L2.Key × V)} {due : List Bool} {fa mo : Nat}
    (nms : CF.Names ps) (ok : ∀ f ∈ fs, f.Ok ps) (ok2 : ∀ f ∈ fs2, f.Ok ps) (f12 : fs.length ≤ 12) (len2 : fs2.length ≤ 3) (ask : Asked ps.length fs) (sm2 : ps.length = 3 → ∀ f ∈ fs2, f.far ≤ CF.farOf fs ∧ f.mod ≤ CF.modOf fs)
    (d1 : ConAt K C Dc G8 o ps fs) (d2 : ConAt K C Dc G8 o2 ps fs2) (hdue : G8 dq = some (.lst (due.map V.bl))) (dueAt : DueAt ps fs fs2 due) (hkd : G8 kd = some (.dT kvs)) (isK : ∀ z ∈ zs, (valV kvs (inK z)).isSome = CF.kept (CF.look ps z) fs) (hrq : G8 rq = some (.lst (ts.map V.ref))) (rows : RowsAt G8 ts zs) (lz : zs.length ≤ 600000)
    (hfa : CF.farOf (fs ++ fs2) = (fa : Int)) (hmo : CF.modOf (fs ++ fs2) = (mo : Int)) (near : ∀ z, z ∈ zs ↔ NM.Near ps.length (fa + mo) mo z)
    (ho : G8 oq = some (.lst (qs2.map V.ref))) (fat2 : CF.FAt G8 qs2 fs2) (hq : G8 q = some (.lst (ps.map V.str))) (hf : G8 fq = some (.lst (qs.map V.ref))) (fat : CF.FAt G8 qs fs) (hb0 : b0 = true ↔ CP.Imp ps fs2 fs)
    (hn : ∀ (rest : List (Option V)) H', rest.length = 16 → Same G8 H' → D.nx (some (.ref a) :: some (.ref p) :: rest) H') :
    tTurn K C Dc D [some (.ref a), some (.ref p), some (.int i), some (.ref q), some (.ref fq), some (.ref oq), some (.ref o), some (.ref o2), some (.ref rt), some (.ref rq), some (.ref kd), some (.ref bq), some (.ref dq), some (.bl b0), v14, v15, v16, v17] G8 := by
  have big : sizeLine = 16777216 := sizeLine_eq
  have nd := nms.2.1
  have pl1 := nms.2.2.1
  have pl3 := nms.2.2.2
  unfold tTurn
  -- follows
  refine ⟨fun σ' H' => σ' = [some (.ref a), some (.ref p), some (.int i), some (.ref q), some (.ref fq), some (.ref oq), some (.ref o), some (.ref o2), some (.ref rt), some (.ref rq), some (.ref kd), some (.ref bq), some (.ref dq), some (.bl b0), v14, v15, v16, v17] ∧ Same G8 H', ?_, ?_⟩
  · refine ⟨_, rfl, oq, rfl, ⟨_, SqL.of ho⟩, fun D3 hD3 => lc_it walk_list (fun j H' => Same G8 H' ∧ ∃ bs : List Bool, H' D3 = some (.lst (bs.map V.bl)) ∧ DueAt ps fs (fs2.take j) bs) ⟨Same.new hD3, [], upd_same, ⟨by simp, fun n b f e => by simp at e⟩⟩ (fun j H' _ z => SqL.of (z.1 _ _ ho)) ?_ ?_⟩
    · rintro j y K1 K2 hj ⟨s4, bs, h4, due'⟩ ⟨rfl, hx⟩
      obtain ⟨r, f, rfl, hff, hr0⟩ := ref_of fat2 hx
      have fm2 := List.mem_of_getElem? hff
      have tkf : fs2.take (j + 1) = fs2.take j ++ [f] := by rw [List.take_add_one, hff]; rfl
      obtain ⟨dx1, _, _, _, _, ho1, _⟩ := id (d1.same s4)
      refine ⟨rfl, _, rfl, o, dx1, _, rfl, ho1, rfl, _, rfl, r, f, ps, rfl, s4 _ _ hr0, ok2 f fm2, nms.1, fun K3 s5 => ⟨o, ps, fs, f, rfl, (d1.same s4).same s5, ok, ok2 f fm2, nms, ask_all rfl ask ok ok2 sm2 (fun g hg => .inl hg) (fun g hg => .inr (by rw [List.mem_singleton.mp hg]; exact fm2)), fun b K4 s6 hb => ⟨_, (s5.trans s6) _ _ h4, ?_, (s4.trans (s5.trans s6)).put hD3, bs ++ [b], ?_, ?_⟩⟩⟩
      · rw [List.length_map, due'.1, List.length_take]
        omega
      · rw [List.map_append]; exact upd_same
      · rw [tkf]
        exact due'.snoc hb
    rintro M1 ⟨s4, bs, h4, due'⟩
    rw [List.length_map, fat2.len, List.take_length] at due'
    have eb := due'.uniq dueAt
    subst eb
    refine ⟨_, rfl, .list (bs.map PyData.bool), .list (bs.map PyData.bool), .lst (SqL.of h4) (bls_dps _), .lst (SqL.of (s4 _ _ hdue)) (bls_dps _), shaped_bls _, shaped_bls _, _, rfl, ?_⟩
    rw [ne_refl2 (shaped_bls _)]
    exact iteF ⟨rfl, s4⟩
  rintro σ' G9 ⟨rfl, s9⟩
  -- implies
  have askA := ask_all (gs := fs) (hs := fs2) rfl ask ok ok2 sm2 (fun g hg => .inl hg) (fun g hg => .inr hg)
  have dueI : (!inV (.bl false) (due.map V.bl)) = true ↔ CP.Imp ps fs fs2 := by rw [no_false]; exact dueAt.all_
  refine ⟨fun σ' H' => σ' = [some (.ref a), some (.ref p), some (.int i), some (.ref q), some (.ref fq), some (.ref oq), some (.ref o), some (.ref o2), some (.ref rt), some (.ref rq), some (.ref kd), some (.ref bq), some (.ref dq), some (.bl b0), v14, v15, v16, v17] ∧ Same G8 H', ?_, ?_⟩
  · obtain ⟨dx1, _, _, _, _, ho1, _⟩ := id (d1.same s9)
    refine ⟨_, rfl, o, dx1, _, rfl, ho1, rfl, _, rfl, o, o2, ps, fs, fs2, rfl, d1.same s9, d2.same s9, ok, ok2, nms, askA, fun b K1 s1 hb => ?_⟩
    have s91 := s9.trans s1
    have eb : b = (!inV (.bl false) (due.map V.bl)) := Bool.eq_iff_iff.mpr (hb.trans dueI.symm)
    refine ⟨_, rfl, dq, _, rfl, .inl (SqL.of (s91 _ _ hdue)), rfl, flat_bl2 _, rfl, _, rfl, ite2 (fun c => ?_) (fun _ => ?_)⟩
    · rw [eb] at c
      simp at c
    obtain ⟨dx2, _, _, _, _, ho2, _⟩ := id (d2.same s91)
    refine ⟨_, rfl, o2, dx2, _, rfl, ho2, rfl, _, rfl, o2, o, ps, fs2, fs, rfl, d2.same s91, d1.same s91, ok2, ok, nms, askA.symm, fun b' K2 s2 hb' => ?_⟩
    have eb' : b' = b0 := Bool.eq_iff_iff.mpr (hb'.trans hb0.symm)
    refine ⟨_, rfl, rfl, _, rfl, ite2 (fun c => ?_) (fun _ => ⟨rfl, s91.trans s2⟩)⟩
    rw [eb'] at c
    simp at c
  rintro σ' G10 ⟨rfl, s10⟩
  -- same
  refine ⟨fun σ' H' => σ' = [some (.ref a), some (.ref p), some (.int i), some (.ref q), some (.ref fq), some (.ref oq), some (.ref o), some (.ref o2), some (.ref rt), some (.ref rq), some (.ref kd), some (.ref bq), some (.ref dq), some (.bl b0), v14, v15, v16, v17] ∧ Same G8 H', ?_, ?_⟩
  · obtain ⟨dx1, _, _, _, _, ho1, _⟩ := id (d1.same s10)
    refine ⟨_, rfl, o, dx1, _, rfl, ho1, rfl, _, rfl, o, o2, ps, fs, fs2, rfl, d1.same s10, d2.same s10, ok, ok2, nms, askA, fun b K1 s1 hb => ?_⟩
    have s91 := s10.trans s1
    have both : (b0 && (!inV (.bl false) (due.map V.bl))) = true ↔ (CP.Imp ps fs fs2 ∧ CP.Imp ps fs2 fs) := by
      rw [Bool.and_eq_true, hb0, dueI]
      exact ⟨fun h => ⟨h.2, h.1⟩, fun h => ⟨h.2, h.1⟩⟩
    have eb : b = (b0 && (!inV (.bl false) (due.map V.bl))) := Bool.eq_iff_iff.mpr (hb.trans both.symm)
    refine ⟨_, rfl, _, rfl, and_due rfl (s91 _ _ hdue) ⟨rfl, _, rfl, ite2 (fun c => ?_) (fun _ => ?_)⟩⟩
    · rw [eb] at c
      simp at c
    obtain ⟨dx2, _, _, _, _, ho2, _⟩ := id (d2.same s91)
    refine ⟨_, rfl, o2, dx2, _, rfl, ho2, rfl, _, rfl, o2, o, ps, fs2, fs, rfl, d2.same s91, d1.same s91, ok2, ok, nms, askA.symm, fun b' K2 s2 hb' => ?_⟩
    have eb' : b' = (b0 && (!inV (.bl false) (due.map V.bl))) := Bool.eq_iff_iff.mpr (hb'.trans (And.comm.trans both.symm))
    refine ⟨_, rfl, _, rfl, and_due rfl ((s91.trans s2) _ _ hdue) ⟨rfl, _, rfl, ite2 (fun c => ?_) (fun _ => ⟨rfl, s91.trans s2⟩)⟩⟩
    rw [eb'] at c
    simp at c
  rintro σ' G11 ⟨rfl, s11⟩
  -- idle
  obtain ⟨dx1, _, _, _, _, ho11, _⟩ := id (d1.same s11)
  refine ⟨_, rfl, o, dx1, _, rfl, ho11, rfl, o, ps, fs, rfl, d1.same s11, ok, f12, nd, ask, fun g tq G12 s12 htn gk htq => ?_⟩
  have s812 := s11.trans s12
  have idl := fun k => idle_rows (k := k) nd pl1 pl3 ok ok2 hfa hmo near
  refine ⟨fun σ' H' => σ' = [some (.ref a), some (.ref p), some (.int i), some (.ref q), some (.ref fq), some (.ref oq), some (.ref o), some (.ref o2), some (.ref rt), some (.ref rq), some (.ref kd), some (.ref bq), some (.ref dq), some (.bl b0), some (.ref tq), v15, v16, v17] ∧ Same G12 H', ?_, ?_⟩
  · refine ⟨_, rfl, _, rfl, _, rfl, _, rfl, _, rfl, q, fq, kd, rq, qs, ts, ps, fs, zs, rfl, SqL.of (s812 _ _ hq), nd, s812 _ _ hf, fat.same s812, ok, by omega, ⟨kvs, s812 _ _ hkd, isK⟩, s812 _ _ hrq, rows.same s812, lz, fun z hz => NM.near_len ((near z).mp hz), fun g' r' K1 s1 _ gk' hr' => ?_⟩
    have eg : (List.range fs.length).filter g' = (List.range fs.length).filter g := List.filter_congr fun k hk => by
      have hk' := List.mem_range.mp hk
      rw [Bool.eq_iff_iff, gk k hk', gk' k hk']
      exact idl k
    rw [eg] at hr'
    have ei : ((List.range fs.length).filter g).map (fun k => V.int (k : Nat)) = (((List.range fs.length).filter g).map fun k : Nat => (k : Int)).map V.int := by rw [List.map_map]; rfl
    rw [ei] at hr'
    have htq' := s1 _ _ htq
    rw [ei] at htq'
    have sh := ke_shaped_ints (((List.range fs.length).filter g).map fun k : Nat => (k : Int))
    refine ⟨.list _, .list _, .lst (SqL.of htq') (ints_dps _), .lst (SqL.of hr') (ints_dps _), sh, sh, _, rfl, ?_⟩
    rw [ne_refl2 sh]
    exact iteF ⟨rfl, s1⟩
  rintro σ' G13 ⟨rfl, s13⟩
  have htq13 := s13 _ _ htq
  have fl := List.length_filter_le g (List.range fs.length)
  rw [List.length_range] at fl
  -- told.append(99)
  refine ⟨_, rfl, .inl ⟨rfl, _, SqL.of htq13⟩, tq, _, _, rfl, rfl, htq13, by rw [List.length_map, big]; omega, ?_⟩
  have sX : Same G11 (upd G13 tq (.lst (((List.range fs.length).filter g).map (fun k => V.int (k : Nat)) ++ [V.int 99]))) := fun b u e => (upd_ne (fun z => by rw [z, htn] at e; cases e)).trans ((s12.trans s13) _ _ e)
  have htX : upd G13 tq (.lst (((List.range fs.length).filter g).map (fun k => V.int (k : Nat)) ++ [V.int 99])) tq = some (.lst (((List.range fs.length).filter g).map (fun k => V.int (k : Nat)) ++ [V.int 99])) := upd_same
  generalize upd G13 tq (.lst (((List.range fs.length).filter g).map (fun k => V.int (k : Nat)) ++ [V.int 99])) = GX at sX htX ⊢
  have s8X := s11.trans sX
  -- idle again
  refine ⟨fun σ' H' => σ' = [some (.ref a), some (.ref p), some (.int i), some (.ref q), some (.ref fq), some (.ref oq), some (.ref o), some (.ref o2), some (.ref rt), some (.ref rq), some (.ref kd), some (.ref bq), some (.ref dq), some (.bl b0), some (.ref tq), v15, v16, v17] ∧ Same G8 H', ?_, ?_⟩
  · refine ⟨_, rfl, o, dx1, _, rfl, sX _ _ ho11, rfl, o, ps, fs, rfl, d1.same s8X, ok, f12, nd, ask, fun g' r' K1 s1 _ gk' hr' => ?_⟩
    have eg : (List.range fs.length).filter g' = (List.range fs.length).filter g := List.filter_congr fun k hk => by
      have hk' := List.mem_range.mp hk
      rw [Bool.eq_iff_iff, gk k hk', gk' k hk']
    rw [eg] at hr'
    refine ⟨_, rfl, _, rfl, _, rfl, tq, _, rfl, SqL.of (s1 _ _ htX), fun c9 hc9 => ?_⟩
    rw [cut_last]
    have ei : ((List.range fs.length).filter g).map (fun k => V.int (k : Nat)) = (((List.range fs.length).filter g).map fun k : Nat => (k : Int)).map V.int := by rw [List.map_map]; rfl
    rw [ei] at hr' ⊢
    have sh := ke_shaped_ints (((List.range fs.length).filter g).map fun k : Nat => (k : Int))
    have s2 := Same.new (o := .lst ((((List.range fs.length).filter g).map fun k : Nat => (k : Int)).map V.int)) hc9
    refine ⟨.list _, .list _, .lst (SqL.of (s2 _ _ hr')) (ints_dps _), .lst (SqL.of upd_same) (ints_dps _), sh, sh, _, rfl, ?_⟩
    rw [ne_refl2 sh]
    exact iteF ⟨rfl, s8X.trans (s1.trans s2)⟩
  rintro σ' G14 ⟨rfl, s14⟩
  -- every line follows
  obtain ⟨dx2, pt2, ln2, ft2, os2, ho14, hpt2, hln2, _⟩ := id (d1.same s14)
  refine ⟨_, rfl, o, ln2, dx2, _, _, rfl, ho14, rfl, SqT.of hln2, fun D3 hD3 => lc_it walk_tup (fun j H' => Same G14 H' ∧ H' D3 = some (.lst (((fs.take j).map fun _ => true).map V.bl))) ⟨Same.new hD3, upd_same⟩ (fun j H' _ z => SqT.of (z.1 _ _ hln2)) ?_ ?_⟩
  · rintro j y K1 K2 hj ⟨s4, h4⟩ ⟨rfl, hx⟩
    rw [List.getElem?_map, List.getElem?_map] at hx
    obtain ⟨z0, hz0, rfl⟩ := Option.map_eq_some_iff.mp hx
    obtain ⟨f, hff, rfl⟩ := Option.map_eq_some_iff.mp hz0
    have fm := List.mem_of_getElem? hff
    refine ⟨rfl, _, rfl, o, dx2, _, rfl, s4 _ _ ho14, rfl, _, rfl, o, ps, fs, f, rfl, d1.same (s14.trans s4), ok, ok f fm, nms, ask_all rfl ask ok ok2 sm2 (fun g hg => .inl hg) (fun g hg => .inl (by rw [List.mem_singleton.mp hg]; exact fm)), fun b K3 s5 hb => ?_⟩
    have bt : b = true := hb.mpr fun z9 _ hk => by
      have h9 := List.all_eq_true.mp hk f fm
      show CF.kept (CF.look ps z9) [f] = true
      simp only [CF.kept, List.all_cons, List.all_nil, Bool.and_true]
      exact h9
    subst bt
    refine ⟨_, s5 _ _ h4, ?_, (s4.trans s5).put hD3, ?_⟩
    · rw [List.length_map, List.length_map, List.length_take]
      omega
    · rw [take_map hff, List.map_append]
      exact upd_same
  rintro K1 ⟨s4, h4⟩
  rw [List.length_map, List.length_map, List.take_length] at h4
  have hf4 := (s14.trans s4) _ _ hf
  refine ⟨_, rfl, fq, rfl, ⟨_, SqL.of hf4⟩, fun D4 hD4 => lc_it (te := tC (.bl true)) (tt := tYes) walk_list (fun j H' => Same K1 H' ∧ H' D4 = some (.lst (((fs.take j).map fun _ => true).map V.bl))) ⟨Same.new hD4, upd_same⟩ (fun j H' _ z => SqL.of (z.1 _ _ hf4)) ?_ ?_⟩
  · rintro j y K2 K3 hj ⟨s5, h5⟩ ⟨rfl, hx⟩
    obtain ⟨r, f, rfl, hff, hr0⟩ := ref_of (fat.same (s14.trans s4)) hx
    refine ⟨rfl, _, h5, ?_, s5.put hD4, ?_⟩
    · rw [List.length_map, List.length_map, List.length_take, big]
      omega
    · rw [take_map hff, List.map_append]
      exact upd_same
  rintro K2 ⟨s5, h5⟩
  rw [List.length_map, fat.len, List.take_length] at h5
  refine ⟨.list _, .list _, .lst (SqL.of (s5 _ _ h4)) (bls_dps _), .lst (SqL.of h5) (bls_dps _), shaped_bls _, shaped_bls _, _, rfl, ?_⟩
  rw [ne_refl2 (shaped_bls _)]
  exact iteF (hn _ _ rfl ((s14.trans s4).trans s5))
end
end K05
end
section
set_option Elab.async false
set_option linter.all false
set_option maxRecDepth 100000
set_option maxHeartbeats 4000000
namespace K05
open PySem PySem.Spec PyProof.Rows L2
open PySem.W (ke_shaped_ints)
local macro_rules | `(tactic| walk_at "go") => `(tactic| first | refine ⟨_, rfl, ?_⟩ | refine .inl ⟨_, rfl, ?_⟩ | refine ⟨_, _, rfl, rfl, (by first | (show (0 : Int) < _; decide) | exact Or.inl ⟨by decide, by decide⟩ | exact Or.inr ⟨by decide, by decide⟩), ?_⟩ | refine ⟨_, _, rfl, rfl, ?_⟩)
section
variable {P : Program} {w : World} {K : PySem.W.Frag} {mg : Str → Option Value} {base : Heap}

def spLaw (K : PySem.W.Frag) : Sp := fun vs H Q _ => ∃ (a : Addr) (ns : List Int), vs = [.ref a] ∧ SqL K H a (ns.map V.int) ∧ ∀ H', Q (.bl true) H'
abbrev s_law : Stmt := topS 73
theorem sc_law : FnScope ["script", "pen", "turn", "pointers", "facts", "others", "one", "two", "room", "rows", "kept", "both", "due", "back", "told", "row", "fact", "line"] ["script"] (defScope s_law) := ⟨rfl, rfl, rfl, by decide +kernel, rfl, by decide +kernel, by decide +kernel⟩
theorem law_red {C Dc fI : Addr} (T : Txt mg) (Z : TxtL mg) (W : ItW P w K mg base Dc fI)
    (C__law_begun_pen : Cal P w K mg base 1 "_law_begun_pen" ["script"] (spBegun K))
    (C__law_draw : Cal P w K mg base 1 "_law_draw" ["pen", "span"] spDraw)
    (C__law_pick : Cal P w K mg base 2 "_law_pick" ["pen", "options"] (spPick K))
    (C__law_new_names : Cal P w K mg base 3 "_law_new_names" ["pen", "many"] (spNewNames K))
    (C__law_asked_facts : Cal P w K mg base 6 "_law_asked_facts" ["pen", "pointers", "many"] (spAsked K))
    (C__law_other_facts : Cal P w K mg base 4 "_law_other_facts" ["pen", "pointers", "facts"] (spOther K))
    (C__law_fact_text : Cal P w K mg base 2 "_law_fact_text" ["fact"] (spFactText K))
    (C__law_facts_text : Cal P w K mg base 3 "_law_facts_text" ["facts"] spFactsText)
    (C__law_room : Cal P w K mg base 3 "_law_room" ["pointers", "programs", "facts", "functions"] (spRoom K))
    (C__law_spreads : Cal P w K mg base 1 "_law_spreads" ["k", "gap", "modulus"] (spSpreads K))
    (C__law_keeps : Cal P w K mg base 2 "_law_keeps" ["pointers", "facts", "places"] (spLKeeps K))
    (C__law_idle : Cal P w K mg base 3 "_law_idle" ["pointers", "facts", "kept_rows", "rows"] (spLIdle K))
    (M_follows : MthX P w K mg base CX0 12 Dc "follows" ["self", "line"] (spFollows K C Dc)) (M_implies : MthX P w K mg base CX0 7 Dc "implies" ["self", "other"] (spImplies K C Dc)) (M_same : MthX P w K mg base CX0 8 Dc "same" ["self", "other"] (spSame K C Dc)) (M_idle : MthX P w K mg base CX0 7 Dc "idle" ["self"] (spIdle K C Dc))
    (M_Contract : Mkc P w K mg base 8 "Contract" Dc ["self", "pointers", "text"] (spContractInit K C Dc))
    (A : Around) (f : Addr) (cdv : Value) (outer : List Env) (s : Shared) (H : Hp) (vs : List V) (Q : VK) (E : XK) (hr : Room 16 (A.deeper (envOfC "law" (defScope s_law) s.heap.objs.size f cdv))) (h : spLaw K vs H Q E) :
    ∃ t, PSs (cxOf CX0 P w K mg base ["script", "pen", "turn", "pointers", "facts", "others", "one", "two", "room", "rows", "kept", "both", "due", "back", "told", "row", "fact", "line"] "law" (defScope s_law) f cdv A outer s H E).nox (defBody s_law) t ∧ t { nx := fun _ H' => Q .non H', rt := Q } (start ["script", "pen", "turn", "pointers", "facts", "others", "one", "two", "room", "rows", "kept", "both", "due", "back", "told", "row", "fact", "line"] vs) H := by
  have hu := hu_of hr
  have hu2 : (A.deeper (envOfC "law" (defScope s_law) s.heap.objs.size f cdv)).in1.in1.units < cLine := by
    have := hr.un
    show (A.deeper (envOfC "law" (defScope s_law) s.heap.objs.size f cdv)).units + 1 + 1 < cLine
    omega
  obtain ⟨a, ns, rfl, hS, k⟩ := h
  refine ⟨_, (pss_cons (ps_set (i := 1) sc_law.nd rfl (by first | exact Or.inl rfl | exact Or.inr rfl) (pe_cal C__law_begun_pen (hr.mono (by decide)) rfl (pa_cons (pv 0) pa_nil)))
      (pss_cons (ps_for PassesOwn.never rfl (pi_range1 rfl T.f_range (pa_cons pe_int pa_nil)) (pg_name (i := 2) sc_law.nd rfl (by first | exact Or.inl rfl | exact Or.inr rfl)) (pss_cons (ps_set (i := 3) sc_law.nd rfl (by first | exact Or.inl rfl | exact Or.inr rfl) (pe_cal C__law_new_names (hr.mono (by decide)) rfl (pa_cons (pv 1) (pa_cons (pe_cal C__law_pick (hr.mono (by decide)) rfl (pa_cons (pv 1) (pa_cons (pe_lst (pa_cons pe_int (pa_cons pe_int (pa_cons pe_int (pa_cons pe_int (pa_cons pe_int (pa_cons pe_int pa_nil))))))) pa_nil))) pa_nil))))
      (pss_cons (ps_set (i := 4) sc_law.nd rfl (by first | exact Or.inl rfl | exact Or.inr rfl) (pe_cal C__law_asked_facts (hr.mono (by decide)) rfl (pa_cons (pv 1) (pa_cons (pv 3) (pa_cons (pe_cal C__law_draw (hr.mono (by decide)) rfl (pa_cons (pv 1) (pa_cons pe_int pa_nil))) pa_nil)))))
      (pss_cons (ps_set (i := 5) sc_law.nd rfl (by first | exact Or.inl rfl | exact Or.inr rfl) (pe_cal C__law_other_facts (hr.mono (by decide)) rfl (pa_cons (pv 1) (pa_cons (pv 3) (pa_cons (pv 4) pa_nil)))))
      (pss_cons (ps_asg (pe_tup (pa_cons (pe_mkc M_Contract (hr.mono (by decide)) rfl (pa_cons (pv 3) (pa_cons (pe_cal C__law_facts_text (hr.mono (by decide)) rfl (pa_cons (pv 4) pa_nil)) pa_nil))) (pa_cons (pe_mkc M_Contract (hr.mono (by decide)) rfl (pa_cons (pe_callTy call_tuple_of (by rfl) T.f_tuple (by decide +kernel) (pa_cons (pv 3) pa_nil)) (pa_cons (pe_cal C__law_facts_text (hr.mono (by decide)) rfl (pa_cons (pv 5) pa_nil)) pa_nil))) pa_nil))) (pg_tup rfl (pgs_cons (pg_name (i := 6) sc_law.nd rfl (by first | exact Or.inl rfl | exact Or.inr rfl)) (pgs_cons (pg_name (i := 7) sc_law.nd rfl (by first | exact Or.inl rfl | exact Or.inr rfl)) pgs_nil))))
      (pss_cons (ps_set (i := 8) sc_law.nd rfl (by first | exact Or.inl rfl | exact Or.inr rfl) (pe_cal C__law_room (hr.mono (by decide)) rfl (pa_cons (pv 3) (pa_cons (pe_lst pa_nil) (pa_cons (pe_op op_cat (pv 4) (pv 5)) (pa_cons pe_dnewK pa_nil))))))
      (pss_cons (ps_set (i := 9) sc_law.nd rfl (by first | exact Or.inl rfl | exact Or.inr rfl) (pe_cal C__law_spreads (hr.mono (by decide)) rfl (pa_cons (pe_callB call_len (by rfl) T.f_len PySem.boot_len (pa_cons (pv 3) pa_nil)) (pa_cons (pe_ix ix_tup (pv 8) pe_int (fun _ _ => rfl)) (pa_cons (pe_ix ix_tup (pv 8) pe_int (fun _ _ => rfl)) pa_nil)))))
      (pss_cons (ps_set (i := 10) sc_law.nd rfl (by first | exact Or.inl rfl | exact Or.inr rfl) (pe_callTy (DT.call_dictT rfl hu2) (by rfl) Z.f_dict (by decide +kernel) (pa_cons (pe_lc (own := [("row", 15)]) (g := gName 15) rfl sc_law.nd (pi_list (pv 9)) (blkOk_by (N := ["script", "pen", "turn", "pointers", "facts", "others", "one", "two", "room", "rows", "kept", "both", "due", "back", "told", "row", "fact", "line"]) (sc := defScope s_law) (by decide +kernel)) (fun _ _ _ _ _ => (pg_name (i := 15) sc_law.nd rfl (Or.inl rfl))) (fun _ _ _ _ _ => (pts_one (pt_val (pe_cal C__law_keeps (hr.mono (by decide)) rfl (pa_cons (pv 3) (pa_cons (pv 4) (pa_cons (pv 15) pa_nil))))))) (fun _ _ _ _ _ => (pe_tup (pa_cons (pv 15) (pa_cons pe_bl pa_nil))))) pa_nil)))
      (pss_cons (ps_setLc (i := 11) (own := [("row", 15)]) (g := gName 15) rfl sc_law.nd rfl rfl (sw_true rfl rfl rfl (by decide +kernel)) (pi_list (pv 9)) (blkOk_by (N := ["script", "pen", "turn", "pointers", "facts", "others", "one", "two", "room", "rows", "kept", "both", "due", "back", "told", "row", "fact", "line"]) (sc := defScope s_law) (by decide +kernel)) (fun _ _ _ _ _ => (pg_name (i := 15) sc_law.nd rfl (Or.inl rfl))) (fun _ _ _ _ _ => (pts_one (pt_val (pe_cal C__law_keeps (hr.mono (by decide)) rfl (pa_cons (pv 3) (pa_cons (pv 5) (pa_cons (pv 15) pa_nil))))))) (fun _ _ _ _ _ => (pv 15)))
      (pss_cons (ps_setLc (i := 12) (own := [("fact", 16)]) (g := gName 16) (tt := tYes) (te := tOp (rEqD K) (tLockE (tLc (iKeys (tVar 10)) (gName 15) (tNot (tB (tCall (spLKeeps K) [] E0 (tCons (tVar 3) (tCons (tLst (tCons (tVar 16) tNil)) (tCons (tVar 15) tNil)))))) (tVar 15) [15])) (tLst tNil)) rfl sc_law.nd rfl rfl (sw_true rfl rfl rfl (by decide +kernel)) (pi_list (pv 5)) (blkOk_by (N := ["script", "pen", "turn", "pointers", "facts", "others", "one", "two", "room", "rows", "kept", "both", "due", "back", "told", "row", "fact", "line"]) (sc := defScope s_law) (by decide +kernel)) (fun _ _ _ _ _ => (pg_name (i := 16) sc_law.nd rfl (by first | exact Or.inl rfl | exact Or.inr rfl))) (fun _ _ _ _ _ => pts_nil) (fun _ _ _ _ _ => (pe_cmpR (op_eqD hr.units) (pe_lock (by
        refine pe_lc (own := [("row", 15)]) (g := gName 15) (tt := tNot (tB (tCall (spLKeeps K) [] E0 (tCons (tVar 3) (tCons (tLst (tCons (tVar 16) tNil)) (tCons (tVar 15) tNil)))))) (te := tVar 15) (wi := iKeys (tVar 10)) rfl ?_ ?_ ?_ ?_ ?_ ?_
        · exact sc_law.nd
        · exact pi_keys (pv 10)
        · exact blkOk_by (by rfl)
        · exact fun _ _ _ _ _ => pg_name (i := 15) sc_law.nd rfl (Or.inl rfl)
        · exact fun _ _ _ _ _ => pts_one (pt_not (pt_val (pe_cal C__law_keeps (hr.mono (by decide)) rfl (pa_cons (pv 3) (pa_cons (pe_lst (pa_cons (pv 16) pa_nil)) (pa_cons (pv 15) pa_nil))))))
        · exact fun _ _ _ _ _ => (pv 15))) (pe_lst pa_nil) (nomark _))))
      (pss_cons (ps_set (i := 13) sc_law.nd rfl (by first | exact Or.inl rfl | exact Or.inr rfl) (pe_cmpR (op_eqD hr.units) (pe_lc (own := [("row", 15)]) (g := gName 15) rfl sc_law.nd (pi_list (pv 11)) (blkOk_by (N := ["script", "pen", "turn", "pointers", "facts", "others", "one", "two", "room", "rows", "kept", "both", "due", "back", "told", "row", "fact", "line"]) (sc := defScope s_law) (by decide +kernel)) (fun _ _ _ _ _ => (pg_name (i := 15) sc_law.nd rfl (Or.inl rfl))) (fun _ _ _ _ _ => (pts_one (pt_cmp (pc_dnotin hu (pv 15) (pv 10))))) (fun _ _ _ _ _ => (pv 15))) (pe_lst pa_nil) (nomark _)))
      (C8.pss_cut (ps_if (pt_cmpR (op_neD hr.units) (pe_lc (own := [("fact", 16)]) (g := gName 16) (tt := tYes) rfl sc_law.nd (pi_list (pv 5)) (blkOk_by (N := ["script", "pen", "turn", "pointers", "facts", "others", "one", "two", "room", "rows", "kept", "both", "due", "back", "told", "row", "fact", "line"]) (sc := defScope s_law) (by decide +kernel)) (fun _ _ _ _ _ => (pg_name (i := 16) sc_law.nd rfl (Or.inl rfl))) (fun _ _ _ _ _ => pts_nil) (fun _ _ _ _ _ => (pe_mth M_follows (pv 6) (hr.mono (by decide)) pass0 (pa_cons (pe_cal C__law_fact_text (hr.mono (by decide)) rfl (pa_cons (pv 16) pa_nil)) pa_nil)))) (pv 12) (nomark _)) (pss_one (ps_ret pe_bl)) pss_nil)
      (C8.pss_cut (ps_if (PW.pt (pw_or (pt_cmpR op_ne (pe_mth M_implies (pv 6) (hr.mono (by decide)) pass0 (pa_cons (pv 7) pa_nil)) (pe_cmpR op_notIn_seq pe_bl (pv 12) (by rfl)) (nomark _)) (pw_or1 (pt_cmpR op_ne (pe_mth M_implies (pv 7) (hr.mono (by decide)) pass0 (pa_cons (pv 6) pa_nil)) (pv 13) (nomark _))))) (pss_one (ps_ret pe_bl)) pss_nil)
      (C8.pss_cut (ps_if (PW.pt (pw_or (pt_cmpR op_ne (pe_mth M_same (pv 6) (hr.mono (by decide)) pass0 (pa_cons (pv 7) pa_nil)) (pe_and (pv 13) (pe_one (pe_cmpR op_notIn_seq pe_bl (pv 12) (by rfl)))) (nomark _)) (pw_or1 (pt_cmpR op_ne (pe_mth M_same (pv 7) (hr.mono (by decide)) pass0 (pa_cons (pv 6) pa_nil)) (pe_and (pv 13) (pe_one (pe_cmpR op_notIn_seq pe_bl (pv 12) (by rfl)))) (nomark _))))) (pss_one (ps_ret pe_bl)) pss_nil)
      (pss_cons (ps_set (i := 14) sc_law.nd rfl (by first | exact Or.inl rfl | exact Or.inr rfl) (pe_mth0 M_idle (pv 6) (hr.mono (by decide)) pass0))
      (C8.pss_cut (ps_if (pt_cmpR (op_neD hr.units) (pv 14) (pe_cal C__law_idle (hr.mono (by decide)) rfl (pa_cons (pv 3) (pa_cons (pv 4) (pa_cons (pv 10) (pa_cons (pv 9) pa_nil))))) (nomark _)) (pss_one (ps_ret pe_bl)) pss_nil)
      (pss_cons (ps_expr (pe_bm PySem.F.plainAttrs_list PySem.F.slot_list_append PySem.F.type_list_append mt_append (pv 14) (pa_cons pe_int pa_nil)))
      (C8.pss_cut (ps_if (pt_cmpR (op_neD hr.units) (pe_mth0 M_idle (pv 6) (hr.mono (by decide)) pass0) (pe_slice sl_list (pv 14) po_none (po_some (pe_un un_neg pe_int))) (nomark _)) (pss_one (ps_ret pe_bl)) pss_nil)
      (pss_one (ps_if (pt_cmpR (op_neD hr.units) (pe_lc (own := [("line", 17)]) (g := gName 17) (tt := tYes) rfl sc_law.nd (pi_own (pv 6) W.iC W.iF W.IR (hr.mono (by decide))) (blkOk_by (N := ["script", "pen", "turn", "pointers", "facts", "others", "one", "two", "room", "rows", "kept", "both", "due", "back", "told", "row", "fact", "line"]) (sc := defScope s_law) (by decide +kernel)) (fun _ _ _ _ _ => (pg_name (i := 17) sc_law.nd rfl (Or.inl rfl))) (fun _ _ _ _ _ => pts_nil) (fun _ _ _ _ _ => (pe_mth M_follows (pv 6) (hr.mono (by decide)) pass0 (pa_cons (pv 17) pa_nil)))) (pe_lc (own := [("fact", 16)]) (g := gName 16) (tt := tYes) (te := tC (.bl true)) rfl sc_law.nd (pi_list (pv 4)) (blkOk_by (N := ["script", "pen", "turn", "pointers", "facts", "others", "one", "two", "room", "rows", "kept", "both", "due", "back", "told", "row", "fact", "line"]) (sc := defScope s_law) (by decide +kernel)) (fun _ _ _ _ _ => (pg_name (i := 16) sc_law.nd rfl (Or.inl rfl))) (fun _ _ _ _ _ => pts_nil) (fun _ _ _ _ _ => pe_bl)) (nomark _)) (pss_one (ps_ret pe_bl)) pss_nil))))))))))))))))))))
      (pss_one (ps_ret pe_bl)))), ?_⟩
  -- pen
  refine ⟨_, rfl, a, ns, rfl, hS, fun p l H1 _ _ s1 pen => ?_⟩
  refine ⟨2, rfl, by decide, by decide, for_it walk_range (fun i σ H2 => ∃ (rest : List (Option V)) (t : Int), rest.length = 16 ∧ σ = some (.ref a) :: some (.ref p) :: rest ∧ Pen H2 p l t ∧ t ≤ 1000 * i) ⟨_, 0, rfl, rfl, pen, by simp⟩ (fun _ _ _ _ _ => True.intro) ?hs ?hd⟩
  case hd =>
    rintro σ H2 ⟨rest, t, hlen, rfl, pen2, ht⟩
    exact k _
  rintro i x σ H0 H0' hi ⟨rest, t, hlen, rfl, pen, ht⟩ ⟨rfl, rfl⟩
  obtain ⟨v2, v3, v4, v5, v6, v7, v8, v9, v10, v11, v12, v13, v14, v15, v16, v17, rfl⟩ : ∃ v2 v3 v4 v5 v6 v7 v8 v9 v10 v11 v12 v13 v14 v15 v16 v17, rest = [v2, v3, v4, v5, v6, v7, v8, v9, v10, v11, v12, v13, v14, v15, v16, v17] := by
    match rest, hlen with
    | [v2, v3, v4, v5, v6, v7, v8, v9, v10, v11, v12, v13, v14, v15, v16, v17], _ => exact ⟨v2, v3, v4, v5, v6, v7, v8, v9, v10, v11, v12, v13, v14, v15, v16, v17, rfl⟩
  have i2 : i < 2 := hi
  have big : sizeLine = 16777216 := sizeLine_eq
  have np : ∀ {Ha : Hp} {ta : Int} {r : Addr}, Pen Ha p l ta → Ha r = none → r ≠ p := fun {Ha ta r} pn h e => by
    obtain ⟨o, ho⟩ := pn.at_
    rw [e, ho] at h
    cases h
  -- pointers
  refine ⟨_, rfl, _, rfl, by show 6 ≤ sizeLine; decide, fun L0 hL0 => ?_⟩
  refine ⟨p, l, L0, t, _, rfl, pen.new hL0, by omega, np pen hL0, .inl (SqL.of upd_same), by show 0 < 6; decide, by show 6 ≤ 1000000; decide, fun j0 w0 H1 t1 hv1 pen1 g1 g2 b1 => ?_⟩
  obtain ⟨many, rfl, many1⟩ : ∃ many : Int, w0 = .int many ∧ 1 ≤ many ∧ many ≤ 3 := by
    have hm := List.mem_of_getElem? hv1
    simp only [List.mem_cons, List.not_mem_nil, or_false] at hm
    rcases hm with rfl | rfl | rfl | rfl | rfl | rfl <;> exact ⟨_, rfl, by decide, by decide⟩
  refine ⟨p, l, t1, many, rfl, pen1, by omega, many1.1, many1.2, fun q H2 t2 ps nms plen pen2 g3 g4 b2 hqn hq => ?_⟩
  have nqp := np pen1 hqn
  have nd := nms.2.1
  have pl1 := nms.2.2.1
  have pl3 := nms.2.2.2
  have plow : ∀ z ∈ ps, Low z := fun z hz => low_name (nms.1 z hz)
  have lp : (ps.map V.str).length = ps.length := List.length_map ..
  -- facts
  refine ⟨_, rfl, _, rfl, _, rfl, p, l, t2, 5, rfl, pen2, by omega, by decide, by decide, fun mf H3 t3 mf0 mf1 pen3 g5 g6 b3 => ?_⟩
  refine ⟨p, l, q, t3, mf, ps, rfl, pen3, by omega, nqp, SqL.of (b3 _ _ nqp hq), pl1, pl3, plow, mf0, by omega, fun fq qs fs H4 t4 ok ask fnd flen fat pen4 g7 g8 b4 hfn hf => ?_⟩
  have nfp := np pen3 hfn
  have hq4 := b4 _ _ nqp (b3 _ _ nqp hq)
  have f12 : fs.length ≤ 12 := by omega
  -- others
  refine ⟨_, rfl, _, rfl, _, rfl, p, l, q, fq, t4, qs, ps, fs, rfl, pen4, by omega, nqp, nfp, SqL.of hq4, pl1, pl3, plow, hf, fat, ok, by omega, fun oq qs2 fs2 H5 t5 ok2 sm2 nd2 len2 fat2 pen5 g9 g10 b5 hon ho5 => ?_⟩
  have hq5 := b5 _ _ nqp hq4
  have hf5 := b5 _ _ nfp hf
  have fat5 : CF.FAt H5 qs fs := by
    obtain ⟨ns', lf, h1, _⟩ := pen4.ex
    exact fat.but h1 b5
  -- one, two
  refine ⟨_, rfl, _, rfl, fq, qs, fs, ps, rfl, hf5, fat5, ok, nms.1, by omega, fun H6 s6 => ?_⟩
  refine fun o dx ho hdx ne => ?_
  refine ⟨o, dx, q, ps, fs, rfl, upd_same, .inl ((made_same ho hdx (But.refl o _)).seq (SqL.of (s6 _ _ hq5))), nms, ok, fnd, f12, fun pt ln ft os H7 but ho7 hpt hln hft fat7 => ⟨rfl, ?_⟩⟩
  have s7 : Same H5 H7 := s6.trans (made_same ho hdx but)
  have con7 : ConAt K C Dc H7 o ps fs := ⟨dx, pt, ln, ft, os, ho7, hpt, hln, SqT.of hft, fat7⟩
  clear but hln hft fat7 hpt ho7 hdx ho ne s6
  refine ⟨_, rfl, q, _, rfl, .inl ⟨SqL.of (s7 _ _ hq5), fun tp htp => ?_⟩⟩
  have z1 := Same.new (o := .tup (ps.map V.str)) htp
  have htp0 : upd H7 tp (.tup (ps.map V.str)) tp = some (.tup (ps.map V.str)) := upd_same
  generalize upd H7 tp (.tup (ps.map V.str)) = H8 at z1 htp0 ⊢
  have s8 := s7.trans z1
  refine ⟨_, rfl, oq, qs2, fs2, ps, rfl, s8 _ _ ho5, fat2.same s8, ok2, nms.1, by omega, fun H9 s9 => ?_⟩
  refine fun o2 dx2 ho2 hdx2 ne2 => ?_
  refine ⟨o2, dx2, tp, ps, fs2, rfl, upd_same, .inr ((made_same ho2 hdx2 (But.refl o2 _)).tup (SqT.of (s9 _ _ htp0))), nms, ok2, nd2, by omega, fun pt ln ft os H10 but ho10 hpt hln hft fat10 => ⟨rfl, ?_⟩⟩
  have s10 : Same H8 H10 := s9.trans (made_same ho2 hdx2 but)
  have con10 : ConAt K C Dc H10 o2 ps fs2 := ⟨dx2, pt, ln, ft, os, ho10, hpt, hln, SqT.of hft, fat10⟩
  clear but hln hft fat10 hpt ho10 hdx2 ho2 ne2 s9 htp0 htp
  refine ⟨by show 2 ≤ sizeLine; decide, fun T0 hT0 => ⟨T0, _, rfl, SqT.of upd_same, rfl, _, _, rfl, _, _, rfl, rfl, ?_⟩⟩
  have z2 := Same.new (o := .tup [.ref o, .ref o2]) hT0
  generalize upd H10 T0 (.tup [.ref o, .ref o2]) = G at z2 ⊢
  have sG : Same H5 G := (s8.trans s10).trans z2
  have c1 : ConAt K C Dc G o ps fs := con7.same ((z1.trans s10).trans z2)
  have c2 : ConAt K C Dc G o2 ps fs2 := con10.same z2
  have penG := pen5.same sG
  have hqG := sG _ _ hq5
  have hfG := sG _ _ hf5
  have hoG := sG _ _ ho5
  have fatG := fat5.same sG
  have fat2G := fat2.same sG
  clear con7 con10 z1 z2 s7 s8 s10 sG hT0 hq5 hf5 ho5 fat5 fat2 pen hq hq4 hf fat
  -- room
  have okA : ∀ f ∈ fs ++ fs2, f.Ok ps := fun f hf => (List.mem_append.mp hf).elim (ok f) (ok2 f)
  have fleA := far_upto (fs := fs ++ fs2) (b := 92) (by decide) fun f hf => wide_far (okA f hf)
  have f0A := CP.far_0 (fs ++ fs2)
  have mA := CP.mods okA
  obtain ⟨fa, hfa⟩ : ∃ fa : Nat, CF.farOf (fs ++ fs2) = (fa : Int) := ⟨(CF.farOf (fs ++ fs2)).toNat, by omega⟩
  obtain ⟨mo, hmo⟩ : ∃ mo : Nat, CF.modOf (fs ++ fs2) = (mo : Int) := ⟨(CF.modOf (fs ++ fs2)).toNat, by omega⟩
  refine ⟨_, rfl, by show 0 ≤ sizeLine; decide, fun pr hpr => ⟨_, rfl, _, rfl, fq, oq, _, _, rfl, rfl, (Same.new hpr) _ _ hfG, (Same.new hpr) _ _ hoG, by rw [List.length_map, List.length_map, fatG.len, fat2G.len, big]; omega, fun cq hcq => fun dn hdn => ?_⟩⟩
  rw [← List.map_append] at hdn ⊢
  have w1 := Same.new (o := .lst []) hpr
  have w2 := Same.new (o := .lst ((qs ++ qs2).map V.ref)) hcq
  have w3 := Same.new (o := .dK []) hdn
  have hpr3 := w3 _ _ (w2 _ _ (upd_same (H := G) (a := pr) (o := .lst [])))
  have hcq3 := w3 _ _ (upd_same (H := upd G pr (.lst [])) (a := cq) (o := .lst ((qs ++ qs2).map V.ref)))
  generalize upd (upd (upd G pr (.lst [])) cq (.lst ((qs ++ qs2).map V.ref))) dn (.dK []) = G1 at w3 hpr3 hcq3 ⊢
  have x1 := (w1.trans w2).trans w3
  refine ⟨q, pr, cq, .ref dn, qs ++ qs2, ps, fs ++ fs2, rfl, hpr3, hcq3, (fatG.app2 fat2G).same x1, okA, by rw [List.length_append]; omega, fun rt G2 x2 hrt => ?_⟩
  have x12 := x1.trans x2
  rw [hfa, hmo] at hrt
  clear w1 w2 w3 x1 x2 hpr3 hcq3 hdn hcq hpr
  -- rows
  refine ⟨_, rfl, _, _, rfl, .inl ⟨_, SqL.of (x12 _ _ hqG), rfl⟩, _, rfl, rt, _, _, _, rfl, rfl, SqT.of hrt, rfl, _, rfl, rt, _, _, _, rfl, rfl, SqT.of hrt, rfl, ps.length, fa + 1, mo, ?_, pl1, pl3, by omega, by omega, by omega, by omega, fun rq ts zs G3 x3 hrq rows lz zn near => ?_⟩
  · rw [lp, show (1 : Int) + (fa : Int) = ((fa + 1 : Nat) : Int) by omega]
    rfl
  rw [show fa + 1 + mo - 1 = fa + mo by omega] at near
  have x13 := x12.trans x3
  -- kept
  let c : List Int → Bool := fun z => CF.kept (CF.look ps z) fs
  refine ⟨_, rfl, rq, rfl, ⟨_, SqL.of hrq⟩, fun D hD => lc_it walk_list (fun j H' => Same G3 H' ∧ ∃ (us : List Addr) (es : List (List L2.Key × Addr × V)), H' D = some (.lst (us.map V.ref)) ∧ us.length ≤ j ∧ EsAt H' us es ∧ es.map (·.1) = ((zs.take j).filter c).map inK)
    ⟨Same.new hD, [], [], upd_same, Nat.le_refl _, .nil, by simp⟩ (fun j H' _ z => SqL.of (z.1 _ _ hrq)) ?_ ?_⟩
  · rintro j y K1 K2 hj ⟨s4, us, es, h4, ul, pr, ke⟩ ⟨rfl, hx⟩
    obtain ⟨t9, z, rfl, ht9, hz, hr0⟩ := rows_get rows hx
    have zm := List.mem_of_getElem? hz
    have jl : j < zs.length := (List.getElem?_eq_some_iff.mp hz).1
    have x14 := x13.trans s4
    have tk : (zs.take (j + 1)).filter c = (zs.take j).filter c ++ [z].filter c := by rw [List.take_add_one, hz, List.filter_append]; rfl
    refine ⟨rfl, _, rfl, _, rfl, _, rfl, q, fq, t9, qs, ps, fs, z, rfl, SqL.of (x14 _ _ hqG), x14 _ _ hfG, fatG.same x14, ok, by omega, SqT.of (s4 _ _ hr0), nd, NM.near_len ((near z).mp zm), fun K3 s5 => ⟨_, rfl, ?_⟩⟩
    rw [tk]
    cases e : CF.kept (CF.look ps z) fs with
    | true =>
      have e2 : c z = true := e
      rw [List.filter_cons_of_pos e2, List.filter_nil]
      refine iteT ⟨_, rfl, by show 2 ≤ sizeLine; decide, fun u hu3 => ?_⟩
      have s6 := Same.new (o := .tup [.ref t9, .bl true]) hu3
      have h46 := s6 _ _ (s5 _ _ h4)
      have s456 := (s4.trans s5).trans s6
      have hu0 : upd K3 u (.tup [.ref t9, .bl true]) u = some (.tup [.ref t9, .bl true]) := upd_same
      generalize upd K3 u (.tup [.ref t9, .bl true]) = K4 at s6 h46 s456 hu0 ⊢
      have upL : ∀ {o : HO} {b : Addr} {xs : List V}, K4 b = some (.tup xs) → upd K4 D o b = some (.tup xs) := fun {o b xs} e => (upd_ne (fun z => by rw [z, h46] at e; cases e)).trans e
      refine ⟨_, h46, ?_, s456.put hD, us ++ [u], es ++ [(inK z, t9, .bl true)], ?_, ?_, ?_, ?_⟩
      · rw [List.length_map]
        omega
      · rw [List.map_append]; exact upd_same
      · rw [List.length_append, List.length_singleton]; omega
      · exact EsAt.snoc (pr.mono fun b xs e => upL ((s5.trans s6) _ _ e)) (upL hu0) (upL (by rw [inK_kV]; exact s456 _ _ hr0))
      · rw [List.map_append, ke, List.map_append]
        rfl
    | false =>
      have e2 : c z = false := e
      rw [List.filter_cons_of_neg (by rw [e2]; decide), List.filter_nil, List.append_nil]
      exact iteF ⟨s4.trans s5, us, es, s5 _ _ h4, by omega, pr.mono fun b xs e => s5 _ _ e, ke⟩
  rintro G4 ⟨s4, us, es, h4, ul, pr, ke⟩
  rw [List.length_map, rows.1, List.take_length] at ke
  refine ⟨D, us, es, rfl, SqL.of h4, pr, by rw [ke]; exact keys_nodup (zn.filter c), fun kd hkd => ?_⟩
  have s5 := s4.trans (Same.new (o := .dT (es.map fun e => (e.1, e.2.2))) hkd)
  have hkd0 : upd G4 kd (.dT (es.map fun e => (e.1, e.2.2))) kd = some (.dT (es.map fun e => (e.1, e.2.2))) := upd_same
  generalize upd G4 kd (.dT (es.map fun e => (e.1, e.2.2))) = G5 at s5 hkd0 ⊢
  have kvk : (es.map fun e => (e.1, e.2.2)).map (·.1) = (zs.filter c).map inK := by rw [List.map_map, ← ke]; rfl
  generalize es.map (fun e => (e.1, e.2.2)) = kvs at hkd0 kvk
  have isK : ∀ z ∈ zs, (valV kvs (inK z)).isSome = c z := fun z hz => by
    rw [keys_some kvk, Bool.eq_iff_iff, decide_eq_true_iff, List.mem_filter]
    exact ⟨fun h => h.2, fun h => ⟨hz, h⟩⟩
  have x15 := x13.trans s5
  have hrq5 := s5 _ _ hrq
  have rows5 := rows.same s5
  clear s4 h4 ul pr ke hD
  -- both
  let c2' : List Int → Bool := fun z => CF.kept (CF.look ps z) fs2
  refine ⟨_, rfl, rq, rfl, ⟨_, SqL.of hrq5⟩, fun D hD => lc_it walk_list (fun j H' => Same G5 H' ∧ ∃ us : List Addr, H' D = some (.lst (us.map V.ref)) ∧ us.length ≤ j ∧ RowsAt H' us ((zs.take j).filter c2')) ⟨Same.new hD, [], upd_same, Nat.le_refl _, by simpa using RowsAt.nil⟩ (fun j H' _ z => SqL.of (z.1 _ _ hrq5)) ?_ ?_⟩
  · rintro j y K1 K2 hj ⟨s4, us, h4, ul, r4⟩ ⟨rfl, hx⟩
    obtain ⟨t9, z, rfl, ht9, hz, hr0⟩ := rows_get rows5 hx
    have zm := List.mem_of_getElem? hz
    have jl : j < zs.length := (List.getElem?_eq_some_iff.mp hz).1
    have x16 := x15.trans s4
    have tk : (zs.take (j + 1)).filter c2' = (zs.take j).filter c2' ++ [z].filter c2' := by rw [List.take_add_one, hz, List.filter_append]; rfl
    refine ⟨rfl, _, rfl, _, rfl, _, rfl, q, oq, t9, qs2, ps, fs2, z, rfl, SqL.of (x16 _ _ hqG), x16 _ _ hoG, fat2G.same x16, ok2, by omega, SqT.of (s4 _ _ hr0), nd, NM.near_len ((near z).mp zm), fun K3 s5 => ⟨_, rfl, ?_⟩⟩
    rw [tk]
    cases e : CF.kept (CF.look ps z) fs2 with
    | true =>
      have e2 : c2' z = true := e
      rw [List.filter_cons_of_pos e2, List.filter_nil]
      refine iteT ⟨_, rfl, _, s5 _ _ h4, ?_, (s4.trans s5).put hD, us ++ [t9], ?_, ?_, ?_⟩
      · rw [List.length_map]
        omega
      · rw [List.map_append]; exact upd_same
      · rw [List.length_append, List.length_singleton]; omega
      · exact rows_up2 (rows_snoc2 (r4.same s5) ((s4.trans s5) _ _ hr0)) (s5 _ _ h4)
    | false =>
      have e2 : c2' z = false := e
      rw [List.filter_cons_of_neg (by rw [e2]; decide), List.filter_nil, List.append_nil]
      exact iteF ⟨s4.trans s5, us, s5 _ _ h4, by omega, r4.same s5⟩
  rintro G6 ⟨s6, usB, hB, _, rowsB⟩
  rw [List.length_map, rows5.1, List.take_length] at rowsB
  generalize D = bq at *
  have x16 := x15.trans s6
  have hkd6 := s6 _ _ hkd0
  have hrq6 := s6 _ _ hrq5
  have rows6 := rows5.same s6
  have ho6 := x16 _ _ hoG
  have fat26 := fat2G.same x16
  -- due
  refine ⟨_, rfl, oq, rfl, ⟨_, SqL.of ho6⟩, fun D2 hD2 => lc_it walk_list (fun j H' => Same G6 H' ∧ ∃ bs : List Bool, H' D2 = some (.lst (bs.map V.bl)) ∧ DueAt ps fs (fs2.take j) bs) ⟨Same.new hD2, [], upd_same, ⟨by simp, fun n b f e => by simp at e⟩⟩ (fun j H' _ z => SqL.of (z.1 _ _ ho6)) ?_ ?_⟩
  · rintro j y K1 K2 hj ⟨s4, bs, h4, due⟩ ⟨rfl, hx⟩
    obtain ⟨r, f, rfl, hff, hr0⟩ := ref_of fat26 hx
    have fm2 := List.mem_of_getElem? hff
    have x17 := x16.trans s4
    have hkd7 := s4 _ _ hkd6
    have tkf : fs2.take (j + 1) = fs2.take j ++ [f] := by rw [List.take_add_one, hff]; rfl
    refine ⟨rfl, kd, .dT kvs, hkd7, True.intro, fun od => ?_⟩
    have mv : ∀ {b : Addr} {u : HO}, K2 b = some u → (∀ w, u ≠ .dT w) → upd K2 kd (.frz od (.dT kvs)) b = some u := fun {b u} e n => (upd_ne (fun z => by rw [z, hkd7] at e; exact n _ (Option.some.inj e).symm)).trans e
    have hlk : upd K2 kd (.frz od (.dT kvs)) kd = some (.frz od (.dT kvs)) := upd_same
    have qL := mv (x17 _ _ hqG) (fun _ e => by cases e)
    have rL := mv (s4 _ _ hr0) (fun _ e => by cases e)
    have unl : ∀ {H' : Hp}, Same (upd K2 kd (.frz od (.dT kvs))) H' → Same K2 (upd H' kd (.dT kvs)) := fun {H'} s b u e => by
      by_cases eb : b = kd
      · rw [eb, hkd7] at e
        rw [eb, upd_same, Option.some.inj e]
      · rw [upd_ne eb]
        exact s _ _ ((upd_ne eb).trans e)
    generalize upd K2 kd (.frz od (.dT kvs)) = HL at mv hlk qL rL unl ⊢
    let c3 : List Int → Bool := fun z => !CF.kept (CF.look ps z) [f]
    refine ⟨_, rfl, kd, od, rfl, .inr ⟨kvs, hlk, fun D3 hD3 => lc_it walk_keysT (fun n H' => Same HL H' ∧ ∃ us : List Addr, H' D3 = some (.lst (us.map V.ref)) ∧ us.length ≤ n ∧ RowsAt H' us (((zs.filter c).take n).filter c3)) ⟨Same.new hD3, [], upd_same, Nat.le_refl _, by simpa using RowsAt.nil⟩ (fun n H' _ z => z.1 _ _ hlk) ?_ ?_⟩⟩
    · rintro n y M1 M2 hn ⟨s5, us, h5, ul, r5⟩ ⟨rfl, k9, v9', qa, hk9, rfl, hqa⟩
      have hz : (zs.filter c)[n]? = some ((zs.filter c)[n]'(by
          have e1 := congrArg List.length kvk
          rw [List.length_map, List.length_map] at e1
          rw [← e1]; exact (List.getElem?_eq_some_iff.mp hk9).1)) := List.getElem?_eq_getElem _
      generalize (zs.filter c)[n]'(by
          have e1 := congrArg List.length kvk
          rw [List.length_map, List.length_map] at e1
          rw [← e1]; exact (List.getElem?_eq_some_iff.mp hk9).1) = z at hz
      have ek : k9 = inK z := by
        have e1 : (kvs.map (·.1))[n]? = some k9 := by rw [List.getElem?_map, hk9]; rfl
        rw [kvk, List.getElem?_map, hz] at e1
        exact (Option.some.inj e1).symm
      subst ek
      rw [inK_kV] at hqa
      have zm := (List.mem_filter.mp (List.mem_of_getElem? hz)).1
      have nl : n < (zs.filter c).length := (List.getElem?_eq_some_iff.mp hz).1
      have nl2 := List.length_filter_le c zs
      have tk : ((zs.filter c).take (n + 1)).filter c3 = ((zs.filter c).take n).filter c3 ++ [z].filter c3 := by rw [List.take_add_one, hz, List.filter_append]; rfl
      refine ⟨rfl, _, rfl, _, rfl, by show 1 ≤ sizeLine; decide, fun fl hfl => ?_⟩
      have s6 := Same.new (o := .lst [.ref r]) hfl
      have hfl0 : upd M2 fl (.lst [.ref r]) fl = some (.lst [.ref r]) := upd_same
      generalize upd M2 fl (.lst [.ref r]) = M3 at s6 hfl0 ⊢
      have s56 := s5.trans s6
      refine ⟨_, rfl, q, fl, qa, [r], ps, [f], z, rfl, SqL.of (s56 _ _ qL), hfl0, .cons (s56 _ _ rL) .nil, by simpa using ok2 f fm2, (by show 1 ≤ 1000; decide), SqT.of (s6 _ _ hqa), nd, NM.near_len ((near z).mp zm), fun M4 s7 => ⟨_, rfl, ?_⟩⟩
      rw [tk]
      cases e : CF.kept (CF.look ps z) [f] with
      | false =>
        have e2 : c3 z = true := by show (!CF.kept (CF.look ps z) [f]) = true; rw [e]; rfl
        rw [List.filter_cons_of_pos e2, List.filter_nil]
        refine iteT ⟨_, rfl, _, (s6.trans s7) _ _ h5, ?_, (s56.trans s7).put hD3, us ++ [qa], ?_, ?_, ?_⟩
        · rw [List.length_map]
          omega
        · rw [List.map_append]; exact upd_same
        · rw [List.length_append, List.length_singleton]; omega
        · exact rows_up2 (rows_snoc2 (r5.same (s6.trans s7)) ((s6.trans s7) _ _ hqa)) ((s6.trans s7) _ _ h5)
      | true =>
        have e2 : c3 z = false := by show (!CF.kept (CF.look ps z) [f]) = false; rw [e]; rfl
        rw [List.filter_cons_of_neg (by rw [e2]; decide), List.filter_nil, List.append_nil]
        exact iteF ⟨s56.trans s7, us, (s6.trans s7) _ _ h5, by omega, r5.same (s6.trans s7)⟩
    rintro M1 ⟨s5, us, h5, ul, r5⟩
    have kl : kvs.length = (zs.filter c).length := by
      have e1 := congrArg List.length kvk
      rw [List.length_map, List.length_map] at e1
      exact e1
    rw [kl, List.take_length] at r5
    refine ⟨s5 _ _ hlk, ?_⟩
    have sU := unl s5
    have nk : ∀ {b : Addr} {u : HO}, M1 b = some u → (∀ o w, u ≠ .frz o w) → upd M1 kd (.dT kvs) b = some u := fun {b u} e n => (upd_ne (fun z => by rw [z, s5 _ _ hlk] at e; exact n _ _ (Option.some.inj e).symm)).trans e
    have h5u := nk h5 (fun _ _ e => by cases e)
    have r5u : RowsAt (upd M1 kd (.dT kvs)) us ((zs.filter c).filter c3) := ⟨r5.1, fun n t9 z9 e1 e2 => nk (r5.2 n t9 z9 e1 e2) (fun _ _ e => by cases e)⟩
    generalize upd M1 kd (.dT kvs) = M5 at sU h5u r5u ⊢
    refine ⟨by show 0 ≤ sizeLine; decide, fun e he => ⟨.list (((zs.filter c).filter c3).map fun z => PyData.tuple (LD.intsD z)), .list [], .lst (SqL.of ((Same.new he) _ _ h5u)) (rows_dps (r5u.same (Same.new he))), .lst (SqL.of upd_same) .nil, rows_shaped _, rfl, ?_⟩⟩
    rw [eqv_nilT]
    have sE := sU.trans (Same.new (o := .lst []) he)
    refine ⟨_, sE _ _ h4, ?_, (s4.trans sE).put hD2, bs ++ [((zs.filter c).filter c3).map (fun z => PyData.tuple (LD.intsD z)) |>.isEmpty], ?_, ?_⟩
    · rw [List.length_map, due.1, List.length_take]
      omega
    · rw [List.map_append]; exact upd_same
    · rw [tkf]
      refine due.snoc ?_
      rw [← imp_rows (gs := fs) (hs := [f]) nd pl1 pl3 ok ok2 hfa hmo near (fun g hg => .inl hg) (fun g hg => .inr (by rw [List.mem_singleton.mp hg]; exact fm2)), List.isEmpty_iff, List.map_eq_nil_iff, List.filter_eq_nil_iff]
      constructor
      · intro h z hz hk
        have := h z (List.mem_filter.mpr ⟨hz, hk⟩)
        show CF.kept (CF.look ps z) [f] = true
        cases e9 : CF.kept (CF.look ps z) [f] with
        | true => rfl
        | false => exact absurd (show c3 z = true by show (!CF.kept (CF.look ps z) [f]) = true; rw [e9]; rfl) this
      · intro h z hz e9
        obtain ⟨hz1, hz2⟩ := List.mem_filter.mp hz
        have := h z hz1 hz2
        have e9' : (!CF.kept (CF.look ps z) [f]) = true := e9
        rw [this] at e9'
        cases e9'
  rintro G7 ⟨s7, due, hdue, dueAt⟩
  rw [List.length_map, fat26.len, List.take_length] at dueAt
  generalize D2 = dq at *
  have x17 := x16.trans s7
  have hkd7 := s7 _ _ hkd6
  have hrq7 := s7 _ _ hrq6
  have rows7 := rows6.same s7
  have hB7 := s7 _ _ hB
  have rowsB7 := rowsB.same s7
  -- back
  let c4 : List Int → Bool := fun z => !c z
  have zB : ∀ z ∈ zs.filter c2', z ∈ zs := fun z hz => (List.mem_filter.mp hz).1
  have lB := List.length_filter_le c2' zs
  refine ⟨_, rfl, bq, rfl, ⟨_, SqL.of hB7⟩, fun D hD => lc_it walk_list (fun j H' => Same G7 H' ∧ ∃ us : List Addr, H' D = some (.lst (us.map V.ref)) ∧ us.length ≤ j ∧ RowsAt H' us (((zs.filter c2').take j).filter c4)) ⟨Same.new hD, [], upd_same, Nat.le_refl _, by simpa using RowsAt.nil⟩ (fun j H' _ z => SqL.of (z.1 _ _ hB7)) ?_ ?_⟩
  · rintro j y K1 K2 hj ⟨s4, us, h4, ul, r4⟩ ⟨rfl, hx⟩
    obtain ⟨t9, z, rfl, ht9, hz, hr0⟩ := rows_get rowsB7 hx
    have zm := zB z (List.mem_of_getElem? hz)
    have jl : j < (zs.filter c2').length := (List.getElem?_eq_some_iff.mp hz).1
    have tk : ((zs.filter c2').take (j + 1)).filter c4 = ((zs.filter c2').take j).filter c4 ++ [z].filter c4 := by rw [List.take_add_one, hz, List.filter_append]; rfl
    have dg : DGet K2 kd (.ref t9) (valV kvs (inK z)) := DGet.t (s4 _ _ hkd7) (by rw [inK_kV]; exact s4 _ _ hr0)
    refine ⟨rfl, _, rfl, _, rfl, kd, _, rfl, dg, _, rfl, ?_⟩
    rw [isK z zm, tk]
    cases e : c z with
    | false =>
      have e2 : c4 z = true := by show (!c z) = true; rw [e]; rfl
      rw [List.filter_cons_of_pos e2, List.filter_nil]
      refine iteT ⟨_, rfl, _, h4, ?_, s4.put hD, us ++ [t9], ?_, ?_, ?_⟩
      · rw [List.length_map]
        omega
      · rw [List.map_append]; exact upd_same
      · rw [List.length_append, List.length_singleton]; omega
      · exact rows_up2 (rows_snoc2 r4 (s4 _ _ hr0)) h4
    | true =>
      have e2 : c4 z = false := by show (!c z) = false; rw [e]; rfl
      rw [List.filter_cons_of_neg (by rw [e2]; decide), List.filter_nil, List.append_nil]
      exact iteF ⟨s4, us, h4, by omega, r4⟩
  rintro M1 ⟨s4, us, h4, ul, r4⟩
  rw [List.length_map, rowsB7.1, List.take_length] at r4
  refine ⟨by show 0 ≤ sizeLine; decide, fun e he => ⟨.list (((zs.filter c2').filter c4).map fun z => PyData.tuple (LD.intsD z)), .list [], .lst (SqL.of ((Same.new he) _ _ h4)) (rows_dps (r4.same (Same.new he))), .lst (SqL.of upd_same) .nil, rows_shaped _, rfl, ?_⟩⟩
  rw [eqv_nilT]
  have s8 := s4.trans (Same.new (o := .lst []) he)
  generalize upd M1 e (.lst []) = G8 at s8 ⊢
  have hb0 : (((zs.filter c2').filter c4).map fun z => PyData.tuple (LD.intsD z)).isEmpty = true ↔ CP.Imp ps fs2 fs := by
    rw [← imp_rows (gs := fs2) (hs := fs) nd pl1 pl3 ok ok2 hfa hmo near (fun g hg => .inr hg) (fun g hg => .inl hg), List.isEmpty_iff, List.map_eq_nil_iff, List.filter_eq_nil_iff]
    constructor
    · intro h z hz hk
      have h9 := h z (List.mem_filter.mpr ⟨hz, hk⟩)
      show c z = true
      cases e9 : c z with
      | true => rfl
      | false => exact absurd (show c4 z = true by show (!c z) = true; rw [e9]; rfl) h9
    · intro h z hz e9
      obtain ⟨hz1, hz2⟩ := List.mem_filter.mp hz
      have h9 : c z = true := h z hz1 hz2
      have e9' : (!c z) = true := e9
      rw [h9] at e9'
      cases e9'
  generalize (((zs.filter c2').filter c4).map fun z => PyData.tuple (LD.intsD z)).isEmpty = b0 at hb0 ⊢
  have x18 := x17.trans s8
  have d1 := c1.same x18
  have d2 := c2.same x18
  have hdue8 := s8 _ _ hdue
  have hkd8 := s8 _ _ hkd7
  have hrq8 := s8 _ _ hrq7
  have rows8 := rows7.same s8
  have ho8 := x18 _ _ hoG
  have fat28 := fat2G.same x18
  have hq8 := x18 _ _ hqG
  have hf8 := x18 _ _ hfG
  have fat8 := fatG.same x18
  have pen8 := penG.same x18
  clear x12 x13 x15 x16 x17 x18 s5 s6 s7 s8 s4 r4 h4 ul hD he hB7 rowsB7 hB rowsB hkd7 hkd6 hkd0 hrq7 hrq6 hrq5 hrq rows7 rows6 rows5 rows c1 c2 hdue fat26 ho6 hoG hqG hfG fatG fat2G penG hrt zB lB
  exact turn_rest nms ok ok2 f12 len2 ask sm2 d1 d2 hdue8 dueAt hkd8 isK hrq8 rows8 lz hfa hmo near ho8 fat28 hq8 hf8 fat8 hb0 (fun rest H' hl s => ⟨rest, t5, hl, rfl, pen8.same s, by have : ((i + 1 : Nat) : Int) = i + 1 := rfl; omega⟩)
end
end K05
end
section
set_option Elab.async false
set_option linter.all false
set_option maxRecDepth 100000
set_option maxHeartbeats 0
namespace K05
open PySem PySem.Spec PyProof.Rows L2
def d_begun_pen : He.DefD := ⟨("_law_begun_pen", none), "_law_begun_pen", "_law_begun_pen", defArgs s_begun_pen, defBody s_begun_pen, defScope s_begun_pen, [], []⟩
def d_draw : He.DefD := ⟨("_law_draw", none), "_law_draw", "_law_draw", defArgs s_draw, defBody s_draw, defScope s_draw, [], []⟩
def d_pick : He.DefD := ⟨("_law_pick", none), "_law_pick", "_law_pick", defArgs s_pick, defBody s_pick, defScope s_pick, [], []⟩
def d_shuffled : He.DefD := ⟨("_law_shuffled", none), "_law_shuffled", "_law_shuffled", defArgs s_shuffled, defBody s_shuffled, defScope s_shuffled, [], []⟩
def d_new_names : He.DefD := ⟨("_law_new_names", none), "_law_new_names", "_law_new_names", defArgs s_new_names, defBody s_new_names, defScope s_new_names, [], []⟩
def d_spot_text : He.DefD := ⟨("_law_spot_text", none), "_law_spot_text", "_law_spot_text", defArgs s_spot_text, defBody s_spot_text, defScope s_spot_text, [], []⟩
def d_fact_text : He.DefD := ⟨("_law_fact_text", none), "_law_fact_text", "_law_fact_text", defArgs s_fact_text, defBody s_fact_text, defScope s_fact_text, [], []⟩
def d_facts_text : He.DefD := ⟨("_law_facts_text", none), "_law_facts_text", "_law_facts_text", defArgs s_facts_text, defBody s_facts_text, defScope s_facts_text, [], []⟩
def d_true : He.DefD := ⟨("_law_true", none), "_law_true", "_law_true", defArgs s_true, defBody s_true, defScope s_true, [], []⟩
def d_at : He.DefD := ⟨("_law_at", none), "_law_at", "_law_at", defArgs s_at, defBody s_at, defScope s_at, [], []⟩
def d_keeps : He.DefD := ⟨("_law_keeps", none), "_law_keeps", "_law_keeps", defArgs s_keeps, defBody s_keeps, defScope s_keeps, [], []⟩
def d_far_of : He.DefD := ⟨("_law_far_of", none), "_law_far_of", "_law_far_of", defArgs s_far_of, defBody s_far_of, defScope s_far_of, [], []⟩
def d_modulus : He.DefD := ⟨("_law_modulus", none), "_law_modulus", "_law_modulus", defArgs s_modulus, defBody s_modulus, defScope s_modulus, [], []⟩
def d_room : He.DefD := ⟨("_law_room", none), "_law_room", "_law_room", defArgs s_room, defBody s_room, defScope s_room, [], []⟩
def d_wide_fact : He.DefD := ⟨("_law_wide_fact", none), "_law_wide_fact", "_law_wide_fact", defArgs s_wide_fact, defBody s_wide_fact, defScope s_wide_fact, [], []⟩
def d_wide_facts : He.DefD := ⟨("_law_wide_facts", none), "_law_wide_facts", "_law_wide_facts", defArgs s_wide_facts, defBody s_wide_facts, defScope s_wide_facts, [], []⟩
def d_new_fact : He.DefD := ⟨("_law_new_fact", none), "_law_new_fact", "_law_new_fact", defArgs s_new_fact, defBody s_new_fact, defScope s_new_fact, [], []⟩
def d_new_facts : He.DefD := ⟨("_law_new_facts", none), "_law_new_facts", "_law_new_facts", defArgs s_new_facts, defBody s_new_facts, defScope s_new_facts, [], []⟩
def d_small_facts : He.DefD := ⟨("_law_small_facts", none), "_law_small_facts", "_law_small_facts", defArgs s_small_facts, defBody s_small_facts, defScope s_small_facts, [], []⟩
def d_asked_facts : He.DefD := ⟨("_law_asked_facts", none), "_law_asked_facts", "_law_asked_facts", defArgs s_asked_facts, defBody s_asked_facts, defScope s_asked_facts, [], []⟩
def d_spreads : He.DefD := ⟨("_law_spreads", none), "_law_spreads", "_law_spreads", defArgs s_spreads, defBody s_spreads, defScope s_spreads, [], []⟩
def d_near_fact : He.DefD := ⟨("_law_near_fact", none), "_law_near_fact", "_law_near_fact", defArgs s_near_fact, defBody s_near_fact, defScope s_near_fact, [], []⟩
def d_other_facts : He.DefD := ⟨("_law_other_facts", none), "_law_other_facts", "_law_other_facts", defArgs s_other_facts, defBody s_other_facts, defScope s_other_facts, [], []⟩
def d_idle : He.DefD := ⟨("_law_idle", none), "_law_idle", "_law_idle", defArgs s_idle, defBody s_idle, defScope s_idle, [], []⟩
def d_lines_of : He.DefD := ⟨("lines_of", none), "lines_of", "lines_of", defArgs s_lines_of, defBody s_lines_of, defScope s_lines_of, [], []⟩
def d_is_name : He.DefD := ⟨("is_name", none), "is_name", "is_name", defArgs s_is_name, defBody s_is_name, defScope s_is_name, [], []⟩
def d_read_pointers : He.DefD := ⟨("read_pointers", none), "read_pointers", "read_pointers", defArgs s_read_pointers, defBody s_read_pointers, defScope s_read_pointers, [], []⟩
def d_read_number : He.DefD := ⟨("read_number", none), "read_number", "read_number", defArgs s_read_number, defBody s_read_number, defScope s_read_number, [], []⟩
def d_read_pointer : He.DefD := ⟨("read_pointer", none), "read_pointer", "read_pointer", defArgs s_read_pointer, defBody s_read_pointer, defScope s_read_pointer, [], []⟩
def d_read_spot : He.DefD := ⟨("read_spot", none), "read_spot", "read_spot", defArgs s_read_spot, defBody s_read_spot, defScope s_read_spot, [], []⟩
def d_read_fact : He.DefD := ⟨("read_fact", none), "read_fact", "read_fact", defArgs s_read_fact, defBody s_read_fact, defScope s_read_fact, [], []⟩
def d_read_apart : He.DefD := ⟨("read_apart", none), "read_apart", "read_apart", defArgs s_read_apart, defBody s_read_apart, defScope s_read_apart, [], []⟩
def d_read_distance : He.DefD := ⟨("read_distance", none), "read_distance", "read_distance", defArgs s_read_distance, defBody s_read_distance, defScope s_read_distance, [], []⟩
def d_read_remainder : He.DefD := ⟨("read_remainder", none), "read_remainder", "read_remainder", defArgs s_read_remainder, defBody s_read_remainder, defScope s_read_remainder, [], []⟩
def d_pfar_of : He.DefD := ⟨("far_of", none), "far_of", "far_of", defArgs s_pfar_of, defBody s_pfar_of, defScope s_pfar_of, [], []⟩
def d_modulus_of : He.DefD := ⟨("modulus_of", none), "modulus_of", "modulus_of", defArgs s_modulus_of, defBody s_modulus_of, defScope s_modulus_of, [], []⟩
def d_read_facts : He.DefD := ⟨("read_facts", none), "read_facts", "read_facts", defArgs s_read_facts, defBody s_read_facts, defScope s_read_facts, [], []⟩
def d_check_places : He.DefD := ⟨("check_places", none), "check_places", "check_places", defArgs s_check_places, defBody s_check_places, defScope s_check_places, [], []⟩
def d_all_hold : He.DefD := ⟨("all_hold", none), "all_hold", "all_hold", defArgs s_all_hold, defBody s_all_hold, defScope s_all_hold, [], []⟩
def d_turns : He.DefD := ⟨("turns", none), "turns", "turns", defArgs s_turns, defBody s_turns, defScope s_turns, [], []⟩
def d_shapes : He.DefD := ⟨("shapes", none), "shapes", "shapes", defArgs s_shapes, defBody s_shapes, defScope s_shapes, [], []⟩
def d_near : He.DefD := ⟨("near_places", none), "near_places", "near_places", defArgs s_near, defBody s_near, defScope s_near, [], []⟩
def d_joined_lines : He.DefD := ⟨("joined_lines", none), "joined_lines", "joined_lines", defArgs s_joined_lines, defBody s_joined_lines, defScope s_joined_lines, [], []⟩
def d_fact_contract : He.DefD := ⟨("fact_contract", none), "fact_contract", "fact_contract", defArgs s_fact_contract, defBody s_fact_contract, defScope s_fact_contract, [], []⟩
def d_implied : He.DefD := ⟨("implied", none), "implied", "implied", defArgs s_implied, defBody s_implied, defScope s_implied, [], []⟩
def d_law : He.DefD := ⟨("law", none), "law", "law", defArgs s_law, defBody s_law, defScope s_law, [], []⟩
def d_Fact___init__ : He.DefD := ⟨("Fact", some "__init__"), "__init__", "Fact.__init__", defArgs s_Fact___init__, defBody s_Fact___init__, defScope s_Fact___init__, [], []⟩
def d_Contract___init__ : He.DefD := ⟨("Contract", some "__init__"), "__init__", "Contract.__init__", defArgs s_Contract___init__, defBody s_Contract___init__, defScope s_Contract___init__, [], []⟩
def d_Fact_holds : He.DefD := ⟨("Fact", some "holds"), "holds", "Fact.holds", defArgs s_Fact_holds, defBody s_Fact_holds, defScope s_Fact_holds, [], []⟩
def d_Contract_keeps : He.DefD := ⟨("Contract", some "keeps"), "keeps", "Contract.keeps", defArgs s_Contract_keeps, defBody s_Contract_keeps, defScope s_Contract_keeps, [], []⟩
def d_Contract_broken : He.DefD := ⟨("Contract", some "broken"), "broken", "Contract.broken", defArgs s_Contract_broken, defBody s_Contract_broken, defScope s_Contract_broken, [], []⟩
def d_Contract_follows : He.DefD := ⟨("Contract", some "follows"), "follows", "Contract.follows", defArgs s_Contract_follows, defBody s_Contract_follows, defScope s_Contract_follows, [], []⟩
def d_Contract_implies : He.DefD := ⟨("Contract", some "implies"), "implies", "Contract.implies", defArgs s_Contract_implies, defBody s_Contract_implies, defScope s_Contract_implies, [], []⟩
def d_Contract_same : He.DefD := ⟨("Contract", some "same"), "same", "Contract.same", defArgs s_Contract_same, defBody s_Contract_same, defScope s_Contract_same, [], []⟩
def d_Contract_idle : He.DefD := ⟨("Contract", some "idle"), "idle", "Contract.idle", defArgs s_Contract_idle, defBody s_Contract_idle, defScope s_Contract_idle, [], []⟩
def d_Contract___iter__ : He.DefD := ⟨("Contract", some "__iter__"), "__iter__", "Contract.__iter__", defArgs s_Contract___iter__, defBody s_Contract___iter__, defScope s_Contract___iter__, [], []⟩
def d_BadPlaces : He.DefD := ⟨("BadPlaces", some "__init__"), "__init__", "BadPlaces.__init__", defArgs s_BadPlaces, defBody s_BadPlaces, defScope s_BadPlaces, [], []⟩
def fn : List He.DefD := [d_begun_pen, d_draw, d_pick, d_shuffled, d_new_names, d_spot_text, d_fact_text, d_facts_text, d_true, d_at, d_keeps, d_far_of, d_modulus, d_room, d_wide_fact, d_wide_facts, d_new_fact, d_new_facts, d_small_facts, d_asked_facts, d_spreads, d_near_fact, d_other_facts, d_idle, d_lines_of, d_is_name, d_read_pointers, d_read_number, d_read_pointer, d_read_spot, d_read_fact, d_read_apart, d_read_distance, d_read_remainder, d_pfar_of, d_modulus_of, d_read_facts, d_check_places, d_all_hold, d_turns, d_shapes, d_near, d_joined_lines, d_fact_contract, d_implied, d_law, d_Fact___init__, d_Contract___init__, d_Fact_holds, d_Contract_keeps, d_Contract_broken, d_Contract_follows, d_Contract_implies, d_Contract_same, d_Contract_idle, d_Contract___iter__, d_BadPlaces]
def fa0 : List He.Fa := [.glo "_law_begun_pen", .glo "_law_draw", .glo "_law_pick", .glo "_law_shuffled", .glo "_law_new_names", .glo "_law_spot_text", .glo "_law_fact_text", .glo "_law_facts_text", .glo "_law_true", .glo "_law_at", .glo "_law_keeps", .glo "_law_far_of", .glo "_law_modulus", .glo "_law_room", .glo "_law_wide_fact", .glo "_law_wide_facts", .glo "_law_new_fact", .glo "_law_new_facts", .glo "_law_small_facts", .glo "_law_asked_facts", .glo "_law_spreads", .glo "_law_near_fact", .glo "_law_other_facts", .glo "_law_idle", .glo "lines_of"]
def fa1 : List He.Fa := [.glo "is_name", .glo "read_pointers", .glo "read_number", .glo "read_pointer", .glo "read_spot", .glo "read_fact", .glo "read_apart", .glo "read_distance", .glo "read_remainder", .glo "far_of", .glo "modulus_of", .glo "read_facts", .glo "check_places", .glo "all_hold", .glo "turns", .glo "shapes", .glo "near_places", .glo "joined_lines", .glo "fact_contract", .glo "implied", .glo "law", .glo "Fact", .glo "Contract", .glo "RESERVED", .glo "MODULI"]
def fa2 : List He.Fa := [.glo "BadPlaces", .glo "PartlyError", .free "int", .free "len", .free "abs", .free "list", .free "range", .free "tuple", .free "isinstance", .free "str", .free "bool", .free "max", .free "min", .free "sum", .free "all", .free "enumerate", .free "zip", .free "dict", .free "sorted", .free "iter", .int "LONGEST_NAME" (12), .int "MOST_POINTERS" (3), .int "FARTHEST_SPOT" (30), .int "LONGEST_NUMBER" (3), .int "FARTHEST" (40)]
def fa3 : List He.Fa := [.int "MOST_CELLS" (16), .int "MOST_FACTS" (12), .str "LETTERS" "abcdefghijklmnopqrstuvwxyz", .cls "Fact", .mkr "Fact", .cls "Contract", .mkr "Contract", .noat "Fact" "word", .noat "Fact" "left", .noat "Fact" "right", .noat "Fact" "numbers", .noat "Fact" "spans", .noat "Fact" "far", .noat "Fact" "modulus", .noat "Contract" "pointers", .noat "Contract" "text", .noat "Contract" "lines", .noat "Contract" "rows", .noat "Contract" "far", .noat "Contract" "modulus", .meth "Contract" "keeps", .meth "Contract" "broken", .meth "Contract" "follows", .meth "Contract" "implies", .meth "Contract" "same"]
def fa4 : List He.Fa := [.meth "Contract" "idle", .meth "Contract" "__iter__", .meth "Fact" "holds"]
def fa : List He.Fa := fa0 ++ (fa1 ++ (fa2 ++ (fa3 ++ (fa4))))
/-- a written tuple of texts, of ints -/
def tupB (K : PySem.W.Frag) (x : Str) (ok : Array Value → Bool) : Bool := match K.lookup (He.ga K x) with
  | some ⟨.type t, _, .seq its _, _⟩ => decide (t = "tuple") && ok its
  | _ => false
def strsB (zs : List Str) (its : Array Value) : Bool := decide (its.toList.map (fun v => match v with | .str z _ => some z | _ => none) = zs.map some)
def intsB (zs : List Int) (its : Array Value) : Bool := decide (its.toList.map (fun v => match v with | .int z _ => some z | _ => none) = zs.map some)
theorem vals_strs : ∀ {zs : List Str} {its : List Value}, its.map (fun v => match v with | .str z _ => some z | _ => none) = zs.map some → Vals (zs.map V.str) its
  | [], [], _ => .nil
  | [], _ :: _, h => by cases h
  | _ :: _, [], h => by cases h
  | z :: r, v :: its, h => by
    rw [List.map_cons, List.map_cons, List.cons.injEq] at h
    obtain ⟨h1, h2⟩ := h
    refine .cons ?_ (vals_strs h2)
    revert h1
    cases v <;> intro h1 <;> first | (cases h1; exact ⟨_, rfl⟩) | cases h1
theorem vals_ints : ∀ {zs : List Int} {its : List Value}, its.map (fun v => match v with | .int z _ => some z | _ => none) = zs.map some → Vals (zs.map V.int) its
  | [], [], _ => .nil
  | [], _ :: _, h => by cases h
  | _ :: _, [], h => by cases h
  | z :: r, v :: its, h => by
    rw [List.map_cons, List.map_cons, List.cons.injEq] at h
    obtain ⟨h1, h2⟩ := h
    refine .cons ?_ (vals_ints h2)
    revert h1
    cases v <;> intro h1 <;> first | (cases h1; exact ⟨_, rfl⟩) | cases h1
theorem tupB_ok {K : PySem.W.Frag} {x : Str} {ok : Array Value → Bool} (h : tupB K x ok = true) : ∃ o its n, K.lookup (He.ga K x) = some o ∧ o.cls = .type "tuple" ∧ o.data = .seq its n ∧ ok its = true := by
  unfold tupB at h
  revert h
  split
  · rename_i t d its n sl e
    intro h
    simp only [Bool.and_eq_true, decide_eq_true_eq] at h
    obtain ⟨rfl, h2⟩ := h
    exact ⟨_, its, n, e, rfl, rfl, h2⟩
  · intro h
    cases h
theorem tupS_ok {K : PySem.W.Frag} {x : Str} {zs : List Str} (hz : zs.length ≤ 1000) (h : tupB K x (strsB zs) = true) (H : Hp) : SqT K H (He.ga K x) (zs.map V.str) := by
  obtain ⟨o, its, n, e1, e2, e3, e4⟩ := tupB_ok h
  have r := vals_strs (of_decide_eq_true e4)
  exact .inr ⟨o, its, n, e1, e2, e3, by have h1 := r.length; have h2 : its.toList.length = its.size := Array.length_toList; rw [List.length_map] at h1; rw [sizeLine_eq]; omega, r⟩
theorem tupI_ok {K : PySem.W.Frag} {x : Str} {zs : List Int} (hz : zs.length ≤ 1000) (h : tupB K x (intsB zs) = true) (H : Hp) : SqT K H (He.ga K x) (zs.map V.int) := by
  obtain ⟨o, its, n, e1, e2, e3, e4⟩ := tupB_ok h
  have r := vals_ints (of_decide_eq_true e4)
  exact .inr ⟨o, its, n, e1, e2, e3, by have h1 := r.length; have h2 : its.toList.length = its.size := Array.length_toList; rw [List.length_map] at h1; rw [sizeLine_eq]; omega, r⟩
def exB (K : PySem.W.Frag) : Bool := tupB K "RESERVED" (strsB CF.Reserved) && (tupB K "MODULI" (intsB [2, 4, 8]) && (decide (He.ga K "Fact" ≠ He.ga K "Contract") && (oexB K (He.ga K "BadPlaces") && (iniB K "BadPlaces" && (partB K)))))
/-- what stands at the top's end, the statics with it -/
abbrev R : PySem.W.OpenRow := PySem.W.OpenLaw.row PySem.Challenge.rw_partlymet_k05_whole_implied
def ofA (g : Addr → Option Obj) (a : Addr) : List Addr := match g a with
  | some o => He.refsD o
  | none => []
def isC (g : Addr → Option Obj) (a : Addr) : Bool := match g a with
  | some ⟨_, _, .cls _, _⟩ => true
  | _ => false
def frL {α : Sort _} : List Addr → (List Addr → α) → α
  | [], k => k []
  | a :: as, k => HandSHeadRun.frNat a fun a => frL as fun as => k (a :: as)
/-- the names' objects, what they name, the classes' methods and their code: the numbers in normal form -/
def asK (g : Addr → Option Obj) : List Addr :=
  frL (ofA g mainGlobals) fun a1 =>
  frL (a1.flatMap (ofA g)) fun a2 =>
  frL ((a1.filter (isC g)).flatMap (ofA g)) fun cs =>
  frL (cs.flatMap (ofA g)) fun ms =>
  frL (ms.flatMap (ofA g)) fun mc =>
  cStatics :: mainGlobals :: (a1 ++ (ms ++ (mc ++ a2)))
def frY (g : Addr → Option Obj) : PySem.W.Frag := He.frT g (asK g)
def obY (g : Addr → Option Obj) : He.AlX := (He.obsT fa fn [] (frY g), exB (frY g))
def SaysY (w : World) (h : Heap) : Prop := ∃ K : PySem.W.Frag, K.In h ∧ He.SaysT fa fn [] w K ∧ exB K = true
def hk : PySem.W.Hook where
  α := He.AlX
  obs s := obY s.heap.get?
  val w := He.valX fn [] w
  says := SaysY
  of w s e := ⟨frY s.heap.get?, He.frT_in, congrArg Prod.fst e, congrArg Prod.snd e⟩
  keeps w h h' z k := z.elim fun K y => ⟨K, PySem.W.Frag.In.keeps y.1 k, y.2⟩
def ob (s : PySem.W.SharedT) : He.AlX := obY (HandSHeadRun.getT s)
theorem ob_eq (s : PySem.W.SharedT) : ob s = hk.obs s.abs := congrArg obY (funext fun a => HandSHeadRun.getT_eq s a)
def lo0 : List Str := ["near_places", "shapes", "turns", "PartlyError", "BadPointers", "BadContract", "BadPlaces", "OtherPointers", "LETTERS", "RESERVED", "LONGEST_NAME", "MOST_POINTERS", "FARTHEST_SPOT", "LONGEST_NUMBER", "lines_of", "is_name", "read_pointers", "check_places", "read_number", "read_pointer", "read_spot", "FARTHEST", "MOST_CELLS", "MODULI", "Fact"]
def lo1 : List Str := ["read_fact", "read_apart", "read_distance", "read_remainder", "all_hold", "far_of", "modulus_of", "MOST_FACTS", "Contract", "read_facts", "joined_lines", "fact_contract", "implied", "_law_begun_pen", "_law_draw", "_law_pick", "_law_shuffled", "_law_new_names", "_law_spot_text", "_law_fact_text", "_law_facts_text", "_law_true", "_law_at", "_law_keeps", "_law_far_of"]
def lo2 : List Str := ["_law_modulus", "_law_new_fact", "_law_new_facts", "_law_spreads", "_law_widths", "_law_touched", "_law_span", "_law_reach", "_law_tests", "_law_room", "_law_wide_fact", "_law_wide_facts", "_law_small_facts", "_law_asked_facts", "_law_near_fact", "_law_other_facts", "_law_idle"]
abbrev loose : List Str := lo0 ++ (lo1 ++ (lo2))
end K05
end
section
set_option Elab.async false
set_option linter.all false
set_option maxRecDepth 100000
set_option maxHeartbeats 0
namespace K05
open PySem PySem.Spec PyProof.Rows L2
theorem run (w : World) : HandSHeadRun.RunEq R (PySem.W.view R.prog [73]) hk ob 6000 loose w := by
  intro os
  kernel_rfl
end K05
end
section
set_option Elab.async false
set_option linter.all false
set_option maxRecDepth 100000
set_option maxHeartbeats 4000000
namespace K05
open PySem PySem.Spec PyProof.Rows L2
section
variable {P : Program} {w : World} {K : PySem.W.Frag} {h : Heap} {mg : Str → Option Value} {base : Heap}
theorem glo (X : K.In h) (G : h.Ns mainGlobals mg) (c : He.SaysD fa fn K) (i : Nat) {x : Str} (e : fa[i]? = some (.glo x)) : mg x = some (.ref (He.ga K x)) := He.glo_ok X G (c.fact i e)
theorem fre (X : K.In h) (G : h.Ns mainGlobals mg) (c : He.SaysD fa fn K) (i : Nat) {x : Str} (e : fa[i]? = some (.free x)) : mg x = none := He.free_ok X G (c.fact i e)
theorem fint (X : K.In h) (G : h.Ns mainGlobals mg) (c : He.SaysD fa fn K) (i : Nat) {x : Str} {n : Int} (e : fa[i]? = some (.int x n)) : ∃ t, mg x = some (.int n t) := He.int_ok X G (c.fact i e)
theorem fstr (X : K.In h) (G : h.Ns mainGlobals mg) (c : He.SaysD fa fn K) (i : Nat) {x z : Str} (e : fa[i]? = some (.str x z)) : ∃ t, mg x = some (.str z t) := He.str_ok X G (c.fact i e)
theorem deff (X : K.In h) (G : h.Ns mainGlobals mg) (c : He.SaysD fa fn K) {x : Str} {st : Stmt} (i j : Nat) (ei : fn[i]? = some ⟨(x, none), x, x, defArgs st, defBody st, defScope st, [], []⟩) (ej : fa[j]? = some (.glo x)) : Def K mg x st := by
  obtain ⟨fd, F⟩ := c.def_ i ei
  exact ⟨_, fd, F, glo X G c j ej⟩
theorem exparts (e : exB K = true) : (tupB K "RESERVED" (strsB CF.Reserved)) = true ∧ (tupB K "MODULI" (intsB [2, 4, 8])) = true ∧ (decide (He.ga K "Fact" ≠ He.ga K "Contract")) = true ∧ (oexB K (He.ga K "BadPlaces")) = true ∧ (iniB K "BadPlaces") = true ∧ (partB K) = true := by
  unfold exB at e
  simp only [Bool.and_eq_true] at e
  exact e
theorem txt (X : K.In h) (G : h.Ns mainGlobals mg) (c : He.SaysD fa fn K) : Txt mg where
  f_int := fre X G c 52 rfl
  f_len := fre X G c 53 rfl
  f_abs := fre X G c 54 rfl
  f_list := fre X G c 55 rfl
  f_range := fre X G c 56 rfl
  f_tuple := fre X G c 57 rfl
  f_isinstance := fre X G c 58 rfl
  f_str := fre X G c 59 rfl
  f_bool := fre X G c 60 rfl
  f_max := fre X G c 61 rfl
  f_sum := fre X G c 63 rfl
theorem txtL (X : K.In h) (G : h.Ns mainGlobals mg) (c : He.SaysD fa fn K) : TxtL mg where
  f_zip := fre X G c 66 rfl
  f_dict := fre X G c 67 rfl
theorem txtM (X : K.In h) (G : h.Ns mainGlobals mg) (c : He.SaysD fa fn K) : TxtM mg where
  f_min := fre X G c 62 rfl
  f_max := fre X G c 61 rfl
theorem txtN (X : K.In h) (G : h.Ns mainGlobals mg) (c : He.SaysD fa fn K) : TxtN mg where
  f_range := fre X G c 56 rfl
  f_max := fre X G c 61 rfl
  f_min := fre X G c 62 rfl
  f_tuple := fre X G c 57 rfl
  f_sorted := fre X G c 68 rfl
theorem txtP (X : K.In h) (G : h.Ns mainGlobals mg) (c : He.SaysD fa fn K) (e : exB K = true) : TxtP K mg where
  f_len := fre X G c 53 rfl
  f_all := fre X G c 64 rfl
  f_tuple := fre X G c 57 rfl
  f_int := fre X G c 52 rfl
  f_abs := fre X G c 54 rfl
  f_max := fre X G c 61 rfl
  f_enumerate := fre X G c 65 rfl
  c_LETTERS := fstr X G c 77 rfl
  c_LONGEST_NAME := fint X G c 70 rfl
  c_MOST_POINTERS := fint X G c 71 rfl
  c_FARTHEST_SPOT := fint X G c 72 rfl
  c_LONGEST_NUMBER := fint X G c 73 rfl
  c_FARTHEST := fint X G c 74 rfl
  c_MOST_CELLS := fint X G c 75 rfl
  c_MOST_FACTS := fint X G c 76 rfl
  g_RESERVED := glo X G c 48 rfl
  g_MODULI := glo X G c 49 rfl
  t_RESERVED := tupS_ok (by decide) (exparts e).1
  t_MODULI := tupI_ok (zs := [2, 4, 8]) (by decide) (exparts e).2.1
theorem c_Fact (c : He.SaysD fa fn K) : FactC K (He.ga K "Fact") where
  cl := He.cls_ok (c.fact 78 rfl)
  n_word := He.noat_ok (c.fact 82 rfl)
  n_left := He.noat_ok (c.fact 83 rfl)
  n_right := He.noat_ok (c.fact 84 rfl)
  n_numbers := He.noat_ok (c.fact 85 rfl)
  n_spans := He.noat_ok (c.fact 86 rfl)
  n_far := He.noat_ok (c.fact 87 rfl)
  n_modulus := He.noat_ok (c.fact 88 rfl)
theorem c_Contract (c : He.SaysD fa fn K) : ContractC K (He.ga K "Contract") where
  cl := He.cls_ok (c.fact 80 rfl)
  n_pointers := He.noat_ok (c.fact 89 rfl)
  n_text := He.noat_ok (c.fact 90 rfl)
  n_lines := He.noat_ok (c.fact 91 rfl)
  n_rows := He.noat_ok (c.fact 92 rfl)
  n_far := He.noat_ok (c.fact 93 rfl)
  n_modulus := He.noat_ok (c.fact 94 rfl)
theorem red_all (X : K.In h) (G : h.Ns mainGlobals mg) (c : He.SaysD fa fn K) (e : exB K = true) (A : Around) (hA : A.guards = some []) (f : Addr) (cdv : Value) (outer : List Env) (s : Shared) (H : Hp) (vs : List V) (Q : VK) (E : XK) (hr : Room 16 (A.deeper (envOfC "law" (defScope s_law) s.heap.objs.size f cdv))) (hs : spLaw K vs H Q E) :
    ∃ t, PSs (cxOf CX0 P w K mg base ["script", "pen", "turn", "pointers", "facts", "others", "one", "two", "room", "rows", "kept", "both", "due", "back", "told", "row", "fact", "line"] "law" (defScope s_law) f cdv A outer s H E).nox (defBody s_law) t ∧ t { nx := fun _ H' => Q .non H', rt := Q } (start ["script", "pen", "turn", "pointers", "facts", "others", "one", "two", "room", "rows", "kept", "both", "due", "back", "told", "row", "fact", "line"] vs) H := by
  have T := txt X G c
  have Z := txtL X G c
  have M := txtM X G c
  have TN := txtN X G c
  have TP := txtP X G c e
  have FC := c_Fact c
  have DC := c_Contract c
  obtain ⟨_, _, e3, e4, e5, e6⟩ := exparts e
  have nCD : He.ga K "Fact" ≠ He.ga K "Contract" := of_decide_eq_true e3
  have TE : TxtE K mg (He.ga K "PartlyError") := ⟨fre X G c 57 rfl, glo X G c 51 rfl, (partB_ok e6).1, (partB_ok e6).2⟩
  have c_draw : Cal P w K mg base 1 "_law_draw" ["pen", "span"] spDraw := ok_draw T (deff X G c 1 1 rfl rfl)
  have c_begun : Cal P w K mg base 1 "_law_begun_pen" ["script"] (spBegun K) := ok_begun_pen T (deff X G c 0 0 rfl rfl)
  have c_pick : Cal P w K mg base 2 "_law_pick" ["pen", "options"] (spPick K) := ok_pick T (deff X G c 2 2 rfl rfl) c_draw
  have c_shuf : Cal P w K mg base 2 "_law_shuffled" ["pen", "items"] (spShuffled K) := ok_shuffled T (deff X G c 3 3 rfl rfl) c_draw
  have c_nn : Cal P w K mg base 3 "_law_new_names" ["pen", "many"] (spNewNames K) := ok_new_names T (deff X G c 4 4 rfl rfl) c_shuf
  have c_wf : Cal P w K mg base 3 "_law_wide_fact" ["pen", "pointers"] (spWideFact K) := ok_wide_fact T (deff X G c 14 14 rfl rfl) c_draw c_pick
  have c_wfs : Cal P w K mg base 4 "_law_wide_facts" ["pen", "pointers", "many"] (spWideFacts K) := ok_wide_facts T (deff X G c 15 15 rfl rfl) c_wf
  have c_nf : Cal P w K mg base _ _ _ _ := ok_new_fact T M (deff X G c 16 16 rfl rfl) c_draw c_pick
  have c_nfs : Cal P w K mg base _ _ _ _ := ok_new_facts T (deff X G c 17 17 rfl rfl) c_nf
  have c_small : Cal P w K mg base _ _ _ _ := ok_small_facts T (deff X G c 18 18 rfl rfl) c_draw c_nfs
  have c_asked : Cal P w K mg base _ _ _ _ := ok_asked_facts T (deff X G c 19 19 rfl rfl) c_small c_wfs
  have c_spot : Cal P w K mg base 1 "_law_spot_text" ["name", "number"] spSpotText := ok_spot_text T (deff X G c 5 5 rfl rfl)
  have c_ft : Cal P w K mg base 2 "_law_fact_text" ["fact"] (spFactText K) := ok_fact_text T (deff X G c 6 6 rfl rfl) c_spot
  have c_fts : Cal P w K mg base 3 "_law_facts_text" ["facts"] spFactsText := ok_facts_text T (deff X G c 7 7 rfl rfl) c_ft
  have c_far : Cal P w K mg base 1 "_law_far_of" ["fact"] spFarOf := ok_far_of T (deff X G c 11 11 rfl rfl)
  have c_mod : Cal P w K mg base 1 "_law_modulus" ["facts"] spModulus := ok_modulus T (deff X G c 12 12 rfl rfl)
  have c_room : Cal P w K mg base _ _ _ _ := ok_room T M (deff X G c 13 13 rfl rfl) c_far c_mod
  have c_at : Cal P w K mg base 1 "_law_at" ["pointers", "places"] (spAt K) := ok_at T Z (deff X G c 9 9 rfl rfl)
  have c_true : Cal P w K mg base 1 "_law_true" ["fact", "at"] spTrue := ok_true T (deff X G c 8 8 rfl rfl)
  have c_keeps : Cal P w K mg base _ _ _ _ := ok_keeps T (deff X G c 10 10 rfl rfl) c_at c_true
  have c_spr : Cal P w K mg base _ _ _ _ := ok_spreads T M (deff X G c 20 20 rfl rfl)
  have c_nearf : Cal P w K mg base _ _ _ _ := ok_near_fact T M (deff X G c 21 21 rfl rfl) c_draw c_pick c_far
  have c_other : Cal P w K mg base _ _ _ _ := ok_other_facts T (deff X G c 22 22 rfl rfl) c_draw c_nearf c_wf
  have c_lidle : Cal P w K mg base _ _ _ _ := ok_idle T (deff X G c 23 23 rfl rfl) c_keeps
  have c_isn : Cal P w K mg base 1 "is_name" ["word"] spName := ok_is_name TP (deff X G c 25 25 rfl rfl)
  have c_lo : Cal P w K mg base 1 "lines_of" ["text"] spLinesOf := ok_lines_of TP (deff X G c 24 24 rfl rfl)
  have c_rps : Cal P w K mg base 2 "read_pointers" ["pointers"] (spReadPointers K) := ok_read_pointers TP (deff X G c 26 26 rfl rfl) c_isn
  have c_rn : Cal P w K mg base 1 "read_number" ["word", "low", "high"] spReadNumber := ok_read_number TP (deff X G c 27 27 rfl rfl)
  have c_rp : Cal P w K mg base 3 "read_pointer" ["word", "pointers"] (spReadPointer K) := ok_read_pointer TP (deff X G c 28 28 rfl rfl)
  have c_rs : Cal P w K mg base 4 "read_spot" ["word", "pointers"] (spReadSpot K) := ok_read_spot TP (deff X G c 29 29 rfl rfl) c_rp c_rn
  obtain ⟨fdF, FF⟩ := c.def_ 46 (d := d_Fact___init__) rfl
  have mF : Mkc P w K mg base 1 "Fact" (He.ga K "Fact") ["self", "word", "left", "right", "numbers"] (spFactInit K (He.ga K "Fact")) := ⟨_, fdF, ok_fact_init TP FC FF, glo X G c 46 rfl, He.mkr_ok (c.fact 79 rfl), FF.bindsN (ps := ["self", "word", "left", "right", "numbers"]) fun _ _ _ _ _ _ us hl => match us, hl with | [_, _, _, _, _], _ => rfl⟩
  have c_rr : Cal P w K mg base _ _ _ _ := ok_read_remainder TP (deff X G c 33 33 rfl rfl) c_rn mF
  have c_rd : Cal P w K mg base _ _ _ _ := ok_read_distance TP (deff X G c 32 32 rfl rfl) c_rp c_rn mF
  have c_ra : Cal P w K mg base _ _ _ _ := ok_read_apart TP (deff X G c 31 31 rfl rfl) c_rs c_rn mF
  have c_rf : Cal P w K mg base _ _ _ _ := ok_read_fact TP (deff X G c 30 30 rfl rfl) c_rp c_ra c_rd c_rr
  have c_rfs : Cal P w K mg base _ _ _ _ := ok_read_facts TP (deff X G c 36 36 rfl rfl) c_rf
  have c_pf : Cal P w K mg base 1 "far_of" ["things"] (sp_far_of K (He.ga K "Fact")) := ok_pfar_of TP (deff X G c 34 34 rfl rfl) FC
  have c_pm : Cal P w K mg base 1 "modulus_of" ["things"] (sp_modulus_of K (He.ga K "Fact")) := ok_modulus_of TP (deff X G c 35 35 rfl rfl) FC
  obtain ⟨fdC, FCi⟩ := c.def_ 47 (d := d_Contract___init__) rfl
  have mC : Mkc P w K mg base 8 "Contract" (He.ga K "Contract") ["self", "pointers", "text"] (spContractInit K (He.ga K "Fact") (He.ga K "Contract")) := ⟨_, fdC, ok_contract_init nCD TP FC DC FCi c_rps c_lo c_rfs c_pf c_pm, glo X G c 47 rfl, He.mkr_ok (c.fact 81 rfl), FCi.bindsN (ps := ["self", "pointers", "text"]) fun _ _ _ _ _ _ us hl => match us, hl with | [_, _, _], _ => rfl⟩
  obtain ⟨fdB, FB⟩ := c.def_ 56 (d := d_BadPlaces) rfl
  have eB : ExK P w K mg base "BadPlaces" ["self"] (spIni0 (He.ga K "BadPlaces")) := ⟨oexB_ok e4, glo X G c 50 rfl, _, fdB, ok_BadPlaces TE FB (oexB_ok e4), FB.bindsN (ps := ["self"]) fun _ _ _ _ _ _ us hl => match us, hl with | [_], _ => rfl, (iniB_ok e5).1, (iniB_ok e5).2⟩
  obtain ⟨fdH, FH⟩ := c.def_ 48 (d := d_Fact_holds) rfl
  have mH : MthX P w K mg base CX0 1 (He.ga K "Fact") "holds" ["self", "places"] (spHolds K (He.ga K "Fact")) := ⟨FC.cl, _, fdH, ok_holds TP FC FH, He.meth_ok (c.fact 102 rfl), FH.bindsN (ps := ["self", "places"]) fun _ _ _ _ _ _ us hl => match us, hl with | [_, _], _ => rfl⟩
  have c_chk : CalX P w K mg base 3 "check_places" ["pointers", "places"] (spCheck K) := ok_check_places TP (deff X G c 37 37 rfl rfl) eB
  have c_all : Cal P w K mg base 3 "all_hold" ["facts", "places"] (spAllHold K (He.ga K "Fact")) := ok_all_hold TP (deff X G c 38 38 rfl rfl) mH
  obtain ⟨fdK, FK⟩ := c.def_ 49 (d := d_Contract_keeps) rfl
  have mK : MthX P w K mg base (CX P w) 4 (He.ga K "Contract") "keeps" ["self", "places"] (spKeeps K (He.ga K "Fact") (He.ga K "Contract")) := ⟨DC.cl, _, fdK, ok_Contract_keeps TP FK DC c_chk c_all, He.meth_ok (c.fact 95 rfl), FK.bindsN (ps := ["self", "places"]) fun _ _ _ _ _ _ us hl => match us, hl with | [_, _], _ => rfl⟩
  have c_turns : Cal P w K mg base _ _ _ _ := ok_turns TN (deff X G c 39 39 rfl rfl)
  have c_shapes : Cal P w K mg base _ _ _ _ := ok_shapes TN (deff X G c 40 40 rfl rfl) c_turns
  have c_near := ok_near (P := P) (w := w) (K := K) (base := base) TN c_shapes (deff X G c 41 41 rfl rfl)
  obtain ⟨fdR, FR⟩ := c.def_ 50 (d := d_Contract_broken) rfl
  have mR : MthX P w K mg base (CX P w) 4 (He.ga K "Contract") "broken" ["self", "places"] (spBroken K (He.ga K "Fact") (He.ga K "Contract")) := ⟨DC.cl, _, fdR, ok_Contract_broken TP FR DC c_chk mH, He.meth_ok (c.fact 96 rfl), FR.bindsN (ps := ["self", "places"]) fun _ _ _ _ _ _ us hl => match us, hl with | [_, _], _ => rfl⟩
  have c_cf : Cal P w K mg base 1 "far_of" ["things"] (sp_cfar K (He.ga K "Fact") (He.ga K "Contract")) := ok_cfar_of TP (deff X G c 34 34 rfl rfl) DC
  have c_cm : Cal P w K mg base 1 "modulus_of" ["things"] (sp_cmodulus K (He.ga K "Fact") (He.ga K "Contract")) := ok_cmodulus_of TP (deff X G c 35 35 rfl rfl) DC
  have c_joined : Cal P w K mg base _ _ _ _ := ok_joined_lines TP (deff X G c 42 42 rfl rfl) nCD DC mC c_pf c_pm
  have c_fc : Cal P w K mg base _ _ _ _ := ok_fact_contract TP (deff X G c 43 43 rfl rfl) c_rf c_joined
  have c_imp : Cal P w K mg base _ _ _ _ := ok_implied TP (deff X G c 44 44 rfl rfl) DC c_cf c_cm c_near mK
  obtain ⟨fdO, FO⟩ := c.def_ 51 (d := d_Contract_follows) rfl
  have mO : MthX P w K mg base CX0 12 (He.ga K "Contract") "follows" ["self", "line"] (spFollows K (He.ga K "Fact") (He.ga K "Contract")) := ⟨DC.cl, _, fdO, ok_Contract_follows TP FO DC c_fc c_imp, He.meth_ok (c.fact 97 rfl), FO.bindsN (ps := ["self", "line"]) fun _ _ _ _ _ _ us hl => match us, hl with | [_, _], _ => rfl⟩
  obtain ⟨fdI, FI⟩ := c.def_ 52 (d := d_Contract_implies) rfl
  have mI : MthX P w K mg base CX0 7 (He.ga K "Contract") "implies" ["self", "other"] (spImplies K (He.ga K "Fact") (He.ga K "Contract")) := ⟨DC.cl, _, fdI, ok_Contract_implies TP FI DC c_imp, He.meth_ok (c.fact 98 rfl), FI.bindsN (ps := ["self", "other"]) fun _ _ _ _ _ _ us hl => match us, hl with | [_, _], _ => rfl⟩
  obtain ⟨fdS, FS⟩ := c.def_ 53 (d := d_Contract_same) rfl
  have mS : MthX P w K mg base CX0 8 (He.ga K "Contract") "same" ["self", "other"] (spSame K (He.ga K "Fact") (He.ga K "Contract")) := ⟨DC.cl, _, fdS, ok_Contract_same TP FS mI, He.meth_ok (c.fact 99 rfl), FS.bindsN (ps := ["self", "other"]) fun _ _ _ _ _ _ us hl => match us, hl with | [_, _], _ => rfl⟩
  obtain ⟨fdD, FD⟩ := c.def_ 54 (d := d_Contract_idle) rfl
  have mD : MthX P w K mg base CX0 7 (He.ga K "Contract") "idle" ["self"] (spIdle K (He.ga K "Fact") (He.ga K "Contract")) := ⟨DC.cl, _, fdD, ok_Contract_idle TP FD TN DC c_near mR, He.meth_ok (c.fact 100 rfl), FD.bindsN (ps := ["self"]) fun _ _ _ _ _ _ us hl => match us, hl with | [_], _ => rfl⟩
  obtain ⟨fdT, FT⟩ := c.def_ 55 (d := d_Contract___iter__) rfl
  have mT := He.meth_ok (c.fact 101 rfl)
  have W : ItW P w K mg base (He.ga K "Contract") (He.ma K (He.ga K "Contract") "__iter__") := ⟨mT.at_, mT.fn, contract_iter (fre X G c 69 rfl) DC FT⟩
  exact law_red T Z W c_begun c_draw c_pick c_nn c_asked c_other c_ft c_fts c_room c_spr c_keeps c_lidle mO mI mS mD mC A f cdv outer s H vs Q E hr hs
end
end K05
end
set_option Elab.async false
set_option linter.all false
set_option maxRecDepth 100000
set_option maxHeartbeats 4000000
open PySem PySem.W PySem.Calls PyProof.Rows PySem.Spec
theorem PySem.Challenge.cw_partlymet_k05_whole_implied_holds : PySem.Challenge.rw_partlymet_k05_whole_implied.Holds := by
  w_on; o_law
  refine HandSHeadRun.head_any (r := OpenLaw.row PySem.Challenge.rw_partlymet_k05_whole_implied) (q := view (OpenLaw.row PySem.Challenge.rw_partlymet_k05_whole_implied).prog [73]) (H := K05.hk) (ob := K05.ob) (M := 6000) (loose := K05.loose) (d := HandSHeadRun.topDef (OpenLaw.row PySem.Challenge.rw_partlymet_k05_whole_implied).prog 73) (kwd := []) K05.ob_eq
    (by kernel_rfl) (fun s => by kernel_rfl) K05.run (by kernel_rfl) (by kernel_rfl) (by kernel_rfl) (by rfl) (by first | assumption | decide +kernel) (by decide +kernel) ⟨rfl, rfl, rfl, rfl, rfl, by decide +kernel⟩ ?hw ?hc
  case hw => w_witness2
  case hc =>
    refine Att.attach_call (l := PySem.Challenge.rw_partlymet_k05_whole_implied) (n := 63) rfl (by kernel_rfl) fun w s₀ s₁ mg mb fa o pm cd doc a vs ns G Y ho hd hcd hmg0 hobj hints hlen hg => ?_
    obtain ⟨K, KX, y, e⟩ := Y
    have c : He.SaysD K05.fa K05.fn K := congrArg Prod.fst y
    have hmg : mg ("law" : PySem.Str) = some (.ref fa) := by
      have e : (HandSHeadRun.topDef (OpenLaw.row PySem.Challenge.rw_partlymet_k05_whole_implied).prog 73).name = ("law" : PySem.Str) := by kernel_rfl
      rw [← e]
      exact hmg0
    obtain ⟨fd, F⟩ := c.def_ 45 (d := K05.d_law) rfl
    have ea := hmg.symm.trans (K05.glo KX G.T.g c 45 rfl)
    cases ea
    exact L2.law_at KX G.T.g G.T.b G.T.builtins G.T.nolimit hg hobj hints (Nat.le_trans hlen (by decide)) fun base KB hns H hO hS e0 =>
      L2.fun_at (k := 16) (vs := [L2.V.ref a]) (us := [Value.ref a]) (sp := K05.spLaw K) (ps := ["script"]) F K05.sc_law (fun vs H Q E h => by
          obtain ⟨a, ns, rfl, _⟩ := h
          rfl) callerA (fun cdv outer s H vs Q E hr hs => by
          obtain ⟨t, ht, q⟩ := K05.red_all KB hns c e callerA rfl _ cdv outer s H vs Q E hr hs
          exact ⟨t, ht.nox, q⟩)
        ⟨rfl, by decide, by decide⟩ e0 (L2.FunD.bindsA (ps := ["script"]) F (fun _ _ _ _ _ _ us hl => match us, hl with | [_], _ => rfl) _ [_] rfl) (.cons rfl .nil) ⟨a, ns, rfl, hS, fun _ => rfl⟩
