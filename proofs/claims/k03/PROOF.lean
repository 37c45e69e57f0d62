import PyProof.Rows.All
import Wide.All
import OpenK.AllK
import Wide.FinOn
import HandS.ForMost
import HandS.Defaults
import HandS.Wide
import HandS.Codes
import HandS.Deep
import HandS.ForExc
import HandS.HeadHook2
import HandS.HeadHook4
import HandS.Lambda
import HandS.Nested
import HandS.Walk
import HandS.Zip
import HandS.SortRule
import HandS.SortKw
import HandS.EndBits
import HandS.HeadEnd
import HandS.IterVal
import HandS.IterNext
import HandS.OwnIter
import HandS.FStr
import HandS.FStrTup
import KE.KExcIs
import HandS.ExcInit
import HandS.ExcField
import HandS.ClsMeth
import HandS.IsInst
import KE.KLam
import HandS.Exc
import HandS.ExcOwn
import KE.KDictZip
import HandS.Head0
import HandS.Head1
import HandS.Head2
import HandS.HeadHook1
import HandS.HeadHook3
import HandS.ExcIs
import PySem.Challenge.RW_partlymet_k03_places_told
import HandS.Style
import HandS.StrMore
import HandS.TupAny
import HandS.EndTab
section
set_option Elab.async false
set_option linter.all false
set_option maxRecDepth 100000
set_option maxHeartbeats 4000000
namespace L2
open PySem PySem.Spec PyProof.Rows
/-! a def of the text behind the top, and its promise, by its name -/
structure Def (K : PySem.W.Frag) (mg : Str → Option Value) (x : Str) (st : Stmt) : Prop where
  ex : ∃ f fd, FunD K x x (defArgs st) (defBody st) (defScope st) [] [] f fd ∧ mg x = some (.ref f)
structure Cal (P : Program) (w : World) (K : PySem.W.Frag) (mg : Str → Option Value) (base : Heap) (k : Nat) (x : Str) (ps : List Str) (sp : Sp) : Prop where
  ex : ∃ f fd, FnOk P w K mg base CX0 k f fd ps sp ∧ mg x = some (.ref f) ∧ PySem.W.keepIn K (.ref f) = true ∧ Binds K fd ps []
section
variable {P : Program} {w : World} {K : PySem.W.Frag} {mg : Str → Option Value} {base : Heap} {k : Nat} {x : Str} {N ps : List Str} {sp : Sp} {st : Stmt}
theorem Def.cal (D : Def K mg x st) (S : FnScope N ps (defScope st)) (len : ∀ vs H Q E, sp vs H Q E → vs.length = ps.length)
    (hb : ∀ (kV doc pm : Value) (an : Option Addr) (cdv ct : Value) (us : List Value), us.length = ps.length → bindArgs (PySem.W.fnOf x x (defArgs st) (defBody st) (defScope st) .none kV doc pm an cdv ct) ⟨us, []⟩ = pure (ps.zip us))
    (body : ∀ (f : Addr) (cdv : Value) (A : Around) (outer : List Env) (s : Shared) (H : Hp) (vs : List V) (Q : VK) (E : XK), Room k (A.deeper (envOfC x (defScope st) s.heap.objs.size f cdv)) → sp vs H Q E →
      ∃ t, PSs (cxOf CX0 P w K mg base N x (defScope st) f cdv A outer s H E).nox (defBody st) t ∧ t { nx := fun _ H' => Q .non H', rt := Q } (start N vs) H) : Cal P w K mg base (k + 1) x ps sp := by
  obtain ⟨f, fd, F, hm⟩ := D.ex
  refine ⟨f, fd, F.ok S len (fun cdv A outer s H vs Q E hr h => ?_), hm, F.kp, F.bindsN hb⟩
  obtain ⟨t, h1, h2⟩ := body f cdv A outer s H vs Q E hr h
  exact ⟨t, h1.nox, h2⟩
theorem Cal.mono {j : Nat} (C : Cal P w K mg base j x ps sp) (h : j ≤ k) : Cal P w K mg base k x ps sp := by
  obtain ⟨f, fd, G, m, kp, b⟩ := C.ex
  exact ⟨f, fd, G.mono h, m, kp, b⟩
end
section
variable {X : Cx} {k : Nat} {x : Str} {ps : List Str} {sp : Sp} {e : Expr} {es : List Expr} {t : TA} {p pos : Pos}
theorem pe_cal (C : Cal X.prog X.w X.K X.mg X.base k x ps sp) (hr : Room k X.A) (hg : Gl X x) (ha : PA X (e :: es) t) (hdb : (x == ("__debug__" : Str)) = false := by decide)
    (he : starEach (e :: es) X.env = (false, eval e X.env) :: starEach es X.env := by rfl) (hpl : (backTo pos (starEach es X.env)).any (·.1) = false := by rfl) : PE X (.Call (.Name x p) (e :: es) [] pos) (tCall sp [] E0 t) := by
  obtain ⟨f, fd, G, m, kp, b⟩ := C.ex
  exact pe_call G hr hg m kp b .nil pass0 ha hdb he hpl
theorem pe_cal0 (C : Cal X.prog X.w X.K X.mg X.base k x ps sp) (hr : Room k X.A) (hg : Gl X x) (hdb : (x == ("__debug__" : Str)) = false := by decide) : PE X (.Call (.Name x p) [] [] pos) (tCall sp [] E0 tNil) := by
  obtain ⟨f, fd, G, m, kp, b⟩ := C.ex
  exact pe_call0 G hr hg m kp b .nil pass0 hdb
end
section
variable {X : Cx} {x : Str} {a : Addr} {pos : Pos}
theorem pe_gref (hg : Gl X x) (hm : X.mg x = some (.ref a)) (hd : (x == ("__debug__" : Str)) = false := by decide) : PE X (.Name x pos) (tC (.ref a)) := pe_glob hg hm rfl hd
theorem pe_gint {i : Int} (hg : Gl X x) (hm : ∃ t, X.mg x = some (.int i t)) (hd : (x == ("__debug__" : Str)) = false := by decide) : PE X (.Name x pos) (tC (.int i)) := by
  obtain ⟨t, e⟩ := hm
  exact pe_glob hg e ⟨t, rfl⟩ hd
theorem pe_gstr {z : Str} (hg : Gl X x) (hm : ∃ t, X.mg x = some (.str z t)) (hd : (x == ("__debug__" : Str)) = false := by decide) : PE X (.Name x pos) (tC (.str z)) := by
  obtain ⟨t, e⟩ := hm
  exact pe_glob hg e ⟨t, rfl⟩ hd
theorem pe_gty {T : String} (hg : Gl X x) (hm : X.mg x = none) (hv : bootBuiltins x = some (.type T)) (hn : x ≠ "__name__" := by decide) (hd : (x == ("__debug__" : Str)) = false := by decide) : PE X (.Name x pos) (tC (.ty T)) := pe_bltn hg hm hv rfl hn hd
end
/-! what stays: all but the object at p -/
def But (p : Addr) (H H' : Hp) : Prop := ∀ b o, b ≠ p → H b = some o → H' b = some o
theorem But.refl (p : Addr) (H : Hp) : But p H H := fun _ _ _ h => h
theorem But.trans {p : Addr} {H H1 H2 : Hp} (a : But p H H1) (b : But p H1 H2) : But p H H2 := fun c o n h => b c o n (a c o n h)
theorem But.of {p : Addr} {H H' : Hp} (a : Same H H') : But p H H' := fun c o _ h => a c o h
theorem But.upd {p : Addr} {o : HO} (H : Hp) : But p H (upd H p o) := fun c u n h => by rw [upd_ne n]; exact h
theorem Same.new {H : Hp} {p : Addr} {o : HO} (h : H p = none) : Same H (upd H p o) := fun c u e => by rw [upd_ne (ne_of_none e h)]; exact e
theorem Same.put {H H' : Hp} {p : Addr} {o : HO} (s : Same H H') (h : H p = none) : Same H (upd H' p o) := fun c u e => by rw [upd_ne (ne_of_none e h)]; exact s c u e
theorem But.put {q : Addr} {H H' : Hp} {p : Addr} {o : HO} (s : But q H H') (h : H p = none) : But q H (L2.upd H' p o) := fun c u n e => by rw [upd_ne (ne_of_none e h)]; exact s c u n e
theorem But.free {p : Addr} {H H' : Hp} (s : But p H H') {a : Addr} (n : a ≠ p) (h : H' a = none) : H a = none := by
  cases e : H a with
  | none => rfl
  | some o => rw [s a o n e] at h; cases h
theorem But.seq {K : PySem.W.Frag} {p a : Addr} {H H' : Hp} {xs : List V} (s : But p H H') (n : a ≠ p) (h : SqL K H a xs) : SqL K H' a xs := by
  rcases h with (h | ⟨o, h⟩) | h
  · exact .inl (.inl (s _ _ n h))
  · exact .inl (.inr ⟨o, s _ _ n h⟩)
  · exact .inr h
/-! the pen: where the draws come from -/
def penV (l : Addr) (t lf : Int) : List (Key × V) := [(Sum.inr "cells", .ref l), (Sum.inr "turn", .int t), (Sum.inr "left", .int lf)]
structure Pen (H : Hp) (p l : Addr) (t : Int) : Prop where
  ex : ∃ (ns : List Int) (lf : Int), H p = some (.dK (penV l t lf)) ∧ H l = some (.lst (ns.map V.int)) ∧ 0 ≤ lf
  pos : 0 ≤ t
theorem Pen.ne {H : Hp} {p l : Addr} {t : Int} (h : Pen H p l t) : l ≠ p := by
  obtain ⟨ns, lf, h1, h2, _⟩ := h.ex
  exact ne_of h2 h1 (by intro z; cases z)
theorem Pen.at_ {H : Hp} {p l : Addr} {t : Int} (h : Pen H p l t) : ∃ o, H p = some o := by
  obtain ⟨ns, lf, h1, h2, _⟩ := h.ex
  exact ⟨_, h1⟩
theorem Pen.same {H H' : Hp} {p l : Addr} {t : Int} (h : Pen H p l t) (s : Same H H') : Pen H' p l t := by
  obtain ⟨ns, lf, h1, h2, h3⟩ := h.ex
  exact ⟨⟨ns, lf, s _ _ h1, s _ _ h2, h3⟩, h.pos⟩
theorem Pen.new {H : Hp} {p l q : Addr} {t : Int} {o : HO} (h : Pen H p l t) (n : H q = none) : Pen (upd H q o) p l t := h.same (Same.new n)
theorem Pen.put {H : Hp} {p l q : Addr} {t : Int} {o : HO} (h : Pen H p l t) (n1 : q ≠ p) (n2 : q ≠ l) : Pen (upd H q o) p l t := by
  obtain ⟨ns, lf, h1, h2, h3⟩ := h.ex
  exact ⟨⟨ns, lf, by rw [upd_ne n1.symm]; exact h1, by rw [upd_ne n2.symm]; exact h2, h3⟩, h.pos⟩
/-- what every drawing def leaves: the pen a few turns on, all else as it was -/
def Drew (c : Int) (p l : Addr) (t : Int) (H : Hp) (H' : Hp) : Prop := (∃ t', Pen H' p l t' ∧ t ≤ t' ∧ t' ≤ t + c) ∧ But p H H'
/-- draw(pen, span) -/
def spDraw : Sp := fun vs H Q _ => ∃ (p l : Addr) (t span : Int), vs = [.ref p, .int span] ∧ Pen H p l t ∧ t ≤ 1000000000 ∧ 0 < span ∧ span.natAbs < 2 ^ 250 ∧ ∀ (v : Int) (H' : Hp) (t' : Int), 0 ≤ v → v < span → Pen H' p l t' → t ≤ t' → t' ≤ t + 1 → But p H H' → Q (.int v) H'
end L2
end
section
set_option Elab.async false
set_option linter.all false
set_option maxRecDepth 100000
set_option maxHeartbeats 4000000
namespace L2
open PySem PySem.Spec PyProof.Rows
theorem But.nw {p q : Addr} {H H1 : Hp} {o : HO} (B : But p H H1) (h : H1 q = none) : But p H (L2.upd H1 q o) := B.trans (But.of (Same.new h))
theorem Same.tup {K : PySem.W.Frag} {a : Addr} {H H' : Hp} {xs : List V} (s : Same H H') (h : SqT K H a xs) : SqT K H' a xs := by
  rcases h with (h | ⟨o, h⟩) | h
  · exact .inl (.inl (s _ _ h))
  · exact .inl (.inr ⟨o, s _ _ h⟩)
  · exact .inr h
theorem But.tupI {K : PySem.W.Frag} {o a C dx : Addr} {fs : List (Str × V)} {H H' : Hp} {xs : List V} (b : But o H H') (ho : H o = some (.ins C dx fs)) (h : SqT K H a xs) : SqT K H' a xs := by
  rcases h with (h | ⟨u, h⟩) | h
  · exact .inl (.inl (b _ _ (fun z => by rw [z, ho] at h; cases h) h))
  · exact .inl (.inr ⟨u, b _ _ (fun z => by rw [z, ho] at h; cases h) h⟩)
  · exact .inr h
theorem units65 {k : Nat} {A : Around} (hr : Room k A) : A.units + 65 < cLine := by
  have := hr.un
  omega
end L2
namespace CF
open PySem PySem.Spec PyProof.Rows L2
/-! facts as the laws write them down -/
inductive FD where
  | by_ (a : Str) (m r : Int)
  | gap (a b : Str) (m r : Int)
  | apart (a : Str) (k n : Int) (b : Str) (e c : Int)
  | dist (w a b : Str) (n : Int)
  deriving DecidableEq
/-- the law's tuple -/
def FD.vs : FD → List V
  | .by_ a m r => [.str "by", .str a, .int m, .int r]
  | .gap a b m r => [.str "gap", .str a, .str b, .int m, .int r]
  | .apart a k n b e c => [.str "apart", .str a, .int k, .int n, .str b, .int e, .int c]
  | .dist w a b n => [.str w, .str a, .str b, .int n]
/-- its data -/
def FD.ds : FD → List PyData
  | .by_ a m r => [.str "by", .str a, .int m, .int r]
  | .gap a b m r => [.str "gap", .str a, .str b, .int m, .int r]
  | .apart a k n b e c => [.str "apart", .str a, .int k, .int n, .str b, .int e, .int c]
  | .dist w a b n => [.str w, .str a, .str b, .int n]
def Sorts : List Str := ["from", "upto", "is"]
def Rem (m r : Int) : Prop := (m = 2 ∨ m = 4 ∨ m = 8) ∧ 0 ≤ r ∧ r < m
def Off (k : Int) : Prop := -30 ≤ k ∧ k ≤ 30
def Many (n : Int) : Prop := 1 ≤ n ∧ n ≤ 16
/-- a fact over the pointers ps -/
def FD.Ok (ps : List Str) : FD → Prop
  | .by_ a m r => a ∈ ps ∧ Rem m r
  | .gap a b m r => a ∈ ps ∧ b ∈ ps ∧ b ≠ a ∧ Rem m r
  | .apart a k n b e c => a ∈ ps ∧ b ∈ ps ∧ b ≠ a ∧ Off k ∧ Many n ∧ Off e ∧ Many c
  | .dist w a b n => w ∈ Sorts ∧ a ∈ ps ∧ b ∈ ps ∧ b ≠ a ∧ -40 ≤ n ∧ n ≤ 40
/-- words that no pointer is named with -/
def Reserved : List Str := ["input", "load", "store", "set", "join", "part", "each", "copy", "up", "down", "fill", "step", "when", "else", "end", "times", "give", "call", "to", "from", "upto", "is", "apart", "by"]
/-- a pointer's name -/
structure NameOk (z : Str) : Prop where
  free : z ∉ Reserved
  lo : 1 ≤ z.length
  hi : z.length ≤ 12
  letters : ∀ c ∈ TL.tl z, 97 ≤ c ∧ c ≤ 122
def Names (ps : List Str) : Prop := (∀ z ∈ ps, NameOk z) ∧ ps.Nodup ∧ 1 ≤ ps.length ∧ ps.length ≤ 3
theorem dps_vs (K : PySem.W.Frag) (H : Hp) (f : FD) : DpAll K H f.vs f.ds := by
  cases f <;> repeat (first | exact .nil | refine .cons (by first | exact .str _ | exact .int _) ?_)
/-- facts at their places -/
inductive FAt (H : Hp) : List Addr → List FD → Prop
  | nil : FAt H [] []
  | cons {q : Addr} {f : FD} {qs : List Addr} {fs : List FD} : H q = some (.tup f.vs) → FAt H qs fs → FAt H (q :: qs) (f :: fs)
theorem FAt.same {H H' : Hp} {qs : List Addr} {fs : List FD} (h : FAt H qs fs) (s : Same H H') : FAt H' qs fs := by
  induction h with
  | nil => exact .nil
  | cons a _ ih => exact .cons (s _ _ a) ih
theorem FAt.but {p : Addr} {H H' : Hp} {kvs : List (Key × V)} {qs : List Addr} {fs : List FD} (h : FAt H qs fs) (hp : H p = some (.dK kvs)) (s : But p H H') : FAt H' qs fs := by
  induction h with
  | nil => exact .nil
  | cons a _ ih => exact .cons (s _ _ (fun z => by rw [z, hp] at a; cases a) a) ih
theorem FAt.app {H : Hp} {q : Addr} {f : FD} {qs : List Addr} {fs : List FD} (h : FAt H qs fs) (a : H q = some (.tup f.vs)) : FAt H (qs ++ [q]) (fs ++ [f]) := by
  induction h with
  | nil => exact .cons a .nil
  | cons b _ ih => exact .cons b ih
theorem FAt.up {H : Hp} {p : Addr} {xs : List V} {o : HO} {qs : List Addr} {fs : List FD} (h : FAt H qs fs) (hp : H p = some (.lst xs)) : FAt (upd H p o) qs fs := by
  induction h with
  | nil => exact .nil
  | cons a _ ih => exact .cons (by rw [upd_ne (fun z => by rw [z, hp] at a; cases a)]; exact a) ih
theorem FAt.len {H : Hp} {qs : List Addr} {fs : List FD} (h : FAt H qs fs) : qs.length = fs.length := by
  induction h with
  | nil => rfl
  | cons _ _ ih => rw [List.length_cons, List.length_cons, ih]
theorem FAt.at_ {H : Hp} {qs : List Addr} {fs : List FD} (h : FAt H qs fs) : ∀ {i : Nat} {q : Addr}, qs[i]? = some q → ∃ f, fs[i]? = some f ∧ H q = some (.tup f.vs) := by
  induction h with
  | nil => intro i q z; cases z
  | @cons q0 f qs fs a _ ih =>
    intro i q z
    cases i with
    | zero =>
      simp only [List.getElem?_cons_zero, Option.some.injEq] at z
      subst z
      exact ⟨f, rfl, a⟩
    | succ j =>
      rw [List.getElem?_cons_succ] at z ⊢
      exact ih z
theorem FAt.dps {K : PySem.W.Frag} {H : Hp} {qs : List Addr} {fs : List FD} (h : FAt H qs fs) : DpAll K H (qs.map V.ref) (fs.map fun f => PyData.tuple f.ds) := by
  induction h with
  | nil => exact .nil
  | cons a _ ih => exact .cons (.tup (SqT.of a) (dps_vs _ _ _)) ih
/-! data that is shaped -/
def Flat (d : PyData) : Prop := d.canLay0 = true ∧ d.depth = 0
theorem flats : ∀ ds : List PyData, (∀ d ∈ ds, Flat d) → PyData.canLayAll0 ds = true ∧ PyData.depthAll ds = 0
  | [], _ => ⟨rfl, rfl⟩
  | d :: r, h => by
    obtain ⟨a, b⟩ := flats r fun x hx => h x (List.mem_cons_of_mem _ hx)
    obtain ⟨c, e⟩ := h d List.mem_cons_self
    refine ⟨?_, ?_⟩
    · show (PyData.canLay0 d && PyData.canLayAll0 r) = true
      rw [a, c]
      rfl
    · show max (PyData.depth d) (PyData.depthAll r) = 0
      rw [b, e]
      rfl
theorem shaped_tup {ds : List PyData} (h : ∀ d ∈ ds, Flat d) : SeqAt.shaped (.tuple ds) = true := by
  obtain ⟨a, b⟩ := flats ds h
  show (PyData.canLayAll0 ds && decide (PyData.depthAll ds + 1 ≤ 64)) = true
  rw [a, b]
  rfl
theorem tups : ∀ ls : List (List PyData), (∀ ds ∈ ls, ∀ d ∈ ds, Flat d) → PyData.canLayAll0 (ls.map PyData.tuple) = true ∧ PyData.depthAll (ls.map PyData.tuple) ≤ 1
  | [], _ => ⟨rfl, by show 0 ≤ 1; decide⟩
  | ds :: r, h => by
    obtain ⟨a, b⟩ := tups r fun x hx => h x (List.mem_cons_of_mem _ hx)
    obtain ⟨c, e⟩ := flats ds (h ds List.mem_cons_self)
    refine ⟨?_, ?_⟩
    · show (PyData.canLayAll0 ds && PyData.canLayAll0 (r.map PyData.tuple)) = true
      rw [a, c]
      rfl
    · show max (PyData.depthAll ds + 1) (PyData.depthAll (r.map PyData.tuple)) ≤ 1
      rw [e]
      omega
theorem shaped_tups {ls : List (List PyData)} (h : ∀ ds ∈ ls, ∀ d ∈ ds, Flat d) : SeqAt.shaped (.list (ls.map PyData.tuple)) = true := by
  obtain ⟨a, b⟩ := tups ls h
  show (PyData.canLayAll0 (ls.map PyData.tuple) && decide (PyData.depthAll (ls.map PyData.tuple) + 1 ≤ 64)) = true
  rw [a, Bool.true_and]
  exact decide_eq_true (by omega)
def Lo (z : Str) : Prop := ∀ c ∈ z.cps.toList, c < 256
instance (z : Str) : Decidable (Lo z) := inferInstanceAs (Decidable (∀ c ∈ z.cps.toList, c < 256))
theorem lo_ok {z : Str} (h : Lo z) : PyData.strOk z = true := by
  unfold PyData.strOk
  rw [← Array.all_toList]
  exact List.all_eq_true.mpr fun c hc => decide_eq_true (Nat.lt_trans (h c hc) (by decide))
theorem flat_str {z : Str} (h : Lo z) : Flat (.str z) := ⟨lo_ok h, rfl⟩
theorem flat_int (i : Int) : Flat (.int i) := ⟨rfl, rfl⟩
theorem FD.flat {ps : List Str} (hp : ∀ z ∈ ps, Lo z) : ∀ {f : FD}, f.Ok ps → ∀ d ∈ f.ds, Flat d
  | .by_ a m r, ⟨h, _⟩ => by
    intro d hd
    simp only [FD.ds, List.mem_cons, List.not_mem_nil, or_false] at hd
    rcases hd with rfl | rfl | rfl | rfl
    · exact flat_str (by decide +kernel)
    · exact flat_str (hp _ h)
    · exact flat_int _
    · exact flat_int _
  | .gap a b m r, ⟨h, g, _⟩ => by
    intro d hd
    simp only [FD.ds, List.mem_cons, List.not_mem_nil, or_false] at hd
    rcases hd with rfl | rfl | rfl | rfl | rfl
    · exact flat_str (by decide +kernel)
    · exact flat_str (hp _ h)
    · exact flat_str (hp _ g)
    · exact flat_int _
    · exact flat_int _
  | .apart a k n b e c, ⟨h, g, _⟩ => by
    intro d hd
    simp only [FD.ds, List.mem_cons, List.not_mem_nil, or_false] at hd
    rcases hd with rfl | rfl | rfl | rfl | rfl | rfl | rfl
    · exact flat_str (by decide +kernel)
    · exact flat_str (hp _ h)
    · exact flat_int _
    · exact flat_int _
    · exact flat_str (hp _ g)
    · exact flat_int _
    · exact flat_int _
  | .dist w a b n, ⟨hw, h, g, _⟩ => by
    intro d hd
    simp only [FD.ds, List.mem_cons, List.not_mem_nil, or_false] at hd
    rcases hd with rfl | rfl | rfl | rfl
    · simp only [Sorts, List.mem_cons, List.not_mem_nil, or_false] at hw
      rcases hw with rfl | rfl | rfl <;> exact flat_str (by decide +kernel)
    · exact flat_str (hp _ h)
    · exact flat_str (hp _ g)
    · exact flat_int _
/-- what is in is found -/
theorem any_in {f : FD} {fs : List FD} (h : f ∈ fs) (hf : ∀ d ∈ f.ds, Flat d) : ((fs.map fun g => PyData.tuple g.ds).any fun z => PyData.eqv z (.tuple f.ds)) = true := by
  rw [List.any_map]
  refine List.any_eq_true.mpr ⟨f, h, ?_⟩
  exact SeqAt.eqv_refl _ (flats _ hf).1
/-! the texts of facts -/
def num (i : Int) : Str := Str.ofString (toString i)
def spot (z : Str) (k : Int) : Str := z ++ (if 0 < k then ("+" : Str) ++ num k else "") ++ (if k < 0 then num k else "")
def FD.words : FD → List Str
  | .by_ a m r => [a, "by", num m, num r]
  | .gap a b m r => [a, "to", b, "by", num m, num r]
  | .apart a k n b e c => ["apart", spot a k, num n, spot b e, num c]
  | .dist w a b n => [a, "to", b, w, num n]
def FD.text (f : FD) : Str := Txt.join " " f.words
/-- what holds of all small numbers -/
theorem small_all {p : Int → Bool} (h : ((List.range 201).all fun n => p ((n : Int) - 100)) = true) {i : Int} (h0 : -100 ≤ i) (h1 : i ≤ 100) : p i = true := by
  have z := List.all_eq_true.mp h (i + 100).toNat (List.mem_range.mpr (by omega))
  have e : (((i + 100).toNat : Nat) : Int) - 100 = i := by omega
  rw [e] at z
  exact z
theorem num_len {i : Int} (h0 : -100 ≤ i) (h1 : i ≤ 100) : (num i).length ≤ 4 :=
  of_decide_eq_true (small_all (p := fun i => decide ((num i).length ≤ 4)) (by decide +kernel) h0 h1)
theorem num_lo {i : Int} (h0 : -100 ≤ i) (h1 : i ≤ 100) : Lo (num i) :=
  of_decide_eq_true (small_all (p := fun i => decide (Lo (num i))) (by decide +kernel) h0 h1)
theorem log_small {i : Int} (h0 : -100 ≤ i) (h1 : i ≤ 100) : i.natAbs.log2 < 1920 :=
  of_decide_eq_true (small_all (p := fun i => decide (i.natAbs.log2 < 1920)) (by decide +kernel) h0 h1)
theorem len_app (x y : Str) : (x ++ y).length = x.length + y.length := strLen_append x y
theorem spot_len {z : Str} {k : Int} (hz : z.length ≤ 12) (h0 : -100 ≤ k) (h1 : k ≤ 100) : (spot z k).length ≤ 30 := by
  have := num_len h0 h1
  unfold spot
  rw [len_app, len_app]
  have e : ("+" : Str).length = 1 := rfl
  have e0 : ("" : Str).length = 0 := rfl
  split <;> split <;> (try rw [len_app]) <;> omega
theorem Rem.small {m r : Int} (h : Rem m r) : (-100 ≤ m ∧ m ≤ 100) ∧ (-100 ≤ r ∧ r ≤ 100) := by
  obtain ⟨h, h0, h1⟩ := h
  omega
/-- its words are short -/
theorem FD.short {ps : List Str} (hp : ∀ z ∈ ps, z.length ≤ 12) : ∀ {f : FD}, f.Ok ps → ∀ w ∈ f.words, w.length ≤ 30
  | .by_ a m r, ⟨h, g⟩ => by
    intro w hw
    have s := g.small
    have n1 := num_len s.1.1 s.1.2
    have n2 := num_len s.2.1 s.2.2
    have na := hp _ h
    simp only [FD.words, List.mem_cons, List.not_mem_nil, or_false] at hw
    rcases hw with rfl | rfl | rfl | rfl
    · omega
    · exact (by decide : ("by" : Str).length ≤ 30)
    · omega
    · omega
  | .gap a b m r, ⟨h, h2, _, g⟩ => by
    intro w hw
    have s := g.small
    have n1 := num_len s.1.1 s.1.2
    have n2 := num_len s.2.1 s.2.2
    have na := hp _ h
    have nb := hp _ h2
    simp only [FD.words, List.mem_cons, List.not_mem_nil, or_false] at hw
    rcases hw with rfl | rfl | rfl | rfl | rfl | rfl
    · omega
    · exact (by decide : ("to" : Str).length ≤ 30)
    · omega
    · exact (by decide : ("by" : Str).length ≤ 30)
    · omega
    · omega
  | .apart a k n b e c, ⟨h, h2, _, o1, m1, o2, m2⟩ => by
    obtain ⟨o11, o12⟩ := o1
    obtain ⟨m11, m12⟩ := m1
    obtain ⟨o21, o22⟩ := o2
    obtain ⟨m21, m22⟩ := m2
    intro w hw
    have s1 := spot_len (k := k) (hp _ h) (by omega) (by omega)
    have s2 := spot_len (k := e) (hp _ h2) (by omega) (by omega)
    have n1 := num_len (i := n) (by omega) (by omega)
    have n2 := num_len (i := c) (by omega) (by omega)
    simp only [FD.words, List.mem_cons, List.not_mem_nil, or_false] at hw
    rcases hw with rfl | rfl | rfl | rfl | rfl
    · exact (by decide : ("apart" : Str).length ≤ 30)
    · omega
    · omega
    · omega
    · omega
  | .dist w a b n, ⟨hw0, h, h2, _, n0, n1⟩ => by
    intro w hw
    have na := hp _ h
    have nb := hp _ h2
    have n1 := num_len (i := n) (by omega) (by omega)
    simp only [FD.words, List.mem_cons, List.not_mem_nil, or_false] at hw
    rcases hw with rfl | rfl | rfl | rfl | rfl
    · omega
    · exact (by decide : ("to" : Str).length ≤ 30)
    · omega
    · simp only [Sorts, List.mem_cons, List.not_mem_nil, or_false] at hw0
      rcases hw0 with rfl | rfl | rfl <;> decide
    · omega
theorem sum_le {ws : List Str} {b : Nat} (h : ∀ w ∈ ws, w.length ≤ b) : (ws.map (·.length)).sum ≤ ws.length * b := by
  induction ws with
  | nil => exact Nat.zero_le _
  | cons w r ih =>
    rw [List.map_cons, List.sum_cons, List.length_cons, Nat.succ_mul]
    have := h w List.mem_cons_self
    have := ih fun x hx => h x (List.mem_cons_of_mem _ hx)
    omega
theorem FD.few (f : FD) : f.words.length ≤ 6 := by
  cases f <;> exact Nat.le_of_ble_eq_true rfl
theorem FD.fits {ps : List Str} (hp : ∀ z ∈ ps, z.length ≤ 12) {f : FD} (h : f.Ok ps) : (f.words.map (·.length)).sum + f.words.length * (" " : Str).length ≤ 16777216 := by
  have a := sum_le (FD.short hp h)
  have b := f.few
  have e : (" " : Str).length = 1 := rfl
  have c : f.words.length * 30 ≤ 6 * 30 := Nat.mul_le_mul_right _ b
  rw [e]
  omega
theorem joinL_len (S : List Nat) : ∀ ps : List (List Nat), (TL.joinL S ps).length ≤ (ps.map List.length).sum + ps.length * S.length
  | [] => by simp [TL.joinL]
  | [p] => by simp [TL.joinL]
  | p :: q :: r => by
    have h := joinL_len S (q :: r)
    have e : TL.joinL S (p :: q :: r) = p ++ (S ++ TL.joinL S (q :: r)) := by
      first | rfl | simp [TL.joinL]
    rw [e, List.length_append, List.length_append, List.map_cons, List.sum_cons, List.length_cons, Nat.succ_mul]
    omega
theorem join_len (y : Str) (ws : List Str) : (Txt.join y ws).length ≤ (ws.map (·.length)).sum + ws.length * y.length := by
  rw [TL.join_eq, TL.len_tl, TL.tl_join]
  have h := joinL_len (TL.tl y) (ws.map TL.tl)
  have e : ((ws.map TL.tl).map List.length) = ws.map (·.length) := by
    rw [List.map_map]
    exact List.map_congr_left fun x _ => (TL.len_tl x).symm
  rw [e, List.length_map, ← TL.len_tl] at h
  exact h
theorem FD.text_len {ps : List Str} (hp : ∀ z ∈ ps, z.length ≤ 12) {f : FD} (h : f.Ok ps) : f.text.length ≤ 200 := by
  have j := join_len " " f.words
  have a := sum_le (FD.short hp h)
  have b := f.few
  have e : (" " : Str).length = 1 := rfl
  have c : f.words.length * 30 ≤ 6 * 30 := Nat.mul_le_mul_right _ b
  rw [e] at j
  unfold FD.text
  omega
def textOf (fs : List FD) : Str := Txt.join "\n" (fs.map FD.text)
theorem lines_fit {ps : List Str} (hp : ∀ z ∈ ps, z.length ≤ 12) {fs : List FD} (h : ∀ f ∈ fs, f.Ok ps) (n : fs.length ≤ 13) : ((fs.map FD.text).map (·.length)).sum + (fs.map FD.text).length * ("\n" : Str).length ≤ 4000 := by
  have a := sum_le (ws := fs.map FD.text) (b := 200) (fun w hw => by
    obtain ⟨f, hf, rfl⟩ := List.mem_map.mp hw
    exact FD.text_len hp (h f hf))
  have e : ("\n" : Str).length = 1 := rfl
  rw [List.length_map] at a ⊢
  have c : fs.length * 200 ≤ 13 * 200 := Nat.mul_le_mul_right _ n
  rw [e]
  omega
theorem text_fit {ps : List Str} (hp : ∀ z ∈ ps, z.length ≤ 12) {fs : List FD} (h : ∀ f ∈ fs, f.Ok ps) (n : fs.length ≤ 13) : (textOf fs).length ≤ 4000 :=
  Nat.le_trans (join_len _ _) (lines_fit hp h n)
/-! how far, which modulus -/
def ab (i : Int) : Int := if i < 0 then -i else i
def FD.far : FD → Int
  | .apart _ k n _ e c => ab k + n + ab e + c
  | .dist _ _ _ n => ab n
  | _ => 0
def FD.mod : FD → Int
  | .by_ _ m _ => m
  | .gap _ _ m _ => m
  | _ => 1
def mx (a b : Int) : Int := if b > a then b else a
def farOf (fs : List FD) : Int := fs.foldl (fun a f => mx a f.far) 0
def modOf (fs : List FD) : Int := fs.foldl (fun a f => mx a f.mod) 1
theorem NameOk.lo_ {z : Str} (h : NameOk z) : Lo z := fun c hc => by
  have := h.letters c hc
  omega
instance (z : Str) : Decidable (NameOk z) := decidable_of_iff (z ∉ Reserved ∧ 1 ≤ z.length ∧ z.length ≤ 12 ∧ ∀ c ∈ TL.tl z, 97 ≤ c ∧ c ≤ 122) ⟨fun h => ⟨h.1, h.2.1, h.2.2.1, h.2.2.2⟩, fun h => ⟨h.free, h.lo, h.hi, h.letters⟩⟩
theorem inV_strs (z : Str) (ns : List Str) : inV (.str z) (ns.map V.str) = decide (z ∈ ns) := by
  induction ns with
  | nil => rfl
  | cons w r ih =>
    have e : inV (.str z) ((w :: r).map V.str) = (decide (w = z) || inV (.str z) (r.map V.str)) := rfl
    rw [e, ih]
    by_cases h : w = z
    · rw [decide_eq_true h, Bool.true_or, decide_eq_true (List.mem_cons.mpr (.inl h.symm))]
    · rw [decide_eq_false h, Bool.false_or]
      exact decide_eq_decide.mpr ⟨fun y => List.mem_cons_of_mem _ y, fun y => (List.mem_cons.mp y).resolve_left fun e => h e.symm⟩
theorem flat_strs (ys : List Str) : (ys.map V.str).all flatV = true := by
  rw [List.all_map]
  exact List.all_eq_true.mpr fun _ _ => rfl
theorem cut_to (xs : List V) {m : Int} (h : 0 ≤ m) : cutV xs none (some m) = xs.take m.toNat := by
  unfold cutV HT.sIx
  simp only [if_neg (show ¬ m < 0 by omega), List.drop_zero, Nat.sub_zero]
  by_cases e : m.toNat ≤ xs.length
  · rw [Nat.min_eq_left e]
  · rw [Nat.min_eq_right (by omega), List.take_length, List.take_of_length_le (by omega)]
theorem drop_one {α : Type} [DecidableEq α] (x : α) : ∀ l : List α, l.Nodup → l.length ≤ (l.filter fun y => !decide (y = x)).length + 1
  | [], _ => Nat.zero_le _
  | y :: r, h => by
    have hr := (List.nodup_cons.mp h).2
    by_cases e : y = x
    · rw [List.filter_cons_of_neg (by rw [decide_eq_true e]; decide), List.length_cons]
      have : (r.filter fun y => !decide (y = x)) = r := List.filter_eq_self.mpr fun z hz => by
        have : z ≠ x := fun q => (List.nodup_cons.mp h).1 (e.symm ▸ q ▸ hz)
        rw [decide_eq_false this]
        rfl
      rw [this]
      omega
    · rw [List.filter_cons_of_pos (by rw [decide_eq_false e]; rfl), List.length_cons, List.length_cons]
      have := drop_one x r hr
      omega
theorem drop_all {α : Type} [DecidableEq α] (l : List α) (h : l.Nodup) : ∀ ns : List α, l.length ≤ (l.filter fun y => !decide (y ∈ ns)).length + ns.length
  | [] => by
    have : (l.filter fun y => !decide (y ∈ ([] : List α))) = l := List.filter_eq_self.mpr fun z _ => by simp
    rw [this]
    exact Nat.le_refl _
  | x :: ns => by
    have ih := drop_all l h ns
    have d := drop_one x (l.filter fun y => !decide (y ∈ ns)) (h.sublist List.filter_sublist)
    rw [List.filter_filter] at d
    have e : (l.filter fun a => (!decide (a = x)) && !decide (a ∈ ns)) = l.filter fun y => !decide (y ∈ x :: ns) := by
      refine List.filter_congr fun a _ => ?_
      by_cases e1 : a = x <;> by_cases e2 : a ∈ ns <;> simp [e1, e2]
    rw [e] at d
    rw [List.length_cons]
    omega
/-- a text joined out of letters -/
theorem joinL_nil : ∀ ps : List (List Nat), TL.joinL [] ps = ps.flatten
  | [] => rfl
  | [p] => by simp [TL.joinL]
  | p :: q :: r => by
    have h := joinL_nil (q :: r)
    have e : TL.joinL [] (p :: q :: r) = p ++ ([] ++ TL.joinL [] (q :: r)) := by
      first | rfl | simp [TL.joinL]
    rw [e, h]
    rfl
theorem join_letters {ys : List Str} (h : ∀ y ∈ ys, ∃ c, TL.tl y = [c] ∧ 97 ≤ c ∧ c ≤ 122) : (Txt.join "" ys).length = ys.length ∧ ∀ c ∈ TL.tl (Txt.join "" ys), 97 ≤ c ∧ c ≤ 122 := by
  have e : TL.tl (Txt.join "" ys) = (ys.map TL.tl).flatten := by
    rw [TL.join_eq, TL.tl_join]
    exact joinL_nil _
  have l : ∀ ys : List Str, (∀ y ∈ ys, ∃ c, TL.tl y = [c] ∧ 97 ≤ c ∧ c ≤ 122) → ((ys.map TL.tl).flatten).length = ys.length ∧ ∀ c ∈ (ys.map TL.tl).flatten, 97 ≤ c ∧ c ≤ 122 := by
    intro ys
    induction ys with
    | nil => intro _; exact ⟨rfl, by simp⟩
    | cons y r ih =>
      intro h
      obtain ⟨a, b⟩ := ih fun z hz => h z (List.mem_cons_of_mem _ hz)
      obtain ⟨c, hc, c0, c1⟩ := h y List.mem_cons_self
      rw [List.map_cons, List.flatten_cons, hc]
      refine ⟨by rw [List.length_append, a, List.length_cons]; simp [Nat.add_comm], fun d hd => ?_⟩
      rcases List.mem_append.mp hd with x | x
      · rw [List.mem_singleton.mp x]
        exact ⟨c0, c1⟩
      · exact b d x
  rw [TL.len_tl, e]
  exact l ys h
/-! a spot's text, taken apart -/
theorem num_plus {i : Int} (h0 : -100 ≤ i) (h1 : i ≤ 100) : 43 ∉ TL.tl (num i) :=
  of_decide_eq_true (small_all (p := fun i => decide (43 ∉ TL.tl (num i))) (by decide +kernel) h0 h1)
theorem num_neg {i : Int} (h0 : -100 ≤ i) (h1 : i ≤ 100) (h : i < 0) : num i = ("-" : Str) ++ num (-i) := by
  have z := of_decide_eq_true (small_all (p := fun i => decide (i < 0 → num i = ("-" : Str) ++ num (-i))) (by decide +kernel) h0 h1)
  exact z h
theorem NameOk.no {z : Str} (h : NameOk z) {c : Nat} (hc : c < 97) : c ∉ TL.tl z := fun hm => by
  have := h.letters c hm
  omega
theorem app_nil (z : Str) : z ++ ("" : Str) = z := TL.ext_tl (by rw [TL.tl_append]; exact List.append_nil _)
theorem app_as (x y z : Str) : (x ++ y) ++ z = x ++ (y ++ z) := TL.ext_tl (by rw [TL.tl_append, TL.tl_append, TL.tl_append, TL.tl_append, List.append_assoc])
theorem spot_pos {z : Str} {k : Int} (h : 0 < k) : spot z k = z ++ ("+" : Str) ++ num k := by
  unfold spot
  rw [if_pos h, if_neg (by omega), app_nil, app_as]
theorem spot_neg {z : Str} {k : Int} (h : k < 0) (h0 : -100 ≤ k) : spot z k = z ++ ("-" : Str) ++ num (-k) := by
  unfold spot
  rw [if_neg (by omega), if_pos h, app_nil, num_neg h0 (by omega) h, app_as]
theorem spot_zero {z : Str} : spot z 0 = z := by
  unfold spot
  rw [if_neg (by decide), if_neg (by decide), app_nil, app_nil]
def sgn (k : Int) : Str := if 0 < k then "+" else "-"
theorem spot_sign {z : Str} (hz : NameOk z) {k : Int} (h0 : -100 ≤ k) (h1 : k ≤ 100) : decide (43 ∈ (spot z k).cps.toList) = decide (0 < k) := by
  have hn := hz.no (c := 43) (by decide)
  refine decide_eq_decide.mpr ⟨fun hm => ?_, fun h => ?_⟩
  · have hm' : 43 ∈ TL.tl (spot z k) := hm
    rcases Int.lt_trichotomy k 0 with h | h | h
    · rw [spot_neg h h0, TL.tl_append, TL.tl_append] at hm'
      rcases List.mem_append.mp hm' with x | x
      · rcases List.mem_append.mp x with y | y
        · exact absurd y hn
        · exact absurd y (by decide +kernel)
      · exact absurd x (num_plus (by omega) (by omega))
    · rw [h, spot_zero] at hm'
      exact absurd hm' hn
    · exact h
  · show 43 ∈ TL.tl (spot z k)
    rw [spot_pos h, TL.tl_append, TL.tl_append]
    exact List.mem_append_left _ (List.mem_append_right _ (by decide +kernel))
theorem spot_parts {z : Str} (hz : NameOk z) {k : Int} (h0 : -100 ≤ k) (h1 : k ≤ 100) : Txt.partition (spot z k) (sgn k) = (z, (if k = 0 then ("" : Str) else sgn k), (if k = 0 then ("" : Str) else num (ab k))) := by
  unfold sgn ab
  rcases Int.lt_trichotomy k 0 with h | h | h
  · rw [if_neg (by omega), if_neg (by omega), if_neg (by omega), if_pos h, spot_neg h h0]
    exact TL.partition_app (s := 45) (S := []) rfl (hz.no (by decide))
  · subst h
    rw [if_neg (by decide), if_pos rfl, if_pos rfl, spot_zero]
    exact TL.partition_none (s := 45) (S := []) rfl (hz.no (by decide))
  · rw [if_pos h, if_neg (by omega), if_neg (by omega), if_neg (by omega), spot_pos h]
    exact TL.partition_app (s := 43) (S := []) rfl (hz.no (by decide))
/-! the greatest -/
theorem mxl (l : List Int) : ∀ a : Int, a ≤ l.foldl mx a ∧ (∀ y ∈ l, y ≤ l.foldl mx a) ∧ (l.foldl mx a = a ∨ l.foldl mx a ∈ l) := by
  induction l with
  | nil => exact fun a => ⟨Int.le_refl _, by simp, .inl rfl⟩
  | cons x r ih =>
    intro a
    obtain ⟨h1, h2, h3⟩ := ih (mx a x)
    have m1 : a ≤ mx a x ∧ x ≤ mx a x ∧ (mx a x = a ∨ mx a x = x) := by
      unfold mx
      split <;> omega
    rw [List.foldl_cons]
    refine ⟨by omega, fun y hy => ?_, ?_⟩
    · rcases List.mem_cons.mp hy with rfl | h
      · omega
      · exact h2 y h
    · rcases h3 with h | h
      · rcases m1.2.2 with e | e
        · exact .inl (h.trans e)
        · exact .inr (List.mem_cons.mpr (.inl (h.trans e)))
      · exact .inr (List.mem_cons_of_mem _ h)
theorem mx_is {l : List Int} {a m : Int} (hm : m ∈ l) (hle : ∀ y ∈ l, y ≤ m) (ha : ∀ y ∈ l, a ≤ y) : l.foldl mx a = m := by
  obtain ⟨h1, h2, h3⟩ := mxl l a
  have h4 := h2 m hm
  rcases h3 with h | h
  · have := ha m hm
    omega
  · have := hle _ h
    omega
theorem farOf_map (fs : List FD) : farOf fs = (fs.map FD.far).foldl mx 0 := by
  unfold farOf
  rw [List.foldl_map]
theorem modOf_map (fs : List FD) : modOf fs = (fs.map FD.mod).foldl mx 1 := by
  unfold modOf
  rw [List.foldl_map]
theorem far_nn {ps : List Str} {f : FD} (h : f.Ok ps) : 0 ≤ f.far := by
  have a (i : Int) : 0 ≤ ab i := by
    unfold ab
    split <;> omega
  cases f with
  | by_ a m r => exact Int.le_refl _
  | gap a b m r => exact Int.le_refl _
  | apart z k n y e c =>
    obtain ⟨_, _, _, _, m1, _, m2⟩ := h
    have := m1.1
    have := m2.1
    have := a k
    have := a e
    show 0 ≤ ab k + n + ab e + c
    omega
  | dist w z y n => exact a n
theorem mod_pos {ps : List Str} {f : FD} (h : f.Ok ps) : 1 ≤ f.mod := by
  cases f with
  | by_ a m r =>
    obtain ⟨_, hm, _⟩ := h
    show 1 ≤ m
    omega
  | gap a b m r =>
    obtain ⟨_, _, _, hm, _⟩ := h
    show 1 ≤ m
    omega
  | apart z k n y e c => exact Int.le_refl _
  | dist w z y n => exact Int.le_refl _
/-! a fact's text can be taken apart, and tells the fact -/
theorem num_space {i : Int} (h0 : -100 ≤ i) (h1 : i ≤ 100) : 32 ∉ TL.tl (num i) ∧ 10 ∉ TL.tl (num i) :=
  of_decide_eq_true (small_all (p := fun i => decide (32 ∉ TL.tl (num i) ∧ 10 ∉ TL.tl (num i))) (by decide +kernel) h0 h1)
theorem num_int {i : Int} (h0 : -100 ≤ i) (h1 : i ≤ 100) : PySem.intText? (num i) = some i :=
  of_decide_eq_true (small_all (p := fun i => decide (PySem.intText? (num i) = some i)) (by decide +kernel) h0 h1)
theorem num_inj {i j : Int} (h0 : -100 ≤ i) (h1 : i ≤ 100) (g0 : -100 ≤ j) (g1 : j ≤ 100) (e : num i = num j) : i = j := by
  have a := num_int h0 h1
  rw [e, num_int g0 g1] at a
  exact (Option.some.inj a).symm
theorem spot_space {z : Str} (hz : NameOk z) {k : Int} (h0 : -100 ≤ k) (h1 : k ≤ 100) {c : Nat} (hc : c = 32 ∨ c = 10) : c ∉ TL.tl (spot z k) := by
  have hn := hz.no (c := c) (by omega)
  have hk : c ∉ TL.tl (num k) := by
    rcases hc with rfl | rfl
    · exact (num_space h0 h1).1
    · exact (num_space h0 h1).2
  unfold spot
  rw [TL.tl_append, TL.tl_append]
  intro hm
  rcases List.mem_append.mp hm with hm | hm
  · rcases List.mem_append.mp hm with hm | hm
    · exact hn hm
    · split at hm
      · rw [TL.tl_append] at hm
        rcases List.mem_append.mp hm with hm | hm
        · rcases hc with rfl | rfl <;> exact absurd hm (by decide +kernel)
        · exact hk hm
      · cases hm
  · split at hm
    · exact hk hm
    · cases hm
theorem spot_inj {z y : Str} (hz : NameOk z) (hy : NameOk y) {k e : Int} (k0 : -30 ≤ k) (k1 : k ≤ 30) (e0 : -30 ≤ e) (e1 : e ≤ 30) (h : spot z k = spot y e) : z = y ∧ k = e := by
  have a := spot_sign hz (k := k) (by omega) (by omega)
  have b := spot_sign hy (k := e) (by omega) (by omega)
  rw [h, b] at a
  have sg : sgn k = sgn e := by
    unfold sgn
    have := decide_eq_decide.mp a
    by_cases kp : 0 < k
    · rw [if_pos kp, if_pos (this.mpr kp)]
    · rw [if_neg kp, if_neg (fun x => kp (this.mp x))]
  have p1 := spot_parts hz (k := k) (by omega) (by omega)
  have p2 := spot_parts hy (k := e) (by omega) (by omega)
  rw [h, sg, p2] at p1
  have q1 := (Prod.mk.inj p1).1
  have q2 := (Prod.mk.inj (Prod.mk.inj p1).2).1
  have q3 := (Prod.mk.inj (Prod.mk.inj p1).2).2
  refine ⟨q1.symm, ?_⟩
  have sne : ∀ k : Int, sgn k ≠ "" := fun k => by
    unfold sgn
    split <;> decide
  by_cases ke : k = 0
  · by_cases ee : e = 0
    · rw [ke, ee]
    · rw [if_neg ee, if_pos ke] at q2
      exact absurd q2 (sne e)
  · by_cases ee : e = 0
    · rw [if_pos ee, if_neg ke] at q2
      exact absurd q2.symm (fun x => sne e x)
    · rw [if_neg ee, if_neg ke] at q3
      have abk : 0 ≤ ab k ∧ ab k ≤ 30 ∧ (0 < k → ab k = k) ∧ (¬ 0 < k → ab k = -k) := by
        unfold ab
        split <;> omega
      have abe : 0 ≤ ab e ∧ ab e ≤ 30 ∧ (0 < e → ab e = e) ∧ (¬ 0 < e → ab e = -e) := by
        unfold ab
        split <;> omega
      have n := num_inj (by omega) (by omega) (by omega) (by omega) q3
      have d := decide_eq_decide.mp a
      by_cases kp : 0 < k
      · have := abk.2.2.1 kp
        have := abe.2.2.1 (d.mpr kp)
        omega
      · have := abk.2.2.2 kp
        have := abe.2.2.2 (fun x => kp (d.mp x))
        omega
theorem FD.nosp {ps : List Str} (hp : ∀ z ∈ ps, NameOk z) {c : Nat} (hc : c = 32 ∨ c = 10) : ∀ {f : FD}, f.Ok ps → ∀ w ∈ f.words, c ∉ TL.tl w := by
  have lit : ∀ w ∈ (["by", "to", "apart", "from", "upto", "is"] : List Str), c ∉ TL.tl w := by
    rcases hc with rfl | rfl <;> decide +kernel
  have nn : ∀ {i : Int}, -100 ≤ i → i ≤ 100 → c ∉ TL.tl (num i) := fun h0 h1 => by
    rcases hc with rfl | rfl
    · exact (num_space h0 h1).1
    · exact (num_space h0 h1).2
  have nz : ∀ z ∈ ps, c ∉ TL.tl z := fun z hz => (hp z hz).no (by omega)
  intro f ok w hw
  cases f with
  | by_ a m r =>
    obtain ⟨h, g⟩ := ok
    have s := g.small
    simp only [FD.words, List.mem_cons, List.not_mem_nil, or_false] at hw
    rcases hw with rfl | rfl | rfl | rfl
    · exact nz _ h
    · exact lit _ (by decide)
    · exact nn s.1.1 s.1.2
    · exact nn s.2.1 s.2.2
  | gap a b m r =>
    obtain ⟨h, h2, _, g⟩ := ok
    have s := g.small
    simp only [FD.words, List.mem_cons, List.not_mem_nil, or_false] at hw
    rcases hw with rfl | rfl | rfl | rfl | rfl | rfl
    · exact nz _ h
    · exact lit _ (by decide)
    · exact nz _ h2
    · exact lit _ (by decide)
    · exact nn s.1.1 s.1.2
    · exact nn s.2.1 s.2.2
  | apart a k n b e c2 =>
    obtain ⟨h, h2, _, o1, m1, o2, m2⟩ := ok
    obtain ⟨o11, o12⟩ := o1
    obtain ⟨m11, m12⟩ := m1
    obtain ⟨o21, o22⟩ := o2
    obtain ⟨m21, m22⟩ := m2
    simp only [FD.words, List.mem_cons, List.not_mem_nil, or_false] at hw
    rcases hw with rfl | rfl | rfl | rfl | rfl
    · exact lit _ (by decide)
    · exact spot_space (hp _ h) (by omega) (by omega) hc
    · exact nn (by omega) (by omega)
    · exact spot_space (hp _ h2) (by omega) (by omega) hc
    · exact nn (by omega) (by omega)
  | dist v a b n =>
    obtain ⟨hv, h, h2, _, n0, n1⟩ := ok
    simp only [FD.words, List.mem_cons, List.not_mem_nil, or_false] at hw
    rcases hw with rfl | rfl | rfl | rfl | rfl
    · exact nz _ h
    · exact lit _ (by decide)
    · exact nz _ h2
    · simp only [Sorts, List.mem_cons, List.not_mem_nil, or_false] at hv
      rcases hv with rfl | rfl | rfl <;> exact lit _ (by decide)
    · exact nn (by omega) (by omega)
theorem FD.split {ps : List Str} (hp : ∀ z ∈ ps, NameOk z) {f : FD} (ok : f.Ok ps) : Txt.split f.text " " = f.words :=
  TL.split_join (s := 32) (S := []) rfl (by decide +kernel) (by cases f <;> exact fun e => by cases e) (FD.nosp hp (.inl rfl) ok)
theorem FD.words_inj {ps : List Str} (hp : ∀ z ∈ ps, NameOk z) {f g : FD} (okf : f.Ok ps) (okg : g.Ok ps) (e : f.words = g.words) : f = g := by
  have noap : ∀ z ∈ ps, z ≠ "apart" := fun z hz x => (hp z hz).free (x ▸ by decide +kernel)
  cases f with
  | by_ a m r =>
    cases g with
    | by_ a2 m2 r2 =>
      obtain ⟨_, h1⟩ := okf
      obtain ⟨_, h2⟩ := okg
      have s1 := h1.small
      have s2 := h2.small
      simp only [FD.words, List.cons.injEq, and_true, true_and] at e
      obtain ⟨e1, e2, e3⟩ := e
      rw [e1, num_inj s1.1.1 s1.1.2 s2.1.1 s2.1.2 e2, num_inj s1.2.1 s1.2.2 s2.2.1 s2.2.2 e3]
    | gap => simp [FD.words] at e
    | apart => simp [FD.words] at e
    | dist => simp [FD.words] at e
  | gap a b m r =>
    cases g with
    | gap a2 b2 m2 r2 =>
      obtain ⟨_, _, _, h1⟩ := okf
      obtain ⟨_, _, _, h2⟩ := okg
      have s1 := h1.small
      have s2 := h2.small
      simp only [FD.words, List.cons.injEq, and_true, true_and] at e
      obtain ⟨e0, e1, e2, e3⟩ := e
      rw [e0, e1, num_inj s1.1.1 s1.1.2 s2.1.1 s2.1.2 e2, num_inj s1.2.1 s1.2.2 s2.2.1 s2.2.2 e3]
    | by_ => simp [FD.words] at e
    | apart => simp [FD.words] at e
    | dist => simp [FD.words] at e
  | apart a k n b j c =>
    cases g with
    | apart a2 k2 n2 b2 j2 c2 =>
      obtain ⟨h1, h2, _, ⟨o1, o2⟩, ⟨o3, o4⟩, ⟨o5, o6⟩, ⟨o7, o8⟩⟩ := okf
      obtain ⟨g1, g2, _, ⟨p1, p2⟩, ⟨p3, p4⟩, ⟨p5, p6⟩, ⟨p7, p8⟩⟩ := okg
      simp only [FD.words, List.cons.injEq, and_true, true_and] at e
      obtain ⟨e0, e1, e2, e3⟩ := e
      obtain ⟨x1, x2⟩ := spot_inj (hp _ h1) (hp _ g1) o1 o2 p1 p2 e0
      obtain ⟨x3, x4⟩ := spot_inj (hp _ h2) (hp _ g2) o5 o6 p5 p6 e2
      rw [x1, x2, x3, x4, num_inj (by omega) (by omega) (by omega) (by omega) e1, num_inj (by omega) (by omega) (by omega) (by omega) e3]
    | by_ => simp [FD.words] at e
    | gap => simp [FD.words] at e
    | dist v a2 b2 n2 =>
      simp only [FD.words, List.cons.injEq] at e
      exact absurd e.1.symm (noap _ okg.2.1)
  | dist v a b n =>
    cases g with
    | dist v2 a2 b2 n2 =>
      obtain ⟨_, _, _, _, n0, n1⟩ := okf
      obtain ⟨_, _, _, _, m0, m1⟩ := okg
      simp only [FD.words, List.cons.injEq, and_true, true_and] at e
      obtain ⟨e0, e1, e2, e3⟩ := e
      rw [e0, e1, e2, num_inj (by omega) (by omega) (by omega) (by omega) e3]
    | by_ => simp [FD.words] at e
    | gap => simp [FD.words] at e
    | apart a2 k2 n2 b2 j2 c2 =>
      simp only [FD.words, List.cons.injEq] at e
      exact absurd e.1 (noap _ okf.2.1)
theorem FD.text_inj {ps : List Str} (hp : ∀ z ∈ ps, NameOk z) {f g : FD} (okf : f.Ok ps) (okg : g.Ok ps) (e : f.text = g.text) : f = g := by
  refine FD.words_inj hp okf okg ?_
  rw [← FD.split hp okf, ← FD.split hp okg, e]
theorem joinL_mem {S : List Nat} {c : Nat} : ∀ {ps : List (List Nat)}, c ∈ TL.joinL S ps → c ∈ S ∨ ∃ p ∈ ps, c ∈ p
  | [], h => by cases h
  | [p], h => .inr ⟨p, List.mem_cons_self, by simpa [TL.joinL] using h⟩
  | p :: q :: r, h => by
    have e : TL.joinL S (p :: q :: r) = p ++ (S ++ TL.joinL S (q :: r)) := by
      first | rfl | simp [TL.joinL]
    rw [e] at h
    rcases List.mem_append.mp h with x | x
    · exact .inr ⟨p, List.mem_cons_self, x⟩
    · rcases List.mem_append.mp x with y | y
      · exact .inl y
      · rcases joinL_mem y with z | ⟨w, hw, hc⟩
        · exact .inl z
        · exact .inr ⟨w, List.mem_cons_of_mem _ hw, hc⟩
theorem FD.line_ok {ps : List Str} (hp : ∀ z ∈ ps, NameOk z) {f : FD} (ok : f.Ok ps) : 1 ≤ f.text.length ∧ 10 ∉ TL.tl f.text := by
  refine ⟨?_, fun hm => ?_⟩
  · unfold FD.text
    rw [TL.join_eq, TL.len_tl, TL.tl_join]
    have two : ∃ p q r, f.words = p :: q :: r := by cases f <;> exact ⟨_, _, _, rfl⟩
    obtain ⟨p, q, r, e⟩ := two
    rw [e]
    have e2 : TL.joinL (TL.tl " ") ((p :: q :: r).map TL.tl) = TL.tl p ++ (TL.tl " " ++ TL.joinL (TL.tl " ") ((q :: r).map TL.tl)) := by
      first | rfl | simp [TL.joinL]
    rw [e2, List.length_append, List.length_append]
    have : (TL.tl " ").length = 1 := rfl
    omega
  · unfold FD.text at hm
    rw [TL.join_eq, TL.tl_join] at hm
    rcases joinL_mem hm with h | ⟨p, h, hc⟩
    · exact absurd h (by decide +kernel)
    · obtain ⟨w, hw, rfl⟩ := List.mem_map.mp h
      exact FD.nosp hp (.inr rfl) ok w hw hc
end CF
end
section
set_option Elab.async false
set_option linter.all false
set_option maxRecDepth 100000
set_option maxHeartbeats 4000000
namespace CF
open PySem PySem.Spec PyProof.Rows L2
theorem lo_tl {z : Str} : Lo z ↔ ∀ c ∈ TL.tl z, c < 256 := Iff.rfl
theorem lo_app {x y : Str} (h : Lo x) (g : Lo y) : Lo (x ++ y) := by
  rw [lo_tl, TL.tl_append]
  intro c hc
  rcases List.mem_append.mp hc with z | z
  · exact h c z
  · exact g c z
theorem spot_lo {z : Str} (hz : NameOk z) {k : Int} (h0 : -100 ≤ k) (h1 : k ≤ 100) : Lo (spot z k) := by
  unfold spot
  refine lo_app (lo_app hz.lo_ ?_) ?_
  · split
    · exact lo_app (by decide +kernel) (num_lo h0 h1)
    · decide +kernel
  · split
    · exact num_lo h0 h1
    · decide +kernel
theorem FD.wlo {ps : List Str} (hp : ∀ z ∈ ps, NameOk z) : ∀ {f : FD}, f.Ok ps → ∀ w ∈ f.words, Lo w := by
  have lit : ∀ w ∈ (["by", "to", "apart", "from", "upto", "is"] : List Str), Lo w := by decide +kernel
  have nz : ∀ z ∈ ps, Lo z := fun z hz => (hp z hz).lo_
  intro f ok w hw
  cases f with
  | by_ a m r =>
    obtain ⟨h, g⟩ := ok
    have s := g.small
    simp only [FD.words, List.mem_cons, List.not_mem_nil, or_false] at hw
    rcases hw with rfl | rfl | rfl | rfl
    · exact nz _ h
    · exact lit _ (by decide)
    · exact num_lo s.1.1 s.1.2
    · exact num_lo s.2.1 s.2.2
  | gap a b m r =>
    obtain ⟨h, h2, _, g⟩ := ok
    have s := g.small
    simp only [FD.words, List.mem_cons, List.not_mem_nil, or_false] at hw
    rcases hw with rfl | rfl | rfl | rfl | rfl | rfl
    · exact nz _ h
    · exact lit _ (by decide)
    · exact nz _ h2
    · exact lit _ (by decide)
    · exact num_lo s.1.1 s.1.2
    · exact num_lo s.2.1 s.2.2
  | apart a k n b e c2 =>
    obtain ⟨h, h2, _, o1, m1, o2, m2⟩ := ok
    obtain ⟨o11, o12⟩ := o1
    obtain ⟨m11, m12⟩ := m1
    obtain ⟨o21, o22⟩ := o2
    obtain ⟨m21, m22⟩ := m2
    simp only [FD.words, List.mem_cons, List.not_mem_nil, or_false] at hw
    rcases hw with rfl | rfl | rfl | rfl | rfl
    · exact lit _ (by decide)
    · exact spot_lo (hp _ h) (by omega) (by omega)
    · exact num_lo (by omega) (by omega)
    · exact spot_lo (hp _ h2) (by omega) (by omega)
    · exact num_lo (by omega) (by omega)
  | dist v a b n =>
    obtain ⟨hv, h, h2, _, n0, n1⟩ := ok
    simp only [FD.words, List.mem_cons, List.not_mem_nil, or_false] at hw
    rcases hw with rfl | rfl | rfl | rfl | rfl
    · exact nz _ h
    · exact lit _ (by decide)
    · exact nz _ h2
    · simp only [Sorts, List.mem_cons, List.not_mem_nil, or_false] at hv
      rcases hv with rfl | rfl | rfl <;> exact lit _ (by decide)
    · exact num_lo (by omega) (by omega)
theorem join_lo {y : Str} {ws : List Str} (hy : Lo y) (h : ∀ w ∈ ws, Lo w) : Lo (Txt.join y ws) := by
  intro c hc
  have hc2 : c ∈ TL.tl (Txt.join y ws) := hc
  rw [TL.join_eq, TL.tl_join] at hc2
  rcases joinL_mem hc2 with z | ⟨p, hp, z⟩
  · exact hy c z
  · obtain ⟨w, hw, rfl⟩ := List.mem_map.mp hp
    exact h w hw c z
theorem FD.text_lo {ps : List Str} (hp : ∀ z ∈ ps, NameOk z) {f : FD} (ok : f.Ok ps) : Lo f.text := join_lo (by decide +kernel) (FD.wlo hp ok)
end CF
end
section
set_option Elab.async false
set_option linter.all false
set_option maxRecDepth 100000
set_option maxHeartbeats 4000000
namespace CF
open PySem PySem.Spec PyProof.Rows L2
/-! facts at places -/
def look (ps : List Str) (zs : List Int) (a : Str) : Int := ((ps.zip zs).lookup a).getD 0
def FD.val (pl : Str → Int) : FD → Bool
  | .by_ a m r => decide (pl a % m = r)
  | .gap a b m r => decide ((pl b - pl a) % m = r)
  | .apart a k n b e c => decide (pl a + k + n ≤ pl b + e) || decide (pl b + e + c ≤ pl a + k)
  | .dist w a b n => if w = "from" then decide (n ≤ pl b - pl a) else if w = "upto" then decide (pl b - pl a ≤ n) else decide (pl b - pl a = n)
theorem look_at : ∀ {ps : List Str} {zs : List Int} {i : Nat} {a : Str}, ps.Nodup → zs.length = ps.length → ps[i]? = some a → zs[i]? = some (look ps zs a)
  | [], _, _, _, _, _, h => by simp at h
  | p :: ps, [], _, _, _, h, _ => by simp at h
  | p :: ps, z :: zs, 0, a, _, _, h => by
    simp at h
    subst h
    simp [look]
  | p :: ps, z :: zs, i + 1, a, nd, hl, h => by
    have hn : p ≠ a := fun e => (List.nodup_cons.mp nd).1 (by rw [e]; exact List.mem_of_getElem? (i := i) (by simpa using h))
    have ih := look_at (ps := ps) (zs := zs) (i := i) (a := a) (List.nodup_cons.mp nd).2 (by simpa using hl) (by simpa using h)
    have e : (a == p) = false := beq_eq_false_iff_ne.mpr (Ne.symm hn)
    unfold look at ih ⊢
    rw [List.zip_cons_cons, List.lookup_cons, e]
    simpa using ih
theorem look_val {ps : List Str} {zs : List Int} {a : Str} (nd : ps.Nodup) (hl : zs.length = ps.length) (h : a ∈ ps) : ∃ i : Nat, ps[i]? = some a ∧ zs[i]? = some (look ps zs a) := by
  obtain ⟨i, hi⟩ := List.mem_iff_getElem?.mp h
  exact ⟨i, hi, look_at nd hl hi⟩
theorem look_some {ps : List Str} {zs : List Int} {a : Str} (nd : ps.Nodup) (hl : zs.length = ps.length) (h : a ∈ ps) : (ps.zip zs).lookup a = some (look ps zs a) := by
  induction ps generalizing zs with
  | nil => cases h
  | cons p r ih =>
    cases zs with
    | nil => simp at hl
    | cons z zs =>
      by_cases e : a = p
      · subst e
        simp [look]
      · have e2 : (a == p) = false := beq_eq_false_iff_ne.mpr e
        have hr : a ∈ r := (List.mem_cons.mp h).resolve_left e
        have := ih (zs := zs) (List.nodup_cons.mp nd).2 (by simpa using hl) hr
        unfold look at this ⊢
        rw [List.zip_cons_cons, List.lookup_cons, e2]
        exact this
/-- places moved together, by a multiple of all moduli: nothing changes -/
theorem look_add {ps : List Str} {zs : List Int} {d : Int} {a : Str} (nd : ps.Nodup) (hl : zs.length = ps.length) (h : a ∈ ps) : look ps (zs.map (· + d)) a = look ps zs a + d := by
  obtain ⟨i, hi, hz⟩ := look_val nd hl h
  have h2 := look_at (zs := zs.map (· + d)) nd (by rw [List.length_map]; exact hl) hi
  rw [List.getElem?_map, hz] at h2
  exact (Option.some.inj h2).symm
theorem FD.val_add {ps : List Str} {zs : List Int} {d : Int} (nd : ps.Nodup) (hl : zs.length = ps.length) {f : FD} (ok : f.Ok ps) (hd : d % f.mod = 0) : f.val (look ps (zs.map (· + d))) = f.val (look ps zs) := by
  have two : ∀ {a b : Str}, a ∈ ps → b ∈ ps → look ps (zs.map (· + d)) b - look ps (zs.map (· + d)) a = look ps zs b - look ps zs a := fun ha hb => by
    rw [look_add nd hl ha, look_add nd hl hb]
    omega
  cases f with
  | by_ a m r =>
    obtain ⟨ha, hm, _⟩ := ok
    have hd' : d % m = 0 := hd
    simp only [FD.val]
    rw [look_add nd hl ha, Int.add_emod, hd', Int.add_zero, Int.emod_emod_of_dvd _ (Int.dvd_refl m)]
  | gap a b m r =>
    obtain ⟨ha, hb, _⟩ := ok
    simp only [FD.val]
    rw [two ha hb]
  | apart a k n b e c =>
    obtain ⟨ha, hb, _⟩ := ok
    simp only [FD.val]
    rw [look_add nd hl ha, look_add nd hl hb]
    congr 1
    · exact decide_eq_decide.mpr ⟨fun h => by omega, fun h => by omega⟩
    · exact decide_eq_decide.mpr ⟨fun h => by omega, fun h => by omega⟩
  | dist w a b n =>
    obtain ⟨_, ha, hb, _⟩ := ok
    simp only [FD.val]
    rw [two ha hb]
theorem FD.mod_dvd {ps : List Str} {f : FD} (ok : f.Ok ps) : (8 : Int) % f.mod = 0 := by
  cases f with
  | by_ a m r =>
    obtain ⟨_, hm, _⟩ := ok
    rcases hm with rfl | rfl | rfl <;> simp only [FD.mod] <;> decide
  | gap a b m r =>
    obtain ⟨_, _, _, hm, _⟩ := ok
    rcases hm with rfl | rfl | rfl <;> simp only [FD.mod] <;> decide
  | apart => simp only [FD.mod]; decide
  | dist => simp only [FD.mod]; decide
theorem FD.val_far {ps : List Str} {zs : List Int} {d : Int} (nd : ps.Nodup) (hl : zs.length = ps.length) {f : FD} (ok : f.Ok ps) : f.val (look ps (zs.map (· + 8 * d))) = f.val (look ps zs) :=
  FD.val_add nd hl ok (by
    have h := FD.mod_dvd ok
    obtain ⟨k, hk⟩ := Int.dvd_of_emod_eq_zero h
    exact Int.emod_eq_zero_of_dvd ⟨k * d, by rw [hk, Int.mul_assoc]⟩)
/-- which facts are false: their indexes -/
def brk (pl : Str → Int) (fs : List FD) : List Nat := (List.range fs.length).filter fun i => match fs[i]? with
  | some f => !f.val pl
  | none => false
def kept (pl : Str → Int) (fs : List FD) : Bool := fs.all fun f => f.val pl
end CF
end
section
set_option Elab.async false
set_option linter.all false
set_option maxRecDepth 100000
set_option maxHeartbeats 4000000
namespace L2
open PySem PySem.Spec PyProof.Rows
/-! defs that may raise, by name -/
theorem FunD.okX {P : Program} {w : World} {K : PySem.W.Frag} {mg : Str → Option Value} {base : Heap} {x qual : Str} {params : Arguments} {body : List Stmt} {scope : Scope} {f : Addr} {fd : FuncData} {N ps : List Str} {k : Nat} {sp : Sp} (F : FunD K x qual params body scope [] [] f fd) (S : FnScope N ps scope) (len : ∀ vs H Q E, sp vs H Q E → vs.length = ps.length)
    (hbody : ∀ (cdv : Value) (A : Around) (outer : List Env) (s : Shared) (H : Hp) (vs : List V) (Q : VK) (E : XK), Room k (A.deeper (envOfC qual scope s.heap.objs.size f cdv)) → sp vs H Q E →
      ∃ t, PSs (cxOf (CX P w) P w K mg base N qual scope f cdv A outer s H E) body t ∧ t { nx := fun _ H' => Q .non H', rt := Q } (start N vs) H) : FnOk P w K mg base (CX P w) (k + 1) f fd ps sp := by
  obtain ⟨oc, od, dV, kV, doc, pm, an, cdv, ct, osl, rfl, lk, hcd, _, _⟩ := F.ex
  exact fn_of lk hcd S len fun A outer s H vs Q E hr hsp => hbody cdv A outer s H vs Q E hr hsp
/-- nothing is let out -/
theorem passN {P : Program} {w : World} {X : Cx} : Passes (CX P w) X E0 := fun _ _ _ _ _ _ _ ⟨_, _, _, _, _, _, _, _, _, _, _, _, h⟩ => h.elim
theorem passV {P : Program} {w : World} {X : Cx} {E : XK} (h : ∀ cls d H, ¬ E cls d H) : Passes (CX P w) X E := fun _ _ _ _ _ _ _ ⟨_, _, H', cls, d, _, _, _, _, _, _, _, q⟩ => (h cls d H' q).elim
structure CalX (P : Program) (w : World) (K : PySem.W.Frag) (mg : Str → Option Value) (base : Heap) (k : Nat) (x : Str) (ps : List Str) (sp : Sp) : Prop where
  ex : ∃ f fd, FnOk P w K mg base (CX P w) k f fd ps sp ∧ mg x = some (.ref f) ∧ PySem.W.keepIn K (.ref f) = true ∧ Binds K fd ps []
section
variable {P : Program} {w : World} {K : PySem.W.Frag} {mg : Str → Option Value} {base : Heap} {k : Nat} {x : Str} {N ps : List Str} {sp : Sp} {st : Stmt}
theorem Def.calX (D : Def K mg x st) (S : FnScope N ps (defScope st)) (len : ∀ vs H Q E, sp vs H Q E → vs.length = ps.length)
    (hb : ∀ (kV doc pm : Value) (an : Option Addr) (cdv ct : Value) (us : List Value), us.length = ps.length → bindArgs (PySem.W.fnOf x x (defArgs st) (defBody st) (defScope st) .none kV doc pm an cdv ct) ⟨us, []⟩ = pure (ps.zip us))
    (body : ∀ (f : Addr) (cdv : Value) (A : Around) (outer : List Env) (s : Shared) (H : Hp) (vs : List V) (Q : VK) (E : XK), Room k (A.deeper (envOfC x (defScope st) s.heap.objs.size f cdv)) → sp vs H Q E →
      ∃ t, PSs (cxOf (CX P w) P w K mg base N x (defScope st) f cdv A outer s H E) (defBody st) t ∧ t { nx := fun _ H' => Q .non H', rt := Q } (start N vs) H) : CalX P w K mg base (k + 1) x ps sp := by
  obtain ⟨f, fd, F, hm⟩ := D.ex
  exact ⟨f, fd, F.okX S len (fun cdv A outer s H vs Q E hr h => body f cdv A outer s H vs Q E hr h), hm, F.kp, F.bindsN hb⟩
end
section
variable {X : Cx} {k : Nat} {x : Str} {ps : List Str} {sp : Sp} {e : Expr} {es : List Expr} {t : TA} {p pos : Pos} {W : WX}
/-- called where what it raises is taken -/
theorem pe_calX (tk : Takes X W) (C : CalX X.prog X.w X.K X.mg X.base k x ps sp) (hr : Room k X.A) (hg : Gl X x) (ha : PA X (e :: es) t) (hdb : (x == ("__debug__" : Str)) = false := by decide)
    (he : starEach (e :: es) X.env = (false, eval e X.env) :: starEach es X.env := by rfl) (hpl : (backTo pos (starEach es X.env)).any (·.1) = false := by rfl) : PE X (.Call (.Name x p) (e :: es) [] pos) (tCallS sp (WE W) t) := by
  obtain ⟨f, fd, G, m, kp, b⟩ := C.ex
  exact pe_callS G hr hg m kp b (fun σ => passAt tk σ) ha hdb he hpl
/-- called where nothing is raised -/
theorem pe_calN (C : CalX X.prog X.w X.K X.mg X.base k x ps sp) (hr : Room k X.A) (hg : Gl X x) (ha : PA X (e :: es) t) (hdb : (x == ("__debug__" : Str)) = false := by decide)
    (he : starEach (e :: es) X.env = (false, eval e X.env) :: starEach es X.env := by rfl) (hpl : (backTo pos (starEach es X.env)).any (·.1) = false := by rfl) : PE X (.Call (.Name x p) (e :: es) [] pos) (tCall sp [] E0 t) := by
  obtain ⟨f, fd, G, m, kp, b⟩ := C.ex
  exact pe_call G hr hg m kp b .nil passN ha hdb he hpl
end
/-- a method of a class -/
structure MthX (P : Program) (w : World) (K : PySem.W.Frag) (mg : Str → Option Value) (base : Heap) (CX : CXT) (k : Nat) (C : Addr) (m : Str) (ps : List Str) (sp : Sp) : Prop where
  cl : Cls K C
  ex : ∃ f fd, FnOk P w K mg base CX k f fd ps sp ∧ Meth K C m f ∧ Binds K fd ps []
section
variable {X : Cx} {CX0' : CXT} {k : Nat} {C : Addr} {m : Str} {ps : List Str} {sp : Sp} {o e : Expr} {es : List Expr} {to : TE} {t : TA} {apos pos : Pos} {E : XK}
theorem pe_mth {pl : Sem Bool} (M : MthX X.prog X.w X.K X.mg X.base CX0' k C m ps sp) (he : PE X o to) (hr : Room k X.A) (hx : Passes CX0' X E) (ha : PA X (e :: es) t)
    (hst : starEach (e :: es) X.env = (false, eval e X.env) :: starEach es X.env := by rfl) (hpl : (backTo pos (starEach es X.env)).any (·.1) = false := by rfl)
    (ht : eval (.Call (.Attribute o m apos) (e :: es) [] pos) X.env = (do
      let ov ← eval o X.env
      standAt apos.atName
      let (f, first) ← holding [ov] (getMethod ov m pl)
      callWith pos f first (backTo pos (starEach (e :: es) X.env)) (backToKw pos (keywordEach [] X.env))) := by rfl) :
    PE X (.Call (.Attribute o m apos) (e :: es) [] pos) (tMeth C m sp [] E to t) := by
  obtain ⟨f, fd, F, hm, hb⟩ := M.ex
  exact pe_meth he M.cl hm F hr hb .nil hx ha hst hpl ht
theorem pe_mth0 {pl : Sem Bool} (M : MthX X.prog X.w X.K X.mg X.base CX0' k C m ps sp) (he : PE X o to) (hr : Room k X.A) (hx : Passes CX0' X E)
    (ht : eval (.Call (.Attribute o m apos) [] [] pos) X.env = (do
      let ov ← eval o X.env
      standAt apos.atName
      let (f, first) ← holding [ov] (getMethod ov m pl)
      callWith pos f first (backTo pos (starEach [] X.env)) (backToKw pos (keywordEach [] X.env))) := by rfl) :
    PE X (.Call (.Attribute o m apos) [] [] pos) (tMeth C m sp [] E to tNil) := by
  obtain ⟨f, fd, F, hm, hb⟩ := M.ex
  exact pe_meth0 he M.cl hm F hr hb .nil hx ht
end
end L2
end
section
set_option Elab.async false
set_option linter.all false
set_option maxRecDepth 100000
set_option maxHeartbeats 4000000
namespace L2
open PySem PySem.Spec PyProof.Rows
/-! defs whose code object is known: they make functions -/
structure DefT (K : PySem.W.Frag) (mg : Str → Option Value) (x : Str) (st : Stmt) (c : Addr) : Prop where
  ex : ∃ f fd, FunD K x x (defArgs st) (defBody st) (defScope st) [] [] f fd ∧ mg x = some (.ref f) ∧ fd.code = .ref c
section
variable {P : Program} {w : World} {K : PySem.W.Frag} {mg : Str → Option Value} {base : Heap} {k : Nat} {x : Str} {N ps : List Str} {sp : Sp} {st : Stmt} {c : Addr}
theorem DefT.calCX {CX : CXT} (D : DefT K mg x st c) (S : FnScope N ps (defScope st)) (len : ∀ vs H Q E, sp vs H Q E → vs.length = ps.length)
    (hb : ∀ (kV doc pm : Value) (an : Option Addr) (cdv ct : Value) (us : List Value), us.length = ps.length → bindArgs (PySem.W.fnOf x x (defArgs st) (defBody st) (defScope st) .none kV doc pm an cdv ct) ⟨us, []⟩ = pure (ps.zip us))
    (body : ∀ (f : Addr) (A : Around) (outer : List Env) (s : Shared) (H : Hp) (vs : List V) (Q : VK) (E : XK), Room k (A.deeper (envOfC x (defScope st) s.heap.objs.size f (.ref c))) → sp vs H Q E →
      ∃ t, PSs (cxOf CX P w K mg base N x (defScope st) f (.ref c) A outer s H E) (defBody st) t ∧ t { nx := fun _ H' => Q .non H', rt := Q } (start N vs) H) :
    ∃ f fd, FnOk P w K mg base CX (k + 1) f fd ps sp ∧ mg x = some (.ref f) ∧ PySem.W.keepIn K (.ref f) = true ∧ Binds K fd ps [] := by
  obtain ⟨f, fd, F, hm, hc⟩ := D.ex
  have B := F.bindsN hb
  have kp := F.kp
  obtain ⟨oc, od, dV, kV, doc, pm, an, cdv, ct, osl, rfl, lk, hcd, _, _⟩ := F.ex
  have e : cdv = .ref c := hc
  subst e
  exact ⟨f, _, fn_of lk hcd S len fun A outer s H vs Q E hr hsp => body f A outer s H vs Q E hr hsp, hm, kp, B⟩
theorem DefT.cal (D : DefT K mg x st c) (S : FnScope N ps (defScope st)) (len : ∀ vs H Q E, sp vs H Q E → vs.length = ps.length)
    (hb : ∀ (kV doc pm : Value) (an : Option Addr) (cdv ct : Value) (us : List Value), us.length = ps.length → bindArgs (PySem.W.fnOf x x (defArgs st) (defBody st) (defScope st) .none kV doc pm an cdv ct) ⟨us, []⟩ = pure (ps.zip us))
    (body : ∀ (f : Addr) (A : Around) (outer : List Env) (s : Shared) (H : Hp) (vs : List V) (Q : VK) (E : XK), Room k (A.deeper (envOfC x (defScope st) s.heap.objs.size f (.ref c))) → sp vs H Q E →
      ∃ t, PSs (cxOf CX0 P w K mg base N x (defScope st) f (.ref c) A outer s H E) (defBody st) t ∧ t { nx := fun _ H' => Q .non H', rt := Q } (start N vs) H) : Cal P w K mg base (k + 1) x ps sp := ⟨D.calCX S len hb body⟩
/-- from the head -/
theorem defT_of {p : He.Defn} {fd : FuncData} (F : FunD K x x (defArgs st) (defBody st) (defScope st) [] [] (He.fAd K p) fd) (hm : mg x = some (.ref (He.fAd K p))) : DefT K mg x st (He.codeOf K p) := by
  refine ⟨_, fd, F, hm, ?_⟩
  obtain ⟨oc, od, dV, kV, doc, pm, an, cdv, ct, osl, rfl, lk, hcd, _, _⟩ := F.ex
  obtain ⟨c, rfl⟩ := He.codeIn_ref hcd
  rw [He.codeOf_eq lk (c := c) rfl]
end
/-- a suite that is read only where a fact holds -/
theorem pss_if {X : Cx} {ss : List Stmt} {t : TS} {p : Prop} (h : p → PSs X ss t) : PSs X ss (fun D σ H => p ∧ t D σ H) := ⟨fun pins s σ H D I ⟨hp, q⟩ => (h hp).run pins s σ H D I q⟩
end L2
end
section
set_option Elab.async false
set_option linter.all false
set_option maxRecDepth 100000
set_option maxHeartbeats 4000000
namespace L2
open PySem PySem.Spec PyProof.Rows
/-- a class of the text, made by its __init__ with the promise sp -/
structure Mkc (P : Program) (w : World) (K : PySem.W.Frag) (mg : Str → Option Value) (base : Heap) (k : Nat) (x : Str) (C : Addr) (ps : List Str) (sp : Sp) : Prop where
  ex : ∃ f fd, FnOk P w K mg base CX0 k f fd ps sp ∧ mg x = some (.ref C) ∧ Mk K C f ∧ Binds K fd ps []
section
variable {X : Cx} {k : Nat} {x : Str} {C : Addr} {ps : List Str} {sp : Sp} {e : Expr} {es : List Expr} {t : TA} {p pos : Pos}
theorem pe_mkc (M : Mkc X.prog X.w X.K X.mg X.base k x C ps sp) (hr : Room (k + 1) X.A) (hg : Gl X x) (ha : PA X (e :: es) t) (hdb : (x == ("__debug__" : Str)) = false := by decide)
    (he : starEach (e :: es) X.env = (false, eval e X.env) :: starEach es X.env := by rfl) (hpl : (backTo pos (starEach es X.env)).any (·.1) = false := by rfl) : PE X (.Call (.Name x p) (e :: es) [] pos) (tMake C sp [] E0 t) := by
  obtain ⟨f, fd, G, m, mk, b⟩ := M.ex
  exact pe_make mk G hr hg m b .nil pass0 ha hdb he hpl
end
end L2
end
section
set_option Elab.async false
set_option linter.all false
set_option maxRecDepth 100000
set_option maxHeartbeats 4000000
namespace L2
open PySem PySem.Spec PyProof.Rows
theorem meets_enumerate_newT (l : Addr) (items : Array Value) (n : Nat) (dct : Option Addr) (sl : Array (Option Value)) :
    Meets (Builtin.«enumerate.__new__» { pos := [Value.type "enumerate", Value.ref l] }) fun x R s =>
      s.heap.get? l = some { cls := Value.type "tuple", dict := dct, data := Data.seq items n, slots := sl } ∧
      R (Except.ok (Flow.ret (Value.ref (s.heap.push { cls := Value.type "tuple_iterator", data := Data.fields #[Value.ref l, Value.int 0 0] }).objs.size)))
        { heap := (s.heap.push { cls := Value.type "tuple_iterator", data := Data.fields #[Value.ref l, Value.int 0 0] }).push
              { cls := Value.type "enumerate", data := Data.fields #[Value.none, Value.bool false, Value.ref s.heap.objs.size, rawInt 0, Value.none, Value.none] },
          gens := s.gens, drawn := s.drawn, toks := s.toks, os := s.os } := by
  refine Meets.of_wp fun prog w A R s h => ?_
  obtain ⟨hp, g, d, tk, os⟩ := s
  obtain ⟨hl, h⟩ := h
  have hsub := sub_enumerate
  have hT : hp.IsTuple l items := ⟨_, hl, rfl, n, rfl⟩
  unfold Builtin.«enumerate.__new__»
  refine wpAny_bind ?_
  unfold Builtin.SmallTypes.newClass
  refine wpAny_bind ?_
  refine wpAny_pure ?_
  refine wpAny_ite_false rfl ?_
  refine wpAny_bind ?_
  rw [hsub]
  refine wpAny_pure ?_
  refine wpAny_ite_false rfl ?_
  refine wpAny_pure ?_
  refine wpAny_ite_true rfl ?_
  refine wpAny_bind ?_
  unfold Builtin.SmallTypes.calledThroughType
  refine wpAny_bind ?_
  refine wpAny_stack_any fun st => ?_
  refine wpAny_pure ?_
  have fin : wpAny (model prog w) A.in1 (do
              let __do_lift ← pyIter (Value.ref l)
              let __do_lift ← Builtin.SmallTypes.newRecord (Value.type "enumerate") (Builtin.SmallTypes.ownedTupleFields ++ [__do_lift, rawInt 0, Value.none, Value.none])
              ret __do_lift) (fun fin s' => ∃ v, fin = Fin.done (Flow.ret v) ∧ R (Except.ok (Flow.ret v)) s') (fun e s' => R (Except.error e) s') { heap := hp, gens := g, drawn := d, toks := tk, os := os } := by
    refine wpAny_bind (wpAny_pyIter_tuple hT ?_)
    refine wpAny_bind ?_
    unfold Builtin.SmallTypes.newRecord
    refine wpAny_newObj_type ?_ (by show 6 ≤ sizeLine + 2; decide)
    exact wpAny_pure ⟨_, rfl, h⟩
  split
  · generalize (_ == Value.type "enumerate") = short
    cases short
    · refine wpAny_ite_false rfl ?_
      refine wpAny_bind ?_
      show wpAny _ _ (pure (Value.ref l, none)) _ _ _
      exact wpAny_pure fin
    · refine wpAny_ite_true rfl ?_
      refine wpAny_bind ?_
      show wpAny _ _ (pure (Value.ref l, none)) _ _ _
      exact wpAny_pure fin
  · refine wpAny_ite_false rfl ?_
    refine wpAny_bind ?_
    show wpAny _ _ (pure (Value.ref l, none)) _ _ _
    exact wpAny_pure fin
theorem call_enumerate_tuple {prog : Program} {w : World} {A : Around} {E : Value → Shared → Prop} {s : Shared} {l : Addr} {items : Array Value} {Q : Value → Shared → Prop} (hT : s.heap.IsTuple l items)
    (h : ∀ h' : Heap, IsEnum h' (s.heap.objs.size + 1) s.heap.objs.size 0 Value.none → h'.IsTupleIter s.heap.objs.size l 0 → h'.objs.size = s.heap.objs.size + 2 → (∀ (b : Addr) (o : Obj), s.heap.get? b = some o → h'.get? b = some o) →
      Q (Value.ref (s.heap.objs.size + 1)) { heap := h', gens := s.gens, drawn := s.drawn, toks := s.toks, os := s.os }) :
    wpAny (model prog w) A (call (Value.type "enumerate") [Value.ref l]) Q E s := by
  obtain ⟨⟨c, dct, dt, sl⟩, hl, hc, n, hd⟩ := hT
  simp only at hc hd
  subst hc hd
  refine callType_new F.called_enumerate (by decide) (F.typeCall_enumerate_1 (Value.ref l)) (F.newCall_enumerate_1 (Value.ref l)) (fun obj => F.args_object_init_2 obj (Value.ref l)) F.entry_enumerate_new (meets_enumerate_newT l items n dct sl) ⟨hl, ?_⟩
  have hz := Heap.size_push s.heap { cls := Value.type "tuple_iterator", data := Data.fields #[Value.ref l, Value.int 0 0] }
  have he := Heap.get?_push_size (s.heap.push { cls := Value.type "tuple_iterator", data := Data.fields #[Value.ref l, Value.int 0 0] }) (o := { cls := Value.type "enumerate", data := Data.fields #[Value.none, Value.bool false, Value.ref s.heap.objs.size, rawInt 0, Value.none, Value.none] }) rfl
  show _ ∧ Q (Value.ref (s.heap.push _).objs.size) _
  rw [hz] at he ⊢
  refine ⟨⟨_, he, rfl⟩, h _ he ⟨_, Heap.get?_push_of_some _ (Heap.get?_push_size s.heap rfl), rfl, rfl⟩ ?_ fun b o x => Heap.get?_push_of_some _ (Heap.get?_push_of_some _ x)⟩
  rw [Heap.size_push, hz]
theorem draws_tuple {prog : Program} {w : World} {A : Around} (hh : A.handled = none) (it l : Addr) (hne : l ≠ it) (items : Array Value) :
    Draws prog w A it [it, l] items.size (fun i v => items[i]? = some v) fun i h => h.IsTupleIter it l i ∧ h.IsTuple l items where
  live _ _ st := by
    obtain ⟨⟨o, ho, _⟩, _⟩ := st
    exact ⟨o, ho⟩
  frame _ _ _ st hk := ⟨st.1.at fun o e => hk it (by simp) o e, by
    obtain ⟨o, ho, r⟩ := st.2
    exact ⟨o, hk l (by simp) o ho, r⟩⟩
  item i s Q E hi st hQ := RZ.nextOf_tuple_item (x := items[i]) st.1 st.2 (by simp [hi]) fun h' hit' hs' => hQ items[i] h' s.toks (by simp [hi]) ⟨hit', by
    obtain ⟨o, ho, r⟩ := st.2
    exact ⟨o, (hs'.right l hne).trans ho, r⟩⟩ hs'
  done s Q E st hE := RZ.nextOf_tuple_end hh st.1 st.2 (by simp) hE
/-- enumerate of a tuple -/
def IteT (K : PySem.W.Frag) (a : Addr) : It where
  go i H := ∃ xs x, SqT K H a xs ∧ xs[i]? = some x
  yld i H v H' := ∃ (T : Addr) (x : V), v = .ref T ∧ H T = none ∧ H' = upd H T (.tup [.int (i : Nat), x]) ∧ ∀ xs : List V, SqT K H a xs → xs[i]? = some x
  stop i H := ∃ xs, SqT K H a xs ∧ xs.length = i
theorem walk_enumT {K : PySem.W.Frag} {a : Addr} {xs : List V} : Walk (IteT K a) xs.length (fun H => SqT K H a xs) (YPair (fun i => some (.int (i : Nat))) (fun i => xs[i]?)) where
  goes i x hi q := ⟨xs, xs[i], q, by simp [hi]⟩
  stops x q := ⟨xs, q, rfl⟩
  yields i H v H' x q y := by
    obtain ⟨T, z, h1, h2, h3, h4⟩ := y
    exact ⟨T, _, z, h1, h2, h3, rfl, h4 xs q⟩
theorem turn_enumT {P : Program} {w : World} {K : PySem.W.Frag} {elts : List Expr} {kk : Nat} {tpos : Pos} (a e it : Addr) :
    Turn P w K (.Tuple elts kk tpos) (IteT K a) [e, it] e fun i h => (∃ old, IsEnum h e it (i : Nat) old) ∧ h.IsTupleIter it a i ∧ e ≠ it ∧ a ≠ it ∧ a ≠ e where
  mem := by simp
  obj i h st b hb := by
    obtain ⟨⟨old, he⟩, ⟨o, ho, hc, hd⟩, _⟩ := st
    have e' : b = e ∨ b = it := by simpa using hb
    rcases e' with rfl | rfl
    · exact ⟨_, he, fun v q => nomatch q⟩
    · exact ⟨o, ho, fun v q => by rw [hd] at q; cases q⟩
  keep i h h' st k := by
    obtain ⟨⟨old, he⟩, hi, hne⟩ := st
    exact ⟨⟨old, k e (by simp) _ he⟩, hi.at fun o q => k it (by simp) o q, hne⟩
  item X hP hw hK hc i pins s σ H E I hf st hg := by
    subst hP hw hK
    obtain ⟨⟨old, he⟩, hit, hne, hai, hae⟩ := st
    obtain ⟨xs, x, hq, hx⟩ := hg
    obtain ⟨its, rv, p, hz⟩ := I.tuple hq
    obtain ⟨u, hu, ru⟩ := Vals.get rv hx
    have hel := Heap.lt_size he
    have hil : it < s.heap.objs.size := by
      obtain ⟨o, q, _⟩ := hit
      exact Heap.lt_size q
    have hnil : a < s.heap.objs.size := by
      obtain ⟨o, q, _⟩ := p
      exact Heap.lt_size q
    have D : Draws X.prog X.w X.A.in1 it [it, a] its.toArray.size (fun i v => its.toArray[i]? = some v) fun i h => h.IsTupleIter it a i ∧ h.IsTuple a its.toArray := draws_tuple (A := X.A.in1) (I.ok.hd hc) it a hai its.toArray
    have hi : i < its.toArray.size := by
      rw [List.size_toArray]
      exact (List.getElem?_eq_some_iff.mp hu).1
    refine wpAny_pyNext_enum_itemD D he ⟨hit, p⟩ hi hne (by simp; exact ⟨hne, fun z => hae z.symm⟩) fun y h' tk hy ho st' hT hsz hk => ?_
    obtain rfl : y = u := by
      have hy' : its.toArray[i]? = some y := hy
      rw [List.getElem?_toArray, hu] at hy'
      exact (Option.some.inj hy').symm
    refine ⟨_, rfl, wpAny_letOwnedTupleGo_enum ho fun h'' he' sb => ?_⟩
    have hT2 := (sb.right s.heap.objs.size (Nat.ne_of_gt hel)).trans hT
    have I1 := Inv.turnedNew (t' := tk + 1) I (fun b ob hb q => (sb.right b fun z => hb (by rw [z]; simp)).trans (hk b ob (fun z => hb (by rw [z]; simp)) (fun z => hb (by rw [z]; simp)) q)) hf (Nat.le_refl s.heap.objs.size) (h' := h'') (ob := .tup [.int (i : Nat), x]) ⟨by show 2 ≤ sizeLine; decide, [Value.int (i : Nat) tk, y], .cons ⟨tk, rfl⟩ (.cons ru .nil), _, hT2, rfl, 0, rfl⟩
    refine ⟨.ref s.heap.objs.size, upd H s.heap.objs.size (.tup [.int (i : Nat), x]), I1, rfl, ⟨_, x, rfl, HOk.fresh I.hok (Nat.le_refl _), rfl, fun ys hy => ?_⟩, ⟨⟨y, ?_⟩, ?_, hne, hai, hae⟩, fun b hb => ?_⟩
    · rw [Inv.tuple_inj I hy hq]
      exact hx
    · have e1 : ((i + 1 : Nat) : Int) = (i : Int) + 1 := by omega
      rw [e1]
      exact he'
    · exact Heap.IsTupleIter.at st'.1 fun o q => (sb.right it hne.symm).trans q
    · have hb' : b < s.heap.objs.size := by
        have e' : b = e ∨ b = it := by simpa using hb
        rcases e' with rfl | rfl
        · exact hel
        · exact hil
      rw [upd_ne (Nat.ne_of_lt hb')]
      exact (hf b hb).1
  done X hP hw hK hc i pins s σ H E I hf st hg := by
    subst hP hw hK
    obtain ⟨⟨old, he⟩, hit, hne, hai, hae⟩ := st
    obtain ⟨xs, hq, hx⟩ := hg
    obtain ⟨its, rv, p, hz⟩ := I.tuple hq
    have D : Draws X.prog X.w X.A.in1 it [it, a] its.toArray.size (fun i v => its.toArray[i]? = some v) fun i h => h.IsTupleIter it a i ∧ h.IsTuple a its.toArray := draws_tuple (A := X.A.in1) (I.ok.hd hc) it a hai its.toArray
    have hl := Vals.length rv
    obtain ⟨f0, f1, f2, f3, f4, f5⟩ := hf it (by simp)
    have en : its.toArray.size = i := by
      rw [List.size_toArray]
      omega
    refine wpAny_pyNext_enum_endD D he (by rw [en]; exact ⟨hit, p⟩) fun h' eb => ⟨rfl, Inv.turned I (fun b o hb q => eb b o hb q) f0 f1 f3 f4 f5⟩
  self A i s Q E st h := by
    obtain ⟨⟨old, he⟩, _⟩ := st
    exact wpAny_pyIter_enum he h
def iEnumT (K : PySem.W.Frag) (ta : TA) : TI := fun σ H R => ta σ H fun vs H1 => ∃ (a : Addr) (xs : List V), vs = [.ref a] ∧ SqT K H1 a xs ∧ R (IteT K a) H1
theorem pi_enumT {X : Cx} {e : Expr} {ta : TA} {p pos tpos : Pos} {elts : List Expr} {kk : Nat} (hg : Gl X "enumerate") (hm : X.mg "enumerate" = none) (ha : PA X [e] ta) (hs : starEach [e] X.env = [(false, eval e X.env)] := by rfl) :
    PI X (.Tuple elts kk tpos) (.Call (.Name "enumerate" p) [e] [] pos) (iEnumT X.K ta) := by
  refine ⟨fun pins s σ H R I h => Call_ (ld_blt I hg hm boot_enumerate (PyProof.Rows.callWith_type1 (thn (ha.run pos pins s σ H _ I h) fun us s1 ⟨vs, H1, I1, r1, a, xs, ex, hq, q⟩ => ?_) hs rfl) (by decide) (by decide)) rfl⟩
  subst ex
  obtain ⟨u, rfl, ru⟩ := vals1 r1
  obtain rfl : u = Value.ref a := ru
  obtain ⟨its, rv, p', hz⟩ := I1.tuple hq
  have hla : a < s1.heap.objs.size := by
    obtain ⟨o, z, _⟩ := p'
    exact Heap.lt_size z
  refine call_enumerate_tuple p' fun h' he hit hsz hk => wpAny_pyIter_enum he ?_
  have I2 := I1.kept (t' := s1.toks) hk
  refine ⟨s1.heap.objs.size + 1, [s1.heap.objs.size + 1, s1.heap.objs.size], _, IteT X.K a, H1, rfl, I2, turn_enumT a _ _, ⟨⟨_, he⟩, hit, Nat.succ_ne_self _, Nat.ne_of_lt hla, Nat.ne_of_lt (Nat.lt_succ_of_lt hla)⟩, fun b hb => ?_, q⟩
  have e' : b = s1.heap.objs.size + 1 ∨ b = s1.heap.objs.size := by simpa using hb
  have le : s1.heap.objs.size ≤ b := by
    rcases e' with rfl | rfl
    · exact Nat.le_succ _
    · exact Nat.le_refl _
  exact I1.fpOk le (I1.hok.fresh le)
end L2
end
section
set_option Elab.async false
set_option linter.all false
set_option maxRecDepth 100000
set_option maxHeartbeats 4000000
namespace L2
open PySem PySem.Spec PyProof.Rows
/-! max(xs, default=d) of whole numbers -/
abbrev dArgs (I S : Addr) (d : Value) : Args := ⟨[.ref I, .none, .ref S], [("default", d)]⟩
theorem maxD_loop {prog : Program} {w : World} {A : Around} {R : Result → Shared → Prop} {I : Addr} {fp wr : List Addr} {n : Nat} {P : Nat → Value → Prop} {St : Nat → Heap → Prop} (d : Value)
    (W : Walks prog w A.in1 I fp wr n P St) (bt : Nat → Nat → Bool) (hcmp : CmpOf prog w A.in1 .Gt P bt) (S : Addr) (hSf : S ∉ fp) :
    ∀ (k j : Nat) (s : Shared) (vb : Value) (c : Nat), n - (j + 1) = k → j + 1 ≤ n → St (j + 1) s.heap → P (argBest bt j) vb → s.heap.get? S = some { cls := .type "list", data := .seq #[vb, vb] c } →
      (∀ (v : Value) (h' : Heap) (tk : Nat), P (argBest bt (n - 1)) v → (∀ (b : Addr) (o : Obj), b ∉ wr → b ≠ S → s.heap.get? b = some o → h'.get? b = some o) → R (.ok (.ret v)) { heap := h', gens := s.gens, drawn := s.drawn, toks := tk, os := s.os }) →
      codeAny (model prog w) A (.builtin "max.loop" (dArgs I S d)) R s := by
  have hSw : S ∉ wr := fun h => hSf (W.sub S h)
  intro k
  induction k with
  | zero =>
    intro j s vb c hk hj hst hPb hS hR
    have hin : j + 1 = n := by omega
    refine codeAny_builtin F.entry_max_loop ?_
    rw [Around.under_plainId F.plain_max_loop]
    refine wpAny_bind (wpAny_seqItems hS rfl ?_)
    refine wpAny_bind (wpAny_tryCatch (W.done s _ _ (by rw [← hin]; exact hst) fun h' tk hk' => ?_))
    have hS' := hk' S _ hSw hS
    refine wpAny_bind (wpAny_updateSeq hS' rfl ?_ (by first | exact Nat.zero_le _ | (show 2 ≤ _; decide)) (by first | exact Nat.zero_le _ | (show 2 ≤ _; decide)))
    refine wpAny_bind (wpAny_letGo (wpAny_pure ?_))
    exact hR vb _ tk (by rw [← hin]; exact hPb) fun b o hbw hbS e => (Heap.get?_update_other _ _ (Ne.symm hbS)).trans (hk' b o hbw e)
  | succ k ih =>
    intro j s vb c hk hj hst hPb hS hR
    refine codeAny_builtin F.entry_max_loop ?_
    rw [Around.under_plainId F.plain_max_loop]
    refine wpAny_bind (wpAny_seqItems hS rfl ?_)
    refine wpAny_bind (wpAny_tryCatch (W.item (j + 1) s _ _ (by omega) hst fun v h' tk hP hst' hk' => ?_))
    have hS' := hk' S _ hSw hS
    refine wpAny_bind (wpAny_pure ?_)
    refine wpAny_bind (wpAny_tryCatch (wpAny_holding ?_))
    refine wpAny_bind (hcmp (j + 1) (argBest bt j) v vb _ _ _ hP hPb ?_)
    refine wpAny_bind (wpAny_holding (wpAny_truthy_bool ?_))
    refine wpAny_bind (wpAny_letGo (wpAny_pure ?_))
    have best : argBest bt (j + 1) = if bt (j + 1) (argBest bt j) = true then j + 1 else argBest bt j := rfl
    have hname : toString "max" ++ toString ".loop" = "max.loop" := by decide
    cases hb : bt (j + 1) (argBest bt j) with
    | true =>
      rw [hb, if_pos rfl] at best
      refine wpAny_ite_true rfl ?_
      refine wpAny_bind (wpAny_updateSeq hS' rfl ?_ (by first | exact Nat.zero_le _ | (show 2 ≤ _; decide)) (by first | exact Nat.zero_le _ | (show 2 ≤ _; decide)))
      refine wpAny_bind (wpAny_letGo ?_)
      rw [hname]
      refine wpAny_pure ⟨plainId_quiet F.plain_max_loop (dArgs I S d), ih (j + 1) _ v _ (by omega) (by omega) (W.frame (j + 1 + 1) h' _ hst' fun b hbf o e => (Heap.get?_update_other _ _ fun h => hSf (by rw [h]; exact hbf)).trans e) (by rw [best]; exact hP) (Heap.get?_update_self _ hS' rfl) fun v' h'' tk'' hP' hk'' => hR v' h'' tk'' hP' fun b o hbw hbS e => hk'' b o hbw hbS ((Heap.get?_update_other _ _ (Ne.symm hbS)).trans (hk' b o hbw e))⟩
    | false =>
      rw [hb, if_neg (by decide)] at best
      refine wpAny_ite_false rfl ?_
      refine wpAny_bind (wpAny_letGo ?_)
      rw [hname]
      refine wpAny_pure ⟨plainId_quiet F.plain_max_loop (dArgs I S d), ih (j + 1) _ vb _ (by omega) (by omega) hst' (by rw [best]; exact hPb) hS' fun v' h'' tk'' hP' hk'' => hR v' h'' tk'' hP' fun b o hbw hbS e => hk'' b o hbw hbS (hk' b o hbw e)⟩
theorem maxD_first {prog : Program} {w : World} {A : Around} {R : Result → Shared → Prop} {I : Addr} {fp wr : List Addr} {n : Nat} {P : Nat → Value → Prop} {St : Nat → Heap → Prop} (d : Value)
    (W : Walks prog w A.in1 I fp wr n P St) (bt : Nat → Nat → Bool) (hcmp : CmpOf prog w A.in1 .Gt P bt) (S : Addr) (hSf : S ∉ fp) {s : Shared} {c : Nat} (hst : St 0 s.heap) (hS : s.heap.get? S = some { cls := .type "list", data := .seq #[] c })
    (hR : ∀ (v : Value) (h' : Heap) (tk : Nat), (n = 0 ∧ v = d) ∨ (0 < n ∧ P (argBest bt (n - 1)) v) → (∀ (b : Addr) (o : Obj), b ∉ wr → b ≠ S → s.heap.get? b = some o → h'.get? b = some o) → R (.ok (.ret v)) { heap := h', gens := s.gens, drawn := s.drawn, toks := tk, os := s.os }) :
    codeAny (model prog w) A (.builtin "max.loop" (dArgs I S d)) R s := by
  have hSw : S ∉ wr := fun h => hSf (W.sub S h)
  refine codeAny_builtin F.entry_max_loop ?_
  rw [Around.under_plainId F.plain_max_loop]
  refine wpAny_bind (wpAny_seqItems hS rfl ?_)
  cases n with
  | zero =>
    refine wpAny_bind (wpAny_tryCatch (W.done s _ _ hst fun h' tk hk' => ?_))
    refine wpAny_bind (wpAny_rule ?_)
    exact wpAny_pure (hR d h' tk (.inl ⟨rfl, rfl⟩) fun b o hbw _ e => hk' b o hbw e)
  | succ n =>
    refine wpAny_bind (wpAny_tryCatch (W.item 0 s _ _ (Nat.succ_pos _) hst fun v h' tk hP hst' hk' => ?_))
    have hS' := hk' S _ hSw hS
    have hname : toString "max" ++ toString ".loop" = "max.loop" := by decide
    refine wpAny_bind (wpAny_pure ?_)
    refine wpAny_bind (wpAny_updateSeq hS' rfl ?_ (by first | exact Nat.zero_le _ | (show 2 ≤ _; decide)) (by first | exact Nat.zero_le _ | (show 2 ≤ _; decide)))
    rw [hname]
    refine wpAny_pure ⟨plainId_quiet F.plain_max_loop (dArgs I S d), maxD_loop d W bt hcmp S hSf (n + 1 - (0 + 1)) 0 _ v _ rfl (by omega) (W.frame (0 + 1) h' _ hst' fun b hbf o e => (Heap.get?_update_other _ _ fun h => hSf (by rw [h]; exact hbf)).trans e) hP (Heap.get?_update_self _ hS' rfl) fun v' h'' tk'' hP' hk'' => hR v' h'' tk'' (.inr ⟨Nat.succ_pos _, hP'⟩) fun b o hbw hbS e => hk'' b o hbw hbS ((Heap.get?_update_other _ _ (Ne.symm hbS)).trans (hk' b o hbw e))⟩
end L2
end
section
set_option Elab.async false
set_option linter.all false
set_option maxRecDepth 100000
set_option maxHeartbeats 4000000
namespace L2
open PySem PySem.Spec PyProof.Rows
theorem call_tree_kw {prog : Program} {w : World} {A : Around} {E : Value → Shared → Prop} {s : Shared} {id : String} {b : Builtin} {args : List Value} {kw : List (Str × Value)} {Q : Value → Shared → Prop}
    (hk : builtinKind id = none) (hp : plainId id = true) (hb : entryFor table id = some b) (ha : argsOk id { pos := args, kw := kw })
    (hc : wpAny (model prog w) A.in1 (b { pos := args, kw := kw }) (fun fin s' => match fin with
        | Fin.done f => match (Except.ok f : Result) with
          | Except.ok (Flow.ret v) => Q v s'
          | Except.ok _ => False
          | Except.error e => E e s'
        | Fin.again c' => c'.quiet = true ∧ codeAny (model prog w) A c' (fun r s' => match r with
          | Except.ok (Flow.ret v) => Q v s'
          | Except.ok _ => False
          | Except.error e => E e s') s') E s) :
    wpAny (model prog w) A (call (Value.builtin id) args kw) Q E s := by
  refine wpAny_call (codeAny_call_builtin hp hb ?_)
  unfold checkBuiltinCall
  simp only [hk]
  unfold argsOk at ha
  cases h : Manifest.signature? id with
  | none =>
    simp only
    exact wpAny_pure hc
  | some sig =>
    rw [h] at ha
    simp only at ha ⊢
    rw [ha]
    exact wpAny_pure hc
/-- max(xs, default=d): d if there is nothing, else the greatest -/
def rMaxD (K : PySem.W.Frag) : List V → List V → Hp → VK → Prop := fun xs zs H Q => ∃ (a : Addr) (ns : List Int) (d : Int), xs = [.ref a] ∧ zs = [.int d] ∧ SqL K H a (ns.map V.int) ∧ (ns = [] → Q (.int d) H) ∧ ∀ m : Int, m ∈ ns → (∀ y ∈ ns, y ≤ m) → Q (.int m) H
theorem cr_maxD {X : Cx} (hc : X.calm = true) : CallRK X (.builtin "max") ["default"] (rMaxD X.K) := by
  intro pins s σ H xs zs us ws Q I rx rz h
  obtain ⟨a, ns, d, rfl, rfl, hs, q0, q⟩ := h
  obtain ⟨u, rfl, ru⟩ := vals1 rx
  obtain rfl : u = Value.ref a := ru
  obtain ⟨v, rfl, t0, rfl⟩ := vals1 rz
  obtain ⟨its, rv, hl0, hz⟩ := I.list hs
  have hh := I.ok.hd hc
  have hi := Vals.ints rv
  obtain ⟨xs, e⟩ := hi.allInts.items
  have hl : s.heap.IsList a (intItems xs) := by
    rw [← e]
    exact hl0.isList
  have hn : xs.toList.map (fun x => x.1) = ns := by
    rw [← nums_intItems xs, ← e]
    exact hi.numsOf
  have hsz : xs.size = ns.length := by
    rw [← hn, List.length_map, Array.length_toList]
  show wpAny _ _ (call (.builtin "max") [.ref a] [("default", .int d t0)]) _ _ _
  refine call_tree_kw F.kind_max F.plain_max F.entry_max ?_ ?_
  · show argsOk "max" _
    rfl
  refine wpAny_bind ?_
  refine wpAny_of_eq (a := [none, some (.int d t0)]) rfl ?_
  refine wpAny_bind (wpAny_pure ?_)
  refine wpAny_bind (iter_intList hl fun s₂ e2 st hfp hlI => ?_)
  subst e2
  refine wpAny_bind (wpAny_newList ?_ (by exact Nat.zero_le _))
  have hname : toString "max" ++ toString ".loop" = "max.loop" := by decide
  rw [hname]
  refine wpAny_pure ⟨plainId_quiet F.plain_max_loop _, ?_⟩
  have W : Walks X.prog X.w X.A.in1 s.heap.objs.size [s.heap.objs.size, a] [s.heap.objs.size] (intItems xs).size (fun i v => (intItems xs)[i]? = some v) (fun i h => h.IsListIter s.heap.objs.size a i ∧ h.IsList a (intItems xs)) := Walks.list (A := X.A.in1) hh _ a hlI (intItems xs)
  have size2 : ∀ o : Obj, (s.heap.push o).objs.size = s.heap.objs.size + 1 := fun o => Heap.size_push _ _
  have hSf : (s.heap.push { cls := Value.type "list_iterator", data := Data.fields #[Value.ref a, Value.int 0 0] }).objs.size ∉ [s.heap.objs.size, a] := fun hm => Nat.lt_irrefl _ (hfp _ hm)
  refine maxD_first (.int d t0) W (fun i j => decide (numAt xs i > numAt xs j)) (CmpOf.ints_gt (numAt xs) fun i v => intItems_at) _ hSf (W.frame 0 _ _ st fun b x o e => Heap.get?_push_of_some _ e) (Heap.get?_push_size _ rfl) fun v h' tk hv hk => ?_
  have keep : ∀ (b : Addr) (o : Obj), s.heap.get? b = some o → h'.get? b = some o := fun b o z => by
    have lt := Heap.lt_size z
    refine hk b o (by simp; exact Nat.ne_of_lt lt) ?_ (Heap.get?_push_of_some _ (Heap.get?_push_of_some _ z))
    rw [size2]
    exact Nat.ne_of_lt (Nat.lt_succ_of_lt lt)
  have I1 := I.kept (t' := tk) keep
  have isz : (intItems xs).size = ns.length := by
    rw [← hsz]
    exact Array.size_map
  rcases hv with ⟨n0, rfl⟩ | ⟨n0, hv⟩
  · refine ⟨.int d, H, I1, ⟨t0, rfl⟩, q0 (List.length_eq_zero_iff.mp (by omega))⟩
  · obtain ⟨t, rfl⟩ := intItems_at hv
    obtain ⟨h1, h2⟩ := argBest_gt (numAt xs) ((intItems xs).size - 1)
    refine ⟨.int _, H, I1, ⟨t, rfl⟩, q _ ?_ fun y hy => ?_⟩
    · rw [numAt_eq, hn]
      exact PySem.getD_mem (by omega)
    · rw [← hn] at hy
      obtain ⟨j, hj, rfl⟩ := mem_getD hy
      rw [← numAt_eq]
      rw [hn] at hj
      exact h2 j (by omega)
end L2
end
section
set_option Elab.async false
set_option linter.all false
set_option maxRecDepth 100000
set_option maxHeartbeats 4000000
namespace L2
open PySem PySem.Spec PyProof.Rows
/-! a def run in one setting A (where it is known that no repr is under way) -/
section
variable {CX : CXT} {P : Program} {w : World} {K : PySem.W.Frag} {mg : Str → Option Value} {base : Heap}
theorem fun_at {k : Nat} {f : Addr} {x qual : Str} {params : Arguments} {body : List Stmt} {scope : Scope} {fd : FuncData} {N ps : List Str} {sp : Sp} (D : FunD K x qual params body scope [] [] f fd) (S : FnScope N ps scope)
    (len : ∀ vs H Q E, sp vs H Q E → vs.length = ps.length) (A : Around)
    (red : ∀ (cdv : Value) (outer : List Env) (s : Shared) (H : Hp) (vs : List V) (Q : VK) (E : XK), Room k (A.deeper (envOfC qual scope s.heap.objs.size f cdv)) → sp vs H Q E →
      ∃ t, PSs (cxOf CX P w K mg base N qual scope f cdv A outer s H E) body t ∧ t { nx := fun _ H' => Q .non H', rt := Q } (start N vs) H)
    {outer : List Env} {s : Shared} {H : Hp} {args : Args} {us : List Value} {vs : List V} {Q : VK} {E : XK} (hr : Room (k + 1) A) (e0 : Env0 P w K mg base A outer s H) (hb : BindsTo s fd args (ps.zip us)) (r : Vals vs us) (h : sp vs H Q E) :
    codeAny (model P w) A (.call (.ref f) args) (CR CX outer P w H s Q E) s := by
  obtain ⟨oc, od, dV, kV, doc, pm, an, cdv, ct, osl, rfl, lk, hcd, _, _⟩ := D.ex
  have here : ∀ b o, base.get? b = some o → s.heap.get? b = some o := fun b o z => (e0.bs b o z).1
  have KX : K.In s.heap := e0.mod.kin.keeps here
  have places : ∀ y ∈ ps.zip us, scope.names.lookup y.1 = some .local ∨ (scope.names.lookup y.1 = some .cell ∧ ((cellsFrom (s.heap.objs.size + 1) scope.names []).lookup y.1).isSome = true) := by
    rintro ⟨n, v⟩ hy
    rcases S.par n (List.of_mem_zip hy).1 with z | z
    · exact Or.inl z
    · exact Or.inr ⟨z, PySem.W.cellsFrom_some _ _ _ (Or.inl z)⟩
  refine codeAny_call_function hr.depth (KX _ _ lk) rfl S.co S.gen rfl (PySem.W.codeRec_of KX hcd) (hb _ _ _ _ (wpAny_newFunctionEnv_cells S.kind places fun env he s1 inside => ?_))
  subst he
  refine ⟨(e0.mod.nolimit.keeps here).keeps inside.toInCall.keep, codeAny_func ?_⟩
  obtain ⟨t, ht, hq⟩ := red cdv outer s H vs Q E (hr.deeper _) h
  have I := inv_start (CX := CX) (E := E) S hr.hd e0 (len _ _ _ _ h) r inside
  refine wpAny_mono (ht.run [] s1 (start N vs) H _ I hq) (fun fl s' z => ?_) fun e s' z => z
  match fl, z with
  | .ret u, ⟨v, σ', H', J, rv, q⟩ => exact ⟨v, H', J.os, J.bare, J.base, J.hok, rv, q⟩
  | .next, ⟨σ', H', J, q⟩ => exact ⟨.non, H', J.os, J.bare, J.base, J.hok, rfl, q⟩
  | .brk, ⟨_, _, _, q⟩ => exact q.elim
  | .cont, ⟨_, _, _, q⟩ => exact q.elim
/-- the script among what is tracked, or among the module's own objects -/
theorem script_hp {s₁ : Shared} {a : Addr} {vs : List Value} {ns : List Int} (KX : K.In s₁.heap) (ha : s₁.heap.get? a = some { cls := .type "list", data := .seq vs.toArray }) (hi : IntsAre vs ns) (hl : ns.length ≤ sizeLine) :
    ∃ H : Hp, Only H ∧ SqL K H a (ns.map V.int) ∧ HOk P w H s₁.heap ∧ (∀ b, H b ≠ none → b = a) ∧ (H a ≠ none → K.lookup a = none) := by
  have rv := vals_ints hi
  cases hk : K.lookup a with
  | some o =>
    have z := KX a o hk
    rw [ha] at z
    cases z
    exact ⟨fun _ => none, fun _ => Or.inl rfl, Or.inr ⟨_, vs.toArray, _, hk, rfl, rfl, rfl, by rw [List.size_toArray, hi.length]; exact hl, by simpa using rv⟩, fun b u z => (nomatch z), fun b z => absurd rfl z, fun z => absurd rfl z⟩
  | none =>
    refine ⟨fun b => if b = a then some (.frz { cls := .type "list", data := .seq vs.toArray } (.lst (ns.map V.int))) else none, fun b => ?_, Or.inl (Or.inr ⟨_, if_pos rfl⟩), fun b u z => ?_, fun b z => ?_, fun _ => rfl⟩
    · by_cases e : b = a
      · exact Or.inr ⟨_, _, if_pos e⟩
      · exact Or.inl (if_neg e)
    · have z' : (if b = a then some (HO.frz { cls := .type "list", data := .seq vs.toArray } (.lst (ns.map V.int))) else none) = some u := z
      by_cases e : b = a
      · rw [if_pos e] at z'
        cases z'
        rw [e]
        exact ⟨ha, by rw [List.length_map]; exact hl, vs, _, rv, ha⟩
      · rw [if_neg e] at z'
        cases z'
    · by_cases e : b = a
      · exact e
      · exact absurd (if_neg e) z
/-- the law's call, its def's promise given in the caller's setting alone -/
theorem law_at {fa a : Addr} {s₁ : Shared} {mb : Str → Option Value} {vs : List Value} {ns : List Int}
    (KX : K.In s₁.heap) (hns : s₁.heap.Ns mainGlobals mg) (hb : s₁.heap.Ns builtinsNs mb) (hbb : ∀ x : Str, x ≠ "__name__" → mb x = bootBuiltins x) (hlim : s₁.heap.NoLimit) (hg : s₁.gens = #[])
    (ha : s₁.heap.get? a = some { cls := .type "list", data := .seq vs.toArray }) (hi : IntsAre vs ns) (hl : ns.length ≤ sizeLine)
    (run : ∀ base : Heap, K.In base → base.Ns mainGlobals mg → ∀ H : Hp, Only H → SqL K H a (ns.map V.int) → Env0 P w K mg base callerA [] s₁ H →
      codeAny (model P w) callerA (.call (.ref fa) ⟨[.ref a], []⟩) (CR CX0 [] P w H s₁ (fun v _ => v = .bl true) fun _ _ _ => False) s₁) :
    codeAny (model P w) callerA (.call (.ref fa) ⟨[.ref a], []⟩) (fun r s' => r = .ok (.ret (.bool true)) ∧ OldK s₁.heap s'.heap ∧ s'.os = s₁.os ∧ AllBare s'.gens) s₁ := by
  obtain ⟨H, hO, hS, hok, hA, hK⟩ := script_hp (P := P) (w := w) KX ha hi hl
  have lists : ∀ {b : Addr} {o : Obj} {es : Array DictEntry} {ep : Nat}, s₁.heap.get? b = some o → o.data = .dict es ep → H b = none := by
    intro b o es ep z d
    cases q : H b with
    | none => rfl
    | some u =>
      have e : b = a := hA b (by rw [q]; exact Option.some_ne_none _)
      rw [e, ha] at z
      cases z
      cases d
  have names : ∀ {b : Addr} {m : Str → Option Value}, s₁.heap.Ns b m → (hidT s₁.heap H).Ns b m := fun ⟨o, es, ep, z, d, r⟩ => ⟨o, es, ep, hidT_get z (lists z d), d, r⟩
  have KB : K.In (hidT s₁.heap H) := fun b o z => hidT_get (KX b o z) (by
    cases q : H b with
    | none => rfl
    | some u =>
      have e : b = a := hA b (by rw [q]; exact Option.some_ne_none _)
      rw [e] at z q
      rw [hK (by rw [q]; exact Option.some_ne_none _)] at z
      cases z)
  obtain ⟨mc, l1, l2⟩ := id hlim
  refine codeAny_mono (run _ KB (names hns) H hO hS ⟨rfl, ⟨KB, names hns, ⟨mb, names hb, hbb⟩, mc, names l1, l2⟩, fun b o z => of_hidT z, Nat.le_of_eq (hidT_size _ _), trivial, fun b z => (nomatch z), hok, .of_eq hg⟩) fun r s' z => ?_
  match r, z with
  | .error e, z => exact z.elim
  | .ok .next, z => exact z.elim
  | .ok .brk, z => exact z.elim
  | .ok .cont, z => exact z.elim
  | .ok (.ret u), ⟨v, H', os, bare, un, hok', rv, q⟩ =>
    have q2 : v = .bl true := q
    subst q2
    obtain rfl : u = Value.bool true := rv
    refine ⟨rfl, OldK.of_keep fun b o e => ?_, os, bare⟩
    cases z : H b with
    | none => exact un.keep b o e z (fun y => nomatch y) (fun y => nomatch y)
    | some u =>
      rcases hO b with y | ⟨ob, xs, y⟩
      · rw [z] at y
        cases y
      · obtain ⟨e1, _⟩ := hok b _ y
        obtain ⟨e2, _⟩ := hok' b _ (un.frzs b ob _ y)
        rw [e] at e1
        cases e1
        exact e2
end
end L2
end
section
set_option Elab.async false
set_option linter.all false
set_option maxRecDepth 100000
set_option maxHeartbeats 4000000
namespace L2
open PySem PySem.Spec PyProof.Rows
/-! an own object whose __iter__ gives iter of a tuple that it keeps -/
/-- a tuple's iterator, tracked -/
def ItT (a it : Addr) (i : Nat) : HO := .ext fun h => h.get? it = some { cls := .type "tuple_iterator", data := .fields #[.ref a, .int (i : Nat) 0] }
theorem itT_ok {a it : Addr} {i : Nat} {P : Program} {w : World} {H : Hp} {h : Heap} (e : h.get? it = some { cls := .type "tuple_iterator", data := .fields #[.ref a, .int (i : Nat) 0] }) : ObjOk P w H h it (ItT a it i) := ⟨e, ⟨_, e⟩, fun h1 h2 q k => k _ q⟩
def rIterTN (K : PySem.W.Frag) (n : Nat) : List V → Hp → VK → Prop := fun xs H Q => ∃ (a : Addr) (zs : List V), xs = [.ref a] ∧ SqT K H a zs ∧ ∀ it, H it = none → n ≤ it → Q (.ref it) (upd H it (ItT a it 0))
theorem call_iterTN {X : Cx} : CallR X (.builtin "iter") (rIterTN X.K X.s_0.heap.objs.size) := by
  intro pins s σ H xs us Q I r h
  obtain ⟨a, zs, rfl, hq, q⟩ := h
  obtain ⟨u, rfl, ru⟩ := vals1 r
  obtain rfl : u = Value.ref a := ru
  obtain ⟨its, rv, p, hz⟩ := I.tuple hq
  refine PySem.Calls.call_function_entry rfl rfl PySem.W.kdk_entry_iter (PySem.W.kdk_args_iter (Value.ref a)) ?_
  refine wpAny_bind (wpAny_of_eq (rfl : someArgs "iter" 1 2 { pos := [Value.ref a] } = _) ?_)
  refine wpAny_bind (wpAny_pyIter_tuple p (wpAny_pure ⟨_, rfl, ?_⟩))
  exact ⟨.ref s.heap.objs.size, upd H s.heap.objs.size (ItT a s.heap.objs.size 0), I.laid (fun b u e => Heap.get?_push_of_some _ e) (Nat.le_refl _) (itT_ok (Heap.get?_push_size s.heap rfl)), rfl, q _ (I.hok.fresh (Nat.le_refl _)) I.sz⟩
theorem inst_at {P : Program} {w : World} {H : Hp} {h : Heap} {o C dx : Addr} {fs : List (Str × V)} (hk : HOk P w H h) (ho : H o = some (.ins C dx fs)) : ∃ ox od, PySem.W.InstAt h o ox C od := by
  have z := hk o _ ho
  simp only [ObjOk] at z
  obtain ⟨_, _, _, ho', mA, hn, _⟩ := z
  obtain ⟨od, h1, _⟩ := lookIn_ns hn
  exact ⟨_, some od, ho', rfl, rfl, h1⟩
/-- the call of __iter__, in whatever frame -/
def IterRun (P : Program) (w : World) (K : PySem.W.Frag) (mg : Str → Option Value) (base : Heap) (k : Nat) (C fI : Addr) (fld : Str) : Prop :=
  ∀ (A : Around) (outer : List Env) (s : Shared) (H : Hp) (o a dx : Addr) (fs : List (Str × V)) (xs : List V), Room k A → Env0 P w K mg base A outer s H → H o = some (.ins C dx fs) → fs.lookup fld = some (.ref a) → SqT K H a xs →
    codeAny (model P w) A (.call (.ref fI) ⟨[.ref o], []⟩) (CR CX0 outer P w H s (fun v H' => ∃ it, v = .ref it ∧ H it = none ∧ s.heap.objs.size ≤ it ∧ H' = upd H it (ItT a it 0)) (fun _ _ _ => False)) s
def iOwn (K : PySem.W.Frag) (C : Addr) (fld : Str) (te : TE) : TI := fun σ H R => te σ H fun x H1 => ∃ (o a dx : Addr) (fs : List (Str × V)) (xs : List V), x = .ref o ∧ H1 o = some (.ins C dx fs) ∧ fs.lookup fld = some (.ref a) ∧ SqT K H1 a xs ∧ R (Itt K a) H1
theorem pi_own {X : Cx} {tg e : Expr} {te : TE} {C fI : Addr} {k : Nat} {fld : Str} (he : PE X e te) (iC : PySem.W.findIn X.K (.ref C) "__iter__" = some (some (.ref fI))) (fF : PySem.W.isFn X.K (.ref fI) = true)
    (IR : IterRun X.prog X.w X.K X.mg X.base k C fI fld) (hr : Room k X.A) : PI X tg e (iOwn X.K C fld te) := by
  refine ⟨fun pins s σ H R I h => thn (he.run pins s σ H _ I h) fun v s1 ⟨x, H1, I1, r1, o, a, dx, fs, xs, ex, ho, hl, hq, q⟩ => ?_⟩
  subst ex
  obtain rfl : v = Value.ref o := r1
  obtain ⟨ox, od, inst⟩ := inst_at I1.hok ho
  obtain ⟨m, fr⟩ := I1.fr
  refine PySem.W.owit_iter fr I1.ok.mod.kin inst iC fF (wpAny_call (codeAny_mono (IR X.A X.stack s1 H1 o a dx fs xs hr I1.env0 ho hl hq) fun r s' z => ?_))
  cases r with
  | error er => exact z.elim
  | ok fl =>
    cases fl with
    | next => exact z.elim
    | brk => exact z.elim
    | cont => exact z.elim
    | ret u =>
      obtain ⟨v, H', J, rv, it, rfl, hit, sz, rfl⟩ := I1.after z
      obtain rfl : u = Value.ref it := rv
      have here : upd H1 it (ItT a it 0) it = some (ItT a it 0) := upd_same
      have hobj := (J.hok _ _ here)
      have hget : s'.heap.get? it = some { cls := .type "tuple_iterator", data := .fields #[.ref a, .int (0 : Nat) 0] } := hobj.1
      have isIt : s'.heap.IsTupleIter it a 0 := ⟨_, hget, rfl, rfl⟩
      have J2 := ItX.inv_drop J here
      have fp := ItX.inv_fp J here (Nat.le_trans I1.sz sz)
      rw [ItX.dropH_upd hit] at J2 fp
      refine wpAny_specialOf (r := some (.builtin "tuple_iterator.__next__")) isIt.typeIs ?_ ?_
      · exact F.slot_tuple_iterator_next.lookup
      · exact ⟨it, [it], _, Itt X.K a, H1, rfl, J2, turn_tuple a it, isIt, fun b hb => by rw [List.mem_singleton.mp hb]; exact fp, q⟩
/-- a def run once, its reading at the call's own state -/
theorem fun_once {CX : CXT} {P : Program} {w : World} {K : PySem.W.Frag} {mg : Str → Option Value} {base : Heap} {k : Nat} {f : Addr} {x qual : Str} {params : Arguments} {body : List Stmt} {scope : Scope} {fd : FuncData} {N ps : List Str} (D : FunD K x qual params body scope [] [] f fd) (S : FnScope N ps scope)
    {A : Around} {outer : List Env} {s : Shared} {H : Hp} {args : Args} {us : List Value} {vs : List V} {Q : VK} {E : XK} (hlen : vs.length = ps.length)
    (red : ∀ cdv : Value, Room k (A.deeper (envOfC qual scope s.heap.objs.size f cdv)) → ∃ t, PSs (cxOf CX P w K mg base N qual scope f cdv A outer s H E) body t ∧ t { nx := fun _ H' => Q .non H', rt := Q } (start N vs) H)
    (hr : Room (k + 1) A) (e0 : Env0 P w K mg base A outer s H) (hb : BindsTo s fd args (ps.zip us)) (r : Vals vs us) :
    codeAny (model P w) A (.call (.ref f) args) (CR CX outer P w H s Q E) s := by
  obtain ⟨oc, od, dV, kV, doc, pm, an, cdv, ct, osl, rfl, lk, hcd, _, _⟩ := D.ex
  have here : ∀ b o, base.get? b = some o → s.heap.get? b = some o := fun b o z => (e0.bs b o z).1
  have KX : K.In s.heap := e0.mod.kin.keeps here
  have places : ∀ y ∈ ps.zip us, scope.names.lookup y.1 = some .local ∨ (scope.names.lookup y.1 = some .cell ∧ ((cellsFrom (s.heap.objs.size + 1) scope.names []).lookup y.1).isSome = true) := by
    rintro ⟨n, v⟩ hy
    rcases S.par n (List.of_mem_zip hy).1 with z | z
    · exact Or.inl z
    · exact Or.inr ⟨z, PySem.W.cellsFrom_some _ _ _ (Or.inl z)⟩
  refine codeAny_call_function hr.depth (KX _ _ lk) rfl S.co S.gen rfl (PySem.W.codeRec_of KX hcd) (hb _ _ _ _ (wpAny_newFunctionEnv_cells S.kind places fun env he s1 inside => ?_))
  subst he
  refine ⟨(e0.mod.nolimit.keeps here).keeps inside.toInCall.keep, codeAny_func ?_⟩
  obtain ⟨t, ht, hq⟩ := red cdv (hr.deeper _)
  have I := inv_start (CX := CX) (E := E) S hr.hd e0 hlen r inside
  refine wpAny_mono (ht.run [] s1 (start N vs) H _ I hq) (fun fl s' z => ?_) fun e s' z => z
  match fl, z with
  | .ret u, ⟨v, σ', H', J, rv, q⟩ => exact ⟨v, H', J.os, J.bare, J.base, J.hok, rv, q⟩
  | .next, ⟨σ', H', J, q⟩ => exact ⟨.non, H', J.os, J.bare, J.base, J.hok, rfl, q⟩
  | .brk, ⟨_, _, _, q⟩ => exact q.elim
  | .cont, ⟨_, _, _, q⟩ => exact q.elim
end L2
end
section
set_option Elab.async false
set_option linter.all false
set_option maxRecDepth 100000
set_option maxHeartbeats 4000000
namespace L2
open PySem PySem.Spec PyProof.Rows
/-! len(o) and list(o) of an own object whose __len__ and __iter__ speak of a tuple that it keeps -/
def LenRun (P : Program) (w : World) (K : PySem.W.Frag) (mg : Str → Option Value) (base : Heap) (k : Nat) (C fL : Addr) (fld : Str) : Prop :=
  ∀ (A : Around) (outer : List Env) (s : Shared) (H : Hp) (o a dx : Addr) (fs : List (Str × V)) (xs : List V), Room k A → Env0 P w K mg base A outer s H → H o = some (.ins C dx fs) → fs.lookup fld = some (.ref a) → SqT K H a xs →
    codeAny (model P w) A (.call (.ref fL) ⟨[.ref o], []⟩) (CR CX0 outer P w H s (fun v H' => v = .int (xs.length : Nat) ∧ H' = H) (fun _ _ _ => False)) s
section
variable {X : Cx} {pins : List (Addr × Obj)} {σ : St} {H : Hp} {s : Shared} {C fL fI o a dx : Addr} {k : Nat} {fld : Str} {fs : List (Str × V)} {xs : List V} {A1 : Around}
theorem env0_at {n : Nat} (sb : Sub X n A1) (I : Inv X pins σ H s) : Env0 X.prog X.w X.K X.mg X.base A1 X.stack s H := by
  have e := I.env0
  exact ⟨by rw [sb.fr]; exact e.frames, e.mod, e.bs, e.bsz, e.funs, e.frf, e.hok, e.bare⟩
theorem len_own_at {Q : Value → Shared → Prop} {E : Value → Shared → Prop} (lC : PySem.W.findIn X.K (.ref C) "__len__" = some (some (.ref fL))) (fF : PySem.W.isFn X.K (.ref fL) = true)
    (LR : LenRun X.prog X.w X.K X.mg X.base k C fL fld) (sb : Sub X k A1.in1) (I : Inv X pins σ H s) (ho : H o = some (.ins C dx fs)) (hl : fs.lookup fld = some (.ref a)) (hq : SqT X.K H a xs) (hz : xs.length ≤ sizeLine)
    (h : ∀ s' t, Inv X pins σ H s' → Q (.int (xs.length : Nat) t) s') : wpAny (model X.prog X.w) A1 (call (.builtin "len") [.ref o]) Q E s := by
  obtain ⟨ox, od, inst⟩ := inst_at I.hok ho
  obtain ⟨m, fr⟩ := I.fr
  rw [sizeLine_eq] at hz
  refine PySem.W.len_K fr I.ok.mod.kin inst lC fF (wpAny_call (codeAny_mono (LR A1.in1 X.stack s H o a dx fs xs sb.room (env0_at sb I) ho hl hq) fun r s' z => ?_))
  cases r with
  | error er => exact z.elim
  | ok fl =>
    cases fl with
    | next => exact z.elim
    | brk => exact z.elim
    | cont => exact z.elim
    | ret u =>
      obtain ⟨v, H', J, rv, rfl, rfl⟩ := I.after z
      obtain ⟨t, rfl⟩ := rv
      exact ⟨⟨by omega, by omega⟩, h _ _ (J.tok _)⟩

/-- len(o) -/
def rLenOwn (K : PySem.W.Frag) (C : Addr) (fld : Str) : List V → Hp → VK → Prop := fun ys H Q => ∃ (o a dx : Addr) (fs : List (Str × V)) (xs : List V), ys = [.ref o] ∧ H o = some (.ins C dx fs) ∧ fs.lookup fld = some (.ref a) ∧ SqT K H a xs ∧ Q (.int (xs.length : Nat)) H
theorem call_lenOwn (lC : PySem.W.findIn X.K (.ref C) "__len__" = some (some (.ref fL))) (fF : PySem.W.isFn X.K (.ref fL) = true) (LR : LenRun X.prog X.w X.K X.mg X.base k C fL fld) (hr : Room (k + 1) X.A) : CallR X (.builtin "len") (rLenOwn X.K C fld) := by
  intro pins s σ H xs us Q I r h
  obtain ⟨o, a, dx, fs, ys, rfl, ho, hl, hq, q⟩ := h
  obtain ⟨u, rfl, ru⟩ := vals1 r
  obtain rfl : u = Value.ref o := ru
  obtain ⟨its, rv, p, hz⟩ := I.tuple hq
  have sb : Sub X k X.A.in1 := Sub.in1 (⟨hr, rfl⟩ : Sub X (k + 1) X.A)
  exact len_own_at lC fF LR sb I ho hl hq hz fun s' t J => ⟨.int (ys.length : Nat), H, J, ⟨t, rfl⟩, q⟩
/-- a tuple's iterator poured into a list -/
theorem tup_loop {Rs : Result → Shared → Prop} {it S : Addr} {its : List Value} (hh : A1.in1.handled = none) (rv : Vals xs its) (hz : xs.length ≤ sizeLine)
    (hdone : ∀ s', Inv X pins σ (upd H S (.lst xs)) s' → Rs (.ok (.ret .none)) s') :
    ∀ (n i : Nat) (s : Shared), xs.length - i = n → i ≤ xs.length → Inv X pins σ (upd H S (.lst (xs.take i))) s → s.heap.IsTupleIter it a i → s.heap.IsTuple a its.toArray → a ≠ it → S ≠ it → a ≠ S → FpOk X pins (upd H S (.lst (xs.take i))) it →
      codeAny (model X.prog X.w) A1 (.builtin "list.extend.loop" ⟨[.ref S, .ref it, .none], []⟩) Rs s := by
  have len := rv.length
  intro n
  induction n with
  | zero =>
    intro i s hk hi I hit ht nat nsi nas f
    have hin : i = xs.length := by omega
    refine codeAny_builtin PySem.F.entry_extend_loop ?_
    rw [Around.under_plainId PySem.F.plain_extend_loop _]
    show wpAny _ A1.in1 (pyNext (.ref it) >>= _) _ _ s
    refine wpAny_bind (wpAny_pyNext_tuple_end hh hit ht (by simp only [List.size_toArray, Array.getElem?_eq_none_iff]; omega) fun h' he => ?_)
    have J := I.turnedL (t' := s.toks) (ch := [it]) (fun b o hb e => he b o (fun z => hb (by rw [z]; exact List.mem_singleton.mpr rfl)) e) (fun b hb => by rw [List.mem_singleton.mp hb]; exact f)
    rw [hin, List.take_length] at J
    exact wpAny_pure (hdone _ J)
  | succ n ih =>
    intro i s hk hi I hit ht nat nsi nas f
    have hlt : i < its.length := by omega
    have hu : its[i]? = some its[i] := List.getElem?_eq_getElem hlt
    refine codeAny_builtin PySem.F.entry_extend_loop ?_
    rw [Around.under_plainId PySem.F.plain_extend_loop _]
    show wpAny _ A1.in1 (pyNext (.ref it) >>= _) _ _ s
    refine wpAny_bind (wpAny_pyNext_tuple_item hit ht (x := its[i]) (by rw [List.getElem?_toArray]; exact hu) fun h' hit' sb => ?_)
    have J := I.turnedL (t' := s.toks) (ch := [it]) (fun b o hb e => sb.extBut b o (fun z => hb (by rw [z]; exact List.mem_singleton.mpr rfl)) e) (fun b hb => by rw [List.mem_singleton.mp hb]; exact f)
    obtain ⟨z, its', c, r2, hl2, e⟩ := J.lstM upd_same
    show wpAny _ A1.in1 (updateSeq S (·.push its[i]) >>= _) _ _ _
    have hx : xs[i]? = some xs[i] := List.getElem?_eq_getElem (by omega)
    have tk : xs.take (i + 1) = xs.take i ++ [xs[i]] := by rw [List.take_add_one, hx]; rfl
    have tl : (xs.take i).length = i := by rw [List.length_take]; omega
    have J2 := J.lset (f := (·.push its[i])) (its' := its' ++ [its[i]]) (ys := xs.take (i + 1)) (t' := s.toks) upd_same e (by simp) (by rw [tk]; exact r2.append (.cons (by obtain ⟨u, e1, e2⟩ := rv.get hx; rw [hu] at e1; cases e1; exact e2) .nil)) (by rw [List.length_take]; omega)
    rw [upd_upd] at J2
    have ht' : h'.IsTuple a its.toArray := Heap.IsTuple.extBut ht sb.extBut nat
    refine wpAny_bind (wpAny_updateSeq e rfl (wpAny_pure ⟨plainId_quiet PySem.F.plain_extend_loop _, ?_⟩) (by rw [List.size_toArray]; omega) (by show (its'.toArray.push its[i]).size ≤ sizeLine + 1; rw [Array.size_push, List.size_toArray]; omega))
    have oth : ∀ b o, b ≠ S → h'.get? b = some o → (h'.update S (Obj.mapSeq (·.push its[i]))).get? b = some o := fun b o hb q => (Heap.get?_update_other _ _ (Ne.symm hb)).trans q
    refine ih (i + 1) _ (by omega) (by omega) J2 (hit'.at fun o q => oth it o (Ne.symm nsi) q) (ht'.at fun o q => oth a o nas q) nat nsi nas ⟨?_, f.2⟩
    have := f.1
    rw [upd_ne (Ne.symm nsi)] at this ⊢
    exact this
/-- what is said of the length -/
theorem hint_own {Q : Bool → Shared → Prop} {E : Value → Shared → Prop} (lC : PySem.W.findIn X.K (.ref C) "__len__" = some (some (.ref fL))) (fF : PySem.W.isFn X.K (.ref fL) = true)
    (LR : LenRun X.prog X.w X.K X.mg X.base k C fL fld) (sb : Sub X k A1.in1) (I : Inv X pins σ H s) (ho : H o = some (.ins C dx fs)) (hl : fs.lookup fld = some (.ref a)) (hq : SqT X.K H a xs) (hz : xs.length ≤ sizeLine)
    (h : ∀ s' b, Inv X pins σ H s' → Q b s') : wpAny (model X.prog X.w) A1 (Builtin.List.listLengthHint (.ref o)) Q E s := by
  obtain ⟨ox, od, inst⟩ := inst_at I.hok ho
  unfold Builtin.List.listLengthHint
  refine wpAny_bind (wpAny_bind (inst.type.here ((PySem.W.looks_findIn I.kIn lC).here ?_)))
  refine PySem.W.KFB.if_not rfl ?_
  refine wpAny_ite_true rfl ?_
  refine wpAny_bind (wpAny_rule ?_)
  refine wpAny_bind (wpAny_attempt (len_own_at lC fF LR sb I ho hl hq hz fun s' t J => ?_))
  refine wpAny_bind (m := asInt? _) (wpAny_pure ?_)
  have hz2 : (((xs.length : Nat) : Int)).toNat = xs.length := Int.toNat_natCast _
  have htl : Builtin.List.listTooLong (((xs.length : Nat) : Int)).toNat = false := by rw [hz2]; exact notLongL hz
  exact wpAny_ite_split (fun hab => absurd hab (by rw [htl]; decide)) (fun _ => wpAny_pure (h _ _ J))
theorem sqT_up {K : PySem.W.Frag} {q : Addr} {u : HO} (hq : H q = none ∨ ∃ ys, H q = some (.lst ys)) (h : SqT K H a xs) : SqT K (upd H q u) a xs := by
  rcases h with (h | ⟨v, h⟩) | h
  · exact .inl (.inl (by rw [upd_ne (fun z => by rw [z] at h; rcases hq with e | ⟨ys, e⟩ <;> rw [e] at h <;> cases h)]; exact h))
  · exact .inl (.inr ⟨v, by rw [upd_ne (fun z => by rw [z] at h; rcases hq with e | ⟨ys, e⟩ <;> rw [e] at h <;> cases h)]; exact h⟩)
  · exact .inr h
/-- list(o) -/
def rListOwn (K : PySem.W.Frag) (C : Addr) (fld : Str) : List V → Hp → VK → Prop := fun ys H Q => ∃ (o a dx : Addr) (fs : List (Str × V)) (xs : List V), ys = [.ref o] ∧ H o = some (.ins C dx fs) ∧ fs.lookup fld = some (.ref a) ∧ SqT K H a xs ∧ ∀ q, H q = none → Q (.ref q) (upd H q (.lst xs))
theorem call_listOwnT (lC : PySem.W.findIn X.K (.ref C) "__len__" = some (some (.ref fL))) (lF : PySem.W.isFn X.K (.ref fL) = true) (LR : LenRun X.prog X.w X.K X.mg X.base k C fL fld)
    (iC : PySem.W.findIn X.K (.ref C) "__iter__" = some (some (.ref fI))) (iF : PySem.W.isFn X.K (.ref fI) = true) (IR : IterRun X.prog X.w X.K X.mg X.base k C fI fld) (hc : X.calm = true) (hr : Room (k + 3) X.A) : CallR X (.type "list") (rListOwn X.K C fld) := by
  intro pins s σ H xs us Q I rv h
  obtain ⟨o, a, dx, fs, ys, rfl, ha, hl, hq, q⟩ := h
  obtain ⟨u, rfl, ru⟩ := rv.one
  cases ru
  have sb1 : Sub X (k + 1) X.A.in1.in1 := (Sub.in1 (Sub.in1 (⟨hr, rfl⟩ : Sub X (k + 3) X.A)))
  have hh : X.A.handled = none := I.ok.hd hc
  refine callType_codes (Q₁ := fun obj s₁ => obj = .ref s.heap.objs.size ∧ s₁ = { s with heap := s.heap.push { cls := .type "list", data := .seq #[] } }) PySem.F.called_list (PySem.F.typeCall_list_1 _) PySem.F.entry_list_init
    (code_list_new _ ⟨rfl, rfl⟩) fun obj s₁ h₁ => ?_
  obtain ⟨rfl, rfl⟩ := h₁
  have hS : (s.heap.push { cls := .type "list", data := .seq #[] }).get? s.heap.objs.size = some { cls := .type "list", data := .seq #[] } := Heap.get?_push_size _ rfl
  refine ⟨⟨_, hS, rfl⟩, PySem.F.args_list_init_2 _ _, ?_⟩
  have fr : H s.heap.objs.size = none := I.hok.fresh (Nat.le_refl _)
  have I1 : Inv X pins σ (upd H s.heap.objs.size (.lst [])) { s with heap := s.heap.push { cls := .type "list", data := .seq #[] } } := I.lnew (its := []) (t' := s.toks) .nil (Nat.zero_le _)
  have qf := q _ fr
  have hq1 := sqT_up (u := .lst []) (.inl fr) hq
  have ha1 : upd H s.heap.objs.size (.lst []) o = some (.ins C dx fs) := by rw [upd_ne (ne_of_none ha fr)]; exact ha
  show wpAny _ _ (do let old ← Builtin.List.listItems (.ref s.heap.objs.size); Builtin.List.listUpdate (.ref s.heap.objs.size) (fun _ => #[]); letGo old.toList.reverse; Builtin.List.listExtendWith (.ref s.heap.objs.size) (.ref o) .none) _ _ _
  refine wpAny_bind ?_
  unfold Builtin.List.listItems
  refine wpAny_bind (wpAny_seqItems hS rfl (wpAny_pure ?_))
  show wpAny _ _ (updateSeq s.heap.objs.size (fun _ => #[]) >>= fun _ => letGo (#[] : Array Value).toList.reverse >>= fun _ => Builtin.List.listExtendWith (.ref s.heap.objs.size) (.ref o) .none) _ _ _
  refine wpAny_bind (wpAny_updateSeq hS rfl ?_)
  have I2 := I1.lset (f := fun _ => #[]) (its := []) (its' := []) (ys := []) (t' := s.toks) upd_same hS rfl .nil (Nat.zero_le _)
  rw [upd_upd] at I2
  refine wpAny_bind (wpAny_letGo ?_)
  generalize hS0 : s.heap.objs.size = S at *
  generalize hs2 : ({ heap := (s.heap.push { cls := Value.type "list", data := Data.seq #[] }).update S (Obj.mapSeq fun _ => #[]), gens := s.gens, drawn := s.drawn, toks := s.toks, os := s.os } : Shared) = s2 at I2 ⊢
  obtain ⟨ox, od, inst⟩ := inst_at I2.hok ha1
  obtain ⟨m0, hF⟩ := I2.fr
  have hne : S ≠ o := fun z => by rw [z] at fr; rw [fr] at ha; cases ha
  unfold Builtin.List.listExtendWith
  refine wpAny_bind (inst.type.here ?_)
  have h1 : Builtin.List.listSameRef (.ref S) (.ref o) = false := by simp [Builtin.List.listSameRef, hne]
  have h2 : (Value.ref C == Value.type "list") = false := rfl
  have h3 : (Value.ref C == Value.type "tuple") = false := rfl
  simp only [h1, h2, h3, Bool.or_false, Bool.false_eq_true, if_false]
  refine wpAny_bind (PySem.W.owit_iter hF I2.ok.mod.kin inst iC iF (wpAny_call (codeAny_mono (IR X.A.in1.in1 X.stack s2 _ o a dx fs ys (sb1.room.mono (Nat.le_succ _)) (env0_at sb1 I2) ha1 hl hq1) fun r s' z => ?_)))
  cases r with
  | error er => exact z.elim
  | ok fl =>
    cases fl with
    | next => exact z.elim
    | brk => exact z.elim
    | cont => exact z.elim
    | ret u =>
      obtain ⟨v, H', J, rv, it, rfl, hit, sz, rfl⟩ := I2.after z
      obtain rfl : u = Value.ref it := rv
      have here : upd (upd H S (.lst [])) it (ItT a it 0) it = some (ItT a it 0) := upd_same
      have hobj := (J.hok _ _ here)
      have hget : s'.heap.get? it = some { cls := .type "tuple_iterator", data := .fields #[.ref a, .int (0 : Nat) 0] } := hobj.1
      have isIt : s'.heap.IsTupleIter it a 0 := ⟨_, hget, rfl, rfl⟩
      have hSit : S ≠ it := fun z => by
        rw [← z, upd_same] at hit
        cases hit
      refine wpAny_specialOf (r := some (.builtin "tuple_iterator.__next__")) isIt.typeIs ?_ ?_
      · exact F.slot_tuple_iterator_next.lookup
      have hq2 := sqT_up (u := ItT a it 0) (.inl hit) hq1
      have ito : it ≠ o := fun z => by rw [z, ha1] at hit; cases hit
      have ha2 : upd (upd H S (.lst [])) it (ItT a it 0) o = some (.ins C dx fs) := by rw [upd_ne (Ne.symm ito)]; exact ha1
      obtain ⟨_, _, _, hz⟩ := J.tuple hq2
      refine wpAny_bind (wpAny_holding (hint_own lC lF LR sb1.in1 J ha2 hl hq2 hz fun s3 b J3 => ?_))
      have hobj3 := (J3.hok _ _ here)
      have hget3 : s3.heap.get? it = some { cls := .type "tuple_iterator", data := .fields #[.ref a, .int (0 : Nat) 0] } := hobj3.1
      have isIt3 : s3.heap.IsTupleIter it a 0 := ⟨_, hget3, rfl, rfl⟩
      have J4 := ItX.inv_drop J3 here
      have fp4 := ItX.inv_fp J3 here (Nat.le_trans I2.sz sz)
      rw [ItX.dropH_upd hit] at J4 fp4
      obtain ⟨its, rvs, tupI, _⟩ := J4.tuple hq1
      have nait : a ≠ it := fun e => by
        obtain ⟨ob, hob, hcl, _⟩ := tupI
        rw [e, hget3] at hob
        cases hob
        exact absurd (Value.type.inj hcl) (by decide)
      have naS : a ≠ S := fun e => by
        obtain ⟨ob, hob, hcl, _⟩ := tupI
        obtain ⟨_, its', c, _, _, eS⟩ := J4.lstM upd_same
        rw [e, eS] at hob
        cases hob
        exact absurd (Value.type.inj hcl) (by decide)
      have key := tup_loop (A1 := X.A.in1) (X := X) (pins := pins) (σ := σ) (H := H) (Rs := wants (fun r s₂ => r = .none ∧ EP X pins σ Q (.ref S) s₂) X.xe) (it := it) (S := S) (a := a) hh rvs hz (fun s' I' => ⟨rfl, .ref S, _, I', rfl, qf⟩) ys.length 0
      obtain ⟨z, its4, c4, r4, hl4, e4⟩ := J4.lstM upd_same
      cases r4
      refine wpAny_ite_split (fun _ => ?_) (fun _ => wpAny_pure ⟨plainId_quiet PySem.F.plain_extend_loop _, key s3 rfl (Nat.zero_le _) J4 isIt3 tupI nait hSit naS fp4⟩)
      refine wpAny_bind (wpAny_rule ?_)
      refine wpAny_bind ?_
      show wpAny _ _ (updateSeq S (·.push .none) >>= fun _ => updateSeq S (·.pop)) _ _ _
      refine wpAny_bind (wpAny_updateSeq e4 rfl ?_)
      have K2 := J4.lset (f := (·.push Value.none)) (its' := [Value.none]) (ys := [.non]) (t' := s3.toks) upd_same e4 (by simp) (.cons rfl .nil) (by rw [List.length_singleton, sizeLine_eq]; decide)
      rw [upd_upd] at K2
      obtain ⟨z5, its5, k5, r5, hl5, e5⟩ := K2.lstM upd_same
      obtain ⟨u5, rfl, ru5⟩ := r5.one
      refine wpAny_updateSeq e5 rfl ?_ (by show 1 ≤ sizeLine; rw [sizeLine_eq]; decide) (by show 0 ≤ sizeLine + 1; exact Nat.zero_le _)
      have K3 := K2.lset (f := (·.pop)) (its := [u5]) (its' := []) (ys := []) (t' := s3.toks) upd_same e5 (by rfl) .nil (Nat.zero_le _)
      rw [upd_upd] at K3
      have o1 : ∀ (h : Heap) (f : Obj → Obj) (b : Addr) (ob : Obj), b ≠ S → h.get? b = some ob → (h.update S f).get? b = some ob := fun h f b ob hb q => (Heap.get?_update_other _ _ (Ne.symm hb)).trans q
      refine wpAny_pure ⟨plainId_quiet PySem.F.plain_extend_loop _, key _ rfl (Nat.zero_le _) K3 ?_ ?_ nait hSit naS fp4⟩
      · exact ⟨_, o1 _ _ _ _ (Ne.symm hSit) (o1 _ _ _ _ (Ne.symm hSit) hget3), rfl, rfl⟩
      · obtain ⟨ob, hob, hcl, hd⟩ := tupI
        exact ⟨ob, o1 _ _ _ _ naS (o1 _ _ _ _ naS hob), hcl, hd⟩
end
end L2
end
section
set_option Elab.async false
set_option linter.all false
set_option maxRecDepth 100000
set_option maxHeartbeats 4000000
namespace L2
open PySem PySem.Spec PyProof.Rows
section
variable {X : Cx}
/-- repr of data (lists, tuples of ints and texts): the text of the data -/
def rRepr (K : PySem.W.Frag) : List V → Hp → VK → Prop := fun xs H Q => ∃ (a : Addr) (d : PyData), xs = [.ref a] ∧ Dp K H (.ref a) d ∧ d.showable = true ∧ d.hasDict = false ∧ d.depth ≤ 60 ∧ d.shown.length ≤ sizeLine ∧ Q (.str d.shown) H
theorem call_reprD (hg : X.A.guards = some []) (hu : X.A.units + 64 < cLine) : CallR X (.builtin "repr") (rRepr X.K) := by
  intro pins s σ H xs us Q I r h
  obtain ⟨a, d, rfl, hd, hs, hn, hdp, hz, q⟩ := h
  obtain ⟨u, rfl, ru⟩ := vals1 r
  cases ru
  obtain ⟨as, rd⟩ := Dp.reads I d _ _ hd rfl
  exact repr_of_reads' rd hs (fun z => by rw [hn] at z; cases z) hg (by omega) (fun _ _ e => e) (fun h' u tk k => ⟨.str d.shown, H, I.kept (t' := tk) k, ⟨u, rfl⟩, q⟩) hz
/-- {t}, t a tuple of ints: some bounded text -/
def tFmtI (K : PySem.W.Frag) (te : TE) : TE := fun σ H Q => te σ H fun x H1 => ∃ (a : Addr) (l : List Int), x = .ref a ∧ SqT K H1 a (l.map V.int) ∧ (∀ i ∈ l, i.natAbs.log2 < 1920) ∧ l.length ≤ 100 ∧ ∀ m : Str, m.length ≤ 200000 → Q (.str m) H1
theorem repr_ints {prog : Program} {w : World} : ∀ {l : List Int} {its : List Value}, Vals (l.map V.int) its → (∀ i ∈ l, i.natAbs.log2 < 1920) → ReprAll prog w its (l.map fun i => ((toString i : String) : Str))
  | [], _, r, _ => by
    cases r
    exact .nil
  | i :: l, _, r, h => by
    cases r with
    | cons r1 r2 =>
      obtain ⟨t, rfl⟩ := r1
      exact .cons (ReprIs.int t (h i List.mem_cons_self)) (repr_ints r2 fun z hz => h z (List.mem_cons_of_mem _ hz))
theorem piled_ints : ∀ l : List Int, (∀ i ∈ l, i.natAbs.log2 < 1920) → piled (l.map fun i => ((toString i : String) : Str)) ≤ 1923 * l.length
  | [], _ => Nat.zero_le _
  | i :: l, h => by
    have h1 := int_text_len_1921 (h i List.mem_cons_self)
    have h2 := piled_ints l fun z hz => h z (List.mem_cons_of_mem _ hz)
    rw [List.map_cons, piled_cons, List.length_cons]
    omega
theorem pe_fmtI {e : Expr} {te : TE} {pos : Pos} {k : Nat} (hr : Room k X.A) (he : PE X e te) : PE X (.FormattedValue e (-1) none pos) (tFmtI X.K te) := by
  refine ⟨fun pins s σ H Q I h => wpAny_FormattedValue_plain (thn (he.run pins s σ H _ I h) fun v s1 hv => ?_)⟩
  obtain ⟨x, H1, I1, r1, a, l, rfl, ht, hc, hl, q⟩ := hv
  cases r1
  obtain ⟨its, rv, ⟨o, ho, hcl, n, hd⟩, _⟩ := I1.tuple ht
  have hp := piled_ints l hc
  have htx := fmt_text (l.map fun i => ((toString i : String) : Str))
  have hsl : (200000 : Nat) ≤ sizeLine := by decide
  refine fmt_tuple (ts := l.map fun i => ((toString i : String) : Str)) (by have := hr.units; omega) ho hcl hd (repr_ints rv hc) (by omega) fun m u tk hm => ⟨.str m, H1, I1.tok _, ⟨u, rfl⟩, q m (by omega)⟩
end
end L2
end
section
set_option Elab.async false
set_option linter.all false
set_option maxRecDepth 100000
set_option maxHeartbeats 4000000
namespace L2
open PySem PySem.Spec PyProof.Rows
/-! exceptions of own classes, with an own __init__, held as values -/
/-- C(e, ..) as a value: __init__ keeps sp at the new exception a -/
def tMkE (C : Addr) (sp : Sp) (dvs : List V) (ta : TA) : TE := fun σ H Q => ta σ H fun vs H1 => vs.length ≤ 1000 ∧ ∀ a, H1 a = none → sp (.ref a :: (vs ++ dvs)) (upd H1 a (exo a C none)) (fun v H2 => v = .non ∧ Q (.ref a) H2) (fun _ _ _ => False)
section
variable {X : Cx} {x : Str} {C fI : Addr} {k : Nat} {fd : FuncData} {ps : List Str} {sp : Sp} {ds : List Value} {dvs : List V} {e : Expr} {es : List Expr} {ta : TA} {p pos : Pos}
theorem run_mkE {pins : List (Addr × Obj)} {σ : St} {H : Hp} {s : Shared} {Q : VK} {us : List Value} {vs : List V} (T : OexC X.K C) (iC : PySem.W.findIn X.K (.ref C) "__init__" = some (some (.ref fI))) (tI : PySem.W.typeIn X.K (.ref fI) = some (.type "function"))
    (FO : FnOk X.prog X.w X.K X.mg X.base CX0 k fI fd ps sp) (hr : Room (k + 1) X.A) (hb : Binds X.K fd ps ds) (hd : Vals dvs ds) (I : Inv X pins σ H s) (r : Vals vs us) (hz : vs.length ≤ 1000)
    (q : ∀ a, H a = none → sp (.ref a :: (vs ++ dvs)) (upd H a (exo a C none)) (fun v H2 => v = .non ∧ Q (.ref a) H2) (fun _ _ _ => False)) :
    wpAny (model X.prog X.w) X.A (call (.ref C) us) (EP X pins σ Q) X.xe s := by
  obtain ⟨nm, qn, N, bs, bm, sn, sub, ab, col, dd, k0, k1, k2, k3, k5, hC, hbm⟩ := T.cls
  obtain ⟨hp, g, dr, tk, os⟩ := s
  have big : hp.objs.size ≤ hp.objs.size + 1 := Nat.le_succ _
  have new : H (hp.objs.size + 1) = none := I.hok.fresh big
  have hq := q (hp.objs.size + 1) new
  let h2 : Heap := (hp.push (PySem.W.kdv_tup us)).push (PySem.HandSPX.excO C hp.objs.size)
  have keep : ∀ b o, hp.get? b = some o → h2.get? b = some o := fun b o z => Heap.get?_push_of_some _ (Heap.get?_push_of_some _ z)
  have here : h2.get? (hp.objs.size + 1) = some (PySem.HandSPX.excO C hp.objs.size) := by
    show ((hp.push (PySem.W.kdv_tup us)).push (PySem.HandSPX.excO C hp.objs.size)).get? (hp.objs.size + 1) = _
    heap_get
  have J : Inv X pins σ (upd H (hp.objs.size + 1) (exo (hp.objs.size + 1) C none)) ⟨h2, g, dr, tk, os⟩ := I.laid (t' := tk) (h' := h2) keep big (exo_ok here)
  have rr : Vals (V.ref (hp.objs.size + 1) :: (vs ++ dvs)) (Value.ref (hp.objs.size + 1) :: (us ++ ds)) := .cons rfl (r.append hd)
  have hlen : (Value.ref (hp.objs.size + 1) :: us ++ ds).length = ps.length := by
    have z := rr.length
    rw [FO.len _ _ _ _ hq] at z
    exact z.symm
  have few : us.length ≤ sizeLine := by
    rw [← Paired.length r, sizeLine_eq]
    omega
  refine wpAny_call (PySem.HandSPX.call_own F.excBase_ValueError (fun Y => PySem.HandSPX.refsVE_contains Y bm hbm) (I.kIn _ _ hC) (PySem.W.looks_findIn I.kIn iC) (fun self => PySem.W.bind_fn I.kIn self tI) few ?_)
  refine codeAny_mono (FO.run _ X.stack _ _ ⟨Value.ref (hp.objs.size + 1) :: us, []⟩ _ _ _ (fun _ _ _ => False) (hr.make C us []) (J.env0.make C us []) (hb _ (Value.ref (hp.objs.size + 1) :: us) J.kIn hlen) rr hq) fun res s' z => ?_
  cases res with
  | error er => exact z.elim
  | ok fl =>
    cases fl with
    | ret u =>
      obtain ⟨v, H', J2, rv, ev, q2⟩ := J.after z
      subst ev
      exact ⟨rv, .ref (hp.objs.size + 1), H', J2, rfl, q2⟩
    | next => exact False.elim z
    | brk => exact False.elim z
    | cont => exact False.elim z
theorem pe_mkE (T : OexC X.K C) (iC : PySem.W.findIn X.K (.ref C) "__init__" = some (some (.ref fI))) (tI : PySem.W.typeIn X.K (.ref fI) = some (.type "function"))
    (FO : FnOk X.prog X.w X.K X.mg X.base CX0 k fI fd ps sp) (hr : Room (k + 1) X.A) (hb : Binds X.K fd ps ds) (hd : Vals dvs ds) (hg : Gl X x) (hm : X.mg x = some (.ref C)) (ha : PA X (e :: es) ta)
    (hdb : (x == ("__debug__" : Str)) = false := by decide) (he : starEach (e :: es) X.env = (false, eval e X.env) :: starEach es X.env := by rfl) (hpl : (backTo pos (starEach es X.env)).any (·.1) = false := by rfl) :
    PE X (.Call (.Name x p) (e :: es) [] pos) (tMkE C sp dvs ta) :=
  ⟨fun pins s σ H Q I h => wpAny_Call_Name_kw (ld_glob I hg hm (PySem.W.callWith_K (h₀ := X.base) I.ok.mod.kin T.kC (thn (ha.run pos pins s σ H _ I h) fun us s1 ⟨vs, H1, I1, r1, hz, q1⟩ => ⟨I1.kIn, run_mkE T iC tI FO hr hb hd I1 r1 hz q1⟩) he hpl) hdb)⟩
theorem pe_mkE0 (T : OexC X.K C) (iC : PySem.W.findIn X.K (.ref C) "__init__" = some (some (.ref fI))) (tI : PySem.W.typeIn X.K (.ref fI) = some (.type "function"))
    (FO : FnOk X.prog X.w X.K X.mg X.base CX0 k fI fd ps sp) (hr : Room (k + 1) X.A) (hb : Binds X.K fd ps ds) (hd : Vals dvs ds) (hg : Gl X x) (hm : X.mg x = some (.ref C))
    (hdb : (x == ("__debug__" : Str)) = false := by decide) : PE X (.Call (.Name x p) [] [] pos) (tMkE C sp dvs tNil) :=
  ⟨fun pins s σ H Q I h => wpAny_Call_Name_kw (ld_glob I hg hm (PySem.W.callWith_K0 I.kIn T.kC (run_mkE (us := []) T iC tI FO hr hb hd I .nil h.1 h.2)) hdb)⟩
end
/-! Base.__init__(self, e): Base an own class that has ValueError's __init__ -/
section
variable {X : Cx} {x : Str} {B : Addr} {e : Expr} {es : List Expr} {ta : TA} {p1 p2 pos : Pos}
theorem pe_binit {pl : Sem Bool} {mc : Value} (hg : Gl X x) (hm : X.mg x = some (.ref B)) (rd : ClX.CRead X.K B mc) (fv : PySem.W.findCls X.K (.ref B) mc "__init__" = some (.val (.builtin "ValueError.__init__"))) (ha : PA X (e :: es) ta)
    (hdb : (x == ("__debug__" : Str)) = false := by decide)
    (hc : eval (.Call (.Attribute (.Name x p1) "__init__" p2) (e :: es) [] pos) X.env = (do
      let ov ← eval (.Name x p1) X.env
      standAt p2.atName
      let (f, first) ← holding [ov] (getMethod ov "__init__" pl)
      callWith pos f first (backTo pos (starEach (e :: es) X.env)) (backToKw pos (keywordEach [] X.env))) := by rfl)
    (he : starEach (e :: es) X.env = (false, eval e X.env) :: starEach es X.env := by rfl) (hpl : (backTo pos (starEach es X.env)).any (·.1) = false := by rfl) :
    PE X (.Call (.Attribute (.Name x p1) "__init__" p2) (e :: es) [] pos) (tVeI X.K ta) := by
  refine ⟨fun pins s σ H Q I h => PySem.W.methodCall_KW (ld_glob I hg hm ?_ hdb) hc⟩
  refine PySem.W.method_cls I.kIn rd.ga (PySem.W.cls_value I.kIn rd.rd fv (by decide +kernel) ?_)
  show wpAny _ _ (callWith pos (Value.builtin "ValueError.__init__") [] (backTo pos (starEach (e :: es) X.env)) []) _ _ _
  refine PyProof.Rows.callWith_method1 (thn (ha.run pos pins _ σ H _ (I.tok _) h) fun us s1 ⟨vs, H1, J, r1, a, C, ws, ev, hl, T, ea, q⟩ => ?_) he hpl
  subst ev
  cases r1 with
  | @cons _ u0 _ ur ra rw' =>
    obtain rfl : u0 = Value.ref a := ra
    exact oinit_ok T J ea (by rw [← Paired.length rw', sizeLine_eq]; omega) fun s' J2 => ⟨.non, H1, J2, rfl, q⟩
end
/-! err.f, isinstance(err, C) -/
/-- what the top says of an own exception class, so that its exceptions are asked -/
structure ExV (K : PySem.W.Frag) (C : Addr) : Prop where
  xf : XfC K C
  cl : (PySem.W.clsIn K C).isSome = true
  ca : PySem.W.findIn K (.ref C) "__class__" = some (some (.builtin "object.__class__"))
  cg : PySem.W.specialIn K (.builtin "object.__class__") "__get__" = some (some (.builtin "getset_descriptor.__get__"))
  ct : PySem.W.takesIn K (.builtin "object.__class__") = some true
  ob : PySem.W.mroIn K C (.type "object") = some true
/-- an exception stands at a: of the class C, its dict (if it has one) with the fields fs -/
def ExAt (H : Hp) (a C : Addr) (fs : List (Str × V)) : Prop := (fs = [] ∧ H a = some (exo a C none)) ∨ ∃ dx, H a = some (exo a C (some dx)) ∧ H dx = some (exd dx fs)
section
variable {X : Cx}
theorem exAt_inst {pins : List (Addr × Obj)} {σ : St} {H : Hp} {s : Shared} {a C : Addr} {fs : List (Str × V)} (I : Inv X pins σ H s) (h : ExAt H a C fs) :
    ∃ ox od, PySem.W.InstAt s.heap a ox C od ∧ ∀ (f : Str) (v : V), fs.lookup f = some v → ∃ o u, od = some o ∧ PySem.W.lookIn f o = some (some u) ∧ RelV v u := by
  rcases h with ⟨rfl, h⟩ | ⟨dx, h, hd⟩
  · obtain ⟨t1, ho⟩ := exo_at I.hok h
    exact ⟨_, none, ⟨ho, rfl, rfl, trivial⟩, fun f v z => by cases z⟩
  · obtain ⟨t1, ho⟩ := exo_at I.hok h
    obtain ⟨mA, hn, rel⟩ := exd_at I.hok hd
    obtain ⟨od, h1, h2⟩ := lookIn_ns hn
    refine ⟨_, some od, ⟨ho, rfl, rfl, h1⟩, fun f v z => ?_⟩
    obtain ⟨u, hu, ru⟩ := RelO.some_of (v := v) (o := mA f) (by rw [← z]; exact rel f)
    exact ⟨od, u, rfl, by rw [h2, hu], ru⟩
/-- the reading of err.f -/
def tEf (K : PySem.W.Frag) (f : Str) (te : TE) : TE := fun σ H Q => te σ H fun x H1 => ∃ (a C : Addr) (fs : List (Str × V)) (v : V), x = .ref a ∧ ExAt H1 a C fs ∧ ExV K C ∧ PySem.W.findIn K (.ref C) f = some none ∧ fs.lookup f = some v ∧ Q v H1
theorem pe_ef {e : Expr} {te : TE} {f : Str} {pos : Pos} (he : PE X e te) (hb : attributeBase e f X.env (eval e X.env) = eval e X.env := by rfl) : PE X (.Attribute e f pos) (tEf X.K f te) := by
  refine ⟨fun pins s σ H Q I h => attr_of hb (thn (he.run pins s σ H _ I h) fun u s1 hh => ?_)⟩
  obtain ⟨x, H1, J, rx, a, C, fs, v, rfl, ha, T, hno, l, q⟩ := hh
  obtain rfl : u = Value.ref a := rx
  obtain ⟨ox, od, O, z⟩ := exAt_inst J ha
  obtain ⟨o, w, rfl, hw, rv⟩ := z f v l
  exact HandSPX.exc_get J.kIn O T.xf.ga T.xf.gg T.xf.exC (PySem.W.findObj_own T.xf.hdC hno rfl hw) (handed_of rv) ⟨v, H1, J.tok _, rv, q⟩
/-- isinstance(err, c) -/
def rIsEx (K : PySem.W.Frag) : List V → Hp → VK → Prop := fun xs H Q => ∃ (a C : Addr) (fs : List (Str × V)) (c : V) (u : Value) (b : Bool), xs = [.ref a, c] ∧ ExAt H a C fs ∧ ExV K C ∧ ClsV c u ∧ PySem.W.kitOne K (.ref C) u = some b ∧ Q (.bl b) H
theorem call_isEx : CallR X (.builtin "isinstance") (rIsEx X.K) := by
  intro pins s σ H xs us Q I r h
  obtain ⟨a, C, fs, c, u, b, rfl, ha, T, k, e, q⟩ := h
  obtain ⟨u1, u2, rfl, r1, r2⟩ := vals2 r
  obtain rfl : u1 = Value.ref a := r1
  have e2 := k.eq r2
  subst e2
  obtain ⟨ox, od, O, _⟩ := exAt_inst I ha
  exact PySem.W.kia_one (PySem.W.kitx_exc (od := od) T.cl T.xf.ga T.xf.gg T.xf.exC T.ca T.cg T.ct T.ob) I.kIn O e (fun z => nomatch z) fun tk => ⟨.bl b, H, I.tok tk, rfl, q⟩
end
end L2
end
section
set_option Elab.async false
set_option linter.all false
set_option maxRecDepth 100000
set_option maxHeartbeats 4000000
namespace L2
open PySem PySem.Spec PyProof.Rows
/-! raise X(): an own class whose __init__ takes nothing and keeps no field -/
section
variable {X : Cx}
theorem mk_endN {pins : List (Addr × Obj)} {σ : St} {H1 H2 : Hp} {Q : XK} {hp hp2 h2 : Heap} {g1 g2 : Array GenState} {d1 d2 : Drawn} {t1 t2 : Nat} {os1 os2 : OsState} {a C : Addr} (T : Raises X (.ref C)) (I1 : Inv X pins σ H1 ⟨hp, g1, d1, t1, os1⟩)
    (ha : hp.objs.size ≤ a) (k : ∀ b o, hp.get? b = some o → hp2.get? b = some o) (un : Un (frs X.stack) [] (upd H1 a (exo a C none)) H2 hp2 h2) (hok : HOk X.prog X.w H2 h2) (ho : os2 = os1) (hb : AllBare g2)
    (ea : H2 a = some (exo a C none)) (q : Q (.ref C) none (del H2 a)) : MkP X pins σ Q (.ref a) ⟨h2, g2, d2, t2, os2⟩ := by
  obtain ⟨t0, hoe⟩ := exo_at hok ea
  have hn : H1 a = none := I1.hok.fresh ha
  obtain ⟨G, g1', g2'⟩ := restrict h2 fun b => decide (b ≠ a)
  have gk : ∀ b, b ≠ a → G.get? b = h2.get? b := fun b hb => g1' b (decide_eq_true hb)
  have ge : G.get? a = none := g2' a (by simp)
  have nha : ∀ {b : Addr} {o : Obj}, hp.get? b = some o → b ≠ a := fun {b o} z => Nat.ne_of_lt (Nat.lt_of_lt_of_le (Heap.lt_size z) ha)
  have up : ∀ {b : Addr}, b ≠ a → H1 b = none → upd H1 a (exo a C none) b = none := fun {b} hb n => by rw [upd_ne hb]; exact n
  have U : Un (frs X.stack) [] H1 (del H2 a) hp G := {
    keep := fun b o z n hf hx => by
      rw [gk b (nha z)]
      exact un.keep b o (k b o z) (up (nha z) n) hf hx
    slot := fun b o z n hf hx => by
      rw [gk b (nha z)]
      exact un.slot b o (k b o z) (up (nha z) n) hf hx
    free := fun b o z n hx => by
      rw [del_ne (nha z)]
      exact un.free b o (k b o z) (up (nha z) n) hx
    there := fun b o z hx => by
      rw [gk b (nha z)]
      exact un.there b o (k b o z) hx
    tups := fun b xs z => by
      rw [del_ne (ne_of_none z hn)]
      exact un.tups b xs (by rw [upd_ne (ne_of_none z hn)]; exact z)
    frzs := fun b o v z => by
      rw [del_ne (ne_of_none z hn)]
      exact un.frzs b o v (by rw [upd_ne (ne_of_none z hn)]; exact z)
    tbls := fun b ps z => by
      rw [del_ne (ne_of_none z hn)]
      exact un.tbls b ps (by rw [upd_ne (ne_of_none z hn)]; exact z) }
  have hok3 : HOk X.prog X.w (del H2 a) G := fun b o z => by
    have hba : b ≠ a := fun e => by
      rw [e, del_same] at z
      cases z
    rw [del_ne hba] at z
    have noa : ∀ {c : Addr}, H2 c = some (.own b) → c ≠ a := fun {c} hc => at_ne ea hc exo_own
    exact (hok b o z).stay (fun c v hc y => by
        have hca : c ≠ a := by
          rcases hc with hc | hc
          · rw [hc]
            exact hba
          · exact noa hc
        rw [gk c hca]
        exact y)
      (fun c hc => by rw [del_ne (noa hc)]; exact hc) (fun c xs hc => by rw [del_ne (at_ne ea hc exo_tup)]; exact hc)
  have J : Inv X pins σ (del H2 a) ⟨G, g2, d2, t2, os2⟩ := I1.call' (ch := []) ho U hok3 hb (fun b z => absurd z (by simp))
  exact ⟨a, _, _, ⟨G, g2, d2, t2, os2⟩, _, .ref C, none, rfl, J, fun b o z => (gk b (fun e => by rw [e, ge] at z; cases z)).symm.trans z, ge, hoe, ⟨rfl, rfl⟩, rfl, rfl, del_same, rfl, hb, T, q⟩
def tMkN (C : Addr) (sp : Sp) : St → Hp → XK → Prop := fun _ H1 Q => ∀ a, H1 a = none → sp [.ref a] (upd H1 a (exo a C none)) (fun v H2 => v = .non ∧ H2 a = some (exo a C none) ∧ Q (.ref C) none (del H2 a)) (fun _ _ _ => False)
theorem pmk_oexN {CX : CXT} {x : Str} {C fI : Addr} {k : Nat} {fd : FuncData} {ps : List Str} {sp : Sp} {p pos : Pos} (T : OexC X.K C) (iC : PySem.W.findIn X.K (.ref C) "__init__" = some (some (.ref fI))) (tI : PySem.W.typeIn X.K (.ref fI) = some (.type "function"))
    (F1 : FnOk X.prog X.w X.K X.mg X.base CX k fI fd ps sp) (hr : Room (k + 1) X.A) (hb : Binds X.K fd ps []) (hx : Passes CX X (fun _ _ _ => False)) (hg : Gl X x) (hm : X.mg x = some (.ref C))
    (hdb : (x == ("__debug__" : Str)) = false := by decide) : PMk X (.Call (.Name x p) [] [] pos) (tMkN C sp) := by
  intro pins s σ H Q I q1
  obtain ⟨nm, q, N, bs, bm, sn, sub, ab, col, dd, k0, k1, k2, k3, k5, hC, hbm⟩ := T.cls
  refine wpAny_Call_Name_kw (ld_glob I hg hm (PySem.W.callWith_K0 I.kIn T.kC ?_) hdb)
  show wpAny _ _ (call (.ref C) []) _ _ _
  obtain ⟨hp, g, dr, tk, os⟩ := s
  have hsz : hp.objs.size ≤ hp.objs.size + 1 := Nat.le_succ _
  have hn : H (hp.objs.size + 1) = none := I.hok.fresh hsz
  have hq := q1 (hp.objs.size + 1) hn
  have kk : ∀ b o, hp.get? b = some o → ((hp.push (PySem.W.kdv_tup [])).push (PySem.HandSPX.excO C hp.objs.size)).get? b = some o := fun b o e => Heap.get?_push_of_some _ (Heap.get?_push_of_some _ e)
  have hget : ((hp.push (PySem.W.kdv_tup [])).push (PySem.HandSPX.excO C hp.objs.size)).get? (hp.objs.size + 1) = some (PySem.HandSPX.excO C hp.objs.size) := by heap_get
  have I2 : Inv X pins σ (upd H (hp.objs.size + 1) (exo (hp.objs.size + 1) C none)) ⟨(hp.push (PySem.W.kdv_tup [])).push (PySem.HandSPX.excO C hp.objs.size), g, dr, tk, os⟩ :=
    I.laid (t' := tk) (a := hp.objs.size + 1) (o := exo (hp.objs.size + 1) C none) (h' := (hp.push (PySem.W.kdv_tup [])).push (PySem.HandSPX.excO C hp.objs.size)) kk hsz (exo_ok hget)
  have r2 : Vals [V.ref (hp.objs.size + 1)] [Value.ref (hp.objs.size + 1)] := .cons rfl .nil
  have hl : [Value.ref (hp.objs.size + 1)].length = ps.length := by
    have e := r2.length
    rw [F1.len _ _ _ _ hq] at e
    exact e.symm
  refine wpAny_call (PySem.HandSPX.call_own F.excBase_ValueError (fun Y => PySem.HandSPX.refsVE_contains Y bm hbm) (I.kIn _ _ hC) (PySem.W.looks_findIn I.kIn iC) (fun self => PySem.W.bind_fn I.kIn self tI) (Nat.zero_le _)
    (codeAny_mono (F1.run _ X.stack _ _ ⟨[Value.ref (hp.objs.size + 1)], []⟩ [Value.ref (hp.objs.size + 1)] _ _ (fun _ _ _ => False) (hr.make C [] []) (I2.env0.make C [] []) (by
      have := hb ⟨(hp.push (PySem.W.kdv_tup [])).push (PySem.HandSPX.excO C hp.objs.size), g, dr, tk, os⟩ [Value.ref (hp.objs.size + 1)] I2.kIn (by simpa using hl)
      simpa using this) r2 hq) fun r s' hq' => ?_))
  cases r with
  | error er => exact hx pins σ _ _ er s' I2 hq'
  | ok fl =>
    cases fl with
    | ret u =>
      obtain ⟨v, H2, os2, bare2, un2, hok2, rv, ev, ea, q2⟩ := hq'
      subst ev
      obtain ⟨h2, g2, d2, t2, os'⟩ := s'
      exact ⟨rv, mk_endN (raises_own T.exC T.tyC) I hsz kk un2 hok2 os2 bare2 ea q2⟩
    | next => exact False.elim hq'
    | brk => exact False.elim hq'
    | cont => exact False.elim hq'
end
end L2
end
section
set_option Elab.async false
set_option linter.all false
set_option maxRecDepth 100000
set_option maxHeartbeats 4000000
namespace LfX
open PySem PySem.Spec PyProof.Rows L2 LamX NdefX
/-! a lambda kept as a value, called where it was made -/
structure LF where
  qual : Str
  params : Arguments
  body : Expr
  scope : Scope
  cl : List (Str × Addr)
  c : Addr
abbrev LF.fd (F : LF) (pm ctv : Value) : FuncData := PySem.W.kla_fn "<lambda>" F.qual F.params F.body F.scope F.cl pm (.ref F.c) ctv
def FnL (f : Addr) (F : LF) : HO := .ext fun h => ∃ (od : Option Addr) (sl : Array (Option Value)) (pm ctv : Value), h.get? f = some (⟨.type "function", od, .func (F.fd pm ctv), sl⟩ : Obj)
theorem fnL_at {P : Program} {w : World} {H : Hp} {h : Heap} {f : Addr} {F : LF} (hok : HOk P w H h) (e : H f = some (FnL f F)) : ∃ (od : Option Addr) (sl : Array (Option Value)) (pm ctv : Value), h.get? f = some (⟨.type "function", od, .func (F.fd pm ctv), sl⟩ : Obj) := by
  obtain ⟨z, _, _⟩ := hok f _ e
  exact z
section
variable {X : Cx} {pins : List (Addr × Obj)} {σ : L2.St} {H : Hp} {s : Shared}
theorem inv_fl {F : LF} {o : Obj} {t' : Nat} {pm ctv : Value} (I : Inv X pins σ H s) (ho : o = { cls := .type "function", data := .func (F.fd pm ctv) }) :
    Inv X pins σ (upd H s.heap.objs.size (FnL s.heap.objs.size F)) { s with heap := s.heap.push o, toks := t' } := by
  subst ho
  refine I.laid (a := s.heap.objs.size) (fun b u e => Heap.get?_push_of_some _ e) (Nat.le_refl _) ?_
  have e : (s.heap.push ({ cls := .type "function", data := .func (F.fd pm ctv) } : Obj)).get? s.heap.objs.size = some ({ cls := .type "function", data := .func (F.fd pm ctv) } : Obj) := Heap.get?_push_size _ rfl
  exact ⟨⟨_, _, pm, ctv, e⟩, ⟨_, e⟩, fun h1 h2 ⟨od, sl, p, t, z⟩ st => ⟨od, sl, p, t, st _ z⟩⟩
theorem lam_make {T : List NTab} {nm : Nat → Nat → Str} {c P : Addr} {params : Arguments} {body : Expr} {scope : Scope} {pos : Pos} {E : Value → Shared → Prop} {Q : Value → Shared → Prop} (I : Inv X pins σ H s) (TB : TabB X.base X.mg c P) (hcode : X.env.code = .ref c)
    (hm : (P, nm) ∈ T) (hn : nm pos.line pos.col = X.env.qual ++ "<lambda>") (hu : ∀ p ∈ T, p.1 = P → p.2 = nm) (hT : TabsN T H) (hfree : ∀ y ∈ scope.names, y.2 = .free → ∃ c, X.env.cells.lookup y.1 = some c)
    (h : ∀ (f c' : Addr) (H1 : Hp) (s' : Shared), Inv X pins σ H1 s' → ExtN H H1 → (∀ b, H1 b = Option.none → H b = Option.none) → TabsN T H1 → H f = none → H1 f = some (FnL f ⟨X.env.qual ++ "<lambda>", params, body, scope, cloFrom X.env.cells scope.names [], c'⟩) → H1 c' = some (CodeO c' (X.env.qual ++ "<lambda>")) → Q (.ref f) s') :
    wpAny (model X.prog X.w) X.A (makeFunction "<lambda>" (X.env.qual ++ "<lambda>") params (.expr body) scope X.env [] [] [] pos pos.line) Q E s := by
  obtain ⟨ps, hP, ht, ha⟩ := (show TabN H P nm from hT _ hm)
  have bP : s.heap.BuiltinsAt X.mg P := TB.bm.keeps I.bk
  have hP' : s.heap.get? P = some { cls := .none, data := .fields ps } := I.hok P _ hP
  cases hc : codeAmong pos ps.toList with
  | none =>
    refine PySem.W.kla_makeFunction (mg := X.mg) (c := c) (P := P) (ps := ps) (closure_ok hfree) I.ok.glob (I.mod.glob.keeps I.bk) hcode (TB.code.keeps I.bk) hP' ht hc TB.gP bP fun c' ctv h' tk hx hge hlt hrec htb => ?_
    obtain ⟨c2, oc, vs, t, e2, hoc, hd, hv⟩ := hrec
    cases e2
    have nC : H c' = none := I.hok.fresh hge
    have I1 := inv_table (t' := tk) (more := #[rawInt pos.line, rawInt pos.col, .ref c']) (h' := h') I hP (fun b o hb e => hx b o hb e) htb hge ⟨oc, vs, t, hoc, hd, hv⟩
    have hE : ExtN H (upd (upd H P (.tbl (ps ++ #[rawInt pos.line, rawInt pos.col, .ref c']))) c' (CodeO c' (X.env.qual ++ "<lambda>"))) := fun b o e n => by
      rw [upd_ne (ne_of_none e nC), upd_ne (fun z => n ps (Option.some.inj (e.symm.trans (by rw [z]; exact hP))))]
      exact e
    have eL : (ps ++ #[rawInt pos.line, rawInt pos.col, .ref c']).toList = ps.toList ++ [rawInt pos.line, rawInt pos.col, .ref c'] := by simp
    have T1 : TabsN T (upd (upd H P (.tbl (ps ++ #[rawInt pos.line, rawInt pos.col, .ref c']))) c' (CodeO c' (X.env.qual ++ "<lambda>"))) := fun p hp => by
      by_cases hb : p.1 = P
      · rw [hu p hp hb, hb]
        refine ⟨_, by rw [upd_ne (ne_of_none hP nC), upd_same], by rw [eL]; exact PySem.TriplesOk_snoc _ _ _ _ ht, fun p' cv hcv => ?_⟩
        rw [eL] at hcv
        rcases among_app2 _ ht hcv with z | ⟨z, z1, z2⟩
        · obtain ⟨c0, e1, e2⟩ := ha p' cv z
          exact ⟨c0, e1, hE _ _ e2 codeO_ne⟩
        · refine ⟨c', z, ?_⟩
          rw [← z1, ← z2, hn]
          exact upd_same
      · obtain ⟨ps', a1, a2, a3⟩ := hT p hp
        refine ⟨ps', by rw [upd_ne (ne_of_none a1 nC), upd_ne hb]; exact a1, a2, fun p' cv hcv => ?_⟩
        obtain ⟨c0, e1, e2⟩ := a3 p' cv hcv
        exact ⟨c0, e1, hE _ _ e2 codeO_ne⟩
    have nF := I1.hok.fresh (Nat.le_refl _)
    have I2 := inv_fl (F := ⟨X.env.qual ++ "<lambda>", params, body, scope, cloFrom X.env.cells scope.names [], c'⟩) (t' := tk) (pm := (X.mg "__name__").getD .none) (ctv := ctv) I1 rfl
    refine h h'.objs.size c' _ _ I2 (fun b o e n => ?_) (fun b e => upd_none (upd_none (upd_none e))) (T1.ext fun b o e => ?_) (I.hok.fresh (Nat.le_trans hge (Nat.le_of_lt hlt))) upd_same ?_
    · have e1 := hE b o e n
      exact (upd_ne (ne_of_none e1 nF)).trans e1
    · exact (upd_ne (ne_of_none e nF)).trans e
    · exact (upd_ne (Nat.ne_of_lt hlt)).trans upd_same
  | some cv =>
    obtain ⟨c', e, hco⟩ := ha pos cv hc
    subst e
    rw [hn] at hco
    refine PySem.W.kla_makeFunctionHit (mg := X.mg) (c := c) (P := P) (ps := ps) (closure_ok hfree) I.ok.glob (I.mod.glob.keeps I.bk) hcode (TB.code.keeps I.bk) hP' ht hc bP fun ctv h' tk hx hsz => ?_
    have I1 : Inv X pins σ H { s with heap := h', toks := tk } := I.kept hx
    have nF : H h'.objs.size = none := I1.hok.fresh (Nat.le_refl _)
    have I2 := inv_fl (F := ⟨X.env.qual ++ "<lambda>", params, body, scope, cloFrom X.env.cells scope.names [], c'⟩) (t' := tk) (pm := (X.mg "__name__").getD .none) (ctv := ctv) I1 rfl
    refine h h'.objs.size c' _ _ I2 (fun b o e n => ?_) (fun b e => upd_none e) (hT.ext fun b o e => ?_) nF upd_same ?_
    · exact (upd_ne (ne_of_none e nF)).trans e
    · exact (upd_ne (ne_of_none e nF)).trans e
    · exact (upd_ne (ne_of_none hco nF)).trans hco
end
/-- the reading of «lambda ..: body» as a value -/
def tLamV (T : List NTab) (mk : Addr → LF) : TE := fun _ H Q => TabsN T H ∧ ∀ (f c' : Addr) (H1 : Hp), ExtN H H1 → (∀ b, H1 b = Option.none → H b = Option.none) → TabsN T H1 → H f = none → H1 f = some (FnL f (mk c')) → H1 c' = some (CodeO c' (mk c').qual) → Q (.ref f) H1
section
variable {X : Cx}
theorem pe_lamv {T : List NTab} {nm : Nat → Nat → Str} {c P : Addr} {params : Arguments} {body : Expr} {scope : Scope} {pos : Pos} (TB : TabB X.base X.mg c P) (hcode : X.env.code = .ref c) (hm : (P, nm) ∈ T) (hn : nm pos.line pos.col = X.env.qual ++ "<lambda>") (hu : ∀ p ∈ T, p.1 = P → p.2 = nm)
    (hfree : ∀ y ∈ scope.names, y.2 = .free → X.env.scope.names.lookup y.1 = some .cell ∨ X.env.scope.names.lookup y.1 = some .free) (hdef : defaultsOf params X.env = ([], [])) :
    PE X (.Lambda params body scope pos) (tLamV T fun c' => ⟨X.env.qual ++ "<lambda>", params, body, scope, cloFrom X.env.cells scope.names [], c'⟩) := by
  refine ⟨fun pins s σ H Q I h => ?_⟩
  obtain ⟨hT, h⟩ := h
  refine PySem.W.kla_eval hdef ?_
  have hfr : ∀ y ∈ scope.names, y.2 = .free → ∃ c, X.env.cells.lookup y.1 = some c := fun y hy e => (hfree y hy e).elim (fun z => I.ok.has _ (.inl z)) fun z => I.ok.has _ (.inr z)
  exact lam_make I TB hcode hm hn hu hT hfr fun f c' H1 s' I1 eN nn T1 f0 f1 c1 => ⟨.ref f, H1, I1, rfl, h f c' H1 eN nn T1 f0 f1 c1⟩
end
/-! ### the body -/
abbrev envL (F : LF) (f L : Addr) : Env := PySem.W.envX F.qual F.scope L f (.ref F.c) F.cl
def lcx (CX : CXT) (P : Program) (w : World) (K : PySem.W.Frag) (mg : Str → Option Value) (base : Heap) (N : List Str) (F : LF) (f : Addr) (A : Around) (outer : List Env) (s : Shared) (H : Hp) (E : XK) : Cx where
  prog := P
  w := w
  K := K
  mg := mg
  base := base
  A := A.deeper (envL F f s.heap.objs.size)
  N := N
  s_0 := s
  H_0 := H
  env := envL F f s.heap.objs.size
  outer := outer
  stack := envL F f s.heap.objs.size :: outer
  ex := []
  calm := true
  fn := fun _ => false
  pn := []
  xe := fun e s' => wpAny (model P w) (A.deeper (envL F f s.heap.objs.size)) (leaving (envL F f s.heap.objs.size) e) (fun _ s'' => CX outer H s E e s'') (fun e' s'' => CX outer H s E e' s'') s'
/-- the same frame as that of a def with these words -/
def LF.nf (F : LF) : NF := ⟨"<lambda>", F.qual, F.params, [], F.scope, F.cl, F.c⟩
theorem lcx_eq {CX : CXT} {P : Program} {w : World} {K : PySem.W.Frag} {mg : Str → Option Value} {base : Heap} {N : List Str} {F : LF} {f : Addr} {A : Around} {outer : List Env} {s : Shared} {H : Hp} {E : XK} :
    lcx CX P w K mg base N F f A outer s H E = ncx CX P w K mg base N F.nf f A outer s H E := rfl
structure LOk (P : Program) (w : World) (K : PySem.W.Frag) (mg : Str → Option Value) (base : Heap) (CX : CXT) (k : Nat) (f : Addr) (F : LF) (fr : List Str) (sp : List (Option V) → Sp) : Prop where
  run : ∀ (A : Around) (outer : List Env) (s : Shared) (H : Hp) (ws : List (Option V)) (Q : VK) (E : XK), Room k A → Env0 P w K mg base A outer s H → H f = some (FnL f F) → H F.c = some (CodeO F.c F.qual) →
    CellsAt F.cl fr ws s.heap H → sp ws [] H Q E → codeAny (model P w) A (.call (.ref f) ⟨[], []⟩) (CR CX outer P w H s Q E) s
section
variable {CX : CXT} {P : Program} {w : World} {K : PySem.W.Frag} {mg : Str → Option Value} {base : Heap} {N fr : List Str} {F : LF} {f : Addr} {k j : Nat} {sp : List (Option V) → Sp}
theorem lok_of (S : NScope N [] fr F.scope) (hb : ∀ (pm ctv : Value), bindArgs (F.fd pm ctv) ⟨[], []⟩ = pure [])
    (hbody : ∀ (A : Around) (outer : List Env) (s : Shared) (H : Hp) (ws : List (Option V)) (Q : VK) (E : XK), Room k (A.deeper (envL F f s.heap.objs.size)) → H f = some (FnL f F) → H F.c = some (CodeO F.c F.qual) → ws.length = fr.length → sp ws [] H Q E →
      ∃ t, PE (lcx CX P w K mg base N F f A outer s H E) F.body t ∧ t (startF N [] ws) H Q) :
    LOk P w K mg base CX (k + 1) f F fr sp := by
  refine ⟨fun A outer s H ws Q E hr e0 hf hc C hsp => ?_⟩
  have lim : s.heap.NoLimit := e0.mod.nolimit.keeps fun b o e => (e0.bs b o e).1
  obtain ⟨od, sl, pm, ctv, ho⟩ := fnL_at e0.hok hf
  refine PySem.W.kla_callFunE hr.depth ho rfl S.co S.gen rfl (codeO_at e0.hok hc) ?_
  rw [hb pm ctv]
  refine wpAny_pure (wpAny_newFunctionEnv S.nocell (fun y hy => nomatch hy) (fun h₁ hns hsb => ⟨lim.fresh _ hsb, ?_⟩) S.kind)
  show codeAny _ _ (.expr F.body (envL F f s.heap.objs.size)) _ _
  refine PySem.W.kla_codeExpr ?_
  have kp : ∀ b o, s.heap.get? b = some o → h₁.get? b = some o := fun b o e => hsb.extBut b o (Nat.ne_of_lt (Heap.lt_size e)) (Heap.get?_push_of_some _ e)
  obtain ⟨t, ht, hq⟩ := hbody A outer s H ws Q E (hr.deeper _) hf hc C.len hsp
  have I : Inv (lcx CX P w K mg base N F f A outer s H E) [] (startF N [] ws) H { s with heap := h₁, toks := s.toks + ([] : List (Str × Value)).length } := by
    rw [lcx_eq]
    exact inv_startN (F := F.nf) (us := []) S hr.hd e0 rfl .nil C hns kp
  refine wpAny_mono (ht.run [] _ (startF N [] ws) H _ I hq) (fun u s' ⟨v, H', J, rv, q⟩ => ?_) fun e s' hs => hs
  exact ⟨v, H', J.os, J.bare, J.base, J.hok, rv, q⟩
end
/-! ### calls -/
/-- f(), f a name that holds one of several lambdas; js: where the captured names stand -/
def tCallL {ι : Type} (mk : ι → Addr → LF) (i : Nat) (js : List Nat) (sp : ι → List (Option V) → Sp) (E : L2.St → XK) : TE := fun σ H Q => ∃ (b : ι) (f c' : Addr), σ[i]? = some (some (.ref f)) ∧ H f = some (FnL f (mk b c')) ∧
  H (mk b c').c = some (CodeO (mk b c').c (mk b c').qual) ∧ sp b (js.map (slotAt σ)) [] H Q (E σ)
section
variable {X : Cx} {CX : CXT} {ι : Type} {mk : ι → Addr → LF} {cl : List (Str × Addr)} {fr : List Str} {js : List Nat} {i j k : Nat} {x : Str} {sp : ι → List (Option V) → Sp} {E : L2.St → XK} {p pos : Pos}
theorem pe_calll0 (Fn : ∀ b f c', LOk X.prog X.w X.K X.mg X.base CX k f (mk b c') fr (sp b)) (hcl : ∀ b c', (mk b c').cl = cl) (cp : X.Ok → Caps X cl fr js) (hr : Room j X.A) (hk : k ≤ j) (hx : ∀ σ, PassesAt CX X σ (E σ)) (hN : X.N[i]? = some x) (hv : Vis X.env.scope x)
    (hd : (x == ("__debug__" : Str)) = false := by decide) (hcd : (x == ("__classdict__" : Str)) = false := by decide) : PE X (.Call (.Name x p) [] [] pos) (tCallL mk i js sp E) := by
  refine ⟨fun pins s σ H Q I h => ?_⟩
  obtain ⟨b, f, c', hs, hf, h2, q⟩ := h
  refine wpAny_Call_Name_kw (thn ((pe_var (pos := p) hN hv hd hcd).run pins s σ H (fun v H1 => v = .ref f ∧ H1 = H) I ⟨.ref f, hs, rfl, rfl⟩) fun u s1 ⟨v, H1, I1, r1, q1⟩ => ?_)
  obtain ⟨ev, eH⟩ := q1
  subst ev
  rw [eH] at I1
  obtain rfl : u = Value.ref f := r1
  obtain ⟨od, sl, pm, ctv, ho⟩ := fnL_at I1.hok hf
  refine PySem.W.callWith_F0 (first := []) ⟨_, od, _, sl, ho⟩ ?_
  show wpAny _ _ (call (.ref f) []) _ _ _
  have C : CellsAt (mk b c').cl fr (js.map (slotAt σ)) s1.heap H := by
    rw [hcl b c']
    exact cells_of I1 (cp I1.ok)
  refine wpAny_call (codeAny_mono ((Fn b f c').run X.A X.stack s1 H _ Q (E σ) (hr.mono hk) I1.env0 hf h2 C q) fun r s' hq => ?_)
  cases r with
  | error e => exact hx σ pins H s1 e s' I1 hq
  | ok fl =>
    cases fl with
    | ret u => exact I1.after hq
    | next => exact False.elim hq
    | brk => exact False.elim hq
    | cont => exact False.elim hq
end
end LfX
end
section
set_option Elab.async false
set_option linter.all false
set_option maxRecDepth 100000
set_option maxHeartbeats 4000000
namespace L2
open PySem PySem.Spec PyProof.Rows
theorem paired_app {α β : Type} {R : α → β → Prop} : ∀ {xs : List α} {ys : List β} {xs' : List α} {ys' : List β}, Paired R xs ys → Paired R xs' ys' → Paired R (xs ++ xs') (ys ++ ys')
  | _, _, _, _, .nil, q => q
  | _, _, _, _, .cons r t, q => .cons r (paired_app t q)
theorem paired_imp {α β : Type} {R S : α → β → Prop} (f : ∀ a b, R a b → S a b) : ∀ {xs : List α} {ys : List β}, Paired R xs ys → Paired S xs ys
  | _, _, .nil => .nil
  | _, _, .cons r t => .cons (f _ _ r) (paired_imp f t)
/-! list(zip(a, b)) of two lists -/
def PairV (H : Hp) (p : Addr) (xy : V × V) : Prop := H p = some (.tup [xy.1, xy.2])
structure ZSt (h : Heap) (z TI TO i1 i2 a b S : Addr) (i : Nat) : Prop where
  ti : IsPair h TI (.ref i1) (.ref i2)
  h1 : h.IsListIter i1 a i
  h2 : h.IsListIter i2 b i
  zz : (IsZip h z TI TO .none ∧ ∃ x y, IsPair h TO x y) ∨ ∃ T f oT, IsZipHeld h z TI TO T f ∧ h.get? T = some oT ∧ T ≠ z ∧ T ≠ i1 ∧ T ≠ i2 ∧ T ≠ S
theorem ZSt.up {h h' : Heap} {z TI TO i1 i2 a b S : Addr} {i : Nat} (st : ZSt h z TI TO i1 i2 a b S i) (k : ∀ c o, c ≠ S → h.get? c = some o → h'.get? c = some o) (nz : z ≠ S) (nTI : TI ≠ S) (nTO : TO ≠ S) (n1 : i1 ≠ S) (n2 : i2 ≠ S) : ZSt h' z TI TO i1 i2 a b S i := by
  obtain ⟨ti, h1, h2, zz⟩ := st
  refine ⟨k _ _ nTI ti, h1.at fun o e => k _ o n1 e, h2.at fun o e => k _ o n2 e, ?_⟩
  rcases zz with ⟨hz, x, y, hTO⟩ | ⟨T, f, oT, hz, hT, r1, r2, r3, r4⟩
  · exact .inl ⟨k _ _ nz hz, x, y, k _ _ nTO hTO⟩
  · exact .inr ⟨T, f, oT, k _ _ nz hz, k _ _ r4 hT, r1, r2, r3, r4⟩
section
variable {prog : Program} {w : World} {A : Around} {E : Value → Shared → Prop} {s : Shared}
theorem zst_next {z TI TO i1 i2 a b S : Addr} {i : Nat} {xs ys : Array Value} {x y : Value} {Q : Option Value → Shared → Prop} (D : ZipApart z TI TO i1 i2 a b) (st : ZSt s.heap z TI TO i1 i2 a b S i)
    (hl1 : s.heap.IsList a xs) (hl2 : s.heap.IsList b ys) (hx : xs[i]? = some x) (hy : ys[i]? = some y) (hS : S < s.heap.objs.size)
    (hQ : ∀ h', ZSt h' z TI TO i1 i2 a b S (i + 1) → IsPair h' s.heap.objs.size x y → (∀ c o, c ∉ [z, TI, TO, i1, i2] → s.heap.get? c = some o → h'.get? c = some o) → Q (some (.ref s.heap.objs.size)) { s with heap := h' }) :
    wpAny (model prog w) A (pyNext (.ref z)) Q E s := by
  obtain ⟨ti, h1, h2, zz⟩ := st
  have lt : ∀ {c o}, s.heap.get? c = some o → s.heap.objs.size ≠ c := fun e => Nat.ne_of_gt (Heap.lt_size e)
  have n1 : s.heap.objs.size ≠ i1 := let ⟨_, e, _⟩ := h1; lt e
  have n2 : s.heap.objs.size ≠ i2 := let ⟨_, e, _⟩ := h2; lt e
  rcases zz with ⟨hz, x0, y0, hTO⟩ | ⟨T, f, oT, hz, hT, r1, r2, r3, r4⟩
  · refine wpAny_pyNext_zip_item D hz ti hTO h1 h2 hl1 hl2 hx hy fun h' a1 a2 a3 a4 a5 a6 hk => hQ h' ⟨hk _ _ D.TIz D.TITO D.TIi1 D.TIi2 ti, a3, a4, .inr ⟨s.heap.objs.size, false, _, a1, a5, lt hz, n1, n2, Nat.ne_of_gt hS⟩⟩ a5 fun c o hc e => hk c o (fun q => hc (by simp [q])) (fun q => hc (by simp [q])) (fun q => hc (by simp [q])) (fun q => hc (by simp [q])) e
  · refine wpAny_pyNext_zip_item_held D hz hT ti h1 h2 hl1 hl2 hx hy fun h' a1 a3 a4 a5 a6 hk => hQ h' ⟨hk _ _ D.TIz D.TIi1 D.TIi2 ti, a3, a4, .inr ⟨T, true, oT, a1, hk _ _ r1 r2 r3 hT, r1, r2, r3, r4⟩⟩ a5 fun c o hc e => hk c o (fun q => hc (by simp [q])) (fun q => hc (by simp [q])) (fun q => hc (by simp [q])) e
theorem zst_end {z TI TO i1 i2 a b S : Addr} {i : Nat} {xs ys : Array Value} {Q : Option Value → Shared → Prop} (hh : A.handled = none) (D : ZipApart z TI TO i1 i2 a b) (st : ZSt s.heap z TI TO i1 i2 a b S i)
    (hl1 : s.heap.IsList a xs) (hl2 : s.heap.IsList b ys) (hend : xs[i]? = none ∨ ys[i]? = none)
    (hQ : ∀ h', (∀ c o, c ∉ [z, TI, TO, i1, i2] → s.heap.get? c = some o → h'.get? c = some o) → Q none { s with heap := h' }) :
    wpAny (model prog w) A (pyNext (.ref z)) Q E s := by
  obtain ⟨ti, h1, h2, zz⟩ := st
  rcases zz with ⟨hz, x0, y0, hTO⟩ | ⟨T, f, oT, hz, hT, r1, r2, r3, r4⟩
  · exact wpAny_pyNext_zip_end hh D hz ti hTO h1 h2 hl1 hl2 hend fun h' hk => hQ h' fun c o hc e => hk c o (fun q => hc (by simp [q])) (fun q => hc (by simp [q])) (fun q => hc (by simp [q])) (fun q => hc (by simp [q])) e
  · exact wpAny_pyNext_zip_end_held hh D hz hT ti h1 h2 hl1 hl2 hend fun h' hk => hQ h' fun c o hc e => hk c o (fun q => hc (by simp [q])) (fun q => hc (by simp [q])) (fun q => hc (by simp [q])) e
end
theorem nolen_zip : typeLookup (.type "zip") "__len__" = pure none := by rw [typeLookup_type, builtinLookup_eq_fast]; kernel_rfl
theorem nohint_zip : typeLookup (.type "zip") "__length_hint__" = pure none := by rw [typeLookup_type, builtinLookup_eq_fast]; kernel_rfl
section
variable {X : Cx} {pins : List (Addr × Obj)} {σ : St} {H : Hp} {s : Shared} {A1 : Around} {z TI TO i1 i2 a b S : Addr} {xs ys : List V}
theorem fp_at {H H' : Hp} {c : Addr} (f : FpOk X pins H c) (h : H' c = none) : FpOk X pins H' c := ⟨h, f.2⟩
theorem zip_at {xs ys : List V} {i : Nat} {x y : V} (h1 : xs[i]? = some x) (h2 : ys[i]? = some y) : (xs.zip ys).take (i + 1) = (xs.zip ys).take i ++ [(x, y)] := by
  rw [List.take_add_one]
  congr 1
  rw [show (xs.zip ys)[i]? = some (x, y) from List.getElem?_zip_eq_some.mpr ⟨h1, h2⟩]
  rfl
theorem zip_loop {Rs : Result → Shared → Prop} (hh : A1.in1.handled = none) (D : ZipApart z TI TO i1 i2 a b) (hf : ∀ c ∈ [z, TI, TO, i1, i2], FpOk X pins H c) (hS : ∀ c ∈ [z, TI, TO, i1, i2], c < S) (hSn : H S = none) (hx : SqL X.K H a xs) (hy : SqL X.K H b ys)
    (hdone : ∀ s' Hn ps, Inv X pins σ Hn s' → Hn S = some (.lst (ps.map V.ref)) → Paired (PairV Hn) ps (xs.zip ys) → Same H Hn → Rs (.ok (.ret .none)) s') :
    ∀ (n i : Nat) (s : Shared) (Hi : Hp) (ps : List Addr), (xs.zip ys).length - i = n → i ≤ (xs.zip ys).length → Inv X pins σ Hi s → Hi S = some (.lst (ps.map V.ref)) → Paired (PairV Hi) ps ((xs.zip ys).take i) → Same H Hi →
      (∀ c ∈ [z, TI, TO, i1, i2], Hi c = none) → ZSt s.heap z TI TO i1 i2 a b S i → codeAny (model X.prog X.w) A1 (.builtin "list.extend.loop" ⟨[.ref S, .ref z, .none], []⟩) Rs s := by
  intro n
  induction n with
  | zero =>
    intro i s Hi ps hk hi I hl pr sm fr st
    have hin : i = (xs.zip ys).length := by omega
    obtain ⟨its, rv, p, _⟩ := I.list (sm.seq hx)
    obtain ⟨its2, rv2, p2, _⟩ := I.list (sm.seq hy)
    have l1 := rv.length
    have l2 := rv2.length
    refine codeAny_builtin PySem.F.entry_extend_loop ?_
    rw [Around.under_plainId PySem.F.plain_extend_loop _]
    show wpAny _ A1.in1 (pyNext (.ref z) >>= _) _ _ s
    refine wpAny_bind (zst_end hh D st p.isList p2.isList ?_ fun h' he => ?_)
    · rw [List.length_zip] at hin
      rcases Nat.le_total xs.length ys.length with h | h
      · exact .inl (by simp only [List.getElem?_toArray, List.getElem?_eq_none_iff]; omega)
      · exact .inr (by simp only [List.getElem?_toArray, List.getElem?_eq_none_iff]; omega)
    have J := I.turnedL (t' := s.toks) (ch := [z, TI, TO, i1, i2]) he fun c hc => fp_at (hf c hc) (fr c hc)
    rw [hin, List.take_length] at pr
    exact wpAny_pure (hdone _ _ ps J hl pr sm)
  | succ n ih =>
    intro i s Hi ps hk hi I hl pr sm fr st
    have hlt : i < (xs.zip ys).length := by omega
    rw [List.length_zip] at hlt
    obtain ⟨its, rv, p, _⟩ := I.list (sm.seq hx)
    obtain ⟨its2, rv2, p2, _⟩ := I.list (sm.seq hy)
    have ex : xs[i]? = some xs[i] := List.getElem?_eq_getElem (by omega)
    have ey : ys[i]? = some ys[i] := List.getElem?_eq_getElem (by omega)
    obtain ⟨u, hu, ru⟩ := rv.get ex
    obtain ⟨u2, hu2, ru2⟩ := rv2.get ey
    refine codeAny_builtin PySem.F.entry_extend_loop ?_
    rw [Around.under_plainId PySem.F.plain_extend_loop _]
    show wpAny _ A1.in1 (pyNext (.ref z) >>= _) _ _ s
    obtain ⟨_, its0, c0, r0, _, e0⟩ := I.lstM hl
    have hSl : S < s.heap.objs.size := Heap.lt_size e0
    refine wpAny_bind (zst_next D st p.isList p2.isList (x := u) (y := u2) (by simpa using hu) (by simpa using hu2) hSl fun h' st' hT he => ?_)
    have new : ObjOk X.prog X.w (upd Hi s.heap.objs.size (.tup [xs[i], ys[i]])) h' s.heap.objs.size (.tup [xs[i], ys[i]]) :=
      ⟨by show 2 ≤ sizeLine; decide, [u, u2], .cons ru (.cons ru2 .nil), ⟨_, hT, rfl, _, rfl⟩⟩
    have J := I.turnedNew (t' := s.toks) (ch := [z, TI, TO, i1, i2]) he (fun c hc => fp_at (hf c hc) (fr c hc)) (Nat.le_refl _) new
    have hTn : Hi s.heap.objs.size = none := I.hok.fresh (Nat.le_refl _)
    have sT : Same Hi (upd Hi s.heap.objs.size (.tup [xs[i], ys[i]])) := Same.new hTn
    have hl2 := sT _ _ hl
    obtain ⟨z9, its', c, r2, hl3, e⟩ := J.lstM hl2
    show wpAny _ A1.in1 (updateSeq S (·.push (.ref s.heap.objs.size)) >>= _) _ _ _
    have lp : ps.length ≤ i := by
      have := pr.length
      rw [List.length_take] at this
      omega
    have lxs : xs.length ≤ sizeLine := by
      obtain ⟨_, _, _, h⟩ := I.list (sm.seq hx)
      exact h
    have J2 := J.lset (f := (·.push (.ref s.heap.objs.size))) (its' := its' ++ [.ref s.heap.objs.size]) (ys := (ps ++ [s.heap.objs.size]).map V.ref) (t' := s.toks) hl2 e (by simp) (by rw [List.map_append]; exact r2.append (.cons rfl .nil)) (by rw [List.length_map, List.length_append, List.length_singleton]; omega)
    refine wpAny_bind (wpAny_updateSeq e rfl (wpAny_pure ⟨plainId_quiet PySem.F.plain_extend_loop _, ?_⟩) (by rw [List.size_toArray, ← hl3, List.length_map]; omega) (by show (its'.toArray.push _).size ≤ sizeLine + 1; rw [Array.size_push, List.size_toArray, ← hl3, List.length_map]; omega))
    have oth : ∀ b o, b ≠ S → h'.get? b = some o → (h'.update S (Obj.mapSeq (·.push (.ref s.heap.objs.size)))).get? b = some o := fun b o hb q => (Heap.get?_update_other _ _ (Ne.symm hb)).trans q
    have nS : ∀ c ∈ [z, TI, TO, i1, i2], c ≠ S := fun c hc => Nat.ne_of_lt (hS c hc)
    refine ih (i + 1) _ (upd (upd Hi s.heap.objs.size (.tup [xs[i], ys[i]])) S (.lst ((ps ++ [s.heap.objs.size]).map V.ref))) (ps ++ [s.heap.objs.size]) (by omega) (by rw [List.length_zip]; omega) J2 upd_same ?_ ((sm.trans sT).put hSn) (fun c hc => ?_) (st'.up oth (nS z (by simp)) (nS TI (by simp)) (nS TO (by simp)) (nS i1 (by simp)) (nS i2 (by simp)))
    · rw [zip_at ex ey]
      have nTS : s.heap.objs.size ≠ S := Nat.ne_of_gt hSl
      refine paired_app (paired_imp (fun p xy h => ?_) pr) (.cons ((upd_ne nTS).trans upd_same) .nil)
      have h' := sT _ _ h
      exact (upd_ne (fun q => by have h5 : Hi p = some (.tup [xy.1, xy.2]) := h; rw [q, hl] at h5; cases h5)).trans h'
    · have h1 := fr c hc
      have nT : c ≠ s.heap.objs.size := Nat.ne_of_lt (Nat.lt_trans (hS c hc) hSl)
      rw [upd_ne (nS c hc), upd_ne nT]
      exact h1

/-- list(zip(a, b)) -/
def tListZip (K : PySem.W.Frag) (ta : TA) : TE := fun σ H Q => ta σ H fun vs H1 => ∃ (a b : Addr) (xs ys : List V), vs = [.ref a, .ref b] ∧ SqL K H1 a xs ∧ SqL K H1 b ys ∧
  ∀ (l : Addr) (ps : List Addr) (H' : Hp), H1 l = none → Same H1 H' → H' l = some (.lst (ps.map V.ref)) → Paired (PairV H') ps (xs.zip ys) → Q (.ref l) H'
theorem pe_listZip {e e2 : Expr} {ta : TA} {p pos p2 pos2 : Pos} {nm nz : Str} (hc : X.calm = true) (hg : Gl X nm) (hm : X.mg nm = none) (hv : bootBuiltins nm = some (.type "list")) (hg2 : Gl X nz) (hm2 : X.mg nz = none) (hv2 : bootBuiltins nz = some (.type "zip")) (ha : PA X [e, e2] ta)
    (hnm : nm ≠ "__name__" := by decide) (hdb : (nm == ("__debug__" : Str)) = false := by decide) (hnz : nz ≠ "__name__" := by decide) (hdz : (nz == ("__debug__" : Str)) = false := by decide)
    (hs : starEach [.Call (.Name nz p2) [e, e2] [] pos2] X.env = [(false, eval (.Call (.Name nz p2) [e, e2] [] pos2) X.env)] := by rfl)
    (hs2 : starEach [e, e2] X.env = (false, eval e X.env) :: starEach [e2] X.env := by rfl) (hpl : (backTo pos2 (starEach [e2] X.env)).any (·.1) = false := by rfl) :
    PE X (.Call (.Name nm p) [.Call (.Name nz p2) [e, e2] [] pos2] [] pos) (tListZip X.K ta) := by
  refine ⟨fun pins s σ H Q I h => ?_⟩
  refine Call_ (ld_blt I hg hm hv ?_ hnm hdb)
  refine PyProof.Rows.callWith_type1 ?_ hs rfl
  rw [hs]
  show wpAny _ _ (spliced ((false, eval (.Call (.Name nz p2) [e, e2] [] pos2) X.env) :: backTo pos [])) _ _ s
  refine Calls.spliced_cons ?_
  refine Call_ (ld_blt I hg2 hm2 hv2 (PyProof.Rows.callWith_type1 (thn (ha.run pos2 pins s σ H _ I h) fun us s1 ⟨vs, H1, I1, r1, q1⟩ => ?_) hs2 hpl) hnz hdz)
  obtain ⟨a, b, xs, ys, ex, hqx, hqy, q⟩ := q1
  subst ex
  cases r1 with
  | cons r rr =>
  cases rr with
  | cons r' rr =>
  cases rr
  cases r
  cases r'
  obtain ⟨its, rv, p1, _⟩ := I1.list hqx
  obtain ⟨its2, rv2, p2, _⟩ := I1.list hqy
  have la : a < s1.heap.objs.size := p1.lt
  have lb : b < s1.heap.objs.size := p2.lt
  have hh : X.A.handled = none := I1.ok.hd hc
  refine call_zip_2 p1.isList p2.isList fun h' hz hTI hTO h1 h2 hsz hk => ?_
  have D := PySem.W.ktu_apart s1.heap.objs.size a b la lb
  have I2 : Inv X pins σ H1 { s1 with heap := h' } := I1.kept (t' := s1.toks) hk
  have hf2 : ∀ c ∈ [s1.heap.objs.size + 4, s1.heap.objs.size + 2, s1.heap.objs.size + 3, s1.heap.objs.size, s1.heap.objs.size + 1], FpOk X pins H1 c := fun c hcm => by
    have e' : c = s1.heap.objs.size + 4 ∨ c = s1.heap.objs.size + 2 ∨ c = s1.heap.objs.size + 3 ∨ c = s1.heap.objs.size ∨ c = s1.heap.objs.size + 1 := by simpa using hcm
    have hle : s1.heap.objs.size ≤ c := by
      rcases e' with z | z | z | z | z
      · rw [z]; exact Nat.le_add_right _ _
      · rw [z]; exact Nat.le_add_right _ _
      · rw [z]; exact Nat.le_add_right _ _
      · rw [z]; exact Nat.le_refl _
      · rw [z]; exact Nat.le_add_right _ _
    exact I1.fpOk hle (I1.hok.fresh hle)
  have lt2 : ∀ c ∈ [s1.heap.objs.size + 4, s1.heap.objs.size + 2, s1.heap.objs.size + 3, s1.heap.objs.size, s1.heap.objs.size + 1], c < h'.objs.size := fun c hcm => by
    simp only [List.mem_cons, List.not_mem_nil, or_false] at hcm
    rcases hcm with z | z | z | z | z
    · rw [z]; exact Heap.lt_size hz
    · rw [z]; exact Heap.lt_size hTI
    · rw [z]; exact Heap.lt_size hTO
    · rw [z]; obtain ⟨_, e1, _⟩ := h1; exact Heap.lt_size e1
    · rw [z]; obtain ⟨_, e1, _⟩ := h2; exact Heap.lt_size e1
  generalize s1.heap.objs.size + 4 = z at *
  generalize s1.heap.objs.size + 2 = TI at *
  generalize s1.heap.objs.size + 3 = TO at *
  generalize s1.heap.objs.size + 1 = i2 at *
  generalize s1.heap.objs.size = i1 at *
  refine Calls.spliced_nil ?_
  generalize hs9 : ({ s1 with heap := h' } : Shared) = s2 at I2 ⊢
  obtain rfl : h' = s2.heap := by rw [← hs9]
  refine callType_codes (Q₁ := fun obj s₁ => obj = .ref s2.heap.objs.size ∧ s₁ = { s2 with heap := s2.heap.push { cls := .type "list", data := .seq #[] } }) PySem.F.called_list (PySem.F.typeCall_list_1 _) PySem.F.entry_list_init
    (code_list_new _ ⟨rfl, rfl⟩) fun obj s₁ h₁ => ?_
  obtain ⟨rfl, rfl⟩ := h₁
  have hS : (s2.heap.push { cls := .type "list", data := .seq #[] }).get? s2.heap.objs.size = some { cls := .type "list", data := .seq #[] } := Heap.get?_push_size _ rfl
  refine ⟨⟨_, hS, rfl⟩, PySem.F.args_list_init_2 _ _, ?_⟩
  have fr : H1 s2.heap.objs.size = none := I2.hok.fresh (Nat.le_refl _)
  have J1 : Inv X pins σ (upd H1 s2.heap.objs.size (.lst [])) { s2 with heap := s2.heap.push { cls := .type "list", data := .seq #[] } } := I2.lnew (its := []) (t' := s2.toks) .nil (Nat.zero_le _)
  show wpAny _ _ (do let old ← Builtin.List.listItems (.ref s2.heap.objs.size); Builtin.List.listUpdate (.ref s2.heap.objs.size) (fun _ => #[]); letGo old.toList.reverse; Builtin.List.listExtendWith (.ref s2.heap.objs.size) (.ref z) .none) _ _ _
  refine wpAny_bind ?_
  unfold Builtin.List.listItems
  refine wpAny_bind (wpAny_seqItems hS rfl (wpAny_pure ?_))
  show wpAny _ _ (updateSeq s2.heap.objs.size (fun _ => #[]) >>= fun _ => letGo (#[] : Array Value).toList.reverse >>= fun _ => Builtin.List.listExtendWith (.ref s2.heap.objs.size) (.ref z) .none) _ _ _
  refine wpAny_bind (wpAny_updateSeq hS rfl ?_)
  have J2 := J1.lset (f := fun _ => #[]) (its := []) (its' := []) (ys := []) (t' := s2.toks) upd_same hS rfl .nil (Nat.zero_le _)
  rw [upd_upd] at J2
  have hS2 := Heap.get?_update_self (Obj.mapSeq (fun _ => (#[] : Array Value))) hS rfl
  refine wpAny_bind (wpAny_letGo ?_)
  unfold Builtin.List.listExtendWith
  have up : ∀ (h : Heap) (f : Obj → Obj), (∀ b o, s2.heap.get? b = some o → h.get? b = some o) → ∀ b o, s2.heap.get? b = some o → (h.update s2.heap.objs.size f).get? b = some o := fun h f q b o e =>
    (Heap.get?_update_other _ _ (Ne.symm (Nat.ne_of_lt (Heap.lt_size e)))).trans (q b o e)
  have k1 : ∀ b o, s2.heap.get? b = some o → (s2.heap.push { cls := .type "list", data := .seq #[] }).get? b = some o := fun b o e => Heap.get?_push_of_some _ e
  have k2 := up _ (Obj.mapSeq (fun _ => (#[] : Array Value))) k1
  have hzS : s2.heap.objs.size ≠ z := Nat.ne_of_gt (Heap.lt_size hz)
  have zty : ∀ {h : Heap}, (∀ b o, s2.heap.get? b = some o → h.get? b = some o) → ({ s2 with heap := h } : Shared).TypeIs (.ref z) "zip" := fun {h} q => ⟨_, q _ _ hz, rfl⟩
  refine wpAny_bind (wpAny_typeOf (s := { s2 with heap := _ }) (zty k2) ?_)
  have g1 : Builtin.List.listSameRef (.ref s2.heap.objs.size) (.ref z) = false := by simp [Builtin.List.listSameRef, hzS]
  have g2 : (Value.type "zip" == Value.type "list") = false := by decide
  have g3 : (Value.type "zip" == Value.type "tuple") = false := by decide
  simp only [g1, g2, g3, Bool.or_false, Bool.false_eq_true, if_false]
  refine wpAny_bind (wpAny_pyIter_zip (s := { s2 with heap := _ }) (k2 _ _ hz) ?_)
  refine wpAny_bind (wpAny_holding ?_)
  unfold Builtin.List.listLengthHint
  refine wpAny_bind (wpAny_specialOf (s := { s2 with heap := _ }) (zty k2) nolen_zip ?_)
  show wpAny _ _ (specialOf (Value.ref z) (Str.ofString "__length_hint__") >>= _) _ _ _
  refine wpAny_bind (wpAny_specialOf (s := { s2 with heap := _ }) (zty k2) nohint_zip ?_)
  refine wpAny_pure ?_
  have hf3 : ∀ c ∈ [z, TI, TO, i1, i2], FpOk X pins H1 c := hf2
  have nS : ∀ c ∈ [z, TI, TO, i1, i2], c ≠ s2.heap.objs.size := fun c hc => Nat.ne_of_lt (lt2 c hc)
  have st : ∀ {h : Heap}, (∀ b o, s2.heap.get? b = some o → h.get? b = some o) → ZSt h z TI TO i1 i2 a b s2.heap.objs.size 0 := fun {h} k => ⟨k _ _ hTI, h1.at fun o e => k _ o e, h2.at fun o e => k _ o e, .inl ⟨k _ _ hz, _, _, k _ _ hTO⟩⟩
  have key := zip_loop (A1 := X.A.in1) (X := X) (pins := pins) (σ := σ) (H := H1) (Rs := wants (fun r s₂ => r = .none ∧ EP X pins σ Q (.ref s2.heap.objs.size) s₂) X.xe) hh D hf3 lt2 fr hqx hqy (fun s' Hn ps I' e1 e2 e3 => ⟨rfl, .ref s2.heap.objs.size, _, I', rfl, q _ ps _ fr e3 e1 e2⟩) (xs.zip ys).length 0
  show wpAny _ _ (rule "list.extend.makes-room" >>= fun _ => Builtin.List.listTouch (.ref s2.heap.objs.size) >>= fun _ =>
    again (.builtin "list.extend.loop" ⟨[.ref s2.heap.objs.size, .ref z, .none], []⟩)) _ _ _
  refine wpAny_bind (wpAny_rule ?_)
  refine wpAny_bind ?_
  show wpAny _ _ (updateSeq s2.heap.objs.size (·.push .none) >>= fun _ => updateSeq s2.heap.objs.size (·.pop)) _ _ _
  refine wpAny_bind (wpAny_updateSeq hS2 rfl ?_)
  have J3 := J2.lset (f := (·.push Value.none)) (its := []) (its' := [Value.none]) (ys := [.non]) (t' := s2.toks) upd_same hS2 (by rfl) (.cons rfl .nil) (by rw [List.length_singleton, sizeLine_eq]; decide)
  rw [upd_upd] at J3
  have hS3 := Heap.get?_update_self (Obj.mapSeq (·.push Value.none)) hS2 rfl
  refine wpAny_updateSeq (hz := by seq_fits) hS3 rfl ?_
  have J4 := J3.lset (f := (·.pop)) (its := [Value.none]) (its' := []) (ys := []) (t' := s2.toks) upd_same hS3 (by rfl) .nil (Nat.zero_le _)
  rw [upd_upd] at J4
  refine wpAny_pure ⟨plainId_quiet PySem.F.plain_extend_loop _, key _ _ [] rfl (Nat.zero_le _) J4 upd_same .nil (Same.new fr) (fun c hc => ?_) (st (up _ _ (up _ _ k2)))⟩
  rw [upd_ne (nS c hc)]
  exact (hf3 c hc).1
end
end L2
end
section
set_option Elab.async false
set_option linter.all false
set_option maxRecDepth 100000
set_option maxHeartbeats 4000000
namespace He
open PySem PySem.Spec PyProof.Rows L2
/-! a Hook with the statics and with tables -/
def frZ (g : Addr → Option Obj) (n : Nat) : PySem.W.Frag := frT g (cStatics :: asD g n)
def obsZ (n : Nat) (fa : List Fa) (fn : List DefD) (tf : List Defn) (ex : PySem.W.Frag → Bool) (g : Addr → Option Obj) : AlX := (obsT fa fn [] (frZ g n), ex (frZ g n) && tabsB g tf (frZ g n))
theorem saysZ_of {n : Nat} {fa : List Fa} {fn : List DefD} {tf : List Defn} {ex : PySem.W.Frag → Bool} {w : World} {h : Heap} (e : obsZ n fa fn tf ex h.get? = valX fn [] w) : SaysX fa fn [] tf ex w h (frZ h.get? n) := by
  have e1 : obsT fa fn [] (frZ h.get? n) = valT fn [] w := congrArg (fun z : AlX => z.1) e
  have e2 : (ex (frZ h.get? n) && tabsB h.get? tf (frZ h.get? n)) = true := congrArg (fun z : AlX => z.2) e
  rw [Bool.and_eq_true] at e2
  obtain ⟨h1, h2⟩ := e2
  have key : ∀ p ∈ tf, PySem.W.codeHdIn (frZ h.get? n) (cT (frZ h.get? n) p).1 (cT (frZ h.get? n) p).2 = true ∧ ∃ o, h.get? (cT (frZ h.get? n) p).2 = some o ∧ emptyTab o = true := fun p hp => by
    have z := List.all_eq_true.mp h2 p hp
    rw [Bool.and_eq_true] at z
    obtain ⟨h3, h4⟩ := z
    refine ⟨h3, ?_⟩
    cases q : h.get? (cT (frZ h.get? n) p).2 with
    | none =>
      rw [q] at h4
      cases h4
    | some o =>
      rw [q] at h4
      exact ⟨o, rfl, h4⟩
  exact ⟨e1, h1, fun p hp => (key p hp).1, fun p hp => by
    obtain ⟨_, o, q, z⟩ := key p hp
    exact frT_none q z, fun p hp => by
    obtain ⟨_, o, q, z⟩ := key p hp
    rw [q, emptyTab_eq z]⟩
def hookZ (n : Nat) (fa : List Fa) (fn : List DefD) (tf : List Defn) (ex : PySem.W.Frag → Bool) : PySem.W.Hook where
  α := AlX
  obs := fun s => obsZ n fa fn tf ex s.heap.get?
  val := fun w => valX fn [] w
  says := fun w h => ∃ K : PySem.W.Frag, K.In h ∧ SaysX fa fn [] tf ex w h K
  of := fun _ _ e => ⟨_, frT_in, saysZ_of e⟩
  keeps := fun _ _ _ ⟨K, hK, c⟩ k => ⟨K, PySem.W.Frag.In.keeps hK k, ⟨c.t, c.more, c.hd, c.out, fun p hp => k _ _ (c.empty p hp)⟩⟩
end He
namespace L2
open PySem PySem.Spec PyProof.Rows
/-! what the top leaves: own exceptions -/
def oexB (K : PySem.W.Frag) (C : Addr) : Bool :=
  (match K.lookup C with
  | some { cls := .type t, dict := _, data := .cls cd, slots := sl } =>
    match cd.mro, sl.toList with
    | .ref C' :: bm, [_, _, _, _, some (.builtin n), _] => decide (t = "type") && (decide (C' = C) && (decide (n = "ValueError.__new__") && (cd.hasDict && (!cd.hasDel && HandSPX.refsVE bm))))
    | _, _ => false
  | _ => false) && (decide (PySem.W.findIn K (.ref C) "__setattr__" = some (some (.builtin "object.__setattr__"))) && (decide (PySem.W.subIn K (.ref C) (.type "BaseException") = some true) && (decide (PySem.W.typeIn K (.ref C) = some (.type "type")) && PySem.W.keepIn K (.ref C))))
theorem oexB_ok {K : PySem.W.Frag} {C : Addr} (h : oexB K C = true) : OexC K C := by
  unfold oexB at h
  simp only [Bool.and_eq_true, decide_eq_true_eq] at h
  obtain ⟨h1, h2, h3, h4, h5⟩ := h
  refine ⟨?_, h2, h3, h4, h5⟩
  revert h1
  split
  · rename_i t dd cd sl e
    split
    · rename_i C' bm k0 k1 k2 k3 n k5 em es
      intro h
      simp only [Bool.and_eq_true, decide_eq_true_eq, Bool.not_eq_true'] at h
      obtain ⟨a1, a2, a3, a4, a5, a6⟩ := h
      subst a1 a2 a3
      obtain ⟨nm, bs, mro, N, qn, hdct, sn, sub, ab, col, hd⟩ := cd
      simp only at em a4 a5
      subst em a4 a5
      obtain ⟨sl⟩ := sl
      simp only at es
      subst es
      exact ⟨nm, qn, N, bs, bm, sn, sub, ab, col, dd, k0, k1, k2, k3, k5, e, a6⟩
    · intro h
      cases h
  · intro h
    cases h
def iniB (K : PySem.W.Frag) (x : Str) : Bool := decide (PySem.W.findIn K (.ref (He.ga K x)) "__init__" = some (some (.ref (He.ma K (He.ga K x) "__init__")))) && decide (PySem.W.typeIn K (.ref (He.ma K (He.ga K x) "__init__")) = some (.type "function"))
theorem iniB_ok {K : PySem.W.Frag} {x : Str} (h : iniB K x = true) : PySem.W.findIn K (.ref (He.ga K x)) "__init__" = some (some (.ref (He.ma K (He.ga K x) "__init__"))) ∧ PySem.W.typeIn K (.ref (He.ma K (He.ga K x) "__init__")) = some (.type "function") := by
  unfold iniB at h
  simp only [Bool.and_eq_true, decide_eq_true_eq] at h
  exact h
def partB (K : PySem.W.Frag) : Bool :=
  PySem.W.readsIn K (He.ga K "PartlyError") (.type "type") && (decide (PySem.W.specialIn K (.ref (He.ga K "PartlyError")) "__getattribute__" = some (some (.builtin "type.__getattribute__"))) &&
  (match PySem.W.findCls K (.ref (He.ga K "PartlyError")) (.type "type") "__init__" with
  | some (.val (.builtin n)) => decide (n = "ValueError.__init__")
  | _ => false))
theorem partB_ok {K : PySem.W.Frag} (z : partB K = true) : ClX.CRead K (He.ga K "PartlyError") (.type "type") ∧ PySem.W.findCls K (.ref (He.ga K "PartlyError")) (.type "type") "__init__" = some (.val (.builtin "ValueError.__init__")) := by
  unfold partB at z
  simp only [Bool.and_eq_true, decide_eq_true_eq] at z
  refine ⟨⟨z.1, z.2.1⟩, ?_⟩
  have y := z.2.2
  revert y
  split
  · rename_i n en
    intro y
    rw [en, of_decide_eq_true y]
  · intro y
    cases y
def excB (K : PySem.W.Frag) (D : Addr) : Bool :=
  decide (PySem.W.findIn K (.ref D) "__getattribute__" = some (some (.builtin "BaseException.__getattribute__"))) && (decide (PySem.W.findIn K (.ref D) "__getattr__" = some none) && (decide (PySem.W.subIn K (.ref D) (.type "BaseException") = some true) && (PySem.W.hasDictIn K D && (decide (PySem.W.findIn K (.ref D) "__class__" = some (some (.builtin "object.__class__"))) && (decide (PySem.W.specialIn K (.builtin "object.__class__") "__get__" = some (some (.builtin "getset_descriptor.__get__"))) && (decide (PySem.W.takesIn K (.builtin "object.__class__") = some true) && decide (PySem.W.mroIn K D (.type "object") = some true)))))))
theorem excB_ok {K : PySem.W.Frag} {D : Addr} (h : excB K D = true) : ExcC K D := by
  unfold excB at h
  simp only [Bool.and_eq_true, decide_eq_true_eq] at h
  obtain ⟨h1, h2, h3, h4, h5, h6, h7, h8⟩ := h
  exact ⟨h1, h2, h3, h4, h5, h6, h7, h8⟩
end L2
end
section
set_option Elab.async false
set_option linter.all false
set_option maxRecDepth 100000
set_option maxHeartbeats 4000000
namespace K03
open PySem.W (ke_shaped_ints)
open PySem PySem.Spec PyProof.Rows L2
def topS (i : Nat) : Stmt := PySem.Challenge.pw_partlymet_k03_places_told.main.body.getD i (.Pass ⟨0, 0, 0, 0⟩)
structure Txt (mg : Str → Option Value) : Prop where
  f_int : mg "int" = none
  f_len : mg "len" = none
  f_abs : mg "abs" = none
  f_list : mg "list" = none
  f_range : mg "range" = none
  f_tuple : mg "tuple" = none
  f_isinstance : mg "isinstance" = none
  f_str : mg "str" = none
  f_bool : mg "bool" = none
  f_max : mg "max" = none
  f_sum : mg "sum" = none
section
variable {P : Program} {w : World} {K : PySem.W.Frag} {mg : Str → Option Value} {base : Heap}
abbrev s_draw : Stmt := topS 45
theorem sc_draw : FnScope ["pen", "span", "digit", "turn", "cell", "mixed"] ["pen", "span"] (defScope s_draw) := ⟨rfl, rfl, rfl, by decide +kernel, rfl, by decide +kernel, by decide +kernel⟩

theorem pen_left (l : Addr) (t lf x : Int) : putK (penV l t lf) (Sum.inr "left" : Key) (.int x) = penV l t x := rfl
theorem pen_turn (l : Addr) (t lf x : Int) : putK (penV l t lf) (Sum.inr "turn" : Key) (.int x) = penV l x lf := rfl
theorem pen_size (l : Addr) (t lf : Int) : (penV l t lf).length < sizeLine := by
  show 3 < sizeLine
  decide
theorem mod_of {a b : Int} (h : 0 < b) : 0 ≤ a % b ∧ a % b < b := ⟨Int.emod_nonneg _ (by omega), Int.emod_lt_of_pos _ h⟩
theorem div_of {a b : Int} (h : 0 < b) (ha : 0 ≤ a) : 0 ≤ a / b := Int.ediv_nonneg ha (by omega)
theorem wide_span {i j : Int} (h : 0 < j) (hb : j.natAbs < 2 ^ 250) : CDivW i j := wide_div h hb (by decide) (by decide)
theorem dps_ints (K : PySem.W.Frag) (H : Hp) : ∀ ns : List Int, DpAll K H (ns.map V.int) (ns.map PyData.int)
  | [] => .nil
  | i :: r => .cons (.int i) (dps_ints K H r)
theorem at_ints {ns : List Int} {i : Int} (h : 0 ≤ i ∧ i < ((ns.map V.int).length : Int)) : ∃ c, atI (ns.map V.int) i = some (V.int c) := by
  have hj : i.toNat < ns.length := by
    have := h.2
    rw [List.length_map] at this
    omega
  exact ⟨ns[i.toNat], at_of (j := i.toNat) (by omega) (by rw [List.getElem?_map, List.getElem?_eq_getElem hj]; rfl)⟩
theorem ten18 : CPow 10 18 := ⟨by decide, by decide, by decide⟩
theorem abs_nn (i : Int) : 0 ≤ (if i < 0 then -i else i) := by split <;> omega
local macro_rules | `(tactic| walk_at "go") => `(tactic| first | refine ⟨_, rfl, ?_⟩ | refine .inl ⟨_, rfl, ?_⟩ | refine ⟨_, _, rfl, rfl, (by first | (show (0 : Int) < _; decide) | exact Or.inl ⟨by decide, by decide⟩ | exact Or.inr ⟨by decide, by decide⟩), ?_⟩ | refine ⟨_, _, rfl, rfl, ?_⟩)
theorem ok_draw (T : Txt mg) (D : Def K mg "_law_draw" s_draw) : Cal P w K mg base 1 "_law_draw" ["pen", "span"] spDraw := by
  refine D.cal sc_draw (fun vs H Q E h => ?_) (fun _ _ _ _ _ _ us hl => match us, hl with | [_, _], _ => rfl) (fun f cdv A outer s H vs Q E hr h => ?_)
  · obtain ⟨p, l, t, span, rfl, _⟩ := h
    rfl
  obtain ⟨p, l, t, span, rfl, pen, ht, hs, hz, k⟩ := h
  have hlp := pen.ne
  obtain ⟨⟨ns, lf, hp, hl, hlf⟩, h0⟩ := id pen
  have hu := hu_of hr
  refine ⟨_, (pss_cons (ps_if (pt_cmpR op_gt (pe_dget hu (pv 0) pe_str (fun _ _ => rfl)) pe_int (nomark _)) (pss_cons (ps_set (i := 2) sc_draw.nd rfl (by first | exact Or.inl rfl | exact Or.inr rfl) (pe_op op_mod (pe_callTy call_int1 (by rfl) T.f_int (by decide +kernel) (pa_cons (pe_dget hu (pv 0) pe_str (fun _ _ => rfl)) pa_nil)) (pv 1)))
      (pss_cons (ps_dput hu (pv 0) pe_str (pe_op op_fdivW (pe_dget hu (pv 0) pe_str (fun _ _ => rfl)) (pv 1)) rfl)
      (pss_one (ps_ret (pv 2))))) pss_nil)
      (pss_cons (ps_set (i := 3) sc_draw.nd rfl (by first | exact Or.inl rfl | exact Or.inr rfl) (pe_dget hu (pv 0) pe_str (fun _ _ => rfl)))
      (pss_cons (ps_dput hu (pv 0) pe_str (pe_op op_add (pv 3) pe_int) rfl)
      (pss_cons (ps_set (i := 4) sc_draw.nd rfl (by first | exact Or.inl rfl | exact Or.inr rfl) (pe_op op_add (pe_op op_mul pe_int (pv 3)) pe_int))
      (C8.pss_cut (ps_if (pt_cmpR (op_neD hr.units) (pe_dget hu (pv 0) pe_str (fun _ _ => rfl)) (pe_lst pa_nil) (nomark _)) (pss_one (ps_set (i := 4) sc_draw.nd rfl (by first | exact Or.inl rfl | exact Or.inr rfl) (pe_ix ix_list (pe_dget hu (pv 0) pe_str (fun _ _ => rfl)) (pe_op op_mod (pe_callTy call_int1 (by rfl) T.f_int (by decide +kernel) (pa_cons (pv 3) pa_nil)) (pe_callB call_len (by rfl) T.f_len PySem.boot_len (pa_cons (pe_dget hu (pv 0) pe_str (fun _ _ => rfl)) pa_nil))) (fun _ _ => rfl)))) pss_nil)
      (C8.pss_cut (ps_if (PW.pt (pw_and (pt_cmpR op_lt (pv 3) (pe_callB call_len (by rfl) T.f_len PySem.boot_len (pa_cons (pe_dget hu (pv 0) pe_str (fun _ _ => rfl)) pa_nil)) (nomark _)) (pw_and1 (pt_cmpR op_ge (pe_callB call_abs (by rfl) T.f_abs (by decide +kernel) (pa_cons (pv 4) pa_nil)) (pe_op op_pow pe_int pe_int) (nomark _))))) (pss_cons (ps_dput hu (pv 0) pe_str (pe_op op_fdivW (pe_op op_sub (pe_callB call_abs (by rfl) T.f_abs (by decide +kernel) (pa_cons (pv 4) pa_nil)) (pe_op op_pow pe_int pe_int)) (pv 1)) rfl)
      (pss_one (ps_ret (pe_op op_mod (pe_callTy call_int1 (by rfl) T.f_int (by decide +kernel) (pa_cons (pe_op op_sub (pe_callB call_abs (by rfl) T.f_abs (by decide +kernel) (pa_cons (pv 4) pa_nil)) (pe_op op_pow pe_int pe_int)) pa_nil)) (pv 1))))) pss_nil)
      (pss_cons (ps_set (i := 5) sc_draw.nd rfl (by first | exact Or.inl rfl | exact Or.inr rfl) (pe_op op_mul (pe_op op_mod (pe_callTy call_int1 (by rfl) T.f_int (by decide +kernel) (pa_cons (pv 4) pa_nil)) pe_int) pe_int))
      (pss_cons (ps_set (i := 5) sc_draw.nd rfl (by first | exact Or.inl rfl | exact Or.inr rfl) (pe_op op_mod (pe_callTy call_int1 (by rfl) T.f_int (by decide +kernel) (pa_cons (pe_op op_add (pe_op op_add (pv 5) (pe_op op_mul (pv 3) (pe_op op_add (pe_op op_mul (pv 3) pe_int) pe_int))) pe_int) pa_nil)) pe_int))
      (pss_cons (ps_set (i := 5) sc_draw.nd rfl (by first | exact Or.inl rfl | exact Or.inr rfl) (pe_op op_mod (pe_callTy call_int1 (by rfl) T.f_int (by decide +kernel) (pa_cons (pe_op op_mul (pv 5) (pe_op op_add (pv 5) pe_int)) pa_nil)) pe_int))
      (pss_cons (ps_set (i := 5) sc_draw.nd rfl (by first | exact Or.inl rfl | exact Or.inr rfl) (pe_op op_mod (pe_callTy call_int1 (by rfl) T.f_int (by decide +kernel) (pa_cons (pe_op op_add (pe_op op_add (pe_op op_mul (pv 5) (pv 5)) (pe_op op_mul pe_int (pv 5))) (pe_op op_mul pe_int (pv 3))) pa_nil)) pe_int))
      (pss_one (ps_ret (pe_op op_mod (pe_callTy call_int1 (by rfl) T.f_int (by decide +kernel) (pa_cons (pe_op op_fdivW (pe_op op_mod (pe_callTy call_int1 (by rfl) T.f_int (by decide +kernel) (pa_cons (pe_op op_mul (pv 5) (pe_op op_add (pv 5) pe_int)) pa_nil)) pe_int) pe_int) pa_nil)) (pv 1)))))))))))))), ?_⟩
  -- if pen['left'] > 0
  refine ⟨_, rfl, p, _, rfl, DGet.k (k := Sum.inr "left") hp, _, _, rfl, rfl, _, rfl, ?_⟩
  refine ite2 (fun c => ?_) (fun c => ?_)
  · have c1 : 0 < lf := of_decide_eq_true c
    have hm := mod_of (a := lf) hs
    refine ⟨_, rfl, p, _, rfl, DGet.k (k := Sum.inr "left") hp, .inl ⟨_, rfl, ?_⟩⟩
    refine ⟨_, rfl, _, _, rfl, rfl, hs, ?_⟩
    refine ⟨_, rfl, p, _, rfl, DGet.k (k := Sum.inr "left") hp, _, rfl, _, _, rfl, rfl, wide_span hs hz, _, rfl, p, _, rfl, DPut.k (k := Sum.inr "left") hp (pen_size _ _ _), ?_⟩
    rw [pen_left]
    refine ⟨_, rfl, k _ _ t hm.1 hm.2 ⟨⟨ns, _, upd_same, (upd_ne hlp).trans hl, div_of hs hlf⟩, h0⟩ (Int.le_refl _) (by omega) (But.upd H)⟩
  -- turn = pen['turn']; pen['turn'] = turn + 1; cell = ..
  refine ⟨_, rfl, p, _, rfl, DGet.k (k := Sum.inr "turn") hp, ?_⟩
  refine ⟨_, rfl, _, _, rfl, rfl, _, rfl, p, _, rfl, DPut.k (k := Sum.inr "turn") hp (pen_size _ _ _), ?_⟩
  rw [pen_turn]
  have hp1 : upd H p (.dK (penV l (t + 1) lf)) p = some (.dK (penV l (t + 1) lf)) := upd_same
  have hl1 : upd H p (.dK (penV l (t + 1) lf)) l = some (.lst (ns.map V.int)) := (upd_ne hlp).trans hl
  have b1 : But p H (upd H p (.dK (penV l (t + 1) lf))) := But.upd H
  generalize upd H p (.dK (penV l (t + 1) lf)) = H1 at hp1 hl1 b1 ⊢
  refine ⟨_, rfl, _, _, rfl, rfl, .inl ⟨by decide, by decide⟩, _, _, rfl, rfl, ?_⟩
  -- if pen['cells'] != []
  refine ⟨fun σ' H' => ∃ c : Int, σ' = [some (.ref p), some (.int span), none, some (.int t), some (.int c), none] ∧ H' p = some (.dK (penV l (t + 1) lf)) ∧ H' l = some (.lst (ns.map V.int)) ∧ But p H H', ?_, ?_⟩
  · refine ⟨_, rfl, p, _, rfl, DGet.k (k := Sum.inr "cells") hp1, Nat.zero_le _, fun e he => ?_⟩
    have hp2 := (upd_ne (o := .lst []) (ne_of_none hp1 he)).trans hp1
    have hl2 := (upd_ne (o := .lst []) (ne_of_none hl1 he)).trans hl1
    have b2 : But p H (upd H1 e (.lst [])) := fun c o n z => (Same.new he) c o (b1 c o n z)
    refine ⟨.list (ns.map PyData.int), .list [], .lst (SqL.of hl2) (dps_ints _ _ ns), .lst (SqL.of upd_same) .nil, ke_shaped_ints ns, ke_shaped_ints [], _, rfl, ?_⟩
    generalize upd H1 e (.lst []) = H2 at hp2 hl2 b2 ⊢
    refine ite2 (fun c1 => ?_) (fun c1 => ?_)
    · have hne : ns ≠ [] := by
        rintro rfl
        cases c1
      have hpos : (0 : Int) < ((ns.map V.int).length : Int) := by
        rw [List.length_map]
        have := List.length_pos_iff.mpr hne
        omega
      refine ⟨_, rfl, p, _, rfl, DGet.k (k := Sum.inr "cells") hp2, _, rfl, .inl ⟨_, rfl, ?_⟩⟩
      refine ⟨_, rfl, p, _, rfl, DGet.k (k := Sum.inr "cells") hp2, _, _, rfl, .inl ⟨_, SqL.of hl2, rfl⟩, ?_⟩
      refine ⟨_, _, rfl, rfl, hpos, ?_⟩
      obtain ⟨cell, hcell⟩ := at_ints (ns := ns) (i := t % ((ns.map V.int).length : Int)) (mod_of hpos)
      refine ⟨l, _, _, _, rfl, rfl, SqL.of hl2, hcell, ?_⟩
      exact ⟨cell, rfl, hp2, hl2, b2⟩
    · exact ⟨_, rfl, hp2, hl2, b2⟩
  rintro σ' H2 ⟨c, rfl, hp2, hl2, b2⟩
  -- if turn < len(..) and abs(cell) >= 10 ** 18
  refine ⟨fun σ' H' => σ' = [some (.ref p), some (.int span), none, some (.int t), some (.int c), none] ∧ H' p = some (.dK (penV l (t + 1) lf)) ∧ H' l = some (.lst (ns.map V.int)) ∧ But p H H', ?_, ?_⟩
  · refine ⟨_, rfl, _, rfl, p, _, rfl, DGet.k (k := Sum.inr "cells") hp2, _, _, rfl, .inl ⟨_, SqL.of hl2, rfl⟩, _, _, rfl, rfl, _, rfl, ?_⟩
    refine ite2 (fun _ => ?_) (fun _ => ⟨rfl, hp2, hl2, b2⟩)
    refine ⟨_, rfl, _, rfl, _, _, rfl, rfl, ten18, _, _, rfl, rfl, _, rfl, ?_⟩
    refine ite2 (fun big => ?_) (fun _ => ⟨rfl, hp2, hl2, b2⟩)
    have big' := of_decide_eq_true big
    have hd := mod_of (a := (if c < 0 then -c else c) - (10 : Int) ^ (18 : Int).toNat) hs
    refine ⟨_, rfl, _, rfl, _, _, rfl, rfl, ten18, _, _, rfl, rfl, _, rfl, _, _, rfl, rfl, wide_span hs hz, _, rfl, p, _, rfl, DPut.k (k := Sum.inr "left") hp2 (pen_size _ _ _), ?_⟩
    rw [pen_left]
    refine ⟨_, rfl, _, rfl, _, _, rfl, rfl, ten18, _, _, rfl, rfl, .inl ⟨_, rfl, _, rfl, _, _, rfl, rfl, hs, ?_⟩⟩
    exact k _ _ (t + 1) hd.1 hd.2 ⟨⟨ns, _, upd_same, (upd_ne hlp).trans hl2, div_of hs (by have : (10 : Int) ^ (18 : Int).toNat ≤ (if c < 0 then -c else c) := big'; omega)⟩, by omega⟩ (by omega) (by omega) (b2.trans (But.upd H2))
  rintro σ' H3 ⟨rfl, hp3, hl3, b3⟩
  have fin : Pen H3 p l (t + 1) := ⟨⟨ns, lf, hp3, hl3, hlf⟩, by omega⟩
  -- mixed = ..
  repeat walk_at "go"
  refine ⟨.inl ⟨by omega, by omega⟩, ?_⟩
  repeat walk_at "go"
  have m2 := mod_of (a := c % 4294967087 * 48611 + t * (t * 27919 + 10601) + 41) (b := 4294967029) (by decide)
  dsimp only
  generalize (c % 4294967087 * 48611 + t * (t * 27919 + 10601) + 41) % 4294967029 = m at m2 ⊢
  refine ⟨.inl ⟨by omega, by omega⟩, ?_⟩
  repeat walk_at "go"
  have m3 := mod_of (a := m * (m + 75013)) (b := 4294966997) (by decide)
  dsimp only
  generalize m * (m + 75013) % 4294966997 = n at m3 ⊢
  refine ⟨.inl ⟨by omega, by omega⟩, ?_⟩
  repeat walk_at "go"
  have m4 := mod_of (a := n * n + 30427 * n + 19 * t) (b := 4294966981) (by decide)
  dsimp only
  generalize (n * n + 30427 * n + 19 * t) % 4294966981 = o at m4 ⊢
  refine ⟨.inl ⟨by omega, by omega⟩, ?_⟩
  repeat walk_at "go"
  refine ⟨wide_span (by decide) (by decide), ?_⟩
  repeat walk_at "go"
  have m5 := mod_of (a := o * (o + 58111) % 4294966943 / 64) hs
  exact ⟨hs, k _ _ (t + 1) m5.1 m5.2 fin (by omega) (by omega) b3⟩
end
end K03
end
section
set_option Elab.async false
set_option linter.all false
set_option maxRecDepth 100000
set_option maxHeartbeats 4000000
namespace K03
open PySem PySem.Spec PyProof.Rows L2
open PySem.W (ke_shaped_ints)
local macro_rules | `(tactic| walk_at "go") => `(tactic| first | refine ⟨_, rfl, ?_⟩ | refine .inl ⟨_, rfl, ?_⟩ | refine ⟨_, _, rfl, rfl, (by first | (show (0 : Int) < _; decide) | exact Or.inl ⟨by decide, by decide⟩ | exact Or.inr ⟨by decide, by decide⟩), ?_⟩ | refine ⟨_, _, rfl, rfl, ?_⟩)
section
variable {P : Program} {w : World} {K : PySem.W.Frag} {mg : Str → Option Value} {base : Heap}

/-- begun_pen(script) -/
def spBegun (K : PySem.W.Frag) : Sp := fun vs H Q _ => ∃ (a : Addr) (ns : List Int), vs = [.ref a] ∧ SqL K H a (ns.map V.int) ∧ ∀ (p l : Addr) (H' : Hp), H p = none → H l = none → Same H H' → Pen H' p l 0 → Q (.ref p) H'
theorem cut_ints (ns : List Int) (lo hi : Option Int) : ∃ ms : List Int, cutV (ns.map V.int) lo hi = ms.map V.int :=
  ⟨(ns.drop (HT.sIx (ns.map V.int).length 0 lo)).take (HT.sIx (ns.map V.int).length (ns.map V.int).length hi - HT.sIx (ns.map V.int).length 0 lo), by
    unfold cutV
    rw [List.map_take, List.map_drop]⟩
abbrev s_begun_pen : Stmt := topS 44
theorem sc_begun_pen : FnScope ["script"] ["script"] (defScope s_begun_pen) := ⟨rfl, rfl, rfl, by decide +kernel, rfl, by decide +kernel, by decide +kernel⟩
theorem ok_begun_pen (T : Txt mg) (D : Def K mg "_law_begun_pen" s_begun_pen) : Cal P w K mg base 1 "_law_begun_pen" ["script"] (spBegun K) := by
  refine D.cal sc_begun_pen (fun vs H Q E h => ?_) (fun _ _ _ _ _ _ us hl => match us, hl with | [_], _ => rfl) (fun f cdv A outer s H vs Q E hr h => ?_)
  · obtain ⟨a, ns, rfl, _⟩ := h
    rfl

  obtain ⟨a, ns, rfl, hS, k⟩ := h
  refine ⟨_, (pss_one (ps_ret (pe_disp (pps_cons pe_str (pe_callTy call_list_of (by rfl) T.f_list (by decide +kernel) (pa_cons (pe_slice sl_list (pv 0) po_none (po_some pe_int)) pa_nil)) (pps_cons pe_str pe_int (pps_cons pe_str pe_int pps_nil))) (by rfl) (by rfl) (fun z => by cases z) (by decide)))), ?_⟩
  intro p hp
  refine ⟨_, rfl, 63, rfl, a, _, rfl, (Same.new hp).seq hS, fun q hq => ?_⟩
  refine ⟨q, _, rfl, .inl (SqL.of upd_same), fun l hl => ?_⟩
  obtain ⟨ms, hms⟩ := cut_ints ns none (some 63)
  rw [hms]
  have hqp : q ≠ p := fun z => by rw [z, upd_same] at hq; cases hq
  have hlq : l ≠ q := fun z => by rw [z, upd_same] at hl; cases hl
  have hlp : l ≠ p := fun z => by rw [z, upd_ne hqp.symm, upd_same] at hl; cases hl
  have hl0 : H l = none := by rw [upd_ne hlq, upd_ne hlp] at hl; exact hl
  have hq0 : H q = none := by rw [upd_ne hqp] at hq; exact hq
  refine ⟨by rw [upd_ne hlp.symm, upd_ne hqp.symm, upd_same], penV l 0 0, rfl, by show 3 ≤ 15; decide, ?_⟩
  refine k p l _ hp hl0 ((((Same.new hp).put hq0).put hl0).put hp) ⟨⟨ms, 0, upd_same, (upd_ne hlp).trans upd_same, Int.le_refl _⟩, Int.le_refl _⟩



/-- pick(pen, options): one of the options -/
def spPick (K : PySem.W.Frag) : Sp := fun vs H Q _ => ∃ (p l a : Addr) (t : Int) (xs : List V), vs = [.ref p, .ref a] ∧ Pen H p l t ∧ t ≤ 1000000000 ∧ a ≠ p ∧ (SqL K H a xs ∨ SqT K H a xs) ∧ 0 < xs.length ∧ xs.length ≤ 1000000 ∧
  ∀ (j : Nat) (v : V) (H' : Hp) (t' : Int), xs[j]? = some v → Pen H' p l t' → t ≤ t' → t' ≤ t + 1 → But p H H' → Q v H'
theorem small_span {n : Nat} (h : n ≤ 1000000) : ((n : Int)).natAbs < 2 ^ 250 := by
  have e : ((n : Int)).natAbs = n := Int.natAbs_natCast n
  rw [e]
  exact Nat.lt_of_le_of_lt h (by decide)
theorem _root_.L2.But.tup {K : PySem.W.Frag} {p a : Addr} {H H' : Hp} {xs : List V} (s : But p H H') (n : a ≠ p) (h : SqT K H a xs) : SqT K H' a xs := by
  rcases h with (h | ⟨o, h⟩) | h
  · exact .inl (.inl (s _ _ n h))
  · exact .inl (.inr ⟨o, s _ _ n h⟩)
  · exact .inr h
abbrev s_pick : Stmt := topS 46
theorem sc_pick : FnScope ["pen", "options"] ["pen", "options"] (defScope s_pick) := ⟨rfl, rfl, rfl, by decide +kernel, rfl, by decide +kernel, by decide +kernel⟩
theorem ok_pick (T : Txt mg) (D : Def K mg "_law_pick" s_pick) (C__law_draw : Cal P w K mg base 1 "_law_draw" ["pen", "span"] spDraw) : Cal P w K mg base 2 "_law_pick" ["pen", "options"] (spPick K) := by
  refine D.cal sc_pick (fun vs H Q E h => ?_) (fun _ _ _ _ _ _ us hl => match us, hl with | [_, _], _ => rfl) (fun f cdv A outer s H vs Q E hr h => ?_)
  · obtain ⟨p, l, a, t, xs, rfl, _⟩ := h
    rfl

  obtain ⟨p, l, a, t, xs, rfl, pen, ht, hap, hx, h0, hz, k⟩ := h
  refine ⟨_, (pss_one (ps_ret (pe_ix ix_seq (pv 1) (pe_cal C__law_draw (hr.mono (by decide)) rfl (pa_cons (pv 0) (pa_cons (pe_callB call_len (by rfl) T.f_len PySem.boot_len (pa_cons (pv 1) pa_nil)) pa_nil))) (fun _ _ => rfl)))), ?_⟩
  refine ⟨_, rfl, _, rfl, _, rfl, _, xs.length, rfl, ?_, p, l, t, (xs.length : Int), rfl, pen, ht, by omega, small_span hz, fun v H' t' h1 h2 pen' h3 h4 but => ?_⟩
  · rcases hx with h | h
    · exact .inl ⟨xs, h, rfl⟩
    · exact .inr ⟨xs, h, rfl⟩
  have hj : v.toNat < xs.length := by omega
  have hv : xs[v.toNat]? = some (xs[v.toNat]) := List.getElem?_eq_getElem hj
  have hat : atI xs v = some (xs[v.toNat]) := at_of (j := v.toNat) (by omega) hv
  rcases hx with h | h
  · exact .inl ⟨a, xs, v, _, rfl, rfl, but.seq hap h, hat, k _ _ H' t' hv pen' h3 h4 but⟩
  · exact .inr (.inl ⟨a, xs, v, _, rfl, rfl, but.tup hap h, hat, k _ _ H' t' hv pen' h3 h4 but⟩)



/-- far_number(pen) -/
def spFar : Sp := fun vs H Q _ => ∃ (p l : Addr) (t : Int), vs = [.ref p] ∧ Pen H p l t ∧ t ≤ 1000000 ∧ ∀ (v : Int) (H' : Hp) (t' : Int), v.natAbs < 10 ^ 42 → Pen H' p l t' → t ≤ t' → t' ≤ t + 8 → But p H H' → Q (.int v) H'
theorem ten6 : CPow 10 6 := ⟨by decide, by decide, by decide⟩
abbrev s_far_number : Stmt := topS 49
theorem sc_far_number : FnScope ["pen", "found", "k"] ["pen"] (defScope s_far_number) := ⟨rfl, rfl, rfl, by decide +kernel, rfl, by decide +kernel, by decide +kernel⟩
theorem ok_far_number (T : Txt mg) (D : Def K mg "_law_far_number" s_far_number) (C__law_draw : Cal P w K mg base 1 "_law_draw" ["pen", "span"] spDraw) : Cal P w K mg base 2 "_law_far_number" ["pen"] spFar := by
  refine D.cal sc_far_number (fun vs H Q E h => ?_) (fun _ _ _ _ _ _ us hl => match us, hl with | [_], _ => rfl) (fun f cdv A outer s H vs Q E hr h => ?_)
  · obtain ⟨p, l, t, rfl, _⟩ := h
    rfl

  obtain ⟨p, l, t, rfl, pen, ht, k⟩ := h
  refine ⟨_, (pss_cons (ps_set (i := 1) sc_far_number.nd rfl (by first | exact Or.inl rfl | exact Or.inr rfl) pe_int)
      (pss_cons (ps_for PassesOwn.never rfl (pi_range1 rfl T.f_range (pa_cons pe_int pa_nil)) (pg_name (i := 2) sc_far_number.nd rfl (by first | exact Or.inl rfl | exact Or.inr rfl)) (pss_one (ps_set (i := 1) sc_far_number.nd rfl (by first | exact Or.inl rfl | exact Or.inr rfl) (pe_op op_add (pe_op op_mul (pv 1) (pe_op op_pow pe_int pe_int)) (pe_cal C__law_draw (hr.mono (by decide)) rfl (pa_cons (pv 0) (pa_cons (pe_op op_pow pe_int pe_int) pa_nil)))))))
      (pss_one (ps_ret (pe_ifExp (pt_cmpR op_eq (pe_cal C__law_draw (hr.mono (by decide)) rfl (pa_cons (pv 0) (pa_cons pe_int pa_nil))) pe_int (nomark _)) (pe_un un_neg (pv 1)) (pv 1)))))), ?_⟩
  refine ⟨7, rfl, by decide, by decide, for_range (n := 7) (fun i σ H1 => ∃ (z : Int) (v : Option V) (t1 : Int), σ = [some (.ref p), some (.int z), v] ∧ 0 ≤ z ∧ z < 10 ^ (6 * i) ∧ Pen H1 p l t1 ∧ t ≤ t1 ∧ t1 ≤ t + i ∧ But p H H1)
    ⟨0, none, t, rfl, Int.le_refl _, by decide, pen, Int.le_refl _, by omega, But.refl p H⟩ ?_ ?_⟩
  · rintro i σ H1 hi ⟨z, v, t1, rfl, z0, z1, pen1, h1, h2, b1⟩
    refine ⟨_, rfl, _, _, rfl, rfl, ten6, _, _, rfl, rfl, .inr ⟨by decide, by decide⟩, ?_⟩
    refine ⟨_, rfl, _, _, rfl, rfl, ten6, p, l, t1, _, rfl, pen1, by omega, by decide, by decide, fun d H2 t2 d0 d1 pen2 g1 g2 b2 => ?_⟩
    refine ⟨_, _, rfl, rfl, _, _, t2, rfl, ?_, ?_, pen2, by omega, by omega, b1.trans b2⟩
    · have e : (10 : Int) ^ (6 : Int).toNat = 1000000 := by decide
      show 0 ≤ z * (10 : Int) ^ (6 : Int).toNat + d
      rw [e]
      omega
    · have e : (10 : Int) ^ (6 : Int).toNat = 1000000 := by decide
      have e2 : (10 : Int) ^ (6 * (i + 1)) = 10 ^ (6 * i) * 1000000 := by
        rw [Nat.mul_add, Int.pow_add]
        rfl
      have d2 : d < 1000000 := by rw [e] at d1; exact d1
      show z * (10 : Int) ^ (6 : Int).toNat + d < 10 ^ (6 * (i + 1))
      rw [e, e2]
      generalize (10 : Int) ^ (6 * i) = y at z1 ⊢
      omega
  · rintro σ H1 ⟨z, v, t1, rfl, z0, z1, pen1, h1, h2, b1⟩
    have z2 : z < 10 ^ 42 := z1
    refine ⟨_, rfl, p, l, t1, 2, rfl, pen1, by omega, by decide, by decide, fun d H2 t2 d0 d1 pen2 g1 g2 b2 => ?_⟩
    refine ⟨rfl, _, rfl, ?_⟩
    have e : (10 : Int) ^ 42 = ((10 ^ 42 : Nat) : Int) := by decide
    refine ite2 (fun _ => ?_) (fun _ => ?_)
    · refine ⟨_, rfl, _, rfl, k _ H2 t2 ?_ pen2 (by omega) (by omega) (b1.trans b2)⟩
      show (-z).natAbs < _
      rw [e] at z2
      omega
    · refine ⟨_, rfl, k _ H2 t2 ?_ pen2 (by omega) (by omega) (b1.trans b2)⟩
      rw [e] at z2
      omega

end
end K03
end
section
set_option Elab.async false
set_option linter.all false
set_option maxRecDepth 100000
set_option maxHeartbeats 4000000
namespace K03
open PySem PySem.Spec PyProof.Rows L2
open PySem.W (ke_shaped_ints)
local macro_rules | `(tactic| walk_at "go") => `(tactic| first | refine ⟨_, rfl, ?_⟩ | refine .inl ⟨_, rfl, ?_⟩ | refine ⟨_, _, rfl, rfl, (by first | (show (0 : Int) < _; decide) | exact Or.inl ⟨by decide, by decide⟩ | exact Or.inr ⟨by decide, by decide⟩), ?_⟩ | refine ⟨_, _, rfl, rfl, ?_⟩)
section
variable {P : Program} {w : World} {K : PySem.W.Frag} {mg : Str → Option Value} {base : Heap}

/-- barred(): a list of texts -/
def barred : List Str := Txt.split (("input load store set join part each copy up down fill step when else end times give call" : Str) ++ (" to from upto is apart by" : Str)) (" " : Str)
def spBarred : Sp := fun vs H Q _ => vs = [] ∧ ∀ (p : Addr) (H' : Hp), H p = none → Same H H' → H' p = some (.lst (barred.map V.str)) → Q (.ref p) H'
theorem barred_len : (("input load store set join part each copy up down fill step when else end times give call" : Str)).length = 88 := by decide +kernel
theorem barred_len2 : ((" to from upto is apart by" : Str)).length = 25 := by decide +kernel
theorem len_app (x y : Str) : (x ++ y).length = x.length + y.length := strLen_append x y
theorem flat_strs (ys : List Str) : (ys.map V.str).all flatV = true := by
  rw [List.all_map]
  exact List.all_eq_true.mpr fun _ _ => rfl
theorem dps_strs (K : PySem.W.Frag) (H : Hp) : ∀ ys : List Str, DpAll K H (ys.map V.str) (ys.map PyData.str)
  | [] => .nil
  | y :: r => .cons (.str y) (dps_strs K H r)
/-- a text of small codes -/
def Low (z : Str) : Prop := ∀ c ∈ z.cps.toList, c < 256
theorem low_ok {z : Str} (h : Low z) : PyData.strOk z = true := by
  unfold PyData.strOk
  rw [← Array.all_toList]
  exact List.all_eq_true.mpr fun c hc => decide_eq_true (Nat.lt_trans (h c hc) (by decide))
theorem shaped_strs {ys : List Str} (h : ∀ y ∈ ys, Low y) : SeqAt.shaped (.list (ys.map PyData.str)) = true := by
  have h1 : ∀ ys : List Str, (∀ y ∈ ys, Low y) → PyData.canLayAll0 (ys.map PyData.str) = true ∧ PyData.depthAll (ys.map PyData.str) = 0 := by
    intro ys
    induction ys with
    | nil => intro _; exact ⟨rfl, rfl⟩
    | cons y r ih =>
      intro h
      obtain ⟨a, b⟩ := ih fun z hz => h z (List.mem_cons_of_mem _ hz)
      refine ⟨?_, ?_⟩
      · rw [List.map_cons]
        show (PyData.canLay0 (.str y) && PyData.canLayAll0 (r.map PyData.str)) = true
        rw [a, Bool.and_true]
        exact low_ok (h y List.mem_cons_self)
      · rw [List.map_cons]
        show max (PyData.depth (.str y)) (PyData.depthAll (r.map PyData.str)) = 0
        rw [b]
        rfl
  obtain ⟨a, b⟩ := h1 ys h
  show (PyData.canLayAll0 (ys.map PyData.str) && decide (PyData.depthAll (ys.map PyData.str) + 1 ≤ 64)) = true
  rw [a, b]
  rfl
end
end K03
end
section
set_option Elab.async false
set_option linter.all false
set_option maxRecDepth 100000
set_option maxHeartbeats 4000000
namespace K03
open PySem PySem.Spec PyProof.Rows L2
open PySem.W (ke_shaped_ints)
local macro_rules | `(tactic| walk_at "go") => `(tactic| first | refine ⟨_, rfl, ?_⟩ | refine .inl ⟨_, rfl, ?_⟩ | refine ⟨_, _, rfl, rfl, (by first | (show (0 : Int) < _; decide) | exact Or.inl ⟨by decide, by decide⟩ | exact Or.inr ⟨by decide, by decide⟩), ?_⟩ | refine ⟨_, _, rfl, rfl, ?_⟩)
section
variable {P : Program} {w : World} {K : PySem.W.Frag} {mg : Str → Option Value} {base : Heap}

/-- wide_fact(pen, pointers): a fact over the pointers -/
def spWideFact (K : PySem.W.Frag) : Sp := fun vs H Q _ => ∃ (p l a : Addr) (t : Int) (ps : List Str), vs = [.ref p, .ref a] ∧ Pen H p l t ∧ t ≤ 1000000 ∧ a ≠ p ∧ SqL K H a (ps.map V.str) ∧ 1 ≤ ps.length ∧ ps.length ≤ 3 ∧ (∀ z ∈ ps, Low z) ∧
  ∀ (q : Addr) (f : CF.FD) (H' : Hp) (t' : Int), f.Ok ps → Pen H' p l t' → t ≤ t' → t' ≤ t + 10 → But p H H' → H q = none → H' q = some (.tup f.vs) → Q (.ref q) H'
theorem str_of {ps : List Str} {j : Nat} {v : V} (h : (ps.map V.str)[j]? = some v) : ∃ z ∈ ps, v = .str z := by
  obtain ⟨z, hz, rfl⟩ := List.mem_map.mp (List.mem_of_getElem? h)
  exact ⟨z, hz, rfl⟩
theorem pick248 {j : Nat} {v : V} (h : ([.int 2, .int 4, .int 8] : List V)[j]? = some v) : ∃ m : Int, v = .int m ∧ (m = 2 ∨ m = 4 ∨ m = 8) := by
  have hm := List.mem_of_getElem? h
  simp only [List.mem_cons, List.not_mem_nil, or_false] at hm
  rcases hm with rfl | rfl | rfl
  · exact ⟨2, rfl, .inl rfl⟩
  · exact ⟨4, rfl, .inr (.inl rfl)⟩
  · exact ⟨8, rfl, .inr (.inr rfl)⟩
abbrev s_wide_fact : Stmt := topS 55
theorem sc_wide_fact : FnScope ["pen", "pointers", "way", "one", "m", "others", "two", "k", "a", "e", "number", "name"] ["pen", "pointers"] (defScope s_wide_fact) := ⟨rfl, rfl, rfl, by decide +kernel, rfl, by decide +kernel, by decide +kernel⟩
theorem ok_wide_fact (T : Txt mg) (D : Def K mg "_law_wide_fact" s_wide_fact) (C__law_draw : Cal P w K mg base 1 "_law_draw" ["pen", "span"] spDraw) (C__law_pick : Cal P w K mg base 2 "_law_pick" ["pen", "options"] (spPick K)) : Cal P w K mg base 3 "_law_wide_fact" ["pen", "pointers"] (spWideFact K) := by
  refine D.cal sc_wide_fact (fun vs H Q E h => ?_) (fun _ _ _ _ _ _ us hl => match us, hl with | [_, _], _ => rfl) (fun f cdv A outer s H vs Q E hr h => ?_)
  · obtain ⟨p, l, a, t, ps, rfl, _⟩ := h
    rfl
  have hu := hu_of hr

  obtain ⟨p, l, a, t, ps, rfl, pen, ht, hap, hS, h1, h3, hlow, k⟩ := h
  refine ⟨_, (pss_cons (ps_asg (pe_tup (pa_cons (pe_cal C__law_draw (hr.mono (by decide)) rfl (pa_cons (pv 0) (pa_cons pe_int pa_nil))) (pa_cons (pe_cal C__law_pick (hr.mono (by decide)) rfl (pa_cons (pv 0) (pa_cons (pv 1) pa_nil))) (pa_cons (pe_cal C__law_pick (hr.mono (by decide)) rfl (pa_cons (pv 0) (pa_cons (pe_lst (pa_cons pe_int (pa_cons pe_int (pa_cons pe_int pa_nil)))) pa_nil))) pa_nil)))) (pg_tup rfl (pgs_cons (pg_name (i := 2) sc_wide_fact.nd rfl (by first | exact Or.inl rfl | exact Or.inr rfl)) (pgs_cons (pg_name (i := 3) sc_wide_fact.nd rfl (by first | exact Or.inl rfl | exact Or.inr rfl)) (pgs_cons (pg_name (i := 4) sc_wide_fact.nd rfl (by first | exact Or.inl rfl | exact Or.inr rfl)) pgs_nil)))))
      (pss_cons (ps_setLc (i := 5) (own := [("name", 11)]) (g := gName 11) rfl sc_wide_fact.nd rfl rfl (sw_true rfl rfl rfl (by decide +kernel)) (pi_list (pv 1)) (blkOk_by (N := ["pen", "pointers", "way", "one", "m", "others", "two", "k", "a", "e", "number", "name"]) (sc := defScope s_wide_fact) (by decide +kernel)) (fun _ _ _ _ _ => pg_name (i := 11) sc_wide_fact.nd rfl (Or.inl rfl)) (fun _ _ _ _ _ => (pts_one (pt_cmpR op_ne (pv 11) (pv 3) (nomark _)))) (fun _ _ _ _ _ => (pv 11)))
      (C8.pss_cut (ps_if (PW.pt (pw_or (pt_cmpR (op_eqD hr.units) (pv 5) (pe_lst pa_nil) (nomark _)) (pw_or1 (pt_cmpR op_eq (pv 2) pe_int (nomark _))))) (pss_one (ps_ret (pe_tup (pa_cons pe_str (pa_cons (pv 3) (pa_cons (pv 4) (pa_cons (pe_cal C__law_draw (hr.mono (by decide)) rfl (pa_cons (pv 0) (pa_cons (pv 4) pa_nil))) pa_nil))))))) pss_nil)
      (pss_cons (ps_set (i := 6) sc_wide_fact.nd rfl (by first | exact Or.inl rfl | exact Or.inr rfl) (pe_cal C__law_pick (hr.mono (by decide)) rfl (pa_cons (pv 0) (pa_cons (pv 5) pa_nil))))
      (pss_cons (ps_if (pt_cmpR op_eq (pv 2) pe_int (nomark _)) (pss_one (ps_ret (pe_tup (pa_cons pe_str (pa_cons (pv 3) (pa_cons (pv 6) (pa_cons (pv 4) (pa_cons (pe_cal C__law_draw (hr.mono (by decide)) rfl (pa_cons (pv 0) (pa_cons (pv 4) pa_nil))) pa_nil)))))))) pss_nil)
      (pss_cons (ps_if (pt_cmpR op_lt (pv 2) pe_int (nomark _)) (pss_cons (ps_par3 (i := 7) (j := 8) (l := 9) (by rfl) sc_wide_fact.nd rfl rfl rfl (by decide) (by decide) (by decide) rfl rfl rfl (pa_cons (pe_op op_sub (pe_cal C__law_draw (hr.mono (by decide)) rfl (pa_cons (pv 0) (pa_cons pe_int pa_nil))) pe_int) (pa_cons (pe_op op_add pe_int (pe_cal C__law_draw (hr.mono (by decide)) rfl (pa_cons (pv 0) (pa_cons pe_int pa_nil)))) (pa_cons (pe_op op_sub (pe_cal C__law_draw (hr.mono (by decide)) rfl (pa_cons (pv 0) (pa_cons pe_int pa_nil))) pe_int) pa_nil))) (by rfl))
      (pss_one (ps_ret (pe_tup (pa_cons pe_str (pa_cons (pv 3) (pa_cons (pv 7) (pa_cons (pv 8) (pa_cons (pv 6) (pa_cons (pv 9) (pa_cons (pe_op op_add pe_int (pe_cal C__law_draw (hr.mono (by decide)) rfl (pa_cons (pv 0) (pa_cons pe_int pa_nil)))) pa_nil))))))))))) pss_nil)
      (pss_cons (ps_set (i := 10) sc_wide_fact.nd rfl (by first | exact Or.inl rfl | exact Or.inr rfl) (pe_cal C__law_pick (hr.mono (by decide)) rfl (pa_cons (pv 0) (pa_cons (pe_lst (pa_cons pe_int (pa_cons (pe_un un_neg pe_int) (pa_cons pe_int (pa_cons (pe_op op_sub (pe_cal C__law_draw (hr.mono (by decide)) rfl (pa_cons (pv 0) (pa_cons pe_int pa_nil))) pe_int) (pa_cons (pe_op op_sub (pe_cal C__law_draw (hr.mono (by decide)) rfl (pa_cons (pv 0) (pa_cons pe_int pa_nil))) pe_int) pa_nil)))))) pa_nil))))
      (pss_one (ps_ret (pe_tup (pa_cons (pe_cal C__law_pick (hr.mono (by decide)) rfl (pa_cons (pv 0) (pa_cons (pe_lst (pa_cons pe_str (pa_cons pe_str (pa_cons pe_str (pa_cons pe_str (pa_cons pe_str pa_nil)))))) pa_nil))) (pa_cons (pv 3) (pa_cons (pv 6) (pa_cons (pv 10) pa_nil)))))))))))))), ?_⟩
  refine ⟨_, rfl, p, l, t, 9, rfl, pen, by omega, by decide, by decide, fun way H1 t1 w0 w1 pen1 g1 g2 b1 => ?_⟩
  have len0 : 0 < (ps.map V.str).length := by rw [List.length_map]; omega
  have len1 : (ps.map V.str).length ≤ 1000000 := by rw [List.length_map]; omega
  refine ⟨_, rfl, _, rfl, p, l, a, t1, _, rfl, pen1, by omega, hap, .inl (b1.seq hap hS), len0, len1, fun j1 v1 H2 t2 hv1 pen2 g3 g4 b2 => ?_⟩
  obtain ⟨one, hone, rfl⟩ := str_of hv1
  refine ⟨_, rfl, by show 3 ≤ sizeLine; decide, fun q hq => ?_⟩
  have hqp : q ≠ p := fun z => by
    obtain ⟨o, ho⟩ := pen2.at_
    rw [z, ho] at hq
    cases hq
  refine ⟨p, l, q, t2, _, rfl, pen2.new hq, by omega, hqp, .inl (SqL.of upd_same), by show 0 < 3; decide, by show 3 ≤ 1000000; decide, fun j2 v2 H3 t3 hv2 pen3 g5 g6 b3 => ?_⟩
  obtain ⟨m, rfl, hm⟩ := pick248 hv2
  have B3 : But p H H3 := (b1.trans b2).trans ((But.of (Same.new hq)).trans b3)
  refine ⟨by show 3 ≤ sizeLine; decide, fun tp htp => ?_⟩
  have pen4 := pen3.new (o := .tup [.int way, .str one, .int m]) htp
  have B4 : But p H (upd H3 tp (.tup [.int way, .str one, .int m])) := B3.nw htp
  have hT : upd H3 tp (.tup [.int way, .str one, .int m]) tp = some (.tup [.int way, .str one, .int m]) := upd_same
  generalize upd H3 tp (.tup [.int way, .str one, .int m]) = H4 at pen4 B4 hT ⊢
  refine ⟨tp, _, rfl, SqT.of hT, rfl, _, _, rfl, _, _, rfl, _, _, rfl, rfl, ?_⟩
  have hS4 := B4.seq hap hS
  refine ⟨_, rfl, a, rfl, ⟨_, hS4⟩, fun D hD => lc_it walk_list (fun i H' => Same H4 H' ∧ H' D = some (.lst (((ps.take i).filter (fun z => !decide (z = one))).map V.str)))
    ⟨Same.new hD, upd_same⟩ (fun i H' _ z => z.1.seq hS4) ?_ ?_⟩
  · rintro i y G1 G2 hi ⟨s1, h1⟩ ⟨rfl, hx⟩
    rw [List.getElem?_map] at hx
    obtain ⟨z, hz, rfl⟩ := Option.map_eq_some_iff.mp hx
    have tk : (ps.take (i + 1)).filter (fun z => !decide (z = one)) = (ps.take i).filter (fun z => !decide (z = one)) ++ [z].filter (fun z => !decide (z = one)) := by
      rw [List.take_add_one, hz, List.filter_append]
      rfl
    refine ⟨rfl, _, rfl, _, rfl, rfl, _, rfl, ?_⟩
    have dz : decide (V.str z = V.str one) = decide (z = one) := decide_eq_decide.mpr ⟨fun e => by cases e; rfl, fun e => by rw [e]⟩
    rw [dz, tk]
    cases e : decide (z = one) with
    | true =>
      refine iteF ⟨s1, ?_⟩
      rw [List.filter_cons_of_neg (by rw [e]; decide), List.filter_nil, List.append_nil]
      exact h1
    | false =>
      refine iteT ⟨_, rfl, _, h1, ?_, s1.put hD, ?_⟩
      · have := List.length_filter_le (fun z => !decide (z = one)) (ps.take i)
        have := List.length_take_le i ps
        rw [List.length_map, sizeLine_eq]
        omega
      · rw [List.filter_cons_of_pos (by rw [e]; rfl), List.filter_nil, List.map_append]
        exact upd_same
  rintro H5 ⟨s5, h5⟩
  rw [List.length_map, List.take_length] at h5
  generalize hos : ps.filter (fun z => !decide (z = one)) = os at h5
  have osn : ∀ z ∈ os, z ∈ ps ∧ z ≠ one := fun z hz => by
    rw [← hos] at hz
    obtain ⟨a1, a2⟩ := List.mem_filter.mp hz
    exact ⟨a1, fun e => by rw [e] at a2; simp at a2⟩
  have pen5 := pen4.same s5
  have B5 : But p H H5 := B4.trans (But.of s5)
  have osl : os.length ≤ 3 := by
    rw [← hos]
    exact Nat.le_trans (List.length_filter_le _ _) h3
  have hDp : D ≠ p := fun z => by
    obtain ⟨o, ho⟩ := pen4.at_
    rw [z, ho] at hD
    cases hD
  have olow : ∀ z ∈ os, Low z := fun z hz => hlow z (osn z hz).1
  have m0 : 0 < m := by omega
  have m1 : m.natAbs < 2 ^ 250 := by
    refine Nat.lt_of_le_of_lt (?_ : m.natAbs ≤ 8) (by decide)
    omega
  have fin : ∀ (f : CF.FD) (H7 : Hp) (t7 : Int), f.Ok ps → Pen H7 p l t7 → t ≤ t7 → t7 ≤ t + 10 → But p H H7 → ∀ tq, H7 tq = none → Q (.ref tq) (upd H7 tq (.tup f.vs)) := by
    intro f H7 t7 ok pen7 a1 a2 B7 tq htq
    refine k tq f _ t7 ok (pen7.new htq) a1 a2 (B7.nw htq) (B7.free (fun z => ?_) htq) upd_same
    obtain ⟨o, ho⟩ := pen7.at_
    rw [z, ho] at htq
    cases htq
  refine ⟨fun σ' H' => σ' = [some (.ref p), some (.ref a), some (.int way), some (.str one), some (.int m), some (.ref D), none, none, none, none, none, none] ∧ os ≠ [] ∧ H' D = some (.lst (os.map V.str)) ∧ Pen H' p l t3 ∧ But p H H', ?_, ?_⟩
  · refine ⟨_, rfl, Nat.zero_le _, fun e he => ?_⟩
    have h6 := (upd_ne (o := .lst []) (ne_of_none h5 he)).trans h5
    have pen6 := pen5.new (o := .lst []) he
    have B6 : But p H (upd H5 e (.lst [])) := B5.nw he
    refine ⟨.list (os.map PyData.str), .list [], .lst (SqL.of h6) (dps_strs _ _ os), .lst (SqL.of upd_same) .nil, shaped_strs olow, shaped_strs (ys := []) (by simp), _, rfl, ?_⟩
    generalize upd H5 e (.lst []) = H6 at h6 pen6 B6 ⊢
    refine ite2 (fun _ => ?_) (fun c => ?_)
    · refine iteT ?_
      exact ⟨_, rfl, _, rfl, _, rfl, _, rfl, p, l, t3, m, rfl, pen6, by omega, m0, m1, fun r H7 t7 r0 r1 pen7 g7 g8 b7 => ⟨by show 4 ≤ sizeLine; decide, fun tq htq => fin (.by_ one m r) H7 t7 ⟨hone, hm, r0, r1⟩ pen7 (by omega) (by omega) (B6.trans b7) tq htq⟩⟩
    refine ⟨_, rfl, rfl, _, rfl, ite2 (fun _ => ?_) (fun _ => ?_)⟩
    · exact ⟨_, rfl, _, rfl, _, rfl, _, rfl, p, l, t3, m, rfl, pen6, by omega, m0, m1, fun r H7 t7 r0 r1 pen7 g7 g8 b7 => ⟨by show 4 ≤ sizeLine; decide, fun tq htq => fin (.by_ one m r) H7 t7 ⟨hone, hm, r0, r1⟩ pen7 (by omega) (by omega) (B6.trans b7) tq htq⟩⟩
    · refine ⟨rfl, ?_, h6, pen6, B6⟩
      rintro rfl
      exact absurd c (by decide)
  · rintro σ' H6 ⟨rfl, one_, h6, pen6, B6⟩
    have lo0 : 0 < (os.map V.str).length := by
      rw [List.length_map]
      exact List.length_pos_iff.mpr one_
    refine ⟨_, rfl, _, rfl, p, l, D, t3, _, rfl, pen6, by omega, hDp, .inl (SqL.of h6), lo0, by rw [List.length_map]; omega, fun j7 v7 H7 t7 hv7 pen7 g7 g8 b7 => ?_⟩
    obtain ⟨two, htwo, rfl⟩ := str_of hv7
    obtain ⟨two1, two2⟩ := osn two htwo
    have B7 := B6.trans b7
    refine ⟨_, rfl, rfl, _, rfl, ite2 (fun _ => ?_) (fun _ => ?_)⟩
    · exact ⟨_, rfl, _, rfl, _, rfl, _, rfl, _, rfl, p, l, t7, m, rfl, pen7, by omega, m0, m1, fun r H8 t8 r0 r1 pen8 g9 g10 b8 => ⟨by show 5 ≤ sizeLine; decide, fun tq htq => fin (.gap one two m r) H8 t8 ⟨hone, two1, two2, hm, r0, r1⟩ pen8 (by omega) (by omega) (B7.trans b8) tq htq⟩⟩
    refine ⟨_, rfl, _, _, rfl, rfl, _, rfl, ite2 (fun _ => ?_) (fun _ => ?_)⟩
    · refine ⟨_, rfl, p, l, t7, 61, rfl, pen7, by omega, by decide, by decide, fun k1 H8 t8 k10 k11 pen8 g9 g10 b8 => ⟨_, _, rfl, rfl, ?_⟩⟩
      refine ⟨_, rfl, p, l, t8, 16, rfl, pen8, by omega, by decide, by decide, fun n1 H9 t9 n10 n11 pen9 g11 g12 b9 => ⟨_, _, rfl, rfl, ?_⟩⟩
      refine ⟨_, rfl, p, l, t9, 61, rfl, pen9, by omega, by decide, by decide, fun e1 H10 t10 e10 e11 pen10 g13 g14 b10 => ⟨_, _, rfl, rfl, _, _, _, rfl, ?_⟩⟩
      refine ⟨_, rfl, _, rfl, _, rfl, _, rfl, _, rfl, _, rfl, p, l, t10, 16, rfl, pen10, by omega, by decide, by decide, fun c1 H11 t11 c10 c11 pen11 g15 g16 b11 => ⟨_, _, rfl, rfl, by show 7 ≤ sizeLine; decide, fun tq htq => ?_⟩⟩
      exact fin (.apart one (k1 - 30) (1 + n1) two (e1 - 30) (1 + c1)) H11 t11 ⟨hone, two1, two2, ⟨by omega, by omega⟩, ⟨by omega, by omega⟩, ⟨by omega, by omega⟩, ⟨by omega, by omega⟩⟩ pen11 (by omega) (by omega) ((((B7.trans b8).trans b9).trans b10).trans b11) tq htq
    refine ⟨_, rfl, _, rfl, _, rfl, p, l, t7, 81, rfl, pen7, by omega, by decide, by decide, fun d1 H8 t8 d10 d11 pen8 g9 g10 b8 => ⟨_, _, rfl, rfl, ?_⟩⟩
    refine ⟨_, rfl, p, l, t8, 81, rfl, pen8, by omega, by decide, by decide, fun d2 H9 t9 d20 d21 pen9 g11 g12 b9 => ⟨_, _, rfl, rfl, by show 5 ≤ sizeLine; decide, fun q2 hq2 => ?_⟩⟩
    have q2p : q2 ≠ p := fun z => by
      obtain ⟨o, ho⟩ := pen9.at_
      rw [z, ho] at hq2
      cases hq2
    refine ⟨p, l, q2, t9, _, rfl, pen9.new hq2, by omega, q2p, .inl (SqL.of upd_same), by show 0 < 5; decide, by show 5 ≤ 1000000; decide, fun j10 v10 H10 t10 hv10 pen10 g13 g14 b10 => ?_⟩
    obtain ⟨n, rfl, n0, n1⟩ : ∃ n : Int, v10 = .int n ∧ -40 ≤ n ∧ n ≤ 40 := by
      have hm := List.mem_of_getElem? hv10
      simp only [List.mem_cons, List.not_mem_nil, or_false] at hm
      rcases hm with rfl | rfl | rfl | rfl | rfl
      · exact ⟨40, rfl, by decide, by decide⟩
      · exact ⟨-40, rfl, by decide, by decide⟩
      · exact ⟨0, rfl, by decide, by decide⟩
      · exact ⟨d1 - 40, rfl, by omega, by omega⟩
      · exact ⟨d2 - 40, rfl, by omega, by omega⟩
    refine ⟨_, rfl, by show 5 ≤ sizeLine; decide, fun q3 hq3 => ?_⟩
    have q3p : q3 ≠ p := fun z => by
      obtain ⟨o, ho⟩ := pen10.at_
      rw [z, ho] at hq3
      cases hq3
    refine ⟨p, l, q3, t10, _, rfl, pen10.new hq3, by omega, q3p, .inl (SqL.of upd_same), by show 0 < 5; decide, by show 5 ≤ 1000000; decide, fun j11 v11 H11 t11 hv11 pen11 g15 g16 b11 => ?_⟩
    obtain ⟨w, rfl, hw⟩ : ∃ w : Str, v11 = .str w ∧ w ∈ CF.Sorts := by
      have hm := List.mem_of_getElem? hv11
      simp only [List.mem_cons, List.not_mem_nil, or_false] at hm
      rcases hm with rfl | rfl | rfl | rfl | rfl
      · exact ⟨_, rfl, by decide⟩
      · exact ⟨_, rfl, by decide⟩
      · exact ⟨_, rfl, by decide⟩
      · exact ⟨_, rfl, by decide⟩
      · exact ⟨_, rfl, by decide⟩
    refine ⟨_, rfl, _, rfl, _, rfl, by show 4 ≤ sizeLine; decide, fun tq htq => ?_⟩
    exact fin (.dist w one two n) H11 t11 ⟨hw, hone, two1, two2, n0, n1⟩ pen11 (by omega) (by omega) (((((B7.trans b8).trans b9).trans ((But.of (Same.new hq2)).trans b10))).trans ((But.of (Same.new hq3)).trans b11)) tq htq

end
end K03
end
section
set_option Elab.async false
set_option linter.all false
set_option maxRecDepth 100000
set_option maxHeartbeats 4000000
namespace K03
open PySem PySem.Spec PyProof.Rows L2
open PySem.W (ke_shaped_ints)
local macro_rules | `(tactic| walk_at "go") => `(tactic| first | refine ⟨_, rfl, ?_⟩ | refine .inl ⟨_, rfl, ?_⟩ | refine ⟨_, _, rfl, rfl, (by first | (show (0 : Int) < _; decide) | exact Or.inl ⟨by decide, by decide⟩ | exact Or.inr ⟨by decide, by decide⟩), ?_⟩ | refine ⟨_, _, rfl, rfl, ?_⟩)
section
variable {P : Program} {w : World} {K : PySem.W.Frag} {mg : Str → Option Value} {base : Heap}

/-- wide_facts(pen, pointers, many): different facts over the pointers -/
def spWideFacts (K : PySem.W.Frag) : Sp := fun vs H Q _ => ∃ (p l a : Addr) (t many : Int) (ps : List Str), vs = [.ref p, .ref a, .int many] ∧ Pen H p l t ∧ t ≤ 100000 ∧ a ≠ p ∧ SqL K H a (ps.map V.str) ∧ 1 ≤ ps.length ∧ ps.length ≤ 3 ∧ (∀ z ∈ ps, Low z) ∧ 0 ≤ many ∧ many ≤ 13 ∧
  ∀ (q : Addr) (qs : List Addr) (fs : List CF.FD) (H' : Hp) (t' : Int), (∀ f ∈ fs, f.Ok ps) → fs.Nodup → (fs.length : Int) ≤ many → CF.FAt H' qs fs → Pen H' p l t' → t ≤ t' → t' ≤ t + 130 → But p H H' → H q = none → H' q = some (.lst (qs.map V.ref)) → Q (.ref q) H'
abbrev s_wide_facts : Stmt := topS 56
theorem sc_wide_facts : FnScope ["pen", "pointers", "many", "found", "k", "fact"] ["pen", "pointers", "many"] (defScope s_wide_facts) := ⟨rfl, rfl, rfl, by decide +kernel, rfl, by decide +kernel, by decide +kernel⟩
theorem ok_wide_facts (T : Txt mg) (D : Def K mg "_law_wide_facts" s_wide_facts) (C__law_wide_fact : Cal P w K mg base 3 "_law_wide_fact" ["pen", "pointers"] (spWideFact K)) : Cal P w K mg base 4 "_law_wide_facts" ["pen", "pointers", "many"] (spWideFacts K) := by
  refine D.cal sc_wide_facts (fun vs H Q E h => ?_) (fun _ _ _ _ _ _ us hl => match us, hl with | [_, _, _], _ => rfl) (fun f cdv A outer s H vs Q E hr h => ?_)
  · obtain ⟨p, l, a, t, many, ps, rfl, _⟩ := h
    rfl
  have hu := hu_of hr

  obtain ⟨p, l, a, t, many, ps, rfl, pen, ht, hap, hS, h1, h3, hlow, m0, m1, k⟩ := h
  refine ⟨_, (pss_cons (ps_set (i := 3) sc_wide_facts.nd rfl (by first | exact Or.inl rfl | exact Or.inr rfl) (pe_lst pa_nil))
      (pss_cons (ps_for PassesOwn.never rfl (pi_range1 rfl T.f_range (pa_cons (pv 2) pa_nil)) (pg_name (i := 4) sc_wide_facts.nd rfl (by first | exact Or.inl rfl | exact Or.inr rfl)) (pss_cons (ps_set (i := 5) sc_wide_facts.nd rfl (by first | exact Or.inl rfl | exact Or.inr rfl) (pe_cal C__law_wide_fact (hr.mono (by decide)) rfl (pa_cons (pv 0) (pa_cons (pv 1) pa_nil))))
      (pss_one (ps_if (pt_cmpR (op_notInD (units65 hr)) (pv 5) (pv 3) (by rfl)) (pss_one (ps_expr (pe_bm PySem.F.plainAttrs_list PySem.F.slot_list_append PySem.F.type_list_append mt_append (pv 3) (pa_cons (pv 5) pa_nil)))) pss_nil))))
      (pss_one (ps_ret (pv 3))))), ?_⟩
  refine ⟨by show 0 ≤ sizeLine; decide, fun q hq => ?_⟩
  have hqp : q ≠ p := fun z => by
    obtain ⟨o, ho⟩ := pen.at_
    rw [z, ho] at hq
    cases hq
  have hql : q ≠ l := fun z => by
    obtain ⟨ns, lf, e1, e2, _⟩ := pen.ex
    rw [z, e2] at hq
    cases hq
  refine ⟨_, rfl, many, rfl, by omega, by omega, for_range (lo := 0) (n := many.toNat) (fun i σ H1 => ∃ (v w : Option V) (qs : List Addr) (fs : List CF.FD) (t1 : Int), σ = [some (.ref p), some (.ref a), some (.int many), some (.ref q), v, w] ∧ H1 q = some (.lst (qs.map V.ref)) ∧ (∀ f ∈ fs, f.Ok ps) ∧ fs.Nodup ∧ fs.length ≤ i ∧ CF.FAt H1 qs fs ∧ Pen H1 p l t1 ∧ t ≤ t1 ∧ t1 ≤ t + 10 * i ∧ But p H H1)
    ⟨none, none, [], [], t, rfl, upd_same, by simp, .nil, Nat.zero_le _, .nil, pen.new hq, Int.le_refl _, by omega, (But.refl p H).nw hq⟩ ?_ ?_⟩
  · rintro i σ H1 hi ⟨v, w, qs, fs, t1, rfl, h1q, ok, nd, len, fat, pen1, g1, g2, b1⟩
    refine ⟨_, rfl, _, rfl, p, l, a, t1, ps, rfl, pen1, by omega, hap, b1.seq hap hS, h1, h3, hlow, fun r f H2 t2 okf pen2 g3 g4 b2 fresh h2 => ?_⟩
    have h2q := b2 _ _ hqp h1q
    have fat2 : CF.FAt H2 qs fs := by
      obtain ⟨ns, lf, e1, _⟩ := pen1.ex
      exact fat.but e1 b2
    have lo : ∀ z ∈ ps, CF.Lo z := hlow
    have shp : SeqAt.shaped (.list (fs.map fun f => PyData.tuple f.ds)) = true := by
      have e : (fs.map fun f => PyData.tuple f.ds) = (fs.map CF.FD.ds).map PyData.tuple := by
        rw [List.map_map]
        rfl
      rw [e]
      refine CF.shaped_tups fun ds hds => ?_
      obtain ⟨g, hg, rfl⟩ := List.mem_map.mp hds
      exact CF.FD.flat lo (ok g hg)
    refine ⟨_, rfl, _, rfl, .tuple f.ds, fs.map fun f => PyData.tuple f.ds, .tup (SqT.of h2) (CF.dps_vs _ _ _), .lst (SqL.of h2q) fat2.dps, CF.shaped_tup (CF.FD.flat lo okf), shp, _, rfl, ite2 (fun c => ?_) (fun c => ?_)⟩
    · have hr : r ≠ q := ne_of h2 h2q (by intro z; cases z)
      have nf : f ∉ fs := fun hin => by
        have e := CF.any_in hin (CF.FD.flat lo okf)
        rw [e] at c
        cases c
      refine ⟨_, rfl, .inl ⟨rfl, _, SqL.of h2q⟩, _, rfl, q, _, _, rfl, rfl, h2q, ?_, ?_⟩
      · rw [List.length_map, fat2.len, sizeLine_eq]
        omega
      · refine ⟨_, _, qs ++ [r], fs ++ [f], t2, rfl, ?_, ?_, ?_, ?_, ?_, pen2.put hqp hql, by omega, by omega, (b1.trans b2).put hq⟩
        · rw [List.map_append]
          exact upd_same
        · intro g hg
          rcases List.mem_append.mp hg with h | h
          · exact ok g h
          · rw [List.mem_singleton.mp h]
            exact okf
        · exact List.nodup_append.mpr ⟨nd, by simp, by intro x hx y hy e; rw [List.mem_singleton.mp hy] at e; exact nf (e ▸ hx)⟩
        · rw [List.length_append, List.length_singleton]
          omega
        · exact (fat2.app h2).up h2q
    · exact ⟨_, _, qs, fs, t2, rfl, h2q, ok, nd, by omega, fat2, pen2, by omega, by omega, b1.trans b2⟩
  · rintro σ H1 ⟨v, w, qs, fs, t1, rfl, h1q, ok, nd, len, fat, pen1, g1, g2, b1⟩
    exact ⟨_, rfl, k q qs fs H1 t1 ok nd (by omega) fat pen1 g1 (by omega) b1 hq h1q⟩

end
end K03
end
section
set_option Elab.async false
set_option linter.all false
set_option maxRecDepth 100000
set_option maxHeartbeats 4000000
namespace K03
open PySem PySem.Spec PyProof.Rows L2
open PySem.W (ke_shaped_ints)
local macro_rules | `(tactic| walk_at "go") => `(tactic| first | refine ⟨_, rfl, ?_⟩ | refine .inl ⟨_, rfl, ?_⟩ | refine ⟨_, _, rfl, rfl, (by first | (show (0 : Int) < _; decide) | exact Or.inl ⟨by decide, by decide⟩ | exact Or.inr ⟨by decide, by decide⟩), ?_⟩ | refine ⟨_, _, rfl, rfl, ?_⟩)
section
variable {P : Program} {w : World} {K : PySem.W.Frag} {mg : Str → Option Value} {base : Heap}

/-- spot_text(name, number) -/
def spSpotText : Sp := fun vs H Q _ => ∃ (z : Str) (k : Int), vs = [.str z, .int k] ∧ z.length ≤ 12 ∧ -100 ≤ k ∧ k ≤ 100 ∧ Q (.str (CF.spot z k)) H
abbrev s_spot_text : Stmt := topS 50
theorem sc_spot_text : FnScope ["name", "number"] ["name", "number"] (defScope s_spot_text) := ⟨rfl, rfl, rfl, by decide +kernel, rfl, by decide +kernel, by decide +kernel⟩
theorem ok_spot_text (T : Txt mg) (D : Def K mg "_law_spot_text" s_spot_text) : Cal P w K mg base 1 "_law_spot_text" ["name", "number"] spSpotText := by
  refine D.cal sc_spot_text (fun vs H Q E h => ?_) (fun _ _ _ _ _ _ us hl => match us, hl with | [_, _], _ => rfl) (fun f cdv A outer s H vs Q E hr h => ?_)
  · obtain ⟨z, k, rfl, _⟩ := h
    rfl
  have hu := hu_of hr

  obtain ⟨z, k, rfl, hz, k0, k1, q⟩ := h
  refine ⟨_, (pss_one (ps_ret (pe_op op_add_str (pe_op op_add_str (pv 0) (pe_ifExp (pt_cmpR op_gt (pv 1) pe_int (nomark _)) (pe_op op_add_str pe_str (pe_callTy call_str_int (by rfl) T.f_str (by decide +kernel) (pa_cons (pv 1) pa_nil))) pe_str)) (pe_ifExp (pt_cmpR op_lt (pv 1) pe_int (nomark _)) (pe_callTy call_str_int (by rfl) T.f_str (by decide +kernel) (pa_cons (pv 1) pa_nil)) pe_str)))), ?_⟩
  have hn : (Str.ofString (toString k)).length ≤ 4 := CF.num_len k0 k1
  have hl := CF.log_small k0 k1
  have e1 : ("+" : Str).length = 1 := rfl
  have e0 : ("" : Str).length = 0 := rfl
  have ee : ∀ (x : Str), (z ++ x).length = z.length + x.length := fun x => CF.len_app z x
  have big : sizeLine = 16777216 := sizeLine_eq
  refine ⟨_, rfl, _, rfl, _, _, rfl, rfl, _, rfl, ?_⟩
  unfold CF.spot at q
  refine ite2 (fun c => ?_) (fun c => ?_)
  · have c1 : 0 < k := of_decide_eq_true c
    rw [if_pos c1, if_neg (by omega)] at q
    refine ⟨_, rfl, _, rfl, hl, _, _, rfl, rfl, by omega, _, _, rfl, rfl, by rw [CF.len_app]; omega, _, rfl, _, _, rfl, rfl, _, rfl, ite2 (fun d => absurd (of_decide_eq_true d) (by omega)) (fun _ => ?_)⟩
    exact ⟨_, _, rfl, rfl, by rw [ee, CF.len_app]; omega, q⟩
  · have c1 : ¬ 0 < k := fun x => c (decide_eq_true x)
    rw [if_neg c1] at q
    refine ⟨_, _, rfl, rfl, by omega, _, rfl, _, _, rfl, rfl, _, rfl, ite2 (fun d => ?_) (fun d => ?_)⟩
    · rw [if_pos (of_decide_eq_true d)] at q
      exact ⟨_, rfl, _, rfl, hl, _, _, rfl, rfl, by rw [ee]; omega, q⟩
    · rw [if_neg (fun x => d (decide_eq_true x))] at q
      exact ⟨_, _, rfl, rfl, by rw [ee]; omega, q⟩



/-- fact_text(fact) -/
def spFactText (K : PySem.W.Frag) : Sp := fun vs H Q _ => ∃ (q : Addr) (f : CF.FD) (ps : List Str), vs = [.ref q] ∧ H q = some (.tup f.vs) ∧ f.Ok ps ∧ (∀ z ∈ ps, CF.NameOk z) ∧ ∀ H', Same H H' → Q (.str f.text) H'
abbrev s_fact_text : Stmt := topS 51
theorem sc_fact_text : FnScope ["fact", "one", "two"] ["fact"] (defScope s_fact_text) := ⟨rfl, rfl, rfl, by decide +kernel, rfl, by decide +kernel, by decide +kernel⟩
theorem ok_fact_text (T : Txt mg) (D : Def K mg "_law_fact_text" s_fact_text) (C__law_spot_text : Cal P w K mg base 1 "_law_spot_text" ["name", "number"] spSpotText) : Cal P w K mg base 2 "_law_fact_text" ["fact"] (spFactText K) := by
  refine D.cal sc_fact_text (fun vs H Q E h => ?_) (fun _ _ _ _ _ _ us hl => match us, hl with | [_], _ => rfl) (fun f cdv A outer s H vs Q E hr h => ?_)
  · obtain ⟨q, f, ps, rfl, _⟩ := h
    rfl
  have hu := hu_of hr

  obtain ⟨q, f, ps, rfl, hq, ok, nms, k⟩ := h
  refine ⟨_, (pss_cons (ps_if (pt_cmpR op_in_seq (pe_ix ix_tup (pv 0) pe_int (fun _ _ => rfl)) (pe_tup (pa_cons pe_str (pa_cons pe_str (pa_cons pe_str pa_nil)))) (by rfl)) (pss_one (ps_ret (pe_join pe_str (pe_lst (pa_cons (pe_ix ix_tup (pv 0) pe_int (fun _ _ => rfl)) (pa_cons pe_str (pa_cons (pe_ix ix_tup (pv 0) pe_int (fun _ _ => rfl)) (pa_cons (pe_ix ix_tup (pv 0) pe_int (fun _ _ => rfl)) (pa_cons (pe_callTy call_str_int (by rfl) T.f_str (by decide +kernel) (pa_cons (pe_ix ix_tup (pv 0) pe_int (fun _ _ => rfl)) pa_nil)) pa_nil))))))))) pss_nil)
      (pss_cons (ps_if (pt_cmpR op_eq (pe_ix ix_tup (pv 0) pe_int (fun _ _ => rfl)) pe_str (nomark _)) (pss_cons (ps_par (i := 1) (j := 2) (by rfl) sc_fact_text.nd rfl rfl (by decide) rfl rfl (pa_cons (pe_cal C__law_spot_text (hr.mono (by decide)) rfl (pa_cons (pe_ix ix_tup (pv 0) pe_int (fun _ _ => rfl)) (pa_cons (pe_ix ix_tup (pv 0) pe_int (fun _ _ => rfl)) pa_nil))) (pa_cons (pe_cal C__law_spot_text (hr.mono (by decide)) rfl (pa_cons (pe_ix ix_tup (pv 0) pe_int (fun _ _ => rfl)) (pa_cons (pe_ix ix_tup (pv 0) pe_int (fun _ _ => rfl)) pa_nil))) pa_nil)) (by rfl))
      (pss_one (ps_ret (pe_join pe_str (pe_lst (pa_cons pe_str (pa_cons (pv 1) (pa_cons (pe_callTy call_str_int (by rfl) T.f_str (by decide +kernel) (pa_cons (pe_ix ix_tup (pv 0) pe_int (fun _ _ => rfl)) pa_nil)) (pa_cons (pv 2) (pa_cons (pe_callTy call_str_int (by rfl) T.f_str (by decide +kernel) (pa_cons (pe_ix ix_tup (pv 0) pe_int (fun _ _ => rfl)) pa_nil)) pa_nil)))))))))) pss_nil)
      (pss_cons (ps_if (pt_cmpR op_eq (pe_ix ix_tup (pv 0) pe_int (fun _ _ => rfl)) pe_str (nomark _)) (pss_one (ps_ret (pe_join pe_str (pe_lst (pa_cons (pe_ix ix_tup (pv 0) pe_int (fun _ _ => rfl)) (pa_cons pe_str (pa_cons (pe_callTy call_str_int (by rfl) T.f_str (by decide +kernel) (pa_cons (pe_ix ix_tup (pv 0) pe_int (fun _ _ => rfl)) pa_nil)) (pa_cons (pe_callTy call_str_int (by rfl) T.f_str (by decide +kernel) (pa_cons (pe_ix ix_tup (pv 0) pe_int (fun _ _ => rfl)) pa_nil)) pa_nil)))))))) pss_nil)
      (pss_one (ps_ret (pe_join pe_str (pe_lst (pa_cons (pe_ix ix_tup (pv 0) pe_int (fun _ _ => rfl)) (pa_cons pe_str (pa_cons (pe_ix ix_tup (pv 0) pe_int (fun _ _ => rfl)) (pa_cons pe_str (pa_cons (pe_callTy call_str_int (by rfl) T.f_str (by decide +kernel) (pa_cons (pe_ix ix_tup (pv 0) pe_int (fun _ _ => rfl)) pa_nil)) (pa_cons (pe_callTy call_str_int (by rfl) T.f_str (by decide +kernel) (pa_cons (pe_ix ix_tup (pv 0) pe_int (fun _ _ => rfl)) pa_nil)) pa_nil))))))))))))), ?_⟩
  have hsz : ∀ z ∈ ps, z.length ≤ 12 := fun z hz => (nms z hz).hi
  have fits := CF.FD.fits hsz ok
  cases f with
  | by_ a m r =>
      have sm := ok.2.small
      refine ⟨_, rfl, q, _, _, _, rfl, rfl, SqT.of hq, rfl, by show 3 ≤ sizeLine; decide, fun t ht => ?_⟩
      have hq1 := Same.new (o := .tup [.str "from", .str "upto", .str "is"]) ht _ _ hq
      have s1 := Same.new (o := .tup [.str "from", .str "upto", .str "is"]) ht
      refine ⟨t, _, rfl, .inr (SqT.of upd_same), rfl, rfl, _, rfl, ite2 (fun c => absurd c (by decide +kernel)) (fun _ => ?_)⟩
      generalize upd H t (.tup [.str "from", .str "upto", .str "is"]) = H1 at hq1 s1 ⊢
      refine ⟨_, rfl, q, _, _, _, rfl, rfl, SqT.of hq1, rfl, rfl, _, rfl, ite2 (fun c => absurd c (by decide +kernel)) (fun _ => ?_)⟩
      refine ⟨_, rfl, q, _, _, _, rfl, rfl, SqT.of hq1, rfl, rfl, _, rfl, ite2 (fun _ => ?_) (fun c => absurd (by decide +kernel) c)⟩
      refine ⟨⟨_, rfl⟩, _, rfl, q, _, _, _, rfl, rfl, SqT.of hq1, rfl, _, rfl, q, _, _, _, rfl, rfl, SqT.of hq1, rfl, _, rfl, CF.log_small sm.1.1 sm.1.2, _, rfl, q, _, _, _, rfl, rfl, SqT.of hq1, rfl, _, rfl, CF.log_small sm.2.1 sm.2.2, by show 4 ≤ sizeLine; decide, fun u hu => ?_⟩
      exact ⟨_, u, (CF.FD.by_ a m r).words, rfl, rfl, .inl (SqL.of upd_same), fits, k _ (s1.put (s1.free hu))⟩
  | gap a b m r =>
      have sm := ok.2.2.2.small
      refine ⟨_, rfl, q, _, _, _, rfl, rfl, SqT.of hq, rfl, by show 3 ≤ sizeLine; decide, fun t ht => ?_⟩
      have hq1 := Same.new (o := .tup [.str "from", .str "upto", .str "is"]) ht _ _ hq
      have s1 := Same.new (o := .tup [.str "from", .str "upto", .str "is"]) ht
      refine ⟨t, _, rfl, .inr (SqT.of upd_same), rfl, rfl, _, rfl, ite2 (fun c => absurd c (by decide +kernel)) (fun _ => ?_)⟩
      generalize upd H t (.tup [.str "from", .str "upto", .str "is"]) = H1 at hq1 s1 ⊢
      refine ⟨_, rfl, q, _, _, _, rfl, rfl, SqT.of hq1, rfl, rfl, _, rfl, ite2 (fun c => absurd c (by decide +kernel)) (fun _ => ?_)⟩
      refine ⟨_, rfl, q, _, _, _, rfl, rfl, SqT.of hq1, rfl, rfl, _, rfl, ite2 (fun c => absurd c (by decide +kernel)) (fun _ => ?_)⟩
      refine ⟨⟨_, rfl⟩, _, rfl, q, _, _, _, rfl, rfl, SqT.of hq1, rfl, _, rfl, q, _, _, _, rfl, rfl, SqT.of hq1, rfl, _, rfl, q, _, _, _, rfl, rfl, SqT.of hq1, rfl, _, rfl, CF.log_small sm.1.1 sm.1.2, _, rfl, q, _, _, _, rfl, rfl, SqT.of hq1, rfl, _, rfl, CF.log_small sm.2.1 sm.2.2, by show 6 ≤ sizeLine; decide, fun u hu => ?_⟩
      exact ⟨_, u, (CF.FD.gap a b m r).words, rfl, rfl, .inl (SqL.of upd_same), fits, k _ (s1.put (s1.free hu))⟩
  | apart a k1 n b e c =>
      obtain ⟨oa, ob, _, o1, m1, o2, m2⟩ := id ok
      obtain ⟨o11, o12⟩ := o1
      obtain ⟨m11, m12⟩ := m1
      obtain ⟨o21, o22⟩ := o2
      obtain ⟨m21, m22⟩ := m2
      refine ⟨_, rfl, q, _, _, _, rfl, rfl, SqT.of hq, rfl, by show 3 ≤ sizeLine; decide, fun t ht => ?_⟩
      have hq1 := Same.new (o := .tup [.str "from", .str "upto", .str "is"]) ht _ _ hq
      have s1 := Same.new (o := .tup [.str "from", .str "upto", .str "is"]) ht
      refine ⟨t, _, rfl, .inr (SqT.of upd_same), rfl, rfl, _, rfl, ite2 (fun c => absurd c (by decide +kernel)) (fun _ => ?_)⟩
      generalize upd H t (.tup [.str "from", .str "upto", .str "is"]) = H1 at hq1 s1 ⊢
      refine ⟨_, rfl, q, _, _, _, rfl, rfl, SqT.of hq1, rfl, rfl, _, rfl, ite2 (fun _ => ?_) (fun c => absurd (by decide +kernel) c)⟩
      refine ⟨_, rfl, q, _, _, _, rfl, rfl, SqT.of hq1, rfl, _, rfl, q, _, _, _, rfl, rfl, SqT.of hq1, rfl, a, k1, rfl, hsz a oa, by omega, by omega, _, rfl, q, _, _, _, rfl, rfl, SqT.of hq1, rfl, _, rfl, q, _, _, _, rfl, rfl, SqT.of hq1, rfl, b, e, rfl, hsz b ob, by omega, by omega, _, _, rfl, ?_⟩
      refine ⟨⟨_, rfl⟩, _, rfl, _, rfl, q, _, _, _, rfl, rfl, SqT.of hq1, rfl, _, rfl, CF.log_small (by omega) (by omega), _, rfl, _, rfl, q, _, _, _, rfl, rfl, SqT.of hq1, rfl, _, rfl, CF.log_small (by omega) (by omega), by show 5 ≤ sizeLine; decide, fun u hu => ?_⟩
      exact ⟨_, u, (CF.FD.apart a k1 n b e c).words, rfl, rfl, .inl (SqL.of upd_same), fits, k _ (s1.put (s1.free hu))⟩
  | dist w a b n =>
      obtain ⟨hw, oa, ob, _, n0, n1⟩ := id ok
      refine ⟨_, rfl, q, _, _, _, rfl, rfl, SqT.of hq, rfl, by show 3 ≤ sizeLine; decide, fun t ht => ?_⟩
      have hq1 := Same.new (o := .tup [.str "from", .str "upto", .str "is"]) ht _ _ hq
      have s1 := Same.new (o := .tup [.str "from", .str "upto", .str "is"]) ht
      refine ⟨t, _, rfl, .inr (SqT.of upd_same), rfl, rfl, _, rfl, ?_⟩
      generalize upd H t (.tup [.str "from", .str "upto", .str "is"]) = H1 at hq1 s1 ⊢
      have inw : inV (.str w) [.str "from", .str "upto", .str "is"] = true := by
        simp only [CF.Sorts, List.mem_cons, List.not_mem_nil, or_false] at hw
        rcases hw with rfl | rfl | rfl <;> decide +kernel
      refine ite2 (fun _ => ?_) (fun c => absurd inw c)
      refine ⟨⟨_, rfl⟩, _, rfl, q, _, _, _, rfl, rfl, SqT.of hq1, rfl, _, rfl, q, _, _, _, rfl, rfl, SqT.of hq1, rfl, _, rfl, q, _, _, _, rfl, rfl, SqT.of hq1, rfl, _, rfl, q, _, _, _, rfl, rfl, SqT.of hq1, rfl, _, rfl, CF.log_small (by omega) (by omega), by show 5 ≤ sizeLine; decide, fun u hu => ?_⟩
      exact ⟨_, u, (CF.FD.dist w a b n).words, rfl, rfl, .inl (SqL.of upd_same), fits, k _ (s1.put (s1.free hu))⟩

end
end K03
end
section
set_option Elab.async false
set_option linter.all false
set_option maxRecDepth 100000
set_option maxHeartbeats 4000000
namespace K03
open PySem PySem.Spec PyProof.Rows L2
open PySem.W (ke_shaped_ints)
local macro_rules | `(tactic| walk_at "go") => `(tactic| first | refine ⟨_, rfl, ?_⟩ | refine .inl ⟨_, rfl, ?_⟩ | refine ⟨_, _, rfl, rfl, (by first | (show (0 : Int) < _; decide) | exact Or.inl ⟨by decide, by decide⟩ | exact Or.inr ⟨by decide, by decide⟩), ?_⟩ | refine ⟨_, _, rfl, rfl, ?_⟩)
section
variable {P : Program} {w : World} {K : PySem.W.Frag} {mg : Str → Option Value} {base : Heap}

/-- facts_text(facts) -/
def spFactsText : Sp := fun vs H Q _ => ∃ (q : Addr) (qs : List Addr) (fs : List CF.FD) (ps : List Str), vs = [.ref q] ∧ H q = some (.lst (qs.map V.ref)) ∧ CF.FAt H qs fs ∧ (∀ f ∈ fs, f.Ok ps) ∧ (∀ z ∈ ps, CF.NameOk z) ∧ fs.length ≤ 13 ∧ ∀ H', Same H H' → Q (.str (CF.textOf fs)) H'
theorem ref_of {H : Hp} {qs : List Addr} {fs : List CF.FD} (fat : CF.FAt H qs fs) {i : Nat} {x : V} (h : (qs.map V.ref)[i]? = some x) : ∃ r f, x = .ref r ∧ fs[i]? = some f ∧ H r = some (.tup f.vs) := by
  rw [List.getElem?_map] at h
  obtain ⟨r, hr, rfl⟩ := Option.map_eq_some_iff.mp h
  obtain ⟨f, hf, e⟩ := fat.at_ hr
  exact ⟨r, f, rfl, hf, e⟩
theorem take_map {α β : Type} {l : List α} {g : α → β} {i : Nat} {x : α} (h : l[i]? = some x) : (l.take (i + 1)).map g = (l.take i).map g ++ [g x] := by
  rw [List.take_add_one, h, List.map_append]
  rfl
abbrev s_facts_text : Stmt := topS 52
theorem sc_facts_text : FnScope ["facts", "fact"] ["facts"] (defScope s_facts_text) := ⟨rfl, rfl, rfl, by decide +kernel, rfl, by decide +kernel, by decide +kernel⟩
theorem ok_facts_text (T : Txt mg) (D : Def K mg "_law_facts_text" s_facts_text) (C__law_fact_text : Cal P w K mg base 2 "_law_fact_text" ["fact"] (spFactText K)) : Cal P w K mg base 3 "_law_facts_text" ["facts"] spFactsText := by
  refine D.cal sc_facts_text (fun vs H Q E h => ?_) (fun _ _ _ _ _ _ us hl => match us, hl with | [_], _ => rfl) (fun f cdv A outer s H vs Q E hr h => ?_)
  · obtain ⟨q, qs, fs, ps, rfl, _⟩ := h
    rfl
  have hu := hu_of hr

  obtain ⟨q, qs, fs, ps, rfl, hq, fat, ok, nms, n13, k⟩ := h
  have hsz : ∀ z ∈ ps, z.length ≤ 12 := fun z hz => (nms z hz).hi
  have fit := CF.lines_fit hsz ok n13
  refine ⟨_, (pss_one (ps_ret (pe_join pe_str (pe_lc (own := [("fact", 1)]) (g := gName 1) (tt := tYes) rfl sc_facts_text.nd (pi_list (pv 0)) (blkOk_by (N := ["facts", "fact"]) (sc := defScope s_facts_text) (by decide +kernel)) (fun _ _ _ _ _ => pg_name (i := 1) sc_facts_text.nd rfl (Or.inl rfl)) (fun _ _ _ _ _ => pts_nil) (fun _ _ _ _ _ => (pe_cal C__law_fact_text (hr.mono (by decide)) rfl (pa_cons (pv 1) pa_nil))))))), ?_⟩
  refine ⟨⟨_, rfl⟩, _, rfl, q, rfl, ⟨_, SqL.of hq⟩, fun D hD => lc_it walk_list (fun i H' => Same H H' ∧ H' D = some (.lst (((fs.take i).map CF.FD.text).map V.str)))
    ⟨Same.new hD, upd_same⟩ (fun i H' _ z => SqL.of (z.1 _ _ hq)) ?_ ?_⟩
  · rintro i y G1 G2 hi ⟨s1, h1⟩ ⟨rfl, hx⟩
    obtain ⟨r, f, rfl, hf, hr⟩ := ref_of fat hx
    refine ⟨rfl, _, rfl, r, f, ps, rfl, s1 _ _ hr, ok f (List.mem_of_getElem? hf), nms, fun G3 s3 => ⟨_, s3 _ _ h1, ?_, (s1.trans s3).put hD, ?_⟩⟩
    · rw [List.length_map, List.length_map, sizeLine_eq]
      have := List.length_take_le i fs
      rw [List.length_take]
      omega
    · rw [take_map hf, List.map_append]
      exact upd_same
  · rintro G ⟨s1, h1⟩
    rw [List.length_map, fat.len, List.take_length] at h1
    exact ⟨_, D, _, rfl, rfl, .inl (SqL.of h1), by omega, k _ s1⟩



/-- far_of(fact) -/
def spFarOf : Sp := fun vs H Q _ => ∃ (q : Addr) (f : CF.FD) (ps : List Str), vs = [.ref q] ∧ H q = some (.tup f.vs) ∧ f.Ok ps ∧ ∀ H', Same H H' → Q (.int f.far) H'
/- _law_far_of: not in this law -/


/-- modulus(facts) -/
def spModulus : Sp := fun vs H Q _ => ∃ (q : Addr) (qs : List Addr) (fs : List CF.FD) (ps : List Str), vs = [.ref q] ∧ H q = some (.lst (qs.map V.ref)) ∧ CF.FAt H qs fs ∧ (∀ f ∈ fs, f.Ok ps) ∧ ∀ H', Same H H' → Q (.int (CF.modOf fs)) H'
theorem mod_take {fs : List CF.FD} {i : Nat} {f : CF.FD} (h : fs[i]? = some f) : CF.modOf (fs.take (i + 1)) = CF.mx (CF.modOf (fs.take i)) f.mod := by
  unfold CF.modOf
  rw [List.take_add_one, h, List.foldl_append]
  rfl
theorem mx_le (a b : Int) : a ≤ CF.mx a b := by
  unfold CF.mx
  split <;> omega
theorem mod_pos : ∀ fs : List CF.FD, ∀ a : Int, 1 ≤ a → 1 ≤ fs.foldl (fun a f => CF.mx a f.mod) a
  | [], a, h => h
  | f :: r, a, h => mod_pos r _ (Int.le_trans h (mx_le _ _))
theorem mod_one (fs : List CF.FD) : 1 ≤ CF.modOf fs := mod_pos fs 1 (Int.le_refl _)
theorem mx_one {a : Int} (h : 1 ≤ a) : CF.mx a 1 = a := if_neg (by omega)
/- _law_modulus: not in this law -/
end
end K03
end
section
set_option Elab.async false
set_option linter.all false
set_option maxRecDepth 100000
set_option maxHeartbeats 4000000
namespace K03
open PySem PySem.Spec PyProof.Rows L2
open PySem.W (ke_shaped_ints)
local macro_rules | `(tactic| walk_at "go") => `(tactic| first | refine ⟨_, rfl, ?_⟩ | refine .inl ⟨_, rfl, ?_⟩ | refine ⟨_, _, rfl, rfl, (by first | (show (0 : Int) < _; decide) | exact Or.inl ⟨by decide, by decide⟩ | exact Or.inr ⟨by decide, by decide⟩), ?_⟩ | refine ⟨_, _, rfl, rfl, ?_⟩)
section
variable {P : Program} {w : World} {K : PySem.W.Frag} {mg : Str → Option Value} {base : Heap}
/-- what the program's own names are -/
structure TxtP (K : PySem.W.Frag) (mg : Str → Option Value) : Prop where
  f_len : mg "len" = none
  f_all : mg "all" = none
  f_tuple : mg "tuple" = none
  f_int : mg "int" = none
  f_abs : mg "abs" = none
  f_max : mg "max" = none
  f_enumerate : mg "enumerate" = none
  c_LETTERS : ∃ t, mg "LETTERS" = some (.str "abcdefghijklmnopqrstuvwxyz" t)
  g_RESERVED : mg "RESERVED" = some (.ref (He.ga K "RESERVED"))
  t_RESERVED : ∀ H : Hp, SqT K H (He.ga K "RESERVED") (CF.Reserved.map V.str)
  c_LONGEST_NAME : ∃ t, mg "LONGEST_NAME" = some (.int 12 t)
  c_MOST_POINTERS : ∃ t, mg "MOST_POINTERS" = some (.int 3 t)
  c_FARTHEST_SPOT : ∃ t, mg "FARTHEST_SPOT" = some (.int 30 t)
  c_LONGEST_NUMBER : ∃ t, mg "LONGEST_NUMBER" = some (.int 3 t)
  c_FARTHEST : ∃ t, mg "FARTHEST" = some (.int 40 t)
  c_MOST_CELLS : ∃ t, mg "MOST_CELLS" = some (.int 16 t)
  c_MOST_FACTS : ∃ t, mg "MOST_FACTS" = some (.int 12 t)
  g_MODULI : mg "MODULI" = some (.ref (He.ga K "MODULI"))
  t_MODULI : ∀ H : Hp, SqT K H (He.ga K "MODULI") [.int 2, .int 4, .int 8]

/-- is_name(word) of a pointer's name -/
def spName : Sp := fun vs H Q _ => ∃ z : Str, vs = [.str z] ∧ CF.NameOk z ∧ ∀ H', Same H H' → Q (.bl true) H'
theorem sign_in {c : Nat} (h : 97 ≤ c ∧ c ≤ 122) : c ∈ (("abcdefghijklmnopqrstuvwxyz" : Str)).cps.toList := by
  have all : ∀ n : Nat, n < 26 → (n + 97) ∈ (("abcdefghijklmnopqrstuvwxyz" : Str)).cps.toList := by decide +kernel
  have e : c = (c - 97) + 97 := by omega
  rw [e]
  exact all _ (by omega)
abbrev s_is_name : Stmt := topS 19
theorem sc_is_name : FnScope ["word", "letter"] ["word"] (defScope s_is_name) := ⟨rfl, rfl, rfl, by decide +kernel, rfl, by decide +kernel, by decide +kernel⟩
theorem ok_is_name (T : TxtP K mg) (D : Def K mg "is_name" s_is_name) : Cal P w K mg base 1 "is_name" ["word"] spName := by
  refine D.cal sc_is_name (fun vs H Q E h => ?_) (fun _ _ _ _ _ _ us hl => match us, hl with | [_], _ => rfl) (fun f cdv A outer s H vs Q E hr h => ?_)
  · obtain ⟨z, rfl, _⟩ := h
    rfl
  have hu := hu_of hr

  obtain ⟨z, rfl, nm, k⟩ := h
  refine ⟨_, (C8.pss_cut (ps_if (PW.pt (pw_or (pt_not (pt_chain op_le op_le pe_int (pe_callB call_len (by rfl) T.f_len PySem.boot_len (pa_cons (pv 0) pa_nil)) (pe_gint (by rfl) T.c_LONGEST_NAME))) (pw_or1 (pt_cmpR op_in_seq (pv 0) (pe_gref (by rfl) T.g_RESERVED) (by rfl))))) (pss_one (ps_ret pe_bl)) pss_nil)
      (pss_one (ps_ret (pe_callB (cr_all rfl) (by rfl) T.f_all (by decide +kernel) (pa_cons (pe_lc (own := [("letter", 1)]) (g := gName 1) (tt := tYes) rfl sc_is_name.nd (pi_str (pv 0)) (blkOk_by (N := ["word", "letter"]) (sc := defScope s_is_name) (by decide +kernel)) (fun _ _ _ _ _ => pg_name (i := 1) sc_is_name.nd rfl (Or.inl rfl)) (fun _ _ _ _ _ => pts_nil) (fun _ _ _ _ _ => (pe_cmpR op_in_sign (pv 1) (pe_gstr (by rfl) T.c_LETTERS) (by rfl)))) pa_nil))))), ?_⟩
  have n1 := nm.lo
  have n2 := nm.hi
  refine ⟨fun σ' H' => σ' = [some (.str z), none] ∧ H' = H, ?_, ?_⟩
  · refine ⟨_, rfl, _, z.length, rfl, ⟨by rw [sizeLine_eq]; omega, rfl⟩, _, _, rfl, rfl, _, rfl, ite2 (fun _ => ?_) (fun c => absurd (decide_eq_true (by omega)) c)⟩
    refine ⟨_, _, rfl, rfl, _, rfl, ?_⟩
    rw [decide_eq_true (show (z.length : Int) ≤ 12 by omega)]
    refine iteF ?_
    refine ⟨_, rfl, _, _, rfl, .inr (T.t_RESERVED _), rfl, CF.flat_strs _, _, rfl, ?_⟩
    rw [if_neg (by decide), CF.inV_strs, decide_eq_false nm.free]
    exact iteF ⟨rfl, rfl⟩
  rintro σ' H' ⟨rfl, rfl⟩
  refine ⟨_, rfl, z, rfl, fun D hD => lc_it walk_str (fun i H1 => Same H' H1 ∧ H1 D = some (.lst ((List.replicate i true).map V.bl)))
    ⟨Same.new hD, upd_same⟩ (fun _ _ _ _ => True.intro) ?_ ?_⟩
  · rintro i x H1 H2 hi ⟨s1, h1⟩ ⟨rfl, c, hc, rfl⟩
    rw [← Array.getElem?_toList] at hc
    have inl : decide (c ∈ (("abcdefghijklmnopqrstuvwxyz" : Str)).cps.toList) = true := decide_eq_true (sign_in (nm.letters c (List.mem_of_getElem? hc)))
    refine ⟨rfl, _, rfl, c, _, rfl, rfl, _, h1, ?_, s1.put hD, ?_⟩
    · have e : z.cps.size = z.length := rfl
      rw [List.length_map, List.length_replicate, sizeLine_eq]
      omega
    · rw [inl, List.replicate_succ', List.map_append]
      exact upd_same
  · rintro H1 ⟨s1, h1⟩
    refine ⟨D, _, rfl, SqL.of h1, ?_⟩
    have al : (List.replicate z.cps.size true).all id = true := by
      rw [List.all_replicate]
      split <;> rfl
    rw [al]
    exact k _ s1



/-- lines_of(text) of lines joined -/
def spLinesOf : Sp := fun vs H Q _ => ∃ ws : List Str, vs = [.str (Txt.join "\n" ws)] ∧ (∀ w ∈ ws, 1 ≤ w.length ∧ 10 ∉ TL.tl w) ∧ (Txt.join "\n" ws).length ≤ 100000 ∧ ∀ (r : Addr) (H' : Hp), H r = none → Same H H' → H' r = some (.lst (ws.map V.str)) → Q (.ref r) H'
theorem join_one {ws : List Str} (h : ∀ w ∈ ws, 1 ≤ w.length ∧ 10 ∉ TL.tl w) (hn : ws ≠ []) : 1 ≤ (Txt.join "\n" ws).length := by
  rw [TL.join_eq, TL.len_tl, TL.tl_join]
  cases ws with
  | nil => exact absurd rfl hn
  | cons w r =>
    have hw := (h w List.mem_cons_self).1
    rw [TL.len_tl] at hw
    cases r with
    | nil => simpa [TL.joinL] using hw
    | cons w2 r =>
      have e : TL.joinL (TL.tl "\n") ((w :: w2 :: r).map TL.tl) = TL.tl w ++ (TL.tl "\n" ++ TL.joinL (TL.tl "\n") ((w2 :: r).map TL.tl)) := by
        first | rfl | simp [TL.joinL]
      rw [e, List.length_append]
      omega
theorem split_back {ws : List Str} (h : ∀ w ∈ ws, 1 ≤ w.length ∧ 10 ∉ TL.tl w) (hn : ws ≠ []) : Txt.split (Txt.join "\n" ws) "\n" = ws :=
  TL.split_join (s := 10) (S := []) rfl (by decide +kernel) hn fun p hp => (h p hp).2
abbrev s_lines_of : Stmt := topS 18
theorem sc_lines_of : FnScope ["text"] ["text"] (defScope s_lines_of) := ⟨rfl, rfl, rfl, by decide +kernel, rfl, by decide +kernel, by decide +kernel⟩
theorem ok_lines_of (T : TxtP K mg) (D : Def K mg "lines_of" s_lines_of) : Cal P w K mg base 1 "lines_of" ["text"] spLinesOf := by
  refine D.cal sc_lines_of (fun vs H Q E h => ?_) (fun _ _ _ _ _ _ us hl => match us, hl with | [_], _ => rfl) (fun f cdv A outer s H vs Q E hr h => ?_)
  · obtain ⟨ws, rfl, _⟩ := h
    rfl
  have hu := hu_of hr

  obtain ⟨ws, rfl, hw, hz, k⟩ := h
  refine ⟨_, (pss_one (ps_ret (pe_ifExp (pt_truth (pv 0) (by intro _; rfl)) (pe_split (pv 0) pe_str) (pe_lst pa_nil)))), ?_⟩
  have big : sizeLine = 16777216 := sizeLine_eq
  refine ⟨_, rfl, _, ⟨by omega, rfl⟩, ?_⟩
  cases ws with
  | nil =>
    have e : (Txt.join "\n" []).length = 0 := by
      rw [TL.join_eq, TL.len_tl, TL.tl_join]
      rfl
    have e2 : (((Txt.join "\n" []).length : Int) != 0) = false := by
      rw [e]
      rfl
    rw [e2]
    exact iteF ⟨Nat.zero_le _, fun r hr => k r _ hr (Same.new hr) upd_same⟩
  | cons w r0 =>
    have n1 := join_one hw (by simp)
    have e : (((Txt.join "\n" (w :: r0)).length : Int) != 0) = true := by
      simp only [bne_iff_ne, ne_eq]
      omega
    rw [e]
    refine iteT ⟨_, rfl, ⟨_, rfl⟩, _, _, rfl, rfl, by decide +kernel, by omega, fun r hr => ?_⟩
    rw [split_back hw (by simp)]
    exact k r _ hr (Same.new hr) upd_same

end
end K03
end
section
set_option Elab.async false
set_option linter.all false
set_option maxRecDepth 100000
set_option maxHeartbeats 4000000
namespace K03
open PySem PySem.Spec PyProof.Rows L2
open PySem.W (ke_shaped_ints)
local macro_rules | `(tactic| walk_at "go") => `(tactic| first | refine ⟨_, rfl, ?_⟩ | refine .inl ⟨_, rfl, ?_⟩ | refine ⟨_, _, rfl, rfl, (by first | (show (0 : Int) < _; decide) | exact Or.inl ⟨by decide, by decide⟩ | exact Or.inr ⟨by decide, by decide⟩), ?_⟩ | refine ⟨_, _, rfl, rfl, ?_⟩)
section
variable {P : Program} {w : World} {K : PySem.W.Frag} {mg : Str → Option Value} {base : Heap}

/-- read_pointers(pointers) of right names -/
def spReadPointers (K : PySem.W.Frag) : Sp := fun vs H Q _ => ∃ (a : Addr) (ps : List Str), vs = [.ref a] ∧ (SqL K H a (ps.map V.str) ∨ SqT K H a (ps.map V.str)) ∧ CF.Names ps ∧ ∀ (r : Addr) (H' : Hp), Same H H' → SqT K H' r (ps.map V.str) → Q (.ref r) H'
theorem not_before {α : Type} {l : List α} (h : l.Nodup) {i : Nat} {x : α} (e : l[i]? = some x) : x ∉ l.take i := by
  intro hm
  have a := List.take_append_drop i l
  rw [← a] at h
  have hd : x ∈ l.drop i := List.mem_of_getElem? (i := 0) (by rw [List.getElem?_drop]; exact e)
  exact (List.nodup_append.mp h).2.2 x hm x hd rfl
abbrev s_read_pointers : Stmt := topS 20
theorem sc_read_pointers : FnScope ["pointers", "names", "index", "name"] ["pointers"] (defScope s_read_pointers) := ⟨rfl, rfl, rfl, by decide +kernel, rfl, by decide +kernel, by decide +kernel⟩
theorem ok_read_pointers (T : TxtP K mg) (D : Def K mg "read_pointers" s_read_pointers) (C_is_name : Cal P w K mg base 1 "is_name" ["word"] spName) : Cal P w K mg base 2 "read_pointers" ["pointers"] (spReadPointers K) := by
  refine D.cal sc_read_pointers (fun vs H Q E h => ?_) (fun _ _ _ _ _ _ us hl => match us, hl with | [_], _ => rfl) (fun f cdv A outer s H vs Q E hr h => ?_)
  · obtain ⟨a, ps, rfl, _⟩ := h
    rfl
  have hu := hu_of hr

  obtain ⟨a, ps, rfl, hs, nm, k⟩ := h
  refine ⟨_, (C8.pss_cut (ps_set (i := 1) sc_read_pointers.nd rfl (by first | exact Or.inl rfl | exact Or.inr rfl) (pe_callTy call_tuple_of (by rfl) T.f_tuple (by decide +kernel) (pa_cons (pv 0) pa_nil)))
      (C8.pss_cut (ps_if (pt_not (pt_truth (pv 1) (by intro _; rfl))) (pss_one ps_never) pss_nil)
      (pss_cons (ps_for PassesOwn.never rfl (pi_enumT (by rfl) T.f_enumerate (pa_cons (pv 1) pa_nil)) (pg_tup rfl (pgs_cons (pg_name (i := 2) sc_read_pointers.nd rfl (by first | exact Or.inl rfl | exact Or.inr rfl)) (pgs_cons (pg_name (i := 3) sc_read_pointers.nd rfl (by first | exact Or.inl rfl | exact Or.inr rfl)) pgs_nil))) (pss_one (ps_if (PW.pt (pw_or (pt_cmpR op_eq (pv 2) (pe_gint (by rfl) T.c_MOST_POINTERS) (nomark _)) (pw_or (pt_not (pt_val (pe_cal C_is_name (hr.mono (by decide)) rfl (pa_cons (pv 3) pa_nil)))) (pw_or1 (pt_cmpR op_in_seq (pv 3) (pe_slice sl_tup (pv 1) po_none (po_some (pv 2))) (by rfl)))))) (pss_one ps_never) pss_nil)))
      (pss_one (ps_ret (pv 1)))))), ?_⟩
  refine ⟨fun σ' H' => ∃ t, σ' = [some (.ref a), some (.ref t), none, none] ∧ Same H H' ∧ SqT K H' t (ps.map V.str), ?_, ?_⟩
  · refine ⟨_, rfl, a, ps.map V.str, rfl, ?_⟩
    rcases hs with h | h
    · exact .inl ⟨h, fun l hl => ⟨l, rfl, Same.new hl, SqT.of upd_same⟩⟩
    · exact .inr ⟨h, a, rfl, fun _ _ z => z, h⟩
  rintro σ' H1 ⟨t, rfl, s1, hT⟩
  obtain ⟨oks, nd, n1, n3⟩ := nm
  have ne : (!(ps.map V.str).isEmpty) = true := by
    cases ps with
    | nil => cases n1
    | cons _ _ => rfl
  refine ⟨fun σ' H' => σ' = [some (.ref a), some (.ref t), none, none] ∧ H' = H1, ?_, ?_⟩
  · refine ⟨_, rfl, _, .inr (.inl ⟨_, hT, rfl⟩), ?_⟩
    rw [ne]
    exact iteF ⟨rfl, rfl⟩
  rintro σ' H' ⟨rfl, rfl⟩
  refine ⟨_, rfl, t, _, rfl, hT, for_it walk_enumT (fun i σ H2 => ∃ v2 v3, σ = [some (.ref a), some (.ref t), v2, v3] ∧ Same H' H2) ⟨none, none, rfl, fun _ _ z => z⟩ (fun i σ H2 _ ⟨_, _, _, s2⟩ => s2.tup hT) ?_ ?_⟩
  · rintro i x σ H2 H3 hi ⟨v2, v3, rfl, s2⟩ ⟨T0, x1, x2, rfl, hT0, rfl, e1, e2⟩
    cases e1
    have e2' : (ps.map V.str)[i]? = some x2 := e2
    rw [List.getElem?_map] at e2'
    obtain ⟨z, hz, rfl⟩ := Option.map_eq_some_iff.mp e2'
    rw [List.length_map] at hi
    have s3 := s2.trans (Same.new (o := .tup [.int (i : Nat), .str z]) hT0)
    refine ⟨T0, _, rfl, SqT.of upd_same, rfl, _, _, rfl, _, _, rfl, rfl, ?_⟩
    generalize upd H2 T0 (.tup [.int (i : Nat), .str z]) = H4 at s3 ⊢
    refine ⟨_, rfl, rfl, _, rfl, ite2 (fun c => absurd (of_decide_eq_true c) (fun e => by have := V.int.inj e; omega)) (fun _ => ?_)⟩
    refine ⟨_, rfl, z, rfl, oks z (List.mem_of_getElem? hz), fun H5 s5 => ⟨true, rfl, ?_⟩⟩
    refine iteF ?_
    have s35 := s3.trans s5
    have cut : cutV (ps.map V.str) none (some ((i : Nat) : Int)) = (ps.take i).map V.str := by
      rw [CF.cut_to _ (by omega), ← List.map_take]
      rfl
    refine ⟨_, rfl, _, rfl, _, rfl, _, rfl, t, _, rfl, s35.tup hT, ?_, fun p hp => ⟨p, _, rfl, .inr (SqT.of upd_same), rfl, ?_, _, rfl, ?_⟩⟩
    · rintro ⟨_, h⟩
      unfold HT.sIx at h
      simp only [if_neg (show ¬ ((i : Nat) : Int) < 0 by omega), List.length_map, Int.toNat_natCast] at h
      omega
    · rw [cut]
      exact CF.flat_strs _
    · rw [if_neg (by decide), cut, CF.inV_strs, decide_eq_false (not_before nd hz)]
      exact iteF ⟨_, _, rfl, s35.trans (Same.new hp)⟩
  · rintro σ H2 ⟨v2, v3, rfl, s2⟩
    exact ⟨_, rfl, k t H2 (s1.trans s2) (s2.tup hT)⟩

end
end K03
end
section
set_option Elab.async false
set_option linter.all false
set_option maxRecDepth 100000
set_option maxHeartbeats 4000000
namespace K03
open PySem PySem.Spec PyProof.Rows L2
open PySem.W (ke_shaped_ints)
local macro_rules | `(tactic| walk_at "go") => `(tactic| first | refine ⟨_, rfl, ?_⟩ | refine .inl ⟨_, rfl, ?_⟩ | refine ⟨_, _, rfl, rfl, (by first | (show (0 : Int) < _; decide) | exact Or.inl ⟨by decide, by decide⟩ | exact Or.inr ⟨by decide, by decide⟩), ?_⟩ | refine ⟨_, _, rfl, rfl, ?_⟩)
section
variable {P : Program} {w : World} {K : PySem.W.Frag} {mg : Str → Option Value} {base : Heap}

/-- read_number(word, low, high) of a number within -/
def spReadNumber : Sp := fun vs H Q _ => ∃ (n lo hi : Int), vs = [.str (CF.num n), .int lo, .int hi] ∧ -100 ≤ n ∧ n ≤ 100 ∧ lo ≤ n ∧ n ≤ hi ∧ Q (.int n) H
def dig (n : Int) : Str := if Txt.startswith (CF.num n) "-" = true then cutS (CF.num n) (some 1) none else CF.num n
theorem num_all : ((List.range 201).all fun k => (fun n : Int => Txt.isdigit (dig n) && (decide ((dig n).length ≤ 3) && (!(Txt.startswith (dig n) "0" && !decide (CF.num n = "0")) && decide (PySem.intText? (CF.num n) = some n)))) ((k : Int) - 100)) = true := by decide +kernel
theorem num_ok {n : Int} (h0 : -100 ≤ n) (h1 : n ≤ 100) : Txt.isdigit (dig n) = true ∧ (dig n).length ≤ 3 ∧ (Txt.startswith (dig n) "0" && !decide (CF.num n = "0")) = false ∧ PySem.intText? (CF.num n) = some n := by
  have z := CF.small_all (p := fun n : Int => Txt.isdigit (dig n) && (decide ((dig n).length ≤ 3) && (!(Txt.startswith (dig n) "0" && !decide (CF.num n = "0")) && decide (PySem.intText? (CF.num n) = some n)))) num_all h0 h1
  simp only [Bool.and_eq_true, decide_eq_true_eq, Bool.not_eq_true'] at z
  exact z
abbrev s_read_number : Stmt := topS 22
theorem sc_read_number : FnScope ["word", "low", "high", "digits", "number"] ["word", "low", "high"] (defScope s_read_number) := ⟨rfl, rfl, rfl, by decide +kernel, rfl, by decide +kernel, by decide +kernel⟩
theorem ok_read_number (T : TxtP K mg) (D : Def K mg "read_number" s_read_number) : Cal P w K mg base 1 "read_number" ["word", "low", "high"] spReadNumber := by
  refine D.cal sc_read_number (fun vs H Q E h => ?_) (fun _ _ _ _ _ _ us hl => match us, hl with | [_, _, _], _ => rfl) (fun f cdv A outer s H vs Q E hr h => ?_)
  · obtain ⟨n, lo, hi, rfl, _⟩ := h
    rfl
  have hu := hu_of hr

  obtain ⟨n, lo, hi, rfl, n0, n1, l0, l1, k⟩ := h
  obtain ⟨d1, d2, d3, d4⟩ := num_ok n0 n1
  have hl := CF.num_len n0 n1
  have big : sizeLine = 16777216 := sizeLine_eq
  refine ⟨_, (C8.pss_cut (ps_set (i := 3) sc_read_number.nd rfl (by first | exact Or.inl rfl | exact Or.inr rfl) (pe_ifExp (pt_val (pe_m1 PySem.F.slot_str_startswith PySem.F.type_str_startswith mt_startswith (pv 0) pe_str)) (pe_slice sl_str (pv 0) (po_some pe_int) po_none) (pv 0)))
      (C8.pss_cut (ps_if (PW.pt (pw_or (pt_not (pt_val (pe_m0 PySem.F.slot_str_isdigit PySem.F.type_str_isdigit mt_isdigit (pv 3)))) (pw_or1 (pt_cmpR op_gt (pe_callB call_len (by rfl) T.f_len PySem.boot_len (pa_cons (pv 3) pa_nil)) (pe_gint (by rfl) T.c_LONGEST_NUMBER) (nomark _))))) (pss_one (ps_ret pe_non)) pss_nil)
      (C8.pss_cut (ps_if (PW.pt (pw_and (pt_val (pe_m1 PySem.F.slot_str_startswith PySem.F.type_str_startswith mt_startswith (pv 3) pe_str)) (pw_and1 (pt_cmpR op_ne (pv 0) pe_str (nomark _))))) (pss_one (ps_ret pe_non)) pss_nil)
      (pss_cons (ps_set (i := 4) sc_read_number.nd rfl (by first | exact Or.inl rfl | exact Or.inr rfl) (pe_callTy call_int_str (by rfl) T.f_int (by decide +kernel) (pa_cons (pv 0) pa_nil)))
      (pss_one (ps_ret (pe_ifExp (pt_chain op_le op_le (pv 1) (pv 4) (pv 2)) (pv 4) pe_non))))))), ?_⟩
  refine ⟨fun σ' H' => σ' = [some (.str (CF.num n)), some (.int lo), some (.int hi), some (.str (dig n)), none] ∧ H' = H, ?_, ?_⟩
  · refine ⟨_, rfl, ⟨_, rfl⟩, _, _, rfl, rfl, _, rfl, ite2 (fun c => ?_) (fun c => ?_)⟩
    · exact ⟨_, rfl, 1, rfl, _, rfl, by omega, by rw [show dig n = _ from if_pos c]; rfl, rfl⟩
    · exact ⟨_, rfl, by rw [show dig n = _ from if_neg c]; rfl, rfl⟩
  rintro σ' H' ⟨rfl, rfl⟩
  refine ⟨fun σ H => σ = [some (.str (CF.num n)), some (.int lo), some (.int hi), some (.str (dig n)), none] ∧ H = H', ?_, ?_⟩
  · refine ⟨_, rfl, ⟨_, rfl⟩, _, rfl, rfl, trivial, _, rfl, ?_⟩
    rw [d1]
    refine iteF ?_
    exact ⟨_, rfl, _, (dig n).length, rfl, ⟨by omega, rfl⟩, _, _, rfl, rfl, _, rfl, ite2 (fun c => absurd (of_decide_eq_true c) (by omega)) (fun _ => ⟨rfl, rfl⟩)⟩
  rintro σ' H ⟨rfl, rfl⟩
  refine ⟨fun σ H1 => σ = [some (.str (CF.num n)), some (.int lo), some (.int hi), some (.str (dig n)), none] ∧ H1 = H, ?_, ?_⟩
  · refine ⟨_, rfl, ⟨_, rfl⟩, _, _, rfl, rfl, _, rfl, ite2 (fun c => ?_) (fun _ => ⟨rfl, rfl⟩)⟩
    refine ⟨_, rfl, rfl, _, rfl, ?_⟩
    have e : CF.num n = "0" := by
      rw [c, Bool.true_and] at d3
      simpa using d3
    have e2 : decide (V.str (CF.num n) = V.str "0") = true := decide_eq_true (by rw [e])
    rw [e2]
    exact iteF ⟨rfl, rfl⟩
  rintro σ' H1 ⟨rfl, rfl⟩
  refine ⟨_, rfl, _, n, rfl, d4, by omega, ?_⟩
  refine ⟨_, rfl, _, rfl, _, _, rfl, rfl, _, rfl, ite2 (fun _ => ?_) (fun c => absurd (decide_eq_true l0) c)⟩
  exact ⟨_, rfl, _, _, rfl, rfl, _, rfl, ite2 (fun _ => ⟨_, rfl, k⟩) (fun c => absurd (decide_eq_true l1) c)⟩



/-- read_pointer(word, pointers): the place of the name, if it is one -/
def spReadPointer (K : PySem.W.Frag) : Sp := fun vs H Q _ => ∃ (z : Str) (a : Addr) (ps : List Str), vs = [.str z, .ref a] ∧ SqT K H a (ps.map V.str) ∧ CF.Names ps ∧ ((∃ i : Nat, ps[i]? = some z ∧ ∀ H', Same H H' → Q (.int (i : Nat)) H') ∨ (z ∉ ps ∧ ∀ H', Same H H' → Q .non H'))
/-- read_spot(word, pointers) of a spot -/
def spReadSpot (K : PySem.W.Frag) : Sp := fun vs H Q _ => ∃ (z : Str) (k : Int) (i : Nat) (a : Addr) (ps : List Str), vs = [.str (CF.spot z k), .ref a] ∧ SqT K H a (ps.map V.str) ∧ CF.Names ps ∧ ps[i]? = some z ∧ -30 ≤ k ∧ k ≤ 30 ∧ ∀ (r : Addr) (H' : Hp), Same H H' → H r = none → H' r = some (.tup [.int (i : Nat), .int k]) → Q (.ref r) H'
abbrev s_read_spot : Stmt := topS 24
theorem sc_read_spot : FnScope ["word", "pointers", "sign", "name", "found", "digits", "pointer", "number"] ["word", "pointers"] (defScope s_read_spot) := ⟨rfl, rfl, rfl, by decide +kernel, rfl, by decide +kernel, by decide +kernel⟩
theorem ok_read_spot (T : TxtP K mg) (D : Def K mg "read_spot" s_read_spot) (C_read_pointer : Cal P w K mg base 3 "read_pointer" ["word", "pointers"] (spReadPointer K)) (C_read_number : Cal P w K mg base 1 "read_number" ["word", "low", "high"] spReadNumber) : Cal P w K mg base 4 "read_spot" ["word", "pointers"] (spReadSpot K) := by
  refine D.cal sc_read_spot (fun vs H Q E h => ?_) (fun _ _ _ _ _ _ us hl => match us, hl with | [_, _], _ => rfl) (fun f cdv A outer s H vs Q E hr h => ?_)
  · obtain ⟨z, k, i, a, ps, rfl, _⟩ := h
    rfl
  have hu := hu_of hr

  obtain ⟨z, k, i, a, ps, rfl, hT, nm, hi, k0, k1, kk⟩ := h
  refine ⟨_, (C8.pss_cut (ps_set (i := 2) sc_read_spot.nd rfl (by first | exact Or.inl rfl | exact Or.inr rfl) (pe_ifExp (pt_cmpR op_in_sign pe_str (pv 0) (by rfl)) pe_str pe_str))
      (C8.pss_cut (ps_asg (pe_partition (pv 0) (pv 2)) (pg_tup rfl (pgs_cons (pg_name (i := 3) sc_read_spot.nd rfl (by first | exact Or.inl rfl | exact Or.inr rfl)) (pgs_cons (pg_name (i := 4) sc_read_spot.nd rfl (by first | exact Or.inl rfl | exact Or.inr rfl)) (pgs_cons (pg_name (i := 5) sc_read_spot.nd rfl (by first | exact Or.inl rfl | exact Or.inr rfl)) pgs_nil)))))
      (C8.pss_cut (ps_set (i := 6) sc_read_spot.nd rfl (by first | exact Or.inl rfl | exact Or.inr rfl) (pe_cal C_read_pointer (hr.mono (by decide)) rfl (pa_cons (pv 3) (pa_cons (pv 1) pa_nil))))
      (C8.pss_cut (ps_if (pt_cmpR op_isN (pv 6) pe_non (nomark _)) (pss_one (ps_ret pe_non)) pss_nil)
      (C8.pss_cut (ps_if (pt_not (pt_truth (pv 4) (by intro _; rfl))) (pss_one (ps_ret (pe_tup (pa_cons (pv 6) (pa_cons pe_int pa_nil))))) pss_nil)
      (C8.pss_cut (ps_set (i := 7) sc_read_spot.nd rfl (by first | exact Or.inl rfl | exact Or.inr rfl) (pe_cal C_read_number (hr.mono (by decide)) rfl (pa_cons (pv 5) (pa_cons pe_int (pa_cons (pe_gint (by rfl) T.c_FARTHEST_SPOT) pa_nil)))))
      (C8.pss_cut (ps_if (pt_cmpR op_isN (pv 7) pe_non (nomark _)) (pss_one (ps_ret pe_non)) pss_nil)
      (pss_one (ps_ret (pe_tup (pa_cons (pv 6) (pa_cons (pe_ifExp (pt_cmpR op_eq (pv 2) pe_str (nomark _)) (pv 7) (pe_un un_neg (pv 7))) pa_nil)))))))))))), ?_⟩
  have zm : z ∈ ps := List.mem_of_getElem? hi
  have hz := nm.1 z zm
  have sl := CF.spot_len (k := k) hz.hi (by omega) (by omega)
  have sg := CF.spot_sign hz (k := k) (by omega) (by omega)
  have sp := CF.spot_parts hz (k := k) (by omega) (by omega)
  have big : sizeLine = 16777216 := sizeLine_eq
  generalize hw : CF.spot z k = wd at sl sg sp ⊢
  generalize hf : (if k = 0 then ("" : Str) else CF.sgn k) = fo at sp
  generalize hd : (if k = 0 then ("" : Str) else CF.num (CF.ab k)) = dg at sp
  have i3 : i < ps.length := (List.getElem?_eq_some_iff.mp hi).1
  -- sign
  refine ⟨fun σ' H' => σ' = [some (.str wd), some (.ref a), some (.str (CF.sgn k)), none, none, none, none, none] ∧ H' = H, ?_, ?_⟩
  · refine ⟨_, rfl, 43, wd, rfl, rfl, _, rfl, ?_⟩
    rw [sg]
    unfold CF.sgn
    refine ite2 (fun c => ?_) (fun c => ?_)
    · exact ⟨by rw [if_pos (of_decide_eq_true c)]; rfl, rfl⟩
    · exact ⟨by rw [if_neg (fun e => c (decide_eq_true e))]; rfl, rfl⟩
  rintro σ' H' ⟨rfl, rfl⟩
  -- partition
  refine ⟨fun σ' H1 => σ' = [some (.str wd), some (.ref a), some (.str (CF.sgn k)), some (.str z), some (.str fo), some (.str dg), none, none] ∧ Same H' H1, ?_, ?_⟩
  · refine ⟨_, rfl, ⟨_, rfl⟩, _, rfl, _, _, rfl, rfl, ?_, by omega, fun tp htp => ⟨tp, _, rfl, SqT.of upd_same, rfl, _, _, rfl, _, _, rfl, _, _, rfl, rfl, ?_⟩⟩
    · unfold CF.sgn
      split <;> decide +kernel
    · rw [sp]
      exact ⟨rfl, Same.new htp⟩
  rintro σ' H1 ⟨rfl, s1⟩
  -- pointer
  refine ⟨fun σ' H2 => σ' = [some (.str wd), some (.ref a), some (.str (CF.sgn k)), some (.str z), some (.str fo), some (.str dg), some (.int (i : Nat)), none] ∧ Same H' H2, ?_, ?_⟩
  · refine ⟨_, rfl, _, rfl, z, a, ps, rfl, s1.tup hT, nm, .inl ⟨i, hi, fun H2 s2 => ⟨rfl, s1.trans s2⟩⟩⟩
  rintro σ' H2 ⟨rfl, s2⟩
  refine ⟨fun σ' H3 => σ' = [some (.str wd), some (.ref a), some (.str (CF.sgn k)), some (.str z), some (.str fo), some (.str dg), some (.int (i : Nat)), none] ∧ H3 = H2, ?_, ?_⟩
  · refine ⟨_, rfl, rfl, _, rfl, ite2 (fun c => absurd (of_decide_eq_true c) (fun e => by cases e)) (fun _ => ⟨rfl, rfl⟩)⟩
  rintro σ' H3 ⟨rfl, rfl⟩
  -- found
  refine ⟨fun σ' H4 => σ' = [some (.str wd), some (.ref a), some (.str (CF.sgn k)), some (.str z), some (.str fo), some (.str dg), some (.int (i : Nat)), none] ∧ H4 = H3 ∧ k ≠ 0, ?_, ?_⟩
  · by_cases k0' : k = 0
    · rw [if_pos k0'] at hf
      subst hf
      have e : ("" : Str).length = 0 := rfl
      refine ⟨_, rfl, _, ⟨by rw [e]; omega, rfl⟩, ?_⟩
      refine iteT ⟨_, rfl, by show 2 ≤ sizeLine; decide, fun r hr => ?_⟩
      refine kk r _ (s2.put (s2.free hr)) (s2.free hr) ?_
      rw [k0']
      exact upd_same
    · rw [if_neg k0'] at hf
      have e : fo.length = 1 := by
        rw [← hf]
        unfold CF.sgn
        split <;> rfl
      refine ⟨_, rfl, _, ⟨by rw [e]; omega, rfl⟩, ?_⟩
      have e2 : ((fo.length : Int) != 0) = true := by
        rw [e]
        rfl
      rw [e2]
      exact iteF ⟨rfl, rfl, k0'⟩
  rintro σ' H4 ⟨rfl, rfl, kn⟩
  rw [if_neg kn] at hd
  have an : 1 ≤ CF.ab k ∧ CF.ab k ≤ 30 := by
    unfold CF.ab
    split <;> omega
  refine ⟨fun σ' H5 => σ' = [some (.str wd), some (.ref a), some (.str (CF.sgn k)), some (.str z), some (.str fo), some (.str dg), some (.int (i : Nat)), some (.int (CF.ab k))] ∧ H5 = H4, ?_, ?_⟩
  · exact ⟨_, rfl, CF.ab k, 1, 30, by rw [← hd]; rfl, by omega, by omega, an.1, an.2, rfl, rfl⟩
  rintro σ' H5 ⟨rfl, rfl⟩
  refine ⟨fun σ' H6 => σ' = [some (.str wd), some (.ref a), some (.str (CF.sgn k)), some (.str z), some (.str fo), some (.str dg), some (.int (i : Nat)), some (.int (CF.ab k))] ∧ H6 = H5, ?_, ?_⟩
  · refine ⟨_, rfl, rfl, _, rfl, ite2 (fun c => absurd (of_decide_eq_true c) (fun e => by cases e)) (fun _ => ⟨rfl, rfl⟩)⟩
  rintro σ' H6 ⟨rfl, rfl⟩
  have fin : ∀ r, H6 r = none → Q (.ref r) (upd H6 r (.tup [.int (i : Nat), .int k])) := fun r hr => kk r _ (s2.put (s2.free hr)) (s2.free hr) upd_same
  refine ⟨_, rfl, _, rfl, rfl, _, rfl, ?_⟩
  by_cases kp : 0 < k
  · have e : CF.sgn k = "+" := if_pos kp
    have e2 : CF.ab k = k := if_neg (by omega)
    rw [decide_eq_true (by rw [e]), e2]
    exact iteT ⟨_, rfl, by show 2 ≤ sizeLine; decide, fin⟩
  · have e : CF.sgn k = "-" := if_neg kp
    have e2 : -(CF.ab k) = k := by
      unfold CF.ab
      rw [if_pos (by omega)]
      omega
    have ne : ¬ (V.str (CF.sgn k) = V.str "+") := by
      rw [e]
      intro h
      exact absurd (V.str.inj h) (by decide)
    rw [decide_eq_false ne]
    refine iteF ⟨_, rfl, _, rfl, by show 2 ≤ sizeLine; decide, ?_⟩
    intro r hr
    show Q (.ref r) (upd H6 r (.tup [.int (i : Nat), .int (-(CF.ab k))]))
    rw [e2]
    exact fin r hr

end
end K03
end
section
set_option Elab.async false
set_option linter.all false
set_option maxRecDepth 100000
set_option maxHeartbeats 4000000
namespace K03
open PySem PySem.Spec PyProof.Rows L2
open PySem.W (ke_shaped_ints)
local macro_rules | `(tactic| walk_at "go") => `(tactic| first | refine ⟨_, rfl, ?_⟩ | refine .inl ⟨_, rfl, ?_⟩ | refine ⟨_, _, rfl, rfl, (by first | (show (0 : Int) < _; decide) | exact Or.inl ⟨by decide, by decide⟩ | exact Or.inr ⟨by decide, by decide⟩), ?_⟩ | refine ⟨_, _, rfl, rfl, ?_⟩)
section
variable {P : Program} {w : World} {K : PySem.W.Frag} {mg : Str → Option Value} {base : Heap}
abbrev s_read_pointer : Stmt := topS 23
theorem sc_read_pointer : FnScope ["word", "pointers", "index", "name"] ["word", "pointers"] (defScope s_read_pointer) := ⟨rfl, rfl, rfl, by decide +kernel, rfl, by decide +kernel, by decide +kernel⟩
theorem ok_read_pointer (T : TxtP K mg) (D : Def K mg "read_pointer" s_read_pointer) : Cal P w K mg base 3 "read_pointer" ["word", "pointers"] (spReadPointer K) := by
  refine D.cal sc_read_pointer (fun vs H Q E h => ?_) (fun _ _ _ _ _ _ us hl => match us, hl with | [_, _], _ => rfl) (fun f cdv A outer s H vs Q E hr h => ?_)
  · obtain ⟨z, a, ps, rfl, _⟩ := h
    rfl
  have hu := hu_of hr

  obtain ⟨z, a, ps, rfl, hT, nm, alt⟩ := h
  refine ⟨_, (pss_cons (ps_for PassesOwn.never rfl (pi_enumT (by rfl) T.f_enumerate (pa_cons (pv 1) pa_nil)) (pg_tup rfl (pgs_cons (pg_name (i := 2) sc_read_pointer.nd rfl (by first | exact Or.inl rfl | exact Or.inr rfl)) (pgs_cons (pg_name (i := 3) sc_read_pointer.nd rfl (by first | exact Or.inl rfl | exact Or.inr rfl)) pgs_nil))) (pss_one (ps_if (pt_cmpR op_eq (pv 3) (pv 0) (nomark _)) (pss_one (ps_ret (pv 2))) pss_nil)))
      (pss_one (ps_ret pe_non))), ?_⟩
  obtain ⟨oks, nd, n1, n3⟩ := nm
  refine ⟨_, rfl, a, _, rfl, hT, for_it walk_enumT (fun i σ H2 => ∃ v2 v3, σ = [some (.str z), some (.ref a), v2, v3] ∧ Same H H2 ∧ z ∉ ps.take i) ⟨none, none, rfl, fun _ _ z => z, by simp⟩ (fun i σ H2 _ ⟨_, _, _, s2, _⟩ => s2.tup hT) ?_ ?_⟩
  · rintro i x σ H2 H3 hi ⟨v2, v3, rfl, s2, no⟩ ⟨T0, x1, x2, rfl, hT0, rfl, e1, e2⟩
    cases e1
    have e2' : (ps.map V.str)[i]? = some x2 := e2
    rw [List.getElem?_map] at e2'
    obtain ⟨y, hy, rfl⟩ := Option.map_eq_some_iff.mp e2'
    have s3 := s2.trans (Same.new (o := .tup [.int (i : Nat), .str y]) hT0)
    refine ⟨T0, _, rfl, SqT.of upd_same, rfl, _, _, rfl, _, _, rfl, rfl, ?_⟩
    generalize upd H2 T0 (.tup [.int (i : Nat), .str y]) = H4 at s3 ⊢
    refine ⟨_, rfl, _, rfl, rfl, _, rfl, ite2 (fun c => ?_) (fun c => ?_)⟩
    · have e := V.str.inj (of_decide_eq_true c)
      rw [e] at hy
      rcases alt with ⟨j, hj, k⟩ | ⟨nin, k⟩
      · have ij : i = j := by
          have hi2 := (List.getElem?_eq_some_iff.mp hy).1
          exact (List.getElem?_inj hi2 nd).mp (hy.trans hj.symm)
        rw [← ij] at k
        exact ⟨_, rfl, k _ s3⟩
      · exact absurd (List.mem_of_getElem? hy) nin
    · refine ⟨_, _, rfl, s3, ?_⟩
      rw [List.take_add_one, hy]
      simp only [Option.toList_some, List.mem_append, List.mem_singleton, not_or]
      exact ⟨no, fun e => c (decide_eq_true (by rw [e]))⟩
  · rintro σ H2 ⟨v2, v3, rfl, s2, no⟩
    have nin : z ∉ ps := by
      have : (ps.map V.str).length = ps.length := List.length_map ..
      rw [this, List.take_length] at no
      exact no
    rcases alt with ⟨j, hj, k⟩ | ⟨_, k⟩
    · exact absurd (List.mem_of_getElem? hj) nin
    · exact k _ s2

end
end K03
end
section
set_option Elab.async false
set_option linter.all false
set_option maxRecDepth 100000
set_option maxHeartbeats 4000000
namespace K03
open PySem PySem.Spec PyProof.Rows L2
open PySem.W (ke_shaped_ints)
local macro_rules | `(tactic| walk_at "go") => `(tactic| first | refine ⟨_, rfl, ?_⟩ | refine .inl ⟨_, rfl, ?_⟩ | refine ⟨_, _, rfl, rfl, (by first | (show (0 : Int) < _; decide) | exact Or.inl ⟨by decide, by decide⟩ | exact Or.inr ⟨by decide, by decide⟩), ?_⟩ | refine ⟨_, _, rfl, rfl, ?_⟩)
section
variable {P : Program} {w : World} {K : PySem.W.Frag} {mg : Str → Option Value} {base : Heap}

def fields (w : Str) (v1 v2 : V) (nm : Addr) (sp : Addr) (far md : Int) : List (Str × V) := [("word", .str w), ("left", v1), ("right", v2), ("numbers", .ref nm), ("spans", .ref sp), ("far", .int far), ("modulus", .int md)]
structure FactC (K : PySem.W.Frag) (C : Addr) : Prop where
  cl : Cls K C
  n_word : NoAttr K C "word"
  n_left : NoAttr K C "left"
  n_right : NoAttr K C "right"
  n_numbers : NoAttr K C "numbers"
  n_spans : NoAttr K C "spans"
  n_far : NoAttr K C "far"
  n_modulus : NoAttr K C "modulus"
/-- Fact.__init__ -/
def spFactInit (K : PySem.W.Frag) (C : Addr) : Sp := fun vs H Q _ => ∃ (o dx nm : Addr) (w : Str) (v1 v2 : V) (ns : List Int), vs = [.ref o, .str w, v1, v2, .ref nm] ∧ H o = some (.ins C dx []) ∧ SqT K H nm (ns.map V.int) ∧
  ((w = "apart" ∧ ∃ (q1 q2 : Addr) (i k j e n c : Int), v1 = .ref q1 ∧ v2 = .ref q2 ∧ SqT K H q1 [.int i, .int k] ∧ SqT K H q2 [.int j, .int e] ∧ ns = [n, c] ∧
      ∀ (H' : Hp) (sp s1 s2 : Addr), But o H H' → H' s1 = some (.tup [.int i, .int k, .int n]) → H' s2 = some (.tup [.int j, .int e, .int c]) → H' sp = some (.tup [.ref s1, .ref s2]) → H' o = some (.ins C dx (fields w v1 v2 nm sp (n + c + CF.ab k + CF.ab e) 1)) → Q .non H') ∨
   (w = "by" ∧ ∃ m r : Int, ns = [m, r] ∧ ∀ (H' : Hp) (sp : Addr), But o H H' → H' o = some (.ins C dx (fields w v1 v2 nm sp 0 m)) → Q .non H') ∨
   (w ≠ "apart" ∧ w ≠ "by" ∧ ∃ n : Int, ns = [n] ∧ ∀ (H' : Hp) (sp : Addr), But o H H' → H' o = some (.ins C dx (fields w v1 v2 nm sp (CF.ab n) 1)) → Q .non H'))
abbrev s_Fact___init__ : Stmt := inClass (topS 29) 0
theorem sc_Fact___init__ : FnScope ["self", "word", "left", "right", "numbers"] ["self", "word", "left", "right", "numbers"] (defScope s_Fact___init__) := ⟨rfl, rfl, rfl, by decide +kernel, rfl, by decide +kernel, by decide +kernel⟩
theorem ok_fact_init {C f : Addr} {fd : FuncData} (T : TxtP K mg) (FC : FactC K C) (F : FunD K "__init__" "Fact.__init__" (defArgs s_Fact___init__) (defBody s_Fact___init__) (defScope s_Fact___init__) [] [] f fd) : FnOk P w K mg base CX0 1 f fd ["self", "word", "left", "right", "numbers"] (spFactInit K C) := by
  refine F.ok sc_Fact___init__ (fun vs H Q E h => by obtain ⟨o, dx, nm, w, v1, v2, ns, rfl, _⟩ := h; rfl) (fun cdv A outer s H vs Q E hr h => ?_)
  suffices z : ∃ t, PSs (cxOf CX0 P w K mg base ["self", "word", "left", "right", "numbers"] "Fact.__init__" (defScope s_Fact___init__) f cdv A outer s H E).nox (defBody s_Fact___init__) t ∧ t { nx := fun _ H' => Q .non H', rt := Q } (start ["self", "word", "left", "right", "numbers"] vs) H by
    obtain ⟨t, h1, h2⟩ := z
    exact ⟨t, h1.nox, h2⟩
  obtain ⟨o, dx, nm, w, v1, v2, ns, rfl, ho, hns, alt⟩ := h
  refine ⟨_, (pss_cons (ps_fld (pv 0) (pv 1) rfl)
      (pss_cons (ps_fld (pv 0) (pv 2) rfl)
      (pss_cons (ps_fld (pv 0) (pv 3) rfl)
      (pss_cons (ps_fld (pv 0) (pv 4) rfl)
      (pss_cons (ps_fld (pv 0) (pe_tup pa_nil) rfl)
      (pss_cons (ps_fld (pv 0) pe_int rfl)
      (pss_cons (ps_fld (pv 0) pe_int rfl)
      (pss_one (ps_if (pt_cmpR op_eq (pv 1) pe_str (nomark _)) (pss_cons (ps_fld (pv 0) (pe_tup (pa_cons (pe_op op_catT (pv 2) (pe_tup (pa_cons (pe_ix ix_tup (pv 4) pe_int (fun _ _ => rfl)) pa_nil))) (pa_cons (pe_op op_catT (pv 3) (pe_tup (pa_cons (pe_ix ix_tup (pv 4) pe_int (fun _ _ => rfl)) pa_nil))) pa_nil))) rfl)
      (pss_one (ps_fld (pv 0) (pe_op op_add (pe_op op_add (pe_op op_add (pe_ix ix_tup (pv 4) pe_int (fun _ _ => rfl)) (pe_ix ix_tup (pv 4) pe_int (fun _ _ => rfl))) (pe_callB call_abs (by rfl) T.f_abs (by decide +kernel) (pa_cons (pe_ix ix_tup (pv 2) pe_int (fun _ _ => rfl)) pa_nil))) (pe_callB call_abs (by rfl) T.f_abs (by decide +kernel) (pa_cons (pe_ix ix_tup (pv 3) pe_int (fun _ _ => rfl)) pa_nil))) rfl))) (pss_one (ps_if (pt_cmpR op_eq (pv 1) pe_str (nomark _)) (pss_one (ps_fld (pv 0) (pe_ix ix_tup (pv 4) pe_int (fun _ _ => rfl)) rfl)) (pss_one (ps_fld (pv 0) (pe_callB call_abs (by rfl) T.f_abs (by decide +kernel) (pa_cons (pe_ix ix_tup (pv 4) pe_int (fun _ _ => rfl)) pa_nil)) rfl))))))))))))), ?_⟩
  have lt : ∀ (l : List (Str × V)), l.length ≤ 7 → l.length < 1000 := fun l h => by omega
  refine ⟨_, rfl, _, rfl, o, C, dx, _, rfl, ho, FC.cl, FC.n_word, lt _ (by decide), ?_⟩
  refine ⟨_, rfl, _, rfl, o, C, dx, _, rfl, upd_same, FC.cl, FC.n_left, lt _ (Nat.le_of_ble_eq_true rfl), ?_⟩
  refine ⟨_, rfl, _, rfl, o, C, dx, _, rfl, upd_same, FC.cl, FC.n_right, lt _ (Nat.le_of_ble_eq_true rfl), ?_⟩
  refine ⟨_, rfl, _, rfl, o, C, dx, _, rfl, upd_same, FC.cl, FC.n_numbers, lt _ (Nat.le_of_ble_eq_true rfl), ?_⟩
  have b1 : ∀ x1 x2 x3 x4, But o H (upd (upd (upd (upd H o x1) o x2) o x3) o x4) := fun x1 x2 x3 x4 => (((But.upd (o := x1) H).trans (But.upd (o := x2) _)).trans (But.upd (o := x3) _)).trans (But.upd (o := x4) _)
  have b1' := b1 (.ins C dx (putF "word" (.str w) [])) (.ins C dx (putF "left" v1 (putF "word" (.str w) []))) (.ins C dx (putF "right" v2 (putF "left" v1 (putF "word" (.str w) [])))) (.ins C dx (putF "numbers" (.ref nm) (putF "right" v2 (putF "left" v1 (putF "word" (.str w) [])))))
  have h1 : (upd (upd (upd (upd H o (.ins C dx (putF "word" (.str w) []))) o (.ins C dx (putF "left" v1 (putF "word" (.str w) [])))) o (.ins C dx (putF "right" v2 (putF "left" v1 (putF "word" (.str w) []))))) o (.ins C dx (putF "numbers" (.ref nm) (putF "right" v2 (putF "left" v1 (putF "word" (.str w) [])))))) o = some (.ins C dx [("word", .str w), ("left", v1), ("right", v2), ("numbers", .ref nm)]) := upd_same
  generalize (upd (upd (upd (upd H o (.ins C dx (putF "word" (.str w) []))) o (.ins C dx (putF "left" v1 (putF "word" (.str w) [])))) o (.ins C dx (putF "right" v2 (putF "left" v1 (putF "word" (.str w) []))))) o (.ins C dx (putF "numbers" (.ref nm) (putF "right" v2 (putF "left" v1 (putF "word" (.str w) [])))))) = H1 at b1' h1 ⊢
  refine ⟨by show 0 ≤ sizeLine; decide, fun e he => ?_⟩
  have h2 := (Same.new (o := .tup []) he) _ _ h1
  have b2 : But o H (upd H1 e (.tup [])) := b1'.nw he
  generalize upd H1 e (.tup []) = H2 at h2 b2 ⊢
  refine ⟨_, rfl, o, C, dx, _, rfl, h2, FC.cl, FC.n_spans, lt _ (Nat.le_of_ble_eq_true rfl), ?_⟩
  refine ⟨_, rfl, o, C, dx, _, rfl, upd_same, FC.cl, FC.n_far, lt _ (Nat.le_of_ble_eq_true rfl), ?_⟩
  refine ⟨_, rfl, o, C, dx, _, rfl, upd_same, FC.cl, FC.n_modulus, lt _ (Nat.le_of_ble_eq_true rfl), ?_⟩
  have b3 : But o H (upd (upd (upd H2 o (.ins C dx (putF "spans" (.ref e) [("word", .str w), ("left", v1), ("right", v2), ("numbers", .ref nm)]))) o (.ins C dx (putF "far" (.int 0) (putF "spans" (.ref e) [("word", .str w), ("left", v1), ("right", v2), ("numbers", .ref nm)])))) o (.ins C dx (putF "modulus" (.int 1) (putF "far" (.int 0) (putF "spans" (.ref e) [("word", .str w), ("left", v1), ("right", v2), ("numbers", .ref nm)]))))) := ((b2.trans (But.upd (o := (.ins C dx (putF "spans" (.ref e) [("word", .str w), ("left", v1), ("right", v2), ("numbers", .ref nm)]))) _)).trans (But.upd (o := (.ins C dx (putF "far" (.int 0) (putF "spans" (.ref e) [("word", .str w), ("left", v1), ("right", v2), ("numbers", .ref nm)])))) _)).trans (But.upd (o := (.ins C dx (putF "modulus" (.int 1) (putF "far" (.int 0) (putF "spans" (.ref e) [("word", .str w), ("left", v1), ("right", v2), ("numbers", .ref nm)]))))) _)
  have h3 : (upd (upd (upd H2 o (.ins C dx (putF "spans" (.ref e) [("word", .str w), ("left", v1), ("right", v2), ("numbers", .ref nm)]))) o (.ins C dx (putF "far" (.int 0) (putF "spans" (.ref e) [("word", .str w), ("left", v1), ("right", v2), ("numbers", .ref nm)])))) o (.ins C dx (putF "modulus" (.int 1) (putF "far" (.int 0) (putF "spans" (.ref e) [("word", .str w), ("left", v1), ("right", v2), ("numbers", .ref nm)]))))) o = some (.ins C dx (fields w v1 v2 nm e 0 1)) := upd_same
  refine ⟨_, rfl, rfl, _, rfl, ?_⟩
  generalize (upd (upd (upd H2 o (.ins C dx (putF "spans" (.ref e) [("word", .str w), ("left", v1), ("right", v2), ("numbers", .ref nm)]))) o (.ins C dx (putF "far" (.int 0) (putF "spans" (.ref e) [("word", .str w), ("left", v1), ("right", v2), ("numbers", .ref nm)])))) o (.ins C dx (putF "modulus" (.int 1) (putF "far" (.int 0) (putF "spans" (.ref e) [("word", .str w), ("left", v1), ("right", v2), ("numbers", .ref nm)]))))) = H3 at b3 h3 ⊢
  have hn3 : SqT K H3 nm (ns.map V.int) := b3.tupI ho hns
  rcases alt with ⟨rfl, q1, q2, i, k, j, e1, n, c, rfl, rfl, hq1, hq2, rfl, kk⟩ | ⟨rfl, m, r, rfl, kk⟩ | ⟨nw1, nw2, n, rfl, kk⟩
  · refine ite2 (fun _ => ?_) (fun c => absurd (by decide +kernel) c)
    have hq1' := b3.tupI ho hq1
    have hq2' := b3.tupI ho hq2
    have tn : ∀ {a : Addr} {xs : List V} {H4 : Hp} {p : Addr} {u : HO}, SqT K H4 a xs → H4 p = none → SqT K (upd H4 p u) a xs := fun h hp => (Same.new hp).tup h
    refine ⟨_, rfl, _, rfl, nm, _, _, _, rfl, rfl, hn3, rfl, by show 1 ≤ sizeLine; decide, fun p1 hp1 => ?_⟩
    have B1 := b3.nw (o := .tup [.int n]) hp1
    have hq1a := tn (u := .tup [.int n]) hq1' hp1
    have hq2a := tn (u := .tup [.int n]) hq2' hp1
    have hna := tn (u := .tup [.int n]) hn3 hp1
    have h3a := Same.new (o := .tup [.int n]) hp1 _ _ h3
    have hp1' : upd H3 p1 (.tup [.int n]) p1 = some (.tup [.int n]) := upd_same
    generalize upd H3 p1 (.tup [.int n]) = H4 at B1 hq1a hq2a hna h3a hp1' ⊢
    refine ⟨q1, p1, _, _, rfl, rfl, hq1a, SqT.of hp1', by simp, by show 3 ≤ sizeLine; decide, (fun z => nomatch z), fun _ s1 hs1 => ?_⟩
    have B2 := B1.nw (o := .tup ([.int i, .int k] ++ [.int n])) hs1
    have hq2b := tn (u := .tup ([.int i, .int k] ++ [.int n])) hq2a hs1
    have hq1b := tn (u := .tup ([.int i, .int k] ++ [.int n])) hq1a hs1
    have hnb := tn (u := .tup ([.int i, .int k] ++ [.int n])) hna hs1
    have h3b := Same.new (o := .tup ([.int i, .int k] ++ [.int n])) hs1 _ _ h3a
    have hs1' : upd H4 s1 (.tup ([.int i, .int k] ++ [.int n])) s1 = some (.tup [.int i, .int k, .int n]) := upd_same
    generalize upd H4 s1 (.tup ([.int i, .int k] ++ [.int n])) = H5 at B2 hq2b hq1b hnb h3b hs1' ⊢
    refine ⟨_, rfl, _, rfl, nm, _, _, _, rfl, rfl, hnb, rfl, by show 1 ≤ sizeLine; decide, fun p2 hp2 => ?_⟩
    have B3 := B2.nw (o := .tup [.int c]) hp2
    have hq1c := tn (u := .tup [.int c]) hq1b hp2
    have hq2c := tn (u := .tup [.int c]) hq2b hp2
    have hnc := tn (u := .tup [.int c]) hnb hp2
    have h3c := Same.new (o := .tup [.int c]) hp2 _ _ h3b
    have hs1c := Same.new (o := .tup [.int c]) hp2 _ _ hs1'
    have hp2' : upd H5 p2 (.tup [.int c]) p2 = some (.tup [.int c]) := upd_same
    generalize upd H5 p2 (.tup [.int c]) = H6 at B3 hq1c hq2c hnc h3c hs1c hp2' ⊢
    refine ⟨q2, p2, _, _, rfl, rfl, hq2c, SqT.of hp2', by simp, by show 3 ≤ sizeLine; decide, (fun z => nomatch z), fun _ s2 hs2 => ?_⟩
    have B4 := B3.nw (o := .tup ([.int j, .int e1] ++ [.int c])) hs2
    have hq1d := tn (u := .tup ([.int j, .int e1] ++ [.int c])) hq1c hs2
    have hq2d := tn (u := .tup ([.int j, .int e1] ++ [.int c])) hq2c hs2
    have hnd := tn (u := .tup ([.int j, .int e1] ++ [.int c])) hnc hs2
    have h3d := Same.new (o := .tup ([.int j, .int e1] ++ [.int c])) hs2 _ _ h3c
    have hs1d := Same.new (o := .tup ([.int j, .int e1] ++ [.int c])) hs2 _ _ hs1c
    have hs2' : upd H6 s2 (.tup ([.int j, .int e1] ++ [.int c])) s2 = some (.tup [.int j, .int e1, .int c]) := upd_same
    show _ ∧ _
    refine ⟨by show 2 ≤ sizeLine; decide, fun sq hsq => ?_⟩
    have hsq0 : upd H6 s2 (.tup ([.int j, .int e1] ++ [.int c])) sq = none := hsq
    generalize hHH : upd H6 s2 (.tup ([.int j, .int e1] ++ [.int c])) = H7 at B4 hq1d hq2d hnd h3d hs1d hs2' hsq0
    have B5 := B4.nw (o := .tup [.ref s1, .ref s2]) hsq0
    have hq1e := tn (u := .tup [.ref s1, .ref s2]) hq1d hsq0
    have hq2e := tn (u := .tup [.ref s1, .ref s2]) hq2d hsq0
    have hne := tn (u := .tup [.ref s1, .ref s2]) hnd hsq0
    have h3e := Same.new (o := .tup [.ref s1, .ref s2]) hsq0 _ _ h3d
    have hs1e := Same.new (o := .tup [.ref s1, .ref s2]) hsq0 _ _ hs1d
    have hs2e := Same.new (o := .tup [.ref s1, .ref s2]) hsq0 _ _ hs2'
    have hsqe : upd H7 sq (.tup [.ref s1, .ref s2]) sq = some (.tup [.ref s1, .ref s2]) := upd_same
    refine ⟨_, rfl, o, C, dx, fields "apart" (.ref q1) (.ref q2) nm e 0 1, rfl, by subst hHH; exact h3e, FC.cl, FC.n_spans, lt _ (Nat.le_of_ble_eq_true rfl), ?_⟩
    subst hHH
    generalize upd (upd H6 s2 (.tup ([.int j, .int e1] ++ [.int c]))) sq (.tup [.ref s1, .ref s2]) = H8 at B5 hq1e hq2e hne h3e hs1e hs2e hsqe ⊢
    have B6 : But o H (upd H8 o (.ins C dx (putF "spans" (.ref sq) (fields "apart" (.ref q1) (.ref q2) nm e 0 1)))) := B5.trans (But.upd _)
    have U := But.upd (o := .ins C dx (putF "spans" (.ref sq) (fields "apart" (.ref q1) (.ref q2) nm e 0 1))) (p := o) H8
    have hq1f := U.tupI h3e hq1e
    have hq2f := U.tupI h3e hq2e
    have hnf := U.tupI h3e hne
    have ne1 : s1 ≠ o := fun z => by rw [z, h3e] at hs1e; cases hs1e
    have ne2 : s2 ≠ o := fun z => by rw [z, h3e] at hs2e; cases hs2e
    have ne3 : sq ≠ o := fun z => by rw [z, h3e] at hsqe; cases hsqe
    have hs1f := U _ _ ne1 hs1e
    have hs2f := U _ _ ne2 hs2e
    have hsqf := U _ _ ne3 hsqe
    refine ⟨_, rfl, nm, _, _, _, rfl, rfl, hnf, rfl, _, rfl, nm, _, _, _, rfl, rfl, hnf, rfl, _, _, rfl, rfl, _, rfl, q1, _, _, _, rfl, rfl, hq1f, rfl, _, rfl, _, _, rfl, rfl, _, rfl, q2, _, _, _, rfl, rfl, hq2f, rfl, _, rfl, _, _, rfl, rfl, ?_⟩
    refine ⟨_, rfl, o, C, dx, _, rfl, upd_same, FC.cl, FC.n_far, lt _ (Nat.le_of_ble_eq_true rfl), ?_⟩
    exact kk _ sq s1 s2 (B6.trans (But.upd _)) ((upd_ne ne1).trans hs1f) ((upd_ne ne2).trans hs2f) ((upd_ne ne3).trans hsqf) upd_same
  · refine ite2 (fun c => absurd c (by decide +kernel)) (fun _ => ?_)
    refine ⟨_, rfl, rfl, _, rfl, ite2 (fun _ => ?_) (fun c => absurd (by decide +kernel) c)⟩
    refine ⟨_, rfl, nm, _, _, _, rfl, rfl, hn3, rfl, _, rfl, o, C, dx, _, rfl, h3, FC.cl, FC.n_modulus, lt _ (Nat.le_of_ble_eq_true rfl), ?_⟩
    exact kk _ e (b3.trans (But.upd _)) upd_same
  · refine ite2 (fun c => absurd (V.str.inj (of_decide_eq_true c)) nw1) (fun _ => ?_)
    refine ⟨_, rfl, rfl, _, rfl, ite2 (fun c => absurd (V.str.inj (of_decide_eq_true c)) nw2) (fun _ => ?_)⟩
    refine ⟨_, rfl, nm, _, _, _, rfl, rfl, hn3, rfl, _, rfl, _, rfl, o, C, dx, _, rfl, h3, FC.cl, FC.n_far, lt _ (Nat.le_of_ble_eq_true rfl), ?_⟩
    exact kk _ e (b3.trans (But.upd _)) upd_same
end
end K03
end
section
set_option Elab.async false
set_option linter.all false
set_option maxRecDepth 100000
set_option maxHeartbeats 4000000
namespace K03
open PySem PySem.Spec PyProof.Rows L2
open PySem.W (ke_shaped_ints)
local macro_rules | `(tactic| walk_at "go") => `(tactic| first | refine ⟨_, rfl, ?_⟩ | refine .inl ⟨_, rfl, ?_⟩ | refine ⟨_, _, rfl, rfl, (by first | (show (0 : Int) < _; decide) | exact Or.inl ⟨by decide, by decide⟩ | exact Or.inr ⟨by decide, by decide⟩), ?_⟩ | refine ⟨_, _, rfl, rfl, ?_⟩)
section
variable {P : Program} {w : World} {K : PySem.W.Frag} {mg : Str → Option Value} {base : Heap}

/-- read_remainder(first, second, words) -/
def spReadRem (K : PySem.W.Frag) (C : Addr) : Sp := fun vs H Q _ => ∃ (v1 : V) (j : Int) (wl : Addr) (m r : Int), vs = [v1, .int j, .ref wl] ∧ SqL K H wl [.str (CF.num m), .str (CF.num r)] ∧ CF.Rem m r ∧
  ∀ (o dx nm sp : Addr) (H' : Hp), Same H H' → H o = none → H' o = some (.ins C dx (fields "by" v1 (.int j) nm sp 0 m)) → SqT K H' nm [.int m, .int r] → Q (.ref o) H'
theorem made_same {H1 H' : Hp} {x dx : Addr} {o1 o2 : HO} (hx : H1 x = none) (hdx : H1 dx = none) (b : But x (upd (upd H1 dx o1) x o2) H') : Same H1 H' := fun c u e => b _ _ (ne_of_none e hx) ((upd_ne (ne_of_none e hx)).trans ((upd_ne (ne_of_none e hdx)).trans e))
theorem made_tup {K : PySem.W.Frag} {H1 : Hp} {x dx a : Addr} {o1 o2 : HO} {xs : List V} (hx : H1 x = none) (hdx : H1 dx = none) (h : SqT K H1 a xs) : SqT K (upd (upd H1 dx o1) x o2) a xs := (made_same hx hdx (But.refl x _)).tup h
abbrev s_read_remainder : Stmt := topS 33
theorem sc_read_remainder : FnScope ["first", "second", "words", "modulus", "remainder"] ["first", "second", "words"] (defScope s_read_remainder) := ⟨rfl, rfl, rfl, by decide +kernel, rfl, by decide +kernel, by decide +kernel⟩
theorem ok_read_remainder (T : TxtP K mg) (D : Def K mg "read_remainder" s_read_remainder) {C : Addr} (C_read_number : Cal P w K mg base 1 "read_number" ["word", "low", "high"] spReadNumber) (M_Fact : Mkc P w K mg base 1 "Fact" C ["self", "word", "left", "right", "numbers"] (spFactInit K C)) : Cal P w K mg base 3 "read_remainder" ["first", "second", "words"] (spReadRem K C) := by
  refine D.cal sc_read_remainder (fun vs H Q E h => ?_) (fun _ _ _ _ _ _ us hl => match us, hl with | [_, _, _], _ => rfl) (fun f cdv A outer s H vs Q E hr h => ?_)
  · obtain ⟨v1, j, wl, m, r, rfl, _⟩ := h
    rfl
  have hu := hu_of hr

  obtain ⟨v1, j, wl, m, r, rfl, hw, rm, k⟩ := h
  have sm := rm.small
  obtain ⟨hm, r0, r1⟩ := rm
  refine ⟨_, (pss_cons (ps_set (i := 3) sc_read_remainder.nd rfl (by first | exact Or.inl rfl | exact Or.inr rfl) (pe_cal C_read_number (hr.mono (by decide)) rfl (pa_cons (pe_ix ix_list (pv 2) pe_int (fun _ _ => rfl)) (pa_cons (pe_ix ix_tup (pe_gref (by rfl) T.g_MODULI) pe_int (fun _ _ => rfl)) (pa_cons (pe_ix ix_tup (pe_gref (by rfl) T.g_MODULI) (pe_un un_neg pe_int) (fun _ _ => rfl)) pa_nil)))))
      (C8.pss_cut (ps_if (PW.pt (pw_or (pt_cmpR op_isN (pv 1) pe_non (nomark _)) (pw_or1 (pt_cmpR op_notIn_seq (pv 3) (pe_gref (by rfl) T.g_MODULI) (by rfl))))) (pss_one (ps_ret pe_non)) pss_nil)
      (pss_cons (ps_set (i := 4) sc_read_remainder.nd rfl (by first | exact Or.inl rfl | exact Or.inr rfl) (pe_cal C_read_number (hr.mono (by decide)) rfl (pa_cons (pe_ix ix_list (pv 2) pe_int (fun _ _ => rfl)) (pa_cons pe_int (pa_cons (pe_op op_sub (pv 3) pe_int) pa_nil)))))
      (pss_one (ps_ret (pe_ifExp (pt_cmpR op_isN (pv 4) pe_non (nomark _)) pe_non (pe_mkc M_Fact (hr.mono (by decide)) rfl (pa_cons pe_str (pa_cons (pv 0) (pa_cons (pv 1) (pa_cons (pe_tup (pa_cons (pv 3) (pa_cons (pv 4) pa_nil))) pa_nil))))))))))), ?_⟩
  refine ⟨_, rfl, wl, _, _, _, rfl, rfl, hw, rfl, _, _, _, _, rfl, rfl, T.t_MODULI _, rfl, _, rfl, _, _, _, _, rfl, rfl, T.t_MODULI _, rfl, m, 2, 8, rfl, sm.1.1, sm.1.2, by omega, by omega, ?_⟩
  refine ⟨fun σ' H' => σ' = [some v1, some (.int j), some (.ref wl), some (.int m), none] ∧ H' = H, ?_, ?_⟩
  · refine ⟨_, rfl, rfl, _, rfl, ite2 (fun c => absurd (of_decide_eq_true c) (fun e => by cases e)) (fun _ => ?_)⟩
    refine ⟨_, rfl, _, _, rfl, .inr (T.t_MODULI _), rfl, rfl, _, rfl, ?_⟩
    have inm : inV (.int m) [.int 2, .int 4, .int 8] = true := by
      rcases hm with rfl | rfl | rfl <;> decide
    rw [if_pos rfl, inm]
    exact iteF ⟨rfl, rfl⟩
  rintro σ' H' ⟨rfl, rfl⟩
  refine ⟨_, rfl, wl, _, _, _, rfl, rfl, hw, rfl, _, rfl, _, _, rfl, rfl, r, 0, m - 1, rfl, sm.2.1, sm.2.2, r0, by omega, ?_⟩
  refine ⟨_, rfl, rfl, _, rfl, ite2 (fun c => absurd (of_decide_eq_true c) (fun e => by cases e)) (fun _ => ?_)⟩
  refine ⟨_, rfl, _, rfl, _, rfl, _, rfl, by show 2 ≤ sizeLine; decide, fun nm hnm => fun x dx hx hdx ne => ?_⟩
  refine ⟨x, dx, nm, "by", v1, .int j, [m, r], rfl, upd_same, made_tup hx hdx (SqT.of upd_same), .inr (.inl ⟨rfl, m, r, rfl, fun H2 sp but ho => ⟨rfl, ?_⟩⟩)⟩
  have s1 := (Same.new hnm).trans (made_same hx hdx but)
  exact k x dx nm sp H2 s1 (Same.free (Same.new hnm) hx) ho ((made_same hx hdx but).tup (SqT.of upd_same))

end
end K03
end
section
set_option Elab.async false
set_option linter.all false
set_option maxRecDepth 100000
set_option maxHeartbeats 4000000
namespace K03
open PySem PySem.Spec PyProof.Rows L2
open PySem.W (ke_shaped_ints)
local macro_rules | `(tactic| walk_at "go") => `(tactic| first | refine ⟨_, rfl, ?_⟩ | refine .inl ⟨_, rfl, ?_⟩ | refine ⟨_, _, rfl, rfl, (by first | (show (0 : Int) < _; decide) | exact Or.inl ⟨by decide, by decide⟩ | exact Or.inr ⟨by decide, by decide⟩), ?_⟩ | refine ⟨_, _, rfl, rfl, ?_⟩)
section
variable {P : Program} {w : World} {K : PySem.W.Frag} {mg : Str → Option Value} {base : Heap}

/-- read_distance(words, pointers) -/
def spReadDist (K : PySem.W.Frag) (C : Addr) : Sp := fun vs H Q _ => ∃ (wl a : Addr) (ps : List Str) (z1 z2 w : Str) (i j : Nat) (n : Int), vs = [.ref wl, .ref a] ∧ SqL K H wl [.str z1, .str "to", .str z2, .str w, .str (CF.num n)] ∧ SqT K H a (ps.map V.str) ∧ CF.Names ps ∧ ps[i]? = some z1 ∧ ps[j]? = some z2 ∧ i ≠ j ∧ w ∈ CF.Sorts ∧ -40 ≤ n ∧ n ≤ 40 ∧
  ∀ (o dx nm sp : Addr) (H' : Hp), Same H H' → H o = none → H' o = some (.ins C dx (fields w (.int (i : Nat)) (.int (j : Nat)) nm sp (CF.ab n) 1)) → SqT K H' nm [.int n] → Q (.ref o) H'
abbrev s_read_distance : Stmt := topS 32
theorem sc_read_distance : FnScope ["words", "pointers", "first", "second", "distance"] ["words", "pointers"] (defScope s_read_distance) := ⟨rfl, rfl, rfl, by decide +kernel, rfl, by decide +kernel, by decide +kernel⟩
theorem ok_read_distance (T : TxtP K mg) (D : Def K mg "read_distance" s_read_distance) {C : Addr} (C_read_pointer : Cal P w K mg base 3 "read_pointer" ["word", "pointers"] (spReadPointer K)) (C_read_number : Cal P w K mg base 1 "read_number" ["word", "low", "high"] spReadNumber) (M_Fact : Mkc P w K mg base 1 "Fact" C ["self", "word", "left", "right", "numbers"] (spFactInit K C)) : Cal P w K mg base 4 "read_distance" ["words", "pointers"] (spReadDist K C) := by
  refine D.cal sc_read_distance (fun vs H Q E h => ?_) (fun _ _ _ _ _ _ us hl => match us, hl with | [_, _], _ => rfl) (fun f cdv A outer s H vs Q E hr h => ?_)
  · obtain ⟨wl, a, ps, z1, z2, w, i, j, n, rfl, _⟩ := h
    rfl
  have hu := hu_of hr

  obtain ⟨wl, a, ps, z1, z2, w, i, j, n, rfl, hw, hT, nm0, hi, hj, ij, hs, n0, n1, k⟩ := h
  refine ⟨_, (pss_cons (ps_par (i := 2) (j := 3) (by rfl) sc_read_distance.nd rfl rfl (by decide) rfl rfl (pa_cons (pe_cal C_read_pointer (hr.mono (by decide)) rfl (pa_cons (pe_ix ix_list (pv 0) pe_int (fun _ _ => rfl)) (pa_cons (pv 1) pa_nil))) (pa_cons (pe_cal C_read_pointer (hr.mono (by decide)) rfl (pa_cons (pe_ix ix_list (pv 0) pe_int (fun _ _ => rfl)) (pa_cons (pv 1) pa_nil))) pa_nil)) (by rfl))
      (pss_cons (ps_set (i := 4) sc_read_distance.nd rfl (by first | exact Or.inl rfl | exact Or.inr rfl) (pe_cal C_read_number (hr.mono (by decide)) rfl (pa_cons (pe_ix ix_list (pv 0) pe_int (fun _ _ => rfl)) (pa_cons (pe_un un_neg (pe_gint (by rfl) T.c_FARTHEST)) (pa_cons (pe_gint (by rfl) T.c_FARTHEST) pa_nil)))))
      (C8.pss_cut (ps_if (PW.pt (pw_or (pt_cmpR op_isN (pv 2) pe_non (nomark _)) (pw_or (pt_cmpR op_isN (pv 3) pe_non (nomark _)) (pw_or (pt_cmpR op_isN (pv 4) pe_non (nomark _)) (pw_or1 (pt_cmpR op_eq (pv 2) (pv 3) (nomark _))))))) (pss_one (ps_ret pe_non)) pss_nil)
      (pss_one (ps_ret (pe_mkc M_Fact (hr.mono (by decide)) rfl (pa_cons (pe_ix ix_list (pv 0) pe_int (fun _ _ => rfl)) (pa_cons (pv 2) (pa_cons (pv 3) (pa_cons (pe_tup (pa_cons (pv 4) pa_nil)) pa_nil)))))))))), ?_⟩
  refine ⟨_, rfl, wl, _, _, _, rfl, rfl, hw, rfl, _, rfl, z1, a, ps, rfl, hT, nm0, .inl ⟨i, hi, fun H1 s1 => ?_⟩⟩
  refine ⟨_, rfl, wl, _, _, _, rfl, rfl, s1.seq hw, rfl, _, rfl, z2, a, ps, rfl, s1.tup hT, nm0, .inl ⟨j, hj, fun H2 s2 => ⟨_, _, rfl, ?_⟩⟩⟩
  have s12 := s1.trans s2
  refine ⟨_, rfl, wl, _, _, _, rfl, rfl, s12.seq hw, rfl, _, rfl, n, -40, 40, rfl, by omega, by omega, n0, n1, ?_⟩
  refine ⟨fun σ' H' => σ' = [some (.ref wl), some (.ref a), some (.int (i : Nat)), some (.int (j : Nat)), some (.int n)] ∧ H' = H2, ?_, ?_⟩
  · refine ⟨_, rfl, rfl, _, rfl, ite2 (fun c => absurd (of_decide_eq_true c) (fun e => by cases e)) (fun _ => ?_)⟩
    refine ⟨_, rfl, rfl, _, rfl, ite2 (fun c => absurd (of_decide_eq_true c) (fun e => by cases e)) (fun _ => ?_)⟩
    refine ⟨_, rfl, rfl, _, rfl, ite2 (fun c => absurd (of_decide_eq_true c) (fun e => by cases e)) (fun _ => ?_)⟩
    refine ⟨_, rfl, _, rfl, rfl, _, rfl, ite2 (fun c => absurd (V.int.inj (of_decide_eq_true c)) (by omega)) (fun _ => ⟨rfl, rfl⟩)⟩
  rintro σ' H' ⟨rfl, rfl⟩
  refine ⟨_, rfl, wl, _, _, _, rfl, rfl, s12.seq hw, rfl, _, rfl, _, rfl, _, rfl, by show 1 ≤ sizeLine; decide, fun nm hnm => fun x dx hx hdx ne => ?_⟩
  have w1 : w ≠ "apart" := by
    simp only [CF.Sorts, List.mem_cons, List.not_mem_nil, or_false] at hs
    rcases hs with rfl | rfl | rfl <;> decide
  have w2 : w ≠ "by" := by
    simp only [CF.Sorts, List.mem_cons, List.not_mem_nil, or_false] at hs
    rcases hs with rfl | rfl | rfl <;> decide
  refine ⟨x, dx, nm, w, .int (i : Nat), .int (j : Nat), [n], rfl, upd_same, made_tup hx hdx (SqT.of upd_same), .inr (.inr ⟨w1, w2, n, rfl, fun H3 sp but ho => ⟨rfl, ?_⟩⟩)⟩
  have s3 := (s12.trans (Same.new hnm)).trans (made_same hx hdx but)
  exact k x dx nm sp H3 s3 (Same.free (s12.trans (Same.new hnm)) hx) ho ((made_same hx hdx but).tup (SqT.of upd_same))



/-- read_apart(words, pointers) -/
def spReadApart (K : PySem.W.Frag) (C : Addr) : Sp := fun vs H Q _ => ∃ (wl a : Addr) (ps : List Str) (z1 z2 : Str) (i j : Nat) (k1 n e c : Int), vs = [.ref wl, .ref a] ∧ SqL K H wl [.str "apart", .str (CF.spot z1 k1), .str (CF.num n), .str (CF.spot z2 e), .str (CF.num c)] ∧ SqT K H a (ps.map V.str) ∧ CF.Names ps ∧ ps[i]? = some z1 ∧ ps[j]? = some z2 ∧ i ≠ j ∧ CF.Off k1 ∧ CF.Many n ∧ CF.Off e ∧ CF.Many c ∧
  ∀ (o dx nm sp q1 q2 s1 s2 : Addr) (H' : Hp), Same H H' → H o = none → H' q1 = some (.tup [.int (i : Nat), .int k1]) → H' q2 = some (.tup [.int (j : Nat), .int e]) → H' s1 = some (.tup [.int (i : Nat), .int k1, .int n]) → H' s2 = some (.tup [.int (j : Nat), .int e, .int c]) → H' sp = some (.tup [.ref s1, .ref s2]) →
    H' o = some (.ins C dx (fields "apart" (.ref q1) (.ref q2) nm sp (n + c + CF.ab k1 + CF.ab e) 1)) → SqT K H' nm [.int n, .int c] → Q (.ref o) H'
abbrev s_read_apart : Stmt := topS 31
theorem sc_read_apart : FnScope ["words", "pointers", "first", "second", "many", "most"] ["words", "pointers"] (defScope s_read_apart) := ⟨rfl, rfl, rfl, by decide +kernel, rfl, by decide +kernel, by decide +kernel⟩
theorem ok_read_apart (T : TxtP K mg) (D : Def K mg "read_apart" s_read_apart) {C : Addr} (C_read_spot : Cal P w K mg base 4 "read_spot" ["word", "pointers"] (spReadSpot K)) (C_read_number : Cal P w K mg base 1 "read_number" ["word", "low", "high"] spReadNumber) (M_Fact : Mkc P w K mg base 1 "Fact" C ["self", "word", "left", "right", "numbers"] (spFactInit K C)) : Cal P w K mg base 5 "read_apart" ["words", "pointers"] (spReadApart K C) := by
  refine D.cal sc_read_apart (fun vs H Q E h => ?_) (fun _ _ _ _ _ _ us hl => match us, hl with | [_, _], _ => rfl) (fun f cdv A outer s H vs Q E hr h => ?_)
  · obtain ⟨wl, a, ps, z1, z2, i, j, k1, n, e, c, rfl, _⟩ := h
    rfl
  have hu := hu_of hr

  obtain ⟨wl, a, ps, z1, z2, i, j, k1, n, e, c, rfl, hw, hT, nm0, hi, hj, ij, ⟨k10, k11⟩, ⟨n0, n1⟩, ⟨e0, e1⟩, ⟨c0, c1⟩, k⟩ := h
  refine ⟨_, (pss_cons (ps_par (i := 2) (j := 3) (by rfl) sc_read_apart.nd rfl rfl (by decide) rfl rfl (pa_cons (pe_cal C_read_spot (hr.mono (by decide)) rfl (pa_cons (pe_ix ix_list (pv 0) pe_int (fun _ _ => rfl)) (pa_cons (pv 1) pa_nil))) (pa_cons (pe_cal C_read_spot (hr.mono (by decide)) rfl (pa_cons (pe_ix ix_list (pv 0) pe_int (fun _ _ => rfl)) (pa_cons (pv 1) pa_nil))) pa_nil)) (by rfl))
      (pss_cons (ps_par (i := 4) (j := 5) (by rfl) sc_read_apart.nd rfl rfl (by decide) rfl rfl (pa_cons (pe_cal C_read_number (hr.mono (by decide)) rfl (pa_cons (pe_ix ix_list (pv 0) pe_int (fun _ _ => rfl)) (pa_cons pe_int (pa_cons (pe_gint (by rfl) T.c_MOST_CELLS) pa_nil)))) (pa_cons (pe_cal C_read_number (hr.mono (by decide)) rfl (pa_cons (pe_ix ix_list (pv 0) pe_int (fun _ _ => rfl)) (pa_cons pe_int (pa_cons (pe_gint (by rfl) T.c_MOST_CELLS) pa_nil)))) pa_nil)) (by rfl))
      (C8.pss_cut (ps_if (PW.pt (pw_or (pt_cmpR op_isN (pv 2) pe_non (nomark _)) (pw_or (pt_cmpR op_isN (pv 3) pe_non (nomark _)) (pw_or (pt_cmpR op_isN (pv 4) pe_non (nomark _)) (pw_or (pt_cmpR op_isN (pv 5) pe_non (nomark _)) (pw_or1 (pt_cmpR op_eq (pe_ix ix_tup (pv 2) pe_int (fun _ _ => rfl)) (pe_ix ix_tup (pv 3) pe_int (fun _ _ => rfl)) (nomark _)))))))) (pss_one (ps_ret pe_non)) pss_nil)
      (pss_one (ps_ret (pe_mkc M_Fact (hr.mono (by decide)) rfl (pa_cons pe_str (pa_cons (pv 2) (pa_cons (pv 3) (pa_cons (pe_tup (pa_cons (pv 4) (pa_cons (pv 5) pa_nil))) pa_nil)))))))))), ?_⟩
  refine ⟨_, rfl, wl, _, _, _, rfl, rfl, hw, rfl, _, rfl, z1, k1, i, a, ps, rfl, hT, nm0, hi, k10, k11, fun q1 H1 s1 f1 h1 => ?_⟩
  refine ⟨_, rfl, wl, _, _, _, rfl, rfl, s1.seq hw, rfl, _, rfl, z2, e, j, a, ps, rfl, s1.tup hT, nm0, hj, e0, e1, fun q2 H2 s2 f2 h2 => ⟨_, _, rfl, ?_⟩⟩
  have s12 := s1.trans s2
  have h1' := s2 _ _ h1
  refine ⟨_, rfl, wl, _, _, _, rfl, rfl, s12.seq hw, rfl, n, 1, 16, rfl, by omega, by omega, n0, n1, ?_⟩
  refine ⟨_, rfl, wl, _, _, _, rfl, rfl, s12.seq hw, rfl, c, 1, 16, rfl, by omega, by omega, c0, c1, _, _, rfl, ?_⟩
  refine ⟨fun σ' H' => σ' = [some (.ref wl), some (.ref a), some (.ref q1), some (.ref q2), some (.int n), some (.int c)] ∧ H' = H2, ?_, ?_⟩
  · refine ⟨_, rfl, rfl, _, rfl, ite2 (fun c => absurd (of_decide_eq_true c) (fun e => by cases e)) (fun _ => ?_)⟩
    refine ⟨_, rfl, rfl, _, rfl, ite2 (fun c => absurd (of_decide_eq_true c) (fun e => by cases e)) (fun _ => ?_)⟩
    refine ⟨_, rfl, rfl, _, rfl, ite2 (fun c => absurd (of_decide_eq_true c) (fun e => by cases e)) (fun _ => ?_)⟩
    refine ⟨_, rfl, rfl, _, rfl, ite2 (fun c => absurd (of_decide_eq_true c) (fun e => by cases e)) (fun _ => ?_)⟩
    refine ⟨_, rfl, q1, _, _, _, rfl, rfl, SqT.of h1', rfl, _, rfl, q2, _, _, _, rfl, rfl, SqT.of h2, rfl, rfl, _, rfl, ite2 (fun c => absurd (V.int.inj (of_decide_eq_true c)) (by omega)) (fun _ => ⟨rfl, rfl⟩)⟩
  rintro σ' H' ⟨rfl, rfl⟩
  refine ⟨_, rfl, _, rfl, _, rfl, _, rfl, by show 2 ≤ sizeLine; decide, fun nm hnm => fun x dx hx hdx ne => ?_⟩
  have t1 : SqT K (upd H' nm (.tup [.int n, .int c])) q1 [.int (i : Nat), .int k1] := (Same.new hnm).tup (SqT.of h1')
  have t2 : SqT K (upd H' nm (.tup [.int n, .int c])) q2 [.int (j : Nat), .int e] := (Same.new hnm).tup (SqT.of h2)
  refine ⟨x, dx, nm, "apart", .ref q1, .ref q2, [n, c], rfl, upd_same, made_tup hx hdx (SqT.of upd_same), .inl ⟨rfl, q1, q2, (i : Nat), k1, (j : Nat), e, n, c, rfl, rfl, made_tup hx hdx t1, made_tup hx hdx t2, rfl, fun H3 sp a1 a2 but g1 g2 g3 ho => ⟨rfl, ?_⟩⟩⟩
  have s3 := made_same hx hdx but
  have s4 := (Same.new (o := .tup [.int n, .int c]) hnm).trans s3
  exact k x dx nm sp q1 q2 a1 a2 H3 (s12.trans s4) (Same.free (s12.trans (Same.new hnm)) hx) (s4 _ _ h1') (s4 _ _ h2) g1 g2 g3 ho (s3.tup (SqT.of upd_same))

end
end K03
end
section
set_option Elab.async false
set_option linter.all false
set_option maxRecDepth 100000
set_option maxHeartbeats 4000000
namespace K03
open PySem PySem.Spec PyProof.Rows L2
open PySem.W (ke_shaped_ints)
local macro_rules | `(tactic| walk_at "go") => `(tactic| first | refine ⟨_, rfl, ?_⟩ | refine .inl ⟨_, rfl, ?_⟩ | refine ⟨_, _, rfl, rfl, (by first | (show (0 : Int) < _; decide) | exact Or.inl ⟨by decide, by decide⟩ | exact Or.inr ⟨by decide, by decide⟩), ?_⟩ | refine ⟨_, _, rfl, rfl, ?_⟩)
section
variable {P : Program} {w : World} {K : PySem.W.Frag} {mg : Str → Option Value} {base : Heap}

def _root_.CF.FD.key : CF.FD → Str
  | .by_ _ _ _ => "by"
  | .gap _ _ _ _ => "by"
  | .apart _ _ _ _ _ _ => "apart"
  | .dist w _ _ _ => w
def _root_.CF.FD.nums : CF.FD → List Int
  | .by_ _ m r => [m, r]
  | .gap _ _ m r => [m, r]
  | .apart _ _ n _ _ c => [n, c]
  | .dist _ _ _ n => [n]
/-- the fact's ends and spans -/
def EndsAt (H : Hp) (ps : List Str) : CF.FD → V → V → Addr → Prop
  | .by_ a _ _, v1, v2, _ => v1 = .non ∧ ∃ j : Nat, ps[j]? = some a ∧ v2 = .int (j : Nat)
  | .gap a b _ _, v1, v2, _ => ∃ i j : Nat, ps[i]? = some a ∧ ps[j]? = some b ∧ v1 = .int (i : Nat) ∧ v2 = .int (j : Nat)
  | .dist _ a b _, v1, v2, _ => ∃ i j : Nat, ps[i]? = some a ∧ ps[j]? = some b ∧ v1 = .int (i : Nat) ∧ v2 = .int (j : Nat)
  | .apart a k n b e c, v1, v2, sp => ∃ (i j : Nat) (q1 q2 s1 s2 : Addr), ps[i]? = some a ∧ ps[j]? = some b ∧ v1 = .ref q1 ∧ v2 = .ref q2 ∧ H q1 = some (.tup [.int (i : Nat), .int k]) ∧ H q2 = some (.tup [.int (j : Nat), .int e]) ∧ H s1 = some (.tup [.int (i : Nat), .int k, .int n]) ∧ H s2 = some (.tup [.int (j : Nat), .int e, .int c]) ∧ H sp = some (.tup [.ref s1, .ref s2])
/-- a fact as the program keeps it -/
def FactAt (K : PySem.W.Frag) (C : Addr) (H : Hp) (ps : List Str) (o : Addr) (f : CF.FD) : Prop := ∃ (dx nm sp : Addr) (v1 v2 : V), H o = some (.ins C dx (fields f.key v1 v2 nm sp f.far f.mod)) ∧ SqT K H nm (f.nums.map V.int) ∧ EndsAt H ps f v1 v2 sp
theorem EndsAt.same {H H' : Hp} {ps : List Str} {f : CF.FD} {v1 v2 : V} {sp : Addr} (h : EndsAt H ps f v1 v2 sp) (s : Same H H') : EndsAt H' ps f v1 v2 sp := by
  cases f with
  | by_ a m r => exact h
  | gap a b m r => exact h
  | dist w a b n => exact h
  | apart a k n b e c =>
    obtain ⟨i, j, q1, q2, s1, s2, a1, a2, a3, a4, a5, a6, a7, a8, a9⟩ := h
    exact ⟨i, j, q1, q2, s1, s2, a1, a2, a3, a4, s _ _ a5, s _ _ a6, s _ _ a7, s _ _ a8, s _ _ a9⟩
theorem FactAt.same {K : PySem.W.Frag} {C : Addr} {H H' : Hp} {ps : List Str} {o : Addr} {f : CF.FD} (h : FactAt K C H ps o f) (s : Same H H') : FactAt K C H' ps o f := by
  obtain ⟨dx, nm, sp, v1, v2, h1, h2, h3⟩ := h
  exact ⟨dx, nm, sp, v1, v2, s _ _ h1, s.tup h2, h3.same s⟩
theorem name_ne {z : Str} (h : CF.NameOk z) {w : Str} (hw : w ∈ CF.Reserved) : z ≠ w := fun e => h.free (e ▸ hw)
/-- read_fact(words, pointers) of a right fact's words -/
def spReadFact (K : PySem.W.Frag) (C : Addr) : Sp := fun vs H Q _ => ∃ (wl a : Addr) (ps : List Str) (f : CF.FD), vs = [.ref wl, .ref a] ∧ SqL K H wl (f.words.map V.str) ∧ SqT K H a (ps.map V.str) ∧ CF.Names ps ∧ f.Ok ps ∧ ∀ (o : Addr) (H' : Hp), Same H H' → H o = none → FactAt K C H' ps o f → Q (.ref o) H'
abbrev s_read_fact : Stmt := topS 30
theorem sc_read_fact : FnScope ["words", "pointers", "first", "second"] ["words", "pointers"] (defScope s_read_fact) := ⟨rfl, rfl, rfl, by decide +kernel, rfl, by decide +kernel, by decide +kernel⟩
theorem ok_read_fact (T : TxtP K mg) (D : Def K mg "read_fact" s_read_fact) {C : Addr} (C_read_pointer : Cal P w K mg base 3 "read_pointer" ["word", "pointers"] (spReadPointer K)) (C_read_apart : Cal P w K mg base 5 "read_apart" ["words", "pointers"] (spReadApart K C)) (C_read_distance : Cal P w K mg base 4 "read_distance" ["words", "pointers"] (spReadDist K C)) (C_read_remainder : Cal P w K mg base 3 "read_remainder" ["first", "second", "words"] (spReadRem K C)) : Cal P w K mg base 6 "read_fact" ["words", "pointers"] (spReadFact K C) := by
  refine D.cal sc_read_fact (fun vs H Q E h => ?_) (fun _ _ _ _ _ _ us hl => match us, hl with | [_, _], _ => rfl) (fun f cdv A outer s H vs Q E hr h => ?_)
  · obtain ⟨wl, a, ps, f, rfl, _⟩ := h
    rfl
  have hu := hu_of hr

  obtain ⟨wl, a, ps, f, rfl, hw, hT, nm0, ok, k⟩ := h
  refine ⟨_, (C8.pss_cut (ps_if (PW.pt (pw_and (pt_cmpR op_eq (pe_callB call_len (by rfl) T.f_len PySem.boot_len (pa_cons (pv 0) pa_nil)) pe_int (nomark _)) (pw_and1 (pt_cmpR op_eq (pe_ix ix_list (pv 0) pe_int (fun _ _ => rfl)) pe_str (nomark _))))) (pss_one (ps_ret (pe_cal C_read_apart (hr.mono (by decide)) rfl (pa_cons (pv 0) (pa_cons (pv 1) pa_nil))))) pss_nil)
      (C8.pss_cut (ps_if (PW.pt (pw_and (pt_cmpR op_eq (pe_callB call_len (by rfl) T.f_len PySem.boot_len (pa_cons (pv 0) pa_nil)) pe_int (nomark _)) (pw_and (pt_cmpR op_eq (pe_ix ix_list (pv 0) pe_int (fun _ _ => rfl)) pe_str (nomark _)) (pw_and1 (pt_cmpR op_in_seq (pe_ix ix_list (pv 0) pe_int (fun _ _ => rfl)) (pe_tup (pa_cons pe_str (pa_cons pe_str (pa_cons pe_str pa_nil)))) (by rfl)))))) (pss_one (ps_ret (pe_cal C_read_distance (hr.mono (by decide)) rfl (pa_cons (pv 0) (pa_cons (pv 1) pa_nil))))) pss_nil)
      (C8.pss_cut (ps_if (PW.pt (pw_and (pt_cmpR op_eq (pe_callB call_len (by rfl) T.f_len PySem.boot_len (pa_cons (pv 0) pa_nil)) pe_int (nomark _)) (pw_and1 (pt_cmpR op_eq (pe_ix ix_list (pv 0) pe_int (fun _ _ => rfl)) pe_str (nomark _))))) (pss_one (ps_ret (pe_cal C_read_remainder (hr.mono (by decide)) rfl (pa_cons pe_non (pa_cons (pe_cal C_read_pointer (hr.mono (by decide)) rfl (pa_cons (pe_ix ix_list (pv 0) pe_int (fun _ _ => rfl)) (pa_cons (pv 1) pa_nil))) (pa_cons (pe_slice sl_list (pv 0) (po_some pe_int) po_none) pa_nil)))))) pss_nil)
      (C8.pss_cut (ps_if (PW.pt (pw_and (pt_cmpR op_eq (pe_callB call_len (by rfl) T.f_len PySem.boot_len (pa_cons (pv 0) pa_nil)) pe_int (nomark _)) (pw_and (pt_cmpR op_eq (pe_ix ix_list (pv 0) pe_int (fun _ _ => rfl)) pe_str (nomark _)) (pw_and1 (pt_cmpR op_eq (pe_ix ix_list (pv 0) pe_int (fun _ _ => rfl)) pe_str (nomark _)))))) (pss_cons (ps_par (i := 2) (j := 3) (by rfl) sc_read_fact.nd rfl rfl (by decide) rfl rfl (pa_cons (pe_cal C_read_pointer (hr.mono (by decide)) rfl (pa_cons (pe_ix ix_list (pv 0) pe_int (fun _ _ => rfl)) (pa_cons (pv 1) pa_nil))) (pa_cons (pe_cal C_read_pointer (hr.mono (by decide)) rfl (pa_cons (pe_ix ix_list (pv 0) pe_int (fun _ _ => rfl)) (pa_cons (pv 1) pa_nil))) pa_nil)) (by rfl))
      (pss_one (ps_ret (pe_ifExp (PW.pt (pw_or (pt_cmpR op_isN (pv 2) pe_non (nomark _)) (pw_or1 (pt_cmpR op_eq (pv 2) (pv 3) (nomark _))))) pe_non (pe_cal C_read_remainder (hr.mono (by decide)) rfl (pa_cons (pv 2) (pa_cons (pv 3) (pa_cons (pe_slice sl_list (pv 0) (po_some pe_int) po_none) pa_nil)))))))) pss_nil)
      (pss_one (ps_ret pe_non)))))), ?_⟩
  cases f with
  | by_ z m r =>
    obtain ⟨zin, rem⟩ := id ok
    obtain ⟨j, hj⟩ := List.getElem?_of_mem zin
    refine ⟨fun σ' H' => σ' = [some (.ref wl), some (.ref a), none, none] ∧ Same H H', ?_, ?_⟩
    · refine ⟨_, rfl, _, 4, rfl, .inl ⟨_, hw, rfl⟩, rfl, _, rfl, ite2 (fun c => absurd (V.int.inj (of_decide_eq_true c)) (by decide)) (fun _ => ?_)⟩
      exact ⟨rfl, fun _ _ z => z⟩
    rintro σ1 H1 ⟨rfl, s1⟩
    refine ⟨fun σ' H' => σ' = [some (.ref wl), some (.ref a), none, none] ∧ Same H H', ?_, ?_⟩
    · refine ⟨_, rfl, _, 4, rfl, .inl ⟨_, s1.seq hw, rfl⟩, rfl, _, rfl, ite2 (fun c => absurd (V.int.inj (of_decide_eq_true c)) (by decide)) (fun _ => ?_)⟩
      exact ⟨rfl, s1⟩
    rintro σ2 H2 ⟨rfl, s2⟩
    refine ⟨fun _ _ => False, ?_, fun _ _ z => z.elim⟩
    refine ⟨_, rfl, _, 4, rfl, .inl ⟨_, s2.seq hw, rfl⟩, rfl, _, rfl, ite2 (fun _ => ?_) (fun c => absurd (by decide +kernel) c)⟩
    refine ⟨_, rfl, wl, _, _, _, rfl, rfl, s2.seq hw, rfl, rfl, _, rfl, ite2 (fun _ => ?_) (fun c => absurd (by decide +kernel) c)⟩
    refine ⟨_, rfl, wl, _, _, _, rfl, rfl, s2.seq hw, rfl, _, rfl, z, a, ps, rfl, s2.tup hT, nm0, .inl ⟨j, hj, fun H3 s3 => ?_⟩⟩
    have s13 := s2.trans s3
    refine ⟨_, rfl, 2, rfl, wl, _, rfl, s13.seq hw, fun p hp => ?_⟩
    refine ⟨.non, (j : Nat), p, m, r, rfl, SqL.of upd_same, rem, fun o dx nm sp H4 s4 fo ho hn => ?_⟩
    have s14 := s13.trans (Same.new (o := .lst [.str (CF.num m), .str (CF.num r)]) hp)
    exact k o H4 (s14.trans s4) (s14.free fo) ⟨dx, nm, sp, .non, .int (j : Nat), ho, hn, rfl, j, hj, rfl⟩
  | gap z1 z2 m r =>
    obtain ⟨zin1, zin2, zne, rem⟩ := id ok
    obtain ⟨i, hi⟩ := List.getElem?_of_mem zin1
    obtain ⟨j, hj⟩ := List.getElem?_of_mem zin2
    have ij : i ≠ j := fun e => by
      rw [e, hj] at hi
      exact zne (Option.some.inj hi)
    refine ⟨fun σ' H' => σ' = [some (.ref wl), some (.ref a), none, none] ∧ Same H H', ?_, ?_⟩
    · refine ⟨_, rfl, _, 6, rfl, .inl ⟨_, hw, rfl⟩, rfl, _, rfl, ite2 (fun c => absurd (V.int.inj (of_decide_eq_true c)) (by decide)) (fun _ => ?_)⟩
      exact ⟨rfl, fun _ _ z => z⟩
    rintro σ1 H1 ⟨rfl, s1⟩
    refine ⟨fun σ' H' => σ' = [some (.ref wl), some (.ref a), none, none] ∧ Same H H', ?_, ?_⟩
    · refine ⟨_, rfl, _, 6, rfl, .inl ⟨_, s1.seq hw, rfl⟩, rfl, _, rfl, ite2 (fun c => absurd (V.int.inj (of_decide_eq_true c)) (by decide)) (fun _ => ?_)⟩
      exact ⟨rfl, s1⟩
    rintro σ2 H2 ⟨rfl, s2⟩
    refine ⟨fun σ' H' => σ' = [some (.ref wl), some (.ref a), none, none] ∧ Same H H', ?_, ?_⟩
    · refine ⟨_, rfl, _, 6, rfl, .inl ⟨_, s2.seq hw, rfl⟩, rfl, _, rfl, ite2 (fun c => absurd (V.int.inj (of_decide_eq_true c)) (by decide)) (fun _ => ?_)⟩
      exact ⟨rfl, s2⟩
    rintro σ3 H3 ⟨rfl, s3⟩
    refine ⟨fun _ _ => False, ?_, fun _ _ z => z.elim⟩
    refine ⟨_, rfl, _, 6, rfl, .inl ⟨_, s3.seq hw, rfl⟩, rfl, _, rfl, ite2 (fun _ => ?_) (fun c => absurd (by decide +kernel) c)⟩
    refine ⟨_, rfl, wl, _, _, _, rfl, rfl, s3.seq hw, rfl, rfl, _, rfl, ite2 (fun _ => ?_) (fun c => absurd (by decide +kernel) c)⟩
    refine ⟨_, rfl, wl, _, _, _, rfl, rfl, s3.seq hw, rfl, rfl, _, rfl, ite2 (fun _ => ?_) (fun c => absurd (by decide +kernel) c)⟩
    refine ⟨_, rfl, wl, _, _, _, rfl, rfl, s3.seq hw, rfl, _, rfl, z1, a, ps, rfl, s3.tup hT, nm0, .inl ⟨i, hi, fun H4 s4 => ?_⟩⟩
    have s34 := s3.trans s4
    refine ⟨_, rfl, wl, _, _, _, rfl, rfl, s34.seq hw, rfl, _, rfl, z2, a, ps, rfl, s34.tup hT, nm0, .inl ⟨j, hj, fun H5 s5 => ⟨_, _, rfl, ?_⟩⟩⟩
    have s35 := s34.trans s5
    refine ⟨_, rfl, rfl, _, rfl, ite2 (fun c => absurd (of_decide_eq_true c) (fun e => by cases e)) (fun _ => ?_)⟩
    refine ⟨_, rfl, _, rfl, rfl, _, rfl, ite2 (fun c => absurd (V.int.inj (of_decide_eq_true c)) (by omega)) (fun _ => ?_)⟩
    refine ⟨_, rfl, _, rfl, _, rfl, 4, rfl, wl, _, rfl, s35.seq hw, fun p hp => ?_⟩
    refine ⟨.int (i : Nat), (j : Nat), p, m, r, rfl, SqL.of upd_same, rem, fun o dx nm sp H6 s6 fo ho hn => ?_⟩
    have s36 := s35.trans (Same.new (o := .lst [.str (CF.num m), .str (CF.num r)]) hp)
    exact k o H6 (s36.trans s6) (s36.free fo) ⟨dx, nm, sp, .int (i : Nat), .int (j : Nat), ho, hn, i, j, hi, hj, rfl, rfl⟩
  | apart z1 k1 n z2 e c =>
    obtain ⟨zin1, zin2, zne, o1, m1, o2, m2⟩ := id ok
    obtain ⟨i, hi⟩ := List.getElem?_of_mem zin1
    obtain ⟨j, hj⟩ := List.getElem?_of_mem zin2
    have ij : i ≠ j := fun e => by
      rw [e, hj] at hi
      exact zne (Option.some.inj hi)
    refine ⟨fun _ _ => False, ?_, fun _ _ z => z.elim⟩
    refine ⟨_, rfl, _, 5, rfl, .inl ⟨_, hw, rfl⟩, rfl, _, rfl, ite2 (fun _ => ?_) (fun c => absurd (by decide +kernel) c)⟩
    refine ⟨_, rfl, wl, _, _, _, rfl, rfl, hw, rfl, rfl, _, rfl, ite2 (fun _ => ?_) (fun c => absurd (by decide +kernel) c)⟩
    refine ⟨_, rfl, _, rfl, wl, a, ps, z1, z2, i, j, k1, n, e, c, rfl, hw, hT, nm0, hi, hj, ij, o1, m1, o2, m2, fun o dx nm sp q1 q2 a1 a2 H' s1 fo h1 h2 h3 h4 h5 ho hn => ?_⟩
    have ef : n + c + CF.ab k1 + CF.ab e = (CF.FD.apart z1 k1 n z2 e c).far := by
      show _ = CF.ab k1 + n + CF.ab e + c
      omega
    rw [ef] at ho
    exact k o H' s1 fo ⟨dx, nm, sp, .ref q1, .ref q2, ho, hn, i, j, q1, q2, a1, a2, hi, hj, rfl, rfl, h1, h2, h3, h4, h5⟩
  | dist w z1 z2 n =>
    obtain ⟨hs, zin1, zin2, zne, n0, n1⟩ := id ok
    obtain ⟨i, hi⟩ := List.getElem?_of_mem zin1
    obtain ⟨j, hj⟩ := List.getElem?_of_mem zin2
    have ij : i ≠ j := fun e => by
      rw [e, hj] at hi
      exact zne (Option.some.inj hi)
    have nap : z1 ≠ "apart" := name_ne (nm0.1 z1 zin1) (by decide +kernel)
    have inw : inV (.str w) [.str "from", .str "upto", .str "is"] = true := by
      simp only [CF.Sorts, List.mem_cons, List.not_mem_nil, or_false] at hs
      rcases hs with rfl | rfl | rfl <;> decide +kernel
    refine ⟨fun σ' H' => σ' = [some (.ref wl), some (.ref a), none, none] ∧ Same H H', ?_, ?_⟩
    · refine ⟨_, rfl, _, 5, rfl, .inl ⟨_, hw, rfl⟩, rfl, _, rfl, ite2 (fun _ => ?_) (fun c => absurd (by decide +kernel) c)⟩
      refine ⟨_, rfl, wl, _, _, _, rfl, rfl, hw, rfl, rfl, _, rfl, ite2 (fun c => absurd (V.str.inj (of_decide_eq_true c)) nap) (fun _ => ⟨rfl, fun _ _ z => z⟩)⟩
    rintro σ1 H1 ⟨rfl, s1⟩
    refine ⟨fun _ _ => False, ?_, fun _ _ z => z.elim⟩
    refine ⟨_, rfl, _, 5, rfl, .inl ⟨_, s1.seq hw, rfl⟩, rfl, _, rfl, ite2 (fun _ => ?_) (fun c => absurd (by decide +kernel) c)⟩
    refine ⟨_, rfl, wl, _, _, _, rfl, rfl, s1.seq hw, rfl, rfl, _, rfl, ite2 (fun _ => ?_) (fun c => absurd (by decide +kernel) c)⟩
    refine ⟨_, rfl, wl, _, _, _, rfl, rfl, s1.seq hw, rfl, by show 3 ≤ sizeLine; decide, fun t ht => ?_⟩
    refine ⟨t, _, rfl, .inr (SqT.of upd_same), rfl, rfl, _, rfl, ite2 (fun _ => ?_) (fun c => absurd inw c)⟩
    have s2 := s1.trans (Same.new (o := .tup [.str "from", .str "upto", .str "is"]) ht)
    exact ⟨_, rfl, _, rfl, wl, a, ps, z1, z2, w, i, j, n, rfl, s2.seq hw, s2.tup hT, nm0, hi, hj, ij, hs, n0, n1, fun o dx nm sp H' s3 fo ho hn => k o H' (s2.trans s3) (s2.free fo) ⟨dx, nm, sp, .int (i : Nat), .int (j : Nat), ho, hn, i, j, hi, hj, rfl, rfl⟩⟩


end
end K03
end
section
set_option Elab.async false
set_option linter.all false
set_option maxRecDepth 100000
set_option maxHeartbeats 4000000
namespace K03
open PySem PySem.Spec PyProof.Rows L2
open PySem.W (ke_shaped_ints)
local macro_rules | `(tactic| walk_at "go") => `(tactic| first | refine ⟨_, rfl, ?_⟩ | refine .inl ⟨_, rfl, ?_⟩ | refine ⟨_, _, rfl, rfl, (by first | (show (0 : Int) < _; decide) | exact Or.inl ⟨by decide, by decide⟩ | exact Or.inr ⟨by decide, by decide⟩), ?_⟩ | refine ⟨_, _, rfl, rfl, ?_⟩)
section
variable {P : Program} {w : World} {K : PySem.W.Frag} {mg : Str → Option Value} {base : Heap}

/-- facts at their places -/
def FactsAt (K : PySem.W.Frag) (C : Addr) (H : Hp) (ps : List Str) (os : List Addr) (fs : List CF.FD) : Prop := os.length = fs.length ∧ ∀ (i : Nat) (o : Addr) (f : CF.FD), os[i]? = some o → fs[i]? = some f → FactAt K C H ps o f
theorem FactsAt.same {K : PySem.W.Frag} {C : Addr} {H H' : Hp} {ps : List Str} {os : List Addr} {fs : List CF.FD} (h : FactsAt K C H ps os fs) (s : Same H H') : FactsAt K C H' ps os fs := ⟨h.1, fun i o f a b => (h.2 i o f a b).same s⟩


/-- far_of of facts -/
def sp_far_of (K : PySem.W.Frag) (C : Addr) : Sp := fun vs H Q _ => ∃ (a : Addr) (os : List Addr) (fs : List CF.FD) (ps : List Str), vs = [.ref a] ∧ SqT K H a (os.map V.ref) ∧ FactsAt K C H ps os fs ∧ (∀ f ∈ fs, f.Ok ps) ∧ fs.length ≤ 1000 ∧ ∀ H', Same H H' → Q (.int (CF.farOf fs)) H'
abbrev s_pfar_of : Stmt := topS 35
theorem sc_pfar_of : FnScope ["things", "thing"] ["things"] (defScope s_pfar_of) := ⟨rfl, rfl, rfl, by decide +kernel, rfl, by decide +kernel, by decide +kernel⟩
theorem ok_pfar_of (T : TxtP K mg) (D : Def K mg "far_of" s_pfar_of) {C : Addr} (FC : FactC K C) : Cal P w K mg base 1 "far_of" ["things"] (sp_far_of K C) := by
  refine D.cal sc_pfar_of (fun vs H Q E h => ?_) (fun _ _ _ _ _ _ us hl => match us, hl with | [_], _ => rfl) (fun f cdv A outer s H vs Q E hr h => ?_)
  · obtain ⟨a, os, fs, ps, rfl, _⟩ := h
    rfl
  have hu := hu_of hr

  obtain ⟨a, os, fs, ps, rfl, hT, ⟨le, fat⟩, ok, sz, k⟩ := h
  refine ⟨_, (pss_one (ps_ret (pe_callBK (cr_maxD rfl) (by rfl) T.f_max (by decide +kernel) (pa_cons (pe_lc (own := [("thing", 1)]) (g := gName 1) (tt := tYes) (te := tFld K (tVar 1) "far") rfl sc_pfar_of.nd (pi_tup (pv 0)) (blkOk_by (N := ["things", "thing"]) (sc := defScope s_pfar_of) (by decide +kernel)) (fun _ _ _ _ _ => pg_name (i := 1) sc_pfar_of.nd rfl (Or.inl rfl)) (fun _ _ _ _ _ => pts_nil) (fun _ _ _ _ _ => (pe_fld (pv 1) rfl))) pa_nil) (pk_cons pe_int pk_nil)))), ?_⟩
  refine ⟨_, rfl, a, rfl, ⟨_, hT⟩, fun D hD => lc_it walk_tup (fun i H' => Same H H' ∧ H' D = some (.lst (((fs.take i).map CF.FD.far).map V.int)))
    ⟨Same.new hD, upd_same⟩ (fun i H' _ z => z.1.tup hT) ?_ ?_⟩
  · rintro i y G1 G2 hi ⟨s1, h1⟩ ⟨rfl, hx⟩
    have hx' : (os.map V.ref)[i]? = some y := hx
    rw [List.getElem?_map] at hx'
    obtain ⟨o, ho, rfl⟩ := Option.map_eq_some_iff.mp hx'
    have il : i < fs.length := by
      rw [List.length_map] at hi
      omega
    have hf : fs[i]? = some fs[i] := List.getElem?_eq_getElem il
    obtain ⟨dx, nm, sp, v1, v2, g1, g2, g3⟩ := (fat i o _ ho hf).same s1
    refine ⟨rfl, _, rfl, o, C, dx, _, .int (fs[i]).far, rfl, g1, FC.cl, FC.n_far, rfl, _, h1, ?_, s1.put hD, ?_⟩
    · rw [List.length_map, List.length_map, sizeLine_eq]
      have := List.length_take_le i fs
      omega
    · have tm : ((fs.take (i + 1)).map CF.FD.far) = (fs.take i).map CF.FD.far ++ [(fs[i]).far] := by
        rw [List.take_add_one, hf, List.map_append]
        rfl
      rw [tm, List.map_append]
      exact upd_same
  · rintro G ⟨s1, h1⟩
    rw [List.length_map, le, List.take_length] at h1
    refine ⟨D, fs.map CF.FD.far, 0, rfl, rfl, SqL.of h1, fun e => ?_, fun m hm hle => ?_⟩
    · have e2 : CF.farOf fs = 0 := by
        rw [CF.farOf_map, e]
        rfl
      rw [← e2]
      exact k _ s1
    · have e2 : CF.farOf fs = m := by
        rw [CF.farOf_map]
        refine CF.mx_is hm hle fun y hy => ?_
        obtain ⟨f, hf, rfl⟩ := List.mem_map.mp hy
        exact CF.far_nn (ok f hf)
      rw [← e2]
      exact k _ s1



/-- modulus_of of facts -/
def sp_modulus_of (K : PySem.W.Frag) (C : Addr) : Sp := fun vs H Q _ => ∃ (a : Addr) (os : List Addr) (fs : List CF.FD) (ps : List Str), vs = [.ref a] ∧ SqT K H a (os.map V.ref) ∧ FactsAt K C H ps os fs ∧ (∀ f ∈ fs, f.Ok ps) ∧ fs.length ≤ 1000 ∧ ∀ H', Same H H' → Q (.int (CF.modOf fs)) H'
abbrev s_modulus_of : Stmt := topS 36
theorem sc_modulus_of : FnScope ["things", "thing"] ["things"] (defScope s_modulus_of) := ⟨rfl, rfl, rfl, by decide +kernel, rfl, by decide +kernel, by decide +kernel⟩
theorem ok_modulus_of (T : TxtP K mg) (D : Def K mg "modulus_of" s_modulus_of) {C : Addr} (FC : FactC K C) : Cal P w K mg base 1 "modulus_of" ["things"] (sp_modulus_of K C) := by
  refine D.cal sc_modulus_of (fun vs H Q E h => ?_) (fun _ _ _ _ _ _ us hl => match us, hl with | [_], _ => rfl) (fun f cdv A outer s H vs Q E hr h => ?_)
  · obtain ⟨a, os, fs, ps, rfl, _⟩ := h
    rfl
  have hu := hu_of hr

  obtain ⟨a, os, fs, ps, rfl, hT, ⟨le, fat⟩, ok, sz, k⟩ := h
  refine ⟨_, (pss_one (ps_ret (pe_callBK (cr_maxD rfl) (by rfl) T.f_max (by decide +kernel) (pa_cons (pe_lc (own := [("thing", 1)]) (g := gName 1) (tt := tYes) (te := tFld K (tVar 1) "modulus") rfl sc_modulus_of.nd (pi_tup (pv 0)) (blkOk_by (N := ["things", "thing"]) (sc := defScope s_modulus_of) (by decide +kernel)) (fun _ _ _ _ _ => pg_name (i := 1) sc_modulus_of.nd rfl (Or.inl rfl)) (fun _ _ _ _ _ => pts_nil) (fun _ _ _ _ _ => (pe_fld (pv 1) rfl))) pa_nil) (pk_cons pe_int pk_nil)))), ?_⟩
  refine ⟨_, rfl, a, rfl, ⟨_, hT⟩, fun D hD => lc_it walk_tup (fun i H' => Same H H' ∧ H' D = some (.lst (((fs.take i).map CF.FD.mod).map V.int)))
    ⟨Same.new hD, upd_same⟩ (fun i H' _ z => z.1.tup hT) ?_ ?_⟩
  · rintro i y G1 G2 hi ⟨s1, h1⟩ ⟨rfl, hx⟩
    have hx' : (os.map V.ref)[i]? = some y := hx
    rw [List.getElem?_map] at hx'
    obtain ⟨o, ho, rfl⟩ := Option.map_eq_some_iff.mp hx'
    have il : i < fs.length := by
      rw [List.length_map] at hi
      omega
    have hf : fs[i]? = some fs[i] := List.getElem?_eq_getElem il
    obtain ⟨dx, nm, sp, v1, v2, g1, g2, g3⟩ := (fat i o _ ho hf).same s1
    refine ⟨rfl, _, rfl, o, C, dx, _, .int (fs[i]).mod, rfl, g1, FC.cl, FC.n_modulus, rfl, _, h1, ?_, s1.put hD, ?_⟩
    · rw [List.length_map, List.length_map, sizeLine_eq]
      have := List.length_take_le i fs
      omega
    · have tm : ((fs.take (i + 1)).map CF.FD.mod) = (fs.take i).map CF.FD.mod ++ [(fs[i]).mod] := by
        rw [List.take_add_one, hf, List.map_append]
        rfl
      rw [tm, List.map_append]
      exact upd_same
  · rintro G ⟨s1, h1⟩
    rw [List.length_map, le, List.take_length] at h1
    refine ⟨D, fs.map CF.FD.mod, 1, rfl, rfl, SqL.of h1, fun e => ?_, fun m hm hle => ?_⟩
    · have e2 : CF.modOf fs = 1 := by
        rw [CF.modOf_map, e]
        rfl
      rw [← e2]
      exact k _ s1
    · have e2 : CF.modOf fs = m := by
        rw [CF.modOf_map]
        refine CF.mx_is hm hle fun y hy => ?_
        obtain ⟨f, hf, rfl⟩ := List.mem_map.mp hy
        exact CF.mod_pos (ok f hf)
      rw [← e2]
      exact k _ s1

end
end K03
end
section
set_option Elab.async false
set_option linter.all false
set_option maxRecDepth 100000
set_option maxHeartbeats 4000000
namespace K03
open PySem PySem.Spec PyProof.Rows L2
open PySem.W (ke_shaped_ints)
local macro_rules | `(tactic| walk_at "go") => `(tactic| first | refine ⟨_, rfl, ?_⟩ | refine .inl ⟨_, rfl, ?_⟩ | refine ⟨_, _, rfl, rfl, (by first | (show (0 : Int) < _; decide) | exact Or.inl ⟨by decide, by decide⟩ | exact Or.inr ⟨by decide, by decide⟩), ?_⟩ | refine ⟨_, _, rfl, rfl, ?_⟩)
section
variable {P : Program} {w : World} {K : PySem.W.Frag} {mg : Str → Option Value} {base : Heap}

/-- read_facts(lines, pointers) of right facts' lines -/
def spReadFacts (K : PySem.W.Frag) (C : Addr) : Sp := fun vs H Q _ => ∃ (la a : Addr) (ps : List Str) (fs : List CF.FD), vs = [.ref la, .ref a] ∧ SqT K H la ((fs.map CF.FD.text).map V.str) ∧ SqT K H a (ps.map V.str) ∧ CF.Names ps ∧ (∀ f ∈ fs, f.Ok ps) ∧ fs.Nodup ∧ fs.length ≤ 12 ∧
  ∀ (r : Addr) (os : List Addr) (H' : Hp), Same H H' → H' r = some (.tup (os.map V.ref)) → FactsAt K C H' ps os fs → Q (.ref r) H'
theorem _root_.L2.SqT.upl {K : PySem.W.Frag} {H : Hp} {q a : Addr} {ys xs : List V} {u : HO} (hq : H q = some (.lst ys)) (h : SqT K H a xs) : SqT K (upd H q u) a xs := by
  rcases h with (h | ⟨v, h⟩) | h
  · exact .inl (.inl (by rw [upd_ne (fun z => by rw [z, hq] at h; cases h)]; exact h))
  · exact .inl (.inr ⟨v, by rw [upd_ne (fun z => by rw [z, hq] at h; cases h)]; exact h⟩)
  · exact .inr h
theorem EndsAt.upl {H : Hp} {q : Addr} {ys : List V} {u : HO} (hq : H q = some (.lst ys)) {ps : List Str} {f : CF.FD} {v1 v2 : V} {sp : Addr} (h : EndsAt H ps f v1 v2 sp) : EndsAt (upd H q u) ps f v1 v2 sp := by
  have t : ∀ {a : Addr} {xs : List V}, H a = some (.tup xs) → upd H q u a = some (.tup xs) := fun {a xs} h => by rw [upd_ne (fun z => by rw [z, hq] at h; cases h)]; exact h
  cases f with
  | by_ a m r => exact h
  | gap a b m r => exact h
  | dist w a b n => exact h
  | apart a k n b e c =>
    obtain ⟨i, j, q1, q2, s1, s2, a1, a2, a3, a4, a5, a6, a7, a8, a9⟩ := h
    exact ⟨i, j, q1, q2, s1, s2, a1, a2, a3, a4, t a5, t a6, t a7, t a8, t a9⟩
theorem FactAt.upl {K : PySem.W.Frag} {C : Addr} {H : Hp} {q : Addr} {ys : List V} {u : HO} (hq : H q = some (.lst ys)) {ps : List Str} {o : Addr} {f : CF.FD} (h : FactAt K C H ps o f) : FactAt K C (upd H q u) ps o f := by
  obtain ⟨dx, nm, sp, v1, v2, h1, h2, h3⟩ := h
  exact ⟨dx, nm, sp, v1, v2, by rw [upd_ne (fun z => by rw [z, hq] at h1; cases h1)]; exact h1, h2.upl hq, h3.upl hq⟩
theorem FactsAt.upl {K : PySem.W.Frag} {C : Addr} {H : Hp} {q : Addr} {ys : List V} {u : HO} (hq : H q = some (.lst ys)) {ps : List Str} {os : List Addr} {fs : List CF.FD} (h : FactsAt K C H ps os fs) : FactsAt K C (upd H q u) ps os fs := ⟨h.1, fun i o f a b => (h.2 i o f a b).upl hq⟩
theorem FactsAt.app {K : PySem.W.Frag} {C : Addr} {H : Hp} {ps : List Str} {os : List Addr} {fs : List CF.FD} {o : Addr} {f : CF.FD} (h : FactsAt K C H ps os fs) (a : FactAt K C H ps o f) : FactsAt K C H ps (os ++ [o]) (fs ++ [f]) := by
  obtain ⟨l, h⟩ := h
  refine ⟨by rw [List.length_append, List.length_append, l]; rfl, fun i o1 f1 e1 e2 => ?_⟩
  by_cases lt : i < os.length
  · rw [List.getElem?_append_left lt] at e1
    rw [List.getElem?_append_left (by omega)] at e2
    exact h i o1 f1 e1 e2
  · rw [List.getElem?_append_right (by omega)] at e1
    rw [List.getElem?_append_right (by omega), ← l] at e2
    cases hk : i - os.length with
    | zero =>
      rw [hk] at e1 e2
      simp only [List.getElem?_cons_zero, Option.some.injEq] at e1 e2
      rw [← e1, ← e2]
      exact a
    | succ n =>
      rw [hk] at e1
      cases e1
abbrev s_read_facts : Stmt := topS 40
theorem sc_read_facts : FnScope ["lines", "pointers", "rows", "index", "line", "fact"] ["lines", "pointers"] (defScope s_read_facts) := ⟨rfl, rfl, rfl, by decide +kernel, rfl, by decide +kernel, by decide +kernel⟩
theorem ok_read_facts (T : TxtP K mg) (D : Def K mg "read_facts" s_read_facts) {C : Addr} (C_read_fact : Cal P w K mg base 6 "read_fact" ["words", "pointers"] (spReadFact K C)) : Cal P w K mg base 7 "read_facts" ["lines", "pointers"] (spReadFacts K C) := by
  refine D.cal sc_read_facts (fun vs H Q E h => ?_) (fun _ _ _ _ _ _ us hl => match us, hl with | [_, _], _ => rfl) (fun f cdv A outer s H vs Q E hr h => ?_)
  · obtain ⟨la, a, ps, fs, rfl, _⟩ := h
    rfl
  have hu := hu_of hr

  obtain ⟨la, a, ps, fs, rfl, hl, hT, nm0, ok, nd, f12, k⟩ := h
  have hn : ∀ z ∈ ps, CF.NameOk z := nm0.1
  refine ⟨_, (pss_cons (ps_set (i := 2) sc_read_facts.nd rfl (by first | exact Or.inl rfl | exact Or.inr rfl) (pe_lst pa_nil))
      (pss_cons (ps_for PassesOwn.never rfl (pi_enumT (by rfl) T.f_enumerate (pa_cons (pv 0) pa_nil)) (pg_tup rfl (pgs_cons (pg_name (i := 3) sc_read_facts.nd rfl (by first | exact Or.inl rfl | exact Or.inr rfl)) (pgs_cons (pg_name (i := 4) sc_read_facts.nd rfl (by first | exact Or.inl rfl | exact Or.inr rfl)) pgs_nil))) (pss_cons (ps_set (i := 5) sc_read_facts.nd rfl (by first | exact Or.inl rfl | exact Or.inr rfl) (pe_cal C_read_fact (hr.mono (by decide)) rfl (pa_cons (pe_split (pv 4) pe_str) (pa_cons (pv 1) pa_nil))))
      (C8.pss_cut (ps_if (PW.pt (pw_or (pt_cmpR op_isN (pv 5) pe_non (nomark _)) (pw_or (pt_cmpR op_in_seq (pv 4) (pe_slice sl_tup (pv 0) po_none (po_some (pv 3))) (by rfl)) (pw_or1 (pt_cmpR op_eq (pv 3) (pe_gint (by rfl) T.c_MOST_FACTS) (nomark _)))))) (pss_one ps_never) pss_nil)
      (pss_one (ps_expr (pe_bm PySem.F.plainAttrs_list PySem.F.slot_list_append PySem.F.type_list_append mt_append (pv 2) (pa_cons (pv 5) pa_nil)))))))
      (pss_one (ps_ret (pe_callTy call_tuple_of (by rfl) T.f_tuple (by decide +kernel) (pa_cons (pv 2) pa_nil)))))), ?_⟩
  refine ⟨Nat.zero_le _, fun q hq => ?_⟩
  refine ⟨_, rfl, la, _, rfl, (Same.new hq).tup hl, for_it walk_enumT (fun i σ H1 => ∃ (v3 v4 v5 : Option V) (os : List Addr), σ = [some (.ref la), some (.ref a), some (.ref q), v3, v4, v5] ∧ Same H H1 ∧ H1 q = some (.lst (os.map V.ref)) ∧ FactsAt K C H1 ps os (fs.take i))
    ⟨none, none, none, [], rfl, Same.new hq, upd_same, rfl, fun i o f e => by cases e⟩ (fun i σ H1 _ ⟨_, _, _, _, _, s1, _⟩ => s1.tup hl) ?_ ?_⟩
  · rintro i x σ H1 H2 hi ⟨v3, v4, v5, os, rfl, s1, h1, fat⟩ ⟨T0, x1, x2, rfl, hT0, rfl, e1, e2⟩
    cases e1
    have e2' : ((fs.map CF.FD.text).map V.str)[i]? = some x2 := e2
    rw [List.getElem?_map, List.getElem?_map] at e2'
    obtain ⟨z0, hz0, rfl⟩ := Option.map_eq_some_iff.mp e2'
    obtain ⟨f, hf, rfl⟩ := Option.map_eq_some_iff.mp hz0
    have okf := ok f (List.mem_of_getElem? hf)
    have tl := CF.FD.text_len (fun z hz => (hn z hz).hi) okf
    have il : i < fs.length := (List.getElem?_eq_some_iff.mp hf).1
    have n1 := Same.new (o := .tup [.int (i : Nat), .str f.text]) hT0
    have h2 := n1 _ _ h1
    have fat2 := fat.same n1
    have s2 := s1.trans n1
    refine ⟨T0, _, rfl, SqT.of upd_same, rfl, _, _, rfl, _, _, rfl, rfl, ?_⟩
    generalize upd H1 T0 (.tup [.int (i : Nat), .str f.text]) = H3 at h2 fat2 s2 ⊢
    refine ⟨_, rfl, ⟨_, rfl⟩, _, _, rfl, rfl, by decide +kernel, by rw [sizeLine_eq]; omega, fun w hw => ?_⟩
    rw [CF.FD.split hn okf]
    have n2 := Same.new (o := .lst (f.words.map V.str)) hw
    refine ⟨_, rfl, w, a, ps, f, rfl, SqL.of upd_same, (s2.trans n2).tup hT, nm0, okf, fun o H4 s4 fo fo1 => ?_⟩
    have s24 := n2.trans s4
    have h4 := s24 _ _ h2
    have fat4 := fat2.same s24
    have s04 := s2.trans s24
    refine ⟨fun σ' H' => σ' = [some (.ref la), some (.ref a), some (.ref q), some (.int (i : Nat)), some (.str f.text), some (.ref o)] ∧ Same H4 H', ?_, ?_⟩
    · refine ⟨_, rfl, rfl, _, rfl, ite2 (fun c => absurd (of_decide_eq_true c) (fun e => by cases e)) (fun _ => ?_)⟩
      have cut : cutV ((fs.map CF.FD.text).map V.str) none (some ((i : Nat) : Int)) = ((fs.take i).map CF.FD.text).map V.str := by
        rw [CF.cut_to _ (by omega), ← List.map_take, ← List.map_take]
        rfl
      refine ⟨_, rfl, _, rfl, _, rfl, _, rfl, la, _, rfl, s04.tup hl, ?_, fun p hp => ⟨p, _, rfl, .inr (SqT.of upd_same), rfl, ?_, _, rfl, ?_⟩⟩
      · rintro ⟨_, h⟩
        unfold HT.sIx at h
        simp only [if_neg (show ¬ ((i : Nat) : Int) < 0 by omega), List.length_map, Int.toNat_natCast] at h
        omega
      · rw [cut]
        exact CF.flat_strs _
      · have nin : f.text ∉ (fs.take i).map CF.FD.text := fun hm => by
          obtain ⟨g, hg, eg⟩ := List.mem_map.mp hm
          have gf := CF.FD.text_inj hn (ok g (List.mem_of_mem_take hg)) okf eg
          exact not_before nd hf (gf ▸ hg)
        rw [if_neg (by decide), cut, CF.inV_strs, decide_eq_false nin]
        refine iteF ?_
        exact ⟨_, rfl, rfl, _, rfl, ite2 (fun c => absurd (V.int.inj (of_decide_eq_true c)) (by omega)) (fun _ => ⟨rfl, Same.new hp⟩)⟩
    rintro σ' H5 ⟨rfl, s5⟩
    have h5 := s5 _ _ h4
    refine ⟨_, rfl, .inl ⟨rfl, _, SqL.of h5⟩, _, rfl, q, _, _, rfl, rfl, h5, ?_, ?_⟩
    · rw [List.length_map, fat.1, List.length_take, sizeLine_eq]
      omega
    · have tk : fs.take (i + 1) = fs.take i ++ [f] := by
        rw [List.take_add_one, hf]
        rfl
      refine ⟨_, _, _, os ++ [o], rfl, (s04.trans s5).put hq, ?_, ?_⟩
      · rw [List.map_append]
        exact upd_same
      · rw [tk]
        exact ((fat4.same s5).app (fo1.same s5)).upl h5
  · rintro σ H1 ⟨v3, v4, v5, os, rfl, s1, h1, fat⟩
    rw [List.length_map, List.length_map, List.take_length] at fat
    refine ⟨_, rfl, q, _, rfl, .inl ⟨SqL.of h1, fun r hr => ?_⟩⟩
    exact k r os _ (s1.trans (Same.new hr)) upd_same (fat.same (Same.new hr))

end
end K03
end
section
set_option Elab.async false
set_option linter.all false
set_option maxRecDepth 100000
set_option maxHeartbeats 4000000
namespace K03
open PySem PySem.Spec PyProof.Rows L2
open PySem.W (ke_shaped_ints)
local macro_rules | `(tactic| walk_at "go") => `(tactic| first | refine ⟨_, rfl, ?_⟩ | refine .inl ⟨_, rfl, ?_⟩ | refine ⟨_, _, rfl, rfl, (by first | (show (0 : Int) < _; decide) | exact Or.inl ⟨by decide, by decide⟩ | exact Or.inr ⟨by decide, by decide⟩), ?_⟩ | refine ⟨_, _, rfl, rfl, ?_⟩)
section
variable {P : Program} {w : World} {K : PySem.W.Frag} {mg : Str → Option Value} {base : Heap}

def cfields (pt ln ft : Addr) (z : Str) (far md : Int) : List (Str × V) := [("pointers", .ref pt), ("text", .str z), ("lines", .ref ln), ("rows", .ref ft), ("far", .int far), ("modulus", .int md)]
structure ContractC (K : PySem.W.Frag) (D : Addr) : Prop where
  cl : Cls K D
  n_pointers : NoAttr K D "pointers"
  n_text : NoAttr K D "text"
  n_lines : NoAttr K D "lines"
  n_rows : NoAttr K D "rows"
  n_far : NoAttr K D "far"
  n_modulus : NoAttr K D "modulus"
/-- Contract.__init__ of right pointers and a right text -/
def spContractInit (K : PySem.W.Frag) (C D : Addr) : Sp := fun vs H Q _ => ∃ (o dx pa : Addr) (ps : List Str) (fs : List CF.FD), vs = [.ref o, .ref pa, .str (CF.textOf fs)] ∧ H o = some (.ins D dx []) ∧ (SqL K H pa (ps.map V.str) ∨ SqT K H pa (ps.map V.str)) ∧ CF.Names ps ∧ (∀ f ∈ fs, f.Ok ps) ∧ fs.Nodup ∧ fs.length ≤ 12 ∧
  ∀ (pt ln ft : Addr) (os : List Addr) (H' : Hp), But o H H' → H' o = some (.ins D dx (cfields pt ln ft (CF.textOf fs) (CF.farOf fs) (CF.modOf fs))) → SqT K H' pt (ps.map V.str) → H' ln = some (.tup ((fs.map CF.FD.text).map V.str)) → H' ft = some (.tup (os.map V.ref)) → FactsAt K C H' ps os fs → Q .non H'
theorem EndsAt.but {H H' : Hp} {q D dx : Addr} {ys : List (Str × V)} (b : But q H H') (hq : H q = some (.ins D dx ys)) {ps : List Str} {f : CF.FD} {v1 v2 : V} {sp : Addr} (h : EndsAt H ps f v1 v2 sp) : EndsAt H' ps f v1 v2 sp := by
  have t : ∀ {a : Addr} {xs : List V}, H a = some (.tup xs) → H' a = some (.tup xs) := fun {a xs} h => b _ _ (fun z => by rw [z, hq] at h; cases h) h
  cases f with
  | by_ a m r => exact h
  | gap a b m r => exact h
  | dist w a b n => exact h
  | apart a k n b e c =>
    obtain ⟨i, j, q1, q2, s1, s2, a1, a2, a3, a4, a5, a6, a7, a8, a9⟩ := h
    exact ⟨i, j, q1, q2, s1, s2, a1, a2, a3, a4, t a5, t a6, t a7, t a8, t a9⟩
theorem FactsAt.but {K : PySem.W.Frag} {C D q dx : Addr} {H H' : Hp} {ys : List (Str × V)} {ps : List Str} {os : List Addr} {fs : List CF.FD} (b : But q H H') (hq : H q = some (.ins D dx ys)) (nq : C ≠ D) (h : FactsAt K C H ps os fs) : FactsAt K C H' ps os fs := by
  refine ⟨h.1, fun i o f a e => ?_⟩
  obtain ⟨x, nm, sp, v1, v2, h1, h2, h3⟩ := h.2 i o f a e
  refine ⟨x, nm, sp, v1, v2, b _ _ (fun z => ?_) h1, b.tupI hq h2, h3.but b hq⟩
  rw [z, hq] at h1
  cases h1
  exact nq rfl
abbrev s_Contract___init__ : Stmt := inClass (topS 39) 0
theorem sc_Contract___init__ : FnScope ["self", "pointers", "text"] ["self", "pointers", "text"] (defScope s_Contract___init__) := ⟨rfl, rfl, rfl, by decide +kernel, rfl, by decide +kernel, by decide +kernel⟩
theorem ok_contract_init {C D f : Addr} {fd : FuncData} (nCD : C ≠ D) (T : TxtP K mg) (FC : FactC K C) (DC : ContractC K D) (F : FunD K "__init__" "Contract.__init__" (defArgs s_Contract___init__) (defBody s_Contract___init__) (defScope s_Contract___init__) [] [] f fd)
    (C_read_pointers : Cal P w K mg base 2 "read_pointers" ["pointers"] (spReadPointers K)) (C_lines_of : Cal P w K mg base 1 "lines_of" ["text"] spLinesOf) (C_read_facts : Cal P w K mg base 7 "read_facts" ["lines", "pointers"] (spReadFacts K C)) (C_far_of : Cal P w K mg base 1 "far_of" ["things"] (sp_far_of K C)) (C_modulus_of : Cal P w K mg base 1 "modulus_of" ["things"] (sp_modulus_of K C)) :
    FnOk P w K mg base CX0 8 f fd ["self", "pointers", "text"] (spContractInit K C D) := by
  refine F.ok sc_Contract___init__ (fun vs H Q E h => by obtain ⟨o, dx, pa, ps, fs, rfl, _⟩ := h; rfl) (fun cdv A outer s H vs Q E hr h => ?_)
  suffices z : ∃ t, PSs (cxOf CX0 P w K mg base ["self", "pointers", "text"] "Contract.__init__" (defScope s_Contract___init__) f cdv A outer s H E).nox (defBody s_Contract___init__) t ∧ t { nx := fun _ H' => Q .non H', rt := Q } (start ["self", "pointers", "text"] vs) H by
    obtain ⟨t, h1, h2⟩ := z
    exact ⟨t, h1.nox, h2⟩
  obtain ⟨o, dx, pa, ps, fs, rfl, ho, hs, nm0, ok, nd, f12, k⟩ := h
  have hn : ∀ z ∈ ps, CF.NameOk z := nm0.1
  have lt : ∀ (l : List (Str × V)), l.length ≤ 7 → l.length < 1000 := fun l h => by omega
  refine ⟨_, (pss_cons (ps_fld (pv 0) (pe_cal C_read_pointers (hr.mono (by decide)) rfl (pa_cons (pv 1) pa_nil)) rfl)
      (pss_cons (ps_fld (pv 0) (pv 2) rfl)
      (pss_cons (ps_fld (pv 0) (pe_callTy call_tuple_of (by rfl) T.f_tuple (by decide +kernel) (pa_cons (pe_cal C_lines_of (hr.mono (by decide)) rfl (pa_cons (pv 2) pa_nil)) pa_nil)) rfl)
      (pss_cons (ps_fld (pv 0) (pe_cal C_read_facts (hr.mono (by decide)) rfl (pa_cons (pe_fld (pv 0) rfl) (pa_cons (pe_fld (pv 0) rfl) pa_nil))) rfl)
      (pss_cons (ps_fld (pv 0) (pe_cal C_far_of (hr.mono (by decide)) rfl (pa_cons (pe_fld (pv 0) rfl) pa_nil)) rfl)
      (pss_one (ps_fld (pv 0) (pe_cal C_modulus_of (hr.mono (by decide)) rfl (pa_cons (pe_fld (pv 0) rfl) pa_nil)) rfl))))))), ?_⟩
  -- pointers, text
  refine ⟨_, rfl, pa, ps, rfl, hs, nm0, fun pt H1 s1 hpt => ⟨_, rfl, o, D, dx, _, rfl, s1 _ _ ho, DC.cl, DC.n_pointers, lt _ (by decide), ?_⟩⟩
  refine ⟨_, rfl, _, rfl, o, D, dx, _, rfl, upd_same, DC.cl, DC.n_text, lt _ (Nat.le_of_ble_eq_true rfl), ?_⟩
  have b1 : But o H (upd (upd H1 o (.ins D dx (putF "pointers" (.ref pt) []))) o (.ins D dx (putF "text" (.str (CF.textOf fs)) (putF "pointers" (.ref pt) [])))) := ((But.of s1).trans (But.upd (o := .ins D dx (putF "pointers" (.ref pt) [])) _)).trans (But.upd (o := .ins D dx (putF "text" (.str (CF.textOf fs)) (putF "pointers" (.ref pt) []))) _)
  have hp1 : SqT K (upd (upd H1 o (.ins D dx (putF "pointers" (.ref pt) []))) o (.ins D dx (putF "text" (.str (CF.textOf fs)) (putF "pointers" (.ref pt) [])))) pt (ps.map V.str) := ((But.upd (o := .ins D dx (putF "pointers" (.ref pt) [])) (p := o) H1).trans (But.upd (o := .ins D dx (putF "text" (.str (CF.textOf fs)) (putF "pointers" (.ref pt) []))) _)).tupI (s1 _ _ ho) hpt
  have ho1 : (upd (upd H1 o (.ins D dx (putF "pointers" (.ref pt) []))) o (.ins D dx (putF "text" (.str (CF.textOf fs)) (putF "pointers" (.ref pt) [])))) o = some (.ins D dx [("pointers", .ref pt), ("text", .str (CF.textOf fs))]) := upd_same
  generalize (upd (upd H1 o (.ins D dx (putF "pointers" (.ref pt) []))) o (.ins D dx (putF "text" (.str (CF.textOf fs)) (putF "pointers" (.ref pt) [])))) = H2 at b1 hp1 ho1 ⊢
  -- lines
  refine ⟨_, rfl, fs.map CF.FD.text, rfl, fun z hz => ?_, ?_, fun r H3 hr s3 h3 => ?_⟩
  · obtain ⟨g, hg, rfl⟩ := List.mem_map.mp hz
    exact CF.FD.line_ok hn (ok g hg)
  · have := CF.text_fit (fun z hz => (hn z hz).hi) ok (by omega)
    unfold CF.textOf at this
    omega
  refine ⟨r, _, rfl, .inl ⟨SqL.of h3, fun ln hln => ⟨_, rfl, o, D, dx, _, rfl, (s3.trans (Same.new hln)) _ _ ho1, DC.cl, DC.n_lines, lt _ (Nat.le_of_ble_eq_true rfl), ?_⟩⟩⟩
  have s4 : Same H2 (upd H3 ln (.tup ((fs.map CF.FD.text).map V.str))) := s3.trans (Same.new hln)
  have U1 : But o (upd H3 ln (.tup ((fs.map CF.FD.text).map V.str))) (upd (upd H3 ln (.tup ((fs.map CF.FD.text).map V.str))) o (.ins D dx (putF "lines" (.ref ln) [("pointers", .ref pt), ("text", .str (CF.textOf fs))]))) := But.upd (o := (.ins D dx (putF "lines" (.ref ln) [("pointers", .ref pt), ("text", .str (CF.textOf fs))]))) _
  have b2 : But o H (upd (upd H3 ln (.tup ((fs.map CF.FD.text).map V.str))) o (.ins D dx (putF "lines" (.ref ln) [("pointers", .ref pt), ("text", .str (CF.textOf fs))]))) := (b1.trans (But.of s4)).trans U1
  have hp2 : SqT K (upd (upd H3 ln (.tup ((fs.map CF.FD.text).map V.str))) o (.ins D dx (putF "lines" (.ref ln) [("pointers", .ref pt), ("text", .str (CF.textOf fs))]))) pt (ps.map V.str) := U1.tupI (s4 _ _ ho1) (s4.tup hp1)
  have lo : ln ≠ o := fun z => by
    have := s3 _ _ ho1
    rw [z, this] at hln
    cases hln
  have hl2 : (upd (upd H3 ln (.tup ((fs.map CF.FD.text).map V.str))) o (.ins D dx (putF "lines" (.ref ln) [("pointers", .ref pt), ("text", .str (CF.textOf fs))]))) ln = some (.tup ((fs.map CF.FD.text).map V.str)) := (upd_ne lo).trans upd_same
  have ho2 : (upd (upd H3 ln (.tup ((fs.map CF.FD.text).map V.str))) o (.ins D dx (putF "lines" (.ref ln) [("pointers", .ref pt), ("text", .str (CF.textOf fs))]))) o = some (.ins D dx [("pointers", .ref pt), ("text", .str (CF.textOf fs)), ("lines", .ref ln)]) := upd_same
  generalize upd (upd H3 ln (.tup ((fs.map CF.FD.text).map V.str))) o (.ins D dx (putF "lines" (.ref ln) [("pointers", .ref pt), ("text", .str (CF.textOf fs))])) = H4 at b2 hp2 hl2 ho2 ⊢
  -- facts
  refine ⟨_, rfl, o, D, dx, _, .ref ln, rfl, ho2, DC.cl, DC.n_lines, rfl, _, rfl, o, D, dx, _, .ref pt, rfl, ho2, DC.cl, DC.n_pointers, rfl, ?_⟩
  refine ⟨ln, pt, ps, fs, rfl, SqT.of hl2, hp2, nm0, ok, nd, f12, fun ft os H5 s5 hft fat => ⟨_, rfl, o, D, dx, _, rfl, s5 _ _ ho2, DC.cl, DC.n_rows, lt _ (Nat.le_of_ble_eq_true rfl), ?_⟩⟩
  have ho5 := s5 _ _ ho2
  have U2 : But o H5 (upd H5 o (.ins D dx (putF "rows" (.ref ft) [("pointers", .ref pt), ("text", .str (CF.textOf fs)), ("lines", .ref ln)]))) := But.upd (o := (.ins D dx (putF "rows" (.ref ft) [("pointers", .ref pt), ("text", .str (CF.textOf fs)), ("lines", .ref ln)]))) _
  have b3 : But o H (upd H5 o (.ins D dx (putF "rows" (.ref ft) [("pointers", .ref pt), ("text", .str (CF.textOf fs)), ("lines", .ref ln)]))) := (b2.trans (But.of s5)).trans U2
  have hp3 := U2.tupI ho5 (s5.tup hp2)
  have hl3 := U2 _ _ lo (s5 _ _ hl2)
  have fo : ft ≠ o := fun z => by
    rw [z, ho5] at hft
    cases hft
  have hf3 := U2 _ _ fo hft
  have fat3 := fat.but U2 ho5 nCD
  have ho3 : (upd H5 o (.ins D dx (putF "rows" (.ref ft) [("pointers", .ref pt), ("text", .str (CF.textOf fs)), ("lines", .ref ln)]))) o = some (.ins D dx [("pointers", .ref pt), ("text", .str (CF.textOf fs)), ("lines", .ref ln), ("rows", .ref ft)]) := upd_same
  generalize upd H5 o (.ins D dx (putF "rows" (.ref ft) [("pointers", .ref pt), ("text", .str (CF.textOf fs)), ("lines", .ref ln)])) = H6 at b3 hp3 hl3 hf3 fat3 ho3 ⊢
  -- far
  refine ⟨_, rfl, o, D, dx, _, .ref ft, rfl, ho3, DC.cl, DC.n_rows, rfl, ft, os, fs, ps, rfl, SqT.of hf3, fat3, ok, by omega, fun H7 s7 => ⟨_, rfl, o, D, dx, _, rfl, s7 _ _ ho3, DC.cl, DC.n_far, lt _ (Nat.le_of_ble_eq_true rfl), ?_⟩⟩
  have ho7 := s7 _ _ ho3
  have U3 : But o H7 (upd H7 o (.ins D dx (putF "far" (.int (CF.farOf fs)) [("pointers", .ref pt), ("text", .str (CF.textOf fs)), ("lines", .ref ln), ("rows", .ref ft)]))) := But.upd (o := (.ins D dx (putF "far" (.int (CF.farOf fs)) [("pointers", .ref pt), ("text", .str (CF.textOf fs)), ("lines", .ref ln), ("rows", .ref ft)]))) _
  have b4 : But o H (upd H7 o (.ins D dx (putF "far" (.int (CF.farOf fs)) [("pointers", .ref pt), ("text", .str (CF.textOf fs)), ("lines", .ref ln), ("rows", .ref ft)]))) := (b3.trans (But.of s7)).trans U3
  have hp4 := U3.tupI ho7 (s7.tup hp3)
  have hl4 := U3 _ _ lo (s7 _ _ hl3)
  have hf4 := U3 _ _ fo (s7 _ _ hf3)
  have fat4 := (fat3.same s7).but U3 ho7 nCD
  have ho4 : (upd H7 o (.ins D dx (putF "far" (.int (CF.farOf fs)) [("pointers", .ref pt), ("text", .str (CF.textOf fs)), ("lines", .ref ln), ("rows", .ref ft)]))) o = some (.ins D dx [("pointers", .ref pt), ("text", .str (CF.textOf fs)), ("lines", .ref ln), ("rows", .ref ft), ("far", .int (CF.farOf fs))]) := upd_same
  generalize upd H7 o (.ins D dx (putF "far" (.int (CF.farOf fs)) [("pointers", .ref pt), ("text", .str (CF.textOf fs)), ("lines", .ref ln), ("rows", .ref ft)])) = H8 at b4 hp4 hl4 hf4 fat4 ho4 ⊢
  -- modulus
  refine ⟨_, rfl, o, D, dx, _, .ref ft, rfl, ho4, DC.cl, DC.n_rows, rfl, ft, os, fs, ps, rfl, SqT.of hf4, fat4, ok, by omega, fun H9 s9 => ⟨_, rfl, o, D, dx, _, rfl, s9 _ _ ho4, DC.cl, DC.n_modulus, lt _ (Nat.le_of_ble_eq_true rfl), ?_⟩⟩
  have ho9 := s9 _ _ ho4
  have U4 : But o H9 (upd H9 o (.ins D dx (cfields pt ln ft (CF.textOf fs) (CF.farOf fs) (CF.modOf fs)))) := But.upd _
  exact k pt ln ft os _ ((b4.trans (But.of s9)).trans U4) upd_same (U4.tupI ho9 (s9.tup hp4)) (U4 _ _ lo (s9 _ _ hl4)) (U4 _ _ fo (s9 _ _ hf4)) ((fat4.same s9).but U4 ho9 nCD)
end
end K03
end
section
set_option Elab.async false
set_option linter.all false
set_option maxRecDepth 100000
set_option maxHeartbeats 4000000
namespace K03
open PySem PySem.Spec PyProof.Rows L2
open PySem.W (ke_shaped_ints)
local macro_rules | `(tactic| walk_at "go") => `(tactic| first | refine ⟨_, rfl, ?_⟩ | refine .inl ⟨_, rfl, ?_⟩ | refine ⟨_, _, rfl, rfl, (by first | (show (0 : Int) < _; decide) | exact Or.inl ⟨by decide, by decide⟩ | exact Or.inr ⟨by decide, by decide⟩), ?_⟩ | refine ⟨_, _, rfl, rfl, ?_⟩)
section
variable {P : Program} {w : World} {K : PySem.W.Frag} {mg : Str → Option Value} {base : Heap}

theorem fit2 {x y : Str} {a b : Nat} (hx : x.length ≤ a) (hy : y.length ≤ b) : (x ++ y).length ≤ a + b := by
  rw [len_app]
  omega
theorem fit_line {x : Str} {a : Nat} (h : x.length ≤ a) (ha : a ≤ 1000000) : x.length ≤ sizeLine := by
  rw [sizeLine_eq]
  omega
/-- what a field's value must be, so that the error's text can be written -/
def okI (x : V) (_ : Hp) : Prop := ∃ i : Int, x = .int i ∧ i.natAbs.log2 < 1920
def okS (x : V) (_ : Hp) : Prop := ∃ y : Str, x = .str y ∧ y.length ≤ 200
def okT (K : PySem.W.Frag) (x : V) (H : Hp) : Prop := ∃ (q : Addr) (l : List Int), x = .ref q ∧ SqT K H q (l.map V.int) ∧ (∀ i ∈ l, i.natAbs.log2 < 1920) ∧ l.length ≤ 100
/-- C.__init__(self, x): the field f is kept -/
def spIni (C : Addr) (f : Str) (ok : V → Hp → Prop) : Sp := fun vs H Q _ => ∃ (a : Addr) (x : V), vs = [.ref a, x] ∧ H a = some (exo a C none) ∧ ok x H ∧ ∀ dx, H dx = none → dx ≠ a → Q .non (upd (upd H dx (exd dx [(f, x)])) a (exo a C (some dx)))
def spIni0 (C : Addr) : Sp := fun vs H Q _ => ∃ a : Addr, vs = [.ref a] ∧ H a = some (exo a C none) ∧ Q .non H
/-- the base of the errors, as the top has made it -/
structure TxtE (K : PySem.W.Frag) (mg : Str → Option Value) (B : Addr) : Prop where
  f_tuple : mg "tuple" = none
  g_PartlyError : mg "PartlyError" = some (.ref B)
  r_PartlyError : ClX.CRead K B (.type "type")
  i_PartlyError : PySem.W.findCls K (.ref B) (.type "type") "__init__" = some (.val (.builtin "ValueError.__init__"))



abbrev s_BadPointers : Stmt := inClass (topS 7) 0
theorem sc_BadPointers : FnScope ["self", "index"] ["self", "index"] (defScope s_BadPointers) := ⟨rfl, rfl, rfl, by decide +kernel, rfl, by decide +kernel, by decide +kernel⟩
theorem ok_BadPointers {B C f : Addr} {fd : FuncData} (T : TxtE K mg B) (F : FunD K "__init__" "BadPointers.__init__" (defArgs s_BadPointers) (defBody s_BadPointers) (defScope s_BadPointers) [] [] f fd) (O : OexC K C) (hno : PySem.W.findIn K (.ref C) "index" = some none) : FnOk P w K mg base CX0 1 f fd ["self", "index"] (spIni C "index" okI) := by
  refine F.ok sc_BadPointers (fun vs H Q E h => by obtain ⟨a, x, rfl, _⟩ := h; rfl) (fun cdv A outer s H vs Q E hr h => ?_)
  suffices z : ∃ t, PSs (cxOf CX0 P w K mg base ["self", "index"] "BadPointers.__init__" (defScope s_BadPointers) f cdv A outer s H E).nox (defBody s_BadPointers) t ∧ t { nx := fun _ H' => Q .non H', rt := Q } (start ["self", "index"] vs) H by
    obtain ⟨t, h1, h2⟩ := z
    exact ⟨t, h1.nox, h2⟩

  obtain ⟨a, x, rfl, ha, ⟨i, rfl, hi⟩, k⟩ := h
  refine ⟨_, (pss_cons (ps_expr (pe_binit (by rfl) T.g_PartlyError T.r_PartlyError T.i_PartlyError (pa_cons (pv 0) (pa_cons (pe_joined (.cons pe_str (.cons (pe_fmt (pv 1)) (.cons pe_str .nil)))) pa_nil))))
      (pss_one (ps_ost (pv 0) (pv 1)))), ?_⟩
  refine ⟨_, rfl, _, rfl, fit_line (a := 1000) (by decide +kernel) (by decide), _, rfl, .inr ⟨i, rfl, hi, _, rfl, fit_line (fit2 (a := 1000) (by decide +kernel) (int_text_len_1921 hi)) (by decide), _, rfl, fit_line (fit2 (fit2 (a := 1000) (by decide +kernel) (int_text_len_1921 hi)) (b := 1000) (by decide +kernel)) (by decide), a, C, _, rfl, (by show 1 ≤ 1000; decide), O, ha, ?_⟩⟩
  exact ⟨_, rfl, _, rfl, a, C, rfl, O, hno, .inl ⟨ha, k⟩⟩


abbrev s_BadContract : Stmt := inClass (topS 8) 0
theorem sc_BadContract : FnScope ["self", "line"] ["self", "line"] (defScope s_BadContract) := ⟨rfl, rfl, rfl, by decide +kernel, rfl, by decide +kernel, by decide +kernel⟩
theorem ok_BadContract {B C f : Addr} {fd : FuncData} (T : TxtE K mg B) (F : FunD K "__init__" "BadContract.__init__" (defArgs s_BadContract) (defBody s_BadContract) (defScope s_BadContract) [] [] f fd) (O : OexC K C) (hno : PySem.W.findIn K (.ref C) "line" = some none) : FnOk P w K mg base CX0 1 f fd ["self", "line"] (spIni C "line" okI) := by
  refine F.ok sc_BadContract (fun vs H Q E h => by obtain ⟨a, x, rfl, _⟩ := h; rfl) (fun cdv A outer s H vs Q E hr h => ?_)
  suffices z : ∃ t, PSs (cxOf CX0 P w K mg base ["self", "line"] "BadContract.__init__" (defScope s_BadContract) f cdv A outer s H E).nox (defBody s_BadContract) t ∧ t { nx := fun _ H' => Q .non H', rt := Q } (start ["self", "line"] vs) H by
    obtain ⟨t, h1, h2⟩ := z
    exact ⟨t, h1.nox, h2⟩

  obtain ⟨a, x, rfl, ha, ⟨i, rfl, hi⟩, k⟩ := h
  refine ⟨_, (pss_cons (ps_expr (pe_binit (by rfl) T.g_PartlyError T.r_PartlyError T.i_PartlyError (pa_cons (pv 0) (pa_cons (pe_joined (.cons pe_str (.cons (pe_fmt (pv 1)) (.cons pe_str .nil)))) pa_nil))))
      (pss_one (ps_ost (pv 0) (pv 1)))), ?_⟩
  refine ⟨_, rfl, _, rfl, fit_line (a := 1000) (by decide +kernel) (by decide), _, rfl, .inr ⟨i, rfl, hi, _, rfl, fit_line (fit2 (a := 1000) (by decide +kernel) (int_text_len_1921 hi)) (by decide), _, rfl, fit_line (fit2 (fit2 (a := 1000) (by decide +kernel) (int_text_len_1921 hi)) (b := 1000) (by decide +kernel)) (by decide), a, C, _, rfl, (by show 1 ≤ 1000; decide), O, ha, ?_⟩⟩
  exact ⟨_, rfl, _, rfl, a, C, rfl, O, hno, .inl ⟨ha, k⟩⟩


abbrev s_BadPlaces : Stmt := inClass (topS 9) 0
theorem sc_BadPlaces : FnScope ["self"] ["self"] (defScope s_BadPlaces) := ⟨rfl, rfl, rfl, by decide +kernel, rfl, by decide +kernel, by decide +kernel⟩
theorem ok_BadPlaces {B C f : Addr} {fd : FuncData} (T : TxtE K mg B) (F : FunD K "__init__" "BadPlaces.__init__" (defArgs s_BadPlaces) (defBody s_BadPlaces) (defScope s_BadPlaces) [] [] f fd) (O : OexC K C) : FnOk P w K mg base CX0 1 f fd ["self"] (spIni0 C) := by
  refine F.ok sc_BadPlaces (fun vs H Q E h => by obtain ⟨a, rfl, _⟩ := h; rfl) (fun cdv A outer s H vs Q E hr h => ?_)
  suffices z : ∃ t, PSs (cxOf CX0 P w K mg base ["self"] "BadPlaces.__init__" (defScope s_BadPlaces) f cdv A outer s H E).nox (defBody s_BadPlaces) t ∧ t { nx := fun _ H' => Q .non H', rt := Q } (start ["self"] vs) H by
    obtain ⟨t, h1, h2⟩ := z
    exact ⟨t, h1.nox, h2⟩

  obtain ⟨a, rfl, ha, k⟩ := h
  refine ⟨_, (pss_one (ps_expr (pe_binit (by rfl) T.g_PartlyError T.r_PartlyError T.i_PartlyError (pa_cons (pv 0) (pa_cons pe_str pa_nil))))), ?_⟩
  exact ⟨_, rfl, a, C, _, rfl, by decide, O, ha, k⟩


abbrev s_OtherPointers : Stmt := inClass (topS 10) 0
theorem sc_OtherPointers : FnScope ["self"] ["self"] (defScope s_OtherPointers) := ⟨rfl, rfl, rfl, by decide +kernel, rfl, by decide +kernel, by decide +kernel⟩
theorem ok_OtherPointers {B C f : Addr} {fd : FuncData} (T : TxtE K mg B) (F : FunD K "__init__" "OtherPointers.__init__" (defArgs s_OtherPointers) (defBody s_OtherPointers) (defScope s_OtherPointers) [] [] f fd) (O : OexC K C) : FnOk P w K mg base CX0 1 f fd ["self"] (spIni0 C) := by
  refine F.ok sc_OtherPointers (fun vs H Q E h => by obtain ⟨a, rfl, _⟩ := h; rfl) (fun cdv A outer s H vs Q E hr h => ?_)
  suffices z : ∃ t, PSs (cxOf CX0 P w K mg base ["self"] "OtherPointers.__init__" (defScope s_OtherPointers) f cdv A outer s H E).nox (defBody s_OtherPointers) t ∧ t { nx := fun _ H' => Q .non H', rt := Q } (start ["self"] vs) H by
    obtain ⟨t, h1, h2⟩ := z
    exact ⟨t, h1.nox, h2⟩

  obtain ⟨a, rfl, ha, k⟩ := h
  refine ⟨_, (pss_one (ps_expr (pe_binit (by rfl) T.g_PartlyError T.r_PartlyError T.i_PartlyError (pa_cons (pv 0) (pa_cons pe_str pa_nil))))), ?_⟩
  exact ⟨_, rfl, a, C, _, rfl, by decide, O, ha, k⟩



/-- an error of the package, as a class that is made -/
structure ExK (P : Program) (w : World) (K : PySem.W.Frag) (mg : Str → Option Value) (base : Heap) (x : Str) (ps : List Str) (sp : Sp) : Prop where
  o : OexC K (He.ga K x)
  g : mg x = some (.ref (He.ga K x))
  ex : ∃ f fd, FnOk P w K mg base CX0 1 f fd ps sp ∧ Binds K fd ps [] ∧ PySem.W.findIn K (.ref (He.ga K x)) "__init__" = some (some (.ref f)) ∧ PySem.W.typeIn K (.ref f) = some (.type "function")
section
variable {X : Cx} {x : Str} {ps : List Str} {sp : Sp} {e : Expr} {es : List Expr} {ta : TA} {p pos : Pos}
theorem pmk_ek0 (M : ExK X.prog X.w X.K X.mg X.base x ps sp) (hr : Room 2 X.A) (hg : Gl X x) (hdb : (x == ("__debug__" : Str)) = false := by decide) : PMk X (.Call (.Name x p) [] [] pos) (tMkN (He.ga X.K x) sp) := by
  obtain ⟨f, fd, F1, b, i, t⟩ := M.ex
  exact pmk_oexN M.o i t F1 hr b pass0 hg M.g hdb
theorem pmk_ek1 (M : ExK X.prog X.w X.K X.mg X.base x ps sp) (hr : Room 2 X.A) (hg : Gl X x) (ha : PA X (e :: es) ta) (hdb : (x == ("__debug__" : Str)) = false := by decide)
    (he : starEach (e :: es) X.env = (false, eval e X.env) :: starEach es X.env := by rfl) (hpl : (backTo pos (starEach es X.env)).any (·.1) = false := by rfl) : PMk X (.Call (.Name x p) (e :: es) [] pos) (tMkO (He.ga X.K x) sp [] ta) := by
  obtain ⟨f, fd, F1, b, i, t⟩ := M.ex
  exact pmk_oex M.o i t F1 hr b .nil pass0 hg M.g ha hdb he hpl
end
end
end K03
end
section
set_option Elab.async false
set_option linter.all false
set_option maxRecDepth 100000
set_option maxHeartbeats 4000000
namespace K03
open PySem PySem.Spec PyProof.Rows L2
open PySem.W (ke_shaped_ints)
local macro_rules | `(tactic| walk_at "go") => `(tactic| first | refine ⟨_, rfl, ?_⟩ | refine .inl ⟨_, rfl, ?_⟩ | refine ⟨_, _, rfl, rfl, (by first | (show (0 : Int) < _; decide) | exact Or.inl ⟨by decide, by decide⟩ | exact Or.inr ⟨by decide, by decide⟩), ?_⟩ | refine ⟨_, _, rfl, rfl, ?_⟩)
section
variable {P : Program} {w : World} {K : PySem.W.Frag} {mg : Str → Option Value} {base : Heap}

theorem rix_of {K : PySem.W.Frag} {H : Hp} {a : Addr} {xs : List V} {j : Nat} {v : V} {Q : VK} (h : SqL K H a xs ∨ SqT K H a xs) (e : xs[j]? = some v) (q : Q v H) : rIx K (.ref a) (.int (j : Nat)) H Q := by
  rcases h with h | h
  · exact .inl ⟨a, xs, _, v, rfl, rfl, h, atI_nat e, q⟩
  · exact .inr (.inl ⟨a, xs, _, v, rfl, rfl, h, atI_nat e, q⟩)
theorem int_at {zs : List Int} {j : Nat} {z : Int} (h : zs[j]? = some z) : (zs.map V.int)[j]? = some (.int z) := by rw [List.getElem?_map, h]; rfl
/-- fact.holds(places) -/
def spHolds (K : PySem.W.Frag) (C : Addr) : Sp := fun vs H Q _ => ∃ (o a : Addr) (ps : List Str) (f : CF.FD) (zs : List Int), vs = [.ref o, .ref a] ∧ FactAt K C H ps o f ∧ f.Ok ps ∧ ps.Nodup ∧ (SqL K H a (zs.map V.int) ∨ SqT K H a (zs.map V.int)) ∧ zs.length = ps.length ∧ Q (.bl (f.val (CF.look ps zs))) H

abbrev s_Fact_holds : Stmt := inClass (topS 29) 1
theorem sc_Fact_holds : FnScope ["self", "places", "one", "ahead", "many", "other", "behind", "most", "start", "begin", "distance"] ["self", "places"] (defScope s_Fact_holds) := ⟨rfl, rfl, rfl, by decide +kernel, rfl, by decide +kernel, by decide +kernel⟩
theorem ok_holds {C f : Addr} {fd : FuncData} (T : TxtP K mg) (FC : FactC K C) (F : FunD K "holds" "Fact.holds" (defArgs s_Fact_holds) (defBody s_Fact_holds) (defScope s_Fact_holds) [] [] f fd) : FnOk P w K mg base CX0 1 f fd ["self", "places"] (spHolds K C) := by
  refine F.ok sc_Fact_holds (fun vs H Q E h => by obtain ⟨o, a, ps, f, zs, rfl, _⟩ := h; rfl) (fun cdv A outer s H vs Q E hr h => ?_)
  suffices z : ∃ t, PSs (cxOf CX0 P w K mg base ["self", "places", "one", "ahead", "many", "other", "behind", "most", "start", "begin", "distance"] "Fact.holds" (defScope s_Fact_holds) f cdv A outer s H E).nox (defBody s_Fact_holds) t ∧ t { nx := fun _ H' => Q .non H', rt := Q } (start ["self", "places", "one", "ahead", "many", "other", "behind", "most", "start", "begin", "distance"] vs) H by
    obtain ⟨t, h1, h2⟩ := z
    exact ⟨t, h1.nox, h2⟩
  obtain ⟨o, a, ps, fc, zs, rfl, ⟨dx, nm, sp, v1, v2, ho, hnm, he⟩, ok, nd, hz, zl, k⟩ := h
  refine ⟨_, (pss_cons (ps_if (pt_cmpR op_eq (pe_fld (pv 0) rfl) pe_str (nomark _)) (pss_cons (ps_asg (pe_fld (pv 0) rfl) (pg_tup rfl (pgs_cons (pg_tup rfl (pgs_cons (pg_name (i := 2) sc_Fact_holds.nd rfl (by first | exact Or.inl rfl | exact Or.inr rfl)) (pgs_cons (pg_name (i := 3) sc_Fact_holds.nd rfl (by first | exact Or.inl rfl | exact Or.inr rfl)) (pgs_cons (pg_name (i := 4) sc_Fact_holds.nd rfl (by first | exact Or.inl rfl | exact Or.inr rfl)) pgs_nil)))) (pgs_cons (pg_tup rfl (pgs_cons (pg_name (i := 5) sc_Fact_holds.nd rfl (by first | exact Or.inl rfl | exact Or.inr rfl)) (pgs_cons (pg_name (i := 6) sc_Fact_holds.nd rfl (by first | exact Or.inl rfl | exact Or.inr rfl)) (pgs_cons (pg_name (i := 7) sc_Fact_holds.nd rfl (by first | exact Or.inl rfl | exact Or.inr rfl)) pgs_nil)))) pgs_nil))))
      (pss_cons (ps_par (i := 8) (j := 9) (by rfl) sc_Fact_holds.nd rfl rfl (by decide) rfl rfl (pa_cons (pe_op op_add (pe_ix ix_seq (pv 1) (pv 2) (fun _ _ => rfl)) (pv 3)) (pa_cons (pe_op op_add (pe_ix ix_seq (pv 1) (pv 5) (fun _ _ => rfl)) (pv 6)) pa_nil)) (by rfl))
      (pss_one (ps_ret (pe_or (pe_cmpR op_le (pe_op op_add (pv 8) (pv 4)) (pv 9) (nomark _)) (pe_one (pe_cmpR op_le (pe_op op_add (pv 9) (pv 7)) (pv 8) (nomark _)))))))) pss_nil)
      (pss_cons (ps_set (i := 10) sc_Fact_holds.nd rfl (by first | exact Or.inl rfl | exact Or.inr rfl) (pe_ix ix_seq (pv 1) (pe_fld (pv 0) rfl) (fun _ _ => rfl)))
      (C8.pss_cut (ps_if (pt_cmpR op_notN (pe_fld (pv 0) rfl) pe_non (nomark _)) (pss_one (ps_set (i := 10) sc_Fact_holds.nd rfl (by first | exact Or.inl rfl | exact Or.inr rfl) (pe_op op_sub (pv 10) (pe_ix ix_seq (pv 1) (pe_fld (pv 0) rfl) (fun _ _ => rfl))))) pss_nil)
      (pss_cons (ps_if (pt_cmpR op_eq (pe_fld (pv 0) rfl) pe_str (nomark _)) (pss_one (ps_ret (pe_cmpR op_eq (pe_op op_mod (pv 10) (pe_ix ix_tup (pe_fld (pv 0) rfl) pe_int (fun _ _ => rfl))) (pe_ix ix_tup (pe_fld (pv 0) rfl) pe_int (fun _ _ => rfl)) (nomark _)))) pss_nil)
      (pss_cons (ps_if (pt_cmpR op_eq (pe_fld (pv 0) rfl) pe_str (nomark _)) (pss_one (ps_ret (pe_cmpR op_ge (pv 10) (pe_ix ix_tup (pe_fld (pv 0) rfl) pe_int (fun _ _ => rfl)) (nomark _)))) pss_nil)
      (pss_cons (ps_if (pt_cmpR op_eq (pe_fld (pv 0) rfl) pe_str (nomark _)) (pss_one (ps_ret (pe_cmpR op_le (pv 10) (pe_ix ix_tup (pe_fld (pv 0) rfl) pe_int (fun _ _ => rfl)) (nomark _)))) pss_nil)
      (pss_one (ps_ret (pe_cmpR op_eq (pv 10) (pe_ix ix_tup (pe_fld (pv 0) rfl) pe_int (fun _ _ => rfl)) (nomark _)))))))))), ?_⟩
  refine ⟨_, rfl, o, C, dx, _, .str fc.key, rfl, ho, FC.cl, FC.n_word, rfl, rfl, _, rfl, ?_⟩
  have fl : ∀ {i : Nat} {z : Str}, ps[i]? = some z → (zs.map V.int)[i]? = some (.int (CF.look ps zs z)) := fun h => int_at (CF.look_at nd zl h)
  cases fc with
  | apart x k1 n y e1 c =>
    obtain ⟨i, j, q1, q2, s1, s2, hi, hj, rfl, rfl, a5, a6, a7, a8, a9⟩ := he
    refine ite2 (fun _ => ?_) (fun c => absurd (decide_eq_true rfl) c)
    refine ⟨_, rfl, o, C, dx, _, .ref sp, rfl, ho, FC.cl, FC.n_spans, rfl, ?_⟩
    refine ⟨sp, _, rfl, SqT.of a9, rfl, _, _, rfl, s1, _, rfl, SqT.of a7, rfl, _, _, rfl, _, _, rfl, _, _, rfl, rfl, _, _, rfl, s2, _, rfl, SqT.of a8, rfl, _, _, rfl, _, _, rfl, _, _, rfl, rfl, rfl, ?_⟩
    refine ⟨_, rfl, _, rfl, rix_of hz (fl hi) ?_⟩
    refine ⟨_, rfl, _, _, rfl, rfl, ?_⟩
    refine ⟨_, rfl, _, rfl, rix_of hz (fl hj) ?_⟩
    refine ⟨_, rfl, _, _, rfl, rfl, ?_⟩
    refine ⟨_, _, rfl, _, rfl, _, rfl, _, _, rfl, rfl, _, rfl, _, _, rfl, rfl, _, rfl, ite2 (fun c1 => ?_) (fun c1 => ?_)⟩
    · have e : CF.FD.val (CF.look ps zs) (.apart x k1 n y e1 c) = true := by
        simp only [CF.FD.val]
        rw [c1]
        rfl
      rw [e] at k
      exact k
    · refine ⟨_, rfl, _, rfl, _, _, rfl, rfl, _, rfl, _, _, rfl, rfl, ?_⟩
      have e : CF.FD.val (CF.look ps zs) (.apart x k1 n y e1 c) = decide (CF.look ps zs y + e1 + c ≤ CF.look ps zs x + k1) := by
        simp only [CF.FD.val]
        rw [Bool.eq_false_iff.mpr c1]
        rfl
      rw [e] at k
      exact k
  | by_ x m r =>
    obtain ⟨rfl, j, hj, rfl⟩ := he
    obtain ⟨_, hm, _⟩ := ok
    refine ite2 (fun c => absurd (V.str.inj (of_decide_eq_true c)) (show ("by" : Str) ≠ "apart" by decide)) (fun _ => ?_)
    refine ⟨_, rfl, _, rfl, o, C, dx, _, .int (j : Nat), rfl, ho, FC.cl, FC.n_right, rfl, rix_of hz (fl hj) ?_⟩
    refine ⟨fun σ' H' => σ' = [some (.ref o), some (.ref a), none, none, none, none, none, none, none, none, some (.int (CF.look ps zs x))] ∧ H' = H, ?_, ?_⟩
    · refine ⟨_, rfl, o, C, dx, _, .non, rfl, ho, FC.cl, FC.n_left, rfl, rfl, _, rfl, ite2 (fun c => absurd c (by decide +kernel)) (fun _ => ⟨rfl, rfl⟩)⟩
    rintro σ' H' ⟨rfl, rfl⟩
    refine ⟨_, rfl, o, C, dx, _, .str "by", rfl, ho, FC.cl, FC.n_word, rfl, rfl, _, rfl, ite2 (fun _ => ?_) (fun c => absurd (decide_eq_true rfl) c)⟩
    refine ⟨_, rfl, _, rfl, o, C, dx, _, .ref nm, rfl, ho, FC.cl, FC.n_numbers, rfl, nm, _, 0, _, rfl, rfl, hnm, rfl, _, _, rfl, rfl, by omega, ?_⟩
    refine ⟨_, rfl, o, C, dx, _, .ref nm, rfl, ho, FC.cl, FC.n_numbers, rfl, nm, _, 1, _, rfl, rfl, hnm, rfl, rfl, ?_⟩
    have e : decide (V.int (CF.look ps zs x % m) = V.int r) = CF.FD.val (CF.look ps zs) (.by_ x m r) := decide_eq_decide.mpr ⟨V.int.inj, fun e => by rw [e]⟩
    rw [e]
    exact k
  | gap x y m r =>
    obtain ⟨i, j, hi, hj, rfl, rfl⟩ := he
    obtain ⟨_, _, _, hm, _⟩ := ok
    refine ite2 (fun c => absurd (V.str.inj (of_decide_eq_true c)) (show ("by" : Str) ≠ "apart" by decide)) (fun _ => ?_)
    refine ⟨_, rfl, _, rfl, o, C, dx, _, .int (j : Nat), rfl, ho, FC.cl, FC.n_right, rfl, rix_of hz (fl hj) ?_⟩
    refine ⟨fun σ' H' => σ' = [some (.ref o), some (.ref a), none, none, none, none, none, none, none, none, some (.int (CF.look ps zs y - CF.look ps zs x))] ∧ H' = H, ?_, ?_⟩
    · refine ⟨_, rfl, o, C, dx, _, .int (i : Nat), rfl, ho, FC.cl, FC.n_left, rfl, rfl, _, rfl, ite2 (fun _ => ?_) (fun c => absurd rfl c)⟩
      exact ⟨_, rfl, _, rfl, _, rfl, o, C, dx, _, .int (i : Nat), rfl, ho, FC.cl, FC.n_left, rfl, rix_of hz (fl hi) ⟨_, _, rfl, rfl, rfl, rfl⟩⟩
    rintro σ' H' ⟨rfl, rfl⟩
    refine ⟨_, rfl, o, C, dx, _, .str "by", rfl, ho, FC.cl, FC.n_word, rfl, rfl, _, rfl, ite2 (fun _ => ?_) (fun c => absurd (decide_eq_true rfl) c)⟩
    refine ⟨_, rfl, _, rfl, o, C, dx, _, .ref nm, rfl, ho, FC.cl, FC.n_numbers, rfl, nm, _, 0, _, rfl, rfl, hnm, rfl, _, _, rfl, rfl, by omega, ?_⟩
    refine ⟨_, rfl, o, C, dx, _, .ref nm, rfl, ho, FC.cl, FC.n_numbers, rfl, nm, _, 1, _, rfl, rfl, hnm, rfl, rfl, ?_⟩
    have e : decide (V.int ((CF.look ps zs y - CF.look ps zs x) % m) = V.int r) = CF.FD.val (CF.look ps zs) (.gap x y m r) := decide_eq_decide.mpr ⟨V.int.inj, fun e => by rw [e]⟩
    rw [e]
    exact k
  | dist w0 x y n =>
    obtain ⟨i, j, hi, hj, rfl, rfl⟩ := he
    obtain ⟨hw, _, _, _, _, _⟩ := ok
    have hw3 : w0 = "from" ∨ w0 = "upto" ∨ w0 = "is" := by
      simp only [CF.Sorts, List.mem_cons, List.not_mem_nil, or_false] at hw
      exact hw
    refine ite2 (fun c => absurd (V.str.inj (of_decide_eq_true c)) (show w0 ≠ "apart" by rcases hw3 with rfl | rfl | rfl <;> decide +kernel)) (fun _ => ?_)
    refine ⟨_, rfl, _, rfl, o, C, dx, _, .int (j : Nat), rfl, ho, FC.cl, FC.n_right, rfl, rix_of hz (fl hj) ?_⟩
    refine ⟨fun σ' H' => σ' = [some (.ref o), some (.ref a), none, none, none, none, none, none, none, none, some (.int (CF.look ps zs y - CF.look ps zs x))] ∧ H' = H, ?_, ?_⟩
    · refine ⟨_, rfl, o, C, dx, _, .int (i : Nat), rfl, ho, FC.cl, FC.n_left, rfl, rfl, _, rfl, ite2 (fun _ => ?_) (fun c => absurd rfl c)⟩
      exact ⟨_, rfl, _, rfl, _, rfl, o, C, dx, _, .int (i : Nat), rfl, ho, FC.cl, FC.n_left, rfl, rix_of hz (fl hi) ⟨_, _, rfl, rfl, rfl, rfl⟩⟩
    rintro σ' H' ⟨rfl, rfl⟩
    refine ⟨_, rfl, o, C, dx, _, .str w0, rfl, ho, FC.cl, FC.n_word, rfl, rfl, _, rfl, ite2 (fun c => absurd (V.str.inj (of_decide_eq_true c)) (by rcases hw3 with rfl | rfl | rfl <;> decide +kernel)) (fun _ => ?_)⟩
    refine ⟨_, rfl, o, C, dx, _, .str w0, rfl, ho, FC.cl, FC.n_word, rfl, rfl, _, rfl, ?_⟩
    have num0 : ∀ (Q : VK), Q (.int n) H' → ∃ v1, v1 = v1 ∧ Q (.int n) H' := fun Q h => ⟨(), rfl, h⟩
    simp only [CF.FD.val] at k
    by_cases h1 : w0 = "from"
    · rw [if_pos h1] at k
      rw [decide_eq_true (by rw [h1])]
      refine iteT ⟨_, rfl, _, rfl, o, C, dx, _, .ref nm, rfl, ho, FC.cl, FC.n_numbers, rfl, nm, _, 0, _, rfl, rfl, hnm, rfl, _, _, rfl, rfl, ?_⟩
      exact k
    · rw [if_neg h1] at k
      rw [decide_eq_false (fun e => h1 (V.str.inj e))]
      refine iteF ?_
      refine ⟨_, rfl, o, C, dx, _, .str w0, rfl, ho, FC.cl, FC.n_word, rfl, rfl, _, rfl, ?_⟩
      by_cases h2 : w0 = "upto"
      · rw [if_pos h2] at k
        rw [decide_eq_true (by rw [h2])]
        refine iteT ⟨_, rfl, _, rfl, o, C, dx, _, .ref nm, rfl, ho, FC.cl, FC.n_numbers, rfl, nm, _, 0, _, rfl, rfl, hnm, rfl, _, _, rfl, rfl, ?_⟩
        exact k
      · rw [if_neg h2] at k
        rw [decide_eq_false (fun e => h2 (V.str.inj e))]
        refine iteF ⟨_, rfl, _, rfl, o, C, dx, _, .ref nm, rfl, ho, FC.cl, FC.n_numbers, rfl, nm, _, 0, _, rfl, rfl, hnm, rfl, rfl, ?_⟩
        have e : decide (V.int (CF.look ps zs y - CF.look ps zs x) = V.int n) = decide (CF.look ps zs y - CF.look ps zs x = n) := decide_eq_decide.mpr ⟨V.int.inj, fun e => by rw [e]⟩
        rw [e]
        exact k
end
end K03
end
section
set_option Elab.async false
set_option linter.all false
set_option maxRecDepth 100000
set_option maxHeartbeats 4000000
namespace K03
open PySem PySem.Spec PyProof.Rows L2
open PySem.W (ke_shaped_ints)
local macro_rules | `(tactic| walk_at "go") => `(tactic| first | refine ⟨_, rfl, ?_⟩ | refine .inl ⟨_, rfl, ?_⟩ | refine ⟨_, _, rfl, rfl, (by first | (show (0 : Int) < _; decide) | exact Or.inl ⟨by decide, by decide⟩ | exact Or.inr ⟨by decide, by decide⟩), ?_⟩ | refine ⟨_, _, rfl, rfl, ?_⟩)
section
variable {P : Program} {w : World} {K : PySem.W.Frag} {mg : Str → Option Value} {base : Heap}

theorem del_upd {H : Hp} {a : Addr} {o : HO} (h : H a = none) : del (upd H a o) a = H := by
  funext b
  by_cases e : b = a
  · rw [e, del_same, h]
  · rw [del_ne e, upd_ne e]
/-- check_places(pointers, places) -/
def spCheck (K : PySem.W.Frag) : Sp := fun vs H Q E => ∃ (pa a : Addr) (xs ys : List V), vs = [.ref pa, .ref a] ∧ SqT K H pa xs ∧ (SqL K H a ys ∨ SqT K H a ys) ∧ ((ys.length = xs.length ∧ Q .non H) ∨ (ys.length ≠ xs.length ∧ E (.ref (He.ga K "BadPlaces")) none H))
theorem lenV_seq {K : PySem.W.Frag} {H : Hp} {a : Addr} {xs : List V} (h : SqL K H a xs ∨ SqT K H a xs) : LenV K (.ref a) H xs.length := h.elim (fun h => .inl ⟨xs, h, rfl⟩) fun h => .inr ⟨xs, h, rfl⟩

abbrev s_check_places : Stmt := topS 21
theorem sc_check_places : FnScope ["pointers", "places"] ["pointers", "places"] (defScope s_check_places) := ⟨rfl, rfl, rfl, by decide +kernel, rfl, by decide +kernel, by decide +kernel⟩
theorem ok_check_places (T : TxtP K mg) (D : Def K mg "check_places" s_check_places) (E_BadPlaces : ExK P w K mg base "BadPlaces" ["self"] (spIni0 (He.ga K "BadPlaces"))) : CalX P w K mg base 3 "check_places" ["pointers", "places"] (spCheck K) := by
  refine D.calX sc_check_places (fun vs H Q E h => ?_) (fun _ _ _ _ _ _ us hl => match us, hl with | [_, _], _ => rfl) (fun f cdv A outer s H vs Q E hr h => ?_)
  · obtain ⟨pa, a, xs, ys, rfl, _⟩ := h
    rfl
  have hu := hu_of hr

  obtain ⟨pa, a, xs, ys, rfl, hx, hy, alt⟩ := h
  refine ⟨_, (pss_one (ps_if (pt_cmpR op_ne (pe_callB call_len (by rfl) T.f_len PySem.boot_len (pa_cons (pv 1) pa_nil)) (pe_callB call_len (by rfl) T.f_len PySem.boot_len (pa_cons (pv 0) pa_nil)) (nomark _)) (pss_one (ps_raise rfl (takes_of rfl rfl rfl rfl) (pmk_ek0 E_BadPlaces (hr.mono (by decide)) rfl))) pss_nil)), ?_⟩
  refine ⟨_, rfl, _, _, rfl, lenV_seq hy, _, rfl, _, _, rfl, .inr ⟨_, hx, rfl⟩, rfl, _, rfl, ?_⟩
  rcases alt with ⟨e, k⟩ | ⟨ne, k⟩
  · rw [show (!decide (V.int (ys.length : Nat) = V.int (xs.length : Nat))) = false by rw [e]; simp]
    exact iteF k
  · rw [show (!decide (V.int (ys.length : Nat) = V.int (xs.length : Nat))) = true by
      rw [decide_eq_false (fun z => ne (by have := V.int.inj z; omega))]
      rfl]
    refine iteT fun e he => ⟨e, rfl, upd_same, rfl, upd_same, ?_⟩
    rw [del_upd he]
    exact k



/-- all_hold(facts, places) -/
def spAllHold (K : PySem.W.Frag) (C : Addr) : Sp := fun vs H Q _ => ∃ (ft a : Addr) (ps : List Str) (os : List Addr) (fs : List CF.FD) (zs : List Int), vs = [.ref ft, .ref a] ∧ SqT K H ft (os.map V.ref) ∧ FactsAt K C H ps os fs ∧ (∀ f ∈ fs, f.Ok ps) ∧ ps.Nodup ∧ (SqL K H a (zs.map V.int) ∨ SqT K H a (zs.map V.int)) ∧ zs.length = ps.length ∧ Q (.bl (CF.kept (CF.look ps zs) fs)) H
abbrev s_all_hold : Stmt := topS 34
theorem sc_all_hold : FnScope ["facts", "places", "fact"] ["facts", "places"] (defScope s_all_hold) := ⟨rfl, rfl, rfl, by decide +kernel, rfl, by decide +kernel, by decide +kernel⟩
theorem ok_all_hold (T : TxtP K mg) (D : Def K mg "all_hold" s_all_hold) {C : Addr} (M_holds : MthX P w K mg base CX0 1 C "holds" ["self", "places"] (spHolds K C)) : Cal P w K mg base 3 "all_hold" ["facts", "places"] (spAllHold K C) := by
  refine D.cal sc_all_hold (fun vs H Q E h => ?_) (fun _ _ _ _ _ _ us hl => match us, hl with | [_, _], _ => rfl) (fun f cdv A outer s H vs Q E hr h => ?_)
  · obtain ⟨ft, a, ps, os, fs, zs, rfl, _⟩ := h
    rfl
  have hu := hu_of hr

  obtain ⟨ft, a, ps, os, fs, zs, rfl, hT, fat, ok, nd, hz, zl, k⟩ := h
  refine ⟨_, (pss_cons (ps_for PassesOwn.never rfl (pi_tup (pv 0)) (pg_name (i := 2) sc_all_hold.nd rfl (by first | exact Or.inl rfl | exact Or.inr rfl)) (pss_one (ps_if (pt_not (pt_val (pe_mth M_holds (pv 2) (hr.mono (by decide)) pass0 (pa_cons (pv 1) pa_nil)))) (pss_one (ps_ret pe_bl)) pss_nil)))
      (pss_one (ps_ret pe_bl))), ?_⟩
  have ol : (os.map V.ref).length = os.length := List.length_map ..
  refine ⟨_, rfl, ft, rfl, ⟨_, hT⟩, for_it walk_tup (fun i σ H' => ∃ v, σ = [some (.ref ft), some (.ref a), v] ∧ H' = H ∧ ∀ f ∈ fs.take i, f.val (CF.look ps zs) = true) ⟨none, rfl, rfl, by simp⟩ (fun i σ H' _ ⟨_, _, e, _⟩ => e ▸ hT) ?_ ?_⟩
  · rintro i x σ H1 H2 hi ⟨v, rfl, rfl, al⟩ ⟨rfl, hx⟩
    rw [List.getElem?_map] at hx
    obtain ⟨o, ho, rfl⟩ := Option.map_eq_some_iff.mp hx
    have il : i < fs.length := by
      rw [ol, fat.1] at hi
      exact hi
    have hf : fs[i]? = some fs[i] := List.getElem?_eq_getElem il
    have fa := fat.2 i o _ ho hf
    obtain ⟨dx, nm, sp, v1, v2, g1, g2, g3⟩ := id fa
    refine ⟨_, rfl, o, dx, _, rfl, g1, rfl, _, rfl, o, a, ps, fs[i], zs, rfl, fa, ok _ (List.mem_of_getElem? hf), nd, hz, zl, _, rfl, ?_⟩
    cases e : CF.FD.val (CF.look ps zs) fs[i] with
    | true =>
      refine iteF ⟨_, rfl, rfl, fun f hm => ?_⟩
      rw [List.take_add_one, hf] at hm
      rcases List.mem_append.mp hm with h | h
      · exact al f h
      · rw [Option.toList_some, List.mem_singleton] at h
        rw [h]
        exact e
    | false =>
      refine iteT ?_
      have kf : CF.kept (CF.look ps zs) fs = false := by
        unfold CF.kept
        rw [List.all_eq_false]
        exact ⟨fs[i], List.mem_of_getElem? hf, by rw [e]; decide⟩
      rw [kf] at k
      exact k
  · rintro σ H1 ⟨v, rfl, rfl, al⟩
    rw [ol, fat.1, List.take_length] at al
    have kt : CF.kept (CF.look ps zs) fs = true := List.all_eq_true.mpr al
    rw [kt] at k
    exact k

end
end K03
end
section
set_option Elab.async false
set_option linter.all false
set_option maxRecDepth 100000
set_option maxHeartbeats 4000000
namespace K03
open PySem PySem.Spec PyProof.Rows L2
open PySem.W (ke_shaped_ints)
local macro_rules | `(tactic| walk_at "go") => `(tactic| first | refine ⟨_, rfl, ?_⟩ | refine .inl ⟨_, rfl, ?_⟩ | refine ⟨_, _, rfl, rfl, (by first | (show (0 : Int) < _; decide) | exact Or.inl ⟨by decide, by decide⟩ | exact Or.inr ⟨by decide, by decide⟩), ?_⟩ | refine ⟨_, _, rfl, rfl, ?_⟩)
section
variable {P : Program} {w : World} {K : PySem.W.Frag} {mg : Str → Option Value} {base : Heap}

/-- a contract over ps of the facts fs -/
def ConAt (K : PySem.W.Frag) (C Dc : Addr) (H : Hp) (o : Addr) (ps : List Str) (fs : List CF.FD) : Prop := ∃ (dx pt ln ft : Addr) (os : List Addr), H o = some (.ins Dc dx (cfields pt ln ft (CF.textOf fs) (CF.farOf fs) (CF.modOf fs))) ∧ SqT K H pt (ps.map V.str) ∧ H ln = some (.tup ((fs.map CF.FD.text).map V.str)) ∧ SqT K H ft (os.map V.ref) ∧ FactsAt K C H ps os fs
theorem ConAt.same {K : PySem.W.Frag} {C Dc : Addr} {H H' : Hp} {o : Addr} {ps : List Str} {fs : List CF.FD} (h : ConAt K C Dc H o ps fs) (s : Same H H') : ConAt K C Dc H' o ps fs := by
  obtain ⟨dx, pt, ln, ft, os, h1, h2, h3, h4, h5⟩ := h
  exact ⟨dx, pt, ln, ft, os, s _ _ h1, s.tup h2, s _ _ h3, s.tup h4, h5.same s⟩
/-- contract.keeps(places) -/
def spKeeps (K : PySem.W.Frag) (C Dc : Addr) : Sp := fun vs H Q E => ∃ (o a : Addr) (ps : List Str) (fs : List CF.FD) (zs : List Int), vs = [.ref o, .ref a] ∧ ConAt K C Dc H o ps fs ∧ (∀ f ∈ fs, f.Ok ps) ∧ ps.Nodup ∧ (SqL K H a (zs.map V.int) ∨ SqT K H a (zs.map V.int)) ∧
  ((zs.length = ps.length ∧ Q (.bl (CF.kept (CF.look ps zs) fs)) H) ∨ (zs.length ≠ ps.length ∧ E (.ref (He.ga K "BadPlaces")) none H))
/-- contract.broken(places) -/
def spBroken (K : PySem.W.Frag) (C Dc : Addr) : Sp := fun vs H Q E => ∃ (o a : Addr) (ps : List Str) (fs : List CF.FD) (zs : List Int), vs = [.ref o, .ref a] ∧ ConAt K C Dc H o ps fs ∧ (∀ f ∈ fs, f.Ok ps) ∧ fs.length ≤ 1000 ∧ ps.Nodup ∧ (SqL K H a (zs.map V.int) ∨ SqT K H a (zs.map V.int)) ∧
  ((zs.length = ps.length ∧ ∀ (r : Addr) (H' : Hp), Same H H' → H r = none → H' r = some (.lst ((CF.brk (CF.look ps zs) fs).map fun i => V.int (i : Nat))) → Q (.ref r) H') ∨ (zs.length ≠ ps.length ∧ E (.ref (He.ga K "BadPlaces")) none H))
theorem map_len {zs : List Int} {ps : List Str} : ((zs.map V.int).length = (ps.map V.str).length) = (zs.length = ps.length) := by rw [List.length_map, List.length_map]

abbrev s_Contract_keeps : Stmt := inClass (topS 39) 1
theorem sc_Contract_keeps : FnScope ["self", "places"] ["self", "places"] (defScope s_Contract_keeps) := ⟨rfl, rfl, rfl, by decide +kernel, rfl, by decide +kernel, by decide +kernel⟩
theorem ok_Contract_keeps {f : Addr} {fd : FuncData} (T : TxtP K mg) (F : FunD K "keeps" "Contract.keeps" (defArgs s_Contract_keeps) (defBody s_Contract_keeps) (defScope s_Contract_keeps) [] [] f fd) {C Dc : Addr} (DC : ContractC K Dc) (C_check_places : CalX P w K mg base 3 "check_places" ["pointers", "places"] (spCheck K)) (C_all_hold : Cal P w K mg base 3 "all_hold" ["facts", "places"] (spAllHold K C)) : FnOk P w K mg base (CX P w) 4 f fd ["self", "places"] (spKeeps K C Dc) := by
  refine F.okX sc_Contract_keeps (fun vs H Q E h => by obtain ⟨o, a, ps, fs, zs, rfl, _⟩ := h; rfl) (fun cdv A outer s H vs Q E hr h => ?_)
  have hu := hu_of hr

  obtain ⟨o, a, ps, fs, zs, rfl, ⟨dx, pt, ln, ft, os, ho, hpt, hln, hft, fat⟩, ok, nd, hz, alt⟩ := h
  refine ⟨_, (pss_cons (ps_expr (pe_calX (takes_of rfl rfl rfl rfl) C_check_places (hr.mono (by decide)) rfl (pa_cons (pe_fld (pv 0) rfl) (pa_cons (pv 1) pa_nil))))
      (pss_one (ps_ret (pe_cal C_all_hold (hr.mono (by decide)) rfl (pa_cons (pe_fld (pv 0) rfl) (pa_cons (pv 1) pa_nil)))))), ?_⟩
  refine ⟨_, rfl, o, Dc, dx, _, .ref pt, rfl, ho, DC.cl, DC.n_pointers, rfl, _, rfl, pt, a, _, _, rfl, hpt, hz, ?_⟩
  rcases alt with ⟨e, k⟩ | ⟨ne, k⟩
  · refine .inl ⟨map_len.mpr e, ?_⟩
    exact ⟨_, rfl, o, Dc, dx, _, .ref ft, rfl, ho, DC.cl, DC.n_rows, rfl, _, rfl, ft, a, ps, os, fs, zs, rfl, hft, fat, ok, nd, hz, e, k⟩
  · exact .inr ⟨fun z => ne (map_len.mp z), k⟩



theorem brk_next {pl : Str → Int} {fs : List CF.FD} {i : Nat} {f : CF.FD} (h : fs[i]? = some f) : ((List.range (i + 1)).filter fun j => match fs[j]? with | some g => !g.val pl | none => false) = ((List.range i).filter fun j => match fs[j]? with | some g => !g.val pl | none => false) ++ (if f.val pl = true then [] else [i]) := by
  rw [List.range_succ, List.filter_append]
  congr 1
  simp only [List.filter_cons, List.filter_nil, h]
  cases e : f.val pl <;> simp
abbrev s_Contract_broken : Stmt := inClass (topS 39) 2
theorem sc_Contract_broken : FnScope ["self", "places", "index", "fact"] ["self", "places"] (defScope s_Contract_broken) := ⟨rfl, rfl, rfl, by decide +kernel, rfl, by decide +kernel, by decide +kernel⟩
theorem ok_Contract_broken {f : Addr} {fd : FuncData} (T : TxtP K mg) (F : FunD K "broken" "Contract.broken" (defArgs s_Contract_broken) (defBody s_Contract_broken) (defScope s_Contract_broken) [] [] f fd) {C Dc : Addr} (DC : ContractC K Dc) (C_check_places : CalX P w K mg base 3 "check_places" ["pointers", "places"] (spCheck K)) (M_holds : MthX P w K mg base CX0 1 C "holds" ["self", "places"] (spHolds K C)) : FnOk P w K mg base (CX P w) 4 f fd ["self", "places"] (spBroken K C Dc) := by
  refine F.okX sc_Contract_broken (fun vs H Q E h => by obtain ⟨o, a, ps, fs, zs, rfl, _⟩ := h; rfl) (fun cdv A outer s H vs Q E hr h => ?_)
  have hu := hu_of hr

  obtain ⟨o, a, ps, fs, zs, rfl, ⟨dx, pt, ln, ft, os, ho, hpt, hln, hft, fat⟩, ok, big, nd, hz, alt⟩ := h
  refine ⟨_, (pss_cons (ps_expr (pe_calX (takes_of rfl rfl rfl rfl) C_check_places (hr.mono (by decide)) rfl (pa_cons (pe_fld (pv 0) rfl) (pa_cons (pv 1) pa_nil))))
      (pss_one (ps_ret (pe_lc (own := [("index", 2), ("fact", 3)]) (g := gTup K 2 (gCons (gName 2) (gCons (gName 3) (gNil)))) rfl sc_Contract_broken.nd (pi_enumT (by rfl) T.f_enumerate (pa_cons (pe_fld (pv 0) rfl) pa_nil)) (blkOk_by (N := ["self", "places", "index", "fact"]) (sc := defScope s_Contract_broken) (by decide +kernel)) (fun _ _ _ _ _ => (pg_tup rfl (pgs_cons (pg_name (i := 2) sc_Contract_broken.nd rfl (by first | exact Or.inl rfl | exact Or.inr rfl)) (pgs_cons (pg_name (i := 3) sc_Contract_broken.nd rfl (by first | exact Or.inl rfl | exact Or.inr rfl)) pgs_nil)))) (fun _ _ _ _ _ => (pts_one (pt_not (pt_val (pe_mth M_holds (pv 3) (hr.mono (by decide)) pass0 (pa_cons (pv 1) pa_nil)))))) (fun _ _ _ _ _ => (pv 2)))))), ?_⟩
  refine ⟨_, rfl, o, Dc, dx, _, .ref pt, rfl, ho, DC.cl, DC.n_pointers, rfl, _, rfl, pt, a, _, _, rfl, hpt, hz, ?_⟩
  rcases alt with ⟨e, k⟩ | ⟨ne, k⟩
  · refine .inl ⟨map_len.mpr e, ?_⟩
    have ol : (os.map V.ref).length = os.length := List.length_map ..
    refine ⟨_, rfl, o, Dc, dx, _, .ref ft, rfl, ho, DC.cl, DC.n_rows, rfl, ft, _, rfl, hft, fun D hD => lc_it walk_enumT (fun i H' => Same H H' ∧ H' D = some (.lst (((List.range i).filter fun j => match fs[j]? with | some g => !g.val (CF.look ps zs) | none => false).map fun i => V.int (i : Nat))))
      ⟨Same.new hD, upd_same⟩ (fun i H' _ z => z.1.tup hft) ?_ ?_⟩
    · rintro i x H1 H2 hi ⟨s1, h1⟩ ⟨T0, x1, x2, rfl, hT0, rfl, e1, e2⟩
      cases e1
      have e2' : (os.map V.ref)[i]? = some x2 := e2
      rw [List.getElem?_map] at e2'
      obtain ⟨p, hp, rfl⟩ := Option.map_eq_some_iff.mp e2'
      have il : i < fs.length := by
        rw [ol, fat.1] at hi
        exact hi
      have hf : fs[i]? = some fs[i] := List.getElem?_eq_getElem il
      have s2 := s1.trans (Same.new (o := .tup [.int (i : Nat), .ref p]) hT0)
      have h2 := Same.new (o := .tup [.int (i : Nat), .ref p]) hT0 _ _ h1
      have fa := (fat.2 i p _ hp hf).same s2
      have hz2 : SqL K (upd H1 T0 (.tup [.int (i : Nat), .ref p])) a (zs.map V.int) ∨ SqT K (upd H1 T0 (.tup [.int (i : Nat), .ref p])) a (zs.map V.int) := hz.elim (fun h => .inl (s2.seq h)) fun h => .inr (s2.tup h)
      refine ⟨T0, _, rfl, SqT.of upd_same, rfl, _, _, rfl, _, _, rfl, rfl, rfl, ?_⟩
      generalize upd H1 T0 (.tup [.int (i : Nat), .ref p]) = H4 at s2 h2 fa hz2 ⊢
      obtain ⟨dx2, nm, sp, v1, v2, g1, g2, g3⟩ := id fa
      refine ⟨_, rfl, p, dx2, _, rfl, g1, rfl, _, rfl, p, a, ps, fs[i], zs, rfl, fa, ok _ (List.mem_of_getElem? hf), nd, hz2, e, _, rfl, ?_⟩
      rw [brk_next hf]
      cases ev : CF.FD.val (CF.look ps zs) fs[i] with
      | true =>
        rw [if_pos rfl, List.append_nil]
        exact iteF ⟨s2, h2⟩
      | false =>
        rw [if_neg (show ¬ (false = true) by decide)]
        refine iteT ⟨_, rfl, _, h2, ?_, s2.put hD, ?_⟩
        · rw [List.length_map, sizeLine_eq]
          have h3 := List.length_filter_le (fun j => match fs[j]? with | some g => !g.val (CF.look ps zs) | none => false) (List.range i)
          rw [List.length_range] at h3
          omega
        · rw [List.map_append]
          exact upd_same
    · rintro H1 ⟨s1, h1⟩
      rw [ol, fat.1] at h1
      exact k D H1 s1 hD h1
  · exact .inr ⟨fun z => ne (map_len.mp z), k⟩

end
end K03
end
section
set_option Elab.async false
set_option linter.all false
set_option maxRecDepth 100000
set_option maxHeartbeats 4000000
namespace K03
open PySem PySem.Spec PyProof.Rows L2
open PySem.W (ke_shaped_ints)
local macro_rules | `(tactic| walk_at "go") => `(tactic| first | refine ⟨_, rfl, ?_⟩ | refine .inl ⟨_, rfl, ?_⟩ | refine ⟨_, _, rfl, rfl, (by first | (show (0 : Int) < _; decide) | exact Or.inl ⟨by decide, by decide⟩ | exact Or.inr ⟨by decide, by decide⟩), ?_⟩ | refine ⟨_, _, rfl, rfl, ?_⟩)
section
variable {P : Program} {w : World} {K : PySem.W.Frag} {mg : Str → Option Value} {base : Heap}

structure TxtL (mg : Str → Option Value) : Prop where
  f_zip : mg "zip" = none
  f_dict : mg "dict" = none


theorem eqv_nil (zs : List Str) : PyData.eqv (.list (zs.map PyData.str)) (.list []) = zs.isEmpty := by
  cases zs <;> rfl
theorem six_of {i : Int} {n : Nat} (h0 : 0 ≤ i) (h1 : i < n) : seqIndex? i n = some i.toNat := by
  unfold seqIndex?
  have h2 : ¬ i < 0 := by omega
  simp [h2, h1, h0]
theorem erase_perm {α : Type} : ∀ {l : List α} {i : Nat} (h : i < l.length), List.Perm ([l[i]] ++ l.eraseIdx i) l
  | x :: r, 0, _ => List.Perm.refl _
  | x :: r, i + 1, h => by
    have ih := erase_perm (l := r) (i := i) (by simpa using h)
    refine (List.Perm.swap x _ _).trans ?_
    exact List.Perm.cons x ih
theorem map_erase {α β : Type} (f : α → β) : ∀ (l : List α) (i : Nat), (l.map f).eraseIdx i = (l.eraseIdx i).map f
  | [], _ => rfl
  | _ :: _, 0 => rfl
  | x :: r, i + 1 => by
    show f x :: (r.map f).eraseIdx i = f x :: (r.eraseIdx i).map f
    rw [map_erase f r i]

/-- shuffled(pen, items): the items in some order -/
def spShuffled (K : PySem.W.Frag) : Sp := fun vs H Q _ => ∃ (p l a : Addr) (t : Int) (zs : List Str), vs = [.ref p, .ref a] ∧ Pen H p l t ∧ t ≤ 1000000 ∧ SqL K H a (zs.map V.str) ∧ zs.length ≤ 1000 ∧ (∀ z ∈ zs, Low z) ∧
  ∀ (r : Addr) (H' : Hp) (t' : Int) (ys : List Str), ys.Perm zs → Pen H' p l t' → t ≤ t' → t' ≤ t + zs.length → But p H H' → H r = none → H' r = some (.lst (ys.map V.str)) → Q (.ref r) H'
abbrev s_shuffled : Stmt := topS 47
theorem sc_shuffled : FnScope ["pen", "items", "rest", "found"] ["pen", "items"] (defScope s_shuffled) := ⟨rfl, rfl, rfl, by decide +kernel, rfl, by decide +kernel, by decide +kernel⟩
theorem ok_shuffled (T : Txt mg) (D : Def K mg "_law_shuffled" s_shuffled) (C__law_draw : Cal P w K mg base 1 "_law_draw" ["pen", "span"] spDraw) : Cal P w K mg base 2 "_law_shuffled" ["pen", "items"] (spShuffled K) := by
  refine D.cal sc_shuffled (fun vs H Q E h => ?_) (fun _ _ _ _ _ _ us hl => match us, hl with | [_, _], _ => rfl) (fun f cdv A outer s H vs Q E hr h => ?_)
  · obtain ⟨p, l, a, t, zs, rfl, _⟩ := h
    rfl
  have hu := hu_of hr

  obtain ⟨p, l, a, t, zs, rfl, pen, ht, ha, hz, low, k⟩ := h
  refine ⟨_, (pss_cons (ps_par (i := 2) (j := 3) (by rfl) sc_shuffled.nd rfl rfl (by decide) rfl rfl (pa_cons (pe_callTy call_list_of (by rfl) T.f_list (by decide +kernel) (pa_cons (pv 1) pa_nil)) (pa_cons (pe_lst pa_nil) pa_nil)) (by rfl))
      (pss_cons (ps_while PassesOwn.never (pt_cmpR (op_neD hr.units) (pv 2) (pe_lst pa_nil) (nomark _)) (pss_one (ps_expr (pe_bm PySem.F.plainAttrs_list PySem.F.slot_list_append PySem.F.type_list_append mt_append (pv 3) (pa_cons (pe_bm PySem.F.plainAttrs_list PySem.F.slot_list_pop PySem.F.type_list_pop mt_popAt (pv 2) (pa_cons (pe_cal C__law_draw (hr.mono (by decide)) rfl (pa_cons (pv 0) (pa_cons (pe_callB call_len (by rfl) T.f_len PySem.boot_len (pa_cons (pv 2) pa_nil)) pa_nil))) pa_nil)) pa_nil)))))
      (pss_one (ps_ret (pv 3))))), ?_⟩
  refine ⟨_, rfl, a, _, rfl, .inl ha, fun R hR => ⟨by show 0 ≤ sizeLine; decide, fun F hF => ⟨_, _, rfl, ?_⟩⟩⟩
  have hR0 : upd H R (.lst (zs.map V.str)) R = some (.lst (zs.map V.str)) := upd_same
  have nFR : F ≠ R := fun e => by rw [e, hR0] at hF; cases hF
  have hF0 : H F = none := by rw [upd_ne nFR] at hF; exact hF
  refine ⟨fun m σ H1 => ∃ (rest got : List Str) (t1 : Int), σ = [some (.ref p), some (.ref a), some (.ref R), some (.ref F)] ∧ H1 R = some (.lst (rest.map V.str)) ∧ H1 F = some (.lst (got.map V.str)) ∧ m = rest.length ∧ Pen H1 p l t1 ∧ t ≤ t1 ∧ t1 ≤ t + got.length ∧ (got ++ rest).Perm zs ∧ But p H H1,
    ⟨_, zs, [], t, rfl, (upd_ne nFR.symm).trans hR0, upd_same, rfl, (pen.new hR).new hF, Int.le_refl _, by simp, List.Perm.refl _, ((But.of (Same.new hR)).nw hF)⟩, ?_⟩
  rintro m σ H1 ⟨rest, got, t1, rfl, h1, h2, rfl, pen1, g1, g2, pm, b1⟩
  have plen : got.length + rest.length = zs.length := by
    have := pm.length_eq
    rw [List.length_append] at this
    exact this
  have lowr : ∀ z ∈ rest, Low z := fun z hz => low z (pm.mem_iff.mp (List.mem_append_right _ hz))
  refine ⟨_, rfl, by show 0 ≤ sizeLine; decide, fun e he => ⟨.list (rest.map PyData.str), .list [], .lst (SqL.of ((Same.new he) _ _ h1)) (dps_strs _ _ _), .lst (SqL.of upd_same) .nil, shaped_strs lowr, rfl, _, rfl, ?_⟩⟩
  rw [eqv_nil]
  have h1' := (Same.new (o := .lst []) he) _ _ h1
  have h2' := (Same.new (o := .lst []) he) _ _ h2
  have pen1' := pen1.new (o := .lst []) he
  have b1' := b1.nw (o := .lst []) he
  generalize upd H1 e (.lst []) = H2 at h1' h2' pen1' b1' ⊢
  cases rest with
  | nil =>
    rw [show (!([] : List Str).isEmpty) = false from rfl]
    refine iteF ⟨_, rfl, ?_⟩
    rw [List.append_nil] at pm
    exact k F H2 t1 got pm pen1' g1 (by simp only [List.length_nil] at plen; omega) b1' hF0 h2'
  | cons z0 rs =>
    rw [show (!(z0 :: rs).isEmpty) = true from rfl]
    refine iteT ⟨fun σ' H' => ∃ (rest' got' : List Str) (t2 : Int), σ' = [some (.ref p), some (.ref a), some (.ref R), some (.ref F)] ∧ H' R = some (.lst (rest'.map V.str)) ∧ H' F = some (.lst (got'.map V.str)) ∧ rest'.length < (z0 :: rs).length ∧ Pen H' p l t2 ∧ t ≤ t2 ∧ t2 ≤ t + got'.length ∧ (got' ++ rest').Perm zs ∧ But p H H', ?_, ?_⟩
    · rintro σ' H' ⟨rest', got', t2, e1, e2, e3, e4, e5, e6, e7, e8, e9⟩
      exact ⟨_, e4, rest', got', t2, e1, e2, e3, rfl, e5, e6, e7, e8, e9⟩
    · have hRp : R ≠ p := fun e => by
        obtain ⟨o, ho⟩ := pen.at_
        rw [e, ho] at hR
        cases hR
      have hFp : F ≠ p := fun e => by
        obtain ⟨o, ho⟩ := pen.at_
        rw [e, ho] at hF0
        cases hF0
      have hRl : R ≠ l := fun e => by
        obtain ⟨ns, lf, _, ho, _⟩ := pen.ex
        rw [e, ho] at hR
        cases hR
      have hFl : F ≠ l := fun e => by
        obtain ⟨ns, lf, _, ho, _⟩ := pen.ex
        rw [e, ho] at hF0
        cases hF0
      have ln : ((z0 :: rs).map V.str).length = (z0 :: rs).length := List.length_map ..
      refine ⟨_, rfl, .inl ⟨rfl, _, SqL.of h2'⟩, _, rfl, .inl ⟨rfl, _, SqL.of h1'⟩, _, rfl, _, rfl, _, _, rfl, .inl ⟨_, SqL.of h1', rfl⟩, p, l, t1, _, rfl, pen1', by omega, by rw [ln, List.length_cons]; omega, small_span (by rw [ln]; omega), fun v H3 t3 v0 v1 pen3 g3 g4 b3 => ?_⟩
      rw [ln] at v1
      have hi : v.toNat < (z0 :: rs).length := by omega
      have hat : ((z0 :: rs).map V.str)[v.toNat]? = some (.str (z0 :: rs)[v.toNat]) := by rw [List.getElem?_map, List.getElem?_eq_getElem hi]; rfl
      have h1c := b3 _ _ hRp h1'
      have h2c := b3 _ _ hFp h2'
      refine ⟨R, _, v, v.toNat, _, rfl, rfl, h1c, by omega, by omega, by rw [ln]; exact six_of v0 v1, hat, F, _, _, rfl, rfl, (upd_ne nFR).trans h2c, by rw [List.length_map, sizeLine_eq]; simp only [List.length_cons] at plen; omega, ?_⟩
      refine ⟨(z0 :: rs).eraseIdx v.toNat, got ++ [(z0 :: rs)[v.toNat]], t3, rfl, ?_, ?_, ?_, ?_, by omega, ?_, ?_, ?_⟩
      · rw [upd_ne nFR.symm, map_erase]
        exact upd_same
      · rw [List.map_append]
        exact upd_same
      · rw [List.length_eraseIdx_of_lt hi, List.length_cons]
        omega
      · exact (pen3.put hRp hRl).put hFp hFl
      · rw [List.length_append, List.length_singleton]
        omega
      · refine List.Perm.trans ?_ pm
        rw [List.append_assoc]
        exact (erase_perm hi).append_left _
      · exact ((b1'.trans b3).put hR).put hF0



/-- the names that there are -/
def NN : List Str := ["p", "q", "a", "b", "x", "y", "low", "ends", "partly", "setting", "upwards", "abcdefghijkl"]
theorem nn_ok : ∀ z ∈ NN, CF.NameOk z := by
  have h1 : ∀ z ∈ NN, z ∉ CF.Reserved := by decide +kernel
  have h2 : ∀ z ∈ NN, 1 ≤ z.length ∧ z.length ≤ 12 := by decide +kernel
  have h3 : ∀ z ∈ NN, ∀ c ∈ TL.tl z, 97 ≤ c ∧ c ≤ 122 := by decide +kernel
  exact fun z hz => ⟨h1 z hz, (h2 z hz).1, (h2 z hz).2, h3 z hz⟩
theorem nn_dup : NN.Nodup := by decide +kernel
theorem low_name {z : Str} (h : CF.NameOk z) : Low z := fun c hc => by
  have := h.letters c hc
  omega
/-- new_names(pen, many) -/
def spNewNames (K : PySem.W.Frag) : Sp := fun vs H Q _ => ∃ (p l : Addr) (t many : Int), vs = [.ref p, .int many] ∧ Pen H p l t ∧ t ≤ 100000 ∧ 1 ≤ many ∧ many ≤ 3 ∧
  ∀ (r : Addr) (H' : Hp) (t' : Int) (ps : List Str), CF.Names ps → (ps.length : Int) = many → Pen H' p l t' → t ≤ t' → t' ≤ t + 12 → But p H H' → H r = none → H' r = some (.lst (ps.map V.str)) → Q (.ref r) H'
abbrev s_new_names : Stmt := topS 48
theorem sc_new_names : FnScope ["pen", "many", "found"] ["pen", "many"] (defScope s_new_names) := ⟨rfl, rfl, rfl, by decide +kernel, rfl, by decide +kernel, by decide +kernel⟩
theorem ok_new_names (T : Txt mg) (D : Def K mg "_law_new_names" s_new_names) (C__law_shuffled : Cal P w K mg base 2 "_law_shuffled" ["pen", "items"] (spShuffled K)) : Cal P w K mg base 3 "_law_new_names" ["pen", "many"] (spNewNames K) := by
  refine D.cal sc_new_names (fun vs H Q E h => ?_) (fun _ _ _ _ _ _ us hl => match us, hl with | [_, _], _ => rfl) (fun f cdv A outer s H vs Q E hr h => ?_)
  · obtain ⟨p, l, t, many, rfl, _⟩ := h
    rfl
  have hu := hu_of hr

  obtain ⟨p, l, t, many, rfl, pen, ht, m1, m3, k⟩ := h
  refine ⟨_, (pss_cons (ps_set (i := 2) sc_new_names.nd rfl (by first | exact Or.inl rfl | exact Or.inr rfl) (pe_lst (pa_cons pe_str (pa_cons pe_str (pa_cons pe_str (pa_cons pe_str (pa_cons pe_str (pa_cons pe_str (pa_cons pe_str (pa_cons pe_str (pa_cons pe_str (pa_cons pe_str (pa_cons pe_str (pa_cons pe_str pa_nil))))))))))))))
      (pss_one (ps_ret (pe_slice sl_list (pe_cal C__law_shuffled (hr.mono (by decide)) rfl (pa_cons (pv 0) (pa_cons (pv 2) pa_nil))) po_none (po_some (pv 1)))))), ?_⟩
  refine ⟨by show 12 ≤ sizeLine; decide, fun F hF => ?_⟩
  refine ⟨_, rfl, _, rfl, p, l, F, t, NN, rfl, pen.new hF, by omega, SqL.of upd_same, by decide, fun z hz => low_name (nn_ok z hz), fun r H1 t1 ys pm pen1 g1 g2 b1 hr hR => ?_⟩
  refine ⟨_, rfl, many, rfl, r, _, rfl, SqL.of hR, fun S hS => ?_⟩
  have pl : ys.length = 12 := pm.length_eq
  have e : cutV (ys.map V.str) none (some many) = (ys.take many.toNat).map V.str := by
    unfold cutV
    rw [List.map_take, List.length_map]
    have e1 : HT.sIx ys.length 0 none = 0 := rfl
    have e2 : HT.sIx ys.length ys.length (some many) = many.toNat := by
      show (if many < 0 then (many + (ys.length : Int)).toNat else min many.toNat ys.length) = many.toNat
      rw [if_neg (by omega)]
      omega
    rw [e1, e2]
    rfl
  rw [e]
  have b2 : But p H (upd H1 S (.lst ((ys.take many.toNat).map V.str))) := ((But.of (Same.new hF)).trans b1).nw hS
  have hS0 : H S = none := by
    cases q : H S with
    | none => rfl
    | some o =>
      by_cases e : S = p
      · rw [e] at hS
        obtain ⟨o2, h2⟩ := pen1.at_
        rw [h2] at hS
        cases hS
      · rw [((But.of (Same.new hF)).trans b1) _ _ e q] at hS
        cases hS
  refine k S _ t1 (ys.take many.toNat) ⟨fun z hz => nn_ok z (pm.mem_iff.mp (List.mem_of_mem_take hz)), ?_, ?_, ?_⟩ ?_ (pen1.new hS) g1 g2 b2 hS0 upd_same
  · exact (pm.nodup_iff.mpr nn_dup).sublist (List.take_sublist _ _)
  · rw [List.length_take]
    omega
  · rw [List.length_take]
    omega
  · rw [List.length_take]
    omega



/-- the places by name -/
def atK (ps : List Str) (zs : List Int) : List (Key × V) := (ps.zip zs).map fun pz => ((Sum.inr pz.1 : Key), V.int pz.2)
theorem atK_val {ps : List Str} {zs : List Int} {a : Str} (nd : ps.Nodup) (hl : zs.length = ps.length) (h : a ∈ ps) : valV (atK ps zs) (Sum.inr a : Key) = some (V.int (CF.look ps zs a)) := by
  have h1 := CF.look_some nd hl h
  have h2 : ∀ l : List (Str × Int), valV (l.map fun pz => ((Sum.inr pz.1 : Key), V.int pz.2)) (Sum.inr a : Key) = (l.lookup a).map V.int := by
    intro l
    induction l with
    | nil => rfl
    | cons x r ih =>
      obtain ⟨b, z⟩ := x
      by_cases e : b = a
      · subst e
        rw [List.map_cons, valV_pos rfl]
        simp
      · rw [List.map_cons, List.lookup_cons, show (a == b) = false from beq_eq_false_iff_ne.mpr (Ne.symm e)]
        have e2 : ((Sum.inr b : Key)) ≠ (Sum.inr a : Key) := fun h => e (Sum.inr.inj h)
        rw [← ih]
        simp [valV, List.find?_cons, e2, e]
  unfold atK
  rw [h2, h1]
  rfl
theorem merge_new : ∀ (more kvs : List (Key × V)), (∀ k ∈ more.map (·.1), k ∉ kvs.map (·.1)) → (more.map (·.1)).Nodup → mergeK kvs more = kvs ++ more
  | [], kvs, _, _ => by simp [mergeK]
  | kv :: r, kvs, h, nd => by
    have nd' := List.nodup_cons.mp (show (kv.1 :: r.map (·.1)).Nodup from nd)
    have h0 : (kvs.any fun x => decide (x.1 = kv.1)) = false := by
      rw [List.any_eq_false]
      intro x hx e
      exact h kv.1 (by simp) (List.mem_map.mpr ⟨x, hx, of_decide_eq_true e⟩)
    have e1 : putK kvs kv.1 kv.2 = kvs ++ [kv] := by
      unfold putK
      rw [h0]
      rfl
    show mergeK (putK kvs kv.1 kv.2) r = _
    rw [e1, merge_new r (kvs ++ [kv]) (fun k hk hm => ?_) nd'.2, List.append_assoc]
    · rfl
    · rw [List.map_append, List.mem_append] at hm
      rcases hm with hm | hm
      · exact h k (by rw [List.map_cons]; exact List.mem_cons_of_mem _ hk) hm
      · have : k = kv.1 := by simpa using hm
        exact nd'.1 (this ▸ hk)
theorem keys_zip {ps : List Str} {zs : List Int} (hl : zs.length = ps.length) : (ps.zip zs).map (fun pz => (Sum.inr pz.1 : Key)) = ps.map fun p => (Sum.inr p : Key) := by
  have : (ps.zip zs).map (fun pz => (Sum.inr pz.1 : Key)) = ((ps.zip zs).map (·.1)).map fun p => (Sum.inr p : Key) := by rw [List.map_map]; rfl
  rw [this, List.map_fst_zip (by omega)]
theorem atK_merge {ps : List Str} {zs : List Int} (nd : ps.Nodup) (hl : zs.length = ps.length) : mergeK [] (atK ps zs) = atK ps zs := by
  have e := merge_new (atK ps zs) [] (fun _ _ h => by cases h) (by
    have : (atK ps zs).map (·.1) = ps.map fun p => (Sum.inr p : Key) := by
      unfold atK
      rw [List.map_map]
      exact keys_zip hl
    rw [this]
    exact List.Pairwise.map _ (fun a b n e => n (Sum.inr.inj e)) nd)
  rw [e, List.nil_append]
/-- at(pointers, places) -/
def spAt (K : PySem.W.Frag) : Sp := fun vs H Q _ => ∃ (a b : Addr) (ps : List Str) (zs : List Int), vs = [.ref a, .ref b] ∧ SqL K H a (ps.map V.str) ∧ SqL K H b (zs.map V.int) ∧ ps.Nodup ∧ zs.length = ps.length ∧
  ∀ (r : Addr) (H' : Hp), Same H H' → H r = none → H' r = some (.dK (atK ps zs)) → Q (.ref r) H'
theorem zip_vs (ps : List Str) (zs : List Int) : (ps.map V.str).zip (zs.map V.int) = (ps.zip zs).map fun pz => (V.str pz.1, V.int pz.2) := by rw [List.zip_map]; rfl
theorem paired_at {K : PySem.W.Frag} {H : Hp} : ∀ {qs : List Addr} {l : List (Str × Int)}, Paired (PairV H) qs (l.map fun pz => (V.str pz.1, V.int pz.2)) → Paired (fun p kv => SqT K H p [kV kv.1, kv.2]) qs (l.map fun pz => ((Sum.inr pz.1 : Key), V.int pz.2))
  | _, [], .nil => .nil
  | _, _ :: _, .cons r t => .cons (SqT.of r) (paired_at t)
abbrev s_at : Stmt := topS 54
theorem sc_at : FnScope ["pointers", "places"] ["pointers", "places"] (defScope s_at) := ⟨rfl, rfl, rfl, by decide +kernel, rfl, by decide +kernel, by decide +kernel⟩
theorem ok_at (T : Txt mg) (Z : TxtL mg) (D : Def K mg "_law_at" s_at) : Cal P w K mg base 1 "_law_at" ["pointers", "places"] (spAt K) := by
  refine D.cal sc_at (fun vs H Q E h => ?_) (fun _ _ _ _ _ _ us hl => match us, hl with | [_, _], _ => rfl) (fun f cdv A outer s H vs Q E hr h => ?_)
  · obtain ⟨a, b, ps, zs, rfl, _⟩ := h
    rfl
  have hu := hu_of hr

  obtain ⟨a, b, ps, zs, rfl, ha, hb, nd, hl, k⟩ := h
  refine ⟨_, (pss_one (ps_ret (pe_callTy (call_dictP rfl) (by rfl) Z.f_dict (by decide +kernel) (pa_cons (pe_listZip rfl (by rfl) T.f_list (by decide +kernel) (by rfl) Z.f_zip (by decide +kernel) (pa_cons (pv 0) (pa_cons (pv 1) pa_nil))) pa_nil)))), ?_⟩
  refine ⟨_, rfl, _, rfl, a, b, _, _, rfl, ha, hb, fun r qs H1 hr s1 h1 pr => ?_⟩
  rw [zip_vs] at pr
  refine ⟨r, qs, atK ps zs, rfl, SqL.of h1, paired_at pr, fun d hd => ?_⟩
  rw [atK_merge nd hl]
  exact k d _ (s1.put (s1.free hd)) (s1.free hd) upd_same



/-- true(fact, at) -/
def spTrue : Sp := fun vs H Q _ => ∃ (q d : Addr) (f : CF.FD) (ps : List Str) (zs : List Int), vs = [.ref q, .ref d] ∧ H q = some (.tup f.vs) ∧ f.Ok ps ∧ H d = some (.dK (atK ps zs)) ∧ ps.Nodup ∧ zs.length = ps.length ∧ ∀ H', Same H H' → Q (.bl (f.val (CF.look ps zs))) H'
theorem dget_at {H : Hp} {d : Addr} {ps : List Str} {zs : List Int} {a : Str} (hd : H d = some (.dK (atK ps zs))) (nd : ps.Nodup) (hl : zs.length = ps.length) (h : a ∈ ps) : DGet H d (.str a) (some (V.int (CF.look ps zs a))) := by
  rw [← atK_val nd hl h]
  exact DGet.k (k := (Sum.inr a : Key)) hd
abbrev s_true : Stmt := topS 53
theorem sc_true : FnScope ["fact", "at", "one", "two", "apart"] ["fact", "at"] (defScope s_true) := ⟨rfl, rfl, rfl, by decide +kernel, rfl, by decide +kernel, by decide +kernel⟩
theorem ok_true (T : Txt mg) (D : Def K mg "_law_true" s_true) : Cal P w K mg base 1 "_law_true" ["fact", "at"] spTrue := by
  refine D.cal sc_true (fun vs H Q E h => ?_) (fun _ _ _ _ _ _ us hl => match us, hl with | [_, _], _ => rfl) (fun f cdv A outer s H vs Q E hr h => ?_)
  · obtain ⟨q, d, f, ps, zs, rfl, _⟩ := h
    rfl
  have hu := hu_of hr

  obtain ⟨q, d, f, ps, zs, rfl, hq, ok, hd, nd, hl, k⟩ := h
  refine ⟨_, (pss_cons (ps_if (pt_cmpR op_eq (pe_ix ix_tup (pv 0) pe_int (fun _ _ => rfl)) pe_str (nomark _)) (pss_cons (ps_par (i := 2) (j := 3) (by rfl) sc_true.nd rfl rfl (by decide) rfl rfl (pa_cons (pe_op op_add (pe_dget hu (pv 1) (pe_ix ix_tup (pv 0) pe_int (fun _ _ => rfl)) (fun _ _ => rfl)) (pe_ix ix_tup (pv 0) pe_int (fun _ _ => rfl))) (pa_cons (pe_op op_add (pe_dget hu (pv 1) (pe_ix ix_tup (pv 0) pe_int (fun _ _ => rfl)) (fun _ _ => rfl)) (pe_ix ix_tup (pv 0) pe_int (fun _ _ => rfl))) pa_nil)) (by rfl))
      (pss_one (ps_ret (pe_or (pe_cmpR op_le (pe_op op_add (pv 2) (pe_ix ix_tup (pv 0) pe_int (fun _ _ => rfl))) (pv 3) (nomark _)) (pe_one (pe_cmpR op_le (pe_op op_add (pv 3) (pe_ix ix_tup (pv 0) pe_int (fun _ _ => rfl))) (pv 2) (nomark _))))))) pss_nil)
      (pss_cons (ps_if (pt_cmpR op_eq (pe_ix ix_tup (pv 0) pe_int (fun _ _ => rfl)) pe_str (nomark _)) (pss_one (ps_ret (pe_cmpR op_eq (pe_op op_mod (pe_callTy call_int1 (by rfl) T.f_int (by decide +kernel) (pa_cons (pe_dget hu (pv 1) (pe_ix ix_tup (pv 0) pe_int (fun _ _ => rfl)) (fun _ _ => rfl)) pa_nil)) (pe_ix ix_tup (pv 0) pe_int (fun _ _ => rfl))) (pe_ix ix_tup (pv 0) pe_int (fun _ _ => rfl)) (nomark _)))) pss_nil)
      (pss_cons (ps_set (i := 4) sc_true.nd rfl (by first | exact Or.inl rfl | exact Or.inr rfl) (pe_op op_sub (pe_dget hu (pv 1) (pe_ix ix_tup (pv 0) pe_int (fun _ _ => rfl)) (fun _ _ => rfl)) (pe_dget hu (pv 1) (pe_ix ix_tup (pv 0) pe_int (fun _ _ => rfl)) (fun _ _ => rfl))))
      (pss_cons (ps_if (pt_cmpR op_eq (pe_ix ix_tup (pv 0) pe_int (fun _ _ => rfl)) pe_str (nomark _)) (pss_one (ps_ret (pe_cmpR op_eq (pe_op op_mod (pe_callTy call_int1 (by rfl) T.f_int (by decide +kernel) (pa_cons (pv 4) pa_nil)) (pe_ix ix_tup (pv 0) pe_int (fun _ _ => rfl))) (pe_ix ix_tup (pv 0) pe_int (fun _ _ => rfl)) (nomark _)))) pss_nil)
      (pss_one (ps_ret (pe_ifExp (pt_cmpR op_eq (pe_ix ix_tup (pv 0) pe_int (fun _ _ => rfl)) pe_str (nomark _)) (pe_cmpR op_ge (pv 4) (pe_ix ix_tup (pv 0) pe_int (fun _ _ => rfl)) (nomark _)) (pe_ifExp (pt_cmpR op_eq (pe_ix ix_tup (pv 0) pe_int (fun _ _ => rfl)) pe_str (nomark _)) (pe_cmpR op_le (pv 4) (pe_ix ix_tup (pv 0) pe_int (fun _ _ => rfl)) (nomark _)) (pe_cmpR op_eq (pv 4) (pe_ix ix_tup (pv 0) pe_int (fun _ _ => rfl)) (nomark _)))))))))), ?_⟩
  have gt : ∀ {x : Str}, x ∈ ps → DGet H d (.str x) (some (V.int (CF.look ps zs x))) := fun h => dget_at hd nd hl h
  have kk : ∀ b : Bool, b = f.val (CF.look ps zs) → Q (.bl b) H := fun b e => e ▸ k H (Same.refl H)
  clear k
  cases f with
  | apart x k1 n y e c =>
    obtain ⟨ox, oy, _⟩ := id ok
    refine ⟨_, rfl, q, _, _, _, rfl, rfl, SqT.of hq, rfl, rfl, _, rfl, ite2 (fun _ => ?_) (fun c => absurd (by decide +kernel) c)⟩
    refine ⟨_, rfl, _, rfl, q, _, _, _, rfl, rfl, SqT.of hq, rfl, d, _, rfl, gt ox, _, rfl, q, _, _, _, rfl, rfl, SqT.of hq, rfl, _, _, rfl, rfl, ?_⟩
    refine ⟨_, rfl, _, rfl, q, _, _, _, rfl, rfl, SqT.of hq, rfl, d, _, rfl, gt oy, _, rfl, q, _, _, _, rfl, rfl, SqT.of hq, rfl, _, _, rfl, rfl, ?_⟩
    refine ⟨_, _, rfl, _, rfl, _, rfl, q, _, _, _, rfl, rfl, SqT.of hq, rfl, _, _, rfl, rfl, _, rfl, _, _, rfl, rfl, _, rfl, ite2 (fun c1 => ?_) (fun c1 => ?_)⟩
    · exact kk _ (by simp only [CF.FD.val]; rw [c1]; rfl)
    · refine ⟨_, rfl, _, rfl, q, _, _, _, rfl, rfl, SqT.of hq, rfl, _, _, rfl, rfl, _, rfl, _, _, rfl, rfl, ?_⟩
      exact kk _ (by simp only [CF.FD.val]; rw [Bool.eq_false_iff.mpr c1]; rfl)
  | by_ x m r =>
    obtain ⟨ox, hm, _⟩ := id ok
    refine ⟨_, rfl, q, _, _, _, rfl, rfl, SqT.of hq, rfl, rfl, _, rfl, ite2 (fun c => absurd c (by decide +kernel)) (fun _ => ?_)⟩
    refine ⟨_, rfl, q, _, _, _, rfl, rfl, SqT.of hq, rfl, rfl, _, rfl, ite2 (fun _ => ?_) (fun c => absurd (by decide +kernel) c)⟩
    refine ⟨_, rfl, _, rfl, q, _, _, _, rfl, rfl, SqT.of hq, rfl, d, _, rfl, gt ox, .inl ⟨_, rfl, _, rfl, q, _, _, _, rfl, rfl, SqT.of hq, rfl, _, _, rfl, rfl, by omega, _, rfl, q, _, _, _, rfl, rfl, SqT.of hq, rfl, rfl, ?_⟩⟩
    exact kk _ (decide_eq_decide.mpr ⟨V.int.inj, fun e => congrArg V.int e⟩)
  | gap x y m r =>
    obtain ⟨ox, oy, _, hm, _⟩ := id ok
    refine ⟨_, rfl, q, _, _, _, rfl, rfl, SqT.of hq, rfl, rfl, _, rfl, ite2 (fun c => absurd c (by decide +kernel)) (fun _ => ?_)⟩
    refine ⟨_, rfl, q, _, _, _, rfl, rfl, SqT.of hq, rfl, rfl, _, rfl, ite2 (fun c => absurd c (by decide +kernel)) (fun _ => ?_)⟩
    refine ⟨_, rfl, _, rfl, q, _, _, _, rfl, rfl, SqT.of hq, rfl, d, _, rfl, gt oy, _, rfl, _, rfl, q, _, _, _, rfl, rfl, SqT.of hq, rfl, d, _, rfl, gt ox, _, _, rfl, rfl, ?_⟩
    refine ⟨_, rfl, q, _, _, _, rfl, rfl, SqT.of hq, rfl, rfl, _, rfl, ite2 (fun _ => ?_) (fun c => absurd (by decide +kernel) c)⟩
    refine ⟨_, rfl, .inl ⟨_, rfl, _, rfl, q, _, _, _, rfl, rfl, SqT.of hq, rfl, _, _, rfl, rfl, by omega, _, rfl, q, _, _, _, rfl, rfl, SqT.of hq, rfl, rfl, ?_⟩⟩
    exact kk _ (decide_eq_decide.mpr ⟨V.int.inj, fun e => congrArg V.int e⟩)
  | dist w0 x y n =>
    obtain ⟨hw, ox, oy, _⟩ := id ok
    have hw3 : w0 = "from" ∨ w0 = "upto" ∨ w0 = "is" := by
      simp only [CF.Sorts, List.mem_cons, List.not_mem_nil, or_false] at hw
      exact hw
    refine ⟨_, rfl, q, _, _, _, rfl, rfl, SqT.of hq, rfl, rfl, _, rfl, ite2 (fun c => absurd (V.str.inj (of_decide_eq_true c)) (by rcases hw3 with rfl | rfl | rfl <;> decide +kernel)) (fun _ => ?_)⟩
    refine ⟨_, rfl, q, _, _, _, rfl, rfl, SqT.of hq, rfl, rfl, _, rfl, ite2 (fun c => absurd (V.str.inj (of_decide_eq_true c)) (by rcases hw3 with rfl | rfl | rfl <;> decide +kernel)) (fun _ => ?_)⟩
    refine ⟨_, rfl, _, rfl, q, _, _, _, rfl, rfl, SqT.of hq, rfl, d, _, rfl, gt oy, _, rfl, _, rfl, q, _, _, _, rfl, rfl, SqT.of hq, rfl, d, _, rfl, gt ox, _, _, rfl, rfl, ?_⟩
    refine ⟨_, rfl, q, _, _, _, rfl, rfl, SqT.of hq, rfl, rfl, _, rfl, ite2 (fun c => absurd (V.str.inj (of_decide_eq_true c)) (by rcases hw3 with rfl | rfl | rfl <;> decide +kernel)) (fun _ => ?_)⟩
    refine ⟨_, rfl, q, _, _, _, rfl, rfl, SqT.of hq, rfl, rfl, _, rfl, ?_⟩
    simp only [CF.FD.val] at kk
    by_cases h1 : w0 = "from"
    · rw [if_pos h1] at kk
      rw [decide_eq_true (by rw [h1])]
      exact iteT ⟨_, rfl, _, rfl, q, _, _, _, rfl, rfl, SqT.of hq, rfl, _, _, rfl, rfl, kk _ rfl⟩
    · rw [if_neg h1] at kk
      rw [decide_eq_false (fun e => h1 (V.str.inj e))]
      refine iteF ?_
      refine ⟨_, rfl, q, _, _, _, rfl, rfl, SqT.of hq, rfl, rfl, _, rfl, ?_⟩
      by_cases h2 : w0 = "upto"
      · rw [if_pos h2] at kk
        rw [decide_eq_true (by rw [h2])]
        exact iteT ⟨_, rfl, _, rfl, q, _, _, _, rfl, rfl, SqT.of hq, rfl, _, _, rfl, rfl, kk _ rfl⟩
      · rw [if_neg h2] at kk
        rw [decide_eq_false (fun e => h2 (V.str.inj e))]
        refine iteF ⟨_, rfl, _, rfl, q, _, _, _, rfl, rfl, SqT.of hq, rfl, rfl, ?_⟩
        exact kk _ (decide_eq_decide.mpr ⟨V.int.inj, fun e => congrArg V.int e⟩)



theorem idx_of {ps : List Str} {x : Str} (h : x ∈ ps) : ∃ i : Nat, i < ps.length ∧ (ps.map V.str)[i]? = some (.str x) ∧ (∀ (m : Nat) (z' : V), m < i → (ps.map V.str)[m]? = some z' → eqV z' (.str x) = false) := by
  induction ps with
  | nil => cases h
  | cons p r ih =>
    by_cases e : p = x
    · subst e
      exact ⟨0, by simp, rfl, fun m z' hm => absurd hm (by omega)⟩
    · have hr : x ∈ r := (List.mem_cons.mp h).resolve_left fun z => e z.symm
      obtain ⟨i, h1, h2, h3⟩ := ih hr
      refine ⟨i + 1, by simpa using h1, by simpa using h2, fun m z' hm hz => ?_⟩
      cases m with
      | zero =>
        have : z' = .str p := by simpa using hz.symm
        subst this
        show (p == x) = false
        exact beq_eq_false_iff_ne.mpr e
      | succ m => exact h3 m z' (by omega) (by simpa using hz)
theorem eqS (x : Str) : eqV (.str x) (.str x) = true := by
  show (x == x) = true
  exact beq_self_eq_true x
theorem ixn_nat {n i : Nat} (h : i < n) : ixN n (i : Int) = some i := by
  unfold ixN
  rw [if_pos (by omega), if_pos (by omega)]
  rfl
theorem eqv_nilT (fs : List PyData) : PyData.eqv (.list fs) (.list []) = fs.isEmpty := by
  cases fs <;> rfl
/-- new_places(pen, many, facts, pointers) -/
def spNewPlaces : Sp := fun vs H Q _ => ∃ (p l fq q : Addr) (t : Int) (qs : List Addr) (fs : List CF.FD) (ps : List Str), vs = [.ref p, .int (ps.length : Nat), .ref fq, .ref q] ∧ Pen H p l t ∧ t ≤ 100000 ∧ H fq = some (.lst (qs.map V.ref)) ∧ CF.FAt H qs fs ∧ fs.length ≤ 1000 ∧ (∀ f ∈ fs, f.Ok ps) ∧ H q = some (.lst (ps.map V.str)) ∧ CF.Names ps ∧
  ∀ (r : Addr) (H' : Hp) (t' : Int) (zs : List Int), zs.length = ps.length → Pen H' p l t' → t ≤ t' → t' ≤ t + 17 → But p H H' → H r = none → H' r = some (.lst (zs.map V.int)) → Q (.ref r) H'
abbrev s_new_places : Stmt := topS 57
theorem sc_new_places : FnScope ["pen", "many", "facts", "pointers", "base", "found", "fact", "one", "two", "gaps", "k"] ["pen", "many", "facts", "pointers"] (defScope s_new_places) := ⟨rfl, rfl, rfl, by decide +kernel, rfl, by decide +kernel, by decide +kernel⟩
theorem ok_new_places (T : Txt mg) (D : Def K mg "_law_new_places" s_new_places) (C__law_draw : Cal P w K mg base 1 "_law_draw" ["pen", "span"] spDraw) (C__law_pick : Cal P w K mg base 2 "_law_pick" ["pen", "options"] (spPick K)) (C__law_far_number : Cal P w K mg base 2 "_law_far_number" ["pen"] spFar) : Cal P w K mg base 3 "_law_new_places" ["pen", "many", "facts", "pointers"] spNewPlaces := by
  refine D.cal sc_new_places (fun vs H Q E h => ?_) (fun _ _ _ _ _ _ us hl => match us, hl with | [_, _, _, _], _ => rfl) (fun f cdv A outer s H vs Q E hr h => ?_)
  · obtain ⟨p, l, fq, q, t, qs, fs, ps, rfl, _⟩ := h
    rfl
  have hu := hu_of hr

  obtain ⟨p, l, fq, q, t, qs, fs, ps, rfl, pen, ht, hf, fat, f12, ok, hq, nms, k⟩ := h
  refine ⟨_, (pss_cons (ps_set (i := 4) sc_new_places.nd rfl (by first | exact Or.inl rfl | exact Or.inr rfl) (pe_cal C__law_pick (hr.mono (by decide)) rfl (pa_cons (pv 0) (pa_cons (pe_lst (pa_cons pe_int (pa_cons pe_int (pa_cons (pe_op op_sub (pe_cal C__law_draw (hr.mono (by decide)) rfl (pa_cons (pv 0) (pa_cons pe_int pa_nil))) pe_int) (pa_cons (pe_cal C__law_far_number (hr.mono (by decide)) rfl (pa_cons (pv 0) pa_nil)) pa_nil))))) pa_nil))))
      (pss_cons (ps_setLc (i := 5) (own := [("k", 10)]) (g := gName 10) (tt := tYes) rfl sc_new_places.nd rfl rfl (sw_true rfl rfl rfl (by decide +kernel)) (pi_range1 rfl T.f_range (pa_cons (pv 1) pa_nil)) (blkOk_by (N := ["pen", "many", "facts", "pointers", "base", "found", "fact", "one", "two", "gaps", "k"]) (sc := defScope s_new_places) (by decide +kernel)) (fun _ _ _ _ _ => (pg_name (i := 10) sc_new_places.nd rfl (Or.inl rfl))) (fun _ _ _ _ _ => pts_nil) (fun _ _ _ _ _ => (pe_op op_sub (pe_op op_add (pv 4) (pe_cal C__law_draw (hr.mono (by decide)) rfl (pa_cons (pv 0) (pa_cons pe_int pa_nil)))) pe_int)))
      (C8.pss_cut (ps_if (PW.pt (pw_and (pt_cmpR (op_neD hr.units) (pv 2) (pe_lst pa_nil) (nomark _)) (pw_and1 (pt_cmpR op_gt (pv 1) pe_int (nomark _))))) (pss_cons (ps_set (i := 6) sc_new_places.nd rfl (by first | exact Or.inl rfl | exact Or.inr rfl) (pe_cal C__law_pick (hr.mono (by decide)) rfl (pa_cons (pv 0) (pa_cons (pv 2) pa_nil))))
      (pss_one (ps_if (pt_cmpR op_in_seq (pe_ix ix_tup (pv 6) pe_int (fun _ _ => rfl)) (pe_tup (pa_cons pe_str (pa_cons pe_str (pa_cons pe_str (pa_cons pe_str pa_nil))))) (by rfl)) (pss_cons (ps_par (i := 7) (j := 8) (by rfl) sc_new_places.nd rfl rfl (by decide) rfl rfl (pa_cons (pe_bm PySem.F.plainAttrs_list PySem.F.slot_list_index PySem.F.type_list_index mt_index (pv 3) (pa_cons (pe_ix ix_tup (pv 6) pe_int (fun _ _ => rfl)) pa_nil)) (pa_cons (pe_bm PySem.F.plainAttrs_list PySem.F.slot_list_index PySem.F.type_list_index mt_index (pv 3) (pa_cons (pe_ifExp (pt_cmpR op_eq (pe_ix ix_tup (pv 6) pe_int (fun _ _ => rfl)) pe_str (nomark _)) (pe_ix ix_tup (pv 6) pe_int (fun _ _ => rfl)) (pe_ix ix_tup (pv 6) pe_int (fun _ _ => rfl))) pa_nil)) pa_nil)) (by rfl))
      (pss_cons (ps_set (i := 9) sc_new_places.nd rfl (by first | exact Or.inl rfl | exact Or.inr rfl) (pe_lst (pa_cons (pe_ix ix_tup (pv 6) pe_int (fun _ _ => rfl)) pa_nil)))
      (C8.pss_cut (ps_if (pt_cmpR op_eq (pe_ix ix_tup (pv 6) pe_int (fun _ _ => rfl)) pe_str (nomark _)) (pss_one (ps_set (i := 9) sc_new_places.nd rfl (by first | exact Or.inl rfl | exact Or.inr rfl) (pe_lst (pa_cons (pe_op op_sub (pe_op op_add (pe_ix ix_tup (pv 6) pe_int (fun _ _ => rfl)) (pe_ix ix_tup (pv 6) pe_int (fun _ _ => rfl))) (pe_ix ix_tup (pv 6) pe_int (fun _ _ => rfl))) (pa_cons (pe_op op_sub (pe_op op_sub (pe_ix ix_tup (pv 6) pe_int (fun _ _ => rfl)) (pe_ix ix_tup (pv 6) pe_int (fun _ _ => rfl))) (pe_ix ix_tup (pv 6) pe_int (fun _ _ => rfl))) pa_nil))))) pss_nil)
      (pss_one (ps_asg (pe_op op_sub (pe_op op_add (pe_op op_add (pe_ix ix_list (pv 5) (pv 7) (fun _ _ => rfl)) (pe_cal C__law_pick (hr.mono (by decide)) rfl (pa_cons (pv 0) (pa_cons (pv 9) pa_nil)))) (pe_cal C__law_draw (hr.mono (by decide)) rfl (pa_cons (pv 0) (pa_cons pe_int pa_nil)))) pe_int) (pg_sub (pv 5) (pv 8) set_list)))))) pss_nil))) pss_nil)
      (pss_one (ps_ret (pe_ifExp (pt_cmpR op_gt (pe_cal C__law_draw (hr.mono (by decide)) rfl (pa_cons (pv 0) (pa_cons pe_int pa_nil))) pe_int (nomark _)) (pv 5) (pe_lc (own := [("k", 10)]) (g := gName 10) (tt := tYes) rfl sc_new_places.nd (pi_range1 rfl T.f_range (pa_cons (pv 1) pa_nil)) (blkOk_by (N := ["pen", "many", "facts", "pointers", "base", "found", "fact", "one", "two", "gaps", "k"]) (sc := defScope s_new_places) (by decide +kernel)) (fun _ _ _ _ _ => (pg_name (i := 10) sc_new_places.nd rfl (Or.inl rfl))) (fun _ _ _ _ _ => pts_nil) (fun _ _ _ _ _ => (pv 4))))))))), ?_⟩
  have n13 : ps.length ≤ 3 := nms.2.2.2
  have iF : ∀ {xs : List Int} {j : Nat} {v : V}, (xs.map V.int)[j]? = some v → ∃ b : Int, v = .int b := fun h => by
    rw [List.getElem?_map] at h
    obtain ⟨b, _, rfl⟩ := Option.map_eq_some_iff.mp h
    exact ⟨b, rfl⟩
  have new0 : ∀ {H1 : Hp} {D : Addr}, But p H H1 → H1 D = none → Pen H1 p l t → True := fun _ _ _ => trivial
  have free : ∀ {H1 : Hp} {D : Addr} {t1 : Int}, But p H H1 → Pen H1 p l t1 → H1 D = none → H D = none := fun {H1 D t1} b pn hD => b.free (fun e => by
    obtain ⟨o, ho⟩ := pn.at_
    rw [e, ho] at hD
    cases hD) hD
  have npen : ∀ {H1 : Hp} {D : Addr} {t1 : Int}, Pen H1 p l t1 → H1 D = none → D ≠ p ∧ D ≠ l := fun {H1 D t1} pn hD => by
    obtain ⟨ns, lf, h1, h2, _⟩ := pn.ex
    exact ⟨fun e => (by rw [e, h1] at hD; cases hD), fun e => (by rw [e, h2] at hD; cases hD)⟩
  refine ⟨_, rfl, _, rfl, p, l, t, 200, rfl, pen, by omega, by decide, by decide, fun v1 H1 t1 _ _ pen1 g1 g2 b1 => ?_⟩
  refine ⟨_, _, rfl, rfl, _, rfl, p, l, t1, rfl, pen1, by omega, fun v2 H2 t2 _ pen2 g3 g4 b2 => ?_⟩
  refine ⟨by show 4 ≤ sizeLine; decide, fun L0 hL0 => ?_⟩
  refine ⟨p, l, L0, t2, [0, 0, v1 - 100, v2].map V.int, rfl, pen2.new hL0, by omega, (npen pen2 hL0).1, .inl (SqL.of upd_same), by show 0 < 4; decide, by show 4 ≤ 1000000; decide, fun j0 v H3 t3 hv pen3 g5 g6 b3 => ?_⟩
  obtain ⟨bs, rfl⟩ := iF hv
  have b4 : But p H H3 := ((b1.trans b2).nw hL0).trans b3
  clear b1 b2 b3 hv hL0
  refine ⟨_, rfl, ps.length, rfl, by omega, by omega, fun F hF => lc_it walk_range (fun i H' => ∃ (zs : List Int) (t4 : Int), H' F = some (.lst (zs.map V.int)) ∧ zs.length = i ∧ Pen H' p l t4 ∧ t3 ≤ t4 ∧ t4 ≤ t3 + i ∧ But p H H' ∧ H F = none)
    ⟨[], t3, upd_same, rfl, pen3.new hF, Int.le_refl _, by omega, b4.nw hF, free b4 pen3 hF⟩ (fun _ _ _ _ => trivial) ?_ ?_⟩
  · rintro i x Ha Hb hi ⟨zs, t4, e1, e2, pen4, e4, e5, e6, e7⟩ ⟨rfl, hx⟩
    cases hx
    have nF := npen pen3 hF
    refine ⟨rfl, _, rfl, _, rfl, p, l, t4, 97, rfl, pen4, by omega, by decide, by decide, fun v5 H5 t5 _ _ pen5 h5 h6 b5 => ?_⟩
    refine ⟨_, _, rfl, rfl, _, _, rfl, rfl, _, b5 _ _ nF.1 e1, by rw [List.length_map, sizeLine_eq]; omega, zs ++ [bs + v5 - 48], t5, ?_, ?_, pen5.put nF.1 nF.2, by omega, by omega, (e6.trans b5).put e7, e7⟩
    · rw [List.map_append]
      exact upd_same
    · rw [List.length_append, e2]
      rfl
  rintro Hc ⟨zs, t4, e1, e2, pen4, e4, e5, e6, e7⟩
  have nF := npen pen3 hF
  clear free npen
  have free : ∀ {H1 : Hp} {D : Addr} {t1 : Int}, But p H H1 → Pen H1 p l t1 → H1 D = none → H D = none := fun {H1 D t1} b pn hD => b.free (fun e => by
    obtain ⟨o, ho⟩ := pn.at_
    rw [e, ho] at hD
    cases hD) hD
  have npen : ∀ {H1 : Hp} {D : Addr} {t1 : Int}, Pen H1 p l t1 → H1 D = none → D ≠ p ∧ D ≠ l := fun {H1 D t1} pn hD => by
    obtain ⟨ns, lf, h1, h2, _⟩ := pn.ex
    exact ⟨fun e => (by rw [e, h1] at hD; cases hD), fun e => (by rw [e, h2] at hD; cases hD)⟩
  refine ⟨fun σ' H' => ∃ (v6 v7 v8 v9 v10 : Option V) (zs : List Int) (t5 : Int), σ' = [some (.ref p), some (.int (ps.length : Nat)), some (.ref fq), some (.ref q), some (.int bs), some (.ref F), v6, v7, v8, v9, v10] ∧ H' F = some (.lst (zs.map V.int)) ∧ zs.length = ps.length ∧ Pen H' p l t5 ∧ t ≤ t5 ∧ t5 ≤ t + 16 ∧ But p H H', ?_, ?_⟩
  · have shp : SeqAt.shaped (.list (fs.map fun f => PyData.tuple f.ds)) = true := by
      have e : (fs.map fun f => PyData.tuple f.ds) = (fs.map CF.FD.ds).map PyData.tuple := by
        rw [List.map_map]
        rfl
      rw [e]
      refine CF.shaped_tups fun ds hds => ?_
      obtain ⟨g, hg, rfl⟩ := List.mem_map.mp hds
      exact CF.FD.flat (fun z hz => low_name (nms.1 z hz)) (ok g hg)
    have hfp : fq ≠ p := fun e => by
      obtain ⟨ns, lf, h1, _⟩ := pen.ex
      rw [e, h1] at hf
      cases hf
    have hqp : q ≠ p := fun e => by
      obtain ⟨ns, lf, h1, _⟩ := pen.ex
      rw [e, h1] at hq
      cases hq
    have fat' : ∀ {H1 : Hp}, But p H H1 → CF.FAt H1 qs fs := fun {H1} b => by
      obtain ⟨ns, lf, h1, _⟩ := pen.ex
      exact fat.but h1 b
    refine ⟨_, rfl, by show 0 ≤ sizeLine; decide, fun e he => ⟨.list (fs.map fun f => PyData.tuple f.ds), .list [], .lst (SqL.of ((Same.new he) _ _ (e6 _ _ hfp hf))) ((fat' e6).same (Same.new he)).dps, .lst (SqL.of upd_same) .nil, shp, rfl, _, rfl, ?_⟩⟩
    rw [eqv_nilT]
    have e1' := (Same.new (o := .lst []) he) _ _ e1
    have pen4' := pen4.new (o := .lst []) he
    have e6' := e6.nw (o := .lst []) he
    generalize upd Hc e (.lst []) = H6 at e1' pen4' e6' ⊢
    have stay : ∃ (v6 v7 v8 v9 v10 : Option V) (zs' : List Int) (t5 : Int), [some (V.ref p), some (.int (ps.length : Nat)), some (.ref fq), some (.ref q), some (.int bs), some (.ref F), none, none, none, none, none] = [some (V.ref p), some (.int (ps.length : Nat)), some (.ref fq), some (.ref q), some (.int bs), some (.ref F), v6, v7, v8, v9, v10] ∧ H6 F = some (.lst (zs'.map V.int)) ∧ zs'.length = ps.length ∧ Pen H6 p l t5 ∧ t ≤ t5 ∧ t5 ≤ t + 16 ∧ But p H H6 :=
      ⟨none, none, none, none, none, zs, t4, rfl, e1', e2, pen4', by omega, by omega, e6'⟩
    refine ite2 (fun c0 => ?_) (fun c0 => ?_)
    · refine ⟨_, rfl, _, _, rfl, rfl, _, rfl, ite2 (fun c1 => ?_) (fun _ => stay)⟩
      have fpos : 0 < fs.length := by
        cases fs with
        | nil => exact absurd c0 (by decide)
        | cons _ _ => simp
      refine ⟨_, rfl, _, rfl, p, l, fq, t4, qs.map V.ref, rfl, pen4', by omega, hfp, .inl (SqL.of (e6' _ _ hfp hf)), by rw [List.length_map, fat.len]; exact fpos, by rw [List.length_map, fat.len]; omega, fun j v H7 t7 hv pen7 g7 g8 b7 => ?_⟩
      rw [List.getElem?_map] at hv
      obtain ⟨a, ha, rfl⟩ := Option.map_eq_some_iff.mp hv
      obtain ⟨f0, hf0, hfa⟩ := fat.at_ ha
      have okf := ok f0 (List.mem_of_getElem? hf0)
      have b8 := e6'.trans b7
      have hap : a ≠ p := fun e => by
        obtain ⟨ns, lf, h1, _⟩ := pen.ex
        rw [e, h1] at hfa
        cases hfa
      have hF7 := b7 _ _ nF.1 e1'
      have hq7 := b8 _ _ hqp hq
      have ha7 := b8 _ _ hap hfa
      have na : ∀ {T0 : Addr}, H7 T0 = none → True := fun _ => trivial
      cases f0 with
      | by_ x m r =>
        refine ⟨_, rfl, a, _, _, _, rfl, rfl, SqT.of ha7, rfl, by show 4 ≤ sizeLine; decide, fun T0 hT => ?_⟩
        refine ⟨T0, _, rfl, .inr (SqT.of upd_same), rfl, rfl, _, rfl, ite2 (fun c => absurd c (by decide +kernel)) (fun _ => ?_)⟩
        exact ⟨some (.ref a), none, none, none, none, zs, t7, rfl, (Same.new hT) _ _ hF7, e2, pen7.new hT, by omega, by omega, b8.nw hT⟩
      | gap x y m r =>
        refine ⟨_, rfl, a, _, _, _, rfl, rfl, SqT.of ha7, rfl, by show 4 ≤ sizeLine; decide, fun T0 hT => ?_⟩
        refine ⟨T0, _, rfl, .inr (SqT.of upd_same), rfl, rfl, _, rfl, ite2 (fun c => absurd c (by decide +kernel)) (fun _ => ?_)⟩
        exact ⟨some (.ref a), none, none, none, none, zs, t7, rfl, (Same.new hT) _ _ hF7, e2, pen7.new hT, by omega, by omega, b8.nw hT⟩
      | apart x k1 n y e0 c9 =>
        obtain ⟨ox, oy, _⟩ := id okf
        refine ⟨_, rfl, a, _, _, _, rfl, rfl, SqT.of ha7, rfl, by show 4 ≤ sizeLine; decide, fun T0 hT => ?_⟩
        refine ⟨T0, _, rfl, .inr (SqT.of upd_same), rfl, rfl, _, rfl, ite2 (fun _ => ?_) (fun c => absurd (by decide +kernel) c)⟩
        have HA := (Same.new (o := .tup [.str "from", .str "upto", .str "is", .str "apart"]) hT) _ _ ha7
        have HF := (Same.new (o := .tup [.str "from", .str "upto", .str "is", .str "apart"]) hT) _ _ hF7
        have HQ := (Same.new (o := .tup [.str "from", .str "upto", .str "is", .str "apart"]) hT) _ _ hq7
        have PN := pen7.new (o := .tup [.str "from", .str "upto", .str "is", .str "apart"]) hT
        have BB := b8.nw (o := .tup [.str "from", .str "upto", .str "is", .str "apart"]) hT
        generalize upd H7 T0 (.tup [.str "from", .str "upto", .str "is", .str "apart"]) = H9 at HA HF HQ PN BB ⊢
        obtain ⟨i1, l1, h11, h12⟩ := idx_of ox
        obtain ⟨i2, l2, h21, h22⟩ := idx_of oy
        refine ⟨_, rfl, .inl ⟨rfl, _, SqL.of HQ⟩, _, rfl, a, _, _, _, rfl, rfl, SqT.of HA, rfl, q, ps.map V.str, .str x, i1, _, rfl, rfl, SqL.of HQ, rfl, flat_strs ps, h11, eqS x, h12, ?_⟩
        refine ⟨_, rfl, .inl ⟨rfl, _, SqL.of HQ⟩, _, rfl, a, _, _, _, rfl, rfl, SqT.of HA, rfl, rfl, _, rfl, ite2 (fun _ => ?_) (fun c => absurd (by decide +kernel) c)⟩
        refine ⟨_, rfl, a, _, _, _, rfl, rfl, SqT.of HA, rfl, q, ps.map V.str, .str y, i2, _, rfl, rfl, SqL.of HQ, rfl, flat_strs ps, h21, eqS y, h22, _, _, rfl, ?_⟩
        refine ⟨_, rfl, a, _, _, _, rfl, rfl, SqT.of HA, rfl, by show 1 ≤ sizeLine; decide, fun G hG0 => ?_⟩
        have nGa := npen PN hG0
        refine ⟨fun σ2 H10 => ∃ (v10' : Option V) (G' : Addr) (gs : List Int), σ2 = [some (.ref p), some (.int (ps.length : Nat)), some (.ref fq), some (.ref q), some (.int bs), some (.ref F), some (.ref a), some (.int (i1 : Nat)), some (.int (i2 : Nat)), some (.ref G'), v10'] ∧ H10 G' = some (.lst (gs.map V.int)) ∧ 0 < gs.length ∧ gs.length ≤ 2 ∧ Pen H10 p l t7 ∧ But p H H10 ∧ H10 F = some (.lst (zs.map V.int)), ?_, ?_⟩
        · have HA2 := (Same.new (o := .lst [.int n]) hG0) _ _ HA
          have HF2 := (Same.new (o := .lst [.int n]) hG0) _ _ HF
          have PN2 := PN.new (o := .lst [.int n]) hG0
          have BB2 := BB.nw (o := .lst [.int n]) hG0
          refine ⟨_, rfl, a, _, _, _, rfl, rfl, SqT.of HA2, rfl, rfl, _, rfl, ite2 (fun _ => ?_) (fun c => absurd (by decide +kernel) c)⟩
          refine ⟨_, rfl, a, _, _, _, rfl, rfl, SqT.of HA2, rfl, _, rfl, a, _, _, _, rfl, rfl, SqT.of HA2, rfl, _, _, rfl, rfl, _, rfl, a, _, _, _, rfl, rfl, SqT.of HA2, rfl, _, _, rfl, rfl, _, rfl, a, _, _, _, rfl, rfl, SqT.of HA2, rfl, _, rfl, a, _, _, _, rfl, rfl, SqT.of HA2, rfl, _, _, rfl, rfl, _, rfl, a, _, _, _, rfl, rfl, SqT.of HA2, rfl, _, _, rfl, rfl, by show 2 ≤ sizeLine; decide, fun G2 hG2 => ?_⟩
          exact ⟨none, G2, [k1 + n - e0, k1 - e0 - c9], rfl, upd_same, by show 0 < 2; decide, by show 2 ≤ 2; decide, PN2.new hG2, BB2.nw hG2, (Same.new hG2) _ _ HF2⟩

        rintro σ2 H10 ⟨v10', G', gs, rfl, hG, gpos, gle, pen10, b10, hF10⟩
        have z1 : i1 < zs.length := by omega
        have z2 : i2 < zs.length := by omega
        have nG : G' ≠ p := fun e => by
          obtain ⟨ns, lf, h1, _⟩ := pen10.ex
          rw [e, h1] at hG
          cases hG
        refine ⟨_, rfl, _, rfl, F, zs.map V.int, (i1 : Int), .int zs[i1], rfl, rfl, SqL.of hF10, at_of (j := i1) (by omega) (by rw [List.getElem?_map, List.getElem?_eq_getElem z1]; rfl), ?_⟩
        refine ⟨_, rfl, _, rfl, p, l, G', t7, gs.map V.int, rfl, pen10, by omega, nG, .inl (SqL.of hG), by rw [List.length_map]; exact gpos, by rw [List.length_map]; omega, fun j v H11 t11 hv pen11 g11 g12 b11 => ?_⟩
        obtain ⟨gp, rfl⟩ := iF hv
        refine ⟨_, _, rfl, rfl, _, rfl, p, l, t11, 3, rfl, pen11, by omega, by decide, by decide, fun w1 H12 t12 _ _ pen12 g13 g14 b12 => ?_⟩
        have hF12 := b12 _ _ nF.1 (b11 _ _ nF.1 hF10)
        refine ⟨_, _, rfl, rfl, _, _, rfl, rfl, _, rfl, _, rfl, F, zs.map V.int, (i2 : Int), i2, rfl, rfl, hF12, ixn_nat (by rw [List.length_map]; exact z2), ?_⟩
        exact ⟨_, _, _, _, _, zs.set i2 (zs[i1] + gp + w1 - 1), t12, rfl, by rw [List.map_set]; exact upd_same, by rw [List.length_set]; exact e2, pen12.put nF.1 nF.2, by omega, by omega, ((b10.trans b11).trans b12).put e7⟩
      | dist w0 x y n =>
        obtain ⟨hw, ox, oy, _⟩ := id okf
        have hw3 : w0 = "from" ∨ w0 = "upto" ∨ w0 = "is" := by
          simp only [CF.Sorts, List.mem_cons, List.not_mem_nil, or_false] at hw
          exact hw
        have nw : w0 ≠ "apart" := by rcases hw3 with rfl | rfl | rfl <;> decide +kernel
        have inw : inV (.str w0) [.str "from", .str "upto", .str "is", .str "apart"] = true := by rcases hw3 with rfl | rfl | rfl <;> decide +kernel
        refine ⟨_, rfl, a, _, _, _, rfl, rfl, SqT.of ha7, rfl, by show 4 ≤ sizeLine; decide, fun T0 hT => ?_⟩
        refine ⟨T0, _, rfl, .inr (SqT.of upd_same), rfl, rfl, _, rfl, ite2 (fun _ => ?_) (fun c => absurd inw c)⟩
        have HA := (Same.new (o := .tup [.str "from", .str "upto", .str "is", .str "apart"]) hT) _ _ ha7
        have HF := (Same.new (o := .tup [.str "from", .str "upto", .str "is", .str "apart"]) hT) _ _ hF7
        have HQ := (Same.new (o := .tup [.str "from", .str "upto", .str "is", .str "apart"]) hT) _ _ hq7
        have PN := pen7.new (o := .tup [.str "from", .str "upto", .str "is", .str "apart"]) hT
        have BB := b8.nw (o := .tup [.str "from", .str "upto", .str "is", .str "apart"]) hT
        generalize upd H7 T0 (.tup [.str "from", .str "upto", .str "is", .str "apart"]) = H9 at HA HF HQ PN BB ⊢
        obtain ⟨i1, l1, h11, h12⟩ := idx_of ox
        obtain ⟨i2, l2, h21, h22⟩ := idx_of oy
        refine ⟨_, rfl, .inl ⟨rfl, _, SqL.of HQ⟩, _, rfl, a, _, _, _, rfl, rfl, SqT.of HA, rfl, q, ps.map V.str, .str x, i1, _, rfl, rfl, SqL.of HQ, rfl, flat_strs ps, h11, eqS x, h12, ?_⟩
        refine ⟨_, rfl, .inl ⟨rfl, _, SqL.of HQ⟩, _, rfl, a, _, _, _, rfl, rfl, SqT.of HA, rfl, rfl, _, rfl, ite2 (fun c => absurd (V.str.inj (of_decide_eq_true c)) nw) (fun _ => ?_)⟩
        refine ⟨_, rfl, a, _, _, _, rfl, rfl, SqT.of HA, rfl, q, ps.map V.str, .str y, i2, _, rfl, rfl, SqL.of HQ, rfl, flat_strs ps, h21, eqS y, h22, _, _, rfl, ?_⟩
        refine ⟨_, rfl, a, _, _, _, rfl, rfl, SqT.of HA, rfl, by show 1 ≤ sizeLine; decide, fun G hG0 => ?_⟩
        refine ⟨fun σ2 H10 => ∃ (v10' : Option V) (G' : Addr) (gs : List Int), σ2 = [some (.ref p), some (.int (ps.length : Nat)), some (.ref fq), some (.ref q), some (.int bs), some (.ref F), some (.ref a), some (.int (i1 : Nat)), some (.int (i2 : Nat)), some (.ref G'), v10'] ∧ H10 G' = some (.lst (gs.map V.int)) ∧ 0 < gs.length ∧ gs.length ≤ 2 ∧ Pen H10 p l t7 ∧ But p H H10 ∧ H10 F = some (.lst (zs.map V.int)), ?_, ?_⟩
        · have HA2 := (Same.new (o := .lst [.int n]) hG0) _ _ HA
          have HF2 := (Same.new (o := .lst [.int n]) hG0) _ _ HF
          have PN2 := PN.new (o := .lst [.int n]) hG0
          have BB2 := BB.nw (o := .lst [.int n]) hG0
          refine ⟨_, rfl, a, _, _, _, rfl, rfl, SqT.of HA2, rfl, rfl, _, rfl, ite2 (fun c => absurd (V.str.inj (of_decide_eq_true c)) nw) (fun _ => ?_)⟩
          exact ⟨none, G, [n], rfl, upd_same, by show 0 < 1; decide, by show 1 ≤ 2; decide, PN2, BB2, HF2⟩

        rintro σ2 H10 ⟨v10', G', gs, rfl, hG, gpos, gle, pen10, b10, hF10⟩
        have z1 : i1 < zs.length := by omega
        have z2 : i2 < zs.length := by omega
        have nG : G' ≠ p := fun e => by
          obtain ⟨ns, lf, h1, _⟩ := pen10.ex
          rw [e, h1] at hG
          cases hG
        refine ⟨_, rfl, _, rfl, F, zs.map V.int, (i1 : Int), .int zs[i1], rfl, rfl, SqL.of hF10, at_of (j := i1) (by omega) (by rw [List.getElem?_map, List.getElem?_eq_getElem z1]; rfl), ?_⟩
        refine ⟨_, rfl, _, rfl, p, l, G', t7, gs.map V.int, rfl, pen10, by omega, nG, .inl (SqL.of hG), by rw [List.length_map]; exact gpos, by rw [List.length_map]; omega, fun j v H11 t11 hv pen11 g11 g12 b11 => ?_⟩
        obtain ⟨gp, rfl⟩ := iF hv
        refine ⟨_, _, rfl, rfl, _, rfl, p, l, t11, 3, rfl, pen11, by omega, by decide, by decide, fun w1 H12 t12 _ _ pen12 g13 g14 b12 => ?_⟩
        have hF12 := b12 _ _ nF.1 (b11 _ _ nF.1 hF10)
        refine ⟨_, _, rfl, rfl, _, _, rfl, rfl, _, rfl, _, rfl, F, zs.map V.int, (i2 : Int), i2, rfl, rfl, hF12, ixn_nat (by rw [List.length_map]; exact z2), ?_⟩
        exact ⟨_, _, _, _, _, zs.set i2 (zs[i1] + gp + w1 - 1), t12, rfl, by rw [List.map_set]; exact upd_same, by rw [List.length_set]; exact e2, pen12.put nF.1 nF.2, by omega, by omega, ((b10.trans b11).trans b12).put e7⟩
    · exact ite2 (fun c => absurd c (by decide)) fun _ => stay
  rintro σ' Hd ⟨v6, v7, v8, v9, v10, zs', t5, rfl, d1, d2, pen5, d4, d5, d6⟩
  refine ⟨_, rfl, p, l, t5, 5, rfl, pen5, by omega, by decide, by decide, fun v H8 t8 _ _ pen8 g7 g8 b8 => ?_⟩
  refine ⟨_, _, rfl, rfl, _, rfl, ite2 (fun _ => ?_) (fun _ => ?_)⟩
  · exact ⟨_, rfl, k F H8 t8 zs' d2 pen8 (by omega) (by omega) (d6.trans b8) e7 (b8 _ _ nF.1 d1)⟩
  · refine ⟨_, rfl, ps.length, rfl, by omega, by omega, fun D hD => lc_it walk_range (fun i H' => ∃ (zs : List Int), H' D = some (.lst (zs.map V.int)) ∧ zs.length = i ∧ Pen H' p l t8 ∧ But p H H')
      ⟨[], upd_same, rfl, pen8.new hD, (d6.trans b8).nw hD⟩ (fun _ _ _ _ => trivial) ?_ ?_⟩
    · rintro i x Ha Hb hi ⟨zs, a1, a2, pen4, a6⟩ ⟨rfl, hx⟩
      cases hx
      refine ⟨rfl, _, rfl, _, a1, by rw [List.length_map, sizeLine_eq]; omega, zs ++ [bs], ?_, ?_, pen4.put (npen pen8 hD).1 (npen pen8 hD).2, a6.put (free (d6.trans b8) pen8 hD)⟩
      · rw [List.map_append]
        exact upd_same
      · rw [List.length_append, a2]
        rfl
    · rintro He ⟨zs, a1, a2, pen4, a6⟩
      exact k D He t8 zs a2 pen4 (by omega) (by omega) a6 (free (d6.trans b8) pen8 hD) a1

end
end K03
end
section
set_option Elab.async false
set_option linter.all false
set_option maxRecDepth 100000
set_option maxHeartbeats 4000000
namespace K03
open PySem PySem.Spec PyProof.Rows L2 LamX NdefX LfX
open PySem.W (ke_shaped_ints)
local macro_rules | `(tactic| walk_at "go") => `(tactic| first | refine ⟨_, rfl, ?_⟩ | refine .inl ⟨_, rfl, ?_⟩ | refine ⟨_, _, rfl, rfl, (by first | (show (0 : Int) < _; decide) | exact Or.inl ⟨by decide, by decide⟩ | exact Or.inr ⟨by decide, by decide⟩), ?_⟩ | refine ⟨_, _, rfl, rfl, ?_⟩)
section
variable {P : Program} {w : World} {K : PySem.W.Frag} {mg : Str → Option Value} {base : Heap}

/-- all but lists, dicts and tables stay -/
def Stay (H H' : Hp) : Prop := ∀ b o, H b = some o → (∀ kvs, o ≠ .dK kvs) → (∀ xs, o ≠ .lst xs) → (∀ qs, o ≠ .tbl qs) → H' b = some o
theorem Stay.refl (H : Hp) : Stay H H := fun _ _ h _ _ _ => h
theorem Stay.trans {H H1 H2 : Hp} (a : Stay H H1) (b : Stay H1 H2) : Stay H H2 := fun c o h n1 n2 n3 => b c o (a c o h n1 n2 n3) n1 n2 n3
theorem Stay.same {H H' : Hp} (s : Same H H') : Stay H H' := fun b o h _ _ _ => s b o h
theorem Stay.but {p : Addr} {kvs : List (Key × V)} {H H' : Hp} (hp : H p = some (.dK kvs)) (s : But p H H') : Stay H H' := fun b o h n _ _ => s b o (fun e => by rw [e, hp] at h; exact n _ (Option.some.inj h).symm) h
theorem Stay.ext {H H' : Hp} (s : ExtN H H') : Stay H H' := fun b o h _ _ n => s b o h n
theorem Stay.upl {H : Hp} {a : Addr} {xs : List V} {o : HO} (h : H a = some (.lst xs)) : Stay H (upd H a o) := fun b u e _ n _ => (upd_ne (fun z => by rw [z, h] at e; exact n _ (Option.some.inj e).symm)).trans e
theorem Stay.tup {K : PySem.W.Frag} {a : Addr} {H H' : Hp} {xs : List V} (s : Stay H H') (h : SqT K H a xs) : SqT K H' a xs := by
  rcases h with (h | ⟨o, h⟩) | h
  · exact .inl (.inl (s _ _ h (fun _ z => nomatch z) (fun _ z => nomatch z) (fun _ z => nomatch z)))
  · exact .inl (.inr ⟨o, s _ _ h (fun _ z => nomatch z) (fun _ z => nomatch z) (fun _ z => nomatch z)⟩)
  · exact .inr h
theorem Stay.at_ {H H' : Hp} {a : Addr} {xs : List V} (s : Stay H H') (h : H a = some (.tup xs)) : H' a = some (.tup xs) := s _ _ h (fun _ z => nomatch z) (fun _ z => nomatch z) (fun _ z => nomatch z)
theorem Stay.ins {H H' : Hp} {a C dx : Addr} {fs : List (Str × V)} (s : Stay H H') (h : H a = some (.ins C dx fs)) : H' a = some (.ins C dx fs) := s _ _ h (fun _ z => nomatch z) (fun _ z => nomatch z) (fun _ z => nomatch z)
theorem EndsAt.stay {H H' : Hp} {ps : List Str} {f : CF.FD} {v1 v2 : V} {sp : Addr} (h : EndsAt H ps f v1 v2 sp) (s : Stay H H') : EndsAt H' ps f v1 v2 sp := by
  cases f with
  | by_ a m r => exact h
  | gap a b m r => exact h
  | dist w a b n => exact h
  | apart a k n b e c =>
    obtain ⟨i, j, q1, q2, s1, s2, a1, a2, a3, a4, a5, a6, a7, a8, a9⟩ := h
    exact ⟨i, j, q1, q2, s1, s2, a1, a2, a3, a4, s.at_ a5, s.at_ a6, s.at_ a7, s.at_ a8, s.at_ a9⟩
theorem FactAt.stay {K : PySem.W.Frag} {C : Addr} {H H' : Hp} {ps : List Str} {o : Addr} {f : CF.FD} (h : FactAt K C H ps o f) (s : Stay H H') : FactAt K C H' ps o f := by
  obtain ⟨dx, nm, sp, v1, v2, h1, h2, h3⟩ := h
  exact ⟨dx, nm, sp, v1, v2, s.ins h1, s.tup h2, h3.stay s⟩
theorem FactsAt.stay {K : PySem.W.Frag} {C : Addr} {H H' : Hp} {ps : List Str} {os : List Addr} {fs : List CF.FD} (h : FactsAt K C H ps os fs) (s : Stay H H') : FactsAt K C H' ps os fs := ⟨h.1, fun i o f a b => (h.2 i o f a b).stay s⟩
theorem ConAt.stay {K : PySem.W.Frag} {C Dc : Addr} {H H' : Hp} {o : Addr} {ps : List Str} {fs : List CF.FD} (h : ConAt K C Dc H o ps fs) (s : Stay H H') : ConAt K C Dc H' o ps fs := by
  obtain ⟨dx, pt, ln, ft, os, h1, h2, h3, h4, h5⟩ := h
  exact ⟨dx, pt, ln, ft, os, s.ins h1, s.tup h2, s.at_ h3, s.tup h4, h5.stay s⟩
theorem ExtN.put {H H' : Hp} {p : Addr} {o : HO} (e : ExtN H H') (h : H p = none) : ExtN H (upd H' p o) := fun b u q n => by rw [upd_ne (ne_of_none q h)]; exact e b u q n
theorem tabs_up {T : List NTab} {H : Hp} {F : Addr} {xs : List V} {o : HO} (t : TabsN T H) (h : H F = some (.lst xs)) : TabsN T (upd H F o) := fun p hp => by
  obtain ⟨qs, h1, h2, h3⟩ := t p hp
  refine ⟨qs, (upd_ne (fun z => by rw [z, h] at h1; cases h1)).trans h1, h2, fun pos cv hc => ?_⟩
  obtain ⟨c, e1, e2⟩ := h3 pos cv hc
  refine ⟨c, e1, (upd_ne (fun z => ?_)).trans e2⟩
  rw [z, h] at e2
  unfold CodeO at e2
  cases e2
theorem tabs_but {T : List NTab} {H H' : Hp} {p : Addr} {kvs : List (Key × V)} (t : TabsN T H) (hp : H p = some (.dK kvs)) (b : But p H H') : TabsN T H' := fun q hq => by
  obtain ⟨qs, h1, h2, h3⟩ := t q hq
  refine ⟨qs, b _ _ (fun z => by rw [z, hp] at h1; cases h1) h1, h2, fun pos cv hc => ?_⟩
  obtain ⟨c, e1, e2⟩ := h3 pos cv hc
  refine ⟨c, e1, b _ _ (fun z => ?_) e2⟩
  rw [z, hp] at e2
  unfold CodeO at e2
  cases e2
theorem fnl_ne {f : Addr} {F : LF} : (∀ qs, FnL f F ≠ .tbl qs) := fun qs z => by
  unfold FnL at z
  cases z


/-- are_refused(contract, places) -/
def spRefused (K : PySem.W.Frag) (C Dc Pt : Addr) (nm : Nat → Nat → Str) : Sp := fun vs H Q _ => ∃ (o a : Addr) (ps : List Str) (fs : List CF.FD) (zs : List Int), vs = [.ref o, .ref a] ∧ TabsN [(Pt, nm)] H ∧ ConAt K C Dc H o ps fs ∧ (∀ f ∈ fs, f.Ok ps) ∧ fs.length ≤ 1000 ∧ ps.Nodup ∧ H a = some (.lst (zs.map V.int)) ∧ zs.length ≠ ps.length ∧
  ∀ H', ExtN H H' → TabsN [(Pt, nm)] H' → Q (.bl true) H'
def nmR : Nat → Nat → Str := fun _ _ => ("_law_are_refused" : Str) ++ ".<locals>." ++ "<lambda>"
def prmL : Arguments := { posonlyargs := [], args := [], vararg := none, kwonlyargs := [], kw_defaults := [], kwarg := none, defaults := [] }
def scL : Scope := { kind := .function, names := [("contract", .free), ("places", .free)], isGenerator := false, isCoroutine := false, more := [] }
def lamOf : Expr → Expr
  | .Lambda _ e _ _ => e
  | e => e
def firstE : Expr → Expr
  | .List (e :: _) _ => e
  | .Tuple (_ :: e :: _) _ _ => e
  | .Call _ (e :: _) _ _ => e
  | e => e
def valueOf : Stmt → Expr
  | .Assign _ v _ => v
  | .Expr v _ => v
  | _ => .Constant .none 0 ⟨0, 0, 0, 0⟩
abbrev s_are_refused : Stmt := topS 58
theorem sc_are_refused : FnScope ["contract", "places", "found", "asks", "ask", "e"] ["contract", "places"] (defScope s_are_refused) := ⟨rfl, rfl, rfl, by decide +kernel, rfl, by decide +kernel, by decide +kernel⟩

def bdy (b : Bool) : Expr := match b with
  | true => lamOf (firstE (firstE (valueOf ((defBody s_are_refused).getD 0 (.Pass ⟨0, 0, 0, 0⟩)))))
  | false => lamOf (firstE (valueOf ((defBody s_are_refused).getD 1 (.Pass ⟨0, 0, 0, 0⟩))))
abbrev lfR (cl : List (Str × Addr)) (b : Bool) (c' : Addr) : LF := ⟨("_law_are_refused" : Str) ++ ".<locals>." ++ "<lambda>", prmL, bdy b, scL, cl, c'⟩
/-- the lambdas: both are refused -/
def spLam (K : PySem.W.Frag) (C Dc : Addr) : List (Option V) → Sp := fun ws vs H _ E => ∃ (o a : Addr) (ps : List Str) (fs : List CF.FD) (zs : List Int), ws = [some (.ref o), some (.ref a)] ∧ vs = [] ∧ ConAt K C Dc H o ps fs ∧ (∀ f ∈ fs, f.Ok ps) ∧ fs.length ≤ 1000 ∧ ps.Nodup ∧ SqL K H a (zs.map V.int) ∧ zs.length ≠ ps.length ∧ E (.ref (He.ga K "BadPlaces")) none H
theorem lam_ok {C Dc : Addr} (M_keeps : MthX P w K mg base (CX P w) 4 Dc "keeps" ["self", "places"] (spKeeps K C Dc)) (M_broken : MthX P w K mg base (CX P w) 4 Dc "broken" ["self", "places"] (spBroken K C Dc)) (cl : List (Str × Addr)) (b : Bool) (f c' : Addr) :
    LOk P w K mg base (CX P w) 5 f (lfR cl b c') ["contract", "places"] (spLam K C Dc) := by
  refine lok_of (N := ["contract", "places"]) (nscope_by (show nscB ["contract", "places"] [] ["contract", "places"] scL = true by decide +kernel)) (fun _ _ => rfl) (fun A outer s H ws Q E hr hf hc hl h => ?_)
  obtain ⟨o, a, ps, fs, zs, rfl, _, con, ok, big, nd, hz, ne, k⟩ := h
  have tk : Takes (lcx (CX P w) P w K mg base ["contract", "places"] (lfR cl b c') f A outer s H E) (fun cls d _ H => E cls d H) := takes_of rfl rfl rfl rfl
  have con' := con
  obtain ⟨dx, pt, ln, ft, os, ho, _⟩ := con
  cases b with
  | true =>
    refine ⟨_, pe_mth M_keeps (pv 0) (hr.mono (by decide)) (passes_call tk fun _ _ _ _ h => h) (pa_cons (pv 1) pa_nil), ?_⟩
    refine ⟨_, rfl, o, dx, _, rfl, ho, rfl, _, rfl, o, a, ps, fs, zs, rfl, con', ok, nd, .inl hz, .inr ⟨ne, k⟩⟩
  | false =>
    refine ⟨_, pe_mth M_broken (pv 0) (hr.mono (by decide)) (passes_call tk fun _ _ _ _ h => h) (pa_cons (pv 1) pa_nil), ?_⟩
    refine ⟨_, rfl, o, dx, _, rfl, ho, rfl, _, rfl, o, a, ps, fs, zs, rfl, con', ok, big, nd, .inl hz, .inr ⟨ne, k⟩⟩


def tTryR (K : PySem.W.Frag) (C Dc : Addr) (cl : List (Str × Addr)) : TS := fun D σ H => tDrop (tCallL (lfR cl) 4 [0, 1] (fun _ => spLam K C Dc) (WE (wAs K (.ref (He.ga K "BadPlaces")) 5 (fun a cls d D σ H => (cls = .ref (He.ga K "BadPlaces") ∧ d = none) ∧ tDrop (tBM K "list" rAppend (tVar 2) (tCons (tAndV (tCB (rIsE K (He.ga K "BadPlaces") a) (tCons (tVar 5) (tCons (tC (.ref (He.ga K "PartlyError"))) tNil))) (tNotV (tCB (rIsE K (He.ga K "BadPlaces") a) (tCons (tVar 5) (tCons (tC (.ref (He.ga K "BadContract"))) tNil))))) tNil)) D σ H) (fun _ _ _ _ => False) D))) D σ H
theorem ok_are_refused {C Dc c Pt : Addr} (T : Txt mg) (D : DefT K mg "_law_are_refused" s_are_refused c) (TB : TabB base mg c Pt) (EC : ExcC K (He.ga K "BadPlaces")) (gBP : mg "BadPlaces" = some (.ref (He.ga K "BadPlaces"))) (gPE : mg "PartlyError" = some (.ref (He.ga K "PartlyError"))) (gBC : mg "BadContract" = some (.ref (He.ga K "BadContract")))
    (eP : PySem.W.exmOne K (.ref (He.ga K "BadPlaces")) (.ref (He.ga K "BadPlaces")) = some true) (iP : PySem.W.kitOne K (.ref (He.ga K "BadPlaces")) (.ref (He.ga K "PartlyError")) = some true) (iC : PySem.W.kitOne K (.ref (He.ga K "BadPlaces")) (.ref (He.ga K "BadContract")) = some false)
    (M_keeps : MthX P w K mg base (CX P w) 4 Dc "keeps" ["self", "places"] (spKeeps K C Dc)) (M_broken : MthX P w K mg base (CX P w) 4 Dc "broken" ["self", "places"] (spBroken K C Dc)) : Cal P w K mg base 7 "_law_are_refused" ["contract", "places"] (spRefused K C Dc Pt nmR) := by
  refine D.cal sc_are_refused (fun vs H Q E h => ?_) (fun _ _ _ _ _ _ us hl => match us, hl with | [_, _], _ => rfl) (fun f A outer s H vs Q E hr h => ?_)
  · obtain ⟨o, a, ps, fs, zs, rfl, _⟩ := h
    rfl
  have hu := hu_of hr
  obtain ⟨o, a, ps, fs, zs, rfl, tabs, con, ok, big, nd, ha, ne, k⟩ := h
  suffices z : ∃ t, PSs (cxOf CX0 P w K mg base ["contract", "places", "found", "asks", "ask", "e"] "_law_are_refused" (defScope s_are_refused) f (.ref c) A outer s H E).nox (defBody s_are_refused) t ∧ t { nx := fun _ H' => Q .non H', rt := Q } (start ["contract", "places", "found", "asks", "ask", "e"] [.ref o, .ref a]) H by
    obtain ⟨t, h1, h2⟩ := z
    exact ⟨t, h1.nox, h2⟩
  refine ⟨_, (pss_cons (ps_par (i := 2) (j := 3) (by rfl) sc_are_refused.nd rfl rfl (by decide) rfl rfl (pa_cons (pe_lst pa_nil) (pa_cons (pe_lst (pa_cons (pe_lamv (nm := nmR) TB rfl (List.mem_singleton.mpr rfl) rfl (fun p hp _ => by rw [List.mem_singleton.mp hp]) (fun y hy _ => by simp only [List.mem_cons, List.not_mem_nil, or_false] at hy; rcases hy with rfl | rfl <;> exact .inl rfl) rfl) pa_nil)) pa_nil)) (by rfl))
    (pss_cons (ps_expr (pe_bm PySem.F.plainAttrs_list PySem.F.slot_list_append PySem.F.type_list_append mt_append (pv 3) (pa_cons (pe_lamv (nm := nmR) TB rfl (List.mem_singleton.mpr rfl) rfl (fun p hp _ => by rw [List.mem_singleton.mp hp]) (fun y hy _ => by simp only [List.mem_cons, List.not_mem_nil, or_false] at hy; rcases hy with rfl | rfl <;> exact .inl rfl) rfl) pa_nil)))
    (pss_cons (ps_for PassesOwn.never rfl (pi_list (pv 3)) (pg_name (i := 4) sc_are_refused.nd rfl (by first | exact Or.inl rfl | exact Or.inr rfl)) (pss_one (ps_try_as (i := 5) (ts := fun a cls d D σ H => (cls = .ref (He.ga K "BadPlaces") ∧ d = none) ∧ tDrop (tBM K "list" rAppend (tVar 2) (tCons (tAndV (tCB (rIsE K (He.ga K "BadPlaces") a) (tCons (tVar 5) (tCons (tC (.ref (He.ga K "PartlyError"))) tNil))) (tNotV (tCB (rIsE K (He.ga K "BadPlaces") a) (tCons (tVar 5) (tCons (tC (.ref (He.ga K "BadContract"))) tNil))))) tNil)) D σ H) rfl rfl sc_are_refused.nd rfl rfl ⟨rfl, by decide, .inl gBP⟩ L2.takes0 (fun W pn xe tk _ => (pss_one (ps_expr (pe_calll0 (CX := CX P w) (ι := Bool) (mk := lfR (cloFrom (cellsFrom (s.heap.objs.size + 1) (defScope s_are_refused).names []) scL.names [])) (fr := ["contract", "places"]) (js := [0, 1]) (sp := fun _ => spLam K C Dc) (fun b f c' => lam_ok M_keeps M_broken _ b f c') (fun _ _ => rfl) (fun ok => Caps.made (scope := scL) ok (fun y hy _ => by simp only [scL, List.mem_cons, List.not_mem_nil, or_false] at hy; rcases hy with rfl | rfl <;> exact .inl rfl) (fun y hy => by simp only [List.mem_cons, List.not_mem_nil, or_false] at hy; rcases hy with rfl | rfl <;> simp [scL]) rfl) (hr.mono (by decide)) (Nat.le_refl _) (fun σ => passAt tk σ) (i := 4) rfl (by first | exact Or.inl rfl | exact Or.inr rfl | decide))))) (fun a oe cls d pn hz hf => pss_if (X := Cx.suite (cxOf CX0 P w K mg base ["contract", "places", "found", "asks", "ask", "e"] "_law_are_refused" (defScope s_are_refused) f (.ref c) A outer s H E).nox a ((a, oe) :: pn)) (p := cls = .ref (He.ga K "BadPlaces") ∧ d = none) fun hh => have hz2 : Zc (.ref (He.ga K "BadPlaces")) none oe := (by rw [← hh.1, ← hh.2]; exact hz); (pss_one (ps_expr (pe_bm PySem.F.plainAttrs_list PySem.F.slot_list_append PySem.F.type_list_append mt_append (pv 2) (pa_cons (pe_and (pe_callB (call_isE (X := (cxOf CX0 P w K mg base ["contract", "places", "found", "asks", "ask", "e"] "_law_are_refused" (defScope s_are_refused) f (.ref c) A outer s H E).nox) (a := a) (oe := oe) (pn := pn) EC hz2 hf) (by rfl) T.f_isinstance (by decide +kernel) (pa_cons (pv 5) (pa_cons (pe_gref (by rfl) gPE) pa_nil))) (pe_one (pe_not (pe_callB (call_isE (X := (cxOf CX0 P w K mg base ["contract", "places", "found", "asks", "ask", "e"] "_law_are_refused" (defScope s_are_refused) f (.ref c) A outer s H E).nox) (a := a) (oe := oe) (pn := pn) EC hz2 hf) (by rfl) T.f_isinstance (by decide +kernel) (pa_cons (pv 5) (pa_cons (pe_gref (by rfl) gBC) pa_nil)))))) pa_nil))))))))
    (pss_one (ps_ret (pe_cmpR (op_eqD hr.units) (pv 2) (pe_lst (pa_cons pe_bl (pa_cons pe_bl pa_nil))) (nomark _))))))), ?_⟩
  refine ⟨by show 0 ≤ sizeLine; decide, fun F hF => ?_⟩
  have sF := Same.new (o := .lst []) hF
  have hF0 : upd H F (.lst []) F = some (.lst []) := upd_same
  have con0 := con.same sF
  have ha0 := sF _ _ ha
  refine ⟨tabs.ext sF, fun f1 c1 H1 ex1 nn1 tabs1 nf1 hf1 hc1 => ?_⟩
  have ex1' : ExtN H H1 := (ExtN.of sF).trans ex1
  have hF1 := ex1 _ _ hF0 (fun _ z => nomatch z)
  have ha1 := ex1 _ _ ha0 (fun _ z => nomatch z)
  have con1 := con0.stay (Stay.ext ex1)
  refine ⟨by show 1 ≤ sizeLine; decide, fun L hL => ⟨_, _, rfl, ?_⟩⟩
  have sL := Same.new (o := .lst [.ref f1]) hL
  have hL0 : upd H1 L (.lst [.ref f1]) L = some (.lst [.ref f1]) := upd_same
  have ex2 := ex1'.trans (ExtN.of sL)
  have tabs2 := tabs1.ext sL
  have hF2 := sL _ _ hF1
  have ha2 := sL _ _ ha1
  have con2 := con1.same sL
  have hf2 := sL _ _ hf1
  have hc2 := sL _ _ hc1
  have hLH : H L = none := by
    have h1 := nn1 _ hL
    have nLF : L ≠ F := fun e => by rw [e, hF1] at hL; cases hL
    rw [upd_ne nLF] at h1
    exact h1
  clear ex1 con0 ha0 hF0 hF1 ha1 con1 hf1 hc1 tabs1
  generalize upd H1 L (.lst [.ref f1]) = H2 at sL hL0 ex2 tabs2 hF2 ha2 con2 hf2 hc2 ⊢
  refine ⟨_, rfl, .inl ⟨rfl, _, SqL.of hL0⟩, tabs2, fun f2 c2 H3 ex3 nn3 tabs3 nf2 hf3 hc3 => ?_⟩
  have hL3 := ex3 _ _ hL0 (fun _ z => nomatch z)
  have hF3 := ex3 _ _ hF2 (fun _ z => nomatch z)
  have ha3 := ex3 _ _ ha2 (fun _ z => nomatch z)
  have con3 := con2.stay (Stay.ext ex3)
  have hf13 := ex3 _ _ hf2 fnl_ne
  have hc13 := ex3 _ _ hc2 codeO_ne
  have ex4 := ex2.trans ex3
  refine ⟨L, _, _, rfl, rfl, hL3, by show 1 < sizeLine; decide, ?_⟩
  have nFL : F ≠ L := fun e => by
    rw [e] at hF3
    rw [hF3] at hL3
    cases hL3
  have naL : a ≠ L := fun e => by rw [e, hLH] at ha; cases ha
  have hfL : ∀ {g : Addr} {G : LF}, H3 g = some (FnL g G) → g ≠ L := fun {g G} h e => by
    rw [e, hL3] at h
    unfold FnL at h
    cases h
  have hcL : ∀ {g : Addr} {z : Str}, H3 g = some (CodeO g z) → g ≠ L := fun {g z} h e => by
    rw [e, hL3] at h
    unfold CodeO at h
    cases h
  have e5 := ExtN.put (o := .lst ([.ref f1] ++ [.ref f2])) ex4 hLH
  have t5 := tabs_up (o := .lst ([.ref f1] ++ [.ref f2])) tabs3 hL3
  have con5 := con3.stay (Stay.upl (o := .lst ([.ref f1] ++ [.ref f2])) hL3)
  have hL5 : upd H3 L (.lst ([.ref f1] ++ [.ref f2])) L = some (.lst [.ref f1, .ref f2]) := upd_same
  have hF5 := (upd_ne (o := .lst ([.ref f1] ++ [.ref f2])) nFL).trans hF3
  have ha5 := (upd_ne (o := .lst ([.ref f1] ++ [.ref f2])) naL).trans ha3
  have hf15 := (upd_ne (o := .lst ([.ref f1] ++ [.ref f2])) (hfL hf13)).trans hf13
  have hc15 := (upd_ne (o := .lst ([.ref f1] ++ [.ref f2])) (hcL hc13)).trans hc13
  have hf25 := (upd_ne (o := .lst ([.ref f1] ++ [.ref f2])) (hfL hf3)).trans hf3
  have hc25 := (upd_ne (o := .lst ([.ref f1] ++ [.ref f2])) (hcL hc3)).trans hc3
  generalize upd H3 L (.lst ([.ref f1] ++ [.ref f2])) = H5 at e5 t5 con5 hL5 hF5 ha5 hf15 hc15 hf25 hc25 ⊢
  clear con2 con3 hF2 hF3 ha2 ha3 hf2 hc2 hf13 hc13 hf3 hc3 hL0 hL3
  refine ⟨_, rfl, L, rfl, ⟨_, SqL.of hL5⟩, for_it (tb := tTryR K C Dc (cloFrom (cellsFrom (s.heap.objs.size + 1) (defScope s_are_refused).names []) scL.names [])) walk_list (fun i σ H' => ∃ v4 v5, σ = [some (.ref o), some (.ref a), some (.ref F), some (.ref L), v4, v5] ∧ H' F = some (.lst (List.replicate i (.bl true))) ∧ ∀ b x, b ≠ F → H5 b = some x → H' b = some x)
    ⟨none, none, rfl, hF5, fun _ _ _ h => h⟩ (fun i σ H' _ ⟨_, _, e, _, kp⟩ => SqL.of (kp _ _ nFL.symm hL5)) ?_ ?_⟩
  · rintro i x σ Ha Hb hi ⟨v4, v5, rfl, hFi, kp⟩ ⟨rfl, hx⟩
    have fn : ∃ (b : Bool) (g c' : Addr), x = .ref g ∧ H5 g = some (FnL g (lfR (cloFrom (cellsFrom (s.heap.objs.size + 1) (defScope s_are_refused).names []) scL.names []) b c')) ∧ H5 c' = some (CodeO c' (lfR (cloFrom (cellsFrom (s.heap.objs.size + 1) (defScope s_are_refused).names []) scL.names []) b c').qual) := by
      have hi2 : i = 0 ∨ i = 1 := by
        have : i < 2 := hi
        omega
      rcases hi2 with rfl | rfl
      · cases hx
        exact ⟨true, f1, c1, rfl, hf15, hc15⟩
      · cases hx
        exact ⟨false, f2, c2, rfl, hf25, hc25⟩
    obtain ⟨b, g, c', rfl, hg, hc'⟩ := fn
    have ngF : g ≠ F := fun e => by
      rw [e, hF5] at hg
      unfold FnL at hg
      cases hg
    have ncF : c' ≠ F := fun e => by
      rw [e, hF5] at hc'
      unfold CodeO at hc'
      cases hc'
    have naF : a ≠ F := fun e => by
      rw [e] at ha
      rw [hF] at ha
      cases ha
    have st : Stay H5 Hb := fun b o h _ n _ => kp b o (fun e => by rw [e, hF5] at h; exact n _ (Option.some.inj h).symm) h
    refine ⟨b, g, c', rfl, kp _ _ ngF hg, kp _ _ ncF hc', o, a, ps, fs, zs, rfl, rfl, con5.stay st, ok, big, nd, SqL.of (kp _ _ naF ha5), ne, true, eP, (fun _ a' ha' => ⟨⟨rfl, rfl⟩, ?_⟩), (fun q => nomatch q)⟩
    refine ⟨_, rfl, .inl ⟨rfl, _, SqL.of hFi⟩, _, rfl, .ref (He.ga K "PartlyError"), .ref (He.ga K "PartlyError"), true, rfl, fun u r => r, iP, true, rfl, iteT ?_⟩
    refine ⟨_, rfl, .ref (He.ga K "BadContract"), .ref (He.ga K "BadContract"), false, rfl, fun u r => r, iC, false, rfl, F, _, _, rfl, rfl, hFi, ?_, ?_⟩
    · rw [List.length_replicate, sizeLine_eq]
      have : i < 2 := hi
      omega
    · refine ⟨_, _, rfl, ?_, fun b x n h => (upd_ne n).trans (kp b x n h)⟩
      rw [List.replicate_succ']
      exact upd_same
  · rintro σ Ha ⟨v4, v5, rfl, hFi, kp⟩
    refine ⟨_, rfl, by show 2 ≤ sizeLine; decide, fun e he => ?_⟩
    have hF9 := (Same.new (o := .lst [.bl true, .bl true]) he) _ _ hFi
    refine ⟨.list [.bool true, .bool true], .list [.bool true, .bool true], .lst (SqL.of hF9) (.cons (.bl _) (.cons (.bl _) .nil)), .lst (SqL.of upd_same) (.cons (.bl _) (.cons (.bl _) .nil)), rfl, rfl, ?_⟩
    have ex : ExtN H Ha := fun b x h n => kp b x (fun z => by rw [z, hF] at h; cases h) (e5 b x h n)
    have tb : TabsN [(Pt, nmR)] Ha := fun p hp => by
      obtain ⟨qs, h1, h2, h3⟩ := t5 p hp
      refine ⟨qs, kp _ _ (fun z => by rw [z, hF5] at h1; cases h1) h1, h2, fun pos cv hc => ?_⟩
      obtain ⟨c0, e1, e2⟩ := h3 pos cv hc
      refine ⟨c0, e1, kp _ _ (fun z => ?_) e2⟩
      rw [z, hF5] at e2
      unfold CodeO at e2
      cases e2
    exact k _ (ex.trans (ExtN.of (Same.new he))) (tb.ext (Same.new he))
end
end K03
end
section
set_option Elab.async false
set_option linter.all false
set_option maxRecDepth 100000
set_option maxHeartbeats 4000000
namespace K03
open PySem PySem.Spec PyProof.Rows L2 LamX NdefX LfX
open PySem.W (ke_shaped_ints)
local macro_rules | `(tactic| walk_at "go") => `(tactic| first | refine ⟨_, rfl, ?_⟩ | refine .inl ⟨_, rfl, ?_⟩ | refine ⟨_, _, rfl, rfl, (by first | (show (0 : Int) < _; decide) | exact Or.inl ⟨by decide, by decide⟩ | exact Or.inr ⟨by decide, by decide⟩), ?_⟩ | refine ⟨_, _, rfl, rfl, ?_⟩)
section
variable {P : Program} {w : World} {K : PySem.W.Frag} {mg : Str → Option Value} {base : Heap}

/-- what stands in a turn behind the contract -/
structure Mid (K : PySem.W.Frag) (C Dc Pt : Addr) (H : Hp) (p l q fq o : Addr) (t : Int) (ps : List Str) (fs : List CF.FD) (qs : List Addr) : Prop where
  pen : Pen H p l t
  hq : H q = some (.lst (ps.map V.str))
  hf : H fq = some (.lst (qs.map V.ref))
  fat : CF.FAt H qs fs
  con : ConAt K C Dc H o ps fs
  tabs : TabsN [(Pt, nmR)] H
theorem Mid.same {K : PySem.W.Frag} {C Dc Pt : Addr} {H H' : Hp} {p l q fq o : Addr} {t : Int} {ps : List Str} {fs : List CF.FD} {qs : List Addr} (m : Mid K C Dc Pt H p l q fq o t ps fs qs) (s : Same H H') : Mid K C Dc Pt H' p l q fq o t ps fs qs :=
  ⟨m.pen.same s, s _ _ m.hq, s _ _ m.hf, m.fat.same s, m.con.same s, m.tabs.ext s⟩
theorem Mid.new {K : PySem.W.Frag} {C Dc Pt : Addr} {H : Hp} {x : HO} {p l q fq o r : Addr} {t : Int} {ps : List Str} {fs : List CF.FD} {qs : List Addr} (m : Mid K C Dc Pt H p l q fq o t ps fs qs) (h : H r = none) : Mid K C Dc Pt (upd H r x) p l q fq o t ps fs qs := m.same (Same.new h)
theorem Mid.but {K : PySem.W.Frag} {C Dc Pt : Addr} {H H' : Hp} {p l q fq o : Addr} {t t' : Int} {ps : List Str} {fs : List CF.FD} {qs : List Addr} (m : Mid K C Dc Pt H p l q fq o t ps fs qs) (b : But p H H') (pn : Pen H' p l t') : Mid K C Dc Pt H' p l q fq o t' ps fs qs := by
  obtain ⟨ns, lf, h1, _⟩ := m.pen.ex
  refine ⟨pn, b _ _ (fun e => ?_) m.hq, b _ _ (fun e => ?_) m.hf, m.fat.but h1 b, m.con.stay (Stay.but h1 b), tabs_but m.tabs h1 b⟩
  · have := m.hq
    rw [e, h1] at this
    cases this
  · have := m.hf
    rw [e, h1] at this
    cases this
theorem fat_ext {H H' : Hp} {qs : List Addr} {fs : List CF.FD} (h : CF.FAt H qs fs) (s : Stay H H') : CF.FAt H' qs fs := by
  induction h with
  | nil => exact .nil
  | cons a _ ih => exact .cons (s.at_ a) ih
theorem Pen.ext {H H' : Hp} {p l : Addr} {t : Int} (h : Pen H p l t) (s : ExtN H H') : Pen H' p l t := by
  obtain ⟨ns, lf, h1, h2, h3⟩ := h.ex
  exact ⟨⟨ns, lf, s _ _ h1 (fun _ z => nomatch z), s _ _ h2 (fun _ z => nomatch z), h3⟩, h.pos⟩
theorem Mid.ext {K : PySem.W.Frag} {C Dc Pt : Addr} {H H' : Hp} {p l q fq o : Addr} {t : Int} {ps : List Str} {fs : List CF.FD} {qs : List Addr} (m : Mid K C Dc Pt H p l q fq o t ps fs qs) (s : ExtN H H') (tb : TabsN [(Pt, nmR)] H') : Mid K C Dc Pt H' p l q fq o t ps fs qs :=
  ⟨Pen.ext m.pen s, s _ _ m.hq (fun _ z => nomatch z), s _ _ m.hf (fun _ z => nomatch z), fat_ext m.fat (Stay.ext s), m.con.stay (Stay.ext s), tb⟩
theorem Mid.upl {K : PySem.W.Frag} {C Dc Pt : Addr} {H : Hp} {p l q fq o ls : Addr} {xs ys : List V} {t : Int} {ps : List Str} {fs : List CF.FD} {qs : List Addr} (m : Mid K C Dc Pt H p l q fq o t ps fs qs) (h : H ls = some (.lst xs)) (n1 : ls ≠ q) (n2 : ls ≠ fq) (n4 : ls ≠ l) : Mid K C Dc Pt (upd H ls (.lst ys)) p l q fq o t ps fs qs := by
  refine ⟨m.pen.put (fun z => ?_) n4, (upd_ne n1.symm).trans m.hq, (upd_ne n2.symm).trans m.hf, m.fat.up h, m.con.stay (Stay.upl h), tabs_up m.tabs h⟩
  obtain ⟨ns, lf, hp, _, _⟩ := m.pen.ex
  rw [← z, h] at hp
  cases hp
theorem ne_same {d : PyData} (h : SeqAt.shaped d = true) : (!PyData.eqv d d) = false := by
  rw [SeqAt.eqv_refl d (SeqAt.canLay_of_shaped h)]
  rfl
def brkI (pl : Str → Int) (fs : List CF.FD) (j : Nat) : Bool := match fs[j]? with
  | some g => !g.val pl
  | none => false
theorem brk_def {pl : Str → Int} {fs : List CF.FD} : CF.brk pl fs = (List.range fs.length).filter (brkI pl fs) := rfl
theorem brkI_next {pl : Str → Int} {fs : List CF.FD} {i : Nat} {f : CF.FD} (h : fs[i]? = some f) : (List.range (i + 1)).filter (brkI pl fs) = (List.range i).filter (brkI pl fs) ++ (if f.val pl = true then [] else [i]) := by
  rw [List.range_succ, List.filter_append]
  congr 1
  simp only [List.filter_cons, List.filter_nil, brkI, h]
  cases e : f.val pl <;> simp
theorem brkI_len {pl : Str → Int} {fs : List CF.FD} (i : Nat) : ((List.range i).filter (brkI pl fs)).length ≤ i := by
  have h3 := List.length_filter_le (brkI pl fs) (List.range i)
  rw [List.length_range] at h3
  exact h3
theorem brk_nil {pl : Str → Int} {fs : List CF.FD} : (CF.brk pl fs).isEmpty = CF.kept pl fs := by
  rw [Bool.eq_iff_iff, List.isEmpty_iff]
  unfold CF.brk CF.kept
  rw [List.filter_eq_nil_iff, List.all_eq_true]
  constructor
  · intro h f hf
    obtain ⟨i, hi, e⟩ := List.mem_iff_getElem.mp hf
    have := h i (List.mem_range.mpr hi)
    rw [List.getElem?_eq_getElem hi, e] at this
    simpa using this
  · intro h i hi
    have hi' := List.mem_range.mp hi
    rw [List.getElem?_eq_getElem hi']
    have := h _ (List.getElem_mem hi')
    simp [this]


def spLaw (K : PySem.W.Frag) (Pt : Addr) : Sp := fun vs H Q _ => ∃ (a : Addr) (ns : List Int), vs = [.ref a] ∧ SqL K H a (ns.map V.int) ∧ TabsN [(Pt, nmR)] H ∧ ∀ H', Q (.bl true) H'
abbrev s_law : Stmt := topS 59
theorem sc_law : FnScope ["script", "pen", "turn", "pointers", "facts", "contract", "again", "places", "at", "kept", "due", "told", "far", "wrong", "k", "place"] ["script"] (defScope s_law) := ⟨rfl, rfl, rfl, by decide +kernel, rfl, by decide +kernel, by decide +kernel⟩
theorem law_red {C Dc Pt : Addr} (T : Txt mg)
    (C__law_begun_pen : Cal P w K mg base 1 "_law_begun_pen" ["script"] (spBegun K))
    (C__law_draw : Cal P w K mg base 1 "_law_draw" ["pen", "span"] spDraw)
    (C__law_new_names : Cal P w K mg base 3 "_law_new_names" ["pen", "many"] (spNewNames K))
    (C__law_wide_facts : Cal P w K mg base 4 "_law_wide_facts" ["pen", "pointers", "many"] (spWideFacts K))
    (C__law_facts_text : Cal P w K mg base 3 "_law_facts_text" ["facts"] spFactsText)
    (C__law_new_places : Cal P w K mg base 3 "_law_new_places" ["pen", "many", "facts", "pointers"] spNewPlaces)
    (C__law_at : Cal P w K mg base 1 "_law_at" ["pointers", "places"] (spAt K))
    (C__law_true : Cal P w K mg base 1 "_law_true" ["fact", "at"] spTrue)
    (C__law_far_number : Cal P w K mg base 2 "_law_far_number" ["pen"] spFar)
    (C__law_are_refused : Cal P w K mg base 7 "_law_are_refused" ["contract", "places"] (spRefused K C Dc Pt nmR))
    (M_keeps : MthX P w K mg base (CX P w) 4 Dc "keeps" ["self", "places"] (spKeeps K C Dc)) (M_broken : MthX P w K mg base (CX P w) 4 Dc "broken" ["self", "places"] (spBroken K C Dc))
    (M_Contract : Mkc P w K mg base 8 "Contract" Dc ["self", "pointers", "text"] (spContractInit K C Dc))
    (A : Around) (f : Addr) (cdv : Value) (outer : List Env) (s : Shared) (H : Hp) (vs : List V) (Q : VK) (E : XK) (hr : Room 12 (A.deeper (envOfC "law" (defScope s_law) s.heap.objs.size f cdv))) (h : spLaw K Pt vs H Q E) :
    ∃ t, PSs (cxOf CX0 P w K mg base ["script", "pen", "turn", "pointers", "facts", "contract", "again", "places", "at", "kept", "due", "told", "far", "wrong", "k", "place"] "law" (defScope s_law) f cdv A outer s H E).nox (defBody s_law) t ∧ t { nx := fun _ H' => Q .non H', rt := Q } (start ["script", "pen", "turn", "pointers", "facts", "contract", "again", "places", "at", "kept", "due", "told", "far", "wrong", "k", "place"] vs) H := by
  have hu := hu_of hr
  obtain ⟨a, ns, rfl, hS, tabs, k⟩ := h
  refine ⟨_, (pss_cons (ps_set (i := 1) sc_law.nd rfl (by first | exact Or.inl rfl | exact Or.inr rfl) (pe_cal C__law_begun_pen (hr.mono (by decide)) rfl (pa_cons (pv 0) pa_nil)))
      (pss_cons (ps_for PassesOwn.never rfl (pi_range1 rfl T.f_range (pa_cons pe_int pa_nil)) (pg_name (i := 2) sc_law.nd rfl (by first | exact Or.inl rfl | exact Or.inr rfl)) (pss_cons (ps_set (i := 3) sc_law.nd rfl (by first | exact Or.inl rfl | exact Or.inr rfl) (pe_cal C__law_new_names (hr.mono (by decide)) rfl (pa_cons (pv 1) (pa_cons (pe_op op_add pe_int (pe_cal C__law_draw (hr.mono (by decide)) rfl (pa_cons (pv 1) (pa_cons pe_int pa_nil)))) pa_nil))))
      (pss_cons (ps_set (i := 4) sc_law.nd rfl (by first | exact Or.inl rfl | exact Or.inr rfl) (pe_cal C__law_wide_facts (hr.mono (by decide)) rfl (pa_cons (pv 1) (pa_cons (pv 3) (pa_cons (pe_cal C__law_draw (hr.mono (by decide)) rfl (pa_cons (pv 1) (pa_cons pe_int pa_nil))) pa_nil)))))
      (pss_cons (ps_set (i := 5) sc_law.nd rfl (by first | exact Or.inl rfl | exact Or.inr rfl) (pe_mkc M_Contract (hr.mono (by decide)) rfl (pa_cons (pv 3) (pa_cons (pe_cal C__law_facts_text (hr.mono (by decide)) rfl (pa_cons (pv 4) pa_nil)) pa_nil))))
      (pss_cons (ps_for PassesOwn.never rfl (pi_range1 rfl T.f_range (pa_cons pe_int pa_nil)) (pg_name (i := 6) sc_law.nd rfl (by first | exact Or.inl rfl | exact Or.inr rfl)) (pss_cons (ps_set (i := 7) sc_law.nd rfl (by first | exact Or.inl rfl | exact Or.inr rfl) (pe_cal C__law_new_places (hr.mono (by decide)) rfl (pa_cons (pv 1) (pa_cons (pe_callB call_len (by rfl) T.f_len PySem.boot_len (pa_cons (pv 3) pa_nil)) (pa_cons (pv 4) (pa_cons (pv 3) pa_nil))))))
      (pss_cons (ps_asg (pe_tup (pa_cons (pe_cal C__law_at (hr.mono (by decide)) rfl (pa_cons (pv 3) (pa_cons (pv 7) pa_nil))) (pa_cons (pe_callTy call_list_of (by rfl) T.f_list (by decide +kernel) (pa_cons (pv 7) pa_nil)) pa_nil))) (pg_tup rfl (pgs_cons (pg_name (i := 8) sc_law.nd rfl (by first | exact Or.inl rfl | exact Or.inr rfl)) (pgs_cons (pg_name (i := 9) sc_law.nd rfl (by first | exact Or.inl rfl | exact Or.inr rfl)) pgs_nil))))
      (pss_cons (ps_setLc (i := 10) (own := [("k", 14)]) (g := gName 14) (tt := tNot (tTest (tCall spTrue [] E0 (tCons (tOp (rIxL K) (tVar 4) (tVar 14)) (tCons (tVar 8) tNil))))) rfl sc_law.nd rfl rfl (sw_true rfl rfl rfl (by decide +kernel)) (pi_range1 rfl T.f_range (pa_cons (pe_callB call_len (by rfl) T.f_len PySem.boot_len (pa_cons (pv 4) pa_nil)) pa_nil)) (blkOk_by (N := ["script", "pen", "turn", "pointers", "facts", "contract", "again", "places", "at", "kept", "due", "told", "far", "wrong", "k", "place"]) (sc := defScope s_law) (by decide +kernel)) (fun _ _ _ _ _ => (pg_name (i := 14) sc_law.nd rfl (Or.inl rfl))) (fun _ _ _ _ _ => (pts_one (pt_not (pt_val (pe_cal C__law_true (hr.mono (by decide)) rfl (pa_cons (pe_ix ix_list (pv 4) (pv 14) (fun _ _ => rfl)) (pa_cons (pv 8) pa_nil))))))) (fun _ _ _ _ _ => (pv 14)))
      (pss_cons (ps_set (i := 11) sc_law.nd rfl (by first | exact Or.inl rfl | exact Or.inr rfl) (pe_mth M_broken (pv 5) (hr.mono (by decide)) passN (pa_cons (pv 7) pa_nil)))
      (C8.pss_cut (ps_if (PW.pt (pw_or (pt_cmpR (op_neD hr.units) (pv 11) (pv 10) (nomark _)) (pw_or (pt_cmpR op_ne (pe_mth M_keeps (pv 5) (hr.mono (by decide)) passN (pa_cons (pv 7) pa_nil)) (pe_cmpR (op_eqD hr.units) (pv 10) (pe_lst pa_nil) (nomark _)) (nomark _)) (pw_or1 (pt_not (pt_val (pe_callB call_isi (by rfl) T.f_isinstance (by decide +kernel) (pa_cons (pe_mth M_keeps (pv 5) (hr.mono (by decide)) passN (pa_cons (pv 7) pa_nil)) (pa_cons (pe_gty (by rfl) T.f_bool (T := "bool") (by decide +kernel)) pa_nil))))))))) (pss_one (ps_ret pe_bl)) pss_nil)
      (pss_cons (ps_expr (pe_bm PySem.F.plainAttrs_list PySem.F.slot_list_append PySem.F.type_list_append mt_append (pv 11) (pa_cons pe_int pa_nil)))
      (C8.pss_cut (ps_if (PW.pt (pw_or (pt_cmpR (op_neD hr.units) (pe_mth M_broken (pv 5) (hr.mono (by decide)) passN (pa_cons (pe_callTy call_tuple_of (by rfl) T.f_tuple (by decide +kernel) (pa_cons (pv 7) pa_nil)) pa_nil)) (pv 10) (nomark _)) (pw_or1 (pt_cmpR (op_neD hr.units) (pv 7) (pv 9) (nomark _))))) (pss_one (ps_ret pe_bl)) pss_nil)
      (pss_cons (ps_set (i := 12) sc_law.nd rfl (by first | exact Or.inl rfl | exact Or.inr rfl) (pe_op op_mul pe_int (pe_cal C__law_far_number (hr.mono (by decide)) rfl (pa_cons (pv 1) pa_nil))))
      (pss_one (ps_if (pt_cmpR (op_neD hr.units) (pe_mth M_broken (pv 5) (hr.mono (by decide)) passN (pa_cons (pe_lc (own := [("place", 15)]) (g := gName 15) (tt := tYes) rfl sc_law.nd (pi_list (pv 7)) (blkOk_by (N := ["script", "pen", "turn", "pointers", "facts", "contract", "again", "places", "at", "kept", "due", "told", "far", "wrong", "k", "place"]) (sc := defScope s_law) (by decide +kernel)) (fun _ _ _ _ _ => (pg_name (i := 15) sc_law.nd rfl (Or.inl rfl))) (fun _ _ _ _ _ => pts_nil) (fun _ _ _ _ _ => (pe_op op_add (pv 15) (pv 12)))) pa_nil)) (pv 10) (nomark _)) (pss_one (ps_ret pe_bl)) pss_nil)))))))))))
      (pss_one (ps_for PassesOwn.never rfl (pi_tup (pe_tup (pa_cons (pe_lst pa_nil) (pa_cons (pe_slice sl_list (pv 7) (po_some pe_int) po_none) (pa_cons (pe_op op_cat (pv 7) (pe_lst (pa_cons pe_int pa_nil))) (pa_cons (pe_lst (pa_cons pe_int (pa_cons pe_int (pa_cons pe_int (pa_cons pe_int pa_nil))))) pa_nil)))))) (pg_name (i := 13) sc_law.nd rfl (by first | exact Or.inl rfl | exact Or.inr rfl)) (pss_one (ps_if (pt_not (pt_val (pe_cal C__law_are_refused (hr.mono (by decide)) rfl (pa_cons (pv 5) (pa_cons (pv 13) pa_nil))))) (pss_one (ps_ret pe_bl)) pss_nil)))))))))
      (pss_one (ps_ret pe_bl)))), ?_⟩
  -- pen
  refine ⟨_, rfl, a, ns, rfl, hS, fun p l H1 _ _ s1 pen => ?_⟩
  have tabs1 := tabs.ext s1
  refine ⟨3, rfl, by decide, by decide, for_it walk_range (fun i σ H2 => ∃ (rest : List (Option V)) (t : Int), rest.length = 14 ∧ σ = some (.ref a) :: some (.ref p) :: rest ∧ Pen H2 p l t ∧ t ≤ 1000 * i ∧ TabsN [(Pt, nmR)] H2) ⟨_, 0, rfl, rfl, pen, by simp, tabs1⟩ (fun _ _ _ _ _ => True.intro) ?hs ?hd⟩
  case hd =>
    rintro σ H2 ⟨rest, t, hlen, rfl, pen2, ht, _⟩
    exact k _
  clear tabs tabs1
  rintro i x σ H0 H0' hi ⟨rest, t, hlen, rfl, pen, ht, tabs⟩ ⟨rfl, rfl⟩
  obtain ⟨v2, v3, v4, v5, v6, v7, v8, v9, v10, v11, v12, v13, v14, v15, rfl⟩ : ∃ v2 v3 v4 v5 v6 v7 v8 v9 v10 v11 v12 v13 v14 v15, rest = [v2, v3, v4, v5, v6, v7, v8, v9, v10, v11, v12, v13, v14, v15] := by
    match rest, hlen with
    | [v2, v3, v4, v5, v6, v7, v8, v9, v10, v11, v12, v13, v14, v15], _ => exact ⟨v2, v3, v4, v5, v6, v7, v8, v9, v10, v11, v12, v13, v14, v15, rfl⟩
  have i3 : i < 3 := hi
  have pb : ∀ {Ha Hb : Hp} {ta : Int}, Pen Ha p l ta → But p Ha Hb → TabsN [(Pt, nmR)] Ha → TabsN [(Pt, nmR)] Hb := fun {Ha Hb ta} pn b tb => by
    obtain ⟨ns', lf, h1, _⟩ := pn.ex
    exact tabs_but tb h1 b
  have np : ∀ {Ha : Hp} {ta : Int} {r : Addr}, Pen Ha p l ta → Ha r = none → r ≠ p := fun {Ha ta r} pn h e => by
    obtain ⟨o, ho⟩ := pn.at_
    rw [e, ho] at h
    cases h
  -- pointers
  refine ⟨_, rfl, _, rfl, p, l, t, 3, rfl, pen, by omega, by decide, by decide, fun d H1 t1 d0 d1 pen1 g1 g2 b1 => ⟨_, _, rfl, rfl, ?_⟩⟩
  refine ⟨p, l, t1, 1 + d, rfl, pen1, by omega, by omega, by omega, fun q H2 t2 ps nms plen pen2 g3 g4 b2 hqn hq => ?_⟩
  have nqp := np pen1 hqn
  have tabs2 := pb pen1 b2 (pb pen b1 tabs)
  have nd := nms.2.1
  have pl1 := nms.2.2.1
  have pl3 := nms.2.2.2
  have plow : ∀ z ∈ ps, Low z := fun z hz => low_name (nms.1 z hz)
  -- facts
  refine ⟨_, rfl, _, rfl, _, rfl, p, l, t2, 13, rfl, pen2, by omega, by decide, by decide, fun d3 H3 t3 d30 d31 pen3 g5 g6 b3 => ?_⟩
  refine ⟨p, l, q, t3, d3, ps, rfl, pen3, by omega, nqp, SqL.of (b3 _ _ nqp hq), pl1, pl3, plow, by omega, by omega, fun fq qs fs H4 t4 ok fnd flen fat pen4 g7 g8 b4 hfn hf => ?_⟩
  have nfp := np pen3 hfn
  have hq4 := b4 _ _ nqp (b3 _ _ nqp hq)
  have tabs4 := pb pen3 b4 (pb pen2 b3 tabs2)
  have f12 : fs.length ≤ 12 := by omega
  -- contract
  refine ⟨_, rfl, _, rfl, fq, qs, fs, ps, rfl, hf, fat, ok, nms.1, by omega, fun H5 s5 => ?_⟩
  refine fun o dx ho hdx ne => ?_
  refine ⟨o, dx, q, ps, fs, rfl, upd_same, .inl ((made_same ho hdx (But.refl o _)).seq (SqL.of (s5 _ _ hq4))), nms, ok, fnd, f12, fun pt ln ft os H6 but ho6 hpt hln hft fat2 => ⟨rfl, ?_⟩⟩
  have s6 : Same H4 H6 := s5.trans (made_same ho hdx but)
  have m6 : Mid K C Dc Pt H6 p l q fq o t4 ps fs qs := ⟨pen4.same s6, s6 _ _ hq4, s6 _ _ hf, fat.same s6, ⟨dx, pt, ln, ft, os, ho6, hpt, hln, SqT.of hft, fat2⟩, tabs4.ext s6⟩
  clear but hln hft fat2 hpt ho6
  generalize hH6 : H6 = HH at *
  clear hH6 H6
  -- the inner loop
  have shi : ∀ ys : List Int, SeqAt.shaped (.list (ys.map PyData.int)) = true := ke_shaped_ints
  refine ⟨12, rfl, by decide, by decide, for_it walk_range (fun j σ' H' => ∃ (rest : List (Option V)) (t' : Int), rest.length = 10 ∧ σ' = some (.ref a) :: some (.ref p) :: some (.int (0 + i)) :: some (.ref q) :: some (.ref fq) :: some (.ref o) :: rest ∧ Mid K C Dc Pt H' p l q fq o t' ps fs qs ∧ t4 ≤ t' ∧ t' ≤ t4 + 25 * j ∧ (0 < j → ∃ (zq : Addr) (zs : List Int), rest[1]? = some (some (.ref zq)) ∧ H' zq = some (.lst (zs.map V.int)) ∧ zs.length = ps.length))
    ⟨_, t4, rfl, rfl, m6, Int.le_refl _, by omega, fun h => absurd h (by omega)⟩ (fun _ _ _ _ _ => True.intro) ?hs2 ?hd2⟩
  case hs2 =>
    rintro j x σ Ha Hb hj ⟨rest, t', hlen2, rfl, m, h1, h2, _⟩ ⟨rfl, rfl⟩
    clear m6
    obtain ⟨w6, w7, w8, w9, w10, w11, w12, w13, w14, w15, rfl⟩ : ∃ v6 v7 v8 v9 v10 v11 v12 v13 v14 v15, rest = [v6, v7, v8, v9, v10, v11, v12, v13, v14, v15] := by
      match rest, hlen2 with
      | [v6, v7, v8, v9, v10, v11, v12, v13, v14, v15], _ => exact ⟨v6, v7, v8, v9, v10, v11, v12, v13, v14, v15, rfl⟩
    have j12 : j < 12 := hj
    -- places
    refine ⟨_, rfl, _, rfl, _, _, rfl, .inl ⟨_, SqL.of m.hq, rfl⟩, _, rfl, _, rfl, p, l, fq, q, t', qs, fs, ps, by rw [List.length_map]; rfl, m.pen, by omega, m.hf, m.fat, by omega, ok, m.hq, nms, fun zq H7 t7 zs zl pen7 a1 a2 b7 hzn hz => ?_⟩
    have m7 := m.but b7 pen7
    -- at, kept
    refine ⟨_, rfl, _, rfl, q, zq, ps, zs, rfl, SqL.of m7.hq, SqL.of hz, nd, zl, fun dd H8 s8 hdn hd => ?_⟩
    refine ⟨_, rfl, zq, _, rfl, .inl (SqL.of (s8 _ _ hz)), fun kq hkq => ?_⟩
    refine ⟨by show 2 ≤ sizeLine; decide, fun tp htp => ?_⟩
    have s9 : Same H7 (upd (upd H8 kq (.lst (zs.map V.int))) tp (.tup [.ref dd, .ref kq])) := (s8.trans (Same.new hkq)).trans (Same.new htp)
    have m9 := m7.same s9
    have hz9 := s9 _ _ hz
    have hd9 := (Same.new (o := .tup [.ref dd, .ref kq]) htp) _ _ ((Same.new (o := .lst (zs.map V.int)) hkq) _ _ hd)
    have hk9 := (Same.new (o := .tup [.ref dd, .ref kq]) htp) _ _ (upd_same (H := H8) (a := kq) (o := .lst (zs.map V.int)))
    have nkz : kq ≠ zq := fun e => by
      rw [e, s8 _ _ hz] at hkq
      cases hkq
    refine ⟨tp, _, rfl, SqT.of upd_same, rfl, _, _, rfl, _, _, rfl, rfl, ?_⟩
    generalize upd (upd H8 kq (.lst (zs.map V.int))) tp (.tup [.ref dd, .ref kq]) = H9 at s9 m9 hz9 hd9 hk9 ⊢
    clear m7 s8 hkq hdn hd htp
    have nlt : ∀ {r : Addr} {Hc : Hp} {u : Addr} {ys : List V}, Hc r = none → Hc u = some (.lst ys) → r ≠ u := fun h1 h2 e => by
      rw [e, h2] at h1
      cases h1
    -- due
    refine ⟨_, rfl, _, _, rfl, .inl ⟨_, SqL.of m9.hf, rfl⟩, _, rfl, by rw [List.length_map, fat.len]; omega, by rw [List.length_map, fat.len]; omega, fun D hD => lc_it walk_range (fun j H' => Same H9 H' ∧ H' D = some (.lst (((List.range j).filter (brkI (CF.look ps zs) fs)).map fun i => V.int (i : Nat))))
      ⟨Same.new hD, upd_same⟩ (fun _ _ _ _ => True.intro) ?_ ?_⟩
    · rintro i2 x G1 G2 hi2 ⟨s1, g1⟩ ⟨rfl, rfl⟩
      have il : i2 < fs.length := by
        rw [List.length_map, fat.len] at hi2
        exact hi2
      have iq : i2 < qs.length := by rw [fat.len]; exact il
      obtain ⟨f0, hf0, hqf⟩ := (m9.fat.same s1).at_ (List.getElem?_eq_getElem iq)
      refine ⟨rfl, _, rfl, _, rfl, fq, _, _, .ref qs[i2], rfl, rfl, SqL.of (s1 _ _ m9.hf), at_of (j := i2) (by omega) (by rw [List.getElem?_map, List.getElem?_eq_getElem iq]; rfl), _, rfl, qs[i2], dd, f0, ps, zs, rfl, hqf, ok f0 (List.mem_of_getElem? hf0), s1 _ _ hd9, nd, zl, fun G3 s3 => ⟨_, rfl, ?_⟩⟩
      show (if (!CF.FD.val (CF.look ps zs) f0) = true then _ else _)
      rw [brkI_next hf0]
      cases ev : CF.FD.val (CF.look ps zs) f0 with
      | true =>
        rw [if_pos rfl, List.append_nil]
        exact ⟨s1.trans s3, s3 _ _ g1⟩
      | false =>
        rw [if_neg (show ¬ (false = true) by decide)]
        refine ⟨_, rfl, _, s3 _ _ g1, ?_, (s1.trans s3).put hD, ?_⟩
        · rw [List.length_map, sizeLine_eq]
          have := brkI_len (pl := CF.look ps zs) (fs := fs) i2
          omega
        · rw [List.map_append]
          show upd _ D (.lst (_ ++ [V.int (0 + ((i2 : Nat) : Int))])) D = _
          rw [Int.zero_add]
          exact upd_same
    rintro H10 ⟨s10, hD10⟩
    have hD10' : H10 D = some (.lst (((CF.brk (CF.look ps zs) fs).map fun i : Nat => (i : Int)).map V.int)) := by
      rw [hD10, List.map_map, List.length_map, fat.len]
      rfl
    clear hD10
    have bl : (CF.brk (CF.look ps zs) fs).length ≤ 12 := by
      rw [brk_def]
      exact Nat.le_trans (brkI_len _) f12
    have rb : ∀ {pl : Str → Int}, ((CF.brk pl fs).map fun i => V.int (i : Nat)) = ((CF.brk pl fs).map fun i : Nat => (i : Int)).map V.int := by
      intro pl
      rw [List.map_map]
      rfl
    generalize hbs : (CF.brk (CF.look ps zs) fs).map (fun i : Nat => (i : Int)) = bs at hD10'
    have bsl : bs.length ≤ 12 := by rw [← hbs, List.length_map]; exact bl
    have m10 := m9.same s10
    have hz10 := s10 _ _ hz9
    have hk10 := s10 _ _ hk9
    clear m9 s9 hz9 hk9 hd9 s10
    have sh := shi bs
    -- told
    obtain ⟨dx1, pt1, ln1, ft1, os1, ho1, _⟩ := id m10.con
    refine ⟨_, rfl, o, dx1, _, rfl, ho1, rfl, _, rfl, o, zq, ps, fs, zs, rfl, m10.con, ok, by omega, nd, .inl (SqL.of hz10), .inl ⟨zl, fun tq H11 s11 htn htq => ?_⟩⟩
    rw [rb, hbs] at htq
    have m11 := m10.same s11
    have hz11 := s11 _ _ hz10
    have hk11 := s11 _ _ hk10
    have hD11 := s11 _ _ hD10'
    have n1 := nlt htn m10.hq
    have n2 := nlt htn m10.hf
    have n3 := nlt htn hz10
    have n4 := nlt htn hk10
    have n5 := nlt htn hD10'
    have n6 : tq ≠ l := by
      obtain ⟨ns', lf, _, hl', _⟩ := m10.pen.ex
      exact nlt htn hl'
    clear m10 hz10 hk10 hD10' s11 htn ho1
    refine ⟨fun σ' Hc => σ' = [some (.ref a), some (.ref p), some (.int (0 + i)), some (.ref q), some (.ref fq), some (.ref o), some (.int (0 + j)), some (.ref zq), some (.ref dd), some (.ref kq), some (.ref D), some (.ref tq), w12, w13, w14, w15] ∧ Same H11 Hc, ?_, ?_⟩
    · refine ⟨_, rfl, _, rfl, .list (bs.map PyData.int), .list (bs.map PyData.int), .lst (SqL.of htq) (dps_ints _ _ _), .lst (SqL.of hD11) (dps_ints _ _ _), sh, sh, _, rfl, ?_⟩
      rw [ne_same sh]
      obtain ⟨dx2, pt2, ln2, ft2, os2, ho2, _⟩ := id m11.con
      refine iteF ⟨_, rfl, o, dx2, _, rfl, ho2, rfl, _, rfl, o, zq, ps, fs, zs, rfl, m11.con, ok, nd, .inl (SqL.of hz11), .inl ⟨zl, ?_⟩⟩
      refine ⟨_, rfl, by show 0 ≤ sizeLine; decide, fun e he => ⟨.list (bs.map PyData.int), .list [], .lst (SqL.of ((Same.new he) _ _ hD11)) (dps_ints _ _ _), .lst (SqL.of upd_same) .nil, sh, rfl, ?_⟩⟩
      have ev : PyData.eqv (.list (bs.map PyData.int)) (.list []) = CF.kept (CF.look ps zs) fs := by
        rw [eqv_nilT, ← brk_nil, ← hbs]
        cases CF.brk (CF.look ps zs) fs <;> rfl
      rw [ev]
      refine ⟨rfl, _, rfl, ?_⟩
      rw [show (!decide (V.bl (CF.kept (CF.look ps zs) fs) = V.bl (CF.kept (CF.look ps zs) fs))) = false by simp]
      have m12 := m11.same (Same.new (o := .lst []) he)
      have s12 := Same.new (o := .lst []) he
      have hz12 := s12 _ _ hz11
      generalize upd H11 e (.lst []) = H12 at m12 s12 hz12 ⊢
      obtain ⟨dx3, pt3, ln3, ft3, os3, ho3, _⟩ := id m12.con
      refine iteF ⟨_, rfl, o, dx3, _, rfl, ho3, rfl, _, rfl, o, zq, ps, fs, zs, rfl, m12.con, ok, nd, .inl (SqL.of hz12), .inl ⟨zl, ?_⟩⟩
      refine ⟨.bl _, .ty "bool", _, _, true, rfl, .ty "bool", .base (by constructor), kit_ty (by decide +kernel), true, rfl, ?_⟩
      exact iteF ⟨rfl, s12⟩
    rintro σ' H12 ⟨rfl, s12⟩
    have m12 := m11.same s12
    have hz12 := s12 _ _ hz11
    have hk12 := s12 _ _ hk11
    have hD12 := s12 _ _ hD11
    have ht12 := s12 _ _ htq
    clear m11 hz11 hk11 hD11 htq s12
    -- told.append(99)
    refine ⟨_, rfl, .inl ⟨rfl, _, SqL.of ht12⟩, tq, _, _, rfl, rfl, ht12, by rw [List.length_map, sizeLine_eq]; omega, ?_⟩
    have m13 := m12.upl (ys := bs.map V.int ++ [.int 99]) ht12 n1 n2 n6
    have hz13 := (upd_ne (H := H12) (o := .lst (bs.map V.int ++ [.int 99])) (Ne.symm n3)).trans hz12
    have hk13 := (upd_ne (H := H12) (o := .lst (bs.map V.int ++ [.int 99])) (Ne.symm n4)).trans hk12
    have hD13 := (upd_ne (H := H12) (o := .lst (bs.map V.int ++ [.int 99])) (Ne.symm n5)).trans hD12
    generalize upd H12 tq (.lst (bs.map V.int ++ [.int 99])) = H13 at m13 hz13 hk13 hD13 ⊢
    clear m12 hz12 hk12 hD12 ht12
    refine ⟨fun σ' Hc => σ' = [some (.ref a), some (.ref p), some (.int (0 + i)), some (.ref q), some (.ref fq), some (.ref o), some (.int (0 + j)), some (.ref zq), some (.ref dd), some (.ref kq), some (.ref D), some (.ref tq), w12, w13, w14, w15] ∧ Same H13 Hc, ?_, ?_⟩
    · obtain ⟨dx2, pt2, ln2, ft2, os2, ho2, _⟩ := id m13.con
      refine ⟨_, rfl, o, dx2, _, rfl, ho2, rfl, _, rfl, zq, _, rfl, .inl ⟨SqL.of hz13, fun tt htt => ?_⟩⟩
      have s14 := Same.new (o := .tup (zs.map V.int)) htt
      have m14 := m13.same s14
      refine ⟨o, tt, ps, fs, zs, rfl, m14.con, ok, by omega, nd, .inr (SqT.of upd_same), .inl ⟨zl, fun bq H15 s15 _ hbq => ?_⟩⟩
      rw [rb, hbs] at hbq
      have s16 := s14.trans s15
      refine ⟨_, rfl, .list (bs.map PyData.int), .list (bs.map PyData.int), .lst (SqL.of hbq) (dps_ints _ _ _), .lst (SqL.of (s16 _ _ hD13)) (dps_ints _ _ _), sh, sh, _, rfl, ?_⟩
      rw [ne_same sh]
      refine iteF ⟨_, rfl, _, rfl, .list (zs.map PyData.int), .list (zs.map PyData.int), .lst (SqL.of (s16 _ _ hz13)) (dps_ints _ _ _), .lst (SqL.of (s16 _ _ hk13)) (dps_ints _ _ _), shi zs, shi zs, _, rfl, ?_⟩
      rw [ne_same (shi zs)]
      exact iteF ⟨rfl, s16⟩
    rintro σ' H16 ⟨rfl, s16⟩
    have m16 := m13.same s16
    have hz16 := s16 _ _ hz13
    have hD16 := s16 _ _ hD13
    clear m13 hz13 hk13 hD13 s16
    have nzp : zq ≠ p := fun e => by
      obtain ⟨ns', lf, h1', _⟩ := m16.pen.ex
      rw [e, h1'] at hz16
      cases hz16
    have nDp : D ≠ p := fun e => by
      obtain ⟨ns', lf, h1', _⟩ := m16.pen.ex
      rw [e, h1'] at hD16
      cases hD16
    -- far
    refine ⟨_, rfl, p, l, t7, rfl, m16.pen, by omega, fun v H17 t8 _ pen17 a3 a4 b17 => ⟨_, _, rfl, rfl, .inl ⟨by decide, by decide⟩, ?_⟩⟩
    have m17 := m16.but b17 pen17
    have hz17 := b17 _ _ nzp hz16
    have hD17 := b17 _ _ nDp hD16
    clear m16 hz16 hD16
    obtain ⟨dx2, pt2, ln2, ft2, os2, ho2, _⟩ := id m17.con
    refine ⟨_, rfl, o, dx2, _, rfl, ho2, rfl, _, rfl, zq, rfl, ⟨_, SqL.of hz17⟩, fun F hF => lc_it walk_list (fun j H' => Same H17 H' ∧ H' F = some (.lst (((zs.take j).map (· + 8 * v)).map V.int)))
      ⟨Same.new hF, upd_same⟩ (fun j H' _ z => SqL.of (z.1 _ _ hz17)) ?_ ?_⟩
    · rintro i2 x G1 G2 hi2 ⟨s1, g1⟩ ⟨rfl, hx⟩
      rw [List.getElem?_map] at hx
      obtain ⟨z, hz2, rfl⟩ := Option.map_eq_some_iff.mp hx
      refine ⟨rfl, _, rfl, _, rfl, _, _, rfl, rfl, _, g1, ?_, s1.put hF, ?_⟩
      · rw [List.length_map, List.length_map, sizeLine_eq]
        have := List.length_take_le i2 zs
        rw [List.length_map] at hi2
        omega
      · rw [List.take_add_one, hz2, Option.toList_some, List.map_append, List.map_append]
        exact upd_same
    rintro H18 ⟨s18, hF18⟩
    rw [List.length_map, List.take_length] at hF18
    have m18 := m17.same s18
    refine ⟨o, F, ps, fs, zs.map (· + 8 * v), rfl, m18.con, ok, by omega, nd, .inl (SqL.of hF18), .inl ⟨by rw [List.length_map]; exact zl, fun bq H19 s19 _ hbq => ?_⟩⟩
    have eb : CF.brk (CF.look ps (zs.map (· + 8 * v))) fs = CF.brk (CF.look ps zs) fs := by
      unfold CF.brk
      refine List.filter_congr fun i hi => ?_
      have hi' := List.mem_range.mp hi
      rw [List.getElem?_eq_getElem hi']
      show (!CF.FD.val _ fs[i]) = !CF.FD.val _ fs[i]
      rw [CF.FD.val_far nd zl (ok _ (List.getElem_mem hi'))]
    rw [eb, rb, hbs] at hbq
    have s20 := s18.trans s19
    refine ⟨_, rfl, .list (bs.map PyData.int), .list (bs.map PyData.int), .lst (SqL.of hbq) (dps_ints _ _ _), .lst (SqL.of (s20 _ _ hD17)) (dps_ints _ _ _), sh, sh, _, rfl, ?_⟩
    rw [ne_same sh]
    refine iteF ⟨_, t8, rfl, rfl, m17.same s20, by omega, by have : ((j + 1 : Nat) : Int) = j + 1 := rfl; omega, fun _ => ⟨zq, zs, rfl, s20 _ _ hz17, zl⟩⟩
  case hd2 =>
    rintro σ Ha ⟨rest, t', hlen2, rfl, m, h1, h2, last⟩
    clear m6
    obtain ⟨zq, zs, hzs, hz, zl⟩ := last (by decide)
    obtain ⟨w6, w7, w8, w9, w10, w11, w12, w13, w14, w15, rfl⟩ : ∃ v6 v7 v8 v9 v10 v11 v12 v13 v14 v15, rest = [v6, v7, v8, v9, v10, v11, v12, v13, v14, v15] := by
      match rest, hlen2 with
      | [v6, v7, v8, v9, v10, v11, v12, v13, v14, v15], _ => exact ⟨v6, v7, v8, v9, v10, v11, v12, v13, v14, v15, rfl⟩
    have e7 : w7 = some (.ref zq) := by simpa using hzs
    subst e7
    refine ⟨by show 0 ≤ sizeLine; decide, fun x0 hx0 => ?_⟩
    have s0 := Same.new (o := .lst []) hx0
    refine ⟨_, rfl, 1, rfl, zq, _, rfl, SqL.of (s0 _ _ hz), fun x1 hx1 => ?_⟩
    have s1' := s0.trans (Same.new (o := .lst (cutV (zs.map V.int) (some 1) none)) hx1)
    refine ⟨_, rfl, by show 1 ≤ sizeLine; decide, fun e he => ?_⟩
    have s2 := s1'.trans (Same.new (o := .lst [.int 0]) he)
    refine ⟨zq, e, _, _, rfl, rfl, s2 _ _ hz, upd_same, by rw [List.length_map, sizeLine_eq]; show _ + 1 ≤ _; omega, fun x2 hx2 => ?_⟩
    have s3 := s2.trans (Same.new (o := .lst (zs.map V.int ++ [.int 0])) hx2)
    refine ⟨by show 4 ≤ sizeLine; decide, fun x3 hx3 => ?_⟩
    have s4 := s3.trans (Same.new (o := .lst [.int 0, .int 1, .int 2, .int 3]) hx3)
    refine ⟨by show 4 ≤ sizeLine; decide, fun T0 hT0 => ?_⟩
    have s5 := s4.trans (Same.new (o := .tup [.ref x0, .ref x1, .ref x2, .ref x3]) hT0)
    have kT := Same.new (o := .tup [.ref x0, .ref x1, .ref x2, .ref x3]) hT0
    have k3 := Same.new (o := .lst [.int 0, .int 1, .int 2, .int 3]) hx3
    have k2 := Same.new (o := .lst (zs.map V.int ++ [.int 0])) hx2
    have ke := Same.new (o := .lst [.int 0]) he
    have k1 := Same.new (o := .lst (cutV (zs.map V.int) (some 1) none)) hx1
    have y0 := kT _ _ (k3 _ _ (k2 _ _ (ke _ _ (k1 _ _ (upd_same (H := Ha) (a := x0) (o := .lst []))))))
    have y1 := kT _ _ (k3 _ _ (k2 _ _ (ke _ _ (upd_same (a := x1) (o := .lst (cutV (zs.map V.int) (some 1) none))))))
    have y2 := kT _ _ (k3 _ _ (upd_same (a := x2) (o := .lst (zs.map V.int ++ [.int 0]))))
    have y3 := kT _ _ (upd_same (a := x3) (o := .lst [.int 0, .int 1, .int 2, .int 3]))
    have m1 := m.same s5
    have yT : upd (upd (upd (upd (upd (upd Ha x0 (.lst [])) x1 (.lst (cutV (zs.map V.int) (some 1) none))) e (.lst [.int 0])) x2 (.lst (zs.map V.int ++ [.int 0]))) x3 (.lst [.int 0, .int 1, .int 2, .int 3])) T0 (.tup [.ref x0, .ref x1, .ref x2, .ref x3]) T0 = some (.tup [.ref x0, .ref x1, .ref x2, .ref x3]) := upd_same
    refine ⟨T0, rfl, ⟨_, SqT.of upd_same⟩, ?_⟩
    generalize upd (upd (upd (upd (upd (upd Ha x0 (.lst [])) x1 (.lst (cutV (zs.map V.int) (some 1) none))) e (.lst [.int 0])) x2 (.lst (zs.map V.int ++ [.int 0]))) x3 (.lst [.int 0, .int 1, .int 2, .int 3])) T0 (.tup [.ref x0, .ref x1, .ref x2, .ref x3]) = Hz at s5 y0 y1 y2 y3 m1 yT ⊢
    clear s0 s1' s2 s3 s4 kT k3 k2 ke k1 hx0 hx1 he hx2 hx3 hT0
    have ys : ∀ (i2 : Nat) (x : V), ([.ref x0, .ref x1, .ref x2, .ref x3] : List V)[i2]? = some x → ∃ (g : Addr) (zz : List Int), x = .ref g ∧ Hz g = some (.lst (zz.map V.int)) ∧ zz.length ≠ ps.length := by
      intro i2 x hx
      have c : cutV (zs.map V.int) (some 1) none = (zs.drop 1).map V.int := by
        unfold cutV
        have e1 : HT.sIx (zs.map V.int).length 0 (some 1) = min 1 zs.length := by
          rw [List.length_map]
          exact HT.sIx_nat _ _ 1
        have e2 : HT.sIx (zs.map V.int).length (zs.map V.int).length none = (zs.map V.int).length := rfl
        rw [e1, e2, Nat.min_eq_left (by omega), List.map_drop, List.take_of_length_le (by rw [List.length_drop]; omega)]
      rw [c] at y1
      match i2 with
      | 0 =>
        cases hx
        exact ⟨x0, [], rfl, y0, by rw [List.length_nil]; omega⟩
      | 1 =>
        cases hx
        exact ⟨x1, zs.drop 1, rfl, y1, by rw [List.length_drop]; omega⟩
      | 2 =>
        cases hx
        exact ⟨x2, zs ++ [0], rfl, by rw [List.map_append]; exact y2, by rw [List.length_append, List.length_singleton]; omega⟩
      | 3 =>
        cases hx
        exact ⟨x3, [0, 1, 2, 3], rfl, y3, by show 4 ≠ _; omega⟩
      | n + 4 => simp at hx
    refine for_it walk_tup (fun i2 σ' H' => ∃ v13 : Option V, σ' = [some (.ref a), some (.ref p), some (.int (0 + i)), some (.ref q), some (.ref fq), some (.ref o), w6, some (.ref zq), w8, w9, w10, w11, w12, v13, w14, w15] ∧ ExtN Hz H' ∧ TabsN [(Pt, nmR)] H')
      ⟨w13, rfl, ExtN.refl _, m1.tabs⟩ (fun i2 σ' H' _ ⟨_, _, ex, _⟩ => SqT.of (ex _ _ yT (fun _ z => nomatch z))) ?_ ?_
    · rintro i2 x σ' Hb Hc hi2 ⟨v13, rfl, ex, tb⟩ ⟨rfl, hx⟩
      obtain ⟨g, zz, rfl, hg, hne⟩ := ys i2 x hx
      have m2 := m1.ext ex tb
      refine ⟨_, rfl, _, rfl, o, g, ps, fs, zz, rfl, tb, m2.con, ok, by omega, nd, ex _ _ hg (fun _ z => nomatch z), hne, fun H' ex2 tb2 => ⟨_, rfl, iteF ?_⟩⟩
      exact ⟨_, rfl, ex.trans ex2, tb2⟩
    · rintro σ' Hb ⟨v13, rfl, ex, tb⟩
      have m2 := m1.ext ex tb
      exact ⟨_, t', rfl, rfl, m2.pen, by have : ((i + 1 : Nat) : Int) = i + 1 := rfl; omega, tb⟩
end
end K03
end
section
set_option Elab.async false
set_option linter.all false
set_option maxRecDepth 100000
set_option maxHeartbeats 0
namespace K03
open PySem PySem.Spec PyProof.Rows L2
def d_begun_pen : He.DefD := ⟨("_law_begun_pen", none), "_law_begun_pen", "_law_begun_pen", defArgs s_begun_pen, defBody s_begun_pen, defScope s_begun_pen, [], []⟩
def d_draw : He.DefD := ⟨("_law_draw", none), "_law_draw", "_law_draw", defArgs s_draw, defBody s_draw, defScope s_draw, [], []⟩
def d_pick : He.DefD := ⟨("_law_pick", none), "_law_pick", "_law_pick", defArgs s_pick, defBody s_pick, defScope s_pick, [], []⟩
def d_shuffled : He.DefD := ⟨("_law_shuffled", none), "_law_shuffled", "_law_shuffled", defArgs s_shuffled, defBody s_shuffled, defScope s_shuffled, [], []⟩
def d_new_names : He.DefD := ⟨("_law_new_names", none), "_law_new_names", "_law_new_names", defArgs s_new_names, defBody s_new_names, defScope s_new_names, [], []⟩
def d_far_number : He.DefD := ⟨("_law_far_number", none), "_law_far_number", "_law_far_number", defArgs s_far_number, defBody s_far_number, defScope s_far_number, [], []⟩
def d_spot_text : He.DefD := ⟨("_law_spot_text", none), "_law_spot_text", "_law_spot_text", defArgs s_spot_text, defBody s_spot_text, defScope s_spot_text, [], []⟩
def d_fact_text : He.DefD := ⟨("_law_fact_text", none), "_law_fact_text", "_law_fact_text", defArgs s_fact_text, defBody s_fact_text, defScope s_fact_text, [], []⟩
def d_facts_text : He.DefD := ⟨("_law_facts_text", none), "_law_facts_text", "_law_facts_text", defArgs s_facts_text, defBody s_facts_text, defScope s_facts_text, [], []⟩
def d_true : He.DefD := ⟨("_law_true", none), "_law_true", "_law_true", defArgs s_true, defBody s_true, defScope s_true, [], []⟩
def d_at : He.DefD := ⟨("_law_at", none), "_law_at", "_law_at", defArgs s_at, defBody s_at, defScope s_at, [], []⟩
def d_wide_fact : He.DefD := ⟨("_law_wide_fact", none), "_law_wide_fact", "_law_wide_fact", defArgs s_wide_fact, defBody s_wide_fact, defScope s_wide_fact, [], []⟩
def d_wide_facts : He.DefD := ⟨("_law_wide_facts", none), "_law_wide_facts", "_law_wide_facts", defArgs s_wide_facts, defBody s_wide_facts, defScope s_wide_facts, [], []⟩
def d_new_places : He.DefD := ⟨("_law_new_places", none), "_law_new_places", "_law_new_places", defArgs s_new_places, defBody s_new_places, defScope s_new_places, [], []⟩
def d_are_refused : He.DefD := ⟨("_law_are_refused", none), "_law_are_refused", "_law_are_refused", defArgs s_are_refused, defBody s_are_refused, defScope s_are_refused, [], []⟩
def d_lines_of : He.DefD := ⟨("lines_of", none), "lines_of", "lines_of", defArgs s_lines_of, defBody s_lines_of, defScope s_lines_of, [], []⟩
def d_is_name : He.DefD := ⟨("is_name", none), "is_name", "is_name", defArgs s_is_name, defBody s_is_name, defScope s_is_name, [], []⟩
def d_read_pointers : He.DefD := ⟨("read_pointers", none), "read_pointers", "read_pointers", defArgs s_read_pointers, defBody s_read_pointers, defScope s_read_pointers, [], []⟩
def d_read_number : He.DefD := ⟨("read_number", none), "read_number", "read_number", defArgs s_read_number, defBody s_read_number, defScope s_read_number, [], []⟩
def d_read_pointer : He.DefD := ⟨("read_pointer", none), "read_pointer", "read_pointer", defArgs s_read_pointer, defBody s_read_pointer, defScope s_read_pointer, [], []⟩
def d_read_spot : He.DefD := ⟨("read_spot", none), "read_spot", "read_spot", defArgs s_read_spot, defBody s_read_spot, defScope s_read_spot, [], []⟩
def d_read_fact : He.DefD := ⟨("read_fact", none), "read_fact", "read_fact", defArgs s_read_fact, defBody s_read_fact, defScope s_read_fact, [], []⟩
def d_read_apart : He.DefD := ⟨("read_apart", none), "read_apart", "read_apart", defArgs s_read_apart, defBody s_read_apart, defScope s_read_apart, [], []⟩
def d_read_distance : He.DefD := ⟨("read_distance", none), "read_distance", "read_distance", defArgs s_read_distance, defBody s_read_distance, defScope s_read_distance, [], []⟩
def d_read_remainder : He.DefD := ⟨("read_remainder", none), "read_remainder", "read_remainder", defArgs s_read_remainder, defBody s_read_remainder, defScope s_read_remainder, [], []⟩
def d_pfar_of : He.DefD := ⟨("far_of", none), "far_of", "far_of", defArgs s_pfar_of, defBody s_pfar_of, defScope s_pfar_of, [], []⟩
def d_modulus_of : He.DefD := ⟨("modulus_of", none), "modulus_of", "modulus_of", defArgs s_modulus_of, defBody s_modulus_of, defScope s_modulus_of, [], []⟩
def d_read_facts : He.DefD := ⟨("read_facts", none), "read_facts", "read_facts", defArgs s_read_facts, defBody s_read_facts, defScope s_read_facts, [], []⟩
def d_check_places : He.DefD := ⟨("check_places", none), "check_places", "check_places", defArgs s_check_places, defBody s_check_places, defScope s_check_places, [], []⟩
def d_all_hold : He.DefD := ⟨("all_hold", none), "all_hold", "all_hold", defArgs s_all_hold, defBody s_all_hold, defScope s_all_hold, [], []⟩
def d_law : He.DefD := ⟨("law", none), "law", "law", defArgs s_law, defBody s_law, defScope s_law, [], []⟩
def d_Fact___init__ : He.DefD := ⟨("Fact", some "__init__"), "__init__", "Fact.__init__", defArgs s_Fact___init__, defBody s_Fact___init__, defScope s_Fact___init__, [], []⟩
def d_Contract___init__ : He.DefD := ⟨("Contract", some "__init__"), "__init__", "Contract.__init__", defArgs s_Contract___init__, defBody s_Contract___init__, defScope s_Contract___init__, [], []⟩
def d_Fact_holds : He.DefD := ⟨("Fact", some "holds"), "holds", "Fact.holds", defArgs s_Fact_holds, defBody s_Fact_holds, defScope s_Fact_holds, [], []⟩
def d_Contract_keeps : He.DefD := ⟨("Contract", some "keeps"), "keeps", "Contract.keeps", defArgs s_Contract_keeps, defBody s_Contract_keeps, defScope s_Contract_keeps, [], []⟩
def d_Contract_broken : He.DefD := ⟨("Contract", some "broken"), "broken", "Contract.broken", defArgs s_Contract_broken, defBody s_Contract_broken, defScope s_Contract_broken, [], []⟩
def d_BadPlaces : He.DefD := ⟨("BadPlaces", some "__init__"), "__init__", "BadPlaces.__init__", defArgs s_BadPlaces, defBody s_BadPlaces, defScope s_BadPlaces, [], []⟩
def fn : List He.DefD := [d_begun_pen, d_draw, d_pick, d_shuffled, d_new_names, d_far_number, d_spot_text, d_fact_text, d_facts_text, d_true, d_at, d_wide_fact, d_wide_facts, d_new_places, d_are_refused, d_lines_of, d_is_name, d_read_pointers, d_read_number, d_read_pointer, d_read_spot, d_read_fact, d_read_apart, d_read_distance, d_read_remainder, d_pfar_of, d_modulus_of, d_read_facts, d_check_places, d_all_hold, d_law, d_Fact___init__, d_Contract___init__, d_Fact_holds, d_Contract_keeps, d_Contract_broken, d_BadPlaces]
def fa0 : List He.Fa := [.glo "_law_begun_pen", .glo "_law_draw", .glo "_law_pick", .glo "_law_shuffled", .glo "_law_new_names", .glo "_law_far_number", .glo "_law_spot_text", .glo "_law_fact_text", .glo "_law_facts_text", .glo "_law_true", .glo "_law_at", .glo "_law_wide_fact", .glo "_law_wide_facts", .glo "_law_new_places", .glo "_law_are_refused", .glo "lines_of", .glo "is_name", .glo "read_pointers", .glo "read_number", .glo "read_pointer", .glo "read_spot", .glo "read_fact", .glo "read_apart", .glo "read_distance", .glo "read_remainder"]
def fa1 : List He.Fa := [.glo "far_of", .glo "modulus_of", .glo "read_facts", .glo "check_places", .glo "all_hold", .glo "law", .glo "Fact", .glo "Contract", .glo "RESERVED", .glo "MODULI", .glo "BadPlaces", .glo "PartlyError", .glo "BadContract", .free "int", .free "len", .free "abs", .free "list", .free "range", .free "tuple", .free "isinstance", .free "str", .free "bool", .free "max", .free "sum", .free "all"]
def fa2 : List He.Fa := [.free "enumerate", .free "zip", .free "dict", .int "LONGEST_NAME" (12), .int "MOST_POINTERS" (3), .int "FARTHEST_SPOT" (30), .int "LONGEST_NUMBER" (3), .int "FARTHEST" (40), .int "MOST_CELLS" (16), .int "MOST_FACTS" (12), .str "LETTERS" "abcdefghijklmnopqrstuvwxyz", .cls "Fact", .mkr "Fact", .cls "Contract", .mkr "Contract", .noat "Fact" "word", .noat "Fact" "left", .noat "Fact" "right", .noat "Fact" "numbers", .noat "Fact" "spans", .noat "Fact" "far", .noat "Fact" "modulus", .noat "Contract" "pointers", .noat "Contract" "text", .noat "Contract" "lines"]
def fa3 : List He.Fa := [.noat "Contract" "rows", .noat "Contract" "far", .noat "Contract" "modulus", .meth "Contract" "keeps", .meth "Contract" "broken", .meth "Fact" "holds"]
def fa : List He.Fa := fa0 ++ (fa1 ++ (fa2 ++ (fa3)))
/-- a written tuple of texts, of ints -/
def tupB (K : PySem.W.Frag) (x : Str) (ok : Array Value → Bool) : Bool := match K.lookup (He.ga K x) with
  | some ⟨.type t, _, .seq its _, _⟩ => decide (t = "tuple") && ok its
  | _ => false
def strsB (zs : List Str) (its : Array Value) : Bool := decide (its.toList.map (fun v => match v with | .str z _ => some z | _ => none) = zs.map some)
def intsB (zs : List Int) (its : Array Value) : Bool := decide (its.toList.map (fun v => match v with | .int z _ => some z | _ => none) = zs.map some)
theorem vals_strs : ∀ {zs : List Str} {its : List Value}, its.map (fun v => match v with | .str z _ => some z | _ => none) = zs.map some → Vals (zs.map V.str) its
  | [], [], _ => .nil
  | [], _ :: _, h => by cases h
  | _ :: _, [], h => by cases h
  | z :: r, v :: its, h => by
    rw [List.map_cons, List.map_cons, List.cons.injEq] at h
    obtain ⟨h1, h2⟩ := h
    refine .cons ?_ (vals_strs h2)
    revert h1
    cases v <;> intro h1 <;> first | (cases h1; exact ⟨_, rfl⟩) | cases h1
theorem vals_ints : ∀ {zs : List Int} {its : List Value}, its.map (fun v => match v with | .int z _ => some z | _ => none) = zs.map some → Vals (zs.map V.int) its
  | [], [], _ => .nil
  | [], _ :: _, h => by cases h
  | _ :: _, [], h => by cases h
  | z :: r, v :: its, h => by
    rw [List.map_cons, List.map_cons, List.cons.injEq] at h
    obtain ⟨h1, h2⟩ := h
    refine .cons ?_ (vals_ints h2)
    revert h1
    cases v <;> intro h1 <;> first | (cases h1; exact ⟨_, rfl⟩) | cases h1
theorem tupB_ok {K : PySem.W.Frag} {x : Str} {ok : Array Value → Bool} (h : tupB K x ok = true) : ∃ o its n, K.lookup (He.ga K x) = some o ∧ o.cls = .type "tuple" ∧ o.data = .seq its n ∧ ok its = true := by
  unfold tupB at h
  revert h
  split
  · rename_i t d its n sl e
    intro h
    simp only [Bool.and_eq_true, decide_eq_true_eq] at h
    obtain ⟨rfl, h2⟩ := h
    exact ⟨_, its, n, e, rfl, rfl, h2⟩
  · intro h
    cases h
theorem tupS_ok {K : PySem.W.Frag} {x : Str} {zs : List Str} (hz : zs.length ≤ 1000) (h : tupB K x (strsB zs) = true) (H : Hp) : SqT K H (He.ga K x) (zs.map V.str) := by
  obtain ⟨o, its, n, e1, e2, e3, e4⟩ := tupB_ok h
  have r := vals_strs (of_decide_eq_true e4)
  exact .inr ⟨o, its, n, e1, e2, e3, by have h1 := r.length; have h2 : its.toList.length = its.size := Array.length_toList; rw [List.length_map] at h1; rw [sizeLine_eq]; omega, r⟩
theorem tupI_ok {K : PySem.W.Frag} {x : Str} {zs : List Int} (hz : zs.length ≤ 1000) (h : tupB K x (intsB zs) = true) (H : Hp) : SqT K H (He.ga K x) (zs.map V.int) := by
  obtain ⟨o, its, n, e1, e2, e3, e4⟩ := tupB_ok h
  have r := vals_ints (of_decide_eq_true e4)
  exact .inr ⟨o, its, n, e1, e2, e3, by have h1 := r.length; have h2 : its.toList.length = its.size := Array.length_toList; rw [List.length_map] at h1; rw [sizeLine_eq]; omega, r⟩
def exB (K : PySem.W.Frag) : Bool := tupB K "RESERVED" (strsB CF.Reserved) && (tupB K "MODULI" (intsB [2, 4, 8]) && (decide (He.ga K "Fact" ≠ He.ga K "Contract") && (oexB K (He.ga K "BadPlaces") && (iniB K "BadPlaces" && (partB K && (excB K (He.ga K "BadPlaces") && (decide (PySem.W.exmOne K (.ref (He.ga K "BadPlaces")) (.ref (He.ga K "BadPlaces")) = some true) && (decide (PySem.W.kitOne K (.ref (He.ga K "BadPlaces")) (.ref (He.ga K "PartlyError")) = some true) && (decide (PySem.W.kitOne K (.ref (He.ga K "BadPlaces")) (.ref (He.ga K "BadContract")) = some false))))))))))
/-- what stands at the top's end, the statics with it -/
abbrev R : PySem.W.OpenRow := PySem.W.OpenLaw.row PySem.Challenge.rw_partlymet_k03_places_told
def tf : List He.Defn := [("_law_are_refused", none)]
def hk : PySem.W.Hook := He.hookZ 5 fa fn tf exB
def ob (s : PySem.W.SharedT) : He.AlX := He.obsZ 5 fa fn tf exB (HandSHeadRun.getT s)
theorem ob_eq (s : PySem.W.SharedT) : ob s = hk.obs s.abs := congrArg (He.obsZ 5 fa fn tf exB) (funext fun a => HandSHeadRun.getT_eq s a)
def lo0 : List Str := ["_wall", "near_places", "shapes", "turns", "PartlyError", "BadPointers", "BadContract", "BadPlaces", "OtherPointers", "LETTERS", "RESERVED", "LONGEST_NAME", "MOST_POINTERS", "FARTHEST_SPOT", "LONGEST_NUMBER", "lines_of", "is_name", "read_pointers", "check_places", "read_number", "read_pointer", "read_spot", "FARTHEST", "MOST_CELLS", "MODULI"]
def lo1 : List Str := ["Fact", "read_fact", "read_apart", "read_distance", "read_remainder", "all_hold", "far_of", "modulus_of", "MOST_FACTS", "Contract", "read_facts", "joined_lines", "implied", "_law_begun_pen", "_law_draw", "_law_pick", "_law_shuffled", "_law_new_names", "_law_far_number", "_law_spot_text", "_law_fact_text", "_law_facts_text", "_law_true", "_law_at", "_law_wide_fact"]
def lo2 : List Str := ["_law_wide_facts", "_law_new_places", "_law_are_refused"]
abbrev loose : List Str := lo0 ++ (lo1 ++ (lo2))
end K03
end
section
set_option Elab.async false
set_option linter.all false
set_option maxRecDepth 100000
set_option maxHeartbeats 0
namespace K03
open PySem PySem.Spec PyProof.Rows L2
theorem run (w : World) : HandSHeadRun.RunEq R (PySem.W.view R.prog [59]) hk ob 6000 loose w := by
  intro os
  kernel_rfl
end K03
end
section
set_option Elab.async false
set_option linter.all false
set_option maxRecDepth 100000
set_option maxHeartbeats 4000000
namespace K03
open PySem PySem.Spec PyProof.Rows L2
section
variable {P : Program} {w : World} {K : PySem.W.Frag} {h : Heap} {mg : Str → Option Value} {base : Heap}
theorem glo (X : K.In h) (G : h.Ns mainGlobals mg) (c : He.SaysD fa fn K) (i : Nat) {x : Str} (e : fa[i]? = some (.glo x)) : mg x = some (.ref (He.ga K x)) := He.glo_ok X G (c.fact i e)
theorem fre (X : K.In h) (G : h.Ns mainGlobals mg) (c : He.SaysD fa fn K) (i : Nat) {x : Str} (e : fa[i]? = some (.free x)) : mg x = none := He.free_ok X G (c.fact i e)
theorem fint (X : K.In h) (G : h.Ns mainGlobals mg) (c : He.SaysD fa fn K) (i : Nat) {x : Str} {n : Int} (e : fa[i]? = some (.int x n)) : ∃ t, mg x = some (.int n t) := He.int_ok X G (c.fact i e)
theorem fstr (X : K.In h) (G : h.Ns mainGlobals mg) (c : He.SaysD fa fn K) (i : Nat) {x z : Str} (e : fa[i]? = some (.str x z)) : ∃ t, mg x = some (.str z t) := He.str_ok X G (c.fact i e)
theorem deff (X : K.In h) (G : h.Ns mainGlobals mg) (c : He.SaysD fa fn K) {x : Str} {st : Stmt} (i j : Nat) (ei : fn[i]? = some ⟨(x, none), x, x, defArgs st, defBody st, defScope st, [], []⟩) (ej : fa[j]? = some (.glo x)) : Def K mg x st := by
  obtain ⟨fd, F⟩ := c.def_ i ei
  exact ⟨_, fd, F, glo X G c j ej⟩
theorem exparts (e : exB K = true) : (tupB K "RESERVED" (strsB CF.Reserved)) = true ∧ (tupB K "MODULI" (intsB [2, 4, 8])) = true ∧ (decide (He.ga K "Fact" ≠ He.ga K "Contract")) = true ∧ (oexB K (He.ga K "BadPlaces")) = true ∧ (iniB K "BadPlaces") = true ∧ (partB K) = true ∧ (excB K (He.ga K "BadPlaces")) = true ∧ (decide (PySem.W.exmOne K (.ref (He.ga K "BadPlaces")) (.ref (He.ga K "BadPlaces")) = some true)) = true ∧ (decide (PySem.W.kitOne K (.ref (He.ga K "BadPlaces")) (.ref (He.ga K "PartlyError")) = some true)) = true ∧ (decide (PySem.W.kitOne K (.ref (He.ga K "BadPlaces")) (.ref (He.ga K "BadContract")) = some false)) = true := by
  unfold exB at e
  simp only [Bool.and_eq_true] at e
  exact e
theorem txt (X : K.In h) (G : h.Ns mainGlobals mg) (c : He.SaysD fa fn K) : Txt mg where
  f_int := fre X G c 38 rfl
  f_len := fre X G c 39 rfl
  f_abs := fre X G c 40 rfl
  f_list := fre X G c 41 rfl
  f_range := fre X G c 42 rfl
  f_tuple := fre X G c 43 rfl
  f_isinstance := fre X G c 44 rfl
  f_str := fre X G c 45 rfl
  f_bool := fre X G c 46 rfl
  f_max := fre X G c 47 rfl
  f_sum := fre X G c 48 rfl
theorem txtL (X : K.In h) (G : h.Ns mainGlobals mg) (c : He.SaysD fa fn K) : TxtL mg where
  f_zip := fre X G c 51 rfl
  f_dict := fre X G c 52 rfl
theorem txtP (X : K.In h) (G : h.Ns mainGlobals mg) (c : He.SaysD fa fn K) (e : exB K = true) : TxtP K mg where
  f_len := fre X G c 39 rfl
  f_all := fre X G c 49 rfl
  f_tuple := fre X G c 43 rfl
  f_int := fre X G c 38 rfl
  f_abs := fre X G c 40 rfl
  f_max := fre X G c 47 rfl
  f_enumerate := fre X G c 50 rfl
  c_LETTERS := fstr X G c 60 rfl
  c_LONGEST_NAME := fint X G c 53 rfl
  c_MOST_POINTERS := fint X G c 54 rfl
  c_FARTHEST_SPOT := fint X G c 55 rfl
  c_LONGEST_NUMBER := fint X G c 56 rfl
  c_FARTHEST := fint X G c 57 rfl
  c_MOST_CELLS := fint X G c 58 rfl
  c_MOST_FACTS := fint X G c 59 rfl
  g_RESERVED := glo X G c 33 rfl
  g_MODULI := glo X G c 34 rfl
  t_RESERVED := tupS_ok (by decide) (exparts e).1
  t_MODULI := tupI_ok (zs := [2, 4, 8]) (by decide) (exparts e).2.1
theorem c_Fact (c : He.SaysD fa fn K) : FactC K (He.ga K "Fact") where
  cl := He.cls_ok (c.fact 61 rfl)
  n_word := He.noat_ok (c.fact 65 rfl)
  n_left := He.noat_ok (c.fact 66 rfl)
  n_right := He.noat_ok (c.fact 67 rfl)
  n_numbers := He.noat_ok (c.fact 68 rfl)
  n_spans := He.noat_ok (c.fact 69 rfl)
  n_far := He.noat_ok (c.fact 70 rfl)
  n_modulus := He.noat_ok (c.fact 71 rfl)
theorem c_Contract (c : He.SaysD fa fn K) : ContractC K (He.ga K "Contract") where
  cl := He.cls_ok (c.fact 63 rfl)
  n_pointers := He.noat_ok (c.fact 72 rfl)
  n_text := He.noat_ok (c.fact 73 rfl)
  n_lines := He.noat_ok (c.fact 74 rfl)
  n_rows := He.noat_ok (c.fact 75 rfl)
  n_far := He.noat_ok (c.fact 76 rfl)
  n_modulus := He.noat_ok (c.fact 77 rfl)
theorem red_all (X : K.In h) (G : h.Ns mainGlobals mg) (c : He.SaysD fa fn K) (e : exB K = true) (tb : ∀ p ∈ tf.map (He.cT K), LamX.TabB base mg p.1 p.2) (A : Around) (f : Addr) (cdv : Value) (outer : List Env) (s : Shared) (H : Hp) (vs : List V) (Q : VK) (E : XK) (hr : Room 12 (A.deeper (envOfC "law" (defScope s_law) s.heap.objs.size f cdv))) (hs : spLaw K (He.cT K ("_law_are_refused", none)).2 vs H Q E) :
    ∃ t, PSs (cxOf CX0 P w K mg base ["script", "pen", "turn", "pointers", "facts", "contract", "again", "places", "at", "kept", "due", "told", "far", "wrong", "k", "place"] "law" (defScope s_law) f cdv A outer s H E) (defBody s_law) t ∧ t { nx := fun _ H' => Q .non H', rt := Q } (start ["script", "pen", "turn", "pointers", "facts", "contract", "again", "places", "at", "kept", "due", "told", "far", "wrong", "k", "place"] vs) H := by
  have T := txt X G c
  have Z := txtL X G c
  have TP := txtP X G c e
  have FC := c_Fact c
  have DC := c_Contract c
  obtain ⟨_, _, e3, e4, e5, e6, e7, e8, e9, e10⟩ := exparts e
  have nCD : He.ga K "Fact" ≠ He.ga K "Contract" := of_decide_eq_true e3
  have TE : TxtE K mg (He.ga K "PartlyError") := ⟨fre X G c 43 rfl, glo X G c 36 rfl, (partB_ok e6).1, (partB_ok e6).2⟩
  have c_draw : Cal P w K mg base 1 "_law_draw" ["pen", "span"] spDraw := ok_draw T (deff X G c 1 1 rfl rfl)
  have c_begun : Cal P w K mg base 1 "_law_begun_pen" ["script"] (spBegun K) := ok_begun_pen T (deff X G c 0 0 rfl rfl)
  have c_pick : Cal P w K mg base 2 "_law_pick" ["pen", "options"] (spPick K) := ok_pick T (deff X G c 2 2 rfl rfl) c_draw
  have c_farn : Cal P w K mg base 2 "_law_far_number" ["pen"] spFar := ok_far_number T (deff X G c 5 5 rfl rfl) c_draw
  have c_shuf : Cal P w K mg base 2 "_law_shuffled" ["pen", "items"] (spShuffled K) := ok_shuffled T (deff X G c 3 3 rfl rfl) c_draw
  have c_nn : Cal P w K mg base 3 "_law_new_names" ["pen", "many"] (spNewNames K) := ok_new_names T (deff X G c 4 4 rfl rfl) c_shuf
  have c_wf : Cal P w K mg base 3 "_law_wide_fact" ["pen", "pointers"] (spWideFact K) := ok_wide_fact T (deff X G c 11 11 rfl rfl) c_draw c_pick
  have c_wfs : Cal P w K mg base 4 "_law_wide_facts" ["pen", "pointers", "many"] (spWideFacts K) := ok_wide_facts T (deff X G c 12 12 rfl rfl) c_wf
  have c_spot : Cal P w K mg base 1 "_law_spot_text" ["name", "number"] spSpotText := ok_spot_text T (deff X G c 6 6 rfl rfl)
  have c_ft : Cal P w K mg base 2 "_law_fact_text" ["fact"] (spFactText K) := ok_fact_text T (deff X G c 7 7 rfl rfl) c_spot
  have c_fts : Cal P w K mg base 3 "_law_facts_text" ["facts"] spFactsText := ok_facts_text T (deff X G c 8 8 rfl rfl) c_ft
  have c_at : Cal P w K mg base 1 "_law_at" ["pointers", "places"] (spAt K) := ok_at T Z (deff X G c 10 10 rfl rfl)
  have c_true : Cal P w K mg base 1 "_law_true" ["fact", "at"] spTrue := ok_true T (deff X G c 9 9 rfl rfl)
  have c_np : Cal P w K mg base 3 "_law_new_places" ["pen", "many", "facts", "pointers"] spNewPlaces := ok_new_places T (deff X G c 13 13 rfl rfl) c_draw c_pick c_farn
  have c_isn : Cal P w K mg base 1 "is_name" ["word"] spName := ok_is_name TP (deff X G c 16 16 rfl rfl)
  have c_lo : Cal P w K mg base 1 "lines_of" ["text"] spLinesOf := ok_lines_of TP (deff X G c 15 15 rfl rfl)
  have c_rps : Cal P w K mg base 2 "read_pointers" ["pointers"] (spReadPointers K) := ok_read_pointers TP (deff X G c 17 17 rfl rfl) c_isn
  have c_rn : Cal P w K mg base 1 "read_number" ["word", "low", "high"] spReadNumber := ok_read_number TP (deff X G c 18 18 rfl rfl)
  have c_rp : Cal P w K mg base 3 "read_pointer" ["word", "pointers"] (spReadPointer K) := ok_read_pointer TP (deff X G c 19 19 rfl rfl)
  have c_rs : Cal P w K mg base 4 "read_spot" ["word", "pointers"] (spReadSpot K) := ok_read_spot TP (deff X G c 20 20 rfl rfl) c_rp c_rn
  obtain ⟨fdF, FF⟩ := c.def_ 31 (d := d_Fact___init__) rfl
  have mF : Mkc P w K mg base 1 "Fact" (He.ga K "Fact") ["self", "word", "left", "right", "numbers"] (spFactInit K (He.ga K "Fact")) := ⟨_, fdF, ok_fact_init TP FC FF, glo X G c 31 rfl, He.mkr_ok (c.fact 62 rfl), FF.bindsN (ps := ["self", "word", "left", "right", "numbers"]) fun _ _ _ _ _ _ us hl => match us, hl with | [_, _, _, _, _], _ => rfl⟩
  have c_rr : Cal P w K mg base _ _ _ _ := ok_read_remainder TP (deff X G c 24 24 rfl rfl) c_rn mF
  have c_rd : Cal P w K mg base _ _ _ _ := ok_read_distance TP (deff X G c 23 23 rfl rfl) c_rp c_rn mF
  have c_ra : Cal P w K mg base _ _ _ _ := ok_read_apart TP (deff X G c 22 22 rfl rfl) c_rs c_rn mF
  have c_rf : Cal P w K mg base _ _ _ _ := ok_read_fact TP (deff X G c 21 21 rfl rfl) c_rp c_ra c_rd c_rr
  have c_rfs : Cal P w K mg base _ _ _ _ := ok_read_facts TP (deff X G c 27 27 rfl rfl) c_rf
  have c_pf : Cal P w K mg base 1 "far_of" ["things"] (sp_far_of K (He.ga K "Fact")) := ok_pfar_of TP (deff X G c 25 25 rfl rfl) FC
  have c_pm : Cal P w K mg base 1 "modulus_of" ["things"] (sp_modulus_of K (He.ga K "Fact")) := ok_modulus_of TP (deff X G c 26 26 rfl rfl) FC
  obtain ⟨fdC, FCi⟩ := c.def_ 32 (d := d_Contract___init__) rfl
  have mC : Mkc P w K mg base 8 "Contract" (He.ga K "Contract") ["self", "pointers", "text"] (spContractInit K (He.ga K "Fact") (He.ga K "Contract")) := ⟨_, fdC, ok_contract_init nCD TP FC DC FCi c_rps c_lo c_rfs c_pf c_pm, glo X G c 32 rfl, He.mkr_ok (c.fact 64 rfl), FCi.bindsN (ps := ["self", "pointers", "text"]) fun _ _ _ _ _ _ us hl => match us, hl with | [_, _, _], _ => rfl⟩
  obtain ⟨fdB, FB⟩ := c.def_ 36 (d := d_BadPlaces) rfl
  have eB : ExK P w K mg base "BadPlaces" ["self"] (spIni0 (He.ga K "BadPlaces")) := ⟨oexB_ok e4, glo X G c 35 rfl, _, fdB, ok_BadPlaces TE FB (oexB_ok e4), FB.bindsN (ps := ["self"]) fun _ _ _ _ _ _ us hl => match us, hl with | [_], _ => rfl, (iniB_ok e5).1, (iniB_ok e5).2⟩
  obtain ⟨fdH, FH⟩ := c.def_ 33 (d := d_Fact_holds) rfl
  have mH : MthX P w K mg base CX0 1 (He.ga K "Fact") "holds" ["self", "places"] (spHolds K (He.ga K "Fact")) := ⟨FC.cl, _, fdH, ok_holds TP FC FH, He.meth_ok (c.fact 80 rfl), FH.bindsN (ps := ["self", "places"]) fun _ _ _ _ _ _ us hl => match us, hl with | [_, _], _ => rfl⟩
  have c_chk : CalX P w K mg base 3 "check_places" ["pointers", "places"] (spCheck K) := ok_check_places TP (deff X G c 28 28 rfl rfl) eB
  have c_all : Cal P w K mg base 3 "all_hold" ["facts", "places"] (spAllHold K (He.ga K "Fact")) := ok_all_hold TP (deff X G c 29 29 rfl rfl) mH
  obtain ⟨fdK, FK⟩ := c.def_ 34 (d := d_Contract_keeps) rfl
  have mK : MthX P w K mg base (CX P w) 4 (He.ga K "Contract") "keeps" ["self", "places"] (spKeeps K (He.ga K "Fact") (He.ga K "Contract")) := ⟨DC.cl, _, fdK, ok_Contract_keeps TP FK DC c_chk c_all, He.meth_ok (c.fact 78 rfl), FK.bindsN (ps := ["self", "places"]) fun _ _ _ _ _ _ us hl => match us, hl with | [_, _], _ => rfl⟩
  obtain ⟨fdR, FR⟩ := c.def_ 35 (d := d_Contract_broken) rfl
  have mR : MthX P w K mg base (CX P w) 4 (He.ga K "Contract") "broken" ["self", "places"] (spBroken K (He.ga K "Fact") (He.ga K "Contract")) := ⟨DC.cl, _, fdR, ok_Contract_broken TP FR DC c_chk mH, He.meth_ok (c.fact 79 rfl), FR.bindsN (ps := ["self", "places"]) fun _ _ _ _ _ _ us hl => match us, hl with | [_, _], _ => rfl⟩
  obtain ⟨fdA, FA⟩ := c.def_ 14 (d := d_are_refused) rfl
  have dA := defT_of (st := s_are_refused) FA (glo X G c 14 rfl)
  have c_ref := ok_are_refused (w := w) (P := P) (C := He.ga K "Fact") (Dc := He.ga K "Contract") T dA (tb _ (List.mem_map.mpr ⟨("_law_are_refused", none), List.mem_singleton.mpr rfl, rfl⟩)) (excB_ok e7) (glo X G c 35 rfl) (glo X G c 36 rfl) (glo X G c 37 rfl) (of_decide_eq_true e8) (of_decide_eq_true e9) (of_decide_eq_true e10) mK mR
  obtain ⟨t, ht, q⟩ := law_red T c_begun c_draw c_nn c_wfs c_fts c_np c_at c_true c_farn c_ref mK mR mC A f cdv outer s H vs Q E hr hs
  exact ⟨t, ht.nox, q⟩
end
end K03
end
set_option Elab.async false
set_option linter.all false
set_option maxRecDepth 100000
set_option maxHeartbeats 4000000
open PySem PySem.W PySem.Calls PyProof.Rows PySem.Spec
theorem PySem.Challenge.cw_partlymet_k03_places_told_holds : PySem.Challenge.rw_partlymet_k03_places_told.Holds := by
  w_on; o_law
  refine HandSHeadRun.head_any (r := OpenLaw.row PySem.Challenge.rw_partlymet_k03_places_told) (q := view (OpenLaw.row PySem.Challenge.rw_partlymet_k03_places_told).prog [59]) (H := K03.hk) (ob := K03.ob) (M := 6000) (loose := K03.loose) (d := HandSHeadRun.topDef (OpenLaw.row PySem.Challenge.rw_partlymet_k03_places_told).prog 59) (kwd := []) K03.ob_eq
    (by kernel_rfl) (fun s => by kernel_rfl) K03.run (by kernel_rfl) (by kernel_rfl) (by kernel_rfl) (by rfl) (by first | assumption | decide +kernel) (by decide +kernel) ⟨rfl, rfl, rfl, rfl, rfl, by decide +kernel⟩ ?hw ?hc
  case hw => w_witness2
  case hc =>
    refine Att.attach_call (l := PySem.Challenge.rw_partlymet_k03_places_told) (n := 63) rfl (by kernel_rfl) fun w s₀ s₁ mg mb fa o pm cd doc a vs ns G Y ho hd hcd hmg0 hobj hints hlen hg => ?_
    obtain ⟨K, KX, y⟩ := Y
    have c : He.SaysD K03.fa K03.fn K := y.t.d
    have e : K03.exB K = true := y.more
    have hmg : mg ("law" : PySem.Str) = some (.ref fa) := by
      have e : (HandSHeadRun.topDef (OpenLaw.row PySem.Challenge.rw_partlymet_k03_places_told).prog 59).name = ("law" : PySem.Str) := by kernel_rfl
      rw [← e]
      exact hmg0
    obtain ⟨fd, F⟩ := c.def_ 30 (d := K03.d_law) rfl
    have ea := hmg.symm.trans (K03.glo KX G.T.g c 30 rfl)
    cases ea
    have key : ∀ p ∈ K03.tf.map (He.cT K), ∃ d ∈ K03.tf, He.cT K d = p := fun p hp => List.mem_map.mp hp
    refine LamX.law_callTs (CX := L2.CX0) (k := 12 + 1) (cs := K03.tf.map (He.cT K)) (fd := fd) (x := "script") (sp := K03.spLaw K (He.cT K ("_law_are_refused", none)).2) KX G.T.g G.T.b G.T.builtins G.T.nolimit hg (fun p hp => ?_) (fun p hp => ?_) (fun p hp => ?_) G.T.bmain hobj hints (Nat.le_trans hlen (by decide)) ⟨rfl, by decide, by decide⟩ (fun base KB hns tb => ?_)
      (L2.FunD.bindsA (ps := ["script"]) F (fun _ _ _ _ _ _ us hl => match us, hl with | [_], _ => rfl) · [·] rfl) (fun H hH hS => ⟨a, ns, rfl, hS, fun p hp => by
        rw [List.mem_singleton.mp hp]
        exact NdefX.TabN.nil (hH _ (List.mem_map.mpr ⟨("_law_are_refused", none), List.mem_singleton.mpr rfl, rfl⟩)), fun _ => rfl⟩) (fun H e s' h => h.elim)
    · obtain ⟨d, hd, rfl⟩ := key p hp
      exact y.empty d hd
    · obtain ⟨d, hd, rfl⟩ := key p hp
      exact y.out d hd
    · obtain ⟨d, hd, rfl⟩ := key p hp
      exact PySem.W.codeHd_of_K KX (y.hd d hd)
    · exact F.ok K03.sc_law (fun vs H Q E h => by
          obtain ⟨a, ns, rfl, _⟩ := h
          rfl) (fun cdv A outer s H vs Q E hr hs => K03.red_all KB hns c e tb A _ cdv outer s H vs Q E hr hs)
