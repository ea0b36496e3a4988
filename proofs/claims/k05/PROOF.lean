import PyProof.Rows.All
import Wide.All
import OpenK.AllK
import Wide.FinOn
import PySem.Challenge.RW_knownguards_k05_whole_closed_lots_of_wor
import KE.KExcIs
import HandS.ForExc
import HandS.Comp
import HandS.Defaults
import HandS.IsInst
import HandS.ExcInit
import HandS.ExcIs
import HandS.ExcValue
import HandS.ExcField
import HandS.Small
import HandS.ForMost
import HandS.Wide
import HandS.TupAny
import HandS.Flow
import KE.SortData
import HandS.Sort
import HandS.Deep
import HandS.TupMul
import HandS.Iter
import KE.GoesMore
import KE.DataFind
import KE.GoesEnum
import HandS.Star
import HandS.List
set_option Elab.async false
set_option linter.all false
set_option maxRecDepth 100000
set_option maxHeartbeats 4000000
/-! Own exceptions as values: made by a call, their fields read, asked by isinstance. Whatever makes an exception for a raise (PMk) makes a value, too: the exception's object is tracked again. -/
namespace L2
open PySem PySem.Spec PyProof.Rows
/-- an exception that was made and not raised stands at a: its class, its own dict -/
def exq (a : Addr) (cls : Value) (d : Option Addr) : HO := .ext fun h => ∃ oe vs, h.get? a = some oe ∧ Zc cls d oe ∧ oe.data = .fields vs
theorem exq_at {P : Program} {w : World} {H : Hp} {h : Heap} {a : Addr} {cls : Value} {d : Option Addr} (ok : HOk P w H h) (e : H a = some (exq a cls d)) : ∃ oe vs, h.get? a = some oe ∧ Zc cls d oe ∧ oe.data = .fields vs := (ok a _ e).1
/-- an exception of the class at C stands at a, its attributes fs -/
def ExAt (H : Hp) (a C : Addr) (fs : List (Str × V)) : Prop := (fs = [] ∧ H a = some (exq a (.ref C) none)) ∨ ∃ d, H a = some (exq a (.ref C) (some d)) ∧ H d = some (.xd fs)
theorem ExAt.same {H H' : Hp} {a C : Addr} {fs : List (Str × V)} (x : ExAt H a C fs) (s : Same H H') : ExAt H' a C fs := x.imp (fun ⟨e, h⟩ => ⟨e, s _ _ h⟩) fun ⟨d, h1, h2⟩ => ⟨d, s _ _ h1, s _ _ h2⟩
theorem not_lst {H : Hp} {a t : Addr} {o : HO} {xs : List V} (h1 : H a = some o) (h : H t = some (.lst xs)) (no : o ≠ .lst xs) : a ≠ t := ne_of h1 h no
theorem ExAt.updL {H : Hp} {a C t : Addr} {fs : List (Str × V)} {xs ys : List V} (x : ExAt H a C fs) (h : H t = some (.lst xs)) : ExAt (upd H t (.lst ys)) a C fs := by
  have k : ∀ {b o}, H b = some o → o ≠ .lst xs → upd H t (.lst ys) b = some o := fun e n => (upd_ne (not_lst e h n)).trans e
  exact x.imp (fun ⟨e, h0⟩ => ⟨e, k h0 (fun z => by cases z)⟩) fun ⟨d, h1, h2⟩ => ⟨d, k h1 (fun z => by cases z), k h2 (fun z => by cases z)⟩
section
variable {X : Cx} {e : Expr} {pos p : Pos}
/-- any maker of exceptions, as an expression -/
def tExv (t : St → Hp → XK → Prop) : TE := fun σ H Q => t σ H fun cls d H' => ∀ a, H' a = none → Q (.ref a) (upd H' a (exq a cls d))
theorem pe_exv {t : St → Hp → XK → Prop} (mk : PMk X e t) : PE X e (tExv t) := by
  constructor
  intro pins s σ H Q I h
  have run := mk pins s σ H (fun cls d H' => ∀ a, H' a = none → Q (.ref a) (upd H' a (exq a cls d))) I h
  refine thn run ?_
  rintro u s' ⟨a, oe, vs, sG, H', cls, d, eu, J, sub, gone, obj, hz, dat, _, free, os', bare', _, q⟩
  have got : ObjOk X.prog X.w (upd H' a (exq a cls d)) s'.heap a (exq a cls d) := ⟨⟨oe, vs, obj, hz, dat⟩, ⟨oe, obj⟩, fun h1 h2 ⟨oe1, vs1, g, r⟩ keep => ⟨oe1, vs1, keep _ g, r⟩⟩
  have J2 := J.laidN (h' := s'.heap) (t' := s'.toks) sub gone free got
  have J3 : Inv X pins σ (upd H' a (exq a cls d)) s' := J2.call' (ch := []) os' Un.refl J2.hok bare' fun b z => nomatch z
  exact ⟨.ref a, _, J3, eu, q a free⟩
theorem new_exq {H : Hp} {a C d : Addr} {fs : List (Str × V)} (n : H a = none) (h : H d = some (.xd fs)) : ExAt (upd H a (exq a (.ref C) (some d))) a C fs := .inr ⟨d, upd_same, (upd_ne (ne_of_none h n)).trans h⟩
/-- C() of an own exception class without an __init__, for a raise or as a value -/
theorem pmk_bare {C : Addr} {bmB : List Value} {B newId initId : String} {x : Str} (F : ExcBaseFacts B newId initId bmB) (q : PySem.W.excIn X.K C bmB newId = true) (gC : X.mg x = some (.ref C)) (kC : PySem.W.keepIn X.K (.ref C) = true) (r : Raises X (.ref C))
    (hg : Gl X x) (hdb : (x == ("__debug__" : Str)) = false := by decide) : PMk X (.Call (.Name x p) [] [] pos) (fun _ H Q => Q (.ref C) none H) := fun pins s σ H Q I h => by
  have bare : wpAny (model X.prog X.w) X.A (call (.ref C) []) (MkP X pins σ Q) X.xe s := by
    obtain ⟨bm, N, nm, qn, bs, hdct, sn, sub, ab, col, dd, k0, k1, k2, k3, k5, mN, hC, hN, hni, T⟩ := exc_obj I.kIn q
    exact wpAny_call_exc_subT F T hC hN hni (fun h' e hm => mk_of I hm r h (I.hok.gone hm.new)) (Nat.zero_le _)
  exact wpAny_Call_Name_kw (ld_glob I hg gC (PySem.W.callWith_K0 I.kIn kC bare) hdb)
/-- the attribute n of an exception that stands in H -/
def tOxf (K : PySem.W.Frag) (n : Str) (te : TE) : TE := fun σ H Q => te σ H fun x H1 => ∃ (a C : Addr) (fs : List (Str × V)) (v : V), x = .ref a ∧ XfC K C ∧ PySem.W.findIn K (.ref C) n = some none ∧ ExAt H1 a C fs ∧ fs.lookup n = some v ∧ Q v H1
/-- where such an exception's object and dict are -/
theorem ExAt.inst {a C : Addr} {fs : List (Str × V)} {pins : List (Addr × Obj)} {σ : St} {H : Hp} {s : Shared} (I : Inv X pins σ H s) (x : ExAt H a C fs) : ∃ oe od, PySem.W.InstAt s.heap a oe C od ∧ ∀ n v, fs.lookup n = some v → ∃ od' u, od = some od' ∧ PySem.W.lookIn n od' = some (some u) ∧ RelV v u := by
  rcases x with ⟨e, h⟩ | ⟨d, h1, h2⟩
  · obtain ⟨⟨oc, od, da, sl⟩, vs, g, ⟨z1, z2⟩, z3⟩ := exq_at I.hok h
    cases z1; cases z2; cases z3
    exact ⟨_, none, ⟨g, rfl, rfl, trivial⟩, fun n v l => by rw [e] at l; cases l⟩
  · obtain ⟨⟨oc, od, da, sl⟩, vs, g, ⟨z1, z2⟩, z3⟩ := exq_at I.hok h1
    cases z1; cases z2; cases z3
    obtain ⟨mA, hns, rel⟩ := (show ObjOk X.prog X.w H s.heap d (.xd fs) from I.hok d _ h2)
    obtain ⟨od, ho, hl⟩ := lookIn_ns hns
    refine ⟨_, some od, ⟨g, rfl, rfl, ho⟩, fun n v l => ?_⟩
    obtain ⟨u, hu, ru⟩ := RelO.some_of (v := v) (o := mA n) (l ▸ rel n)
    exact ⟨od, u, rfl, (hl n).trans (congrArg some hu), ru⟩
theorem pe_oxf {te : TE} {n : Str} (he : PE X e te) (hb : attributeBase e n X.env (eval e X.env) = eval e X.env := by rfl) : PE X (.Attribute e n pos) (tOxf X.K n te) := by
  constructor
  intro pins s σ H Q I h
  refine attr_of hb (thn (he.run pins s σ H _ I h) ?_)
  rintro u s1 ⟨x, H1, I1, rx, a, C, fs, v, rfl, T, no, ea, l, q⟩
  cases rx
  obtain ⟨oe, od, J, look⟩ := ea.inst I1
  obtain ⟨od', w, rfl, hw, rw'⟩ := look n v l
  exact HandSPX.exc_get I1.kIn J T.ga T.gg T.exC (PySem.W.findObj_own T.hdC no rfl hw) (handed_of rw') ⟨v, H1, I1.tok _, rw', q⟩
theorem ExcC.kit {K : PySem.W.Frag} {C x : Addr} {oe : Obj} {od : Option Obj} (c : ExcC K C) : PySem.W.KitX K (.ref x) (.ref C) fun h => PySem.W.InstAt h x oe C od :=
  PySem.W.kitx_exc (by obtain ⟨cd, hc, _⟩ := PySem.W.any_some c.hd; rw [hc]; rfl) c.hg c.hk c.hs c.ha c.hn c.ht c.hm
/-- isinstance(e, c) of an exception that stands in H -/
def rIsO (K : PySem.W.Frag) : List V → Hp → VK → Prop := fun xs H Q => ∃ (a D : Addr) (fs : List (Str × V)) (c : V) (cv : Value) (b : Bool), xs = [.ref a, c] ∧ ExAt H a D fs ∧ ExcC K D ∧ ClsV c cv ∧ PySem.W.kitOne K (.ref D) cv = some b ∧ Q (.bl b) H
theorem call_isO : CallR X (.builtin "isinstance") (rIsO X.K) := by
  rintro pins s σ H xs us Q I r ⟨a, D, fs, c, cv, b, rfl, ea, C, k, e, q⟩
  obtain ⟨u1, u2, rfl, r1, r2⟩ := vals2 r
  cases k.eq r2
  cases r1
  obtain ⟨oe, od, J, _⟩ := ea.inst I
  exact PySem.W.kia_one C.kit I.kIn J e (fun z => nomatch z) fun tk => ⟨.bl b, H, I.tok tk, rfl, q⟩
theorem op_eqDs {a : Addr} {pn : List (Addr × Obj)} (hu : X.A.units + 64 < cLine) : OpR (X.suite a pn) (compareOp .Eq) (rEqD X.K) := op_eqD (X := X.suite a pn) hu
/-- isinstance(e, c), e the exception that the suite holds, with a dict of its own -/
def rIsS (K : PySem.W.Frag) (a : Addr) (cls : Value) (d : Option Addr) : List V → Hp → VK → Prop := fun xs H Q => ∃ (D dd : Addr) (fs : List (Str × V)) (c : V) (cv : Value) (b : Bool), cls = .ref D ∧ d = some dd ∧ xs = [.ref a, c] ∧ H dd = some (.xd fs) ∧ ExcC K D ∧ ClsV c cv ∧ PySem.W.kitOne K (.ref D) cv = some b ∧ Q (.bl b) H
theorem call_isS {a : Addr} {oe : Obj} {cls : Value} {d : Option Addr} {pn : List (Addr × Obj)} (hz : Zc cls d oe) (hf : ∃ vs, oe.data = .fields vs) : CallR (X.suite a ((a, oe) :: pn)) (.builtin "isinstance") (rIsS X.K a cls d) := by
  rintro pins s σ H xs us Q I r ⟨D, dd, fs, c, cv, b, rfl, rfl, rfl, hd, C, k, e, q⟩
  obtain ⟨u1, u2, rfl, r1, r2⟩ := vals2 r
  cases k.eq r2
  cases r1
  have stands := (I.pin (a, oe) (List.mem_append_left _ List.mem_cons_self)).1
  obtain ⟨mA, hns, _⟩ := (show ObjOk X.prog X.w H s.heap dd (.xd fs) from I.hok dd _ hd)
  obtain ⟨od, ho, _⟩ := lookIn_ns hns
  obtain ⟨oc, odd, da, sl⟩ := oe
  obtain ⟨⟨z1, z2⟩, vs, z3⟩ := hz, hf
  cases z1; cases z2; cases z3
  have J : PySem.W.InstAt s.heap a { cls := .ref D, dict := some dd, data := .fields vs, slots := sl } D (some od) := ⟨stands, rfl, rfl, ho⟩
  exact PySem.W.kia_one C.kit I.kIn J e (fun z => nomatch z) fun tk => ⟨.bl b, H, I.kept (t' := tk) fun _ _ z => z, rfl, q⟩
end
/-! the error classes of a package: what is asked of each, made anew, with one attribute, two, none -/
/-- an exception that an __init__ has made: its dict is new -/
def ExNew (H H' : Hp) (a C : Addr) (fs : List (Str × V)) : Prop := ∃ d, d ≠ a ∧ H d = none ∧ H' a = some (exo a C (some d)) ∧ H' d = some (exd d fs)
def spI1 (K : PySem.W.Frag) (C : Addr) (f : Str) : Sp := fun vs H Q _ => ∃ (a : Addr) (v : V), vs = [.ref a, v] ∧ OexC K C ∧ PySem.W.findIn K (.ref C) f = some none ∧ H a = some (exo a C none) ∧
  ∀ H', (∀ b o, b ≠ a → H b = some o → H' b = some o) → ExNew H H' a C [(f, v)] → Q .non H'
def spI2 (K : PySem.W.Frag) (C : Addr) (f g : Str) : Sp := fun vs H Q _ => ∃ (a : Addr) (v u : V), vs = [.ref a, v, u] ∧ OexC K C ∧ PySem.W.findIn K (.ref C) f = some none ∧ PySem.W.findIn K (.ref C) g = some none ∧ H a = some (exo a C none) ∧
  ∀ H', (∀ b o, b ≠ a → H b = some o → H' b = some o) → ExNew H H' a C [(g, u), (f, v)] → Q .non H'
/-- a class with an __init__ of its own that keeps sp -/
structure MkE (P : Program) (w : World) (K : PySem.W.Frag) (mg : Str → Option Value) (base : Heap) (x : Str) (C : Addr) (ps : List Str) (sp : Sp) : Prop where
  ex : ∃ fI fd, FnOk P w K mg base CX0 1 fI fd ps sp ∧ PySem.W.findIn K (.ref C) "__init__" = some (some (.ref fI)) ∧ PySem.W.typeIn K (.ref fI) = some (.type "function") ∧ Binds K fd ps []
  ox : OexC K C
  gC : mg x = some (.ref C)
/-- where the __init__ of the class at C stands -/
structure InitAt (K : PySem.W.Frag) (C : Addr) (qual : Str) (st : Stmt) : Prop where
  ex : ∃ fI fd, Fun K "__init__" qual st fI fd ∧ PySem.W.findIn K (.ref C) "__init__" = some (some (.ref fI)) ∧ PySem.W.typeIn K (.ref fI) = some (.type "function")
structure MkN (K : PySem.W.Frag) (mg : Str → Option Value) (x : Str) (C : Addr) : Prop where
  q : PySem.W.excIn K C [.type "ValueError", .type "Exception", .type "BaseException", .type "object"] "ValueError.__new__" = true
  kC : PySem.W.keepIn K (.ref C) = true
  exC : PySem.W.subIn K (.ref C) (.type "BaseException") = some true
  tyC : PySem.W.typeIn K (.ref C) = some (.type "type")
  gC : mg x = some (.ref C)
section
variable {X : Cx} {P : Program} {w : World} {K : PySem.W.Frag} {mg : Str → Option Value} {base : Heap} {x f g qual : Str} {C : Addr} {st : Stmt} {ps : List Str} {sp : Sp} {a b : Expr} {ta tb : TE} {p pos : Pos}
theorem mkE_of (I : InitAt K C qual st) (ox : OexC K C) (gC : mg x = some (.ref C))
    (hb : ∀ (kV doc pm : Value) (an : Option Addr) (cdv ct : Value) (us : List Value), us.length = ps.length → bindArgs (PySem.W.fnOf "__init__" qual (defArgs st) (defBody st) (defScope st) .none kV doc pm an cdv ct) ⟨us, []⟩ = pure (ps.zip us))
    (h : ∀ fI fd, Fun K "__init__" qual st fI fd → FnOk P w K mg base CX0 1 fI fd ps sp) : MkE P w K mg base x C ps sp := by
  obtain ⟨fI, fd, F, h1, h2⟩ := I.ex
  exact ⟨⟨fI, fd, h fI fd F, h1, h2, F.binds hb⟩, ox, gC⟩
theorem pmk_E (M : MkE X.prog X.w X.K X.mg X.base x C ps sp) (hg : Gl X x) (hr : Room 2 X.A) {es : List Expr} {ta : TA} (ha : PA X (a :: es) ta)
    (hdb : (x == ("__debug__" : Str)) = false := by decide) (he : starEach (a :: es) X.env = (false, eval a X.env) :: starEach es X.env := by rfl) (hpl : (backTo pos (starEach es X.env)).any (·.1) = false := by rfl) :
    PMk X (.Call (.Name x p) (a :: es) [] pos) (tMkO C sp [] ta) := by
  obtain ⟨⟨fI, fd, F, h1, h2, hb⟩, ox, gC⟩ := M
  exact pmk_oex (p := p) (pos := pos) ox h1 h2 F hr hb .nil pass0 hg gC ha hdb he hpl
theorem pmk_N (M : MkN X.K X.mg x C) (hg : Gl X x) (hdb : (x == ("__debug__" : Str)) = false := by decide) : PMk X (.Call (.Name x p) [] [] pos) (fun _ H Q => Q (.ref C) none H) :=
  pmk_bare F.excBase_ValueError M.q M.gC M.kC (raises_own M.exC M.tyC) hg hdb
/-- behind an __init__: what stood still stands, the exception at its new address -/
theorem exv_facts {H H' : Hp} {e e' d : Addr} {o : HO} {fs : List (Str × V)} (n : H e = none) (k : ∀ b u, b ≠ e → upd H e o b = some u → H' b = some u) (nd : upd H e o d = none) (de : d ≠ e) (n' : upd (L2.del H' e) d (.xd fs) e' = none) :
    H d = none ∧ Same H (upd (upd (L2.del H' e) d (.xd fs)) e' (exq e' (.ref C) (some d))) ∧ ExAt (upd (upd (L2.del H' e) d (.xd fs)) e' (exq e' (.ref C) (some d))) e' C fs := by
  have nd' : H d = none := by rw [upd_ne de] at nd; exact nd
  have s1 : Same H (upd (L2.del H' e) d (.xd fs)) := fun b u q => by
    rw [upd_ne (ne_of_none q nd'), L2.del_ne (ne_of_none q n)]
    exact k b u (ne_of_none q n) ((upd_ne (ne_of_none q n)).trans q)
  exact ⟨nd', fun b u q => (upd_ne (ne_of_none (s1 b u q) n')).trans (s1 b u q), new_exq n' upd_same⟩
/-- the store self.f = y of an __init__, the first -/
theorem ost_go1 {H : Hp} {a0 : Addr} {v : V} (h0 : H a0 = some (exo a0 C none)) {Q : Hp → Prop} (h : ∀ H', (∀ b o, b ≠ a0 → H b = some o → H' b = some o) → (∃ d, d ≠ a0 ∧ H d = none ∧ H' a0 = some (exo a0 C (some d)) ∧ H' d = some (exd d [(f, v)])) → Q H') :
    ∀ dx, H dx = none → dx ≠ a0 → Q (upd (upd H dx (exd dx [(f, v)])) a0 (exo a0 C (some dx))) := fun dx n ne =>
  h _ (fun b o hb e => by rw [upd_ne hb, upd_ne (ne_of_none e n)]; exact e) ⟨dx, ne, n, upd_same, by rw [upd_ne ne, upd_same]⟩
end
end L2

set_option Elab.async false
set_option linter.all false
set_option maxRecDepth 100000
set_option maxHeartbeats 4000000
namespace L2
open PySem PySem.Spec PyProof.Rows
/-- a def of the module that may be called: its promise, where it stands, how it binds -/
structure Cal (P : Program) (w : World) (K : PySem.W.Frag) (mg : Str → Option Value) (base : Heap) (CX : CXT) (k : Nat) (x : Str) (ps : List Str) (sp : Sp) : Prop where
  ex : ∃ f fd, FnOk P w K mg base CX k f fd ps sp ∧ mg x = some (.ref f) ∧ PySem.W.keepIn K (.ref f) = true ∧ Binds K fd ps []
/-- where a def of the text stands -/
structure DefAt (K : PySem.W.Frag) (mg : Str → Option Value) (x : Str) (st : Stmt) : Prop where
  ex : ∃ f fd, Fun K x x st f fd ∧ mg x = some (.ref f)
section
variable {P : Program} {w : World} {K : PySem.W.Frag} {mg : Str → Option Value} {base : Heap}
theorem defAt_mk {h : Heap} {x : Str} {st : Stmt} {f : Addr} {oc : Value} {od an : Option Addr} {osl : Array (Option Value)} {kV doc pm cdv ct : Value} (X : K.In h) (G : h.Ns mainGlobals mg)
    (a : PySem.W.nsIn K mainGlobals x = some (some (.ref f)))
    (l : K.lookup f = some ⟨oc, od, .func (PySem.W.fnOf x x (defArgs st) (defBody st) (defScope st) .none kV doc pm an cdv ct), osl⟩)
    (c : PySem.W.codeIn K cdv x = true) (k : PySem.W.keepIn K (.ref f) = true) : DefAt K mg x st := ⟨f, _, fun_mk (st := st) l c k, PySem.W.mg_of X G a⟩
theorem DefAt.cal {CX : CXT} {k : Nat} {x : Str} {st : Stmt} {ps : List Str} {sp : Sp} (D : DefAt K mg x st)
    (hb : ∀ (kV doc pm : Value) (an : Option Addr) (cdv ct : Value) (us : List Value), us.length = ps.length → bindArgs (PySem.W.fnOf x x (defArgs st) (defBody st) (defScope st) .none kV doc pm an cdv ct) ⟨us, []⟩ = pure (ps.zip us))
    (h : ∀ f fd, Fun K x x st f fd → FnOk P w K mg base CX k f fd ps sp) : Cal P w K mg base CX k x ps sp := by
  obtain ⟨f, fd, F, hm⟩ := D.ex
  exact ⟨f, fd, h f fd F, hm, F.kp, F.binds hb⟩
end
section
variable {X : Cx} {CX : CXT} {k : Nat} {ps : List Str} {sp : Sp} {E : XK} {x : Str} {p pos : Pos} {e : Expr} {es : List Expr} {t : TA}
def tCal (sp : Sp) (E : XK) (t : TA) : TE := fun σ H Q => t σ H fun vs H1 => sp vs H1 Q E
theorem pe_cal (C : Cal X.prog X.w X.K X.mg X.base CX k x ps sp) (hg : Gl X x) (hr : Room k X.A) (hx : Passes CX X E)
    (ha : PA X (e :: es) t) (hdb : (x == ("__debug__" : Str)) = false := by decide) (he : starEach (e :: es) X.env = (false, eval e X.env) :: starEach es X.env := by rfl) (hpl : (backTo pos (starEach es X.env)).any (·.1) = false := by rfl) :
    PE X (.Call (.Name x p) (e :: es) [] pos) (tCal sp E t) := by
  obtain ⟨f, fd, F, hm, hk, hb⟩ := C.ex
  have h := pe_call (dvs := []) (p := p) (pos := pos) F hr hg hm hk hb .nil hx ha hdb he hpl
  have e : tCall sp [] E t = tCal sp E t := by
    funext σ H Q
    unfold tCall tCal
    simp only [List.append_nil]
  rw [e] at h
  exact h
theorem pe_cal0 (C : Cal X.prog X.w X.K X.mg X.base CX k x ps sp) (hg : Gl X x) (hr : Room k X.A) (hx : Passes CX X E) (hdb : (x == ("__debug__" : Str)) = false := by decide) :
    PE X (.Call (.Name x p) [] [] pos) (tCal sp E tNil) := by
  obtain ⟨f, fd, F, hm, hk, hb⟩ := C.ex
  have h := pe_call0 (dvs := []) (p := p) (pos := pos) F hr hg hm hk hb .nil hx hdb
  have e : tCall sp [] E tNil = tCal sp E tNil := by
    funext σ H Q
    unfold tCall tCal
    simp only [List.append_nil]
  rw [e] at h
  exact h
end

/-! what the readings come to -/
theorem rEq_int {i j : Int} {H : Hp} {Q : VK} : rEq (.int i) (.int j) H Q ↔ Q (.bl (decide (i = j))) H := by
  unfold rEq
  simp [scal]
theorem rEq_str {i j : Str} {H : Hp} {Q : VK} : rEq (.str i) (.str j) H Q ↔ Q (.bl (decide (i = j))) H := by
  unfold rEq
  simp [scal]
theorem rEq_bl {i j : Bool} {H : Hp} {Q : VK} : rEq (.bl i) (.bl j) H Q ↔ Q (.bl (decide (i = j))) H := by
  unfold rEq
  simp [scal]
theorem rNe_int {i j : Int} {H : Hp} {Q : VK} : rNe (.int i) (.int j) H Q ↔ Q (.bl (!decide (i = j))) H := by
  unfold rNe
  simp [scal]
theorem rNe_str {i j : Str} {H : Hp} {Q : VK} : rNe (.str i) (.str j) H Q ↔ Q (.bl (!decide (i = j))) H := by
  unfold rNe
  simp [scal]
theorem rNe_bl {i j : Bool} {H : Hp} {Q : VK} : rNe (.bl i) (.bl j) H Q ↔ Q (.bl (!decide (i = j))) H := by
  unfold rNe
  simp [scal]
theorem atI_0 {α : Type} {a : α} {l : List α} : atI (a :: l) (0 : Int) = some a := atI_nat (j := 0) rfl
theorem atI_1 {α : Type} {a b : α} {l : List α} : atI (a :: b :: l) (1 : Int) = some b := atI_nat (j := 1) rfl
theorem atI_2 {α : Type} {a b c : α} {l : List α} : atI (a :: b :: c :: l) (2 : Int) = some c := atI_nat (j := 2) rfl
theorem atI_3 {α : Type} {a b c d : α} {l : List α} : atI (a :: b :: c :: d :: l) (3 : Int) = some d := atI_nat (j := 3) rfl
theorem cxOf_K {CX : CXT} {P : Program} {w : World} {K : PySem.W.Frag} {mg : Str → Option Value} {base : Heap} {N : List Str} {q : Str} {sc : Scope} {f : Addr} {cd : Value} {A : Around} {o : List Env} {s : Shared} {H : Hp} {E : XK} : (cxOf CX P w K mg base N q sc f cd A o s H E).K = K := rfl
theorem nox_K {X : Cx} : X.nox.K = X.K := rfl
/-- o[i] = v, the list at hand -/
theorem set_at {p : Addr} {xs : List V} {k : Nat} {v : V} {H : Hp} {Q : Hp → Prop} (h : H p = some (.lst xs)) (hk : k < xs.length) (q : Q (upd H p (.lst (xs.set k v)))) : rSetL (.ref p) (.int (k : Int)) v H Q :=
  ⟨p, xs, k, k, rfl, rfl, h, by unfold ixN; rw [if_pos (by omega), if_pos (by omega)]; simp, q⟩
section
variable {p : Addr} {a b c d v : V} {l : List V} {H : Hp} {Q : Hp → Prop}
theorem set_0 (h : H p = some (.lst (a :: l))) (q : Q (upd H p (.lst (v :: l)))) : rSetL (.ref p) (.int 0) v H Q := set_at (k := 0) h (by simp) q
theorem set_1 (h : H p = some (.lst (a :: b :: l))) (q : Q (upd H p (.lst (a :: v :: l)))) : rSetL (.ref p) (.int 1) v H Q := set_at (k := 1) h (by simp) q
theorem set_2 (h : H p = some (.lst (a :: b :: c :: l))) (q : Q (upd H p (.lst (a :: b :: v :: l)))) : rSetL (.ref p) (.int 2) v H Q := set_at (k := 2) h (by simp) q
theorem set_3 (h : H p = some (.lst (a :: b :: c :: d :: l))) (q : Q (upd H p (.lst (a :: b :: c :: v :: l)))) : rSetL (.ref p) (.int 3) v H Q := set_at (k := 3) h (by simp) q
end
theorem atI_int {α : Type} {xs : List α} {z : Int} {v : α} (h0 : 0 ≤ z) (h : xs[z.toNat]? = some v) : atI xs z = some v := by
  have e : z = (z.toNat : Int) := by omega
  rw [e]
  exact atI_nat h
/-! a def with defaults (no keyword-only ones) -/
structure DefD (K : PySem.W.Frag) (mg : Str → Option Value) (x : Str) (st : Stmt) (dvs : List V) : Prop where
  ex : ∃ f fd, FunD K x x (defArgs st) (defBody st) (defScope st) dvs [] f fd ∧ mg x = some (.ref f)
structure CalD (P : Program) (w : World) (K : PySem.W.Frag) (mg : Str → Option Value) (base : Heap) (CX : CXT) (k : Nat) (x : Str) (ps : List Str) (dvs : List V) (sp : Sp) (kw : List (List Str × (List V → List V → List V))) : Prop where
  ex : ∃ f fd, FnOk P w K mg base CX k f fd ps sp ∧ mg x = some (.ref f) ∧ PySem.W.keepIn K (.ref f) = true ∧ (∀ j, j ≤ dvs.length → ∃ ds, Vals (dvs.drop j) ds ∧ Binds K fd ps ds) ∧ ∀ q ∈ kw, ∃ g, KBn K fd ps 1 q.1 g q.2
theorem defD_mk {K : PySem.W.Frag} {mg : Str → Option Value} {h : Heap} {x : Str} {st : Stmt} {f T : Addr} {oc : Value} {od an : Option Addr} {osl : Array (Option Value)} {kV doc pm cdv ct : Value} {o : Obj} {its : List Value} {n : Nat} {dvs : List V} (X : K.In h) (G : h.Ns mainGlobals mg)
    (a : PySem.W.nsIn K mainGlobals x = some (some (.ref f)))
    (l : K.lookup f = some ⟨oc, od, .func (PySem.W.fnOf x x (defArgs st) (defBody st) (defScope st) (.ref T) kV doc pm an cdv ct), osl⟩)
    (lT : K.lookup T = some o) (c : PySem.W.codeIn K cdv x = true) (k : PySem.W.keepIn K (.ref f) = true) (oT : o.data = .seq its.toArray n) (hd : dvs ≠ []) (r : Vals dvs its) : DefD K mg x st dvs :=
  ⟨f, _, ⟨⟨oc, od, .ref T, kV, doc, pm, an, cdv, ct, osl, rfl, l, c, .inr ⟨hd, T, o, its, n, rfl, lT, oT, r⟩, .inl rfl⟩, k⟩, PySem.W.mg_of X G a⟩
section
variable {X : Cx} {CX : CXT} {k : Nat} {ps : List Str} {sp : Sp} {E : XK} {x : Str} {p pos : Pos} {e : Expr} {es : List Expr} {t : TA} {dvs : List V} {kw : List (List Str × (List V → List V → List V))}
theorem pe_calD (C : CalD X.prog X.w X.K X.mg X.base CX k x ps dvs sp kw) (j : Nat) (hj : j ≤ dvs.length) (hg : Gl X x) (hr : Room k X.A) (hx : Passes CX X E)
    (ha : PA X (e :: es) t) (hdb : (x == ("__debug__" : Str)) = false := by decide) (he : starEach (e :: es) X.env = (false, eval e X.env) :: starEach es X.env := by rfl) (hpl : (backTo pos (starEach es X.env)).any (·.1) = false := by rfl) :
    PE X (.Call (.Name x p) (e :: es) [] pos) (tCall sp (dvs.drop j) E t) := by
  obtain ⟨f, fd, F, hm, hk, hb, _⟩ := C.ex
  obtain ⟨ds, hd, hb⟩ := hb j hj
  exact pe_call (p := p) (pos := pos) F hr hg hm hk hb hd hx ha hdb he hpl
theorem pe_calK {kws : List Keyword} {ks : List Str} {gV : List V → List V → List V} {tk : TA} (C : CalD X.prog X.w X.K X.mg X.base CX k x ps dvs sp kw) (hq : (ks, gV) ∈ kw) (hg : Gl X x) (hr : Room k X.A) (hx : Passes CX X E)
    (ha : PA X (e :: es) t) (hkw : PK X kws tk) (hall : (backToKw pos (keywordEach kws X.env)).all (·.1.isSome) = true := by rfl) (hks : (backToKw pos (keywordEach kws X.env)).filterMap (·.1) = ks := by rfl)
    (hdb : (x == ("__debug__" : Str)) = false := by decide) (he : starEach (e :: es) X.env = (false, eval e X.env) :: starEach es X.env := by rfl)
    (hpl : ((backTo pos (starEach (e :: es) X.env)).any (·.1) || (backToKw pos (keywordEach kws X.env)).any (·.1.isNone)) = false := by rfl) :
    PE X (.Call (.Name x p) (e :: es) kws pos) (tCallN 1 ks.length sp gV E t tk) := by
  obtain ⟨f, fd, F, hm, hk, _, hb⟩ := C.ex
  obtain ⟨g, hb⟩ := hb _ hq
  exact pe_callN (p := p) (pos := pos) F hr hg hm hk hb hx ha hkw hall hks hdb he hpl
end
/-- a for behind what it walks -/
def Lp (g : TG) (tb : TS) (D : Ends) (σ : St) (J : It) (H1 : Hp) : Prop := ∃ W : Nat → Nat → St → Hp → Prop, (∃ m, W 0 m σ H1) ∧ ∀ i m σ H, W i m σ H →
  (J.stop i H ∧ D.nx σ H) ∨ (J.go i H ∧ ∃ N : St → Hp → Prop, (∀ σ' H', N σ' H' → ∃ m', m' < m ∧ W (i + 1) m' σ' H') ∧ ∀ x H', J.yld i H x H' → g x σ H' fun σ2 H2 => tb { D with nx := N, ct := N, bk := D.nx } σ2 H2)
theorem tFor_eq {wi : TI} {g : TG} {tb : TS} {D : Ends} {σ : St} {H : Hp} : tFor wi g tb D σ H = wi σ H fun J H1 => Lp g tb D σ J H1 := rfl
/-- a list comprehension behind what it walks -/
def LpC (g : TG) (tt : TT) (te : TE) (vs : List Nat) (σ : St) (Q : VK) (J : It) (H1 : Hp) : Prop := ∀ D, H1 D = none → ∃ W : Nat → Nat → Hp → Prop, (∃ m, W 0 m (upd H1 D (.lst []))) ∧ ∀ i m H, W i m H →
  (J.stop i H ∧ Q (.ref D) H) ∨ (J.go i H ∧ ∃ Nx : Hp → Prop, (∀ H', Nx H' → ∃ m', m' < m ∧ W (i + 1) m' H') ∧ ∀ x H', J.yld i H x H' → g x (wipe σ vs) H' fun σ2 H2 => wipe σ2 vs = wipe σ vs ∧ tt σ2 H2 fun b H3 =>
    if b = true then te σ2 H3 fun y H4 => ∃ acc, H4 D = some (.lst acc) ∧ acc.length < sizeLine ∧ Nx (upd H4 D (.lst (acc ++ [y]))) else Nx H3)
theorem tLc_eq {wi : TI} {g : TG} {tt : TT} {te : TE} {vs : List Nat} {σ : St} {H : Hp} {Q : VK} : tLc wi g tt te vs σ H Q = wi σ H fun J H1 => LpC g tt te vs σ Q J H1 := rfl
end L2

set_option Elab.async false
set_option linter.all false
set_option maxRecDepth 100000
set_option maxHeartbeats 4000000
/-! Sorting data of any depth, in a list or a tuple, an empty tuple first or none at all. -/
namespace L2
open PySem PySem.Spec PyProof.Rows PySem.SeqAt
section
variable {prog : Program} {w : World} {A : Around} {E : Value → Shared → Prop} {s : Shared}
/-- what sorted does first, of a tuple -/
theorem tp_collect {t : Addr} {us : List Value} {R : List Value → Shared → Prop} (ht : s.heap.IsTuple t us.toArray) (hz : us.length ≤ sizeLine)
    (k : R us { s with heap := (s.heap.push (seqObj "list" #[] 0)).update s.heap.objs.size (Obj.mapSeq (· ++ us.toArray)) }) : wpAny (model prog w) A (collect (.ref t)) R E s := by
  obtain ⟨u, hu, ec, m, ed⟩ := id ht
  have hu2 : (s.heap.push (seqObj "list" #[] 0)).get? t = some u := Heap.get?_push_of_some _ hu
  have hn : (s.heap.push (seqObj "list" #[] 0)).get? s.heap.objs.size = some (seqObj "list" #[] 0) := Heap.get?_push_size _ rfl
  have yes : (Value.type "tuple" == Value.type "tuple") = true := by rfl
  unfold collect
  refine wpAny_bind (wpAny_runValue (codeAny_builtin entry_proto_collect' ?_)); unfold Builtin.«proto.collect»
  refine wpAny_bind (wpAny_newList (wpAny_pure ⟨Code.quiet_builtin _ (by decide +kernel), codeAny_builtin entry_list_iadd' ?_⟩)); unfold Builtin.«list.__iadd__»
  show wpAny _ _ (Builtin.List.listExtendWith (Value.ref s.heap.objs.size) (Value.ref t) (Value.ref s.heap.objs.size)) _ _ { s with heap := s.heap.push (seqObj "list" #[] 0) }
  unfold Builtin.List.listExtendWith; refine wpAny_bind (wpAny_typeOf (T := "tuple") ⟨u, hu2, ec⟩ ?_)
  rw [if_pos (by rw [yes]; simp)]; refine wpAny_bind (listItems_at hu2 ed (wpAny_bind (listItems_at hn rfl ?_)))
  rw [if_neg (by simp)]
  refine wpAny_bind (listUpdate_at hn rfl (wpAny_pure ?_) (Nat.zero_le _) (by simp only [Array.size_append, List.size_toArray, List.length_nil]; omega))
  have cut : ((#[] : Array Value) ++ us.toArray).toList = us := by simp
  show wpAny (model prog w) A (load s.heap.objs.size >>= fun o => (match o.data with | .seq xs _ => pure xs.toList | _ => unsupported "internal:collect")) R E _
  refine wpAny_bind (wpAny_load (get?_update_seq hn _) ?_)
  show wpAny _ _ (pure ((#[] : Array Value) ++ us.toArray).toList) R E _
  rw [cut]; exact wpAny_pure k
/-- sorted(t), t a tuple: what list.sort does with a new list of its items -/
theorem sorted_tp {κ : KeyKind} {t : Addr} {us : List Value} {R : Value → Shared → Prop} (ht : s.heap.IsTuple t us.toArray) (hz : us.length ≤ sizeLine)
    (S : PySem.W.SortsAt prog w A.in1.in1 { s with heap := PySem.W.sortingHeap (PySem.W.copyHeap s.heap us) (s.heap.objs.size + 1) us } κ us)
    (k : R (.ref (s.heap.objs.size + 1)) { s with heap := sortedAll s.heap us (PySem.W.sortVals κ false us us).toArray }) : wpAny (model prog w) A (call (.builtin "sorted") [.ref t]) R E s := by
  refine PySem.Calls.call_function_entry kind_sorted plain_sorted entry_sorted (args_sorted1 _) ?_
  unfold Builtin.«sorted»; refine wpAny_bind (m := checkCount "sorted" 1 1 _) (wpAny_pure (wpAny_bind (tp_collect ht hz (wpAny_bind (wpAny_newList ?_ hz)))))
  have at1 : ((s.heap.push (seqObj "list" #[] 0)).update s.heap.objs.size (Obj.mapSeq (· ++ us.toArray))).objs.size = s.heap.objs.size + 1 := (Heap.size_update ..).trans (size_push' ..)
  rw [at1]; show wpAny _ _ _ _ _ { s with heap := PySem.W.copyHeap s.heap us }
  have run := PySem.W.list_sort_vals (E := E) (s := { s with heap := PySem.W.copyHeap s.heap us }) (P := fun f s' => f = .done (.ret .none) ∧ R (.ref (s.heap.objs.size + 1)) s') (PySem.W.copyHeap_at s.heap us) S hz ⟨rfl, k⟩
  refine wpAny_bind (wpAny_holding (wpAny_call_entry slot_list_sort ⟨_, PySem.W.copyHeap_at s.heap us, rfl⟩ entry_list_sort (wpAny_mono run (fun f s' e => ?_) fun _ _ e => e) (args_list_sort _)))
  obtain ⟨ef, q⟩ := e
  subst ef
  exact ⟨_, rfl, wpAny_pure ⟨_, rfl, q⟩⟩
/-- one key below another, both tuples: tuple's own __lt__ is asked -/
theorem lt_tups {xs ys : List PyData} {a b : Value} {as bs : List Addr} {R : Bool → Shared → Prop} (ra : Reads s.heap a (.tuple xs) as) (rb : Reads s.heap b (.tuple ys) bs) (al : PySem.W.alikeAll xs ys = true)
    (hu : A.units + min (PyData.tuple xs).depth (PyData.tuple ys).depth < cLine) (q : R (PySem.W.dataLt (.tuple xs) (.tuple ys)) s) : wpAny (model prog w) A (oneLt' true a b) R E s := by
  cases ra with
  | @tuple l o vs n _ _ h1 h2 h3 h4 =>
    cases rb with
    | @tuple l' o' vs' n' _ _ k1 k2 k3 k4 =>
      have n1 : vs.size = xs.length := by simpa using ReadsAll.length _ _ _ h4
      have n2 : vs'.size = ys.length := by simpa using ReadsAll.length _ _ _ k4
      rw [PySem.W.dataLt_tuple, ← PySem.W.firstLt_toks xs ys al, ← n1, ← n2] at q
      rw [oneLt'_eq]; simp only [if_true]
      refine wpAny_bind (wpAny_cRoomFor (room_here hu) (wpAny_bind (wpAny_callSpecialIfBound?_slot (T := "tuple") ⟨_, h1, h2⟩ PySem.F.slot_tuple_lt ?_)))
      obtain ⟨c1, d1, t1, e1⟩ := o
      obtain ⟨c2, d2, t2, e2⟩ := o'
      dsimp only at h2 h3 k2 k3
      subst h2 h3 k2 k3
      refine call_meets PySem.F.slot_tuple_lt ⟨_, h1, rfl⟩ PySem.F.entry_tuple_lt (PySem.F.args_tuple_lt_2 _ _) (tuple_ltAt l l' vs vs' n n' d1 d2 e1 e2 (pairEq xs ys) fun j => PySem.W.dataLt (xs.getD j .none) (ys.getD j .none)) ⟨h1, k1, fun j j1 j2 => ?_, fun j j1 j2 hj => ?_, wpAny_truthy_bool q⟩
      · have z := PySem.W.eqAt_alikeAll xs ys A.in1 s vs.toList vs'.toList _ _ h4 k4 al (room_in hu) j (by simpa using j1) (by simpa using j2); simpa using z
      · have z := PySem.W.rcLt_alikeAll xs ys A.in1 s vs.toList vs'.toList _ _ h4 k4 al (room_in hu) j (by simpa using j1) (by simpa using j2) hj; simpa using z
/-- the firsts of tuples, one empty tuple ahead -/
theorem firsts_run : ∀ (vs : List Value) (ds : List PyData), PySem.W.EachIs (fun v d => ∃ as, Reads s.heap v d as) vs ds → (∀ d ∈ ds, ∃ xs, d = .tuple xs) →
    ∃ fs : List (Option Value), fs.length = vs.length ∧ (∀ r, ds = .tuple [] :: r → ∃ g, fs = none :: g) ∧ ∀ {M : Model} {R : List (Option Value) → Shared → Prop}, R fs s → wpAny M A (vs.mapM firstOfTuple') R E s
  | _, _, .nil, _ => ⟨[], rfl, fun _ e => (by cases e), fun {M R} h => by rw [List.mapM_nil]; exact wpAny_pure h⟩
  | _, _, .cons (b := d) (bs := ds) (a := v) (as := vs) ⟨as, r⟩ t, ht => by
    obtain ⟨fs, hl, _, hr⟩ := firsts_run vs ds t fun d m => ht d (List.mem_cons_of_mem _ m)
    obtain ⟨xs, rfl⟩ := ht d List.mem_cons_self
    cases r with
    | @tuple a o its n _ _ h1 h2 h3 h4 =>
      refine ⟨its[0]? :: fs, by simp [hl], fun r e => ?_, fun {M R} h => ?_⟩
      · cases (List.cons.inj e).1
        have e0 : its.toList = [] := by generalize its.toList = l at h4; cases h4; rfl
        exact ⟨fs, by rw [← Array.getElem?_toList, e0]; rfl⟩
      · rw [List.mapM_cons, PySem.W.kas_first_eq]
        have lk : PySem.W.Looks M s.heap (typeOf (.ref a)) (.type "tuple") := h2 ▸ (PySem.W.Looks.ld h1).andThen .now
        refine wpAny_bind (wpAny_bind (lk.here ?_)); rw [if_neg (by decide)]
        exact wpAny_bind (listItems_at h1 h3 (wpAny_pure (wpAny_bind (hr (R := fun bs s' => wpAny M A (pure (its[0]? :: bs)) R E s') (wpAny_pure h)))))
theorem kind_gap {vs : List Value} {ds : List PyData} (e : PySem.W.EachIs (fun v d => ∃ as, Reads s.heap v d as) vs (.tuple [] :: ds)) (ht : ∀ d ∈ ds, ∃ xs, d = PyData.tuple xs) {M : Model} {R : SortKind → Shared → Prop} (q : R oneType' s) :
    wpAny M A (keyKind' vs.toArray) R E s := by
  have ht2 : ∀ d ∈ PyData.tuple [] :: ds, ∃ xs, d = PyData.tuple xs := fun d m => (List.mem_cons.mp m).elim (fun z => ⟨_, z⟩) (ht d)
  obtain ⟨fs, hl, hf, run⟩ := firsts_run (A := A) (E := E) vs _ e ht2
  obtain ⟨g, rfl⟩ := hf _ rfl
  have ty : ∀ v ∈ vs, PySem.W.Looks M s.heap (typeOf v) (.type "tuple") := fun v m => by
    obtain ⟨d, hd, as, r⟩ := e.left v m
    obtain ⟨xs, rfl⟩ := ht2 d hd
    exact PySem.W.looks_reads r
  rw [keyKind'_eq, List.mapM_toArray, map_eq_pure_bind]
  refine wpAny_bind (wpAny_bind (run (wpAny_pure ?_)))
  rw [if_neg (by simp), if_neg (by simp)]
  rw [oneTypeOnly'_eq, List.mapM_toArray, map_eq_pure_bind]
  refine wpAny_bind (wpAny_bind (wpAny_bind (PySem.W.kas_mapM (r := Value.type "tuple") vs (fun v m Q' z => (ty v m).here z) (wpAny_pure ?_))))
  cases vs with
  | nil => cases e
  | cons v vs =>
    have al : ((List.map (fun _ => Value.type "tuple") (v :: vs)).toArray.all fun x => x == Value.type "tuple") = true := by simp
    rw [show (List.map (fun _ => Value.type "tuple") (v :: vs)).toArray[0]? = some (Value.type "tuple") by simp]
    simp only [al, if_true]
    exact wpAny_pure (wpAny_pure q)
/-- data that sorted takes: as the kit's, or tuples with an empty one ahead -/
def SortOk (ds : List PyData) : Prop := PySem.W.Sortable ds ∨ ∃ r, ds = .tuple [] :: r ∧ ∀ d ∈ r, ∃ xs, d = PyData.tuple xs
theorem sortsAt_ok {vs : List Value} {ds : List PyData} (e : PySem.W.EachIs (fun v d => ∃ as, Reads s.heap v d as) vs ds) (al : PySem.W.AllAlike ds) (ok : SortOk ds) (hu : ∀ d ∈ ds, A.units + d.depth < cLine) : PySem.W.SortsAt prog w A s (PySem.W.dataKind s.heap ds) vs := by
  rcases ok with ok | ⟨r, rfl, ht⟩
  · exact PySem.W.SortsAt.data e al ok hu
  · have ht2 : ∀ d ∈ PyData.tuple [] :: r, ∃ xs, d = PyData.tuple xs := fun d m => (List.mem_cons.mp m).elim (fun z => ⟨_, z⟩) (ht d)
    refine ⟨fun v m => ?_, oneType', fun E x y a b Q ha hb q => ?_, fun _ E Q q => kind_gap e ht q⟩
    · obtain ⟨d, hd, as, r⟩ := e.left v m
      exact ⟨_, PySem.W.dataKind_some al hd r⟩
    · obtain ⟨d, as, hd, ra, rfl⟩ := PySem.W.dataKind_inv ha
      obtain ⟨d', as', hd', rb, rfl⟩ := PySem.W.dataKind_inv hb
      obtain ⟨xs, rfl⟩ := ht2 d hd
      obtain ⟨ys, rfl⟩ := ht2 d' hd'
      rw [keyLt'_oneType]
      refine lt_tups ra rb (by simpa [PySem.W.alike] using al _ hd _ hd') ?_ q
      exact Nat.lt_of_le_of_lt (Nat.add_le_add_left (Nat.min_le_left _ _) _) (hu _ hd)
end
end L2

set_option Elab.async false
set_option linter.all false
set_option maxRecDepth 100000
set_option maxHeartbeats 4000000
/-! Trees of ints and tuples: how they stand in the heap, their order, the rules over them. -/
namespace L2
open PySem PySem.Spec PyProof.Rows PySem.SeqAt
inductive Tr where
  | i (n : Int)
  | t (xs : List Tr)
namespace Tr
mutual
def toD : Tr → PyData
  | .i n => .int n
  | .t xs => .tuple (toDs xs)
def toDs : List Tr → List PyData
  | [] => []
  | x :: xs => x.toD :: toDs xs
end
mutual
def dep : Tr → Nat
  | .i _ => 0
  | .t xs => deps xs + 1
def deps : List Tr → Nat
  | [] => 0
  | x :: xs => max x.dep (deps xs)
end
theorem toDs_map : ∀ xs : List Tr, toDs xs = xs.map toD
  | [] => by rw [toDs]; rfl
  | x :: xs => by rw [toDs, toDs_map xs]; rfl
mutual
theorem depth_eq : ∀ x : Tr, x.toD.depth = x.dep
  | .i n => by rw [toD, dep]; rfl
  | .t xs => by rw [toD, dep, PyData.depth, depths_eq xs]
theorem depths_eq : ∀ xs : List Tr, PyData.depthAll (toDs xs) = deps xs
  | [] => by rw [toDs, deps]; rfl
  | x :: xs => by rw [toDs, deps, PyData.depthAll, depth_eq x, depths_eq xs]
end
mutual
theorem lay : ∀ x : Tr, x.toD.canLay0 = true
  | .i n => by rw [toD]; rfl
  | .t xs => by rw [toD, PyData.canLay0, lays xs]
theorem lays : ∀ xs : List Tr, PyData.canLayAll0 (toDs xs) = true
  | [] => by rw [toDs]; rfl
  | x :: xs => by rw [toDs, PyData.canLayAll0, lay x, lays xs]; rfl
end
mutual
theorem eqv_iff : ∀ x y : Tr, PyData.eqv x.toD y.toD = true ↔ x = y
  | .i n, .i m => by simp [toD, PyData.eqv]
  | .i n, .t ys => by simp [toD, PyData.eqv]
  | .t xs, .i m => by simp [toD, PyData.eqv]
  | .t xs, .t ys => by
    simp only [toD, PyData.eqv]
    rw [eqvs_iff xs ys]; simp
theorem eqvs_iff : ∀ xs ys : List Tr, PyData.eqvAll (toDs xs) (toDs ys) = true ↔ xs = ys
  | [], [] => by simp [toDs, PyData.eqvAll]
  | [], y :: ys => by simp [toDs, PyData.eqvAll]
  | x :: xs, [] => by simp [toDs, PyData.eqvAll]
  | x :: xs, y :: ys => by
    simp only [toDs, PyData.eqvAll, Bool.and_eq_true]
    rw [eqv_iff x y, eqvs_iff xs ys]; simp
end
instance : DecidableEq Tr := fun x y => decidable_of_iff _ (eqv_iff x y)
theorem eqv_dec (x y : Tr) : PyData.eqv x.toD y.toD = decide (x = y) := by
  by_cases h : x = y
  · rw [(eqv_iff x y).mpr h, decide_eq_true h]
  · rw [decide_eq_false h]
    cases e : PyData.eqv x.toD y.toD with
    | false => rfl
    | true => exact absurd ((eqv_iff x y).mp e) h
/-- the two can be compared -/
def Ak (x y : Tr) : Prop := PySem.W.alike x.toD y.toD = true
def lt (x y : Tr) : Bool := PySem.W.dataLt x.toD y.toD
theorem lt_irr (x : Tr) : lt x x = false := PyProof.Rows.lex_irrefl _
theorem lt_trans {x y z : Tr} (h : lt x y = true) (k : lt y z = true) : lt x z = true := PyProof.Rows.lex_trans _ _ _ h k
theorem lt_asym {x y : Tr} (h : lt x y = true) : lt y x = false := by
  cases e : lt y x with
  | false => rfl
  | true => exact absurd (lt_trans h e) (by rw [lt_irr]; decide)
theorem lt_tot {x y : Tr} (a : Ak x y) (h : lt x y = false) (k : lt y x = false) : x = y := by
  have e : PySem.W.keyToks x.toD = PySem.W.keyToks y.toD := PyProof.Rows.lex_total _ _ h k
  refine (eqv_iff x y).mp ?_
  cases q : PyData.eqv x.toD y.toD with
  | true => rfl
  | false =>
    have z := (PySem.W.toks_eqv x.toD y.toD a).2 q [] [.inl 0]
    rw [e, PyProof.Rows.lex_irrefl, PySem.W.lex_pre] at z
    exact absurd z (by decide)
def Asc (xs : List Tr) : Prop := xs.Pairwise fun x y => lt x y = true
/-- two rising lists of the same members are one -/
theorem asc_uniq : ∀ {xs ys : List Tr}, Asc xs → Asc ys → (∀ z, z ∈ xs ↔ z ∈ ys) → xs = ys
  | [], [], _, _, _ => rfl
  | [], y :: ys, _, _, h => absurd ((h y).mpr List.mem_cons_self) (by simp)
  | x :: xs, [], _, _, h => absurd ((h x).mp List.mem_cons_self) (by simp)
  | x :: xs, y :: ys, hx, hy, h => by
    obtain ⟨h1, h2⟩ := List.pairwise_cons.mp hx
    obtain ⟨k1, k2⟩ := List.pairwise_cons.mp hy
    have e : x = y := by
      rcases List.mem_cons.mp ((h x).mp List.mem_cons_self) with e | m
      · exact e
      · rcases List.mem_cons.mp ((h y).mpr List.mem_cons_self) with e | m'
        · exact e.symm
        · exact absurd (lt_trans (k1 x m) (h1 y m')) (by rw [lt_irr]; decide)
    subst e
    rw [asc_uniq h2 k2 fun z => ?_]
    constructor
    · intro m
      rcases List.mem_cons.mp ((h z).mp (List.mem_cons_of_mem _ m)) with e | q
      · subst e
        exact absurd (h1 z m) (by rw [lt_irr]; decide)
      · exact q
    · intro m
      rcases List.mem_cons.mp ((h z).mpr (List.mem_cons_of_mem _ m)) with e | q
      · subst e
        exact absurd (k1 z m) (by rw [lt_irr]; decide)
      · exact q
end Tr
/-- a tree stands at v; trees item by item -/
def At (K : PySem.W.Frag) (H : Hp) (v : V) (x : Tr) : Prop := Dp K H v x.toD
def Ats (K : PySem.W.Frag) (H : Hp) (vs : List V) (xs : List Tr) : Prop := Paired (At K H) vs xs
section
variable {K : PySem.W.Frag} {H H' : Hp}
theorem dpAll_iff : ∀ {vs : List V} {xs : List Tr}, DpAll K H vs (Tr.toDs xs) ↔ Ats K H vs xs
  | [], [] => ⟨fun _ => .nil, fun _ => by rw [Tr.toDs]; exact .nil⟩
  | [], x :: xs => ⟨fun h => (by rw [Tr.toDs] at h; cases h), fun h => (by cases h)⟩
  | v :: vs, [] => ⟨fun h => (by rw [Tr.toDs] at h; cases h), fun h => (by cases h)⟩
  | v :: vs, x :: xs => ⟨fun h => by
      rw [Tr.toDs] at h
      cases h with
      | cons a b => exact .cons a (dpAll_iff.mp b), fun h => by
      rw [Tr.toDs]
      cases h with
      | cons a b => exact .cons a (dpAll_iff.mpr b)⟩
theorem at_int (n : Int) : At K H (.int n) (.i n) := by unfold At; rw [Tr.toD]; exact .int n
theorem int_at {v : V} {n : Int} (h : At K H v (.i n)) : v = .int n := by unfold At at h; rw [Tr.toD] at h; cases h; rfl
theorem at_tup {a : Addr} {vs : List V} {xs : List Tr} (h : SqT K H a vs) (k : Ats K H vs xs) : At K H (.ref a) (.t xs) := by unfold At; rw [Tr.toD]; exact .tup h (dpAll_iff.mpr k)
theorem tup_at {v : V} {xs : List Tr} (h : At K H v (.t xs)) : ∃ a vs, v = .ref a ∧ SqT K H a vs ∧ Ats K H vs xs := by
  unfold At at h; rw [Tr.toD] at h
  cases h with
  | tup a b => exact ⟨_, _, rfl, a, dpAll_iff.mp b⟩
/-- what keeps the tuples keeps the trees -/
def Kt (H H' : Hp) : Prop := ∀ b o, (∀ xs, o ≠ .lst xs) → H b = some o → H' b = some o
theorem SqT.kt {a : Addr} {vs : List V} (k : Kt H H') (h : SqT K H a vs) : SqT K H' a vs := by
  rcases h with h | h
  · refine .inl ?_
    rcases h with h | ⟨o, h⟩
    · exact .inl (k _ _ (fun xs z => by cases z) h)
    · exact .inr ⟨o, k _ _ (fun xs z => by cases z) h⟩
  · exact .inr h
mutual
theorem At.kt (k : Kt H H') : ∀ {x : Tr} {v : V}, At K H v x → At K H' v x
  | .i n, v, h => by rw [int_at h]; exact at_int n
  | .t xs, v, h => by
    obtain ⟨a, vs, rfl, h1, h2⟩ := tup_at h
    exact at_tup (h1.kt k) (Ats.kt k h2)
theorem Ats.kt (k : Kt H H') : ∀ {xs : List Tr} {vs : List V}, Ats K H vs xs → Ats K H' vs xs
  | [], _, h => by cases h; exact .nil
  | x :: xs, _, h => by
    cases h with
    | cons a b => exact .cons (At.kt k a) (Ats.kt k b)
end
theorem Kt.same (s : Same H H') : Kt H H' := fun b o _ e => s b o e
theorem Kt.trans {H2 : Hp} (a : Kt H H') (b : Kt H' H2) : Kt H H2 := fun c o n e => b c o n (a c o n e)
theorem Kt.refl (H : Hp) : Kt H H := fun _ _ _ e => e
theorem Kt.new {p : Addr} {o : HO} (n : H p = none) : Kt H (upd H p o) := fun b u _ e => by
  rw [upd_ne (fun z => by rw [z, n] at e; cases e)]; exact e
theorem Kt.lst {p : Addr} {xs : List V} {o : HO} (h : H p = some (.lst xs)) : Kt H (upd H p o) := fun b u nu e => by
  rw [upd_ne (fun z => by rw [z, h] at e; exact nu xs (Option.some.inj e).symm)]; exact e
theorem Ats.length {vs : List V} {xs : List Tr} (h : Ats K H vs xs) : vs.length = xs.length := Paired.length h
theorem Ats.append : ∀ {vs ws : List V} {xs ys : List Tr}, Ats K H vs xs → Ats K H ws ys → Ats K H (vs ++ ws) (xs ++ ys)
  | _, _, _, _, .nil, k => k
  | _, _, _, _, .cons a b, k => .cons a (Ats.append b k)
theorem Ats.get : ∀ {vs : List V} {xs : List Tr} {i : Nat} {v : V}, Ats K H vs xs → vs[i]? = some v → ∃ x, xs[i]? = some x ∧ At K H v x
  | _, _, _, _, .nil, e => by simp at e
  | _, _, 0, _, .cons r _, e => by simp at e; subst e; exact ⟨_, rfl, r⟩
  | _, _, i + 1, v, .cons _ t, e => by
    obtain ⟨x, h1, h2⟩ := Ats.get (i := i) (v := v) t (by simpa using e)
    exact ⟨x, by simpa using h1, h2⟩
theorem Ats.get' : ∀ {vs : List V} {xs : List Tr} {i : Nat} {x : Tr}, Ats K H vs xs → xs[i]? = some x → ∃ v, vs[i]? = some v ∧ At K H v x
  | _, _, _, _, .nil, e => by simp at e
  | _, _, 0, _, .cons r _, e => by simp at e; subst e; exact ⟨_, rfl, r⟩
  | _, _, i + 1, x, .cons _ t, e => by
    obtain ⟨v, h1, h2⟩ := Ats.get' (i := i) (x := x) t (by simpa using e)
    exact ⟨v, by simpa using h1, h2⟩
end

/-! ### the rules -/
theorem le_tr (us : List Tr) (a : ∀ x ∈ us, ∀ y ∈ us, Tr.Ak x y) : (us.mergeSort (PySem.W.dataLe false Tr.toD)).Perm us ∧ (us.mergeSort (PySem.W.dataLe false Tr.toD)).Pairwise fun x y => Tr.lt y x = false := by
  refine ⟨List.mergeSort_perm _ _, ?_⟩
  have le_eq : ∀ x y, PySem.W.dataLe false Tr.toD x y = !Tr.lt y x := fun x y => by rw [PySem.W.dataLe_eq]; rfl
  have h := List.pairwise_mergeSort (le := PySem.W.dataLe false Tr.toD) (fun x y z h k => ?_) (fun x y => ?_) us
  · refine h.imp fun {x y} q => ?_
    rw [le_eq] at q
    simpa using q
  · rw [le_eq] at h k ⊢
    simp only [Bool.not_eq_true'] at h k ⊢
    cases e : Tr.lt z x with
    | false => rfl
    | true =>
      rcases PyProof.Rows.lex_negTrans _ (PySem.W.keyToks y.toD) _ e with q | q
      · exact absurd (show Tr.lt z y = true from q) (by rw [k]; decide)
      · exact absurd (show Tr.lt y x = true from q) (by rw [h]; decide)
  · rw [le_eq, le_eq]
    cases e : Tr.lt y x with
    | false => rfl
    | true => rw [Tr.lt_asym e]; rfl
theorem each_of {R : Value → Tr → Prop} {K : PySem.W.Frag} {H : Hp} (f : ∀ v x u, At K H v x → RelV v u → R u x) : ∀ {vs : List V} {xs : List Tr} {us : List Value}, Ats K H vs xs → Vals vs us → PySem.W.EachIs R us xs
  | _, _, _, .nil, .nil => .nil
  | _, _, _, .cons a b, .cons r rr => .cons (f _ _ _ a r) (each_of f b rr)
theorem of_each {K : PySem.W.Frag} {H : Hp} : ∀ {us : List Value} {xs : List Tr}, PySem.W.EachIs (fun u x => ∃ v, RelV v u ∧ At K H v x) us xs → ∃ vs, Vals vs us ∧ Ats K H vs xs
  | _, _, .nil => ⟨[], .nil, .nil⟩
  | _, _, .cons ⟨v, r, a⟩ t => by
    obtain ⟨vs, r2, a2⟩ := of_each t
    exact ⟨v :: vs, .cons r r2, .cons a a2⟩
section
variable {X : Cx}
/-- sorted(xs): xs a list or a tuple of trees that can be compared -/
def rSortD (K : PySem.W.Frag) : List V → Hp → VK → Prop := fun vs H Q => ∃ (a : Addr) (ws : List V) (xs : List Tr), vs = [.ref a] ∧ (SqL K H a ws ∨ SqT K H a ws) ∧ Ats K H ws xs ∧ (∀ x ∈ xs, ∀ y ∈ xs, Tr.Ak x y) ∧ SortOk (xs.map Tr.toD) ∧ (∀ x ∈ xs, x.dep ≤ 190) ∧
  ∀ p us ys, H p = none → us.Perm xs → us.Pairwise (fun x y => Tr.lt y x = false) → Ats K H ys us → Q (.ref p) (upd H p (.lst ys))
theorem cr_sortD (hu : X.A.units + 200 < cLine) : CallR X (.builtin "sorted") (rSortD X.K) := by
  intro pins s σ H vs us Q I r h
  obtain ⟨a, ws, xs, rfl, hs, hA, ak, so, hd, q⟩ := h
  rw [Vals.ref1 r]
  obtain ⟨its, rv, hz, hl⟩ : ∃ its : List Value, Vals ws its ∧ ws.length ≤ sizeLine ∧ (s.heap.IsList a its.toArray ∨ s.heap.IsTuple a its.toArray) := by
    rcases hs with hs | hs
    · obtain ⟨its, rv, hl, hz⟩ := I.list hs
      exact ⟨its, rv, hz, .inl hl.isList⟩
    · obtain ⟨its, rv, hl, hz⟩ := I.tuple hs
      exact ⟨its, rv, hz, .inr hl⟩
  have zi : its.length ≤ sizeLine := by rw [← rv.length]; exact hz
  have al : PySem.W.AllAlike (xs.map Tr.toD) := by
    intro d m d' m'
    obtain ⟨x, hx, rfl⟩ := List.mem_map.mp m
    obtain ⟨y, hy, rfl⟩ := List.mem_map.mp m'
    exact ak x hx y hy
  have room : ∀ d ∈ xs.map Tr.toD, X.A.in1.in1.units + d.depth < cLine := by
    intro d m
    obtain ⟨x, hx, rfl⟩ := List.mem_map.mp m
    rw [Tr.depth_eq]
    have := hd x hx
    show X.A.units + 1 + 1 + x.dep < cLine
    omega
  have e1 : PySem.W.EachIs (fun u x => ∃ v, RelV v u ∧ At X.K H v x) its xs := each_of (fun v x u h r => ⟨v, r, h⟩) hA rv
  have e2 : PySem.W.EachIs (fun u x => ∃ as, Reads (PySem.W.sortingHeap (PySem.W.copyHeap s.heap its) (s.heap.objs.size + 1) its) u (Tr.toD x) as) its xs := each_of (fun v x u h r => by
    obtain ⟨as, rd⟩ := Dp.reads I x.toD v u h r
    exact ⟨as, PyProof.Rows.Reads.keeps (fun _ _ => PySem.W.sorting_copy_old) rd⟩) hA rv
  have S := sortsAt_ok (prog := X.prog) (w := X.w) (A := X.A.in1.in1) (s := { s with heap := PySem.W.sortingHeap (PySem.W.copyHeap s.heap its) (s.heap.objs.size + 1) its }) (PySem.W.each_map (R := fun v d => ∃ as, Reads (PySem.W.sortingHeap (PySem.W.copyHeap s.heap its) (s.heap.objs.size + 1) its) v d as) Tr.toD e2) al so room
  obtain ⟨ys, ry, hy⟩ := of_each (PySem.W.sortVals_data (enc := Tr.toD) false e1 e2 al)
  obtain ⟨p1, p2⟩ := le_tr xs ak
  have fin := q (s.heap.objs.size + 1) _ ys (I.hok.fresh (Nat.le_succ _)) p1 p2 hy
  have ly : ys.length ≤ sizeLine := by rw [hy.length, p1.length_eq, ← hA.length]; exact hz
  obtain ⟨ep, he⟩ := PyProof.Rows.sortedAll_at s.heap its (PySem.W.sortVals (PySem.W.dataKind (PySem.W.sortingHeap (PySem.W.copyHeap s.heap its) (s.heap.objs.size + 1) its) (xs.map Tr.toD)) false its its).toArray
  have done : ∃ (v : V) (H' : Hp), Inv X pins σ H' { s with heap := sortedAll s.heap its (PySem.W.sortVals (PySem.W.dataKind (PySem.W.sortingHeap (PySem.W.copyHeap s.heap its) (s.heap.objs.size + 1) its) (xs.map Tr.toD)) false its its).toArray } ∧ RelV v (.ref (s.heap.objs.size + 1)) ∧ Q v H' :=
    ⟨.ref _, upd H (s.heap.objs.size + 1) (.lst ys), I.laid (t' := s.toks) (fun _ _ => PyProof.Rows.sortedAll_old) (Nat.le_succ _) ⟨ly, _, ep, ry, he⟩, rfl, fin⟩
  rcases hl with hl | hl
  · exact PySem.W.sorted_vals hl S zi done
  · exact sorted_tp hl zi S done
end
end L2

set_option Elab.async false
set_option linter.all false
set_option maxRecDepth 100000
set_option maxHeartbeats 4000000
/-! Further rules over trees: in, not in, count of a tuple, (x,) * n, enumerate of a tuple. -/
namespace L2
open PySem PySem.Spec PyProof.Rows PySem.SeqAt
theorem any_mem (x : Tr) : ∀ xs : List Tr, ((Tr.toDs xs).any fun z => PyData.eqv z x.toD) = decide (x ∈ xs)
  | [] => by rw [Tr.toDs]; simp
  | y :: ys => by
    rw [Tr.toDs, List.any_cons, any_mem x ys, Tr.eqv_dec]
    by_cases h : y = x
    · subst h; simp
    · rw [decide_eq_false h, Bool.false_or]
      have h' : ¬ x = y := fun z => h z.symm
      simp [List.mem_cons, h']
theorem deps_le {n : Nat} : ∀ {xs : List Tr}, (∀ x ∈ xs, x.dep ≤ n) → Tr.deps xs ≤ n
  | [], _ => by rw [Tr.deps]; exact Nat.zero_le _
  | x :: xs, h => by
    rw [Tr.deps]
    exact Nat.max_le.mpr ⟨h x List.mem_cons_self, deps_le fun y m => h y (List.mem_cons_of_mem _ m)⟩
section
variable {X : Cx}
/-- trees in a list or in a tuple -/
def Seq2 (K : PySem.W.Frag) (H : Hp) (v : V) (xs : List Tr) : Prop := ∃ a vs, v = .ref a ∧ (SqL K H a vs ∨ SqT K H a vs) ∧ Ats K H vs xs
def rInT (K : PySem.W.Frag) : R2 := fun x y H Q => ∃ t xs, At K H x t ∧ Seq2 K H y xs ∧ t.dep ≤ 190 ∧ Q (.bl (decide (t ∈ xs))) H
def rNiT (K : PySem.W.Frag) : R2 := fun x y H Q => ∃ t xs, At K H x t ∧ Seq2 K H y xs ∧ t.dep ≤ 190 ∧ Q (.bl (!decide (t ∈ xs))) H
theorem room_min {A : Around} {t : Tr} {m : Nat} (h : t.dep ≤ 190) (hu : A.units + 200 < cLine) : A.units + 1 + min m t.toD.depth < cLine := by
  rw [Tr.depth_eq]
  have := Nat.min_le_right m t.dep
  omega
theorem op_inT (hu : X.A.units + 200 < cLine) : OpR X (compareOp .In) (rInT X.K) := by
  intro pins s σ H x y v u Q I rx ry h
  obtain ⟨t, xs, ht, ⟨a, vs, rfl, hs, hA⟩, hd, q⟩ := h
  obtain ⟨as, r1⟩ := Dp.reads I t.toD x v ht rx
  rw [← any_mem] at q
  rcases hs with hs | hs
  · obtain ⟨bs, r2⟩ := Dp.reads I (.list (Tr.toDs xs)) (.ref a) u (.lst hs (dpAll_iff.mpr hA)) ry
    exact in_list_reads r2 r1 (Tr.lays xs) (Tr.lay t) (room_min hd hu) ⟨.bl _, H, I, rfl, q⟩
  · obtain ⟨bs, r2⟩ := Dp.reads I (.tuple (Tr.toDs xs)) (.ref a) u (.tup hs (dpAll_iff.mpr hA)) ry
    exact in_tuple_reads r2 r1 (Tr.lays xs) (Tr.lay t) (room_min hd hu) ⟨.bl _, H, I, rfl, q⟩
theorem op_niT (hu : X.A.units + 200 < cLine) : OpR X (compareOp .NotIn) (rNiT X.K) := by
  intro pins s σ H x y v u Q I rx ry h
  obtain ⟨t, xs, ht, ⟨a, vs, rfl, hs, hA⟩, hd, q⟩ := h
  obtain ⟨as, r1⟩ := Dp.reads I t.toD x v ht rx
  rw [← any_mem] at q
  rcases hs with hs | hs
  · obtain ⟨bs, r2⟩ := Dp.reads I (.list (Tr.toDs xs)) (.ref a) u (.lst hs (dpAll_iff.mpr hA)) ry
    exact notIn_list_reads r2 r1 (Tr.lays xs) (Tr.lay t) (room_min hd hu) ⟨.bl _, H, I, rfl, q⟩
  · obtain ⟨bs, r2⟩ := Dp.reads I (.tuple (Tr.toDs xs)) (.ref a) u (.tup hs (dpAll_iff.mpr hA)) ry
    exact notIn_tuple_reads r2 r1 (Tr.lays xs) (Tr.lay t) (room_min hd hu) ⟨.bl _, H, I, rfl, q⟩
/-- ==, != of two trees -/
def rEqT (K : PySem.W.Frag) : R2 := fun x y H Q => ∃ t u, At K H x t ∧ At K H y u ∧ t.dep ≤ 190 ∧ Q (.bl (decide (t = u))) H
def rNeT (K : PySem.W.Frag) : R2 := fun x y H Q => ∃ t u, At K H x t ∧ At K H y u ∧ t.dep ≤ 190 ∧ Q (.bl (!decide (t = u))) H
theorem room_two {A : Around} {t u : Tr} (h : t.dep ≤ 190) (hu : A.units + 200 < cLine) : A.units + min t.toD.depth u.toD.depth < cLine := by
  rw [Tr.depth_eq]
  have := Nat.min_le_left t.dep u.toD.depth
  omega
theorem op_eqT (hu : X.A.units + 200 < cLine) : OpR X (compareOp .Eq) (rEqT X.K) := by
  intro pins s σ H x y v u Q I rx ry h
  obtain ⟨t, r, ht, hr, hd, q⟩ := h
  obtain ⟨as, r1⟩ := Dp.reads I t.toD x v ht rx
  obtain ⟨bs, r2⟩ := Dp.reads I r.toD y u hr ry
  rw [← Tr.eqv_dec] at q
  exact compareEq_reads r1 r2 (Tr.lay t) (Tr.lay r) (room_two hd hu) ⟨.bl _, H, I, rfl, q⟩
theorem op_neT (hu : X.A.units + 200 < cLine) : OpR X (compareOp .NotEq) (rNeT X.K) := by
  intro pins s σ H x y v u Q I rx ry h
  obtain ⟨t, r, ht, hr, hd, q⟩ := h
  obtain ⟨as, r1⟩ := Dp.reads I t.toD x v ht rx
  obtain ⟨bs, r2⟩ := Dp.reads I r.toD y u hr ry
  rw [← Tr.eqv_dec] at q
  exact compareNe_reads r1 r2 (Tr.lay t) (Tr.lay r) (room_two hd hu) ⟨.bl _, H, I, rfl, q⟩
/-- == of two lists of trees -/
def rNeLs (K : PySem.W.Frag) : R2 := fun x y H Q => ∃ a b vs ws ts us, x = .ref a ∧ y = .ref b ∧ SqL K H a vs ∧ SqL K H b ws ∧ Ats K H vs ts ∧ Ats K H ws us ∧ (∀ t ∈ ts, t.dep ≤ 190) ∧ Q (.bl (!decide (ts = us))) H
theorem eqvs_dec (xs ys : List Tr) : PyData.eqvAll (Tr.toDs xs) (Tr.toDs ys) = decide (xs = ys) := by
  by_cases h : xs = ys
  · rw [decide_eq_true h]; exact (Tr.eqvs_iff xs ys).mpr h
  · rw [decide_eq_false h]
    cases e : PyData.eqvAll (Tr.toDs xs) (Tr.toDs ys) with
    | false => rfl
    | true => exact absurd ((Tr.eqvs_iff xs ys).mp e) h
theorem op_neLs (hu : X.A.units + 200 < cLine) : OpR X (compareOp .NotEq) (rNeLs X.K) := by
  intro pins s σ H x y v u Q I rx ry h
  obtain ⟨a, b, vs, ws, ts, us, rfl, rfl, ha, hb, hA, hB, hd, q⟩ := h
  obtain ⟨as, r1⟩ := Dp.reads I (.list (Tr.toDs ts)) (.ref a) v (.lst ha (dpAll_iff.mpr hA)) rx
  obtain ⟨bs, r2⟩ := Dp.reads I (.list (Tr.toDs us)) (.ref b) u (.lst hb (dpAll_iff.mpr hB)) ry
  rw [← eqvs_dec] at q
  refine compareNe_reads r1 r2 (by rw [PyData.canLay0]; exact Tr.lays ts) (by rw [PyData.canLay0]; exact Tr.lays us) ?_ ⟨.bl _, H, I, rfl, by rw [PyData.eqv]; exact q⟩
  have := deps_le hd
  have m := Nat.min_le_left (PyData.list (Tr.toDs ts)).depth (PyData.list (Tr.toDs us)).depth
  have e : (PyData.list (Tr.toDs ts)).depth = Tr.deps ts + 1 := by rw [PyData.depth, Tr.depths_eq]
  omega
/-- t.count(x), t a tuple of trees -/
def rCntT (K : PySem.W.Frag) : V → List V → Hp → VK → Prop := fun x ys H Q => ∃ a vs ts y t, x = .ref a ∧ ys = [y] ∧ SqT K H a vs ∧ Ats K H vs ts ∧ At K H y t ∧ t.dep ≤ 190 ∧ Q (.int (ts.count t : Nat)) H
theorem cnt_eq (x : Tr) : ∀ xs : List Tr, ((Tr.toDs xs).countP fun z => PyData.eqv z x.toD) = xs.count x
  | [] => by rw [Tr.toDs]; rfl
  | y :: ys => by
    rw [Tr.toDs, List.countP_cons, cnt_eq x ys, Tr.eqv_dec, List.count_cons]
    by_cases h : y = x
    · subst h; simp
    · simp [h]
theorem mt_cntT (hu : X.A.units + 200 < cLine) : MtR X "tuple.count" (rCntT X.K) := by
  intro pins s σ H x ys v us Q I rx rys h
  obtain ⟨a, vs, ts, y, t, rfl, rfl, hs, hA, ht, hd, q⟩ := h
  cases rx
  obtain ⟨u, rfl, ru⟩ := rys.one
  obtain ⟨as, r1⟩ := Dp.reads I t.toD y u ht ru
  obtain ⟨bs, r2⟩ := Dp.reads I (.tuple (Tr.toDs ts)) (.ref a) (.ref a) (.tup hs (dpAll_iff.mpr hA)) rfl
  cases r2 with
  | @tuple _ o its n _ _ h1 h2 h3 h4 =>
    refine count_tuple_data ⟨_, h1, h2, n, h3⟩ h4 r1 (PyData.plainAll_of_canLay0 _ (Tr.lays ts)) (PyData.plain_of_canLay0 _ (Tr.lay t)) (room_min hd hu) ?_
    rw [cnt_eq]
    exact ⟨.int (ts.count t : Nat), H, I.tok _, ⟨s.toks, rfl⟩, q⟩
/-- (x,) * n, n from 0 on: some tuple -/
theorem mul_none (l : Addr) (its : Array Value) (n : Nat) (dd : Option Addr) (sl : Array (Option Value)) (u : Tok) (ne : its.isEmpty = false) :
    Meets (Builtin.«tuple.__mul__» ⟨[.ref l, .int 0 u], []⟩) (fun _ R s => s.heap.get? l = some { cls := .type "tuple", dict := dd, data := .seq its n, slots := sl } ∧
      R (.ok (.ret (Value.ref s.heap.objs.size))) { s with heap := s.heap.push { cls := Value.type "tuple", data := Data.seq #[] } }) :=
  .of_wp fun prog w A R s h => by
    obtain ⟨hp, g, d, tk, os⟩ := s
    obtain ⟨hl, h⟩ := h
    have f1 := AutoSeq1.idx_int
    wp_walk using AutoSeq1.wpAny_loadPart' hl
    exact ⟨_, rfl, h⟩
theorem mul_one (l : Addr) (its : Array Value) (n : Nat) (dd : Option Addr) (sl : Array (Option Value)) (u : Tok) (ne : its.isEmpty = false) :
    Meets (Builtin.«tuple.__mul__» ⟨[.ref l, .int 1 u], []⟩) (fun _ R s => s.heap.get? l = some { cls := .type "tuple", dict := dd, data := .seq its n, slots := sl } ∧ R (.ok (.ret (Value.ref l))) s) :=
  .of_wp fun prog w A R s h => by
    obtain ⟨hp, g, d, tk, os⟩ := s
    obtain ⟨hl, h⟩ := h
    have f1 := AutoSeq1.idx_int
    wp_walk using AutoSeq1.wpAny_loadPart' hl
    exact ⟨_, rfl, h⟩
def rRep1 (K : PySem.W.Frag) : R2 := fun x y H Q => ∃ a n v, x = .ref a ∧ y = .int (n : Nat) ∧ SqT K H a [v] ∧ n ≤ 1000 ∧ ∀ p H', Same H H' → SqT K H' p (List.replicate n v) → Q (.ref p) H'
theorem rep_flat (v : V) : ∀ n : Nat, (List.replicate n [v]).flatten = List.replicate n v
  | 0 => rfl
  | n + 1 => by rw [List.replicate_succ, List.flatten_cons, rep_flat v n]; rfl
theorem op_rep1 : OpR X (binaryOp .Mult) (rRep1 X.K) := by
  intro pins s σ H x y w u Q I rx ry h
  obtain ⟨a, n, v, rfl, rfl, hT, hn, q⟩ := h
  rcases n with _ | _ | n
  · cases rx
    obtain ⟨t, rfl⟩ := ry
    obtain ⟨its, r, ⟨⟨cls, dd, data, sl⟩, ho, hc, m, hd⟩, hs⟩ := I.tuple hT
    dsimp only at hc hd
    subst hc hd
    cases r with
    | cons r1 r2 =>
    refine wpAny_binaryOp_repeat_ref (T := "tuple") (U := "int") (by decide) ⟨_, ho, rfl⟩ (fun s' => typeIs_int s' _ t) noFill_tuple_mul PySem.F.fills_int_mul PySem.F.slot_int_rmul repeat_tuple PySem.F.slot_int_index.lookup
      (call_meets PySem.F.slot_int_rmul (typeIs_int s _ t) PySem.F.entry_int_rmul (PySem.F.args_int_rmul_2 _ _) (int_rmul_tuple _ t a _ m dd sl)
        ⟨ho, rfl, ⟨_, ho, rfl⟩, call_meets PySem.F.slot_tuple_mul ⟨_, ho, rfl⟩ PySem.F.entry_tuple_mul (PySem.F.args_tuple_mul_2 _ _) (mul_none a _ m dd sl t rfl) ⟨ho, ?_⟩⟩)
    refine ⟨.ref s.heap.objs.size, upd H s.heap.objs.size (.tup []), I.laid (t' := s.toks) (fun b u e => Heap.get?_push_of_some _ e) (Nat.le_refl _) ⟨Nat.zero_le _, [], .nil, ⟨_, Heap.get?_push_size _ rfl, rfl, _, rfl⟩⟩, rfl, ?_⟩
    exact q _ _ (fun b o e => by rw [upd_ne (fun z => by rw [z, I.hok.fresh (Nat.le_refl _)] at e; cases e)]; exact e) (SqT.of upd_same)
  · cases rx
    obtain ⟨t, rfl⟩ := ry
    obtain ⟨its, r, ⟨⟨cls, dd, data, sl⟩, ho, hc, m, hd⟩, hs⟩ := I.tuple hT
    dsimp only at hc hd
    subst hc hd
    cases r with
    | cons r1 r2 =>
    refine wpAny_binaryOp_repeat_ref (T := "tuple") (U := "int") (by decide) ⟨_, ho, rfl⟩ (fun s' => typeIs_int s' _ t) noFill_tuple_mul PySem.F.fills_int_mul PySem.F.slot_int_rmul repeat_tuple PySem.F.slot_int_index.lookup
      (call_meets PySem.F.slot_int_rmul (typeIs_int s _ t) PySem.F.entry_int_rmul (PySem.F.args_int_rmul_2 _ _) (int_rmul_tuple _ t a _ m dd sl)
        ⟨ho, rfl, ⟨_, ho, rfl⟩, call_meets PySem.F.slot_tuple_mul ⟨_, ho, rfl⟩ PySem.F.entry_tuple_mul (PySem.F.args_tuple_mul_2 _ _) (mul_one a _ m dd sl t rfl) ⟨ho, ?_⟩⟩)
    exact ⟨.ref a, H, I, rfl, q _ _ (fun b o e => e) hT⟩
  · refine op_repT pins s σ H _ _ w u Q I rx ry ⟨a, _, [v], rfl, rfl, hT, by simp, by omega, by omega, by simp, fun p np => ?_⟩
    refine q p _ (fun b o e => by rw [upd_ne (fun z => by rw [z, np] at e; cases e)]; exact e) (SqT.of ?_)
    rw [upd_same, Int.toNat_natCast, rep_flat]
end
end L2

set_option Elab.async false
set_option linter.all false
set_option maxRecDepth 100000
set_option maxHeartbeats 4000000
/-! enumerate of a tuple, walked. -/
namespace L2
open PySem PySem.Spec PyProof.Rows
theorem new_enumT (t : Addr) (its : Array Value) (n : Nat) (dct : Option Addr) (sl : Array (Option Value)) :
    Meets (Builtin.«enumerate.__new__» ⟨[.type "enumerate", .ref t], []⟩) (fun _ R s => s.heap.get? t = some { cls := .type "tuple", dict := dct, data := .seq its n, slots := sl } ∧
      R (.ok (.ret (.ref (s.heap.push { cls := .type "tuple_iterator", data := .fields #[.ref t, .int 0 0] }).objs.size)))
        { s with heap := (s.heap.push { cls := .type "tuple_iterator", data := .fields #[.ref t, .int 0 0] }).push { cls := .type "enumerate", data := .fields #[.none, .bool false, .ref s.heap.objs.size, rawInt 0, .none, .none] } }) :=
  .of_wp fun prog w A R s h => by
    obtain ⟨hp, g, d, tk, os⟩ := s
    obtain ⟨ht, h⟩ := h
    have sub := sub_enumerate
    have hT : Heap.IsTuple (Shared.heap ⟨hp, g, d, tk, os⟩) t its := ⟨_, ht, rfl, n, rfl⟩
    wp_walk using AutoSeq1.wpAny_loadPart' ht
    refine wpAny_stack_any fun st => wpAny_pure ?_
    split
    · rename_i c _ _ _ _ _
      cases (c == Value.type "enumerate") <;> (wp_walk using AutoSeq1.wpAny_loadPart' ht, wpAny_pyIter_tuple hT; exact ⟨_, rfl, h⟩)
    · wp_walk using AutoSeq1.wpAny_loadPart' ht, wpAny_pyIter_tuple hT
      exact ⟨_, rfl, h⟩
section
variable {prog : Program} {w : World} {A : Around} {E : Value → Shared → Prop} {s : Shared}
theorem call_enumT {t : Addr} {its : Array Value} {Q : Value → Shared → Prop} (hT : s.heap.IsTuple t its)
    (k : ∀ h', IsEnum h' (s.heap.objs.size + 1) s.heap.objs.size 0 .none → h'.IsTupleIter s.heap.objs.size t 0 → (∀ b o, s.heap.get? b = some o → h'.get? b = some o) → Q (.ref (s.heap.objs.size + 1)) { s with heap := h' }) :
    wpAny (model prog w) A (call (.type "enumerate") [.ref t]) Q E s := by
  obtain ⟨⟨c, dct, dt, sl⟩, ht, hc, n, hd⟩ := hT
  dsimp only at hc hd
  subst hc hd
  refine callType_new PySem.F.called_enumerate (by decide) (PySem.F.typeCall_enumerate_1 _) (PySem.F.newCall_enumerate_1 _) (fun obj => PySem.F.args_object_init_2 obj _) PySem.F.entry_enumerate_new (new_enumT t its n dct sl) ⟨ht, ?_⟩
  have hz : (s.heap.push { cls := .type "tuple_iterator", data := .fields #[.ref t, .int 0 0] }).objs.size = s.heap.objs.size + 1 := Heap.size_push ..
  have he : IsEnum ((s.heap.push { cls := .type "tuple_iterator", data := .fields #[.ref t, .int 0 0] }).push { cls := .type "enumerate", data := .fields #[.none, .bool false, .ref s.heap.objs.size, rawInt 0, .none, .none] }) (s.heap.objs.size + 1) s.heap.objs.size 0 .none := hz ▸ Heap.get?_push_size _ rfl
  show _ ∧ _
  rw [hz]
  exact ⟨⟨_, he, rfl⟩, k _ he ⟨_, Heap.get?_push_of_some _ (Heap.get?_push_size _ rfl), rfl, rfl⟩ fun b o x => Heap.get?_push_of_some _ (Heap.get?_push_of_some _ x)⟩
end
/-- the tuple at a, its items in new pairs -/
def IteT (K : PySem.W.Frag) (a : Addr) : It :=
  ⟨fun i H => ∃ (xs : List V) (x : V), SqT K H a xs ∧ xs[i]? = some x, fun i H v H' => ∃ T x, v = .ref T ∧ H T = none ∧ H' = upd H T (.tup [.int (i : Nat), x]) ∧ ∀ xs, SqT K H a xs → xs[i]? = some x, fun i H => ∃ xs : List V, SqT K H a xs ∧ xs.length ≤ i⟩
theorem turn_enumT {P : Program} {w : World} {K : PySem.W.Frag} {elts : List Expr} {kk : Nat} {tpos : Pos} (a e it : Addr) :
    Turn P w K (.Tuple elts kk tpos) (IteT K a) [e, it] e (fun i h => (∃ old, IsEnum h e it ((i : Nat) : Int) old) ∧ h.IsTupleIter it a i ∧ e ≠ it) where
  mem := by simp
  obj := fun i h st b hb => by
    obtain ⟨⟨old, he⟩, ⟨o, ho, hc, hd⟩, _⟩ := st
    have e' : b = e ∨ b = it := by simpa using hb
    exact e'.elim (fun z => z ▸ ⟨_, he, fun v q => nomatch q⟩) fun z => z ▸ ⟨o, ho, fun v q => by rw [hd] at q; cases q⟩
  keep := fun i h h' st k => ⟨st.1.elim fun old he => ⟨old, k e (by simp) _ he⟩, st.2.1.at fun o q => k it (by simp) o q, st.2.2⟩
  item := by
    intro X hP hw hK hc i pins s σ H E I hf st hg
    subst hP hw hK
    obtain ⟨⟨old, he⟩, hit, hne⟩ := st
    obtain ⟨xs, x, hq, hx⟩ := hg
    obtain ⟨its, rv, p, hz⟩ := I.tuple hq
    obtain ⟨u, hu, ru⟩ := rv.get hx
    have hel : e < s.heap.objs.size := Heap.lt_size he
    have hil : it < s.heap.objs.size := by obtain ⟨_, q, _⟩ := hit; exact Heap.lt_size q
    obtain ⟨oT, goT, gcT, _⟩ := id p
    have n1 : a ≠ it := fun z => by
      obtain ⟨oi, h1, h2, _⟩ := id hit
      rw [z, h1] at goT
      cases goT
      rw [h2] at gcT
      exact absurd gcT (by decide)
    have n2 : a ≠ e := fun z => by
      rw [z, he] at goT
      cases goT
      have w1 : Value.type "enumerate" = Value.type "tuple" := gcT
      exact absurd w1 (by decide)
    have D := PySem.Draws.tuple (prog := X.prog) (w := X.w) (A := X.A.in1) (I.ok.hd hc) it a n1 its.toArray
    refine wpAny_pyNext_enum_itemD D he ⟨hit, p⟩ (by have := (List.getElem?_eq_some_iff.mp hu).1; simpa using this) hne (by simp [hne, Ne.symm n2]) fun y h' tk hy ho hit' hT hsz hk => ?_
    have ey : y = u := by
      have q : its.toArray[i]? = some u := by simpa using hu
      rw [q] at hy
      exact (Option.some.inj hy).symm
    subst ey
    refine ⟨_, rfl, wpAny_letOwnedTupleGo_enum (s := { s with heap := h', toks := tk + 1 }) ho fun h'' he' sb => ?_⟩
    have hT2 : h''.get? s.heap.objs.size = some { cls := .type "tuple", data := .seq #[.int i tk, y] } := (sb.2 _ (Nat.ne_of_gt hel)).trans hT
    have new : ObjOk X.prog X.w (upd H s.heap.objs.size (.tup [.int (i : Nat), x])) h'' s.heap.objs.size (.tup [.int (i : Nat), x]) := ⟨by show 2 ≤ sizeLine; decide, [.int i tk, y], .cons ⟨_, rfl⟩ (.cons ru .nil), ⟨_, hT2, rfl, _, rfl⟩⟩
    have kp : ∀ b ob, b ∉ [e, it] → s.heap.get? b = some ob → h''.get? b = some ob := fun b ob hb q => (sb.2 b (fun z => hb (by simp [z]))).trans (hk b ob (fun z => hb (by simp [z])) (fun z => hb (by simp [z])) q)
    refine ⟨.ref s.heap.objs.size, _, I.turnedNew (t' := tk + 1) (ch := [e, it]) kp hf (Nat.le_refl _) new, rfl, ⟨_, x, rfl, I.hok.fresh (Nat.le_refl _), rfl, fun ys hy => by rw [I.tuple_inj hy hq]; exact hx⟩, ⟨⟨y, ?_⟩, hit'.1.at fun o q => (sb.2 it (Ne.symm hne)).trans q, hne⟩, fun b hb => ?_⟩
    · rw [show ((i + 1 : Nat) : Int) = (i : Int) + 1 by omega]; exact he'
    · have e' : b = e ∨ b = it := by simpa using hb
      have hb' : b < s.heap.objs.size := e'.elim (fun z => z ▸ hel) fun z => z ▸ hil
      rw [upd_ne (Nat.ne_of_lt hb')]; exact (hf b hb).1
  done := by
    intro X hP hw hK hc i pins s σ H E I hf st hg
    subst hP hw hK
    obtain ⟨⟨old, he⟩, hit, hne⟩ := st
    obtain ⟨xs, hq, hx⟩ := hg
    obtain ⟨its, rv, p, hz⟩ := I.tuple hq
    obtain ⟨f0, f1, f2, f3, f4, f5⟩ := hf it (by simp)
    have hl := rv.length
    have D : Draws X.prog X.w X.A.in1 it [it, a] i (fun _ _ => False) (fun j h => j = i ∧ h.IsTupleIter it a i ∧ h.IsTuple a its.toArray) :=
      { live := fun _ _ st => let ⟨o, ho, _⟩ := st.2.1; ⟨o, ho⟩
        frame := fun _ _ _ st hk => ⟨st.1, st.2.1.at fun o e => hk it (by simp) o e, st.2.2.at fun o e => hk a (by simp) o e⟩
        item := fun j s Q E hj st _ => absurd st.1 (Nat.ne_of_lt hj)
        done := fun s Q E st hE => PySem.wpAny_nextOf_tuple_end (I.ok.hd hc) st.2.1 st.2.2 (by simp; omega) hE }
    exact wpAny_pyNext_enum_endD D he ⟨rfl, hit, p⟩ fun h' eb => ⟨rfl, I.turned (t' := s.toks) (fun b o hb q => eb b o hb q) f0 f1 f3 f4 f5⟩
  self := fun A i s Q E st h => st.1.elim fun _ he => wpAny_pyIter_enum he h
/-- for i, x in enumerate(t), t a list or a tuple: the turns of either -/
def iEnT (K : PySem.W.Frag) (ta : TA) : TI := fun σ H R => ta σ H fun vs H1 => ∃ a xs, vs = [.ref a] ∧ SqT K H1 a xs ∧ R (IteT K a) H1
theorem pi_enT {X : Cx} {e : Expr} {ta : TA} {p pos tpos : Pos} {elts : List Expr} {kk : Nat} (hg : Gl X "enumerate") (hm : X.mg "enumerate" = none) (ha : PA X [e] ta) (hs : starEach [e] X.env = [(false, eval e X.env)] := by rfl) :
    PI X (.Tuple elts kk tpos) (.Call (.Name "enumerate" p) [e] [] pos) (iEnT X.K ta) := by
  constructor
  intro pins s σ H R I h
  have arg := ha.run pos pins s σ H _ I h
  refine Call_ (ld_blt I hg hm boot_enumerate (PyProof.Rows.callWith_type1 (thn arg fun us s1 z => ?_) hs rfl))
  obtain ⟨vs, H1, I1, r1, a, xs, rfl, hq, q⟩ := z
  rw [Vals.ref1 r1]
  obtain ⟨its, _, p', _⟩ := I1.tuple hq
  refine call_enumT p' fun h' he hit hk => wpAny_pyIter_enum he ?_
  have fresh : ∀ b ∈ [s1.heap.objs.size + 1, s1.heap.objs.size], s1.heap.objs.size ≤ b := fun b hb => by
    have e' : b = s1.heap.objs.size + 1 ∨ b = s1.heap.objs.size := by simpa using hb
    omega
  exact ⟨s1.heap.objs.size + 1, _, _, _, H1, rfl, I1.kept (t' := s1.toks) hk, turn_enumT a (s1.heap.objs.size + 1) s1.heap.objs.size, ⟨⟨.none, he⟩, hit, Nat.succ_ne_self _⟩, fun b hb => I1.fpOk (fresh b hb) (I1.hok.fresh (fresh b hb)), q⟩
end L2

set_option Elab.async false
set_option linter.all false
set_option maxRecDepth 100000
set_option maxHeartbeats 4000000
/-! Worths as trees: a base and a bag of turns. -/
namespace L2
open PySem PySem.Spec PyProof.Rows PySem.SeqAt
namespace Tr
def base0 (c : Int) : Tr := .t [.i 0, .i c]
def base1 (m : Int) (ws : List Tr) : Tr := .t [.i 1, .i m, .t ws]
def trn (m : Int) (ws : List Tr) : Tr := .t [.i m, .t ws]
def wor (b : Tr) (bag : List Tr) : Tr := .t [b, .t bag]
def TL (W : Tr → Prop) (t : Tr) : Prop := ∃ m ws, t = trn m ws ∧ ∀ v ∈ ws, W v
def BL (W : Tr → Prop) (b : Tr) : Prop := (∃ c, b = base0 c) ∨ ∃ m ws, b = base1 m ws ∧ ∀ v ∈ ws, W v
/-- worths that are nested below n, of at most seven turns each -/
def WL : Nat → Tr → Prop
  | 0, _ => False
  | n + 1, w => ∃ b bag, w = wor b bag ∧ BL (WL n) b ∧ bag.length ≤ 7 ∧ ∀ t ∈ bag, TL (WL n) t
theorem TL.imp {W W' : Tr → Prop} {t : Tr} (h : TL W t) (k : ∀ v, W v → W' v) : TL W' t := by
  obtain ⟨m, ws, rfl, q⟩ := h
  exact ⟨m, ws, rfl, fun v hv => k v (q v hv)⟩
theorem BL.imp {W W' : Tr → Prop} {b : Tr} (h : BL W b) (k : ∀ v, W v → W' v) : BL W' b := by
  rcases h with h | ⟨m, ws, rfl, q⟩
  · exact .inl h
  · exact .inr ⟨m, ws, rfl, fun v hv => k v (q v hv)⟩
theorem WL.up : ∀ {n : Nat} {w : Tr}, WL n w → WL (n + 1) w
  | 0, _, h => h.elim
  | n + 1, w, ⟨b, bag, e, hb, hl, ht⟩ => ⟨b, bag, e, hb.imp fun _ => WL.up, hl, fun t m => (ht t m).imp fun _ => WL.up⟩
theorem WL.mono {n m : Nat} {w : Tr} (h : WL n w) (k : n ≤ m) : WL m w := by
  induction k with
  | refl => exact h
  | step _ ih => exact ih.up
theorem dep_t (xs : List Tr) : (Tr.t xs).dep = deps xs + 1 := by rw [dep]
theorem dep_i (n : Int) : (Tr.i n).dep = 0 := by rw [dep]
theorem deps_nil : deps [] = 0 := by rw [deps]
theorem deps_cons (x : Tr) (xs : List Tr) : deps (x :: xs) = max x.dep (deps xs) := by rw [deps]
theorem WL.dep_le : ∀ {n : Nat} {w : Tr}, WL n w → w.dep ≤ 4 * n
  | 0, _, h => h.elim
  | n + 1, w, ⟨b, bag, e, hb, hl, ht⟩ => by
    have q : ∀ {ws : List Tr}, (∀ v ∈ ws, WL n v) → deps ws ≤ 4 * n := fun h => deps_le fun v m => (h v m).dep_le
    have d1 : b.dep ≤ 4 * n + 2 := by
      rcases hb with ⟨c, rfl⟩ | ⟨m, ws, rfl, k⟩
      · unfold base0; simp only [dep_t, deps_cons, deps_nil, dep_i]; omega
      · have := q k
        unfold base1; simp only [dep_t, deps_cons, deps_nil, dep_i]; omega
    have d2 : deps bag ≤ 4 * n + 2 := deps_le fun t m => by
      obtain ⟨i, ws, rfl, k⟩ := ht t m
      have := q k
      unfold trn; simp only [dep_t, deps_cons, deps_nil, dep_i]; omega
    subst e
    unfold wor; simp only [dep_t, deps_cons, deps_nil]; omega
theorem ak_i (a b : Int) : Ak (.i a) (.i b) := by unfold Ak; simp only [toD, PySem.W.alike]
theorem ak_t {xs ys : List Tr} : Ak (.t xs) (.t ys) ↔ PySem.W.alikeAll (toDs xs) (toDs ys) = true := by unfold Ak; simp only [toD, PySem.W.alike]
theorem ak_cons {x y : Tr} {xs ys : List Tr} (h : Ak x y) (k : PySem.W.alikeAll (toDs xs) (toDs ys) = true) : PySem.W.alikeAll (toDs (x :: xs)) (toDs (y :: ys)) = true := by
  simp only [toDs, PySem.W.alikeAll]
  rw [k, show PySem.W.alike x.toD y.toD = true from h]; rfl
theorem ak_nilL (ys : List Tr) : PySem.W.alikeAll (toDs []) (toDs ys) = true := by rw [toDs]; cases ys <;> simp [toDs, PySem.W.alikeAll]
theorem ak_nilR (xs : List Tr) : PySem.W.alikeAll (toDs xs) (toDs []) = true := by cases xs <;> simp [toDs, PySem.W.alikeAll]
theorem ak_all : ∀ {xs ys : List Tr}, (∀ x ∈ xs, ∀ y ∈ ys, Ak x y) → PySem.W.alikeAll (toDs xs) (toDs ys) = true
  | [], ys, _ => ak_nilL ys
  | x :: xs, [], _ => ak_nilR _
  | x :: xs, y :: ys, h => ak_cons (h x List.mem_cons_self y List.mem_cons_self) (ak_all fun a m b k => h a (List.mem_cons_of_mem _ m) b (List.mem_cons_of_mem _ k))
theorem TL.ak {W W' : Tr → Prop} (q : ∀ v v', W v → W' v' → Ak v v') {t t' : Tr} (h : TL W t) (k : TL W' t') : Ak t t' := by
  obtain ⟨m, ws, rfl, a⟩ := h
  obtain ⟨m', ws', rfl, a'⟩ := k
  exact ak_t.mpr (ak_cons (ak_i _ _) (ak_cons (ak_t.mpr (ak_all fun x hx y hy => q x y (a x hx) (a' y hy))) (ak_nilL _)))
theorem WL.ak : ∀ {n m : Nat} {w w' : Tr}, WL n w → WL m w' → Ak w w'
  | 0, _, _, _, h, _ => h.elim
  | _ + 1, 0, _, _, _, h => h.elim
  | n + 1, m + 1, w, w', ⟨b, bag, e, hb, _, ht⟩, ⟨b', bag', e', hb', _, ht'⟩ => by
    subst e e'
    have q : ∀ v v', WL n v → WL m v' → Ak v v' := fun _ _ => WL.ak
    have kb : Ak b b' := by
      rcases hb with ⟨c, rfl⟩ | ⟨i, ws, rfl, k⟩ <;> rcases hb' with ⟨c', rfl⟩ | ⟨i', ws', rfl, k'⟩
      · exact ak_t.mpr (ak_cons (ak_i _ _) (ak_cons (ak_i _ _) (ak_nilL _)))
      · exact ak_t.mpr (ak_cons (ak_i _ _) (ak_cons (ak_i _ _) (ak_nilL _)))
      · exact ak_t.mpr (ak_cons (ak_i _ _) (ak_cons (ak_i _ _) (ak_nilR _)))
      · exact ak_t.mpr (ak_cons (ak_i _ _) (ak_cons (ak_i _ _) (ak_cons (ak_t.mpr (ak_all fun x hx y hy => q x y (k x hx) (k' y hy))) (ak_nilL _))))
    exact ak_t.mpr (ak_cons kb (ak_cons (ak_t.mpr (ak_all fun x hx y hy => (ht x hx).ak q (ht' y hy))) (ak_nilL _)))
/-! ### what a worth holds -/
def heldB : Tr → List Tr
  | .t [.i _, .i _, .t ws] => ws
  | _ => []
def heldT : Tr → List Tr
  | .t [.i _, .t ws] => ws
  | _ => []
def held : Tr → List Tr
  | .t [b, .t bag] => heldB b ++ bag.flatMap heldT
  | _ => []
theorem held_wor (b : Tr) (bag : List Tr) : held (wor b bag) = heldB b ++ bag.flatMap heldT := rfl
theorem WL.held : ∀ {n : Nat} {w : Tr}, WL (n + 1) w → ∀ v ∈ held w, WL n v := by
  rintro n w ⟨b, bag, rfl, hb, _, ht⟩ v m
  rcases List.mem_append.mp m with m | m
  · rcases hb with ⟨c, rfl⟩ | ⟨i, ws, rfl, k⟩
    · cases m
    · exact k v m
  · obtain ⟨t, mt, mv⟩ := List.mem_flatMap.mp m
    obtain ⟨i, ws, rfl, k⟩ := ht t mt
    exact k v mv
/-- closed under held ones and under lesser bags -/
inductive CL (xs : List Tr) : Tr → Prop
  | base {w : Tr} : w ∈ xs → CL xs w
  | part {w v : Tr} : CL xs w → v ∈ held w → CL xs v
  | drop {b : Tr} {bag : List Tr} {k : Nat} : CL xs (wor b bag) → k < bag.length → CL xs (wor b (bag.eraseIdx k))
inductive PC (xs : List Tr) : Tr → Prop
  | base {w : Tr} : w ∈ xs → PC xs w
  | part {w v : Tr} : PC xs w → v ∈ held w → PC xs v
theorem WL.part {n : Nat} {w v : Tr} (h : WL n w) (m : v ∈ Tr.held w) : WL n v := by
  cases n with
  | zero => exact h.elim
  | succ n => exact (h.held v m).up
theorem WL.sub {n : Nat} {b : Tr} {bag s : List Tr} (h : WL n (wor b bag)) (k : s.Sublist bag) : WL n (wor b s) := by
  cases n with
  | zero => exact h.elim
  | succ n =>
    obtain ⟨b', bag', e, hb, hl, ht⟩ := h
    obtain ⟨e1, e2⟩ : b = b' ∧ bag = bag' := by
      unfold wor at e
      injection e with e
      injection e with e1 e2
      injection e2 with e2 _
      injection e2 with e2
      exact ⟨e1, e2⟩
    subst e1 e2
    exact ⟨b, s, rfl, hb, Nat.le_trans k.length_le hl, fun t m => ht t (k.subset m)⟩
theorem PC.wl {n : Nat} {xs : List Tr} (hx : ∀ x ∈ xs, WL n x) {z : Tr} (h : PC xs z) : WL n z := by
  induction h with
  | base m => exact hx _ m
  | part _ m ih => exact ih.part m
theorem CL.wl {n : Nat} {xs : List Tr} (hx : ∀ x ∈ xs, WL n x) {z : Tr} (h : CL xs z) : WL n z := by
  induction h with
  | base m => exact hx _ m
  | part _ m ih => exact ih.part m
  | drop _ _ ih => exact ih.sub (List.eraseIdx_sublist ..)
theorem sub_less {s bag : List Tr} (h : s.Sublist bag) (ne : s.length ≠ bag.length) : ∃ k, k < bag.length ∧ s.Sublist (bag.eraseIdx k) := by
  induction h with
  | slnil => exact absurd rfl ne
  | @cons s bag x h ih => exact ⟨0, by simp, by simpa using h⟩
  | @cons_cons s bag x h ih =>
    obtain ⟨k, h1, h2⟩ := ih (by simpa using ne)
    exact ⟨k + 1, by simpa using h1, by simpa using h2⟩
theorem CL.sub {xs : List Tr} {b : Tr} : ∀ (n : Nat) {bag s : List Tr}, bag.length ≤ n → CL xs (wor b bag) → s.Sublist bag → CL xs (wor b s)
  | 0, bag, s, hn, h, k => by
    have e : bag = [] := List.eq_nil_of_length_eq_zero (Nat.le_zero.mp hn)
    subst e
    cases k
    exact h
  | n + 1, bag, s, hn, h, k => by
    by_cases e : s.length = bag.length
    · rw [k.eq_of_length e]; exact h
    · obtain ⟨i, h1, h2⟩ := sub_less k e
      exact CL.sub n (by rw [List.length_eraseIdx_of_lt h1]; omega) (.drop h h1) h2
theorem flat_sub {f : Tr → List Tr} : ∀ {s bag : List Tr}, s.Sublist bag → (s.flatMap f).Sublist (bag.flatMap f)
  | _, _, .slnil => .slnil
  | _, _, .cons x h => by rw [List.flatMap_cons]; exact (flat_sub h).trans (List.sublist_append_right ..)
  | _, _, .cons₂ x h => by rw [List.flatMap_cons, List.flatMap_cons]; exact (List.Sublist.refl _).append (flat_sub h)
theorem held_sub {b : Tr} {bag s : List Tr} (h : s.Sublist bag) : (held (wor b s)).Sublist (held (wor b bag)) := (List.Sublist.refl _).append (flat_sub h)
/-- the closed ones: lesser bags of what is held at last -/
theorem cl_iff {n : Nat} {xs : List Tr} (hx : ∀ x ∈ xs, WL n x) (z : Tr) : CL xs z ↔ ∃ b bag s, PC xs (wor b bag) ∧ s.Sublist bag ∧ z = wor b s := by
  have shape : ∀ w, WL n w → ∃ b bag, w = wor b bag := fun w h => by
    cases n with
    | zero => exact h.elim
    | succ n => obtain ⟨b, bag, e, _⟩ := h; exact ⟨b, bag, e⟩
  constructor
  · intro h
    induction h with
    | base m =>
      obtain ⟨b, bag, rfl⟩ := shape _ (hx _ m)
      exact ⟨b, bag, bag, .base m, List.Sublist.refl _, rfl⟩
    | @part w v h m ih =>
      obtain ⟨b, bag, s, p, k, rfl⟩ := ih
      have pv : PC xs v := .part p ((held_sub k).subset m)
      obtain ⟨b', bag', rfl⟩ := shape _ (pv.wl hx)
      exact ⟨b', bag', bag', pv, List.Sublist.refl _, rfl⟩
    | @drop b bag k h hk ih =>
      obtain ⟨b', bag', s, p, q, e⟩ := ih
      unfold wor at e
      injection e with e
      injection e with e1 e2
      injection e2 with e2 _
      injection e2 with e2
      subst e1 e2
      exact ⟨b, bag', _, p, (List.eraseIdx_sublist ..).trans q, rfl⟩
  · rintro ⟨b, bag, s, p, k, rfl⟩
    have c : ∀ {w}, PC xs w → CL xs w := fun {w} h => by
      induction h with
      | base m => exact .base m
      | part _ m ih => exact .part ih m
    exact CL.sub _ (Nat.le_refl _) (c p) k
theorem CL.mono {xs ys : List Tr} (h : ∀ x ∈ xs, x ∈ ys) {z : Tr} (k : CL xs z) : CL ys z := by
  induction k with
  | base m => exact .base (h _ m)
  | part _ m ih => exact .part ih m
  | drop _ hk ih => exact .drop ih hk
theorem CL.again {xs us : List Tr} (h : ∀ x, x ∈ us → CL xs x) {z : Tr} (k : CL us z) : CL xs z := by
  induction k with
  | base m => exact h _ m
  | part _ m ih => exact .part ih m
  | drop _ hk ih => exact .drop ih hk
/-! ### how many -/
theorem asc_len : ∀ {us L : List Tr}, us.Nodup → (∀ z ∈ us, z ∈ L) → us.length ≤ L.length
  | [], _, _, _ => Nat.zero_le _
  | u :: us, L, nd, h => by
    obtain ⟨n1, n2⟩ := List.nodup_cons.mp nd
    have m := h u List.mem_cons_self
    have q := asc_len (L := L.erase u) n2 fun z hz => (List.mem_erase_of_ne (fun e => n1 (by rw [← e]; exact hz))).mpr (h z (List.mem_cons_of_mem _ hz))
    rw [List.length_erase_of_mem m] at q
    have := List.length_pos_of_mem m
    rw [List.length_cons]; omega
theorem Asc.nodup {us : List Tr} (h : Asc us) : us.Nodup := h.imp fun {x y} k e => by
  subst e
  rw [lt_irr] at k
  exact absurd k (by decide)
def nodes : Nat → Tr → List Tr
  | 0, _ => []
  | n + 1, w => w :: (held w).flatMap (nodes n)
theorem nodes_self {n : Nat} {w : Tr} (h : WL n w) : w ∈ nodes n w := by
  cases n with
  | zero => exact h.elim
  | succ n => exact List.mem_cons_self
theorem nodes_held : ∀ {n : Nat} {x z v : Tr}, WL n x → z ∈ nodes n x → v ∈ held z → v ∈ nodes n x
  | 0, _, _, _, h, _, _ => h.elim
  | n + 1, x, z, v, h, m, k => by
    rcases List.mem_cons.mp m with rfl | m
    · exact List.mem_cons_of_mem _ (List.mem_flatMap.mpr ⟨v, k, nodes_self (h.held v k)⟩)
    · obtain ⟨u, hu, m⟩ := List.mem_flatMap.mp m
      exact List.mem_cons_of_mem _ (List.mem_flatMap.mpr ⟨u, hu, nodes_held (h.held u hu) m k⟩)
theorem PC.node {n : Nat} {xs : List Tr} (hx : ∀ x ∈ xs, WL n x) {z : Tr} (h : PC xs z) : z ∈ xs.flatMap (nodes n) := by
  induction h with
  | base m => exact List.mem_flatMap.mpr ⟨_, m, nodes_self (hx _ m)⟩
  | part _ k ih =>
    obtain ⟨x, hm, hz⟩ := List.mem_flatMap.mp ih
    exact List.mem_flatMap.mpr ⟨x, hm, nodes_held (hx x hm) hz k⟩
theorem flat_len_ge {f : Tr → List Tr} : ∀ {xs : List Tr}, (∀ x ∈ xs, 1 ≤ (f x).length) → xs.length ≤ (xs.flatMap f).length
  | [], _ => Nat.zero_le _
  | x :: xs, h => by
    have a := h x List.mem_cons_self
    have b := flat_len_ge fun y m => h y (List.mem_cons_of_mem _ m)
    rw [List.flatMap_cons, List.length_append, List.length_cons]; omega
theorem flat_len_mem {f : Tr → List Tr} : ∀ {xs : List Tr} {x : Tr}, x ∈ xs → (f x).length ≤ (xs.flatMap f).length
  | y :: xs, x, m => by
    rw [List.flatMap_cons, List.length_append]
    rcases List.mem_cons.mp m with rfl | m
    · exact Nat.le_add_right _ _
    · have := flat_len_mem (f := f) m
      omega
theorem flat_len_le {β : Type} {f : Tr → List β} {c : Nat} : ∀ {xs : List Tr}, (∀ x ∈ xs, (f x).length ≤ c) → (xs.flatMap f).length ≤ xs.length * c
  | [], _ => Nat.zero_le _
  | x :: xs, h => by
    have a := h x List.mem_cons_self
    have b := flat_len_le fun y m => h y (List.mem_cons_of_mem _ m)
    rw [List.flatMap_cons, List.length_append, List.length_cons, Nat.succ_mul]; omega
theorem held_len : ∀ {n : Nat} {x z : Tr}, WL n x → z ∈ nodes n x → (held z).length + 1 ≤ (nodes n x).length
  | 0, _, _, h, _ => h.elim
  | n + 1, x, z, h, m => by
    rcases List.mem_cons.mp m with rfl | m
    · have := flat_len_ge (f := nodes n) (xs := held z) fun v k => List.length_pos_of_mem (nodes_self (h.held v k))
      show (held z).length + 1 ≤ ((held z).flatMap (nodes n)).length + 1
      omega
    · obtain ⟨u, hu, m⟩ := List.mem_flatMap.mp m
      have a := held_len (h.held u hu) m
      have b := flat_len_mem (f := nodes n) hu
      show _ ≤ ((held x).flatMap (nodes n)).length + 1
      omega
def subs : List Tr → List (List Tr)
  | [] => [[]]
  | x :: xs => subs xs ++ (subs xs).map (x :: ·)
theorem subs_len : ∀ xs : List Tr, (subs xs).length = 2 ^ xs.length
  | [] => rfl
  | x :: xs => by
    rw [subs, List.length_append, List.length_map, subs_len xs, List.length_cons, Nat.pow_succ]; omega
theorem subs_mem : ∀ {s bag : List Tr}, s.Sublist bag → s ∈ subs bag
  | _, _, .slnil => List.mem_singleton.mpr rfl
  | _, _, .cons x h => List.mem_append_left _ (subs_mem h)
  | _, _, .cons₂ x h => List.mem_append_right _ (List.mem_map.mpr ⟨_, subs_mem h, rfl⟩)
theorem subs_sub : ∀ {bag s : List Tr}, s ∈ subs bag → s.Sublist bag
  | [], s, m => by rw [List.mem_singleton.mp m]; exact .slnil
  | x :: bag, s, m => by
    rcases List.mem_append.mp m with m | m
    · exact (subs_sub m).cons x
    · obtain ⟨s', h, rfl⟩ := List.mem_map.mp m
      exact (subs_sub h).cons₂ x
def less : Tr → List Tr
  | .t [b, .t bag] => (subs bag).map (wor b)
  | _ => []
theorem less_wor (b : Tr) (bag : List Tr) : less (wor b bag) = (subs bag).map (wor b) := rfl
theorem less_len {n : Nat} {w : Tr} (h : WL n w) : (less w).length ≤ 128 := by
  cases n with
  | zero => exact h.elim
  | succ n =>
    obtain ⟨b, bag, rfl, _, hl, _⟩ := h
    rw [less_wor, List.length_map, subs_len]
    exact Nat.le_trans (Nat.pow_le_pow_right (by decide) hl) (by decide)
/-- the closed ones are few, each holds few -/
structure Sm (xs : List Tr) : Prop where
  len : xs.length ≤ 83000
  wl : ∀ x ∈ xs, WL 10 x
  cap : ∃ L : List Tr, L.length ≤ 83000 ∧ ∀ z, CL xs z → z ∈ L
  few : ∀ z, CL xs z → (held z).length ≤ 107
theorem Sm.of {xs : List Tr} (l : xs.length ≤ 6) (w : ∀ x ∈ xs, WL 10 x) (c : ∀ x ∈ xs, (nodes 10 x).length ≤ 108) : Sm xs := by
  have n1 : ∀ z ∈ xs.flatMap (nodes 10), (held z).length ≤ 107 := fun z m => by
    obtain ⟨x, hx, hz⟩ := List.mem_flatMap.mp m
    have a := held_len (w x hx) hz
    have b := c x hx
    omega
  have tot : (xs.flatMap (nodes 10)).length ≤ 648 := by
    have := flat_len_le (f := nodes 10) c
    omega
  refine ⟨by omega, w, ⟨((xs.flatMap (nodes 10)).filter fun z => decide ((less z).length ≤ 128)).flatMap less, ?_, fun z h => ?_⟩, fun z h => ?_⟩
  · have := flat_len_le (f := less) (c := 128) (xs := (xs.flatMap (nodes 10)).filter fun z => decide ((less z).length ≤ 128)) fun z m => by simpa using (List.mem_filter.mp m).2
    have l2 := List.length_filter_le (fun z => decide ((less z).length ≤ 128)) (xs.flatMap (nodes 10))
    omega
  · obtain ⟨b, bag, s, p, k, rfl⟩ := (cl_iff w z).mp h
    refine List.mem_flatMap.mpr ⟨wor b bag, List.mem_filter.mpr ⟨p.node w, by simpa using less_len (p.wl w)⟩, ?_⟩
    rw [less_wor]
    exact List.mem_map.mpr ⟨s, subs_mem k, rfl⟩
  · obtain ⟨b, bag, s, p, k, rfl⟩ := (cl_iff w z).mp h
    exact Nat.le_trans (held_sub k).length_le (n1 _ (p.node w))
theorem Sm.again {xs us : List Tr} (h : Sm xs) (a : Asc us) (e : ∀ z, z ∈ us ↔ CL xs z) : Sm us := by
  obtain ⟨L, l1, l2⟩ := h.cap
  have q : ∀ z, CL us z → CL xs z := fun z k => k.again fun x m => (e x).mp m
  exact ⟨Nat.le_trans (asc_len a.nodup fun z m => l2 z ((e z).mp m)) l1, fun x m => ((e x).mp m).wl h.wl, ⟨L, l1, fun z k => l2 z (q z k)⟩, fun z k => h.few z (q z k)⟩
end Tr
end L2

set_option Elab.async false
set_option linter.all false
set_option maxRecDepth 100000
set_option maxHeartbeats 4000000
/-! Walks by one invariant, whatever is walked: for, comprehensions of one and of two clauses. -/
namespace L2
open PySem PySem.Spec PyProof.Rows
/-- n turns while S stands, each yields by Y -/
structure Wk (J : It) (n : Nat) (S : Hp → Prop) (Y : Nat → Hp → V → Hp → Prop) : Prop where
  go : ∀ i H, i < n → S H → J.go i H
  yl : ∀ i H x H', i < n → S H → J.yld i H x H' → Y i H x H'
  st : ∀ H, S H → J.stop n H
abbrev YI (xs : List V) : Nat → Hp → V → Hp → Prop := fun i H x H' => H' = H ∧ xs[i]? = some x
abbrev YE (xs : List V) : Nat → Hp → V → Hp → Prop := fun i H v H' => ∃ T x, v = .ref T ∧ H T = none ∧ H' = upd H T (.tup [.int (i : Nat), x]) ∧ xs[i]? = some x
theorem wk_list {K : PySem.W.Frag} {a : Addr} {xs : List V} : Wk (Itl K a) xs.length (fun H => SqL K H a xs) (YI xs) :=
  ⟨fun i H h s => ⟨xs, xs[i], s, by simp [h]⟩, fun i H x H' h s y => ⟨y.1, y.2 xs s⟩, fun H s => ⟨xs, s, Nat.le_refl _⟩⟩
theorem wk_tup {K : PySem.W.Frag} {a : Addr} {xs : List V} : Wk (Itt K a) xs.length (fun H => SqT K H a xs) (YI xs) :=
  ⟨fun i H h s => ⟨xs, xs[i], s, by simp [h]⟩, fun i H x H' h s y => ⟨y.1, y.2 xs s⟩, fun H s => ⟨xs, s, Nat.le_refl _⟩⟩
theorem wk_enum {K : PySem.W.Frag} {a : Addr} {xs : List V} : Wk (Ite K a) xs.length (fun H => SqL K H a xs) (YE xs) :=
  ⟨fun i H h s => ⟨xs, xs[i], s, by simp [h]⟩, fun i H x H' h s ⟨T, y, e1, e2, e3, e4⟩ => ⟨T, y, e1, e2, e3, e4 xs s⟩, fun H s => ⟨xs, s, Nat.le_refl _⟩⟩
theorem wk_enumT {K : PySem.W.Frag} {a : Addr} {xs : List V} : Wk (IteT K a) xs.length (fun H => SqT K H a xs) (YE xs) :=
  ⟨fun i H h s => ⟨xs, xs[i], s, by simp [h]⟩, fun i H x H' h s ⟨T, y, e1, e2, e3, e4⟩ => ⟨T, y, e1, e2, e3, e4 xs s⟩, fun H s => ⟨xs, s, Nat.le_refl _⟩⟩
theorem wk_range {lo : Int} {n : Nat} : Wk (Itr lo n) n (fun _ => True) (fun i H x H' => H' = H ∧ x = .int (lo + i)) :=
  ⟨fun i H h _ => h, fun i H x H' h _ y => y, fun H _ => Nat.le_refl _⟩
section
variable {J : It} {n : Nat} {S : Hp → Prop} {Y : Nat → Hp → V → Hp → Prop} {g : TG} {σ : St} {H : Hp}
theorem lp_by {tb : TS} {D : Ends} (wk : Wk J n S Y) (Pv : Nat → St → Hp → Prop) (h0 : Pv 0 σ H) (hl : ∀ i σ H, i ≤ n → Pv i σ H → S H)
    (hs : ∀ i x σ H H', i < n → Pv i σ H → Y i H x H' → g x σ H' fun σ2 H2 => tb { D with nx := Pv (i + 1), ct := Pv (i + 1), bk := D.nx } σ2 H2) (hd : ∀ σ H, Pv n σ H → D.nx σ H) : Lp g tb D σ J H := by
  refine ⟨fun i m σ H => m = n - i ∧ i ≤ n ∧ Pv i σ H, ⟨n, by simp, Nat.zero_le _, h0⟩, fun i m σ H h => ?_⟩
  obtain ⟨rfl, hi, p⟩ := h
  have s := hl i σ H hi p
  rcases Nat.lt_or_eq_of_le hi with h | h
  · exact .inr ⟨wk.go i H h s, Pv (i + 1), fun σ' H' p' => ⟨n - (i + 1), by omega, rfl, h, p'⟩, fun x H' y => hs i x σ H H' h p (wk.yl i H x H' h s y)⟩
  · subst h
    exact .inl ⟨wk.st H s, hd σ H p⟩
theorem lpC_by {tt : TT} {te : TE} {vs : List Nat} {Q : VK} (wk : Wk J n S Y) (Pv : Addr → Nat → Hp → Prop) (h0 : ∀ D, H D = none → Pv D 0 (upd H D (.lst []))) (hl : ∀ D i H, i ≤ n → Pv D i H → S H)
    (hs : ∀ D i x H H', i < n → Pv D i H → Y i H x H' → g x (wipe σ vs) H' fun σ2 H2 => wipe σ2 vs = wipe σ vs ∧ tt σ2 H2 fun b H3 =>
      if b = true then te σ2 H3 fun y H4 => ∃ acc, H4 D = some (.lst acc) ∧ acc.length < sizeLine ∧ Pv D (i + 1) (upd H4 D (.lst (acc ++ [y]))) else Pv D (i + 1) H3) (hd : ∀ D H', H D = none → Pv D n H' → Q (.ref D) H') : LpC g tt te vs σ Q J H := by
  intro D nD
  refine ⟨fun i m H => m = n - i ∧ i ≤ n ∧ Pv D i H, ⟨n, by simp, Nat.zero_le _, h0 D nD⟩, fun i m H1 h => ?_⟩
  obtain ⟨rfl, hi, p⟩ := h
  have s := hl D i H1 hi p
  rcases Nat.lt_or_eq_of_le hi with h | h
  · exact .inr ⟨wk.go i H1 h s, Pv D (i + 1), fun H' p' => ⟨n - (i + 1), by omega, rfl, h, p'⟩, fun x H' y => hs D i x H1 H' h p (wk.yl i H1 x H' h s y)⟩
  · subst h
    exact .inl ⟨wk.st H1 s, hd D H1 nD p⟩
/-- the inner clause's walk -/
def In1 (g1 : TG) (tt1 : TT) (te : TE) (vs1 : List Nat) (D : Addr) (Nx : Hp → Prop) (σ2 : St) (J1 : It) (H4 : Hp) : Prop := ∃ W1 : Nat → Nat → Hp → Prop, (∃ m, W1 0 m H4) ∧ ∀ j k H, W1 j k H →
  (J1.stop j H ∧ Nx H) ∨ (J1.go j H ∧ ∃ Nx1 : Hp → Prop, (∀ H', Nx1 H' → ∃ k', k' < k ∧ W1 (j + 1) k' H') ∧ ∀ x H', J1.yld j H x H' → g1 x (wipe σ2 vs1) H' fun σ3 H5 => wipe σ3 vs1 = wipe σ2 vs1 ∧ tt1 σ3 H5 fun b H6 =>
    if b = true then te σ3 H6 fun y H7 => ∃ acc, H7 D = some (.lst acc) ∧ acc.length < sizeLine ∧ Nx1 (upd H7 D (.lst (acc ++ [y]))) else Nx1 H6)
def LpC2 (g : TG) (tt : TT) (wi1 : TI) (g1 : TG) (tt1 : TT) (te : TE) (vs vs1 : List Nat) (σ : St) (Q : VK) (J : It) (H1 : Hp) : Prop := ∀ D, H1 D = none → ∃ W : Nat → Nat → Hp → Prop, (∃ m, W 0 m (upd H1 D (.lst []))) ∧ ∀ i m H, W i m H →
  (J.stop i H ∧ Q (.ref D) H) ∨ (J.go i H ∧ ∃ Nx : Hp → Prop, (∀ H', Nx H' → ∃ m', m' < m ∧ W (i + 1) m' H') ∧ ∀ x H', J.yld i H x H' → g x (wipe σ vs) H' fun σ2 H2 => wipe σ2 vs = wipe σ vs ∧ tt σ2 H2 fun b H3 =>
    if b = true then wi1 σ2 H3 fun J1 H4 => In1 g1 tt1 te vs1 D Nx σ2 J1 H4 else Nx H3)
theorem tLc2_eq {wi wi1 : TI} {g1 : TG} {tt tt1 : TT} {te : TE} {vs vs1 : List Nat} {Q : VK} : tLc2 wi g tt wi1 g1 tt1 te vs vs1 σ H Q = wi σ H fun J H1 => LpC2 g tt wi1 g1 tt1 te vs vs1 σ Q J H1 := rfl
theorem in1_by {g1 : TG} {tt1 : TT} {te : TE} {vs1 : List Nat} {D : Addr} {Nx : Hp → Prop} (wk : Wk J n S Y) (Pw : Nat → Hp → Prop) (h0 : Pw 0 H) (hl : ∀ i H, i ≤ n → Pw i H → S H)
    (hs : ∀ i x H H', i < n → Pw i H → Y i H x H' → g1 x (wipe σ vs1) H' fun σ3 H5 => wipe σ3 vs1 = wipe σ vs1 ∧ tt1 σ3 H5 fun b H6 =>
      if b = true then te σ3 H6 fun y H7 => ∃ acc, H7 D = some (.lst acc) ∧ acc.length < sizeLine ∧ Pw (i + 1) (upd H7 D (.lst (acc ++ [y]))) else Pw (i + 1) H6) (hd : ∀ H, Pw n H → Nx H) : In1 g1 tt1 te vs1 D Nx σ J H := by
  refine ⟨fun i m H => m = n - i ∧ i ≤ n ∧ Pw i H, ⟨n, by simp, Nat.zero_le _, h0⟩, fun i m H1 h => ?_⟩
  obtain ⟨rfl, hi, p⟩ := h
  have s := hl i H1 hi p
  rcases Nat.lt_or_eq_of_le hi with h | h
  · exact .inr ⟨wk.go i H1 h s, Pw (i + 1), fun H' p' => ⟨n - (i + 1), by omega, rfl, h, p'⟩, fun x H' y => hs i x H1 H' h p (wk.yl i H1 x H' h s y)⟩
  · subst h
    exact .inl ⟨wk.st H1 s, hd H1 p⟩
theorem lpC2_by {wi1 : TI} {g1 : TG} {tt tt1 : TT} {te : TE} {vs vs1 : List Nat} {Q : VK} (wk : Wk J n S Y) (Pv : Addr → Nat → Hp → Prop) (h0 : ∀ D, H D = none → Pv D 0 (upd H D (.lst []))) (hl : ∀ D i H, i ≤ n → Pv D i H → S H)
    (hs : ∀ D i x H H', i < n → Pv D i H → Y i H x H' → g x (wipe σ vs) H' fun σ2 H2 => wipe σ2 vs = wipe σ vs ∧ tt σ2 H2 fun b H3 =>
      if b = true then wi1 σ2 H3 fun J1 H4 => In1 g1 tt1 te vs1 D (Pv D (i + 1)) σ2 J1 H4 else Pv D (i + 1) H3) (hd : ∀ D H', H D = none → Pv D n H' → Q (.ref D) H') : LpC2 g tt wi1 g1 tt1 te vs vs1 σ Q J H := by
  intro D nD
  refine ⟨fun i m H => m = n - i ∧ i ≤ n ∧ Pv D i H, ⟨n, by simp, Nat.zero_le _, h0 D nD⟩, fun i m H1 h => ?_⟩
  obtain ⟨rfl, hi, p⟩ := h
  have s := hl D i H1 hi p
  rcases Nat.lt_or_eq_of_le hi with h | h
  · exact .inr ⟨wk.go i H1 h s, Pv D (i + 1), fun H' p' => ⟨n - (i + 1), by omega, rfl, h, p'⟩, fun x H' y => hs D i x H1 H' h p (wk.yl i H1 x H' h s y)⟩
  · subst h
    exact .inl ⟨wk.st H1 s, hd D H1 nD p⟩
end
end L2

set_option Elab.async false
set_option linter.all false
set_option maxRecDepth 100000
set_option maxHeartbeats 4000000
namespace K05
open PySem L2
def top (i : Nat) : Stmt := PySem.Challenge.pw_knownguards_k05_whole_closed_lots_of_wor.main.body.getD i (.Pass ⟨0, 0, 0, 0⟩)
abbrev sParts : Stmt := top 1
abbrev sHeld : Stmt := top 2
abbrev sOnce : Stmt := top 3
abbrev sBags : Stmt := top 4
abbrev sClosed : Stmt := top 5
abbrev sHand : Stmt := top 7
abbrev sMixed : Stmt := top 8
abbrev sTake : Stmt := top 9
abbrev sIsW : Stmt := top 10
abbrev sExact : Stmt := top 11
abbrev sGiven : Stmt := top 12
abbrev sPool : Stmt := top 13
abbrev sPick : Stmt := top 14
abbrev sName : Stmt := top 15
abbrev sPicks : Stmt := top 16
abbrev sTurned : Stmt := top 17
abbrev sGrow : Stmt := top 18
abbrev sUnlike : Stmt := top 19
abbrev sPartsD : Stmt := top 20
abbrev sBagsD : Stmt := top 21
abbrev sClosedD : Stmt := top 22
abbrev sIsC : Stmt := top 23
abbrev sLaw : Stmt := top 24
/-! what of the names the top leaves as they are -/
structure Bt (mg : Str → Option Value) : Prop where
  len : mg "len" = none
  int : mg "int" = none
  abs : mg "abs" = none
  bool : mg "bool" = none
  list : mg "list" = none
  tuple : mg "tuple" = none
  range : mg "range" = none
  isi : mg "isinstance" = none
  sorted : mg "sorted" = none
  sum : mg "sum" = none
  all : mg "all" = none
  enum : mg "enumerate" = none
/-! ### the hand -/
def But (p : Addr) (H H' : Hp) : Prop := ∀ b o, b ≠ p → H b = some o → H' b = some o
theorem But.trans {p : Addr} {H H1 H2 : Hp} (a : But p H H1) (b : But p H1 H2) : But p H H2 := fun c o n e => b c o n (a c o n e)
theorem But.refl (p : Addr) (H : Hp) : But p H H := fun _ _ _ e => e
theorem But.of {p : Addr} {H H' : Hp} (s : Same H H') : But p H H' := fun b o _ e => s b o e
structure HandS (H : Hp) (p c : Addr) (cs : List Int) (i big tot : Int) : Prop where
  hp : H p = some (.lst [.ref c, .int i, .int big, .int tot])
  hc : H c = some (.lst (cs.map V.int))
  nn : ∀ z ∈ cs, 0 ≤ z
  ln : cs.length ≤ 63
  b0 : 0 ≤ big
  i0 : 0 ≤ i
def HandAt (H : Hp) (p c : Addr) : Prop := ∃ cs i big tot, HandS H p c cs i big tot
theorem HandS.ne {H : Hp} {p c : Addr} {cs : List Int} {i big tot : Int} (h : HandS H p c cs i big tot) : c ≠ p := fun e => by
  have h1 := h.hc
  rw [e, h.hp] at h1
  have h2 := HO.lst.inj (Option.some.inj h1)
  cases cs with
  | nil => cases h2
  | cons a r =>
    rw [List.map_cons] at h2
    cases (List.cons.inj h2).1
theorem HandS.put {H : Hp} {p c : Addr} {cs : List Int} {i j big b2 tot t2 : Int} (h : HandS H p c cs i big tot) (hb : 0 ≤ b2) (hj : 0 ≤ j) : HandS (upd H p (.lst [.ref c, .int j, .int b2, .int t2])) p c cs j b2 t2 :=
  ⟨upd_same, by rw [upd_ne h.ne]; exact h.hc, h.nn, h.ln, hb, hj⟩
theorem But.upd {H : Hp} {p : Addr} {o : HO} : But p H (upd H p o) := fun b u n e => by rw [upd_ne n]; exact e
theorem HandAt.same {H H' : Hp} {p c : Addr} (h : HandAt H p c) (s : Same H H') : HandAt H' p c := by
  obtain ⟨cs, i, big, tot, h⟩ := h
  exact ⟨cs, i, big, tot, s _ _ h.hp, s _ _ h.hc, h.nn, h.ln, h.b0, h.i0⟩
/-! ### promises -/
def spHand (K : PySem.W.Frag) : Sp := fun vs H Q _ => ∃ (a : Addr) (ns : List Int), vs = [.ref a] ∧ SqL K H a (ns.map V.int) ∧ ns.length ≤ 63 ∧ ∀ p c H', HandAt H' p c → H p = none → Same H H' → Q (.ref p) H'
def spMixed : Sp := fun vs H Q _ => ∃ (a b : Int), vs = [.int a, .int b] ∧ ∀ r : Int, Q (.int r) H
def spTake : Sp := fun vs H Q _ => ∃ (p c : Addr) (m : Int), vs = [.ref p, .int m] ∧ 0 < m ∧ m < 2 ^ 64 ∧ HandAt H p c ∧ ∀ (r : Int) H', 0 ≤ r → r < m → HandAt H' p c → But p H H' → Q (.int r) H'
section
variable {P : Program} {w : World} {K : PySem.W.Frag} {mg : Str → Option Value} {base : Heap}
theorem take_abs {ns : List Int} {i : Nat} {z : Int} (h : ns[i]? = some z) : ((ns.take (i + 1)).map fun x : Int => if x < 0 then -x else x) = ((ns.take i).map fun x : Int => if x < 0 then -x else x) ++ [if z < 0 then -z else z] := by
  rw [List.take_add_one, h]
  simp
theorem item_int {ns : List Int} {i : Nat} {y : V} (hi : (ns.map V.int)[i]? = some y) : ∃ z, ns[i]? = some z ∧ y = V.int z := by
  rw [List.getElem?_map] at hi
  cases e : ns[i]? with
  | none => rw [e] at hi; cases hi
  | some z => rw [e] at hi; exact ⟨z, rfl, (Option.some.inj hi).symm⟩
end


set_option Elab.async false
set_option linter.all false
set_option maxRecDepth 100000
set_option maxHeartbeats 4000000
open PySem L2
local macro_rules | `(tactic| walk_at "rd") => `(tactic| simp only [L2.start, tSeq, tAsg, gName, tRet, tRetN, tVar, tC, tOp, tUn, rU, tCB, tCons, tNil, tNext, tIfS, tTest, tB, tNot, tNotV, tAnd, tOr, tAndV, tOrV, tIf, tDrop, rI0, rI, CMul, CDiv, CPow, tLst, tTup, tCal, tCall, gSub, rIsi, rIsiT, tOxf, rIn, tFor_eq, tLc_eq, tYes, wipe, tSl, tNoPart, tPart, rSlA, iTup, iList, iRng1, iRng2, tDNewK, tCallN, rEq_int, rEq_str, rEq_bl, rNe_int, rNe_str, rNe_bl, atI_0, atI_1, atI_2, atI_3, cxOf_K, nox_K, upd_upd, List.length_map, rIxL, rIxT, tBM, tBM0, rAppend, gTup, gCons, gNil, tLc2_eq, StX.tStar, iEnum, iEnT,
  List.length_cons, List.length_nil, List.replicate, List.map_cons, List.map_nil, List.cons_append, List.nil_append, List.getElem?_cons_zero, List.getElem?_cons_succ, List.set_cons_zero, List.set_cons_succ,
  Option.some.injEq, V.int.injEq, V.bl.injEq, V.ref.injEq, V.str.injEq, V.ty.injEq, exists_eq_left', exists_eq_left, exists_and_left, exists_eq', and_assoc, List.cons.injEq, and_true, true_and, List.cons_ne_nil, and_false, or_false, false_or, false_and, exists_false, reduceCtorEq,
  Nat.sub_zero, Nat.zero_add, Nat.reduceAdd, Nat.reduceSub, Nat.add_zero, Bool.not_eq_true', decide_eq_true_eq, decide_eq_false_iff_not, Bool.not_true, Bool.not_false, Bool.false_eq_true, if_true, if_false, ite_true, ite_false, Int.reduceNeg, Int.reducePow, Int.reduceLT, Int.reduceLE, or_true, true_or])
local macro_rules | `(tactic| walk_at "at") => `(tactic| first | assumption | exact upd_same | (rw [upd_ne (by assumption)]; first | assumption | exact upd_same))
local macro_rules | `(tactic| walk_at "lk") => `(tactic| first
  | refine ⟨_, SqL.of (by walk_at "at"), ?_⟩
  | refine ⟨_, SqT.of (by walk_at "at"), ?_⟩
  | refine ⟨_, Or.inl (SqL.of (by walk_at "at")), ?_⟩
  | refine ⟨_, Or.inr (SqT.of (by walk_at "at")), ?_⟩
  | refine set_0 (by walk_at "at") ?_ | refine set_1 (by walk_at "at") ?_ | refine set_2 (by walk_at "at") ?_ | refine set_3 (by walk_at "at") ?_)
local macro_rules | `(tactic| walk_at "go") => `(tactic| repeat (first | walk_at "lk" | walk_at "rd"))

section
variable {P : Program} {w : World} {K : PySem.W.Frag} {mg : Str → Option Value} {base : Heap}
theorem scMixed : FnScope ["_law_number", "_law_turn", "_law_once", "_law_twice"] ["_law_number", "_law_turn"] (defScope sMixed) := ⟨rfl, rfl, rfl, by decide +kernel, rfl, by decide +kernel, by decide +kernel⟩
theorem ok_mixed (D : DefAt K mg "_law_mixed" sMixed) (B : Bt mg) : Cal P w K mg base CX0 1 "_law_mixed" ["_law_number", "_law_turn"] spMixed := by
  refine D.cal (fun _ _ _ _ _ _ us hl => match us, hl with | [_, _], _ => rfl) fun f fd F => ?_
  refine F.ok scMixed (fun vs H Q E h => ?_) (fun cdv A outer s H vs Q E hr h => ?_)
  · obtain ⟨a, b, rfl, _⟩ := h
    rfl
  · obtain ⟨a, b, rfl, k⟩ := h
    refine ⟨_, (pss_cons (ps_set (i := 2) scMixed.nd rfl (Or.inl rfl) (pe_op op_mod (pe_callTy call_int1 (by rfl) B.int (by decide +kernel) (pa_cons (pe_op op_add (pe_op op_add (pe_op op_mul (pv 0) pe_int) (pe_op op_mul (pv 1) pe_int)) pe_int) pa_nil)) pe_int))
  (pss_cons (ps_set (i := 3) scMixed.nd rfl (Or.inl rfl) (pe_op op_mod (pe_callTy call_int1 (by rfl) B.int (by decide +kernel) (pa_cons (pe_op op_add (pe_op op_add (pe_op op_mul (pv 2) (pv 2)) (pe_op op_mul (pv 1) pe_int)) (pe_op op_fdiv (pv 2) pe_int)) pa_nil)) pe_int))
  (pss_one (ps_ret (pe_op op_fdiv (pe_callTy call_int1 (by rfl) B.int (by decide +kernel) (pa_cons (pe_op op_mod (pe_callTy call_int1 (by rfl) B.int (by decide +kernel) (pa_cons (pe_op op_add (pe_op op_mul (pv 3) pe_int) (pe_op op_fdiv (pv 2) pe_int)) pa_nil)) pe_int) pa_nil)) pe_int))))), ?_⟩
    walk_at "rd"
    exact ⟨by omega, k _⟩
theorem scHand : FnScope ["_law_script", "_law_total", "_law_cells", "_law_cell"] ["_law_script"] (defScope sHand) := ⟨rfl, rfl, rfl, by decide +kernel, rfl, by decide +kernel, by decide +kernel⟩
theorem ok_hand (D : DefAt K mg "_law_hand" sHand) (B : Bt mg) : Cal P w K mg base CX0 1 "_law_hand" ["_law_script"] (spHand K) := by
  refine D.cal (fun _ _ _ _ _ _ us hl => match us, hl with | [_], _ => rfl) fun f fd F => ?_
  refine F.ok scHand (fun vs H Q E h => ?_) (fun cdv A outer s H vs Q E hr h => ?_)
  · obtain ⟨a, ns, rfl, _⟩ := h
    rfl
  · obtain ⟨a, ns, rfl, hS, hlen, k⟩ := h
    refine ⟨_, (pss_cons (ps_set (i := 1) scHand.nd rfl (Or.inl rfl) (pe_op op_add (pe_callB call_len_seq (by rfl) B.len PySem.boot_len (pa_cons (pv 0) pa_nil)) pe_int))
  (pss_cons (ps_set (i := 2) scHand.nd rfl (Or.inl rfl) (pe_lst pa_nil))
  (pss_cons (ps_for PassesOwn.never rfl (pi_list (pv 0)) (pg_name (i := 3) scHand.nd rfl (Or.inl rfl)) (pss_cons (ps_set (i := 1) scHand.nd rfl (Or.inl rfl) (pe_op op_mod (pe_callTy call_int1 (by rfl) B.int (by decide +kernel) (pa_cons (pe_op op_add (pe_op op_mul (pv 1) pe_int) (pe_callTy call_int1 (by rfl) B.int (by decide +kernel) (pa_cons (pv 3) pa_nil))) pa_nil)) pe_int))
  (pss_one (ps_expr (pe_bm PySem.F.plainAttrs_list PySem.F.slot_list_append PySem.F.type_list_append mt_append (pv 2) (pa_cons (pe_callB call_abs (by rfl) B.abs (by decide +kernel) (pa_cons (pe_callTy call_int1 (by rfl) B.int (by decide +kernel) (pa_cons (pv 3) pa_nil)) pa_nil)) pa_nil))))))
  (pss_one (ps_ret (pe_lst (pa_cons (pv 2) (pa_cons pe_int (pa_cons pe_int (pa_cons (pv 1) pa_nil)))))))))), ?_⟩
    walk_at "rd"
    refine ⟨_, .inl hS, Nat.zero_le _, fun c hc => ?_⟩
    have sc : Same H (upd H c (.lst [])) := fun b o e => by rw [upd_ne (ne_of_none e hc)]; exact e
    walk_at "rd"
    refine ⟨⟨_, sc.seq hS⟩, for_list (K := K) (a := a) (xs := ns.map V.int) (fun i σ H2 => ∃ (t : Int) (v : Option V), σ = [some (.ref a), some (.int t), some (.ref c), v] ∧ Same H H2 ∧ H2 c = some (.lst (((ns.take i).map fun x : Int => if x < 0 then -x else x).map V.int)))
      ⟨_, none, rfl, sc, upd_same⟩ (fun i σ H2 _ ⟨_, _, _, s2, _⟩ => s2.seq hS) ?_ ?_⟩
    · rintro i y σ H2 hi ⟨t, v, rfl, s2, h2⟩
      obtain ⟨z, hz, rfl⟩ := item_int hi
      have hil : i < ns.length := (List.getElem?_eq_some_iff.mp hz).1
      walk_at "rd"
      refine ⟨.inl ⟨rfl, _, SqL.of h2⟩, _, h2, ?_, fun b o e => ?_, ?_⟩
      · rw [List.length_map, List.length_map, List.length_take]
        exact Nat.lt_of_le_of_lt (show min i ns.length ≤ 63 by omega) (by decide)
      · rw [upd_ne (ne_of_none e hc)]
        exact s2 b o e
      · rw [upd_same, take_abs hz, List.map_append]
        rfl
    · rintro σ H2 ⟨t, v, rfl, s2, h2⟩
      walk_at "rd"
      refine ⟨by decide, fun p hp => ?_⟩
      have sp : Same H (upd H2 p (.lst [.ref c, .int 0, .int 0, .int t])) := fun b o e => by rw [upd_ne (ne_of_none (s2 b o e) hp)]; exact s2 b o e
      refine k p c _ ⟨_, 0, 0, t, upd_same, by rw [upd_ne (ne_of_none h2 hp)]; exact h2, ?_, ?_, Int.le_refl 0, Int.le_refl 0⟩ (s2.free hp) sp
      · intro z hz
        obtain ⟨x, _, rfl⟩ := List.mem_map.mp hz
        split <;> omega
      · rw [List.length_map, List.length_take]
        omega
theorem scTake : FnScope ["_law_hand_here", "_law_many", "_law_cell", "_law_rest"] ["_law_hand_here", "_law_many"] (defScope sTake) := ⟨rfl, rfl, rfl, by decide +kernel, rfl, by decide +kernel, by decide +kernel⟩
theorem ok_take (D : DefAt K mg "_law_take" sTake) (B : Bt mg) (C_mixed : Cal P w K mg base CX0 1 "_law_mixed" ["_law_number", "_law_turn"] spMixed) : Cal P w K mg base CX0 2 "_law_take" ["_law_hand_here", "_law_many"] spTake := by
  refine D.cal (fun _ _ _ _ _ _ us hl => match us, hl with | [_, _], _ => rfl) fun f fd F => ?_
  refine F.ok scTake (fun vs H Q E h => ?_) (fun cdv A outer s H vs Q E HR h => ?_)
  · obtain ⟨p, c, m, rfl, _⟩ := h
    rfl
  · obtain ⟨p, c, m, rfl, m0, m1, ⟨cs, i, big, tot, hh⟩, k⟩ := h
    refine ⟨_, (pss_cons (ps_if (PW.pt (pw_and (pt_cmpR op_eq (pe_ix ix_list (pv 0) pe_int (fun _ _ => rfl)) pe_int (nomark _)) (pw_and1 (pt_cmpR op_lt (pe_ix ix_list (pv 0) pe_int (fun _ _ => rfl)) (pe_callB call_len_seq (by rfl) B.len PySem.boot_len (pa_cons (pe_ix ix_list (pv 0) pe_int (fun _ _ => rfl)) pa_nil)) (nomark _))))) (pss_cons (ps_set (i := 2) scTake.nd rfl (Or.inl rfl) (pe_ix ix_list (pe_ix ix_list (pv 0) pe_int (fun _ _ => rfl)) (pe_ix ix_list (pv 0) pe_int (fun _ _ => rfl)) (fun _ _ => rfl)))
  (pss_cons (ps_asg (pe_op op_add (pe_ix ix_list (pv 0) pe_int (fun _ _ => rfl)) pe_int) (pg_sub (pv 0) pe_int set_list))
  (pss_cons (ps_if (pt_cmpR op_lt (pv 2) (pe_op op_pow pe_int pe_int) (nomark _)) (pss_one (ps_ret (pe_op op_mod (pe_callTy call_int1 (by rfl) B.int (by decide +kernel) (pa_cons (pe_cal C_mixed (by rfl) HR pass0 (pa_cons (pe_op op_mod (pe_callTy call_int1 (by rfl) B.int (by decide +kernel) (pa_cons (pv 2) pa_nil)) pe_int) (pa_cons (pe_ix ix_list (pv 0) pe_int (fun _ _ => rfl)) pa_nil))) pa_nil)) (pv 1)))) pss_nil)
  (pss_one (ps_asg (pv 2) (pg_sub (pv 0) pe_int set_list)))))) pss_nil)
  (pss_cons (ps_if (pt_cmpR op_gt (pe_ix ix_list (pv 0) pe_int (fun _ _ => rfl)) pe_int (nomark _)) (pss_cons (ps_set (i := 3) scTake.nd rfl (Or.inl rfl) (pe_ix ix_list (pv 0) pe_int (fun _ _ => rfl)))
  (pss_cons (ps_asg (pe_op op_fdivW (pe_callTy call_int1 (by rfl) B.int (by decide +kernel) (pa_cons (pv 3) pa_nil)) (pv 1)) (pg_sub (pv 0) pe_int set_list))
  (pss_one (ps_ret (pe_op op_mod (pe_callTy call_int1 (by rfl) B.int (by decide +kernel) (pa_cons (pv 3) pa_nil)) (pv 1)))))) pss_nil)
  (pss_cons (ps_asg (pe_op op_mod (pe_callTy call_int1 (by rfl) B.int (by decide +kernel) (pa_cons (pe_op op_add (pe_ix ix_list (pv 0) pe_int (fun _ _ => rfl)) pe_int) pa_nil)) pe_int) (pg_sub (pv 0) pe_int set_list))
  (pss_one (ps_ret (pe_op op_mod (pe_callTy call_int1 (by rfl) B.int (by decide +kernel) (pa_cons (pe_cal C_mixed (by rfl) HR pass0 (pa_cons (pe_ix ix_list (pv 0) pe_int (fun _ _ => rfl)) (pa_cons (pe_ix ix_list (pv 0) pe_int (fun _ _ => rfl)) pa_nil))) pa_nil)) (pv 1))))))), ?_⟩
    have hp := hh.hp
    have hc := hh.hc
    walk_at "go"
    have i0 := hh.i0
    have fin : ∀ (r i' b' t' : Int), 0 ≤ i' → 0 ≤ b' → Q (.int (r % m)) (upd H p (.lst [.ref c, .int i', .int b', .int t'])) := fun r i' b' t' h1 h2 =>
      k _ _ (Int.emod_nonneg _ (by omega)) (Int.emod_lt_of_pos _ m0) ⟨cs, _, _, _, hh.put h2 h1⟩ But.upd
    have mx : ∀ (a b : Int) (H' : Hp) (Q' : VK), (∀ r : Int, Q' (.int r) H') → spMixed [.int a, .int b] H' Q' E0 := fun a b H' Q' q => ⟨a, b, rfl, q⟩
    have wd : ∀ z : Int, CDivW z m := fun z => wide_div m0 (b := 64) (by have : ((m.natAbs : Nat) : Int) < 2 ^ 64 := by omega
                                                                         exact_mod_cast this) (by decide) (by decide)
    have end2 : ∀ (i' b' : Int), 0 ≤ i' → 0 ≤ b' → True := fun _ _ _ _ => trivial
    by_cases hb : big = 0
    · rw [if_pos hb]
      subst hb
      walk_at "go"
      by_cases hi : i < cs.length
      · rw [if_pos (by omega)]
        obtain ⟨z, hz⟩ : ∃ z, cs[i.toNat]? = some z := ⟨_, List.getElem?_eq_getElem (by omega)⟩
        have z0 : 0 ≤ z := hh.nn z (List.mem_of_getElem? hz)
        have hzz : atI (cs.map V.int) i = some (.int z) := atI_int i0 (by rw [List.getElem?_map, hz]; rfl)
        walk_at "go"
        refine ⟨_, hzz, ?_⟩
        walk_at "go"
        refine ⟨by decide, ?_⟩
        refine ite2 (fun _ => ?_) (fun _ => ?_)
        · walk_at "go"
          exact mx _ _ _ _ (fun r => .inl ⟨r, rfl, m0, fin _ _ _ _ (by omega) (Int.le_refl 0)⟩)
        · walk_at "go"
          refine ite2 (fun _ => ?_) (fun _ => ?_)
          · walk_at "go"
            refine ⟨wd _, ?_⟩
            walk_at "go"
            exact ⟨m0, fin _ _ _ _ (by omega) (Int.ediv_nonneg z0 (by omega))⟩
          · walk_at "go"
            exact mx _ _ _ _ (fun r => .inl ⟨r, rfl, m0, fin _ _ _ _ (by omega) z0⟩)
      · rw [if_neg (by omega)]
        walk_at "go"
        exact mx _ _ _ _ (fun r => .inl ⟨r, rfl, m0, fin _ _ _ _ i0 (Int.le_refl 0)⟩)
    · have b0 := hh.b0
      rw [if_neg hb]
      walk_at "go"
      refine ite2 (fun _ => ?_) (fun _ => ?_)
      · walk_at "go"
        refine ⟨wd _, ?_⟩
        walk_at "go"
        exact ⟨m0, fin _ _ _ _ i0 (Int.ediv_nonneg b0 (by omega))⟩
      · walk_at "go"
        exact mx _ _ _ _ (fun r => .inl ⟨r, rfl, m0, fin _ _ _ _ i0 b0⟩)
end


set_option Elab.async false
set_option linter.all false
set_option maxRecDepth 100000
set_option maxHeartbeats 4000000
open PySem L2


theorem Room.u70 {k : Nat} {A : Around} (r : L2.Room k A) : A.units + 200 < cLine := by have := r.un; omega
theorem same_new {H : Hp} {p : Addr} {o : HO} (n : H p = none) : Same H (upd H p o) := fun b u e => by rw [upd_ne (ne_of_none e n)]; exact e
theorem seq_same {K : PySem.W.Frag} {H H' : Hp} {a : Addr} {ws : List V} (s : Same H H') (h : SqL K H a ws ∨ SqT K H a ws) : SqL K H' a ws ∨ SqT K H' a ws := h.imp (fun h => s.seq h) fun h => h.kt (Kt.same s)
theorem atI_last {α : Type} (f : List α) (l : α) : atI (f ++ [l]) (-1) = some l := by
  unfold atI ixN
  rw [if_neg (by omega), if_pos (by rw [List.length_append]; simp; omega)]
  rw [show ((-1 : Int) + ((f ++ [l]).length : Nat)).toNat = f.length by rw [List.length_append]; simp; omega]
  show (f ++ [l])[f.length]? = some l
  simp
theorem asc_add {us : List Tr} {x : Tr} (h : Tr.Asc us) (k : ∀ u ∈ us, Tr.lt u x = true) : Tr.Asc (us ++ [x]) := List.pairwise_append.mpr ⟨h, List.pairwise_singleton _ _, fun a m b mb => by rw [List.mem_singleton.mp mb]; exact k a m⟩
/-- a list of trees at p -/
def LsAt (K : PySem.W.Frag) (H : Hp) (p : Addr) (xs : List Tr) : Prop := ∃ vs, H p = some (.lst vs) ∧ Ats K H vs xs
def spOnce (K : PySem.W.Frag) : Sp := fun vs H Q _ => ∃ v xs, vs = [v] ∧ Seq2 K H v xs ∧ (∀ x ∈ xs, ∀ y ∈ xs, Tr.Ak x y) ∧ SortOk (xs.map Tr.toD) ∧ (∀ x ∈ xs, x.dep ≤ 190) ∧ xs.length ≤ sizeLine ∧
  ∀ p us H', Same H H' → H p = none → LsAt K H' p us → Tr.Asc us → (∀ z, z ∈ us ↔ z ∈ xs) → Q (.ref p) H'
structure On (K : PySem.W.Frag) (H : Hp) (a p sp : Addr) (ys : List V) (us : List Tr) (i : Nat) (σ : St) (H2 : Hp) : Prop where
  ex : ∃ us' vs' t, σ = [some (.ref a), some (.ref p), t] ∧ Same H H2 ∧ H2 sp = some (.lst ys) ∧ Ats K H2 ys us ∧ H2 p = some (.lst vs') ∧ Ats K H2 vs' us' ∧ Tr.Asc us' ∧ us'.length ≤ i ∧ ∀ z, z ∈ us' ↔ z ∈ us.take i
theorem Ats.split {K : PySem.W.Frag} {H : Hp} : ∀ {vf : List V} {vl : V} {xs : List Tr}, Ats K H (vf ++ [vl]) xs → ∃ uf ul, xs = uf ++ [ul] ∧ Ats K H vf uf ∧ At K H vl ul
  | [], vl, _, .cons a .nil => ⟨[], _, rfl, .nil, a⟩
  | v :: vf, vl, _, .cons a t => by
    obtain ⟨uf, ul, rfl, h1, h2⟩ := Ats.split t
    exact ⟨_ :: uf, ul, rfl, .cons a h1, h2⟩
section
variable {P : Program} {w : World} {K : PySem.W.Frag} {mg : Str → Option Value} {base : Heap}
theorem scOnce : FnScope ["things", "unlike", "thing"] ["things"] (defScope sOnce) := ⟨rfl, rfl, rfl, by decide +kernel, rfl, by decide +kernel, by decide +kernel⟩
theorem ok_once (D : DefAt K mg "each_once" sOnce) (B : Bt mg) : Cal P w K mg base CX0 1 "each_once" ["things"] (spOnce K) := by
  refine D.cal (fun _ _ _ _ _ _ us hl => match us, hl with | [_], _ => rfl) fun f fd F => ?_
  refine F.ok scOnce (fun vs H Q E h => ?_) (fun cdv A outer s H vs Q E HR h => ?_)
  · obtain ⟨v, xs, rfl, _⟩ := h
    rfl
  · obtain ⟨v, xs, rfl, ⟨a, ws, rfl, hs, hA⟩, ak, so, dp, hz, k⟩ := h
    refine ⟨_, (pss_cons (ps_set (i := 1) scOnce.nd rfl (Or.inl rfl) (pe_lst pa_nil))
  (pss_cons (ps_for PassesOwn.never rfl (pi_list (pe_callB (cr_sortD (Room.u70 HR)) (by rfl) B.sorted (by decide +kernel) (pa_cons (pv 0) pa_nil))) (pg_name (i := 2) scOnce.nd rfl (Or.inl rfl)) (pss_one (ps_if (PW.pt (pw_or (pt_not (pt_truth (pv 1) (by intro _; rfl))) (pw_or1 (pt_cmpR (op_neT (Room.u70 HR)) (pe_ix ix_list (pv 1) (pe_un un_neg pe_int) (fun _ _ => rfl)) (pv 2) (nomark _))))) (pss_one (ps_expr (pe_bm PySem.F.plainAttrs_list PySem.F.slot_list_append PySem.F.type_list_append mt_append (pv 1) (pa_cons (pv 2) pa_nil)))) pss_nil)))
  (pss_one (ps_ret (pv 1))))), ?_⟩
    walk_at "go"
    refine ⟨Nat.zero_le _, fun p np => ⟨a, ws, xs, rfl, seq_same (same_new np) hs, hA.kt (Kt.new np), ak, so, dp, fun sp us ys ns pr pw hy => ?_⟩⟩
    have ms : ∀ z, z ∈ us ↔ z ∈ xs := fun z => pr.mem_iff
    have hsp : sp ≠ p := fun e => by rw [e, upd_same] at ns; cases ns
    have nsp : H sp = none := by rw [upd_ne hsp] at ns; exact ns
    walk_at "go"
    refine ⟨⟨_, SqL.of upd_same⟩, for_list (K := K) (a := sp) (xs := ys) (On K H a p sp ys us) ⟨[], [], none, rfl, ?_, upd_same, hy.kt (Kt.new ns), ?_, .nil, .nil, Nat.le_refl _, fun z => by simp⟩ ?_ ?_ ?_⟩
    · exact fun b o e => by rw [upd_ne (ne_of_none e nsp), upd_ne (ne_of_none e np)]; exact e
    · rw [upd_ne (Ne.symm hsp)]; exact upd_same
    · rintro i σ H2 _ ⟨_, _, _, _, _, h2, _⟩
      exact SqL.of h2
    · rintro i y σ H2 hi ⟨us', vs', t, rfl, s2, h2, hy2, hp2, hv, asc, hl, mem⟩
      obtain ⟨x, hx, ax⟩ := hy2.get hi
      have il : i < us.length := (List.getElem?_eq_some_iff.mp hx).1
      have ul : us.length ≤ sizeLine := by rw [pr.length_eq]; exact hz
      have tk : us.take (i + 1) = us.take i ++ [x] := by rw [List.take_add_one, hx]; rfl
      have memx : ∀ u ∈ us', Tr.Ak u x ∧ Tr.lt x u = false := fun u m => by
        have m2 := (mem u).mp m
        refine ⟨ak u ((ms u).mp (List.mem_of_mem_take m2)) x ((ms x).mp (List.mem_of_getElem? hx)), ?_⟩
        have q := List.pairwise_append.mp (by rw [List.take_append_drop]; exact pw : ((us.take i) ++ (us.drop i)).Pairwise _)
        exact q.2.2 u m2 x (by rw [List.drop_eq_getElem_cons il]; rw [List.getElem?_eq_getElem il] at hx; rw [Option.some.inj hx]; exact List.mem_cons_self)
      have put : (∀ u ∈ us', Tr.lt u x = true) → On K H a p sp ys us (i + 1) [some (.ref a), some (.ref p), some y] (upd H2 p (.lst (vs' ++ [y]))) := fun lt => by
        refine ⟨us' ++ [x], vs' ++ [y], some y, rfl, fun b o e => ?_, ?_, hy2.kt (Kt.lst hp2), upd_same, (hv.append (.cons ax .nil)).kt (Kt.lst hp2), asc_add asc lt, ?_, fun z => ?_⟩
        · rw [upd_ne (ne_of_none e np)]; exact s2 b o e
        · rw [upd_ne hsp]; exact h2
        · rw [List.length_append]; simp; omega
        · rw [tk, List.mem_append, List.mem_append, mem z]
      have lv : vs'.length < sizeLine := by rw [hv.length]; omega
      walk_at "go"
      refine ⟨_, .inl ⟨_, SqL.of hp2, rfl⟩, ?_⟩
      rcases List.eq_nil_or_concat vs' with e | ⟨vf, vl, e⟩
      · subst e
        cases hv
        walk_at "go"
        exact ⟨.inl ⟨rfl, _, SqL.of hp2⟩, _, hp2, lv, put fun u m => by cases m⟩
      · subst e
        rw [List.concat_eq_append] at *
        obtain ⟨uf, ul2, rfl, hvf, hvl⟩ := Ats.split hv
        rw [if_neg (by simp)]
        refine ⟨_, SqL.of hp2, vl, atI_last _ _, ?_⟩
        walk_at "go"
        have ml : ul2 ∈ uf ++ [ul2] := by simp
        refine ⟨ul2, x, hvl, ax, dp _ ((ms _).mp (List.mem_of_mem_take ((mem _).mp ml))), _, rfl, ?_⟩
        obtain ⟨k1, k2⟩ := memx _ ml
        by_cases e : ul2 = x
        · subst e
          rw [if_neg (by simp)]
          refine ⟨uf ++ [ul2], vf ++ [vl], some y, rfl, s2, h2, hy2, hp2, hv, asc, by omega, fun z => ?_⟩
          rw [mem z, tk, List.mem_append, List.mem_singleton]
          exact ⟨.inl, fun q => q.elim id fun e => by rw [e]; exact (mem _).mp ml⟩
        · rw [if_pos (by simpa using e)]
          walk_at "go"
          refine ⟨.inl ⟨rfl, _, SqL.of hp2⟩, _, hp2, lv, put fun u m => ?_⟩
          have lx : Tr.lt ul2 x = true := by
            cases q : Tr.lt ul2 x with
            | true => rfl
            | false => exact absurd (Tr.lt_tot k1 q k2) e
          rcases List.mem_append.mp m with m | m
          · exact Tr.lt_trans ((List.pairwise_append.mp asc).2.2 u m ul2 (by simp)) lx
          · rw [List.mem_singleton.mp m]; exact lx
    · rintro σ H2 ⟨us', vs', t, rfl, s2, h2, hy2, hp2, hv, asc, hl, mem⟩
      walk_at "go"
      refine k p us' H2 s2 np ⟨_, hp2, hv⟩ asc fun z => ?_
      rw [mem z, hy2.length, List.take_length]
      exact ms z
end


set_option Elab.async false
set_option linter.all false
set_option maxRecDepth 100000
set_option maxHeartbeats 4000000
open PySem L2 StX


def spHeld (K : PySem.W.Frag) : Sp := fun vs H Q _ => ∃ v w n, vs = [v] ∧ At K H v w ∧ Tr.WL n w ∧ (Tr.held w).length ≤ 107 ∧ ∀ p H', Same H H' → H p = none → LsAt K H' p (Tr.held w) → Q (.ref p) H'
section
variable {P : Program} {w : World} {K : PySem.W.Frag} {mg : Str → Option Value} {base : Heap}
theorem scHeld : FnScope ["worth", "base", "bag", "calls", "_", "worths", "held"] ["worth"] (defScope sHeld) := ⟨rfl, rfl, rfl, by decide +kernel, rfl, by decide +kernel, by decide +kernel⟩
theorem ok_held (D : DefAt K mg "_held_worths" sHeld) (B : Bt mg) : Cal P w K mg base CX0 1 "_held_worths" ["worth"] (spHeld K) := by
  refine D.cal (fun _ _ _ _ _ _ us hl => match us, hl with | [_], _ => rfl) fun f fd F => ?_
  refine F.ok scHeld (fun vs H Q E h => ?_) (fun cdv A outer s H vs Q E HR h => ?_)
  · obtain ⟨v, x, n, rfl, _⟩ := h
    rfl
  · obtain ⟨v, x, n, rfl, hx, hw, hl, k⟩ := h
    refine ⟨_, (pss_cons (ps_asg (pv 0) (pg_tup (n := 2) rfl (pgs_cons (pg_name (i := 1) scHeld.nd rfl (Or.inl rfl)) (pgs_cons (pg_name (i := 2) scHeld.nd rfl (Or.inl rfl)) pgs_nil))))
  (pss_cons (ps_set (i := 3) scHeld.nd rfl (Or.inl rfl) (pe_callTy call_list_of (by rfl) B.list (by decide +kernel) (pa_cons (pv 2) pa_nil)))
  (pss_cons (ps_if (pt_cmpR op_eq (pe_ix ix_tup (pv 1) pe_int (fun _ _ => rfl)) pe_int (nomark _)) (pss_one (ps_set (i := 3) scHeld.nd rfl (Or.inl rfl) (pe_lst (pa_cons (pe_slice sl_tupA (pv 1) (po_some pe_int) po_none) (pa_star (pv 2) pa_nil))))) pss_nil)
  (pss_one (ps_ret (pe_lc2 (own := [("_", 4), ("worths", 5), ("held", 6)]) (vs1 := [6]) (g := gTup K 2 (gCons (gName 4) (gCons (gName 5) gNil))) (g1 := gName 6) (tt := tYes) (tt1 := tYes) (wi1 := iTup K (tVar 5)) rfl scHeld.nd (pi_list (pv 3)) (blkOk_by (own := [("_", 4), ("worths", 5), ("held", 6)]) (N := ["worth", "base", "bag", "calls", "_", "worths", "held"]) (sc := defScope sHeld) (by decide +kernel)) (by decide) (fun _ _ _ _ _ => (pg_tup (n := 2) rfl (pgs_cons (pg_name (i := 4) scHeld.nd rfl (Or.inl rfl)) (pgs_cons (pg_name (i := 5) scHeld.nd rfl (Or.inl rfl)) pgs_nil)))) (fun _ _ _ _ _ => pts_nil) (fun _ _ _ _ _ => (pi_tup (pv 5))) (fun _ _ _ _ _ => (pg_name (i := 6) scHeld.nd rfl (Or.inl rfl))) (fun _ _ _ _ _ => pts_nil) (fun _ _ _ _ _ => (pv 6)))))))), ?_⟩
    obtain ⟨n, rfl⟩ : ∃ m, n = m + 1 := by cases n with
      | zero => exact hw.elim
      | succ m => exact ⟨m, rfl⟩
    obtain ⟨b, bag, rfl, hb, hl7, ht⟩ := hw
    obtain ⟨a, vs0, rfl, h0, a0⟩ := tup_at hx
    cases a0 with
    | cons ab a0 =>
    cases a0 with
    | cons abag a0 =>
    cases a0
    obtain ⟨ga, gvs, rfl, hg, ag⟩ := tup_at abag
    have fin : ∀ (l : Addr) (cv : List V) (cs : List Tr) (H1 : Hp) (v1 v2 : V), H1 l = some (.lst cv) → Ats K H1 cv cs → (∀ t ∈ cs, Tr.TL (Tr.WL n) t) → Same H H1 → cs.flatMap Tr.heldT = Tr.held (Tr.wor b bag) →
        LpC2 (gTup K 2 (gCons (gName 4) (gCons (gName 5) gNil))) tYes (iTup K (tVar 5)) (gName 6) tYes (tVar 6) [4, 5, 6] [6] [some (.ref a), some v1, some v2, some (.ref l), none, none, none] Q (Itl K l) H1 := by
      intro l cv cs H1 v1 v2 hl1 hA ht1 s1 eq
      have cap : ∀ i j (ws : List Tr), cs[i]? = some (Tr.trn j ws) → ∀ m, ((cs.take i).flatMap Tr.heldT ++ ws.take m).length ≤ 107 := fun i j ws hi m => by
        have e : (cs.take (i + 1)).flatMap Tr.heldT = (cs.take i).flatMap Tr.heldT ++ ws := by rw [List.take_add_one, hi, List.flatMap_append]; simp [Tr.heldT, Tr.trn]
        have q := (Tr.flat_sub (f := Tr.heldT) (List.take_sublist (i + 1) cs)).length_le
        rw [e, eq] at q
        have := (List.take_sublist m ws).length_le
        rw [List.length_append] at q ⊢
        omega
      refine lpC2_by wk_list (fun D i H2 => H1 D = none ∧ Same H1 H2 ∧ LsAt K H2 D ((cs.take i).flatMap Tr.heldT)) (fun D nD => ⟨nD, same_new nD, [], upd_same, .nil⟩) (fun D i H2 _ p => SqL.of (p.2.1 _ _ hl1)) ?_ ?_
      · rintro D i y H2 _ hi ⟨nD, s2, vs2, e2, a2⟩ ⟨rfl, hy⟩
        obtain ⟨t, hti, at1⟩ := hA.get hy
        obtain ⟨m, ws, rfl, hws⟩ := ht1 t (List.mem_of_getElem? hti)
        obtain ⟨ta, tvs, rfl, hta, atv⟩ := tup_at at1
        cases atv with
        | cons am atv =>
        cases atv with
        | cons aws atv =>
        cases atv
        obtain ⟨wa, wvs, rfl, hwa, awv⟩ := tup_at aws
        walk_at "go"
        refine ⟨_, hta.kt (Kt.same s2), rfl, _, _, rfl, _, _, rfl, rfl, ?_⟩
        walk_at "go"
        refine ⟨⟨_, hwa.kt (Kt.same s2)⟩, in1_by wk_tup (fun j H3 => Same H1 H3 ∧ LsAt K H3 D ((cs.take i).flatMap Tr.heldT ++ ws.take j)) ⟨s2, vs2, e2, by simpa using a2⟩ (fun j H3 _ p => hwa.kt (Kt.same p.1)) ?_ ?_⟩
        · rintro j z H3 _ hj ⟨s3, vs3, e3, a3⟩ ⟨rfl, hz⟩
          obtain ⟨u, hu, au⟩ := awv.get hz
          walk_at "go"
          have c2 := cap i m ws hti j
          refine ⟨vs3, e3, Nat.lt_of_le_of_lt (by rw [a3.length]; exact c2) (by decide), fun b o e => ?_, vs3 ++ [z], upd_same, ?_⟩
          · rw [upd_ne (ne_of_none e nD)]; exact s3 b o e
          · rw [List.take_add_one, hu, ← List.append_assoc]
            exact (a3.append (.cons (au.kt (Kt.same s3)) .nil)).kt (Kt.lst e3)
        · rintro H3 ⟨s3, h3⟩
          refine ⟨nD, s3, ?_⟩
          rw [List.take_add_one, hti, List.flatMap_append]
          rw [awv.length, List.take_length] at h3
          simpa [Tr.heldT, Tr.trn] using h3
      · rintro D H2 nD ⟨_, s2, h2⟩
        rw [hA.length, List.take_length, eq] at h2
        exact k D H2 (s1.trans s2) (by
          cases e : H D with
          | none => rfl
          | some o => rw [s1 _ _ e] at nD; cases nD) h2
    have fresh2 : ∀ {l : Addr} {o : HO}, H l = none → Same H (upd H l o) := fun h => same_new h
    walk_at "go"
    rcases hb with ⟨c, rfl⟩ | ⟨m, ws, rfl, hws⟩
    · obtain ⟨ba, bvs, rfl, hba, abv⟩ := tup_at ab
      cases abv with
      | cons a1 abv =>
      cases abv with
      | cons a2 abv =>
      cases abv
      rw [int_at a1] at hba
      refine ⟨_, h0, rfl, _, _, rfl, _, _, rfl, rfl, ga, rfl, gvs, .inr hg, fun l hl1 => ⟨ba, rfl, _, hba.kt (Kt.new hl1), _, rfl, ?_⟩⟩
      walk_at "go"
      refine ⟨⟨_, SqL.of upd_same⟩, fin l gvs bag _ _ _ upd_same (ag.kt (Kt.new hl1)) ht (same_new hl1) rfl⟩
    · obtain ⟨ba, bvs, rfl, hba, abv⟩ := tup_at ab
      cases abv with
      | cons a1 abv =>
      cases abv with
      | cons a2 abv =>
      cases abv with
      | cons a3 abv =>
      cases abv
      rw [int_at a1] at hba
      refine ⟨_, h0, rfl, _, _, rfl, _, _, rfl, rfl, ga, rfl, gvs, .inr hg, fun l hl1 => ⟨ba, rfl, _, hba.kt (Kt.new hl1), _, rfl, ?_⟩⟩
      walk_at "go"
      refine ⟨_, hba.kt (Kt.new hl1), fun z => absurd (show (1 : Nat) = 0 from z.1) (by decide), fun _ p np => ⟨gvs, .inl ((hg.kt (Kt.new hl1)).kt (Kt.new np)), ?_, fun q nq => ⟨⟨_, SqL.of upd_same⟩, ?_⟩⟩⟩
      · rw [List.append_nil, ag.length]
        exact Nat.le_trans (Nat.succ_le_succ hl7) (by decide)
      · rw [List.append_nil]
        have kt : Kt H (upd (upd (upd H l (.lst gvs)) p (.tup (cutV [V.int 1, _, _] (some 1) none))) q (.lst (.ref p :: gvs))) := ((Kt.new hl1).trans (Kt.new np)).trans (Kt.new nq)
        refine fin q _ (Tr.trn m ws :: bag) _ _ _ upd_same (.cons (at_tup (SqT.of ?_) (.cons (a2.kt kt) (.cons (a3.kt kt) .nil))) (ag.kt kt)) (fun t mt => ?_) (((same_new hl1).trans (same_new np)).trans (same_new nq)) rfl
        · rw [upd_ne (fun e => by rw [e, upd_same] at nq; cases nq), upd_same]; rfl
        · rcases List.mem_cons.mp mt with e | mt
          · exact ⟨m, ws, e, hws⟩
          · exact ht t mt
end


set_option Elab.async false
set_option linter.all false
set_option maxRecDepth 100000
set_option maxHeartbeats 4000000
open PySem L2 StX


theorem Cal.mono {P : Program} {w : World} {K : PySem.W.Frag} {mg : Str → Option Value} {base : Heap} {CX : CXT} {j k : Nat} {x : Str} {ps : List Str} {sp : Sp} (C : L2.Cal P w K mg base CX j x ps sp) (h : j ≤ k) : L2.Cal P w K mg base CX k x ps sp := by
  obtain ⟨f, fd, F, r⟩ := C.ex
  exact ⟨f, fd, F.mono h, r⟩
theorem sortOk_w {xs : List Tr} (h : ∀ x ∈ xs, ∃ a l, x = Tr.t (a :: l)) : SortOk (xs.map Tr.toD) := .inl (.inl fun d m => by
  obtain ⟨x, hx, rfl⟩ := List.mem_map.mp m
  obtain ⟨a, l, rfl⟩ := h x hx
  rw [Tr.toD, Tr.toDs]
  exact ⟨_, _, rfl⟩)
theorem shape_w {n : Nat} {x : Tr} (h : Tr.WL n x) : ∃ a l, x = Tr.t (a :: l) := by
  cases n with
  | zero => exact h.elim
  | succ n => obtain ⟨b, bag, rfl, _⟩ := h; exact ⟨_, _, rfl⟩
def spParts (K : PySem.W.Frag) : Sp := fun vs H Q _ => ∃ v w, vs = [v] ∧ At K H v w ∧ Tr.WL 10 w ∧ (Tr.held w).length ≤ 107 ∧ ∀ p us H', Same H H' → At K H' (.ref p) (.t us) → Tr.Asc us → (∀ z, z ∈ us ↔ z ∈ Tr.held w) → Q (.ref p) H'
section
variable {P : Program} {w : World} {K : PySem.W.Frag} {mg : Str → Option Value} {base : Heap}
theorem scParts : FnScope ["worth"] ["worth"] (defScope sParts) := ⟨rfl, rfl, rfl, by decide +kernel, rfl, by decide +kernel, by decide +kernel⟩
theorem ok_parts (D : DefAt K mg "parts_of" sParts) (B : Bt mg) (Ceach_once : Cal P w K mg base CX0 1 "each_once" ["things"] (spOnce K)) (C_held_worths : Cal P w K mg base CX0 1 "_held_worths" ["worth"] (spHeld K)) :
    Cal P w K mg base CX0 2 "parts_of" ["worth"] (spParts K) := by
  refine D.cal (fun _ _ _ _ _ _ us hl => match us, hl with | [_], _ => rfl) fun f fd F => ?_
  refine F.ok scParts (fun vs H Q E h => ?_) (fun cdv A outer s H vs Q E HR h => ?_)
  · obtain ⟨v, x, rfl, _⟩ := h
    rfl
  · obtain ⟨v, x, rfl, hx, hw, hl, k⟩ := h
    refine ⟨_, (pss_one (ps_ret (pe_callTy call_tuple_of (by rfl) B.tuple (by decide +kernel) (pa_cons (pe_cal Ceach_once (by rfl) HR pass0 (pa_cons (pe_cal C_held_worths (by rfl) HR pass0 (pa_cons (pv 0) pa_nil)) pa_nil)) pa_nil)))), ?_⟩
    walk_at "go"
    refine ⟨v, x, _, rfl, hx, hw, hl, fun p H1 s1 n1 ⟨vs1, e1, a1⟩ => ?_⟩
    have wl : ∀ z ∈ Tr.held x, Tr.WL 10 z := fun z m => hw.part m
    refine ⟨.ref p, _, rfl, ⟨p, vs1, rfl, .inl (SqL.of e1), a1⟩, fun y hy z hz => (wl y hy).ak (wl z hz), sortOk_w fun y hy => shape_w (wl y hy), fun y hy => Nat.le_trans (wl y hy).dep_le (by decide), Nat.le_trans hl (by decide), fun q us H2 s2 n2 ⟨vs2, e2, a2⟩ asc mem => ?_⟩
    refine ⟨q, rfl, vs2, .inl ⟨SqL.of e2, fun l nl => ?_⟩⟩
    exact k l us _ ((s1.trans s2).trans (same_new nl)) (at_tup (SqT.of upd_same) (a2.kt (Kt.new nl))) asc mem
def ext (x : Tr) : Tr → Tr
  | .t s => .t (s ++ [x])
  | z => z
theorem head_nil : ∀ {us : List Tr}, Tr.Asc us → Tr.t [] ∈ us → (∀ z ∈ us, ∃ s, z = Tr.t s) → ∃ r, us = Tr.t [] :: r
  | [], _, m, _ => by cases m
  | h :: r, a, m, hs => by
    obtain ⟨s, rfl⟩ := hs h List.mem_cons_self
    rcases List.mem_cons.mp m with e | m
    · exact ⟨r, by rw [← e]⟩
    · have q := (List.pairwise_cons.mp a).1 _ m
      cases s with
      | nil => exact ⟨r, rfl⟩
      | cons x s => exact absurd q (by simp [Tr.lt, PySem.W.dataLt, Tr.toD, Tr.toDs, PySem.W.keyToks, PySem.W.keyToksAll, PyProof.Rows.lexLt, PyProof.Rows.itemLt])
/-- the parts of a bag so far -/
structure Bg (K : PySem.W.Frag) (H : Hp) (v1 v2 v3 : V) (bag : List Tr) (i : Nat) (σ : St) (H2 : Hp) : Prop where
  ex : ∃ q us t, σ = [some v1, some v2, some v3, some (.ref q), t, none] ∧ Same H H2 ∧ LsAt K H2 q us ∧ Tr.Asc us ∧ ∀ z, z ∈ us ↔ ∃ s, s.Sublist (bag.take i) ∧ z = Tr.t s
theorem asc_one (x : Tr) : Tr.Asc [x] := List.pairwise_singleton _ _
theorem sub_snoc {s l : List Tr} {x : Tr} : s.Sublist (l ++ [x]) ↔ s.Sublist l ∨ ∃ s', s = s' ++ [x] ∧ s'.Sublist l := by
  rw [List.sublist_append_iff]
  constructor
  · rintro ⟨l1, l2, rfl, h1, h2⟩
    rcases List.sublist_cons_iff.mp h2 with h | ⟨r, rfl, h⟩
    · cases h
      rw [List.append_nil]; exact .inl h1
    · cases h
      exact .inr ⟨l1, rfl, h1⟩
  · rintro (h | ⟨s', rfl, h⟩)
    · exact ⟨s, [], by simp, h, List.nil_sublist _⟩
    · exact ⟨s', [x], rfl, h, List.Sublist.refl _⟩
theorem map_cap {f : List Tr → Tr} {us bag : List Tr} (h7 : bag.length ≤ 7) (a : us.Nodup) (mem : ∀ z, z ∈ us → ∃ s, s.Sublist bag ∧ z = f s) : us.length ≤ 128 := by
  have := Tr.asc_len (L := (Tr.subs bag).map f) a fun z m => by
    obtain ⟨s, h, rfl⟩ := mem z m
    exact List.mem_map.mpr ⟨s, Tr.subs_mem h, rfl⟩
  rw [List.length_map, Tr.subs_len] at this
  exact Nat.le_trans this (Nat.le_trans (Nat.pow_le_pow_right (by decide) h7) (by decide))
theorem acc_put {K : PySem.W.Frag} {H2 H4 : Hp} {D : Addr} {dvs : List V} {v : V} {ts : List Tr} {t : Tr} (nD : H2 D = none) (s : Same H2 H4) (e : H4 D = some (.lst dvs)) (a : Ats K H4 dvs ts) (q : At K H4 v t) :
    Same H2 (upd H4 D (.lst (dvs ++ [v]))) ∧ LsAt K (upd H4 D (.lst (dvs ++ [v]))) D (ts ++ [t]) :=
  ⟨fun b o z => by rw [upd_ne (ne_of_none z nD)]; exact s b o z, _, upd_same, (a.append (.cons q .nil)).kt (Kt.lst e)⟩
def spBags (K : PySem.W.Frag) : Sp := fun vs H Q _ => ∃ v b bag, vs = [v] ∧ At K H v (Tr.wor b bag) ∧ Tr.WL 10 (Tr.wor b bag) ∧ ∀ p us H', Same H H' → At K H' (.ref p) (.t us) → us.length ≤ 128 → (∀ z, z ∈ us ↔ ∃ s, s.Sublist bag ∧ z = Tr.wor b s) → Q (.ref p) H'
theorem scBags : FnScope ["worth", "base", "bag", "parts", "turn", "part"] ["worth"] (defScope sBags) := ⟨rfl, rfl, rfl, by decide +kernel, rfl, by decide +kernel, by decide +kernel⟩
theorem ok_bags (D : DefAt K mg "bags_within" sBags) (B : Bt mg) (Ceach_once : Cal P w K mg base CX0 1 "each_once" ["things"] (spOnce K)) :
    Cal P w K mg base CX0 2 "bags_within" ["worth"] (spBags K) := by
  refine D.cal (fun _ _ _ _ _ _ us hl => match us, hl with | [_], _ => rfl) fun f fd F => ?_
  refine F.ok scBags (fun vs H Q E h => ?_) (fun cdv A outer s H vs Q E HR h => ?_)
  · obtain ⟨v, b, bag, rfl, _⟩ := h
    rfl
  · obtain ⟨v, b, bag, rfl, hx, hw, k⟩ := h
    refine ⟨_, (pss_cons (ps_asg (pv 0) (pg_tup (n := 2) rfl (pgs_cons (pg_name (i := 1) scBags.nd rfl (Or.inr rfl)) (pgs_cons (pg_name (i := 2) scBags.nd rfl (Or.inl rfl)) pgs_nil))))
  (pss_cons (ps_set (i := 3) scBags.nd rfl (Or.inl rfl) (pe_lst (pa_cons (pe_tup pa_nil) pa_nil)))
  (pss_cons (ps_for PassesOwn.never rfl (pi_tup (pv 2)) (pg_name (i := 4) scBags.nd rfl (Or.inr rfl)) (pss_one (ps_set (i := 3) scBags.nd rfl (Or.inl rfl) (pe_cal Ceach_once (by rfl) HR pass0 (pa_cons (pe_op op_cat (pv 3) (pe_lc (own := [("part", 5)]) (g := gName 5) (tt := tYes) (te := tTup (tStar K (tVar 5) (tCons (tVar 4) tNil))) rfl scBags.nd (pi_list (pv 3)) (blkOk_by (own := [("part", 5)]) (N := ["worth", "base", "bag", "parts", "turn", "part"]) (sc := defScope sBags) (by decide +kernel)) (fun _ _ _ _ _ => (pg_name (i := 5) scBags.nd rfl (Or.inl rfl))) (fun _ _ _ _ _ => pts_nil) (fun _ _ _ _ _ => (pe_tup (pa_star (pv 5) (pa_cons (pv 4) pa_nil)))))) pa_nil)))))
  (pss_one (ps_ret (pe_callTy call_tuple_of (by rfl) B.tuple (by decide +kernel) (pa_cons (pe_lc (own := [("part", 5)]) (g := gName 5) (tt := tYes) rfl scBags.nd (pi_list (pv 3)) (blkOk_by (own := [("part", 5)]) (N := ["worth", "base", "bag", "parts", "turn", "part"]) (sc := defScope sBags) (by decide +kernel)) (fun _ _ _ _ _ => (pg_name (i := 5) scBags.nd rfl (Or.inl rfl))) (fun _ _ _ _ _ => pts_nil) (fun _ _ _ _ _ => (pe_tup (pa_cons (pv 1) (pa_cons (pv 5) pa_nil))))) pa_nil))))))), ?_⟩
    obtain ⟨a, vs0, rfl, h0, a0⟩ := tup_at hx
    cases a0 with
    | @cons vb _ _ _ ab a0 =>
    cases a0 with
    | cons abag a0 =>
    cases a0
    obtain ⟨ga, gvs, rfl, hg, ag⟩ := tup_at abag
    obtain ⟨b', bag', e0, hb, hl7, ht⟩ := id hw
    obtain ⟨rfl, rfl⟩ : b = b' ∧ bag = bag' := by
      unfold Tr.wor at e0
      injection e0 with e0
      injection e0 with e1 e2
      injection e2 with e2 _
      injection e2 with e2
      exact ⟨e1, e2⟩
    have akp : ∀ s s', s.Sublist bag → s'.Sublist bag → Tr.Ak (.t s) (.t s') := fun s s' h h' => Tr.ak_t.mpr (Tr.ak_all fun x hx y hy => (ht x (h.subset hx)).ak (fun v v' q q' => q.ak q') (ht y (h'.subset hy)))
    have dpp : ∀ s, s.Sublist bag → (Tr.t s).dep ≤ 190 := fun s h => by
      have q : Tr.deps s ≤ 38 := deps_le fun x hx => by
        obtain ⟨m, ws, rfl, hws⟩ := ht x (h.subset hx)
        have := deps_le (n := 36) (xs := ws) fun v hv => (hws v hv).dep_le
        unfold Tr.trn; simp only [Tr.dep_t, Tr.deps_cons, Tr.deps_nil, Tr.dep_i]; omega
      rw [Tr.dep_t]; omega
    walk_at "go"
    refine ⟨_, h0, rfl, _, _, rfl, _, _, rfl, rfl, by decide, fun p np => ⟨by decide, fun p1 np1 => ⟨ga, rfl, ⟨_, (hg.kt (Kt.new np)).kt (Kt.new np1)⟩, lp_by (wk_tup (xs := gvs)) (Bg K H (.ref a) vb (.ref ga) bag) ?_ (fun i σ H2 _ p => ?_) ?_ ?_⟩⟩⟩
    · refine ⟨p1, [.t []], none, rfl, (same_new np).trans (same_new np1), ⟨_, upd_same, .cons (at_tup (SqT.of ?_) .nil) .nil⟩, asc_one _, fun z => ?_⟩
      · rw [upd_ne (fun e => by rw [e, upd_same] at np1; cases np1)]; exact upd_same
      · rw [List.take_zero]
        exact ⟨fun m => ⟨[], List.Sublist.refl _, List.mem_singleton.mp m⟩, fun ⟨s, h, e⟩ => by rw [e, List.sublist_nil.mp h]; exact List.mem_singleton.mpr rfl⟩
    · obtain ⟨_, _, _, _, s2, _⟩ := p
      exact hg.kt (Kt.same s2)
    · rintro i y σ H2' H2 hi ⟨q, us, t, rfl, s2, ⟨qvs, eq, aq⟩, asc, mem⟩ ⟨e2, hy⟩
      subst e2
      obtain ⟨x, hxi, ax⟩ := ag.get hy
      have il : i < bag.length := (List.getElem?_eq_some_iff.mp hxi).1
      have tk : bag.take (i + 1) = bag.take i ++ [x] := by rw [List.take_add_one, hxi]; rfl
      have sb : ∀ s : List Tr, s.Sublist (bag.take i) → s.Sublist bag := fun s h => h.trans (List.take_sublist ..)
      have ul : us.length ≤ 128 := map_cap (f := Tr.t) (Nat.le_trans (List.length_take_le' ..) hl7) asc.nodup fun z m => (mem z).mp m
      walk_at "go"
      have cap : ∀ {dvs : List V} {H3 : Hp} {j : Nat} {f : Tr → Tr}, Ats K H3 dvs ((us.take j).map f) → dvs.length < sizeLine := fun h => by
        rw [h.length, List.length_map]
        exact Nat.lt_of_le_of_lt (Nat.le_trans (List.length_take_le' ..) ul) (by decide)
      refine ⟨⟨_, SqL.of eq⟩, lpC_by (wk_list (xs := qvs)) (fun D j H3 => H2 D = none ∧ Same H2 H3 ∧ LsAt K H3 D ((us.take j).map (ext x))) (fun D nD => ⟨nD, same_new nD, [], upd_same, .nil⟩) (fun D j H3 _ p => SqL.of (p.2.1 _ _ eq)) ?_ ?_⟩
      · rintro D j z H3' H3 hj ⟨nD, s3, dvs, eD, aD⟩ ⟨rfl, hz⟩
        obtain ⟨u, hu, au⟩ := aq.get hz
        obtain ⟨s, hs, rfl⟩ := (mem u).mp (List.mem_of_getElem? hu)
        obtain ⟨pa, pvs, rfl, hp, ap⟩ := tup_at au
        walk_at "go"
        refine ⟨pvs, .inl (hp.kt (Kt.same s3)), ?_, fun p np => ⟨dvs, ?_, cap aD, ?_⟩⟩
        · rw [List.length_append, ap.length]
          exact Nat.le_trans (Nat.succ_le_succ (Nat.le_trans (sb s hs).length_le hl7)) (by decide)
        · rw [upd_ne (ne_of_none eD np)]; exact eD
        · have kt : Kt H2 (upd H3 p (.tup (pvs ++ [y]))) := (Kt.same s3).trans (Kt.new np)
          have r := acc_put (K := K) (t := .t (s ++ [x])) nD (s3.trans (same_new np)) (by rw [upd_ne (ne_of_none eD np)]; exact eD) (aD.kt (Kt.new np)) (at_tup (SqT.of upd_same) ((ap.kt kt).append (.cons ((ax.kt (Kt.same s2)).kt kt) .nil)))
          rw [List.take_add_one, hu, List.map_append]
          exact ⟨nD, r⟩
      · rintro D H3 _ ⟨nD, s3, dvs, eD, aD⟩
        rw [aq.length, List.take_length] at aD
        have ld : dvs.length ≤ 128 := by rw [aD.length, List.length_map]; exact ul
        have lq : qvs.length ≤ 128 := by rw [aq.length]; exact ul
        refine ⟨q, D, qvs, dvs, rfl, rfl, s3 _ _ eq, eD, Nat.le_trans (Nat.add_le_add lq ld) (by decide), fun p np => ?_⟩
        have all : ∀ z ∈ us ++ us.map (ext x), ∃ s : List Tr, s.Sublist (bag.take (i + 1)) ∧ z = .t s := fun z m => by
          rcases List.mem_append.mp m with m | m
          · obtain ⟨s, h, e⟩ := (mem z).mp m
            exact ⟨s, by rw [tk]; exact sub_snoc.mpr (.inl h), e⟩
          · obtain ⟨u, m2, rfl⟩ := List.mem_map.mp m
            obtain ⟨s, h, rfl⟩ := (mem u).mp m2
            exact ⟨s ++ [x], by rw [tk]; exact sub_snoc.mpr (.inr ⟨s, rfl, h⟩), rfl⟩
        have nilm : Tr.t [] ∈ us := (mem _).mpr ⟨[], List.nil_sublist _, rfl⟩
        obtain ⟨r, er⟩ := head_nil asc nilm fun z m => by obtain ⟨s, _, e⟩ := (mem z).mp m; exact ⟨s, e⟩
        have so : SortOk ((us ++ us.map (ext x)).map Tr.toD) := .inr ⟨(r ++ us.map (ext x)).map Tr.toD, by rw [er]; simp [Tr.toD, Tr.toDs], fun d m => by
          obtain ⟨z, m2, rfl⟩ := List.mem_map.mp m
          obtain ⟨s, _, e⟩ := all z ((List.mem_append.mp m2).elim (fun m3 => List.mem_append_left _ (by rw [er]; exact List.mem_cons_of_mem _ m3)) fun m3 => List.mem_append_right _ m3)
          rw [e, Tr.toD]
          exact ⟨_, rfl⟩⟩
        refine ⟨.ref p, us ++ us.map (ext x), rfl, ⟨p, _, rfl, .inl (SqL.of upd_same), ((aq.kt (Kt.same s3)).append aD).kt (Kt.new np)⟩, fun y hy z hz => ?_, so, fun y hy => ?_, ?_, fun q' us' H4 s4 _ ls asc' mem' => ?_⟩
        · obtain ⟨s, h, rfl⟩ := all y hy
          obtain ⟨s', h', rfl⟩ := all z hz
          exact akp s s' (h.trans (List.take_sublist ..)) (h'.trans (List.take_sublist ..))
        · obtain ⟨s, h, rfl⟩ := all y hy
          exact dpp s (h.trans (List.take_sublist ..))
        · rw [List.length_append, List.length_map]
          exact Nat.le_trans (Nat.add_le_add ul ul) (by decide)
        · refine ⟨q', us', some y, rfl, ((s2.trans s3).trans (same_new np)).trans s4, ls, asc', fun z => ?_⟩
          rw [mem' z]
          refine ⟨all z, fun ⟨s, h, e⟩ => ?_⟩
          rw [tk] at h
          rcases sub_snoc.mp h with h2 | ⟨s', rfl, h2⟩
          · exact List.mem_append_left _ ((mem z).mpr ⟨s, h2, e⟩)
          · exact List.mem_append_right _ (List.mem_map.mpr ⟨.t s', (mem _).mpr ⟨s', h2, rfl⟩, e.symm⟩)
    · rintro σ H2 ⟨q, us, t, rfl, s2, ⟨qvs, eq, aq⟩, asc, mem⟩
      rw [ag.length, List.take_length] at mem
      have ul : us.length ≤ 128 := map_cap (f := Tr.t) hl7 asc.nodup fun z m => (mem z).mp m
      have cap : ∀ {dvs : List V} {H3 : Hp} {j : Nat} {f : Tr → Tr}, Ats K H3 dvs ((us.take j).map f) → dvs.length < sizeLine := fun h => by
        rw [h.length, List.length_map]
        exact Nat.lt_of_le_of_lt (Nat.le_trans (List.length_take_le' ..) ul) (by decide)
      walk_at "go"
      refine ⟨⟨_, SqL.of eq⟩, lpC_by (wk_list (xs := qvs)) (fun D j H3 => H2 D = none ∧ Same H2 H3 ∧ LsAt K H3 D ((us.take j).map fun z => .t [b, z])) (fun D nD => ⟨nD, same_new nD, [], upd_same, .nil⟩) (fun D j H3 _ p => SqL.of (p.2.1 _ _ eq)) ?_ ?_⟩
      · rintro D j z H3' H3 hj ⟨nD, s3, dvs, eD, aD⟩ ⟨rfl, hz⟩
        obtain ⟨u, hu, au⟩ := aq.get hz
        walk_at "go"
        refine ⟨by decide, fun p np => ⟨dvs, ?_, cap aD, ?_⟩⟩
        · rw [upd_ne (ne_of_none eD np)]; exact eD
        · have kt : Kt H2 (upd H3 p (.tup [vb, z])) := (Kt.same s3).trans (Kt.new np)
          have r := acc_put (K := K) (t := .t [b, u]) nD (s3.trans (same_new np)) (by rw [upd_ne (ne_of_none eD np)]; exact eD) (aD.kt (Kt.new np)) (at_tup (SqT.of upd_same) (.cons ((ab.kt (Kt.same s2)).kt kt) (.cons (au.kt kt) .nil)))
          rw [List.take_add_one, hu, List.map_append]
          exact ⟨nD, r⟩
      · rintro D H3 _ ⟨nD, s3, dvs, eD, aD⟩
        rw [aq.length, List.take_length] at aD
        walk_at "go"
        refine ⟨dvs, .inl ⟨SqL.of eD, fun l nl => k l _ _ ((s2.trans s3).trans (same_new nl)) (at_tup (SqT.of upd_same) (aD.kt (Kt.new nl))) (by rw [List.length_map]; exact ul) fun z => ?_⟩⟩
        constructor
        · intro m
          obtain ⟨u, m2, rfl⟩ := List.mem_map.mp m
          obtain ⟨s, h, rfl⟩ := (mem u).mp m2
          exact ⟨s, h, rfl⟩
        · rintro ⟨s, h, rfl⟩
          exact List.mem_map.mpr ⟨.t s, (mem _).mpr ⟨s, h, rfl⟩, rfl⟩
end


set_option Elab.async false
set_option linter.all false
set_option maxRecDepth 100000
set_option maxHeartbeats 4000000
open PySem L2 StX


def Lay (xs : List Tr) : Nat → Tr → Prop
  | 0, z => z ∈ xs
  | i + 1, z => ∃ w, Lay xs i w ∧ z ∈ Tr.held w
theorem lay_wl {n : Nat} {xs : List Tr} (h : ∀ x ∈ xs, Tr.WL n x) : ∀ {i : Nat} {z : Tr}, i ≤ n → Lay xs i z → Tr.WL (n - i) z
  | 0, z, _, m => h z m
  | i + 1, z, hi, ⟨w, hw, m⟩ => by
    have q := lay_wl h (by omega : i ≤ n) hw
    rw [show n - i = (n - (i + 1)) + 1 by omega] at q
    exact q.held z m
theorem lay_pc {xs : List Tr} : ∀ {i : Nat} {z : Tr}, Lay xs i z → Tr.PC xs z
  | 0, _, m => .base m
  | _ + 1, _, ⟨_, hw, m⟩ => .part (lay_pc hw) m
theorem pc_lay {xs : List Tr} {z : Tr} (h : Tr.PC xs z) : ∃ i, Lay xs i z := by
  induction h with
  | base m => exact ⟨0, m⟩
  | part _ m ih => obtain ⟨i, hi⟩ := ih; exact ⟨i + 1, _, hi, m⟩
theorem pc_cl {xs : List Tr} {z : Tr} (h : Tr.PC xs z) : Tr.CL xs z := by
  induction h with
  | base m => exact .base m
  | part _ m ih => exact .part ih m
theorem lay_down {xs : List Tr} (i : Nat) : ∀ (k : Nat) {z : Tr}, Lay xs (i + k) z → ∃ y, Lay xs i y
  | 0, z, h => ⟨z, h⟩
  | k + 1, z, ⟨w, h, _⟩ => lay_down i k h
theorem less_iff {b : Tr} {bag : List Tr} {z : Tr} : z ∈ Tr.less (Tr.wor b bag) ↔ ∃ s, s.Sublist bag ∧ z = Tr.wor b s := by
  rw [Tr.less_wor]
  constructor
  · intro m
    obtain ⟨s, h, e⟩ := List.mem_map.mp m
    exact ⟨s, Tr.subs_sub h, e.symm⟩
  · rintro ⟨s, h, rfl⟩
    exact List.mem_map.mpr ⟨s, Tr.subs_mem h, rfl⟩
theorem wor_of {n : Nat} {w : Tr} (h : Tr.WL n w) : ∃ b bag, w = Tr.wor b bag := by
  cases n with
  | zero => exact h.elim
  | succ n => obtain ⟨b, bag, e, _⟩ := h; exact ⟨b, bag, e⟩
def spClosed (K : PySem.W.Frag) : Sp := fun vs H Q _ => ∃ v xs, vs = [v] ∧ Seq2 K H v xs ∧ Tr.Sm xs ∧ ∀ p us H', Same H H' → At K H' (.ref p) (.t us) → Tr.Asc us → (∀ z, z ∈ us ↔ Tr.CL xs z) → Q (.ref p) H'
/-- the layers so far; m bounds the depth that is left -/
structure Ly (K : PySem.W.Frag) (H : Hp) (v : V) (xs : List Tr) (m : Nat) (σ : St) (H2 : Hp) : Prop where
  ex : ∃ i p q ls us, σ = [some v, some (.ref p), some (.ref q), none, none, none] ∧ i + m = 10 ∧ Same H H2 ∧ LsAt K H2 p ls ∧ LsAt K H2 q us ∧ Tr.Asc ls ∧ Tr.Asc us ∧ (∀ z, z ∈ ls ↔ Lay xs i z) ∧ ∀ z, z ∈ us ↔ ∃ j, j ≤ i ∧ Lay xs j z
section
variable {P : Program} {w : World} {K : PySem.W.Frag} {mg : Str → Option Value} {base : Heap}
theorem comp2_4 {sp : Sp} {G : Tr → Tr → Prop} {c : Nat} {a b d : V} {l : Addr} {ls : List Tr} {lvs : List V} {H1 : Hp} {Q : VK} (e1 : H1 l = some (.lst lvs)) (al : Ats K H1 lvs ls) (hc : ls.length * c < sizeLine)
    (ask : ∀ w ∈ ls, ∀ (v : V) (H' : Hp) (Q' : VK), Same H1 H' → At K H' v w → (∀ p ys H'', Same H' H'' → At K H'' (.ref p) (.t ys) → ys.length ≤ c → (∀ z, z ∈ ys ↔ G w z) → Q' (.ref p) H'') → sp [v] H' Q' E0)
    (fin : ∀ D H2 ts, H1 D = none → Same H1 H2 → LsAt K H2 D ts → ts.length ≤ ls.length * c → (∀ z, z ∈ ts ↔ ∃ w ∈ ls, G w z) → Q (.ref D) H2) :
    LpC2 (gName 3) tYes (iTup K (tCal sp E0 (tCons (tVar 3) tNil))) (gName 4) tYes (tVar 4) [3, 4] [4] [some a, some b, some d, none, none, none] Q (Itl K l) H1 := by
  refine lpC2_by (wk_list (xs := lvs)) (fun D i H2 => H1 D = none ∧ Same H1 H2 ∧ ∃ ts, LsAt K H2 D ts ∧ ts.length ≤ i * c ∧ ∀ z, z ∈ ts ↔ ∃ w ∈ ls.take i, G w z) (fun D nD => ⟨nD, same_new nD, [], ⟨[], upd_same, .nil⟩, Nat.zero_le _, fun z => by simp⟩) (fun D i H2 _ p => SqL.of (p.2.1 _ _ e1)) ?_ ?_
  · rintro D i y H2' H2 hi ⟨nD, s2, ts, h2, l2, m2⟩ ⟨rfl, hy⟩
    obtain ⟨x, hx, ax⟩ := al.get hy
    have il : i < ls.length := (List.getElem?_eq_some_iff.mp hx).1
    have tk : ls.take (i + 1) = ls.take i ++ [x] := by rw [List.take_add_one, hx]; rfl
    walk_at "rd"
    refine ask x (List.mem_of_getElem? hx) y H2 _ s2 (ax.kt (Kt.same s2)) fun p ys H3 s3 ap lp mp => ?_
    obtain ⟨_, pvs, e, hp, avs⟩ := tup_at ap
    cases e
    have li : (i + 1) * c ≤ ls.length * c := Nat.mul_le_mul_right c il
    have ec : (i + 1) * c = i * c + c := Nat.succ_mul i c
    refine ⟨_, rfl, ⟨_, hp⟩, in1_by (wk_tup (xs := pvs)) (fun k H4 => Same H1 H4 ∧ Kt H3 H4 ∧ LsAt K H4 D (ts ++ ys.take k)) ⟨s2.trans s3, Kt.refl _, ?_⟩ (fun k H4 _ q => hp.kt q.2.1) ?_ ?_⟩
    · obtain ⟨vs, e, q⟩ := h2
      exact ⟨vs, s3 _ _ e, by simpa using q.kt (Kt.same s3)⟩
    · rintro k z H4' H4 hk ⟨s4, k4, vs4, e4, a4⟩ ⟨rfl, hz⟩
      obtain ⟨u, hu, au⟩ := avs.get hz
      walk_at "rd"
      refine ⟨vs4, e4, ?_, ?_⟩
      · have q := (List.take_sublist k ys).length_le
        rw [a4.length, List.length_append]
        have ku : k < ys.length := (List.getElem?_eq_some_iff.mp hu).1
        have q2 := List.length_take_le k ys
        omega
      · have r := acc_put (K := K) nD s4 e4 a4 (au.kt k4)
        refine ⟨r.1, k4.trans (Kt.lst e4), ?_⟩
        rw [List.take_add_one, hu, ← List.append_assoc]
        exact r.2
    · rintro H4 ⟨s4, _, h4⟩
      rw [avs.length, List.take_length] at h4
      refine ⟨nD, s4, _, h4, ?_, fun z => ?_⟩
      · rw [List.length_append]; omega
      · rw [List.mem_append, m2 z, mp z, tk]
        constructor
        · rintro (⟨w, m, g⟩ | g)
          · exact ⟨w, List.mem_append_left _ m, g⟩
          · exact ⟨x, List.mem_append_right _ (List.mem_singleton.mpr rfl), g⟩
        · rintro ⟨w, m, g⟩
          rcases List.mem_append.mp m with m | m
          · exact .inl ⟨w, m, g⟩
          · rw [List.mem_singleton.mp m] at g; exact .inr g
  · rintro D H2 nD ⟨_, s2, ts, h2, l2, m2⟩
    rw [al.length] at l2 m2
    rw [List.take_length] at m2
    exact fin D H2 ts nD s2 h2 l2 m2
theorem comp2_5 {sp : Sp} {G : Tr → Tr → Prop} {c : Nat} {a b d : V} {l : Addr} {ls : List Tr} {lvs : List V} {H1 : Hp} {Q : VK} (e1 : H1 l = some (.lst lvs)) (al : Ats K H1 lvs ls) (hc : ls.length * c < sizeLine)
    (ask : ∀ w ∈ ls, ∀ (v : V) (H' : Hp) (Q' : VK), Same H1 H' → At K H' v w → (∀ p ys H'', Same H' H'' → At K H'' (.ref p) (.t ys) → ys.length ≤ c → (∀ z, z ∈ ys ↔ G w z) → Q' (.ref p) H'') → sp [v] H' Q' E0)
    (fin : ∀ D H2 ts, H1 D = none → Same H1 H2 → LsAt K H2 D ts → ts.length ≤ ls.length * c → (∀ z, z ∈ ts ↔ ∃ w ∈ ls, G w z) → Q (.ref D) H2) :
    LpC2 (gName 3) tYes (iTup K (tCal sp E0 (tCons (tVar 3) tNil))) (gName 5) tYes (tVar 5) [3, 5] [5] [some a, some b, some d, none, none, none] Q (Itl K l) H1 := by
  refine lpC2_by (wk_list (xs := lvs)) (fun D i H2 => H1 D = none ∧ Same H1 H2 ∧ ∃ ts, LsAt K H2 D ts ∧ ts.length ≤ i * c ∧ ∀ z, z ∈ ts ↔ ∃ w ∈ ls.take i, G w z) (fun D nD => ⟨nD, same_new nD, [], ⟨[], upd_same, .nil⟩, Nat.zero_le _, fun z => by simp⟩) (fun D i H2 _ p => SqL.of (p.2.1 _ _ e1)) ?_ ?_
  · rintro D i y H2' H2 hi ⟨nD, s2, ts, h2, l2, m2⟩ ⟨rfl, hy⟩
    obtain ⟨x, hx, ax⟩ := al.get hy
    have il : i < ls.length := (List.getElem?_eq_some_iff.mp hx).1
    have tk : ls.take (i + 1) = ls.take i ++ [x] := by rw [List.take_add_one, hx]; rfl
    walk_at "rd"
    refine ask x (List.mem_of_getElem? hx) y H2 _ s2 (ax.kt (Kt.same s2)) fun p ys H3 s3 ap lp mp => ?_
    obtain ⟨_, pvs, e, hp, avs⟩ := tup_at ap
    cases e
    have li : (i + 1) * c ≤ ls.length * c := Nat.mul_le_mul_right c il
    have ec : (i + 1) * c = i * c + c := Nat.succ_mul i c
    refine ⟨_, rfl, ⟨_, hp⟩, in1_by (wk_tup (xs := pvs)) (fun k H4 => Same H1 H4 ∧ Kt H3 H4 ∧ LsAt K H4 D (ts ++ ys.take k)) ⟨s2.trans s3, Kt.refl _, ?_⟩ (fun k H4 _ q => hp.kt q.2.1) ?_ ?_⟩
    · obtain ⟨vs, e, q⟩ := h2
      exact ⟨vs, s3 _ _ e, by simpa using q.kt (Kt.same s3)⟩
    · rintro k z H4' H4 hk ⟨s4, k4, vs4, e4, a4⟩ ⟨rfl, hz⟩
      obtain ⟨u, hu, au⟩ := avs.get hz
      walk_at "rd"
      refine ⟨vs4, e4, ?_, ?_⟩
      · have q := (List.take_sublist k ys).length_le
        rw [a4.length, List.length_append]
        have ku : k < ys.length := (List.getElem?_eq_some_iff.mp hu).1
        have q2 := List.length_take_le k ys
        omega
      · have r := acc_put (K := K) nD s4 e4 a4 (au.kt k4)
        refine ⟨r.1, k4.trans (Kt.lst e4), ?_⟩
        rw [List.take_add_one, hu, ← List.append_assoc]
        exact r.2
    · rintro H4 ⟨s4, _, h4⟩
      rw [avs.length, List.take_length] at h4
      refine ⟨nD, s4, _, h4, ?_, fun z => ?_⟩
      · rw [List.length_append]; omega
      · rw [List.mem_append, m2 z, mp z, tk]
        constructor
        · rintro (⟨w, m, g⟩ | g)
          · exact ⟨w, List.mem_append_left _ m, g⟩
          · exact ⟨x, List.mem_append_right _ (List.mem_singleton.mpr rfl), g⟩
        · rintro ⟨w, m, g⟩
          rcases List.mem_append.mp m with m | m
          · exact .inl ⟨w, m, g⟩
          · rw [List.mem_singleton.mp m] at g; exact .inr g
  · rintro D H2 nD ⟨_, s2, ts, h2, l2, m2⟩
    rw [al.length] at l2 m2
    rw [List.take_length] at m2
    exact fin D H2 ts nD s2 h2 l2 m2
theorem scClosed : FnScope ["worths", "layer", "whole", "worth", "part", "lesser"] ["worths"] (defScope sClosed) := ⟨rfl, rfl, rfl, by decide +kernel, rfl, by decide +kernel, by decide +kernel⟩
theorem ok_closed (D : DefAt K mg "closed_worths" sClosed) (B : Bt mg) (Ceach_once : Cal P w K mg base CX0 2 "each_once" ["things"] (spOnce K)) (Cparts_of : Cal P w K mg base CX0 2 "parts_of" ["worth"] (spParts K))
    (Cbags_within : Cal P w K mg base CX0 2 "bags_within" ["worth"] (spBags K)) : Cal P w K mg base CX0 3 "closed_worths" ["worths"] (spClosed K) := by
  refine D.cal (fun _ _ _ _ _ _ us hl => match us, hl with | [_], _ => rfl) fun f fd F => ?_
  refine F.ok scClosed (fun vs H Q E h => ?_) (fun cdv A outer s H vs Q E HR h => ?_)
  · obtain ⟨v, xs, rfl, _⟩ := h
    rfl
  · obtain ⟨v, xs, rfl, sq, sm, k⟩ := h
    refine ⟨_, (pss_cons (ps_set (i := 1) scClosed.nd rfl (Or.inl rfl) (pe_cal Ceach_once (by rfl) HR pass0 (pa_cons (pv 0) pa_nil)))
  (pss_cons (ps_set (i := 2) scClosed.nd rfl (Or.inl rfl) (pv 1))
  (pss_cons (ps_while PassesOwn.never (pt_truth (pv 1) (by intro _; rfl)) (pss_cons (ps_set (i := 1) scClosed.nd rfl (Or.inl rfl) (pe_cal Ceach_once (by rfl) HR pass0 (pa_cons (pe_lc2 (own := [("worth", 3), ("part", 4)]) (vs1 := [4]) (g := gName 3) (g1 := gName 4) (tt := tYes) (tt1 := tYes) (wi1 := iTup K (tCal (spParts K) E0 (tCons (tVar 3) tNil))) rfl scClosed.nd (pi_list (pv 1)) (blkOk_by (own := [("worth", 3), ("part", 4)]) (N := ["worths", "layer", "whole", "worth", "part", "lesser"]) (sc := defScope sClosed) (by decide +kernel)) (by decide) (fun _ _ _ _ _ => (pg_name (i := 3) scClosed.nd rfl (Or.inl rfl))) (fun _ _ _ _ _ => pts_nil) (fun _ _ _ _ _ => (pi_tup (pe_cal Cparts_of (by rfl) HR pass0 (pa_cons (pv 3) pa_nil)))) (fun _ _ _ _ _ => (pg_name (i := 4) scClosed.nd rfl (Or.inl rfl))) (fun _ _ _ _ _ => pts_nil) (fun _ _ _ _ _ => (pv 4))) pa_nil)))
  (pss_one (ps_set (i := 2) scClosed.nd rfl (Or.inl rfl) (pe_cal Ceach_once (by rfl) HR pass0 (pa_cons (pe_op op_cat (pv 2) (pv 1)) pa_nil))))))
  (pss_one (ps_ret (pe_callTy call_tuple_of (by rfl) B.tuple (by decide +kernel) (pa_cons (pe_cal Ceach_once (by rfl) HR pass0 (pa_cons (pe_lc2 (own := [("worth", 3), ("lesser", 5)]) (vs1 := [5]) (g := gName 3) (g1 := gName 5) (tt := tYes) (tt1 := tYes) (wi1 := iTup K (tCal (spBags K) E0 (tCons (tVar 3) tNil))) rfl scClosed.nd (pi_list (pv 2)) (blkOk_by (own := [("worth", 3), ("lesser", 5)]) (N := ["worths", "layer", "whole", "worth", "part", "lesser"]) (sc := defScope sClosed) (by decide +kernel)) (by decide) (fun _ _ _ _ _ => (pg_name (i := 3) scClosed.nd rfl (Or.inl rfl))) (fun _ _ _ _ _ => pts_nil) (fun _ _ _ _ _ => (pi_tup (pe_cal Cbags_within (by rfl) HR pass0 (pa_cons (pv 3) pa_nil)))) (fun _ _ _ _ _ => (pg_name (i := 5) scClosed.nd rfl (Or.inl rfl))) (fun _ _ _ _ _ => pts_nil) (fun _ _ _ _ _ => (pv 5))) pa_nil)) pa_nil))))))), ?_⟩
    obtain ⟨L, l1, l2⟩ := sm.cap
    have cap : ∀ us : List Tr, Tr.Asc us → (∀ z ∈ us, Tr.CL xs z) → us.length ≤ 83000 := fun us a h => Nat.le_trans (Tr.asc_len a.nodup fun z m => l2 z (h z m)) l1
    have wl : ∀ z, Tr.CL xs z → Tr.WL 10 z := fun z h => h.wl sm.wl
    have each : ∀ (v : V) (us : List Tr) (H' : Hp) (Q' : VK), Seq2 K H' v us → (∀ z ∈ us, Tr.CL xs z) → us.length ≤ sizeLine → (∀ p us' H'', Same H' H'' → LsAt K H'' p us' → Tr.Asc us' → (∀ z, z ∈ us' ↔ z ∈ us) → Q' (.ref p) H'') → spOnce K [v] H' Q' E0 :=
      fun v us H' Q' sq h l q => ⟨v, us, rfl, sq, fun y hy z hz => (wl y (h y hy)).ak (wl z (h z hz)), sortOk_w fun y hy => shape_w (wl y (h y hy)), fun y hy => Nat.le_trans (wl y (h y hy)).dep_le (by decide), l, fun p us' H'' s _ ls a m => q p us' H'' s ls a m⟩
    walk_at "go"
    refine each v xs H _ sq (fun z m => .base m) (Nat.le_trans sm.len (by decide)) fun p us H1 s1 ls1 asc1 m1 => ?_
    refine ⟨fun m σ H2 => Ly K H v xs m σ H2, ⟨10, 0, p, p, us, us, rfl, rfl, s1, ls1, ls1, asc1, asc1, fun z => m1 z, fun z => ?_⟩, fun m σ H2 ly => ?_⟩
    · rw [m1 z]
      exact ⟨fun m => ⟨0, Nat.le_refl _, m⟩, fun ⟨j, hj, l⟩ => by rw [Nat.le_zero.mp hj] at l; exact l⟩
    · obtain ⟨i, p, q, ls, us, rfl, im, s2, ⟨pvs, ep, ap⟩, ⟨qvs, eq, aq⟩, al, au, ml, mu⟩ := ly
      have cl : ∀ z ∈ ls, Tr.CL xs z := fun z m => pc_cl (lay_pc ((ml z).mp m))
      have cu : ∀ z ∈ us, Tr.CL xs z := fun z m => by
        obtain ⟨j, _, h⟩ := (mu z).mp m
        exact pc_cl (lay_pc h)
      have ll := cap ls al cl
      have lu := cap us au cu
      walk_at "go"
      refine ⟨_, .inl ⟨_, SqL.of ep, rfl⟩, ?_⟩
      cases ls with
      | nil =>
        cases ap
        walk_at "go"
        rw [if_neg (by simp)]
        have bd : us.length * 128 < sizeLine := Nat.lt_of_le_of_lt (Nat.mul_le_mul_right 128 lu) (by decide)
        refine ⟨⟨_, SqL.of eq⟩, comp2_5 (sp := spBags K) (G := fun w z => z ∈ Tr.less w) (c := 128) eq aq bd (fun w m v' H' Q' _ aw q' => ?_) fun D H3 ts nD s3 ls3 len3 m3 => ?_⟩
        · obtain ⟨b, bag, rfl⟩ := wor_of (wl w (cu w m))
          exact ⟨v', b, bag, rfl, aw, wl _ (cu _ m), fun p' ys H'' s'' a'' l'' m'' => q' p' ys H'' s'' a'' l'' fun z => (m'' z).trans less_iff.symm⟩
        · have mem : ∀ z, z ∈ ts ↔ Tr.CL xs z := fun z => by
            rw [m3 z, Tr.cl_iff sm.wl z]
            constructor
            · rintro ⟨w, m, h⟩
              obtain ⟨b, bag, rfl⟩ := wor_of (wl w (cu w m))
              obtain ⟨s, h1, h2⟩ := less_iff.mp h
              obtain ⟨j, _, hj⟩ := (mu _).mp m
              exact ⟨b, bag, s, lay_pc hj, h1, h2⟩
            · rintro ⟨b, bag, s, pc, h1, h2⟩
              obtain ⟨j, hj⟩ := pc_lay pc
              refine ⟨_, (mu _).mpr ⟨j, ?_, hj⟩, less_iff.mpr ⟨s, h1, h2⟩⟩
              refine Nat.le_of_not_lt fun lt => ?_
              rw [show j = i + (j - i) by omega] at hj
              obtain ⟨y, hy⟩ := lay_down i _ hj
              exact absurd ((ml y).mpr hy) (by simp)
          obtain ⟨vs3, e3, a3⟩ := ls3
          refine each (.ref D) ts H3 _ ⟨D, vs3, rfl, .inl (SqL.of e3), a3⟩ (fun z m => (mem z).mp m) (Nat.le_trans len3 (Nat.le_of_lt bd)) fun p2 us2 H4 s4 ⟨vs4, e4, a4⟩ asc4 m4 => ?_
          refine ⟨p2, rfl, vs4, .inl ⟨SqL.of e4, fun l nl => ?_⟩⟩
          exact k l us2 _ (((s2.trans s3).trans s4).trans (same_new nl)) (at_tup (SqT.of upd_same) (a4.kt (Kt.new nl))) asc4 fun z => (m4 z).trans (mem z)
      | cons x0 r0 =>
        have m0 : 0 < m := by
          have h0 := (ml x0).mp List.mem_cons_self
          by_cases h : 0 < m
          · exact h
          · have q := lay_wl sm.wl (by omega : i ≤ 10) h0
            rw [show 10 - i = 0 by omega] at q
            exact q.elim
        have pe : pvs.isEmpty = false := by cases ap; rfl
        rw [pe]
        walk_at "go"
        have bd : (x0 :: r0).length * 107 < sizeLine := Nat.lt_of_le_of_lt (Nat.mul_le_mul_right 107 ll) (by decide)
        refine ⟨fun σ' H' => Ly K H v xs (m - 1) σ' H', fun σ' H' p => ⟨m - 1, by omega, p⟩, ⟨_, SqL.of ep⟩, comp2_4 (sp := spParts K) (G := fun w z => z ∈ Tr.held w) (c := 107) ep ap bd (fun w mw v' H' Q' _ aw q' => ?_) fun D H3 ts nD s3 ls3 len3 m3 => ?_⟩
        · have hl := sm.few w (cl w mw)
          exact ⟨v', w, rfl, aw, wl w (cl w mw), hl, fun p' ys H'' s'' a'' asc'' m'' => q' p' ys H'' s'' a'' (Nat.le_trans (Tr.asc_len asc''.nodup fun z m => (m'' z).mp m) hl) m''⟩
        · have mem : ∀ z, z ∈ ts ↔ Lay xs (i + 1) z := fun z => by
            rw [m3 z]
            exact ⟨fun ⟨w, m, h⟩ => ⟨w, (ml w).mp m, h⟩, fun ⟨w, hw, h⟩ => ⟨w, (ml w).mpr hw, h⟩⟩
          obtain ⟨vs3, e3, a3⟩ := ls3
          refine each (.ref D) ts H3 _ ⟨D, vs3, rfl, .inl (SqL.of e3), a3⟩ (fun z m => pc_cl (lay_pc ((mem z).mp m))) (Nat.le_trans len3 (Nat.le_of_lt bd)) fun p2 us2 H4 s4 ⟨vs4, e4, a4⟩ asc4 m4 => ?_
          have l4 : us2.length ≤ 83000 := cap us2 asc4 fun z m => pc_cl (lay_pc ((mem z).mp ((m4 z).mp m)))
          have bl : qvs.length + vs4.length ≤ 166000 := by rw [aq.length, a4.length]; omega
          have kq : Kt H2 H4 := Kt.same (s3.trans s4)
          refine ⟨q, p2, qvs, vs4, rfl, rfl, (s3.trans s4) _ _ eq, e4, Nat.le_trans bl (by decide), fun p3 n3 => ?_⟩
          have m5 : ∀ z ∈ us ++ us2, Tr.CL xs z := fun z m => (List.mem_append.mp m).elim (cu z) fun m => pc_cl (lay_pc ((mem z).mp ((m4 z).mp m)))
          refine each (.ref p3) (us ++ us2) _ _ ⟨p3, _, rfl, .inl (SqL.of upd_same), ((aq.kt kq).append a4).kt (Kt.new n3)⟩ m5 (by rw [List.length_append, ← aq.length, ← a4.length]; exact Nat.le_trans bl (by decide)) fun q2 us3 H5 s5 ls5 asc5 m6 => ?_
          have s35 := (same_new (o := .lst (qvs ++ vs4)) n3).trans s5
          refine ⟨i + 1, p2, q2, us2, us3, rfl, by omega, ((s2.trans s3).trans s4).trans s35, ⟨vs4, s35 _ _ e4, a4.kt (Kt.same s35)⟩, ls5, asc4, asc5, fun z => (m4 z).trans (mem z), fun z => ?_⟩
          rw [m6 z, List.mem_append, mu z, m4 z, mem z]
          constructor
          · rintro (⟨j, hj, h⟩ | h)
            · exact ⟨j, by omega, h⟩
            · exact ⟨i + 1, Nat.le_refl _, h⟩
          · rintro ⟨j, hj, h⟩
            rcases Nat.lt_or_eq_of_le hj with h2 | h2
            · exact .inl ⟨j, by omega, h⟩
            · rw [h2] at h; exact .inr h
end


set_option Elab.async false
set_option linter.all false
set_option maxRecDepth 100000
set_option maxHeartbeats 4000000
open PySem L2 StX


def spIsW : Sp := fun vs H Q _ => ∃ z : Int, vs = [.int z] ∧ Q (.bl true) H
theorem tyTup {K : PySem.W.Frag} {H : Hp} {a : Addr} {xs : List V} (h : SqT K H a xs) : TyX K H (.ref a) (.type "tuple") := by
  rcases h with (h | ⟨o, h⟩) | ⟨o, its, n, h1, h2, _⟩
  · exact .base (.tup h)
  · exact .fTuple h
  · exact .kTuple h1 h2
theorem dep_mem {x : Tr} : ∀ {xs : List Tr}, x ∈ xs → x.dep ≤ Tr.deps xs
  | y :: ys, m => by
    rw [Tr.deps_cons]
    rcases List.mem_cons.mp m with rfl | m
    · exact Nat.le_max_left _ _
    · exact Nat.le_trans (dep_mem m) (Nat.le_max_right _ _)
/-- no tuple of it is long -/
inductive Nar : Tr → Prop
  | i (n : Int) : Nar (.i n)
  | t {xs : List Tr} : xs.length ≤ 83000 → (∀ x ∈ xs, Nar x) → Nar (.t xs)
theorem nar_w {S : Tr → Prop} (h1 : ∀ z, S z → (Tr.held z).length ≤ 107) (h2 : ∀ z v, S z → v ∈ Tr.held z → S v) : ∀ {n : Nat} {w : Tr}, Tr.WL n w → S w → Nar w
  | 0, _, h, _ => h.elim
  | n + 1, w, ⟨b, bag, e, hb, hl, ht⟩, s => by
    subst e
    have k : ∀ ws : List Tr, ws.length ≤ (Tr.held (Tr.wor b bag)).length → (∀ v ∈ ws, v ∈ Tr.held (Tr.wor b bag)) → (∀ v ∈ ws, Tr.WL n v) → Nar (.t ws) := fun ws l m q =>
      .t (by have := h1 _ s; omega) fun v hv => nar_w h1 h2 (q v hv) (h2 _ v s (m v hv))
    have nb : Nar b := by
      rcases hb with ⟨c, rfl⟩ | ⟨m, ws, rfl, q⟩
      · exact .t (by simp) fun x hx => by
          rcases List.mem_cons.mp hx with rfl | hx
          · exact .i _
          · rw [List.mem_singleton.mp hx]; exact .i _
      · have kk := k ws (by rw [Tr.held_wor, List.length_append]; exact Nat.le_add_right _ _) (fun v hv => List.mem_append_left _ hv) q
        exact .t (by simp) fun x hx => by
          rcases List.mem_cons.mp hx with rfl | hx
          · exact .i _
          · rcases List.mem_cons.mp hx with rfl | hx
            · exact .i _
            · rw [List.mem_singleton.mp hx]; exact kk
    have ng : Nar (.t bag) := .t (by omega) fun t mt => by
      obtain ⟨m, ws, rfl, q⟩ := ht t mt
      have sub : ∀ v ∈ ws, v ∈ bag.flatMap Tr.heldT := fun v hv => List.mem_flatMap.mpr ⟨_, mt, hv⟩
      have len : ws.length ≤ (bag.flatMap Tr.heldT).length := Tr.flat_len_mem (f := Tr.heldT) mt
      have kk := k ws (by rw [Tr.held_wor, List.length_append]; omega) (fun v hv => List.mem_append_right _ (sub v hv)) q
      exact .t (by simp) fun x hx => by
        rcases List.mem_cons.mp hx with rfl | hx
        · exact .i _
        · rw [List.mem_singleton.mp hx]; exact kk
    exact .t (by simp) fun x hx => by
      rcases List.mem_cons.mp hx with rfl | hx
      · exact nb
      · rw [List.mem_singleton.mp hx]; exact ng
theorem rep_snoc : ∀ n : Nat, (List.replicate n true).map V.bl ++ [V.bl true] = V.bl true :: (List.replicate n true).map V.bl
  | 0 => rfl
  | n + 1 => by rw [List.replicate_succ, List.map_cons, List.cons_append, rep_snoc n]
def spExact (K : PySem.W.Frag) (d : Nat) : Sp := fun vs H Q _ => ∃ u v t, vs = [u, v] ∧ At K H u t ∧ At K H v t ∧ t.dep < d ∧ Nar t ∧ ∀ H', Same H H' → Q (.bl true) H'
section
variable {P : Program} {w : World} {K : PySem.W.Frag} {mg : Str → Option Value} {base : Heap}
theorem tyInt {H : Hp} (z : Int) : TyX K H (.int z) (.type "int") := .base (.int z)
theorem scIsW : FnScope ["_law_thing"] ["_law_thing"] (defScope sIsW) := ⟨rfl, rfl, rfl, by decide +kernel, rfl, by decide +kernel, by decide +kernel⟩
theorem ok_isW (D : DefAt K mg "_law_whole" sIsW) (B : Bt mg) : Cal P w K mg base CX0 1 "_law_whole" ["_law_thing"] spIsW := by
  refine D.cal (fun _ _ _ _ _ _ us hl => match us, hl with | [_], _ => rfl) fun f fd F => ?_
  refine F.ok scIsW (fun vs H Q E h => ?_) (fun cdv A outer s H vs Q E hr h => ?_)
  · obtain ⟨x, rfl, _⟩ := h
    rfl
  · obtain ⟨z, rfl, q⟩ := h
    refine ⟨_, (pss_one (ps_ret (pe_and (pe_callB call_isi (by rfl) B.isi (by decide +kernel) (pa_cons (pv 0) (pa_cons (pe_bltn (v := .ty "int") (by rfl) B.int (by decide +kernel) rfl) pa_nil))) (pe_one (pe_not (pe_callB call_isi (by rfl) B.isi (by decide +kernel) (pa_cons (pv 0) (pa_cons (pe_bltn (v := .ty "bool") (by rfl) B.bool (by decide +kernel) rfl) pa_nil)))))))), ?_⟩
    walk_at "rd"
    refine ⟨_, _, .ty "int", tyInt z, true, kit_ty (by decide +kernel), ?_⟩
    exact iteT ⟨_, _, .ty "bool", tyInt z, false, kit_ty (by decide +kernel), q⟩
theorem scExact : FnScope ["_law_told", "_law_due", "_law_k"] ["_law_told", "_law_due"] (defScope sExact) := ⟨rfl, rfl, rfl, by decide +kernel, rfl, by decide +kernel, by decide +kernel⟩
theorem ok_exact (D : DefAt K mg "_law_exact" sExact) (B : Bt mg) (C_whole : Cal P w K mg base CX0 1 "_law_whole" ["_law_thing"] spIsW) : ∀ d : Nat, Cal P w K mg base CX0 (2 + d) "_law_exact" ["_law_told", "_law_due"] (spExact K d) := by
  intro d
  induction d with
  | zero =>
    refine D.cal (fun _ _ _ _ _ _ us hl => match us, hl with | [_, _], _ => rfl) fun f fd F => ?_
    constructor
    · rintro vs H Q E ⟨_, _, _, _, _, _, h, _⟩
      exact absurd h (Nat.not_lt_zero _)
    · intros
      rename_i h
      obtain ⟨_, _, _, _, _, _, h, _⟩ := h
      exact absurd h (Nat.not_lt_zero _)
  | succ d C_exact =>
    replace C_whole := Cal.mono C_whole (show 1 ≤ 2 + d by omega)
    refine D.cal (fun _ _ _ _ _ _ us hl => match us, hl with | [_, _], _ => rfl) fun f fd F => ?_
    refine F.ok scExact (fun vs H Q E h => ?_) (fun cdv A outer s H vs Q E HR h => ?_)
    · obtain ⟨u, v, t, rfl, _⟩ := h
      rfl
    · obtain ⟨u, v, t, rfl, au, av, dt, nr, q⟩ := h
      refine ⟨_, (pss_cons (ps_if (pt_val (pe_callB call_isi (by rfl) B.isi (by decide +kernel) (pa_cons (pv 1) (pa_cons (pe_bltn (v := .ty "tuple") (by rfl) B.tuple (by decide +kernel) rfl) pa_nil)))) (pss_cons (ps_if (PW.pt (pw_or (pt_not (pt_val (pe_callB call_isi (by rfl) B.isi (by decide +kernel) (pa_cons (pv 0) (pa_cons (pe_bltn (v := .ty "tuple") (by rfl) B.tuple (by decide +kernel) rfl) pa_nil))))) (pw_or1 (pt_cmpR op_ne (pe_callB call_len_seq (by rfl) B.len PySem.boot_len (pa_cons (pv 0) pa_nil)) (pe_callB call_len_seq (by rfl) B.len PySem.boot_len (pa_cons (pv 1) pa_nil)) (nomark _))))) (pss_one (ps_ret pe_bl)) pss_nil)
  (pss_one (ps_ret (pe_callB (cr_all rfl) (by rfl) B.all (by decide +kernel) (pa_cons (pe_lc (own := [("_law_k", 2)]) (g := gName 2) (tt := tYes) (te := tCal (spExact K d) E0 (tCons (tOp (rIxT K) (tVar 0) (tVar 2)) (tCons (tOp (rIxT K) (tVar 1) (tVar 2)) tNil))) rfl scExact.nd (pi_range1 (by rfl) B.range (pa_cons (pe_callB call_len_seq (by rfl) B.len PySem.boot_len (pa_cons (pv 1) pa_nil)) pa_nil)) (blkOk_by (own := [("_law_k", 2)]) (N := ["_law_told", "_law_due", "_law_k"]) (sc := defScope sExact) (by decide +kernel)) (fun _ _ _ _ _ => (pg_name (i := 2) scExact.nd rfl (Or.inl rfl))) (fun _ _ _ _ _ => pts_nil) (fun _ _ _ _ _ => (pe_cal C_exact (by rfl) HR pass0 (pa_cons (pe_ix ix_tup (pv 0) (pv 2) (fun _ _ => rfl)) (pa_cons (pe_ix ix_tup (pv 1) (pv 2) (fun _ _ => rfl)) pa_nil))))) pa_nil))))) pss_nil)
  (pss_one (ps_ret (pe_and (pe_cal C_whole (by rfl) HR pass0 (pa_cons (pv 0) pa_nil)) (pe_one (pe_cmpR op_eq (pv 0) (pv 1) (nomark _))))))), ?_⟩
      walk_at "go"
      cases t with
      | i n =>
        rw [int_at au, int_at av]
        refine ⟨_, _, .ty "tuple", tyInt n, false, kit_ty (by decide +kernel), ?_⟩
        rw [if_neg (by decide)]
        refine ⟨n, rfl, true, rfl, ?_⟩
        rw [if_pos rfl, rEq_int, decide_eq_true rfl]
        exact q H (Same.refl _)
      | t xs =>
        obtain ⟨a, us, rfl, ha, aus⟩ := tup_at au
        obtain ⟨b, vs, rfl, hb, avs⟩ := tup_at av
        have eqn : us.length = vs.length := by rw [aus.length, avs.length]
        obtain ⟨nl, nm⟩ : xs.length ≤ 83000 ∧ ∀ x ∈ xs, Nar x := by
          cases nr with
          | t a b => exact ⟨a, b⟩
        have lxs : vs.length ≤ 83000 := by rw [← avs.length] at nl; exact nl
        have dxs : ∀ x ∈ xs, x.dep < d := fun x m => by
          rw [Tr.dep_t] at dt
          exact Nat.lt_of_le_of_lt (dep_mem m) (by omega)
        refine ⟨_, _, .ty "tuple", tyTup hb, true, kit_ty (by decide +kernel), ?_⟩
        rw [if_pos rfl]
        refine ⟨_, _, .ty "tuple", tyTup ha, true, kit_ty (by decide +kernel), ?_⟩
        rw [if_neg (by decide)]
        refine ⟨a, rfl, us, .inr ha, b, rfl, vs, .inr hb, ?_⟩
        rw [if_neg (by rw [eqn]; simp)]
        refine ⟨b, rfl, vs, .inr hb, by omega, by omega, ?_⟩
        refine lpC_by wk_range (fun D i H2 => H D = none ∧ Same H H2 ∧ H2 D = some (.lst ((List.replicate i true).map V.bl))) (fun D nD => ⟨nD, same_new nD, upd_same⟩) (fun _ _ _ _ _ => trivial) ?_ ?_
        · rintro D i y H2' H2 hi ⟨nD, s2, e2⟩ ⟨rfl, rfl⟩
          walk_at "go"
          have ui : i < us.length := by rw [eqn]; omega
          obtain ⟨x, hx, ax⟩ := aus.get (List.getElem?_eq_getElem ui)
          obtain ⟨y, hy, ay⟩ := avs.get' hx
          rw [Int.zero_add]
          refine ⟨us, ha.kt (Kt.same s2), _, atI_nat (List.getElem?_eq_getElem ui), vs, hb.kt (Kt.same s2), y, atI_nat hy, _, _, x, rfl, ax.kt (Kt.same s2), ay.kt (Kt.same s2), dxs x (List.mem_of_getElem? hx), nm x (List.mem_of_getElem? hx), fun H3 s3 => ?_⟩
          refine ⟨_, s3 _ _ e2, ?_, nD, fun b o z => by rw [upd_ne (ne_of_none z nD)]; exact s3 _ _ (s2 b o z), ?_⟩
          · rw [List.length_map, List.length_replicate]
            exact Nat.lt_of_lt_of_le (Nat.lt_of_lt_of_le hi (by omega : _ ≤ 83000)) (by decide)
          · rw [upd_same, rep_snoc]
        · rintro D H2 nD ⟨_, s2, e2⟩
          refine ⟨D, _, rfl, SqL.of e2, ?_⟩
          rw [show (List.replicate (↑vs.length : Int).toNat true).all id = true by simp]
          exact q H2 s2
end


set_option Elab.async false
set_option linter.all false
set_option maxRecDepth 100000
set_option maxHeartbeats 4000000
open PySem L2 StX


theorem asc_of : ∀ {us : List Tr}, us.Pairwise (fun x y => Tr.lt y x = false) → us.Nodup → (∀ y ∈ us, ∀ z ∈ us, Tr.Ak y z) → Tr.Asc us
  | [], _, _, _ => List.Pairwise.nil
  | x :: us, p, n, a => by
    obtain ⟨p1, p2⟩ := List.pairwise_cons.mp p
    obtain ⟨n1, n2⟩ := List.nodup_cons.mp n
    refine List.pairwise_cons.mpr ⟨fun y m => ?_, asc_of p2 n2 fun y hy z hz => a y (List.mem_cons_of_mem _ hy) z (List.mem_cons_of_mem _ hz)⟩
    cases e : Tr.lt x y with
    | true => rfl
    | false => exact absurd (Tr.lt_tot (a x List.mem_cons_self y (List.mem_cons_of_mem _ m)) e (p1 y m)) fun e => n1 (by rw [e]; exact m)
theorem cut_take (ws : List V) (i : Nat) : cutV ws none (some (i : Int)) = ws.take i := by
  unfold cutV
  rw [HT.sIx_none, HT.sIx_nat, List.drop_zero, Nat.sub_zero]
  by_cases h : i ≤ ws.length
  · rw [Nat.min_eq_left h]
  · rw [Nat.min_eq_right (by omega), List.take_length, List.take_of_length_le (by omega)]
theorem Ats.take {K : PySem.W.Frag} {H : Hp} : ∀ {vs : List V} {xs : List Tr}, Ats K H vs xs → ∀ i, Ats K H (vs.take i) (xs.take i)
  | _, _, .nil, i => by simp; exact .nil
  | _, _, .cons a b, 0 => .nil
  | _, _, .cons a b, i + 1 => .cons a (Ats.take b i)
theorem Ats.drop {K : PySem.W.Frag} {H : Hp} : ∀ {vs : List V} {xs : List Tr}, Ats K H vs xs → ∀ i, Ats K H (vs.drop i) (xs.drop i)
  | _, _, .nil, i => by simp; exact .nil
  | _, _, .cons a b, 0 => .cons a b
  | _, _, .cons a b, i + 1 => Ats.drop b i
def spUnlike (K : PySem.W.Frag) : Sp := fun vs H Q _ => ∃ a xs, vs = [.ref a] ∧ LsAt K H a xs ∧ (∀ x ∈ xs, Tr.WL 10 x) ∧ xs.length ≤ 83000 ∧ ∀ p us H', Same H H' → At K H' (.ref p) (.t us) → Tr.Asc us → (∀ z, z ∈ us ↔ z ∈ xs) → Q (.ref p) H'
def spPartsD (K : PySem.W.Frag) : Sp := fun vs H Q _ => ∃ v w, vs = [v] ∧ At K H v w ∧ Tr.WL 10 w ∧ (Tr.held w).length ≤ 107 ∧ ∀ p us H', Same H H' → At K H' (.ref p) (.t us) → Tr.Asc us → (∀ z, z ∈ us ↔ z ∈ Tr.held w) → Q (.ref p) H'
section
variable {P : Program} {w : World} {K : PySem.W.Frag} {mg : Str → Option Value} {base : Heap}
theorem scUnlike : FnScope ["_law_worths", "_law_k", "_law_worth"] ["_law_worths"] (defScope sUnlike) := ⟨rfl, rfl, rfl, by decide +kernel, rfl, by decide +kernel, by decide +kernel⟩
theorem ok_unlike (D : DefAt K mg "_law_unlike" sUnlike) (B : Bt mg) : Cal P w K mg base CX0 1 "_law_unlike" ["_law_worths"] (spUnlike K) := by
  refine D.cal (fun _ _ _ _ _ _ us hl => match us, hl with | [_], _ => rfl) fun f fd F => ?_
  refine F.ok scUnlike (fun vs H Q E h => ?_) (fun cdv A outer s H vs Q E HR h => ?_)
  · obtain ⟨a, xs, rfl, _⟩ := h
    rfl
  · obtain ⟨a, xs, rfl, ⟨ws, ea, aw⟩, wl, hl, k⟩ := h
    refine ⟨_, (pss_one (ps_ret (pe_callTy call_tuple_of (by rfl) B.tuple (by decide +kernel) (pa_cons (pe_callB (cr_sortD (Room.u70 HR)) (by rfl) B.sorted (by decide +kernel) (pa_cons (pe_lc (own := [("_law_k", 1), ("_law_worth", 2)]) (g := gTup K 2 (gCons (gName 1) (gCons (gName 2) gNil))) (tt := (tTest (tOp (rNiT K) (tVar 2) (L2.tSl (rSlL K) (tVar 0) tNoPart (tPart (tVar 1)))))) rfl scUnlike.nd (pi_enum (by rfl) B.enum (pa_cons (pv 0) pa_nil)) (blkOk_by (own := [("_law_k", 1), ("_law_worth", 2)]) (N := ["_law_worths", "_law_k", "_law_worth"]) (sc := defScope sUnlike) (by decide +kernel)) (fun _ _ _ _ _ => (pg_tup (n := 2) rfl (pgs_cons (pg_name (i := 1) scUnlike.nd rfl (Or.inl rfl)) (pgs_cons (pg_name (i := 2) scUnlike.nd rfl (Or.inl rfl)) pgs_nil)))) (fun _ _ _ _ _ => pts_one (pt_cmpR (op_niT (Room.u70 HR)) (pv 2) (pe_slice sl_list (pv 0) po_none (po_some (pv 1))) (by rfl))) (fun _ _ _ _ _ => (pv 2))) pa_nil)) pa_nil)))), ?_⟩
    walk_at "go"
    have lw : ws.length ≤ 83000 := by rw [aw.length]; exact hl
    refine lpC_by (wk_enum (xs := ws)) (fun D i H2 => H D = none ∧ Same H H2 ∧ ∃ ys, LsAt K H2 D ys ∧ ys.length ≤ i ∧ ys.Nodup ∧ ∀ z, z ∈ ys ↔ z ∈ xs.take i) (fun D nD => ⟨nD, same_new nD, [], ⟨[], upd_same, .nil⟩, Nat.zero_le _, List.nodup_nil, fun z => by simp⟩)
      (fun D i H2 _ p => SqL.of (p.2.1 _ _ ea)) ?_ ?_
    · rintro D i y H2 H3 hi ⟨nD, s2, ys, ⟨dvs, eD, aD⟩, ly, nd, mem⟩ ⟨T, x, rfl, nT, rfl, hx⟩
      obtain ⟨u, hu, au⟩ := aw.get hx
      have s3 : Same H (upd H2 T (.tup [.int (i : Nat), x])) := s2.trans (same_new nT)
      walk_at "go"
      refine ⟨a, ws, rfl, SqL.of (s3 _ _ ea), fun q nq => ?_⟩
      have s4 := s3.trans (same_new (o := .lst (cutV ws none (some (i : Int)))) nq)
      have eD4 : upd (upd H2 T (.tup [.int (i : Nat), x])) q (.lst (cutV ws none (some (i : Int)))) D = some (.lst dvs) := ((same_new nT).trans (same_new nq)) _ _ eD
      have aD4 := (aD.kt (Kt.new (o := .tup [.int (i : Nat), x]) nT)).kt (Kt.new (o := .lst (cutV ws none (some (i : Int)))) nq)
      have tk : xs.take (i + 1) = xs.take i ++ [u] := by rw [List.take_add_one, hu]; rfl
      have au4 := au.kt (Kt.same s4)
      refine ⟨u, xs.take i, au4, ⟨q, _, rfl, .inl (SqL.of upd_same), ?_⟩, Nat.le_trans (wl u (List.mem_of_getElem? hu)).dep_le (by decide), _, rfl, ?_⟩
      · have q4 := (Ats.take aw i).kt (Kt.same s4)
        rw [← cut_take ws i] at q4
        exact q4
      · by_cases e : u ∈ xs.take i
        · rw [if_neg (by simpa using e)]
          refine ⟨nD, s4, ys, ⟨dvs, eD4, aD4⟩, by omega, nd, fun z => ?_⟩
          rw [mem z, tk, List.mem_append, List.mem_singleton]
          exact ⟨.inl, fun h => h.elim id fun h => by rw [h]; exact e⟩
        · rw [if_pos (by simpa using e)]
          have r := acc_put (K := K) nD s4 eD4 aD4 au4
          refine ⟨dvs, eD4, ?_, nD, r.1, ys ++ [u], r.2, by rw [List.length_append]; simp; omega, ?_, fun z => ?_⟩
          · rw [aD.length]
            exact Nat.lt_of_le_of_lt (Nat.le_trans ly (by omega : i ≤ 83000)) (by decide)
          · exact List.nodup_append.mpr ⟨nd, by simp, fun y hy z hz => by
              rw [List.mem_singleton.mp hz]
              exact fun h => e ((mem u).mp (h ▸ hy))⟩
          · rw [tk, List.mem_append, List.mem_append, mem z]
    · rintro D H2 nD ⟨_, s2, ys, ⟨dvs, eD, aD⟩, ly, nd, mem⟩
      rw [aw.length, List.take_length] at mem
      have wy : ∀ z ∈ ys, Tr.WL 10 z := fun z m => wl z ((mem z).mp m)
      refine ⟨D, dvs, ys, rfl, .inl (SqL.of eD), aD, fun y hy z hz => (wy y hy).ak (wy z hz), sortOk_w fun y hy => shape_w (wy y hy), fun y hy => Nat.le_trans (wy y hy).dep_le (by decide), fun p us vs np pr pw av => ?_⟩
      walk_at "go"
      refine ⟨vs, .inl ⟨SqL.of upd_same, fun l nl => ?_⟩⟩
      refine k l us _ ((s2.trans (same_new np)).trans (same_new nl)) (at_tup (SqT.of upd_same) ((av.kt (Kt.new np)).kt (Kt.new nl))) (asc_of pw (pr.nodup_iff.mpr nd) fun y hy z hz => (wy y (pr.mem_iff.mp hy)).ak (wy z (pr.mem_iff.mp hz))) fun z => ?_
      rw [pr.mem_iff, mem z]
theorem scPartsD : FnScope ["_law_worth", "_law_told", "_law_turn"] ["_law_worth"] (defScope sPartsD) := ⟨rfl, rfl, rfl, by decide +kernel, rfl, by decide +kernel, by decide +kernel⟩
theorem ok_partsD (D : DefAt K mg "_law_parts_due" sPartsD) (B : Bt mg) (C_unlike : Cal P w K mg base CX0 1 "_law_unlike" ["_law_worths"] (spUnlike K)) : Cal P w K mg base CX0 2 "_law_parts_due" ["_law_worth"] (spPartsD K) := by
  refine D.cal (fun _ _ _ _ _ _ us hl => match us, hl with | [_], _ => rfl) fun f fd F => ?_
  refine F.ok scPartsD (fun vs H Q E h => ?_) (fun cdv A outer s H vs Q E HR h => ?_)
  · obtain ⟨v, x, rfl, _⟩ := h
    rfl
  · obtain ⟨v, x, rfl, hx, hw, hl, k⟩ := h
    refine ⟨_, (pss_cons (ps_set (i := 1) scPartsD.nd rfl (Or.inl rfl) (pe_ifExp (pt_cmpR op_eq (pe_ix ix_tup (pe_ix ix_tup (pv 0) pe_int (fun _ _ => rfl)) pe_int (fun _ _ => rfl)) pe_int (nomark _)) (pe_callTy call_list_of (by rfl) B.list (by decide +kernel) (pa_cons (pe_ix ix_tup (pe_ix ix_tup (pv 0) pe_int (fun _ _ => rfl)) pe_int (fun _ _ => rfl)) pa_nil)) (pe_lst pa_nil)))
  (pss_cons (ps_for PassesOwn.never rfl (pi_tup (pe_ix ix_tup (pv 0) pe_int (fun _ _ => rfl))) (pg_name (i := 2) scPartsD.nd rfl (Or.inl rfl)) (pss_one (ps_set (i := 1) scPartsD.nd rfl (Or.inl rfl) (pe_op op_cat (pv 1) (pe_callTy call_list_of (by rfl) B.list (by decide +kernel) (pa_cons (pe_ix ix_tup (pv 2) pe_int (fun _ _ => rfl)) pa_nil))))))
  (pss_one (ps_ret (pe_cal C_unlike (by rfl) HR pass0 (pa_cons (pv 1) pa_nil)))))), ?_⟩
    obtain ⟨b, bag, rfl, hb, hl7, ht⟩ := id hw
    obtain ⟨a, vs0, rfl, h0, a0⟩ := tup_at hx
    cases a0 with
    | @cons vb _ _ _ ab a0 =>
    cases a0 with
    | cons abag a0 =>
    cases a0
    obtain ⟨ga, gvs, rfl, hg, ag⟩ := tup_at abag
    have fin : ∀ (l : Addr) (H1 : Hp) (v1 : Option V), LsAt K H1 l (Tr.heldB b) → Same H H1 → Lp (gName 2)
          (tAsg (tOp rCat (tVar 1) (tCB (fun xs H Q => ∃ p, xs = [.ref p] ∧ ∃ ys, (SqL K H p ys ∨ SqT K H p ys) ∧ ∀ l, H l = none → Q (.ref l) (upd H l (.lst ys))) (tCons (tOp (rIxT K) (tVar 2) (tC (.int 1))) tNil))) (gName 1))
          { nx := tRet (tCal (spUnlike K) E0 (tCons (tVar 1) tNil)) { nx := fun x H' => Q V.non H', rt := Q }, rt := Q } [some (.ref a), some (.ref l), v1] (Itt K ga) H1 := by
      intro l H1 v1 hl1 s1
      have cap : ∀ i, (Tr.heldB b ++ (bag.take i).flatMap Tr.heldT).length ≤ 107 := fun i => by
        have q := (Tr.flat_sub (f := Tr.heldT) (List.take_sublist i bag)).length_le
        rw [Tr.held_wor, List.length_append] at hl
        rw [List.length_append]
        omega
      refine lp_by (wk_tup (xs := gvs)) (fun i σ H2 => ∃ l' t, σ = [some (.ref a), some (.ref l'), t] ∧ Same H H2 ∧ LsAt K H2 l' (Tr.heldB b ++ (bag.take i).flatMap Tr.heldT)) ⟨l, v1, rfl, s1, by simpa using hl1⟩ (fun i σ H2 _ ⟨_, _, _, s2, _⟩ => hg.kt (Kt.same s2)) ?_ ?_
      · rintro i y σ H2' H2 hi ⟨l', t, rfl, s2, vs2, e2, a2⟩ ⟨rfl, hy⟩
        obtain ⟨x, hxi, ax⟩ := ag.get hy
        have tk : bag.take (i + 1) = bag.take i ++ [x] := by rw [List.take_add_one, hxi]; rfl
        obtain ⟨m, ws, rfl, _⟩ := ht x (List.mem_of_getElem? hxi)
        obtain ⟨ta, tvs, rfl, hta, atv⟩ := tup_at ax
        cases atv with
        | cons am atv =>
        cases atv with
        | cons aws atv =>
        cases atv
        obtain ⟨wa, wvs, rfl, hwa, awv⟩ := tup_at aws
        have e3 : Tr.heldB b ++ (bag.take (i + 1)).flatMap Tr.heldT = (Tr.heldB b ++ (bag.take i).flatMap Tr.heldT) ++ ws := by
          rw [tk, List.flatMap_append, ← List.append_assoc]
          simp [Tr.heldT, Tr.trn]
        have c3 := cap (i + 1)
        rw [e3, List.length_append, ← a2.length, ← awv.length] at c3
        walk_at "go"
        refine ⟨_, hta.kt (Kt.same s2), _, rfl, wa, rfl, wvs, .inr (hwa.kt (Kt.same s2)), fun l2 nl2 => ?_⟩
        refine ⟨l', l2, vs2, wvs, rfl, rfl, (same_new nl2) _ _ e2, upd_same, Nat.le_trans c3 (by decide), fun l3 nl3 => ?_⟩
        refine ⟨l3, rfl, (s2.trans (same_new nl2)).trans (same_new nl3), _, upd_same, ?_⟩
        rw [e3]
        exact (((a2.kt (Kt.new nl2)).append ((awv.kt (Kt.same s2)).kt (Kt.new nl2)))).kt (Kt.new nl3)
      · rintro σ H2 ⟨l', t, rfl, s2, ls2⟩
        rw [ag.length, List.take_length] at ls2
        walk_at "go"
        exact ⟨l', _, rfl, ls2, fun z m => hw.part m, Nat.le_trans hl (by decide), fun p us H3 s3 ap asc mem => k p us H3 (s2.trans s3) ap asc mem⟩
    rcases hb with ⟨c, rfl⟩ | ⟨m, ws, rfl, hws⟩
    · obtain ⟨ba, bvs, rfl, hba, abv⟩ := tup_at ab
      cases abv with
      | cons a1 abv =>
      cases abv with
      | cons a2 abv =>
      cases abv
      rw [int_at a1] at hba
      walk_at "go"
      refine ⟨_, h0, _, rfl, ba, rfl, _, hba, _, rfl, ?_⟩
      walk_at "go"
      rw [if_neg (by decide)]
      refine ⟨Nat.zero_le _, fun l nl => ⟨_, h0.kt (Kt.new nl), _, rfl, ga, rfl, ⟨_, hg.kt (Kt.new nl)⟩, fin l _ _ ⟨[], upd_same, .nil⟩ (same_new nl)⟩⟩
    · obtain ⟨ba, bvs, rfl, hba, abv⟩ := tup_at ab
      cases abv with
      | cons a1 abv =>
      cases abv with
      | cons a2 abv =>
      cases abv with
      | cons a3 abv =>
      cases abv
      rw [int_at a1] at hba
      obtain ⟨wa, wvs, rfl, hwa, awv⟩ := tup_at a3
      walk_at "go"
      refine ⟨_, h0, _, rfl, ba, rfl, _, hba, _, rfl, ?_⟩
      walk_at "go"
      refine ⟨_, h0, _, rfl, ba, rfl, _, hba, _, rfl, wa, rfl, wvs, .inr hwa, fun l nl => ?_⟩
      refine ⟨_, h0.kt (Kt.new nl), _, rfl, ga, rfl, ⟨_, hg.kt (Kt.new nl)⟩, fin l _ _ ⟨wvs, upd_same, awv.kt (Kt.new nl)⟩ (same_new nl)⟩
end


set_option Elab.async false
set_option linter.all false
set_option maxRecDepth 100000
set_option maxHeartbeats 4000000
open PySem L2 StX


def spClosedD (K : PySem.W.Frag) : Sp := fun vs H Q _ => ∃ a xs, vs = [.ref a] ∧ LsAt K H a xs ∧ Tr.Sm xs ∧ ∀ p us H', Same H H' → At K H' (.ref p) (.t us) → Tr.Asc us → (∀ z, z ∈ us ↔ Tr.CL xs z) → Q (.ref p) H'
/-- the lesser bags by one turn -/
def drops : Tr → List Tr
  | .t [b, .t bag] => (List.range bag.length).map fun k => Tr.wor b (bag.eraseIdx k)
  | _ => []
structure Cd (K : PySem.W.Frag) (H : Hp) (a : Addr) (xs : List Tr) (m : Nat) (σ : St) (H2 : Hp) : Prop where
  ex : ∃ p q ts ls t, σ = [some (.ref a), some (.ref p), some (.ref q), t, none] ∧ Same H H2 ∧ p ≠ q ∧ H p = none ∧ H q = none ∧ LsAt K H2 p ts ∧ LsAt K H2 q ls ∧ ts.Nodup ∧ (∀ z ∈ ts, Tr.CL xs z) ∧ (∀ z ∈ ls, Tr.CL xs z) ∧ ls.length ≤ 83000 + 114 * ts.length ∧
    m = (83000 - ts.length) * 200 + ls.length ∧ (∀ z ∈ xs, z ∈ ts ∨ z ∈ ls) ∧ (∀ z ∈ ts, ∀ v ∈ Tr.held z, v ∈ ts ∨ v ∈ ls) ∧ ∀ z ∈ ts, ∀ v ∈ drops z, v ∈ ts ∨ v ∈ ls
section
variable {P : Program} {w : World} {K : PySem.W.Frag} {mg : Str → Option Value} {base : Heap}
theorem cat_any {a b : Addr} {xs ys : List V} {H : Hp} {Q : VK} (h1 : SqT K H a xs) (h2 : SqT K H b ys) (hz : xs.length + ys.length ≤ sizeLine) (q : ∀ p H', Same H H' → SqT K H' p (xs ++ ys) → Q (.ref p) H') : rCatA K (.ref a) (.ref b) H Q := by
  refine ⟨a, b, xs, ys, rfl, rfl, h1, h2, hz, fun e => ?_, fun _ e => ?_, fun _ _ p np => q p _ (same_new np) (SqT.of upd_same)⟩
  · subst e; exact q b H (Same.refl _) h2
  · subst e; exact q a H (Same.refl _) (by rw [List.append_nil]; exact h1)
theorem cut_drop (ws : List V) (i : Nat) (h : i < ws.length) : cutV ws (some ((i : Int) + 1)) none = ws.drop (i + 1) := by
  unfold cutV
  have e : ((i : Int) + 1) = ((i + 1 : Nat) : Int) := by omega
  rw [e, HT.sIx_none, HT.sIx_nat, Nat.min_eq_left (by omega)]
  exact List.take_of_length_le (by rw [List.length_drop]; omega)
theorem dropC {H1 : Hp} {x v0 v1 v2 : V} {b : Tr} {bag : List Tr} {gvs : List V} {a ga : Addr} {vb : V} {Q : VK} (ex : x = .ref a) (h0 : SqT K H1 a [vb, .ref ga]) (hg : SqT K H1 ga gvs) (ab : At K H1 vb b) (ag : Ats K H1 gvs bag) (h7 : bag.length ≤ 7)
    (fin : ∀ D H2, H1 D = none → Same H1 H2 → LsAt K H2 D (drops (Tr.wor b bag)) → Q (.ref D) H2) :
    LpC (gName 4) tYes (tTup (tCons (tOp (rIxT K) (tVar 3) (tC (.int 0))) (tCons (tOp (rCatA K) (L2.tSl (rSlA K) (tOp (rIxT K) (tVar 3) (tC (.int 1))) tNoPart (tPart (tVar 4))) (L2.tSl (rSlA K) (tOp (rIxT K) (tVar 3) (tC (.int 1))) (tPart (tOp (rI0 fun i j => V.int (i + j)) (tVar 4) (tC (.int 1)))) tNoPart)) tNil)))
      [4] [some v0, some v1, some v2, some x, none] Q (Itr 0 ((gvs.length : Nat) : Int).toNat) H1 := by
  subst ex
  have hd : drops (Tr.wor b bag) = (List.range bag.length).map fun k => Tr.wor b (bag.eraseIdx k) := rfl
  have gl := ag.length
  have en : ((gvs.length : Nat) : Int).toNat = gvs.length := by omega
  rw [en]
  refine lpC_by wk_range (fun D i H2 => H1 D = none ∧ Same H1 H2 ∧ LsAt K H2 D ((List.range i).map fun k => Tr.wor b (bag.eraseIdx k))) (fun D nD => ⟨nD, same_new nD, [], upd_same, .nil⟩) (fun _ _ _ _ _ => trivial) ?_ ?_
  · rintro D i y H2' H2 hi ⟨nD, s2, dvs, eD, aD⟩ ⟨rfl, rfl⟩
    have b1 : HT.sIx gvs.length gvs.length (some (i : Int)) = i := by rw [HT.sIx_nat, Nat.min_eq_left (by omega)]
    have b2 : HT.sIx gvs.length 0 (some ((i : Int) + 1)) = i + 1 := by
      rw [show ((i : Int) + 1) = ((i + 1 : Nat) : Int) by omega, HT.sIx_nat, Nat.min_eq_left (by omega)]
    have h02 := h0.kt (Kt.same s2)
    have hg2 := hg.kt (Kt.same s2)
    walk_at "go"
    simp only [Int.zero_add]
    refine ⟨_, h02, vb, rfl, _, h02, _, rfl, ga, rfl, gvs, hg2, fun z => absurd z.2 (by rw [b1]; omega), fun _ p np => ⟨_, h02.kt (Kt.new np), _, rfl, ga, rfl, gvs, hg2.kt (Kt.new np), fun z => absurd z.1 (by rw [b2]; omega), fun _ p2 np2 => ?_⟩⟩
    have l1 : (gvs.take i).length + (gvs.drop (i + 1)).length ≤ 7 := by rw [List.length_take, List.length_drop]; omega
    have s4 : Same H1 (upd (upd H2 p (.tup (cutV gvs none (some (i : Int))))) p2 (.tup (cutV gvs (some ((i : Int) + 1)) none))) := (s2.trans (same_new np)).trans (same_new np2)
    have t1 : SqT K (upd (upd H2 p (.tup (cutV gvs none (some (i : Int))))) p2 (.tup (cutV gvs (some ((i : Int) + 1)) none))) p (gvs.take i) := by
      refine SqT.of ?_
      rw [(same_new np2) _ _ upd_same, cut_take]
    have t2 : SqT K (upd (upd H2 p (.tup (cutV gvs none (some (i : Int))))) p2 (.tup (cutV gvs (some ((i : Int) + 1)) none))) p2 (gvs.drop (i + 1)) := by
      refine SqT.of ?_
      rw [upd_same, cut_drop gvs i hi]
    refine cat_any t1 t2 (Nat.le_trans l1 (by decide)) fun r H3 s3 hr => ⟨by decide, fun tp ntp => ?_⟩
    have s5 : Same H1 (upd H3 tp (.tup [vb, .ref r])) := (s4.trans s3).trans (same_new ntp)
    have k2 : Kt H2 (upd H3 tp (.tup [vb, .ref r])) := (((Kt.new np).trans (Kt.new np2)).trans (Kt.same s3)).trans (Kt.new ntp)
    have eD5 : upd H3 tp (.tup [vb, .ref r]) D = some (.lst dvs) := (same_new ntp) _ _ (s3 _ _ ((same_new np2) _ _ ((same_new np) _ _ eD)))
    have at5 : At K (upd H3 tp (.tup [vb, .ref r])) (.ref tp) (Tr.wor b (bag.eraseIdx i)) := by
      have q := (ag.kt (Kt.same s5))
      refine at_tup (SqT.of upd_same) (.cons (ab.kt (Kt.same s5)) (.cons (at_tup (hr.kt (Kt.new ntp)) ?_) .nil))
      rw [List.eraseIdx_eq_take_drop_succ]
      exact (Ats.take q i).append (Ats.drop q (i + 1))
    have r5 := acc_put (K := K) nD s5 eD5 (aD.kt k2) at5
    refine ⟨dvs, eD5, ?_, nD, r5.1, ?_⟩
    · rw [aD.length, List.length_map, List.length_range]
      exact Nat.lt_of_lt_of_le (by omega : i < 8) (by decide)
    · rw [List.range_succ, List.map_append]
      exact r5.2
  · rintro D H2 nD ⟨_, s2, ls2⟩
    rw [gl] at ls2
    exact fin D H2 nD s2 (by rw [hd]; exact ls2)
theorem scClosedD : FnScope ["_law_worths", "_law_told", "_law_left", "_law_worth", "_law_k"] ["_law_worths"] (defScope sClosedD) := ⟨rfl, rfl, rfl, by decide +kernel, rfl, by decide +kernel, by decide +kernel⟩
theorem ok_closedD (D : DefAt K mg "_law_closed_due" sClosedD) (B : Bt mg) (C_parts_due : Cal P w K mg base CX0 2 "_law_parts_due" ["_law_worth"] (spPartsD K)) : Cal P w K mg base CX0 3 "_law_closed_due" ["_law_worths"] (spClosedD K) := by
  refine D.cal (fun _ _ _ _ _ _ us hl => match us, hl with | [_], _ => rfl) fun f fd F => ?_
  refine F.ok scClosedD (fun vs H Q E h => ?_) (fun cdv A outer s H vs Q E HR h => ?_)
  · obtain ⟨a, xs, rfl, _⟩ := h
    rfl
  · obtain ⟨a, xs, rfl, ⟨ws, ea, aw⟩, sm, k⟩ := h
    refine ⟨_, (pss_cons (ps_set (i := 1) scClosedD.nd rfl (Or.inl rfl) (pe_lst pa_nil))
  (pss_cons (ps_set (i := 2) scClosedD.nd rfl (Or.inl rfl) (pe_callTy call_list_of (by rfl) B.list (by decide +kernel) (pa_cons (pv 0) pa_nil)))
  (pss_cons (ps_while PassesOwn.never (pt_cmpR op_gt (pe_callB call_len_seq (by rfl) B.len PySem.boot_len (pa_cons (pv 2) pa_nil)) pe_int (nomark _)) (pss_cons (ps_set (i := 3) scClosedD.nd rfl (Or.inr rfl) (pe_bm0 PySem.F.plainAttrs_list PySem.F.slot_list_pop PySem.F.type_list_pop mt_pop (pv 2)))
  (pss_one (ps_if (pt_cmpR (op_niT (Room.u70 HR)) (pv 3) (pv 1) (by rfl)) (pss_cons (ps_expr (pe_bm PySem.F.plainAttrs_list PySem.F.slot_list_append PySem.F.type_list_append mt_append (pv 1) (pa_cons (pv 3) pa_nil)))
  (pss_cons (ps_set (i := 2) scClosedD.nd rfl (Or.inl rfl) (pe_op op_cat (pv 2) (pe_callTy call_list_of (by rfl) B.list (by decide +kernel) (pa_cons (pe_cal C_parts_due (by rfl) HR pass0 (pa_cons (pv 3) pa_nil)) pa_nil))))
  (pss_one (ps_set (i := 2) scClosedD.nd rfl (Or.inl rfl) (pe_op op_cat (pv 2) (pe_lc (own := [("_law_k", 4)]) (g := gName 4) (tt := tYes) (te := tTup (tCons (tOp (rIxT K) (tVar 3) (tC (.int 0))) (tCons (tOp (rCatA K) (L2.tSl (rSlA K) (tOp (rIxT K) (tVar 3) (tC (.int 1))) tNoPart (tPart (tVar 4))) (L2.tSl (rSlA K) (tOp (rIxT K) (tVar 3) (tC (.int 1))) (tPart (tOp (rI0 fun i j => V.int (i + j)) (tVar 4) (tC (.int 1)))) tNoPart)) tNil))) rfl scClosedD.nd (pi_range1 (by rfl) B.range (pa_cons (pe_callB call_len_seq (by rfl) B.len PySem.boot_len (pa_cons (pe_ix ix_tup (pv 3) pe_int (fun _ _ => rfl)) pa_nil)) pa_nil)) (blkOk_by (own := [("_law_k", 4)]) (N := ["_law_worths", "_law_told", "_law_left", "_law_worth", "_law_k"]) (sc := defScope sClosedD) (by decide +kernel)) (fun _ _ _ _ _ => (pg_name (i := 4) scClosedD.nd rfl (Or.inl rfl))) (fun _ _ _ _ _ => pts_nil) (fun _ _ _ _ _ => (pe_tup (pa_cons (pe_ix ix_tup (pv 3) pe_int (fun _ _ => rfl)) (pa_cons (pe_op op_catA (pe_slice sl_tupA (pe_ix ix_tup (pv 3) pe_int (fun _ _ => rfl)) po_none (po_some (pv 4))) (pe_slice sl_tupA (pe_ix ix_tup (pv 3) pe_int (fun _ _ => rfl)) (po_some (pe_op op_add (pv 4) pe_int)) po_none)) pa_nil)))))))))) pss_nil))))
  (pss_one (ps_ret (pe_callTy call_tuple_of (by rfl) B.tuple (by decide +kernel) (pa_cons (pe_callB (cr_sortD (Room.u70 HR)) (by rfl) B.sorted (by decide +kernel) (pa_cons (pv 1) pa_nil)) pa_nil))))))), ?_⟩
    obtain ⟨L, l1, l2⟩ := sm.cap
    have wl : ∀ z, Tr.CL xs z → Tr.WL 10 z := fun z h => h.wl sm.wl
    have cap : ∀ ts : List Tr, ts.Nodup → (∀ z ∈ ts, Tr.CL xs z) → ts.length ≤ 83000 := fun ts n h => Nat.le_trans (Tr.asc_len n fun z m => l2 z (h z m)) l1
    walk_at "go"
    refine ⟨Nat.zero_le _, fun p np => ⟨ws, .inl (SqL.of ((same_new np) _ _ ea)), fun q nq => ⟨fun m σ H2 => Cd K H a xs m σ H2, ⟨_, ⟨p, q, [], xs, none, rfl, (same_new np).trans (same_new nq), fun e => (by rw [e, upd_same] at nq; cases nq), np, ?_, ⟨[], ?_, .nil⟩, ⟨ws, upd_same, (aw.kt (Kt.new np)).kt (Kt.new nq)⟩, List.nodup_nil, fun z m => (by cases m), fun z m => .base m, (by have := sm.len; omega), rfl, fun z m => .inr m, fun z m => (by cases m), fun z m => (by cases m)⟩⟩, fun m σ H2 cd => ?_⟩⟩⟩
    · cases e : H q with
      | none => rfl
      | some o => rw [(same_new np) _ _ e] at nq; cases nq
    · rw [upd_ne (fun e => by rw [e, upd_same] at nq; cases nq)]; exact upd_same
    obtain ⟨p, q, ts, ls, t, rfl, s2, pq, np', nq', ⟨tvs, ep, ap⟩, ⟨lvs, eq, aq⟩, nd, ct, cls, ll, rfl, hx, hh, hdr⟩ := cd
    have lt := cap ts nd ct
    walk_at "go"
    rcases List.eq_nil_or_concat lvs with e | ⟨lf, y, e⟩
    · subst e
      cases aq
      rw [if_neg (by simp)]
      have mem : ∀ z, z ∈ ts ↔ Tr.CL xs z := fun z => ⟨ct z, fun c => by
        induction c with
        | base m => exact (hx _ m).elim id fun m => by cases m
        | part _ m ih => exact (hh _ ih _ m).elim id fun m => by cases m
        | @drop b bag k _ hk ih => exact (hdr _ ih _ (List.mem_map.mpr ⟨k, List.mem_range.mpr hk, rfl⟩)).elim id fun m => by cases m⟩
      walk_at "go"
      refine ⟨p, tvs, ts, rfl, .inl (SqL.of ep), ap, fun y hy z hz => (wl y (ct y hy)).ak (wl z (ct z hz)), sortOk_w fun y hy => shape_w (wl y (ct y hy)), fun y hy => Nat.le_trans (wl y (ct y hy)).dep_le (by decide), fun p2 us vs np2 pr pw av => ?_⟩
      walk_at "go"
      refine ⟨vs, .inl ⟨SqL.of upd_same, fun l nl => ?_⟩⟩
      refine k l us _ ((s2.trans (same_new np2)).trans (same_new nl)) (at_tup (SqT.of upd_same) ((av.kt (Kt.new np2)).kt (Kt.new nl))) (asc_of pw (pr.nodup_iff.mpr nd) fun y hy z hz => (wl y (ct y (pr.mem_iff.mp hy))).ak (wl z (ct z (pr.mem_iff.mp hz)))) fun z => ?_
      rw [pr.mem_iff, mem z]
    · rw [List.concat_eq_append] at e
      subst e
      obtain ⟨lft, x, rfl, alf, ax⟩ := Ats.split aq
      rw [if_pos (by simp)]
      walk_at "go"
      have cx : Tr.CL xs x := cls x (by simp)
      have wx := wl x cx
      obtain ⟨b, bag, rfl⟩ := wor_of wx
      obtain ⟨ya, yvs, rfl, hy0, ay⟩ := tup_at ax
      cases ay with
      | @cons vb _ _ _ ab ay =>
      cases ay with
      | cons abag ay =>
      cases ay
      obtain ⟨ga, gvs, rfl, hg, ag⟩ := tup_at abag
      have h7 : bag.length ≤ 7 := by
        obtain ⟨b', bag', e0, _, h7, _⟩ := id wx
        unfold Tr.wor at e0
        injection e0 with e0
        injection e0 with e1 e2
        injection e2 with e2 _
        injection e2 with e2
        rw [e2]; exact h7
      have k3 : Kt H2 (upd H2 q (.lst lf)) := Kt.lst eq
      have s3 : Same H (upd H2 q (.lst lf)) := fun b o e => by rw [upd_ne (ne_of_none e nq')]; exact s2 b o e
      have ep3 : upd H2 q (.lst lf) p = some (.lst tvs) := by rw [upd_ne pq]; exact ep
      refine ⟨fun σ' H' => ∃ m', m' < _ ∧ Cd K H a xs m' σ' H', fun σ' H' h => h, .inl ⟨rfl, _, SqL.of eq⟩, q, lf ++ [.ref ya], .ref ya, rfl, rfl, eq, by simp, ?_⟩
      rw [List.dropLast_concat]
      refine ⟨Tr.wor b bag, ts, ax.kt k3, ⟨p, tvs, rfl, .inl (SqL.of ep3), ap.kt k3⟩, Nat.le_trans wx.dep_le (by decide), _, rfl, ?_⟩
      by_cases e : Tr.wor b bag ∈ ts
      · rw [if_neg (by simpa using e)]
        have sw : ∀ z, z ∈ ts ∨ z ∈ lft ++ [Tr.wor b bag] → z ∈ ts ∨ z ∈ lft := fun z h => h.elim .inl fun h => (List.mem_append.mp h).elim .inr fun h => .inl (by rw [List.mem_singleton.mp h]; exact e)
        refine ⟨(83000 - ts.length) * 200 + lft.length, by rw [List.length_append]; simp, p, q, ts, lft, some (.ref ya), rfl, s3, pq, np', nq', ⟨tvs, ep3, ap.kt k3⟩, ⟨lf, upd_same, alf.kt k3⟩, nd, ct, fun z m => cls z (List.mem_append_left _ m), by rw [List.length_append] at ll; omega, rfl, fun z m => sw z (hx z m), fun z m v hv => sw v (hh z m v hv), fun z m v hv => sw v (hdr z m v hv)⟩
      · rw [if_pos (by simpa using e)]
        have nd2 : (ts ++ [Tr.wor b bag]).Nodup := List.nodup_append.mpr ⟨nd, by simp, fun y hy z hz => by
          rw [List.mem_singleton.mp hz]
          exact fun h => e (h ▸ hy)⟩
        have ct2 : ∀ z ∈ ts ++ [Tr.wor b bag], Tr.CL xs z := fun z m => (List.mem_append.mp m).elim (ct z) fun m => by rw [List.mem_singleton.mp m]; exact cx
        have lt2 := cap _ nd2 ct2
        rw [List.length_append, List.length_singleton] at lt2
        have k4 : Kt H2 (upd (upd H2 q (.lst lf)) p (.lst (tvs ++ [.ref ya]))) := k3.trans (Kt.lst ep3)
        have s4 : Same H (upd (upd H2 q (.lst lf)) p (.lst (tvs ++ [.ref ya]))) := fun b o e => by rw [upd_ne (ne_of_none e np')]; exact s3 b o e
        have few := sm.few _ cx
        refine ⟨.inl ⟨rfl, _, SqL.of ep3⟩, tvs, ep3, by rw [ap.length]; exact Nat.lt_of_le_of_lt lt (by decide), .ref ya, _, rfl, ax.kt k4, wx, few, fun r us H5 s5 at5 asc5 m5 => ?_⟩
        obtain ⟨_, uvs, er, hr, au⟩ := tup_at at5
        cases er
        have lu : us.length ≤ 107 := Nat.le_trans (Tr.asc_len asc5.nodup fun z m => (m5 z).mp m) few
        have ep5 : H5 p = some (.lst (tvs ++ [.ref ya])) := s5 _ _ upd_same
        have eq5 : H5 q = some (.lst lf) := s5 _ _ (by rw [upd_ne (Ne.symm pq)]; exact upd_same)
        have k5 : Kt H2 H5 := k4.trans (Kt.same s5)
        have ll2 : lft.length + 1 ≤ 83000 + 114 * 83000 := by
          rw [List.length_append, List.length_singleton] at ll
          omega
        refine ⟨r, rfl, uvs, .inr hr, fun l2 nl2 => ⟨q, l2, lf, uvs, rfl, rfl, (same_new nl2) _ _ eq5, upd_same, ?_, fun q2 nq2 => ?_⟩⟩
        · rw [alf.length, au.length]
          exact Nat.le_trans (Nat.add_le_add (Nat.le_of_succ_le ll2) lu) (by decide)
        have s7 : Same H5 (upd (upd H5 l2 (.lst uvs)) q2 (.lst (lf ++ uvs))) := (same_new nl2).trans (same_new nq2)
        have k7 : Kt H2 (upd (upd H5 l2 (.lst uvs)) q2 (.lst (lf ++ uvs))) := k5.trans (Kt.same s7)
        refine ⟨ya, rfl, _, hy0.kt k7, _, rfl, ga, rfl, gvs, .inr (hg.kt k7), by omega, by rw [ag.length]; omega, dropC rfl (hy0.kt k7) (hg.kt k7) (ab.kt k7) (ag.kt k7) h7 fun D H8 nD s8 ls8 => ?_⟩
        obtain ⟨dvs, eD, aD⟩ := ls8
        have ld : (drops (Tr.wor b bag)).length ≤ 7 := by
          show ((List.range bag.length).map _).length ≤ 7
          rw [List.length_map, List.length_range]; exact h7
        have l3 : (lf ++ uvs).length + dvs.length ≤ 83000 + 114 * 83000 + 114 := by
          rw [List.length_append, alf.length, au.length, aD.length]; omega
        refine ⟨q2, D, lf ++ uvs, dvs, rfl, rfl, s8 _ _ upd_same, eD, Nat.le_trans l3 (by decide), fun q3 nq3 => ?_⟩
        have s9 : Same H5 (upd H8 q3 (.lst (lf ++ uvs ++ dvs))) := (s7.trans s8).trans (same_new nq3)
        have sH : Same H (upd H8 q3 (.lst (lf ++ uvs ++ dvs))) := (s4.trans s5).trans s9
        have k9 : Kt H2 (upd H8 q3 (.lst (lf ++ uvs ++ dvs))) := k5.trans (Kt.same s9)
        have nq3H : H q3 = none := by
          cases e : H q3 with
          | none => rfl
          | some o => rw [((s4.trans s5).trans (s7.trans s8)) _ _ e] at nq3; cases nq3
        have pq3 : p ≠ q3 := fun e => by
          rw [← e, (s7.trans s8) _ _ ep5] at nq3; cases nq3
        have sw : ∀ z, z ∈ ts ∨ z ∈ lft ++ [Tr.wor b bag] → z ∈ ts ++ [Tr.wor b bag] ∨ z ∈ lft ++ us ++ drops (Tr.wor b bag) := fun z h => h.elim (fun h => .inl (List.mem_append_left _ h)) fun h => (List.mem_append.mp h).elim (fun h => .inr (List.mem_append_left _ (List.mem_append_left _ h))) fun h => .inl (List.mem_append_right _ h)
        refine ⟨(83000 - (ts ++ [Tr.wor b bag]).length) * 200 + (lft ++ us ++ drops (Tr.wor b bag)).length, ?_, p, q3, ts ++ [Tr.wor b bag], lft ++ us ++ drops (Tr.wor b bag), some (.ref ya), rfl, sH, pq3, np', nq3H, ⟨_, s9 _ _ ep5, ((ap.kt k9).append (.cons (ax.kt k9) .nil))⟩, ⟨_, upd_same, ?_⟩, nd2, ct2, fun z m => ?_, ?_, rfl, fun z m => sw z (hx z m), fun z m v hv => ?_, fun z m v hv => ?_⟩
        · simp only [List.length_append, List.length_singleton]; omega
        · exact ((alf.kt k9).append (au.kt (Kt.same s9))).append (aD.kt (Kt.new nq3))
        · rcases List.mem_append.mp m with m | m
          · rcases List.mem_append.mp m with m | m
            · exact cls z (List.mem_append_left _ m)
            · exact .part cx ((m5 z).mp m)
          · obtain ⟨k, hk, rfl⟩ := List.mem_map.mp m
            exact .drop cx (List.mem_range.mp hk)
        · simp only [List.length_append, List.length_singleton] at ll ⊢; omega
        · rcases List.mem_append.mp m with m | m
          · exact sw v (hh z m v hv)
          · rw [List.mem_singleton.mp m] at hv
            exact .inr (List.mem_append_left _ (List.mem_append_right _ ((m5 v).mpr hv)))
        · rcases List.mem_append.mp m with m | m
          · exact sw v (hdr z m v hv)
          · rw [List.mem_singleton.mp m] at hv
            exact .inr (List.mem_append_right _ hv)
end


set_option Elab.async false
set_option linter.all false
set_option maxRecDepth 100000
set_option maxHeartbeats 4000000
open PySem L2 StX


def spIsC (K : PySem.W.Frag) : Sp := fun vs H Q _ => ∃ v us xs, vs = [v] ∧ At K H v (.t us) ∧ Tr.Sm xs ∧ (∀ z, z ∈ us ↔ Tr.CL xs z) ∧ ∀ H', Same H H' → Q (.bl true) H'
section
variable {P : Program} {w : World} {K : PySem.W.Frag} {mg : Str → Option Value} {base : Heap}
theorem scIsC : FnScope ["_law_told", "_law_worth", "_law_near"] ["_law_told"] (defScope sIsC) := ⟨rfl, rfl, rfl, by decide +kernel, rfl, by decide +kernel, by decide +kernel⟩
theorem ok_isC (D : DefAt K mg "_law_is_closed" sIsC) (B : Bt mg) (Cparts_of : Cal P w K mg base CX0 2 "parts_of" ["worth"] (spParts K)) (Cbags_within : Cal P w K mg base CX0 2 "bags_within" ["worth"] (spBags K)) :
    Cal P w K mg base CX0 3 "_law_is_closed" ["_law_told"] (spIsC K) := by
  refine D.cal (fun _ _ _ _ _ _ us hl => match us, hl with | [_], _ => rfl) fun f fd F => ?_
  refine F.ok scIsC (fun vs H Q E h => ?_) (fun cdv A outer s H vs Q E HR h => ?_)
  · obtain ⟨v, us, xs, rfl, _⟩ := h
    rfl
  · obtain ⟨v, us, xs, rfl, av, sm, mem, k⟩ := h
    refine ⟨_, (pss_cons (ps_for PassesOwn.never rfl (pi_tup (pv 0)) (pg_name (i := 1) scIsC.nd rfl (Or.inl rfl)) (pss_one (ps_for PassesOwn.never rfl (pi_list (pe_op op_cat (pe_callTy call_list_of (by rfl) B.list (by decide +kernel) (pa_cons (pe_cal Cparts_of (by rfl) HR pass0 (pa_cons (pv 1) pa_nil)) pa_nil)) (pe_callTy call_list_of (by rfl) B.list (by decide +kernel) (pa_cons (pe_cal Cbags_within (by rfl) HR pass0 (pa_cons (pv 1) pa_nil)) pa_nil)))) (pg_name (i := 2) scIsC.nd rfl (Or.inl rfl)) (pss_one (ps_if (pt_cmpR (op_niT (Room.u70 HR)) (pv 2) (pv 0) (by rfl)) (pss_one (ps_ret pe_bl)) pss_nil)))))
  (pss_one (ps_ret pe_bl))), ?_⟩
    obtain ⟨a, tvs, rfl, ha, au⟩ := tup_at av
    walk_at "go"
    refine ⟨⟨_, ha⟩, lp_by (wk_tup (xs := tvs)) (fun i σ H2 => ∃ t1 t2, σ = [some (.ref a), t1, t2] ∧ Same H H2) ⟨none, none, rfl, Same.refl _⟩ (fun i σ H2 _ ⟨_, _, _, s2⟩ => ha.kt (Kt.same s2)) ?_ ?_⟩
    · rintro i y σ H2' H2 hi ⟨t1, t2, rfl, s2⟩ ⟨rfl, hy⟩
      obtain ⟨x, hx, ax⟩ := au.get hy
      have cx := (mem x).mp (List.mem_of_getElem? hx)
      have wx := cx.wl sm.wl
      obtain ⟨b, bag, rfl⟩ := wor_of wx
      walk_at "go"
      refine ⟨y, _, rfl, ax.kt (Kt.same s2), wx, sm.few _ cx, fun p1 us1 H3 s3 a3 asc3 m3 => ?_⟩
      obtain ⟨_, pv, e1, h1, ap1⟩ := tup_at a3
      cases e1
      have l1 : us1.length ≤ 107 := Nat.le_trans (Tr.asc_len asc3.nodup fun z m => (m3 z).mp m) (sm.few _ cx)
      refine ⟨p1, rfl, pv, .inr h1, fun l nl => ?_⟩
      refine ⟨y, b, bag, rfl, ax.kt (Kt.same ((s2.trans s3).trans (same_new nl))), wx, fun p2 us2 H4 s4 a4 l2 m4 => ?_⟩
      obtain ⟨_, bv, e2, h2, ap2⟩ := tup_at a4
      cases e2
      refine ⟨p2, rfl, bv, .inr h2, fun l' nl' => ?_⟩
      have s5 : Same H3 (upd H4 l' (.lst bv)) := ((same_new nl).trans s4).trans (same_new nl')
      refine ⟨l, l', pv, bv, rfl, rfl, (s4.trans (same_new nl')) _ _ upd_same, upd_same, ?_, fun l3 nl3 => ?_⟩
      · rw [ap1.length, ap2.length]
        exact Nat.le_trans (Nat.add_le_add l1 l2) (by decide)
      have s6 : Same H3 (upd (upd H4 l' (.lst bv)) l3 (.lst (pv ++ bv))) := s5.trans (same_new nl3)
      have s7 : Same H (upd (upd H4 l' (.lst bv)) l3 (.lst (pv ++ bv))) := (s2.trans s3).trans s6
      have an : Ats K (upd (upd H4 l' (.lst bv)) l3 (.lst (pv ++ bv))) (pv ++ bv) (us1 ++ us2) := (ap1.kt (Kt.same s6)).append (ap2.kt (Kt.same ((same_new nl').trans (same_new nl3))))
      have near : ∀ z ∈ us1 ++ us2, Tr.CL xs z := fun z m => (List.mem_append.mp m).elim (fun m => .part cx ((m3 z).mp m)) fun m => by
        obtain ⟨s, hs, rfl⟩ := (m4 z).mp m
        exact Tr.CL.sub _ (Nat.le_refl _) cx hs
      refine ⟨l3, rfl, ⟨_, SqL.of upd_same⟩, lp_by (wk_list (xs := pv ++ bv)) (fun j σ H8 => ∃ t2, σ = [some (.ref a), some y, t2] ∧ H8 = upd (upd H4 l' (.lst bv)) l3 (.lst (pv ++ bv))) ⟨t2, rfl, rfl⟩ (fun j σ H8 _ ⟨_, _, e⟩ => by rw [e]; exact SqL.of upd_same) ?_ ?_⟩
      · rintro j z σ H8' H8 hj ⟨t2, rfl, e8⟩ ⟨rfl, hz⟩
        subst e8
        obtain ⟨u, hu, au8⟩ := an.get hz
        have cu := near u (List.mem_of_getElem? hu)
        walk_at "go"
        refine ⟨u, us, au8, ⟨a, tvs, rfl, .inr (ha.kt (Kt.same s7)), au.kt (Kt.same s7)⟩, Nat.le_trans (cu.wl sm.wl).dep_le (by decide), _, rfl, ?_⟩
        rw [if_neg (by simpa using (mem u).mpr cu)]
      · rintro σ H8 ⟨t2, rfl, e8⟩
        subst e8
        exact ⟨_, _, rfl, s7⟩
    · rintro σ H2 ⟨t1, t2, rfl, s2⟩
      walk_at "go"
      exact k H2 s2
end


set_option Elab.async false
set_option linter.all false
set_option maxRecDepth 100000
set_option maxHeartbeats 4000000
open PySem L2 StX


/-- an entry of the pool: a worth, how many it is -/
def ent (w : Tr) (k : Nat) : Tr := .t [w, .i (k : Nat)]
/-- w is nested below n and of k nodes -/
def Wt (n : Nat) (w : Tr) (k : Nat) : Prop := Tr.WL n w ∧ (Tr.nodes 10 w).length = k ∧ 1 ≤ k ∧ k ≤ 108
/-- the pool: at least three, the first three of one node each -/
structure Pool (n : Nat) (es : List (Tr × Nat)) : Prop where
  three : 3 ≤ es.length
  few : es.length ≤ 2 + n
  one : ∀ i, i < 3 → ∃ w, es[i]? = some (w, 1)
  wt : ∀ e ∈ es, Wt n e.1 e.2
def enc (es : List (Tr × Nat)) : List Tr := es.map fun e => ent e.1 e.2
theorem HandAt.put {H : Hp} {p c a : Addr} {o : HO} (h : HandAt H p c) (n1 : a ≠ p) (n2 : a ≠ c) : HandAt (upd H a o) p c := by
  obtain ⟨cs, i, big, tot, h⟩ := h
  exact ⟨cs, i, big, tot, by rw [upd_ne (Ne.symm n1)]; exact h.hp, by rw [upd_ne (Ne.symm n2)]; exact h.hc, h.nn, h.ln, h.b0, h.i0⟩
theorem HandAt.ne {H : Hp} {p c a : Addr} (h : HandAt H p c) (n : H a = none) : a ≠ p ∧ a ≠ c := by
  obtain ⟨cs, i, big, tot, h⟩ := h
  exact ⟨fun e => (by rw [e, h.hp] at n; cases n), fun e => (by rw [e, h.hc] at n; cases n)⟩
theorem But.kt {H H' : Hp} {p c : Addr} (h : HandAt H p c) (b : But p H H') : Kt H H' := by
  obtain ⟨cs, i, big, tot, hh⟩ := h
  exact fun a o n e => b a o (fun z => n _ (by rw [z, hh.hp] at e; exact (Option.some.inj e).symm)) e
def spPool (K : PySem.W.Frag) : Sp := fun vs H Q _ => vs = [] ∧ ∀ q es H', Same H H' → H q = none → LsAt K H' q (enc es) → Pool 1 es → Q (.ref q) H'
def spPick (K : PySem.W.Frag) : Sp := fun vs H Q _ => ∃ p c q room n es, vs = [.ref p, .ref q, .int (room : Nat)] ∧ p ≠ q ∧ HandAt H p c ∧ LsAt K H q (enc es) ∧ Pool n es ∧ n ≤ 9 ∧ 1 ≤ room ∧ ∀ v w k H', HandAt H' p c → But p H H' → At K H' v (ent w k) → Wt n w k → k ≤ room → Q v H'
section
variable {P : Program} {w : World} {K : PySem.W.Frag} {mg : Str → Option Value} {base : Heap}
theorem scPick : FnScope ["_law_hand_here", "_law_pool", "_law_room", "_law_entry"] ["_law_hand_here", "_law_pool", "_law_room"] (defScope sPick) := ⟨rfl, rfl, rfl, by decide +kernel, rfl, by decide +kernel, by decide +kernel⟩
theorem ok_pick (D : DefAt K mg "_law_pick" sPick) (B : Bt mg) (C_take : Cal P w K mg base CX0 2 "_law_take" ["_law_hand_here", "_law_many"] spTake) : Cal P w K mg base CX0 3 "_law_pick" ["_law_hand_here", "_law_pool", "_law_room"] (spPick K) := by
  refine D.cal (fun _ _ _ _ _ _ us hl => match us, hl with | [_, _, _], _ => rfl) fun f fd F => ?_
  refine F.ok scPick (fun vs H Q E h => ?_) (fun cdv A outer s H vs Q E HR h => ?_)
  · obtain ⟨p, c, q, room, n, es, rfl, _⟩ := h
    rfl
  · obtain ⟨p, c0, q, room, n, es, rfl, pq, hp, ⟨vs, eq, aq⟩, po, n9, r1, k⟩ := h
    refine ⟨_, (pss_cons (ps_set (i := 3) scPick.nd rfl (Or.inl rfl) (pe_ix ix_list (pv 1) (pe_cal C_take (by rfl) HR pass0 (pa_cons (pv 0) (pa_cons (pe_callB call_len_seq (by rfl) B.len PySem.boot_len (pa_cons (pv 1) pa_nil)) pa_nil))) (fun _ _ => rfl)))
  (pss_cons (ps_if (pt_cmpR op_gt (pe_ix ix_tup (pv 3) pe_int (fun _ _ => rfl)) (pv 2) (nomark _)) (pss_one (ps_ret (pe_ix ix_list (pv 1) (pe_cal C_take (by rfl) HR pass0 (pa_cons (pv 0) (pa_cons pe_int pa_nil))) (fun _ _ => rfl)))) pss_nil)
  (pss_one (ps_ret (pv 3))))), ?_⟩
    have kb : ∀ {H1 : Hp}, But p H H1 → H1 q = some (.lst vs) ∧ Ats K H1 vs (enc es) := fun b => ⟨b q _ (Ne.symm pq) eq, aq.kt (But.kt hp b)⟩
    have lv : vs.length = es.length := by rw [aq.length]; exact List.length_map _
    have l3 := po.three
    have l9 := po.few
    have get : ∀ (r : Int) (H1 : Hp), 0 ≤ r → r < es.length → But p H H1 → ∃ a w k' rest, atI vs r = some (.ref a) ∧ es[r.toNat]? = some (w, k') ∧ At K H1 (.ref a) (ent w k') ∧ SqT K H1 a (rest :: [.int (k' : Nat)]) ∧ Wt n w k' := fun r H1 r0 rm b => by
      obtain ⟨e, he⟩ : ∃ e, es[r.toNat]? = some e := ⟨_, List.getElem?_eq_getElem (by omega)⟩
      obtain ⟨v, hv, av⟩ := (kb b).2.get' (i := r.toNat) (x := ent e.1 e.2) (by unfold enc; rw [List.getElem?_map, he]; rfl)
      obtain ⟨a, xs, rfl, ha, aa⟩ := tup_at av
      cases aa with
      | @cons v1 _ _ _ a1 aa =>
      cases aa with
      | cons a2 aa =>
      cases aa
      rw [int_at a2] at ha
      exact ⟨a, e.1, e.2, v1, atI_int r0 hv, he, av, ha, po.wt e (List.mem_of_getElem? he)⟩
    walk_at "go"
    refine ⟨p, _, _, rfl, by omega, by omega, hp, fun r H1 r0 rm hp1 b1 => ?_⟩
    obtain ⟨a, x, k', v1, e1, e2, a1, s1, w1⟩ := get r H1 r0 (by omega) b1
    refine ⟨vs, r, rfl, SqL.of (kb b1).1, _, e1, a, rfl, _, s1, _, rfl, _, rfl, ?_⟩
    by_cases c : (room : Int) < (k' : Nat)
    · rw [if_pos c]
      refine ⟨p, _, 3, rfl, by decide, by decide, hp1, fun r2 H2 r20 r2m hp2 b2 => ?_⟩
      have b12 := b1.trans b2
      obtain ⟨a2, x2, k2, v2, f1, f2, f3, f4, f5⟩ := get r2 H2 r20 (by omega) b12
      refine ⟨vs, r2, rfl, SqL.of (kb b12).1, _, f1, k _ x2 k2 H2 hp2 b12 f3 f5 ?_⟩
      obtain ⟨z, hz⟩ := po.one r2.toNat (by omega)
      rw [hz] at f2
      have : k2 = 1 := (Prod.mk.inj (Option.some.inj f2)).2.symm
      omega
    · rw [if_neg c]
      exact k _ x k' H1 hp1 b1 a1 w1 (by omega)
theorem scPool : FnScope ["_law_cell"] [] (defScope sPool) := ⟨rfl, rfl, rfl, by decide +kernel, rfl, by decide +kernel, by decide +kernel⟩
theorem ok_pool (D : DefAt K mg "_law_begun_pool" sPool) (B : Bt mg) : Cal P w K mg base CX0 1 "_law_begun_pool" [] (spPool K) := by
  refine D.cal (fun _ _ _ _ _ _ us hl => match us, hl with | [], _ => rfl) fun f fd F => ?_
  refine F.ok scPool (fun vs H Q E h => ?_) (fun cdv A outer s H vs Q E HR h => ?_)
  · obtain ⟨rfl, _⟩ := h
    rfl
  · obtain ⟨rfl, k⟩ := h
    refine ⟨_, (pss_one (ps_ret (pe_lc (own := [("_law_cell", 0)]) (g := gName 0) (tt := tYes) rfl scPool.nd (pi_range1 (by rfl) B.range (pa_cons pe_int pa_nil)) (blkOk_by (own := [("_law_cell", 0)]) (N := ["_law_cell"]) (sc := defScope sPool) (by decide +kernel)) (fun _ _ _ _ _ => (pg_name (i := 0) scPool.nd rfl (Or.inl rfl))) (fun _ _ _ _ _ => pts_nil) (fun _ _ _ _ _ => (pe_tup (pa_cons (pe_tup (pa_cons (pe_tup (pa_cons pe_int (pa_cons (pv 0) pa_nil))) (pa_cons (pe_tup pa_nil) pa_nil))) (pa_cons pe_int pa_nil))))))), ?_⟩
    walk_at "go"
    have en : Int.toNat 3 = 3 := rfl
    rw [en]
    refine lpC_by wk_range (fun D i H2 => H D = none ∧ Same H H2 ∧ i ≤ 3 ∧ LsAt K H2 D ((List.range i).map fun c => ent (Tr.wor (Tr.base0 (c : Nat)) []) 1)) (fun D nD => ⟨nD, same_new nD, by decide, [], upd_same, .nil⟩) (fun _ _ _ _ _ => trivial) ?_ ?_
    · rintro D i y H2' H2 hi ⟨nD, s2, i3, dvs, eD, aD⟩ ⟨rfl, rfl⟩
      walk_at "go"
      refine ⟨by decide, fun p1 n1 => ⟨by decide, fun p2 n2 => ⟨by decide, fun p3 n3 => ⟨by decide, fun p4 n4 => ?_⟩⟩⟩⟩
      rw [Int.zero_add] at *
      have s4 := ((same_new (o := .tup [.int 0, .int (i : Nat)]) n1).trans (same_new (o := .tup []) n2)).trans ((same_new (o := .tup [.ref p1, .ref p2]) n3).trans (same_new (o := .tup [.ref p3, .int 1]) n4))
      have e1 := ((same_new (o := .tup []) n2).trans ((same_new (o := .tup [.ref p1, .ref p2]) n3).trans (same_new (o := .tup [.ref p3, .int 1]) n4))) p1 _ upd_same
      have e2 := ((same_new (o := .tup [.ref p1, .ref p2]) n3).trans (same_new (o := .tup [.ref p3, .int 1]) n4)) p2 _ upd_same
      have e3 := (same_new (o := .tup [.ref p3, .int 1]) n4) p3 _ upd_same
      have r := acc_put (K := K) (t := ent (Tr.wor (Tr.base0 (i : Nat)) []) 1) nD (s2.trans s4) (s4 _ _ eD) (aD.kt (Kt.same s4))
        (at_tup (SqT.of upd_same) (.cons (at_tup (SqT.of e3) (.cons (at_tup (SqT.of e1) (.cons (at_int 0) (.cons (at_int _) .nil))) (.cons (at_tup (SqT.of e2) .nil) .nil))) (.cons (at_int _) .nil)))
      refine ⟨dvs, s4 _ _ eD, ?_, nD, r.1, by omega, ?_⟩
      · rw [aD.length, List.length_map, List.length_range]
        exact Nat.lt_of_le_of_lt i3 (by decide)
      · rw [List.range_succ, List.map_append]
        exact r.2
    · rintro D H2 nD ⟨_, s2, _, ls2⟩
      refine k D ((List.range 3).map fun c => (Tr.wor (Tr.base0 (c : Nat)) [], 1)) H2 s2 nD (by unfold enc; rw [List.map_map]; exact ls2) ⟨by decide, by decide, fun i hi => ⟨_, by rw [List.getElem?_map, List.getElem?_range hi]; rfl⟩, fun e m => ?_⟩
      obtain ⟨c, _, rfl⟩ := List.mem_map.mp m
      exact ⟨⟨_, _, rfl, .inl ⟨_, rfl⟩, by decide, fun t m => by cases m⟩, rfl, Nat.le_refl 1, (show 1 ≤ 108 by decide)⟩
end


set_option Elab.async false
set_option linter.all false
set_option maxRecDepth 100000
set_option maxHeartbeats 4000000
open PySem L2 StX


def spName : Sp := fun vs H Q _ => ∃ p c, vs = [.ref p] ∧ HandAt H p c ∧ ∀ (z : Int) H', HandAt H' p c → But p H H' → Q (.int z) H'
def spGiven (K : PySem.W.Frag) : Sp := fun vs H Q _ => ∃ p c l ws, vs = [.ref p, .ref l] ∧ p ≠ l ∧ HandAt H p c ∧ H l = some (.lst ws) ∧ ∀ r H', HandAt H' p c → But p H H' → H r = none → (H' r = some (.lst ws) ∨ H' r = some (.tup ws)) → Q (.ref r) H'
def spTurned (K : PySem.W.Frag) : Sp := fun vs H Q _ => ∃ x m y b bag ws n, vs = [x, .int m, y] ∧ At K H x (Tr.wor b bag) ∧ Tr.WL n (Tr.wor b bag) ∧ n ≤ 9 ∧ At K H y (.t ws) ∧ (∀ v ∈ ws, Tr.WL n v) ∧ ∀ v bag' H', Same H H' → At K H' v (Tr.wor b bag') → bag'.Perm (bag ++ [Tr.trn m ws]) → Q v H'
def spPicks (K : PySem.W.Frag) : Sp := fun vs H Q _ => ∃ p c q n es, vs = [.ref p, .ref q] ∧ p ≠ q ∧ HandAt H p c ∧ LsAt K H q (enc es) ∧ Pool n es ∧ n ≤ 9 ∧ ∀ v ws (k : Nat) H', HandAt H' p c → But p H H' → At K H' v (.t [.t ws, .i (k : Nat)]) → (∀ w ∈ ws, Tr.WL n w) → (ws.flatMap (Tr.nodes 10)).length = k → k ≤ 48 → Q v H'
section
variable {P : Program} {w : World} {K : PySem.W.Frag} {mg : Str → Option Value} {base : Heap}
theorem HandAt.push {H : Hp} {p c a : Addr} {o : HO} (h : HandAt H p c) (n : H a = none) : HandAt (L2.upd H a o) p c := h.same (same_new n)
theorem But.new {H : Hp} {p a : Addr} {o : HO} (n : H a = none) : But p H (L2.upd H a o) := But.of (same_new n)
theorem scName : FnScope ["_law_hand_here"] ["_law_hand_here"] (defScope sName) := ⟨rfl, rfl, rfl, by decide +kernel, rfl, by decide +kernel, by decide +kernel⟩
theorem ok_name (D : DefAt K mg "_law_name" sName) (B : Bt mg) (C_take : Cal P w K mg base CX0 2 "_law_take" ["_law_hand_here", "_law_many"] spTake) : Cal P w K mg base CX0 3 "_law_name" ["_law_hand_here"] spName := by
  refine D.cal (fun _ _ _ _ _ _ us hl => match us, hl with | [_], _ => rfl) fun f fd F => ?_
  refine F.ok scName (fun vs H Q E h => ?_) (fun cdv A outer s H vs Q E HR h => ?_)
  · obtain ⟨p, c, rfl, _⟩ := h
    rfl
  · obtain ⟨p, c, rfl, hp, k⟩ := h
    refine ⟨_, (pss_one (ps_ret (pe_ifExp (pt_cmpR op_eq (pe_cal C_take (by rfl) HR pass0 (pa_cons (pv 0) (pa_cons pe_int pa_nil))) pe_int (nomark _)) (pe_cal C_take (by rfl) HR pass0 (pa_cons (pv 0) (pa_cons pe_int pa_nil))) (pe_cal C_take (by rfl) HR pass0 (pa_cons (pv 0) (pa_cons pe_int pa_nil)))))), ?_⟩
    walk_at "go"
    refine ⟨p, _, 3, rfl, by decide, by decide, hp, fun r H1 _ _ hp1 b1 => ?_⟩
    walk_at "go"
    refine ite2 (fun _ => ?_) (fun _ => ?_)
    · exact ⟨p, _, 3, rfl, by decide, by decide, hp1, fun r H2 _ _ hp2 b2 => k r H2 hp2 (b1.trans b2)⟩
    · exact ⟨p, _, 100, rfl, by decide, by decide, hp1, fun r H2 _ _ hp2 b2 => k r H2 hp2 (b1.trans b2)⟩
theorem scGiven : FnScope ["_law_hand_here", "_law_row"] ["_law_hand_here", "_law_row"] (defScope sGiven) := ⟨rfl, rfl, rfl, by decide +kernel, rfl, by decide +kernel, by decide +kernel⟩
theorem ok_given (D : DefAt K mg "_law_given" sGiven) (B : Bt mg) (C_take : Cal P w K mg base CX0 2 "_law_take" ["_law_hand_here", "_law_many"] spTake) : Cal P w K mg base CX0 3 "_law_given" ["_law_hand_here", "_law_row"] (spGiven K) := by
  refine D.cal (fun _ _ _ _ _ _ us hl => match us, hl with | [_, _], _ => rfl) fun f fd F => ?_
  refine F.ok scGiven (fun vs H Q E h => ?_) (fun cdv A outer s H vs Q E HR h => ?_)
  · obtain ⟨p, c, l, ws, rfl, _⟩ := h
    rfl
  · obtain ⟨p, c0, l, ws, rfl, pl, hp, el, k⟩ := h
    refine ⟨_, (pss_one (ps_ret (pe_ifExp (pt_cmpR op_eq (pe_cal C_take (by rfl) HR pass0 (pa_cons (pv 0) (pa_cons pe_int pa_nil))) pe_int (nomark _)) (pe_callTy call_list_of (by rfl) B.list (by decide +kernel) (pa_cons (pv 1) pa_nil)) (pe_callTy call_tuple_of (by rfl) B.tuple (by decide +kernel) (pa_cons (pv 1) pa_nil))))), ?_⟩
    walk_at "go"
    refine ⟨p, _, 2, rfl, by decide, by decide, hp, fun r H1 _ _ hp1 b1 => ?_⟩
    have el1 := b1 _ _ (Ne.symm pl) el
    have fr : ∀ {a : Addr}, H1 a = none → H a = none := fun {a} n => by
      cases e : H a with
      | none => rfl
      | some o =>
        by_cases h : a = p
        · obtain ⟨cs, i, big, tot, hh⟩ := hp1
          rw [h, hh.hp] at n; cases n
        · rw [b1 _ _ h e] at n; cases n
    walk_at "go"
    refine ite2 (fun _ => ?_) (fun _ => ?_)
    · walk_at "go"
      exact fun r nr => k r _ (hp1.push nr) (b1.trans (But.new nr)) (fr nr) (.inl upd_same)
    · walk_at "go"
      refine ⟨ws, .inl ⟨SqL.of el1, fun r nr => k r _ (hp1.push nr) (b1.trans (But.new nr)) (fr nr) (.inr upd_same)⟩⟩
theorem scTurned : FnScope ["_law_worth", "_law_name_here", "_law_worths"] ["_law_worth", "_law_name_here", "_law_worths"] (defScope sTurned) := ⟨rfl, rfl, rfl, by decide +kernel, rfl, by decide +kernel, by decide +kernel⟩
theorem ok_turned (D : DefAt K mg "_law_turned" sTurned) (B : Bt mg) : Cal P w K mg base CX0 1 "_law_turned" ["_law_worth", "_law_name_here", "_law_worths"] (spTurned K) := by
  refine D.cal (fun _ _ _ _ _ _ us hl => match us, hl with | [_, _, _], _ => rfl) fun f fd F => ?_
  refine F.ok scTurned (fun vs H Q E h => ?_) (fun cdv A outer s H vs Q E HR h => ?_)
  · obtain ⟨x, m, y, b, bag, ws, n, rfl, _⟩ := h
    rfl
  · obtain ⟨x, m, y, b, bag, ws, n, rfl, ax, wx, n9, ay, wy, k⟩ := h
    refine ⟨_, (pss_one (ps_ret (pe_tup (pa_cons (pe_ix ix_tup (pv 0) pe_int (fun _ _ => rfl)) (pa_cons (pe_callTy call_tuple_of (by rfl) B.tuple (by decide +kernel) (pa_cons (pe_callB (cr_sortD (Room.u70 HR)) (by rfl) B.sorted (by decide +kernel) (pa_cons (pe_op op_cat (pe_callTy call_list_of (by rfl) B.list (by decide +kernel) (pa_cons (pe_ix ix_tup (pv 0) pe_int (fun _ _ => rfl)) pa_nil)) (pe_lst (pa_cons (pe_tup (pa_cons (pv 1) (pa_cons (pv 2) pa_nil))) pa_nil))) pa_nil)) pa_nil)) pa_nil))))), ?_⟩
    obtain ⟨a, vs0, rfl, h0, a0⟩ := tup_at ax
    cases a0 with
    | @cons vb _ _ _ ab a0 =>
    cases a0 with
    | cons abag a0 =>
    cases a0
    obtain ⟨ga, gvs, rfl, hg, ag⟩ := tup_at abag
    have shp : ∃ n', n = n' + 1 ∧ bag.length ≤ 7 ∧ ∀ t ∈ bag, Tr.TL (Tr.WL n') t := by
      cases n with
      | zero => exact wx.elim
      | succ n' =>
        obtain ⟨b', bag', e0, _, h7, ht⟩ := wx
        unfold Tr.wor at e0
        injection e0 with e0
        injection e0 with e1 e2
        injection e2 with e2 _
        injection e2 with e2
        subst e2
        exact ⟨n', rfl, h7, ht⟩
    obtain ⟨n', rfl, h7, ht⟩ := shp
    have tl : ∀ t ∈ bag ++ [Tr.trn m ws], Tr.TL (Tr.WL (n' + 1)) t := fun t mt => (List.mem_append.mp mt).elim (fun mt => (ht t mt).imp fun _ h => h.up) fun mt => ⟨m, ws, List.mem_singleton.mp mt, wy⟩
    walk_at "go"
    refine ⟨_, h0, vb, rfl, _, h0, _, rfl, ga, rfl, gvs, .inr hg, fun l nl => ⟨by decide, fun p1 n1 => ⟨by decide, fun p2 n2 => ?_⟩⟩⟩
    have sA := (same_new (o := .lst gvs) nl).trans (same_new (o := .tup [.int m, y]) n1)
    have sB := sA.trans (same_new (o := .lst [.ref p1]) n2)
    refine ⟨l, p2, gvs, [.ref p1], rfl, rfl, ((same_new n1).trans (same_new n2)) _ _ upd_same, upd_same, ?_, fun p3 n3 => ?_⟩
    · rw [ag.length]
      exact Nat.le_trans (Nat.succ_le_succ h7) (by decide)
    have s3 := sB.trans (same_new (o := .lst (gvs ++ [.ref p1])) n3)
    have at1 : At K (upd (upd (upd (upd H l (.lst gvs)) p1 (.tup [.int m, y])) p2 (.lst [.ref p1])) p3 (.lst (gvs ++ [.ref p1]))) (.ref p1) (Tr.trn m ws) :=
      at_tup (SqT.of (((same_new n2).trans (same_new n3)) _ _ upd_same)) (.cons (at_int m) (.cons (ay.kt (Kt.same s3)) .nil))
    refine ⟨p3, _, bag ++ [Tr.trn m ws], rfl, .inl (SqL.of upd_same), (ag.kt (Kt.same s3)).append (.cons at1 .nil), fun y hy z hz => (tl y hy).ak (fun v v' q q' => q.ak q') (tl z hz), sortOk_w fun y hy => ?_, fun y hy => ?_, fun p4 us ys n4 pr pw ay4 => ?_⟩
    · obtain ⟨i, zs, rfl, _⟩ := tl y hy
      exact ⟨_, _, rfl⟩
    · obtain ⟨i, zs, rfl, q⟩ := tl y hy
      have := deps_le (n := 40) (xs := zs) fun v hv => Nat.le_trans (q v hv).dep_le (by omega)
      unfold Tr.trn; simp only [Tr.dep_t, Tr.deps_cons, Tr.deps_nil, Tr.dep_i]; omega
    walk_at "go"
    refine ⟨ys, .inl ⟨SqL.of upd_same, fun l5 n5 => ⟨by decide, fun p6 n6 => ?_⟩⟩⟩
    have s6 := ((s3.trans (same_new (o := .lst ys) n4)).trans (same_new (o := .tup ys) n5)).trans (same_new (o := .tup [vb, .ref l5]) n6)
    exact k (.ref p6) us _ s6 (at_tup (SqT.of upd_same) (.cons (ab.kt (Kt.same s6)) (.cons (at_tup (SqT.of ((same_new n6) _ _ upd_same)) (ay4.kt (((Kt.new n4).trans (Kt.new n5)).trans (Kt.new n6)))) .nil))) pr
theorem scPicks : FnScope ["_law_hand_here", "_law_pool", "_law_picks_here", "_law_k", "_law_entry"] ["_law_hand_here", "_law_pool"] (defScope sPicks) := ⟨rfl, rfl, rfl, by decide +kernel, rfl, by decide +kernel, by decide +kernel⟩
theorem ok_picks (D : DefAt K mg "_law_picks" sPicks) (B : Bt mg) (C_take : Cal P w K mg base CX0 3 "_law_take" ["_law_hand_here", "_law_many"] spTake) (C_pick : Cal P w K mg base CX0 3 "_law_pick" ["_law_hand_here", "_law_pool", "_law_room"] (spPick K)) :
    Cal P w K mg base CX0 4 "_law_picks" ["_law_hand_here", "_law_pool"] (spPicks K) := by
  refine D.cal (fun _ _ _ _ _ _ us hl => match us, hl with | [_, _], _ => rfl) fun f fd F => ?_
  refine F.ok scPicks (fun vs H Q E h => ?_) (fun cdv A outer s H vs Q E HR h => ?_)
  · obtain ⟨p, c, q, n, es, rfl, _⟩ := h
    rfl
  · obtain ⟨p, c0, q, n, es, rfl, pq, hp, ⟨vs, eq, aq⟩, po, n9, k⟩ := h
    refine ⟨_, (pss_cons (ps_setLc (i := 2) (own := [("_law_k", 3)]) (g := gName 3) (tt := tYes) (te := tCal (spPick K) E0 (tCons (tVar 0) (tCons (tVar 1) (tCons (tC (.int 12)) tNil)))) rfl scPicks.nd rfl rfl (sw_true rfl rfl rfl (by decide +kernel)) (pi_range1 (by rfl) B.range (pa_cons (pe_cal C_take (by rfl) HR pass0 (pa_cons (pv 0) (pa_cons pe_int pa_nil))) pa_nil)) (blkOk_by (own := [("_law_k", 3)]) (N := ["_law_hand_here", "_law_pool", "_law_picks_here", "_law_k", "_law_entry"]) (sc := defScope sPicks) (by decide +kernel)) (fun _ _ _ _ _ => (pg_name (i := 3) scPicks.nd rfl (Or.inl rfl))) (fun _ _ _ _ _ => pts_nil) (fun _ _ _ _ _ => (pe_cal C_pick (by rfl) HR pass0 (pa_cons (pv 0) (pa_cons (pv 1) (pa_cons pe_int pa_nil))))))
  (pss_one (ps_ret (pe_tup (pa_cons (pe_callTy call_tuple_of (by rfl) B.tuple (by decide +kernel) (pa_cons (pe_lc (own := [("_law_entry", 4)]) (g := gName 4) (tt := tYes) (te := tOp (rIxT K) (tVar 4) (tC (.int 0))) rfl scPicks.nd (pi_list (pv 2)) (blkOk_by (own := [("_law_entry", 4)]) (N := ["_law_hand_here", "_law_pool", "_law_picks_here", "_law_k", "_law_entry"]) (sc := defScope sPicks) (by decide +kernel)) (fun _ _ _ _ _ => (pg_name (i := 4) scPicks.nd rfl (Or.inl rfl))) (fun _ _ _ _ _ => pts_nil) (fun _ _ _ _ _ => (pe_ix ix_tup (pv 4) pe_int (fun _ _ => rfl)))) pa_nil)) (pa_cons (pe_callB (cr_sum rfl) (by rfl) B.sum (by decide +kernel) (pa_cons (pe_lc (own := [("_law_entry", 4)]) (g := gName 4) (tt := tYes) (te := tOp (rIxT K) (tVar 4) (tC (.int 1))) rfl scPicks.nd (pi_list (pv 2)) (blkOk_by (own := [("_law_entry", 4)]) (N := ["_law_hand_here", "_law_pool", "_law_picks_here", "_law_k", "_law_entry"]) (sc := defScope sPicks) (by decide +kernel)) (fun _ _ _ _ _ => (pg_name (i := 4) scPicks.nd rfl (Or.inl rfl))) (fun _ _ _ _ _ => pts_nil) (fun _ _ _ _ _ => (pe_ix ix_tup (pv 4) pe_int (fun _ _ => rfl)))) pa_nil)) pa_nil)))))), ?_⟩
    walk_at "go"
    refine ⟨p, _, 5, rfl, by decide, by decide, hp, fun r H1 r0 r5 hp1 b1 => ⟨r, rfl, by omega, by omega, ?_⟩⟩
    have kb : ∀ {H2 : Hp}, But p H H2 → H2 q = some (.lst vs) ∧ Ats K H2 vs (enc es) := fun b => ⟨b q _ (Ne.symm pq) eq, aq.kt (But.kt hp b)⟩
    refine lpC_by wk_range (fun D i H2 => H1 D = none ∧ HandAt H2 p c0 ∧ But p H1 H2 ∧ ∃ ps : List (Tr × Nat), LsAt K H2 D (enc ps) ∧ ps.length = i ∧ ∀ e ∈ ps, Wt n e.1 e.2 ∧ e.2 ≤ 12) (fun D nD => ⟨nD, hp1.push nD, But.new nD, [], ⟨[], upd_same, .nil⟩, rfl, fun e m => by cases m⟩) (fun _ _ _ _ _ => trivial) ?_ ?_
    · rintro D i y H2' H2 hi ⟨nD, hp2, b2, ps, ⟨dvs, eD, aD⟩, lp, wp⟩ ⟨rfl, rfl⟩
      walk_at "go"
      have b12 := b1.trans b2
      obtain ⟨n1, n2⟩ := hp1.ne nD
      refine ⟨p, c0, q, 12, n, es, rfl, pq, hp2, ⟨vs, (kb b12).1, (kb b12).2⟩, po, n9, by decide, fun v x kk H3 hp3 b3 av wv k12 => ?_⟩
      have eD3 := b3 _ _ n1 eD
      have k3 := But.kt hp2 b3
      refine ⟨dvs, eD3, ?_, nD, hp3.put n1 n2, fun b o nb e => ?_, ps ++ [(x, kk)], ⟨_, upd_same, ?_⟩, by rw [List.length_append, lp]; rfl, fun e m => ?_⟩
      · rw [aD.length]
        unfold enc
        rw [List.length_map, lp]
        exact Nat.lt_of_lt_of_le (by omega : i < 5) (by decide)
      · rw [upd_ne (ne_of_none e nD)]
        exact b3 _ _ nb (b2 _ _ nb e)
      · unfold enc
        rw [List.map_append]
        exact ((aD.kt k3).append (.cons av .nil)).kt (Kt.lst eD3)
      · rcases List.mem_append.mp m with m | m
        · exact wp e m
        · rw [List.mem_singleton.mp m]; exact ⟨wv, k12⟩
    · rintro D H2 nD ⟨_, hp2, b2, ps, ⟨dvs, eD, aD⟩, lp, wp⟩
      walk_at "go"
      have lp4 : ps.length ≤ 4 := by omega
      have enl : ∀ j : Nat, (enc ps)[j]? = (ps[j]?).map (fun e : Tr × Nat => ent e.1 e.2) := fun j => List.getElem?_map ..
      have ent_inv : ∀ {H3 : Hp} {v : V} {x : Tr} {kk : Nat}, At K H3 v (ent x kk) → ∃ a v1, v = .ref a ∧ SqT K H3 a [v1, .int (kk : Nat)] ∧ At K H3 v1 x := fun h => by
        obtain ⟨a, xs, rfl, ha, aa⟩ := tup_at h
        cases aa with
        | @cons v1 _ _ _ a1 aa =>
        cases aa with
        | cons a2 aa =>
        cases aa
        rw [int_at a2] at ha
        exact ⟨a, v1, rfl, ha, a1⟩
      refine ⟨⟨_, SqL.of eD⟩, lpC_by (wk_list (xs := dvs)) (fun D2 i H3 => H2 D2 = none ∧ Same H2 H3 ∧ LsAt K H3 D2 ((ps.take i).map (·.1))) (fun D2 n2 => ⟨n2, same_new n2, [], upd_same, .nil⟩) (fun D2 i H3 _ s => SqL.of (s.2.1 _ _ eD)) ?_ ?_⟩
      · rintro D2 i y H3' H3 hi ⟨n2, s3, cvs, e3, a3⟩ ⟨rfl, hy⟩
        obtain ⟨x, hx, ax⟩ := aD.get hy
        rw [enl] at hx
        obtain ⟨e, he, rfl⟩ := Option.map_eq_some_iff.mp hx
        obtain ⟨a, v1, rfl, ha, av⟩ := ent_inv ax
        walk_at "go"
        have r := acc_put (K := K) n2 s3 e3 a3 (av.kt (Kt.same s3))
        refine ⟨_, ha.kt (Kt.same s3), v1, rfl, cvs, e3, ?_, n2, r.1, ?_⟩
        · rw [a3.length, List.length_map]
          exact Nat.lt_of_le_of_lt (Nat.le_trans (List.length_take_le' ..) lp4) (by decide)
        · rw [List.take_add_one, he, List.map_append]
          exact r.2
      · rintro D2 H3 n2 ⟨_, s3, cvs, e3, a3⟩
        rw [aD.length, show (enc ps).length = ps.length from List.length_map _, List.take_length] at a3
        walk_at "go"
        refine ⟨cvs, .inl ⟨SqL.of e3, fun l2 nl2 => ?_⟩⟩
        have s4 := s3.trans (same_new (o := .tup cvs) nl2)
        refine ⟨⟨_, SqL.of (s4 _ _ eD)⟩, lpC_by (wk_list (xs := dvs)) (fun D3 i H5 => upd H3 l2 (.tup cvs) D3 = none ∧ Same (upd H3 l2 (.tup cvs)) H5 ∧ H5 D3 = some (.lst (((ps.take i).map fun e => ((e.2 : Nat) : Int)).map V.int))) (fun D3 n3 => ⟨n3, same_new n3, upd_same⟩) (fun D3 i H5 _ s => SqL.of (s.2.1 _ _ (s4 _ _ eD))) ?_ ?_⟩
        · rintro D3 i y H5' H5 hi ⟨n3, s5, e5⟩ ⟨rfl, hy⟩
          obtain ⟨x, hx, ax⟩ := aD.get hy
          rw [enl] at hx
          obtain ⟨e, he, rfl⟩ := Option.map_eq_some_iff.mp hx
          obtain ⟨a, v1, rfl, ha, av⟩ := ent_inv ax
          walk_at "go"
          refine ⟨_, ha.kt (Kt.same (s4.trans s5)), _, rfl, _, e5, ?_, n3, fun b o z => by rw [upd_ne (ne_of_none z n3)]; exact s5 _ _ z, ?_⟩
          · rw [List.length_map, List.length_map]
            exact Nat.lt_of_le_of_lt (Nat.le_trans (List.length_take_le' ..) lp4) (by decide)
          · rw [upd_same, List.take_add_one, he, List.map_append, List.map_append]
            rfl
        · rintro D3 H5 n3 ⟨_, s5, e5⟩
          rw [aD.length, show (enc ps).length = ps.length from List.length_map _, List.take_length] at e5
          have sums : ∀ qs : List (Tr × Nat), (∀ e ∈ qs, Wt n e.1 e.2 ∧ e.2 ≤ 12) → (qs.map fun e => ((e.2 : Nat) : Int)).sum = (((qs.map (·.1)).flatMap (Tr.nodes 10)).length : Nat) ∧ ((qs.map (·.1)).flatMap (Tr.nodes 10)).length ≤ 12 * qs.length := fun qs => by
            induction qs with
            | nil => exact fun _ => ⟨rfl, Nat.le_refl _⟩
            | cons e qs ih =>
              intro h
              obtain ⟨i1, i2⟩ := ih fun z m => h z (List.mem_cons_of_mem _ m)
              obtain ⟨⟨_, w2, _, _⟩, h12⟩ := h e List.mem_cons_self
              simp only [List.map_cons, List.sum_cons, List.flatMap_cons, List.length_append, List.length_cons]
              rw [i1, w2]
              omega
          obtain ⟨q1, q2⟩ := sums ps wp
          refine ⟨D3, _, rfl, SqL.of e5, by decide, fun p4 n4 => ?_⟩
          have s6 := (s4.trans s5).trans (same_new (o := .tup [.ref l2, .int (ps.map fun e => ((e.2 : Nat) : Int)).sum]) n4)
          refine k (.ref p4) (ps.map (·.1)) _ _ (hp2.same s6) ((b1.trans b2).trans (But.of s6)) (at_tup (SqT.of upd_same) (.cons (at_tup (SqT.of ((s5.trans (same_new n4)) _ _ upd_same)) (a3.kt (Kt.same ((same_new nl2).trans (s5.trans (same_new n4)))))) (.cons (by rw [q1]; exact at_int _) .nil))) (fun z m => ?_) rfl (by omega)
          obtain ⟨e, me, rfl⟩ := List.mem_map.mp m
          exact (wp e me).1.1
end


set_option Elab.async false
set_option linter.all false
set_option maxRecDepth 100000
set_option maxHeartbeats 4000000
open PySem L2 StX


theorem flat_congr {f g : Tr → List Tr} : ∀ {xs : List Tr}, (∀ x ∈ xs, f x = g x) → xs.flatMap f = xs.flatMap g
  | [], _ => rfl
  | x :: xs, h => by rw [List.flatMap_cons, List.flatMap_cons, h x List.mem_cons_self, flat_congr fun y m => h y (List.mem_cons_of_mem _ m)]
theorem nodes_up : ∀ {n m : Nat} {w : Tr}, Tr.WL n w → n ≤ m → Tr.nodes m w = Tr.nodes n w
  | 0, _, _, h, _ => h.elim
  | n + 1, 0, _, _, hm => absurd hm (by omega)
  | n + 1, m + 1, w, h, hm => by
    show w :: (Tr.held w).flatMap (Tr.nodes m) = w :: (Tr.held w).flatMap (Tr.nodes n)
    rw [flat_congr fun v k => nodes_up (h.held v k) (by omega : n ≤ m)]
theorem cnt_w {n : Nat} {w : Tr} (h : Tr.WL (n + 1) w) (n9 : n ≤ 9) : (Tr.nodes 10 w).length = 1 + ((Tr.held w).flatMap (Tr.nodes 10)).length := by
  show ((Tr.held w).flatMap (Tr.nodes 9)).length + 1 = _
  rw [flat_congr (f := Tr.nodes 9) (g := Tr.nodes 10) fun v k => by rw [nodes_up (h.held v k) n9, nodes_up (h.held v k) (by omega : n ≤ 10)]]
  omega
theorem wl_new {n : Nat} {m : Int} {ws : List Tr} (h : ∀ v ∈ ws, Tr.WL n v) : Tr.WL (n + 1) (Tr.wor (Tr.base1 m ws) []) := ⟨_, _, rfl, .inr ⟨m, ws, rfl, h⟩, by decide, fun t k => by cases k⟩
theorem wl_turn {n : Nat} {b : Tr} {bag bag' ws : List Tr} {m : Int} (h : Tr.WL n (Tr.wor b bag)) (l : bag.length < 7) (hw : ∀ v ∈ ws, Tr.WL n v) (p : bag'.Perm (bag ++ [Tr.trn m ws])) : Tr.WL (n + 1) (Tr.wor b bag') := by
  cases n with
  | zero => exact h.elim
  | succ n =>
    obtain ⟨b', bag0, e0, hb, h7, ht⟩ := h
    unfold Tr.wor at e0
    injection e0 with e0
    injection e0 with e1 e2
    injection e2 with e2 _
    injection e2 with e2
    subst e1 e2
    refine ⟨b, bag', rfl, hb.imp fun _ => Tr.WL.up, ?_, fun t k => ?_⟩
    · rw [p.length_eq, List.length_append, List.length_singleton]; omega
    · rcases List.mem_append.mp (p.mem_iff.mp k) with k | k
      · exact (ht t k).imp fun _ => Tr.WL.up
      · exact ⟨m, ws, List.mem_singleton.mp k, hw⟩
theorem cnt_turn {n : Nat} {b : Tr} {bag bag' ws : List Tr} {m : Int} (h : Tr.WL n (Tr.wor b bag)) (h' : Tr.WL (n + 1) (Tr.wor b bag')) (n9 : n ≤ 9) (p : bag'.Perm (bag ++ [Tr.trn m ws])) :
    (Tr.nodes 10 (Tr.wor b bag')).length = (Tr.nodes 10 (Tr.wor b bag)).length + (ws.flatMap (Tr.nodes 10)).length := by
  cases n with
  | zero => exact h.elim
  | succ n =>
    rw [cnt_w h' n9, cnt_w h (by omega), Tr.held_wor, Tr.held_wor]
    have q : ((bag'.flatMap Tr.heldT).flatMap (Tr.nodes 10)).length = (((bag ++ [Tr.trn m ws]).flatMap Tr.heldT).flatMap (Tr.nodes 10)).length := ((p.flatMap_right Tr.heldT).flatMap_right (Tr.nodes 10)).length_eq
    rw [List.flatMap_append, List.length_append, q, List.flatMap_append, List.flatMap_append, List.flatMap_append, List.length_append, List.length_append]
    have e : [Tr.trn m ws].flatMap Tr.heldT = ws := by simp [Tr.heldT, Tr.trn]
    rw [e]; omega
theorem Pool.add {n : Nat} {es : List (Tr × Nat)} {e : Tr × Nat} (h : Pool n es) (w : Wt (n + 1) e.1 e.2) : Pool (n + 1) (es ++ [e]) := by
  refine ⟨by rw [List.length_append]; have := h.three; omega, by rw [List.length_append, List.length_singleton]; have := h.few; omega, fun i hi => ?_, fun x m => ?_⟩
  · obtain ⟨z, hz⟩ := h.one i hi
    exact ⟨z, by rw [List.getElem?_append_left (List.getElem?_eq_some_iff.mp hz).1]; exact hz⟩
  · rcases List.mem_append.mp m with m | m
    · obtain ⟨a, b⟩ := h.wt x m
      exact ⟨a.up, b⟩
    · rw [List.mem_singleton.mp m]; exact w
def But2 (p q : Addr) (H H' : Hp) : Prop := ∀ b o, b ≠ p → b ≠ q → H b = some o → H' b = some o
def spGrow (K : PySem.W.Frag) : Sp := fun vs H Q _ => ∃ (p c q : Addr) (n : Nat) (es : List (Tr × Nat)) (most : Nat), vs = [.ref p, .ref q, .int (most : Nat)] ∧ p ≠ q ∧ q ≠ c ∧ most ≤ 7 ∧ HandAt H p c ∧ LsAt K H q (enc es) ∧ Pool n es ∧ n ≤ 8 ∧ ∀ e H', HandAt H' p c → LsAt K H' q (enc (es ++ [e])) → Pool (n + 1) (es ++ [e]) → But2 p q H H' → Q .non H'
section
variable {P : Program} {w : World} {K : PySem.W.Frag} {mg : Str → Option Value} {base : Heap}
theorem scGrow : FnScope ["_law_hand_here", "_law_pool", "_law_most", "_law_worths", "_law_size", "_law_name_here", "_law_held"] ["_law_hand_here", "_law_pool", "_law_most"] (defScope sGrow) := ⟨rfl, rfl, rfl, by decide +kernel, rfl, by decide +kernel, by decide +kernel⟩
theorem ok_grow (D : DefAt K mg "_law_grow" sGrow) (B : Bt mg) (C_take : Cal P w K mg base CX0 4 "_law_take" ["_law_hand_here", "_law_many"] spTake) (C_pick : Cal P w K mg base CX0 4 "_law_pick" ["_law_hand_here", "_law_pool", "_law_room"] (spPick K))
    (C_picks : Cal P w K mg base CX0 4 "_law_picks" ["_law_hand_here", "_law_pool"] (spPicks K)) (C_name : Cal P w K mg base CX0 4 "_law_name" ["_law_hand_here"] spName) (C_turned : Cal P w K mg base CX0 4 "_law_turned" ["_law_worth", "_law_name_here", "_law_worths"] (spTurned K)) :
    Cal P w K mg base CX0 5 "_law_grow" ["_law_hand_here", "_law_pool", "_law_most"] (spGrow K) := by
  refine D.cal (fun _ _ _ _ _ _ us hl => match us, hl with | [_, _, _], _ => rfl) fun f fd F => ?_
  refine F.ok scGrow (fun vs H Q E h => ?_) (fun cdv A outer s H vs Q E HR h => ?_)
  · obtain ⟨p, c, q, n, es, most, rfl, _⟩ := h
    rfl
  · obtain ⟨p, c, q, n, es, most, rfl, pq, qc, m7, hp, ⟨vs, eq, aq⟩, po, n8, k⟩ := h
    refine ⟨_, (pss_cons (ps_asg (pe_cal C_picks (by rfl) HR pass0 (pa_cons (pv 0) (pa_cons (pv 1) pa_nil))) (pg_tup (n := 2) rfl (pgs_cons (pg_name (i := 3) scGrow.nd rfl (Or.inl rfl)) (pgs_cons (pg_name (i := 4) scGrow.nd rfl (Or.inl rfl)) pgs_nil))))
  (pss_cons (ps_set (i := 5) scGrow.nd rfl (Or.inl rfl) (pe_cal C_name (by rfl) HR pass0 (pa_cons (pv 0) pa_nil)))
  (pss_cons (ps_set (i := 6) scGrow.nd rfl (Or.inl rfl) (pe_cal C_pick (by rfl) HR pass0 (pa_cons (pv 0) (pa_cons (pv 1) (pa_cons pe_int pa_nil)))))
  (pss_one (ps_if (PW.pt (pw_and (pt_cmpR op_eq (pe_cal C_take (by rfl) HR pass0 (pa_cons (pv 0) (pa_cons pe_int pa_nil))) pe_int (nomark _)) (pw_and1 (pt_cmpR op_lt (pe_callB call_len_seq (by rfl) B.len PySem.boot_len (pa_cons (pe_ix ix_tup (pe_ix ix_tup (pv 6) pe_int (fun _ _ => rfl)) pe_int (fun _ _ => rfl)) pa_nil)) (pv 2) (nomark _))))) (pss_one (ps_expr (pe_bm PySem.F.plainAttrs_list PySem.F.slot_list_append PySem.F.type_list_append mt_append (pv 1) (pa_cons (pe_tup (pa_cons (pe_cal C_turned (by rfl) HR pass0 (pa_cons (pe_ix ix_tup (pv 6) pe_int (fun _ _ => rfl)) (pa_cons (pv 5) (pa_cons (pv 3) pa_nil)))) (pa_cons (pe_op op_add (pe_ix ix_tup (pv 6) pe_int (fun _ _ => rfl)) (pv 4)) pa_nil))) pa_nil)))) (pss_one (ps_expr (pe_bm PySem.F.plainAttrs_list PySem.F.slot_list_append PySem.F.type_list_append mt_append (pv 1) (pa_cons (pe_tup (pa_cons (pe_tup (pa_cons (pe_tup (pa_cons pe_int (pa_cons (pv 5) (pa_cons (pv 3) pa_nil)))) (pa_cons (pe_tup pa_nil) pa_nil))) (pa_cons (pe_op op_add pe_int (pv 4)) pa_nil))) pa_nil))))))))), ?_⟩
    have frame : ∀ {H1 : Hp}, But p H H1 → LsAt K H1 q (enc es) := fun b => ⟨vs, b q _ (Ne.symm pq) eq, aq.kt (But.kt hp b)⟩
    have lvs : vs.length < sizeLine := by
      rw [aq.length, show (enc es).length = es.length from List.length_map _]
      exact Nat.lt_of_le_of_lt (Nat.le_trans po.few (by omega : _ ≤ 10)) (by decide)
    walk_at "go"
    refine ⟨p, c, q, n, es, rfl, pq, hp, ⟨vs, eq, aq⟩, po, by omega, fun v ws kk H1 hp1 b1 av wws ck k48 => ?_⟩
    obtain ⟨a1, xs1, rfl, hs1, aa1⟩ := tup_at av
    cases aa1 with
    | @cons wv _ _ _ awv aa1 =>
    cases aa1 with
    | cons akv aa1 =>
    cases aa1
    rw [int_at akv] at hs1
    refine ⟨a1, rfl, _, hs1, rfl, _, _, rfl, _, _, rfl, rfl, p, c, rfl, hp1, fun nm H2 hp2 b2 => ?_⟩
    have b12 := b1.trans b2
    walk_at "go"
    refine ⟨p, c, q, 60, n, es, rfl, pq, hp2, frame b12, po, by omega, by decide, fun hv x hk H3 hp3 b3 ax wx h60 => ?_⟩
    have b13 := b12.trans b3
    walk_at "go"
    refine ⟨p, c, 2, rfl, by decide, by decide, hp3, fun r H4 _ _ hp4 b4 => ?_⟩
    have b14 := b13.trans b4
    obtain ⟨q1, q2, q3⟩ := frame b14
    have ax4 := ax.kt (But.kt hp3 b4)
    have aw4 := awv.kt (But.kt hp1 ((b2.trans b3).trans b4))
    obtain ⟨wx1, wx2, wx3, wx4⟩ := wx
    obtain ⟨b, bag, rfl⟩ := wor_of wx1
    obtain ⟨ha, hxs, rfl, hs, haa⟩ := tup_at ax4
    cases haa with
    | @cons hw _ _ _ ahw haa =>
    cases haa with
    | cons ahk haa =>
    cases haa
    rw [int_at ahk] at hs
    obtain ⟨xa, xvs, rfl, hxa, axs⟩ := tup_at ahw
    cases axs with
    | @cons vb _ _ _ avb axs =>
    cases axs with
    | cons avg axs =>
    cases axs
    obtain ⟨ga, gvs, rfl, hga, agv⟩ := tup_at avg
    have fin : ∀ (e : Tr × Nat) (v : V) (H5 : Hp), Same H4 H5 → At K H5 v (ent e.1 e.2) → Wt (n + 1) e.1 e.2 → Q .non (upd H5 q (.lst (q1 ++ [v]))) := fun e v H5 s5 a5 w5 => by
      have e5 := s5 _ _ q2
      refine k e _ ((hp4.same s5).put (Ne.symm pq) qc) ⟨_, upd_same, ?_⟩ (po.add w5) fun o u no nq z => ?_
      · unfold enc
        rw [List.map_append]
        exact ((q3.kt (Kt.same s5)).append (.cons a5 .nil)).kt (Kt.lst e5)
      · rw [upd_ne nq]
        exact s5 _ _ (b14 _ _ no z)
    have lq1 : q1.length < sizeLine := by
      rw [q3.length, ← aq.length]; exact lvs
    walk_at "go"
    refine ite2 (fun _ => ?_) (fun _ => ?_)
    · refine ⟨_, hs, _, rfl, xa, rfl, _, hxa, _, rfl, ga, rfl, gvs, .inr hga, ?_⟩
      refine ite2 (fun lt => ?_) (fun _ => ?_)
      · have l7 : bag.length < 7 := by rw [← agv.length]; omega
        refine ⟨.inl ⟨rfl, _, SqL.of q2⟩, _, hs, _, rfl, .ref xa, nm, wv, b, bag, ws, n, rfl, ahw, wx1, by omega, aw4, wws, fun tv bag' H5 s5 at5 pm => ?_⟩
        have wt' := wl_turn wx1 l7 wws pm
        have cn := cnt_turn wx1 wt' (by omega) pm
        refine ⟨_, hs.kt (Kt.same s5), _, rfl, _, rfl, by decide, fun p5 n5 => ?_⟩
        have s6 := s5.trans (same_new (o := .tup [tv, .int ((hk : Nat) + (kk : Nat))]) n5)
        refine ⟨q1, s6 _ _ q2, lq1, fin (Tr.wor b bag', hk + kk) (.ref p5) _ s6 (at_tup (SqT.of upd_same) (.cons (at5.kt (Kt.new n5)) (.cons ?_ .nil))) ⟨wt', by rw [cn, wx2, ck], by omega, by omega⟩⟩
        rw [show ((hk : Nat) : Int) + (kk : Nat) = ((hk + kk : Nat) : Int) by omega]
        exact at_int _
      · refine ⟨.inl ⟨rfl, _, SqL.of q2⟩, by decide, fun p1 n1 => ⟨by decide, fun p2 n2 => ⟨by decide, fun p3 n3 => ⟨by decide, fun p4 n4 => ?_⟩⟩⟩⟩
        have s12 := (same_new (o := .tup [.int 1, .int nm, wv]) n1).trans (same_new (o := .tup []) n2)
        have s34 := (same_new (o := .tup [.ref p1, .ref p2]) n3).trans (same_new (o := .tup [.ref p3, .int (1 + (kk : Nat))]) n4)
        have s4 := s12.trans s34
        have wn : Tr.WL (n + 1) (Tr.wor (Tr.base1 nm ws) []) := wl_new wws
        have cn : (Tr.nodes 10 (Tr.wor (Tr.base1 nm ws) [])).length = 1 + kk := by rw [cnt_w wn (by omega), Tr.held_wor, ← ck]; simp [Tr.heldB, Tr.base1]
        refine ⟨q1, s4 _ _ q2, lq1, fin (Tr.wor (Tr.base1 nm ws) [], 1 + kk) (.ref p4) _ s4 (at_tup (SqT.of upd_same) (.cons (at_tup (SqT.of ((same_new n4) _ _ upd_same)) (.cons (at_tup (SqT.of (((same_new n2).trans s34) _ _ upd_same)) (.cons (at_int 1) (.cons (at_int nm) (.cons (aw4.kt (Kt.same s4)) .nil)))) (.cons (at_tup (SqT.of (s34 _ _ upd_same)) .nil) .nil))) (.cons ?_ .nil))) ⟨wn, cn, by omega, by omega⟩⟩
        rw [show (1 : Int) + (kk : Nat) = ((1 + kk : Nat) : Int) by omega]
        exact at_int _
    · refine ⟨.inl ⟨rfl, _, SqL.of q2⟩, by decide, fun p1 n1 => ⟨by decide, fun p2 n2 => ⟨by decide, fun p3 n3 => ⟨by decide, fun p4 n4 => ?_⟩⟩⟩⟩
      have s12 := (same_new (o := .tup [.int 1, .int nm, wv]) n1).trans (same_new (o := .tup []) n2)
      have s34 := (same_new (o := .tup [.ref p1, .ref p2]) n3).trans (same_new (o := .tup [.ref p3, .int (1 + (kk : Nat))]) n4)
      have s4 := s12.trans s34
      have wn : Tr.WL (n + 1) (Tr.wor (Tr.base1 nm ws) []) := wl_new wws
      have cn : (Tr.nodes 10 (Tr.wor (Tr.base1 nm ws) [])).length = 1 + kk := by rw [cnt_w wn (by omega), Tr.held_wor, ← ck]; simp [Tr.heldB, Tr.base1]
      refine ⟨q1, s4 _ _ q2, lq1, fin (Tr.wor (Tr.base1 nm ws) [], 1 + kk) (.ref p4) _ s4 (at_tup (SqT.of upd_same) (.cons (at_tup (SqT.of ((same_new n4) _ _ upd_same)) (.cons (at_tup (SqT.of (((same_new n2).trans s34) _ _ upd_same)) (.cons (at_int 1) (.cons (at_int nm) (.cons (aw4.kt (Kt.same s4)) .nil)))) (.cons (at_tup (SqT.of (s34 _ _ upd_same)) .nil) .nil))) (.cons ?_ .nil))) ⟨wn, cn, by omega, by omega⟩⟩
      rw [show (1 : Int) + (kk : Nat) = ((1 + kk : Nat) : Int) by omega]
      exact at_int _
end


set_option Elab.async false
set_option linter.all false
set_option maxRecDepth 100000
set_option maxHeartbeats 8000000
open PySem L2 StX


theorem cl_nil {z : Tr} (h : Tr.CL [] z) : False := by
  induction h with
  | base m => cases m
  | part _ _ ih => exact ih
  | drop _ _ ih => exact ih
theorem sm_nil : Tr.Sm [] := ⟨by decide, fun x m => (by cases m), ⟨[], by decide, fun z h => (cl_nil h).elim⟩, fun z h => (cl_nil h).elim⟩
def spLaw (K : PySem.W.Frag) : Sp := fun vs H Q _ => ∃ (a : Addr) (ns : List Int), vs = [.ref a] ∧ SqL K H a (ns.map V.int) ∧ ns.length ≤ 63 ∧ ∀ H', Q (.bl true) H'
section
variable {P : Program} {w : World} {K : PySem.W.Frag} {mg : Str → Option Value} {base : Heap}
theorem scLaw : FnScope ["_law_script", "_law_hand_here", "_law_pool", "_law_most", "_law_turn", "_law_chosen", "_law_given_here", "_law_due", "_law_told", "_law_further", "_law_more", "_law_k", "_law_worth"] ["_law_script"] (defScope sLaw) := ⟨rfl, rfl, rfl, by decide +kernel, rfl, by decide +kernel, by decide +kernel⟩
theorem ok_law (D : DefAt K mg "law" sLaw) (B : Bt mg) (C_hand : Cal P w K mg base CX0 50 "_law_hand" ["_law_script"] (spHand K)) (C_begun_pool : Cal P w K mg base CX0 50 "_law_begun_pool" [] (spPool K)) (C_take : Cal P w K mg base CX0 50 "_law_take" ["_law_hand_here", "_law_many"] spTake)
    (C_grow : Cal P w K mg base CX0 50 "_law_grow" ["_law_hand_here", "_law_pool", "_law_most"] (spGrow K)) (C_given : Cal P w K mg base CX0 50 "_law_given" ["_law_hand_here", "_law_row"] (spGiven K)) (C_closed_due : Cal P w K mg base CX0 50 "_law_closed_due" ["_law_worths"] (spClosedD K))
    (Cclosed_worths : Cal P w K mg base CX0 50 "closed_worths" ["worths"] (spClosed K)) (C_exact : Cal P w K mg base CX0 50 "_law_exact" ["_law_told", "_law_due"] (spExact K 45)) (C_is_closed : Cal P w K mg base CX0 50 "_law_is_closed" ["_law_told"] (spIsC K)) :
    ∀ f fd, Fun K "law" "law" sLaw f fd → FnOk P w K mg base CX0 51 f fd ["_law_script"] (spLaw K) := by
  intro f fd F
  refine F.ok scLaw (fun vs H Q E h => ?_) (fun cdv A outer s H vs Q E HR h => ?_)
  · obtain ⟨a, ns, rfl, _⟩ := h
    rfl
  · obtain ⟨a, ns, rfl, hS, hlen, k⟩ := h
    refine ⟨_, (pss_cons (ps_set (i := 1) scLaw.nd rfl (Or.inr rfl) (pe_cal C_hand (by rfl) HR pass0 (pa_cons (pv 0) pa_nil)))
  (pss_cons (ps_set (i := 2) scLaw.nd rfl (Or.inr rfl) (pe_cal0 C_begun_pool (by rfl) HR pass0))
  (pss_cons (ps_set (i := 3) scLaw.nd rfl (Or.inl rfl) (pe_ifExp (pt_cmpR op_eq (pe_cal C_take (by rfl) HR pass0 (pa_cons (pv 1) (pa_cons pe_int pa_nil))) pe_int (nomark _)) pe_int pe_int))
  (pss_cons (ps_for PassesOwn.never rfl (pi_range1 (by rfl) B.range (pa_cons (pe_op op_add pe_int (pe_cal C_take (by rfl) HR pass0 (pa_cons (pv 1) (pa_cons pe_int pa_nil)))) pa_nil)) (pg_name (i := 4) scLaw.nd rfl (Or.inl rfl)) (pss_one (ps_expr (pe_cal C_grow (by rfl) HR pass0 (pa_cons (pv 1) (pa_cons (pv 2) (pa_cons (pv 3) pa_nil)))))))
  (pss_cons (ps_setLc (i := 5) (own := [("_law_k", 11)]) (g := gName 11) (tt := tYes) (te := tOp (rIxT K) (tOp (rIxL K) (tVar 2) (tOp (rI0 fun i j => V.int (i - j)) (tOp (rI0 fun i j => V.int (i - j)) (tCB (fun xs H Q => ∃ p ys, xs = [V.ref p] ∧ (SqL K H p ys ∨ SqT K H p ys) ∧ Q (V.int ys.length) H) (tCons (tVar 2) tNil)) (tC (.int 1))) (tCal spTake E0 (tCons (tVar 1) (tCons (tCB (fun xs H Q => ∃ p ys, xs = [V.ref p] ∧ (SqL K H p ys ∨ SqT K H p ys) ∧ Q (V.int ys.length) H) (tCons (tVar 2) tNil)) tNil))))) (tC (.int 0))) rfl scLaw.nd rfl rfl (sw_true rfl rfl rfl (by decide +kernel)) (pi_range1 (by rfl) B.range (pa_cons (pe_cal C_take (by rfl) HR pass0 (pa_cons (pv 1) (pa_cons pe_int pa_nil))) pa_nil)) (blkOk_by (own := [("_law_k", 11)]) (N := ["_law_script", "_law_hand_here", "_law_pool", "_law_most", "_law_turn", "_law_chosen", "_law_given_here", "_law_due", "_law_told", "_law_further", "_law_more", "_law_k", "_law_worth"]) (sc := defScope sLaw) (by decide +kernel)) (fun _ _ _ _ _ => (pg_name (i := 11) scLaw.nd rfl (Or.inl rfl))) (fun _ _ _ _ _ => pts_nil) (fun _ _ _ _ _ => (pe_ix ix_tup (pe_ix ix_list (pv 2) (pe_op op_sub (pe_op op_sub (pe_callB call_len_seq (by rfl) B.len PySem.boot_len (pa_cons (pv 2) pa_nil)) pe_int) (pe_cal C_take (by rfl) HR pass0 (pa_cons (pv 1) (pa_cons (pe_callB call_len_seq (by rfl) B.len PySem.boot_len (pa_cons (pv 2) pa_nil)) pa_nil)))) (fun _ _ => rfl)) pe_int (fun _ _ => rfl))))
  (pss_cons (ps_set (i := 6) scLaw.nd rfl (Or.inl rfl) (pe_cal C_given (by rfl) HR pass0 (pa_cons (pv 1) (pa_cons (pv 5) pa_nil))))
  (pss_cons (ps_set (i := 7) scLaw.nd rfl (Or.inl rfl) (pe_cal C_closed_due (by rfl) HR pass0 (pa_cons (pv 5) pa_nil)))
  (pss_cons (ps_set (i := 8) scLaw.nd rfl (Or.inl rfl) (pe_cal Cclosed_worths (by rfl) HR pass0 (pa_cons (pv 6) pa_nil)))
  (pss_cons (ps_if (PW.pt (pw_or (pt_not (pt_val (pe_cal C_exact (by rfl) HR pass0 (pa_cons (pv 8) (pa_cons (pv 7) pa_nil))))) (pw_or (pt_cmpR (op_neLs (Room.u70 HR)) (pe_callTy call_list_of (by rfl) B.list (by decide +kernel) (pa_cons (pv 6) pa_nil)) (pv 5) (nomark _)) (pw_or1 (pt_not (pt_val (pe_cal C_is_closed (by rfl) HR pass0 (pa_cons (pv 8) pa_nil)))))))) (pss_one (ps_ret pe_bl)) pss_nil)
  (pss_cons (ps_if (PW.pt (pw_or (pt_not (pt_val (pe_cal C_exact (by rfl) HR pass0 (pa_cons (pe_cal Cclosed_worths (by rfl) HR pass0 (pa_cons (pe_callTy call_list_of (by rfl) B.list (by decide +kernel) (pa_cons (pv 8) pa_nil)) pa_nil)) (pa_cons (pv 7) pa_nil))))) (pw_or1 (pt_not (pt_val (pe_cal C_exact (by rfl) HR pass0 (pa_cons (pe_cal Cclosed_worths (by rfl) HR pass0 (pa_cons (pe_lst pa_nil) pa_nil)) (pa_cons (pe_tup pa_nil) pa_nil)))))))) (pss_one (ps_ret pe_bl)) pss_nil)
  (pss_cons (ps_set (i := 9) scLaw.nd rfl (Or.inl rfl) (pe_ix ix_tup (pe_ix ix_list (pv 2) (pe_cal C_take (by rfl) HR pass0 (pa_cons (pv 1) (pa_cons (pe_callB call_len_seq (by rfl) B.len PySem.boot_len (pa_cons (pv 2) pa_nil)) pa_nil))) (fun _ _ => rfl)) pe_int (fun _ _ => rfl)))
  (pss_cons (ps_set (i := 10) scLaw.nd rfl (Or.inr rfl) (pe_cal Cclosed_worths (by rfl) HR pass0 (pa_cons (pe_op op_cat (pv 5) (pe_lst (pa_cons (pv 9) (pa_cons (pv 9) pa_nil)))) pa_nil)))
  (pss_one (ps_ret (pe_and (pe_cal C_exact (by rfl) HR pass0 (pa_cons (pv 10) (pa_cons (pe_cal C_closed_due (by rfl) HR pass0 (pa_cons (pe_op op_cat (pv 5) (pe_lst (pa_cons (pv 9) pa_nil))) pa_nil)) pa_nil))) (pe_one (pe_cmpR op_eq (pe_callB call_len_seq (by rfl) B.len PySem.boot_len (pa_cons (pe_lc (own := [("_law_worth", 12)]) (g := gName 12) (tt := (tTest (tOp (rNiT K) (tVar 12) (tVar 10)))) rfl scLaw.nd (pi_tup (pv 8)) (blkOk_by (own := [("_law_worth", 12)]) (N := ["_law_script", "_law_hand_here", "_law_pool", "_law_most", "_law_turn", "_law_chosen", "_law_given_here", "_law_due", "_law_told", "_law_further", "_law_more", "_law_k", "_law_worth"]) (sc := defScope sLaw) (by decide +kernel)) (fun _ _ _ _ _ => (pg_name (i := 12) scLaw.nd rfl (Or.inl rfl))) (fun _ _ _ _ _ => pts_one (pt_cmpR (op_niT (Room.u70 HR)) (pv 12) (pv 10) (by rfl))) (fun _ _ _ _ _ => (pv 12))) pa_nil)) pe_int (nomark _)))))))))))))))))), ?_⟩
    walk_at "go"
    refine ⟨a, ns, rfl, hS, hlen, fun p c H1 hp1 np s1 => ?_⟩
    refine ⟨rfl, fun q es0 H2 s2 nq ls2 po0 => ?_⟩
    have pqc := hp1.ne nq
    have hp2 := hp1.same s2
    refine ⟨p, c, 8, rfl, by decide, by decide, hp2, fun r H3 _ _ hp3 b3 => ?_⟩
    obtain ⟨vs2, e2, a2⟩ := ls2
    have ls3 : LsAt K H3 q (enc es0) := ⟨vs2, b3 _ _ pqc.1 e2, a2.kt (But.kt hp2 b3)⟩
    walk_at "go"
    refine ite2 (fun _ => ?_) (fun _ => ?_)
    all_goals
      walk_at "go"
      refine ⟨p, c, 5, rfl, by decide, by decide, hp3, fun r5 H4 r50 r55 hp4 b4 => ?_⟩
      have ls4 : LsAt K H4 q (enc es0) := by
        obtain ⟨vs3, e3, a3⟩ := ls3
        exact ⟨vs3, b4 _ _ pqc.1 e3, a3.kt (But.kt hp3 b4)⟩
      refine ⟨r5, rfl, by omega, by omega, ?_⟩
      have n6 : (2 + r5).toNat ≤ 6 := by omega
      refine lp_by wk_range (fun i σ H5 => i ≤ 6 → ∃ es t m, σ = [some (.ref a), some (.ref p), some (.ref q), some (.int (m : Nat)), t, none, none, none, none, none, none, none, none] ∧ m ≤ 7 ∧ HandAt H5 p c ∧ LsAt K H5 q (enc es) ∧ Pool (1 + i) es)
        (fun _ => by first | exact ⟨es0, none, 7, rfl, by decide, hp4, ls4, po0⟩ | exact ⟨es0, none, 4, rfl, by decide, hp4, ls4, po0⟩) (fun _ _ _ _ _ => trivial) ?_ ?_
      · rintro i y σ H5' H5 hi pv ⟨rfl, rfl⟩
        obtain ⟨es, t, m, rfl, m7, hp5, ls5, po5⟩ := pv (by omega)
        walk_at "go"
        refine ⟨p, c, q, _, es, m, rfl, Ne.symm pqc.1, pqc.2, m7, hp5, ls5, po5, by omega, fun e H6 hp6 ls6 po6 _ _ => ?_⟩
        exact ⟨es ++ [e], _, m, rfl, rfl, m7, hp6, ls6, by rw [show 1 + (i + 1) = (1 + i) + 1 by omega]; exact po6⟩
      · rintro σ H5 pv
        obtain ⟨es, t, m, rfl, m7, hp5, ⟨vs5, e5, a5⟩, po5⟩ := pv n6
        have n7 : 1 + (2 + r5).toNat ≤ 7 := by omega
        generalize 1 + (2 + r5).toNat = n at po5 n7
        clear pv
        walk_at "go"
        refine ⟨p, c, 5, rfl, by decide, by decide, hp5, fun rc H6 rc0 rc5 hp6 b6 => ⟨rc, rfl, by omega, by omega, ?_⟩⟩
        have kq : ∀ {H7 : Hp}, But p H5 H7 → H7 q = some (.lst vs5) ∧ Ats K H7 vs5 (enc es) := fun b => ⟨b _ _ pqc.1 e5, a5.kt (But.kt hp5 b)⟩
        have lv : vs5.length = es.length := by rw [a5.length]; exact List.length_map _
        have l3 := po5.three
        have l9 := po5.few
        have get : ∀ (z : Int) (H7 : Hp), 0 ≤ z → z < es.length → But p H5 H7 → ∃ ad v1 w1 k1, atI vs5 z = some (.ref ad) ∧ SqT K H7 ad [v1, .int (k1 : Nat)] ∧ At K H7 v1 w1 ∧ Wt n w1 k1 := fun z H7 z0 zm b => by
          obtain ⟨e, he⟩ : ∃ e, es[z.toNat]? = some e := ⟨_, List.getElem?_eq_getElem (by omega)⟩
          obtain ⟨v, hv, av⟩ := (kq b).2.get' (i := z.toNat) (x := ent e.1 e.2) (by unfold enc; rw [List.getElem?_map, he]; rfl)
          obtain ⟨ad, xs, rfl, ha, aa⟩ := tup_at av
          cases aa with
          | @cons v1 _ _ _ a1 aa =>
          cases aa with
          | cons a2 aa =>
          cases aa
          rw [int_at a2] at ha
          exact ⟨ad, v1, e.1, e.2, atI_int z0 hv, ha, a1, po5.wt e (List.mem_of_getElem? he)⟩
        have rn : rc.toNat ≤ 4 := by omega
        refine lpC_by wk_range (fun D i H7 => H6 D = none ∧ HandAt H7 p c ∧ But p H6 H7 ∧ ∃ cs : List Tr, LsAt K H7 D cs ∧ cs.length = i ∧ ∀ w ∈ cs, ∃ k, Wt n w k) (fun D nD => ⟨nD, hp6.push nD, But.new nD, [], ⟨[], upd_same, .nil⟩, rfl, fun w m => by cases m⟩) (fun _ _ _ _ _ => trivial) ?_ ?_
        · rintro D i y H7' H7 hi ⟨nD, hp7, b7, cs, ⟨cvs, e7, a7⟩, lc, wc⟩ ⟨rfl, rfl⟩
          have b57 := b6.trans b7
          obtain ⟨e7q, _⟩ := kq b57
          obtain ⟨nDp, nDc⟩ := hp6.ne nD
          walk_at "go"
          refine ⟨p, c, _, rfl, by omega, by omega, hp7, fun rr H8 rr0 rrm hp8 b8 => ?_⟩
          obtain ⟨ad, v1, w1, k1, g1, g2, g3, g4⟩ := get ((vs5.length : Nat) - 1 - rr) H8 (by omega) (by omega) (b57.trans b8)
          have eD8 := b8 _ _ nDp e7
          refine ⟨rr, rfl, vs5, SqL.of (kq (b57.trans b8)).1, _, g1, ad, rfl, _, g2, v1, rfl, cvs, eD8, ?_, nD, hp8.put nDp nDc, fun o u no z => ?_, cs ++ [w1], ⟨_, upd_same, ((a7.kt (But.kt hp7 b8)).append (.cons g3 .nil)).kt (Kt.lst eD8)⟩, by rw [List.length_append, lc]; rfl, fun z m => ?_⟩
          · rw [a7.length, lc]
            exact Nat.lt_of_lt_of_le (by omega : i < 5) (by decide)
          · rw [upd_ne (ne_of_none z nD)]
            exact b8 _ _ no (b7 _ _ no z)
          · rcases List.mem_append.mp m with m | m
            · exact wc z m
            · rw [List.mem_singleton.mp m]; exact ⟨k1, g4⟩
        · rintro D H7 nD ⟨_, hp7, b7, cs, ⟨cvs, e7, a7⟩, lc, wc⟩
          obtain ⟨nDp, nDc⟩ := hp6.ne nD
          have b57 := b6.trans b7
          have lc4 : cs.length ≤ 4 := by omega
          have w10 : ∀ x ∈ cs, Tr.WL 10 x := fun x m => by
            obtain ⟨k', h, _⟩ := wc x m
            exact h.mono (by omega)
          have c108 : ∀ x ∈ cs, (Tr.nodes 10 x).length ≤ 108 := fun x m => by
            obtain ⟨k', _, h1, _, h2⟩ := wc x m
            omega
          have sm : Tr.Sm cs := Tr.Sm.of (by omega) w10 c108
          have good : ∀ {ys us : List Tr}, Tr.Sm ys → Tr.Asc us → (∀ z, z ∈ us ↔ Tr.CL ys z) → (Tr.t us).dep < 45 ∧ Nar (.t us) := fun {ys us} sy au mu => by
            obtain ⟨L, l1, l2⟩ := sy.cap
            refine ⟨?_, .t (Nat.le_trans (Tr.asc_len au.nodup fun z m => l2 z ((mu z).mp m)) l1) fun z m => nar_w (S := Tr.CL ys) sy.few (fun z v h k => .part h k) (((mu z).mp m).wl sy.wl) ((mu z).mp m)⟩
            have := deps_le (n := 40) (xs := us) fun z m => (((mu z).mp m).wl sy.wl).dep_le
            rw [Tr.dep_t]; omega
          walk_at "go"
          refine ⟨p, c, D, cvs, rfl, Ne.symm nDp, hp7, e7, fun g H8 hp8 b8 ng eg => ?_⟩
          have eD8 := b8 _ _ nDp e7
          have aD8 := a7.kt (But.kt hp7 b8)
          have eg8 : SqL K H8 g cvs ∨ SqT K H8 g cvs := eg.imp SqL.of SqT.of
          refine ⟨D, cs, rfl, ⟨cvs, eD8, aD8⟩, sm, fun due dus H9 s9 at9 asc9 m9 => ?_⟩
          refine ⟨.ref g, cs, rfl, ⟨g, cvs, rfl, seq_same s9 eg8, aD8.kt (Kt.same s9)⟩, sm, fun told tus H10 s10 at10 asc10 m10 => ?_⟩
          obtain rfl : tus = dus := Tr.asc_uniq asc10 asc9 fun z => (m10 z).trans (m9 z).symm
          obtain ⟨gd, gn⟩ := good sm asc10 m10
          refine ⟨.ref told, .ref due, _, rfl, at10, at9.kt (Kt.same s10), gd, gn, fun H11 s11 => ⟨true, rfl, ?_⟩⟩
          rw [if_neg (by decide)]
          have s8_11 := (s9.trans s10).trans s11
          refine ⟨g, rfl, cvs, seq_same s8_11 eg8, fun l nl => ?_⟩
          have s12 := s8_11.trans (same_new (o := .lst cvs) nl)
          refine ⟨l, D, cvs, cvs, cs, cs, rfl, rfl, SqL.of upd_same, SqL.of (s12 _ _ eD8), aD8.kt (Kt.same s12), aD8.kt (Kt.same s12), fun x m => Nat.le_trans (w10 x m).dep_le (by decide), _, rfl, ?_⟩
          rw [if_neg (by simp)]
          have s10_12 := s11.trans (same_new (o := .lst cvs) nl)
          refine ⟨.ref told, tus, cs, rfl, at10.kt (Kt.same s10_12), sm, m10, fun H13 s13 => ?_⟩
          walk_at "go"
          obtain ⟨_, tvs, et, ht, att⟩ := tup_at at10
          cases et
          have s10_13 := s10_12.trans s13
          refine ⟨tvs, .inr (ht.kt (Kt.same s10_13)), fun l2 nl2 => ?_⟩
          have sm2 := sm.again asc10 m10
          refine ⟨.ref l2, tus, rfl, ⟨l2, tvs, rfl, .inl (SqL.of upd_same), (att.kt (Kt.same s10_13)).kt (Kt.new nl2)⟩, sm2, fun t2 us2 H14 s14 at14 asc14 m14 => ?_⟩
          obtain rfl : us2 = tus := Tr.asc_uniq asc14 asc10 fun z => (m14 z).trans ⟨fun h => (m10 z).mpr (h.again fun x m => (m10 x).mp m), fun h => .base h⟩
          have s10_14 := (s10_13.trans (same_new (o := .lst tvs) nl2)).trans s14
          refine ⟨.ref t2, .ref due, _, rfl, at14, at9.kt (Kt.same (s10.trans s10_14)), gd, gn, fun H15 s15 => ⟨true, rfl, ?_⟩⟩
          rw [if_neg (by decide)]
          refine ⟨Nat.zero_le _, fun l3 nl3 => ?_⟩
          refine ⟨.ref l3, [], rfl, ⟨l3, [], rfl, .inl (SqL.of upd_same), .nil⟩, sm_nil, fun t3 us3 H16 s16 at16 asc16 m16 => ?_⟩
          obtain rfl : us3 = [] := List.eq_nil_iff_forall_not_mem.mpr fun z m => cl_nil ((m16 z).mp m)
          refine ⟨Nat.zero_le _, fun l4 nl4 => ?_⟩
          refine ⟨.ref t3, .ref l4, .t [], rfl, at16.kt (Kt.new nl4), at_tup (SqT.of upd_same) .nil, by rw [Tr.dep_t, Tr.deps_nil]; decide, .t (by simp) fun x m => (by cases m), fun H17 s17 => ⟨true, rfl, ?_⟩⟩
          rw [if_neg (by decide)]
          have sBig : Same H8 H17 := ((((((s9.trans s10).trans s10_14).trans s15).trans (same_new nl3)).trans s16).trans (same_new nl4)).trans s17
          have b17 := (b57.trans b8).trans (But.of (p := p) sBig)
          refine ⟨vs5, .inl (SqL.of (kq b17).1), ?_⟩
          refine ⟨p, c, _, rfl, by omega, by omega, hp8.same sBig, fun rf H18 rf0 rfm hp18 b18 => ?_⟩
          obtain ⟨ad, v1, w1, k1, g1, g2, g3, g4⟩ := get rf H18 rf0 (by omega) (b17.trans b18)
          refine ⟨vs5, rf, rfl, SqL.of (kq (b17.trans b18)).1, _, g1, ad, rfl, _, g2, v1, rfl, by decide, fun l5 nl5 => ?_⟩
          have eD18 : H18 D = some (.lst cvs) := b18 _ _ nDp (sBig _ _ eD8)
          have k18 : Kt H8 H18 := (Kt.same sBig).trans (But.kt (hp8.same sBig) b18)
          have aD18 := aD8.kt k18
          have lcv : cvs.length ≤ 4 := by rw [a7.length]; exact lc4
          refine ⟨D, l5, cvs, [v1, v1], rfl, rfl, (same_new nl5) _ _ eD18, upd_same, Nat.le_trans (Nat.add_le_add_right lcv _) (show 4 + 2 ≤ sizeLine by decide), fun l6 nl6 => ?_⟩
          have s18_6 := (same_new (o := .lst [v1, v1]) nl5).trans (same_new (o := .lst (cvs ++ [v1, v1])) nl6)
          have w1w : Tr.WL 10 w1 := g4.1.mono (by omega)
          have w1c : (Tr.nodes 10 w1).length ≤ 108 := by
            obtain ⟨_, h1, _, h2⟩ := g4
            omega
          have two : ∀ x ∈ cs ++ [w1, w1], x ∈ cs ++ [w1] := fun x m => (List.mem_append.mp m).elim (fun m => List.mem_append_left _ m) fun m => List.mem_append_right _ (by simpa using m)
          have inw : ∀ {T : Tr → Prop}, (∀ x ∈ cs, T x) → T w1 → ∀ x ∈ cs ++ [w1], T x := fun h k x m => (List.mem_append.mp m).elim (h x) fun m => by rw [List.mem_singleton.mp m]; exact k
          have sm4 : Tr.Sm (cs ++ [w1]) := Tr.Sm.of (by rw [List.length_append]; simp; omega) (inw w10 w1w) (inw c108 w1c)
          have sm3 : Tr.Sm (cs ++ [w1, w1]) := Tr.Sm.of (by rw [List.length_append]; simp; omega) (fun x m => inw w10 w1w x (two x m)) (fun x m => inw c108 w1c x (two x m))
          refine ⟨.ref l6, cs ++ [w1, w1], rfl, ⟨l6, _, rfl, .inl (SqL.of upd_same), (aD18.kt (Kt.same s18_6)).append (.cons (g3.kt (Kt.same s18_6)) (.cons (g3.kt (Kt.same s18_6)) .nil))⟩, sm3, fun more mus H19 s19 at19 asc19 m19 => ?_⟩
          refine ⟨by decide, fun l7 nl7 => ?_⟩
          have s18_19 := s18_6.trans s19
          refine ⟨D, l7, cvs, [v1], rfl, rfl, (same_new nl7) _ _ (s18_19 _ _ eD18), upd_same, Nat.le_trans (Nat.add_le_add_right lcv _) (show 4 + 1 ≤ sizeLine by decide), fun l8 nl8 => ?_⟩
          have s18_8 := (s18_19.trans (same_new (o := .lst [v1]) nl7)).trans (same_new (o := .lst (cvs ++ [v1])) nl8)
          refine ⟨l8, cs ++ [w1], rfl, ⟨_, upd_same, (aD18.kt (Kt.same s18_8)).append (.cons (g3.kt (Kt.same s18_8)) .nil)⟩, sm4, fun due2 dus2 H20 s20 at20 asc20 m20 => ?_⟩
          obtain rfl : dus2 = mus := Tr.asc_uniq asc20 asc19 fun z => (m20 z).trans (Iff.trans ⟨fun h => h.mono fun x m => (List.mem_append.mp m).elim (fun m => List.mem_append_left _ m) fun m => List.mem_append_right _ (by rw [List.mem_singleton.mp m]; exact List.mem_cons_self), fun h => h.mono two⟩ (m19 z).symm)
          obtain ⟨gd2, gn2⟩ := good sm4 asc20 m20
          have s19_20 := ((same_new (o := .lst [v1]) nl7).trans (same_new (o := .lst (cvs ++ [v1])) nl8)).trans s20
          refine ⟨.ref more, .ref due2, _, rfl, at19.kt (Kt.same s19_20), at20, gd2, gn2, fun H21 s21 => ?_⟩
          refine ⟨true, rfl, ?_⟩
          rw [if_pos rfl]
          have kA : Kt H10 H21 := ((Kt.same (((((s10_14.trans s15).trans (same_new nl3)).trans s16).trans (same_new nl4)).trans s17)).trans (But.kt (hp8.same sBig) b18)).trans (Kt.same ((s18_8.trans s20).trans s21))
          have htA := ht.kt kA
          have attA := att.kt kA
          obtain ⟨_, mvs, em, hm, amv⟩ := tup_at (at19.kt (Kt.same (s19_20.trans s21)))
          cases em
          refine ⟨⟨_, htA⟩, lpC_by (wk_tup (xs := tvs)) (fun D2 i H22 => Same H21 H22 ∧ H22 D2 = some (.lst [])) (fun D2 n2 => ⟨same_new n2, upd_same⟩) (fun D2 i H22 _ s => htA.kt (Kt.same s.1)) ?_ ?_⟩
          · rintro D2 i y H22' H22 hi ⟨s22, e22⟩ ⟨rfl, hy⟩
            obtain ⟨u, hu, au⟩ := attA.get hy
            have cu := (m10 u).mp (List.mem_of_getElem? hu)
            have mm : u ∈ dus2 := (m19 u).mpr (cu.mono fun x m => List.mem_append_left _ m)
            walk_at "go"
            refine ⟨u, _, au.kt (Kt.same s22), ⟨more, mvs, rfl, .inr (hm.kt (Kt.same s22)), amv.kt (Kt.same s22)⟩, Nat.le_trans (cu.wl sm.wl).dep_le (by decide), _, rfl, ?_⟩
            rw [if_neg (by simpa using mm)]
            exact ⟨s22, e22⟩
          · rintro D2 H22 _ ⟨s22, e22⟩
            refine ⟨D2, rfl, [], .inl (SqL.of e22), ?_⟩
            rw [show (decide (((([] : List V).length : Nat) : Int) = 0)) = true from rfl]
            exact k _
end


set_option Elab.async false
set_option linter.all false
set_option maxRecDepth 100000
set_option maxHeartbeats 8000000
open PySem L2 StX
theorem all_mk {l : PySem.W.OpenLaw} {w : World} {K : PySem.W.Frag} {h : Heap} {mg : Str → Option Value} {fa fl : Addr} (X : K.In h) (Gn : h.Ns mainGlobals mg) (hfa : mg "law" = some (.ref fa))
    {od4 an4 : Option Addr} {sl4 : Array (Option Value)} {oc4 kV4 dc4 pm4 cd4 ct4 : Value}
    (a4 : PySem.W.nsIn K mainGlobals "law" = some (some (.ref fl))) (l4 : K.lookup fl = some ⟨oc4, od4, .func (PySem.W.fnOf "law" "law" (defArgs sLaw) (defBody sLaw) (defScope sLaw) .none kV4 dc4 pm4 an4 cd4 ct4), sl4⟩) (c4 : PySem.W.codeIn K cd4 "law" = true) (k4 : PySem.W.keepIn K (.ref fl) = true)
    (dparts_of : DefAt K mg "parts_of" sParts)
    (d_held_worths : DefAt K mg "_held_worths" sHeld)
    (deach_once : DefAt K mg "each_once" sOnce)
    (dbags_within : DefAt K mg "bags_within" sBags)
    (dclosed_worths : DefAt K mg "closed_worths" sClosed)
    (d_law_hand : DefAt K mg "_law_hand" sHand)
    (d_law_mixed : DefAt K mg "_law_mixed" sMixed)
    (d_law_take : DefAt K mg "_law_take" sTake)
    (d_law_whole : DefAt K mg "_law_whole" sIsW)
    (d_law_exact : DefAt K mg "_law_exact" sExact)
    (d_law_given : DefAt K mg "_law_given" sGiven)
    (d_law_begun_pool : DefAt K mg "_law_begun_pool" sPool)
    (d_law_pick : DefAt K mg "_law_pick" sPick)
    (d_law_name : DefAt K mg "_law_name" sName)
    (d_law_picks : DefAt K mg "_law_picks" sPicks)
    (d_law_turned : DefAt K mg "_law_turned" sTurned)
    (d_law_grow : DefAt K mg "_law_grow" sGrow)
    (d_law_unlike : DefAt K mg "_law_unlike" sUnlike)
    (d_law_parts_due : DefAt K mg "_law_parts_due" sPartsD)
    (d_law_closed_due : DefAt K mg "_law_closed_due" sClosedD)
    (d_law_is_closed : DefAt K mg "_law_is_closed" sIsC)
    (zlen : PySem.W.nsIn K mainGlobals "len" = some none)
    (zint : PySem.W.nsIn K mainGlobals "int" = some none)
    (zabs : PySem.W.nsIn K mainGlobals "abs" = some none)
    (zbool : PySem.W.nsIn K mainGlobals "bool" = some none)
    (zlist : PySem.W.nsIn K mainGlobals "list" = some none)
    (ztuple : PySem.W.nsIn K mainGlobals "tuple" = some none)
    (zrange : PySem.W.nsIn K mainGlobals "range" = some none)
    (zisinstance : PySem.W.nsIn K mainGlobals "isinstance" = some none)
    (zsorted : PySem.W.nsIn K mainGlobals "sorted" = some none)
    (zsum : PySem.W.nsIn K mainGlobals "sum" = some none)
    (zall : PySem.W.nsIn K mainGlobals "all" = some none)
    (zenumerate : PySem.W.nsIn K mainGlobals "enumerate" = some none) :
    ∃ fd : FuncData, (∀ (s : Shared) (v : Value), BindsTo s fd ⟨[v], []⟩ [("_law_script", v)]) ∧ ∀ base : Heap, K.In base → base.Ns mainGlobals mg → FnOk l.prog w K mg base CX0 51 fa fd ["_law_script"] (spLaw K) := by
  have e := hfa.symm.trans (PySem.W.mg_of X Gn a4)
  cases e
  have F4 := fun_mk (st := sLaw) l4 c4 k4
  have B : Bt mg := ⟨PySem.W.mg_none_of X Gn zlen, PySem.W.mg_none_of X Gn zint, PySem.W.mg_none_of X Gn zabs, PySem.W.mg_none_of X Gn zbool, PySem.W.mg_none_of X Gn zlist, PySem.W.mg_none_of X Gn ztuple, PySem.W.mg_none_of X Gn zrange, PySem.W.mg_none_of X Gn zisinstance, PySem.W.mg_none_of X Gn zsorted, PySem.W.mg_none_of X Gn zsum, PySem.W.mg_none_of X Gn zall, PySem.W.mg_none_of X Gn zenumerate⟩
  refine ⟨PySem.W.fnOf "law" "law" (defArgs sLaw) (defBody sLaw) (defScope sLaw) .none kV4 dc4 pm4 an4 cd4 ct4, fun s v => .of_eq rfl, fun base _ _ => ?_⟩
  have CM := ok_mixed (P := l.prog) (w := w) (base := base) d_law_mixed B
  have CH := ok_hand (P := l.prog) (w := w) (base := base) d_law_hand B
  have CT := ok_take d_law_take B CM
  have CO := ok_once (P := l.prog) (w := w) (base := base) deach_once B
  have CHe := ok_held (P := l.prog) (w := w) (base := base) d_held_worths B
  have CP := ok_parts dparts_of B CO CHe
  have CB := ok_bags dbags_within B CO
  have CC := ok_closed dclosed_worths B (Cal.mono CO (by decide)) CP CB
  have CI := ok_isW (P := l.prog) (w := w) (base := base) d_law_whole B
  have CE := ok_exact d_law_exact B CI 45
  have CU := ok_unlike (P := l.prog) (w := w) (base := base) d_law_unlike B
  have CPD := ok_partsD d_law_parts_due B CU
  have CCD := ok_closedD d_law_closed_due B CPD
  have CIC := ok_isC d_law_is_closed B CP CB
  have CPk := ok_pick d_law_pick B CT
  have CPo := ok_pool (P := l.prog) (w := w) (base := base) d_law_begun_pool B
  have CN := ok_name d_law_name B CT
  have CG := ok_given d_law_given B CT
  have CTu := ok_turned (P := l.prog) (w := w) (base := base) d_law_turned B
  have CPs := ok_picks d_law_picks B (Cal.mono CT (by decide)) CPk
  have CGr := ok_grow d_law_grow B (Cal.mono CT (by decide)) (Cal.mono CPk (by decide)) CPs (Cal.mono CN (by decide)) (Cal.mono CTu (by decide))
  exact ok_law ⟨_, _, F4, hfa⟩ B (Cal.mono CH (by decide)) (Cal.mono CPo (by decide)) (Cal.mono CT (by decide)) (Cal.mono CGr (by decide)) (Cal.mono CG (by decide)) (Cal.mono CCD (by decide)) (Cal.mono CC (by decide)) (Cal.mono CE (by decide)) (Cal.mono CIC (by decide)) _ _ F4
theorem walk {l : PySem.W.OpenLaw} {q : Program} {loose : List Str} {XP : (Str → Option Value) → Heap → Prop} {YP : World → Heap → Prop} {d : DefRec} {K : Params → PySem.W.Frag} (hn : l.most = some 63) (hdf : d.params.defaults = [])
    (hY : ∀ (w : World) (h : Heap), YP w h → (K w.params).In h)
    (F : ∀ (w : World) (mg : Str → Option Value) (fa : Addr) (h : Heap), (K w.params).In h → h.Ns mainGlobals mg → mg d.name = some (.ref fa) →
      ∃ fd : FuncData, (∀ (s : Shared) (u : Value), BindsTo s fd ⟨[u], []⟩ [("_law_script", u)]) ∧ ∀ base : Heap, (K w.params).In base → base.Ns mainGlobals mg → FnOk l.prog w (K w.params) mg base CX0 51 fa fd ["_law_script"] (spLaw (K w.params))) :
    PySem.W.WalkO q loose XP YP l.row.toRowW d [] (fun f vs => PySem.call f vs) :=
  L2.walk_of (n := 63) (k := 51) (x := "_law_script") (CX := fun _ => CX0) (sp := fun w => spLaw (K w.params)) hn (by decide) hdf ⟨rfl, by decide, by decide⟩ hY F (fun _ _ a ns hl _ hS => ⟨a, ns, rfl, hS, hl, fun _ => rfl⟩) fun _ _ _ _ _ z => z
end K05

open PySem PySem.W PyProof.Rows
set_option Elab.async false
set_option maxRecDepth 100000 in
set_option maxHeartbeats 0 in
theorem PySem.Challenge.cw_knownguards_k05_whole_closed_lots_of_wor_holds : PySem.Challenge.rw_knownguards_k05_whole_closed_lots_of_wor.Holds := by
  w_on; o_law; k_head; (case hw => w_witness2)
  k_fill
  refine K05.walk (l := PySem.Challenge.rw_knownguards_k05_whole_closed_lots_of_wor) rfl rfl (fun w h Y => PySem.W.kIn_of Y) ?F
  case F =>
    intro w mg fa h KX G hmg
    refine' K05.all_mk KX G hmg ?a4 ?l4 ?c4 ?k4 ?dparts_of ?d_held_worths ?deach_once ?dbags_within ?dclosed_worths ?d_law_hand ?d_law_mixed ?d_law_take ?d_law_whole ?d_law_exact ?d_law_given ?d_law_begun_pool ?d_law_pick ?d_law_name ?d_law_picks ?d_law_turned ?d_law_grow ?d_law_unlike ?d_law_parts_due ?d_law_closed_due ?d_law_is_closed ?zlen ?zint ?zabs ?zbool ?zlist ?ztuple ?zrange ?zisinstance ?zsorted ?zsum ?zall ?zenumerate
    (case a4 => k_is); (case l4 => k_is); (case c4 => k_is); (case k4 => k_is)
    (case dparts_of => (refine' L2.defAt_mk KX G ?x1 ?x2 ?x3 ?x4; (case x1 => k_is); (case x2 => k_is); (case x3 => k_is); (case x4 => k_is)))
    (case d_held_worths => (refine' L2.defAt_mk KX G ?x1 ?x2 ?x3 ?x4; (case x1 => k_is); (case x2 => k_is); (case x3 => k_is); (case x4 => k_is)))
    (case deach_once => (refine' L2.defAt_mk KX G ?x1 ?x2 ?x3 ?x4; (case x1 => k_is); (case x2 => k_is); (case x3 => k_is); (case x4 => k_is)))
    (case dbags_within => (refine' L2.defAt_mk KX G ?x1 ?x2 ?x3 ?x4; (case x1 => k_is); (case x2 => k_is); (case x3 => k_is); (case x4 => k_is)))
    (case dclosed_worths => (refine' L2.defAt_mk KX G ?x1 ?x2 ?x3 ?x4; (case x1 => k_is); (case x2 => k_is); (case x3 => k_is); (case x4 => k_is)))
    (case d_law_hand => (refine' L2.defAt_mk KX G ?x1 ?x2 ?x3 ?x4; (case x1 => k_is); (case x2 => k_is); (case x3 => k_is); (case x4 => k_is)))
    (case d_law_mixed => (refine' L2.defAt_mk KX G ?x1 ?x2 ?x3 ?x4; (case x1 => k_is); (case x2 => k_is); (case x3 => k_is); (case x4 => k_is)))
    (case d_law_take => (refine' L2.defAt_mk KX G ?x1 ?x2 ?x3 ?x4; (case x1 => k_is); (case x2 => k_is); (case x3 => k_is); (case x4 => k_is)))
    (case d_law_whole => (refine' L2.defAt_mk KX G ?x1 ?x2 ?x3 ?x4; (case x1 => k_is); (case x2 => k_is); (case x3 => k_is); (case x4 => k_is)))
    (case d_law_exact => (refine' L2.defAt_mk KX G ?x1 ?x2 ?x3 ?x4; (case x1 => k_is); (case x2 => k_is); (case x3 => k_is); (case x4 => k_is)))
    (case d_law_given => (refine' L2.defAt_mk KX G ?x1 ?x2 ?x3 ?x4; (case x1 => k_is); (case x2 => k_is); (case x3 => k_is); (case x4 => k_is)))
    (case d_law_begun_pool => (refine' L2.defAt_mk KX G ?x1 ?x2 ?x3 ?x4; (case x1 => k_is); (case x2 => k_is); (case x3 => k_is); (case x4 => k_is)))
    (case d_law_pick => (refine' L2.defAt_mk KX G ?x1 ?x2 ?x3 ?x4; (case x1 => k_is); (case x2 => k_is); (case x3 => k_is); (case x4 => k_is)))
    (case d_law_name => (refine' L2.defAt_mk KX G ?x1 ?x2 ?x3 ?x4; (case x1 => k_is); (case x2 => k_is); (case x3 => k_is); (case x4 => k_is)))
    (case d_law_picks => (refine' L2.defAt_mk KX G ?x1 ?x2 ?x3 ?x4; (case x1 => k_is); (case x2 => k_is); (case x3 => k_is); (case x4 => k_is)))
    (case d_law_turned => (refine' L2.defAt_mk KX G ?x1 ?x2 ?x3 ?x4; (case x1 => k_is); (case x2 => k_is); (case x3 => k_is); (case x4 => k_is)))
    (case d_law_grow => (refine' L2.defAt_mk KX G ?x1 ?x2 ?x3 ?x4; (case x1 => k_is); (case x2 => k_is); (case x3 => k_is); (case x4 => k_is)))
    (case d_law_unlike => (refine' L2.defAt_mk KX G ?x1 ?x2 ?x3 ?x4; (case x1 => k_is); (case x2 => k_is); (case x3 => k_is); (case x4 => k_is)))
    (case d_law_parts_due => (refine' L2.defAt_mk KX G ?x1 ?x2 ?x3 ?x4; (case x1 => k_is); (case x2 => k_is); (case x3 => k_is); (case x4 => k_is)))
    (case d_law_closed_due => (refine' L2.defAt_mk KX G ?x1 ?x2 ?x3 ?x4; (case x1 => k_is); (case x2 => k_is); (case x3 => k_is); (case x4 => k_is)))
    (case d_law_is_closed => (refine' L2.defAt_mk KX G ?x1 ?x2 ?x3 ?x4; (case x1 => k_is); (case x2 => k_is); (case x3 => k_is); (case x4 => k_is)))
    (case zlen => k_is)
    (case zint => k_is)
    (case zabs => k_is)
    (case zbool => k_is)
    (case zlist => k_is)
    (case ztuple => k_is)
    (case zrange => k_is)
    (case zisinstance => k_is)
    (case zsorted => k_is)
    (case zsum => k_is)
    (case zall => k_is)
    (case zenumerate => k_is)
