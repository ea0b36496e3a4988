import PyProof.Rows.All
import Wide.All
import OpenK.AllK
import Wide.FinOn
import PySem.Challenge.RW_knownguards_k75_whole_errors_and_whole_n
import KE.KExcIs
import HandS.ForExc
import HandS.Comp
import HandS.Defaults
import HandS.IsInst
import HandS.ExcInit
import HandS.ExcIs
import HandS.ExcValue
import HandS.ExcField
import HandS.Small
import HandS.ForMost
import HandS.Wide
import HandS.TupAny
import HandS.Flow
set_option Elab.async false
set_option linter.all false
set_option maxRecDepth 100000
set_option maxHeartbeats 4000000
/-! Own exceptions as values: made by a call, their fields read, asked by isinstance. Whatever makes an exception for a raise (PMk) makes a value, too: the exception's object is tracked again. -/
namespace L2
open PySem PySem.Spec PyProof.Rows
/-- an exception that was made and not raised stands at a: its class, its own dict -/
def exq (a : Addr) (cls : Value) (d : Option Addr) : HO := .ext fun h => ∃ oe vs, h.get? a = some oe ∧ Zc cls d oe ∧ oe.data = .fields vs
theorem exq_at {P : Program} {w : World} {H : Hp} {h : Heap} {a : Addr} {cls : Value} {d : Option Addr} (ok : HOk P w H h) (e : H a = some (exq a cls d)) : ∃ oe vs, h.get? a = some oe ∧ Zc cls d oe ∧ oe.data = .fields vs := (ok a _ e).1
/-- an exception of the class at C stands at a, its attributes fs -/
def ExAt (H : Hp) (a C : Addr) (fs : List (Str × V)) : Prop := (fs = [] ∧ H a = some (exq a (.ref C) none)) ∨ ∃ d, H a = some (exq a (.ref C) (some d)) ∧ H d = some (.xd fs)
theorem ExAt.same {H H' : Hp} {a C : Addr} {fs : List (Str × V)} (x : ExAt H a C fs) (s : Same H H') : ExAt H' a C fs := x.imp (fun ⟨e, h⟩ => ⟨e, s _ _ h⟩) fun ⟨d, h1, h2⟩ => ⟨d, s _ _ h1, s _ _ h2⟩
theorem not_lst {H : Hp} {a t : Addr} {o : HO} {xs : List V} (h1 : H a = some o) (h : H t = some (.lst xs)) (no : o ≠ .lst xs) : a ≠ t := ne_of h1 h no
theorem ExAt.updL {H : Hp} {a C t : Addr} {fs : List (Str × V)} {xs ys : List V} (x : ExAt H a C fs) (h : H t = some (.lst xs)) : ExAt (upd H t (.lst ys)) a C fs := by
  have k : ∀ {b o}, H b = some o → o ≠ .lst xs → upd H t (.lst ys) b = some o := fun e n => (upd_ne (not_lst e h n)).trans e
  exact x.imp (fun ⟨e, h0⟩ => ⟨e, k h0 (fun z => by cases z)⟩) fun ⟨d, h1, h2⟩ => ⟨d, k h1 (fun z => by cases z), k h2 (fun z => by cases z)⟩
section
variable {X : Cx} {e : Expr} {pos p : Pos}
/-- any maker of exceptions, as an expression -/
def tExv (t : St → Hp → XK → Prop) : TE := fun σ H Q => t σ H fun cls d H' => ∀ a, H' a = none → Q (.ref a) (upd H' a (exq a cls d))
theorem pe_exv {t : St → Hp → XK → Prop} (mk : PMk X e t) : PE X e (tExv t) := by
  constructor
  intro pins s σ H Q I h
  have run := mk pins s σ H (fun cls d H' => ∀ a, H' a = none → Q (.ref a) (upd H' a (exq a cls d))) I h
  refine thn run ?_
  rintro u s' ⟨a, oe, vs, sG, H', cls, d, eu, J, sub, gone, obj, hz, dat, _, free, os', bare', _, q⟩
  have got : ObjOk X.prog X.w (upd H' a (exq a cls d)) s'.heap a (exq a cls d) := ⟨⟨oe, vs, obj, hz, dat⟩, ⟨oe, obj⟩, fun h1 h2 ⟨oe1, vs1, g, r⟩ keep => ⟨oe1, vs1, keep _ g, r⟩⟩
  have J2 := J.laidN (h' := s'.heap) (t' := s'.toks) sub gone free got
  have J3 : Inv X pins σ (upd H' a (exq a cls d)) s' := J2.call' (ch := []) os' Un.refl J2.hok bare' fun b z => nomatch z
  exact ⟨.ref a, _, J3, eu, q a free⟩
theorem new_exq {H : Hp} {a C d : Addr} {fs : List (Str × V)} (n : H a = none) (h : H d = some (.xd fs)) : ExAt (upd H a (exq a (.ref C) (some d))) a C fs := .inr ⟨d, upd_same, (upd_ne (ne_of_none h n)).trans h⟩
/-- C() of an own exception class without an __init__, for a raise or as a value -/
theorem pmk_bare {C : Addr} {bmB : List Value} {B newId initId : String} {x : Str} (F : ExcBaseFacts B newId initId bmB) (q : PySem.W.excIn X.K C bmB newId = true) (gC : X.mg x = some (.ref C)) (kC : PySem.W.keepIn X.K (.ref C) = true) (r : Raises X (.ref C))
    (hg : Gl X x) (hdb : (x == ("__debug__" : Str)) = false := by decide) : PMk X (.Call (.Name x p) [] [] pos) (fun _ H Q => Q (.ref C) none H) := fun pins s σ H Q I h => by
  have bare : wpAny (model X.prog X.w) X.A (call (.ref C) []) (MkP X pins σ Q) X.xe s := by
    obtain ⟨bm, N, nm, qn, bs, hdct, sn, sub, ab, col, dd, k0, k1, k2, k3, k5, mN, hC, hN, hni, T⟩ := exc_obj I.kIn q
    exact wpAny_call_exc_subT F T hC hN hni (fun h' e hm => mk_of I hm r h (I.hok.gone hm.new)) (Nat.zero_le _)
  exact wpAny_Call_Name_kw (ld_glob I hg gC (PySem.W.callWith_K0 I.kIn kC bare) hdb)
/-- the attribute n of an exception that stands in H -/
def tOxf (K : PySem.W.Frag) (n : Str) (te : TE) : TE := fun σ H Q => te σ H fun x H1 => ∃ (a C : Addr) (fs : List (Str × V)) (v : V), x = .ref a ∧ XfC K C ∧ PySem.W.findIn K (.ref C) n = some none ∧ ExAt H1 a C fs ∧ fs.lookup n = some v ∧ Q v H1
/-- where such an exception's object and dict are -/
theorem ExAt.inst {a C : Addr} {fs : List (Str × V)} {pins : List (Addr × Obj)} {σ : St} {H : Hp} {s : Shared} (I : Inv X pins σ H s) (x : ExAt H a C fs) : ∃ oe od, PySem.W.InstAt s.heap a oe C od ∧ ∀ n v, fs.lookup n = some v → ∃ od' u, od = some od' ∧ PySem.W.lookIn n od' = some (some u) ∧ RelV v u := by
  rcases x with ⟨e, h⟩ | ⟨d, h1, h2⟩
  · obtain ⟨⟨oc, od, da, sl⟩, vs, g, ⟨z1, z2⟩, z3⟩ := exq_at I.hok h
    cases z1; cases z2; cases z3
    exact ⟨_, none, ⟨g, rfl, rfl, trivial⟩, fun n v l => by rw [e] at l; cases l⟩
  · obtain ⟨⟨oc, od, da, sl⟩, vs, g, ⟨z1, z2⟩, z3⟩ := exq_at I.hok h1
    cases z1; cases z2; cases z3
    obtain ⟨mA, hns, rel⟩ := (show ObjOk X.prog X.w H s.heap d (.xd fs) from I.hok d _ h2)
    obtain ⟨od, ho, hl⟩ := lookIn_ns hns
    refine ⟨_, some od, ⟨g, rfl, rfl, ho⟩, fun n v l => ?_⟩
    obtain ⟨u, hu, ru⟩ := RelO.some_of (v := v) (o := mA n) (l ▸ rel n)
    exact ⟨od, u, rfl, (hl n).trans (congrArg some hu), ru⟩
theorem pe_oxf {te : TE} {n : Str} (he : PE X e te) (hb : attributeBase e n X.env (eval e X.env) = eval e X.env := by rfl) : PE X (.Attribute e n pos) (tOxf X.K n te) := by
  constructor
  intro pins s σ H Q I h
  refine attr_of hb (thn (he.run pins s σ H _ I h) ?_)
  rintro u s1 ⟨x, H1, I1, rx, a, C, fs, v, rfl, T, no, ea, l, q⟩
  cases rx
  obtain ⟨oe, od, J, look⟩ := ea.inst I1
  obtain ⟨od', w, rfl, hw, rw'⟩ := look n v l
  exact HandSPX.exc_get I1.kIn J T.ga T.gg T.exC (PySem.W.findObj_own T.hdC no rfl hw) (handed_of rw') ⟨v, H1, I1.tok _, rw', q⟩
theorem ExcC.kit {K : PySem.W.Frag} {C x : Addr} {oe : Obj} {od : Option Obj} (c : ExcC K C) : PySem.W.KitX K (.ref x) (.ref C) fun h => PySem.W.InstAt h x oe C od :=
  PySem.W.kitx_exc (by obtain ⟨cd, hc, _⟩ := PySem.W.any_some c.hd; rw [hc]; rfl) c.hg c.hk c.hs c.ha c.hn c.ht c.hm
/-- isinstance(e, c) of an exception that stands in H -/
def rIsO (K : PySem.W.Frag) : List V → Hp → VK → Prop := fun xs H Q => ∃ (a D : Addr) (fs : List (Str × V)) (c : V) (cv : Value) (b : Bool), xs = [.ref a, c] ∧ ExAt H a D fs ∧ ExcC K D ∧ ClsV c cv ∧ PySem.W.kitOne K (.ref D) cv = some b ∧ Q (.bl b) H
theorem call_isO : CallR X (.builtin "isinstance") (rIsO X.K) := by
  rintro pins s σ H xs us Q I r ⟨a, D, fs, c, cv, b, rfl, ea, C, k, e, q⟩
  obtain ⟨u1, u2, rfl, r1, r2⟩ := vals2 r
  cases k.eq r2
  cases r1
  obtain ⟨oe, od, J, _⟩ := ea.inst I
  exact PySem.W.kia_one C.kit I.kIn J e (fun z => nomatch z) fun tk => ⟨.bl b, H, I.tok tk, rfl, q⟩
theorem op_eqDs {a : Addr} {pn : List (Addr × Obj)} (hu : X.A.units + 64 < cLine) : OpR (X.suite a pn) (compareOp .Eq) (rEqD X.K) := op_eqD (X := X.suite a pn) hu
/-- isinstance(e, c), e the exception that the suite holds, with a dict of its own -/
def rIsS (K : PySem.W.Frag) (a : Addr) (cls : Value) (d : Option Addr) : List V → Hp → VK → Prop := fun xs H Q => ∃ (D dd : Addr) (fs : List (Str × V)) (c : V) (cv : Value) (b : Bool), cls = .ref D ∧ d = some dd ∧ xs = [.ref a, c] ∧ H dd = some (.xd fs) ∧ ExcC K D ∧ ClsV c cv ∧ PySem.W.kitOne K (.ref D) cv = some b ∧ Q (.bl b) H
theorem call_isS {a : Addr} {oe : Obj} {cls : Value} {d : Option Addr} {pn : List (Addr × Obj)} (hz : Zc cls d oe) (hf : ∃ vs, oe.data = .fields vs) : CallR (X.suite a ((a, oe) :: pn)) (.builtin "isinstance") (rIsS X.K a cls d) := by
  rintro pins s σ H xs us Q I r ⟨D, dd, fs, c, cv, b, rfl, rfl, rfl, hd, C, k, e, q⟩
  obtain ⟨u1, u2, rfl, r1, r2⟩ := vals2 r
  cases k.eq r2
  cases r1
  have stands := (I.pin (a, oe) (List.mem_append_left _ List.mem_cons_self)).1
  obtain ⟨mA, hns, _⟩ := (show ObjOk X.prog X.w H s.heap dd (.xd fs) from I.hok dd _ hd)
  obtain ⟨od, ho, _⟩ := lookIn_ns hns
  obtain ⟨oc, odd, da, sl⟩ := oe
  obtain ⟨⟨z1, z2⟩, vs, z3⟩ := hz, hf
  cases z1; cases z2; cases z3
  have J : PySem.W.InstAt s.heap a { cls := .ref D, dict := some dd, data := .fields vs, slots := sl } D (some od) := ⟨stands, rfl, rfl, ho⟩
  exact PySem.W.kia_one C.kit I.kIn J e (fun z => nomatch z) fun tk => ⟨.bl b, H, I.kept (t' := tk) fun _ _ z => z, rfl, q⟩
end
/-! the error classes of a package: what is asked of each, made anew, with one attribute, two, none -/
/-- an exception that an __init__ has made: its dict is new -/
def ExNew (H H' : Hp) (a C : Addr) (fs : List (Str × V)) : Prop := ∃ d, d ≠ a ∧ H d = none ∧ H' a = some (exo a C (some d)) ∧ H' d = some (exd d fs)
def spI1 (K : PySem.W.Frag) (C : Addr) (f : Str) : Sp := fun vs H Q _ => ∃ (a : Addr) (v : V), vs = [.ref a, v] ∧ OexC K C ∧ PySem.W.findIn K (.ref C) f = some none ∧ H a = some (exo a C none) ∧
  ∀ H', (∀ b o, b ≠ a → H b = some o → H' b = some o) → ExNew H H' a C [(f, v)] → Q .non H'
def spI2 (K : PySem.W.Frag) (C : Addr) (f g : Str) : Sp := fun vs H Q _ => ∃ (a : Addr) (v u : V), vs = [.ref a, v, u] ∧ OexC K C ∧ PySem.W.findIn K (.ref C) f = some none ∧ PySem.W.findIn K (.ref C) g = some none ∧ H a = some (exo a C none) ∧
  ∀ H', (∀ b o, b ≠ a → H b = some o → H' b = some o) → ExNew H H' a C [(g, u), (f, v)] → Q .non H'
/-- a class with an __init__ of its own that keeps sp -/
structure MkE (P : Program) (w : World) (K : PySem.W.Frag) (mg : Str → Option Value) (base : Heap) (x : Str) (C : Addr) (ps : List Str) (sp : Sp) : Prop where
  ex : ∃ fI fd, FnOk P w K mg base CX0 1 fI fd ps sp ∧ PySem.W.findIn K (.ref C) "__init__" = some (some (.ref fI)) ∧ PySem.W.typeIn K (.ref fI) = some (.type "function") ∧ Binds K fd ps []
  ox : OexC K C
  gC : mg x = some (.ref C)
/-- where the __init__ of the class at C stands -/
structure InitAt (K : PySem.W.Frag) (C : Addr) (qual : Str) (st : Stmt) : Prop where
  ex : ∃ fI fd, Fun K "__init__" qual st fI fd ∧ PySem.W.findIn K (.ref C) "__init__" = some (some (.ref fI)) ∧ PySem.W.typeIn K (.ref fI) = some (.type "function")
structure MkN (K : PySem.W.Frag) (mg : Str → Option Value) (x : Str) (C : Addr) : Prop where
  q : PySem.W.excIn K C [.type "ValueError", .type "Exception", .type "BaseException", .type "object"] "ValueError.__new__" = true
  kC : PySem.W.keepIn K (.ref C) = true
  exC : PySem.W.subIn K (.ref C) (.type "BaseException") = some true
  tyC : PySem.W.typeIn K (.ref C) = some (.type "type")
  gC : mg x = some (.ref C)
section
variable {X : Cx} {P : Program} {w : World} {K : PySem.W.Frag} {mg : Str → Option Value} {base : Heap} {x f g qual : Str} {C : Addr} {st : Stmt} {ps : List Str} {sp : Sp} {a b : Expr} {ta tb : TE} {p pos : Pos}
theorem mkE_of (I : InitAt K C qual st) (ox : OexC K C) (gC : mg x = some (.ref C))
    (hb : ∀ (kV doc pm : Value) (an : Option Addr) (cdv ct : Value) (us : List Value), us.length = ps.length → bindArgs (PySem.W.fnOf "__init__" qual (defArgs st) (defBody st) (defScope st) .none kV doc pm an cdv ct) ⟨us, []⟩ = pure (ps.zip us))
    (h : ∀ fI fd, Fun K "__init__" qual st fI fd → FnOk P w K mg base CX0 1 fI fd ps sp) : MkE P w K mg base x C ps sp := by
  obtain ⟨fI, fd, F, h1, h2⟩ := I.ex
  exact ⟨⟨fI, fd, h fI fd F, h1, h2, F.binds hb⟩, ox, gC⟩
theorem pmk_E (M : MkE X.prog X.w X.K X.mg X.base x C ps sp) (hg : Gl X x) (hr : Room 2 X.A) {es : List Expr} {ta : TA} (ha : PA X (a :: es) ta)
    (hdb : (x == ("__debug__" : Str)) = false := by decide) (he : starEach (a :: es) X.env = (false, eval a X.env) :: starEach es X.env := by rfl) (hpl : (backTo pos (starEach es X.env)).any (·.1) = false := by rfl) :
    PMk X (.Call (.Name x p) (a :: es) [] pos) (tMkO C sp [] ta) := by
  obtain ⟨⟨fI, fd, F, h1, h2, hb⟩, ox, gC⟩ := M
  exact pmk_oex (p := p) (pos := pos) ox h1 h2 F hr hb .nil pass0 hg gC ha hdb he hpl
theorem pmk_N (M : MkN X.K X.mg x C) (hg : Gl X x) (hdb : (x == ("__debug__" : Str)) = false := by decide) : PMk X (.Call (.Name x p) [] [] pos) (fun _ H Q => Q (.ref C) none H) :=
  pmk_bare F.excBase_ValueError M.q M.gC M.kC (raises_own M.exC M.tyC) hg hdb
/-- behind an __init__: what stood still stands, the exception at its new address -/
theorem exv_facts {H H' : Hp} {e e' d : Addr} {o : HO} {fs : List (Str × V)} (n : H e = none) (k : ∀ b u, b ≠ e → upd H e o b = some u → H' b = some u) (nd : upd H e o d = none) (de : d ≠ e) (n' : upd (L2.del H' e) d (.xd fs) e' = none) :
    H d = none ∧ Same H (upd (upd (L2.del H' e) d (.xd fs)) e' (exq e' (.ref C) (some d))) ∧ ExAt (upd (upd (L2.del H' e) d (.xd fs)) e' (exq e' (.ref C) (some d))) e' C fs := by
  have nd' : H d = none := by rw [upd_ne de] at nd; exact nd
  have s1 : Same H (upd (L2.del H' e) d (.xd fs)) := fun b u q => by
    rw [upd_ne (ne_of_none q nd'), L2.del_ne (ne_of_none q n)]
    exact k b u (ne_of_none q n) ((upd_ne (ne_of_none q n)).trans q)
  exact ⟨nd', fun b u q => (upd_ne (ne_of_none (s1 b u q) n')).trans (s1 b u q), new_exq n' upd_same⟩
/-- the store self.f = y of an __init__, the first -/
theorem ost_go1 {H : Hp} {a0 : Addr} {v : V} (h0 : H a0 = some (exo a0 C none)) {Q : Hp → Prop} (h : ∀ H', (∀ b o, b ≠ a0 → H b = some o → H' b = some o) → (∃ d, d ≠ a0 ∧ H d = none ∧ H' a0 = some (exo a0 C (some d)) ∧ H' d = some (exd d [(f, v)])) → Q H') :
    ∀ dx, H dx = none → dx ≠ a0 → Q (upd (upd H dx (exd dx [(f, v)])) a0 (exo a0 C (some dx))) := fun dx n ne =>
  h _ (fun b o hb e => by rw [upd_ne hb, upd_ne (ne_of_none e n)]; exact e) ⟨dx, ne, n, upd_same, by rw [upd_ne ne, upd_same]⟩
end
end L2

set_option Elab.async false
set_option linter.all false
set_option maxRecDepth 100000
set_option maxHeartbeats 4000000
namespace L2
open PySem PySem.Spec PyProof.Rows
/-- a def of the module that may be called: its promise, where it stands, how it binds -/
structure Cal (P : Program) (w : World) (K : PySem.W.Frag) (mg : Str → Option Value) (base : Heap) (CX : CXT) (k : Nat) (x : Str) (ps : List Str) (sp : Sp) : Prop where
  ex : ∃ f fd, FnOk P w K mg base CX k f fd ps sp ∧ mg x = some (.ref f) ∧ PySem.W.keepIn K (.ref f) = true ∧ Binds K fd ps []
/-- where a def of the text stands -/
structure DefAt (K : PySem.W.Frag) (mg : Str → Option Value) (x : Str) (st : Stmt) : Prop where
  ex : ∃ f fd, Fun K x x st f fd ∧ mg x = some (.ref f)
section
variable {P : Program} {w : World} {K : PySem.W.Frag} {mg : Str → Option Value} {base : Heap}
theorem defAt_mk {h : Heap} {x : Str} {st : Stmt} {f : Addr} {oc : Value} {od an : Option Addr} {osl : Array (Option Value)} {kV doc pm cdv ct : Value} (X : K.In h) (G : h.Ns mainGlobals mg)
    (a : PySem.W.nsIn K mainGlobals x = some (some (.ref f)))
    (l : K.lookup f = some ⟨oc, od, .func (PySem.W.fnOf x x (defArgs st) (defBody st) (defScope st) .none kV doc pm an cdv ct), osl⟩)
    (c : PySem.W.codeIn K cdv x = true) (k : PySem.W.keepIn K (.ref f) = true) : DefAt K mg x st := ⟨f, _, fun_mk (st := st) l c k, PySem.W.mg_of X G a⟩
theorem DefAt.cal {CX : CXT} {k : Nat} {x : Str} {st : Stmt} {ps : List Str} {sp : Sp} (D : DefAt K mg x st)
    (hb : ∀ (kV doc pm : Value) (an : Option Addr) (cdv ct : Value) (us : List Value), us.length = ps.length → bindArgs (PySem.W.fnOf x x (defArgs st) (defBody st) (defScope st) .none kV doc pm an cdv ct) ⟨us, []⟩ = pure (ps.zip us))
    (h : ∀ f fd, Fun K x x st f fd → FnOk P w K mg base CX k f fd ps sp) : Cal P w K mg base CX k x ps sp := by
  obtain ⟨f, fd, F, hm⟩ := D.ex
  exact ⟨f, fd, h f fd F, hm, F.kp, F.binds hb⟩
end
section
variable {X : Cx} {CX : CXT} {k : Nat} {ps : List Str} {sp : Sp} {E : XK} {x : Str} {p pos : Pos} {e : Expr} {es : List Expr} {t : TA}
def tCal (sp : Sp) (E : XK) (t : TA) : TE := fun σ H Q => t σ H fun vs H1 => sp vs H1 Q E
theorem pe_cal (C : Cal X.prog X.w X.K X.mg X.base CX k x ps sp) (hg : Gl X x) (hr : Room k X.A) (hx : Passes CX X E)
    (ha : PA X (e :: es) t) (hdb : (x == ("__debug__" : Str)) = false := by decide) (he : starEach (e :: es) X.env = (false, eval e X.env) :: starEach es X.env := by rfl) (hpl : (backTo pos (starEach es X.env)).any (·.1) = false := by rfl) :
    PE X (.Call (.Name x p) (e :: es) [] pos) (tCal sp E t) := by
  obtain ⟨f, fd, F, hm, hk, hb⟩ := C.ex
  have h := pe_call (dvs := []) (p := p) (pos := pos) F hr hg hm hk hb .nil hx ha hdb he hpl
  have e : tCall sp [] E t = tCal sp E t := by
    funext σ H Q
    unfold tCall tCal
    simp only [List.append_nil]
  rw [e] at h
  exact h
theorem pe_cal0 (C : Cal X.prog X.w X.K X.mg X.base CX k x ps sp) (hg : Gl X x) (hr : Room k X.A) (hx : Passes CX X E) (hdb : (x == ("__debug__" : Str)) = false := by decide) :
    PE X (.Call (.Name x p) [] [] pos) (tCal sp E tNil) := by
  obtain ⟨f, fd, F, hm, hk, hb⟩ := C.ex
  have h := pe_call0 (dvs := []) (p := p) (pos := pos) F hr hg hm hk hb .nil hx hdb
  have e : tCall sp [] E tNil = tCal sp E tNil := by
    funext σ H Q
    unfold tCall tCal
    simp only [List.append_nil]
  rw [e] at h
  exact h
end

/-! what the readings come to -/
theorem rEq_int {i j : Int} {H : Hp} {Q : VK} : rEq (.int i) (.int j) H Q ↔ Q (.bl (decide (i = j))) H := by
  unfold rEq
  simp [scal]
theorem rEq_str {i j : Str} {H : Hp} {Q : VK} : rEq (.str i) (.str j) H Q ↔ Q (.bl (decide (i = j))) H := by
  unfold rEq
  simp [scal]
theorem rEq_bl {i j : Bool} {H : Hp} {Q : VK} : rEq (.bl i) (.bl j) H Q ↔ Q (.bl (decide (i = j))) H := by
  unfold rEq
  simp [scal]
theorem rNe_int {i j : Int} {H : Hp} {Q : VK} : rNe (.int i) (.int j) H Q ↔ Q (.bl (!decide (i = j))) H := by
  unfold rNe
  simp [scal]
theorem rNe_str {i j : Str} {H : Hp} {Q : VK} : rNe (.str i) (.str j) H Q ↔ Q (.bl (!decide (i = j))) H := by
  unfold rNe
  simp [scal]
theorem rNe_bl {i j : Bool} {H : Hp} {Q : VK} : rNe (.bl i) (.bl j) H Q ↔ Q (.bl (!decide (i = j))) H := by
  unfold rNe
  simp [scal]
theorem atI_0 {α : Type} {a : α} {l : List α} : atI (a :: l) (0 : Int) = some a := atI_nat (j := 0) rfl
theorem atI_1 {α : Type} {a b : α} {l : List α} : atI (a :: b :: l) (1 : Int) = some b := atI_nat (j := 1) rfl
theorem atI_2 {α : Type} {a b c : α} {l : List α} : atI (a :: b :: c :: l) (2 : Int) = some c := atI_nat (j := 2) rfl
theorem atI_3 {α : Type} {a b c d : α} {l : List α} : atI (a :: b :: c :: d :: l) (3 : Int) = some d := atI_nat (j := 3) rfl
theorem cxOf_K {CX : CXT} {P : Program} {w : World} {K : PySem.W.Frag} {mg : Str → Option Value} {base : Heap} {N : List Str} {q : Str} {sc : Scope} {f : Addr} {cd : Value} {A : Around} {o : List Env} {s : Shared} {H : Hp} {E : XK} : (cxOf CX P w K mg base N q sc f cd A o s H E).K = K := rfl
theorem nox_K {X : Cx} : X.nox.K = X.K := rfl
/-- o[i] = v, the list at hand -/
theorem set_at {p : Addr} {xs : List V} {k : Nat} {v : V} {H : Hp} {Q : Hp → Prop} (h : H p = some (.lst xs)) (hk : k < xs.length) (q : Q (upd H p (.lst (xs.set k v)))) : rSetL (.ref p) (.int (k : Int)) v H Q :=
  ⟨p, xs, k, k, rfl, rfl, h, by unfold ixN; rw [if_pos (by omega), if_pos (by omega)]; simp, q⟩
section
variable {p : Addr} {a b c d v : V} {l : List V} {H : Hp} {Q : Hp → Prop}
theorem set_0 (h : H p = some (.lst (a :: l))) (q : Q (upd H p (.lst (v :: l)))) : rSetL (.ref p) (.int 0) v H Q := set_at (k := 0) h (by simp) q
theorem set_1 (h : H p = some (.lst (a :: b :: l))) (q : Q (upd H p (.lst (a :: v :: l)))) : rSetL (.ref p) (.int 1) v H Q := set_at (k := 1) h (by simp) q
theorem set_2 (h : H p = some (.lst (a :: b :: c :: l))) (q : Q (upd H p (.lst (a :: b :: v :: l)))) : rSetL (.ref p) (.int 2) v H Q := set_at (k := 2) h (by simp) q
theorem set_3 (h : H p = some (.lst (a :: b :: c :: d :: l))) (q : Q (upd H p (.lst (a :: b :: c :: v :: l)))) : rSetL (.ref p) (.int 3) v H Q := set_at (k := 3) h (by simp) q
end
theorem atI_int {α : Type} {xs : List α} {z : Int} {v : α} (h0 : 0 ≤ z) (h : xs[z.toNat]? = some v) : atI xs z = some v := by
  have e : z = (z.toNat : Int) := by omega
  rw [e]
  exact atI_nat h
/-! a def with defaults (no keyword-only ones) -/
structure DefD (K : PySem.W.Frag) (mg : Str → Option Value) (x : Str) (st : Stmt) (dvs : List V) : Prop where
  ex : ∃ f fd, FunD K x x (defArgs st) (defBody st) (defScope st) dvs [] f fd ∧ mg x = some (.ref f)
structure CalD (P : Program) (w : World) (K : PySem.W.Frag) (mg : Str → Option Value) (base : Heap) (CX : CXT) (k : Nat) (x : Str) (ps : List Str) (dvs : List V) (sp : Sp) (kw : List (List Str × (List V → List V → List V))) : Prop where
  ex : ∃ f fd, FnOk P w K mg base CX k f fd ps sp ∧ mg x = some (.ref f) ∧ PySem.W.keepIn K (.ref f) = true ∧ (∀ j, j ≤ dvs.length → ∃ ds, Vals (dvs.drop j) ds ∧ Binds K fd ps ds) ∧ ∀ q ∈ kw, ∃ g, KBn K fd ps 1 q.1 g q.2
theorem defD_mk {K : PySem.W.Frag} {mg : Str → Option Value} {h : Heap} {x : Str} {st : Stmt} {f T : Addr} {oc : Value} {od an : Option Addr} {osl : Array (Option Value)} {kV doc pm cdv ct : Value} {o : Obj} {its : List Value} {n : Nat} {dvs : List V} (X : K.In h) (G : h.Ns mainGlobals mg)
    (a : PySem.W.nsIn K mainGlobals x = some (some (.ref f)))
    (l : K.lookup f = some ⟨oc, od, .func (PySem.W.fnOf x x (defArgs st) (defBody st) (defScope st) (.ref T) kV doc pm an cdv ct), osl⟩)
    (lT : K.lookup T = some o) (c : PySem.W.codeIn K cdv x = true) (k : PySem.W.keepIn K (.ref f) = true) (oT : o.data = .seq its.toArray n) (hd : dvs ≠ []) (r : Vals dvs its) : DefD K mg x st dvs :=
  ⟨f, _, ⟨⟨oc, od, .ref T, kV, doc, pm, an, cdv, ct, osl, rfl, l, c, .inr ⟨hd, T, o, its, n, rfl, lT, oT, r⟩, .inl rfl⟩, k⟩, PySem.W.mg_of X G a⟩
section
variable {X : Cx} {CX : CXT} {k : Nat} {ps : List Str} {sp : Sp} {E : XK} {x : Str} {p pos : Pos} {e : Expr} {es : List Expr} {t : TA} {dvs : List V} {kw : List (List Str × (List V → List V → List V))}
theorem pe_calD (C : CalD X.prog X.w X.K X.mg X.base CX k x ps dvs sp kw) (j : Nat) (hj : j ≤ dvs.length) (hg : Gl X x) (hr : Room k X.A) (hx : Passes CX X E)
    (ha : PA X (e :: es) t) (hdb : (x == ("__debug__" : Str)) = false := by decide) (he : starEach (e :: es) X.env = (false, eval e X.env) :: starEach es X.env := by rfl) (hpl : (backTo pos (starEach es X.env)).any (·.1) = false := by rfl) :
    PE X (.Call (.Name x p) (e :: es) [] pos) (tCall sp (dvs.drop j) E t) := by
  obtain ⟨f, fd, F, hm, hk, hb, _⟩ := C.ex
  obtain ⟨ds, hd, hb⟩ := hb j hj
  exact pe_call (p := p) (pos := pos) F hr hg hm hk hb hd hx ha hdb he hpl
theorem pe_calK {kws : List Keyword} {ks : List Str} {gV : List V → List V → List V} {tk : TA} (C : CalD X.prog X.w X.K X.mg X.base CX k x ps dvs sp kw) (hq : (ks, gV) ∈ kw) (hg : Gl X x) (hr : Room k X.A) (hx : Passes CX X E)
    (ha : PA X (e :: es) t) (hkw : PK X kws tk) (hall : (backToKw pos (keywordEach kws X.env)).all (·.1.isSome) = true := by rfl) (hks : (backToKw pos (keywordEach kws X.env)).filterMap (·.1) = ks := by rfl)
    (hdb : (x == ("__debug__" : Str)) = false := by decide) (he : starEach (e :: es) X.env = (false, eval e X.env) :: starEach es X.env := by rfl)
    (hpl : ((backTo pos (starEach (e :: es) X.env)).any (·.1) || (backToKw pos (keywordEach kws X.env)).any (·.1.isNone)) = false := by rfl) :
    PE X (.Call (.Name x p) (e :: es) kws pos) (tCallN 1 ks.length sp gV E t tk) := by
  obtain ⟨f, fd, F, hm, hk, _, hb⟩ := C.ex
  obtain ⟨g, hb⟩ := hb _ hq
  exact pe_callN (p := p) (pos := pos) F hr hg hm hk hb hx ha hkw hall hks hdb he hpl
end
/-- a for behind what it walks -/
def Lp (g : TG) (tb : TS) (D : Ends) (σ : St) (J : It) (H1 : Hp) : Prop := ∃ W : Nat → Nat → St → Hp → Prop, (∃ m, W 0 m σ H1) ∧ ∀ i m σ H, W i m σ H →
  (J.stop i H ∧ D.nx σ H) ∨ (J.go i H ∧ ∃ N : St → Hp → Prop, (∀ σ' H', N σ' H' → ∃ m', m' < m ∧ W (i + 1) m' σ' H') ∧ ∀ x H', J.yld i H x H' → g x σ H' fun σ2 H2 => tb { D with nx := N, ct := N, bk := D.nx } σ2 H2)
theorem tFor_eq {wi : TI} {g : TG} {tb : TS} {D : Ends} {σ : St} {H : Hp} : tFor wi g tb D σ H = wi σ H fun J H1 => Lp g tb D σ J H1 := rfl
/-- a list comprehension behind what it walks -/
def LpC (g : TG) (tt : TT) (te : TE) (vs : List Nat) (σ : St) (Q : VK) (J : It) (H1 : Hp) : Prop := ∀ D, H1 D = none → ∃ W : Nat → Nat → Hp → Prop, (∃ m, W 0 m (upd H1 D (.lst []))) ∧ ∀ i m H, W i m H →
  (J.stop i H ∧ Q (.ref D) H) ∨ (J.go i H ∧ ∃ Nx : Hp → Prop, (∀ H', Nx H' → ∃ m', m' < m ∧ W (i + 1) m' H') ∧ ∀ x H', J.yld i H x H' → g x (wipe σ vs) H' fun σ2 H2 => wipe σ2 vs = wipe σ vs ∧ tt σ2 H2 fun b H3 =>
    if b = true then te σ2 H3 fun y H4 => ∃ acc, H4 D = some (.lst acc) ∧ acc.length < sizeLine ∧ Nx (upd H4 D (.lst (acc ++ [y]))) else Nx H3)
theorem tLc_eq {wi : TI} {g : TG} {tt : TT} {te : TE} {vs : List Nat} {σ : St} {H : Hp} {Q : VK} : tLc wi g tt te vs σ H Q = wi σ H fun J H1 => LpC g tt te vs σ Q J H1 := rfl
end L2

set_option Elab.async false
set_option linter.all false
set_option maxRecDepth 100000
set_option maxHeartbeats 4000000
namespace K75
open PySem L2
def top (i : Nat) : Stmt := PySem.Challenge.pw_knownguards_k75_whole_errors_and_whole_n.main.body.getD i (.Pass ⟨0, 0, 0, 0⟩)
abbrev sWhole : Stmt := top 1
abbrev sSeq : Stmt := top 2
abbrev sHand : Stmt := top 37
abbrev sMixed : Stmt := top 38
abbrev sTake : Stmt := top 39
abbrev sIsW : Stmt := top 40
abbrev sKa : Stmt := top 41
abbrev sKb : Stmt := top 42
abbrev sKc : Stmt := top 43
abbrev sMa : Stmt := top 44
abbrev sMb : Stmt := top 45
abbrev sMc : Stmt := top 46
abbrev sKept : Stmt := top 47
abbrev sRaised : Stmt := top 48
abbrev sTruth : Stmt := top 49
abbrev sWholes : Stmt := top 50
abbrev sLaw : Stmt := top 51
/-! what of the names the top leaves as they are -/
structure Bt (mg : Str → Option Value) : Prop where
  len : mg "len" = none
  int : mg "int" = none
  abs : mg "abs" = none
  str : mg "str" = none
  bool : mg "bool" = none
  list : mg "list" = none
  tuple : mg "tuple" = none
  range : mg "range" = none
  isi : mg "isinstance" = none
  ve : mg "ValueError" = none
/-! ### the hand -/
def But (p : Addr) (H H' : Hp) : Prop := ∀ b o, b ≠ p → H b = some o → H' b = some o
theorem But.trans {p : Addr} {H H1 H2 : Hp} (a : But p H H1) (b : But p H1 H2) : But p H H2 := fun c o n e => b c o n (a c o n e)
theorem But.refl (p : Addr) (H : Hp) : But p H H := fun _ _ _ e => e
theorem But.of {p : Addr} {H H' : Hp} (s : Same H H') : But p H H' := fun b o _ e => s b o e
structure HandS (H : Hp) (p c : Addr) (cs : List Int) (i big tot : Int) : Prop where
  hp : H p = some (.lst [.ref c, .int i, .int big, .int tot])
  hc : H c = some (.lst (cs.map V.int))
  nn : ∀ z ∈ cs, 0 ≤ z
  ln : cs.length ≤ 63
  b0 : 0 ≤ big
  i0 : 0 ≤ i
def HandAt (H : Hp) (p : Addr) : Prop := ∃ c cs i big tot, HandS H p c cs i big tot
theorem HandS.ne {H : Hp} {p c : Addr} {cs : List Int} {i big tot : Int} (h : HandS H p c cs i big tot) : c ≠ p := fun e => by
  have h1 := h.hc
  rw [e, h.hp] at h1
  have h2 := HO.lst.inj (Option.some.inj h1)
  cases cs with
  | nil => cases h2
  | cons a r =>
    rw [List.map_cons] at h2
    cases (List.cons.inj h2).1
theorem HandS.put {H : Hp} {p c : Addr} {cs : List Int} {i j big b2 tot t2 : Int} (h : HandS H p c cs i big tot) (hb : 0 ≤ b2) (hj : 0 ≤ j) : HandS (upd H p (.lst [.ref c, .int j, .int b2, .int t2])) p c cs j b2 t2 :=
  ⟨upd_same, by rw [upd_ne h.ne]; exact h.hc, h.nn, h.ln, hb, hj⟩
theorem But.upd {H : Hp} {p : Addr} {o : HO} : But p H (upd H p o) := fun b u n e => by rw [upd_ne n]; exact e
theorem HandAt.same {H H' : Hp} {p : Addr} (h : HandAt H p) (s : Same H H') : HandAt H' p := by
  obtain ⟨c, cs, i, big, tot, h⟩ := h
  exact ⟨c, cs, i, big, tot, s _ _ h.hp, s _ _ h.hc, h.nn, h.ln, h.b0, h.i0⟩
/-! ### promises -/
def spHand (K : PySem.W.Frag) : Sp := fun vs H Q _ => ∃ (a : Addr) (ns : List Int), vs = [.ref a] ∧ SqL K H a (ns.map V.int) ∧ ns.length ≤ 63 ∧ ∀ p H', HandAt H' p → H p = none → Same H H' → Q (.ref p) H'
def spMixed : Sp := fun vs H Q _ => ∃ (a b : Int), vs = [.int a, .int b] ∧ ∀ r : Int, Q (.int r) H
def spTake : Sp := fun vs H Q _ => ∃ (p : Addr) (m : Int), vs = [.ref p, .int m] ∧ 0 < m ∧ m < 2 ^ 64 ∧ HandAt H p ∧ ∀ (r : Int) H', 0 ≤ r → r < m → HandAt H' p → But p H H' → Q (.int r) H'
section
variable {P : Program} {w : World} {K : PySem.W.Frag} {mg : Str → Option Value} {base : Heap}
theorem take_abs {ns : List Int} {i : Nat} {z : Int} (h : ns[i]? = some z) : ((ns.take (i + 1)).map fun x : Int => if x < 0 then -x else x) = ((ns.take i).map fun x : Int => if x < 0 then -x else x) ++ [if z < 0 then -z else z] := by
  rw [List.take_add_one, h]
  simp
theorem item_int {ns : List Int} {i : Nat} {y : V} (hi : (ns.map V.int)[i]? = some y) : ∃ z, ns[i]? = some z ∧ y = V.int z := by
  rw [List.getElem?_map] at hi
  cases e : ns[i]? with
  | none => rw [e] at hi; cases hi
  | some z => rw [e] at hi; exact ⟨z, rfl, (Option.some.inj hi).symm⟩
end


set_option Elab.async false
set_option linter.all false
set_option maxRecDepth 100000
set_option maxHeartbeats 4000000
open PySem L2
local macro_rules | `(tactic| walk_at "rd") => `(tactic| simp only [L2.start, tSeq, tAsg, gName, tRet, tRetN, tVar, tC, tOp, tUn, rU, tCB, tCons, tNil, tNext, tIfS, tTest, tB, tNot, tNotV, tAnd, tOr, tAndV, tOrV, tIf, tDrop, rI0, rI, CMul, CDiv, CPow, tLst, tTup, tCal, tCall, gSub, rIsi, rIsiT, tOxf, rIn, tFor_eq, tLc_eq, tYes, wipe, tSl, tNoPart, tPart, rSlA, iTup, iList, iRng1, iRng2, tDNewK, tCallN, rEq_int, rEq_str, rEq_bl, rNe_int, rNe_str, rNe_bl, atI_0, atI_1, atI_2, atI_3, cxOf_K, nox_K, upd_upd, List.length_map, rIxL, rIxT, tBM, tBM0, rAppend,
  List.length_cons, List.length_nil, List.replicate, List.map_cons, List.map_nil, List.cons_append, List.nil_append, List.getElem?_cons_zero, List.getElem?_cons_succ, List.set_cons_zero, List.set_cons_succ,
  Option.some.injEq, V.int.injEq, V.bl.injEq, V.ref.injEq, V.str.injEq, V.ty.injEq, exists_eq_left', exists_eq_left, exists_and_left, exists_eq', and_assoc, List.cons.injEq, and_true, true_and, List.cons_ne_nil, and_false, or_false, false_or, false_and, exists_false, reduceCtorEq,
  Nat.sub_zero, Nat.zero_add, Nat.reduceAdd, Nat.reduceSub, Nat.add_zero, Bool.not_eq_true', decide_eq_true_eq, decide_eq_false_iff_not, Bool.not_true, Bool.not_false, Bool.false_eq_true, if_true, if_false, ite_true, ite_false, Int.reduceNeg, Int.reducePow, Int.reduceLT, Int.reduceLE, or_true, true_or])
local macro_rules | `(tactic| walk_at "at") => `(tactic| first | assumption | exact upd_same | (rw [upd_ne (by assumption)]; first | assumption | exact upd_same))
local macro_rules | `(tactic| walk_at "lk") => `(tactic| first
  | refine ⟨_, SqL.of (by walk_at "at"), ?_⟩
  | refine ⟨_, SqT.of (by walk_at "at"), ?_⟩
  | refine ⟨_, Or.inl (SqL.of (by walk_at "at")), ?_⟩
  | refine ⟨_, Or.inr (SqT.of (by walk_at "at")), ?_⟩
  | refine set_0 (by walk_at "at") ?_ | refine set_1 (by walk_at "at") ?_ | refine set_2 (by walk_at "at") ?_ | refine set_3 (by walk_at "at") ?_)
local macro_rules | `(tactic| walk_at "go") => `(tactic| repeat (first | walk_at "lk" | walk_at "rd"))

section
variable {P : Program} {w : World} {K : PySem.W.Frag} {mg : Str → Option Value} {base : Heap}
theorem scMixed : FnScope ["_law_number", "_law_turn", "_law_once", "_law_twice"] ["_law_number", "_law_turn"] (defScope sMixed) := ⟨rfl, rfl, rfl, by decide +kernel, rfl, by decide +kernel, by decide +kernel⟩
theorem ok_mixed (D : DefAt K mg "_law_mixed" sMixed) (B : Bt mg) : Cal P w K mg base CX0 1 "_law_mixed" ["_law_number", "_law_turn"] spMixed := by
  refine D.cal (fun _ _ _ _ _ _ us hl => match us, hl with | [_, _], _ => rfl) fun f fd F => ?_
  refine F.ok scMixed (fun vs H Q E h => ?_) (fun cdv A outer s H vs Q E hr h => ?_)
  · obtain ⟨a, b, rfl, _⟩ := h
    rfl
  · obtain ⟨a, b, rfl, k⟩ := h
    refine ⟨_, (pss_cons (ps_set (i := 2) scMixed.nd rfl (Or.inl rfl) (pe_op op_mod (pe_callTy call_int1 (by rfl) B.int (by decide +kernel) (pa_cons (pe_op op_add (pe_op op_add (pe_op op_mul (pv 0) pe_int) (pe_op op_mul (pv 1) pe_int)) pe_int) pa_nil)) pe_int))
  (pss_cons (ps_set (i := 3) scMixed.nd rfl (Or.inl rfl) (pe_op op_mod (pe_callTy call_int1 (by rfl) B.int (by decide +kernel) (pa_cons (pe_op op_add (pe_op op_add (pe_op op_mul (pv 2) (pv 2)) (pe_op op_mul (pv 1) pe_int)) (pe_op op_fdiv (pv 2) pe_int)) pa_nil)) pe_int))
  (pss_one (ps_ret (pe_op op_fdiv (pe_callTy call_int1 (by rfl) B.int (by decide +kernel) (pa_cons (pe_op op_mod (pe_callTy call_int1 (by rfl) B.int (by decide +kernel) (pa_cons (pe_op op_add (pe_op op_mul (pv 3) pe_int) (pe_op op_fdiv (pv 2) pe_int)) pa_nil)) pe_int) pa_nil)) pe_int))))), ?_⟩
    walk_at "rd"
    exact ⟨by omega, k _⟩
theorem scHand : FnScope ["_law_script", "_law_total", "_law_cells", "_law_cell"] ["_law_script"] (defScope sHand) := ⟨rfl, rfl, rfl, by decide +kernel, rfl, by decide +kernel, by decide +kernel⟩
theorem ok_hand (D : DefAt K mg "_law_hand" sHand) (B : Bt mg) : Cal P w K mg base CX0 1 "_law_hand" ["_law_script"] (spHand K) := by
  refine D.cal (fun _ _ _ _ _ _ us hl => match us, hl with | [_], _ => rfl) fun f fd F => ?_
  refine F.ok scHand (fun vs H Q E h => ?_) (fun cdv A outer s H vs Q E hr h => ?_)
  · obtain ⟨a, ns, rfl, _⟩ := h
    rfl
  · obtain ⟨a, ns, rfl, hS, hlen, k⟩ := h
    refine ⟨_, (pss_cons (ps_set (i := 1) scHand.nd rfl (Or.inl rfl) (pe_op op_add (pe_callB call_len_seq (by rfl) B.len PySem.boot_len (pa_cons (pv 0) pa_nil)) pe_int))
  (pss_cons (ps_set (i := 2) scHand.nd rfl (Or.inl rfl) (pe_lst pa_nil))
  (pss_cons (ps_for PassesOwn.never rfl (pi_list (pv 0)) (pg_name (i := 3) scHand.nd rfl (Or.inl rfl)) (pss_cons (ps_set (i := 1) scHand.nd rfl (Or.inl rfl) (pe_op op_mod (pe_callTy call_int1 (by rfl) B.int (by decide +kernel) (pa_cons (pe_op op_add (pe_op op_mul (pv 1) pe_int) (pe_callTy call_int1 (by rfl) B.int (by decide +kernel) (pa_cons (pv 3) pa_nil))) pa_nil)) pe_int))
  (pss_one (ps_expr (pe_bm PySem.F.plainAttrs_list PySem.F.slot_list_append PySem.F.type_list_append mt_append (pv 2) (pa_cons (pe_callB call_abs (by rfl) B.abs (by decide +kernel) (pa_cons (pe_callTy call_int1 (by rfl) B.int (by decide +kernel) (pa_cons (pv 3) pa_nil)) pa_nil)) pa_nil))))))
  (pss_one (ps_ret (pe_lst (pa_cons (pv 2) (pa_cons pe_int (pa_cons pe_int (pa_cons (pv 1) pa_nil)))))))))), ?_⟩
    walk_at "rd"
    refine ⟨_, .inl hS, Nat.zero_le _, fun c hc => ?_⟩
    have sc : Same H (upd H c (.lst [])) := fun b o e => by rw [upd_ne (ne_of_none e hc)]; exact e
    walk_at "rd"
    refine ⟨⟨_, sc.seq hS⟩, for_list (K := K) (a := a) (xs := ns.map V.int) (fun i σ H2 => ∃ (t : Int) (v : Option V), σ = [some (.ref a), some (.int t), some (.ref c), v] ∧ Same H H2 ∧ H2 c = some (.lst (((ns.take i).map fun x : Int => if x < 0 then -x else x).map V.int)))
      ⟨_, none, rfl, sc, upd_same⟩ (fun i σ H2 _ ⟨_, _, _, s2, _⟩ => s2.seq hS) ?_ ?_⟩
    · rintro i y σ H2 hi ⟨t, v, rfl, s2, h2⟩
      obtain ⟨z, hz, rfl⟩ := item_int hi
      have hil : i < ns.length := (List.getElem?_eq_some_iff.mp hz).1
      walk_at "rd"
      refine ⟨.inl ⟨rfl, _, SqL.of h2⟩, _, h2, ?_, fun b o e => ?_, ?_⟩
      · rw [List.length_map, List.length_map, List.length_take]
        exact Nat.lt_of_le_of_lt (show min i ns.length ≤ 63 by omega) (by decide)
      · rw [upd_ne (ne_of_none e hc)]
        exact s2 b o e
      · rw [upd_same, take_abs hz, List.map_append]
        rfl
    · rintro σ H2 ⟨t, v, rfl, s2, h2⟩
      walk_at "rd"
      refine ⟨by decide, fun p hp => ?_⟩
      have sp : Same H (upd H2 p (.lst [.ref c, .int 0, .int 0, .int t])) := fun b o e => by rw [upd_ne (ne_of_none (s2 b o e) hp)]; exact s2 b o e
      refine k p _ ⟨c, _, 0, 0, t, upd_same, by rw [upd_ne (ne_of_none h2 hp)]; exact h2, ?_, ?_, Int.le_refl 0, Int.le_refl 0⟩ (s2.free hp) sp
      · intro z hz
        obtain ⟨x, _, rfl⟩ := List.mem_map.mp hz
        split <;> omega
      · rw [List.length_map, List.length_take]
        omega
theorem scTake : FnScope ["_law_hand_here", "_law_many", "_law_cell", "_law_rest"] ["_law_hand_here", "_law_many"] (defScope sTake) := ⟨rfl, rfl, rfl, by decide +kernel, rfl, by decide +kernel, by decide +kernel⟩
theorem ok_take (D : DefAt K mg "_law_take" sTake) (B : Bt mg) (C_mixed : Cal P w K mg base CX0 1 "_law_mixed" ["_law_number", "_law_turn"] spMixed) : Cal P w K mg base CX0 2 "_law_take" ["_law_hand_here", "_law_many"] spTake := by
  refine D.cal (fun _ _ _ _ _ _ us hl => match us, hl with | [_, _], _ => rfl) fun f fd F => ?_
  refine F.ok scTake (fun vs H Q E h => ?_) (fun cdv A outer s H vs Q E HR h => ?_)
  · obtain ⟨p, m, rfl, _⟩ := h
    rfl
  · obtain ⟨p, m, rfl, m0, m1, ⟨c, cs, i, big, tot, hh⟩, k⟩ := h
    refine ⟨_, (pss_cons (ps_if (PW.pt (pw_and (pt_cmpR op_eq (pe_ix ix_list (pv 0) pe_int (fun _ _ => rfl)) pe_int (nomark _)) (pw_and1 (pt_cmpR op_lt (pe_ix ix_list (pv 0) pe_int (fun _ _ => rfl)) (pe_callB call_len_seq (by rfl) B.len PySem.boot_len (pa_cons (pe_ix ix_list (pv 0) pe_int (fun _ _ => rfl)) pa_nil)) (nomark _))))) (pss_cons (ps_set (i := 2) scTake.nd rfl (Or.inl rfl) (pe_ix ix_list (pe_ix ix_list (pv 0) pe_int (fun _ _ => rfl)) (pe_ix ix_list (pv 0) pe_int (fun _ _ => rfl)) (fun _ _ => rfl)))
  (pss_cons (ps_asg (pe_op op_add (pe_ix ix_list (pv 0) pe_int (fun _ _ => rfl)) pe_int) (pg_sub (pv 0) pe_int set_list))
  (pss_cons (ps_if (pt_cmpR op_lt (pv 2) (pe_op op_pow pe_int pe_int) (nomark _)) (pss_one (ps_ret (pe_op op_mod (pe_callTy call_int1 (by rfl) B.int (by decide +kernel) (pa_cons (pe_cal C_mixed (by rfl) HR pass0 (pa_cons (pe_op op_mod (pe_callTy call_int1 (by rfl) B.int (by decide +kernel) (pa_cons (pv 2) pa_nil)) pe_int) (pa_cons (pe_ix ix_list (pv 0) pe_int (fun _ _ => rfl)) pa_nil))) pa_nil)) (pv 1)))) pss_nil)
  (pss_one (ps_asg (pv 2) (pg_sub (pv 0) pe_int set_list)))))) pss_nil)
  (pss_cons (ps_if (pt_cmpR op_gt (pe_ix ix_list (pv 0) pe_int (fun _ _ => rfl)) pe_int (nomark _)) (pss_cons (ps_set (i := 3) scTake.nd rfl (Or.inl rfl) (pe_ix ix_list (pv 0) pe_int (fun _ _ => rfl)))
  (pss_cons (ps_asg (pe_op op_fdivW (pe_callTy call_int1 (by rfl) B.int (by decide +kernel) (pa_cons (pv 3) pa_nil)) (pv 1)) (pg_sub (pv 0) pe_int set_list))
  (pss_one (ps_ret (pe_op op_mod (pe_callTy call_int1 (by rfl) B.int (by decide +kernel) (pa_cons (pv 3) pa_nil)) (pv 1)))))) pss_nil)
  (pss_cons (ps_asg (pe_op op_mod (pe_callTy call_int1 (by rfl) B.int (by decide +kernel) (pa_cons (pe_op op_add (pe_ix ix_list (pv 0) pe_int (fun _ _ => rfl)) pe_int) pa_nil)) pe_int) (pg_sub (pv 0) pe_int set_list))
  (pss_one (ps_ret (pe_op op_mod (pe_callTy call_int1 (by rfl) B.int (by decide +kernel) (pa_cons (pe_cal C_mixed (by rfl) HR pass0 (pa_cons (pe_ix ix_list (pv 0) pe_int (fun _ _ => rfl)) (pa_cons (pe_ix ix_list (pv 0) pe_int (fun _ _ => rfl)) pa_nil))) pa_nil)) (pv 1))))))), ?_⟩
    have hp := hh.hp
    have hc := hh.hc
    walk_at "go"
    have i0 := hh.i0
    have fin : ∀ (r i' b' t' : Int), 0 ≤ i' → 0 ≤ b' → Q (.int (r % m)) (upd H p (.lst [.ref c, .int i', .int b', .int t'])) := fun r i' b' t' h1 h2 =>
      k _ _ (Int.emod_nonneg _ (by omega)) (Int.emod_lt_of_pos _ m0) ⟨c, cs, _, _, _, hh.put h2 h1⟩ But.upd
    have mx : ∀ (a b : Int) (H' : Hp) (Q' : VK), (∀ r : Int, Q' (.int r) H') → spMixed [.int a, .int b] H' Q' E0 := fun a b H' Q' q => ⟨a, b, rfl, q⟩
    have wd : ∀ z : Int, CDivW z m := fun z => wide_div m0 (b := 64) (by have : ((m.natAbs : Nat) : Int) < 2 ^ 64 := by omega
                                                                         exact_mod_cast this) (by decide) (by decide)
    have end2 : ∀ (i' b' : Int), 0 ≤ i' → 0 ≤ b' → True := fun _ _ _ _ => trivial
    by_cases hb : big = 0
    · rw [if_pos hb]
      subst hb
      walk_at "go"
      by_cases hi : i < cs.length
      · rw [if_pos (by omega)]
        obtain ⟨z, hz⟩ : ∃ z, cs[i.toNat]? = some z := ⟨_, List.getElem?_eq_getElem (by omega)⟩
        have z0 : 0 ≤ z := hh.nn z (List.mem_of_getElem? hz)
        have hzz : atI (cs.map V.int) i = some (.int z) := atI_int i0 (by rw [List.getElem?_map, hz]; rfl)
        walk_at "go"
        refine ⟨_, hzz, ?_⟩
        walk_at "go"
        refine ⟨by decide, ?_⟩
        refine ite2 (fun _ => ?_) (fun _ => ?_)
        · walk_at "go"
          exact mx _ _ _ _ (fun r => .inl ⟨r, rfl, m0, fin _ _ _ _ (by omega) (Int.le_refl 0)⟩)
        · walk_at "go"
          refine ite2 (fun _ => ?_) (fun _ => ?_)
          · walk_at "go"
            refine ⟨wd _, ?_⟩
            walk_at "go"
            exact ⟨m0, fin _ _ _ _ (by omega) (Int.ediv_nonneg z0 (by omega))⟩
          · walk_at "go"
            exact mx _ _ _ _ (fun r => .inl ⟨r, rfl, m0, fin _ _ _ _ (by omega) z0⟩)
      · rw [if_neg (by omega)]
        walk_at "go"
        exact mx _ _ _ _ (fun r => .inl ⟨r, rfl, m0, fin _ _ _ _ i0 (Int.le_refl 0)⟩)
    · have b0 := hh.b0
      rw [if_neg hb]
      walk_at "go"
      refine ite2 (fun _ => ?_) (fun _ => ?_)
      · walk_at "go"
        refine ⟨wd _, ?_⟩
        walk_at "go"
        exact ⟨m0, fin _ _ _ _ i0 (Int.ediv_nonneg b0 (by omega))⟩
      · walk_at "go"
        exact mx _ _ _ _ (fun r => .inl ⟨r, rfl, m0, fin _ _ _ _ i0 b0⟩)
end


set_option Elab.async false
set_option linter.all false
set_option maxRecDepth 100000
set_option maxHeartbeats 4000000
open PySem L2


/-- a thing that is no int -/
structure Oth (K : PySem.W.Frag) (H : Hp) (x : V) : Prop where
  ex : ∃ t b1 b2, TyX K H x (.type t) ∧ kitB t "int" = some b1 ∧ kitB t "bool" = some b2 ∧ (!b1 || b2) = true
def okLo (lo : V) (z : Int) : Bool := match lo with | .int l => decide (l ≤ z) | _ => true
def okHi (hi : V) (z : Int) : Bool := match hi with | .int l => decide (z ≤ l) | _ => true
def Bd (v : V) : Prop := v = .non ∨ ∃ l, v = .int l
def spWhole (K : PySem.W.Frag) : Sp := fun vs H Q _ => ∃ x lo hi, vs = [x, lo, hi] ∧ Bd lo ∧ Bd hi ∧ ((∃ z, x = .int z ∧ Q (.bl (okLo lo z && okHi hi z)) H) ∨ (Oth K H x ∧ Q (.bl false) H))
def spIsW (K : PySem.W.Frag) : Sp := fun vs H Q _ => ∃ x, vs = [x] ∧ ((∃ z, x = .int z ∧ Q (.bl true) H) ∨ (Oth K H x ∧ Q (.bl false) H))
def spSeq (K : PySem.W.Frag) : Sp := fun vs H Q _ => ∃ x t b1 b2, vs = [x] ∧ TyX K H x (.type t) ∧ kitB t "list" = some b1 ∧ kitB t "tuple" = some b2 ∧ ∀ p o, H p = none → Q (.bl (b1 || b2)) (upd H p o)
def spTruth : Sp := fun vs H Q _ => ∃ a b, vs = [.bl a, .bl b] ∧ Q (.bl (a == b)) H
theorem iteF' {A B : Prop} (h : B) : if true = false then A else B := by
  rw [if_neg (by decide)]
  exact h
theorem TyX.upd {K : PySem.W.Frag} {H : Hp} {x : V} {t : Value} {p : Addr} {o : HO} (h : TyX K H x t) (hp : H p = none) : TyX K (upd H p o) x t := by
  have k : ∀ {b u}, H b = some u → L2.upd H p o b = some u := fun {b u} e => by rw [upd_ne (ne_of_none e hp)]; exact e
  cases h with
  | base b =>
    cases b with
    | non => exact .base .non
    | bl y => exact .base (.bl y)
    | int i => exact .base (.int i)
    | str y => exact .base (.str y)
    | flt y => exact .base (.flt y)
    | lst e => exact .base (.lst (k e))
    | frz e => exact .base (.frz (k e))
    | tup e => exact .base (.tup (k e))
    | dK e => exact .base (.dK (k e))
    | dT e => exact .base (.dT (k e))
    | ins e a b c d f => exact .base (.ins (k e) a b c d f)
  | byt b => exact .byt b
  | set e => exact .set (k e)
  | kList e c => exact .kList e c
  | kTuple e c => exact .kTuple e c
  | kDict e c => exact .kDict e c
  | fTuple e => exact .fTuple (k e)
  | fDict e => exact .fDict (k e)
theorem rel_getD : ∀ {vs : List V} {us : List Value} (i : Nat), Vals vs us → RelV (vs.getD i .non) (us.getD i .none)
  | _, _, _, .nil => rfl
  | _, _, 0, .cons r _ => r
  | _, _, i + 1, .cons _ t => rel_getD i t
section
variable {P : Program} {w : World} {K : PySem.W.Frag} {mg : Str → Option Value} {base : Heap}
theorem scIsW : FnScope ["_law_thing"] ["_law_thing"] (defScope sIsW) := ⟨rfl, rfl, rfl, by decide +kernel, rfl, by decide +kernel, by decide +kernel⟩
theorem tyInt {H : Hp} (z : Int) : TyX K H (.int z) (.type "int") := .base (.int z)
theorem ok_isW (D : DefAt K mg "_law_whole" sIsW) (B : Bt mg) : Cal P w K mg base CX0 1 "_law_whole" ["_law_thing"] (spIsW K) := by
  refine D.cal (fun _ _ _ _ _ _ us hl => match us, hl with | [_], _ => rfl) fun f fd F => ?_
  refine F.ok scIsW (fun vs H Q E h => ?_) (fun cdv A outer s H vs Q E hr h => ?_)
  · obtain ⟨x, rfl, _⟩ := h
    rfl
  · obtain ⟨x, rfl, h⟩ := h
    refine ⟨_, (pss_one (ps_ret (pe_and (pe_callB call_isi (by rfl) B.isi (by decide +kernel) (pa_cons (pv 0) (pa_cons (pe_bltn (v := .ty "int") (by rfl) B.int (by decide +kernel) rfl) pa_nil))) (pe_one (pe_not (pe_callB call_isi (by rfl) B.isi (by decide +kernel) (pa_cons (pv 0) (pa_cons (pe_bltn (v := .ty "bool") (by rfl) B.bool (by decide +kernel) rfl) pa_nil)))))))), ?_⟩
    walk_at "rd"
    rcases h with ⟨z, rfl, q⟩ | ⟨⟨t, b1, b2, ht, h1, h2, h3⟩, q⟩
    · refine ⟨_, _, .ty "int", tyInt z, true, kit_ty (by decide +kernel), ?_⟩
      refine iteT ⟨_, _, .ty "bool", tyInt z, false, kit_ty (by decide +kernel), ?_⟩
      exact q
    · refine ⟨_, _, .ty "int", ht, _, kit_ty h1, ?_⟩
      refine ite2 (fun e => ⟨_, _, .ty "bool", ht, _, kit_ty h2, ?_⟩) (fun _ => q)
      subst e
      simp only [Bool.not_true, Bool.false_or] at h3
      subst h3
      exact q
theorem scTruth : FnScope ["_law_told", "_law_due"] ["_law_told", "_law_due"] (defScope sTruth) := ⟨rfl, rfl, rfl, by decide +kernel, rfl, by decide +kernel, by decide +kernel⟩
theorem ok_truth (D : DefAt K mg "_law_truth" sTruth) (B : Bt mg) : Cal P w K mg base CX0 1 "_law_truth" ["_law_told", "_law_due"] spTruth := by
  refine D.cal (fun _ _ _ _ _ _ us hl => match us, hl with | [_, _], _ => rfl) fun f fd F => ?_
  refine F.ok scTruth (fun vs H Q E h => ?_) (fun cdv A outer s H vs Q E hr h => ?_)
  · obtain ⟨x, y, rfl, _⟩ := h
    rfl
  · obtain ⟨x, y, rfl, h⟩ := h
    refine ⟨_, (pss_one (ps_ret (pe_and (pe_callB call_isi (by rfl) B.isi (by decide +kernel) (pa_cons (pv 0) (pa_cons (pe_bltn (v := .ty "bool") (by rfl) B.bool (by decide +kernel) rfl) pa_nil))) (pe_one (pe_cmpR op_eq (pv 0) (pv 1) (nomark _)))))), ?_⟩
    walk_at "rd"
    refine ⟨_, _, .ty "bool", .base (.bl x), true, kit_ty (by decide +kernel), ?_⟩
    refine iteT ?_
    have e : decide (x = y) = (x == y) := by cases x <;> cases y <;> rfl
    rw [e]
    exact h
theorem scSeq : FnScope ["thing"] ["thing"] (defScope sSeq) := ⟨rfl, rfl, rfl, by decide +kernel, rfl, by decide +kernel, by decide +kernel⟩
theorem ok_seq (D : DefAt K mg "is_sequence" sSeq) (B : Bt mg) : Cal P w K mg base CX0 1 "is_sequence" ["thing"] (spSeq K) := by
  refine D.cal (fun _ _ _ _ _ _ us hl => match us, hl with | [_], _ => rfl) fun f fd F => ?_
  refine F.ok scSeq (fun vs H Q E h => ?_) (fun cdv A outer s H vs Q E hr h => ?_)
  · obtain ⟨x, t, b1, b2, rfl, _⟩ := h
    rfl
  · obtain ⟨x, t, b1, b2, rfl, ht, h1, h2, h⟩ := h
    refine ⟨_, (pss_one (ps_ret (pe_callB call_isiT (by rfl) B.isi (by decide +kernel) (pa_cons (pv 0) (pa_cons (pe_tup (pa_cons (pe_bltn (v := .ty "list") (by rfl) B.list (by decide +kernel) rfl) (pa_cons (pe_bltn (v := .ty "tuple") (by rfl) B.tuple (by decide +kernel) rfl) pa_nil))) pa_nil))))), ?_⟩
    walk_at "rd"
    refine ⟨by decide, fun p hp => ⟨_, upd_same, _, _, .cons (.ty "list") (.cons (.ty "tuple") .nil), TyX.upd ht hp, (b1 || b2), ?_, h p _ hp⟩⟩
    refine kitAny_cons (kit_ty h1) (fun e => ?_) (fun e => by rw [e]; rfl)
    rw [e]
    exact kitAny_cons (kit_ty h2) (fun e => by rw [e]; exact kitAny_nil) (fun e => by rw [e]; rfl)
theorem scWhole : FnScope ["thing", "low", "high"] ["thing", "low", "high"] (defScope sWhole) := ⟨rfl, rfl, rfl, by decide +kernel, rfl, by decide +kernel, by decide +kernel⟩
theorem ok_whole (D : DefD K mg "is_whole" sWhole [.non, .non]) (B : Bt mg) : CalD P w K mg base CX0 1 "is_whole" ["thing", "low", "high"] [.non, .non] (spWhole K) [(["high"], fun vs zs => [vs.getD 0 .non, .non, zs.getD 0 .non]), (["low", "high"], fun vs zs => [vs.getD 0 .non, zs.getD 0 .non, zs.getD 1 .non])] := by
  obtain ⟨f, fd, F, hm⟩ := D.ex
  refine ⟨f, fd, ?_, hm, F.kp, ?_, ?_⟩
  · refine F.ok scWhole (fun vs H Q E h => ?_) (fun cdv A outer s H vs Q E hr h => ?_)
    · obtain ⟨x, t, b1, rfl, _⟩ := h
      rfl
    · obtain ⟨x, lo, hi, rfl, blo, bhi, h⟩ := h
      refine ⟨_, PSs.nox (pss_cons (ps_if (PW.pt (pw_or (pt_not (pt_val (pe_callB call_isi (by rfl) B.isi (by decide +kernel) (pa_cons (pv 0) (pa_cons (pe_bltn (v := .ty "int") (by rfl) B.int (by decide +kernel) rfl) pa_nil))))) (pw_or1 (pt_val (pe_callB call_isi (by rfl) B.isi (by decide +kernel) (pa_cons (pv 0) (pa_cons (pe_bltn (v := .ty "bool") (by rfl) B.bool (by decide +kernel) rfl) pa_nil))))))) (pss_one (ps_ret pe_bl)) pss_nil)
  (pss_one (ps_ret (pe_and (pe_or (pe_cmpR op_isN (pv 1) pe_non (nomark _)) (pe_one (pe_cmpR op_ge (pv 0) (pv 1) (nomark _)))) (pe_one (pe_or (pe_cmpR op_isN (pv 2) pe_non (nomark _)) (pe_one (pe_cmpR op_le (pv 0) (pv 2) (nomark _))))))))), ?_⟩
      walk_at "rd"
      rcases h with ⟨z, rfl, q⟩ | ⟨⟨t, b1, b2, ht, h1, h2, h3⟩, q⟩
      · refine ⟨_, _, .ty "int", tyInt z, true, kit_ty (by decide +kernel), ?_⟩
        refine iteF' ⟨_, _, .ty "bool", tyInt z, false, kit_ty (by decide +kernel), ?_⟩
        refine iteF ?_
        rcases blo with rfl | ⟨l, rfl⟩ <;> rcases bhi with rfl | ⟨u, rfl⟩
        · walk_at "rd"
          exact q
        · walk_at "rd"
          exact q
        · walk_at "rd"
          refine ite2 (fun e => ?_) (fun e => ?_)
          · simpa [okLo, okHi, e] using q
          · simpa [okLo, okHi, e] using q
        · walk_at "rd"
          refine ite2 (fun e => ?_) (fun e => ?_)
          · simpa [okLo, okHi, e] using q
          · simpa [okLo, okHi, e] using q
      · refine ⟨_, _, .ty "int", ht, _, kit_ty h1, ?_⟩
        refine ite2 (fun _ => q) (fun e => ⟨_, _, .ty "bool", ht, _, kit_ty h2, ?_⟩)
        have e1 : b1 = true := by cases b1 <;> simp_all
        subst e1
        simp only [Bool.not_true, Bool.false_or] at h3
        subst h3
        exact iteT q
  · intro j hj
    exact F.binds1 (3 - (2 - j)) j (by simp) (by simp; omega) (fun T kV doc pm an cdv ct us its h1 h2 => by
      match its, h2 with
      | [d1, d2], _ =>
        match j, hj, us, h1 with
        | 0, _, [u1], _ => exact ⟨_, rfl, rfl⟩
        | 1, _, [u1, u2], _ => exact ⟨_, rfl, rfl⟩
        | 2, _, [u1, u2, u3], _ => exact ⟨_, rfl, rfl⟩)
  · intro q hq
    obtain ⟨oc, od, dV, kV, doc, pm, an, cdv, ct, osl, rfl, lk, hcd, hD, hK⟩ := F.ex
    rcases hD with ⟨e, _⟩ | ⟨_, T, o, its, m, rfl, lT, oT, rT⟩
    · cases e
    · match its, rT with
      | [d1, d2], rT =>
        simp only [List.mem_cons, List.mem_nil_iff, or_false] at hq
        rcases hq with rfl | rfl
        · refine ⟨fun us ws => [us.getD 0 .none, d1, ws.getD 0 .none], ⟨fun s us ws X l1 l2 => ?_, fun r1 r2 => ?_⟩⟩
          · match us, l1, ws, l2 with
            | [u], _, [v], _ =>
              refine BindsTo.of_looks fun M => ?_
              have e : ∃ k, bindArgs (PySem.W.fnOf "is_whole" "is_whole" (defArgs sWhole) (defBody sWhole) (defScope sWhole) (.ref T) kV doc pm an cdv ct) ⟨[u], (["high"] : List Str).zip [v]⟩ = seqItems? (.ref T) >>= k ∧ k (some [d1, d2].toArray) = pure ((["thing", "low", "high"] : List Str).zip [u, d1, v]) := ⟨_, rfl, rfl⟩
              obtain ⟨k, e1, e2⟩ := e
              rw [e1]
              exact looks_items X lT oT (.of_pure e2)
          · cases rT with
            | cons a b => exact .cons (rel_getD 0 r1) (.cons a (.cons (rel_getD 0 r2) .nil))
        · refine ⟨fun us ws => [us.getD 0 .none, ws.getD 0 .none, ws.getD 1 .none], ⟨fun s us ws X l1 l2 => ?_, fun r1 r2 => ?_⟩⟩
          · match us, l1, ws, l2 with
            | [u], _, [v, v2], _ =>
              refine BindsTo.of_looks fun M => ?_
              have e : ∃ k, bindArgs (PySem.W.fnOf "is_whole" "is_whole" (defArgs sWhole) (defBody sWhole) (defScope sWhole) (.ref T) kV doc pm an cdv ct) ⟨[u], (["low", "high"] : List Str).zip [v, v2]⟩ = seqItems? (.ref T) >>= k ∧ k (some [d1, d2].toArray) = pure ((["thing", "low", "high"] : List Str).zip [u, v, v2]) := ⟨_, rfl, rfl⟩
              obtain ⟨k, e1, e2⟩ := e
              rw [e1]
              exact looks_items X lT oT (.of_pure e2)
          · exact .cons (rel_getD 0 r1) (.cons (rel_getD 0 r2) (.cons (rel_getD 1 r2) .nil))
end


set_option Elab.async false
set_option linter.all false
set_option maxRecDepth 100000
set_option maxHeartbeats 4000000
open PySem L2


section
variable {P : Program} {w : World} {K : PySem.W.Frag} {mg : Str → Option Value} {base : Heap} {C : Addr}
theorem scI0 : FnScope ["self", "what"] ["self", "what"] (defScope (inClass (top 5) 0)) := ⟨rfl, rfl, rfl, by decide +kernel, rfl, by decide +kernel, by decide +kernel⟩
theorem mk0 (I : InitAt K C "BadStep.__init__" (inClass (top 5) 0)) (ox : OexC K C) (gC : mg "BadStep" = some (.ref C)) : MkE P w K mg base "BadStep" C ["self", "what"] (spI1 K C "what") := by
  refine mkE_of I ox gC (fun _ _ _ _ _ _ us hl => match us, hl with | [_, _], _ => rfl) fun fI fd F => ?_
  refine F.ok scI0 (fun vs H Q E h => ?_) (fun cdv A outer s H vs Q E hr h => ?_)
  · obtain ⟨a, v, rfl, _⟩ := h
    rfl
  · obtain ⟨a, v, rfl, ox, n1, h0, k⟩ := h
    refine ⟨_, pss_one (ps_ost (pv 0) (pv 1)), ?_⟩
    refine ⟨_, rfl, _, rfl, a, C, rfl, ox, n1, .inl ⟨h0, ost_go1 h0 fun H' k1 ⟨d, ne, nd, e1, e2⟩ => ?_⟩⟩
    exact k H' k1 ⟨d, ne, nd, e1, e2⟩
theorem scI1 : FnScope ["self", "what"] ["self", "what"] (defScope (inClass (top 6) 0)) := ⟨rfl, rfl, rfl, by decide +kernel, rfl, by decide +kernel, by decide +kernel⟩
theorem mk1 (I : InitAt K C "BadLot.__init__" (inClass (top 6) 0)) (ox : OexC K C) (gC : mg "BadLot" = some (.ref C)) : MkE P w K mg base "BadLot" C ["self", "what"] (spI1 K C "what") := by
  refine mkE_of I ox gC (fun _ _ _ _ _ _ us hl => match us, hl with | [_, _], _ => rfl) fun fI fd F => ?_
  refine F.ok scI1 (fun vs H Q E h => ?_) (fun cdv A outer s H vs Q E hr h => ?_)
  · obtain ⟨a, v, rfl, _⟩ := h
    rfl
  · obtain ⟨a, v, rfl, ox, n1, h0, k⟩ := h
    refine ⟨_, pss_one (ps_ost (pv 0) (pv 1)), ?_⟩
    refine ⟨_, rfl, _, rfl, a, C, rfl, ox, n1, .inl ⟨h0, ost_go1 h0 fun H' k1 ⟨d, ne, nd, e1, e2⟩ => ?_⟩⟩
    exact k H' k1 ⟨d, ne, nd, e1, e2⟩
theorem scI2 : FnScope ["self", "program"] ["self", "program"] (defScope (inClass (top 7) 0)) := ⟨rfl, rfl, rfl, by decide +kernel, rfl, by decide +kernel, by decide +kernel⟩
theorem mk2 (I : InitAt K C "NoProgram.__init__" (inClass (top 7) 0)) (ox : OexC K C) (gC : mg "NoProgram" = some (.ref C)) : MkE P w K mg base "NoProgram" C ["self", "program"] (spI1 K C "program") := by
  refine mkE_of I ox gC (fun _ _ _ _ _ _ us hl => match us, hl with | [_, _], _ => rfl) fun fI fd F => ?_
  refine F.ok scI2 (fun vs H Q E h => ?_) (fun cdv A outer s H vs Q E hr h => ?_)
  · obtain ⟨a, v, rfl, _⟩ := h
    rfl
  · obtain ⟨a, v, rfl, ox, n1, h0, k⟩ := h
    refine ⟨_, pss_one (ps_ost (pv 0) (pv 1)), ?_⟩
    refine ⟨_, rfl, _, rfl, a, C, rfl, ox, n1, .inl ⟨h0, ost_go1 h0 fun H' k1 ⟨d, ne, nd, e1, e2⟩ => ?_⟩⟩
    exact k H' k1 ⟨d, ne, nd, e1, e2⟩
theorem scI3 : FnScope ["self", "program", "place"] ["self", "program", "place"] (defScope (inClass (top 8) 0)) := ⟨rfl, rfl, rfl, by decide +kernel, rfl, by decide +kernel, by decide +kernel⟩
theorem mk3 (I : InitAt K C "NoStep.__init__" (inClass (top 8) 0)) (ox : OexC K C) (gC : mg "NoStep" = some (.ref C)) : MkE P w K mg base "NoStep" C ["self", "program", "place"] (spI2 K C "program" "place") := by
  refine mkE_of I ox gC (fun _ _ _ _ _ _ us hl => match us, hl with | [_, _, _], _ => rfl) fun fI fd F => ?_
  refine F.ok scI3 (fun vs H Q E h => ?_) (fun cdv A outer s H vs Q E hr h => ?_)
  · obtain ⟨a, v, u, rfl, _⟩ := h
    rfl
  · obtain ⟨a, v, u, rfl, ox, n1, n2, h0, k⟩ := h
    refine ⟨_, pss_cons (ps_ost (pv 0) (pv 1)) (pss_one (ps_ost (pv 0) (pv 2))), ?_⟩
    refine ⟨_, rfl, _, rfl, a, C, rfl, ox, n1, .inl ⟨h0, ost_go1 h0 fun H' k1 ⟨d, ne, nd, e1, e2⟩ => ?_⟩⟩
    refine ⟨_, rfl, _, rfl, a, C, rfl, ox, n2, .inr ⟨d, _, e1, e2, (by show 1 ≤ 900; decide), ?_⟩⟩
    refine k _ (fun b o hb e => ?_) ⟨d, ne, nd, by rw [upd_ne ne.symm]; exact e1, upd_same⟩
    rw [upd_ne (ne_of_none e nd)]
    exact k1 b o hb e
theorem scI4 : FnScope ["self", "what"] ["self", "what"] (defScope (inClass (top 9) 0)) := ⟨rfl, rfl, rfl, by decide +kernel, rfl, by decide +kernel, by decide +kernel⟩
theorem mk4 (I : InitAt K C "BadWeaving.__init__" (inClass (top 9) 0)) (ox : OexC K C) (gC : mg "BadWeaving" = some (.ref C)) : MkE P w K mg base "BadWeaving" C ["self", "what"] (spI1 K C "what") := by
  refine mkE_of I ox gC (fun _ _ _ _ _ _ us hl => match us, hl with | [_, _], _ => rfl) fun fI fd F => ?_
  refine F.ok scI4 (fun vs H Q E h => ?_) (fun cdv A outer s H vs Q E hr h => ?_)
  · obtain ⟨a, v, rfl, _⟩ := h
    rfl
  · obtain ⟨a, v, rfl, ox, n1, h0, k⟩ := h
    refine ⟨_, pss_one (ps_ost (pv 0) (pv 1)), ?_⟩
    refine ⟨_, rfl, _, rfl, a, C, rfl, ox, n1, .inl ⟨h0, ost_go1 h0 fun H' k1 ⟨d, ne, nd, e1, e2⟩ => ?_⟩⟩
    exact k H' k1 ⟨d, ne, nd, e1, e2⟩
theorem scI5 : FnScope ["self", "index"] ["self", "index"] (defScope (inClass (top 10) 0)) := ⟨rfl, rfl, rfl, by decide +kernel, rfl, by decide +kernel, by decide +kernel⟩
theorem mk5 (I : InitAt K C "BadRow.__init__" (inClass (top 10) 0)) (ox : OexC K C) (gC : mg "BadRow" = some (.ref C)) : MkE P w K mg base "BadRow" C ["self", "index"] (spI1 K C "index") := by
  refine mkE_of I ox gC (fun _ _ _ _ _ _ us hl => match us, hl with | [_, _], _ => rfl) fun fI fd F => ?_
  refine F.ok scI5 (fun vs H Q E h => ?_) (fun cdv A outer s H vs Q E hr h => ?_)
  · obtain ⟨a, v, rfl, _⟩ := h
    rfl
  · obtain ⟨a, v, rfl, ox, n1, h0, k⟩ := h
    refine ⟨_, pss_one (ps_ost (pv 0) (pv 1)), ?_⟩
    refine ⟨_, rfl, _, rfl, a, C, rfl, ox, n1, .inl ⟨h0, ost_go1 h0 fun H' k1 ⟨d, ne, nd, e1, e2⟩ => ?_⟩⟩
    exact k H' k1 ⟨d, ne, nd, e1, e2⟩
theorem scI7 : FnScope ["self", "index"] ["self", "index"] (defScope (inClass (top 12) 0)) := ⟨rfl, rfl, rfl, by decide +kernel, rfl, by decide +kernel, by decide +kernel⟩
theorem mk7 (I : InitAt K C "BadFact.__init__" (inClass (top 12) 0)) (ox : OexC K C) (gC : mg "BadFact" = some (.ref C)) : MkE P w K mg base "BadFact" C ["self", "index"] (spI1 K C "index") := by
  refine mkE_of I ox gC (fun _ _ _ _ _ _ us hl => match us, hl with | [_, _], _ => rfl) fun fI fd F => ?_
  refine F.ok scI7 (fun vs H Q E h => ?_) (fun cdv A outer s H vs Q E hr h => ?_)
  · obtain ⟨a, v, rfl, _⟩ := h
    rfl
  · obtain ⟨a, v, rfl, ox, n1, h0, k⟩ := h
    refine ⟨_, pss_one (ps_ost (pv 0) (pv 1)), ?_⟩
    refine ⟨_, rfl, _, rfl, a, C, rfl, ox, n1, .inl ⟨h0, ost_go1 h0 fun H' k1 ⟨d, ne, nd, e1, e2⟩ => ?_⟩⟩
    exact k H' k1 ⟨d, ne, nd, e1, e2⟩
theorem scI9 : FnScope ["self", "count"] ["self", "count"] (defScope (inClass (top 14) 0)) := ⟨rfl, rfl, rfl, by decide +kernel, rfl, by decide +kernel, by decide +kernel⟩
theorem mk9 (I : InitAt K C "TooMany.__init__" (inClass (top 14) 0)) (ox : OexC K C) (gC : mg "TooMany" = some (.ref C)) : MkE P w K mg base "TooMany" C ["self", "count"] (spI1 K C "count") := by
  refine mkE_of I ox gC (fun _ _ _ _ _ _ us hl => match us, hl with | [_, _], _ => rfl) fun fI fd F => ?_
  refine F.ok scI9 (fun vs H Q E h => ?_) (fun cdv A outer s H vs Q E hr h => ?_)
  · obtain ⟨a, v, rfl, _⟩ := h
    rfl
  · obtain ⟨a, v, rfl, ox, n1, h0, k⟩ := h
    refine ⟨_, pss_one (ps_ost (pv 0) (pv 1)), ?_⟩
    refine ⟨_, rfl, _, rfl, a, C, rfl, ox, n1, .inl ⟨h0, ost_go1 h0 fun H' k1 ⟨d, ne, nd, e1, e2⟩ => ?_⟩⟩
    exact k H' k1 ⟨d, ne, nd, e1, e2⟩
theorem scI10 : FnScope ["self", "steps"] ["self", "steps"] (defScope (inClass (top 15) 0)) := ⟨rfl, rfl, rfl, by decide +kernel, rfl, by decide +kernel, by decide +kernel⟩
theorem mk10 (I : InitAt K C "TooLong.__init__" (inClass (top 15) 0)) (ox : OexC K C) (gC : mg "TooLong" = some (.ref C)) : MkE P w K mg base "TooLong" C ["self", "steps"] (spI1 K C "steps") := by
  refine mkE_of I ox gC (fun _ _ _ _ _ _ us hl => match us, hl with | [_, _], _ => rfl) fun fI fd F => ?_
  refine F.ok scI10 (fun vs H Q E h => ?_) (fun cdv A outer s H vs Q E hr h => ?_)
  · obtain ⟨a, v, rfl, _⟩ := h
    rfl
  · obtain ⟨a, v, rfl, ox, n1, h0, k⟩ := h
    refine ⟨_, pss_one (ps_ost (pv 0) (pv 1)), ?_⟩
    refine ⟨_, rfl, _, rfl, a, C, rfl, ox, n1, .inl ⟨h0, ost_go1 h0 fun H' k1 ⟨d, ne, nd, e1, e2⟩ => ?_⟩⟩
    exact k H' k1 ⟨d, ne, nd, e1, e2⟩
theorem scI12 : FnScope ["self", "meeting"] ["self", "meeting"] (defScope (inClass (top 17) 0)) := ⟨rfl, rfl, rfl, by decide +kernel, rfl, by decide +kernel, by decide +kernel⟩
theorem mk12 (I : InitAt K C "OrderTurned.__init__" (inClass (top 17) 0)) (ox : OexC K C) (gC : mg "OrderTurned" = some (.ref C)) : MkE P w K mg base "OrderTurned" C ["self", "meeting"] (spI1 K C "meeting") := by
  refine mkE_of I ox gC (fun _ _ _ _ _ _ us hl => match us, hl with | [_, _], _ => rfl) fun fI fd F => ?_
  refine F.ok scI12 (fun vs H Q E h => ?_) (fun cdv A outer s H vs Q E hr h => ?_)
  · obtain ⟨a, v, rfl, _⟩ := h
    rfl
  · obtain ⟨a, v, rfl, ox, n1, h0, k⟩ := h
    refine ⟨_, pss_one (ps_ost (pv 0) (pv 1)), ?_⟩
    refine ⟨_, rfl, _, rfl, a, C, rfl, ox, n1, .inl ⟨h0, ost_go1 h0 fun H' k1 ⟨d, ne, nd, e1, e2⟩ => ?_⟩⟩
    exact k H' k1 ⟨d, ne, nd, e1, e2⟩
theorem scI13 : FnScope ["self", "worth"] ["self", "worth"] (defScope (inClass (top 18) 0)) := ⟨rfl, rfl, rfl, by decide +kernel, rfl, by decide +kernel, by decide +kernel⟩
theorem mk13 (I : InitAt K C "BadHouse.__init__" (inClass (top 18) 0)) (ox : OexC K C) (gC : mg "BadHouse" = some (.ref C)) : MkE P w K mg base "BadHouse" C ["self", "worth"] (spI1 K C "worth") := by
  refine mkE_of I ox gC (fun _ _ _ _ _ _ us hl => match us, hl with | [_, _], _ => rfl) fun fI fd F => ?_
  refine F.ok scI13 (fun vs H Q E h => ?_) (fun cdv A outer s H vs Q E hr h => ?_)
  · obtain ⟨a, v, rfl, _⟩ := h
    rfl
  · obtain ⟨a, v, rfl, ox, n1, h0, k⟩ := h
    refine ⟨_, pss_one (ps_ost (pv 0) (pv 1)), ?_⟩
    refine ⟨_, rfl, _, rfl, a, C, rfl, ox, n1, .inl ⟨h0, ost_go1 h0 fun H' k1 ⟨d, ne, nd, e1, e2⟩ => ?_⟩⟩
    exact k H' k1 ⟨d, ne, nd, e1, e2⟩
theorem scI15 : FnScope ["self", "what"] ["self", "what"] (defScope (inClass (top 20) 0)) := ⟨rfl, rfl, rfl, by decide +kernel, rfl, by decide +kernel, by decide +kernel⟩
theorem mk15 (I : InitAt K C "BadMeaning.__init__" (inClass (top 20) 0)) (ox : OexC K C) (gC : mg "BadMeaning" = some (.ref C)) : MkE P w K mg base "BadMeaning" C ["self", "what"] (spI1 K C "what") := by
  refine mkE_of I ox gC (fun _ _ _ _ _ _ us hl => match us, hl with | [_, _], _ => rfl) fun fI fd F => ?_
  refine F.ok scI15 (fun vs H Q E h => ?_) (fun cdv A outer s H vs Q E hr h => ?_)
  · obtain ⟨a, v, rfl, _⟩ := h
    rfl
  · obtain ⟨a, v, rfl, ox, n1, h0, k⟩ := h
    refine ⟨_, pss_one (ps_ost (pv 0) (pv 1)), ?_⟩
    refine ⟨_, rfl, _, rfl, a, C, rfl, ox, n1, .inl ⟨h0, ost_go1 h0 fun H' k1 ⟨d, ne, nd, e1, e2⟩ => ?_⟩⟩
    exact k H' k1 ⟨d, ne, nd, e1, e2⟩
theorem scI17 : FnScope ["self", "index"] ["self", "index"] (defScope (inClass (top 22) 0)) := ⟨rfl, rfl, rfl, by decide +kernel, rfl, by decide +kernel, by decide +kernel⟩
theorem mk17 (I : InitAt K C "BadStores.__init__" (inClass (top 22) 0)) (ox : OexC K C) (gC : mg "BadStores" = some (.ref C)) : MkE P w K mg base "BadStores" C ["self", "index"] (spI1 K C "index") := by
  refine mkE_of I ox gC (fun _ _ _ _ _ _ us hl => match us, hl with | [_, _], _ => rfl) fun fI fd F => ?_
  refine F.ok scI17 (fun vs H Q E h => ?_) (fun cdv A outer s H vs Q E hr h => ?_)
  · obtain ⟨a, v, rfl, _⟩ := h
    rfl
  · obtain ⟨a, v, rfl, ox, n1, h0, k⟩ := h
    refine ⟨_, pss_one (ps_ost (pv 0) (pv 1)), ?_⟩
    refine ⟨_, rfl, _, rfl, a, C, rfl, ox, n1, .inl ⟨h0, ost_go1 h0 fun H' k1 ⟨d, ne, nd, e1, e2⟩ => ?_⟩⟩
    exact k H' k1 ⟨d, ne, nd, e1, e2⟩
theorem scI18 : FnScope ["self", "program", "store"] ["self", "program", "store"] (defScope (inClass (top 23) 0)) := ⟨rfl, rfl, rfl, by decide +kernel, rfl, by decide +kernel, by decide +kernel⟩
theorem mk18 (I : InitAt K C "NotKept.__init__" (inClass (top 23) 0)) (ox : OexC K C) (gC : mg "NotKept" = some (.ref C)) : MkE P w K mg base "NotKept" C ["self", "program", "store"] (spI2 K C "program" "store") := by
  refine mkE_of I ox gC (fun _ _ _ _ _ _ us hl => match us, hl with | [_, _, _], _ => rfl) fun fI fd F => ?_
  refine F.ok scI18 (fun vs H Q E h => ?_) (fun cdv A outer s H vs Q E hr h => ?_)
  · obtain ⟨a, v, u, rfl, _⟩ := h
    rfl
  · obtain ⟨a, v, u, rfl, ox, n1, n2, h0, k⟩ := h
    refine ⟨_, pss_cons (ps_ost (pv 0) (pv 1)) (pss_one (ps_ost (pv 0) (pv 2))), ?_⟩
    refine ⟨_, rfl, _, rfl, a, C, rfl, ox, n1, .inl ⟨h0, ost_go1 h0 fun H' k1 ⟨d, ne, nd, e1, e2⟩ => ?_⟩⟩
    refine ⟨_, rfl, _, rfl, a, C, rfl, ox, n2, .inr ⟨d, _, e1, e2, (by show 1 ≤ 900; decide), ?_⟩⟩
    refine k _ (fun b o hb e => ?_) ⟨d, ne, nd, by rw [upd_ne ne.symm]; exact e1, upd_same⟩
    rw [upd_ne (ne_of_none e nd)]
    exact k1 b o hb e
theorem scI19 : FnScope ["self", "index"] ["self", "index"] (defScope (inClass (top 24) 0)) := ⟨rfl, rfl, rfl, by decide +kernel, rfl, by decide +kernel, by decide +kernel⟩
theorem mk19 (I : InitAt K C "BadPool.__init__" (inClass (top 24) 0)) (ox : OexC K C) (gC : mg "BadPool" = some (.ref C)) : MkE P w K mg base "BadPool" C ["self", "index"] (spI1 K C "index") := by
  refine mkE_of I ox gC (fun _ _ _ _ _ _ us hl => match us, hl with | [_, _], _ => rfl) fun fI fd F => ?_
  refine F.ok scI19 (fun vs H Q E h => ?_) (fun cdv A outer s H vs Q E hr h => ?_)
  · obtain ⟨a, v, rfl, _⟩ := h
    rfl
  · obtain ⟨a, v, rfl, ox, n1, h0, k⟩ := h
    refine ⟨_, pss_one (ps_ost (pv 0) (pv 1)), ?_⟩
    refine ⟨_, rfl, _, rfl, a, C, rfl, ox, n1, .inl ⟨h0, ost_go1 h0 fun H' k1 ⟨d, ne, nd, e1, e2⟩ => ?_⟩⟩
    exact k H' k1 ⟨d, ne, nd, e1, e2⟩
theorem scI20 : FnScope ["self", "index"] ["self", "index"] (defScope (inClass (top 25) 0)) := ⟨rfl, rfl, rfl, by decide +kernel, rfl, by decide +kernel, by decide +kernel⟩
theorem mk20 (I : InitAt K C "BadWish.__init__" (inClass (top 25) 0)) (ox : OexC K C) (gC : mg "BadWish" = some (.ref C)) : MkE P w K mg base "BadWish" C ["self", "index"] (spI1 K C "index") := by
  refine mkE_of I ox gC (fun _ _ _ _ _ _ us hl => match us, hl with | [_, _], _ => rfl) fun fI fd F => ?_
  refine F.ok scI20 (fun vs H Q E h => ?_) (fun cdv A outer s H vs Q E hr h => ?_)
  · obtain ⟨a, v, rfl, _⟩ := h
    rfl
  · obtain ⟨a, v, rfl, ox, n1, h0, k⟩ := h
    refine ⟨_, pss_one (ps_ost (pv 0) (pv 1)), ?_⟩
    refine ⟨_, rfl, _, rfl, a, C, rfl, ox, n1, .inl ⟨h0, ost_go1 h0 fun H' k1 ⟨d, ne, nd, e1, e2⟩ => ?_⟩⟩
    exact k H' k1 ⟨d, ne, nd, e1, e2⟩
theorem scI22 : FnScope ["self", "weaving"] ["self", "weaving"] (defScope (inClass (top 27) 0)) := ⟨rfl, rfl, rfl, by decide +kernel, rfl, by decide +kernel, by decide +kernel⟩
theorem mk22 (I : InitAt K C "NotAll.__init__" (inClass (top 27) 0)) (ox : OexC K C) (gC : mg "NotAll" = some (.ref C)) : MkE P w K mg base "NotAll" C ["self", "weaving"] (spI1 K C "weaving") := by
  refine mkE_of I ox gC (fun _ _ _ _ _ _ us hl => match us, hl with | [_, _], _ => rfl) fun fI fd F => ?_
  refine F.ok scI22 (fun vs H Q E h => ?_) (fun cdv A outer s H vs Q E hr h => ?_)
  · obtain ⟨a, v, rfl, _⟩ := h
    rfl
  · obtain ⟨a, v, rfl, ox, n1, h0, k⟩ := h
    refine ⟨_, pss_one (ps_ost (pv 0) (pv 1)), ?_⟩
    refine ⟨_, rfl, _, rfl, a, C, rfl, ox, n1, .inl ⟨h0, ost_go1 h0 fun H' k1 ⟨d, ne, nd, e1, e2⟩ => ?_⟩⟩
    exact k H' k1 ⟨d, ne, nd, e1, e2⟩
theorem scI23 : FnScope ["self", "what"] ["self", "what"] (defScope (inClass (top 28) 0)) := ⟨rfl, rfl, rfl, by decide +kernel, rfl, by decide +kernel, by decide +kernel⟩
theorem mk23 (I : InitAt K C "BadAsk.__init__" (inClass (top 28) 0)) (ox : OexC K C) (gC : mg "BadAsk" = some (.ref C)) : MkE P w K mg base "BadAsk" C ["self", "what"] (spI1 K C "what") := by
  refine mkE_of I ox gC (fun _ _ _ _ _ _ us hl => match us, hl with | [_, _], _ => rfl) fun fI fd F => ?_
  refine F.ok scI23 (fun vs H Q E h => ?_) (fun cdv A outer s H vs Q E hr h => ?_)
  · obtain ⟨a, v, rfl, _⟩ := h
    rfl
  · obtain ⟨a, v, rfl, ox, n1, h0, k⟩ := h
    refine ⟨_, pss_one (ps_ost (pv 0) (pv 1)), ?_⟩
    refine ⟨_, rfl, _, rfl, a, C, rfl, ox, n1, .inl ⟨h0, ost_go1 h0 fun H' k1 ⟨d, ne, nd, e1, e2⟩ => ?_⟩⟩
    exact k H' k1 ⟨d, ne, nd, e1, e2⟩
theorem scI25 : FnScope ["self", "program"] ["self", "program"] (defScope (inClass (top 30) 0)) := ⟨rfl, rfl, rfl, by decide +kernel, rfl, by decide +kernel, by decide +kernel⟩
theorem mk25 (I : InitAt K C "NotHeld.__init__" (inClass (top 30) 0)) (ox : OexC K C) (gC : mg "NotHeld" = some (.ref C)) : MkE P w K mg base "NotHeld" C ["self", "program"] (spI1 K C "program") := by
  refine mkE_of I ox gC (fun _ _ _ _ _ _ us hl => match us, hl with | [_, _], _ => rfl) fun fI fd F => ?_
  refine F.ok scI25 (fun vs H Q E h => ?_) (fun cdv A outer s H vs Q E hr h => ?_)
  · obtain ⟨a, v, rfl, _⟩ := h
    rfl
  · obtain ⟨a, v, rfl, ox, n1, h0, k⟩ := h
    refine ⟨_, pss_one (ps_ost (pv 0) (pv 1)), ?_⟩
    refine ⟨_, rfl, _, rfl, a, C, rfl, ox, n1, .inl ⟨h0, ost_go1 h0 fun H' k1 ⟨d, ne, nd, e1, e2⟩ => ?_⟩⟩
    exact k H' k1 ⟨d, ne, nd, e1, e2⟩
theorem scI26 : FnScope ["self", "program", "place"] ["self", "program", "place"] (defScope (inClass (top 31) 0)) := ⟨rfl, rfl, rfl, by decide +kernel, rfl, by decide +kernel, by decide +kernel⟩
theorem mk26 (I : InitAt K C "LateLook.__init__" (inClass (top 31) 0)) (ox : OexC K C) (gC : mg "LateLook" = some (.ref C)) : MkE P w K mg base "LateLook" C ["self", "program", "place"] (spI2 K C "program" "place") := by
  refine mkE_of I ox gC (fun _ _ _ _ _ _ us hl => match us, hl with | [_, _, _], _ => rfl) fun fI fd F => ?_
  refine F.ok scI26 (fun vs H Q E h => ?_) (fun cdv A outer s H vs Q E hr h => ?_)
  · obtain ⟨a, v, u, rfl, _⟩ := h
    rfl
  · obtain ⟨a, v, u, rfl, ox, n1, n2, h0, k⟩ := h
    refine ⟨_, pss_cons (ps_ost (pv 0) (pv 1)) (pss_one (ps_ost (pv 0) (pv 2))), ?_⟩
    refine ⟨_, rfl, _, rfl, a, C, rfl, ox, n1, .inl ⟨h0, ost_go1 h0 fun H' k1 ⟨d, ne, nd, e1, e2⟩ => ?_⟩⟩
    refine ⟨_, rfl, _, rfl, a, C, rfl, ox, n2, .inr ⟨d, _, e1, e2, (by show 1 ≤ 900; decide), ?_⟩⟩
    refine k _ (fun b o hb e => ?_) ⟨d, ne, nd, by rw [upd_ne ne.symm]; exact e1, upd_same⟩
    rw [upd_ne (ne_of_none e nd)]
    exact k1 b o hb e
theorem scI27 : FnScope ["self", "index", "what"] ["self", "index", "what"] (defScope (inClass (top 32) 0)) := ⟨rfl, rfl, rfl, by decide +kernel, rfl, by decide +kernel, by decide +kernel⟩
theorem mk27 (I : InitAt K C "BadEdit.__init__" (inClass (top 32) 0)) (ox : OexC K C) (gC : mg "BadEdit" = some (.ref C)) : MkE P w K mg base "BadEdit" C ["self", "index", "what"] (spI2 K C "index" "what") := by
  refine mkE_of I ox gC (fun _ _ _ _ _ _ us hl => match us, hl with | [_, _, _], _ => rfl) fun fI fd F => ?_
  refine F.ok scI27 (fun vs H Q E h => ?_) (fun cdv A outer s H vs Q E hr h => ?_)
  · obtain ⟨a, v, u, rfl, _⟩ := h
    rfl
  · obtain ⟨a, v, u, rfl, ox, n1, n2, h0, k⟩ := h
    refine ⟨_, pss_cons (ps_ost (pv 0) (pv 1)) (pss_one (ps_ost (pv 0) (pv 2))), ?_⟩
    refine ⟨_, rfl, _, rfl, a, C, rfl, ox, n1, .inl ⟨h0, ost_go1 h0 fun H' k1 ⟨d, ne, nd, e1, e2⟩ => ?_⟩⟩
    refine ⟨_, rfl, _, rfl, a, C, rfl, ox, n2, .inr ⟨d, _, e1, e2, (by show 1 ≤ 900; decide), ?_⟩⟩
    refine k _ (fun b o hb e => ?_) ⟨d, ne, nd, by rw [upd_ne ne.symm]; exact e1, upd_same⟩
    rw [upd_ne (ne_of_none e nd)]
    exact k1 b o hb e
theorem scI28 : FnScope ["self", "index"] ["self", "index"] (defScope (inClass (top 33) 0)) := ⟨rfl, rfl, rfl, by decide +kernel, rfl, by decide +kernel, by decide +kernel⟩
theorem mk28 (I : InitAt K C "BadGoal.__init__" (inClass (top 33) 0)) (ox : OexC K C) (gC : mg "BadGoal" = some (.ref C)) : MkE P w K mg base "BadGoal" C ["self", "index"] (spI1 K C "index") := by
  refine mkE_of I ox gC (fun _ _ _ _ _ _ us hl => match us, hl with | [_, _], _ => rfl) fun fI fd F => ?_
  refine F.ok scI28 (fun vs H Q E h => ?_) (fun cdv A outer s H vs Q E hr h => ?_)
  · obtain ⟨a, v, rfl, _⟩ := h
    rfl
  · obtain ⟨a, v, rfl, ox, n1, h0, k⟩ := h
    refine ⟨_, pss_one (ps_ost (pv 0) (pv 1)), ?_⟩
    refine ⟨_, rfl, _, rfl, a, C, rfl, ox, n1, .inl ⟨h0, ost_go1 h0 fun H' k1 ⟨d, ne, nd, e1, e2⟩ => ?_⟩⟩
    exact k H' k1 ⟨d, ne, nd, e1, e2⟩
theorem scI29 : FnScope ["self", "index"] ["self", "index"] (defScope (inClass (top 34) 0)) := ⟨rfl, rfl, rfl, by decide +kernel, rfl, by decide +kernel, by decide +kernel⟩
theorem mk29 (I : InitAt K C "BadMendPool.__init__" (inClass (top 34) 0)) (ox : OexC K C) (gC : mg "BadMendPool" = some (.ref C)) : MkE P w K mg base "BadMendPool" C ["self", "index"] (spI1 K C "index") := by
  refine mkE_of I ox gC (fun _ _ _ _ _ _ us hl => match us, hl with | [_, _], _ => rfl) fun fI fd F => ?_
  refine F.ok scI29 (fun vs H Q E h => ?_) (fun cdv A outer s H vs Q E hr h => ?_)
  · obtain ⟨a, v, rfl, _⟩ := h
    rfl
  · obtain ⟨a, v, rfl, ox, n1, h0, k⟩ := h
    refine ⟨_, pss_one (ps_ost (pv 0) (pv 1)), ?_⟩
    refine ⟨_, rfl, _, rfl, a, C, rfl, ox, n1, .inl ⟨h0, ost_go1 h0 fun H' k1 ⟨d, ne, nd, e1, e2⟩ => ?_⟩⟩
    exact k H' k1 ⟨d, ne, nd, e1, e2⟩
end


set_option Elab.async false
set_option linter.all false
set_option maxRecDepth 100000
set_option maxHeartbeats 8000000
open PySem L2


/-- what an error of the i-th class keeps -/
def fsOf (i : Nat) (v u : V) : List (Str × V) := match i with
  | 0 => [("what", v)]
  | 1 => [("what", v)]
  | 2 => [("program", v)]
  | 3 => [("place", u), ("program", v)]
  | 4 => [("what", v)]
  | 5 => [("index", v)]
  | 7 => [("index", v)]
  | 9 => [("count", v)]
  | 10 => [("steps", v)]
  | 12 => [("meeting", v)]
  | 13 => [("worth", v)]
  | 15 => [("what", v)]
  | 17 => [("index", v)]
  | 18 => [("store", u), ("program", v)]
  | 19 => [("index", v)]
  | 20 => [("index", v)]
  | 22 => [("weaving", v)]
  | 23 => [("what", v)]
  | 25 => [("program", v)]
  | 26 => [("place", u), ("program", v)]
  | 27 => [("what", u), ("index", v)]
  | 28 => [("index", v)]
  | 29 => [("index", v)]
  | _ => []
def fnames : List Str := ["what", "index", "count", "steps", "meeting", "worth", "weaving", "program", "place", "store"]
structure Ev (P : Program) (w : World) (K : PySem.W.Frag) (mg : Str → Option Value) (base : Heap) (c : Nat → Addr) (G : Addr) : Prop where
  bt : Bt mg
  m0 : MkE P w K mg base "BadStep" (c 0) ["self", "what"] (spI1 K (c 0) "what")
  m1 : MkE P w K mg base "BadLot" (c 1) ["self", "what"] (spI1 K (c 1) "what")
  m2 : MkE P w K mg base "NoProgram" (c 2) ["self", "program"] (spI1 K (c 2) "program")
  m3 : MkE P w K mg base "NoStep" (c 3) ["self", "program", "place"] (spI2 K (c 3) "program" "place")
  m4 : MkE P w K mg base "BadWeaving" (c 4) ["self", "what"] (spI1 K (c 4) "what")
  m5 : MkE P w K mg base "BadRow" (c 5) ["self", "index"] (spI1 K (c 5) "index")
  m6 : MkN K mg "BadSizes" (c 6)
  m7 : MkE P w K mg base "BadFact" (c 7) ["self", "index"] (spI1 K (c 7) "index")
  m8 : MkN K mg "BadText" (c 8)
  m9 : MkE P w K mg base "TooMany" (c 9) ["self", "count"] (spI1 K (c 9) "count")
  m10 : MkE P w K mg base "TooLong" (c 10) ["self", "steps"] (spI1 K (c 10) "steps")
  m11 : MkN K mg "BadOrder" (c 11)
  m12 : MkE P w K mg base "OrderTurned" (c 12) ["self", "meeting"] (spI1 K (c 12) "meeting")
  m13 : MkE P w K mg base "BadHouse" (c 13) ["self", "worth"] (spI1 K (c 13) "worth")
  m14 : MkN K mg "BadSmallStore" (c 14)
  m15 : MkE P w K mg base "BadMeaning" (c 15) ["self", "what"] (spI1 K (c 15) "what")
  m16 : MkN K mg "BadStore" (c 16)
  m17 : MkE P w K mg base "BadStores" (c 17) ["self", "index"] (spI1 K (c 17) "index")
  m18 : MkE P w K mg base "NotKept" (c 18) ["self", "program", "store"] (spI2 K (c 18) "program" "store")
  m19 : MkE P w K mg base "BadPool" (c 19) ["self", "index"] (spI1 K (c 19) "index")
  m20 : MkE P w K mg base "BadWish" (c 20) ["self", "index"] (spI1 K (c 20) "index")
  m21 : MkN K mg "BadGuard" (c 21)
  m22 : MkE P w K mg base "NotAll" (c 22) ["self", "weaving"] (spI1 K (c 22) "weaving")
  m23 : MkE P w K mg base "BadAsk" (c 23) ["self", "what"] (spI1 K (c 23) "what")
  m24 : MkN K mg "UnlikeLots" (c 24)
  m25 : MkE P w K mg base "NotHeld" (c 25) ["self", "program"] (spI1 K (c 25) "program")
  m26 : MkE P w K mg base "LateLook" (c 26) ["self", "program", "place"] (spI2 K (c 26) "program" "place")
  m27 : MkE P w K mg base "BadEdit" (c 27) ["self", "index", "what"] (spI2 K (c 27) "index" "what")
  m28 : MkE P w K mg base "BadGoal" (c 28) ["self", "index"] (spI1 K (c 28) "index")
  m29 : MkE P w K mg base "BadMendPool" (c 29) ["self", "index"] (spI1 K (c 29) "index")
  m30 : MkN K mg "NothingMade" (c 30)
  ex : ∀ i, i < 31 → ExcC K (c i)
  no : ∀ i, i < 31 → ∀ n ∈ fnames, PySem.W.findIn K (.ref (c i)) n = some none
  kit : ∀ i j, i < 31 → j < 31 → PySem.W.kitOne K (.ref (c i)) (.ref (c j)) = some (decide (i = j))
  kitG : ∀ i, i < 31 → PySem.W.kitOne K (.ref (c i)) (.ref G) = some true
  kitV : ∀ i, i < 31 → PySem.W.kitOne K (.ref (c i)) (.type "ValueError") = some true
  gG : mg "GuardError" = some (.ref G)
theorem xf_of {K : PySem.W.Frag} {C : Addr} (x : ExcC K C) : XfC K C := ⟨x.hg, x.hk, x.hs, x.hd⟩
def spKinds (K : PySem.W.Frag) (c : Nat → Addr) (lo n : Nat) : Sp := fun vs H Q _ => ∃ a i fs, vs = [.ref a] ∧ i < 31 ∧ ExAt H a (c i) fs ∧ ∀ t H', H t = none → Same H H' → H' t = some (.lst ((List.range n).map fun j => V.bl (decide (i = lo + j)))) → Q (.ref t) H'
/-- the errors from lo on stand at as -/
def Row (H : Hp) (c : Nat → Addr) (v u : V) (lo : Nat) (as : List Addr) : Prop := ∀ j a, as[j]? = some a → ExAt H a (c (lo + j)) (fsOf (lo + j) v u)
def spMade (c : Nat → Addr) (lo n : Nat) : Sp := fun vs H Q _ => ∃ v u, vs = [v, u] ∧ ∀ t H' as, H t = none → Same H H' → H' t = some (.lst (as.map V.ref)) → as.length = n → Row H' c v u lo as → Q (.ref t) H'
theorem row_step {H H1 : Hp} {c : Nat → Addr} {v u : V} {lo : Nat} {as : List Addr} {t a : Addr} (r : Row H c v u lo as) (h : H t = some (.lst (as.map V.ref))) (s : Same H H1) (x : ExAt H1 a (c (lo + as.length)) (fsOf (lo + as.length) v u)) :
    Row (upd H1 t (.lst (as.map V.ref ++ [.ref a]))) c v u lo (as ++ [a]) := by
  intro j b hj
  by_cases e : j < as.length
  · rw [List.getElem?_append_left e] at hj
    exact ((r j b hj).same s).updL (s _ _ h)
  · have e2 : j = as.length := by
      have := (List.getElem?_eq_some_iff.mp hj).1
      rw [List.length_append, List.length_singleton] at this
      omega
    subst e2
    rw [List.getElem?_append_right (Nat.le_refl _), Nat.sub_self] at hj
    cases hj
    exact x.updL (s _ _ h)
theorem same_upd {H H1 : Hp} {t : Addr} {o : HO} (s : Same H H1) (n : H t = none) : Same H (upd H1 t o) := fun b u e => by
  rw [upd_ne (ne_of_none e n)]
  exact s b u e
theorem step1 {H0 H H1 : Hp} {c : Nat → Addr} {v u : V} {lo : Nat} {as : List Addr} {t a : Addr} (ht : H0 t = none) (S : Same H0 H) (h : H t = some (.lst (as.map V.ref))) (r : Row H c v u lo as) (s : Same H H1) (x : ExAt H1 a (c (lo + as.length)) (fsOf (lo + as.length) v u)) :
    Same H0 (upd H1 t (.lst (as.map V.ref ++ [.ref a]))) ∧ upd H1 t (.lst (as.map V.ref ++ [.ref a])) t = some (.lst ((as ++ [a]).map V.ref)) ∧ Row (upd H1 t (.lst (as.map V.ref ++ [.ref a]))) c v u lo (as ++ [a]) :=
  ⟨same_upd (S.trans s) ht, by rw [upd_same, List.map_append]; rfl, row_step r h s x⟩
theorem kstep {H0 H : Hp} {t a C : Addr} {fs : List (Str × V)} {xs : List V} {y : V} (ht : H0 t = none) (S : Same H0 H) (h : H t = some (.lst xs)) (x : ExAt H a C fs) :
    Same H0 (upd H t (.lst (xs ++ [y]))) ∧ upd H t (.lst (xs ++ [y])) t = some (.lst (xs ++ [y])) ∧ ExAt (upd H t (.lst (xs ++ [y]))) a C fs := ⟨same_upd S ht, upd_same, x.updL h⟩
theorem exat_new {H : Hp} {e C : Addr} (n : H e = none) : Same H (upd H e (exq e (.ref C) none)) ∧ ExAt (upd H e (exq e (.ref C) none)) e C [] := ⟨same_upd (Same.refl _) n, .inl ⟨rfl, upd_same⟩⟩
section
variable {P : Program} {w : World} {K : PySem.W.Frag} {mg : Str → Option Value} {base : Heap} {c : Nat → Addr} {G : Addr}
theorem scMa : FnScope ["_law_first", "_law_second", "_law_told"] ["_law_first", "_law_second"] (defScope sMa) := ⟨rfl, rfl, rfl, by decide +kernel, rfl, by decide +kernel, by decide +kernel⟩
theorem ok_made_a (D : DefAt K mg "_law_made_a" sMa) (E : Ev P w K mg base c G) : Cal P w K mg base CX0 3 "_law_made_a" ["_law_first", "_law_second"] (spMade c 0 11) := by
  refine D.cal (fun _ _ _ _ _ _ us hl => match us, hl with | [_, _], _ => rfl) fun f fd F => ?_
  refine F.ok scMa (fun vs H Q E h => ?_) (fun cdv A outer s H vs Q E' hr2 h => ?_)
  · obtain ⟨v, u, rfl, _⟩ := h
    rfl
  · obtain ⟨v, u, rfl, k⟩ := h
    refine ⟨_, (pss_cons (ps_set (i := 2) scMa.nd rfl (Or.inl rfl) (pe_lst pa_nil))
  (pss_cons (ps_expr (pe_bm PySem.F.plainAttrs_list PySem.F.slot_list_append PySem.F.type_list_append mt_append (pv 2) (pa_cons (pe_exv (pmk_E E.m0 (by rfl) hr2 (pa_cons (pv 0) pa_nil))) pa_nil)))
  (pss_cons (ps_expr (pe_bm PySem.F.plainAttrs_list PySem.F.slot_list_append PySem.F.type_list_append mt_append (pv 2) (pa_cons (pe_exv (pmk_E E.m1 (by rfl) hr2 (pa_cons (pv 0) pa_nil))) pa_nil)))
  (pss_cons (ps_expr (pe_bm PySem.F.plainAttrs_list PySem.F.slot_list_append PySem.F.type_list_append mt_append (pv 2) (pa_cons (pe_exv (pmk_E E.m2 (by rfl) hr2 (pa_cons (pv 0) pa_nil))) pa_nil)))
  (pss_cons (ps_expr (pe_bm PySem.F.plainAttrs_list PySem.F.slot_list_append PySem.F.type_list_append mt_append (pv 2) (pa_cons (pe_exv (pmk_E E.m3 (by rfl) hr2 (pa_cons (pv 0) (pa_cons (pv 1) pa_nil)))) pa_nil)))
  (pss_cons (ps_expr (pe_bm PySem.F.plainAttrs_list PySem.F.slot_list_append PySem.F.type_list_append mt_append (pv 2) (pa_cons (pe_exv (pmk_E E.m4 (by rfl) hr2 (pa_cons (pv 0) pa_nil))) pa_nil)))
  (pss_cons (ps_expr (pe_bm PySem.F.plainAttrs_list PySem.F.slot_list_append PySem.F.type_list_append mt_append (pv 2) (pa_cons (pe_exv (pmk_E E.m5 (by rfl) hr2 (pa_cons (pv 0) pa_nil))) pa_nil)))
  (pss_cons (ps_expr (pe_bm PySem.F.plainAttrs_list PySem.F.slot_list_append PySem.F.type_list_append mt_append (pv 2) (pa_cons (pe_exv (pmk_N E.m6 (by rfl))) pa_nil)))
  (pss_cons (ps_expr (pe_bm PySem.F.plainAttrs_list PySem.F.slot_list_append PySem.F.type_list_append mt_append (pv 2) (pa_cons (pe_exv (pmk_E E.m7 (by rfl) hr2 (pa_cons (pv 0) pa_nil))) pa_nil)))
  (pss_cons (ps_expr (pe_bm PySem.F.plainAttrs_list PySem.F.slot_list_append PySem.F.type_list_append mt_append (pv 2) (pa_cons (pe_exv (pmk_N E.m8 (by rfl))) pa_nil)))
  (pss_cons (ps_expr (pe_bm PySem.F.plainAttrs_list PySem.F.slot_list_append PySem.F.type_list_append mt_append (pv 2) (pa_cons (pe_exv (pmk_E E.m9 (by rfl) hr2 (pa_cons (pv 0) pa_nil))) pa_nil)))
  (pss_cons (ps_expr (pe_bm PySem.F.plainAttrs_list PySem.F.slot_list_append PySem.F.type_list_append mt_append (pv 2) (pa_cons (pe_exv (pmk_E E.m10 (by rfl) hr2 (pa_cons (pv 0) pa_nil))) pa_nil)))
  (pss_one (ps_ret (pv 2))))))))))))))), ?_⟩
    refine ⟨(by show 0 ≤ sizeLine; exact Nat.zero_le _), fun t ht => ?_⟩
    have h0 : upd H t (.lst []) t = some (.lst (([] : List Addr).map V.ref)) := upd_same
    have S0 : Same H (upd H t (.lst [])) := same_upd (Same.refl H) ht
    have r0 : Row (upd H t (.lst [])) c v u 0 [] := fun j a hj => nomatch hj
    refine ⟨_, rfl, .inl ⟨rfl, _, SqL.of h0⟩, _, rfl, (by show 1 ≤ 1000; decide), fun a0 n0 => ⟨a0, v, rfl, E.m0.ox, (E.no 0 (by decide) _ (by decide +kernel)), upd_same, fun H0 k0 ⟨d0, de0, nd0, y0, z0⟩ => ⟨rfl, d0, _, y0, z0, (upd_ne de0).symm.trans nd0, fun b0 m0 => ?_⟩⟩⟩
    obtain ⟨-, s0, x0⟩ := exv_facts (C := c 0) n0 k0 nd0 de0 m0
    obtain ⟨S1, h1, r1⟩ := step1 ht S0 h0 r0 s0 x0
    refine ⟨t, _, _, rfl, rfl, s0 _ _ h0, (by show 0 < sizeLine; decide), ?_⟩
    refine ⟨_, rfl, .inl ⟨rfl, _, SqL.of h1⟩, _, rfl, (by show 1 ≤ 1000; decide), fun a1 n1 => ⟨a1, v, rfl, E.m1.ox, (E.no 1 (by decide) _ (by decide +kernel)), upd_same, fun H1 k1 ⟨d1, de1, nd1, y1, z1⟩ => ⟨rfl, d1, _, y1, z1, (upd_ne de1).symm.trans nd1, fun b1 m1 => ?_⟩⟩⟩
    obtain ⟨-, s1, x1⟩ := exv_facts (C := c 1) n1 k1 nd1 de1 m1
    obtain ⟨S2, h2, r2⟩ := step1 ht S1 h1 r1 s1 x1
    refine ⟨t, _, _, rfl, rfl, s1 _ _ h1, (by show 1 < sizeLine; decide), ?_⟩
    refine ⟨_, rfl, .inl ⟨rfl, _, SqL.of h2⟩, _, rfl, (by show 1 ≤ 1000; decide), fun a2 n2 => ⟨a2, v, rfl, E.m2.ox, (E.no 2 (by decide) _ (by decide +kernel)), upd_same, fun H2 k2 ⟨d2, de2, nd2, y2, z2⟩ => ⟨rfl, d2, _, y2, z2, (upd_ne de2).symm.trans nd2, fun b2 m2 => ?_⟩⟩⟩
    obtain ⟨-, s2, x2⟩ := exv_facts (C := c 2) n2 k2 nd2 de2 m2
    obtain ⟨S3, h3, r3⟩ := step1 ht S2 h2 r2 s2 x2
    refine ⟨t, _, _, rfl, rfl, s2 _ _ h2, (by show 2 < sizeLine; decide), ?_⟩
    refine ⟨_, rfl, .inl ⟨rfl, _, SqL.of h3⟩, _, rfl, _, rfl, (by show 2 ≤ 1000; decide), fun a3 n3 => ⟨a3, v, u, rfl, E.m3.ox, (E.no 3 (by decide) _ (by decide +kernel)), (E.no 3 (by decide) _ (by decide +kernel)), upd_same, fun H3 k3 ⟨d3, de3, nd3, y3, z3⟩ => ⟨rfl, d3, _, y3, z3, (upd_ne de3).symm.trans nd3, fun b3 m3 => ?_⟩⟩⟩
    obtain ⟨-, s3, x3⟩ := exv_facts (C := c 3) n3 k3 nd3 de3 m3
    obtain ⟨S4, h4, r4⟩ := step1 ht S3 h3 r3 s3 x3
    refine ⟨t, _, _, rfl, rfl, s3 _ _ h3, (by show 3 < sizeLine; decide), ?_⟩
    refine ⟨_, rfl, .inl ⟨rfl, _, SqL.of h4⟩, _, rfl, (by show 1 ≤ 1000; decide), fun a4 n4 => ⟨a4, v, rfl, E.m4.ox, (E.no 4 (by decide) _ (by decide +kernel)), upd_same, fun H4 k4 ⟨d4, de4, nd4, y4, z4⟩ => ⟨rfl, d4, _, y4, z4, (upd_ne de4).symm.trans nd4, fun b4 m4 => ?_⟩⟩⟩
    obtain ⟨-, s4, x4⟩ := exv_facts (C := c 4) n4 k4 nd4 de4 m4
    obtain ⟨S5, h5, r5⟩ := step1 ht S4 h4 r4 s4 x4
    refine ⟨t, _, _, rfl, rfl, s4 _ _ h4, (by show 4 < sizeLine; decide), ?_⟩
    refine ⟨_, rfl, .inl ⟨rfl, _, SqL.of h5⟩, _, rfl, (by show 1 ≤ 1000; decide), fun a5 n5 => ⟨a5, v, rfl, E.m5.ox, (E.no 5 (by decide) _ (by decide +kernel)), upd_same, fun H5 k5 ⟨d5, de5, nd5, y5, z5⟩ => ⟨rfl, d5, _, y5, z5, (upd_ne de5).symm.trans nd5, fun b5 m5 => ?_⟩⟩⟩
    obtain ⟨-, s5, x5⟩ := exv_facts (C := c 5) n5 k5 nd5 de5 m5
    obtain ⟨S6, h6, r6⟩ := step1 ht S5 h5 r5 s5 x5
    refine ⟨t, _, _, rfl, rfl, s5 _ _ h5, (by show 5 < sizeLine; decide), ?_⟩
    refine ⟨_, rfl, .inl ⟨rfl, _, SqL.of h6⟩, fun a6 n6 => ?_⟩
    obtain ⟨s6, x6⟩ := exat_new (C := c 6) n6
    obtain ⟨S7, h7, r7⟩ := step1 ht S6 h6 r6 s6 x6
    refine ⟨t, _, _, rfl, rfl, s6 _ _ h6, (by show 6 < sizeLine; decide), ?_⟩
    refine ⟨_, rfl, .inl ⟨rfl, _, SqL.of h7⟩, _, rfl, (by show 1 ≤ 1000; decide), fun a7 n7 => ⟨a7, v, rfl, E.m7.ox, (E.no 7 (by decide) _ (by decide +kernel)), upd_same, fun H7 k7 ⟨d7, de7, nd7, y7, z7⟩ => ⟨rfl, d7, _, y7, z7, (upd_ne de7).symm.trans nd7, fun b7 m7 => ?_⟩⟩⟩
    obtain ⟨-, s7, x7⟩ := exv_facts (C := c 7) n7 k7 nd7 de7 m7
    obtain ⟨S8, h8, r8⟩ := step1 ht S7 h7 r7 s7 x7
    refine ⟨t, _, _, rfl, rfl, s7 _ _ h7, (by show 7 < sizeLine; decide), ?_⟩
    refine ⟨_, rfl, .inl ⟨rfl, _, SqL.of h8⟩, fun a8 n8 => ?_⟩
    obtain ⟨s8, x8⟩ := exat_new (C := c 8) n8
    obtain ⟨S9, h9, r9⟩ := step1 ht S8 h8 r8 s8 x8
    refine ⟨t, _, _, rfl, rfl, s8 _ _ h8, (by show 8 < sizeLine; decide), ?_⟩
    refine ⟨_, rfl, .inl ⟨rfl, _, SqL.of h9⟩, _, rfl, (by show 1 ≤ 1000; decide), fun a9 n9 => ⟨a9, v, rfl, E.m9.ox, (E.no 9 (by decide) _ (by decide +kernel)), upd_same, fun H9 k9 ⟨d9, de9, nd9, y9, z9⟩ => ⟨rfl, d9, _, y9, z9, (upd_ne de9).symm.trans nd9, fun b9 m9 => ?_⟩⟩⟩
    obtain ⟨-, s9, x9⟩ := exv_facts (C := c 9) n9 k9 nd9 de9 m9
    obtain ⟨S10, h10, r10⟩ := step1 ht S9 h9 r9 s9 x9
    refine ⟨t, _, _, rfl, rfl, s9 _ _ h9, (by show 9 < sizeLine; decide), ?_⟩
    refine ⟨_, rfl, .inl ⟨rfl, _, SqL.of h10⟩, _, rfl, (by show 1 ≤ 1000; decide), fun a10 n10 => ⟨a10, v, rfl, E.m10.ox, (E.no 10 (by decide) _ (by decide +kernel)), upd_same, fun H10 k10 ⟨d10, de10, nd10, y10, z10⟩ => ⟨rfl, d10, _, y10, z10, (upd_ne de10).symm.trans nd10, fun b10 m10 => ?_⟩⟩⟩
    obtain ⟨-, s10, x10⟩ := exv_facts (C := c 10) n10 k10 nd10 de10 m10
    obtain ⟨S11, h11, r11⟩ := step1 ht S10 h10 r10 s10 x10
    refine ⟨t, _, _, rfl, rfl, s10 _ _ h10, (by show 10 < sizeLine; decide), ?_⟩
    exact ⟨_, rfl, k t _ _ ht S11 h11 rfl r11⟩
theorem scMb : FnScope ["_law_first", "_law_second", "_law_told"] ["_law_first", "_law_second"] (defScope sMb) := ⟨rfl, rfl, rfl, by decide +kernel, rfl, by decide +kernel, by decide +kernel⟩
theorem ok_made_b (D : DefAt K mg "_law_made_b" sMb) (E : Ev P w K mg base c G) : Cal P w K mg base CX0 3 "_law_made_b" ["_law_first", "_law_second"] (spMade c 11 10) := by
  refine D.cal (fun _ _ _ _ _ _ us hl => match us, hl with | [_, _], _ => rfl) fun f fd F => ?_
  refine F.ok scMb (fun vs H Q E h => ?_) (fun cdv A outer s H vs Q E' hr2 h => ?_)
  · obtain ⟨v, u, rfl, _⟩ := h
    rfl
  · obtain ⟨v, u, rfl, k⟩ := h
    refine ⟨_, (pss_cons (ps_set (i := 2) scMb.nd rfl (Or.inl rfl) (pe_lst pa_nil))
  (pss_cons (ps_expr (pe_bm PySem.F.plainAttrs_list PySem.F.slot_list_append PySem.F.type_list_append mt_append (pv 2) (pa_cons (pe_exv (pmk_N E.m11 (by rfl))) pa_nil)))
  (pss_cons (ps_expr (pe_bm PySem.F.plainAttrs_list PySem.F.slot_list_append PySem.F.type_list_append mt_append (pv 2) (pa_cons (pe_exv (pmk_E E.m12 (by rfl) hr2 (pa_cons (pv 0) pa_nil))) pa_nil)))
  (pss_cons (ps_expr (pe_bm PySem.F.plainAttrs_list PySem.F.slot_list_append PySem.F.type_list_append mt_append (pv 2) (pa_cons (pe_exv (pmk_E E.m13 (by rfl) hr2 (pa_cons (pv 0) pa_nil))) pa_nil)))
  (pss_cons (ps_expr (pe_bm PySem.F.plainAttrs_list PySem.F.slot_list_append PySem.F.type_list_append mt_append (pv 2) (pa_cons (pe_exv (pmk_N E.m14 (by rfl))) pa_nil)))
  (pss_cons (ps_expr (pe_bm PySem.F.plainAttrs_list PySem.F.slot_list_append PySem.F.type_list_append mt_append (pv 2) (pa_cons (pe_exv (pmk_E E.m15 (by rfl) hr2 (pa_cons (pv 0) pa_nil))) pa_nil)))
  (pss_cons (ps_expr (pe_bm PySem.F.plainAttrs_list PySem.F.slot_list_append PySem.F.type_list_append mt_append (pv 2) (pa_cons (pe_exv (pmk_N E.m16 (by rfl))) pa_nil)))
  (pss_cons (ps_expr (pe_bm PySem.F.plainAttrs_list PySem.F.slot_list_append PySem.F.type_list_append mt_append (pv 2) (pa_cons (pe_exv (pmk_E E.m17 (by rfl) hr2 (pa_cons (pv 0) pa_nil))) pa_nil)))
  (pss_cons (ps_expr (pe_bm PySem.F.plainAttrs_list PySem.F.slot_list_append PySem.F.type_list_append mt_append (pv 2) (pa_cons (pe_exv (pmk_E E.m18 (by rfl) hr2 (pa_cons (pv 0) (pa_cons (pv 1) pa_nil)))) pa_nil)))
  (pss_cons (ps_expr (pe_bm PySem.F.plainAttrs_list PySem.F.slot_list_append PySem.F.type_list_append mt_append (pv 2) (pa_cons (pe_exv (pmk_E E.m19 (by rfl) hr2 (pa_cons (pv 0) pa_nil))) pa_nil)))
  (pss_cons (ps_expr (pe_bm PySem.F.plainAttrs_list PySem.F.slot_list_append PySem.F.type_list_append mt_append (pv 2) (pa_cons (pe_exv (pmk_E E.m20 (by rfl) hr2 (pa_cons (pv 0) pa_nil))) pa_nil)))
  (pss_one (ps_ret (pv 2)))))))))))))), ?_⟩
    refine ⟨(by show 0 ≤ sizeLine; exact Nat.zero_le _), fun t ht => ?_⟩
    have h0 : upd H t (.lst []) t = some (.lst (([] : List Addr).map V.ref)) := upd_same
    have S0 : Same H (upd H t (.lst [])) := same_upd (Same.refl H) ht
    have r0 : Row (upd H t (.lst [])) c v u 11 [] := fun j a hj => nomatch hj
    refine ⟨_, rfl, .inl ⟨rfl, _, SqL.of h0⟩, fun a0 n0 => ?_⟩
    obtain ⟨s0, x0⟩ := exat_new (C := c 11) n0
    obtain ⟨S1, h1, r1⟩ := step1 ht S0 h0 r0 s0 x0
    refine ⟨t, _, _, rfl, rfl, s0 _ _ h0, (by show 0 < sizeLine; decide), ?_⟩
    refine ⟨_, rfl, .inl ⟨rfl, _, SqL.of h1⟩, _, rfl, (by show 1 ≤ 1000; decide), fun a1 n1 => ⟨a1, v, rfl, E.m12.ox, (E.no 12 (by decide) _ (by decide +kernel)), upd_same, fun H1 k1 ⟨d1, de1, nd1, y1, z1⟩ => ⟨rfl, d1, _, y1, z1, (upd_ne de1).symm.trans nd1, fun b1 m1 => ?_⟩⟩⟩
    obtain ⟨-, s1, x1⟩ := exv_facts (C := c 12) n1 k1 nd1 de1 m1
    obtain ⟨S2, h2, r2⟩ := step1 ht S1 h1 r1 s1 x1
    refine ⟨t, _, _, rfl, rfl, s1 _ _ h1, (by show 1 < sizeLine; decide), ?_⟩
    refine ⟨_, rfl, .inl ⟨rfl, _, SqL.of h2⟩, _, rfl, (by show 1 ≤ 1000; decide), fun a2 n2 => ⟨a2, v, rfl, E.m13.ox, (E.no 13 (by decide) _ (by decide +kernel)), upd_same, fun H2 k2 ⟨d2, de2, nd2, y2, z2⟩ => ⟨rfl, d2, _, y2, z2, (upd_ne de2).symm.trans nd2, fun b2 m2 => ?_⟩⟩⟩
    obtain ⟨-, s2, x2⟩ := exv_facts (C := c 13) n2 k2 nd2 de2 m2
    obtain ⟨S3, h3, r3⟩ := step1 ht S2 h2 r2 s2 x2
    refine ⟨t, _, _, rfl, rfl, s2 _ _ h2, (by show 2 < sizeLine; decide), ?_⟩
    refine ⟨_, rfl, .inl ⟨rfl, _, SqL.of h3⟩, fun a3 n3 => ?_⟩
    obtain ⟨s3, x3⟩ := exat_new (C := c 14) n3
    obtain ⟨S4, h4, r4⟩ := step1 ht S3 h3 r3 s3 x3
    refine ⟨t, _, _, rfl, rfl, s3 _ _ h3, (by show 3 < sizeLine; decide), ?_⟩
    refine ⟨_, rfl, .inl ⟨rfl, _, SqL.of h4⟩, _, rfl, (by show 1 ≤ 1000; decide), fun a4 n4 => ⟨a4, v, rfl, E.m15.ox, (E.no 15 (by decide) _ (by decide +kernel)), upd_same, fun H4 k4 ⟨d4, de4, nd4, y4, z4⟩ => ⟨rfl, d4, _, y4, z4, (upd_ne de4).symm.trans nd4, fun b4 m4 => ?_⟩⟩⟩
    obtain ⟨-, s4, x4⟩ := exv_facts (C := c 15) n4 k4 nd4 de4 m4
    obtain ⟨S5, h5, r5⟩ := step1 ht S4 h4 r4 s4 x4
    refine ⟨t, _, _, rfl, rfl, s4 _ _ h4, (by show 4 < sizeLine; decide), ?_⟩
    refine ⟨_, rfl, .inl ⟨rfl, _, SqL.of h5⟩, fun a5 n5 => ?_⟩
    obtain ⟨s5, x5⟩ := exat_new (C := c 16) n5
    obtain ⟨S6, h6, r6⟩ := step1 ht S5 h5 r5 s5 x5
    refine ⟨t, _, _, rfl, rfl, s5 _ _ h5, (by show 5 < sizeLine; decide), ?_⟩
    refine ⟨_, rfl, .inl ⟨rfl, _, SqL.of h6⟩, _, rfl, (by show 1 ≤ 1000; decide), fun a6 n6 => ⟨a6, v, rfl, E.m17.ox, (E.no 17 (by decide) _ (by decide +kernel)), upd_same, fun H6 k6 ⟨d6, de6, nd6, y6, z6⟩ => ⟨rfl, d6, _, y6, z6, (upd_ne de6).symm.trans nd6, fun b6 m6 => ?_⟩⟩⟩
    obtain ⟨-, s6, x6⟩ := exv_facts (C := c 17) n6 k6 nd6 de6 m6
    obtain ⟨S7, h7, r7⟩ := step1 ht S6 h6 r6 s6 x6
    refine ⟨t, _, _, rfl, rfl, s6 _ _ h6, (by show 6 < sizeLine; decide), ?_⟩
    refine ⟨_, rfl, .inl ⟨rfl, _, SqL.of h7⟩, _, rfl, _, rfl, (by show 2 ≤ 1000; decide), fun a7 n7 => ⟨a7, v, u, rfl, E.m18.ox, (E.no 18 (by decide) _ (by decide +kernel)), (E.no 18 (by decide) _ (by decide +kernel)), upd_same, fun H7 k7 ⟨d7, de7, nd7, y7, z7⟩ => ⟨rfl, d7, _, y7, z7, (upd_ne de7).symm.trans nd7, fun b7 m7 => ?_⟩⟩⟩
    obtain ⟨-, s7, x7⟩ := exv_facts (C := c 18) n7 k7 nd7 de7 m7
    obtain ⟨S8, h8, r8⟩ := step1 ht S7 h7 r7 s7 x7
    refine ⟨t, _, _, rfl, rfl, s7 _ _ h7, (by show 7 < sizeLine; decide), ?_⟩
    refine ⟨_, rfl, .inl ⟨rfl, _, SqL.of h8⟩, _, rfl, (by show 1 ≤ 1000; decide), fun a8 n8 => ⟨a8, v, rfl, E.m19.ox, (E.no 19 (by decide) _ (by decide +kernel)), upd_same, fun H8 k8 ⟨d8, de8, nd8, y8, z8⟩ => ⟨rfl, d8, _, y8, z8, (upd_ne de8).symm.trans nd8, fun b8 m8 => ?_⟩⟩⟩
    obtain ⟨-, s8, x8⟩ := exv_facts (C := c 19) n8 k8 nd8 de8 m8
    obtain ⟨S9, h9, r9⟩ := step1 ht S8 h8 r8 s8 x8
    refine ⟨t, _, _, rfl, rfl, s8 _ _ h8, (by show 8 < sizeLine; decide), ?_⟩
    refine ⟨_, rfl, .inl ⟨rfl, _, SqL.of h9⟩, _, rfl, (by show 1 ≤ 1000; decide), fun a9 n9 => ⟨a9, v, rfl, E.m20.ox, (E.no 20 (by decide) _ (by decide +kernel)), upd_same, fun H9 k9 ⟨d9, de9, nd9, y9, z9⟩ => ⟨rfl, d9, _, y9, z9, (upd_ne de9).symm.trans nd9, fun b9 m9 => ?_⟩⟩⟩
    obtain ⟨-, s9, x9⟩ := exv_facts (C := c 20) n9 k9 nd9 de9 m9
    obtain ⟨S10, h10, r10⟩ := step1 ht S9 h9 r9 s9 x9
    refine ⟨t, _, _, rfl, rfl, s9 _ _ h9, (by show 9 < sizeLine; decide), ?_⟩
    exact ⟨_, rfl, k t _ _ ht S10 h10 rfl r10⟩
theorem scMc : FnScope ["_law_first", "_law_second", "_law_told"] ["_law_first", "_law_second"] (defScope sMc) := ⟨rfl, rfl, rfl, by decide +kernel, rfl, by decide +kernel, by decide +kernel⟩
theorem ok_made_c (D : DefAt K mg "_law_made_c" sMc) (E : Ev P w K mg base c G) : Cal P w K mg base CX0 3 "_law_made_c" ["_law_first", "_law_second"] (spMade c 21 10) := by
  refine D.cal (fun _ _ _ _ _ _ us hl => match us, hl with | [_, _], _ => rfl) fun f fd F => ?_
  refine F.ok scMc (fun vs H Q E h => ?_) (fun cdv A outer s H vs Q E' hr2 h => ?_)
  · obtain ⟨v, u, rfl, _⟩ := h
    rfl
  · obtain ⟨v, u, rfl, k⟩ := h
    refine ⟨_, (pss_cons (ps_set (i := 2) scMc.nd rfl (Or.inl rfl) (pe_lst pa_nil))
  (pss_cons (ps_expr (pe_bm PySem.F.plainAttrs_list PySem.F.slot_list_append PySem.F.type_list_append mt_append (pv 2) (pa_cons (pe_exv (pmk_N E.m21 (by rfl))) pa_nil)))
  (pss_cons (ps_expr (pe_bm PySem.F.plainAttrs_list PySem.F.slot_list_append PySem.F.type_list_append mt_append (pv 2) (pa_cons (pe_exv (pmk_E E.m22 (by rfl) hr2 (pa_cons (pv 0) pa_nil))) pa_nil)))
  (pss_cons (ps_expr (pe_bm PySem.F.plainAttrs_list PySem.F.slot_list_append PySem.F.type_list_append mt_append (pv 2) (pa_cons (pe_exv (pmk_E E.m23 (by rfl) hr2 (pa_cons (pv 0) pa_nil))) pa_nil)))
  (pss_cons (ps_expr (pe_bm PySem.F.plainAttrs_list PySem.F.slot_list_append PySem.F.type_list_append mt_append (pv 2) (pa_cons (pe_exv (pmk_N E.m24 (by rfl))) pa_nil)))
  (pss_cons (ps_expr (pe_bm PySem.F.plainAttrs_list PySem.F.slot_list_append PySem.F.type_list_append mt_append (pv 2) (pa_cons (pe_exv (pmk_E E.m25 (by rfl) hr2 (pa_cons (pv 0) pa_nil))) pa_nil)))
  (pss_cons (ps_expr (pe_bm PySem.F.plainAttrs_list PySem.F.slot_list_append PySem.F.type_list_append mt_append (pv 2) (pa_cons (pe_exv (pmk_E E.m26 (by rfl) hr2 (pa_cons (pv 0) (pa_cons (pv 1) pa_nil)))) pa_nil)))
  (pss_cons (ps_expr (pe_bm PySem.F.plainAttrs_list PySem.F.slot_list_append PySem.F.type_list_append mt_append (pv 2) (pa_cons (pe_exv (pmk_E E.m27 (by rfl) hr2 (pa_cons (pv 0) (pa_cons (pv 1) pa_nil)))) pa_nil)))
  (pss_cons (ps_expr (pe_bm PySem.F.plainAttrs_list PySem.F.slot_list_append PySem.F.type_list_append mt_append (pv 2) (pa_cons (pe_exv (pmk_E E.m28 (by rfl) hr2 (pa_cons (pv 0) pa_nil))) pa_nil)))
  (pss_cons (ps_expr (pe_bm PySem.F.plainAttrs_list PySem.F.slot_list_append PySem.F.type_list_append mt_append (pv 2) (pa_cons (pe_exv (pmk_E E.m29 (by rfl) hr2 (pa_cons (pv 0) pa_nil))) pa_nil)))
  (pss_cons (ps_expr (pe_bm PySem.F.plainAttrs_list PySem.F.slot_list_append PySem.F.type_list_append mt_append (pv 2) (pa_cons (pe_exv (pmk_N E.m30 (by rfl))) pa_nil)))
  (pss_one (ps_ret (pv 2)))))))))))))), ?_⟩
    refine ⟨(by show 0 ≤ sizeLine; exact Nat.zero_le _), fun t ht => ?_⟩
    have h0 : upd H t (.lst []) t = some (.lst (([] : List Addr).map V.ref)) := upd_same
    have S0 : Same H (upd H t (.lst [])) := same_upd (Same.refl H) ht
    have r0 : Row (upd H t (.lst [])) c v u 21 [] := fun j a hj => nomatch hj
    refine ⟨_, rfl, .inl ⟨rfl, _, SqL.of h0⟩, fun a0 n0 => ?_⟩
    obtain ⟨s0, x0⟩ := exat_new (C := c 21) n0
    obtain ⟨S1, h1, r1⟩ := step1 ht S0 h0 r0 s0 x0
    refine ⟨t, _, _, rfl, rfl, s0 _ _ h0, (by show 0 < sizeLine; decide), ?_⟩
    refine ⟨_, rfl, .inl ⟨rfl, _, SqL.of h1⟩, _, rfl, (by show 1 ≤ 1000; decide), fun a1 n1 => ⟨a1, v, rfl, E.m22.ox, (E.no 22 (by decide) _ (by decide +kernel)), upd_same, fun H1 k1 ⟨d1, de1, nd1, y1, z1⟩ => ⟨rfl, d1, _, y1, z1, (upd_ne de1).symm.trans nd1, fun b1 m1 => ?_⟩⟩⟩
    obtain ⟨-, s1, x1⟩ := exv_facts (C := c 22) n1 k1 nd1 de1 m1
    obtain ⟨S2, h2, r2⟩ := step1 ht S1 h1 r1 s1 x1
    refine ⟨t, _, _, rfl, rfl, s1 _ _ h1, (by show 1 < sizeLine; decide), ?_⟩
    refine ⟨_, rfl, .inl ⟨rfl, _, SqL.of h2⟩, _, rfl, (by show 1 ≤ 1000; decide), fun a2 n2 => ⟨a2, v, rfl, E.m23.ox, (E.no 23 (by decide) _ (by decide +kernel)), upd_same, fun H2 k2 ⟨d2, de2, nd2, y2, z2⟩ => ⟨rfl, d2, _, y2, z2, (upd_ne de2).symm.trans nd2, fun b2 m2 => ?_⟩⟩⟩
    obtain ⟨-, s2, x2⟩ := exv_facts (C := c 23) n2 k2 nd2 de2 m2
    obtain ⟨S3, h3, r3⟩ := step1 ht S2 h2 r2 s2 x2
    refine ⟨t, _, _, rfl, rfl, s2 _ _ h2, (by show 2 < sizeLine; decide), ?_⟩
    refine ⟨_, rfl, .inl ⟨rfl, _, SqL.of h3⟩, fun a3 n3 => ?_⟩
    obtain ⟨s3, x3⟩ := exat_new (C := c 24) n3
    obtain ⟨S4, h4, r4⟩ := step1 ht S3 h3 r3 s3 x3
    refine ⟨t, _, _, rfl, rfl, s3 _ _ h3, (by show 3 < sizeLine; decide), ?_⟩
    refine ⟨_, rfl, .inl ⟨rfl, _, SqL.of h4⟩, _, rfl, (by show 1 ≤ 1000; decide), fun a4 n4 => ⟨a4, v, rfl, E.m25.ox, (E.no 25 (by decide) _ (by decide +kernel)), upd_same, fun H4 k4 ⟨d4, de4, nd4, y4, z4⟩ => ⟨rfl, d4, _, y4, z4, (upd_ne de4).symm.trans nd4, fun b4 m4 => ?_⟩⟩⟩
    obtain ⟨-, s4, x4⟩ := exv_facts (C := c 25) n4 k4 nd4 de4 m4
    obtain ⟨S5, h5, r5⟩ := step1 ht S4 h4 r4 s4 x4
    refine ⟨t, _, _, rfl, rfl, s4 _ _ h4, (by show 4 < sizeLine; decide), ?_⟩
    refine ⟨_, rfl, .inl ⟨rfl, _, SqL.of h5⟩, _, rfl, _, rfl, (by show 2 ≤ 1000; decide), fun a5 n5 => ⟨a5, v, u, rfl, E.m26.ox, (E.no 26 (by decide) _ (by decide +kernel)), (E.no 26 (by decide) _ (by decide +kernel)), upd_same, fun H5 k5 ⟨d5, de5, nd5, y5, z5⟩ => ⟨rfl, d5, _, y5, z5, (upd_ne de5).symm.trans nd5, fun b5 m5 => ?_⟩⟩⟩
    obtain ⟨-, s5, x5⟩ := exv_facts (C := c 26) n5 k5 nd5 de5 m5
    obtain ⟨S6, h6, r6⟩ := step1 ht S5 h5 r5 s5 x5
    refine ⟨t, _, _, rfl, rfl, s5 _ _ h5, (by show 5 < sizeLine; decide), ?_⟩
    refine ⟨_, rfl, .inl ⟨rfl, _, SqL.of h6⟩, _, rfl, _, rfl, (by show 2 ≤ 1000; decide), fun a6 n6 => ⟨a6, v, u, rfl, E.m27.ox, (E.no 27 (by decide) _ (by decide +kernel)), (E.no 27 (by decide) _ (by decide +kernel)), upd_same, fun H6 k6 ⟨d6, de6, nd6, y6, z6⟩ => ⟨rfl, d6, _, y6, z6, (upd_ne de6).symm.trans nd6, fun b6 m6 => ?_⟩⟩⟩
    obtain ⟨-, s6, x6⟩ := exv_facts (C := c 27) n6 k6 nd6 de6 m6
    obtain ⟨S7, h7, r7⟩ := step1 ht S6 h6 r6 s6 x6
    refine ⟨t, _, _, rfl, rfl, s6 _ _ h6, (by show 6 < sizeLine; decide), ?_⟩
    refine ⟨_, rfl, .inl ⟨rfl, _, SqL.of h7⟩, _, rfl, (by show 1 ≤ 1000; decide), fun a7 n7 => ⟨a7, v, rfl, E.m28.ox, (E.no 28 (by decide) _ (by decide +kernel)), upd_same, fun H7 k7 ⟨d7, de7, nd7, y7, z7⟩ => ⟨rfl, d7, _, y7, z7, (upd_ne de7).symm.trans nd7, fun b7 m7 => ?_⟩⟩⟩
    obtain ⟨-, s7, x7⟩ := exv_facts (C := c 28) n7 k7 nd7 de7 m7
    obtain ⟨S8, h8, r8⟩ := step1 ht S7 h7 r7 s7 x7
    refine ⟨t, _, _, rfl, rfl, s7 _ _ h7, (by show 7 < sizeLine; decide), ?_⟩
    refine ⟨_, rfl, .inl ⟨rfl, _, SqL.of h8⟩, _, rfl, (by show 1 ≤ 1000; decide), fun a8 n8 => ⟨a8, v, rfl, E.m29.ox, (E.no 29 (by decide) _ (by decide +kernel)), upd_same, fun H8 k8 ⟨d8, de8, nd8, y8, z8⟩ => ⟨rfl, d8, _, y8, z8, (upd_ne de8).symm.trans nd8, fun b8 m8 => ?_⟩⟩⟩
    obtain ⟨-, s8, x8⟩ := exv_facts (C := c 29) n8 k8 nd8 de8 m8
    obtain ⟨S9, h9, r9⟩ := step1 ht S8 h8 r8 s8 x8
    refine ⟨t, _, _, rfl, rfl, s8 _ _ h8, (by show 8 < sizeLine; decide), ?_⟩
    refine ⟨_, rfl, .inl ⟨rfl, _, SqL.of h9⟩, fun a9 n9 => ?_⟩
    obtain ⟨s9, x9⟩ := exat_new (C := c 30) n9
    obtain ⟨S10, h10, r10⟩ := step1 ht S9 h9 r9 s9 x9
    refine ⟨t, _, _, rfl, rfl, s9 _ _ h9, (by show 9 < sizeLine; decide), ?_⟩
    exact ⟨_, rfl, k t _ _ ht S10 h10 rfl r10⟩
theorem scKa : FnScope ["_law_e", "_law_told"] ["_law_e"] (defScope sKa) := ⟨rfl, rfl, rfl, by decide +kernel, rfl, by decide +kernel, by decide +kernel⟩
theorem ok_kinds_a (D : DefAt K mg "_law_kinds_a" sKa) (E : Ev P w K mg base c G) : Cal P w K mg base CX0 1 "_law_kinds_a" ["_law_e"] (spKinds K c 0 11) := by
  refine D.cal (fun _ _ _ _ _ _ us hl => match us, hl with | [_], _ => rfl) fun f fd F => ?_
  refine F.ok scKa (fun vs H Q E h => ?_) (fun cdv A outer s H vs Q E' hr2 h => ?_)
  · obtain ⟨a, i, fs, rfl, _⟩ := h
    rfl
  · obtain ⟨a, i, fs, rfl, hi, xa, k⟩ := h
    refine ⟨_, (pss_cons (ps_set (i := 1) scKa.nd rfl (Or.inl rfl) (pe_lst pa_nil))
  (pss_cons (ps_expr (pe_bm PySem.F.plainAttrs_list PySem.F.slot_list_append PySem.F.type_list_append mt_append (pv 1) (pa_cons (pe_callB call_isO (by rfl) E.bt.isi (by decide +kernel) (pa_cons (pv 0) (pa_cons (pe_glob (v := .ref (c 0)) (by rfl) E.m0.gC rfl) pa_nil))) pa_nil)))
  (pss_cons (ps_expr (pe_bm PySem.F.plainAttrs_list PySem.F.slot_list_append PySem.F.type_list_append mt_append (pv 1) (pa_cons (pe_callB call_isO (by rfl) E.bt.isi (by decide +kernel) (pa_cons (pv 0) (pa_cons (pe_glob (v := .ref (c 1)) (by rfl) E.m1.gC rfl) pa_nil))) pa_nil)))
  (pss_cons (ps_expr (pe_bm PySem.F.plainAttrs_list PySem.F.slot_list_append PySem.F.type_list_append mt_append (pv 1) (pa_cons (pe_callB call_isO (by rfl) E.bt.isi (by decide +kernel) (pa_cons (pv 0) (pa_cons (pe_glob (v := .ref (c 2)) (by rfl) E.m2.gC rfl) pa_nil))) pa_nil)))
  (pss_cons (ps_expr (pe_bm PySem.F.plainAttrs_list PySem.F.slot_list_append PySem.F.type_list_append mt_append (pv 1) (pa_cons (pe_callB call_isO (by rfl) E.bt.isi (by decide +kernel) (pa_cons (pv 0) (pa_cons (pe_glob (v := .ref (c 3)) (by rfl) E.m3.gC rfl) pa_nil))) pa_nil)))
  (pss_cons (ps_expr (pe_bm PySem.F.plainAttrs_list PySem.F.slot_list_append PySem.F.type_list_append mt_append (pv 1) (pa_cons (pe_callB call_isO (by rfl) E.bt.isi (by decide +kernel) (pa_cons (pv 0) (pa_cons (pe_glob (v := .ref (c 4)) (by rfl) E.m4.gC rfl) pa_nil))) pa_nil)))
  (pss_cons (ps_expr (pe_bm PySem.F.plainAttrs_list PySem.F.slot_list_append PySem.F.type_list_append mt_append (pv 1) (pa_cons (pe_callB call_isO (by rfl) E.bt.isi (by decide +kernel) (pa_cons (pv 0) (pa_cons (pe_glob (v := .ref (c 5)) (by rfl) E.m5.gC rfl) pa_nil))) pa_nil)))
  (pss_cons (ps_expr (pe_bm PySem.F.plainAttrs_list PySem.F.slot_list_append PySem.F.type_list_append mt_append (pv 1) (pa_cons (pe_callB call_isO (by rfl) E.bt.isi (by decide +kernel) (pa_cons (pv 0) (pa_cons (pe_glob (v := .ref (c 6)) (by rfl) E.m6.gC rfl) pa_nil))) pa_nil)))
  (pss_cons (ps_expr (pe_bm PySem.F.plainAttrs_list PySem.F.slot_list_append PySem.F.type_list_append mt_append (pv 1) (pa_cons (pe_callB call_isO (by rfl) E.bt.isi (by decide +kernel) (pa_cons (pv 0) (pa_cons (pe_glob (v := .ref (c 7)) (by rfl) E.m7.gC rfl) pa_nil))) pa_nil)))
  (pss_cons (ps_expr (pe_bm PySem.F.plainAttrs_list PySem.F.slot_list_append PySem.F.type_list_append mt_append (pv 1) (pa_cons (pe_callB call_isO (by rfl) E.bt.isi (by decide +kernel) (pa_cons (pv 0) (pa_cons (pe_glob (v := .ref (c 8)) (by rfl) E.m8.gC rfl) pa_nil))) pa_nil)))
  (pss_cons (ps_expr (pe_bm PySem.F.plainAttrs_list PySem.F.slot_list_append PySem.F.type_list_append mt_append (pv 1) (pa_cons (pe_callB call_isO (by rfl) E.bt.isi (by decide +kernel) (pa_cons (pv 0) (pa_cons (pe_glob (v := .ref (c 9)) (by rfl) E.m9.gC rfl) pa_nil))) pa_nil)))
  (pss_cons (ps_expr (pe_bm PySem.F.plainAttrs_list PySem.F.slot_list_append PySem.F.type_list_append mt_append (pv 1) (pa_cons (pe_callB call_isO (by rfl) E.bt.isi (by decide +kernel) (pa_cons (pv 0) (pa_cons (pe_glob (v := .ref (c 10)) (by rfl) E.m10.gC rfl) pa_nil))) pa_nil)))
  (pss_one (ps_ret (pv 1))))))))))))))), ?_⟩
    refine ⟨(by show 0 ≤ sizeLine; exact Nat.zero_le _), fun t ht => ?_⟩
    have h0 : upd H t (.lst []) t = some (.lst []) := upd_same
    have s0 : Same H (upd H t (.lst [])) := same_upd (Same.refl H) ht
    have x0 : ExAt (upd H t (.lst [])) a (c i) fs := xa.same s0
    have ec := E.ex i hi
    refine ⟨_, rfl, .inl ⟨rfl, _, SqL.of h0⟩, _, rfl, a, c i, fs, _, _, _, rfl, x0, ec, .own (c 0), E.kit i 0 hi (by decide), ?_⟩
    refine ⟨t, _, _, rfl, rfl, h0, (by show 0 < sizeLine; decide), ?_⟩
    obtain ⟨s1, h1, x1⟩ := kstep (y := V.bl (decide (i = 0))) ht s0 h0 x0
    refine ⟨_, rfl, .inl ⟨rfl, _, SqL.of h1⟩, _, rfl, a, c i, fs, _, _, _, rfl, x1, ec, .own (c 1), E.kit i 1 hi (by decide), ?_⟩
    refine ⟨t, _, _, rfl, rfl, h1, (by show 1 < sizeLine; decide), ?_⟩
    obtain ⟨s2, h2, x2⟩ := kstep (y := V.bl (decide (i = 1))) ht s1 h1 x1
    refine ⟨_, rfl, .inl ⟨rfl, _, SqL.of h2⟩, _, rfl, a, c i, fs, _, _, _, rfl, x2, ec, .own (c 2), E.kit i 2 hi (by decide), ?_⟩
    refine ⟨t, _, _, rfl, rfl, h2, (by show 2 < sizeLine; decide), ?_⟩
    obtain ⟨s3, h3, x3⟩ := kstep (y := V.bl (decide (i = 2))) ht s2 h2 x2
    refine ⟨_, rfl, .inl ⟨rfl, _, SqL.of h3⟩, _, rfl, a, c i, fs, _, _, _, rfl, x3, ec, .own (c 3), E.kit i 3 hi (by decide), ?_⟩
    refine ⟨t, _, _, rfl, rfl, h3, (by show 3 < sizeLine; decide), ?_⟩
    obtain ⟨s4, h4, x4⟩ := kstep (y := V.bl (decide (i = 3))) ht s3 h3 x3
    refine ⟨_, rfl, .inl ⟨rfl, _, SqL.of h4⟩, _, rfl, a, c i, fs, _, _, _, rfl, x4, ec, .own (c 4), E.kit i 4 hi (by decide), ?_⟩
    refine ⟨t, _, _, rfl, rfl, h4, (by show 4 < sizeLine; decide), ?_⟩
    obtain ⟨s5, h5, x5⟩ := kstep (y := V.bl (decide (i = 4))) ht s4 h4 x4
    refine ⟨_, rfl, .inl ⟨rfl, _, SqL.of h5⟩, _, rfl, a, c i, fs, _, _, _, rfl, x5, ec, .own (c 5), E.kit i 5 hi (by decide), ?_⟩
    refine ⟨t, _, _, rfl, rfl, h5, (by show 5 < sizeLine; decide), ?_⟩
    obtain ⟨s6, h6, x6⟩ := kstep (y := V.bl (decide (i = 5))) ht s5 h5 x5
    refine ⟨_, rfl, .inl ⟨rfl, _, SqL.of h6⟩, _, rfl, a, c i, fs, _, _, _, rfl, x6, ec, .own (c 6), E.kit i 6 hi (by decide), ?_⟩
    refine ⟨t, _, _, rfl, rfl, h6, (by show 6 < sizeLine; decide), ?_⟩
    obtain ⟨s7, h7, x7⟩ := kstep (y := V.bl (decide (i = 6))) ht s6 h6 x6
    refine ⟨_, rfl, .inl ⟨rfl, _, SqL.of h7⟩, _, rfl, a, c i, fs, _, _, _, rfl, x7, ec, .own (c 7), E.kit i 7 hi (by decide), ?_⟩
    refine ⟨t, _, _, rfl, rfl, h7, (by show 7 < sizeLine; decide), ?_⟩
    obtain ⟨s8, h8, x8⟩ := kstep (y := V.bl (decide (i = 7))) ht s7 h7 x7
    refine ⟨_, rfl, .inl ⟨rfl, _, SqL.of h8⟩, _, rfl, a, c i, fs, _, _, _, rfl, x8, ec, .own (c 8), E.kit i 8 hi (by decide), ?_⟩
    refine ⟨t, _, _, rfl, rfl, h8, (by show 8 < sizeLine; decide), ?_⟩
    obtain ⟨s9, h9, x9⟩ := kstep (y := V.bl (decide (i = 8))) ht s8 h8 x8
    refine ⟨_, rfl, .inl ⟨rfl, _, SqL.of h9⟩, _, rfl, a, c i, fs, _, _, _, rfl, x9, ec, .own (c 9), E.kit i 9 hi (by decide), ?_⟩
    refine ⟨t, _, _, rfl, rfl, h9, (by show 9 < sizeLine; decide), ?_⟩
    obtain ⟨s10, h10, x10⟩ := kstep (y := V.bl (decide (i = 9))) ht s9 h9 x9
    refine ⟨_, rfl, .inl ⟨rfl, _, SqL.of h10⟩, _, rfl, a, c i, fs, _, _, _, rfl, x10, ec, .own (c 10), E.kit i 10 hi (by decide), ?_⟩
    refine ⟨t, _, _, rfl, rfl, h10, (by show 10 < sizeLine; decide), ?_⟩
    obtain ⟨s11, h11, x11⟩ := kstep (y := V.bl (decide (i = 10))) ht s10 h10 x10
    exact ⟨_, rfl, k t _ ht s11 h11⟩
theorem scKb : FnScope ["_law_e", "_law_told"] ["_law_e"] (defScope sKb) := ⟨rfl, rfl, rfl, by decide +kernel, rfl, by decide +kernel, by decide +kernel⟩
theorem ok_kinds_b (D : DefAt K mg "_law_kinds_b" sKb) (E : Ev P w K mg base c G) : Cal P w K mg base CX0 1 "_law_kinds_b" ["_law_e"] (spKinds K c 11 10) := by
  refine D.cal (fun _ _ _ _ _ _ us hl => match us, hl with | [_], _ => rfl) fun f fd F => ?_
  refine F.ok scKb (fun vs H Q E h => ?_) (fun cdv A outer s H vs Q E' hr2 h => ?_)
  · obtain ⟨a, i, fs, rfl, _⟩ := h
    rfl
  · obtain ⟨a, i, fs, rfl, hi, xa, k⟩ := h
    refine ⟨_, (pss_cons (ps_set (i := 1) scKb.nd rfl (Or.inl rfl) (pe_lst pa_nil))
  (pss_cons (ps_expr (pe_bm PySem.F.plainAttrs_list PySem.F.slot_list_append PySem.F.type_list_append mt_append (pv 1) (pa_cons (pe_callB call_isO (by rfl) E.bt.isi (by decide +kernel) (pa_cons (pv 0) (pa_cons (pe_glob (v := .ref (c 11)) (by rfl) E.m11.gC rfl) pa_nil))) pa_nil)))
  (pss_cons (ps_expr (pe_bm PySem.F.plainAttrs_list PySem.F.slot_list_append PySem.F.type_list_append mt_append (pv 1) (pa_cons (pe_callB call_isO (by rfl) E.bt.isi (by decide +kernel) (pa_cons (pv 0) (pa_cons (pe_glob (v := .ref (c 12)) (by rfl) E.m12.gC rfl) pa_nil))) pa_nil)))
  (pss_cons (ps_expr (pe_bm PySem.F.plainAttrs_list PySem.F.slot_list_append PySem.F.type_list_append mt_append (pv 1) (pa_cons (pe_callB call_isO (by rfl) E.bt.isi (by decide +kernel) (pa_cons (pv 0) (pa_cons (pe_glob (v := .ref (c 13)) (by rfl) E.m13.gC rfl) pa_nil))) pa_nil)))
  (pss_cons (ps_expr (pe_bm PySem.F.plainAttrs_list PySem.F.slot_list_append PySem.F.type_list_append mt_append (pv 1) (pa_cons (pe_callB call_isO (by rfl) E.bt.isi (by decide +kernel) (pa_cons (pv 0) (pa_cons (pe_glob (v := .ref (c 14)) (by rfl) E.m14.gC rfl) pa_nil))) pa_nil)))
  (pss_cons (ps_expr (pe_bm PySem.F.plainAttrs_list PySem.F.slot_list_append PySem.F.type_list_append mt_append (pv 1) (pa_cons (pe_callB call_isO (by rfl) E.bt.isi (by decide +kernel) (pa_cons (pv 0) (pa_cons (pe_glob (v := .ref (c 15)) (by rfl) E.m15.gC rfl) pa_nil))) pa_nil)))
  (pss_cons (ps_expr (pe_bm PySem.F.plainAttrs_list PySem.F.slot_list_append PySem.F.type_list_append mt_append (pv 1) (pa_cons (pe_callB call_isO (by rfl) E.bt.isi (by decide +kernel) (pa_cons (pv 0) (pa_cons (pe_glob (v := .ref (c 16)) (by rfl) E.m16.gC rfl) pa_nil))) pa_nil)))
  (pss_cons (ps_expr (pe_bm PySem.F.plainAttrs_list PySem.F.slot_list_append PySem.F.type_list_append mt_append (pv 1) (pa_cons (pe_callB call_isO (by rfl) E.bt.isi (by decide +kernel) (pa_cons (pv 0) (pa_cons (pe_glob (v := .ref (c 17)) (by rfl) E.m17.gC rfl) pa_nil))) pa_nil)))
  (pss_cons (ps_expr (pe_bm PySem.F.plainAttrs_list PySem.F.slot_list_append PySem.F.type_list_append mt_append (pv 1) (pa_cons (pe_callB call_isO (by rfl) E.bt.isi (by decide +kernel) (pa_cons (pv 0) (pa_cons (pe_glob (v := .ref (c 18)) (by rfl) E.m18.gC rfl) pa_nil))) pa_nil)))
  (pss_cons (ps_expr (pe_bm PySem.F.plainAttrs_list PySem.F.slot_list_append PySem.F.type_list_append mt_append (pv 1) (pa_cons (pe_callB call_isO (by rfl) E.bt.isi (by decide +kernel) (pa_cons (pv 0) (pa_cons (pe_glob (v := .ref (c 19)) (by rfl) E.m19.gC rfl) pa_nil))) pa_nil)))
  (pss_cons (ps_expr (pe_bm PySem.F.plainAttrs_list PySem.F.slot_list_append PySem.F.type_list_append mt_append (pv 1) (pa_cons (pe_callB call_isO (by rfl) E.bt.isi (by decide +kernel) (pa_cons (pv 0) (pa_cons (pe_glob (v := .ref (c 20)) (by rfl) E.m20.gC rfl) pa_nil))) pa_nil)))
  (pss_one (ps_ret (pv 1)))))))))))))), ?_⟩
    refine ⟨(by show 0 ≤ sizeLine; exact Nat.zero_le _), fun t ht => ?_⟩
    have h0 : upd H t (.lst []) t = some (.lst []) := upd_same
    have s0 : Same H (upd H t (.lst [])) := same_upd (Same.refl H) ht
    have x0 : ExAt (upd H t (.lst [])) a (c i) fs := xa.same s0
    have ec := E.ex i hi
    refine ⟨_, rfl, .inl ⟨rfl, _, SqL.of h0⟩, _, rfl, a, c i, fs, _, _, _, rfl, x0, ec, .own (c 11), E.kit i 11 hi (by decide), ?_⟩
    refine ⟨t, _, _, rfl, rfl, h0, (by show 0 < sizeLine; decide), ?_⟩
    obtain ⟨s1, h1, x1⟩ := kstep (y := V.bl (decide (i = 11))) ht s0 h0 x0
    refine ⟨_, rfl, .inl ⟨rfl, _, SqL.of h1⟩, _, rfl, a, c i, fs, _, _, _, rfl, x1, ec, .own (c 12), E.kit i 12 hi (by decide), ?_⟩
    refine ⟨t, _, _, rfl, rfl, h1, (by show 1 < sizeLine; decide), ?_⟩
    obtain ⟨s2, h2, x2⟩ := kstep (y := V.bl (decide (i = 12))) ht s1 h1 x1
    refine ⟨_, rfl, .inl ⟨rfl, _, SqL.of h2⟩, _, rfl, a, c i, fs, _, _, _, rfl, x2, ec, .own (c 13), E.kit i 13 hi (by decide), ?_⟩
    refine ⟨t, _, _, rfl, rfl, h2, (by show 2 < sizeLine; decide), ?_⟩
    obtain ⟨s3, h3, x3⟩ := kstep (y := V.bl (decide (i = 13))) ht s2 h2 x2
    refine ⟨_, rfl, .inl ⟨rfl, _, SqL.of h3⟩, _, rfl, a, c i, fs, _, _, _, rfl, x3, ec, .own (c 14), E.kit i 14 hi (by decide), ?_⟩
    refine ⟨t, _, _, rfl, rfl, h3, (by show 3 < sizeLine; decide), ?_⟩
    obtain ⟨s4, h4, x4⟩ := kstep (y := V.bl (decide (i = 14))) ht s3 h3 x3
    refine ⟨_, rfl, .inl ⟨rfl, _, SqL.of h4⟩, _, rfl, a, c i, fs, _, _, _, rfl, x4, ec, .own (c 15), E.kit i 15 hi (by decide), ?_⟩
    refine ⟨t, _, _, rfl, rfl, h4, (by show 4 < sizeLine; decide), ?_⟩
    obtain ⟨s5, h5, x5⟩ := kstep (y := V.bl (decide (i = 15))) ht s4 h4 x4
    refine ⟨_, rfl, .inl ⟨rfl, _, SqL.of h5⟩, _, rfl, a, c i, fs, _, _, _, rfl, x5, ec, .own (c 16), E.kit i 16 hi (by decide), ?_⟩
    refine ⟨t, _, _, rfl, rfl, h5, (by show 5 < sizeLine; decide), ?_⟩
    obtain ⟨s6, h6, x6⟩ := kstep (y := V.bl (decide (i = 16))) ht s5 h5 x5
    refine ⟨_, rfl, .inl ⟨rfl, _, SqL.of h6⟩, _, rfl, a, c i, fs, _, _, _, rfl, x6, ec, .own (c 17), E.kit i 17 hi (by decide), ?_⟩
    refine ⟨t, _, _, rfl, rfl, h6, (by show 6 < sizeLine; decide), ?_⟩
    obtain ⟨s7, h7, x7⟩ := kstep (y := V.bl (decide (i = 17))) ht s6 h6 x6
    refine ⟨_, rfl, .inl ⟨rfl, _, SqL.of h7⟩, _, rfl, a, c i, fs, _, _, _, rfl, x7, ec, .own (c 18), E.kit i 18 hi (by decide), ?_⟩
    refine ⟨t, _, _, rfl, rfl, h7, (by show 7 < sizeLine; decide), ?_⟩
    obtain ⟨s8, h8, x8⟩ := kstep (y := V.bl (decide (i = 18))) ht s7 h7 x7
    refine ⟨_, rfl, .inl ⟨rfl, _, SqL.of h8⟩, _, rfl, a, c i, fs, _, _, _, rfl, x8, ec, .own (c 19), E.kit i 19 hi (by decide), ?_⟩
    refine ⟨t, _, _, rfl, rfl, h8, (by show 8 < sizeLine; decide), ?_⟩
    obtain ⟨s9, h9, x9⟩ := kstep (y := V.bl (decide (i = 19))) ht s8 h8 x8
    refine ⟨_, rfl, .inl ⟨rfl, _, SqL.of h9⟩, _, rfl, a, c i, fs, _, _, _, rfl, x9, ec, .own (c 20), E.kit i 20 hi (by decide), ?_⟩
    refine ⟨t, _, _, rfl, rfl, h9, (by show 9 < sizeLine; decide), ?_⟩
    obtain ⟨s10, h10, x10⟩ := kstep (y := V.bl (decide (i = 20))) ht s9 h9 x9
    exact ⟨_, rfl, k t _ ht s10 h10⟩
theorem scKc : FnScope ["_law_e", "_law_told"] ["_law_e"] (defScope sKc) := ⟨rfl, rfl, rfl, by decide +kernel, rfl, by decide +kernel, by decide +kernel⟩
theorem ok_kinds_c (D : DefAt K mg "_law_kinds_c" sKc) (E : Ev P w K mg base c G) : Cal P w K mg base CX0 1 "_law_kinds_c" ["_law_e"] (spKinds K c 21 10) := by
  refine D.cal (fun _ _ _ _ _ _ us hl => match us, hl with | [_], _ => rfl) fun f fd F => ?_
  refine F.ok scKc (fun vs H Q E h => ?_) (fun cdv A outer s H vs Q E' hr2 h => ?_)
  · obtain ⟨a, i, fs, rfl, _⟩ := h
    rfl
  · obtain ⟨a, i, fs, rfl, hi, xa, k⟩ := h
    refine ⟨_, (pss_cons (ps_set (i := 1) scKc.nd rfl (Or.inl rfl) (pe_lst pa_nil))
  (pss_cons (ps_expr (pe_bm PySem.F.plainAttrs_list PySem.F.slot_list_append PySem.F.type_list_append mt_append (pv 1) (pa_cons (pe_callB call_isO (by rfl) E.bt.isi (by decide +kernel) (pa_cons (pv 0) (pa_cons (pe_glob (v := .ref (c 21)) (by rfl) E.m21.gC rfl) pa_nil))) pa_nil)))
  (pss_cons (ps_expr (pe_bm PySem.F.plainAttrs_list PySem.F.slot_list_append PySem.F.type_list_append mt_append (pv 1) (pa_cons (pe_callB call_isO (by rfl) E.bt.isi (by decide +kernel) (pa_cons (pv 0) (pa_cons (pe_glob (v := .ref (c 22)) (by rfl) E.m22.gC rfl) pa_nil))) pa_nil)))
  (pss_cons (ps_expr (pe_bm PySem.F.plainAttrs_list PySem.F.slot_list_append PySem.F.type_list_append mt_append (pv 1) (pa_cons (pe_callB call_isO (by rfl) E.bt.isi (by decide +kernel) (pa_cons (pv 0) (pa_cons (pe_glob (v := .ref (c 23)) (by rfl) E.m23.gC rfl) pa_nil))) pa_nil)))
  (pss_cons (ps_expr (pe_bm PySem.F.plainAttrs_list PySem.F.slot_list_append PySem.F.type_list_append mt_append (pv 1) (pa_cons (pe_callB call_isO (by rfl) E.bt.isi (by decide +kernel) (pa_cons (pv 0) (pa_cons (pe_glob (v := .ref (c 24)) (by rfl) E.m24.gC rfl) pa_nil))) pa_nil)))
  (pss_cons (ps_expr (pe_bm PySem.F.plainAttrs_list PySem.F.slot_list_append PySem.F.type_list_append mt_append (pv 1) (pa_cons (pe_callB call_isO (by rfl) E.bt.isi (by decide +kernel) (pa_cons (pv 0) (pa_cons (pe_glob (v := .ref (c 25)) (by rfl) E.m25.gC rfl) pa_nil))) pa_nil)))
  (pss_cons (ps_expr (pe_bm PySem.F.plainAttrs_list PySem.F.slot_list_append PySem.F.type_list_append mt_append (pv 1) (pa_cons (pe_callB call_isO (by rfl) E.bt.isi (by decide +kernel) (pa_cons (pv 0) (pa_cons (pe_glob (v := .ref (c 26)) (by rfl) E.m26.gC rfl) pa_nil))) pa_nil)))
  (pss_cons (ps_expr (pe_bm PySem.F.plainAttrs_list PySem.F.slot_list_append PySem.F.type_list_append mt_append (pv 1) (pa_cons (pe_callB call_isO (by rfl) E.bt.isi (by decide +kernel) (pa_cons (pv 0) (pa_cons (pe_glob (v := .ref (c 27)) (by rfl) E.m27.gC rfl) pa_nil))) pa_nil)))
  (pss_cons (ps_expr (pe_bm PySem.F.plainAttrs_list PySem.F.slot_list_append PySem.F.type_list_append mt_append (pv 1) (pa_cons (pe_callB call_isO (by rfl) E.bt.isi (by decide +kernel) (pa_cons (pv 0) (pa_cons (pe_glob (v := .ref (c 28)) (by rfl) E.m28.gC rfl) pa_nil))) pa_nil)))
  (pss_cons (ps_expr (pe_bm PySem.F.plainAttrs_list PySem.F.slot_list_append PySem.F.type_list_append mt_append (pv 1) (pa_cons (pe_callB call_isO (by rfl) E.bt.isi (by decide +kernel) (pa_cons (pv 0) (pa_cons (pe_glob (v := .ref (c 29)) (by rfl) E.m29.gC rfl) pa_nil))) pa_nil)))
  (pss_cons (ps_expr (pe_bm PySem.F.plainAttrs_list PySem.F.slot_list_append PySem.F.type_list_append mt_append (pv 1) (pa_cons (pe_callB call_isO (by rfl) E.bt.isi (by decide +kernel) (pa_cons (pv 0) (pa_cons (pe_glob (v := .ref (c 30)) (by rfl) E.m30.gC rfl) pa_nil))) pa_nil)))
  (pss_one (ps_ret (pv 1)))))))))))))), ?_⟩
    refine ⟨(by show 0 ≤ sizeLine; exact Nat.zero_le _), fun t ht => ?_⟩
    have h0 : upd H t (.lst []) t = some (.lst []) := upd_same
    have s0 : Same H (upd H t (.lst [])) := same_upd (Same.refl H) ht
    have x0 : ExAt (upd H t (.lst [])) a (c i) fs := xa.same s0
    have ec := E.ex i hi
    refine ⟨_, rfl, .inl ⟨rfl, _, SqL.of h0⟩, _, rfl, a, c i, fs, _, _, _, rfl, x0, ec, .own (c 21), E.kit i 21 hi (by decide), ?_⟩
    refine ⟨t, _, _, rfl, rfl, h0, (by show 0 < sizeLine; decide), ?_⟩
    obtain ⟨s1, h1, x1⟩ := kstep (y := V.bl (decide (i = 21))) ht s0 h0 x0
    refine ⟨_, rfl, .inl ⟨rfl, _, SqL.of h1⟩, _, rfl, a, c i, fs, _, _, _, rfl, x1, ec, .own (c 22), E.kit i 22 hi (by decide), ?_⟩
    refine ⟨t, _, _, rfl, rfl, h1, (by show 1 < sizeLine; decide), ?_⟩
    obtain ⟨s2, h2, x2⟩ := kstep (y := V.bl (decide (i = 22))) ht s1 h1 x1
    refine ⟨_, rfl, .inl ⟨rfl, _, SqL.of h2⟩, _, rfl, a, c i, fs, _, _, _, rfl, x2, ec, .own (c 23), E.kit i 23 hi (by decide), ?_⟩
    refine ⟨t, _, _, rfl, rfl, h2, (by show 2 < sizeLine; decide), ?_⟩
    obtain ⟨s3, h3, x3⟩ := kstep (y := V.bl (decide (i = 23))) ht s2 h2 x2
    refine ⟨_, rfl, .inl ⟨rfl, _, SqL.of h3⟩, _, rfl, a, c i, fs, _, _, _, rfl, x3, ec, .own (c 24), E.kit i 24 hi (by decide), ?_⟩
    refine ⟨t, _, _, rfl, rfl, h3, (by show 3 < sizeLine; decide), ?_⟩
    obtain ⟨s4, h4, x4⟩ := kstep (y := V.bl (decide (i = 24))) ht s3 h3 x3
    refine ⟨_, rfl, .inl ⟨rfl, _, SqL.of h4⟩, _, rfl, a, c i, fs, _, _, _, rfl, x4, ec, .own (c 25), E.kit i 25 hi (by decide), ?_⟩
    refine ⟨t, _, _, rfl, rfl, h4, (by show 4 < sizeLine; decide), ?_⟩
    obtain ⟨s5, h5, x5⟩ := kstep (y := V.bl (decide (i = 25))) ht s4 h4 x4
    refine ⟨_, rfl, .inl ⟨rfl, _, SqL.of h5⟩, _, rfl, a, c i, fs, _, _, _, rfl, x5, ec, .own (c 26), E.kit i 26 hi (by decide), ?_⟩
    refine ⟨t, _, _, rfl, rfl, h5, (by show 5 < sizeLine; decide), ?_⟩
    obtain ⟨s6, h6, x6⟩ := kstep (y := V.bl (decide (i = 26))) ht s5 h5 x5
    refine ⟨_, rfl, .inl ⟨rfl, _, SqL.of h6⟩, _, rfl, a, c i, fs, _, _, _, rfl, x6, ec, .own (c 27), E.kit i 27 hi (by decide), ?_⟩
    refine ⟨t, _, _, rfl, rfl, h6, (by show 6 < sizeLine; decide), ?_⟩
    obtain ⟨s7, h7, x7⟩ := kstep (y := V.bl (decide (i = 27))) ht s6 h6 x6
    refine ⟨_, rfl, .inl ⟨rfl, _, SqL.of h7⟩, _, rfl, a, c i, fs, _, _, _, rfl, x7, ec, .own (c 28), E.kit i 28 hi (by decide), ?_⟩
    refine ⟨t, _, _, rfl, rfl, h7, (by show 7 < sizeLine; decide), ?_⟩
    obtain ⟨s8, h8, x8⟩ := kstep (y := V.bl (decide (i = 28))) ht s7 h7 x7
    refine ⟨_, rfl, .inl ⟨rfl, _, SqL.of h8⟩, _, rfl, a, c i, fs, _, _, _, rfl, x8, ec, .own (c 29), E.kit i 29 hi (by decide), ?_⟩
    refine ⟨t, _, _, rfl, rfl, h8, (by show 8 < sizeLine; decide), ?_⟩
    obtain ⟨s9, h9, x9⟩ := kstep (y := V.bl (decide (i = 29))) ht s8 h8 x8
    refine ⟨_, rfl, .inl ⟨rfl, _, SqL.of h9⟩, _, rfl, a, c i, fs, _, _, _, rfl, x9, ec, .own (c 30), E.kit i 30 hi (by decide), ?_⟩
    refine ⟨t, _, _, rfl, rfl, h9, (by show 9 < sizeLine; decide), ?_⟩
    obtain ⟨s10, h10, x10⟩ := kstep (y := V.bl (decide (i = 30))) ht s9 h9 x9
    exact ⟨_, rfl, k t _ ht s10 h10⟩
end


set_option Elab.async false
set_option linter.all false
set_option maxRecDepth 100000
set_option maxHeartbeats 8000000
open PySem L2


/-- a value of the law's menus, as data -/
inductive Pv (H : Hp) : V → PyData → Prop
  | int (i : Int) : Pv H (.int i) (.int i)
  | bl (b : Bool) : Pv H (.bl b) (.bool b)
  | non : Pv H .non .none
  | str (s : Str) (h : SeqAt.shaped (.str s) = true) : Pv H (.str s) (.str s)
  | tup {p : Addr} (a b : Int) (h : H p = some (.tup [.int a, .int b])) : Pv H (.ref p) (.tuple [.int a, .int b])
  | tu1 {p : Addr} (a : Int) (h : H p = some (.tup [.int a])) : Pv H (.ref p) (.tuple [.int a])
theorem Pv.same {H H' : Hp} {v : V} {d : PyData} (x : Pv H v d) (s : Same H H') : Pv H' v d := by
  cases x with
  | int i => exact .int i
  | bl b => exact .bl b
  | non => exact .non
  | str t h => exact .str t h
  | tup a b h => exact .tup a b (s _ _ h)
  | tu1 a h => exact .tu1 a (s _ _ h)
theorem Pv.dp {K : PySem.W.Frag} {H : Hp} {v : V} {d : PyData} (x : Pv H v d) : Dp K H v d := by
  cases x with
  | int i => exact .int i
  | bl b => exact .bl b
  | non => exact .non
  | str t h => exact .str t
  | tup a b h => exact .tup (SqT.of h) (.cons (.int a) (.cons (.int b) .nil))
  | tu1 a h => exact .tup (SqT.of h) (.cons (.int a) .nil)
theorem Pv.shaped {H : Hp} {v : V} {d : PyData} (x : Pv H v d) : SeqAt.shaped d = true := by
  cases x <;> first | assumption | rfl
theorem canLay_of {d : PyData} (h : SeqAt.shaped d = true) : d.canLay0 = true := (Bool.and_eq_true_iff.mp h).1
theorem iteT1 {c A B : Prop} [Decidable c] (hc : c) (h : A) : if c then A else B := by
  rw [if_pos hc]
  exact h
theorem iteF1 {c A B : Prop} [Decidable c] (hc : ¬ c) (h : B) : if c then A else B := by
  rw [if_neg hc]
  exact h
theorem Pv.refl {H : Hp} {v : V} {d : PyData} (x : Pv H v d) : PyData.eqv d d = true := PySem.SeqAt.eqv_refl d (canLay_of x.shaped)
def nfOf (i : Nat) : Nat := [1, 1, 1, 2, 1, 1, 0, 1, 0, 1, 1, 0, 1, 1, 0, 1, 0, 1, 2, 1, 1, 0, 1, 1, 0, 1, 2, 2, 1, 1, 0].getD i 0
def spKept (c : Nat → Addr) : Sp := fun vs H Q _ => ∃ (a : Addr) (i : Nat) (v u : V), vs = [.int i, .ref a] ∧ i < 31 ∧ ExAt H a (c i) (fsOf i v u) ∧ ∀ p H', Same H H' → H' p = some (.tup ([v, u].take (nfOf i))) → Q (.ref p) H'
def spRaised : Sp := fun vs H Q _ => ∃ (v u : V) (d e : PyData), vs = [v, u] ∧ Pv H v d ∧ Pv H u e ∧ ∀ H', Same H H' → Q (.bl true) H'
section
variable {P : Program} {w : World} {K : PySem.W.Frag} {mg : Str → Option Value} {base : Heap} {c : Nat → Addr} {G : Addr}
theorem scKept : FnScope ["_law_number", "_law_e"] ["_law_number", "_law_e"] (defScope sKept) := ⟨rfl, rfl, rfl, by decide +kernel, rfl, by decide +kernel, by decide +kernel⟩
theorem scRaised : FnScope ["_law_first", "_law_second", "_law_e"] ["_law_first", "_law_second"] (defScope sRaised) := ⟨rfl, rfl, rfl, by decide +kernel, rfl, by decide +kernel, by decide +kernel⟩
theorem ok_kept (D : DefAt K mg "_law_kept" sKept) (E : Ev P w K mg base c G) : Cal P w K mg base CX0 1 "_law_kept" ["_law_number", "_law_e"] (spKept c) := by
  refine D.cal (fun _ _ _ _ _ _ us hl => match us, hl with | [_, _], _ => rfl) fun f fd F => ?_
  refine F.ok scKept (fun vs H Q E h => ?_) (fun cdv A outer s H vs Q E' HR h => ?_)
  · obtain ⟨a, i, v, u, rfl, _⟩ := h
    rfl
  · obtain ⟨a, i, v, u, rfl, hi, xa, k⟩ := h
    refine ⟨_, (pss_cons (ps_if (pt_cmpR op_in_seq (pv 0) (pe_tup (pa_cons pe_int (pa_cons pe_int (pa_cons pe_int (pa_cons pe_int (pa_cons pe_int pa_nil)))))) (by rfl)) (pss_one (ps_ret (pe_tup (pa_cons (pe_oxf (pv 1)) pa_nil)))) pss_nil)
  (pss_cons (ps_if (pt_cmpR op_in_seq (pv 0) (pe_tup (pa_cons pe_int (pa_cons pe_int (pa_cons pe_int (pa_cons pe_int (pa_cons pe_int (pa_cons pe_int (pa_cons pe_int pa_nil)))))))) (by rfl)) (pss_one (ps_ret (pe_tup (pa_cons (pe_oxf (pv 1)) pa_nil)))) pss_nil)
  (pss_cons (ps_if (pt_cmpR op_in_seq (pv 0) (pe_tup (pa_cons pe_int pa_nil)) (by rfl)) (pss_one (ps_ret (pe_tup (pa_cons (pe_oxf (pv 1)) pa_nil)))) pss_nil)
  (pss_cons (ps_if (pt_cmpR op_in_seq (pv 0) (pe_tup (pa_cons pe_int pa_nil)) (by rfl)) (pss_one (ps_ret (pe_tup (pa_cons (pe_oxf (pv 1)) pa_nil)))) pss_nil)
  (pss_cons (ps_if (pt_cmpR op_in_seq (pv 0) (pe_tup (pa_cons pe_int pa_nil)) (by rfl)) (pss_one (ps_ret (pe_tup (pa_cons (pe_oxf (pv 1)) pa_nil)))) pss_nil)
  (pss_cons (ps_if (pt_cmpR op_in_seq (pv 0) (pe_tup (pa_cons pe_int pa_nil)) (by rfl)) (pss_one (ps_ret (pe_tup (pa_cons (pe_oxf (pv 1)) pa_nil)))) pss_nil)
  (pss_cons (ps_if (pt_cmpR op_in_seq (pv 0) (pe_tup (pa_cons pe_int pa_nil)) (by rfl)) (pss_one (ps_ret (pe_tup (pa_cons (pe_oxf (pv 1)) pa_nil)))) pss_nil)
  (pss_cons (ps_if (pt_cmpR op_in_seq (pv 0) (pe_tup (pa_cons pe_int (pa_cons pe_int pa_nil))) (by rfl)) (pss_one (ps_ret (pe_tup (pa_cons (pe_oxf (pv 1)) pa_nil)))) pss_nil)
  (pss_cons (ps_if (pt_cmpR op_in_seq (pv 0) (pe_tup (pa_cons pe_int (pa_cons pe_int pa_nil))) (by rfl)) (pss_one (ps_ret (pe_tup (pa_cons (pe_oxf (pv 1)) (pa_cons (pe_oxf (pv 1)) pa_nil))))) pss_nil)
  (pss_cons (ps_if (pt_cmpR op_eq (pv 0) pe_int (nomark _)) (pss_one (ps_ret (pe_tup (pa_cons (pe_oxf (pv 1)) (pa_cons (pe_oxf (pv 1)) pa_nil))))) pss_nil)
  (pss_one (ps_ret (pe_ifExp (pt_cmpR op_eq (pv 0) pe_int (nomark _)) (pe_tup (pa_cons (pe_oxf (pv 1)) (pa_cons (pe_oxf (pv 1)) pa_nil))) (pe_tup pa_nil)))))))))))))), ?_⟩
    walk_at "rd"
    have xf : XfC K (c i) := xf_of (E.ex i hi)
    have no := E.no i hi
    have sm : Same H H := Same.refl H
    rcases (by omega : i = 0 ∨ i = 1 ∨ i = 2 ∨ i = 3 ∨ i = 4 ∨ i = 5 ∨ i = 6 ∨ i = 7 ∨ i = 8 ∨ i = 9 ∨ i = 10 ∨ i = 11 ∨ i = 12 ∨ i = 13 ∨ i = 14 ∨ i = 15 ∨ i = 16 ∨ i = 17 ∨ i = 18 ∨ i = 19 ∨ i = 20 ∨ i = 21 ∨ i = 22 ∨ i = 23 ∨ i = 24 ∨ i = 25 ∨ i = 26 ∨ i = 27 ∨ i = 28 ∨ i = 29 ∨ i = 30) with rfl | rfl | rfl | rfl | rfl | rfl | rfl | rfl | rfl | rfl | rfl | rfl | rfl | rfl | rfl | rfl | rfl | rfl | rfl | rfl | rfl | rfl | rfl | rfl | rfl | rfl | rfl | rfl | rfl | rfl | rfl
    · refine ⟨by decide, fun p0 n0 => ⟨_, .inr (SqT.of upd_same), rfl, rfl, ?_⟩⟩
      replace sm := sm.trans (same_upd (o := .tup [V.int 0, V.int 1, V.int 4, V.int 15, V.int 23]) (Same.refl _) n0)
      refine iteT1 (by decide) ?_
      exact ⟨c 0, xf, no _ (by decide +kernel), _, xa.same sm, _, rfl, (by decide), fun p n => k p _ (sm.trans (same_upd (Same.refl _) n)) upd_same⟩
    · refine ⟨by decide, fun p0 n0 => ⟨_, .inr (SqT.of upd_same), rfl, rfl, ?_⟩⟩
      replace sm := sm.trans (same_upd (o := .tup [V.int 0, V.int 1, V.int 4, V.int 15, V.int 23]) (Same.refl _) n0)
      refine iteT1 (by decide) ?_
      exact ⟨c 1, xf, no _ (by decide +kernel), _, xa.same sm, _, rfl, (by decide), fun p n => k p _ (sm.trans (same_upd (Same.refl _) n)) upd_same⟩
    · refine ⟨by decide, fun p0 n0 => ⟨_, .inr (SqT.of upd_same), rfl, rfl, ?_⟩⟩
      replace sm := sm.trans (same_upd (o := .tup [V.int 0, V.int 1, V.int 4, V.int 15, V.int 23]) (Same.refl _) n0)
      refine iteF1 (by decide) ?_
      refine ⟨by decide, fun p1 n1 => ⟨_, .inr (SqT.of upd_same), rfl, rfl, ?_⟩⟩
      replace sm := sm.trans (same_upd (o := .tup [V.int 5, V.int 7, V.int 17, V.int 19, V.int 20, V.int 28, V.int 29]) (Same.refl _) n1)
      refine iteF1 (by decide) ?_
      refine ⟨by decide, fun p2 n2 => ⟨_, .inr (SqT.of upd_same), rfl, rfl, ?_⟩⟩
      replace sm := sm.trans (same_upd (o := .tup [V.int 9]) (Same.refl _) n2)
      refine iteF1 (by decide) ?_
      refine ⟨by decide, fun p3 n3 => ⟨_, .inr (SqT.of upd_same), rfl, rfl, ?_⟩⟩
      replace sm := sm.trans (same_upd (o := .tup [V.int 10]) (Same.refl _) n3)
      refine iteF1 (by decide) ?_
      refine ⟨by decide, fun p4 n4 => ⟨_, .inr (SqT.of upd_same), rfl, rfl, ?_⟩⟩
      replace sm := sm.trans (same_upd (o := .tup [V.int 12]) (Same.refl _) n4)
      refine iteF1 (by decide) ?_
      refine ⟨by decide, fun p5 n5 => ⟨_, .inr (SqT.of upd_same), rfl, rfl, ?_⟩⟩
      replace sm := sm.trans (same_upd (o := .tup [V.int 13]) (Same.refl _) n5)
      refine iteF1 (by decide) ?_
      refine ⟨by decide, fun p6 n6 => ⟨_, .inr (SqT.of upd_same), rfl, rfl, ?_⟩⟩
      replace sm := sm.trans (same_upd (o := .tup [V.int 22]) (Same.refl _) n6)
      refine iteF1 (by decide) ?_
      refine ⟨by decide, fun p7 n7 => ⟨_, .inr (SqT.of upd_same), rfl, rfl, ?_⟩⟩
      replace sm := sm.trans (same_upd (o := .tup [V.int 2, V.int 25]) (Same.refl _) n7)
      refine iteT1 (by decide) ?_
      exact ⟨c 2, xf, no _ (by decide +kernel), _, xa.same sm, _, rfl, (by decide), fun p n => k p _ (sm.trans (same_upd (Same.refl _) n)) upd_same⟩
    · refine ⟨by decide, fun p0 n0 => ⟨_, .inr (SqT.of upd_same), rfl, rfl, ?_⟩⟩
      replace sm := sm.trans (same_upd (o := .tup [V.int 0, V.int 1, V.int 4, V.int 15, V.int 23]) (Same.refl _) n0)
      refine iteF1 (by decide) ?_
      refine ⟨by decide, fun p1 n1 => ⟨_, .inr (SqT.of upd_same), rfl, rfl, ?_⟩⟩
      replace sm := sm.trans (same_upd (o := .tup [V.int 5, V.int 7, V.int 17, V.int 19, V.int 20, V.int 28, V.int 29]) (Same.refl _) n1)
      refine iteF1 (by decide) ?_
      refine ⟨by decide, fun p2 n2 => ⟨_, .inr (SqT.of upd_same), rfl, rfl, ?_⟩⟩
      replace sm := sm.trans (same_upd (o := .tup [V.int 9]) (Same.refl _) n2)
      refine iteF1 (by decide) ?_
      refine ⟨by decide, fun p3 n3 => ⟨_, .inr (SqT.of upd_same), rfl, rfl, ?_⟩⟩
      replace sm := sm.trans (same_upd (o := .tup [V.int 10]) (Same.refl _) n3)
      refine iteF1 (by decide) ?_
      refine ⟨by decide, fun p4 n4 => ⟨_, .inr (SqT.of upd_same), rfl, rfl, ?_⟩⟩
      replace sm := sm.trans (same_upd (o := .tup [V.int 12]) (Same.refl _) n4)
      refine iteF1 (by decide) ?_
      refine ⟨by decide, fun p5 n5 => ⟨_, .inr (SqT.of upd_same), rfl, rfl, ?_⟩⟩
      replace sm := sm.trans (same_upd (o := .tup [V.int 13]) (Same.refl _) n5)
      refine iteF1 (by decide) ?_
      refine ⟨by decide, fun p6 n6 => ⟨_, .inr (SqT.of upd_same), rfl, rfl, ?_⟩⟩
      replace sm := sm.trans (same_upd (o := .tup [V.int 22]) (Same.refl _) n6)
      refine iteF1 (by decide) ?_
      refine ⟨by decide, fun p7 n7 => ⟨_, .inr (SqT.of upd_same), rfl, rfl, ?_⟩⟩
      replace sm := sm.trans (same_upd (o := .tup [V.int 2, V.int 25]) (Same.refl _) n7)
      refine iteF1 (by decide) ?_
      refine ⟨by decide, fun p8 n8 => ⟨_, .inr (SqT.of upd_same), rfl, rfl, ?_⟩⟩
      replace sm := sm.trans (same_upd (o := .tup [V.int 3, V.int 26]) (Same.refl _) n8)
      refine iteT1 (by decide) ?_
      exact ⟨c 3, xf, no _ (by decide +kernel), _, xa.same sm, _, rfl, c 3, xf, no _ (by decide +kernel), _, xa.same sm, _, rfl, (by decide), fun p n => k p _ (sm.trans (same_upd (Same.refl _) n)) upd_same⟩
    · refine ⟨by decide, fun p0 n0 => ⟨_, .inr (SqT.of upd_same), rfl, rfl, ?_⟩⟩
      replace sm := sm.trans (same_upd (o := .tup [V.int 0, V.int 1, V.int 4, V.int 15, V.int 23]) (Same.refl _) n0)
      refine iteT1 (by decide) ?_
      exact ⟨c 4, xf, no _ (by decide +kernel), _, xa.same sm, _, rfl, (by decide), fun p n => k p _ (sm.trans (same_upd (Same.refl _) n)) upd_same⟩
    · refine ⟨by decide, fun p0 n0 => ⟨_, .inr (SqT.of upd_same), rfl, rfl, ?_⟩⟩
      replace sm := sm.trans (same_upd (o := .tup [V.int 0, V.int 1, V.int 4, V.int 15, V.int 23]) (Same.refl _) n0)
      refine iteF1 (by decide) ?_
      refine ⟨by decide, fun p1 n1 => ⟨_, .inr (SqT.of upd_same), rfl, rfl, ?_⟩⟩
      replace sm := sm.trans (same_upd (o := .tup [V.int 5, V.int 7, V.int 17, V.int 19, V.int 20, V.int 28, V.int 29]) (Same.refl _) n1)
      refine iteT1 (by decide) ?_
      exact ⟨c 5, xf, no _ (by decide +kernel), _, xa.same sm, _, rfl, (by decide), fun p n => k p _ (sm.trans (same_upd (Same.refl _) n)) upd_same⟩
    · refine ⟨by decide, fun p0 n0 => ⟨_, .inr (SqT.of upd_same), rfl, rfl, ?_⟩⟩
      replace sm := sm.trans (same_upd (o := .tup [V.int 0, V.int 1, V.int 4, V.int 15, V.int 23]) (Same.refl _) n0)
      refine iteF1 (by decide) ?_
      refine ⟨by decide, fun p1 n1 => ⟨_, .inr (SqT.of upd_same), rfl, rfl, ?_⟩⟩
      replace sm := sm.trans (same_upd (o := .tup [V.int 5, V.int 7, V.int 17, V.int 19, V.int 20, V.int 28, V.int 29]) (Same.refl _) n1)
      refine iteF1 (by decide) ?_
      refine ⟨by decide, fun p2 n2 => ⟨_, .inr (SqT.of upd_same), rfl, rfl, ?_⟩⟩
      replace sm := sm.trans (same_upd (o := .tup [V.int 9]) (Same.refl _) n2)
      refine iteF1 (by decide) ?_
      refine ⟨by decide, fun p3 n3 => ⟨_, .inr (SqT.of upd_same), rfl, rfl, ?_⟩⟩
      replace sm := sm.trans (same_upd (o := .tup [V.int 10]) (Same.refl _) n3)
      refine iteF1 (by decide) ?_
      refine ⟨by decide, fun p4 n4 => ⟨_, .inr (SqT.of upd_same), rfl, rfl, ?_⟩⟩
      replace sm := sm.trans (same_upd (o := .tup [V.int 12]) (Same.refl _) n4)
      refine iteF1 (by decide) ?_
      refine ⟨by decide, fun p5 n5 => ⟨_, .inr (SqT.of upd_same), rfl, rfl, ?_⟩⟩
      replace sm := sm.trans (same_upd (o := .tup [V.int 13]) (Same.refl _) n5)
      refine iteF1 (by decide) ?_
      refine ⟨by decide, fun p6 n6 => ⟨_, .inr (SqT.of upd_same), rfl, rfl, ?_⟩⟩
      replace sm := sm.trans (same_upd (o := .tup [V.int 22]) (Same.refl _) n6)
      refine iteF1 (by decide) ?_
      refine ⟨by decide, fun p7 n7 => ⟨_, .inr (SqT.of upd_same), rfl, rfl, ?_⟩⟩
      replace sm := sm.trans (same_upd (o := .tup [V.int 2, V.int 25]) (Same.refl _) n7)
      refine iteF1 (by decide) ?_
      refine ⟨by decide, fun p8 n8 => ⟨_, .inr (SqT.of upd_same), rfl, rfl, ?_⟩⟩
      replace sm := sm.trans (same_upd (o := .tup [V.int 3, V.int 26]) (Same.refl _) n8)
      refine iteF1 (by decide) ?_
      refine iteF1 (by decide) ?_
      refine iteF1 (by decide) ?_
      exact ⟨(by decide), fun p n => k p _ (sm.trans (same_upd (Same.refl _) n)) upd_same⟩
    · refine ⟨by decide, fun p0 n0 => ⟨_, .inr (SqT.of upd_same), rfl, rfl, ?_⟩⟩
      replace sm := sm.trans (same_upd (o := .tup [V.int 0, V.int 1, V.int 4, V.int 15, V.int 23]) (Same.refl _) n0)
      refine iteF1 (by decide) ?_
      refine ⟨by decide, fun p1 n1 => ⟨_, .inr (SqT.of upd_same), rfl, rfl, ?_⟩⟩
      replace sm := sm.trans (same_upd (o := .tup [V.int 5, V.int 7, V.int 17, V.int 19, V.int 20, V.int 28, V.int 29]) (Same.refl _) n1)
      refine iteT1 (by decide) ?_
      exact ⟨c 7, xf, no _ (by decide +kernel), _, xa.same sm, _, rfl, (by decide), fun p n => k p _ (sm.trans (same_upd (Same.refl _) n)) upd_same⟩
    · refine ⟨by decide, fun p0 n0 => ⟨_, .inr (SqT.of upd_same), rfl, rfl, ?_⟩⟩
      replace sm := sm.trans (same_upd (o := .tup [V.int 0, V.int 1, V.int 4, V.int 15, V.int 23]) (Same.refl _) n0)
      refine iteF1 (by decide) ?_
      refine ⟨by decide, fun p1 n1 => ⟨_, .inr (SqT.of upd_same), rfl, rfl, ?_⟩⟩
      replace sm := sm.trans (same_upd (o := .tup [V.int 5, V.int 7, V.int 17, V.int 19, V.int 20, V.int 28, V.int 29]) (Same.refl _) n1)
      refine iteF1 (by decide) ?_
      refine ⟨by decide, fun p2 n2 => ⟨_, .inr (SqT.of upd_same), rfl, rfl, ?_⟩⟩
      replace sm := sm.trans (same_upd (o := .tup [V.int 9]) (Same.refl _) n2)
      refine iteF1 (by decide) ?_
      refine ⟨by decide, fun p3 n3 => ⟨_, .inr (SqT.of upd_same), rfl, rfl, ?_⟩⟩
      replace sm := sm.trans (same_upd (o := .tup [V.int 10]) (Same.refl _) n3)
      refine iteF1 (by decide) ?_
      refine ⟨by decide, fun p4 n4 => ⟨_, .inr (SqT.of upd_same), rfl, rfl, ?_⟩⟩
      replace sm := sm.trans (same_upd (o := .tup [V.int 12]) (Same.refl _) n4)
      refine iteF1 (by decide) ?_
      refine ⟨by decide, fun p5 n5 => ⟨_, .inr (SqT.of upd_same), rfl, rfl, ?_⟩⟩
      replace sm := sm.trans (same_upd (o := .tup [V.int 13]) (Same.refl _) n5)
      refine iteF1 (by decide) ?_
      refine ⟨by decide, fun p6 n6 => ⟨_, .inr (SqT.of upd_same), rfl, rfl, ?_⟩⟩
      replace sm := sm.trans (same_upd (o := .tup [V.int 22]) (Same.refl _) n6)
      refine iteF1 (by decide) ?_
      refine ⟨by decide, fun p7 n7 => ⟨_, .inr (SqT.of upd_same), rfl, rfl, ?_⟩⟩
      replace sm := sm.trans (same_upd (o := .tup [V.int 2, V.int 25]) (Same.refl _) n7)
      refine iteF1 (by decide) ?_
      refine ⟨by decide, fun p8 n8 => ⟨_, .inr (SqT.of upd_same), rfl, rfl, ?_⟩⟩
      replace sm := sm.trans (same_upd (o := .tup [V.int 3, V.int 26]) (Same.refl _) n8)
      refine iteF1 (by decide) ?_
      refine iteF1 (by decide) ?_
      refine iteF1 (by decide) ?_
      exact ⟨(by decide), fun p n => k p _ (sm.trans (same_upd (Same.refl _) n)) upd_same⟩
    · refine ⟨by decide, fun p0 n0 => ⟨_, .inr (SqT.of upd_same), rfl, rfl, ?_⟩⟩
      replace sm := sm.trans (same_upd (o := .tup [V.int 0, V.int 1, V.int 4, V.int 15, V.int 23]) (Same.refl _) n0)
      refine iteF1 (by decide) ?_
      refine ⟨by decide, fun p1 n1 => ⟨_, .inr (SqT.of upd_same), rfl, rfl, ?_⟩⟩
      replace sm := sm.trans (same_upd (o := .tup [V.int 5, V.int 7, V.int 17, V.int 19, V.int 20, V.int 28, V.int 29]) (Same.refl _) n1)
      refine iteF1 (by decide) ?_
      refine ⟨by decide, fun p2 n2 => ⟨_, .inr (SqT.of upd_same), rfl, rfl, ?_⟩⟩
      replace sm := sm.trans (same_upd (o := .tup [V.int 9]) (Same.refl _) n2)
      refine iteT1 (by decide) ?_
      exact ⟨c 9, xf, no _ (by decide +kernel), _, xa.same sm, _, rfl, (by decide), fun p n => k p _ (sm.trans (same_upd (Same.refl _) n)) upd_same⟩
    · refine ⟨by decide, fun p0 n0 => ⟨_, .inr (SqT.of upd_same), rfl, rfl, ?_⟩⟩
      replace sm := sm.trans (same_upd (o := .tup [V.int 0, V.int 1, V.int 4, V.int 15, V.int 23]) (Same.refl _) n0)
      refine iteF1 (by decide) ?_
      refine ⟨by decide, fun p1 n1 => ⟨_, .inr (SqT.of upd_same), rfl, rfl, ?_⟩⟩
      replace sm := sm.trans (same_upd (o := .tup [V.int 5, V.int 7, V.int 17, V.int 19, V.int 20, V.int 28, V.int 29]) (Same.refl _) n1)
      refine iteF1 (by decide) ?_
      refine ⟨by decide, fun p2 n2 => ⟨_, .inr (SqT.of upd_same), rfl, rfl, ?_⟩⟩
      replace sm := sm.trans (same_upd (o := .tup [V.int 9]) (Same.refl _) n2)
      refine iteF1 (by decide) ?_
      refine ⟨by decide, fun p3 n3 => ⟨_, .inr (SqT.of upd_same), rfl, rfl, ?_⟩⟩
      replace sm := sm.trans (same_upd (o := .tup [V.int 10]) (Same.refl _) n3)
      refine iteT1 (by decide) ?_
      exact ⟨c 10, xf, no _ (by decide +kernel), _, xa.same sm, _, rfl, (by decide), fun p n => k p _ (sm.trans (same_upd (Same.refl _) n)) upd_same⟩
    · refine ⟨by decide, fun p0 n0 => ⟨_, .inr (SqT.of upd_same), rfl, rfl, ?_⟩⟩
      replace sm := sm.trans (same_upd (o := .tup [V.int 0, V.int 1, V.int 4, V.int 15, V.int 23]) (Same.refl _) n0)
      refine iteF1 (by decide) ?_
      refine ⟨by decide, fun p1 n1 => ⟨_, .inr (SqT.of upd_same), rfl, rfl, ?_⟩⟩
      replace sm := sm.trans (same_upd (o := .tup [V.int 5, V.int 7, V.int 17, V.int 19, V.int 20, V.int 28, V.int 29]) (Same.refl _) n1)
      refine iteF1 (by decide) ?_
      refine ⟨by decide, fun p2 n2 => ⟨_, .inr (SqT.of upd_same), rfl, rfl, ?_⟩⟩
      replace sm := sm.trans (same_upd (o := .tup [V.int 9]) (Same.refl _) n2)
      refine iteF1 (by decide) ?_
      refine ⟨by decide, fun p3 n3 => ⟨_, .inr (SqT.of upd_same), rfl, rfl, ?_⟩⟩
      replace sm := sm.trans (same_upd (o := .tup [V.int 10]) (Same.refl _) n3)
      refine iteF1 (by decide) ?_
      refine ⟨by decide, fun p4 n4 => ⟨_, .inr (SqT.of upd_same), rfl, rfl, ?_⟩⟩
      replace sm := sm.trans (same_upd (o := .tup [V.int 12]) (Same.refl _) n4)
      refine iteF1 (by decide) ?_
      refine ⟨by decide, fun p5 n5 => ⟨_, .inr (SqT.of upd_same), rfl, rfl, ?_⟩⟩
      replace sm := sm.trans (same_upd (o := .tup [V.int 13]) (Same.refl _) n5)
      refine iteF1 (by decide) ?_
      refine ⟨by decide, fun p6 n6 => ⟨_, .inr (SqT.of upd_same), rfl, rfl, ?_⟩⟩
      replace sm := sm.trans (same_upd (o := .tup [V.int 22]) (Same.refl _) n6)
      refine iteF1 (by decide) ?_
      refine ⟨by decide, fun p7 n7 => ⟨_, .inr (SqT.of upd_same), rfl, rfl, ?_⟩⟩
      replace sm := sm.trans (same_upd (o := .tup [V.int 2, V.int 25]) (Same.refl _) n7)
      refine iteF1 (by decide) ?_
      refine ⟨by decide, fun p8 n8 => ⟨_, .inr (SqT.of upd_same), rfl, rfl, ?_⟩⟩
      replace sm := sm.trans (same_upd (o := .tup [V.int 3, V.int 26]) (Same.refl _) n8)
      refine iteF1 (by decide) ?_
      refine iteF1 (by decide) ?_
      refine iteF1 (by decide) ?_
      exact ⟨(by decide), fun p n => k p _ (sm.trans (same_upd (Same.refl _) n)) upd_same⟩
    · refine ⟨by decide, fun p0 n0 => ⟨_, .inr (SqT.of upd_same), rfl, rfl, ?_⟩⟩
      replace sm := sm.trans (same_upd (o := .tup [V.int 0, V.int 1, V.int 4, V.int 15, V.int 23]) (Same.refl _) n0)
      refine iteF1 (by decide) ?_
      refine ⟨by decide, fun p1 n1 => ⟨_, .inr (SqT.of upd_same), rfl, rfl, ?_⟩⟩
      replace sm := sm.trans (same_upd (o := .tup [V.int 5, V.int 7, V.int 17, V.int 19, V.int 20, V.int 28, V.int 29]) (Same.refl _) n1)
      refine iteF1 (by decide) ?_
      refine ⟨by decide, fun p2 n2 => ⟨_, .inr (SqT.of upd_same), rfl, rfl, ?_⟩⟩
      replace sm := sm.trans (same_upd (o := .tup [V.int 9]) (Same.refl _) n2)
      refine iteF1 (by decide) ?_
      refine ⟨by decide, fun p3 n3 => ⟨_, .inr (SqT.of upd_same), rfl, rfl, ?_⟩⟩
      replace sm := sm.trans (same_upd (o := .tup [V.int 10]) (Same.refl _) n3)
      refine iteF1 (by decide) ?_
      refine ⟨by decide, fun p4 n4 => ⟨_, .inr (SqT.of upd_same), rfl, rfl, ?_⟩⟩
      replace sm := sm.trans (same_upd (o := .tup [V.int 12]) (Same.refl _) n4)
      refine iteT1 (by decide) ?_
      exact ⟨c 12, xf, no _ (by decide +kernel), _, xa.same sm, _, rfl, (by decide), fun p n => k p _ (sm.trans (same_upd (Same.refl _) n)) upd_same⟩
    · refine ⟨by decide, fun p0 n0 => ⟨_, .inr (SqT.of upd_same), rfl, rfl, ?_⟩⟩
      replace sm := sm.trans (same_upd (o := .tup [V.int 0, V.int 1, V.int 4, V.int 15, V.int 23]) (Same.refl _) n0)
      refine iteF1 (by decide) ?_
      refine ⟨by decide, fun p1 n1 => ⟨_, .inr (SqT.of upd_same), rfl, rfl, ?_⟩⟩
      replace sm := sm.trans (same_upd (o := .tup [V.int 5, V.int 7, V.int 17, V.int 19, V.int 20, V.int 28, V.int 29]) (Same.refl _) n1)
      refine iteF1 (by decide) ?_
      refine ⟨by decide, fun p2 n2 => ⟨_, .inr (SqT.of upd_same), rfl, rfl, ?_⟩⟩
      replace sm := sm.trans (same_upd (o := .tup [V.int 9]) (Same.refl _) n2)
      refine iteF1 (by decide) ?_
      refine ⟨by decide, fun p3 n3 => ⟨_, .inr (SqT.of upd_same), rfl, rfl, ?_⟩⟩
      replace sm := sm.trans (same_upd (o := .tup [V.int 10]) (Same.refl _) n3)
      refine iteF1 (by decide) ?_
      refine ⟨by decide, fun p4 n4 => ⟨_, .inr (SqT.of upd_same), rfl, rfl, ?_⟩⟩
      replace sm := sm.trans (same_upd (o := .tup [V.int 12]) (Same.refl _) n4)
      refine iteF1 (by decide) ?_
      refine ⟨by decide, fun p5 n5 => ⟨_, .inr (SqT.of upd_same), rfl, rfl, ?_⟩⟩
      replace sm := sm.trans (same_upd (o := .tup [V.int 13]) (Same.refl _) n5)
      refine iteT1 (by decide) ?_
      exact ⟨c 13, xf, no _ (by decide +kernel), _, xa.same sm, _, rfl, (by decide), fun p n => k p _ (sm.trans (same_upd (Same.refl _) n)) upd_same⟩
    · refine ⟨by decide, fun p0 n0 => ⟨_, .inr (SqT.of upd_same), rfl, rfl, ?_⟩⟩
      replace sm := sm.trans (same_upd (o := .tup [V.int 0, V.int 1, V.int 4, V.int 15, V.int 23]) (Same.refl _) n0)
      refine iteF1 (by decide) ?_
      refine ⟨by decide, fun p1 n1 => ⟨_, .inr (SqT.of upd_same), rfl, rfl, ?_⟩⟩
      replace sm := sm.trans (same_upd (o := .tup [V.int 5, V.int 7, V.int 17, V.int 19, V.int 20, V.int 28, V.int 29]) (Same.refl _) n1)
      refine iteF1 (by decide) ?_
      refine ⟨by decide, fun p2 n2 => ⟨_, .inr (SqT.of upd_same), rfl, rfl, ?_⟩⟩
      replace sm := sm.trans (same_upd (o := .tup [V.int 9]) (Same.refl _) n2)
      refine iteF1 (by decide) ?_
      refine ⟨by decide, fun p3 n3 => ⟨_, .inr (SqT.of upd_same), rfl, rfl, ?_⟩⟩
      replace sm := sm.trans (same_upd (o := .tup [V.int 10]) (Same.refl _) n3)
      refine iteF1 (by decide) ?_
      refine ⟨by decide, fun p4 n4 => ⟨_, .inr (SqT.of upd_same), rfl, rfl, ?_⟩⟩
      replace sm := sm.trans (same_upd (o := .tup [V.int 12]) (Same.refl _) n4)
      refine iteF1 (by decide) ?_
      refine ⟨by decide, fun p5 n5 => ⟨_, .inr (SqT.of upd_same), rfl, rfl, ?_⟩⟩
      replace sm := sm.trans (same_upd (o := .tup [V.int 13]) (Same.refl _) n5)
      refine iteF1 (by decide) ?_
      refine ⟨by decide, fun p6 n6 => ⟨_, .inr (SqT.of upd_same), rfl, rfl, ?_⟩⟩
      replace sm := sm.trans (same_upd (o := .tup [V.int 22]) (Same.refl _) n6)
      refine iteF1 (by decide) ?_
      refine ⟨by decide, fun p7 n7 => ⟨_, .inr (SqT.of upd_same), rfl, rfl, ?_⟩⟩
      replace sm := sm.trans (same_upd (o := .tup [V.int 2, V.int 25]) (Same.refl _) n7)
      refine iteF1 (by decide) ?_
      refine ⟨by decide, fun p8 n8 => ⟨_, .inr (SqT.of upd_same), rfl, rfl, ?_⟩⟩
      replace sm := sm.trans (same_upd (o := .tup [V.int 3, V.int 26]) (Same.refl _) n8)
      refine iteF1 (by decide) ?_
      refine iteF1 (by decide) ?_
      refine iteF1 (by decide) ?_
      exact ⟨(by decide), fun p n => k p _ (sm.trans (same_upd (Same.refl _) n)) upd_same⟩
    · refine ⟨by decide, fun p0 n0 => ⟨_, .inr (SqT.of upd_same), rfl, rfl, ?_⟩⟩
      replace sm := sm.trans (same_upd (o := .tup [V.int 0, V.int 1, V.int 4, V.int 15, V.int 23]) (Same.refl _) n0)
      refine iteT1 (by decide) ?_
      exact ⟨c 15, xf, no _ (by decide +kernel), _, xa.same sm, _, rfl, (by decide), fun p n => k p _ (sm.trans (same_upd (Same.refl _) n)) upd_same⟩
    · refine ⟨by decide, fun p0 n0 => ⟨_, .inr (SqT.of upd_same), rfl, rfl, ?_⟩⟩
      replace sm := sm.trans (same_upd (o := .tup [V.int 0, V.int 1, V.int 4, V.int 15, V.int 23]) (Same.refl _) n0)
      refine iteF1 (by decide) ?_
      refine ⟨by decide, fun p1 n1 => ⟨_, .inr (SqT.of upd_same), rfl, rfl, ?_⟩⟩
      replace sm := sm.trans (same_upd (o := .tup [V.int 5, V.int 7, V.int 17, V.int 19, V.int 20, V.int 28, V.int 29]) (Same.refl _) n1)
      refine iteF1 (by decide) ?_
      refine ⟨by decide, fun p2 n2 => ⟨_, .inr (SqT.of upd_same), rfl, rfl, ?_⟩⟩
      replace sm := sm.trans (same_upd (o := .tup [V.int 9]) (Same.refl _) n2)
      refine iteF1 (by decide) ?_
      refine ⟨by decide, fun p3 n3 => ⟨_, .inr (SqT.of upd_same), rfl, rfl, ?_⟩⟩
      replace sm := sm.trans (same_upd (o := .tup [V.int 10]) (Same.refl _) n3)
      refine iteF1 (by decide) ?_
      refine ⟨by decide, fun p4 n4 => ⟨_, .inr (SqT.of upd_same), rfl, rfl, ?_⟩⟩
      replace sm := sm.trans (same_upd (o := .tup [V.int 12]) (Same.refl _) n4)
      refine iteF1 (by decide) ?_
      refine ⟨by decide, fun p5 n5 => ⟨_, .inr (SqT.of upd_same), rfl, rfl, ?_⟩⟩
      replace sm := sm.trans (same_upd (o := .tup [V.int 13]) (Same.refl _) n5)
      refine iteF1 (by decide) ?_
      refine ⟨by decide, fun p6 n6 => ⟨_, .inr (SqT.of upd_same), rfl, rfl, ?_⟩⟩
      replace sm := sm.trans (same_upd (o := .tup [V.int 22]) (Same.refl _) n6)
      refine iteF1 (by decide) ?_
      refine ⟨by decide, fun p7 n7 => ⟨_, .inr (SqT.of upd_same), rfl, rfl, ?_⟩⟩
      replace sm := sm.trans (same_upd (o := .tup [V.int 2, V.int 25]) (Same.refl _) n7)
      refine iteF1 (by decide) ?_
      refine ⟨by decide, fun p8 n8 => ⟨_, .inr (SqT.of upd_same), rfl, rfl, ?_⟩⟩
      replace sm := sm.trans (same_upd (o := .tup [V.int 3, V.int 26]) (Same.refl _) n8)
      refine iteF1 (by decide) ?_
      refine iteF1 (by decide) ?_
      refine iteF1 (by decide) ?_
      exact ⟨(by decide), fun p n => k p _ (sm.trans (same_upd (Same.refl _) n)) upd_same⟩
    · refine ⟨by decide, fun p0 n0 => ⟨_, .inr (SqT.of upd_same), rfl, rfl, ?_⟩⟩
      replace sm := sm.trans (same_upd (o := .tup [V.int 0, V.int 1, V.int 4, V.int 15, V.int 23]) (Same.refl _) n0)
      refine iteF1 (by decide) ?_
      refine ⟨by decide, fun p1 n1 => ⟨_, .inr (SqT.of upd_same), rfl, rfl, ?_⟩⟩
      replace sm := sm.trans (same_upd (o := .tup [V.int 5, V.int 7, V.int 17, V.int 19, V.int 20, V.int 28, V.int 29]) (Same.refl _) n1)
      refine iteT1 (by decide) ?_
      exact ⟨c 17, xf, no _ (by decide +kernel), _, xa.same sm, _, rfl, (by decide), fun p n => k p _ (sm.trans (same_upd (Same.refl _) n)) upd_same⟩
    · refine ⟨by decide, fun p0 n0 => ⟨_, .inr (SqT.of upd_same), rfl, rfl, ?_⟩⟩
      replace sm := sm.trans (same_upd (o := .tup [V.int 0, V.int 1, V.int 4, V.int 15, V.int 23]) (Same.refl _) n0)
      refine iteF1 (by decide) ?_
      refine ⟨by decide, fun p1 n1 => ⟨_, .inr (SqT.of upd_same), rfl, rfl, ?_⟩⟩
      replace sm := sm.trans (same_upd (o := .tup [V.int 5, V.int 7, V.int 17, V.int 19, V.int 20, V.int 28, V.int 29]) (Same.refl _) n1)
      refine iteF1 (by decide) ?_
      refine ⟨by decide, fun p2 n2 => ⟨_, .inr (SqT.of upd_same), rfl, rfl, ?_⟩⟩
      replace sm := sm.trans (same_upd (o := .tup [V.int 9]) (Same.refl _) n2)
      refine iteF1 (by decide) ?_
      refine ⟨by decide, fun p3 n3 => ⟨_, .inr (SqT.of upd_same), rfl, rfl, ?_⟩⟩
      replace sm := sm.trans (same_upd (o := .tup [V.int 10]) (Same.refl _) n3)
      refine iteF1 (by decide) ?_
      refine ⟨by decide, fun p4 n4 => ⟨_, .inr (SqT.of upd_same), rfl, rfl, ?_⟩⟩
      replace sm := sm.trans (same_upd (o := .tup [V.int 12]) (Same.refl _) n4)
      refine iteF1 (by decide) ?_
      refine ⟨by decide, fun p5 n5 => ⟨_, .inr (SqT.of upd_same), rfl, rfl, ?_⟩⟩
      replace sm := sm.trans (same_upd (o := .tup [V.int 13]) (Same.refl _) n5)
      refine iteF1 (by decide) ?_
      refine ⟨by decide, fun p6 n6 => ⟨_, .inr (SqT.of upd_same), rfl, rfl, ?_⟩⟩
      replace sm := sm.trans (same_upd (o := .tup [V.int 22]) (Same.refl _) n6)
      refine iteF1 (by decide) ?_
      refine ⟨by decide, fun p7 n7 => ⟨_, .inr (SqT.of upd_same), rfl, rfl, ?_⟩⟩
      replace sm := sm.trans (same_upd (o := .tup [V.int 2, V.int 25]) (Same.refl _) n7)
      refine iteF1 (by decide) ?_
      refine ⟨by decide, fun p8 n8 => ⟨_, .inr (SqT.of upd_same), rfl, rfl, ?_⟩⟩
      replace sm := sm.trans (same_upd (o := .tup [V.int 3, V.int 26]) (Same.refl _) n8)
      refine iteF1 (by decide) ?_
      refine iteT1 (by decide) ?_
      exact ⟨c 18, xf, no _ (by decide +kernel), _, xa.same sm, _, rfl, c 18, xf, no _ (by decide +kernel), _, xa.same sm, _, rfl, (by decide), fun p n => k p _ (sm.trans (same_upd (Same.refl _) n)) upd_same⟩
    · refine ⟨by decide, fun p0 n0 => ⟨_, .inr (SqT.of upd_same), rfl, rfl, ?_⟩⟩
      replace sm := sm.trans (same_upd (o := .tup [V.int 0, V.int 1, V.int 4, V.int 15, V.int 23]) (Same.refl _) n0)
      refine iteF1 (by decide) ?_
      refine ⟨by decide, fun p1 n1 => ⟨_, .inr (SqT.of upd_same), rfl, rfl, ?_⟩⟩
      replace sm := sm.trans (same_upd (o := .tup [V.int 5, V.int 7, V.int 17, V.int 19, V.int 20, V.int 28, V.int 29]) (Same.refl _) n1)
      refine iteT1 (by decide) ?_
      exact ⟨c 19, xf, no _ (by decide +kernel), _, xa.same sm, _, rfl, (by decide), fun p n => k p _ (sm.trans (same_upd (Same.refl _) n)) upd_same⟩
    · refine ⟨by decide, fun p0 n0 => ⟨_, .inr (SqT.of upd_same), rfl, rfl, ?_⟩⟩
      replace sm := sm.trans (same_upd (o := .tup [V.int 0, V.int 1, V.int 4, V.int 15, V.int 23]) (Same.refl _) n0)
      refine iteF1 (by decide) ?_
      refine ⟨by decide, fun p1 n1 => ⟨_, .inr (SqT.of upd_same), rfl, rfl, ?_⟩⟩
      replace sm := sm.trans (same_upd (o := .tup [V.int 5, V.int 7, V.int 17, V.int 19, V.int 20, V.int 28, V.int 29]) (Same.refl _) n1)
      refine iteT1 (by decide) ?_
      exact ⟨c 20, xf, no _ (by decide +kernel), _, xa.same sm, _, rfl, (by decide), fun p n => k p _ (sm.trans (same_upd (Same.refl _) n)) upd_same⟩
    · refine ⟨by decide, fun p0 n0 => ⟨_, .inr (SqT.of upd_same), rfl, rfl, ?_⟩⟩
      replace sm := sm.trans (same_upd (o := .tup [V.int 0, V.int 1, V.int 4, V.int 15, V.int 23]) (Same.refl _) n0)
      refine iteF1 (by decide) ?_
      refine ⟨by decide, fun p1 n1 => ⟨_, .inr (SqT.of upd_same), rfl, rfl, ?_⟩⟩
      replace sm := sm.trans (same_upd (o := .tup [V.int 5, V.int 7, V.int 17, V.int 19, V.int 20, V.int 28, V.int 29]) (Same.refl _) n1)
      refine iteF1 (by decide) ?_
      refine ⟨by decide, fun p2 n2 => ⟨_, .inr (SqT.of upd_same), rfl, rfl, ?_⟩⟩
      replace sm := sm.trans (same_upd (o := .tup [V.int 9]) (Same.refl _) n2)
      refine iteF1 (by decide) ?_
      refine ⟨by decide, fun p3 n3 => ⟨_, .inr (SqT.of upd_same), rfl, rfl, ?_⟩⟩
      replace sm := sm.trans (same_upd (o := .tup [V.int 10]) (Same.refl _) n3)
      refine iteF1 (by decide) ?_
      refine ⟨by decide, fun p4 n4 => ⟨_, .inr (SqT.of upd_same), rfl, rfl, ?_⟩⟩
      replace sm := sm.trans (same_upd (o := .tup [V.int 12]) (Same.refl _) n4)
      refine iteF1 (by decide) ?_
      refine ⟨by decide, fun p5 n5 => ⟨_, .inr (SqT.of upd_same), rfl, rfl, ?_⟩⟩
      replace sm := sm.trans (same_upd (o := .tup [V.int 13]) (Same.refl _) n5)
      refine iteF1 (by decide) ?_
      refine ⟨by decide, fun p6 n6 => ⟨_, .inr (SqT.of upd_same), rfl, rfl, ?_⟩⟩
      replace sm := sm.trans (same_upd (o := .tup [V.int 22]) (Same.refl _) n6)
      refine iteF1 (by decide) ?_
      refine ⟨by decide, fun p7 n7 => ⟨_, .inr (SqT.of upd_same), rfl, rfl, ?_⟩⟩
      replace sm := sm.trans (same_upd (o := .tup [V.int 2, V.int 25]) (Same.refl _) n7)
      refine iteF1 (by decide) ?_
      refine ⟨by decide, fun p8 n8 => ⟨_, .inr (SqT.of upd_same), rfl, rfl, ?_⟩⟩
      replace sm := sm.trans (same_upd (o := .tup [V.int 3, V.int 26]) (Same.refl _) n8)
      refine iteF1 (by decide) ?_
      refine iteF1 (by decide) ?_
      refine iteF1 (by decide) ?_
      exact ⟨(by decide), fun p n => k p _ (sm.trans (same_upd (Same.refl _) n)) upd_same⟩
    · refine ⟨by decide, fun p0 n0 => ⟨_, .inr (SqT.of upd_same), rfl, rfl, ?_⟩⟩
      replace sm := sm.trans (same_upd (o := .tup [V.int 0, V.int 1, V.int 4, V.int 15, V.int 23]) (Same.refl _) n0)
      refine iteF1 (by decide) ?_
      refine ⟨by decide, fun p1 n1 => ⟨_, .inr (SqT.of upd_same), rfl, rfl, ?_⟩⟩
      replace sm := sm.trans (same_upd (o := .tup [V.int 5, V.int 7, V.int 17, V.int 19, V.int 20, V.int 28, V.int 29]) (Same.refl _) n1)
      refine iteF1 (by decide) ?_
      refine ⟨by decide, fun p2 n2 => ⟨_, .inr (SqT.of upd_same), rfl, rfl, ?_⟩⟩
      replace sm := sm.trans (same_upd (o := .tup [V.int 9]) (Same.refl _) n2)
      refine iteF1 (by decide) ?_
      refine ⟨by decide, fun p3 n3 => ⟨_, .inr (SqT.of upd_same), rfl, rfl, ?_⟩⟩
      replace sm := sm.trans (same_upd (o := .tup [V.int 10]) (Same.refl _) n3)
      refine iteF1 (by decide) ?_
      refine ⟨by decide, fun p4 n4 => ⟨_, .inr (SqT.of upd_same), rfl, rfl, ?_⟩⟩
      replace sm := sm.trans (same_upd (o := .tup [V.int 12]) (Same.refl _) n4)
      refine iteF1 (by decide) ?_
      refine ⟨by decide, fun p5 n5 => ⟨_, .inr (SqT.of upd_same), rfl, rfl, ?_⟩⟩
      replace sm := sm.trans (same_upd (o := .tup [V.int 13]) (Same.refl _) n5)
      refine iteF1 (by decide) ?_
      refine ⟨by decide, fun p6 n6 => ⟨_, .inr (SqT.of upd_same), rfl, rfl, ?_⟩⟩
      replace sm := sm.trans (same_upd (o := .tup [V.int 22]) (Same.refl _) n6)
      refine iteT1 (by decide) ?_
      exact ⟨c 22, xf, no _ (by decide +kernel), _, xa.same sm, _, rfl, (by decide), fun p n => k p _ (sm.trans (same_upd (Same.refl _) n)) upd_same⟩
    · refine ⟨by decide, fun p0 n0 => ⟨_, .inr (SqT.of upd_same), rfl, rfl, ?_⟩⟩
      replace sm := sm.trans (same_upd (o := .tup [V.int 0, V.int 1, V.int 4, V.int 15, V.int 23]) (Same.refl _) n0)
      refine iteT1 (by decide) ?_
      exact ⟨c 23, xf, no _ (by decide +kernel), _, xa.same sm, _, rfl, (by decide), fun p n => k p _ (sm.trans (same_upd (Same.refl _) n)) upd_same⟩
    · refine ⟨by decide, fun p0 n0 => ⟨_, .inr (SqT.of upd_same), rfl, rfl, ?_⟩⟩
      replace sm := sm.trans (same_upd (o := .tup [V.int 0, V.int 1, V.int 4, V.int 15, V.int 23]) (Same.refl _) n0)
      refine iteF1 (by decide) ?_
      refine ⟨by decide, fun p1 n1 => ⟨_, .inr (SqT.of upd_same), rfl, rfl, ?_⟩⟩
      replace sm := sm.trans (same_upd (o := .tup [V.int 5, V.int 7, V.int 17, V.int 19, V.int 20, V.int 28, V.int 29]) (Same.refl _) n1)
      refine iteF1 (by decide) ?_
      refine ⟨by decide, fun p2 n2 => ⟨_, .inr (SqT.of upd_same), rfl, rfl, ?_⟩⟩
      replace sm := sm.trans (same_upd (o := .tup [V.int 9]) (Same.refl _) n2)
      refine iteF1 (by decide) ?_
      refine ⟨by decide, fun p3 n3 => ⟨_, .inr (SqT.of upd_same), rfl, rfl, ?_⟩⟩
      replace sm := sm.trans (same_upd (o := .tup [V.int 10]) (Same.refl _) n3)
      refine iteF1 (by decide) ?_
      refine ⟨by decide, fun p4 n4 => ⟨_, .inr (SqT.of upd_same), rfl, rfl, ?_⟩⟩
      replace sm := sm.trans (same_upd (o := .tup [V.int 12]) (Same.refl _) n4)
      refine iteF1 (by decide) ?_
      refine ⟨by decide, fun p5 n5 => ⟨_, .inr (SqT.of upd_same), rfl, rfl, ?_⟩⟩
      replace sm := sm.trans (same_upd (o := .tup [V.int 13]) (Same.refl _) n5)
      refine iteF1 (by decide) ?_
      refine ⟨by decide, fun p6 n6 => ⟨_, .inr (SqT.of upd_same), rfl, rfl, ?_⟩⟩
      replace sm := sm.trans (same_upd (o := .tup [V.int 22]) (Same.refl _) n6)
      refine iteF1 (by decide) ?_
      refine ⟨by decide, fun p7 n7 => ⟨_, .inr (SqT.of upd_same), rfl, rfl, ?_⟩⟩
      replace sm := sm.trans (same_upd (o := .tup [V.int 2, V.int 25]) (Same.refl _) n7)
      refine iteF1 (by decide) ?_
      refine ⟨by decide, fun p8 n8 => ⟨_, .inr (SqT.of upd_same), rfl, rfl, ?_⟩⟩
      replace sm := sm.trans (same_upd (o := .tup [V.int 3, V.int 26]) (Same.refl _) n8)
      refine iteF1 (by decide) ?_
      refine iteF1 (by decide) ?_
      refine iteF1 (by decide) ?_
      exact ⟨(by decide), fun p n => k p _ (sm.trans (same_upd (Same.refl _) n)) upd_same⟩
    · refine ⟨by decide, fun p0 n0 => ⟨_, .inr (SqT.of upd_same), rfl, rfl, ?_⟩⟩
      replace sm := sm.trans (same_upd (o := .tup [V.int 0, V.int 1, V.int 4, V.int 15, V.int 23]) (Same.refl _) n0)
      refine iteF1 (by decide) ?_
      refine ⟨by decide, fun p1 n1 => ⟨_, .inr (SqT.of upd_same), rfl, rfl, ?_⟩⟩
      replace sm := sm.trans (same_upd (o := .tup [V.int 5, V.int 7, V.int 17, V.int 19, V.int 20, V.int 28, V.int 29]) (Same.refl _) n1)
      refine iteF1 (by decide) ?_
      refine ⟨by decide, fun p2 n2 => ⟨_, .inr (SqT.of upd_same), rfl, rfl, ?_⟩⟩
      replace sm := sm.trans (same_upd (o := .tup [V.int 9]) (Same.refl _) n2)
      refine iteF1 (by decide) ?_
      refine ⟨by decide, fun p3 n3 => ⟨_, .inr (SqT.of upd_same), rfl, rfl, ?_⟩⟩
      replace sm := sm.trans (same_upd (o := .tup [V.int 10]) (Same.refl _) n3)
      refine iteF1 (by decide) ?_
      refine ⟨by decide, fun p4 n4 => ⟨_, .inr (SqT.of upd_same), rfl, rfl, ?_⟩⟩
      replace sm := sm.trans (same_upd (o := .tup [V.int 12]) (Same.refl _) n4)
      refine iteF1 (by decide) ?_
      refine ⟨by decide, fun p5 n5 => ⟨_, .inr (SqT.of upd_same), rfl, rfl, ?_⟩⟩
      replace sm := sm.trans (same_upd (o := .tup [V.int 13]) (Same.refl _) n5)
      refine iteF1 (by decide) ?_
      refine ⟨by decide, fun p6 n6 => ⟨_, .inr (SqT.of upd_same), rfl, rfl, ?_⟩⟩
      replace sm := sm.trans (same_upd (o := .tup [V.int 22]) (Same.refl _) n6)
      refine iteF1 (by decide) ?_
      refine ⟨by decide, fun p7 n7 => ⟨_, .inr (SqT.of upd_same), rfl, rfl, ?_⟩⟩
      replace sm := sm.trans (same_upd (o := .tup [V.int 2, V.int 25]) (Same.refl _) n7)
      refine iteT1 (by decide) ?_
      exact ⟨c 25, xf, no _ (by decide +kernel), _, xa.same sm, _, rfl, (by decide), fun p n => k p _ (sm.trans (same_upd (Same.refl _) n)) upd_same⟩
    · refine ⟨by decide, fun p0 n0 => ⟨_, .inr (SqT.of upd_same), rfl, rfl, ?_⟩⟩
      replace sm := sm.trans (same_upd (o := .tup [V.int 0, V.int 1, V.int 4, V.int 15, V.int 23]) (Same.refl _) n0)
      refine iteF1 (by decide) ?_
      refine ⟨by decide, fun p1 n1 => ⟨_, .inr (SqT.of upd_same), rfl, rfl, ?_⟩⟩
      replace sm := sm.trans (same_upd (o := .tup [V.int 5, V.int 7, V.int 17, V.int 19, V.int 20, V.int 28, V.int 29]) (Same.refl _) n1)
      refine iteF1 (by decide) ?_
      refine ⟨by decide, fun p2 n2 => ⟨_, .inr (SqT.of upd_same), rfl, rfl, ?_⟩⟩
      replace sm := sm.trans (same_upd (o := .tup [V.int 9]) (Same.refl _) n2)
      refine iteF1 (by decide) ?_
      refine ⟨by decide, fun p3 n3 => ⟨_, .inr (SqT.of upd_same), rfl, rfl, ?_⟩⟩
      replace sm := sm.trans (same_upd (o := .tup [V.int 10]) (Same.refl _) n3)
      refine iteF1 (by decide) ?_
      refine ⟨by decide, fun p4 n4 => ⟨_, .inr (SqT.of upd_same), rfl, rfl, ?_⟩⟩
      replace sm := sm.trans (same_upd (o := .tup [V.int 12]) (Same.refl _) n4)
      refine iteF1 (by decide) ?_
      refine ⟨by decide, fun p5 n5 => ⟨_, .inr (SqT.of upd_same), rfl, rfl, ?_⟩⟩
      replace sm := sm.trans (same_upd (o := .tup [V.int 13]) (Same.refl _) n5)
      refine iteF1 (by decide) ?_
      refine ⟨by decide, fun p6 n6 => ⟨_, .inr (SqT.of upd_same), rfl, rfl, ?_⟩⟩
      replace sm := sm.trans (same_upd (o := .tup [V.int 22]) (Same.refl _) n6)
      refine iteF1 (by decide) ?_
      refine ⟨by decide, fun p7 n7 => ⟨_, .inr (SqT.of upd_same), rfl, rfl, ?_⟩⟩
      replace sm := sm.trans (same_upd (o := .tup [V.int 2, V.int 25]) (Same.refl _) n7)
      refine iteF1 (by decide) ?_
      refine ⟨by decide, fun p8 n8 => ⟨_, .inr (SqT.of upd_same), rfl, rfl, ?_⟩⟩
      replace sm := sm.trans (same_upd (o := .tup [V.int 3, V.int 26]) (Same.refl _) n8)
      refine iteT1 (by decide) ?_
      exact ⟨c 26, xf, no _ (by decide +kernel), _, xa.same sm, _, rfl, c 26, xf, no _ (by decide +kernel), _, xa.same sm, _, rfl, (by decide), fun p n => k p _ (sm.trans (same_upd (Same.refl _) n)) upd_same⟩
    · refine ⟨by decide, fun p0 n0 => ⟨_, .inr (SqT.of upd_same), rfl, rfl, ?_⟩⟩
      replace sm := sm.trans (same_upd (o := .tup [V.int 0, V.int 1, V.int 4, V.int 15, V.int 23]) (Same.refl _) n0)
      refine iteF1 (by decide) ?_
      refine ⟨by decide, fun p1 n1 => ⟨_, .inr (SqT.of upd_same), rfl, rfl, ?_⟩⟩
      replace sm := sm.trans (same_upd (o := .tup [V.int 5, V.int 7, V.int 17, V.int 19, V.int 20, V.int 28, V.int 29]) (Same.refl _) n1)
      refine iteF1 (by decide) ?_
      refine ⟨by decide, fun p2 n2 => ⟨_, .inr (SqT.of upd_same), rfl, rfl, ?_⟩⟩
      replace sm := sm.trans (same_upd (o := .tup [V.int 9]) (Same.refl _) n2)
      refine iteF1 (by decide) ?_
      refine ⟨by decide, fun p3 n3 => ⟨_, .inr (SqT.of upd_same), rfl, rfl, ?_⟩⟩
      replace sm := sm.trans (same_upd (o := .tup [V.int 10]) (Same.refl _) n3)
      refine iteF1 (by decide) ?_
      refine ⟨by decide, fun p4 n4 => ⟨_, .inr (SqT.of upd_same), rfl, rfl, ?_⟩⟩
      replace sm := sm.trans (same_upd (o := .tup [V.int 12]) (Same.refl _) n4)
      refine iteF1 (by decide) ?_
      refine ⟨by decide, fun p5 n5 => ⟨_, .inr (SqT.of upd_same), rfl, rfl, ?_⟩⟩
      replace sm := sm.trans (same_upd (o := .tup [V.int 13]) (Same.refl _) n5)
      refine iteF1 (by decide) ?_
      refine ⟨by decide, fun p6 n6 => ⟨_, .inr (SqT.of upd_same), rfl, rfl, ?_⟩⟩
      replace sm := sm.trans (same_upd (o := .tup [V.int 22]) (Same.refl _) n6)
      refine iteF1 (by decide) ?_
      refine ⟨by decide, fun p7 n7 => ⟨_, .inr (SqT.of upd_same), rfl, rfl, ?_⟩⟩
      replace sm := sm.trans (same_upd (o := .tup [V.int 2, V.int 25]) (Same.refl _) n7)
      refine iteF1 (by decide) ?_
      refine ⟨by decide, fun p8 n8 => ⟨_, .inr (SqT.of upd_same), rfl, rfl, ?_⟩⟩
      replace sm := sm.trans (same_upd (o := .tup [V.int 3, V.int 26]) (Same.refl _) n8)
      refine iteF1 (by decide) ?_
      refine iteF1 (by decide) ?_
      refine iteT1 (by decide) ?_
      exact ⟨c 27, xf, no _ (by decide +kernel), _, xa.same sm, _, rfl, c 27, xf, no _ (by decide +kernel), _, xa.same sm, _, rfl, (by decide), fun p n => k p _ (sm.trans (same_upd (Same.refl _) n)) upd_same⟩
    · refine ⟨by decide, fun p0 n0 => ⟨_, .inr (SqT.of upd_same), rfl, rfl, ?_⟩⟩
      replace sm := sm.trans (same_upd (o := .tup [V.int 0, V.int 1, V.int 4, V.int 15, V.int 23]) (Same.refl _) n0)
      refine iteF1 (by decide) ?_
      refine ⟨by decide, fun p1 n1 => ⟨_, .inr (SqT.of upd_same), rfl, rfl, ?_⟩⟩
      replace sm := sm.trans (same_upd (o := .tup [V.int 5, V.int 7, V.int 17, V.int 19, V.int 20, V.int 28, V.int 29]) (Same.refl _) n1)
      refine iteT1 (by decide) ?_
      exact ⟨c 28, xf, no _ (by decide +kernel), _, xa.same sm, _, rfl, (by decide), fun p n => k p _ (sm.trans (same_upd (Same.refl _) n)) upd_same⟩
    · refine ⟨by decide, fun p0 n0 => ⟨_, .inr (SqT.of upd_same), rfl, rfl, ?_⟩⟩
      replace sm := sm.trans (same_upd (o := .tup [V.int 0, V.int 1, V.int 4, V.int 15, V.int 23]) (Same.refl _) n0)
      refine iteF1 (by decide) ?_
      refine ⟨by decide, fun p1 n1 => ⟨_, .inr (SqT.of upd_same), rfl, rfl, ?_⟩⟩
      replace sm := sm.trans (same_upd (o := .tup [V.int 5, V.int 7, V.int 17, V.int 19, V.int 20, V.int 28, V.int 29]) (Same.refl _) n1)
      refine iteT1 (by decide) ?_
      exact ⟨c 29, xf, no _ (by decide +kernel), _, xa.same sm, _, rfl, (by decide), fun p n => k p _ (sm.trans (same_upd (Same.refl _) n)) upd_same⟩
    · refine ⟨by decide, fun p0 n0 => ⟨_, .inr (SqT.of upd_same), rfl, rfl, ?_⟩⟩
      replace sm := sm.trans (same_upd (o := .tup [V.int 0, V.int 1, V.int 4, V.int 15, V.int 23]) (Same.refl _) n0)
      refine iteF1 (by decide) ?_
      refine ⟨by decide, fun p1 n1 => ⟨_, .inr (SqT.of upd_same), rfl, rfl, ?_⟩⟩
      replace sm := sm.trans (same_upd (o := .tup [V.int 5, V.int 7, V.int 17, V.int 19, V.int 20, V.int 28, V.int 29]) (Same.refl _) n1)
      refine iteF1 (by decide) ?_
      refine ⟨by decide, fun p2 n2 => ⟨_, .inr (SqT.of upd_same), rfl, rfl, ?_⟩⟩
      replace sm := sm.trans (same_upd (o := .tup [V.int 9]) (Same.refl _) n2)
      refine iteF1 (by decide) ?_
      refine ⟨by decide, fun p3 n3 => ⟨_, .inr (SqT.of upd_same), rfl, rfl, ?_⟩⟩
      replace sm := sm.trans (same_upd (o := .tup [V.int 10]) (Same.refl _) n3)
      refine iteF1 (by decide) ?_
      refine ⟨by decide, fun p4 n4 => ⟨_, .inr (SqT.of upd_same), rfl, rfl, ?_⟩⟩
      replace sm := sm.trans (same_upd (o := .tup [V.int 12]) (Same.refl _) n4)
      refine iteF1 (by decide) ?_
      refine ⟨by decide, fun p5 n5 => ⟨_, .inr (SqT.of upd_same), rfl, rfl, ?_⟩⟩
      replace sm := sm.trans (same_upd (o := .tup [V.int 13]) (Same.refl _) n5)
      refine iteF1 (by decide) ?_
      refine ⟨by decide, fun p6 n6 => ⟨_, .inr (SqT.of upd_same), rfl, rfl, ?_⟩⟩
      replace sm := sm.trans (same_upd (o := .tup [V.int 22]) (Same.refl _) n6)
      refine iteF1 (by decide) ?_
      refine ⟨by decide, fun p7 n7 => ⟨_, .inr (SqT.of upd_same), rfl, rfl, ?_⟩⟩
      replace sm := sm.trans (same_upd (o := .tup [V.int 2, V.int 25]) (Same.refl _) n7)
      refine iteF1 (by decide) ?_
      refine ⟨by decide, fun p8 n8 => ⟨_, .inr (SqT.of upd_same), rfl, rfl, ?_⟩⟩
      replace sm := sm.trans (same_upd (o := .tup [V.int 3, V.int 26]) (Same.refl _) n8)
      refine iteF1 (by decide) ?_
      refine iteF1 (by decide) ?_
      refine iteF1 (by decide) ?_
      exact ⟨(by decide), fun p n => k p _ (sm.trans (same_upd (Same.refl _) n)) upd_same⟩
theorem ok_raised (D : DefAt K mg "_law_raised" sRaised) (E : Ev P w K mg base c G) (te : PySem.W.exmOne K (.ref (c 18)) (.ref G) = some true) : Cal P w K mg base CX0 3 "_law_raised" ["_law_first", "_law_second"] spRaised := by
  refine D.cal (fun _ _ _ _ _ _ us hl => match us, hl with | [_, _], _ => rfl) fun f fd F => ?_
  refine F.ok scRaised (fun vs H Q E h => ?_) (fun cdv A outer s H vs Q E' HR h => ?_)
  · obtain ⟨v, u, d, e, rfl, _⟩ := h
    rfl
  · obtain ⟨v, u, d, e, rfl, pv1, pv2, k⟩ := h
    have xfk := xf_of (E.ex 18 (by decide))
    obtain ⟨fI, fdI, FI, iI, tI, bI⟩ := E.m18.ex
    refine ⟨_, pss_one (ps_try_as (i := 2) (Wout := fun _ _ _ _ => False) rfl rfl scRaised.nd rfl rfl ⟨rfl, by decide, Or.inl E.gG⟩ takes0
          (fun W pn xe tk _ => pss_one (ps_raise rfl tk (pmk_oex E.m18.ox iI tI FI HR bI .nil pass0 rfl E.m18.gC (by exact (pa_cons (pv 0) (pa_cons (pv 1) pa_nil))))))
          (fun a oe cls d pn hz hf => (pss_one (ps_ret (pe_and (pe_callB (call_isS hz hf) (by rfl) E.bt.isi (by decide +kernel) (pa_cons (pv 2) (pa_cons (pe_bltn (v := .ty "ValueError") (by rfl) E.bt.ve (by decide +kernel) rfl) pa_nil))) (pe_and (pe_cmpR (op_eqDs (by exact HR.units)) (pe_xf xfk (E.no 18 (by decide) "program" (by decide +kernel)) hz hf (pv 2)) (pv 0) (nomark _)) (pe_one (pe_cmpR (op_eqDs (by exact HR.units)) (pe_xf xfk (E.no 18 (by decide) "store" (by decide +kernel)) hz hf (pv 2)) (pv 1) (nomark _))))))))), ?_⟩
    refine ⟨_, rfl, _, rfl, (by show 2 ≤ 1000; decide), fun a n => ⟨a, v, u, rfl, E.m18.ox, E.no 18 (by decide) _ (by decide +kernel), E.no 18 (by decide) _ (by decide +kernel), upd_same, fun H1 k1 ⟨d1, da, nd, e1, e2⟩ => ⟨rfl, d1, _, e1, e2, ?_, ?_⟩⟩⟩
    · rw [upd_ne da] at nd
      exact nd
    · rw [upd_ne da] at nd
      have sm : Same H (upd (L2.del H1 a) d1 (.xd [("store", u), ("program", v)])) := fun b o e => by
        rw [upd_ne (ne_of_none e nd), L2.del_ne (ne_of_none e n)]
        exact k1 b o (ne_of_none e n) (by rw [upd_ne (ne_of_none e n)]; exact e)
      have q1 := pv1.same sm
      have q2 := pv2.same sm
      refine ⟨true, te, fun _ a0 ha0 => ?_, fun q => Bool.noConfusion q⟩
      refine ⟨_, rfl, ?_⟩
      refine ⟨c 18, d1, _, .ty "ValueError", .type "ValueError", true, rfl, rfl, rfl, upd_same, E.ex 18 (by decide), .ty _, E.kitV 18 (by decide), true, rfl, iteT ?_⟩
      refine ⟨_, rfl, rfl, rfl, d1, _, v, rfl, upd_same, rfl, _, rfl, d, d, q1.dp, q1.dp, q1.shaped, q1.shaped, true, by rw [q1.refl], iteT ?_⟩
      refine ⟨_, rfl, rfl, rfl, d1, _, u, rfl, upd_same, rfl, _, rfl, e, e, q2.dp, q2.dp, q2.shaped, q2.shaped, ?_⟩
      rw [q2.refl]
      exact k _ sm
end


set_option Elab.async false
set_option linter.all false
set_option maxRecDepth 100000
set_option maxHeartbeats 8000000
open PySem L2


structure Itm (K : PySem.W.Frag) (H : Hp) (x : V) : Prop where
  ex : ∃ t b1 b2 c1 c2, TyX K H x (.type t) ∧ kitB t "int" = some b1 ∧ kitB t "bool" = some b2 ∧ kitB t "list" = some c1 ∧ kitB t "tuple" = some c2 ∧ ((∃ z, x = .int z) ∨ (!b1 || b2) = true)
theorem TyX.same {K : PySem.W.Frag} {H H' : Hp} {x : V} {t : Value} (h : TyX K H x t) (s : Same H H') : TyX K H' x t := by
  cases h with
  | base b =>
    cases b with
    | non => exact .base .non
    | bl y => exact .base (.bl y)
    | int i => exact .base (.int i)
    | str y => exact .base (.str y)
    | flt y => exact .base (.flt y)
    | lst e => exact .base (.lst (s _ _ e))
    | frz e => exact .base (.frz (s _ _ e))
    | tup e => exact .base (.tup (s _ _ e))
    | dK e => exact .base (.dK (s _ _ e))
    | dT e => exact .base (.dT (s _ _ e))
    | ins e a b c d f => exact .base (.ins (s _ _ e) a b c d f)
  | byt b => exact .byt b
  | set e => exact .set (s _ _ e)
  | kList e c => exact .kList e c
  | kTuple e c => exact .kTuple e c
  | kDict e c => exact .kDict e c
  | fTuple e => exact .fTuple (s _ _ e)
  | fDict e => exact .fDict (s _ _ e)
theorem tw_int {K : PySem.W.Frag} {z : Int} {lo hi : V} {b : Bool} {F R : Hp → Prop} {H : Hp} (blo : Bd lo) (bhi : Bd hi) (hb : (okLo lo z && okHi hi z) = b) (h : R H) :
    spWhole K [.int z, lo, hi] H (fun x H1 => spTruth [x, .bl b] H1 (fun x H1 => ∃ c, x = .bl c ∧ if c = false then F H1 else R H1) E0) E0 :=
  ⟨_, lo, hi, rfl, blo, bhi, .inl ⟨z, rfl, _, b, rfl, _, rfl, by subst hb; rw [beq_self_eq_true]; exact iteF1 (by decide) h⟩⟩
theorem tw_oth {K : PySem.W.Frag} {y lo hi : V} {F R : Hp → Prop} {H : Hp} (blo : Bd lo) (bhi : Bd hi) (ho : Oth K H y) (h : R H) :
    spWhole K [y, lo, hi] H (fun x H1 => spTruth [x, .bl false] H1 (fun x H1 => ∃ c, x = .bl c ∧ if c = false then F H1 else R H1) E0) E0 :=
  ⟨y, lo, hi, rfl, blo, bhi, .inr ⟨ho, false, false, rfl, _, rfl, iteF1 (by decide) h⟩⟩
theorem sq_end {K : PySem.W.Frag} {y : V} {t : String} {c1 c2 : Bool} {F R : Hp → Prop} {H : Hp} (ty : TyX K H y (.type t)) (k3 : kitB t "list" = some c1) (k4 : kitB t "tuple" = some c2) (h : ∀ H1, Same H H1 → R H1) :
    spSeq K [y] H (fun x_1 H1 => 2 ≤ sizeLine ∧ ∀ p : Addr, H1 p = none → ∃ x_2, upd H1 p (.tup [.ty "list", .ty "tuple"]) p = some (.tup x_2) ∧ ∃ x_3 x_4, Paired ClsV x_2 x_4 ∧ TyX K (upd H1 p (.tup [.ty "list", .ty "tuple"])) y x_3 ∧
      ∃ x, PySem.W.kitAny K x_3 x_4 = some x ∧ spTruth [x_1, .bl x] (upd H1 p (.tup [.ty "list", .ty "tuple"])) (fun x H1 => ∃ c, x = .bl c ∧ if c = false then F H1 else R H1) E0) E0 := by
  refine ⟨y, t, c1, c2, rfl, ty, k3, k4, fun p o n => ⟨by decide, fun p2 n2 => ⟨_, upd_same, _, _, .cons (.ty "list") (.cons (.ty "tuple") .nil), TyX.upd (TyX.upd ty n) n2, (c1 || c2), ?_, ?_⟩⟩⟩
  · refine kitAny_cons (kit_ty k3) (fun e => ?_) (fun e => by rw [e]; rfl)
    rw [e]
    exact kitAny_cons (kit_ty k4) (fun e => by rw [e]; exact kitAny_nil) (fun e => by rw [e]; rfl)
  · refine ⟨_, _, rfl, _, rfl, ?_⟩
    rw [beq_self_eq_true]
    exact iteF1 (by decide) (h _ ((same_upd (Same.refl _) n).trans (same_upd (Same.refl _) n2)))
theorem bdN : Bd .non := .inl rfl
theorem bdI (z : Int) : Bd (.int z) := .inr ⟨z, rfl⟩
def spWholes : Sp := fun vs H Q _ => ∃ p, vs = [.ref p] ∧ HandAt H p ∧ ∀ H', Q (.bl true) H'
section
variable {P : Program} {w : World} {K : PySem.W.Frag} {mg : Str → Option Value} {base : Heap}
theorem scWholes : FnScope ["_law_hand_here", "_law_least", "_law_most", "_law_big", "_law_one", "_law_good"] ["_law_hand_here"] (defScope sWholes) := ⟨rfl, rfl, rfl, by decide +kernel, rfl, by decide +kernel, by decide +kernel⟩
theorem ok_wholes (D : DefAt K mg "_law_wholes" sWholes) (B : Bt mg)
    (CW : CalD P w K mg base CX0 1 "is_whole" ["thing", "low", "high"] [.non, .non] (spWhole K) [(["high"], fun vs zs => [vs.getD 0 .non, .non, zs.getD 0 .non]), (["low", "high"], fun vs zs => [vs.getD 0 .non, zs.getD 0 .non, zs.getD 1 .non])])
    (CT : Cal P w K mg base CX0 2 "_law_take" ["_law_hand_here", "_law_many"] spTake) (CI : Cal P w K mg base CX0 1 "_law_whole" ["_law_thing"] (spIsW K))
    (CU : Cal P w K mg base CX0 1 "_law_truth" ["_law_told", "_law_due"] spTruth) (CS : Cal P w K mg base CX0 1 "is_sequence" ["thing"] (spSeq K)) : Cal P w K mg base CX0 3 "_law_wholes" ["_law_hand_here"] spWholes := by
  refine D.cal (fun _ _ _ _ _ _ us hl => match us, hl with | [_], _ => rfl) fun f fd F => ?_
  refine F.ok scWholes (fun vs H Q E h => ?_) (fun cdv A outer s H vs Q E' HR2 h => ?_)
  · obtain ⟨p, rfl, _⟩ := h
    rfl
  · obtain ⟨p, rfl, hh, k⟩ := h
    have HR1 := HR2.mono (by decide : 1 ≤ 2)
    refine ⟨_, (pss_cons (ps_set (i := 1) scWholes.nd rfl (Or.inl rfl) (pe_op op_sub (pe_cal CT (by rfl) HR2 pass0 (pa_cons (pv 0) (pa_cons pe_int pa_nil))) pe_int))
  (pss_cons (ps_set (i := 2) scWholes.nd rfl (Or.inl rfl) (pe_op op_add (pv 1) (pe_cal CT (by rfl) HR2 pass0 (pa_cons (pv 0) (pa_cons pe_int pa_nil)))))
  (pss_cons (ps_set (i := 3) scWholes.nd rfl (Or.inl rfl) (pe_cal CT (by rfl) HR2 pass0 (pa_cons (pv 0) (pa_cons (pe_op op_pow pe_int pe_int) pa_nil))))
  (pss_cons (ps_for PassesOwn.never rfl (pi_tup (pe_tup (pa_cons (pe_op op_sub (pv 1) pe_int) (pa_cons (pv 1) (pa_cons (pv 2) (pa_cons (pe_op op_add (pv 2) pe_int) (pa_cons (pv 3) (pa_cons (pe_un un_neg (pv 3)) (pa_cons pe_int (pa_cons pe_int (pa_cons pe_bl (pa_cons pe_bl (pa_cons pe_non (pa_cons (pe_callTy call_str_int (by rfl) B.str (by decide +kernel) (pa_cons (pv 1) pa_nil)) (pa_cons (pe_tup (pa_cons (pv 1) pa_nil)) (pa_cons (pe_lst (pa_cons (pv 1) pa_nil)) (pa_cons pe_str (pa_cons pe_dnewK pa_nil)))))))))))))))))) (pg_name (i := 4) scWholes.nd rfl (Or.inl rfl)) (pss_cons (ps_set (i := 5) scWholes.nd rfl (Or.inl rfl) (pe_cal CI (by rfl) HR1 pass0 (pa_cons (pv 4) pa_nil)))
  (pss_cons (ps_if (PW.pt (pw_or (pt_not (pt_val (pe_cal CU (by rfl) HR1 pass0 (pa_cons (pe_calD CW 0 (by decide) (by rfl) HR1 pass0 (pa_cons (pv 4) pa_nil)) (pa_cons (pv 5) pa_nil))))) (pw_or1 (pt_not (pt_val (pe_cal CU (by rfl) HR1 pass0 (pa_cons (pe_calD CW 2 (by decide) (by rfl) HR1 pass0 (pa_cons (pv 4) (pa_cons pe_non (pa_cons pe_non pa_nil)))) (pa_cons (pv 5) pa_nil)))))))) (pss_one (ps_ret pe_bl)) pss_nil)
  (pss_cons (ps_if (pt_not (pt_val (pe_cal CU (by rfl) HR1 pass0 (pa_cons (pe_calD CW 1 (by decide) (by rfl) HR1 pass0 (pa_cons (pv 4) (pa_cons (pv 1) pa_nil))) (pa_cons (pe_and (pv 5) (pe_one (pe_cmpR op_ge (pv 4) (pv 1) (nomark _)))) pa_nil))))) (pss_one (ps_ret pe_bl)) pss_nil)
  (pss_cons (ps_if (PW.pt (pw_or (pt_not (pt_val (pe_cal CU (by rfl) HR1 pass0 (pa_cons (pe_calD CW 2 (by decide) (by rfl) HR1 pass0 (pa_cons (pv 4) (pa_cons pe_non (pa_cons (pv 2) pa_nil)))) (pa_cons (pe_and (pv 5) (pe_one (pe_cmpR op_le (pv 4) (pv 2) (nomark _)))) pa_nil))))) (pw_or1 (pt_not (pt_val (pe_cal CU (by rfl) HR1 pass0 (pa_cons (pe_calK CW List.mem_cons_self (by rfl) HR1 pass0 (pa_cons (pv 4) pa_nil) (pk_cons (pv 2) pk_nil)) (pa_cons (pe_and (pv 5) (pe_one (pe_cmpR op_le (pv 4) (pv 2) (nomark _)))) pa_nil)))))))) (pss_one (ps_ret pe_bl)) pss_nil)
  (pss_cons (ps_if (pt_not (pt_val (pe_cal CU (by rfl) HR1 pass0 (pa_cons (pe_calD CW 2 (by decide) (by rfl) HR1 pass0 (pa_cons (pv 4) (pa_cons (pv 1) (pa_cons (pv 2) pa_nil)))) (pa_cons (pe_and (pv 5) (pe_and (pe_cmpR op_ge (pv 4) (pv 1) (nomark _)) (pe_one (pe_cmpR op_le (pv 4) (pv 2) (nomark _))))) pa_nil))))) (pss_one (ps_ret pe_bl)) pss_nil)
  (pss_cons (ps_if (pt_not (pt_val (pe_cal CU (by rfl) HR1 pass0 (pa_cons (pe_calK CW (List.mem_cons_of_mem _ List.mem_cons_self) (by rfl) HR1 pass0 (pa_cons (pv 4) pa_nil) (pk_cons (pv 1) (pk_cons (pv 1) pk_nil))) (pa_cons (pe_and (pv 5) (pe_one (pe_cmpR op_eq (pv 4) (pv 1) (nomark _)))) pa_nil))))) (pss_one (ps_ret pe_bl)) pss_nil)
  (pss_one (ps_if (pt_not (pt_val (pe_cal CU (by rfl) HR1 pass0 (pa_cons (pe_cal CS (by rfl) HR1 pass0 (pa_cons (pv 4) pa_nil)) (pa_cons (pe_callB call_isiT (by rfl) B.isi (by decide +kernel) (pa_cons (pv 4) (pa_cons (pe_tup (pa_cons (pe_bltn (v := .ty "list") (by rfl) B.list (by decide +kernel) rfl) (pa_cons (pe_bltn (v := .ty "tuple") (by rfl) B.tuple (by decide +kernel) rfl) pa_nil))) pa_nil))) pa_nil))))) (pss_one (ps_ret pe_bl)) pss_nil)))))))))
  (pss_one (ps_ret (pe_and (pe_cal CU (by rfl) HR1 pass0 (pa_cons (pe_cal CS (by rfl) HR1 pass0 (pa_cons pe_str pa_nil)) (pa_cons pe_bl pa_nil))) (pe_and (pe_cal CU (by rfl) HR1 pass0 (pa_cons (pe_cal CS (by rfl) HR1 pass0 (pa_cons (pe_lst (pa_cons (pe_lst pa_nil) pa_nil)) pa_nil)) (pa_cons pe_bl pa_nil))) (pe_one (pe_cal CU (by rfl) HR1 pass0 (pa_cons (pe_cal CS (by rfl) HR1 pass0 (pa_cons (pe_tup pa_nil) pa_nil)) (pa_cons pe_bl pa_nil)))))))))))), ?_⟩
    walk_at "rd"
    refine ⟨p, 50, rfl, by decide, by decide, hh, fun r1 H1 r10 r11 hh1 b1 => ?_⟩
    walk_at "rd"
    refine ⟨p, 30, rfl, by decide, by decide, hh1, fun r2 H2 r20 r21 hh2 b2 => ?_⟩
    walk_at "rd"
    refine ⟨by decide, p, _, rfl, by decide, by decide, hh2, fun r3 H3 r30 r31 hh3 b3 => ?_⟩
    walk_at "rd"
    have lg : (r1 - 20).natAbs.log2 < 6 := PySem.Flt.log2_lt_of (by decide) (by show (r1 - 20).natAbs < 2 ^ 6; omega)
    refine ⟨Nat.lt_of_lt_of_le lg (by decide), ?_⟩
    generalize r1 - 20 = l
    generalize l + r2 = m
    generalize toString l = ls
    refine ⟨by decide, fun p1 n1 => ⟨by decide, fun p2 n2 p3 n3 => ⟨by decide, fun T n4 => ?_⟩⟩⟩
    have S1 := same_upd (o := .tup [V.int l]) (Same.refl H3) n1
    have S2 := same_upd (o := .lst [V.int l]) (Same.refl _) n2
    have S3 := same_upd (o := .dK []) (Same.refl _) n3
    generalize hH7 : upd (upd (upd (upd H3 p1 (.tup [V.int l])) p2 (.lst [V.int l])) p3 (.dK [])) T _ = H7
    have S4 : Same (upd (upd (upd H3 p1 (.tup [V.int l])) p2 (.lst [V.int l])) p3 (.dK [])) H7 := by
      rw [← hH7]
      exact same_upd (Same.refl _) n4
    have hT : H7 T = some (.tup [V.int (l - 1), V.int l, V.int m, V.int (m + 1), V.int r3, V.int (-r3), V.int 0, V.int 1, V.bl true, V.bl false, V.non, V.str (Str.ofString ls), V.ref p1, V.ref p2, V.str (Str.ofString ""), V.ref p3]) := by
      rw [← hH7]
      exact upd_same
    have e1 : H7 p1 = some (.tup [V.int l]) := S4 _ _ (S3 _ _ (S2 _ _ upd_same))
    have e2 : H7 p2 = some (.lst [V.int l]) := S4 _ _ (S3 _ _ upd_same)
    have e3 : H7 p3 = some (.dK []) := S4 _ _ upd_same
    have its : ∀ x ∈ [V.int (l - 1), V.int l, V.int m, V.int (m + 1), V.int r3, V.int (-r3), V.int 0, V.int 1, V.bl true, V.bl false, V.non, V.str (Str.ofString ls), V.ref p1, V.ref p2, V.str (Str.ofString ""), V.ref p3], Itm K H7 x := by
      have ii : ∀ z, Itm K H7 (.int z) := fun z => ⟨"int", true, false, false, false, tyInt z, by decide +kernel, by decide +kernel, by decide +kernel, by decide +kernel, .inl ⟨z, rfl⟩⟩
      have bb : ∀ z, Itm K H7 (.bl z) := fun z => ⟨"bool", true, true, false, false, .base (.bl z), by decide +kernel, by decide +kernel, by decide +kernel, by decide +kernel, .inr rfl⟩
      have ss : ∀ z, Itm K H7 (.str z) := fun z => ⟨"str", false, false, false, false, .base (.str z), by decide +kernel, by decide +kernel, by decide +kernel, by decide +kernel, .inr rfl⟩
      intro x hx
      simp only [List.mem_cons, List.mem_nil_iff, or_false] at hx
      rcases hx with rfl | rfl | rfl | rfl | rfl | rfl | rfl | rfl | rfl | rfl | rfl | rfl | rfl | rfl | rfl | rfl
      · exact ii _
      · exact ii _
      · exact ii _
      · exact ii _
      · exact ii _
      · exact ii _
      · exact ii _
      · exact ii _
      · exact bb _
      · exact bb _
      · exact ⟨"NoneType", false, false, false, false, .base .non, by decide +kernel, by decide +kernel, by decide +kernel, by decide +kernel, .inr rfl⟩
      · exact ss _
      · exact ⟨"tuple", false, false, false, true, .base (.tup e1), by decide +kernel, by decide +kernel, by decide +kernel, by decide +kernel, .inr rfl⟩
      · exact ⟨"list", false, false, true, false, .base (.lst e2), by decide +kernel, by decide +kernel, by decide +kernel, by decide +kernel, .inr rfl⟩
      · exact ss _
      · exact ⟨"dict", false, false, false, false, .base (.dK e3), by decide +kernel, by decide +kernel, by decide +kernel, by decide +kernel, .inr rfl⟩
    generalize hxs : [V.int (l - 1), V.int l, V.int m, V.int (m + 1), V.int r3, V.int (-r3), V.int 0, V.int 1, V.bl true, V.bl false, V.non, V.str (Str.ofString ls), V.ref p1, V.ref p2, V.str (Str.ofString ""), V.ref p3] = xs at its hT
    refine ⟨⟨_, SqT.of hT⟩, for_tup (K := K) (a := T) (xs := xs) (fun i σ H' => ∃ v1 v2, σ = [some (.ref p), some (.int l), some (.int m), some (.int r3), v1, v2] ∧ Same H7 H') ⟨none, none, rfl, Same.refl _⟩ (fun i σ H' _ ⟨_, _, _, s⟩ => SqT.of (s _ _ hT)) ?_ ?_⟩
    · rintro i x σ H' hx ⟨v1, v2, rfl, sm⟩
      obtain ⟨t, b1, b2, c1, c2, ty, k1, k2, k3, k4, hk⟩ := its x (List.mem_of_getElem? hx)
      have ty' := TyX.same ty sm
      walk_at "rd"
      by_cases hz : ∃ z, x = .int z
      · obtain ⟨z, rfl⟩ := hz
        refine ⟨_, rfl, .inl ⟨z, rfl, ?_⟩⟩
        walk_at "rd"
        refine tw_int bdN bdN rfl ?_
        refine tw_int bdN bdN rfl ?_
        refine tw_int (bdI l) bdN (by simp [okLo, okHi]) ?_
        refine tw_int bdN (bdI m) (by simp [okLo, okHi]) ?_
        refine tw_int bdN (bdI m) (by simp [okLo, okHi]) ?_
        by_cases hl : l ≤ z
        · simp only [hl, if_true]
          refine tw_int (bdI l) (bdI m) (by simp [okLo, okHi, hl]) ?_
          refine tw_int (bdI l) (bdI l) (by show (decide (l ≤ z) && decide (z ≤ l)) = decide (z = l); rw [Bool.eq_iff_iff]; simp only [Bool.and_eq_true, decide_eq_true_eq]; omega) ?_
          exact sq_end ty' k3 k4 fun H1 s1 => sm.trans s1
        · simp only [hl, if_false]
          refine tw_int (bdI l) (bdI m) (by simp [okLo, okHi, hl]) ?_
          refine tw_int (bdI l) (bdI l) (by show (decide (l ≤ z) && decide (z ≤ l)) = decide (z = l); rw [Bool.eq_iff_iff]; simp only [Bool.and_eq_true, decide_eq_true_eq]; omega) ?_
          exact sq_end ty' k3 k4 fun H1 s1 => sm.trans s1
      · have hoth : (!b1 || b2) = true := hk.resolve_left hz
        have ho : Oth K H' x := ⟨t, b1, b2, ty', k1, k2, hoth⟩
        refine ⟨_, rfl, .inr ⟨ho, ?_⟩⟩
        walk_at "rd"
        refine tw_oth bdN bdN ho ?_
        refine tw_oth bdN bdN ho ?_
        refine tw_oth (bdI l) bdN ho ?_
        refine tw_oth bdN (bdI m) ho ?_
        refine tw_oth bdN (bdI m) ho ?_
        refine tw_oth (bdI l) (bdI m) ho ?_
        refine tw_oth (bdI l) (bdI l) ho ?_
        exact sq_end ty' k3 k4 fun H1 s1 => sm.trans s1
    · rintro σ H' ⟨v1, v2, rfl, sm⟩
      walk_at "rd"
      refine ⟨_, "str", false, false, rfl, .base (.str _), by decide +kernel, by decide +kernel, fun q1 o1 m1 => ?_⟩
      refine ⟨_, false, rfl, _, rfl, iteT1 (by decide) ?_⟩
      refine ⟨by decide, fun q2 m2 => ⟨by decide, fun q3 m3 => ?_⟩⟩
      refine ⟨_, "list", true, false, rfl, .base (.lst upd_same), by decide +kernel, by decide +kernel, fun q4 o4 m4 => ?_⟩
      refine ⟨_, true, rfl, _, rfl, iteT1 (by decide) ?_⟩
      refine ⟨by decide, fun q5 m5 => ?_⟩
      refine ⟨_, "tuple", false, true, rfl, .base (.tup upd_same), by decide +kernel, by decide +kernel, fun q6 o6 m6 => ?_⟩
      exact ⟨_, true, rfl, k _⟩
end


set_option Elab.async false
set_option linter.all false
set_option maxRecDepth 100000
set_option maxHeartbeats 8000000
open PySem L2


theorem menu_at {α : Type} {l : List α} {r : Int} (h0 : 0 ≤ r) (h1 : r < l.length) : ∃ v, v ∈ l ∧ atI l r = some v := by
  have h : r.toNat < l.length := by omega
  exact ⟨l[r.toNat], List.getElem_mem h, atI_int h0 (List.getElem?_eq_getElem h)⟩
theorem hand_lst {H : Hp} {p : Addr} (h : HandAt H p) : ∃ xs, H p = some (.lst xs) := by
  obtain ⟨c, cs, i, b, t, h⟩ := h
  exact ⟨_, h.hp⟩
theorem ne_hand {H : Hp} {p q : Addr} (h : HandAt H p) (n : H q = none) : q ≠ p := fun e => by
  obtain ⟨xs, h⟩ := hand_lst h
  rw [e, h] at n
  cases n
theorem row_app {H : Hp} {c : Nat → Addr} {v u : V} {lo : Nat} {as bs : List Addr} (h1 : Row H c v u lo as) (h2 : Row H c v u (lo + as.length) bs) : Row H c v u lo (as ++ bs) := by
  intro j a hj
  by_cases e : j < as.length
  · rw [List.getElem?_append_left e] at hj
    exact h1 j a hj
  · rw [List.getElem?_append_right (by omega)] at hj
    have := h2 _ _ hj
    have e2 : lo + as.length + (j - as.length) = lo + j := by omega
    rw [e2] at this
    exact this
theorem row_same {H H' : Hp} {c : Nat → Addr} {v u : V} {lo : Nat} {as : List Addr} (h : Row H c v u lo as) (s : Same H H') : Row H' c v u lo as := fun j a hj => (h j a hj).same s
def FL : List V := [V.int 1, V.int 1, V.int 1, V.int 2, V.int 1, V.int 1, V.int 0, V.int 1, V.int 0, V.int 1, V.int 1,
                      V.int 0, V.int 1, V.int 1, V.int 0, V.int 1, V.int 0, V.int 1, V.int 2, V.int 1, V.int 1, V.int 0,
                      V.int 1, V.int 1, V.int 0, V.int 1, V.int 2, V.int 2, V.int 1, V.int 1, V.int 0]
theorem FL_at : ∀ i, i < 31 → FL[i]? = some (V.int (nfOf i)) := by decide +kernel
theorem nf_le : ∀ i, i < 31 → nfOf i ≤ 2 := by decide +kernel
def bsOf (i : Nat) : List Bool := (List.range 31).map fun j => decide (j = i)
theorem bs_kinds : ∀ i, i < 31 → ((List.range 11).map fun j => V.bl (decide (i = 0 + j))) ++ ((List.range 10).map fun j => V.bl (decide (i = 11 + j))) ++ ((List.range 10).map fun j => V.bl (decide (i = 21 + j))) = (bsOf i).map V.bl := by decide +kernel
theorem bs_shaped : ∀ i, i < 31 → SeqAt.shaped (.list ((bsOf i).map PyData.bool)) = true := by decide +kernel
theorem dp_bools {K : PySem.W.Frag} {H : Hp} : ∀ bs : List Bool, DpAll K H (bs.map V.bl) (bs.map PyData.bool)
  | [] => .nil
  | b :: r => .cons (.bl b) (dp_bools r)
theorem sIx_lo : HT.sIx 2 0 none = 0 := rfl
theorem sIx_hi : ∀ n, n ≤ 2 → HT.sIx 2 2 (some ((n : Nat) : Int)) = n := by decide +kernel
theorem pv_depth {H : Hp} {v : V} {d : PyData} (x : Pv H v d) : d.depth ≤ 1 := by
  cases x <;> simp [PyData.depth, PyData.depthAll]
theorem shaped_two {H : Hp} {v u : V} {d e : PyData} (x : Pv H v d) (y : Pv H u e) : ∀ n, SeqAt.shaped (.tuple ([d, e].take n)) = true := by
  have h1 := canLay_of x.shaped
  have h2 := canLay_of y.shaped
  have h3 := pv_depth x
  have h4 := pv_depth y
  intro n
  match n with
  | 0 => rfl
  | 1 =>
    show (PyData.canLay0 (.tuple [d]) && decide (PyData.depth (.tuple [d]) ≤ 64)) = true
    simp only [PyData.canLay0, PyData.canLayAll0, PyData.depth, PyData.depthAll, h1, Bool.true_and, decide_eq_true_eq]
    exact decide_eq_true (Nat.succ_le_of_lt (Nat.lt_of_le_of_lt (Nat.max_le.mpr ⟨h3, Nat.zero_le 1⟩) (show (1 : Nat) < 64 by decide)))
  | n + 2 =>
    show (PyData.canLay0 (.tuple (d :: e :: [].take n)) && decide (PyData.depth (.tuple (d :: e :: [].take n)) ≤ 64)) = true
    rw [List.take_nil]
    simp only [PyData.canLay0, PyData.canLayAll0, PyData.depth, PyData.depthAll, h1, h2, Bool.true_and, decide_eq_true_eq]
    exact decide_eq_true (Nat.succ_le_of_lt (Nat.lt_of_le_of_lt (Nat.max_le.mpr ⟨h3, Nat.max_le.mpr ⟨h4, Nat.zero_le 1⟩⟩) (show (1 : Nat) < 64 by decide)))
theorem dp_two {K : PySem.W.Frag} {H : Hp} {v u : V} {d e : PyData} (x : Pv H v d) (y : Pv H u e) : ∀ n, DpAll K H ([v, u].take n) ([d, e].take n)
  | 0 => .nil
  | 1 => .cons x.dp .nil
  | n + 2 => .cons x.dp (.cons y.dp (by rw [List.take_nil, List.take_nil]; exact .nil))
/-- law's: a list of at most 63 ints is handed in, True comes out -/
def spLaw (K : PySem.W.Frag) : Sp := fun vs H Q _ => ∃ (a : Addr) (ns : List Int), vs = [.ref a] ∧ SqL K H a (ns.map V.int) ∧ ns.length ≤ 63 ∧ ∀ H', Q (.bl true) H'
section
variable {P : Program} {w : World} {K : PySem.W.Frag} {mg : Str → Option Value} {base : Heap} {c : Nat → Addr} {G : Addr}
theorem scLaw : FnScope ["_law_script", "_law_hand_here", "_law_first", "_law_second", "_law_made", "_law_fields", "_law_k", "_law_e", "_law_kinds", "_law_j"] ["_law_script"] (defScope sLaw) := ⟨rfl, rfl, rfl, by decide +kernel, rfl, by decide +kernel, by decide +kernel⟩
theorem ok_law {f : Addr} {fd : FuncData} (F : Fun K "law" "law" sLaw f fd) (B : Bt mg) (E : Ev P w K mg base c G)
    (CH : Cal P w K mg base CX0 1 "_law_hand" ["_law_script"] (spHand K)) (CT : Cal P w K mg base CX0 2 "_law_take" ["_law_hand_here", "_law_many"] spTake)
    (CMa : Cal P w K mg base CX0 3 "_law_made_a" ["_law_first", "_law_second"] (spMade c 0 11)) (CMb : Cal P w K mg base CX0 3 "_law_made_b" ["_law_first", "_law_second"] (spMade c 11 10)) (CMc : Cal P w K mg base CX0 3 "_law_made_c" ["_law_first", "_law_second"] (spMade c 21 10))
    (CKa : Cal P w K mg base CX0 1 "_law_kinds_a" ["_law_e"] (spKinds K c 0 11)) (CKb : Cal P w K mg base CX0 1 "_law_kinds_b" ["_law_e"] (spKinds K c 11 10)) (CKc : Cal P w K mg base CX0 1 "_law_kinds_c" ["_law_e"] (spKinds K c 21 10))
    (CKe : Cal P w K mg base CX0 1 "_law_kept" ["_law_number", "_law_e"] (spKept c)) (CR : Cal P w K mg base CX0 3 "_law_raised" ["_law_first", "_law_second"] spRaised) (CWs : Cal P w K mg base CX0 3 "_law_wholes" ["_law_hand_here"] spWholes) :
    FnOk P w K mg base CX0 4 f fd ["_law_script"] (spLaw K) := by
  refine F.ok scLaw (fun vs H Q E h => ?_) (fun cdv A outer s H vs Q E' HR h => ?_)
  · obtain ⟨a, ns, rfl, _⟩ := h
    rfl
  · obtain ⟨a, ns, rfl, hS, hlen, k⟩ := h
    have HR1 := HR.mono (by decide : 1 ≤ 3)
    have HR2 := HR.mono (by decide : 2 ≤ 3)
    refine ⟨_, (pss_cons (ps_set (i := 1) scLaw.nd rfl (Or.inl rfl) (pe_cal CH (by rfl) HR1 pass0 (pa_cons (pv 0) pa_nil)))
  (pss_cons (ps_set (i := 2) scLaw.nd rfl (Or.inl rfl) (pe_ix ix_tup (pe_tup (pa_cons (pe_op op_sub (pe_cal CT (by rfl) HR2 pass0 (pa_cons (pv 1) (pa_cons (pe_op op_pow pe_int pe_int) pa_nil))) pe_int) (pa_cons pe_str (pa_cons pe_bl (pa_cons pe_non (pa_cons (pe_tup (pa_cons pe_int (pa_cons pe_int pa_nil))) pa_nil)))))) (pe_cal CT (by rfl) HR2 pass0 (pa_cons (pv 1) (pa_cons pe_int pa_nil))) (fun _ _ => rfl)))
  (pss_cons (ps_set (i := 3) scLaw.nd rfl (Or.inl rfl) (pe_ix ix_tup (pe_tup (pa_cons pe_str (pa_cons pe_int (pa_cons (pe_tup (pa_cons pe_int (pa_cons pe_int pa_nil))) (pa_cons pe_non (pa_cons pe_str pa_nil)))))) (pe_cal CT (by rfl) HR2 pass0 (pa_cons (pv 1) (pa_cons pe_int pa_nil))) (fun _ _ => rfl)))
  (pss_cons (ps_set (i := 4) scLaw.nd rfl (Or.inl rfl) (pe_op op_cat (pe_op op_cat (pe_cal CMa (by rfl) HR pass0 (pa_cons (pv 2) (pa_cons (pv 3) pa_nil))) (pe_cal CMb (by rfl) HR pass0 (pa_cons (pv 2) (pa_cons (pv 3) pa_nil)))) (pe_cal CMc (by rfl) HR pass0 (pa_cons (pv 2) (pa_cons (pv 3) pa_nil)))))
  (pss_cons (ps_set (i := 5) scLaw.nd rfl (Or.inl rfl) (pe_lst (pa_cons pe_int (pa_cons pe_int (pa_cons pe_int (pa_cons pe_int (pa_cons pe_int (pa_cons pe_int (pa_cons pe_int (pa_cons pe_int (pa_cons pe_int (pa_cons pe_int (pa_cons pe_int (pa_cons pe_int (pa_cons pe_int (pa_cons pe_int (pa_cons pe_int (pa_cons pe_int (pa_cons pe_int (pa_cons pe_int (pa_cons pe_int (pa_cons pe_int (pa_cons pe_int (pa_cons pe_int (pa_cons pe_int (pa_cons pe_int (pa_cons pe_int (pa_cons pe_int (pa_cons pe_int (pa_cons pe_int (pa_cons pe_int (pa_cons pe_int (pa_cons pe_int pa_nil)))))))))))))))))))))))))))))))))
  (pss_cons (ps_for PassesOwn.never rfl (pi_range1 (by rfl) B.range (pa_cons (pe_callB call_len_seq (by rfl) B.len PySem.boot_len (pa_cons (pv 4) pa_nil)) pa_nil)) (pg_name (i := 6) scLaw.nd rfl (Or.inr rfl)) (pss_cons (ps_set (i := 7) scLaw.nd rfl (Or.inl rfl) (pe_ix ix_list (pv 4) (pv 6) (fun _ _ => rfl)))
  (pss_cons (ps_set (i := 8) scLaw.nd rfl (Or.inl rfl) (pe_op op_cat (pe_op op_cat (pe_cal CKa (by rfl) HR1 pass0 (pa_cons (pv 7) pa_nil)) (pe_cal CKb (by rfl) HR1 pass0 (pa_cons (pv 7) pa_nil))) (pe_cal CKc (by rfl) HR1 pass0 (pa_cons (pv 7) pa_nil))))
  (pss_cons (ps_if (PW.pt (pw_or (pt_cmpR (op_neD HR.units) (pv 8) (pe_lc (own := [("_law_j", 9)]) (g := gName 9) (tt := tYes) rfl scLaw.nd (pi_range1 (by rfl) B.range (pa_cons (pe_callB call_len_seq (by rfl) B.len PySem.boot_len (pa_cons (pv 4) pa_nil)) pa_nil)) (blkOk_by (own := [("_law_j", 9)]) (N := ["_law_script", "_law_hand_here", "_law_first", "_law_second", "_law_made", "_law_fields", "_law_k", "_law_e", "_law_kinds", "_law_j"]) (sc := defScope sLaw) (by decide +kernel)) (fun _ _ _ _ _ => (pg_name (i := 9) scLaw.nd rfl (Or.inl rfl))) (fun _ _ _ _ _ => pts_nil) (fun _ _ _ _ _ => (pe_cmpR op_eq (pv 9) (pv 6) (nomark _)))) (nomark _)) (pw_or (pt_not (pt_val (pe_callB call_isO (by rfl) B.isi (by decide +kernel) (pa_cons (pv 7) (pa_cons (pe_glob (v := .ref G) (by rfl) E.gG rfl) pa_nil))))) (pw_or1 (pt_not (pt_val (pe_callB call_isO (by rfl) B.isi (by decide +kernel) (pa_cons (pv 7) (pa_cons (pe_bltn (v := .ty "ValueError") (by rfl) B.ve (by decide +kernel) rfl) pa_nil))))))))) (pss_one (ps_ret pe_bl)) pss_nil)
  (pss_one (ps_if (pt_cmpR (op_neD HR.units) (pe_cal CKe (by rfl) HR1 pass0 (pa_cons (pv 6) (pa_cons (pv 7) pa_nil))) (pe_slice sl_tupA (pe_tup (pa_cons (pv 2) (pa_cons (pv 3) pa_nil))) po_none (po_some (pe_ix ix_list (pv 5) (pv 6) (fun _ _ => rfl)))) (nomark _)) (pss_one (ps_ret pe_bl)) pss_nil))))))
  (pss_one (ps_ret (pe_and (pe_cal CR (by rfl) HR pass0 (pa_cons (pv 2) (pa_cons (pv 3) pa_nil))) (pe_and (pe_cal CR (by rfl) HR pass0 (pa_cons (pe_un un_neg pe_int) (pa_cons (pe_tup (pa_cons pe_int pa_nil)) pa_nil))) (pe_one (pe_cal CWs (by rfl) HR pass0 (pa_cons (pv 1) pa_nil))))))))))))), ?_⟩
    walk_at "rd"
    refine ⟨a, ns, rfl, hS, hlen, fun p H1 hh n1 s1 => ?_⟩
    refine ⟨by decide, p, _, rfl, by decide, by decide, hh, fun r1 H2 r10 r11 hh2 b1 => ?_⟩
    walk_at "rd"
    refine ⟨by decide, fun q1 m1 => ⟨by decide, fun q2 m2 => ?_⟩⟩
    have S1 := same_upd (o := .tup [V.int 0, V.int 1]) (Same.refl H2) m1
    have S2 := same_upd (o := .tup [V.int (r1 - 5), V.str (Str.ofString "form"), V.bl true, V.non, V.ref q1]) (Same.refl _) m2
    have hh3 := hh2.same (S1.trans S2)
    have p1 : q1 ≠ p := ne_hand hh2 m1
    have p2 : q2 ≠ p := ne_hand (hh2.same S1) m2
    have w1 := S2 q1 _ upd_same
    refine ⟨p, 5, rfl, by decide, by decide, hh3, fun r2 H3 r20 r21 hh4 b2 => ?_⟩
    walk_at "rd"
    refine ⟨_, SqT.of (b2 q2 _ p2 upd_same), ?_⟩
    obtain ⟨v, hv, ev⟩ := menu_at (l := [V.int (r1 - 5), V.str (Str.ofString "form"), V.bl true, V.non, V.ref q1]) r20 r21
    refine ⟨v, ev, ?_⟩
    have pv1 : ∃ d, Pv H3 v d := by
      simp only [List.mem_cons, List.mem_nil_iff, or_false] at hv
      rcases hv with rfl | rfl | rfl | rfl | rfl
      · exact ⟨_, .int _⟩
      · exact ⟨_, .str _ (by decide +kernel)⟩
      · exact ⟨_, .bl _⟩
      · exact ⟨_, .non⟩
      · exact ⟨_, .tup 0 1 (b2 q1 _ p1 w1)⟩
    clear hv ev
    obtain ⟨d1, pv1⟩ := pv1
    refine ⟨by decide, fun q3 m3 => ⟨by decide, fun q4 m4 => ?_⟩⟩
    have S3 := same_upd (o := .tup [V.int 1, V.int 0]) (Same.refl H3) m3
    have S4 := same_upd (o := .tup [V.str (Str.ofString "many"), V.int 7, V.ref q3, V.non, V.str (Str.ofString "")]) (Same.refl _) m4
    have hh5 := hh4.same (S3.trans S4)
    have p3 : q3 ≠ p := ne_hand hh4 m3
    have p4 : q4 ≠ p := ne_hand (hh4.same S3) m4
    have w3 := S4 q3 _ upd_same
    have pv2 := pv1.same (S3.trans S4)
    refine ⟨p, 5, rfl, by decide, by decide, hh5, fun r3 H4 r30 r31 hh6 b3 => ?_⟩
    walk_at "rd"
    refine ⟨_, SqT.of (b3 q4 _ p4 upd_same), ?_⟩
    obtain ⟨u, hu, eu⟩ := menu_at (l := [V.str (Str.ofString "many"), V.int 7, V.ref q3, V.non, V.str (Str.ofString "")]) r30 r31
    refine ⟨u, eu, ?_⟩
    have pu1 : ∃ d, Pv H4 u d := by
      simp only [List.mem_cons, List.mem_nil_iff, or_false] at hu
      rcases hu with rfl | rfl | rfl | rfl | rfl
      · exact ⟨_, .str _ (by decide +kernel)⟩
      · exact ⟨_, .int _⟩
      · exact ⟨_, .tup 1 0 (b3 q3 _ p3 w3)⟩
      · exact ⟨_, .non⟩
      · exact ⟨_, .str _ (by decide +kernel)⟩
    clear hu eu
    obtain ⟨d2, pu⟩ := pu1
    have pvv : Pv H4 v d1 := by
      cases pv2 with
      | int i => exact .int i
      | bl b => exact .bl b
      | non => exact .non
      | str t h => exact .str t h
      | tup x y h => exact .tup x y (b3 _ _ (fun e => by obtain ⟨xs, hx⟩ := hand_lst hh5; rw [e, hx] at h; cases h) h)
      | tu1 x h => exact .tu1 x (b3 _ _ (fun e => by obtain ⟨xs, hx⟩ := hand_lst hh5; rw [e, hx] at h; cases h) h)
    clear pv2 pv1 w1 w3 S1 S2 S3 S4
    refine ⟨v, u, rfl, fun t1 H5 as1 tn1 sm1 ht1 l1 row1 => ?_⟩
    refine ⟨v, u, rfl, fun t2 H6 as2 tn2 sm2 ht2 l2 row2 => ?_⟩
    refine ⟨t1, t2, _, _, rfl, rfl, sm2 _ _ ht1, ht2, by rw [List.length_map, List.length_map, l1, l2]; decide, fun t3 tn3 => ?_⟩
    refine ⟨v, u, rfl, fun t4 H7 as3 tn4 sm4 ht4 l3 row3 => ?_⟩
    have S5 := same_upd (o := .lst (as1.map V.ref ++ as2.map V.ref)) (Same.refl H6) tn3
    refine ⟨t3, t4, _, _, rfl, rfl, sm4 _ _ upd_same, ht4, by rw [List.length_append, List.length_map, List.length_map, List.length_map, l1, l2, l3]; decide, fun t5 tn5 => ?_⟩
    have S6 := same_upd (o := .lst (as1.map V.ref ++ as2.map V.ref ++ as3.map V.ref)) (Same.refl H7) tn5
    walk_at "rd"
    have row : Row _ c v u 0 (as1 ++ as2 ++ as3) := row_app (row_app (row_same row1 (sm2.trans (S5.trans (sm4.trans S6)))) (by rw [l1]; exact row_same row2 (S5.trans (sm4.trans S6)))) (by rw [List.length_append, l1, l2]; exact row_same row3 S6)
    have hl : (as1 ++ as2 ++ as3).length = 31 := by rw [List.length_append, List.length_append, l1, l2, l3]
    have em : as1.map V.ref ++ as2.map V.ref ++ as3.map V.ref = (as1 ++ as2 ++ as3).map V.ref := by rw [List.map_append, List.map_append]
    rw [em] at S6 row ⊢
    generalize as1 ++ as2 ++ as3 = as at row hl S6 ⊢
    refine ⟨by decide, fun tf tnf => ?_⟩
    have S7 := same_upd (o := .lst FL) (Same.refl _) tnf
    generalize hH8 : upd (upd H7 t5 (.lst (as.map V.ref))) tf _ = H8
    have S8 : Same (upd H7 t5 (.lst (as.map V.ref))) H8 := by rw [← hH8]; exact S7
    have h5 : H8 t5 = some (.lst (as.map V.ref)) := S8 _ _ upd_same
    have hf : H8 tf = some (.lst FL) := by rw [← hH8]; exact upd_same
    have row8 := row_same row S8
    have pv8 : Pv H8 v d1 := pvv.same (sm1.trans (sm2.trans (S5.trans (sm4.trans (S6.trans S8)))))
    have pu8 : Pv H8 u d2 := pu.same (sm1.trans (sm2.trans (S5.trans (sm4.trans (S6.trans S8)))))
    have hh8 : HandAt H8 p := hh6.same (sm1.trans (sm2.trans (S5.trans (sm4.trans (S6.trans S8)))))
    clear hH8 S7 tnf row
    refine ⟨_, .inl (SqL.of h5), by rw [List.length_map, hl]; decide, by rw [List.length_map, hl]; decide, ?_⟩
    have en : (((as.map V.ref).length : Int)).toNat = 31 := by rw [List.length_map, hl]; rfl
    rw [en]
    refine for_range (lo := 0) (n := 31) (fun i σ H' => ∃ v6 v7 v8, σ = [some (.ref a), some (.ref p), some v, some u, some (.ref t5), some (.ref tf), v6, v7, v8, none] ∧ Same H8 H') ⟨none, none, none, rfl, Same.refl _⟩ ?_ ?_
    · rintro i σ H' hi ⟨v6, v7, v8, rfl, sm⟩
      obtain ⟨ai, hai⟩ : ∃ ai, as[i]? = some ai := ⟨_, List.getElem?_eq_getElem (by omega)⟩
      have xa := row8 i ai hai
      rw [Nat.zero_add] at xa
      have ez : (0 : Int) + (i : Int) = (i : Int) := Int.zero_add _
      rw [ez]
      walk_at "rd"
      refine ⟨_, SqL.of (sm _ _ h5), .ref ai, atI_nat (by rw [List.getElem?_map, hai]; rfl), ?_⟩
      refine ⟨ai, i, _, rfl, hi, xa.same sm, fun k1 H1 kn1 ks1 kh1 => ?_⟩
      refine ⟨ai, i, _, rfl, hi, xa.same (sm.trans ks1), fun k2 H2 kn2 ks2 kh2 => ?_⟩
      refine ⟨k1, k2, _, _, rfl, rfl, ks2 _ _ kh1, kh2, by simp; decide, fun k3 kn3 => ?_⟩
      have T3 := same_upd (o := .lst (((List.range 11).map fun j => V.bl (decide (i = 0 + j))) ++ ((List.range 10).map fun j => V.bl (decide (i = 11 + j))))) (Same.refl H2) kn3
      refine ⟨ai, i, _, rfl, hi, xa.same (sm.trans (ks1.trans (ks2.trans T3))), fun k4 H4 kn4 ks4 kh4 => ?_⟩
      refine ⟨k3, k4, _, _, rfl, rfl, ks4 _ _ upd_same, kh4, by simp; decide, fun k5 kn5 => ?_⟩
      rw [bs_kinds i hi]
      have T5 := same_upd (o := .lst ((bsOf i).map V.bl)) (Same.refl H4) kn5
      have smA := sm.trans (ks1.trans (ks2.trans (T3.trans (ks4.trans T5))))
      generalize hH5 : upd H4 k5 (.lst ((bsOf i).map V.bl)) = H5 at smA
      have kh5 : H5 k5 = some (.lst ((bsOf i).map V.bl)) := by rw [← hH5]; exact upd_same
      walk_at "rd"
      refine ⟨_, .inl (SqL.of (smA _ _ h5)), by rw [List.length_map, hl]; decide, by rw [List.length_map, hl]; decide, ?_⟩
      rw [en]
      intro D0 hD0
      refine lc_range (lo := 0) (n := 31) (fun m H6 => Same H5 H6 ∧ H6 D0 = some (.lst ((List.range m).map fun j => V.bl (decide (j = i))))) ⟨same_upd (Same.refl _) hD0, upd_same⟩ (fun m H6 hm ⟨s6, h6⟩ => ?_) (fun H6 ⟨s6, h6⟩ => ?_)
      · refine ⟨rfl, ?_⟩
        walk_at "rd"
        refine ⟨_, h6, by rw [List.length_map, List.length_range]; exact Nat.lt_trans hm (by decide), same_upd s6 hD0, ?_⟩
        rw [upd_same, List.range_succ, List.map_append]
        have ed : decide ((0 : Int) + (m : Int) = (i : Int)) = decide (m = i) := by
          rw [decide_eq_decide]
          omega
        rw [ed]
        rfl
      · have smB := smA.trans s6
        refine ⟨.list ((bsOf i).map PyData.bool), .list ((bsOf i).map PyData.bool), .lst (SqL.of (s6 _ _ kh5)) (dp_bools _), .lst (SqL.of (xs := (bsOf i).map V.bl) (by rw [h6, bsOf, List.map_map]; rfl)) (dp_bools _), bs_shaped i hi, bs_shaped i hi, _, rfl, ?_⟩
        rw [PySem.SeqAt.eqv_refl _ (canLay_of (bs_shaped i hi))]
        refine iteF1 (by decide) ?_
        refine ⟨ai, c i, _, _, _, true, rfl, xa.same smB, E.ex i hi, .own G, E.kitG i hi, true, rfl, iteF1 (by decide) ?_⟩
        refine ⟨ai, c i, _, _, _, true, rfl, xa.same smB, E.ex i hi, .ty _, E.kitV i hi, true, rfl, iteF1 (by decide) ?_⟩
        refine ⟨ai, i, v, u, rfl, hi, xa.same smB, fun p7 H7 s7 h7 => ?_⟩
        walk_at "rd"
        refine ⟨by decide, fun q8 m8 => ?_⟩
        have T8 := same_upd (o := .tup [v, u]) (Same.refl H7) m8
        have smC := smB.trans (s7.trans T8)
        have ca : ∀ n, PyData.canLay0 (.tuple ([d1, d2].take n)) = true := fun n => canLay_of (shaped_two pv8 pu8 n)
        refine ⟨_, SqL.of (smC _ _ hf), .int (nfOf i), atI_nat (FL_at i hi), _, rfl, _, SqT.of upd_same, fun hc => ?_, fun hc q9 m9 => ?_⟩
        · have e2 : nfOf i = 2 := by
            have h := hc.2
            rw [show [v, u].length = 2 from rfl, sIx_hi _ (nf_le i hi)] at h
            exact h
          rw [e2] at h7
          refine ⟨.tuple ([d1, d2].take 2), .tuple ([d1, d2].take 2), .tup (SqT.of (T8 _ _ h7)) (dp_two (pv8.same smC) (pu8.same smC) 2), .tup (SqT.of upd_same) (dp_two (pv8.same smC) (pu8.same smC) 2), shaped_two pv8 pu8 2, shaped_two pv8 pu8 2, _, rfl, ?_⟩
          rw [PySem.SeqAt.eqv_refl _ (ca 2)]
          exact iteF1 (by decide) smC
        · have ec : cutV [v, u] none (some (nfOf i : Int)) = [v, u].take (nfOf i) := by
            unfold cutV
            rw [show [v, u].length = 2 from rfl, sIx_hi _ (nf_le i hi), sIx_lo, Nat.sub_zero, List.drop_zero]
          rw [ec]
          have T9 := same_upd (o := .tup ([v, u].take (nfOf i))) (Same.refl _) m9
          have smD := smC.trans T9
          refine ⟨.tuple ([d1, d2].take (nfOf i)), .tuple ([d1, d2].take (nfOf i)), .tup (SqT.of (T9 _ _ (T8 _ _ h7))) (dp_two (pv8.same smD) (pu8.same smD) _), .tup (SqT.of upd_same) (dp_two (pv8.same smD) (pu8.same smD) _), shaped_two pv8 pu8 _, shaped_two pv8 pu8 _, _, rfl, ?_⟩
          rw [PySem.SeqAt.eqv_refl _ (ca _)]
          exact iteF1 (by decide) smD
    · rintro σ H' ⟨v6, v7, v8, rfl, sm⟩
      walk_at "rd"
      exact ⟨v, u, d1, d2, rfl, pv8.same sm, pu8.same sm, fun H1 s1 => ⟨true, rfl, iteT1 rfl ⟨by decide, fun q m => ⟨_, _, _, _, rfl, .int _, .tu1 0 upd_same, fun H2 s2 => ⟨true, rfl, iteT1 rfl ⟨p, rfl, hh8.same (sm.trans (s1.trans ((same_upd (Same.refl _) m).trans s2))), k⟩⟩⟩⟩⟩⟩
end


set_option Elab.async false
set_option linter.all false
set_option maxRecDepth 100000
set_option maxHeartbeats 8000000
open PySem L2
/-! what the top has written -/
def veT : List Value := [.type "ValueError", .type "Exception", .type "BaseException", .type "object"]
structure ErrI (K : PySem.W.Frag) (mg : Str → Option Value) (x : Str) (C G : Addr) (qual : Str) (st : Stmt) : Prop where
  gC : mg x = some (.ref C)
  cls : ∃ nm q N bs bm sn sub ab col dd k0 k1 k2 k3 k5, K.lookup C = some (excClassObj nm q C N bs bm true sn sub ab col dd k0 k1 k2 k3 k5 "ValueError.__new__") ∧ PySem.HandSPX.refsVE bm = true
  ini : InitAt K C qual st
theorem errI_mk {K : PySem.W.Frag} {mg : Str → Option Value} {h : Heap} {x qual : Str} {st : Stmt} {C G fI N : Addr} {nm q : Str} {bs : List Value} {sn : List Str} {sub : List Value} {ab : Bool} {col : Option Bool} {dd : Option Addr} {m0 m1 m2 m3 m5 : Option Value}
    {oc : Value} {od an : Option Addr} {osl : Array (Option Value)} {kV doc pm cdv ct : Value} (X : K.In h) (Gn : h.Ns mainGlobals mg)
    (a : PySem.W.nsIn K mainGlobals x = some (some (.ref C)))
    (l : K.lookup C = some (excClassObj nm q C N bs (.ref G :: veT) true sn sub ab col dd m0 m1 m2 m3 m5 "ValueError.__new__"))
    (i1 : PySem.W.findIn K (.ref C) "__init__" = some (some (.ref fI))) (i2 : PySem.W.typeIn K (.ref fI) = some (.type "function"))
    (i3 : K.lookup fI = some ⟨oc, od, .func (PySem.W.fnOf "__init__" qual (defArgs st) (defBody st) (defScope st) .none kV doc pm an cdv ct), osl⟩)
    (i4 : PySem.W.codeIn K cdv qual = true) (i5 : PySem.W.keepIn K (.ref fI) = true) : ErrI K mg x C G qual st :=
  ⟨PySem.W.mg_of X Gn a, ⟨nm, q, N, bs, _, sn, sub, ab, col, dd, m0, m1, m2, m3, m5, l, rfl⟩, ⟨fI, _, fun_mk (st := st) i3 i4 i5, i1, i2⟩⟩
structure ErrN (K : PySem.W.Frag) (mg : Str → Option Value) (x : Str) (C : Addr) : Prop where
  gC : mg x = some (.ref C)
  q : PySem.W.excIn K C [.type "ValueError", .type "Exception", .type "BaseException", .type "object"] "ValueError.__new__" = true
theorem errN_mk {K : PySem.W.Frag} {mg : Str → Option Value} {h : Heap} {x : Str} {C : Addr} (X : K.In h) (Gn : h.Ns mainGlobals mg) (a : PySem.W.nsIn K mainGlobals x = some (some (.ref C)))
    (q : PySem.W.excIn K C [.type "ValueError", .type "Exception", .type "BaseException", .type "object"] "ValueError.__new__" = true) : ErrN K mg x C := ⟨PySem.W.mg_of X Gn a, q⟩
def clB (K : PySem.W.Frag) (G C : Addr) : Bool :=
  decide (PySem.W.findIn K (.ref C) "__getattribute__" = some (some (.builtin "BaseException.__getattribute__"))) && (decide (PySem.W.findIn K (.ref C) "__getattr__" = some none) && (decide (PySem.W.subIn K (.ref C) (.type "BaseException") = some true) && (PySem.W.hasDictIn K C &&
  (decide (PySem.W.findIn K (.ref C) "__class__" = some (some (.builtin "object.__class__"))) && (decide (PySem.W.mroIn K C (.type "object") = some true) && (decide (PySem.W.findIn K (.ref C) "__setattr__" = some (some (.builtin "object.__setattr__"))) && (decide (PySem.W.typeIn K (.ref C) = some (.type "type")) &&
  (PySem.W.keepIn K (.ref C) && (fnames.all (fun n => decide (PySem.W.findIn K (.ref C) n = some none)) && (decide (PySem.W.kitOne K (.ref C) (.ref G) = some true) && decide (PySem.W.kitOne K (.ref C) (.type "ValueError") = some true)))))))))))
def prB (K : PySem.W.Frag) (cs : List Addr) : Bool := (List.range 31).all fun i => (List.range 31).all fun j => decide (PySem.W.kitOne K (.ref (cs.getD i 0)) (.ref (cs.getD j 0)) = some (decide (i = j)))
structure Cl (K : PySem.W.Frag) (G C : Addr) : Prop where
  hg : PySem.W.findIn K (.ref C) "__getattribute__" = some (some (.builtin "BaseException.__getattribute__"))
  hk : PySem.W.findIn K (.ref C) "__getattr__" = some none
  hs : PySem.W.subIn K (.ref C) (.type "BaseException") = some true
  hd : PySem.W.hasDictIn K C = true
  ha : PySem.W.findIn K (.ref C) "__class__" = some (some (.builtin "object.__class__"))
  hm : PySem.W.mroIn K C (.type "object") = some true
  sa : PySem.W.findIn K (.ref C) "__setattr__" = some (some (.builtin "object.__setattr__"))
  ty : PySem.W.typeIn K (.ref C) = some (.type "type")
  kp : PySem.W.keepIn K (.ref C) = true
  no : ∀ n ∈ fnames, PySem.W.findIn K (.ref C) n = some none
  kG : PySem.W.kitOne K (.ref C) (.ref G) = some true
  kV : PySem.W.kitOne K (.ref C) (.type "ValueError") = some true
theorem clB_ok {K : PySem.W.Frag} {G C : Addr} (h : clB K G C = true) : Cl K G C := by
  unfold clB at h
  simp only [Bool.and_eq_true, decide_eq_true_eq, List.all_eq_true] at h
  obtain ⟨h1, h2, h3, h4, h5, h6, h7, h8, h9, h10, h11, h12⟩ := h
  exact ⟨h1, h2, h3, h4, h5, h6, h7, h8, h9, h10, h11, h12⟩
theorem prB_ok {K : PySem.W.Frag} {cs : List Addr} (h : prB K cs = true) {i j : Nat} (hi : i < 31) (hj : j < 31) : PySem.W.kitOne K (.ref (cs.getD i 0)) (.ref (cs.getD j 0)) = some (decide (i = j)) := by
  unfold prB at h
  simp only [decide_eq_true_eq, List.all_eq_true, List.mem_range] at h
  exact h i hi j hj
theorem all_mk {l : PySem.W.OpenLaw} {w : World} {K : PySem.W.Frag} {h : Heap} {mg : Str → Option Value} {fa fl : Addr} (X : K.In h) (Gn : h.Ns mainGlobals mg) (hfa : mg "law" = some (.ref fa))
    {G C0 C1 C2 C3 C4 C5 C6 C7 C8 C9 C10 C11 C12 C13 C14 C15 C16 C17 C18 C19 C20 C21 C22 C23 C24 C25 C26 C27 C28 C29 C30 : Addr} {od4 an4 : Option Addr} {sl4 : Array (Option Value)} {oc4 kV4 dc4 pm4 cd4 ct4 : Value}
    (a4 : PySem.W.nsIn K mainGlobals "law" = some (some (.ref fl))) (l4 : K.lookup fl = some ⟨oc4, od4, .func (PySem.W.fnOf "law" "law" (defArgs sLaw) (defBody sLaw) (defScope sLaw) .none kV4 dc4 pm4 an4 cd4 ct4), sl4⟩) (c4 : PySem.W.codeIn K cd4 "law" = true) (k4 : PySem.W.keepIn K (.ref fl) = true)
    (aG : PySem.W.nsIn K mainGlobals "GuardError" = some (some (.ref G)))
    (e0 : ErrI K mg "BadStep" C0 G "BadStep.__init__" (inClass (top 5) 0))
    (e1 : ErrI K mg "BadLot" C1 G "BadLot.__init__" (inClass (top 6) 0))
    (e2 : ErrI K mg "NoProgram" C2 G "NoProgram.__init__" (inClass (top 7) 0))
    (e3 : ErrI K mg "NoStep" C3 G "NoStep.__init__" (inClass (top 8) 0))
    (e4 : ErrI K mg "BadWeaving" C4 G "BadWeaving.__init__" (inClass (top 9) 0))
    (e5 : ErrI K mg "BadRow" C5 G "BadRow.__init__" (inClass (top 10) 0))
    (e6 : ErrN K mg "BadSizes" C6)
    (e7 : ErrI K mg "BadFact" C7 G "BadFact.__init__" (inClass (top 12) 0))
    (e8 : ErrN K mg "BadText" C8)
    (e9 : ErrI K mg "TooMany" C9 G "TooMany.__init__" (inClass (top 14) 0))
    (e10 : ErrI K mg "TooLong" C10 G "TooLong.__init__" (inClass (top 15) 0))
    (e11 : ErrN K mg "BadOrder" C11)
    (e12 : ErrI K mg "OrderTurned" C12 G "OrderTurned.__init__" (inClass (top 17) 0))
    (e13 : ErrI K mg "BadHouse" C13 G "BadHouse.__init__" (inClass (top 18) 0))
    (e14 : ErrN K mg "BadSmallStore" C14)
    (e15 : ErrI K mg "BadMeaning" C15 G "BadMeaning.__init__" (inClass (top 20) 0))
    (e16 : ErrN K mg "BadStore" C16)
    (e17 : ErrI K mg "BadStores" C17 G "BadStores.__init__" (inClass (top 22) 0))
    (e18 : ErrI K mg "NotKept" C18 G "NotKept.__init__" (inClass (top 23) 0))
    (e19 : ErrI K mg "BadPool" C19 G "BadPool.__init__" (inClass (top 24) 0))
    (e20 : ErrI K mg "BadWish" C20 G "BadWish.__init__" (inClass (top 25) 0))
    (e21 : ErrN K mg "BadGuard" C21)
    (e22 : ErrI K mg "NotAll" C22 G "NotAll.__init__" (inClass (top 27) 0))
    (e23 : ErrI K mg "BadAsk" C23 G "BadAsk.__init__" (inClass (top 28) 0))
    (e24 : ErrN K mg "UnlikeLots" C24)
    (e25 : ErrI K mg "NotHeld" C25 G "NotHeld.__init__" (inClass (top 30) 0))
    (e26 : ErrI K mg "LateLook" C26 G "LateLook.__init__" (inClass (top 31) 0))
    (e27 : ErrI K mg "BadEdit" C27 G "BadEdit.__init__" (inClass (top 32) 0))
    (e28 : ErrI K mg "BadGoal" C28 G "BadGoal.__init__" (inClass (top 33) 0))
    (e29 : ErrI K mg "BadMendPool" C29 G "BadMendPool.__init__" (inClass (top 34) 0))
    (e30 : ErrN K mg "NothingMade" C30)
    (d_law_hand : DefAt K mg "_law_hand" sHand)
    (d_law_mixed : DefAt K mg "_law_mixed" sMixed)
    (d_law_take : DefAt K mg "_law_take" sTake)
    (d_law_whole : DefAt K mg "_law_whole" sIsW)
    (d_law_kinds_a : DefAt K mg "_law_kinds_a" sKa)
    (d_law_kinds_b : DefAt K mg "_law_kinds_b" sKb)
    (d_law_kinds_c : DefAt K mg "_law_kinds_c" sKc)
    (d_law_made_a : DefAt K mg "_law_made_a" sMa)
    (d_law_made_b : DefAt K mg "_law_made_b" sMb)
    (d_law_made_c : DefAt K mg "_law_made_c" sMc)
    (d_law_kept : DefAt K mg "_law_kept" sKept)
    (d_law_raised : DefAt K mg "_law_raised" sRaised)
    (d_law_truth : DefAt K mg "_law_truth" sTruth)
    (d_law_wholes : DefAt K mg "_law_wholes" sWholes)
    (dis_sequence : DefAt K mg "is_sequence" sSeq)
    (dw : DefD K mg "is_whole" sWhole [.non, .non])
    (zlen : PySem.W.nsIn K mainGlobals "len" = some none)
    (zint : PySem.W.nsIn K mainGlobals "int" = some none)
    (zabs : PySem.W.nsIn K mainGlobals "abs" = some none)
    (zstr : PySem.W.nsIn K mainGlobals "str" = some none)
    (zbool : PySem.W.nsIn K mainGlobals "bool" = some none)
    (zlist : PySem.W.nsIn K mainGlobals "list" = some none)
    (ztuple : PySem.W.nsIn K mainGlobals "tuple" = some none)
    (zrange : PySem.W.nsIn K mainGlobals "range" = some none)
    (zisinstance : PySem.W.nsIn K mainGlobals "isinstance" = some none)
    (zValueError : PySem.W.nsIn K mainGlobals "ValueError" = some none)
    (hn : PySem.W.specialIn K (.builtin "object.__class__") "__get__" = some (some (.builtin "getset_descriptor.__get__"))) (ht : PySem.W.takesIn K (.builtin "object.__class__") = some true)
    (g1 : PySem.W.subIn K (.ref G) (.type "BaseException") = some true) (g2 : PySem.W.hasDictIn K G = true) (g3 : PySem.W.typeIn K (.ref G) = some (.type "type")) (g4 : PySem.W.subIn K (.ref C18) (.ref G) = some true)
    (hall : [C0, C1, C2, C3, C4, C5, C6, C7, C8, C9, C10, C11, C12, C13, C14, C15, C16, C17, C18, C19, C20, C21, C22, C23, C24, C25, C26, C27, C28, C29, C30].all (clB K G) = true) (hpr : prB K [C0, C1, C2, C3, C4, C5, C6, C7, C8, C9, C10, C11, C12, C13, C14, C15, C16, C17, C18, C19, C20, C21, C22, C23, C24, C25, C26, C27, C28, C29, C30] = true) :
    ∃ fd : FuncData, (∀ (s : Shared) (v : Value), BindsTo s fd ⟨[v], []⟩ [("_law_script", v)]) ∧ ∀ base : Heap, K.In base → base.Ns mainGlobals mg → FnOk l.prog w K mg base CX0 4 fa fd ["_law_script"] (spLaw K) := by
  have e := hfa.symm.trans (PySem.W.mg_of X Gn a4)
  cases e
  have F4 := fun_mk (st := sLaw) l4 c4 k4
  have B : Bt mg := ⟨PySem.W.mg_none_of X Gn zlen, PySem.W.mg_none_of X Gn zint, PySem.W.mg_none_of X Gn zabs, PySem.W.mg_none_of X Gn zstr, PySem.W.mg_none_of X Gn zbool, PySem.W.mg_none_of X Gn zlist, PySem.W.mg_none_of X Gn ztuple, PySem.W.mg_none_of X Gn zrange, PySem.W.mg_none_of X Gn zisinstance, PySem.W.mg_none_of X Gn zValueError⟩
  have hcl : ∀ C ∈ [C0, C1, C2, C3, C4, C5, C6, C7, C8, C9, C10, C11, C12, C13, C14, C15, C16, C17, C18, C19, C20, C21, C22, C23, C24, C25, C26, C27, C28, C29, C30], Cl K G C := fun C hC => clB_ok (List.all_eq_true.mp hall C hC)
  have hca : ∀ i, i < 31 → Cl K G ([C0, C1, C2, C3, C4, C5, C6, C7, C8, C9, C10, C11, C12, C13, C14, C15, C16, C17, C18, C19, C20, C21, C22, C23, C24, C25, C26, C27, C28, C29, C30].getD i 0) := fun i hi => by
    have hi' : i < [C0, C1, C2, C3, C4, C5, C6, C7, C8, C9, C10, C11, C12, C13, C14, C15, C16, C17, C18, C19, C20, C21, C22, C23, C24, C25, C26, C27, C28, C29, C30].length := hi
    rw [List.getD_eq_getElem?_getD, List.getElem?_eq_getElem hi']
    exact hcl _ (List.getElem_mem hi')
  refine ⟨PySem.W.fnOf "law" "law" (defArgs sLaw) (defBody sLaw) (defScope sLaw) .none kV4 dc4 pm4 an4 cd4 ct4, fun s v => .of_eq rfl, fun base _ _ => ?_⟩
  have o0 : OexC K C0 := ⟨e0.cls, (hca 0 (by decide)).sa, (hca 0 (by decide)).hs, (hca 0 (by decide)).ty, (hca 0 (by decide)).kp⟩
  have o1 : OexC K C1 := ⟨e1.cls, (hca 1 (by decide)).sa, (hca 1 (by decide)).hs, (hca 1 (by decide)).ty, (hca 1 (by decide)).kp⟩
  have o2 : OexC K C2 := ⟨e2.cls, (hca 2 (by decide)).sa, (hca 2 (by decide)).hs, (hca 2 (by decide)).ty, (hca 2 (by decide)).kp⟩
  have o3 : OexC K C3 := ⟨e3.cls, (hca 3 (by decide)).sa, (hca 3 (by decide)).hs, (hca 3 (by decide)).ty, (hca 3 (by decide)).kp⟩
  have o4 : OexC K C4 := ⟨e4.cls, (hca 4 (by decide)).sa, (hca 4 (by decide)).hs, (hca 4 (by decide)).ty, (hca 4 (by decide)).kp⟩
  have o5 : OexC K C5 := ⟨e5.cls, (hca 5 (by decide)).sa, (hca 5 (by decide)).hs, (hca 5 (by decide)).ty, (hca 5 (by decide)).kp⟩
  have o7 : OexC K C7 := ⟨e7.cls, (hca 7 (by decide)).sa, (hca 7 (by decide)).hs, (hca 7 (by decide)).ty, (hca 7 (by decide)).kp⟩
  have o9 : OexC K C9 := ⟨e9.cls, (hca 9 (by decide)).sa, (hca 9 (by decide)).hs, (hca 9 (by decide)).ty, (hca 9 (by decide)).kp⟩
  have o10 : OexC K C10 := ⟨e10.cls, (hca 10 (by decide)).sa, (hca 10 (by decide)).hs, (hca 10 (by decide)).ty, (hca 10 (by decide)).kp⟩
  have o12 : OexC K C12 := ⟨e12.cls, (hca 12 (by decide)).sa, (hca 12 (by decide)).hs, (hca 12 (by decide)).ty, (hca 12 (by decide)).kp⟩
  have o13 : OexC K C13 := ⟨e13.cls, (hca 13 (by decide)).sa, (hca 13 (by decide)).hs, (hca 13 (by decide)).ty, (hca 13 (by decide)).kp⟩
  have o15 : OexC K C15 := ⟨e15.cls, (hca 15 (by decide)).sa, (hca 15 (by decide)).hs, (hca 15 (by decide)).ty, (hca 15 (by decide)).kp⟩
  have o17 : OexC K C17 := ⟨e17.cls, (hca 17 (by decide)).sa, (hca 17 (by decide)).hs, (hca 17 (by decide)).ty, (hca 17 (by decide)).kp⟩
  have o18 : OexC K C18 := ⟨e18.cls, (hca 18 (by decide)).sa, (hca 18 (by decide)).hs, (hca 18 (by decide)).ty, (hca 18 (by decide)).kp⟩
  have o19 : OexC K C19 := ⟨e19.cls, (hca 19 (by decide)).sa, (hca 19 (by decide)).hs, (hca 19 (by decide)).ty, (hca 19 (by decide)).kp⟩
  have o20 : OexC K C20 := ⟨e20.cls, (hca 20 (by decide)).sa, (hca 20 (by decide)).hs, (hca 20 (by decide)).ty, (hca 20 (by decide)).kp⟩
  have o22 : OexC K C22 := ⟨e22.cls, (hca 22 (by decide)).sa, (hca 22 (by decide)).hs, (hca 22 (by decide)).ty, (hca 22 (by decide)).kp⟩
  have o23 : OexC K C23 := ⟨e23.cls, (hca 23 (by decide)).sa, (hca 23 (by decide)).hs, (hca 23 (by decide)).ty, (hca 23 (by decide)).kp⟩
  have o25 : OexC K C25 := ⟨e25.cls, (hca 25 (by decide)).sa, (hca 25 (by decide)).hs, (hca 25 (by decide)).ty, (hca 25 (by decide)).kp⟩
  have o26 : OexC K C26 := ⟨e26.cls, (hca 26 (by decide)).sa, (hca 26 (by decide)).hs, (hca 26 (by decide)).ty, (hca 26 (by decide)).kp⟩
  have o27 : OexC K C27 := ⟨e27.cls, (hca 27 (by decide)).sa, (hca 27 (by decide)).hs, (hca 27 (by decide)).ty, (hca 27 (by decide)).kp⟩
  have o28 : OexC K C28 := ⟨e28.cls, (hca 28 (by decide)).sa, (hca 28 (by decide)).hs, (hca 28 (by decide)).ty, (hca 28 (by decide)).kp⟩
  have o29 : OexC K C29 := ⟨e29.cls, (hca 29 (by decide)).sa, (hca 29 (by decide)).hs, (hca 29 (by decide)).ty, (hca 29 (by decide)).kp⟩
  have E : Ev l.prog w K mg base (fun i => [C0, C1, C2, C3, C4, C5, C6, C7, C8, C9, C10, C11, C12, C13, C14, C15, C16, C17, C18, C19, C20, C21, C22, C23, C24, C25, C26, C27, C28, C29, C30].getD i 0) G := {
    bt := B
    m0 := mk0 e0.ini o0 e0.gC
    m1 := mk1 e1.ini o1 e1.gC
    m2 := mk2 e2.ini o2 e2.gC
    m3 := mk3 e3.ini o3 e3.gC
    m4 := mk4 e4.ini o4 e4.gC
    m5 := mk5 e5.ini o5 e5.gC
    m6 := ⟨e6.q, (hca 6 (by decide)).kp, (hca 6 (by decide)).hs, (hca 6 (by decide)).ty, e6.gC⟩
    m7 := mk7 e7.ini o7 e7.gC
    m8 := ⟨e8.q, (hca 8 (by decide)).kp, (hca 8 (by decide)).hs, (hca 8 (by decide)).ty, e8.gC⟩
    m9 := mk9 e9.ini o9 e9.gC
    m10 := mk10 e10.ini o10 e10.gC
    m11 := ⟨e11.q, (hca 11 (by decide)).kp, (hca 11 (by decide)).hs, (hca 11 (by decide)).ty, e11.gC⟩
    m12 := mk12 e12.ini o12 e12.gC
    m13 := mk13 e13.ini o13 e13.gC
    m14 := ⟨e14.q, (hca 14 (by decide)).kp, (hca 14 (by decide)).hs, (hca 14 (by decide)).ty, e14.gC⟩
    m15 := mk15 e15.ini o15 e15.gC
    m16 := ⟨e16.q, (hca 16 (by decide)).kp, (hca 16 (by decide)).hs, (hca 16 (by decide)).ty, e16.gC⟩
    m17 := mk17 e17.ini o17 e17.gC
    m18 := mk18 e18.ini o18 e18.gC
    m19 := mk19 e19.ini o19 e19.gC
    m20 := mk20 e20.ini o20 e20.gC
    m21 := ⟨e21.q, (hca 21 (by decide)).kp, (hca 21 (by decide)).hs, (hca 21 (by decide)).ty, e21.gC⟩
    m22 := mk22 e22.ini o22 e22.gC
    m23 := mk23 e23.ini o23 e23.gC
    m24 := ⟨e24.q, (hca 24 (by decide)).kp, (hca 24 (by decide)).hs, (hca 24 (by decide)).ty, e24.gC⟩
    m25 := mk25 e25.ini o25 e25.gC
    m26 := mk26 e26.ini o26 e26.gC
    m27 := mk27 e27.ini o27 e27.gC
    m28 := mk28 e28.ini o28 e28.gC
    m29 := mk29 e29.ini o29 e29.gC
    m30 := ⟨e30.q, (hca 30 (by decide)).kp, (hca 30 (by decide)).hs, (hca 30 (by decide)).ty, e30.gC⟩
    ex := fun i hi => ⟨(hca i hi).hg, (hca i hi).hk, (hca i hi).hs, (hca i hi).hd, (hca i hi).ha, hn, ht, (hca i hi).hm⟩
    no := fun i hi => (hca i hi).no
    kit := fun i j hi hj => prB_ok hpr hi hj
    kitG := fun i hi => (hca i hi).kG
    kitV := fun i hi => (hca i hi).kV
    gG := PySem.W.mg_of X Gn aG }
  have CM := ok_mixed (P := l.prog) (w := w) (base := base) d_law_mixed B
  have CH := ok_hand (P := l.prog) (w := w) (base := base) d_law_hand B
  have CT := ok_take d_law_take B CM
  have CI := ok_isW (P := l.prog) (w := w) (base := base) d_law_whole B
  have CU := ok_truth (P := l.prog) (w := w) (base := base) d_law_truth B
  have CS := ok_seq (P := l.prog) (w := w) (base := base) dis_sequence B
  have CW := ok_whole (P := l.prog) (w := w) (base := base) dw B
  exact ok_law F4 B E CH CT (ok_made_a d_law_made_a E) (ok_made_b d_law_made_b E) (ok_made_c d_law_made_c E) (ok_kinds_a d_law_kinds_a E) (ok_kinds_b d_law_kinds_b E) (ok_kinds_c d_law_kinds_c E) (ok_kept d_law_kept E) (ok_raised d_law_raised E (PySem.W.exm_ref g1 g2 g3 g4)) (ok_wholes d_law_wholes B CW CT CI CU CS)
theorem walk {l : PySem.W.OpenLaw} {q : Program} {loose : List Str} {XP : (Str → Option Value) → Heap → Prop} {YP : World → Heap → Prop} {d : DefRec} {K : Params → PySem.W.Frag} (hn : l.most = some 63) (hdf : d.params.defaults = [])
    (hY : ∀ (w : World) (h : Heap), YP w h → (K w.params).In h)
    (F : ∀ (w : World) (mg : Str → Option Value) (fa : Addr) (h : Heap), (K w.params).In h → h.Ns mainGlobals mg → mg d.name = some (.ref fa) →
      ∃ fd : FuncData, (∀ (s : Shared) (u : Value), BindsTo s fd ⟨[u], []⟩ [("_law_script", u)]) ∧ ∀ base : Heap, (K w.params).In base → base.Ns mainGlobals mg → FnOk l.prog w (K w.params) mg base CX0 4 fa fd ["_law_script"] (spLaw (K w.params))) :
    PySem.W.WalkO q loose XP YP l.row.toRowW d [] (fun f vs => PySem.call f vs) :=
  L2.walk_of (n := 63) (k := 4) (x := "_law_script") (CX := fun _ => CX0) (sp := fun w => spLaw (K w.params)) hn (by decide) hdf ⟨rfl, by decide, by decide⟩ hY F (fun _ _ a ns hl _ hS => ⟨a, ns, rfl, hS, hl, fun _ => rfl⟩) fun _ _ _ _ _ z => z
end K75

open PySem PySem.W PyProof.Rows
set_option Elab.async false
set_option maxRecDepth 100000 in
set_option maxHeartbeats 0 in
theorem PySem.Challenge.cw_knownguards_k75_whole_errors_and_whole_n_holds : PySem.Challenge.rw_knownguards_k75_whole_errors_and_whole_n.Holds := by
  w_on; o_law; k_head; (case hw => w_witness2)
  k_fill
  refine K75.walk (l := PySem.Challenge.rw_knownguards_k75_whole_errors_and_whole_n) rfl rfl (fun w h Y => PySem.W.kIn_of Y) ?F
  case F =>
    intro w mg fa h KX G hmg
    refine' K75.all_mk KX G hmg ?a4 ?l4 ?c4 ?k4 ?aG ?e0 ?e1 ?e2 ?e3 ?e4 ?e5 ?e6 ?e7 ?e8 ?e9 ?e10 ?e11 ?e12 ?e13 ?e14 ?e15 ?e16 ?e17 ?e18 ?e19 ?e20 ?e21 ?e22 ?e23 ?e24 ?e25 ?e26 ?e27 ?e28 ?e29 ?e30 ?d_law_hand ?d_law_mixed ?d_law_take ?d_law_whole ?d_law_kinds_a ?d_law_kinds_b ?d_law_kinds_c ?d_law_made_a ?d_law_made_b ?d_law_made_c ?d_law_kept ?d_law_raised ?d_law_truth ?d_law_wholes ?dis_sequence ?dw ?zlen ?zint ?zabs ?zstr ?zbool ?zlist ?ztuple ?zrange ?zisinstance ?zValueError ?hn ?ht ?g1 ?g2 ?g3 ?g4 ?hall ?hpr
    (case a4 => k_is); (case l4 => k_is); (case c4 => k_is); (case k4 => k_is); (case aG => k_is)
    (case e0 => (refine' K75.errI_mk KX G ?x1 ?x2 ?x3 ?x4 ?x5 ?x6 ?x7; (case x1 => k_is); (case x2 => k_is); (case x3 => k_is); (case x4 => k_is); (case x5 => k_is); (case x6 => k_is); (case x7 => k_is)))
    (case e1 => (refine' K75.errI_mk KX G ?x1 ?x2 ?x3 ?x4 ?x5 ?x6 ?x7; (case x1 => k_is); (case x2 => k_is); (case x3 => k_is); (case x4 => k_is); (case x5 => k_is); (case x6 => k_is); (case x7 => k_is)))
    (case e2 => (refine' K75.errI_mk KX G ?x1 ?x2 ?x3 ?x4 ?x5 ?x6 ?x7; (case x1 => k_is); (case x2 => k_is); (case x3 => k_is); (case x4 => k_is); (case x5 => k_is); (case x6 => k_is); (case x7 => k_is)))
    (case e3 => (refine' K75.errI_mk KX G ?x1 ?x2 ?x3 ?x4 ?x5 ?x6 ?x7; (case x1 => k_is); (case x2 => k_is); (case x3 => k_is); (case x4 => k_is); (case x5 => k_is); (case x6 => k_is); (case x7 => k_is)))
    (case e4 => (refine' K75.errI_mk KX G ?x1 ?x2 ?x3 ?x4 ?x5 ?x6 ?x7; (case x1 => k_is); (case x2 => k_is); (case x3 => k_is); (case x4 => k_is); (case x5 => k_is); (case x6 => k_is); (case x7 => k_is)))
    (case e5 => (refine' K75.errI_mk KX G ?x1 ?x2 ?x3 ?x4 ?x5 ?x6 ?x7; (case x1 => k_is); (case x2 => k_is); (case x3 => k_is); (case x4 => k_is); (case x5 => k_is); (case x6 => k_is); (case x7 => k_is)))
    (case e6 => (refine' K75.errN_mk KX G ?x1 ?x2; (case x1 => k_is); (case x2 => kernel_rfl)))
    (case e7 => (refine' K75.errI_mk KX G ?x1 ?x2 ?x3 ?x4 ?x5 ?x6 ?x7; (case x1 => k_is); (case x2 => k_is); (case x3 => k_is); (case x4 => k_is); (case x5 => k_is); (case x6 => k_is); (case x7 => k_is)))
    (case e8 => (refine' K75.errN_mk KX G ?x1 ?x2; (case x1 => k_is); (case x2 => kernel_rfl)))
    (case e9 => (refine' K75.errI_mk KX G ?x1 ?x2 ?x3 ?x4 ?x5 ?x6 ?x7; (case x1 => k_is); (case x2 => k_is); (case x3 => k_is); (case x4 => k_is); (case x5 => k_is); (case x6 => k_is); (case x7 => k_is)))
    (case e10 => (refine' K75.errI_mk KX G ?x1 ?x2 ?x3 ?x4 ?x5 ?x6 ?x7; (case x1 => k_is); (case x2 => k_is); (case x3 => k_is); (case x4 => k_is); (case x5 => k_is); (case x6 => k_is); (case x7 => k_is)))
    (case e11 => (refine' K75.errN_mk KX G ?x1 ?x2; (case x1 => k_is); (case x2 => kernel_rfl)))
    (case e12 => (refine' K75.errI_mk KX G ?x1 ?x2 ?x3 ?x4 ?x5 ?x6 ?x7; (case x1 => k_is); (case x2 => k_is); (case x3 => k_is); (case x4 => k_is); (case x5 => k_is); (case x6 => k_is); (case x7 => k_is)))
    (case e13 => (refine' K75.errI_mk KX G ?x1 ?x2 ?x3 ?x4 ?x5 ?x6 ?x7; (case x1 => k_is); (case x2 => k_is); (case x3 => k_is); (case x4 => k_is); (case x5 => k_is); (case x6 => k_is); (case x7 => k_is)))
    (case e14 => (refine' K75.errN_mk KX G ?x1 ?x2; (case x1 => k_is); (case x2 => kernel_rfl)))
    (case e15 => (refine' K75.errI_mk KX G ?x1 ?x2 ?x3 ?x4 ?x5 ?x6 ?x7; (case x1 => k_is); (case x2 => k_is); (case x3 => k_is); (case x4 => k_is); (case x5 => k_is); (case x6 => k_is); (case x7 => k_is)))
    (case e16 => (refine' K75.errN_mk KX G ?x1 ?x2; (case x1 => k_is); (case x2 => kernel_rfl)))
    (case e17 => (refine' K75.errI_mk KX G ?x1 ?x2 ?x3 ?x4 ?x5 ?x6 ?x7; (case x1 => k_is); (case x2 => k_is); (case x3 => k_is); (case x4 => k_is); (case x5 => k_is); (case x6 => k_is); (case x7 => k_is)))
    (case e18 => (refine' K75.errI_mk KX G ?x1 ?x2 ?x3 ?x4 ?x5 ?x6 ?x7; (case x1 => k_is); (case x2 => k_is); (case x3 => k_is); (case x4 => k_is); (case x5 => k_is); (case x6 => k_is); (case x7 => k_is)))
    (case e19 => (refine' K75.errI_mk KX G ?x1 ?x2 ?x3 ?x4 ?x5 ?x6 ?x7; (case x1 => k_is); (case x2 => k_is); (case x3 => k_is); (case x4 => k_is); (case x5 => k_is); (case x6 => k_is); (case x7 => k_is)))
    (case e20 => (refine' K75.errI_mk KX G ?x1 ?x2 ?x3 ?x4 ?x5 ?x6 ?x7; (case x1 => k_is); (case x2 => k_is); (case x3 => k_is); (case x4 => k_is); (case x5 => k_is); (case x6 => k_is); (case x7 => k_is)))
    (case e21 => (refine' K75.errN_mk KX G ?x1 ?x2; (case x1 => k_is); (case x2 => kernel_rfl)))
    (case e22 => (refine' K75.errI_mk KX G ?x1 ?x2 ?x3 ?x4 ?x5 ?x6 ?x7; (case x1 => k_is); (case x2 => k_is); (case x3 => k_is); (case x4 => k_is); (case x5 => k_is); (case x6 => k_is); (case x7 => k_is)))
    (case e23 => (refine' K75.errI_mk KX G ?x1 ?x2 ?x3 ?x4 ?x5 ?x6 ?x7; (case x1 => k_is); (case x2 => k_is); (case x3 => k_is); (case x4 => k_is); (case x5 => k_is); (case x6 => k_is); (case x7 => k_is)))
    (case e24 => (refine' K75.errN_mk KX G ?x1 ?x2; (case x1 => k_is); (case x2 => kernel_rfl)))
    (case e25 => (refine' K75.errI_mk KX G ?x1 ?x2 ?x3 ?x4 ?x5 ?x6 ?x7; (case x1 => k_is); (case x2 => k_is); (case x3 => k_is); (case x4 => k_is); (case x5 => k_is); (case x6 => k_is); (case x7 => k_is)))
    (case e26 => (refine' K75.errI_mk KX G ?x1 ?x2 ?x3 ?x4 ?x5 ?x6 ?x7; (case x1 => k_is); (case x2 => k_is); (case x3 => k_is); (case x4 => k_is); (case x5 => k_is); (case x6 => k_is); (case x7 => k_is)))
    (case e27 => (refine' K75.errI_mk KX G ?x1 ?x2 ?x3 ?x4 ?x5 ?x6 ?x7; (case x1 => k_is); (case x2 => k_is); (case x3 => k_is); (case x4 => k_is); (case x5 => k_is); (case x6 => k_is); (case x7 => k_is)))
    (case e28 => (refine' K75.errI_mk KX G ?x1 ?x2 ?x3 ?x4 ?x5 ?x6 ?x7; (case x1 => k_is); (case x2 => k_is); (case x3 => k_is); (case x4 => k_is); (case x5 => k_is); (case x6 => k_is); (case x7 => k_is)))
    (case e29 => (refine' K75.errI_mk KX G ?x1 ?x2 ?x3 ?x4 ?x5 ?x6 ?x7; (case x1 => k_is); (case x2 => k_is); (case x3 => k_is); (case x4 => k_is); (case x5 => k_is); (case x6 => k_is); (case x7 => k_is)))
    (case e30 => (refine' K75.errN_mk KX G ?x1 ?x2; (case x1 => k_is); (case x2 => kernel_rfl)))
    (case d_law_hand => (refine' L2.defAt_mk KX G ?x1 ?x2 ?x3 ?x4; (case x1 => k_is); (case x2 => k_is); (case x3 => k_is); (case x4 => k_is)))
    (case d_law_mixed => (refine' L2.defAt_mk KX G ?x1 ?x2 ?x3 ?x4; (case x1 => k_is); (case x2 => k_is); (case x3 => k_is); (case x4 => k_is)))
    (case d_law_take => (refine' L2.defAt_mk KX G ?x1 ?x2 ?x3 ?x4; (case x1 => k_is); (case x2 => k_is); (case x3 => k_is); (case x4 => k_is)))
    (case d_law_whole => (refine' L2.defAt_mk KX G ?x1 ?x2 ?x3 ?x4; (case x1 => k_is); (case x2 => k_is); (case x3 => k_is); (case x4 => k_is)))
    (case d_law_kinds_a => (refine' L2.defAt_mk KX G ?x1 ?x2 ?x3 ?x4; (case x1 => k_is); (case x2 => k_is); (case x3 => k_is); (case x4 => k_is)))
    (case d_law_kinds_b => (refine' L2.defAt_mk KX G ?x1 ?x2 ?x3 ?x4; (case x1 => k_is); (case x2 => k_is); (case x3 => k_is); (case x4 => k_is)))
    (case d_law_kinds_c => (refine' L2.defAt_mk KX G ?x1 ?x2 ?x3 ?x4; (case x1 => k_is); (case x2 => k_is); (case x3 => k_is); (case x4 => k_is)))
    (case d_law_made_a => (refine' L2.defAt_mk KX G ?x1 ?x2 ?x3 ?x4; (case x1 => k_is); (case x2 => k_is); (case x3 => k_is); (case x4 => k_is)))
    (case d_law_made_b => (refine' L2.defAt_mk KX G ?x1 ?x2 ?x3 ?x4; (case x1 => k_is); (case x2 => k_is); (case x3 => k_is); (case x4 => k_is)))
    (case d_law_made_c => (refine' L2.defAt_mk KX G ?x1 ?x2 ?x3 ?x4; (case x1 => k_is); (case x2 => k_is); (case x3 => k_is); (case x4 => k_is)))
    (case d_law_kept => (refine' L2.defAt_mk KX G ?x1 ?x2 ?x3 ?x4; (case x1 => k_is); (case x2 => k_is); (case x3 => k_is); (case x4 => k_is)))
    (case d_law_raised => (refine' L2.defAt_mk KX G ?x1 ?x2 ?x3 ?x4; (case x1 => k_is); (case x2 => k_is); (case x3 => k_is); (case x4 => k_is)))
    (case d_law_truth => (refine' L2.defAt_mk KX G ?x1 ?x2 ?x3 ?x4; (case x1 => k_is); (case x2 => k_is); (case x3 => k_is); (case x4 => k_is)))
    (case d_law_wholes => (refine' L2.defAt_mk KX G ?x1 ?x2 ?x3 ?x4; (case x1 => k_is); (case x2 => k_is); (case x3 => k_is); (case x4 => k_is)))
    (case dis_sequence => (refine' L2.defAt_mk KX G ?x1 ?x2 ?x3 ?x4; (case x1 => k_is); (case x2 => k_is); (case x3 => k_is); (case x4 => k_is)))
    (case dw => (refine' L2.defD_mk (its := [.none, .none]) KX G ?x1 ?x2 ?x3 ?x4 ?x5 ?x6 ?x7 ?x8; (case x1 => k_is); (case x2 => k_is); (case x3 => k_is); (case x4 => k_is); (case x5 => k_is); (case x6 => rfl); (case x7 => simp); (case x8 => exact .cons rfl (.cons rfl .nil))))
    (case zlen => k_is)
    (case zint => k_is)
    (case zabs => k_is)
    (case zstr => k_is)
    (case zbool => k_is)
    (case zlist => k_is)
    (case ztuple => k_is)
    (case zrange => k_is)
    (case zisinstance => k_is)
    (case zValueError => k_is)
    (case hn => k_is); (case ht => k_is); (case g1 => k_is); (case g2 => k_is); (case g3 => k_is); (case g4 => k_is)
    (case hall => kernel_rfl)
    (case hpr => kernel_rfl)
#print axioms PySem.Challenge.cw_knownguards_k75_whole_errors_and_whole_n_holds
