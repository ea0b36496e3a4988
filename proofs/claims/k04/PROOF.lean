import PyProof.Rows.All
import Wide.All
import OpenK.AllK
import Wide.FinOn
import PySem.Challenge.RW_knownguards_k04_whole_worths_made_and_to
import KE.KExcIs
import HandS.ForExc
import HandS.Comp
import HandS.Defaults
import HandS.IsInst
import HandS.ExcInit
import HandS.ExcIs
import HandS.ExcValue
import HandS.ExcField
import HandS.Small
import HandS.ForMost
import HandS.Wide
import HandS.TupAny
import HandS.Flow
import KE.SortData
import HandS.Sort
import HandS.Deep
import HandS.TupMul
import HandS.Iter
import KE.GoesMore
import KE.DataFind
import KE.GoesEnum
import HandS.Zip
import KE.DataCmp
import HandS.Star
import HandS.List
import HandS.Style
import HandS.FStr
import HandS.Text
set_option Elab.async false
set_option linter.all false
set_option maxRecDepth 100000
set_option maxHeartbeats 4000000
/-! Own exceptions as values: made by a call, their fields read, asked by isinstance. Whatever makes an exception for a raise (PMk) makes a value, too: the exception's object is tracked again. -/
namespace L2
open PySem PySem.Spec PyProof.Rows
/-- an exception that was made and not raised stands at a: its class, its own dict -/
def exq (a : Addr) (cls : Value) (d : Option Addr) : HO := .ext fun h => ∃ oe vs, h.get? a = some oe ∧ Zc cls d oe ∧ oe.data = .fields vs
theorem exq_at {P : Program} {w : World} {H : Hp} {h : Heap} {a : Addr} {cls : Value} {d : Option Addr} (ok : HOk P w H h) (e : H a = some (exq a cls d)) : ∃ oe vs, h.get? a = some oe ∧ Zc cls d oe ∧ oe.data = .fields vs := (ok a _ e).1
/-- an exception of the class at C stands at a, its attributes fs -/
def ExAt (H : Hp) (a C : Addr) (fs : List (Str × V)) : Prop := (fs = [] ∧ H a = some (exq a (.ref C) none)) ∨ ∃ d, H a = some (exq a (.ref C) (some d)) ∧ H d = some (.xd fs)
theorem ExAt.same {H H' : Hp} {a C : Addr} {fs : List (Str × V)} (x : ExAt H a C fs) (s : Same H H') : ExAt H' a C fs := x.imp (fun ⟨e, h⟩ => ⟨e, s _ _ h⟩) fun ⟨d, h1, h2⟩ => ⟨d, s _ _ h1, s _ _ h2⟩
theorem not_lst {H : Hp} {a t : Addr} {o : HO} {xs : List V} (h1 : H a = some o) (h : H t = some (.lst xs)) (no : o ≠ .lst xs) : a ≠ t := ne_of h1 h no
theorem ExAt.updL {H : Hp} {a C t : Addr} {fs : List (Str × V)} {xs ys : List V} (x : ExAt H a C fs) (h : H t = some (.lst xs)) : ExAt (upd H t (.lst ys)) a C fs := by
  have k : ∀ {b o}, H b = some o → o ≠ .lst xs → upd H t (.lst ys) b = some o := fun e n => (upd_ne (not_lst e h n)).trans e
  exact x.imp (fun ⟨e, h0⟩ => ⟨e, k h0 (fun z => by cases z)⟩) fun ⟨d, h1, h2⟩ => ⟨d, k h1 (fun z => by cases z), k h2 (fun z => by cases z)⟩
section
variable {X : Cx} {e : Expr} {pos p : Pos}
/-- any maker of exceptions, as an expression -/
def tExv (t : St → Hp → XK → Prop) : TE := fun σ H Q => t σ H fun cls d H' => ∀ a, H' a = none → Q (.ref a) (upd H' a (exq a cls d))
theorem pe_exv {t : St → Hp → XK → Prop} (mk : PMk X e t) : PE X e (tExv t) := by
  constructor
  intro pins s σ H Q I h
  have run := mk pins s σ H (fun cls d H' => ∀ a, H' a = none → Q (.ref a) (upd H' a (exq a cls d))) I h
  refine thn run ?_
  rintro u s' ⟨a, oe, vs, sG, H', cls, d, eu, J, sub, gone, obj, hz, dat, _, free, os', bare', _, q⟩
  have got : ObjOk X.prog X.w (upd H' a (exq a cls d)) s'.heap a (exq a cls d) := ⟨⟨oe, vs, obj, hz, dat⟩, ⟨oe, obj⟩, fun h1 h2 ⟨oe1, vs1, g, r⟩ keep => ⟨oe1, vs1, keep _ g, r⟩⟩
  have J2 := J.laidN (h' := s'.heap) (t' := s'.toks) sub gone free got
  have J3 : Inv X pins σ (upd H' a (exq a cls d)) s' := J2.call' (ch := []) os' Un.refl J2.hok bare' fun b z => nomatch z
  exact ⟨.ref a, _, J3, eu, q a free⟩
theorem new_exq {H : Hp} {a C d : Addr} {fs : List (Str × V)} (n : H a = none) (h : H d = some (.xd fs)) : ExAt (upd H a (exq a (.ref C) (some d))) a C fs := .inr ⟨d, upd_same, (upd_ne (ne_of_none h n)).trans h⟩
/-- C() of an own exception class without an __init__, for a raise or as a value -/
theorem pmk_bare {C : Addr} {bmB : List Value} {B newId initId : String} {x : Str} (F : ExcBaseFacts B newId initId bmB) (q : PySem.W.excIn X.K C bmB newId = true) (gC : X.mg x = some (.ref C)) (kC : PySem.W.keepIn X.K (.ref C) = true) (r : Raises X (.ref C))
    (hg : Gl X x) (hdb : (x == ("__debug__" : Str)) = false := by decide) : PMk X (.Call (.Name x p) [] [] pos) (fun _ H Q => Q (.ref C) none H) := fun pins s σ H Q I h => by
  have bare : wpAny (model X.prog X.w) X.A (call (.ref C) []) (MkP X pins σ Q) X.xe s := by
    obtain ⟨bm, N, nm, qn, bs, hdct, sn, sub, ab, col, dd, k0, k1, k2, k3, k5, mN, hC, hN, hni, T⟩ := exc_obj I.kIn q
    exact wpAny_call_exc_subT F T hC hN hni (fun h' e hm => mk_of I hm r h (I.hok.gone hm.new)) (Nat.zero_le _)
  exact wpAny_Call_Name_kw (ld_glob I hg gC (PySem.W.callWith_K0 I.kIn kC bare) hdb)
/-- the attribute n of an exception that stands in H -/
def tOxf (K : PySem.W.Frag) (n : Str) (te : TE) : TE := fun σ H Q => te σ H fun x H1 => ∃ (a C : Addr) (fs : List (Str × V)) (v : V), x = .ref a ∧ XfC K C ∧ PySem.W.findIn K (.ref C) n = some none ∧ ExAt H1 a C fs ∧ fs.lookup n = some v ∧ Q v H1
/-- where such an exception's object and dict are -/
theorem ExAt.inst {a C : Addr} {fs : List (Str × V)} {pins : List (Addr × Obj)} {σ : St} {H : Hp} {s : Shared} (I : Inv X pins σ H s) (x : ExAt H a C fs) : ∃ oe od, PySem.W.InstAt s.heap a oe C od ∧ ∀ n v, fs.lookup n = some v → ∃ od' u, od = some od' ∧ PySem.W.lookIn n od' = some (some u) ∧ RelV v u := by
  rcases x with ⟨e, h⟩ | ⟨d, h1, h2⟩
  · obtain ⟨⟨oc, od, da, sl⟩, vs, g, ⟨z1, z2⟩, z3⟩ := exq_at I.hok h
    cases z1; cases z2; cases z3
    exact ⟨_, none, ⟨g, rfl, rfl, trivial⟩, fun n v l => by rw [e] at l; cases l⟩
  · obtain ⟨⟨oc, od, da, sl⟩, vs, g, ⟨z1, z2⟩, z3⟩ := exq_at I.hok h1
    cases z1; cases z2; cases z3
    obtain ⟨mA, hns, rel⟩ := (show ObjOk X.prog X.w H s.heap d (.xd fs) from I.hok d _ h2)
    obtain ⟨od, ho, hl⟩ := lookIn_ns hns
    refine ⟨_, some od, ⟨g, rfl, rfl, ho⟩, fun n v l => ?_⟩
    obtain ⟨u, hu, ru⟩ := RelO.some_of (v := v) (o := mA n) (l ▸ rel n)
    exact ⟨od, u, rfl, (hl n).trans (congrArg some hu), ru⟩
theorem pe_oxf {te : TE} {n : Str} (he : PE X e te) (hb : attributeBase e n X.env (eval e X.env) = eval e X.env := by rfl) : PE X (.Attribute e n pos) (tOxf X.K n te) := by
  constructor
  intro pins s σ H Q I h
  refine attr_of hb (thn (he.run pins s σ H _ I h) ?_)
  rintro u s1 ⟨x, H1, I1, rx, a, C, fs, v, rfl, T, no, ea, l, q⟩
  cases rx
  obtain ⟨oe, od, J, look⟩ := ea.inst I1
  obtain ⟨od', w, rfl, hw, rw'⟩ := look n v l
  exact HandSPX.exc_get I1.kIn J T.ga T.gg T.exC (PySem.W.findObj_own T.hdC no rfl hw) (handed_of rw') ⟨v, H1, I1.tok _, rw', q⟩
theorem ExcC.kit {K : PySem.W.Frag} {C x : Addr} {oe : Obj} {od : Option Obj} (c : ExcC K C) : PySem.W.KitX K (.ref x) (.ref C) fun h => PySem.W.InstAt h x oe C od :=
  PySem.W.kitx_exc (by obtain ⟨cd, hc, _⟩ := PySem.W.any_some c.hd; rw [hc]; rfl) c.hg c.hk c.hs c.ha c.hn c.ht c.hm
/-- isinstance(e, c) of an exception that stands in H -/
def rIsO (K : PySem.W.Frag) : List V → Hp → VK → Prop := fun xs H Q => ∃ (a D : Addr) (fs : List (Str × V)) (c : V) (cv : Value) (b : Bool), xs = [.ref a, c] ∧ ExAt H a D fs ∧ ExcC K D ∧ ClsV c cv ∧ PySem.W.kitOne K (.ref D) cv = some b ∧ Q (.bl b) H
theorem call_isO : CallR X (.builtin "isinstance") (rIsO X.K) := by
  rintro pins s σ H xs us Q I r ⟨a, D, fs, c, cv, b, rfl, ea, C, k, e, q⟩
  obtain ⟨u1, u2, rfl, r1, r2⟩ := vals2 r
  cases k.eq r2
  cases r1
  obtain ⟨oe, od, J, _⟩ := ea.inst I
  exact PySem.W.kia_one C.kit I.kIn J e (fun z => nomatch z) fun tk => ⟨.bl b, H, I.tok tk, rfl, q⟩
theorem op_eqDs {a : Addr} {pn : List (Addr × Obj)} (hu : X.A.units + 64 < cLine) : OpR (X.suite a pn) (compareOp .Eq) (rEqD X.K) := op_eqD (X := X.suite a pn) hu
/-- isinstance(e, c), e the exception that the suite holds, with a dict of its own -/
def rIsS (K : PySem.W.Frag) (a : Addr) (cls : Value) (d : Option Addr) : List V → Hp → VK → Prop := fun xs H Q => ∃ (D dd : Addr) (fs : List (Str × V)) (c : V) (cv : Value) (b : Bool), cls = .ref D ∧ d = some dd ∧ xs = [.ref a, c] ∧ H dd = some (.xd fs) ∧ ExcC K D ∧ ClsV c cv ∧ PySem.W.kitOne K (.ref D) cv = some b ∧ Q (.bl b) H
theorem call_isS {a : Addr} {oe : Obj} {cls : Value} {d : Option Addr} {pn : List (Addr × Obj)} (hz : Zc cls d oe) (hf : ∃ vs, oe.data = .fields vs) : CallR (X.suite a ((a, oe) :: pn)) (.builtin "isinstance") (rIsS X.K a cls d) := by
  rintro pins s σ H xs us Q I r ⟨D, dd, fs, c, cv, b, rfl, rfl, rfl, hd, C, k, e, q⟩
  obtain ⟨u1, u2, rfl, r1, r2⟩ := vals2 r
  cases k.eq r2
  cases r1
  have stands := (I.pin (a, oe) (List.mem_append_left _ List.mem_cons_self)).1
  obtain ⟨mA, hns, _⟩ := (show ObjOk X.prog X.w H s.heap dd (.xd fs) from I.hok dd _ hd)
  obtain ⟨od, ho, _⟩ := lookIn_ns hns
  obtain ⟨oc, odd, da, sl⟩ := oe
  obtain ⟨⟨z1, z2⟩, vs, z3⟩ := hz, hf
  cases z1; cases z2; cases z3
  have J : PySem.W.InstAt s.heap a { cls := .ref D, dict := some dd, data := .fields vs, slots := sl } D (some od) := ⟨stands, rfl, rfl, ho⟩
  exact PySem.W.kia_one C.kit I.kIn J e (fun z => nomatch z) fun tk => ⟨.bl b, H, I.kept (t' := tk) fun _ _ z => z, rfl, q⟩
end
/-! the error classes of a package: what is asked of each, made anew, with one attribute, two, none -/
/-- an exception that an __init__ has made: its dict is new -/
def ExNew (H H' : Hp) (a C : Addr) (fs : List (Str × V)) : Prop := ∃ d, d ≠ a ∧ H d = none ∧ H' a = some (exo a C (some d)) ∧ H' d = some (exd d fs)
def spI1 (K : PySem.W.Frag) (C : Addr) (f : Str) : Sp := fun vs H Q _ => ∃ (a : Addr) (v : V), vs = [.ref a, v] ∧ OexC K C ∧ PySem.W.findIn K (.ref C) f = some none ∧ H a = some (exo a C none) ∧
  ∀ H', (∀ b o, b ≠ a → H b = some o → H' b = some o) → ExNew H H' a C [(f, v)] → Q .non H'
def spI2 (K : PySem.W.Frag) (C : Addr) (f g : Str) : Sp := fun vs H Q _ => ∃ (a : Addr) (v u : V), vs = [.ref a, v, u] ∧ OexC K C ∧ PySem.W.findIn K (.ref C) f = some none ∧ PySem.W.findIn K (.ref C) g = some none ∧ H a = some (exo a C none) ∧
  ∀ H', (∀ b o, b ≠ a → H b = some o → H' b = some o) → ExNew H H' a C [(g, u), (f, v)] → Q .non H'
/-- a class with an __init__ of its own that keeps sp -/
structure MkE (P : Program) (w : World) (K : PySem.W.Frag) (mg : Str → Option Value) (base : Heap) (x : Str) (C : Addr) (ps : List Str) (sp : Sp) : Prop where
  ex : ∃ fI fd, FnOk P w K mg base CX0 1 fI fd ps sp ∧ PySem.W.findIn K (.ref C) "__init__" = some (some (.ref fI)) ∧ PySem.W.typeIn K (.ref fI) = some (.type "function") ∧ Binds K fd ps []
  ox : OexC K C
  gC : mg x = some (.ref C)
/-- where the __init__ of the class at C stands -/
structure InitAt (K : PySem.W.Frag) (C : Addr) (qual : Str) (st : Stmt) : Prop where
  ex : ∃ fI fd, Fun K "__init__" qual st fI fd ∧ PySem.W.findIn K (.ref C) "__init__" = some (some (.ref fI)) ∧ PySem.W.typeIn K (.ref fI) = some (.type "function")
structure MkN (K : PySem.W.Frag) (mg : Str → Option Value) (x : Str) (C : Addr) : Prop where
  q : PySem.W.excIn K C [.type "ValueError", .type "Exception", .type "BaseException", .type "object"] "ValueError.__new__" = true
  kC : PySem.W.keepIn K (.ref C) = true
  exC : PySem.W.subIn K (.ref C) (.type "BaseException") = some true
  tyC : PySem.W.typeIn K (.ref C) = some (.type "type")
  gC : mg x = some (.ref C)
section
variable {X : Cx} {P : Program} {w : World} {K : PySem.W.Frag} {mg : Str → Option Value} {base : Heap} {x f g qual : Str} {C : Addr} {st : Stmt} {ps : List Str} {sp : Sp} {a b : Expr} {ta tb : TE} {p pos : Pos}
theorem mkE_of (I : InitAt K C qual st) (ox : OexC K C) (gC : mg x = some (.ref C))
    (hb : ∀ (kV doc pm : Value) (an : Option Addr) (cdv ct : Value) (us : List Value), us.length = ps.length → bindArgs (PySem.W.fnOf "__init__" qual (defArgs st) (defBody st) (defScope st) .none kV doc pm an cdv ct) ⟨us, []⟩ = pure (ps.zip us))
    (h : ∀ fI fd, Fun K "__init__" qual st fI fd → FnOk P w K mg base CX0 1 fI fd ps sp) : MkE P w K mg base x C ps sp := by
  obtain ⟨fI, fd, F, h1, h2⟩ := I.ex
  exact ⟨⟨fI, fd, h fI fd F, h1, h2, F.binds hb⟩, ox, gC⟩
theorem pmk_E (M : MkE X.prog X.w X.K X.mg X.base x C ps sp) (hg : Gl X x) (hr : Room 2 X.A) {es : List Expr} {ta : TA} (ha : PA X (a :: es) ta)
    (hdb : (x == ("__debug__" : Str)) = false := by decide) (he : starEach (a :: es) X.env = (false, eval a X.env) :: starEach es X.env := by rfl) (hpl : (backTo pos (starEach es X.env)).any (·.1) = false := by rfl) :
    PMk X (.Call (.Name x p) (a :: es) [] pos) (tMkO C sp [] ta) := by
  obtain ⟨⟨fI, fd, F, h1, h2, hb⟩, ox, gC⟩ := M
  exact pmk_oex (p := p) (pos := pos) ox h1 h2 F hr hb .nil pass0 hg gC ha hdb he hpl
theorem pmk_N (M : MkN X.K X.mg x C) (hg : Gl X x) (hdb : (x == ("__debug__" : Str)) = false := by decide) : PMk X (.Call (.Name x p) [] [] pos) (fun _ H Q => Q (.ref C) none H) :=
  pmk_bare F.excBase_ValueError M.q M.gC M.kC (raises_own M.exC M.tyC) hg hdb
/-- behind an __init__: what stood still stands, the exception at its new address -/
theorem exv_facts {H H' : Hp} {e e' d : Addr} {o : HO} {fs : List (Str × V)} (n : H e = none) (k : ∀ b u, b ≠ e → upd H e o b = some u → H' b = some u) (nd : upd H e o d = none) (de : d ≠ e) (n' : upd (L2.del H' e) d (.xd fs) e' = none) :
    H d = none ∧ Same H (upd (upd (L2.del H' e) d (.xd fs)) e' (exq e' (.ref C) (some d))) ∧ ExAt (upd (upd (L2.del H' e) d (.xd fs)) e' (exq e' (.ref C) (some d))) e' C fs := by
  have nd' : H d = none := by rw [upd_ne de] at nd; exact nd
  have s1 : Same H (upd (L2.del H' e) d (.xd fs)) := fun b u q => by
    rw [upd_ne (ne_of_none q nd'), L2.del_ne (ne_of_none q n)]
    exact k b u (ne_of_none q n) ((upd_ne (ne_of_none q n)).trans q)
  exact ⟨nd', fun b u q => (upd_ne (ne_of_none (s1 b u q) n')).trans (s1 b u q), new_exq n' upd_same⟩
/-- the store self.f = y of an __init__, the first -/
theorem ost_go1 {H : Hp} {a0 : Addr} {v : V} (h0 : H a0 = some (exo a0 C none)) {Q : Hp → Prop} (h : ∀ H', (∀ b o, b ≠ a0 → H b = some o → H' b = some o) → (∃ d, d ≠ a0 ∧ H d = none ∧ H' a0 = some (exo a0 C (some d)) ∧ H' d = some (exd d [(f, v)])) → Q H') :
    ∀ dx, H dx = none → dx ≠ a0 → Q (upd (upd H dx (exd dx [(f, v)])) a0 (exo a0 C (some dx))) := fun dx n ne =>
  h _ (fun b o hb e => by rw [upd_ne hb, upd_ne (ne_of_none e n)]; exact e) ⟨dx, ne, n, upd_same, by rw [upd_ne ne, upd_same]⟩
end
end L2

set_option Elab.async false
set_option linter.all false
set_option maxRecDepth 100000
set_option maxHeartbeats 4000000
namespace L2
open PySem PySem.Spec PyProof.Rows
/-- a def of the module that may be called: its promise, where it stands, how it binds -/
structure Cal (P : Program) (w : World) (K : PySem.W.Frag) (mg : Str → Option Value) (base : Heap) (CX : CXT) (k : Nat) (x : Str) (ps : List Str) (sp : Sp) : Prop where
  ex : ∃ f fd, FnOk P w K mg base CX k f fd ps sp ∧ mg x = some (.ref f) ∧ PySem.W.keepIn K (.ref f) = true ∧ Binds K fd ps []
/-- where a def of the text stands -/
structure DefAt (K : PySem.W.Frag) (mg : Str → Option Value) (x : Str) (st : Stmt) : Prop where
  ex : ∃ f fd, Fun K x x st f fd ∧ mg x = some (.ref f)
section
variable {P : Program} {w : World} {K : PySem.W.Frag} {mg : Str → Option Value} {base : Heap}
theorem defAt_mk {h : Heap} {x : Str} {st : Stmt} {f : Addr} {oc : Value} {od an : Option Addr} {osl : Array (Option Value)} {kV doc pm cdv ct : Value} (X : K.In h) (G : h.Ns mainGlobals mg)
    (a : PySem.W.nsIn K mainGlobals x = some (some (.ref f)))
    (l : K.lookup f = some ⟨oc, od, .func (PySem.W.fnOf x x (defArgs st) (defBody st) (defScope st) .none kV doc pm an cdv ct), osl⟩)
    (c : PySem.W.codeIn K cdv x = true) (k : PySem.W.keepIn K (.ref f) = true) : DefAt K mg x st := ⟨f, _, fun_mk (st := st) l c k, PySem.W.mg_of X G a⟩
theorem DefAt.cal {CX : CXT} {k : Nat} {x : Str} {st : Stmt} {ps : List Str} {sp : Sp} (D : DefAt K mg x st)
    (hb : ∀ (kV doc pm : Value) (an : Option Addr) (cdv ct : Value) (us : List Value), us.length = ps.length → bindArgs (PySem.W.fnOf x x (defArgs st) (defBody st) (defScope st) .none kV doc pm an cdv ct) ⟨us, []⟩ = pure (ps.zip us))
    (h : ∀ f fd, Fun K x x st f fd → FnOk P w K mg base CX k f fd ps sp) : Cal P w K mg base CX k x ps sp := by
  obtain ⟨f, fd, F, hm⟩ := D.ex
  exact ⟨f, fd, h f fd F, hm, F.kp, F.binds hb⟩
end
section
variable {X : Cx} {CX : CXT} {k : Nat} {ps : List Str} {sp : Sp} {E : XK} {x : Str} {p pos : Pos} {e : Expr} {es : List Expr} {t : TA}
def tCal (sp : Sp) (E : XK) (t : TA) : TE := fun σ H Q => t σ H fun vs H1 => sp vs H1 Q E
theorem pe_cal (C : Cal X.prog X.w X.K X.mg X.base CX k x ps sp) (hg : Gl X x) (hr : Room k X.A) (hx : Passes CX X E)
    (ha : PA X (e :: es) t) (hdb : (x == ("__debug__" : Str)) = false := by decide) (he : starEach (e :: es) X.env = (false, eval e X.env) :: starEach es X.env := by rfl) (hpl : (backTo pos (starEach es X.env)).any (·.1) = false := by rfl) :
    PE X (.Call (.Name x p) (e :: es) [] pos) (tCal sp E t) := by
  obtain ⟨f, fd, F, hm, hk, hb⟩ := C.ex
  have h := pe_call (dvs := []) (p := p) (pos := pos) F hr hg hm hk hb .nil hx ha hdb he hpl
  have e : tCall sp [] E t = tCal sp E t := by
    funext σ H Q
    unfold tCall tCal
    simp only [List.append_nil]
  rw [e] at h
  exact h
theorem pe_cal0 (C : Cal X.prog X.w X.K X.mg X.base CX k x ps sp) (hg : Gl X x) (hr : Room k X.A) (hx : Passes CX X E) (hdb : (x == ("__debug__" : Str)) = false := by decide) :
    PE X (.Call (.Name x p) [] [] pos) (tCal sp E tNil) := by
  obtain ⟨f, fd, F, hm, hk, hb⟩ := C.ex
  have h := pe_call0 (dvs := []) (p := p) (pos := pos) F hr hg hm hk hb .nil hx hdb
  have e : tCall sp [] E tNil = tCal sp E tNil := by
    funext σ H Q
    unfold tCall tCal
    simp only [List.append_nil]
  rw [e] at h
  exact h
end

/-! what the readings come to -/
theorem rEq_int {i j : Int} {H : Hp} {Q : VK} : rEq (.int i) (.int j) H Q ↔ Q (.bl (decide (i = j))) H := by
  unfold rEq
  simp [scal]
theorem rEq_str {i j : Str} {H : Hp} {Q : VK} : rEq (.str i) (.str j) H Q ↔ Q (.bl (decide (i = j))) H := by
  unfold rEq
  simp [scal]
theorem rEq_bl {i j : Bool} {H : Hp} {Q : VK} : rEq (.bl i) (.bl j) H Q ↔ Q (.bl (decide (i = j))) H := by
  unfold rEq
  simp [scal]
theorem rNe_int {i j : Int} {H : Hp} {Q : VK} : rNe (.int i) (.int j) H Q ↔ Q (.bl (!decide (i = j))) H := by
  unfold rNe
  simp [scal]
theorem rNe_str {i j : Str} {H : Hp} {Q : VK} : rNe (.str i) (.str j) H Q ↔ Q (.bl (!decide (i = j))) H := by
  unfold rNe
  simp [scal]
theorem rNe_bl {i j : Bool} {H : Hp} {Q : VK} : rNe (.bl i) (.bl j) H Q ↔ Q (.bl (!decide (i = j))) H := by
  unfold rNe
  simp [scal]
theorem atI_0 {α : Type} {a : α} {l : List α} : atI (a :: l) (0 : Int) = some a := atI_nat (j := 0) rfl
theorem atI_1 {α : Type} {a b : α} {l : List α} : atI (a :: b :: l) (1 : Int) = some b := atI_nat (j := 1) rfl
theorem atI_2 {α : Type} {a b c : α} {l : List α} : atI (a :: b :: c :: l) (2 : Int) = some c := atI_nat (j := 2) rfl
theorem atI_3 {α : Type} {a b c d : α} {l : List α} : atI (a :: b :: c :: d :: l) (3 : Int) = some d := atI_nat (j := 3) rfl
theorem cxOf_K {CX : CXT} {P : Program} {w : World} {K : PySem.W.Frag} {mg : Str → Option Value} {base : Heap} {N : List Str} {q : Str} {sc : Scope} {f : Addr} {cd : Value} {A : Around} {o : List Env} {s : Shared} {H : Hp} {E : XK} : (cxOf CX P w K mg base N q sc f cd A o s H E).K = K := rfl
theorem nox_K {X : Cx} : X.nox.K = X.K := rfl
/-- o[i] = v, the list at hand -/
theorem set_at {p : Addr} {xs : List V} {k : Nat} {v : V} {H : Hp} {Q : Hp → Prop} (h : H p = some (.lst xs)) (hk : k < xs.length) (q : Q (upd H p (.lst (xs.set k v)))) : rSetL (.ref p) (.int (k : Int)) v H Q :=
  ⟨p, xs, k, k, rfl, rfl, h, by unfold ixN; rw [if_pos (by omega), if_pos (by omega)]; simp, q⟩
section
variable {p : Addr} {a b c d v : V} {l : List V} {H : Hp} {Q : Hp → Prop}
theorem set_0 (h : H p = some (.lst (a :: l))) (q : Q (upd H p (.lst (v :: l)))) : rSetL (.ref p) (.int 0) v H Q := set_at (k := 0) h (by simp) q
theorem set_1 (h : H p = some (.lst (a :: b :: l))) (q : Q (upd H p (.lst (a :: v :: l)))) : rSetL (.ref p) (.int 1) v H Q := set_at (k := 1) h (by simp) q
theorem set_2 (h : H p = some (.lst (a :: b :: c :: l))) (q : Q (upd H p (.lst (a :: b :: v :: l)))) : rSetL (.ref p) (.int 2) v H Q := set_at (k := 2) h (by simp) q
theorem set_3 (h : H p = some (.lst (a :: b :: c :: d :: l))) (q : Q (upd H p (.lst (a :: b :: c :: v :: l)))) : rSetL (.ref p) (.int 3) v H Q := set_at (k := 3) h (by simp) q
end
theorem atI_int {α : Type} {xs : List α} {z : Int} {v : α} (h0 : 0 ≤ z) (h : xs[z.toNat]? = some v) : atI xs z = some v := by
  have e : z = (z.toNat : Int) := by omega
  rw [e]
  exact atI_nat h
/-! a def with defaults (no keyword-only ones) -/
structure DefD (K : PySem.W.Frag) (mg : Str → Option Value) (x : Str) (st : Stmt) (dvs : List V) : Prop where
  ex : ∃ f fd, FunD K x x (defArgs st) (defBody st) (defScope st) dvs [] f fd ∧ mg x = some (.ref f)
structure CalD (P : Program) (w : World) (K : PySem.W.Frag) (mg : Str → Option Value) (base : Heap) (CX : CXT) (k : Nat) (x : Str) (ps : List Str) (dvs : List V) (sp : Sp) (kw : List (List Str × (List V → List V → List V))) : Prop where
  ex : ∃ f fd, FnOk P w K mg base CX k f fd ps sp ∧ mg x = some (.ref f) ∧ PySem.W.keepIn K (.ref f) = true ∧ (∀ j, j ≤ dvs.length → ∃ ds, Vals (dvs.drop j) ds ∧ Binds K fd ps ds) ∧ ∀ q ∈ kw, ∃ g, KBn K fd ps 1 q.1 g q.2
theorem defD_mk {K : PySem.W.Frag} {mg : Str → Option Value} {h : Heap} {x : Str} {st : Stmt} {f T : Addr} {oc : Value} {od an : Option Addr} {osl : Array (Option Value)} {kV doc pm cdv ct : Value} {o : Obj} {its : List Value} {n : Nat} {dvs : List V} (X : K.In h) (G : h.Ns mainGlobals mg)
    (a : PySem.W.nsIn K mainGlobals x = some (some (.ref f)))
    (l : K.lookup f = some ⟨oc, od, .func (PySem.W.fnOf x x (defArgs st) (defBody st) (defScope st) (.ref T) kV doc pm an cdv ct), osl⟩)
    (lT : K.lookup T = some o) (c : PySem.W.codeIn K cdv x = true) (k : PySem.W.keepIn K (.ref f) = true) (oT : o.data = .seq its.toArray n) (hd : dvs ≠ []) (r : Vals dvs its) : DefD K mg x st dvs :=
  ⟨f, _, ⟨⟨oc, od, .ref T, kV, doc, pm, an, cdv, ct, osl, rfl, l, c, .inr ⟨hd, T, o, its, n, rfl, lT, oT, r⟩, .inl rfl⟩, k⟩, PySem.W.mg_of X G a⟩
section
variable {X : Cx} {CX : CXT} {k : Nat} {ps : List Str} {sp : Sp} {E : XK} {x : Str} {p pos : Pos} {e : Expr} {es : List Expr} {t : TA} {dvs : List V} {kw : List (List Str × (List V → List V → List V))}
theorem pe_calD (C : CalD X.prog X.w X.K X.mg X.base CX k x ps dvs sp kw) (j : Nat) (hj : j ≤ dvs.length) (hg : Gl X x) (hr : Room k X.A) (hx : Passes CX X E)
    (ha : PA X (e :: es) t) (hdb : (x == ("__debug__" : Str)) = false := by decide) (he : starEach (e :: es) X.env = (false, eval e X.env) :: starEach es X.env := by rfl) (hpl : (backTo pos (starEach es X.env)).any (·.1) = false := by rfl) :
    PE X (.Call (.Name x p) (e :: es) [] pos) (tCall sp (dvs.drop j) E t) := by
  obtain ⟨f, fd, F, hm, hk, hb, _⟩ := C.ex
  obtain ⟨ds, hd, hb⟩ := hb j hj
  exact pe_call (p := p) (pos := pos) F hr hg hm hk hb hd hx ha hdb he hpl
theorem pe_calK {kws : List Keyword} {ks : List Str} {gV : List V → List V → List V} {tk : TA} (C : CalD X.prog X.w X.K X.mg X.base CX k x ps dvs sp kw) (hq : (ks, gV) ∈ kw) (hg : Gl X x) (hr : Room k X.A) (hx : Passes CX X E)
    (ha : PA X (e :: es) t) (hkw : PK X kws tk) (hall : (backToKw pos (keywordEach kws X.env)).all (·.1.isSome) = true := by rfl) (hks : (backToKw pos (keywordEach kws X.env)).filterMap (·.1) = ks := by rfl)
    (hdb : (x == ("__debug__" : Str)) = false := by decide) (he : starEach (e :: es) X.env = (false, eval e X.env) :: starEach es X.env := by rfl)
    (hpl : ((backTo pos (starEach (e :: es) X.env)).any (·.1) || (backToKw pos (keywordEach kws X.env)).any (·.1.isNone)) = false := by rfl) :
    PE X (.Call (.Name x p) (e :: es) kws pos) (tCallN 1 ks.length sp gV E t tk) := by
  obtain ⟨f, fd, F, hm, hk, _, hb⟩ := C.ex
  obtain ⟨g, hb⟩ := hb _ hq
  exact pe_callN (p := p) (pos := pos) F hr hg hm hk hb hx ha hkw hall hks hdb he hpl
end
/-- a for behind what it walks -/
def Lp (g : TG) (tb : TS) (D : Ends) (σ : St) (J : It) (H1 : Hp) : Prop := ∃ W : Nat → Nat → St → Hp → Prop, (∃ m, W 0 m σ H1) ∧ ∀ i m σ H, W i m σ H →
  (J.stop i H ∧ D.nx σ H) ∨ (J.go i H ∧ ∃ N : St → Hp → Prop, (∀ σ' H', N σ' H' → ∃ m', m' < m ∧ W (i + 1) m' σ' H') ∧ ∀ x H', J.yld i H x H' → g x σ H' fun σ2 H2 => tb { D with nx := N, ct := N, bk := D.nx } σ2 H2)
theorem tFor_eq {wi : TI} {g : TG} {tb : TS} {D : Ends} {σ : St} {H : Hp} : tFor wi g tb D σ H = wi σ H fun J H1 => Lp g tb D σ J H1 := rfl
/-- a list comprehension behind what it walks -/
def LpC (g : TG) (tt : TT) (te : TE) (vs : List Nat) (σ : St) (Q : VK) (J : It) (H1 : Hp) : Prop := ∀ D, H1 D = none → ∃ W : Nat → Nat → Hp → Prop, (∃ m, W 0 m (upd H1 D (.lst []))) ∧ ∀ i m H, W i m H →
  (J.stop i H ∧ Q (.ref D) H) ∨ (J.go i H ∧ ∃ Nx : Hp → Prop, (∀ H', Nx H' → ∃ m', m' < m ∧ W (i + 1) m' H') ∧ ∀ x H', J.yld i H x H' → g x (wipe σ vs) H' fun σ2 H2 => wipe σ2 vs = wipe σ vs ∧ tt σ2 H2 fun b H3 =>
    if b = true then te σ2 H3 fun y H4 => ∃ acc, H4 D = some (.lst acc) ∧ acc.length < sizeLine ∧ Nx (upd H4 D (.lst (acc ++ [y]))) else Nx H3)
theorem tLc_eq {wi : TI} {g : TG} {tt : TT} {te : TE} {vs : List Nat} {σ : St} {H : Hp} {Q : VK} : tLc wi g tt te vs σ H Q = wi σ H fun J H1 => LpC g tt te vs σ Q J H1 := rfl
end L2

set_option Elab.async false
set_option linter.all false
set_option maxRecDepth 100000
set_option maxHeartbeats 4000000
/-! Sorting data of any depth, in a list or a tuple, an empty tuple first or none at all. -/
namespace L2
open PySem PySem.Spec PyProof.Rows PySem.SeqAt
section
variable {prog : Program} {w : World} {A : Around} {E : Value → Shared → Prop} {s : Shared}
/-- what sorted does first, of a tuple -/
theorem tp_collect {t : Addr} {us : List Value} {R : List Value → Shared → Prop} (ht : s.heap.IsTuple t us.toArray) (hz : us.length ≤ sizeLine)
    (k : R us { s with heap := (s.heap.push (seqObj "list" #[] 0)).update s.heap.objs.size (Obj.mapSeq (· ++ us.toArray)) }) : wpAny (model prog w) A (collect (.ref t)) R E s := by
  obtain ⟨u, hu, ec, m, ed⟩ := id ht
  have hu2 : (s.heap.push (seqObj "list" #[] 0)).get? t = some u := Heap.get?_push_of_some _ hu
  have hn : (s.heap.push (seqObj "list" #[] 0)).get? s.heap.objs.size = some (seqObj "list" #[] 0) := Heap.get?_push_size _ rfl
  have yes : (Value.type "tuple" == Value.type "tuple") = true := by rfl
  unfold collect
  refine wpAny_bind (wpAny_runValue (codeAny_builtin entry_proto_collect' ?_)); unfold Builtin.«proto.collect»
  refine wpAny_bind (wpAny_newList (wpAny_pure ⟨Code.quiet_builtin _ (by decide +kernel), codeAny_builtin entry_list_iadd' ?_⟩)); unfold Builtin.«list.__iadd__»
  show wpAny _ _ (Builtin.List.listExtendWith (Value.ref s.heap.objs.size) (Value.ref t) (Value.ref s.heap.objs.size)) _ _ { s with heap := s.heap.push (seqObj "list" #[] 0) }
  unfold Builtin.List.listExtendWith; refine wpAny_bind (wpAny_typeOf (T := "tuple") ⟨u, hu2, ec⟩ ?_)
  rw [if_pos (by rw [yes]; simp)]; refine wpAny_bind (listItems_at hu2 ed (wpAny_bind (listItems_at hn rfl ?_)))
  rw [if_neg (by simp)]
  refine wpAny_bind (listUpdate_at hn rfl (wpAny_pure ?_) (Nat.zero_le _) (by simp only [Array.size_append, List.size_toArray, List.length_nil]; omega))
  have cut : ((#[] : Array Value) ++ us.toArray).toList = us := by simp
  show wpAny (model prog w) A (load s.heap.objs.size >>= fun o => (match o.data with | .seq xs _ => pure xs.toList | _ => unsupported "internal:collect")) R E _
  refine wpAny_bind (wpAny_load (get?_update_seq hn _) ?_)
  show wpAny _ _ (pure ((#[] : Array Value) ++ us.toArray).toList) R E _
  rw [cut]; exact wpAny_pure k
/-- sorted(t), t a tuple: what list.sort does with a new list of its items -/
theorem sorted_tp {κ : KeyKind} {t : Addr} {us : List Value} {R : Value → Shared → Prop} (ht : s.heap.IsTuple t us.toArray) (hz : us.length ≤ sizeLine)
    (S : PySem.W.SortsAt prog w A.in1.in1 { s with heap := PySem.W.sortingHeap (PySem.W.copyHeap s.heap us) (s.heap.objs.size + 1) us } κ us)
    (k : R (.ref (s.heap.objs.size + 1)) { s with heap := sortedAll s.heap us (PySem.W.sortVals κ false us us).toArray }) : wpAny (model prog w) A (call (.builtin "sorted") [.ref t]) R E s := by
  refine PySem.Calls.call_function_entry kind_sorted plain_sorted entry_sorted (args_sorted1 _) ?_
  unfold Builtin.«sorted»; refine wpAny_bind (m := checkCount "sorted" 1 1 _) (wpAny_pure (wpAny_bind (tp_collect ht hz (wpAny_bind (wpAny_newList ?_ hz)))))
  have at1 : ((s.heap.push (seqObj "list" #[] 0)).update s.heap.objs.size (Obj.mapSeq (· ++ us.toArray))).objs.size = s.heap.objs.size + 1 := (Heap.size_update ..).trans (size_push' ..)
  rw [at1]; show wpAny _ _ _ _ _ { s with heap := PySem.W.copyHeap s.heap us }
  have run := PySem.W.list_sort_vals (E := E) (s := { s with heap := PySem.W.copyHeap s.heap us }) (P := fun f s' => f = .done (.ret .none) ∧ R (.ref (s.heap.objs.size + 1)) s') (PySem.W.copyHeap_at s.heap us) S hz ⟨rfl, k⟩
  refine wpAny_bind (wpAny_holding (wpAny_call_entry slot_list_sort ⟨_, PySem.W.copyHeap_at s.heap us, rfl⟩ entry_list_sort (wpAny_mono run (fun f s' e => ?_) fun _ _ e => e) (args_list_sort _)))
  obtain ⟨ef, q⟩ := e
  subst ef
  exact ⟨_, rfl, wpAny_pure ⟨_, rfl, q⟩⟩
/-- one key below another, both tuples: tuple's own __lt__ is asked -/
theorem lt_tups {xs ys : List PyData} {a b : Value} {as bs : List Addr} {R : Bool → Shared → Prop} (ra : Reads s.heap a (.tuple xs) as) (rb : Reads s.heap b (.tuple ys) bs) (al : PySem.W.alikeAll xs ys = true)
    (hu : A.units + min (PyData.tuple xs).depth (PyData.tuple ys).depth < cLine) (q : R (PySem.W.dataLt (.tuple xs) (.tuple ys)) s) : wpAny (model prog w) A (oneLt' true a b) R E s := by
  cases ra with
  | @tuple l o vs n _ _ h1 h2 h3 h4 =>
    cases rb with
    | @tuple l' o' vs' n' _ _ k1 k2 k3 k4 =>
      have n1 : vs.size = xs.length := by simpa using ReadsAll.length _ _ _ h4
      have n2 : vs'.size = ys.length := by simpa using ReadsAll.length _ _ _ k4
      rw [PySem.W.dataLt_tuple, ← PySem.W.firstLt_toks xs ys al, ← n1, ← n2] at q
      rw [oneLt'_eq]; simp only [if_true]
      refine wpAny_bind (wpAny_cRoomFor (room_here hu) (wpAny_bind (wpAny_callSpecialIfBound?_slot (T := "tuple") ⟨_, h1, h2⟩ PySem.F.slot_tuple_lt ?_)))
      obtain ⟨c1, d1, t1, e1⟩ := o
      obtain ⟨c2, d2, t2, e2⟩ := o'
      dsimp only at h2 h3 k2 k3
      subst h2 h3 k2 k3
      refine call_meets PySem.F.slot_tuple_lt ⟨_, h1, rfl⟩ PySem.F.entry_tuple_lt (PySem.F.args_tuple_lt_2 _ _) (tuple_ltAt l l' vs vs' n n' d1 d2 e1 e2 (pairEq xs ys) fun j => PySem.W.dataLt (xs.getD j .none) (ys.getD j .none)) ⟨h1, k1, fun j j1 j2 => ?_, fun j j1 j2 hj => ?_, wpAny_truthy_bool q⟩
      · have z := PySem.W.eqAt_alikeAll xs ys A.in1 s vs.toList vs'.toList _ _ h4 k4 al (room_in hu) j (by simpa using j1) (by simpa using j2); simpa using z
      · have z := PySem.W.rcLt_alikeAll xs ys A.in1 s vs.toList vs'.toList _ _ h4 k4 al (room_in hu) j (by simpa using j1) (by simpa using j2) hj; simpa using z
/-- the firsts of tuples, one empty tuple ahead -/
theorem firsts_run : ∀ (vs : List Value) (ds : List PyData), PySem.W.EachIs (fun v d => ∃ as, Reads s.heap v d as) vs ds → (∀ d ∈ ds, ∃ xs, d = .tuple xs) →
    ∃ fs : List (Option Value), fs.length = vs.length ∧ (∀ r, ds = .tuple [] :: r → ∃ g, fs = none :: g) ∧ ∀ {M : Model} {R : List (Option Value) → Shared → Prop}, R fs s → wpAny M A (vs.mapM firstOfTuple') R E s
  | _, _, .nil, _ => ⟨[], rfl, fun _ e => (by cases e), fun {M R} h => by rw [List.mapM_nil]; exact wpAny_pure h⟩
  | _, _, .cons (b := d) (bs := ds) (a := v) (as := vs) ⟨as, r⟩ t, ht => by
    obtain ⟨fs, hl, _, hr⟩ := firsts_run vs ds t fun d m => ht d (List.mem_cons_of_mem _ m)
    obtain ⟨xs, rfl⟩ := ht d List.mem_cons_self
    cases r with
    | @tuple a o its n _ _ h1 h2 h3 h4 =>
      refine ⟨its[0]? :: fs, by simp [hl], fun r e => ?_, fun {M R} h => ?_⟩
      · cases (List.cons.inj e).1
        have e0 : its.toList = [] := by generalize its.toList = l at h4; cases h4; rfl
        exact ⟨fs, by rw [← Array.getElem?_toList, e0]; rfl⟩
      · rw [List.mapM_cons, PySem.W.kas_first_eq]
        have lk : PySem.W.Looks M s.heap (typeOf (.ref a)) (.type "tuple") := h2 ▸ (PySem.W.Looks.ld h1).andThen .now
        refine wpAny_bind (wpAny_bind (lk.here ?_)); rw [if_neg (by decide)]
        exact wpAny_bind (listItems_at h1 h3 (wpAny_pure (wpAny_bind (hr (R := fun bs s' => wpAny M A (pure (its[0]? :: bs)) R E s') (wpAny_pure h)))))
theorem kind_gap {vs : List Value} {ds : List PyData} (e : PySem.W.EachIs (fun v d => ∃ as, Reads s.heap v d as) vs (.tuple [] :: ds)) (ht : ∀ d ∈ ds, ∃ xs, d = PyData.tuple xs) {M : Model} {R : SortKind → Shared → Prop} (q : R oneType' s) :
    wpAny M A (keyKind' vs.toArray) R E s := by
  have ht2 : ∀ d ∈ PyData.tuple [] :: ds, ∃ xs, d = PyData.tuple xs := fun d m => (List.mem_cons.mp m).elim (fun z => ⟨_, z⟩) (ht d)
  obtain ⟨fs, hl, hf, run⟩ := firsts_run (A := A) (E := E) vs _ e ht2
  obtain ⟨g, rfl⟩ := hf _ rfl
  have ty : ∀ v ∈ vs, PySem.W.Looks M s.heap (typeOf v) (.type "tuple") := fun v m => by
    obtain ⟨d, hd, as, r⟩ := e.left v m
    obtain ⟨xs, rfl⟩ := ht2 d hd
    exact PySem.W.looks_reads r
  rw [keyKind'_eq, List.mapM_toArray, map_eq_pure_bind]
  refine wpAny_bind (wpAny_bind (run (wpAny_pure ?_)))
  rw [if_neg (by simp), if_neg (by simp)]
  rw [oneTypeOnly'_eq, List.mapM_toArray, map_eq_pure_bind]
  refine wpAny_bind (wpAny_bind (wpAny_bind (PySem.W.kas_mapM (r := Value.type "tuple") vs (fun v m Q' z => (ty v m).here z) (wpAny_pure ?_))))
  cases vs with
  | nil => cases e
  | cons v vs =>
    have al : ((List.map (fun _ => Value.type "tuple") (v :: vs)).toArray.all fun x => x == Value.type "tuple") = true := by simp
    rw [show (List.map (fun _ => Value.type "tuple") (v :: vs)).toArray[0]? = some (Value.type "tuple") by simp]
    simp only [al, if_true]
    exact wpAny_pure (wpAny_pure q)
/-- data that sorted takes: as the kit's, or tuples with an empty one ahead -/
def SortOk (ds : List PyData) : Prop := PySem.W.Sortable ds ∨ ∃ r, ds = .tuple [] :: r ∧ ∀ d ∈ r, ∃ xs, d = PyData.tuple xs
theorem sortsAt_ok {vs : List Value} {ds : List PyData} (e : PySem.W.EachIs (fun v d => ∃ as, Reads s.heap v d as) vs ds) (al : PySem.W.AllAlike ds) (ok : SortOk ds) (hu : ∀ d ∈ ds, A.units + d.depth < cLine) : PySem.W.SortsAt prog w A s (PySem.W.dataKind s.heap ds) vs := by
  rcases ok with ok | ⟨r, rfl, ht⟩
  · exact PySem.W.SortsAt.data e al ok hu
  · have ht2 : ∀ d ∈ PyData.tuple [] :: r, ∃ xs, d = PyData.tuple xs := fun d m => (List.mem_cons.mp m).elim (fun z => ⟨_, z⟩) (ht d)
    refine ⟨fun v m => ?_, oneType', fun E x y a b Q ha hb q => ?_, fun _ E Q q => kind_gap e ht q⟩
    · obtain ⟨d, hd, as, r⟩ := e.left v m
      exact ⟨_, PySem.W.dataKind_some al hd r⟩
    · obtain ⟨d, as, hd, ra, rfl⟩ := PySem.W.dataKind_inv ha
      obtain ⟨d', as', hd', rb, rfl⟩ := PySem.W.dataKind_inv hb
      obtain ⟨xs, rfl⟩ := ht2 d hd
      obtain ⟨ys, rfl⟩ := ht2 d' hd'
      rw [keyLt'_oneType]
      refine lt_tups ra rb (by simpa [PySem.W.alike] using al _ hd _ hd') ?_ q
      exact Nat.lt_of_le_of_lt (Nat.add_le_add_left (Nat.min_le_left _ _) _) (hu _ hd)
end
end L2

set_option Elab.async false
set_option linter.all false
set_option maxRecDepth 100000
set_option maxHeartbeats 4000000
/-! Trees of ints and tuples: how they stand in the heap, their order, the rules over them. -/
namespace L2
open PySem PySem.Spec PyProof.Rows PySem.SeqAt
inductive Tr where
  | i (n : Int)
  | t (xs : List Tr)
namespace Tr
mutual
def toD : Tr → PyData
  | .i n => .int n
  | .t xs => .tuple (toDs xs)
def toDs : List Tr → List PyData
  | [] => []
  | x :: xs => x.toD :: toDs xs
end
mutual
def dep : Tr → Nat
  | .i _ => 0
  | .t xs => deps xs + 1
def deps : List Tr → Nat
  | [] => 0
  | x :: xs => max x.dep (deps xs)
end
theorem toDs_map : ∀ xs : List Tr, toDs xs = xs.map toD
  | [] => by rw [toDs]; rfl
  | x :: xs => by rw [toDs, toDs_map xs]; rfl
mutual
theorem depth_eq : ∀ x : Tr, x.toD.depth = x.dep
  | .i n => by rw [toD, dep]; rfl
  | .t xs => by rw [toD, dep, PyData.depth, depths_eq xs]
theorem depths_eq : ∀ xs : List Tr, PyData.depthAll (toDs xs) = deps xs
  | [] => by rw [toDs, deps]; rfl
  | x :: xs => by rw [toDs, deps, PyData.depthAll, depth_eq x, depths_eq xs]
end
mutual
theorem lay : ∀ x : Tr, x.toD.canLay0 = true
  | .i n => by rw [toD]; rfl
  | .t xs => by rw [toD, PyData.canLay0, lays xs]
theorem lays : ∀ xs : List Tr, PyData.canLayAll0 (toDs xs) = true
  | [] => by rw [toDs]; rfl
  | x :: xs => by rw [toDs, PyData.canLayAll0, lay x, lays xs]; rfl
end
mutual
theorem eqv_iff : ∀ x y : Tr, PyData.eqv x.toD y.toD = true ↔ x = y
  | .i n, .i m => by simp [toD, PyData.eqv]
  | .i n, .t ys => by simp [toD, PyData.eqv]
  | .t xs, .i m => by simp [toD, PyData.eqv]
  | .t xs, .t ys => by
    simp only [toD, PyData.eqv]
    rw [eqvs_iff xs ys]; simp
theorem eqvs_iff : ∀ xs ys : List Tr, PyData.eqvAll (toDs xs) (toDs ys) = true ↔ xs = ys
  | [], [] => by simp [toDs, PyData.eqvAll]
  | [], y :: ys => by simp [toDs, PyData.eqvAll]
  | x :: xs, [] => by simp [toDs, PyData.eqvAll]
  | x :: xs, y :: ys => by
    simp only [toDs, PyData.eqvAll, Bool.and_eq_true]
    rw [eqv_iff x y, eqvs_iff xs ys]; simp
end
instance : DecidableEq Tr := fun x y => decidable_of_iff _ (eqv_iff x y)
theorem eqv_dec (x y : Tr) : PyData.eqv x.toD y.toD = decide (x = y) := by
  by_cases h : x = y
  · rw [(eqv_iff x y).mpr h, decide_eq_true h]
  · rw [decide_eq_false h]
    cases e : PyData.eqv x.toD y.toD with
    | false => rfl
    | true => exact absurd ((eqv_iff x y).mp e) h
/-- the two can be compared -/
def Ak (x y : Tr) : Prop := PySem.W.alike x.toD y.toD = true
def lt (x y : Tr) : Bool := PySem.W.dataLt x.toD y.toD
theorem lt_irr (x : Tr) : lt x x = false := PyProof.Rows.lex_irrefl _
theorem lt_trans {x y z : Tr} (h : lt x y = true) (k : lt y z = true) : lt x z = true := PyProof.Rows.lex_trans _ _ _ h k
theorem lt_asym {x y : Tr} (h : lt x y = true) : lt y x = false := by
  cases e : lt y x with
  | false => rfl
  | true => exact absurd (lt_trans h e) (by rw [lt_irr]; decide)
theorem lt_tot {x y : Tr} (a : Ak x y) (h : lt x y = false) (k : lt y x = false) : x = y := by
  have e : PySem.W.keyToks x.toD = PySem.W.keyToks y.toD := PyProof.Rows.lex_total _ _ h k
  refine (eqv_iff x y).mp ?_
  cases q : PyData.eqv x.toD y.toD with
  | true => rfl
  | false =>
    have z := (PySem.W.toks_eqv x.toD y.toD a).2 q [] [.inl 0]
    rw [e, PyProof.Rows.lex_irrefl, PySem.W.lex_pre] at z
    exact absurd z (by decide)
def Asc (xs : List Tr) : Prop := xs.Pairwise fun x y => lt x y = true
/-- two rising lists of the same members are one -/
theorem asc_uniq : ∀ {xs ys : List Tr}, Asc xs → Asc ys → (∀ z, z ∈ xs ↔ z ∈ ys) → xs = ys
  | [], [], _, _, _ => rfl
  | [], y :: ys, _, _, h => absurd ((h y).mpr List.mem_cons_self) (by simp)
  | x :: xs, [], _, _, h => absurd ((h x).mp List.mem_cons_self) (by simp)
  | x :: xs, y :: ys, hx, hy, h => by
    obtain ⟨h1, h2⟩ := List.pairwise_cons.mp hx
    obtain ⟨k1, k2⟩ := List.pairwise_cons.mp hy
    have e : x = y := by
      rcases List.mem_cons.mp ((h x).mp List.mem_cons_self) with e | m
      · exact e
      · rcases List.mem_cons.mp ((h y).mpr List.mem_cons_self) with e | m'
        · exact e.symm
        · exact absurd (lt_trans (k1 x m) (h1 y m')) (by rw [lt_irr]; decide)
    subst e
    rw [asc_uniq h2 k2 fun z => ?_]
    constructor
    · intro m
      rcases List.mem_cons.mp ((h z).mp (List.mem_cons_of_mem _ m)) with e | q
      · subst e
        exact absurd (h1 z m) (by rw [lt_irr]; decide)
      · exact q
    · intro m
      rcases List.mem_cons.mp ((h z).mpr (List.mem_cons_of_mem _ m)) with e | q
      · subst e
        exact absurd (k1 z m) (by rw [lt_irr]; decide)
      · exact q
end Tr
/-- a tree stands at v; trees item by item -/
def At (K : PySem.W.Frag) (H : Hp) (v : V) (x : Tr) : Prop := Dp K H v x.toD
def Ats (K : PySem.W.Frag) (H : Hp) (vs : List V) (xs : List Tr) : Prop := Paired (At K H) vs xs
section
variable {K : PySem.W.Frag} {H H' : Hp}
theorem dpAll_iff : ∀ {vs : List V} {xs : List Tr}, DpAll K H vs (Tr.toDs xs) ↔ Ats K H vs xs
  | [], [] => ⟨fun _ => .nil, fun _ => by rw [Tr.toDs]; exact .nil⟩
  | [], x :: xs => ⟨fun h => (by rw [Tr.toDs] at h; cases h), fun h => (by cases h)⟩
  | v :: vs, [] => ⟨fun h => (by rw [Tr.toDs] at h; cases h), fun h => (by cases h)⟩
  | v :: vs, x :: xs => ⟨fun h => by
      rw [Tr.toDs] at h
      cases h with
      | cons a b => exact .cons a (dpAll_iff.mp b), fun h => by
      rw [Tr.toDs]
      cases h with
      | cons a b => exact .cons a (dpAll_iff.mpr b)⟩
theorem at_int (n : Int) : At K H (.int n) (.i n) := by unfold At; rw [Tr.toD]; exact .int n
theorem int_at {v : V} {n : Int} (h : At K H v (.i n)) : v = .int n := by unfold At at h; rw [Tr.toD] at h; cases h; rfl
theorem at_tup {a : Addr} {vs : List V} {xs : List Tr} (h : SqT K H a vs) (k : Ats K H vs xs) : At K H (.ref a) (.t xs) := by unfold At; rw [Tr.toD]; exact .tup h (dpAll_iff.mpr k)
theorem tup_at {v : V} {xs : List Tr} (h : At K H v (.t xs)) : ∃ a vs, v = .ref a ∧ SqT K H a vs ∧ Ats K H vs xs := by
  unfold At at h; rw [Tr.toD] at h
  cases h with
  | tup a b => exact ⟨_, _, rfl, a, dpAll_iff.mp b⟩
/-- what keeps the tuples keeps the trees -/
def Kt (H H' : Hp) : Prop := ∀ b o, (∀ xs, o ≠ .lst xs) → H b = some o → H' b = some o
theorem SqT.kt {a : Addr} {vs : List V} (k : Kt H H') (h : SqT K H a vs) : SqT K H' a vs := by
  rcases h with h | h
  · refine .inl ?_
    rcases h with h | ⟨o, h⟩
    · exact .inl (k _ _ (fun xs z => by cases z) h)
    · exact .inr ⟨o, k _ _ (fun xs z => by cases z) h⟩
  · exact .inr h
mutual
theorem At.kt (k : Kt H H') : ∀ {x : Tr} {v : V}, At K H v x → At K H' v x
  | .i n, v, h => by rw [int_at h]; exact at_int n
  | .t xs, v, h => by
    obtain ⟨a, vs, rfl, h1, h2⟩ := tup_at h
    exact at_tup (h1.kt k) (Ats.kt k h2)
theorem Ats.kt (k : Kt H H') : ∀ {xs : List Tr} {vs : List V}, Ats K H vs xs → Ats K H' vs xs
  | [], _, h => by cases h; exact .nil
  | x :: xs, _, h => by
    cases h with
    | cons a b => exact .cons (At.kt k a) (Ats.kt k b)
end
theorem Kt.same (s : Same H H') : Kt H H' := fun b o _ e => s b o e
theorem Kt.trans {H2 : Hp} (a : Kt H H') (b : Kt H' H2) : Kt H H2 := fun c o n e => b c o n (a c o n e)
theorem Kt.refl (H : Hp) : Kt H H := fun _ _ _ e => e
theorem Kt.new {p : Addr} {o : HO} (n : H p = none) : Kt H (upd H p o) := fun b u _ e => by
  rw [upd_ne (fun z => by rw [z, n] at e; cases e)]; exact e
theorem Kt.lst {p : Addr} {xs : List V} {o : HO} (h : H p = some (.lst xs)) : Kt H (upd H p o) := fun b u nu e => by
  rw [upd_ne (fun z => by rw [z, h] at e; exact nu xs (Option.some.inj e).symm)]; exact e
theorem Ats.length {vs : List V} {xs : List Tr} (h : Ats K H vs xs) : vs.length = xs.length := Paired.length h
theorem Ats.append : ∀ {vs ws : List V} {xs ys : List Tr}, Ats K H vs xs → Ats K H ws ys → Ats K H (vs ++ ws) (xs ++ ys)
  | _, _, _, _, .nil, k => k
  | _, _, _, _, .cons a b, k => .cons a (Ats.append b k)
theorem Ats.get : ∀ {vs : List V} {xs : List Tr} {i : Nat} {v : V}, Ats K H vs xs → vs[i]? = some v → ∃ x, xs[i]? = some x ∧ At K H v x
  | _, _, _, _, .nil, e => by simp at e
  | _, _, 0, _, .cons r _, e => by simp at e; subst e; exact ⟨_, rfl, r⟩
  | _, _, i + 1, v, .cons _ t, e => by
    obtain ⟨x, h1, h2⟩ := Ats.get (i := i) (v := v) t (by simpa using e)
    exact ⟨x, by simpa using h1, h2⟩
theorem Ats.get' : ∀ {vs : List V} {xs : List Tr} {i : Nat} {x : Tr}, Ats K H vs xs → xs[i]? = some x → ∃ v, vs[i]? = some v ∧ At K H v x
  | _, _, _, _, .nil, e => by simp at e
  | _, _, 0, _, .cons r _, e => by simp at e; subst e; exact ⟨_, rfl, r⟩
  | _, _, i + 1, x, .cons _ t, e => by
    obtain ⟨v, h1, h2⟩ := Ats.get' (i := i) (x := x) t (by simpa using e)
    exact ⟨v, by simpa using h1, h2⟩
end

/-! ### the rules -/
theorem le_tr (us : List Tr) (a : ∀ x ∈ us, ∀ y ∈ us, Tr.Ak x y) : (us.mergeSort (PySem.W.dataLe false Tr.toD)).Perm us ∧ (us.mergeSort (PySem.W.dataLe false Tr.toD)).Pairwise fun x y => Tr.lt y x = false := by
  refine ⟨List.mergeSort_perm _ _, ?_⟩
  have le_eq : ∀ x y, PySem.W.dataLe false Tr.toD x y = !Tr.lt y x := fun x y => by rw [PySem.W.dataLe_eq]; rfl
  have h := List.pairwise_mergeSort (le := PySem.W.dataLe false Tr.toD) (fun x y z h k => ?_) (fun x y => ?_) us
  · refine h.imp fun {x y} q => ?_
    rw [le_eq] at q
    simpa using q
  · rw [le_eq] at h k ⊢
    simp only [Bool.not_eq_true'] at h k ⊢
    cases e : Tr.lt z x with
    | false => rfl
    | true =>
      rcases PyProof.Rows.lex_negTrans _ (PySem.W.keyToks y.toD) _ e with q | q
      · exact absurd (show Tr.lt z y = true from q) (by rw [k]; decide)
      · exact absurd (show Tr.lt y x = true from q) (by rw [h]; decide)
  · rw [le_eq, le_eq]
    cases e : Tr.lt y x with
    | false => rfl
    | true => rw [Tr.lt_asym e]; rfl
theorem each_of {R : Value → Tr → Prop} {K : PySem.W.Frag} {H : Hp} (f : ∀ v x u, At K H v x → RelV v u → R u x) : ∀ {vs : List V} {xs : List Tr} {us : List Value}, Ats K H vs xs → Vals vs us → PySem.W.EachIs R us xs
  | _, _, _, .nil, .nil => .nil
  | _, _, _, .cons a b, .cons r rr => .cons (f _ _ _ a r) (each_of f b rr)
theorem of_each {K : PySem.W.Frag} {H : Hp} : ∀ {us : List Value} {xs : List Tr}, PySem.W.EachIs (fun u x => ∃ v, RelV v u ∧ At K H v x) us xs → ∃ vs, Vals vs us ∧ Ats K H vs xs
  | _, _, .nil => ⟨[], .nil, .nil⟩
  | _, _, .cons ⟨v, r, a⟩ t => by
    obtain ⟨vs, r2, a2⟩ := of_each t
    exact ⟨v :: vs, .cons r r2, .cons a a2⟩
section
variable {X : Cx}
/-- sorted(xs): xs a list or a tuple of trees that can be compared -/
def rSortD (K : PySem.W.Frag) : List V → Hp → VK → Prop := fun vs H Q => ∃ (a : Addr) (ws : List V) (xs : List Tr), vs = [.ref a] ∧ (SqL K H a ws ∨ SqT K H a ws) ∧ Ats K H ws xs ∧ (∀ x ∈ xs, ∀ y ∈ xs, Tr.Ak x y) ∧ SortOk (xs.map Tr.toD) ∧ (∀ x ∈ xs, x.dep ≤ 190) ∧
  ∀ p us ys, H p = none → us.Perm xs → us.Pairwise (fun x y => Tr.lt y x = false) → Ats K H ys us → Q (.ref p) (upd H p (.lst ys))
theorem cr_sortD (hu : X.A.units + 200 < cLine) : CallR X (.builtin "sorted") (rSortD X.K) := by
  intro pins s σ H vs us Q I r h
  obtain ⟨a, ws, xs, rfl, hs, hA, ak, so, hd, q⟩ := h
  rw [Vals.ref1 r]
  obtain ⟨its, rv, hz, hl⟩ : ∃ its : List Value, Vals ws its ∧ ws.length ≤ sizeLine ∧ (s.heap.IsList a its.toArray ∨ s.heap.IsTuple a its.toArray) := by
    rcases hs with hs | hs
    · obtain ⟨its, rv, hl, hz⟩ := I.list hs
      exact ⟨its, rv, hz, .inl hl.isList⟩
    · obtain ⟨its, rv, hl, hz⟩ := I.tuple hs
      exact ⟨its, rv, hz, .inr hl⟩
  have zi : its.length ≤ sizeLine := by rw [← rv.length]; exact hz
  have al : PySem.W.AllAlike (xs.map Tr.toD) := by
    intro d m d' m'
    obtain ⟨x, hx, rfl⟩ := List.mem_map.mp m
    obtain ⟨y, hy, rfl⟩ := List.mem_map.mp m'
    exact ak x hx y hy
  have room : ∀ d ∈ xs.map Tr.toD, X.A.in1.in1.units + d.depth < cLine := by
    intro d m
    obtain ⟨x, hx, rfl⟩ := List.mem_map.mp m
    rw [Tr.depth_eq]
    have := hd x hx
    show X.A.units + 1 + 1 + x.dep < cLine
    omega
  have e1 : PySem.W.EachIs (fun u x => ∃ v, RelV v u ∧ At X.K H v x) its xs := each_of (fun v x u h r => ⟨v, r, h⟩) hA rv
  have e2 : PySem.W.EachIs (fun u x => ∃ as, Reads (PySem.W.sortingHeap (PySem.W.copyHeap s.heap its) (s.heap.objs.size + 1) its) u (Tr.toD x) as) its xs := each_of (fun v x u h r => by
    obtain ⟨as, rd⟩ := Dp.reads I x.toD v u h r
    exact ⟨as, PyProof.Rows.Reads.keeps (fun _ _ => PySem.W.sorting_copy_old) rd⟩) hA rv
  have S := sortsAt_ok (prog := X.prog) (w := X.w) (A := X.A.in1.in1) (s := { s with heap := PySem.W.sortingHeap (PySem.W.copyHeap s.heap its) (s.heap.objs.size + 1) its }) (PySem.W.each_map (R := fun v d => ∃ as, Reads (PySem.W.sortingHeap (PySem.W.copyHeap s.heap its) (s.heap.objs.size + 1) its) v d as) Tr.toD e2) al so room
  obtain ⟨ys, ry, hy⟩ := of_each (PySem.W.sortVals_data (enc := Tr.toD) false e1 e2 al)
  obtain ⟨p1, p2⟩ := le_tr xs ak
  have fin := q (s.heap.objs.size + 1) _ ys (I.hok.fresh (Nat.le_succ _)) p1 p2 hy
  have ly : ys.length ≤ sizeLine := by rw [hy.length, p1.length_eq, ← hA.length]; exact hz
  obtain ⟨ep, he⟩ := PyProof.Rows.sortedAll_at s.heap its (PySem.W.sortVals (PySem.W.dataKind (PySem.W.sortingHeap (PySem.W.copyHeap s.heap its) (s.heap.objs.size + 1) its) (xs.map Tr.toD)) false its its).toArray
  have done : ∃ (v : V) (H' : Hp), Inv X pins σ H' { s with heap := sortedAll s.heap its (PySem.W.sortVals (PySem.W.dataKind (PySem.W.sortingHeap (PySem.W.copyHeap s.heap its) (s.heap.objs.size + 1) its) (xs.map Tr.toD)) false its its).toArray } ∧ RelV v (.ref (s.heap.objs.size + 1)) ∧ Q v H' :=
    ⟨.ref _, upd H (s.heap.objs.size + 1) (.lst ys), I.laid (t' := s.toks) (fun _ _ => PyProof.Rows.sortedAll_old) (Nat.le_succ _) ⟨ly, _, ep, ry, he⟩, rfl, fin⟩
  rcases hl with hl | hl
  · exact PySem.W.sorted_vals hl S zi done
  · exact sorted_tp hl zi S done
end
end L2

set_option Elab.async false
set_option linter.all false
set_option maxRecDepth 100000
set_option maxHeartbeats 4000000
/-! Further rules over trees: in, not in, count of a tuple, (x,) * n, enumerate of a tuple. -/
namespace L2
open PySem PySem.Spec PyProof.Rows PySem.SeqAt
theorem any_mem (x : Tr) : ∀ xs : List Tr, ((Tr.toDs xs).any fun z => PyData.eqv z x.toD) = decide (x ∈ xs)
  | [] => by rw [Tr.toDs]; simp
  | y :: ys => by
    rw [Tr.toDs, List.any_cons, any_mem x ys, Tr.eqv_dec]
    by_cases h : y = x
    · subst h; simp
    · rw [decide_eq_false h, Bool.false_or]
      have h' : ¬ x = y := fun z => h z.symm
      simp [List.mem_cons, h']
theorem deps_le {n : Nat} : ∀ {xs : List Tr}, (∀ x ∈ xs, x.dep ≤ n) → Tr.deps xs ≤ n
  | [], _ => by rw [Tr.deps]; exact Nat.zero_le _
  | x :: xs, h => by
    rw [Tr.deps]
    exact Nat.max_le.mpr ⟨h x List.mem_cons_self, deps_le fun y m => h y (List.mem_cons_of_mem _ m)⟩
section
variable {X : Cx}
/-- trees in a list or in a tuple -/
def Seq2 (K : PySem.W.Frag) (H : Hp) (v : V) (xs : List Tr) : Prop := ∃ a vs, v = .ref a ∧ (SqL K H a vs ∨ SqT K H a vs) ∧ Ats K H vs xs
def rInT (K : PySem.W.Frag) : R2 := fun x y H Q => ∃ t xs, At K H x t ∧ Seq2 K H y xs ∧ t.dep ≤ 190 ∧ Q (.bl (decide (t ∈ xs))) H
def rNiT (K : PySem.W.Frag) : R2 := fun x y H Q => ∃ t xs, At K H x t ∧ Seq2 K H y xs ∧ t.dep ≤ 190 ∧ Q (.bl (!decide (t ∈ xs))) H
theorem room_min {A : Around} {t : Tr} {m : Nat} (h : t.dep ≤ 190) (hu : A.units + 200 < cLine) : A.units + 1 + min m t.toD.depth < cLine := by
  rw [Tr.depth_eq]
  have := Nat.min_le_right m t.dep
  omega
theorem op_inT (hu : X.A.units + 200 < cLine) : OpR X (compareOp .In) (rInT X.K) := by
  intro pins s σ H x y v u Q I rx ry h
  obtain ⟨t, xs, ht, ⟨a, vs, rfl, hs, hA⟩, hd, q⟩ := h
  obtain ⟨as, r1⟩ := Dp.reads I t.toD x v ht rx
  rw [← any_mem] at q
  rcases hs with hs | hs
  · obtain ⟨bs, r2⟩ := Dp.reads I (.list (Tr.toDs xs)) (.ref a) u (.lst hs (dpAll_iff.mpr hA)) ry
    exact in_list_reads r2 r1 (Tr.lays xs) (Tr.lay t) (room_min hd hu) ⟨.bl _, H, I, rfl, q⟩
  · obtain ⟨bs, r2⟩ := Dp.reads I (.tuple (Tr.toDs xs)) (.ref a) u (.tup hs (dpAll_iff.mpr hA)) ry
    exact in_tuple_reads r2 r1 (Tr.lays xs) (Tr.lay t) (room_min hd hu) ⟨.bl _, H, I, rfl, q⟩
theorem op_niT (hu : X.A.units + 200 < cLine) : OpR X (compareOp .NotIn) (rNiT X.K) := by
  intro pins s σ H x y v u Q I rx ry h
  obtain ⟨t, xs, ht, ⟨a, vs, rfl, hs, hA⟩, hd, q⟩ := h
  obtain ⟨as, r1⟩ := Dp.reads I t.toD x v ht rx
  rw [← any_mem] at q
  rcases hs with hs | hs
  · obtain ⟨bs, r2⟩ := Dp.reads I (.list (Tr.toDs xs)) (.ref a) u (.lst hs (dpAll_iff.mpr hA)) ry
    exact notIn_list_reads r2 r1 (Tr.lays xs) (Tr.lay t) (room_min hd hu) ⟨.bl _, H, I, rfl, q⟩
  · obtain ⟨bs, r2⟩ := Dp.reads I (.tuple (Tr.toDs xs)) (.ref a) u (.tup hs (dpAll_iff.mpr hA)) ry
    exact notIn_tuple_reads r2 r1 (Tr.lays xs) (Tr.lay t) (room_min hd hu) ⟨.bl _, H, I, rfl, q⟩
/-- ==, != of two trees -/
def rEqT (K : PySem.W.Frag) : R2 := fun x y H Q => ∃ t u, At K H x t ∧ At K H y u ∧ t.dep ≤ 190 ∧ Q (.bl (decide (t = u))) H
def rNeT (K : PySem.W.Frag) : R2 := fun x y H Q => ∃ t u, At K H x t ∧ At K H y u ∧ t.dep ≤ 190 ∧ Q (.bl (!decide (t = u))) H
theorem room_two {A : Around} {t u : Tr} (h : t.dep ≤ 190) (hu : A.units + 200 < cLine) : A.units + min t.toD.depth u.toD.depth < cLine := by
  rw [Tr.depth_eq]
  have := Nat.min_le_left t.dep u.toD.depth
  omega
theorem op_eqT (hu : X.A.units + 200 < cLine) : OpR X (compareOp .Eq) (rEqT X.K) := by
  intro pins s σ H x y v u Q I rx ry h
  obtain ⟨t, r, ht, hr, hd, q⟩ := h
  obtain ⟨as, r1⟩ := Dp.reads I t.toD x v ht rx
  obtain ⟨bs, r2⟩ := Dp.reads I r.toD y u hr ry
  rw [← Tr.eqv_dec] at q
  exact compareEq_reads r1 r2 (Tr.lay t) (Tr.lay r) (room_two hd hu) ⟨.bl _, H, I, rfl, q⟩
theorem op_neT (hu : X.A.units + 200 < cLine) : OpR X (compareOp .NotEq) (rNeT X.K) := by
  intro pins s σ H x y v u Q I rx ry h
  obtain ⟨t, r, ht, hr, hd, q⟩ := h
  obtain ⟨as, r1⟩ := Dp.reads I t.toD x v ht rx
  obtain ⟨bs, r2⟩ := Dp.reads I r.toD y u hr ry
  rw [← Tr.eqv_dec] at q
  exact compareNe_reads r1 r2 (Tr.lay t) (Tr.lay r) (room_two hd hu) ⟨.bl _, H, I, rfl, q⟩
/-- == of two lists of trees -/
def rNeLs (K : PySem.W.Frag) : R2 := fun x y H Q => ∃ a b vs ws ts us, x = .ref a ∧ y = .ref b ∧ SqL K H a vs ∧ SqL K H b ws ∧ Ats K H vs ts ∧ Ats K H ws us ∧ (∀ t ∈ ts, t.dep ≤ 190) ∧ Q (.bl (!decide (ts = us))) H
theorem eqvs_dec (xs ys : List Tr) : PyData.eqvAll (Tr.toDs xs) (Tr.toDs ys) = decide (xs = ys) := by
  by_cases h : xs = ys
  · rw [decide_eq_true h]; exact (Tr.eqvs_iff xs ys).mpr h
  · rw [decide_eq_false h]
    cases e : PyData.eqvAll (Tr.toDs xs) (Tr.toDs ys) with
    | false => rfl
    | true => exact absurd ((Tr.eqvs_iff xs ys).mp e) h
theorem op_neLs (hu : X.A.units + 200 < cLine) : OpR X (compareOp .NotEq) (rNeLs X.K) := by
  intro pins s σ H x y v u Q I rx ry h
  obtain ⟨a, b, vs, ws, ts, us, rfl, rfl, ha, hb, hA, hB, hd, q⟩ := h
  obtain ⟨as, r1⟩ := Dp.reads I (.list (Tr.toDs ts)) (.ref a) v (.lst ha (dpAll_iff.mpr hA)) rx
  obtain ⟨bs, r2⟩ := Dp.reads I (.list (Tr.toDs us)) (.ref b) u (.lst hb (dpAll_iff.mpr hB)) ry
  rw [← eqvs_dec] at q
  refine compareNe_reads r1 r2 (by rw [PyData.canLay0]; exact Tr.lays ts) (by rw [PyData.canLay0]; exact Tr.lays us) ?_ ⟨.bl _, H, I, rfl, by rw [PyData.eqv]; exact q⟩
  have := deps_le hd
  have m := Nat.min_le_left (PyData.list (Tr.toDs ts)).depth (PyData.list (Tr.toDs us)).depth
  have e : (PyData.list (Tr.toDs ts)).depth = Tr.deps ts + 1 := by rw [PyData.depth, Tr.depths_eq]
  omega
/-- t.count(x), t a tuple of trees -/
def rCntT (K : PySem.W.Frag) : V → List V → Hp → VK → Prop := fun x ys H Q => ∃ a vs ts y t, x = .ref a ∧ ys = [y] ∧ SqT K H a vs ∧ Ats K H vs ts ∧ At K H y t ∧ t.dep ≤ 190 ∧ Q (.int (ts.count t : Nat)) H
theorem cnt_eq (x : Tr) : ∀ xs : List Tr, ((Tr.toDs xs).countP fun z => PyData.eqv z x.toD) = xs.count x
  | [] => by rw [Tr.toDs]; rfl
  | y :: ys => by
    rw [Tr.toDs, List.countP_cons, cnt_eq x ys, Tr.eqv_dec, List.count_cons]
    by_cases h : y = x
    · subst h; simp
    · simp [h]
theorem mt_cntT (hu : X.A.units + 200 < cLine) : MtR X "tuple.count" (rCntT X.K) := by
  intro pins s σ H x ys v us Q I rx rys h
  obtain ⟨a, vs, ts, y, t, rfl, rfl, hs, hA, ht, hd, q⟩ := h
  cases rx
  obtain ⟨u, rfl, ru⟩ := rys.one
  obtain ⟨as, r1⟩ := Dp.reads I t.toD y u ht ru
  obtain ⟨bs, r2⟩ := Dp.reads I (.tuple (Tr.toDs ts)) (.ref a) (.ref a) (.tup hs (dpAll_iff.mpr hA)) rfl
  cases r2 with
  | @tuple _ o its n _ _ h1 h2 h3 h4 =>
    refine count_tuple_data ⟨_, h1, h2, n, h3⟩ h4 r1 (PyData.plainAll_of_canLay0 _ (Tr.lays ts)) (PyData.plain_of_canLay0 _ (Tr.lay t)) (room_min hd hu) ?_
    rw [cnt_eq]
    exact ⟨.int (ts.count t : Nat), H, I.tok _, ⟨s.toks, rfl⟩, q⟩
/-- (x,) * n, n from 0 on: some tuple -/
theorem mul_none (l : Addr) (its : Array Value) (n : Nat) (dd : Option Addr) (sl : Array (Option Value)) (u : Tok) (ne : its.isEmpty = false) :
    Meets (Builtin.«tuple.__mul__» ⟨[.ref l, .int 0 u], []⟩) (fun _ R s => s.heap.get? l = some { cls := .type "tuple", dict := dd, data := .seq its n, slots := sl } ∧
      R (.ok (.ret (Value.ref s.heap.objs.size))) { s with heap := s.heap.push { cls := Value.type "tuple", data := Data.seq #[] } }) :=
  .of_wp fun prog w A R s h => by
    obtain ⟨hp, g, d, tk, os⟩ := s
    obtain ⟨hl, h⟩ := h
    have f1 := AutoSeq1.idx_int
    wp_walk using AutoSeq1.wpAny_loadPart' hl
    exact ⟨_, rfl, h⟩
theorem mul_one (l : Addr) (its : Array Value) (n : Nat) (dd : Option Addr) (sl : Array (Option Value)) (u : Tok) (ne : its.isEmpty = false) :
    Meets (Builtin.«tuple.__mul__» ⟨[.ref l, .int 1 u], []⟩) (fun _ R s => s.heap.get? l = some { cls := .type "tuple", dict := dd, data := .seq its n, slots := sl } ∧ R (.ok (.ret (Value.ref l))) s) :=
  .of_wp fun prog w A R s h => by
    obtain ⟨hp, g, d, tk, os⟩ := s
    obtain ⟨hl, h⟩ := h
    have f1 := AutoSeq1.idx_int
    wp_walk using AutoSeq1.wpAny_loadPart' hl
    exact ⟨_, rfl, h⟩
def rRep1 (K : PySem.W.Frag) : R2 := fun x y H Q => ∃ a n v, x = .ref a ∧ y = .int (n : Nat) ∧ SqT K H a [v] ∧ n ≤ 1000 ∧ ∀ p H', Same H H' → SqT K H' p (List.replicate n v) → Q (.ref p) H'
theorem rep_flat (v : V) : ∀ n : Nat, (List.replicate n [v]).flatten = List.replicate n v
  | 0 => rfl
  | n + 1 => by rw [List.replicate_succ, List.flatten_cons, rep_flat v n]; rfl
theorem op_rep1 : OpR X (binaryOp .Mult) (rRep1 X.K) := by
  intro pins s σ H x y w u Q I rx ry h
  obtain ⟨a, n, v, rfl, rfl, hT, hn, q⟩ := h
  rcases n with _ | _ | n
  · cases rx
    obtain ⟨t, rfl⟩ := ry
    obtain ⟨its, r, ⟨⟨cls, dd, data, sl⟩, ho, hc, m, hd⟩, hs⟩ := I.tuple hT
    dsimp only at hc hd
    subst hc hd
    cases r with
    | cons r1 r2 =>
    refine wpAny_binaryOp_repeat_ref (T := "tuple") (U := "int") (by decide) ⟨_, ho, rfl⟩ (fun s' => typeIs_int s' _ t) noFill_tuple_mul PySem.F.fills_int_mul PySem.F.slot_int_rmul repeat_tuple PySem.F.slot_int_index.lookup
      (call_meets PySem.F.slot_int_rmul (typeIs_int s _ t) PySem.F.entry_int_rmul (PySem.F.args_int_rmul_2 _ _) (int_rmul_tuple _ t a _ m dd sl)
        ⟨ho, rfl, ⟨_, ho, rfl⟩, call_meets PySem.F.slot_tuple_mul ⟨_, ho, rfl⟩ PySem.F.entry_tuple_mul (PySem.F.args_tuple_mul_2 _ _) (mul_none a _ m dd sl t rfl) ⟨ho, ?_⟩⟩)
    refine ⟨.ref s.heap.objs.size, upd H s.heap.objs.size (.tup []), I.laid (t' := s.toks) (fun b u e => Heap.get?_push_of_some _ e) (Nat.le_refl _) ⟨Nat.zero_le _, [], .nil, ⟨_, Heap.get?_push_size _ rfl, rfl, _, rfl⟩⟩, rfl, ?_⟩
    exact q _ _ (fun b o e => by rw [upd_ne (fun z => by rw [z, I.hok.fresh (Nat.le_refl _)] at e; cases e)]; exact e) (SqT.of upd_same)
  · cases rx
    obtain ⟨t, rfl⟩ := ry
    obtain ⟨its, r, ⟨⟨cls, dd, data, sl⟩, ho, hc, m, hd⟩, hs⟩ := I.tuple hT
    dsimp only at hc hd
    subst hc hd
    cases r with
    | cons r1 r2 =>
    refine wpAny_binaryOp_repeat_ref (T := "tuple") (U := "int") (by decide) ⟨_, ho, rfl⟩ (fun s' => typeIs_int s' _ t) noFill_tuple_mul PySem.F.fills_int_mul PySem.F.slot_int_rmul repeat_tuple PySem.F.slot_int_index.lookup
      (call_meets PySem.F.slot_int_rmul (typeIs_int s _ t) PySem.F.entry_int_rmul (PySem.F.args_int_rmul_2 _ _) (int_rmul_tuple _ t a _ m dd sl)
        ⟨ho, rfl, ⟨_, ho, rfl⟩, call_meets PySem.F.slot_tuple_mul ⟨_, ho, rfl⟩ PySem.F.entry_tuple_mul (PySem.F.args_tuple_mul_2 _ _) (mul_one a _ m dd sl t rfl) ⟨ho, ?_⟩⟩)
    exact ⟨.ref a, H, I, rfl, q _ _ (fun b o e => e) hT⟩
  · refine op_repT pins s σ H _ _ w u Q I rx ry ⟨a, _, [v], rfl, rfl, hT, by simp, by omega, by omega, by simp, fun p np => ?_⟩
    refine q p _ (fun b o e => by rw [upd_ne (fun z => by rw [z, np] at e; cases e)]; exact e) (SqT.of ?_)
    rw [upd_same, Int.toNat_natCast, rep_flat]
end
end L2

set_option Elab.async false
set_option linter.all false
set_option maxRecDepth 100000
set_option maxHeartbeats 4000000
/-! enumerate of a tuple, walked. -/
namespace L2
open PySem PySem.Spec PyProof.Rows
theorem new_enumT (t : Addr) (its : Array Value) (n : Nat) (dct : Option Addr) (sl : Array (Option Value)) :
    Meets (Builtin.«enumerate.__new__» ⟨[.type "enumerate", .ref t], []⟩) (fun _ R s => s.heap.get? t = some { cls := .type "tuple", dict := dct, data := .seq its n, slots := sl } ∧
      R (.ok (.ret (.ref (s.heap.push { cls := .type "tuple_iterator", data := .fields #[.ref t, .int 0 0] }).objs.size)))
        { s with heap := (s.heap.push { cls := .type "tuple_iterator", data := .fields #[.ref t, .int 0 0] }).push { cls := .type "enumerate", data := .fields #[.none, .bool false, .ref s.heap.objs.size, rawInt 0, .none, .none] } }) :=
  .of_wp fun prog w A R s h => by
    obtain ⟨hp, g, d, tk, os⟩ := s
    obtain ⟨ht, h⟩ := h
    have sub := sub_enumerate
    have hT : Heap.IsTuple (Shared.heap ⟨hp, g, d, tk, os⟩) t its := ⟨_, ht, rfl, n, rfl⟩
    wp_walk using AutoSeq1.wpAny_loadPart' ht
    refine wpAny_stack_any fun st => wpAny_pure ?_
    split
    · rename_i c _ _ _ _ _
      cases (c == Value.type "enumerate") <;> (wp_walk using AutoSeq1.wpAny_loadPart' ht, wpAny_pyIter_tuple hT; exact ⟨_, rfl, h⟩)
    · wp_walk using AutoSeq1.wpAny_loadPart' ht, wpAny_pyIter_tuple hT
      exact ⟨_, rfl, h⟩
section
variable {prog : Program} {w : World} {A : Around} {E : Value → Shared → Prop} {s : Shared}
theorem call_enumT {t : Addr} {its : Array Value} {Q : Value → Shared → Prop} (hT : s.heap.IsTuple t its)
    (k : ∀ h', IsEnum h' (s.heap.objs.size + 1) s.heap.objs.size 0 .none → h'.IsTupleIter s.heap.objs.size t 0 → (∀ b o, s.heap.get? b = some o → h'.get? b = some o) → Q (.ref (s.heap.objs.size + 1)) { s with heap := h' }) :
    wpAny (model prog w) A (call (.type "enumerate") [.ref t]) Q E s := by
  obtain ⟨⟨c, dct, dt, sl⟩, ht, hc, n, hd⟩ := hT
  dsimp only at hc hd
  subst hc hd
  refine callType_new PySem.F.called_enumerate (by decide) (PySem.F.typeCall_enumerate_1 _) (PySem.F.newCall_enumerate_1 _) (fun obj => PySem.F.args_object_init_2 obj _) PySem.F.entry_enumerate_new (new_enumT t its n dct sl) ⟨ht, ?_⟩
  have hz : (s.heap.push { cls := .type "tuple_iterator", data := .fields #[.ref t, .int 0 0] }).objs.size = s.heap.objs.size + 1 := Heap.size_push ..
  have he : IsEnum ((s.heap.push { cls := .type "tuple_iterator", data := .fields #[.ref t, .int 0 0] }).push { cls := .type "enumerate", data := .fields #[.none, .bool false, .ref s.heap.objs.size, rawInt 0, .none, .none] }) (s.heap.objs.size + 1) s.heap.objs.size 0 .none := hz ▸ Heap.get?_push_size _ rfl
  show _ ∧ _
  rw [hz]
  exact ⟨⟨_, he, rfl⟩, k _ he ⟨_, Heap.get?_push_of_some _ (Heap.get?_push_size _ rfl), rfl, rfl⟩ fun b o x => Heap.get?_push_of_some _ (Heap.get?_push_of_some _ x)⟩
end
/-- the tuple at a, its items in new pairs -/
def IteT (K : PySem.W.Frag) (a : Addr) : It :=
  ⟨fun i H => ∃ (xs : List V) (x : V), SqT K H a xs ∧ xs[i]? = some x, fun i H v H' => ∃ T x, v = .ref T ∧ H T = none ∧ H' = upd H T (.tup [.int (i : Nat), x]) ∧ ∀ xs, SqT K H a xs → xs[i]? = some x, fun i H => ∃ xs : List V, SqT K H a xs ∧ xs.length ≤ i⟩
theorem turn_enumT {P : Program} {w : World} {K : PySem.W.Frag} {elts : List Expr} {kk : Nat} {tpos : Pos} (a e it : Addr) :
    Turn P w K (.Tuple elts kk tpos) (IteT K a) [e, it] e (fun i h => (∃ old, IsEnum h e it ((i : Nat) : Int) old) ∧ h.IsTupleIter it a i ∧ e ≠ it) where
  mem := by simp
  obj := fun i h st b hb => by
    obtain ⟨⟨old, he⟩, ⟨o, ho, hc, hd⟩, _⟩ := st
    have e' : b = e ∨ b = it := by simpa using hb
    exact e'.elim (fun z => z ▸ ⟨_, he, fun v q => nomatch q⟩) fun z => z ▸ ⟨o, ho, fun v q => by rw [hd] at q; cases q⟩
  keep := fun i h h' st k => ⟨st.1.elim fun old he => ⟨old, k e (by simp) _ he⟩, st.2.1.at fun o q => k it (by simp) o q, st.2.2⟩
  item := by
    intro X hP hw hK hc i pins s σ H E I hf st hg
    subst hP hw hK
    obtain ⟨⟨old, he⟩, hit, hne⟩ := st
    obtain ⟨xs, x, hq, hx⟩ := hg
    obtain ⟨its, rv, p, hz⟩ := I.tuple hq
    obtain ⟨u, hu, ru⟩ := rv.get hx
    have hel : e < s.heap.objs.size := Heap.lt_size he
    have hil : it < s.heap.objs.size := by obtain ⟨_, q, _⟩ := hit; exact Heap.lt_size q
    obtain ⟨oT, goT, gcT, _⟩ := id p
    have n1 : a ≠ it := fun z => by
      obtain ⟨oi, h1, h2, _⟩ := id hit
      rw [z, h1] at goT
      cases goT
      rw [h2] at gcT
      exact absurd gcT (by decide)
    have n2 : a ≠ e := fun z => by
      rw [z, he] at goT
      cases goT
      have w1 : Value.type "enumerate" = Value.type "tuple" := gcT
      exact absurd w1 (by decide)
    have D := PySem.Draws.tuple (prog := X.prog) (w := X.w) (A := X.A.in1) (I.ok.hd hc) it a n1 its.toArray
    refine wpAny_pyNext_enum_itemD D he ⟨hit, p⟩ (by have := (List.getElem?_eq_some_iff.mp hu).1; simpa using this) hne (by simp [hne, Ne.symm n2]) fun y h' tk hy ho hit' hT hsz hk => ?_
    have ey : y = u := by
      have q : its.toArray[i]? = some u := by simpa using hu
      rw [q] at hy
      exact (Option.some.inj hy).symm
    subst ey
    refine ⟨_, rfl, wpAny_letOwnedTupleGo_enum (s := { s with heap := h', toks := tk + 1 }) ho fun h'' he' sb => ?_⟩
    have hT2 : h''.get? s.heap.objs.size = some { cls := .type "tuple", data := .seq #[.int i tk, y] } := (sb.2 _ (Nat.ne_of_gt hel)).trans hT
    have new : ObjOk X.prog X.w (upd H s.heap.objs.size (.tup [.int (i : Nat), x])) h'' s.heap.objs.size (.tup [.int (i : Nat), x]) := ⟨by show 2 ≤ sizeLine; decide, [.int i tk, y], .cons ⟨_, rfl⟩ (.cons ru .nil), ⟨_, hT2, rfl, _, rfl⟩⟩
    have kp : ∀ b ob, b ∉ [e, it] → s.heap.get? b = some ob → h''.get? b = some ob := fun b ob hb q => (sb.2 b (fun z => hb (by simp [z]))).trans (hk b ob (fun z => hb (by simp [z])) (fun z => hb (by simp [z])) q)
    refine ⟨.ref s.heap.objs.size, _, I.turnedNew (t' := tk + 1) (ch := [e, it]) kp hf (Nat.le_refl _) new, rfl, ⟨_, x, rfl, I.hok.fresh (Nat.le_refl _), rfl, fun ys hy => by rw [I.tuple_inj hy hq]; exact hx⟩, ⟨⟨y, ?_⟩, hit'.1.at fun o q => (sb.2 it (Ne.symm hne)).trans q, hne⟩, fun b hb => ?_⟩
    · rw [show ((i + 1 : Nat) : Int) = (i : Int) + 1 by omega]; exact he'
    · have e' : b = e ∨ b = it := by simpa using hb
      have hb' : b < s.heap.objs.size := e'.elim (fun z => z ▸ hel) fun z => z ▸ hil
      rw [upd_ne (Nat.ne_of_lt hb')]; exact (hf b hb).1
  done := by
    intro X hP hw hK hc i pins s σ H E I hf st hg
    subst hP hw hK
    obtain ⟨⟨old, he⟩, hit, hne⟩ := st
    obtain ⟨xs, hq, hx⟩ := hg
    obtain ⟨its, rv, p, hz⟩ := I.tuple hq
    obtain ⟨f0, f1, f2, f3, f4, f5⟩ := hf it (by simp)
    have hl := rv.length
    have D : Draws X.prog X.w X.A.in1 it [it, a] i (fun _ _ => False) (fun j h => j = i ∧ h.IsTupleIter it a i ∧ h.IsTuple a its.toArray) :=
      { live := fun _ _ st => let ⟨o, ho, _⟩ := st.2.1; ⟨o, ho⟩
        frame := fun _ _ _ st hk => ⟨st.1, st.2.1.at fun o e => hk it (by simp) o e, st.2.2.at fun o e => hk a (by simp) o e⟩
        item := fun j s Q E hj st _ => absurd st.1 (Nat.ne_of_lt hj)
        done := fun s Q E st hE => PySem.wpAny_nextOf_tuple_end (I.ok.hd hc) st.2.1 st.2.2 (by simp; omega) hE }
    exact wpAny_pyNext_enum_endD D he ⟨rfl, hit, p⟩ fun h' eb => ⟨rfl, I.turned (t' := s.toks) (fun b o hb q => eb b o hb q) f0 f1 f3 f4 f5⟩
  self := fun A i s Q E st h => st.1.elim fun _ he => wpAny_pyIter_enum he h
/-- for i, x in enumerate(t), t a list or a tuple: the turns of either -/
def iEnT (K : PySem.W.Frag) (ta : TA) : TI := fun σ H R => ta σ H fun vs H1 => ∃ a xs, vs = [.ref a] ∧ SqT K H1 a xs ∧ R (IteT K a) H1
theorem pi_enT {X : Cx} {e : Expr} {ta : TA} {p pos tpos : Pos} {elts : List Expr} {kk : Nat} (hg : Gl X "enumerate") (hm : X.mg "enumerate" = none) (ha : PA X [e] ta) (hs : starEach [e] X.env = [(false, eval e X.env)] := by rfl) :
    PI X (.Tuple elts kk tpos) (.Call (.Name "enumerate" p) [e] [] pos) (iEnT X.K ta) := by
  constructor
  intro pins s σ H R I h
  have arg := ha.run pos pins s σ H _ I h
  refine Call_ (ld_blt I hg hm boot_enumerate (PyProof.Rows.callWith_type1 (thn arg fun us s1 z => ?_) hs rfl))
  obtain ⟨vs, H1, I1, r1, a, xs, rfl, hq, q⟩ := z
  rw [Vals.ref1 r1]
  obtain ⟨its, _, p', _⟩ := I1.tuple hq
  refine call_enumT p' fun h' he hit hk => wpAny_pyIter_enum he ?_
  have fresh : ∀ b ∈ [s1.heap.objs.size + 1, s1.heap.objs.size], s1.heap.objs.size ≤ b := fun b hb => by
    have e' : b = s1.heap.objs.size + 1 ∨ b = s1.heap.objs.size := by simpa using hb
    omega
  exact ⟨s1.heap.objs.size + 1, _, _, _, H1, rfl, I1.kept (t' := s1.toks) hk, turn_enumT a (s1.heap.objs.size + 1) s1.heap.objs.size, ⟨⟨.none, he⟩, hit, Nat.succ_ne_self _⟩, fun b hb => I1.fpOk (fresh b hb) (I1.hok.fresh (fresh b hb)), q⟩
end L2

set_option Elab.async false
set_option linter.all false
set_option maxRecDepth 100000
set_option maxHeartbeats 4000000
/-! Worths as trees: a base and a bag of turns. -/
namespace L2
open PySem PySem.Spec PyProof.Rows PySem.SeqAt
namespace Tr
def base0 (c : Int) : Tr := .t [.i 0, .i c]
def base1 (m : Int) (ws : List Tr) : Tr := .t [.i 1, .i m, .t ws]
def trn (m : Int) (ws : List Tr) : Tr := .t [.i m, .t ws]
def wor (b : Tr) (bag : List Tr) : Tr := .t [b, .t bag]
def TL (W : Tr → Prop) (t : Tr) : Prop := ∃ m ws, t = trn m ws ∧ ∀ v ∈ ws, W v
def BL (W : Tr → Prop) (b : Tr) : Prop := (∃ c, b = base0 c) ∨ ∃ m ws, b = base1 m ws ∧ ∀ v ∈ ws, W v
/-- worths that are nested below n, of at most seven turns each -/
def WL : Nat → Tr → Prop
  | 0, _ => False
  | n + 1, w => ∃ b bag, w = wor b bag ∧ BL (WL n) b ∧ bag.length ≤ 7 ∧ ∀ t ∈ bag, TL (WL n) t
theorem TL.imp {W W' : Tr → Prop} {t : Tr} (h : TL W t) (k : ∀ v, W v → W' v) : TL W' t := by
  obtain ⟨m, ws, rfl, q⟩ := h
  exact ⟨m, ws, rfl, fun v hv => k v (q v hv)⟩
theorem BL.imp {W W' : Tr → Prop} {b : Tr} (h : BL W b) (k : ∀ v, W v → W' v) : BL W' b := by
  rcases h with h | ⟨m, ws, rfl, q⟩
  · exact .inl h
  · exact .inr ⟨m, ws, rfl, fun v hv => k v (q v hv)⟩
theorem WL.up : ∀ {n : Nat} {w : Tr}, WL n w → WL (n + 1) w
  | 0, _, h => h.elim
  | n + 1, w, ⟨b, bag, e, hb, hl, ht⟩ => ⟨b, bag, e, hb.imp fun _ => WL.up, hl, fun t m => (ht t m).imp fun _ => WL.up⟩
theorem WL.mono {n m : Nat} {w : Tr} (h : WL n w) (k : n ≤ m) : WL m w := by
  induction k with
  | refl => exact h
  | step _ ih => exact ih.up
theorem dep_t (xs : List Tr) : (Tr.t xs).dep = deps xs + 1 := by rw [dep]
theorem dep_i (n : Int) : (Tr.i n).dep = 0 := by rw [dep]
theorem deps_nil : deps [] = 0 := by rw [deps]
theorem deps_cons (x : Tr) (xs : List Tr) : deps (x :: xs) = max x.dep (deps xs) := by rw [deps]
theorem WL.dep_le : ∀ {n : Nat} {w : Tr}, WL n w → w.dep ≤ 4 * n
  | 0, _, h => h.elim
  | n + 1, w, ⟨b, bag, e, hb, hl, ht⟩ => by
    have q : ∀ {ws : List Tr}, (∀ v ∈ ws, WL n v) → deps ws ≤ 4 * n := fun h => deps_le fun v m => (h v m).dep_le
    have d1 : b.dep ≤ 4 * n + 2 := by
      rcases hb with ⟨c, rfl⟩ | ⟨m, ws, rfl, k⟩
      · unfold base0; simp only [dep_t, deps_cons, deps_nil, dep_i]; omega
      · have := q k
        unfold base1; simp only [dep_t, deps_cons, deps_nil, dep_i]; omega
    have d2 : deps bag ≤ 4 * n + 2 := deps_le fun t m => by
      obtain ⟨i, ws, rfl, k⟩ := ht t m
      have := q k
      unfold trn; simp only [dep_t, deps_cons, deps_nil, dep_i]; omega
    subst e
    unfold wor; simp only [dep_t, deps_cons, deps_nil]; omega
theorem ak_i (a b : Int) : Ak (.i a) (.i b) := by unfold Ak; simp only [toD, PySem.W.alike]
theorem ak_t {xs ys : List Tr} : Ak (.t xs) (.t ys) ↔ PySem.W.alikeAll (toDs xs) (toDs ys) = true := by unfold Ak; simp only [toD, PySem.W.alike]
theorem ak_cons {x y : Tr} {xs ys : List Tr} (h : Ak x y) (k : PySem.W.alikeAll (toDs xs) (toDs ys) = true) : PySem.W.alikeAll (toDs (x :: xs)) (toDs (y :: ys)) = true := by
  simp only [toDs, PySem.W.alikeAll]
  rw [k, show PySem.W.alike x.toD y.toD = true from h]; rfl
theorem ak_nilL (ys : List Tr) : PySem.W.alikeAll (toDs []) (toDs ys) = true := by rw [toDs]; cases ys <;> simp [toDs, PySem.W.alikeAll]
theorem ak_nilR (xs : List Tr) : PySem.W.alikeAll (toDs xs) (toDs []) = true := by cases xs <;> simp [toDs, PySem.W.alikeAll]
theorem ak_all : ∀ {xs ys : List Tr}, (∀ x ∈ xs, ∀ y ∈ ys, Ak x y) → PySem.W.alikeAll (toDs xs) (toDs ys) = true
  | [], ys, _ => ak_nilL ys
  | x :: xs, [], _ => ak_nilR _
  | x :: xs, y :: ys, h => ak_cons (h x List.mem_cons_self y List.mem_cons_self) (ak_all fun a m b k => h a (List.mem_cons_of_mem _ m) b (List.mem_cons_of_mem _ k))
theorem TL.ak {W W' : Tr → Prop} (q : ∀ v v', W v → W' v' → Ak v v') {t t' : Tr} (h : TL W t) (k : TL W' t') : Ak t t' := by
  obtain ⟨m, ws, rfl, a⟩ := h
  obtain ⟨m', ws', rfl, a'⟩ := k
  exact ak_t.mpr (ak_cons (ak_i _ _) (ak_cons (ak_t.mpr (ak_all fun x hx y hy => q x y (a x hx) (a' y hy))) (ak_nilL _)))
theorem WL.ak : ∀ {n m : Nat} {w w' : Tr}, WL n w → WL m w' → Ak w w'
  | 0, _, _, _, h, _ => h.elim
  | _ + 1, 0, _, _, _, h => h.elim
  | n + 1, m + 1, w, w', ⟨b, bag, e, hb, _, ht⟩, ⟨b', bag', e', hb', _, ht'⟩ => by
    subst e e'
    have q : ∀ v v', WL n v → WL m v' → Ak v v' := fun _ _ => WL.ak
    have kb : Ak b b' := by
      rcases hb with ⟨c, rfl⟩ | ⟨i, ws, rfl, k⟩ <;> rcases hb' with ⟨c', rfl⟩ | ⟨i', ws', rfl, k'⟩
      · exact ak_t.mpr (ak_cons (ak_i _ _) (ak_cons (ak_i _ _) (ak_nilL _)))
      · exact ak_t.mpr (ak_cons (ak_i _ _) (ak_cons (ak_i _ _) (ak_nilL _)))
      · exact ak_t.mpr (ak_cons (ak_i _ _) (ak_cons (ak_i _ _) (ak_nilR _)))
      · exact ak_t.mpr (ak_cons (ak_i _ _) (ak_cons (ak_i _ _) (ak_cons (ak_t.mpr (ak_all fun x hx y hy => q x y (k x hx) (k' y hy))) (ak_nilL _))))
    exact ak_t.mpr (ak_cons kb (ak_cons (ak_t.mpr (ak_all fun x hx y hy => (ht x hx).ak q (ht' y hy))) (ak_nilL _)))
/-! ### what a worth holds -/
def heldB : Tr → List Tr
  | .t [.i _, .i _, .t ws] => ws
  | _ => []
def heldT : Tr → List Tr
  | .t [.i _, .t ws] => ws
  | _ => []
def held : Tr → List Tr
  | .t [b, .t bag] => heldB b ++ bag.flatMap heldT
  | _ => []
theorem held_wor (b : Tr) (bag : List Tr) : held (wor b bag) = heldB b ++ bag.flatMap heldT := rfl
theorem WL.held : ∀ {n : Nat} {w : Tr}, WL (n + 1) w → ∀ v ∈ held w, WL n v := by
  rintro n w ⟨b, bag, rfl, hb, _, ht⟩ v m
  rcases List.mem_append.mp m with m | m
  · rcases hb with ⟨c, rfl⟩ | ⟨i, ws, rfl, k⟩
    · cases m
    · exact k v m
  · obtain ⟨t, mt, mv⟩ := List.mem_flatMap.mp m
    obtain ⟨i, ws, rfl, k⟩ := ht t mt
    exact k v mv
/-- closed under held ones and under lesser bags -/
inductive CL (xs : List Tr) : Tr → Prop
  | base {w : Tr} : w ∈ xs → CL xs w
  | part {w v : Tr} : CL xs w → v ∈ held w → CL xs v
  | drop {b : Tr} {bag : List Tr} {k : Nat} : CL xs (wor b bag) → k < bag.length → CL xs (wor b (bag.eraseIdx k))
inductive PC (xs : List Tr) : Tr → Prop
  | base {w : Tr} : w ∈ xs → PC xs w
  | part {w v : Tr} : PC xs w → v ∈ held w → PC xs v
theorem WL.part {n : Nat} {w v : Tr} (h : WL n w) (m : v ∈ Tr.held w) : WL n v := by
  cases n with
  | zero => exact h.elim
  | succ n => exact (h.held v m).up
theorem WL.sub {n : Nat} {b : Tr} {bag s : List Tr} (h : WL n (wor b bag)) (k : s.Sublist bag) : WL n (wor b s) := by
  cases n with
  | zero => exact h.elim
  | succ n =>
    obtain ⟨b', bag', e, hb, hl, ht⟩ := h
    obtain ⟨e1, e2⟩ : b = b' ∧ bag = bag' := by
      unfold wor at e
      injection e with e
      injection e with e1 e2
      injection e2 with e2 _
      injection e2 with e2
      exact ⟨e1, e2⟩
    subst e1 e2
    exact ⟨b, s, rfl, hb, Nat.le_trans k.length_le hl, fun t m => ht t (k.subset m)⟩
theorem PC.wl {n : Nat} {xs : List Tr} (hx : ∀ x ∈ xs, WL n x) {z : Tr} (h : PC xs z) : WL n z := by
  induction h with
  | base m => exact hx _ m
  | part _ m ih => exact ih.part m
theorem CL.wl {n : Nat} {xs : List Tr} (hx : ∀ x ∈ xs, WL n x) {z : Tr} (h : CL xs z) : WL n z := by
  induction h with
  | base m => exact hx _ m
  | part _ m ih => exact ih.part m
  | drop _ _ ih => exact ih.sub (List.eraseIdx_sublist ..)
theorem sub_less {s bag : List Tr} (h : s.Sublist bag) (ne : s.length ≠ bag.length) : ∃ k, k < bag.length ∧ s.Sublist (bag.eraseIdx k) := by
  induction h with
  | slnil => exact absurd rfl ne
  | @cons s bag x h ih => exact ⟨0, by simp, by simpa using h⟩
  | @cons_cons s bag x h ih =>
    obtain ⟨k, h1, h2⟩ := ih (by simpa using ne)
    exact ⟨k + 1, by simpa using h1, by simpa using h2⟩
theorem CL.sub {xs : List Tr} {b : Tr} : ∀ (n : Nat) {bag s : List Tr}, bag.length ≤ n → CL xs (wor b bag) → s.Sublist bag → CL xs (wor b s)
  | 0, bag, s, hn, h, k => by
    have e : bag = [] := List.eq_nil_of_length_eq_zero (Nat.le_zero.mp hn)
    subst e
    cases k
    exact h
  | n + 1, bag, s, hn, h, k => by
    by_cases e : s.length = bag.length
    · rw [k.eq_of_length e]; exact h
    · obtain ⟨i, h1, h2⟩ := sub_less k e
      exact CL.sub n (by rw [List.length_eraseIdx_of_lt h1]; omega) (.drop h h1) h2
theorem flat_sub {f : Tr → List Tr} : ∀ {s bag : List Tr}, s.Sublist bag → (s.flatMap f).Sublist (bag.flatMap f)
  | _, _, .slnil => .slnil
  | _, _, .cons x h => by rw [List.flatMap_cons]; exact (flat_sub h).trans (List.sublist_append_right ..)
  | _, _, .cons₂ x h => by rw [List.flatMap_cons, List.flatMap_cons]; exact (List.Sublist.refl _).append (flat_sub h)
theorem held_sub {b : Tr} {bag s : List Tr} (h : s.Sublist bag) : (held (wor b s)).Sublist (held (wor b bag)) := (List.Sublist.refl _).append (flat_sub h)
/-- the closed ones: lesser bags of what is held at last -/
theorem cl_iff {n : Nat} {xs : List Tr} (hx : ∀ x ∈ xs, WL n x) (z : Tr) : CL xs z ↔ ∃ b bag s, PC xs (wor b bag) ∧ s.Sublist bag ∧ z = wor b s := by
  have shape : ∀ w, WL n w → ∃ b bag, w = wor b bag := fun w h => by
    cases n with
    | zero => exact h.elim
    | succ n => obtain ⟨b, bag, e, _⟩ := h; exact ⟨b, bag, e⟩
  constructor
  · intro h
    induction h with
    | base m =>
      obtain ⟨b, bag, rfl⟩ := shape _ (hx _ m)
      exact ⟨b, bag, bag, .base m, List.Sublist.refl _, rfl⟩
    | @part w v h m ih =>
      obtain ⟨b, bag, s, p, k, rfl⟩ := ih
      have pv : PC xs v := .part p ((held_sub k).subset m)
      obtain ⟨b', bag', rfl⟩ := shape _ (pv.wl hx)
      exact ⟨b', bag', bag', pv, List.Sublist.refl _, rfl⟩
    | @drop b bag k h hk ih =>
      obtain ⟨b', bag', s, p, q, e⟩ := ih
      unfold wor at e
      injection e with e
      injection e with e1 e2
      injection e2 with e2 _
      injection e2 with e2
      subst e1 e2
      exact ⟨b, bag', _, p, (List.eraseIdx_sublist ..).trans q, rfl⟩
  · rintro ⟨b, bag, s, p, k, rfl⟩
    have c : ∀ {w}, PC xs w → CL xs w := fun {w} h => by
      induction h with
      | base m => exact .base m
      | part _ m ih => exact .part ih m
    exact CL.sub _ (Nat.le_refl _) (c p) k
theorem CL.mono {xs ys : List Tr} (h : ∀ x ∈ xs, x ∈ ys) {z : Tr} (k : CL xs z) : CL ys z := by
  induction k with
  | base m => exact .base (h _ m)
  | part _ m ih => exact .part ih m
  | drop _ hk ih => exact .drop ih hk
theorem CL.again {xs us : List Tr} (h : ∀ x, x ∈ us → CL xs x) {z : Tr} (k : CL us z) : CL xs z := by
  induction k with
  | base m => exact h _ m
  | part _ m ih => exact .part ih m
  | drop _ hk ih => exact .drop ih hk
/-! ### how many -/
theorem asc_len : ∀ {us L : List Tr}, us.Nodup → (∀ z ∈ us, z ∈ L) → us.length ≤ L.length
  | [], _, _, _ => Nat.zero_le _
  | u :: us, L, nd, h => by
    obtain ⟨n1, n2⟩ := List.nodup_cons.mp nd
    have m := h u List.mem_cons_self
    have q := asc_len (L := L.erase u) n2 fun z hz => (List.mem_erase_of_ne (fun e => n1 (by rw [← e]; exact hz))).mpr (h z (List.mem_cons_of_mem _ hz))
    rw [List.length_erase_of_mem m] at q
    have := List.length_pos_of_mem m
    rw [List.length_cons]; omega
theorem Asc.nodup {us : List Tr} (h : Asc us) : us.Nodup := h.imp fun {x y} k e => by
  subst e
  rw [lt_irr] at k
  exact absurd k (by decide)
def nodes : Nat → Tr → List Tr
  | 0, _ => []
  | n + 1, w => w :: (held w).flatMap (nodes n)
theorem nodes_self {n : Nat} {w : Tr} (h : WL n w) : w ∈ nodes n w := by
  cases n with
  | zero => exact h.elim
  | succ n => exact List.mem_cons_self
theorem nodes_held : ∀ {n : Nat} {x z v : Tr}, WL n x → z ∈ nodes n x → v ∈ held z → v ∈ nodes n x
  | 0, _, _, _, h, _, _ => h.elim
  | n + 1, x, z, v, h, m, k => by
    rcases List.mem_cons.mp m with rfl | m
    · exact List.mem_cons_of_mem _ (List.mem_flatMap.mpr ⟨v, k, nodes_self (h.held v k)⟩)
    · obtain ⟨u, hu, m⟩ := List.mem_flatMap.mp m
      exact List.mem_cons_of_mem _ (List.mem_flatMap.mpr ⟨u, hu, nodes_held (h.held u hu) m k⟩)
theorem PC.node {n : Nat} {xs : List Tr} (hx : ∀ x ∈ xs, WL n x) {z : Tr} (h : PC xs z) : z ∈ xs.flatMap (nodes n) := by
  induction h with
  | base m => exact List.mem_flatMap.mpr ⟨_, m, nodes_self (hx _ m)⟩
  | part _ k ih =>
    obtain ⟨x, hm, hz⟩ := List.mem_flatMap.mp ih
    exact List.mem_flatMap.mpr ⟨x, hm, nodes_held (hx x hm) hz k⟩
theorem flat_len_ge {f : Tr → List Tr} : ∀ {xs : List Tr}, (∀ x ∈ xs, 1 ≤ (f x).length) → xs.length ≤ (xs.flatMap f).length
  | [], _ => Nat.zero_le _
  | x :: xs, h => by
    have a := h x List.mem_cons_self
    have b := flat_len_ge fun y m => h y (List.mem_cons_of_mem _ m)
    rw [List.flatMap_cons, List.length_append, List.length_cons]; omega
theorem flat_len_mem {f : Tr → List Tr} : ∀ {xs : List Tr} {x : Tr}, x ∈ xs → (f x).length ≤ (xs.flatMap f).length
  | y :: xs, x, m => by
    rw [List.flatMap_cons, List.length_append]
    rcases List.mem_cons.mp m with rfl | m
    · exact Nat.le_add_right _ _
    · have := flat_len_mem (f := f) m
      omega
theorem flat_len_le {β : Type} {f : Tr → List β} {c : Nat} : ∀ {xs : List Tr}, (∀ x ∈ xs, (f x).length ≤ c) → (xs.flatMap f).length ≤ xs.length * c
  | [], _ => Nat.zero_le _
  | x :: xs, h => by
    have a := h x List.mem_cons_self
    have b := flat_len_le fun y m => h y (List.mem_cons_of_mem _ m)
    rw [List.flatMap_cons, List.length_append, List.length_cons, Nat.succ_mul]; omega
theorem held_len : ∀ {n : Nat} {x z : Tr}, WL n x → z ∈ nodes n x → (held z).length + 1 ≤ (nodes n x).length
  | 0, _, _, h, _ => h.elim
  | n + 1, x, z, h, m => by
    rcases List.mem_cons.mp m with rfl | m
    · have := flat_len_ge (f := nodes n) (xs := held z) fun v k => List.length_pos_of_mem (nodes_self (h.held v k))
      show (held z).length + 1 ≤ ((held z).flatMap (nodes n)).length + 1
      omega
    · obtain ⟨u, hu, m⟩ := List.mem_flatMap.mp m
      have a := held_len (h.held u hu) m
      have b := flat_len_mem (f := nodes n) hu
      show _ ≤ ((held x).flatMap (nodes n)).length + 1
      omega
def subs : List Tr → List (List Tr)
  | [] => [[]]
  | x :: xs => subs xs ++ (subs xs).map (x :: ·)
theorem subs_len : ∀ xs : List Tr, (subs xs).length = 2 ^ xs.length
  | [] => rfl
  | x :: xs => by
    rw [subs, List.length_append, List.length_map, subs_len xs, List.length_cons, Nat.pow_succ]; omega
theorem subs_mem : ∀ {s bag : List Tr}, s.Sublist bag → s ∈ subs bag
  | _, _, .slnil => List.mem_singleton.mpr rfl
  | _, _, .cons x h => List.mem_append_left _ (subs_mem h)
  | _, _, .cons₂ x h => List.mem_append_right _ (List.mem_map.mpr ⟨_, subs_mem h, rfl⟩)
theorem subs_sub : ∀ {bag s : List Tr}, s ∈ subs bag → s.Sublist bag
  | [], s, m => by rw [List.mem_singleton.mp m]; exact .slnil
  | x :: bag, s, m => by
    rcases List.mem_append.mp m with m | m
    · exact (subs_sub m).cons x
    · obtain ⟨s', h, rfl⟩ := List.mem_map.mp m
      exact (subs_sub h).cons₂ x
def less : Tr → List Tr
  | .t [b, .t bag] => (subs bag).map (wor b)
  | _ => []
theorem less_wor (b : Tr) (bag : List Tr) : less (wor b bag) = (subs bag).map (wor b) := rfl
theorem less_len {n : Nat} {w : Tr} (h : WL n w) : (less w).length ≤ 128 := by
  cases n with
  | zero => exact h.elim
  | succ n =>
    obtain ⟨b, bag, rfl, _, hl, _⟩ := h
    rw [less_wor, List.length_map, subs_len]
    exact Nat.le_trans (Nat.pow_le_pow_right (by decide) hl) (by decide)
/-- the closed ones are few, each holds few -/
structure Sm (xs : List Tr) : Prop where
  len : xs.length ≤ 83000
  wl : ∀ x ∈ xs, WL 10 x
  cap : ∃ L : List Tr, L.length ≤ 83000 ∧ ∀ z, CL xs z → z ∈ L
  few : ∀ z, CL xs z → (held z).length ≤ 107
theorem Sm.of {xs : List Tr} (l : xs.length ≤ 6) (w : ∀ x ∈ xs, WL 10 x) (c : ∀ x ∈ xs, (nodes 10 x).length ≤ 108) : Sm xs := by
  have n1 : ∀ z ∈ xs.flatMap (nodes 10), (held z).length ≤ 107 := fun z m => by
    obtain ⟨x, hx, hz⟩ := List.mem_flatMap.mp m
    have a := held_len (w x hx) hz
    have b := c x hx
    omega
  have tot : (xs.flatMap (nodes 10)).length ≤ 648 := by
    have := flat_len_le (f := nodes 10) c
    omega
  refine ⟨by omega, w, ⟨((xs.flatMap (nodes 10)).filter fun z => decide ((less z).length ≤ 128)).flatMap less, ?_, fun z h => ?_⟩, fun z h => ?_⟩
  · have := flat_len_le (f := less) (c := 128) (xs := (xs.flatMap (nodes 10)).filter fun z => decide ((less z).length ≤ 128)) fun z m => by simpa using (List.mem_filter.mp m).2
    have l2 := List.length_filter_le (fun z => decide ((less z).length ≤ 128)) (xs.flatMap (nodes 10))
    omega
  · obtain ⟨b, bag, s, p, k, rfl⟩ := (cl_iff w z).mp h
    refine List.mem_flatMap.mpr ⟨wor b bag, List.mem_filter.mpr ⟨p.node w, by simpa using less_len (p.wl w)⟩, ?_⟩
    rw [less_wor]
    exact List.mem_map.mpr ⟨s, subs_mem k, rfl⟩
  · obtain ⟨b, bag, s, p, k, rfl⟩ := (cl_iff w z).mp h
    exact Nat.le_trans (held_sub k).length_le (n1 _ (p.node w))
theorem Sm.again {xs us : List Tr} (h : Sm xs) (a : Asc us) (e : ∀ z, z ∈ us ↔ CL xs z) : Sm us := by
  obtain ⟨L, l1, l2⟩ := h.cap
  have q : ∀ z, CL us z → CL xs z := fun z k => k.again fun x m => (e x).mp m
  exact ⟨Nat.le_trans (asc_len a.nodup fun z m => l2 z ((e z).mp m)) l1, fun x m => ((e x).mp m).wl h.wl, ⟨L, l1, fun z k => l2 z (q z k)⟩, fun z k => h.few z (q z k)⟩
end Tr
end L2

set_option Elab.async false
set_option linter.all false
set_option maxRecDepth 100000
set_option maxHeartbeats 4000000
/-! Walks by one invariant, whatever is walked: for, comprehensions of one and of two clauses. -/
namespace L2
open PySem PySem.Spec PyProof.Rows
/-- n turns while S stands, each yields by Y -/
structure Wk (J : It) (n : Nat) (S : Hp → Prop) (Y : Nat → Hp → V → Hp → Prop) : Prop where
  go : ∀ i H, i < n → S H → J.go i H
  yl : ∀ i H x H', i < n → S H → J.yld i H x H' → Y i H x H'
  st : ∀ H, S H → J.stop n H
abbrev YI (xs : List V) : Nat → Hp → V → Hp → Prop := fun i H x H' => H' = H ∧ xs[i]? = some x
abbrev YE (xs : List V) : Nat → Hp → V → Hp → Prop := fun i H v H' => ∃ T x, v = .ref T ∧ H T = none ∧ H' = upd H T (.tup [.int (i : Nat), x]) ∧ xs[i]? = some x
theorem wk_list {K : PySem.W.Frag} {a : Addr} {xs : List V} : Wk (Itl K a) xs.length (fun H => SqL K H a xs) (YI xs) :=
  ⟨fun i H h s => ⟨xs, xs[i], s, by simp [h]⟩, fun i H x H' h s y => ⟨y.1, y.2 xs s⟩, fun H s => ⟨xs, s, Nat.le_refl _⟩⟩
theorem wk_tup {K : PySem.W.Frag} {a : Addr} {xs : List V} : Wk (Itt K a) xs.length (fun H => SqT K H a xs) (YI xs) :=
  ⟨fun i H h s => ⟨xs, xs[i], s, by simp [h]⟩, fun i H x H' h s y => ⟨y.1, y.2 xs s⟩, fun H s => ⟨xs, s, Nat.le_refl _⟩⟩
theorem wk_enum {K : PySem.W.Frag} {a : Addr} {xs : List V} : Wk (Ite K a) xs.length (fun H => SqL K H a xs) (YE xs) :=
  ⟨fun i H h s => ⟨xs, xs[i], s, by simp [h]⟩, fun i H x H' h s ⟨T, y, e1, e2, e3, e4⟩ => ⟨T, y, e1, e2, e3, e4 xs s⟩, fun H s => ⟨xs, s, Nat.le_refl _⟩⟩
theorem wk_enumT {K : PySem.W.Frag} {a : Addr} {xs : List V} : Wk (IteT K a) xs.length (fun H => SqT K H a xs) (YE xs) :=
  ⟨fun i H h s => ⟨xs, xs[i], s, by simp [h]⟩, fun i H x H' h s ⟨T, y, e1, e2, e3, e4⟩ => ⟨T, y, e1, e2, e3, e4 xs s⟩, fun H s => ⟨xs, s, Nat.le_refl _⟩⟩
theorem wk_range {lo : Int} {n : Nat} : Wk (Itr lo n) n (fun _ => True) (fun i H x H' => H' = H ∧ x = .int (lo + i)) :=
  ⟨fun i H h _ => h, fun i H x H' h _ y => y, fun H _ => Nat.le_refl _⟩
section
variable {J : It} {n : Nat} {S : Hp → Prop} {Y : Nat → Hp → V → Hp → Prop} {g : TG} {σ : St} {H : Hp}
theorem lp_by {tb : TS} {D : Ends} (wk : Wk J n S Y) (Pv : Nat → St → Hp → Prop) (h0 : Pv 0 σ H) (hl : ∀ i σ H, i ≤ n → Pv i σ H → S H)
    (hs : ∀ i x σ H H', i < n → Pv i σ H → Y i H x H' → g x σ H' fun σ2 H2 => tb { D with nx := Pv (i + 1), ct := Pv (i + 1), bk := D.nx } σ2 H2) (hd : ∀ σ H, Pv n σ H → D.nx σ H) : Lp g tb D σ J H := by
  refine ⟨fun i m σ H => m = n - i ∧ i ≤ n ∧ Pv i σ H, ⟨n, by simp, Nat.zero_le _, h0⟩, fun i m σ H h => ?_⟩
  obtain ⟨rfl, hi, p⟩ := h
  have s := hl i σ H hi p
  rcases Nat.lt_or_eq_of_le hi with h | h
  · exact .inr ⟨wk.go i H h s, Pv (i + 1), fun σ' H' p' => ⟨n - (i + 1), by omega, rfl, h, p'⟩, fun x H' y => hs i x σ H H' h p (wk.yl i H x H' h s y)⟩
  · subst h
    exact .inl ⟨wk.st H s, hd σ H p⟩
theorem lpC_by {tt : TT} {te : TE} {vs : List Nat} {Q : VK} (wk : Wk J n S Y) (Pv : Addr → Nat → Hp → Prop) (h0 : ∀ D, H D = none → Pv D 0 (upd H D (.lst []))) (hl : ∀ D i H, i ≤ n → Pv D i H → S H)
    (hs : ∀ D i x H H', i < n → Pv D i H → Y i H x H' → g x (wipe σ vs) H' fun σ2 H2 => wipe σ2 vs = wipe σ vs ∧ tt σ2 H2 fun b H3 =>
      if b = true then te σ2 H3 fun y H4 => ∃ acc, H4 D = some (.lst acc) ∧ acc.length < sizeLine ∧ Pv D (i + 1) (upd H4 D (.lst (acc ++ [y]))) else Pv D (i + 1) H3) (hd : ∀ D H', H D = none → Pv D n H' → Q (.ref D) H') : LpC g tt te vs σ Q J H := by
  intro D nD
  refine ⟨fun i m H => m = n - i ∧ i ≤ n ∧ Pv D i H, ⟨n, by simp, Nat.zero_le _, h0 D nD⟩, fun i m H1 h => ?_⟩
  obtain ⟨rfl, hi, p⟩ := h
  have s := hl D i H1 hi p
  rcases Nat.lt_or_eq_of_le hi with h | h
  · exact .inr ⟨wk.go i H1 h s, Pv D (i + 1), fun H' p' => ⟨n - (i + 1), by omega, rfl, h, p'⟩, fun x H' y => hs D i x H1 H' h p (wk.yl i H1 x H' h s y)⟩
  · subst h
    exact .inl ⟨wk.st H1 s, hd D H1 nD p⟩
/-- the inner clause's walk -/
def In1 (g1 : TG) (tt1 : TT) (te : TE) (vs1 : List Nat) (D : Addr) (Nx : Hp → Prop) (σ2 : St) (J1 : It) (H4 : Hp) : Prop := ∃ W1 : Nat → Nat → Hp → Prop, (∃ m, W1 0 m H4) ∧ ∀ j k H, W1 j k H →
  (J1.stop j H ∧ Nx H) ∨ (J1.go j H ∧ ∃ Nx1 : Hp → Prop, (∀ H', Nx1 H' → ∃ k', k' < k ∧ W1 (j + 1) k' H') ∧ ∀ x H', J1.yld j H x H' → g1 x (wipe σ2 vs1) H' fun σ3 H5 => wipe σ3 vs1 = wipe σ2 vs1 ∧ tt1 σ3 H5 fun b H6 =>
    if b = true then te σ3 H6 fun y H7 => ∃ acc, H7 D = some (.lst acc) ∧ acc.length < sizeLine ∧ Nx1 (upd H7 D (.lst (acc ++ [y]))) else Nx1 H6)
def LpC2 (g : TG) (tt : TT) (wi1 : TI) (g1 : TG) (tt1 : TT) (te : TE) (vs vs1 : List Nat) (σ : St) (Q : VK) (J : It) (H1 : Hp) : Prop := ∀ D, H1 D = none → ∃ W : Nat → Nat → Hp → Prop, (∃ m, W 0 m (upd H1 D (.lst []))) ∧ ∀ i m H, W i m H →
  (J.stop i H ∧ Q (.ref D) H) ∨ (J.go i H ∧ ∃ Nx : Hp → Prop, (∀ H', Nx H' → ∃ m', m' < m ∧ W (i + 1) m' H') ∧ ∀ x H', J.yld i H x H' → g x (wipe σ vs) H' fun σ2 H2 => wipe σ2 vs = wipe σ vs ∧ tt σ2 H2 fun b H3 =>
    if b = true then wi1 σ2 H3 fun J1 H4 => In1 g1 tt1 te vs1 D Nx σ2 J1 H4 else Nx H3)
theorem tLc2_eq {wi wi1 : TI} {g1 : TG} {tt tt1 : TT} {te : TE} {vs vs1 : List Nat} {Q : VK} : tLc2 wi g tt wi1 g1 tt1 te vs vs1 σ H Q = wi σ H fun J H1 => LpC2 g tt wi1 g1 tt1 te vs vs1 σ Q J H1 := rfl
theorem in1_by {g1 : TG} {tt1 : TT} {te : TE} {vs1 : List Nat} {D : Addr} {Nx : Hp → Prop} (wk : Wk J n S Y) (Pw : Nat → Hp → Prop) (h0 : Pw 0 H) (hl : ∀ i H, i ≤ n → Pw i H → S H)
    (hs : ∀ i x H H', i < n → Pw i H → Y i H x H' → g1 x (wipe σ vs1) H' fun σ3 H5 => wipe σ3 vs1 = wipe σ vs1 ∧ tt1 σ3 H5 fun b H6 =>
      if b = true then te σ3 H6 fun y H7 => ∃ acc, H7 D = some (.lst acc) ∧ acc.length < sizeLine ∧ Pw (i + 1) (upd H7 D (.lst (acc ++ [y]))) else Pw (i + 1) H6) (hd : ∀ H, Pw n H → Nx H) : In1 g1 tt1 te vs1 D Nx σ J H := by
  refine ⟨fun i m H => m = n - i ∧ i ≤ n ∧ Pw i H, ⟨n, by simp, Nat.zero_le _, h0⟩, fun i m H1 h => ?_⟩
  obtain ⟨rfl, hi, p⟩ := h
  have s := hl i H1 hi p
  rcases Nat.lt_or_eq_of_le hi with h | h
  · exact .inr ⟨wk.go i H1 h s, Pw (i + 1), fun H' p' => ⟨n - (i + 1), by omega, rfl, h, p'⟩, fun x H' y => hs i x H1 H' h p (wk.yl i H1 x H' h s y)⟩
  · subst h
    exact .inl ⟨wk.st H1 s, hd H1 p⟩
theorem lpC2_by {wi1 : TI} {g1 : TG} {tt tt1 : TT} {te : TE} {vs vs1 : List Nat} {Q : VK} (wk : Wk J n S Y) (Pv : Addr → Nat → Hp → Prop) (h0 : ∀ D, H D = none → Pv D 0 (upd H D (.lst []))) (hl : ∀ D i H, i ≤ n → Pv D i H → S H)
    (hs : ∀ D i x H H', i < n → Pv D i H → Y i H x H' → g x (wipe σ vs) H' fun σ2 H2 => wipe σ2 vs = wipe σ vs ∧ tt σ2 H2 fun b H3 =>
      if b = true then wi1 σ2 H3 fun J1 H4 => In1 g1 tt1 te vs1 D (Pv D (i + 1)) σ2 J1 H4 else Pv D (i + 1) H3) (hd : ∀ D H', H D = none → Pv D n H' → Q (.ref D) H') : LpC2 g tt wi1 g1 tt1 te vs vs1 σ Q J H := by
  intro D nD
  refine ⟨fun i m H => m = n - i ∧ i ≤ n ∧ Pv D i H, ⟨n, by simp, Nat.zero_le _, h0 D nD⟩, fun i m H1 h => ?_⟩
  obtain ⟨rfl, hi, p⟩ := h
  have s := hl D i H1 hi p
  rcases Nat.lt_or_eq_of_le hi with h | h
  · exact .inr ⟨wk.go i H1 h s, Pv D (i + 1), fun H' p' => ⟨n - (i + 1), by omega, rfl, h, p'⟩, fun x H' y => hs D i x H1 H' h p (wk.yl i H1 x H' h s y)⟩
  · subst h
    exact .inl ⟨wk.st H1 s, hd D H1 nD p⟩
end
end L2

set_option Elab.async false
set_option linter.all false
set_option maxRecDepth 100000
set_option maxHeartbeats 4000000
/-! Things: ints, tuples, and others; which of them are worths. -/
namespace L2
open PySem PySem.Spec PyProof.Rows PySem.SeqAt
inductive Th where
  | i (n : Int)
  | o
  | t (xs : List Th)
namespace Th
mutual
def sz : Th → Nat
  | .i _ => 1
  | .o => 1
  | .t xs => szs xs + 1
def szs : List Th → Nat
  | [] => 0
  | x :: xs => x.sz + szs xs
end
mutual
def dep : Th → Nat
  | .i _ => 0
  | .o => 0
  | .t xs => deps xs + 1
def deps : List Th → Nat
  | [] => 0
  | x :: xs => max x.dep (deps xs)
end
theorem sz_i (n : Int) : (Th.i n).sz = 1 := by rw [sz]
theorem sz_o : Th.o.sz = 1 := by rw [sz]
theorem sz_t (xs : List Th) : (Th.t xs).sz = szs xs + 1 := by rw [sz]
theorem szs_nil : szs [] = 0 := by rw [szs]
theorem szs_cons (x : Th) (xs : List Th) : szs (x :: xs) = x.sz + szs xs := by rw [szs]
theorem dep_i (n : Int) : (Th.i n).dep = 0 := by rw [dep]
theorem dep_o : Th.o.dep = 0 := by rw [dep]
theorem dep_t (xs : List Th) : (Th.t xs).dep = deps xs + 1 := by rw [dep]
theorem deps_nil : deps [] = 0 := by rw [deps]
theorem deps_cons (x : Th) (xs : List Th) : deps (x :: xs) = max x.dep (deps xs) := by rw [deps]
theorem sz_pos : ∀ x : Th, 1 ≤ x.sz
  | .i n => by rw [sz_i]; exact Nat.le_refl _
  | .o => by rw [sz_o]; exact Nat.le_refl _
  | .t xs => by rw [sz_t]; omega
theorem len_szs : ∀ xs : List Th, xs.length ≤ szs xs
  | [] => Nat.zero_le _
  | x :: xs => by have := len_szs xs; have := sz_pos x; rw [szs_cons, List.length_cons]; omega
theorem szs_append : ∀ xs ys : List Th, szs (xs ++ ys) = szs xs + szs ys
  | [], ys => by rw [szs_nil, List.nil_append, Nat.zero_add]
  | x :: xs, ys => by rw [List.cons_append, szs_cons, szs_cons, szs_append xs ys]; omega
theorem dep_le {x : Th} : ∀ {xs : List Th}, x ∈ xs → x.dep ≤ deps xs
  | y :: ys, m => by
    rw [deps_cons]
    rcases List.mem_cons.mp m with rfl | m
    · exact Nat.le_max_left _ _
    · exact Nat.le_trans (dep_le m) (Nat.le_max_right _ _)
theorem deps_le {n : Nat} : ∀ {xs : List Th}, (∀ x ∈ xs, x.dep ≤ n) → deps xs ≤ n
  | [], _ => by rw [deps_nil]; exact Nat.zero_le _
  | x :: xs, h => by
    rw [deps_cons]
    exact Nat.max_le.mpr ⟨h x List.mem_cons_self, deps_le fun y m => h y (List.mem_cons_of_mem _ m)⟩
theorem sz_mem {x : Th} : ∀ {xs : List Th}, x ∈ xs → x.sz ≤ szs xs
  | y :: ys, m => by
    rw [szs_cons]
    rcases List.mem_cons.mp m with rfl | m
    · exact Nat.le_add_right _ _
    · have := sz_mem m; omega
/-! what the program asks of a thing -/
def isTup : Th → Bool
  | .t _ => true
  | _ => false
def isW (lo hi : Int) : Th → Bool
  | .i n => decide (lo ≤ n) && decide (n ≤ hi)
  | _ => false
def isTurn : Th → Bool
  | .t [n, .t ws] => isW 0 99 n && decide (ws.length ≤ 4)
  | _ => false
def isBase : Th → Bool
  | .t (a :: b :: r) => if isW 0 0 a = true then r.isEmpty && isW 0 2 b else isW 1 1 a && isTurn (.t (b :: r))
  | _ => false
def form : Th → Bool
  | .t [b, .t g] => isBase b && g.all isTurn
  | _ => false
def bagOf : Th → List Th
  | .t [_, .t g] => g
  | _ => []
def heldB : Th → List Th
  | .t [.i _, _, .t ws] => ws
  | _ => []
def heldT : Th → List Th
  | .t [_, .t ws] => ws
  | _ => []
def held : Th → List Th
  | .t [b, .t g] => heldB b ++ g.flatMap heldT
  | _ => []
theorem turn_inv {x : Th} (h : isTurn x = true) : ∃ n ws, x = .t [.i n, .t ws] ∧ 0 ≤ n ∧ n ≤ 99 ∧ ws.length ≤ 4 := by
  unfold isTurn at h
  split at h
  · rename_i n ws
    rw [Bool.and_eq_true, decide_eq_true_eq] at h
    obtain ⟨h1, h2⟩ := h
    cases n with
    | i n => simp only [isW, Bool.and_eq_true, decide_eq_true_eq] at h1; exact ⟨n, ws, rfl, h1.1, h1.2, h2⟩
    | o => cases h1
    | t _ => cases h1
  · cases h
theorem isW_inv {lo hi : Int} {x : Th} (h : isW lo hi x = true) : ∃ n, x = .i n ∧ lo ≤ n ∧ n ≤ hi := by
  cases x with
  | i n => simp only [isW, Bool.and_eq_true, decide_eq_true_eq] at h; exact ⟨n, rfl, h⟩
  | o => cases h
  | t _ => cases h
theorem base_inv {x : Th} (h : isBase x = true) : (∃ c, x = .t [.i 0, .i c] ∧ 0 ≤ c ∧ c ≤ 2) ∨ ∃ n ws, x = .t [.i 1, .i n, .t ws] ∧ 0 ≤ n ∧ n ≤ 99 ∧ ws.length ≤ 4 := by
  unfold isBase at h
  split at h
  · rename_i a b r
    by_cases e : isW 0 0 a = true
    · rw [if_pos e, Bool.and_eq_true] at h
      obtain ⟨h1, h2⟩ := h
      obtain ⟨n, rfl, n1, n2⟩ := isW_inv e
      obtain ⟨c, rfl, c1, c2⟩ := isW_inv h2
      obtain rfl := List.isEmpty_iff.mp h1
      obtain rfl : n = 0 := by omega
      exact .inl ⟨c, rfl, c1, c2⟩
    · rw [if_neg e, Bool.and_eq_true] at h
      obtain ⟨h1, h2⟩ := h
      obtain ⟨n, rfl, n1, n2⟩ := isW_inv h1
      obtain ⟨m, ws, q, q1, q2, q3⟩ := turn_inv h2
      obtain rfl : n = 1 := by omega
      injection q with q
      injection q with q4 q5
      subst q4 q5
      exact .inr ⟨m, ws, rfl, q1, q2, q3⟩
  · cases h
theorem form_inv {x : Th} (h : form x = true) : ∃ b g, x = .t [b, .t g] ∧ isBase b = true ∧ ∀ t ∈ g, isTurn t = true := by
  unfold form at h
  split at h
  · rename_i b g
    rw [Bool.and_eq_true, List.all_eq_true] at h
    exact ⟨b, g, rfl, h.1, h.2⟩
  · cases h
/-- all that it holds is of the form -/
inductive OkF : Th → Prop
  | mk {t : Th} : form t = true → (∀ v ∈ held t, OkF v) → OkF t
mutual
def toD : Th → PyData
  | .i n => .int n
  | .o => .none
  | .t xs => .tuple (toDs xs)
def toDs : List Th → List PyData
  | [] => []
  | x :: xs => x.toD :: toDs xs
end
def ascB (g : List Th) : Bool := (g.zip g.tail).all fun p => !PySem.W.dataLt p.2.toD p.1.toD
inductive OkA : Th → Prop
  | mk {t : Th} : ascB (bagOf t) = true → (∀ v ∈ held t, OkA v) → OkA t
theorem OkF.iff {t : Th} : OkF t ↔ form t = true ∧ ∀ v ∈ held t, OkF v := ⟨fun h => by cases h with | mk a b => exact ⟨a, b⟩, fun h => .mk h.1 h.2⟩
theorem OkA.iff {t : Th} : OkA t ↔ ascB (bagOf t) = true ∧ ∀ v ∈ held t, OkA v := ⟨fun h => by cases h with | mk a b => exact ⟨a, b⟩, fun h => .mk h.1 h.2⟩
theorem flat_sz : ∀ {g : List Th}, (∀ t ∈ g, isTurn t = true) → szs (g.flatMap heldT) ≤ szs g
  | [], _ => by rw [List.flatMap_nil]; exact Nat.le_refl _
  | x :: g, h => by
    obtain ⟨n, ws, rfl, _⟩ := turn_inv (h x List.mem_cons_self)
    have := flat_sz fun t m => h t (List.mem_cons_of_mem _ m)
    rw [List.flatMap_cons, szs_append, szs_cons, sz_t, szs_cons, szs_cons, sz_t, szs_nil]
    show szs ws + _ ≤ _
    omega
theorem held_sz {t : Th} (h : form t = true) : szs (held t) + 1 ≤ t.sz := by
  obtain ⟨b, g, rfl, hb, hg⟩ := form_inv h
  have := flat_sz hg
  show szs (heldB b ++ g.flatMap heldT) + 1 ≤ _
  rw [szs_append, sz_t, szs_cons, szs_cons, szs_nil, sz_t]
  have : szs (heldB b) ≤ b.sz := by
    rcases base_inv hb with ⟨c, rfl, _⟩ | ⟨n, ws, rfl, _⟩
    · exact Nat.zero_le _
    · show szs ws ≤ _
      rw [sz_t, szs_cons, szs_cons, szs_cons, szs_nil, sz_t]; omega
  omega
theorem held_dep {t v : Th} (h : form t = true) (m : v ∈ held t) : v.dep ≤ t.dep := by
  obtain ⟨b, g, rfl, hb, hg⟩ := form_inv h
  rw [dep_t, deps_cons, deps_cons, deps_nil, dep_t]
  rcases List.mem_append.mp m with m | m
  · rcases base_inv hb with ⟨c, rfl, _⟩ | ⟨n, ws, rfl, _⟩
    · cases m
    · have := dep_le (show v ∈ ws from m)
      rw [dep_t, deps_cons, deps_cons, deps_cons, deps_nil, dep_t]
      omega
  · obtain ⟨x, mx, mv⟩ := List.mem_flatMap.mp m
    have d1 := dep_le mx
    obtain ⟨n, ws, rfl, _⟩ := turn_inv (hg x mx)
    have := dep_le (show v ∈ ws from mv)
    rw [dep_t, deps_cons, deps_cons, deps_nil, dep_t] at d1
    omega
end Th
namespace Tr
mutual
def toTh : Tr → Th
  | .i n => .i n
  | .t xs => .t (toThs xs)
def toThs : List Tr → List Th
  | [] => []
  | x :: xs => x.toTh :: toThs xs
end
theorem toThs_map : ∀ xs : List Tr, toThs xs = xs.map toTh
  | [] => by rw [toThs]; rfl
  | x :: xs => by rw [toThs, toThs_map xs]; rfl
theorem th_i (n : Int) : (Tr.i n).toTh = .i n := by rw [toTh]
theorem th_t (xs : List Tr) : (Tr.t xs).toTh = .t (xs.map toTh) := by rw [toTh, toThs_map]
mutual
theorem toTh_toD : ∀ x : Tr, x.toTh.toD = x.toD
  | .i n => by rw [toTh, toD, Th.toD]
  | .t xs => by rw [toTh, toD, Th.toD, toThs_toDs xs]
theorem toThs_toDs : ∀ xs : List Tr, Th.toDs (toThs xs) = toDs xs
  | [] => by rw [toThs, Th.toDs, toDs]
  | x :: xs => by rw [toThs, Th.toDs, toDs, toTh_toD x, toThs_toDs xs]
end
mutual
theorem toTh_dep : ∀ x : Tr, x.toTh.dep = x.dep
  | .i n => by rw [toTh, dep, Th.dep]
  | .t xs => by rw [toTh, dep, Th.dep, toThs_deps xs]
theorem toThs_deps : ∀ xs : List Tr, Th.deps (toThs xs) = deps xs
  | [] => by rw [toThs, Th.deps, deps]
  | x :: xs => by rw [toThs, Th.deps, deps, toTh_dep x, toThs_deps xs]
end
/-- worths by their form, of any bag -/
def WS : Nat → Tr → Prop
  | 0, _ => False
  | n + 1, w => ∃ b bag, w = wor b bag ∧ BL (WS n) b ∧ ∀ t ∈ bag, TL (WS n) t
theorem WS.up : ∀ {n : Nat} {w : Tr}, WS n w → WS (n + 1) w
  | 0, _, h => h.elim
  | n + 1, w, ⟨b, bag, e, hb, ht⟩ => ⟨b, bag, e, hb.imp fun _ => WS.up, fun t m => (ht t m).imp fun _ => WS.up⟩
theorem WS.mono {n m : Nat} {w : Tr} (h : WS n w) (k : n ≤ m) : WS m w := by
  induction k with
  | refl => exact h
  | step _ ih => exact ih.up
theorem BL.ak {W W' : Tr → Prop} (q : ∀ v v', W v → W' v' → Ak v v') {b b' : Tr} (hb : BL W b) (hb' : BL W' b') : Ak b b' := by
  rcases hb with ⟨c, rfl⟩ | ⟨i, ws, rfl, k⟩ <;> rcases hb' with ⟨c', rfl⟩ | ⟨i', ws', rfl, k'⟩
  · exact ak_t.mpr (ak_cons (ak_i _ _) (ak_cons (ak_i _ _) (ak_nilL _)))
  · exact ak_t.mpr (ak_cons (ak_i _ _) (ak_cons (ak_i _ _) (ak_nilL _)))
  · exact ak_t.mpr (ak_cons (ak_i _ _) (ak_cons (ak_i _ _) (ak_nilR _)))
  · exact ak_t.mpr (ak_cons (ak_i _ _) (ak_cons (ak_i _ _) (ak_cons (ak_t.mpr (ak_all fun x hx y hy => q x y (k x hx) (k' y hy))) (ak_nilL _))))
theorem WS.ak : ∀ {n m : Nat} {w w' : Tr}, WS n w → WS m w' → Ak w w'
  | 0, _, _, _, h, _ => h.elim
  | _ + 1, 0, _, _, _, h => h.elim
  | n + 1, m + 1, w, w', ⟨b, bag, e, hb, ht⟩, ⟨b', bag', e', hb', ht'⟩ => by
    subst e e'
    have q : ∀ v v', WS n v → WS m v' → Ak v v' := fun _ _ => WS.ak
    exact ak_t.mpr (ak_cons (hb.ak q hb') (ak_cons (ak_t.mpr (ak_all fun x hx y hy => (ht x hx).ak q (ht' y hy))) (ak_nilL _)))
end Tr
theorem all_ws : ∀ {ws : List Th}, (∀ v ∈ ws, ∃ n x, v = Tr.toTh x ∧ Tr.WS n x) → ∃ (n : Nat) (xs : List Tr), ws = xs.map Tr.toTh ∧ ∀ x ∈ xs, Tr.WS n x
  | [], _ => ⟨0, [], rfl, fun x m => by cases m⟩
  | v :: ws, h => by
    obtain ⟨n, x, rfl, w⟩ := h v List.mem_cons_self
    obtain ⟨m, xs, rfl, q⟩ := all_ws fun v m => h v (List.mem_cons_of_mem _ m)
    exact ⟨max n m, x :: xs, rfl, fun y my => (List.mem_cons.mp my).elim (fun e => by rw [e]; exact w.mono (Nat.le_max_left ..)) fun my => (q y my).mono (Nat.le_max_right ..)⟩
theorem turn_ws {t : Th} (h : Th.isTurn t = true) (k : ∀ v ∈ Th.heldT t, ∃ n x, v = Tr.toTh x ∧ Tr.WS n x) : ∃ n x, t = Tr.toTh x ∧ Tr.TL (Tr.WS n) x := by
  obtain ⟨m, ws, rfl, _⟩ := Th.turn_inv h
  obtain ⟨n, xs, rfl, q⟩ := all_ws (ws := ws) k
  exact ⟨n, Tr.trn m xs, by unfold Tr.trn; rw [Tr.th_t, List.map_cons, List.map_cons, List.map_nil, Tr.th_i, Tr.th_t], m, xs, rfl, q⟩
theorem all_tl : ∀ {g : List Th}, (∀ t ∈ g, ∃ n x, t = Tr.toTh x ∧ Tr.TL (Tr.WS n) x) → ∃ (n : Nat) (xs : List Tr), g = xs.map Tr.toTh ∧ ∀ x ∈ xs, Tr.TL (Tr.WS n) x
  | [], _ => ⟨0, [], rfl, fun x m => by cases m⟩
  | v :: ws, h => by
    obtain ⟨n, x, rfl, w⟩ := h v List.mem_cons_self
    obtain ⟨m, xs, rfl, q⟩ := all_tl fun v m => h v (List.mem_cons_of_mem _ m)
    exact ⟨max n m, x :: xs, rfl, fun y my => (List.mem_cons.mp my).elim (fun e => by rw [e]; exact w.imp fun _ z => z.mono (Nat.le_max_left ..)) fun my => (q y my).imp fun _ z => z.mono (Nat.le_max_right ..)⟩
theorem ok_ws {t : Th} (h : Th.OkF t) : ∃ n x, t = Tr.toTh x ∧ Tr.WS n x := by
  induction h with
  | @mk t hf _ ih =>
    obtain ⟨b, g, rfl, hb, hg⟩ := Th.form_inv hf
    obtain ⟨m, xs, rfl, q⟩ := all_tl (g := g) fun t mt => turn_ws (hg t mt) fun v mv => ih v (List.mem_append_right _ (List.mem_flatMap.mpr ⟨t, mt, mv⟩))
    have hbb : ∃ n x, b = Tr.toTh x ∧ Tr.BL (Tr.WS n) x := by
      rcases Th.base_inv hb with ⟨c, rfl, _⟩ | ⟨n, ws, rfl, _⟩
      · exact ⟨0, Tr.base0 c, by unfold Tr.base0; rw [Tr.th_t, List.map_cons, List.map_cons, List.map_nil, Tr.th_i, Tr.th_i], .inl ⟨c, rfl⟩⟩
      · obtain ⟨k, ys, rfl, q⟩ := all_ws (ws := ws) fun v mv => ih v (List.mem_append_left _ mv)
        exact ⟨k, Tr.base1 n ys, by unfold Tr.base1; rw [Tr.th_t, List.map_cons, List.map_cons, List.map_cons, List.map_nil, Tr.th_i, Tr.th_i, Tr.th_t], .inr ⟨n, ys, rfl, q⟩⟩
    obtain ⟨n, x, rfl, hx⟩ := hbb
    exact ⟨max n m + 1, Tr.wor x xs, by unfold Tr.wor; rw [Tr.th_t, List.map_cons, List.map_cons, List.map_nil, Tr.th_t], x, xs, rfl, hx.imp fun _ z => z.mono (Nat.le_max_left ..), fun t mt => (q t mt).imp fun _ z => z.mono (Nat.le_max_right ..)⟩
def ascT (xs : List Tr) : Bool := (xs.zip xs.tail).all fun p => !Tr.lt p.2 p.1
theorem ascB_map : ∀ xs : List Tr, Th.ascB (xs.map Tr.toTh) = ascT xs
  | [] => rfl
  | [x] => rfl
  | x :: y :: xs => by
    have := ascB_map (y :: xs)
    unfold Th.ascB ascT at *
    simp only [List.map_cons, List.tail_cons, List.zip_cons_cons, List.all_cons] at *
    rw [this, Tr.toTh_toD, Tr.toTh_toD]
    rfl
/-! ### how things stand -/
/-- what is neither an int nor a tuple -/
inductive Oth (H : Hp) : V → Prop
  | non : Oth H .non
  | bl (b : Bool) : Oth H (.bl b)
  | str (s : Str) : Oth H (.str s)
  | lst {a : Addr} {xs : List V} : H a = some (.lst xs) → Oth H (.ref a)
  | dic {a : Addr} : H a = some (.dK []) → Oth H (.ref a)
mutual
inductive ThAt (K : PySem.W.Frag) (H : Hp) : V → Th → Prop
  | i (n : Int) : ThAt K H (.int n) (.i n)
  | o {v : V} : Oth H v → ThAt K H v .o
  | t {a : Addr} {vs : List V} {xs : List Th} : SqT K H a vs → ThAts K H vs xs → ThAt K H (.ref a) (.t xs)
inductive ThAts (K : PySem.W.Frag) (H : Hp) : List V → List Th → Prop
  | nil : ThAts K H [] []
  | cons {v : V} {vs : List V} {x : Th} {xs : List Th} : ThAt K H v x → ThAts K H vs xs → ThAts K H (v :: vs) (x :: xs)
end
/-- what stood stands, lists perhaps with other items -/
def Kl (H H' : Hp) : Prop := ∀ b o, H b = some o → H' b = some o ∨ ((∃ xs, o = .lst xs) ∧ ∃ ys, H' b = some (.lst ys))
theorem Kl.same {H H' : Hp} (s : Same H H') : Kl H H' := fun b o e => .inl (s b o e)
theorem Kl.kt {H H' : Hp} (k : Kl H H') : Kt H H' := fun b o n e => (k b o e).elim id fun ⟨⟨xs, h⟩, _⟩ => absurd h (n xs)
theorem Kl.trans {H H1 H2 : Hp} (a : Kl H H1) (b : Kl H1 H2) : Kl H H2 := fun c o e => by
  rcases a c o e with h | ⟨h, ys, h2⟩
  · exact b c o h
  · rcases b c _ h2 with k | ⟨_, zs, k⟩
    · exact .inr ⟨h, ys, k⟩
    · exact .inr ⟨h, zs, k⟩
theorem Kl.refl (H : Hp) : Kl H H := fun b o e => .inl e
theorem Kl.new {H : Hp} {p : Addr} {o : HO} (n : H p = none) : Kl H (upd H p o) := fun b u e => .inl (by rw [upd_ne (fun z => by rw [z, n] at e; cases e)]; exact e)
theorem Kl.lst {H : Hp} {p : Addr} {xs ys : List V} (h : H p = some (.lst xs)) : Kl H (upd H p (.lst ys)) := fun b u e => by
  by_cases z : b = p
  · subst z
    rw [h] at e
    exact .inr ⟨⟨xs, (Option.some.inj e).symm⟩, ys, upd_same⟩
  · exact .inl (by rw [upd_ne z]; exact e)
section
variable {K : PySem.W.Frag} {H H' : Hp}
theorem Oth.kl {v : V} (h : Oth H v) (k : Kl H H') : Oth H' v := by
  cases h with
  | non => exact .non
  | bl b => exact .bl b
  | str s => exact .str s
  | lst e => exact (k _ _ e).elim (fun h => .lst h) fun ⟨_, ys, h⟩ => .lst h
  | dic e => exact (k _ _ e).elim (fun h => .dic h) fun ⟨⟨xs, h⟩, _⟩ => by cases h
mutual
theorem ThAt.kl (k : Kl H H') : ∀ {x : Th} {v : V}, ThAt K H v x → ThAt K H' v x
  | .i n, v, h => by cases h; exact .i n
  | .o, v, h => by cases h with | o h => exact .o (h.kl k)
  | .t xs, v, h => by cases h with | t a b => exact .t (a.kt k.kt) (ThAts.kl k b)
theorem ThAts.kl (k : Kl H H') : ∀ {xs : List Th} {vs : List V}, ThAts K H vs xs → ThAts K H' vs xs
  | [], _, h => by cases h; exact .nil
  | x :: xs, _, h => by cases h with | cons a b => exact .cons (ThAt.kl k a) (ThAts.kl k b)
end
theorem ThAts.length : ∀ {vs : List V} {xs : List Th}, ThAts K H vs xs → vs.length = xs.length
  | _, _, .nil => rfl
  | _, _, .cons _ t => by rw [List.length_cons, List.length_cons, t.length]
theorem ThAts.append : ∀ {vs ws : List V} {xs ys : List Th}, ThAts K H vs xs → ThAts K H ws ys → ThAts K H (vs ++ ws) (xs ++ ys)
  | _, _, _, _, .nil, k => k
  | _, _, _, _, .cons a b, k => .cons a (ThAts.append b k)
theorem ThAts.get : ∀ {vs : List V} {xs : List Th} {i : Nat} {v : V}, ThAts K H vs xs → vs[i]? = some v → ∃ x, xs[i]? = some x ∧ ThAt K H v x
  | _, _, _, _, .nil, e => by simp at e
  | _, _, 0, _, .cons r _, e => by simp at e; subst e; exact ⟨_, rfl, r⟩
  | _, _, i + 1, v, .cons _ t, e => by
    obtain ⟨x, h1, h2⟩ := ThAts.get (i := i) (v := v) t (by simpa using e)
    exact ⟨x, by simpa using h1, h2⟩
theorem ThAts.split : ∀ {vf : List V} {vl : V} {xs : List Th}, ThAts K H (vf ++ [vl]) xs → ∃ uf ul, xs = uf ++ [ul] ∧ ThAts K H vf uf ∧ ThAt K H vl ul
  | [], vl, _, .cons a .nil => ⟨[], _, rfl, .nil, a⟩
  | v :: vf, vl, _, .cons a t => by
    obtain ⟨uf, ul, rfl, h1, h2⟩ := ThAts.split t
    exact ⟨_ :: uf, ul, rfl, .cons a h1, h2⟩
mutual
theorem ThAt.of : ∀ {x : Tr} {v : V}, At K H v x → ThAt K H v x.toTh
  | .i n, v, h => by rw [int_at h, Tr.th_i]; exact .i n
  | .t xs, v, h => by
    obtain ⟨a, vs, rfl, h1, h2⟩ := tup_at h
    rw [Tr.th_t]
    exact .t h1 (ThAts.of h2)
theorem ThAts.of : ∀ {xs : List Tr} {vs : List V}, Ats K H vs xs → ThAts K H vs (xs.map Tr.toTh)
  | [], _, h => by cases h; exact .nil
  | x :: xs, _, h => by
    cases h with
    | cons a b => exact .cons (ThAt.of a) (ThAts.of b)
end
mutual
theorem ThAt.to : ∀ {x : Tr} {v : V}, ThAt K H v x.toTh → At K H v x
  | .i n, v, h => by rw [Tr.th_i] at h; cases h; exact at_int n
  | .t xs, v, h => by
    rw [Tr.th_t] at h
    cases h with
    | t a b => exact at_tup a (ThAts.to b)
theorem ThAts.to : ∀ {xs : List Tr} {vs : List V}, ThAts K H vs (xs.map Tr.toTh) → Ats K H vs xs
  | [], _, h => by cases h; exact .nil
  | x :: xs, _, h => by
    rw [List.map_cons] at h
    cases h with
    | cons a b => exact .cons (ThAt.to a) (ThAts.to b)
end
/-- isinstance's answers -/
theorem ThAt.tup {v : V} {x : Th} (h : ThAt K H v x) : ∃ t, TyX K H v t ∧ PySem.W.kitOne K t (.type "tuple") = some x.isTup := by
  cases h with
  | i n => exact ⟨_, .base (.int n), kit_ty (show kitB "int" "tuple" = some false by decide +kernel)⟩
  | o h =>
    cases h with
    | non => exact ⟨_, .base .non, kit_ty (by decide +kernel)⟩
    | bl b => exact ⟨_, .base (.bl b), kit_ty (by decide +kernel)⟩
    | str s => exact ⟨_, .base (.str s), kit_ty (by decide +kernel)⟩
    | lst e => exact ⟨_, .base (.lst e), kit_ty (by decide +kernel)⟩
    | dic e => exact ⟨_, .base (.dK e), kit_ty (by decide +kernel)⟩
  | t h _ =>
    rcases h with (h | ⟨o, h⟩) | ⟨o, its, n, h1, h2, _⟩
    · exact ⟨_, .base (.tup h), kit_ty (show kitB "tuple" "tuple" = some true by decide +kernel)⟩
    · exact ⟨_, .fTuple h, kit_ty (show kitB "tuple" "tuple" = some true by decide +kernel)⟩
    · exact ⟨_, .kTuple h1 h2, kit_ty (show kitB "tuple" "tuple" = some true by decide +kernel)⟩
/-- an int, a bool, or neither -/
theorem ThAt.num {v : V} {x : Th} (h : ThAt K H v x) : (∃ n, x = .i n ∧ v = .int n) ∨ (x.isTup = false ∧ (∀ lo hi, x.isW lo hi = false) ∧ ∃ b, v = .bl b) ∨ ((∀ lo hi, x.isW lo hi = false) ∧ ∃ t, TyX K H v t ∧ PySem.W.kitOne K t (.type "int") = some false) := by
  cases h with
  | i n => exact .inl ⟨n, rfl, rfl⟩
  | o h =>
    cases h with
    | non => exact .inr (.inr ⟨fun _ _ => rfl, _, .base .non, kit_ty (by decide +kernel)⟩)
    | bl b => exact .inr (.inl ⟨rfl, fun _ _ => rfl, b, rfl⟩)
    | str s => exact .inr (.inr ⟨fun _ _ => rfl, _, .base (.str s), kit_ty (by decide +kernel)⟩)
    | lst e => exact .inr (.inr ⟨fun _ _ => rfl, _, .base (.lst e), kit_ty (by decide +kernel)⟩)
    | dic e => exact .inr (.inr ⟨fun _ _ => rfl, _, .base (.dK e), kit_ty (by decide +kernel)⟩)
  | t h _ =>
    refine .inr (.inr ⟨fun _ _ => rfl, ?_⟩)
    rcases h with (h | ⟨o, h⟩) | ⟨o, its, n, h1, h2, _⟩
    · exact ⟨_, .base (.tup h), kit_ty (by decide +kernel)⟩
    · exact ⟨_, .fTuple h, kit_ty (by decide +kernel)⟩
    · exact ⟨_, .kTuple h1 h2, kit_ty (by decide +kernel)⟩
end
section
variable {X : Cx}
/-- <= of two trees that can be compared -/
def rLeTr (K : PySem.W.Frag) : R2 := fun x y H Q => ∃ t u, At K H x t ∧ At K H y u ∧ Tr.Ak t u ∧ t.dep ≤ 190 ∧ Q (.bl (!Tr.lt u t)) H
theorem op_leTr (hu : X.A.units + 200 < cLine) : OpR X (compareOp .LtE) (rLeTr X.K) := by
  intro pins s σ H x y v u Q I rx ry h
  obtain ⟨t, r, ht, hr, ak, hd, q⟩ := h
  obtain ⟨as, r1⟩ := Dp.reads I t.toD x v ht rx
  obtain ⟨bs, r2⟩ := Dp.reads I r.toD y u hr ry
  exact PySem.W.le_data r1 r2 ak (by cases t <;> simp [Tr.toD]) (room_two hd hu) ⟨.bl _, H, I, rfl, q⟩
end
end L2

set_option Elab.async false
set_option linter.all false
set_option maxRecDepth 100000
set_option maxHeartbeats 4000000
/-! Good worths: names, cells, how many; what is asked of them holds. -/
namespace L2
open PySem PySem.Spec PyProof.Rows PySem.SeqAt
namespace Tr
def GBase (b : Tr) : Prop := (∃ c : Int, b = base0 c ∧ 0 ≤ c ∧ c ≤ 2) ∨ ∃ m ws, b = base1 m ws ∧ 0 ≤ m ∧ m ≤ 99 ∧ ws.length ≤ 4
def GTurn (t : Tr) : Prop := ∃ m ws, t = trn m ws ∧ 0 ≤ m ∧ m ≤ 99 ∧ ws.length ≤ 4
def Up (g : List Tr) : Prop := g.Pairwise fun x y => lt y x = false
inductive GW : Tr → Prop
  | mk {b : Tr} {bag : List Tr} : GBase b → bag.length ≤ 7 → (∀ t ∈ bag, GTurn t) → Up bag → (∀ v ∈ held (wor b bag), GW v) → GW (wor b bag)
theorem wor_inj {b b' : Tr} {bag bag' : List Tr} (e : wor b bag = wor b' bag') : b = b' ∧ bag = bag' := by
  unfold wor at e
  injection e with e
  injection e with e1 e2
  injection e2 with e2 _
  injection e2 with e2
  exact ⟨e1, e2⟩
theorem GW.inv {b : Tr} {bag : List Tr} (h : GW (wor b bag)) : GBase b ∧ bag.length ≤ 7 ∧ (∀ t ∈ bag, GTurn t) ∧ Up bag ∧ ∀ v ∈ held (wor b bag), GW v := by
  generalize e : wor b bag = w at h
  cases h with
  | mk h1 h2 h3 h4 h5 =>
    obtain ⟨rfl, rfl⟩ := wor_inj e
    exact ⟨h1, h2, h3, h4, h5⟩
theorem GW.shape {w : Tr} (h : GW w) : ∃ b bag, w = wor b bag := by cases h; exact ⟨_, _, rfl⟩
theorem wor_th (b : Tr) (bag : List Tr) : (wor b bag).toTh = .t [b.toTh, .t (bag.map toTh)] := by unfold wor; rw [th_t, List.map_cons, List.map_cons, List.map_nil, th_t]
theorem trn_th (m : Int) (ws : List Tr) : (trn m ws).toTh = .t [.i m, .t (ws.map toTh)] := by unfold trn; rw [th_t, List.map_cons, List.map_cons, List.map_nil, th_i, th_t]
theorem base0_th (c : Int) : (base0 c).toTh = .t [.i 0, .i c] := by unfold base0; rw [th_t, List.map_cons, List.map_cons, List.map_nil, th_i, th_i]
theorem base1_th (m : Int) (ws : List Tr) : (base1 m ws).toTh = .t [.i 1, .i m, .t (ws.map toTh)] := by unfold base1; rw [th_t, List.map_cons, List.map_cons, List.map_cons, List.map_nil, th_i, th_i, th_t]
theorem GTurn.th {t : Tr} (h : GTurn t) : t.toTh.isTurn = true ∧ Th.heldT t.toTh = (heldT t).map toTh := by
  obtain ⟨m, ws, rfl, h1, h2, h3⟩ := h
  rw [trn_th]
  exact ⟨by simp [Th.isTurn, Th.isW, h1, h2, h3], rfl⟩
theorem GBase.th {b : Tr} (h : GBase b) : b.toTh.isBase = true ∧ Th.heldB b.toTh = (heldB b).map toTh := by
  rcases h with ⟨c, rfl, h1, h2⟩ | ⟨m, ws, rfl, h1, h2, h3⟩
  · rw [base0_th]
    exact ⟨by simp [Th.isBase, Th.isW, h1, h2], rfl⟩
  · rw [base1_th]
    exact ⟨by simp [Th.isBase, Th.isW, Th.isTurn, h1, h2, h3], rfl⟩
theorem held_th {b : Tr} {bag : List Tr} (hb : GBase b) (hg : ∀ t ∈ bag, GTurn t) : Th.held (wor b bag).toTh = (held (wor b bag)).map toTh := by
  rw [wor_th, held_wor, List.map_append, ← hb.th.2]
  show Th.heldB b.toTh ++ (bag.map toTh).flatMap Th.heldT = _
  congr 1
  clear hb
  induction bag with
  | nil => rfl
  | cons t bag ih => rw [List.map_cons, List.flatMap_cons, List.flatMap_cons, List.map_append, ih fun t m => hg t (List.mem_cons_of_mem _ m), (hg t List.mem_cons_self).th.2]
theorem up_asc : ∀ {g : List Tr}, Up g → ascT g = true
  | [], _ => rfl
  | [x], _ => rfl
  | x :: y :: g, h => by
    have h1 := (List.pairwise_cons.mp h).1 y List.mem_cons_self
    have := up_asc (List.pairwise_cons.mp h).2
    unfold ascT at *
    simp only [List.tail_cons, List.zip_cons_cons, List.all_cons] at *
    rw [this, h1]; rfl
theorem GW.ok {w : Tr} (h : GW w) : w.toTh.OkF ∧ w.toTh.OkA := by
  induction h with
  | @mk b bag h1 h2 h3 h4 h5 ih =>
    have e := held_th h1 h3
    refine ⟨.mk ?_ fun v m => ?_, .mk ?_ fun v m => ?_⟩
    · rw [wor_th]
      show (b.toTh.isBase && (bag.map toTh).all Th.isTurn) = true
      rw [h1.th.1, Bool.true_and, List.all_map, List.all_eq_true]
      exact fun t m => (h3 t m).th.1
    · rw [e] at m
      obtain ⟨u, mu, rfl⟩ := List.mem_map.mp m
      exact (ih u mu).1
    · rw [wor_th]
      show Th.ascB (bag.map toTh) = true
      rw [ascB_map]
      exact up_asc h4
    · rw [e] at m
      obtain ⟨u, mu, rfl⟩ := List.mem_map.mp m
      exact (ih u mu).2
theorem heldB_len {b : Tr} (h : GBase b) : (heldB b).length ≤ 4 := by
  rcases h with ⟨c, rfl, _⟩ | ⟨m, ws, rfl, _, _, h⟩
  · exact Nat.zero_le _
  · exact h
theorem GW.few {w : Tr} (h : GW w) : (held w).length ≤ 32 := by
  obtain ⟨b, bag, rfl⟩ := h.shape
  obtain ⟨h1, h2, h3, _, _⟩ := h.inv
  rw [held_wor, List.length_append]
  have := heldB_len h1
  have := flat_len_le (f := heldT) (c := 4) (xs := bag) fun t m => by
    obtain ⟨m, ws, rfl, _, _, h⟩ := h3 t m
    exact h
  omega
theorem GW.part {w v : Tr} (h : GW w) (m : v ∈ held w) : GW v := by
  obtain ⟨b, bag, rfl⟩ := h.shape
  exact h.inv.2.2.2.2 v m
theorem gw_begun {c : Int} (h0 : 0 ≤ c) (h2 : c ≤ 2) : GW (wor (base0 c) []) := .mk (.inl ⟨c, rfl, h0, h2⟩) (by decide) (fun t m => by cases m) List.Pairwise.nil fun v m => by cases m
theorem gw_made {m : Int} {ws : List Tr} (h0 : 0 ≤ m) (h1 : m ≤ 99) (hl : ws.length ≤ 4) (h : ∀ v ∈ ws, GW v) : GW (wor (base1 m ws) []) := .mk (.inr ⟨m, ws, rfl, h0, h1, hl⟩) (by decide) (fun t m => by cases m) List.Pairwise.nil fun v mv => by
  rw [held_wor, List.flatMap_nil, List.append_nil] at mv
  exact h v mv
theorem gw_turn {b : Tr} {bag bag' ws : List Tr} {m : Int} (h : GW (wor b bag)) (l : bag.length < 7) (h0 : 0 ≤ m) (h1 : m ≤ 99) (hl : ws.length ≤ 4) (hw : ∀ v ∈ ws, GW v) (p : bag'.Perm (bag ++ [trn m ws])) (u : Up bag') : GW (wor b bag') := by
  obtain ⟨k1, k2, k3, k4, k5⟩ := h.inv
  refine .mk k1 ?_ (fun t mt => ?_) u fun v mv => ?_
  · rw [p.length_eq, List.length_append, List.length_singleton]; omega
  · rcases List.mem_append.mp (p.mem_iff.mp mt) with mt | mt
    · exact k3 t mt
    · exact ⟨m, ws, List.mem_singleton.mp mt, h0, h1, hl⟩
  · rw [held_wor] at mv k5
    rcases List.mem_append.mp mv with mv | mv
    · exact k5 v (List.mem_append_left _ mv)
    · obtain ⟨t, mt, mv⟩ := List.mem_flatMap.mp mv
      rcases List.mem_append.mp (p.mem_iff.mp mt) with mt | mt
      · exact k5 v (List.mem_append_right _ (List.mem_flatMap.mpr ⟨t, mt, mv⟩))
      · rw [List.mem_singleton.mp mt] at mv
        exact hw v mv
/-- two rising lists of the same are one -/
theorem up_perm : ∀ {xs ys : List Tr}, Up xs → Up ys → xs.Perm ys → (∀ a ∈ xs, ∀ b ∈ xs, Ak a b) → xs = ys
  | [], ys, _, _, p, _ => (List.nil_perm.mp p).symm
  | x :: xs, [], _, _, p, _ => absurd p.symm (by simp)
  | x :: xs, y :: ys, hx, hy, p, ak => by
    obtain ⟨h1, h2⟩ := List.pairwise_cons.mp hx
    obtain ⟨k1, k2⟩ := List.pairwise_cons.mp hy
    have my : y ∈ x :: xs := p.symm.subset List.mem_cons_self
    have mx : x ∈ y :: ys := p.subset List.mem_cons_self
    have e : x = y := by
      refine lt_tot (ak x List.mem_cons_self y my) ?_ ?_
      · rcases List.mem_cons.mp mx with e | m
        · rw [e]; exact lt_irr _
        · exact k1 x m
      · rcases List.mem_cons.mp my with e | m
        · rw [e]; exact lt_irr _
        · exact h1 y m
    subst e
    rw [up_perm h2 k2 (List.Perm.cons_inv p) fun a ma b mb => ak a (List.mem_cons_of_mem _ ma) b (List.mem_cons_of_mem _ mb)]
theorem lt_pair {b x y : Tr} (a : Ak x y) (h : lt x y = true) : lt (.t [b, x]) (.t [b, y]) = true := by
  have ne : PyData.eqv x.toD y.toD = false := by
    cases e : PyData.eqv x.toD y.toD with
    | false => rfl
    | true => rw [(eqv_iff x y).mp e, lt_irr] at h; cases h
  have k := (PySem.W.toks_eqv x.toD y.toD a).2 ne [.inl 0] [.inl 0]
  unfold lt at *
  have e : ∀ z : Tr, PySem.W.keyToksAll (toDs [b, z]) = (Sum.inl 1 :: (PySem.W.keyToks b.toD ++ [Sum.inl 1])) ++ (PySem.W.keyToks z.toD ++ [Sum.inl 0]) := fun z => by
    rw [toDs, toDs, toDs]
    simp [PySem.W.keyToksAll]
  rw [toD, toD, PySem.W.dataLt_tuple, e, e, PySem.W.lex_pre, k]
  exact h
theorem asc_pair {b : Tr} {us : List Tr} (h : Asc us) (a : ∀ x ∈ us, ∀ y ∈ us, Ak x y) : Asc (us.map fun z => .t [b, z]) := by
  refine List.pairwise_map.mpr ?_
  exact List.Pairwise.imp_of_mem (fun {x y} mx my l => lt_pair (a x mx y my) l) h
/-! how big -/
theorem szs_flat : ∀ {bag : List Tr}, (∀ t ∈ bag, ∃ m ws, t = trn m ws) → Th.szs (bag.map toTh) = 3 * bag.length + Th.szs ((bag.flatMap heldT).map toTh)
  | [], _ => rfl
  | x :: bag, h => by
    obtain ⟨m, ws, rfl⟩ := h x List.mem_cons_self
    rw [List.map_cons, Th.szs_cons, szs_flat fun t m => h t (List.mem_cons_of_mem _ m), trn_th, List.flatMap_cons, List.map_append, Th.szs_append, List.length_cons]
    rw [Th.sz_t, Th.szs_cons, Th.szs_cons, Th.szs_nil, Th.sz_i, Th.sz_t]
    show _ = 3 * (bag.length + 1) + (Th.szs (ws.map toTh) + _)
    omega
theorem sz_wor {n : Nat} {b : Tr} {bag : List Tr} (h : WL n (wor b bag)) : (wor b bag).toTh.sz ≤ 27 + Th.szs ((held (wor b bag)).map toTh) := by
  cases n with
  | zero => exact h.elim
  | succ n =>
    obtain ⟨b', bag', e0, hb, h7, ht⟩ := h
    obtain ⟨rfl, rfl⟩ := wor_inj e0
    rw [wor_th, held_wor, List.map_append, Th.szs_append, Th.sz_t, Th.szs_cons, Th.szs_cons, Th.szs_nil, Th.sz_t, szs_flat fun t m => by obtain ⟨m, ws, e, _⟩ := ht t m; exact ⟨m, ws, e⟩]
    have : b.toTh.sz ≤ 4 + Th.szs ((heldB b).map toTh) := by
      rcases hb with ⟨c, rfl⟩ | ⟨m, ws, rfl, _⟩
      · rw [base0_th, Th.sz_t, Th.szs_cons, Th.szs_cons, Th.szs_nil, Th.sz_i, Th.sz_i]; omega
      · rw [base1_th, Th.sz_t, Th.szs_cons, Th.szs_cons, Th.szs_cons, Th.szs_nil, Th.sz_i, Th.sz_i, Th.sz_t]
        show _ ≤ 4 + Th.szs (ws.map toTh)
        omega
    omega
theorem szs_nodes {n : Nat} : ∀ {ws : List Tr}, (∀ v ∈ ws, v.toTh.sz ≤ 27 * (nodes n v).length) → Th.szs (ws.map toTh) ≤ 27 * (ws.flatMap (nodes n)).length
  | [], _ => Nat.zero_le _
  | v :: ws, h => by
    have := h v List.mem_cons_self
    have := szs_nodes fun u m => h u (List.mem_cons_of_mem _ m)
    rw [List.map_cons, Th.szs_cons, List.flatMap_cons, List.length_append]
    omega
theorem sz_nodes : ∀ {n : Nat} {w : Tr}, WL n w → w.toTh.sz ≤ 27 * (nodes n w).length
  | 0, _, h => h.elim
  | n + 1, w, h => by
    obtain ⟨b, bag, rfl, _⟩ := id h
    have h1 := sz_wor h
    have h2 := szs_nodes (n := n) (ws := held (wor b bag)) fun v m => sz_nodes (h.held v m)
    show _ ≤ 27 * (((held (wor b bag)).flatMap (nodes n)).length + 1)
    omega
end Tr
end L2

set_option Elab.async false
set_option linter.all false
set_option maxRecDepth 100000
set_option maxHeartbeats 4000000
/-! All parts of a rising bag, by how often each turn stands in it. -/
namespace L2
open PySem PySem.Spec PyProof.Rows PySem.SeqAt
namespace Tr
def bstep (bag : List Tr) (L : List (List Tr)) (t : Tr) : List (List Tr) := L.flatMap fun p => (List.range (bag.count t + 1)).map fun j => p ++ List.replicate j t
/-- all parts of what stands among the first k, each once -/
structure Iv (bag : List Tr) (k : Nat) (L : List (List Tr)) : Prop where
  nd : L.Nodup
  mem : ∀ s, s ∈ L ↔ s.Sublist (bag.filter fun x => decide (x ∈ bag.take k))
theorem iv_zero (bag : List Tr) : Iv bag 0 [[]] := ⟨by simp, fun s => by
  rw [List.take_zero, show (bag.filter fun x => decide (x ∈ ([] : List Tr))) = [] from by simp]
  simp⟩
theorem iv_old {bag : List Tr} {k : Nat} {L : List (List Tr)} {t : Tr} (h : Iv bag k L) (hk : bag[k]? = some t) (m : t ∈ bag.take k) : Iv bag (k + 1) L := ⟨h.nd, fun s => by
  rw [h.mem s]
  have e : (fun x => decide (x ∈ bag.take (k + 1))) = fun x => decide (x ∈ bag.take k) := by
    funext x
    rw [List.take_add_one, hk]
    have : x ∈ bag.take k ++ (some t).toList ↔ x ∈ bag.take k := by
      constructor
      · intro z
        rcases List.mem_append.mp z with z | z
        · exact z
        · rw [Option.toList_some, List.mem_singleton] at z
          rw [z]; exact m
      · exact fun z => List.mem_append_left _ z
    simp only [this]
  rw [e]⟩
theorem fk {bag : List Tr} (up : Up bag) (ak : ∀ x ∈ bag, ∀ y ∈ bag, Ak x y) {k : Nat} {t : Tr} (hk : bag[k]? = some t) (nm : t ∉ bag.take k) :
    (bag.filter fun x => decide (x ∈ bag.take k)) = bag.take k ∧ (bag.filter fun x => decide (x ∈ bag.take (k + 1))) = bag.take k ++ List.replicate (bag.count t) t := by
  have il : k < bag.length := (List.getElem?_eq_some_iff.mp hk).1
  have e : bag = bag.take k ++ t :: bag.drop (k + 1) := by
    conv => lhs; rw [← List.take_append_drop k bag]
    rw [List.drop_eq_getElem_cons il]
    rw [List.getElem?_eq_getElem il] at hk
    rw [Option.some.inj hk]
  have e1 : bag.take (k + 1) = bag.take k ++ [t] := by rw [List.take_add_one, hk]; rfl
  have u2 : Up (bag.take k ++ t :: bag.drop (k + 1)) := by rw [← e]; exact up
  obtain ⟨_, u3, u4⟩ := List.pairwise_append.mp u2
  have sep : ∀ y ∈ t :: bag.drop (k + 1), y ∉ bag.take k := fun y my m => by
    rcases List.mem_cons.mp my with rfl | my'
    · exact nm m
    · have h1 := u4 y m t List.mem_cons_self
      have h2 := (List.pairwise_cons.mp u3).1 y my'
      have := lt_tot (ak y (List.mem_of_mem_take m) t (List.mem_of_getElem? hk)) h2 h1
      rw [this] at m
      exact nm m
  generalize hA : bag.take k = A at *
  generalize hB : bag.drop (k + 1) = B at *
  have cA : A.count t = 0 := List.count_eq_zero.mpr nm
  constructor
  · conv => lhs; rw [e]
    rw [List.filter_append, List.filter_eq_self.mpr fun a m => by simpa using m, List.filter_eq_nil_iff.mpr fun a m => by simpa using sep a m, List.append_nil]
  · rw [e1]
    conv => lhs; rw [e]
    rw [List.filter_append, List.filter_eq_self.mpr fun a m => by simpa using Or.inl m]
    congr 1
    have f : ∀ C : List Tr, (∀ y ∈ C, y ∉ A) → (C.filter fun x => decide (x ∈ A ++ [t])) = List.replicate (C.count t) t := fun C => by
      induction C with
      | nil => exact fun _ => rfl
      | cons c C ih =>
        intro h
        have hc := h c List.mem_cons_self
        have ih := ih fun y m => h y (List.mem_cons_of_mem _ m)
        by_cases z : c = t
        · subst z
          rw [List.filter_cons_of_pos (by simp), ih, List.count_cons_self, List.replicate_succ]
        · rw [List.filter_cons_of_neg (by simpa using ⟨hc, z⟩), ih, List.count_cons_of_ne z]
    rw [f _ sep]
    congr 1
    conv => rhs; rw [e]
    rw [List.count_append, cA, Nat.zero_add]
theorem iv_new {bag : List Tr} (up : Up bag) (ak : ∀ x ∈ bag, ∀ y ∈ bag, Ak x y) {k : Nat} {L : List (List Tr)} {t : Tr} (h : Iv bag k L) (hk : bag[k]? = some t) (nm : t ∉ bag.take k) : Iv bag (k + 1) (bstep bag L t) := by
  obtain ⟨f1, f2⟩ := fk up ak hk nm
  have hm : ∀ s, s ∈ L ↔ s.Sublist (bag.take k) := fun s => by rw [h.mem s, f1]
  have nt : ∀ p ∈ L, t ∉ p := fun p mp m => nm (((hm p).mp mp).subset m)
  refine ⟨?_, fun s => ?_⟩
  · unfold bstep
    refine List.pairwise_flatMap.mpr ⟨fun p mp => ?_, ?_⟩
    · refine List.pairwise_map.mpr (List.pairwise_lt_range.imp fun {i j} lt e => ?_)
      have := congrArg List.length e
      rw [List.length_append, List.length_append, List.length_replicate, List.length_replicate] at this
      omega
    · refine List.Pairwise.imp_of_mem (fun {p p'} mp mp' ne x hx y hy e => ?_) h.nd
      obtain ⟨i, _, rfl⟩ := List.mem_map.mp hx
      obtain ⟨j, _, rfl⟩ := List.mem_map.mp hy
      have g : ∀ (q : List Tr) (i : Nat), t ∉ q → ((q ++ List.replicate i t).filter fun z => decide (z ≠ t)) = q := fun q i nq => by
        rw [List.filter_append, (List.filter_eq_self (p := fun z => decide (z ≠ t))).mpr fun a m => decide_eq_true fun (z : a = t) => nq (z ▸ m), List.filter_eq_nil_iff.mpr fun a m => by simpa using (List.mem_replicate.mp m).2, List.append_nil]
      have := congrArg (List.filter fun z => decide (z ≠ t)) e
      rw [g p i (nt p mp), g p' j (nt p' mp')] at this
      exact ne this
  · rw [f2, List.sublist_append_iff]
    unfold bstep
    rw [List.mem_flatMap]
    constructor
    · rintro ⟨p, mp, m⟩
      obtain ⟨j, mj, rfl⟩ := List.mem_map.mp m
      exact ⟨p, List.replicate j t, rfl, (hm p).mp mp, List.sublist_replicate_iff.mpr ⟨j, by have := List.mem_range.mp mj; omega, rfl⟩⟩
    · rintro ⟨p, r, rfl, hp, hr⟩
      obtain ⟨j, hj, rfl⟩ := List.sublist_replicate_iff.mp hr
      exact ⟨p, (hm p).mpr hp, List.mem_map.mpr ⟨j, List.mem_range.mpr (by omega), rfl⟩⟩
theorem Iv.all {bag : List Tr} {L : List (List Tr)} (h : Iv bag bag.length L) (s : List Tr) : s ∈ L ↔ s.Sublist bag := by
  rw [h.mem s, List.take_length, List.filter_eq_self.mpr fun a m => by simpa using m]
theorem Iv.sub {bag : List Tr} {k : Nat} {L : List (List Tr)} (h : Iv bag k L) {s : List Tr} (m : s ∈ L) : s.Sublist bag := ((h.mem s).mp m).trans List.filter_sublist
theorem Iv.len {bag : List Tr} {k : Nat} {L : List (List Tr)} (h : Iv bag k L) (h7 : bag.length ≤ 7) : L.length ≤ 128 := by
  have nd : (L.map Tr.t).Nodup := List.pairwise_map.mpr (h.nd.imp fun {a b} ne e => ne (by injection e))
  have := asc_len (L := (subs bag).map Tr.t) nd fun z m => by
    obtain ⟨s, ms, rfl⟩ := List.mem_map.mp m
    exact List.mem_map.mpr ⟨s, subs_mem (h.sub ms), rfl⟩
  rw [List.length_map, List.length_map, subs_len] at this
  exact Nat.le_trans this (Nat.le_trans (Nat.pow_le_pow_right (by decide) h7) (by decide))
end Tr
end L2

set_option Elab.async false
set_option linter.all false
set_option maxRecDepth 100000
set_option maxHeartbeats 4000000
/-! Tuples of which also the object is known: their methods may be called. -/
namespace L2
open PySem PySem.Spec PyProof.Rows PySem.SeqAt
def Ex (H : Hp) (a : Addr) (xs : List V) : Prop := ∃ o : Obj, H a = some (.frz o (.tup xs)) ∧ o.dict = none
theorem Ex.sq {K : PySem.W.Frag} {H : Hp} {a : Addr} {xs : List V} (h : Ex H a xs) : SqT K H a xs := by
  obtain ⟨o, h, _⟩ := h
  exact .inl (.inr ⟨o, h⟩)
theorem Ex.kt {H H' : Hp} {a : Addr} {xs : List V} (k : Kt H H') (h : Ex H a xs) : Ex H' a xs := by
  obtain ⟨o, h, e⟩ := h
  exact ⟨o, k _ _ (fun xs z => by cases z) h, e⟩
section
variable {X : Cx}
/-- tuple(xs) of a list: the new tuple's object is known -/
def rTupX (K : PySem.W.Frag) : List V → Hp → VK → Prop := fun xs H Q => ∃ p ys, xs = [.ref p] ∧ ((SqL K H p ys ∧ ∀ (l : Addr) (o : Obj), H l = none → o.dict = none → Q (.ref l) (upd H l (.frz o (.tup ys)))) ∨ (SqT K H p ys ∧ Q (.ref p) H))
theorem call_tuple_ofX : CallR X (.type "tuple") (rTupX X.K) := by
  intro pins s σ H xs us Q I r h
  obtain ⟨p, ys, rfl, h⟩ := h
  obtain ⟨u, rfl, rx⟩ := vals1 r
  cases rx
  rcases h with ⟨hq, q⟩ | ⟨hq, q⟩
  · obtain ⟨its, r', pl, hz⟩ := I.list hq
    have hlen := r'.length
    refine call_tuple_list pl.isList (fun h' kp => ?_) (by simp only [List.size_toArray] <;> omega)
    have I1 : Inv X pins σ H { s with heap := h' } := I.kept (t' := s.toks) kp
    have I2 : Inv X pins σ (upd H h'.objs.size (.frz { cls := .type "tuple", data := .seq its.toArray } (.tup ys))) { s with heap := h'.push { cls := .type "tuple", data := .seq its.toArray } } :=
      I1.laid (t' := s.toks) (fun b o e => Heap.get?_push_of_some _ e) (Nat.le_refl _) ⟨Heap.get?_push_size _ rfl, hz, its, r', IsTup.new _ _⟩
    exact ⟨.ref h'.objs.size, _, I2, rfl, q _ _ (I1.hok.fresh (Nat.le_refl _)) rfl⟩
  · obtain ⟨its, r', pl, hz⟩ := I.tuple hq
    exact call_tuple_same pl ⟨.ref p, H, I, rfl, q⟩
/-- t.m(..), t such a tuple -/
def tBMX (r : V → List V → Hp → VK → Prop) (to : TE) (t : TA) : TE := fun σ H Q => to σ H fun x H1 => (∃ p xs, x = .ref p ∧ Ex H1 p xs) ∧ t σ H1 fun xs H2 => r x xs H2 Q
variable {o e : Expr} {es : List Expr} {to : TE} {t : TA} {name : Str} {apos cpos : Pos} {id : String} {r : V → List V → Hp → VK → Prop}
theorem pe_bmX (pa : PlainAttrs "tuple") (slot : Slot "tuple" name id) (hty : typeOf (.builtin id) = pure (.type "method_descriptor")) (hm : MtR X id r) (ho : PE X o to) (ha : PA X (e :: es) t)
    (hbase : attributeBase o name X.env (eval o X.env) = eval o X.env := by rfl)
    (hfew : ((backTo cpos (starEach (e :: es) X.env)).all (fun x => !x.1) && (backToKw cpos (keywordEach [] X.env)).all (fun x => x.1.isSome)
      && decide ((e :: es).length + ([] : List Keyword).length + (if ([] : List Keyword).isEmpty then 0 else 1) < 30)) = true := by rfl)
    (hline : (apos.endLine == cpos.line) = true := by rfl) (hs : starEach (e :: es) X.env = (false, eval e X.env) :: starEach es X.env := by rfl) (hplain : (backTo cpos (starEach es X.env)).any (·.1) = false := by rfl) :
    PE X (.Call (.Attribute o name apos) (e :: es) [] cpos) (tBMX r to t) := by
  refine ⟨fun pins s σ H Q I h => ?_⟩
  refine wpAny_Call_method_late hbase hfew hline rfl (thn (ho.run pins s σ H _ I h) fun v s1 ⟨x, H1, I1, r1, ⟨p, xs, ex, oe, hp, hd⟩, q1⟩ => ?_)
  have hh : s1.heap.get? p = some oe ∧ ObjOk X.prog X.w H1 s1.heap p (.tup xs) := I1.hok p _ hp
  obtain ⟨g, _, its, _, ⟨o2, g2, c2, _⟩⟩ := hh
  have h2 : v = .ref p := by subst ex; exact r1
  refine ⟨"tuple", id, pa, slot, hty, ?_, fun a ea => ?_, ?_⟩
  · subst h2; exact ⟨o2, g2, c2⟩
  · rw [h2] at ea
    cases ea
    exact ⟨oe, g, hd⟩
  have hA := ha.run cpos pins s1 σ H1 _ I1 q1
  rw [hs] at hA ⊢
  refine Calls.callWith_builtin (by show (false || (backTo cpos (starEach es X.env)).any (·.1)) = false; rw [hplain] <;> rfl) (Calls.evalArgs_plain ?_)
  exact thn hA fun us s2 ⟨vs, H2, I2, r2, q2⟩ => hm pins s2 σ H2 x vs v us Q I2 r1 r2 q2
end
/-- a worth whose bag is such a tuple, if there is a turn in it -/
def WorX (K : PySem.W.Frag) (H : Hp) (v : V) (w : Tr) : Prop := ∃ (a : Addr) (vb : V) (ga : Addr) (gvs : List V) (b : Tr) (bag : List Tr), v = .ref a ∧ SqT K H a [vb, .ref ga] ∧ At K H vb b ∧ SqT K H ga gvs ∧ Ats K H gvs bag ∧ w = Tr.wor b bag ∧ (bag = [] ∨ Ex H ga gvs)
theorem WorX.at {K : PySem.W.Frag} {H : Hp} {v : V} {w : Tr} (h : WorX K H v w) : At K H v w := by
  obtain ⟨a, vb, ga, gvs, b, bag, rfl, h1, h2, h3, h4, rfl, _⟩ := h
  exact at_tup h1 (.cons h2 (.cons (at_tup h3 h4) .nil))
theorem WorX.kt {K : PySem.W.Frag} {H H' : Hp} {v : V} {w : Tr} (h : WorX K H v w) (k : Kt H H') : WorX K H' v w := by
  obtain ⟨a, vb, ga, gvs, b, bag, rfl, h1, h2, h3, h4, rfl, h5⟩ := h
  exact ⟨a, vb, ga, gvs, b, bag, rfl, h1.kt k, h2.kt k, h3.kt k, Ats.kt k h4, rfl, h5.imp id fun z => z.kt k⟩
theorem WorX.of {K : PySem.W.Frag} {H : Hp} {v : V} {b : Tr} (h : At K H v (Tr.wor b [])) : WorX K H v (Tr.wor b []) := by
  obtain ⟨a, vs, rfl, h1, h2⟩ := tup_at h
  cases h2 with
  | cons h2 h3 =>
  cases h3 with
  | cons h3 h4 =>
  cases h4
  obtain ⟨ga, gvs, rfl, h5, h6⟩ := tup_at h3
  exact ⟨a, _, ga, gvs, b, [], rfl, h1, h2, h5, h6, rfl, .inl rfl⟩
end L2

set_option Elab.async false
set_option linter.all false
set_option maxRecDepth 100000
set_option maxHeartbeats 4000000
namespace K04
open PySem L2
def top (i : Nat) : Stmt := PySem.Challenge.pw_knownguards_k04_whole_worths_made_and_to.main.body.getD i (.Pass ⟨0, 0, 0, 0⟩)
abbrev sWhole : Stmt := top 1
abbrev sIsWorth : Stmt := top 6
abbrev sForm : Stmt := top 7
abbrev sBase : Stmt := top 8
abbrev sTurn : Stmt := top 9
abbrev sAscend : Stmt := top 10
abbrev sBegun : Stmt := top 11
abbrev sMade : Stmt := top 12
abbrev sAdded : Stmt := top 13
abbrev sParts : Stmt := top 14
abbrev sHeld : Stmt := top 15
abbrev sOnce : Stmt := top 16
abbrev sBags : Stmt := top 17
abbrev sText : Stmt := top 18
abbrev sCall : Stmt := top 19
abbrev sHand : Stmt := top 21
abbrev sMixed : Stmt := top 22
abbrev sTake : Stmt := top 23
abbrev sIsW : Stmt := top 24
abbrev sExact : Stmt := top 25
abbrev sGiven : Stmt := top 26
abbrev sPool : Stmt := top 27
abbrev sPick : Stmt := top 28
abbrev sName : Stmt := top 29
abbrev sPicks : Stmt := top 30
abbrev sTurned : Stmt := top 31
abbrev sUnlike : Stmt := top 32
abbrev sPartsD : Stmt := top 33
abbrev sBagsD : Stmt := top 34
abbrev sCallD : Stmt := top 35
abbrev sTextD : Stmt := top 36
abbrev sMadeT : Stmt := top 37
abbrev sAddedT : Stmt := top 38
abbrev sGrown : Stmt := top 39
abbrev sBadBase : Stmt := top 40
abbrev sBadBag : Stmt := top 41
abbrev sNoWorth : Stmt := top 42
abbrev sWithin : Stmt := top 43
abbrev sRight : Stmt := top 44
abbrev sChain : Stmt := top 45
abbrev sDeep : Stmt := top 46
abbrev sLaw : Stmt := top 47
/-! what of the names the top leaves as they are -/
structure Bt (mg : Str → Option Value) : Prop where
  len : mg "len" = none
  int : mg "int" = none
  abs : mg "abs" = none
  bool : mg "bool" = none
  str : mg "str" = none
  list : mg "list" = none
  tuple : mg "tuple" = none
  range : mg "range" = none
  isi : mg "isinstance" = none
  sorted : mg "sorted" = none
  sum : mg "sum" = none
  all : mg "all" = none
  enum : mg "enumerate" = none
  zip : mg "zip" = none
  cell : ∃ t, mg "HIGHEST_CELL" = some (.int 2 t)
  name : ∃ t, mg "HIGHEST_NAME" = some (.int 99 t)
  most : ∃ t, mg "MOST_POCKETS" = some (.int 4 t)
/-! ### the hand -/
def But (p : Addr) (H H' : Hp) : Prop := ∀ b o, b ≠ p → H b = some o → H' b = some o
theorem But.trans {p : Addr} {H H1 H2 : Hp} (a : But p H H1) (b : But p H1 H2) : But p H H2 := fun c o n e => b c o n (a c o n e)
theorem But.refl (p : Addr) (H : Hp) : But p H H := fun _ _ _ e => e
theorem But.of {p : Addr} {H H' : Hp} (s : Same H H') : But p H H' := fun b o _ e => s b o e
structure HandS (H : Hp) (p c : Addr) (cs : List Int) (i big tot : Int) : Prop where
  hp : H p = some (.lst [.ref c, .int i, .int big, .int tot])
  hc : H c = some (.lst (cs.map V.int))
  nn : ∀ z ∈ cs, 0 ≤ z
  ln : cs.length ≤ 63
  b0 : 0 ≤ big
  i0 : 0 ≤ i
def HandAt (H : Hp) (p c : Addr) : Prop := ∃ cs i big tot, HandS H p c cs i big tot
theorem HandS.ne {H : Hp} {p c : Addr} {cs : List Int} {i big tot : Int} (h : HandS H p c cs i big tot) : c ≠ p := fun e => by
  have h1 := h.hc
  rw [e, h.hp] at h1
  have h2 := HO.lst.inj (Option.some.inj h1)
  cases cs with
  | nil => cases h2
  | cons a r =>
    rw [List.map_cons] at h2
    cases (List.cons.inj h2).1
theorem HandS.put {H : Hp} {p c : Addr} {cs : List Int} {i j big b2 tot t2 : Int} (h : HandS H p c cs i big tot) (hb : 0 ≤ b2) (hj : 0 ≤ j) : HandS (upd H p (.lst [.ref c, .int j, .int b2, .int t2])) p c cs j b2 t2 :=
  ⟨upd_same, by rw [upd_ne h.ne]; exact h.hc, h.nn, h.ln, hb, hj⟩
theorem But.upd {H : Hp} {p : Addr} {o : HO} : But p H (upd H p o) := fun b u n e => by rw [upd_ne n]; exact e
theorem HandAt.same {H H' : Hp} {p c : Addr} (h : HandAt H p c) (s : Same H H') : HandAt H' p c := by
  obtain ⟨cs, i, big, tot, h⟩ := h
  exact ⟨cs, i, big, tot, s _ _ h.hp, s _ _ h.hc, h.nn, h.ln, h.b0, h.i0⟩
/-! ### promises -/
def spHand (K : PySem.W.Frag) : Sp := fun vs H Q _ => ∃ (a : Addr) (ns : List Int), vs = [.ref a] ∧ SqL K H a (ns.map V.int) ∧ ns.length ≤ 63 ∧ ∀ p c H', HandAt H' p c → H p = none → Same H H' → Q (.ref p) H'
def spMixed : Sp := fun vs H Q _ => ∃ (a b : Int), vs = [.int a, .int b] ∧ ∀ r : Int, Q (.int r) H
def spTake : Sp := fun vs H Q _ => ∃ (p c : Addr) (m : Int), vs = [.ref p, .int m] ∧ 0 < m ∧ m < 2 ^ 64 ∧ HandAt H p c ∧ ∀ (r : Int) H', 0 ≤ r → r < m → HandAt H' p c → But p H H' → Q (.int r) H'
section
variable {P : Program} {w : World} {K : PySem.W.Frag} {mg : Str → Option Value} {base : Heap}
theorem take_abs {ns : List Int} {i : Nat} {z : Int} (h : ns[i]? = some z) : ((ns.take (i + 1)).map fun x : Int => if x < 0 then -x else x) = ((ns.take i).map fun x : Int => if x < 0 then -x else x) ++ [if z < 0 then -z else z] := by
  rw [List.take_add_one, h]
  simp
theorem item_int {ns : List Int} {i : Nat} {y : V} (hi : (ns.map V.int)[i]? = some y) : ∃ z, ns[i]? = some z ∧ y = V.int z := by
  rw [List.getElem?_map] at hi
  cases e : ns[i]? with
  | none => rw [e] at hi; cases hi
  | some z => rw [e] at hi; exact ⟨z, rfl, (Option.some.inj hi).symm⟩
end



set_option Elab.async false
set_option linter.all false
set_option maxRecDepth 100000
set_option maxHeartbeats 4000000
open PySem L2
local macro_rules | `(tactic| walk_at "rd") => `(tactic| simp only [L2.start, tSeq, tAsg, gName, tRet, tRetN, tVar, tC, tOp, tUn, rU, tCB, tCons, tNil, tNext, tIfS, tTest, tB, tNot, tNotV, tAnd, tOr, tAndV, tOrV, tIf, tDrop, rI0, rI, CMul, CDiv, CPow, tLst, tTup, tCal, tCall, gSub, rIsi, rIsiT, tOxf, rIn, tFor_eq, tLc_eq, tYes, wipe, tSl, tNoPart, tPart, rSlA, iTup, iList, iRng1, iRng2, tDNewK, tCallN, rEq_int, rEq_str, rEq_bl, rNe_int, rNe_str, rNe_bl, atI_0, atI_1, atI_2, atI_3, cxOf_K, nox_K, upd_upd, List.length_map, rIxL, rIxT, tBM, tBM0, rAppend, gTup, gCons, gNil, tLc2_eq, StX.tStar, iEnum, iEnT, RZ.iZipA, rTupX, tBMX, rIsB, rNotB,
  List.length_cons, List.length_nil, List.replicate, List.map_cons, List.map_nil, List.cons_append, List.nil_append, List.getElem?_cons_zero, List.getElem?_cons_succ, List.set_cons_zero, List.set_cons_succ,
  Option.some.injEq, V.int.injEq, V.bl.injEq, V.ref.injEq, V.str.injEq, V.ty.injEq, exists_eq_left', exists_eq_left, exists_and_left, exists_eq', and_assoc, List.cons.injEq, and_true, true_and, List.cons_ne_nil, and_false, or_false, false_or, false_and, exists_false, reduceCtorEq,
  Nat.sub_zero, Nat.zero_add, Nat.reduceAdd, Nat.reduceSub, Nat.add_zero, Bool.not_eq_true', decide_eq_true_eq, decide_eq_false_iff_not, Bool.not_true, Bool.not_false, Bool.false_eq_true, if_true, if_false, ite_true, ite_false, Int.reduceNeg, Int.reducePow, Int.reduceLT, Int.reduceLE, or_true, true_or])
local macro_rules | `(tactic| walk_at "at") => `(tactic| first | assumption | exact upd_same | (rw [upd_ne (by assumption)]; first | assumption | exact upd_same))
local macro_rules | `(tactic| walk_at "lk") => `(tactic| first
  | refine ⟨_, SqL.of (by walk_at "at"), ?_⟩
  | refine ⟨_, SqT.of (by walk_at "at"), ?_⟩
  | refine ⟨_, Or.inl (SqL.of (by walk_at "at")), ?_⟩
  | refine ⟨_, Or.inr (SqT.of (by walk_at "at")), ?_⟩
  | refine set_0 (by walk_at "at") ?_ | refine set_1 (by walk_at "at") ?_ | refine set_2 (by walk_at "at") ?_ | refine set_3 (by walk_at "at") ?_)
local macro_rules | `(tactic| walk_at "go") => `(tactic| repeat (first | walk_at "lk" | walk_at "rd"))

section
variable {P : Program} {w : World} {K : PySem.W.Frag} {mg : Str → Option Value} {base : Heap}
theorem scMixed : FnScope ["_law_number", "_law_turn", "_law_once", "_law_twice"] ["_law_number", "_law_turn"] (defScope sMixed) := ⟨rfl, rfl, rfl, by decide +kernel, rfl, by decide +kernel, by decide +kernel⟩
theorem ok_mixed (D : DefAt K mg "_law_mixed" sMixed) (B : Bt mg) : Cal P w K mg base CX0 1 "_law_mixed" ["_law_number", "_law_turn"] spMixed := by
  refine D.cal (fun _ _ _ _ _ _ us hl => match us, hl with | [_, _], _ => rfl) fun f fd F => ?_
  refine F.ok scMixed (fun vs H Q E h => ?_) (fun cdv A outer s H vs Q E hr h => ?_)
  · obtain ⟨a, b, rfl, _⟩ := h
    rfl
  · obtain ⟨a, b, rfl, k⟩ := h
    refine ⟨_, (pss_cons (ps_set (i := 2) scMixed.nd rfl (Or.inl rfl) (pe_op op_mod (pe_callTy call_int1 (by rfl) B.int (by decide +kernel) (pa_cons (pe_op op_add (pe_op op_add (pe_op op_mul (pv 0) pe_int) (pe_op op_mul (pv 1) pe_int)) pe_int) pa_nil)) pe_int))
  (pss_cons (ps_set (i := 3) scMixed.nd rfl (Or.inl rfl) (pe_op op_mod (pe_callTy call_int1 (by rfl) B.int (by decide +kernel) (pa_cons (pe_op op_add (pe_op op_add (pe_op op_mul (pv 2) (pv 2)) (pe_op op_mul (pv 1) pe_int)) (pe_op op_fdiv (pv 2) pe_int)) pa_nil)) pe_int))
  (pss_one (ps_ret (pe_op op_fdiv (pe_callTy call_int1 (by rfl) B.int (by decide +kernel) (pa_cons (pe_op op_mod (pe_callTy call_int1 (by rfl) B.int (by decide +kernel) (pa_cons (pe_op op_add (pe_op op_mul (pv 3) pe_int) (pe_op op_fdiv (pv 2) pe_int)) pa_nil)) pe_int) pa_nil)) pe_int))))), ?_⟩
    walk_at "rd"
    exact ⟨by omega, k _⟩
theorem scHand : FnScope ["_law_script", "_law_total", "_law_cells", "_law_cell"] ["_law_script"] (defScope sHand) := ⟨rfl, rfl, rfl, by decide +kernel, rfl, by decide +kernel, by decide +kernel⟩
theorem ok_hand (D : DefAt K mg "_law_hand" sHand) (B : Bt mg) : Cal P w K mg base CX0 1 "_law_hand" ["_law_script"] (spHand K) := by
  refine D.cal (fun _ _ _ _ _ _ us hl => match us, hl with | [_], _ => rfl) fun f fd F => ?_
  refine F.ok scHand (fun vs H Q E h => ?_) (fun cdv A outer s H vs Q E hr h => ?_)
  · obtain ⟨a, ns, rfl, _⟩ := h
    rfl
  · obtain ⟨a, ns, rfl, hS, hlen, k⟩ := h
    refine ⟨_, (pss_cons (ps_set (i := 1) scHand.nd rfl (Or.inl rfl) (pe_op op_add (pe_callB call_len_seq (by rfl) B.len PySem.boot_len (pa_cons (pv 0) pa_nil)) pe_int))
  (pss_cons (ps_set (i := 2) scHand.nd rfl (Or.inl rfl) (pe_lst pa_nil))
  (pss_cons (ps_for PassesOwn.never rfl (pi_list (pv 0)) (pg_name (i := 3) scHand.nd rfl (Or.inl rfl)) (pss_cons (ps_set (i := 1) scHand.nd rfl (Or.inl rfl) (pe_op op_mod (pe_callTy call_int1 (by rfl) B.int (by decide +kernel) (pa_cons (pe_op op_add (pe_op op_mul (pv 1) pe_int) (pe_callTy call_int1 (by rfl) B.int (by decide +kernel) (pa_cons (pv 3) pa_nil))) pa_nil)) pe_int))
  (pss_one (ps_expr (pe_bm PySem.F.plainAttrs_list PySem.F.slot_list_append PySem.F.type_list_append mt_append (pv 2) (pa_cons (pe_callB call_abs (by rfl) B.abs (by decide +kernel) (pa_cons (pe_callTy call_int1 (by rfl) B.int (by decide +kernel) (pa_cons (pv 3) pa_nil)) pa_nil)) pa_nil))))))
  (pss_one (ps_ret (pe_lst (pa_cons (pv 2) (pa_cons pe_int (pa_cons pe_int (pa_cons (pv 1) pa_nil)))))))))), ?_⟩
    walk_at "rd"
    refine ⟨_, .inl hS, Nat.zero_le _, fun c hc => ?_⟩
    have sc : Same H (upd H c (.lst [])) := fun b o e => by rw [upd_ne (ne_of_none e hc)]; exact e
    walk_at "rd"
    refine ⟨⟨_, sc.seq hS⟩, for_list (K := K) (a := a) (xs := ns.map V.int) (fun i σ H2 => ∃ (t : Int) (v : Option V), σ = [some (.ref a), some (.int t), some (.ref c), v] ∧ Same H H2 ∧ H2 c = some (.lst (((ns.take i).map fun x : Int => if x < 0 then -x else x).map V.int)))
      ⟨_, none, rfl, sc, upd_same⟩ (fun i σ H2 _ ⟨_, _, _, s2, _⟩ => s2.seq hS) ?_ ?_⟩
    · rintro i y σ H2 hi ⟨t, v, rfl, s2, h2⟩
      obtain ⟨z, hz, rfl⟩ := item_int hi
      have hil : i < ns.length := (List.getElem?_eq_some_iff.mp hz).1
      walk_at "rd"
      refine ⟨.inl ⟨rfl, _, SqL.of h2⟩, _, h2, ?_, fun b o e => ?_, ?_⟩
      · rw [List.length_map, List.length_map, List.length_take]
        exact Nat.lt_of_le_of_lt (show min i ns.length ≤ 63 by omega) (by decide)
      · rw [upd_ne (ne_of_none e hc)]
        exact s2 b o e
      · rw [upd_same, take_abs hz, List.map_append]
        rfl
    · rintro σ H2 ⟨t, v, rfl, s2, h2⟩
      walk_at "rd"
      refine ⟨by decide, fun p hp => ?_⟩
      have sp : Same H (upd H2 p (.lst [.ref c, .int 0, .int 0, .int t])) := fun b o e => by rw [upd_ne (ne_of_none (s2 b o e) hp)]; exact s2 b o e
      refine k p c _ ⟨_, 0, 0, t, upd_same, by rw [upd_ne (ne_of_none h2 hp)]; exact h2, ?_, ?_, Int.le_refl 0, Int.le_refl 0⟩ (s2.free hp) sp
      · intro z hz
        obtain ⟨x, _, rfl⟩ := List.mem_map.mp hz
        split <;> omega
      · rw [List.length_map, List.length_take]
        omega
theorem scTake : FnScope ["_law_hand_here", "_law_many", "_law_cell", "_law_rest"] ["_law_hand_here", "_law_many"] (defScope sTake) := ⟨rfl, rfl, rfl, by decide +kernel, rfl, by decide +kernel, by decide +kernel⟩
theorem ok_take (D : DefAt K mg "_law_take" sTake) (B : Bt mg) (C_mixed : Cal P w K mg base CX0 1 "_law_mixed" ["_law_number", "_law_turn"] spMixed) : Cal P w K mg base CX0 2 "_law_take" ["_law_hand_here", "_law_many"] spTake := by
  refine D.cal (fun _ _ _ _ _ _ us hl => match us, hl with | [_, _], _ => rfl) fun f fd F => ?_
  refine F.ok scTake (fun vs H Q E h => ?_) (fun cdv A outer s H vs Q E HR h => ?_)
  · obtain ⟨p, c, m, rfl, _⟩ := h
    rfl
  · obtain ⟨p, c, m, rfl, m0, m1, ⟨cs, i, big, tot, hh⟩, k⟩ := h
    refine ⟨_, (pss_cons (ps_if (PW.pt (pw_and (pt_cmpR op_eq (pe_ix ix_list (pv 0) pe_int (fun _ _ => rfl)) pe_int (nomark _)) (pw_and1 (pt_cmpR op_lt (pe_ix ix_list (pv 0) pe_int (fun _ _ => rfl)) (pe_callB call_len_seq (by rfl) B.len PySem.boot_len (pa_cons (pe_ix ix_list (pv 0) pe_int (fun _ _ => rfl)) pa_nil)) (nomark _))))) (pss_cons (ps_set (i := 2) scTake.nd rfl (Or.inl rfl) (pe_ix ix_list (pe_ix ix_list (pv 0) pe_int (fun _ _ => rfl)) (pe_ix ix_list (pv 0) pe_int (fun _ _ => rfl)) (fun _ _ => rfl)))
  (pss_cons (ps_asg (pe_op op_add (pe_ix ix_list (pv 0) pe_int (fun _ _ => rfl)) pe_int) (pg_sub (pv 0) pe_int set_list))
  (pss_cons (ps_if (pt_cmpR op_lt (pv 2) (pe_op op_pow pe_int pe_int) (nomark _)) (pss_one (ps_ret (pe_op op_mod (pe_callTy call_int1 (by rfl) B.int (by decide +kernel) (pa_cons (pe_cal C_mixed (by rfl) HR pass0 (pa_cons (pe_op op_mod (pe_callTy call_int1 (by rfl) B.int (by decide +kernel) (pa_cons (pv 2) pa_nil)) pe_int) (pa_cons (pe_ix ix_list (pv 0) pe_int (fun _ _ => rfl)) pa_nil))) pa_nil)) (pv 1)))) pss_nil)
  (pss_one (ps_asg (pv 2) (pg_sub (pv 0) pe_int set_list)))))) pss_nil)
  (pss_cons (ps_if (pt_cmpR op_gt (pe_ix ix_list (pv 0) pe_int (fun _ _ => rfl)) pe_int (nomark _)) (pss_cons (ps_set (i := 3) scTake.nd rfl (Or.inl rfl) (pe_ix ix_list (pv 0) pe_int (fun _ _ => rfl)))
  (pss_cons (ps_asg (pe_op op_fdivW (pe_callTy call_int1 (by rfl) B.int (by decide +kernel) (pa_cons (pv 3) pa_nil)) (pv 1)) (pg_sub (pv 0) pe_int set_list))
  (pss_one (ps_ret (pe_op op_mod (pe_callTy call_int1 (by rfl) B.int (by decide +kernel) (pa_cons (pv 3) pa_nil)) (pv 1)))))) pss_nil)
  (pss_cons (ps_asg (pe_op op_mod (pe_callTy call_int1 (by rfl) B.int (by decide +kernel) (pa_cons (pe_op op_add (pe_ix ix_list (pv 0) pe_int (fun _ _ => rfl)) pe_int) pa_nil)) pe_int) (pg_sub (pv 0) pe_int set_list))
  (pss_one (ps_ret (pe_op op_mod (pe_callTy call_int1 (by rfl) B.int (by decide +kernel) (pa_cons (pe_cal C_mixed (by rfl) HR pass0 (pa_cons (pe_ix ix_list (pv 0) pe_int (fun _ _ => rfl)) (pa_cons (pe_ix ix_list (pv 0) pe_int (fun _ _ => rfl)) pa_nil))) pa_nil)) (pv 1))))))), ?_⟩
    have hp := hh.hp
    have hc := hh.hc
    walk_at "go"
    have i0 := hh.i0
    have fin : ∀ (r i' b' t' : Int), 0 ≤ i' → 0 ≤ b' → Q (.int (r % m)) (upd H p (.lst [.ref c, .int i', .int b', .int t'])) := fun r i' b' t' h1 h2 =>
      k _ _ (Int.emod_nonneg _ (by omega)) (Int.emod_lt_of_pos _ m0) ⟨cs, _, _, _, hh.put h2 h1⟩ But.upd
    have mx : ∀ (a b : Int) (H' : Hp) (Q' : VK), (∀ r : Int, Q' (.int r) H') → spMixed [.int a, .int b] H' Q' E0 := fun a b H' Q' q => ⟨a, b, rfl, q⟩
    have wd : ∀ z : Int, CDivW z m := fun z => wide_div m0 (b := 64) (by have : ((m.natAbs : Nat) : Int) < 2 ^ 64 := by omega
                                                                         exact_mod_cast this) (by decide) (by decide)
    have end2 : ∀ (i' b' : Int), 0 ≤ i' → 0 ≤ b' → True := fun _ _ _ _ => trivial
    by_cases hb : big = 0
    · rw [if_pos hb]
      subst hb
      walk_at "go"
      by_cases hi : i < cs.length
      · rw [if_pos (by omega)]
        obtain ⟨z, hz⟩ : ∃ z, cs[i.toNat]? = some z := ⟨_, List.getElem?_eq_getElem (by omega)⟩
        have z0 : 0 ≤ z := hh.nn z (List.mem_of_getElem? hz)
        have hzz : atI (cs.map V.int) i = some (.int z) := atI_int i0 (by rw [List.getElem?_map, hz]; rfl)
        walk_at "go"
        refine ⟨_, hzz, ?_⟩
        walk_at "go"
        refine ⟨by decide, ?_⟩
        refine ite2 (fun _ => ?_) (fun _ => ?_)
        · walk_at "go"
          exact mx _ _ _ _ (fun r => .inl ⟨r, rfl, m0, fin _ _ _ _ (by omega) (Int.le_refl 0)⟩)
        · walk_at "go"
          refine ite2 (fun _ => ?_) (fun _ => ?_)
          · walk_at "go"
            refine ⟨wd _, ?_⟩
            walk_at "go"
            exact ⟨m0, fin _ _ _ _ (by omega) (Int.ediv_nonneg z0 (by omega))⟩
          · walk_at "go"
            exact mx _ _ _ _ (fun r => .inl ⟨r, rfl, m0, fin _ _ _ _ (by omega) z0⟩)
      · rw [if_neg (by omega)]
        walk_at "go"
        exact mx _ _ _ _ (fun r => .inl ⟨r, rfl, m0, fin _ _ _ _ i0 (Int.le_refl 0)⟩)
    · have b0 := hh.b0
      rw [if_neg hb]
      walk_at "go"
      refine ite2 (fun _ => ?_) (fun _ => ?_)
      · walk_at "go"
        refine ⟨wd _, ?_⟩
        walk_at "go"
        exact ⟨m0, fin _ _ _ _ i0 (Int.ediv_nonneg b0 (by omega))⟩
      · walk_at "go"
        exact mx _ _ _ _ (fun r => .inl ⟨r, rfl, m0, fin _ _ _ _ i0 b0⟩)
end


set_option Elab.async false
set_option linter.all false
set_option maxRecDepth 100000
set_option maxHeartbeats 4000000
open PySem L2


theorem Room.u70 {k : Nat} {A : Around} (r : L2.Room k A) : A.units + 200 < cLine := by have := r.un; omega
theorem same_new {H : Hp} {p : Addr} {o : HO} (n : H p = none) : Same H (upd H p o) := fun b u e => by rw [upd_ne (ne_of_none e n)]; exact e
theorem seq_same {K : PySem.W.Frag} {H H' : Hp} {a : Addr} {ws : List V} (s : Same H H') (h : SqL K H a ws ∨ SqT K H a ws) : SqL K H' a ws ∨ SqT K H' a ws := h.imp (fun h => s.seq h) fun h => h.kt (Kt.same s)
theorem atI_last {α : Type} (f : List α) (l : α) : atI (f ++ [l]) (-1) = some l := by
  unfold atI ixN
  rw [if_neg (by omega), if_pos (by rw [List.length_append]; simp; omega)]
  rw [show ((-1 : Int) + ((f ++ [l]).length : Nat)).toNat = f.length by rw [List.length_append]; simp; omega]
  show (f ++ [l])[f.length]? = some l
  simp
theorem asc_add {us : List Tr} {x : Tr} (h : Tr.Asc us) (k : ∀ u ∈ us, Tr.lt u x = true) : Tr.Asc (us ++ [x]) := List.pairwise_append.mpr ⟨h, List.pairwise_singleton _ _, fun a m b mb => by rw [List.mem_singleton.mp mb]; exact k a m⟩
/-- a list of trees at p -/
def LsAt (K : PySem.W.Frag) (H : Hp) (p : Addr) (xs : List Tr) : Prop := ∃ vs, H p = some (.lst vs) ∧ Ats K H vs xs
def spOnce (K : PySem.W.Frag) : Sp := fun vs H Q _ => ∃ v xs, vs = [v] ∧ Seq2 K H v xs ∧ (∀ x ∈ xs, ∀ y ∈ xs, Tr.Ak x y) ∧ SortOk (xs.map Tr.toD) ∧ (∀ x ∈ xs, x.dep ≤ 190) ∧ xs.length ≤ sizeLine ∧
  ∀ p us H', Same H H' → H p = none → LsAt K H' p us → Tr.Asc us → (∀ z, z ∈ us ↔ z ∈ xs) → Q (.ref p) H'
structure On (K : PySem.W.Frag) (H : Hp) (a p sp : Addr) (ys : List V) (us : List Tr) (i : Nat) (σ : St) (H2 : Hp) : Prop where
  ex : ∃ us' vs' t, σ = [some (.ref a), some (.ref p), t] ∧ Same H H2 ∧ H2 sp = some (.lst ys) ∧ Ats K H2 ys us ∧ H2 p = some (.lst vs') ∧ Ats K H2 vs' us' ∧ Tr.Asc us' ∧ us'.length ≤ i ∧ ∀ z, z ∈ us' ↔ z ∈ us.take i
theorem Ats.split {K : PySem.W.Frag} {H : Hp} : ∀ {vf : List V} {vl : V} {xs : List Tr}, Ats K H (vf ++ [vl]) xs → ∃ uf ul, xs = uf ++ [ul] ∧ Ats K H vf uf ∧ At K H vl ul
  | [], vl, _, .cons a .nil => ⟨[], _, rfl, .nil, a⟩
  | v :: vf, vl, _, .cons a t => by
    obtain ⟨uf, ul, rfl, h1, h2⟩ := Ats.split t
    exact ⟨_ :: uf, ul, rfl, .cons a h1, h2⟩
section
variable {P : Program} {w : World} {K : PySem.W.Frag} {mg : Str → Option Value} {base : Heap}
theorem scOnce : FnScope ["things", "unlike", "thing"] ["things"] (defScope sOnce) := ⟨rfl, rfl, rfl, by decide +kernel, rfl, by decide +kernel, by decide +kernel⟩
theorem ok_once (D : DefAt K mg "each_once" sOnce) (B : Bt mg) : Cal P w K mg base CX0 1 "each_once" ["things"] (spOnce K) := by
  refine D.cal (fun _ _ _ _ _ _ us hl => match us, hl with | [_], _ => rfl) fun f fd F => ?_
  refine F.ok scOnce (fun vs H Q E h => ?_) (fun cdv A outer s H vs Q E HR h => ?_)
  · obtain ⟨v, xs, rfl, _⟩ := h
    rfl
  · obtain ⟨v, xs, rfl, ⟨a, ws, rfl, hs, hA⟩, ak, so, dp, hz, k⟩ := h
    refine ⟨_, (pss_cons (ps_set (i := 1) scOnce.nd rfl (Or.inl rfl) (pe_lst pa_nil))
  (pss_cons (ps_for PassesOwn.never rfl (pi_list (pe_callB (cr_sortD (Room.u70 HR)) (by rfl) B.sorted (by decide +kernel) (pa_cons (pv 0) pa_nil))) (pg_name (i := 2) scOnce.nd rfl (Or.inl rfl)) (pss_one (ps_if (PW.pt (pw_or (pt_not (pt_truth (pv 1) (by intro _; rfl))) (pw_or1 (pt_cmpR (op_neT (Room.u70 HR)) (pe_ix ix_list (pv 1) (pe_un un_neg pe_int) (fun _ _ => rfl)) (pv 2) (nomark _))))) (pss_one (ps_expr (pe_bm PySem.F.plainAttrs_list PySem.F.slot_list_append PySem.F.type_list_append mt_append (pv 1) (pa_cons (pv 2) pa_nil)))) pss_nil)))
  (pss_one (ps_ret (pv 1))))), ?_⟩
    walk_at "go"
    refine ⟨Nat.zero_le _, fun p np => ⟨a, ws, xs, rfl, seq_same (same_new np) hs, hA.kt (Kt.new np), ak, so, dp, fun sp us ys ns pr pw hy => ?_⟩⟩
    have ms : ∀ z, z ∈ us ↔ z ∈ xs := fun z => pr.mem_iff
    have hsp : sp ≠ p := fun e => by rw [e, upd_same] at ns; cases ns
    have nsp : H sp = none := by rw [upd_ne hsp] at ns; exact ns
    walk_at "go"
    refine ⟨⟨_, SqL.of upd_same⟩, for_list (K := K) (a := sp) (xs := ys) (On K H a p sp ys us) ⟨[], [], none, rfl, ?_, upd_same, hy.kt (Kt.new ns), ?_, .nil, .nil, Nat.le_refl _, fun z => by simp⟩ ?_ ?_ ?_⟩
    · exact fun b o e => by rw [upd_ne (ne_of_none e nsp), upd_ne (ne_of_none e np)]; exact e
    · rw [upd_ne (Ne.symm hsp)]; exact upd_same
    · rintro i σ H2 _ ⟨_, _, _, _, _, h2, _⟩
      exact SqL.of h2
    · rintro i y σ H2 hi ⟨us', vs', t, rfl, s2, h2, hy2, hp2, hv, asc, hl, mem⟩
      obtain ⟨x, hx, ax⟩ := hy2.get hi
      have il : i < us.length := (List.getElem?_eq_some_iff.mp hx).1
      have ul : us.length ≤ sizeLine := by rw [pr.length_eq]; exact hz
      have tk : us.take (i + 1) = us.take i ++ [x] := by rw [List.take_add_one, hx]; rfl
      have memx : ∀ u ∈ us', Tr.Ak u x ∧ Tr.lt x u = false := fun u m => by
        have m2 := (mem u).mp m
        refine ⟨ak u ((ms u).mp (List.mem_of_mem_take m2)) x ((ms x).mp (List.mem_of_getElem? hx)), ?_⟩
        have q := List.pairwise_append.mp (by rw [List.take_append_drop]; exact pw : ((us.take i) ++ (us.drop i)).Pairwise _)
        exact q.2.2 u m2 x (by rw [List.drop_eq_getElem_cons il]; rw [List.getElem?_eq_getElem il] at hx; rw [Option.some.inj hx]; exact List.mem_cons_self)
      have put : (∀ u ∈ us', Tr.lt u x = true) → On K H a p sp ys us (i + 1) [some (.ref a), some (.ref p), some y] (upd H2 p (.lst (vs' ++ [y]))) := fun lt => by
        refine ⟨us' ++ [x], vs' ++ [y], some y, rfl, fun b o e => ?_, ?_, hy2.kt (Kt.lst hp2), upd_same, (hv.append (.cons ax .nil)).kt (Kt.lst hp2), asc_add asc lt, ?_, fun z => ?_⟩
        · rw [upd_ne (ne_of_none e np)]; exact s2 b o e
        · rw [upd_ne hsp]; exact h2
        · rw [List.length_append]; simp; omega
        · rw [tk, List.mem_append, List.mem_append, mem z]
      have lv : vs'.length < sizeLine := by rw [hv.length]; omega
      walk_at "go"
      refine ⟨_, .inl ⟨_, SqL.of hp2, rfl⟩, ?_⟩
      rcases List.eq_nil_or_concat vs' with e | ⟨vf, vl, e⟩
      · subst e
        cases hv
        walk_at "go"
        exact ⟨.inl ⟨rfl, _, SqL.of hp2⟩, _, hp2, lv, put fun u m => by cases m⟩
      · subst e
        rw [List.concat_eq_append] at *
        obtain ⟨uf, ul2, rfl, hvf, hvl⟩ := Ats.split hv
        rw [if_neg (by simp)]
        refine ⟨_, SqL.of hp2, vl, atI_last _ _, ?_⟩
        walk_at "go"
        have ml : ul2 ∈ uf ++ [ul2] := by simp
        refine ⟨ul2, x, hvl, ax, dp _ ((ms _).mp (List.mem_of_mem_take ((mem _).mp ml))), _, rfl, ?_⟩
        obtain ⟨k1, k2⟩ := memx _ ml
        by_cases e : ul2 = x
        · subst e
          rw [if_neg (by simp)]
          refine ⟨uf ++ [ul2], vf ++ [vl], some y, rfl, s2, h2, hy2, hp2, hv, asc, by omega, fun z => ?_⟩
          rw [mem z, tk, List.mem_append, List.mem_singleton]
          exact ⟨.inl, fun q => q.elim id fun e => by rw [e]; exact (mem _).mp ml⟩
        · rw [if_pos (by simpa using e)]
          walk_at "go"
          refine ⟨.inl ⟨rfl, _, SqL.of hp2⟩, _, hp2, lv, put fun u m => ?_⟩
          have lx : Tr.lt ul2 x = true := by
            cases q : Tr.lt ul2 x with
            | true => rfl
            | false => exact absurd (Tr.lt_tot k1 q k2) e
          rcases List.mem_append.mp m with m | m
          · exact Tr.lt_trans ((List.pairwise_append.mp asc).2.2 u m ul2 (by simp)) lx
          · rw [List.mem_singleton.mp m]; exact lx
    · rintro σ H2 ⟨us', vs', t, rfl, s2, h2, hy2, hp2, hv, asc, hl, mem⟩
      walk_at "go"
      refine k p us' H2 s2 np ⟨_, hp2, hv⟩ asc fun z => ?_
      rw [mem z, hy2.length, List.take_length]
      exact ms z
end


set_option Elab.async false
set_option linter.all false
set_option maxRecDepth 100000
set_option maxHeartbeats 4000000
open PySem L2 StX


def spHeld (K : PySem.W.Frag) : Sp := fun vs H Q _ => ∃ v w n, vs = [v] ∧ At K H v w ∧ Tr.WL n w ∧ (Tr.held w).length ≤ 107 ∧ ∀ p H', Same H H' → H p = none → LsAt K H' p (Tr.held w) → Q (.ref p) H'
section
variable {P : Program} {w : World} {K : PySem.W.Frag} {mg : Str → Option Value} {base : Heap}
theorem scHeld : FnScope ["worth", "base", "bag", "calls", "_", "worths", "held"] ["worth"] (defScope sHeld) := ⟨rfl, rfl, rfl, by decide +kernel, rfl, by decide +kernel, by decide +kernel⟩
theorem ok_held (D : DefAt K mg "_held_worths" sHeld) (B : Bt mg) : Cal P w K mg base CX0 1 "_held_worths" ["worth"] (spHeld K) := by
  refine D.cal (fun _ _ _ _ _ _ us hl => match us, hl with | [_], _ => rfl) fun f fd F => ?_
  refine F.ok scHeld (fun vs H Q E h => ?_) (fun cdv A outer s H vs Q E HR h => ?_)
  · obtain ⟨v, x, n, rfl, _⟩ := h
    rfl
  · obtain ⟨v, x, n, rfl, hx, hw, hl, k⟩ := h
    refine ⟨_, (pss_cons (ps_asg (pv 0) (pg_tup (n := 2) rfl (pgs_cons (pg_name (i := 1) scHeld.nd rfl (Or.inl rfl)) (pgs_cons (pg_name (i := 2) scHeld.nd rfl (Or.inl rfl)) pgs_nil))))
  (pss_cons (ps_set (i := 3) scHeld.nd rfl (Or.inl rfl) (pe_callTy call_list_of (by rfl) B.list (by decide +kernel) (pa_cons (pv 2) pa_nil)))
  (pss_cons (ps_if (pt_cmpR op_eq (pe_ix ix_tup (pv 1) pe_int (fun _ _ => rfl)) pe_int (nomark _)) (pss_one (ps_set (i := 3) scHeld.nd rfl (Or.inl rfl) (pe_lst (pa_cons (pe_slice sl_tupA (pv 1) (po_some pe_int) po_none) (pa_star (pv 2) pa_nil))))) pss_nil)
  (pss_one (ps_ret (pe_lc2 (own := [("_", 4), ("worths", 5), ("held", 6)]) (vs1 := [6]) (g := gTup K 2 (gCons (gName 4) (gCons (gName 5) gNil))) (g1 := gName 6) (tt := tYes) (tt1 := tYes) (wi1 := iTup K (tVar 5)) rfl scHeld.nd (pi_list (pv 3)) (blkOk_by (own := [("_", 4), ("worths", 5), ("held", 6)]) (N := ["worth", "base", "bag", "calls", "_", "worths", "held"]) (sc := defScope sHeld) (by decide +kernel)) (by decide) (fun _ _ _ _ _ => (pg_tup (n := 2) rfl (pgs_cons (pg_name (i := 4) scHeld.nd rfl (Or.inl rfl)) (pgs_cons (pg_name (i := 5) scHeld.nd rfl (Or.inl rfl)) pgs_nil)))) (fun _ _ _ _ _ => pts_nil) (fun _ _ _ _ _ => (pi_tup (pv 5))) (fun _ _ _ _ _ => (pg_name (i := 6) scHeld.nd rfl (Or.inl rfl))) (fun _ _ _ _ _ => pts_nil) (fun _ _ _ _ _ => (pv 6)))))))), ?_⟩
    obtain ⟨n, rfl⟩ : ∃ m, n = m + 1 := by cases n with
      | zero => exact hw.elim
      | succ m => exact ⟨m, rfl⟩
    obtain ⟨b, bag, rfl, hb, hl7, ht⟩ := hw
    obtain ⟨a, vs0, rfl, h0, a0⟩ := tup_at hx
    cases a0 with
    | cons ab a0 =>
    cases a0 with
    | cons abag a0 =>
    cases a0
    obtain ⟨ga, gvs, rfl, hg, ag⟩ := tup_at abag
    have fin : ∀ (l : Addr) (cv : List V) (cs : List Tr) (H1 : Hp) (v1 v2 : V), H1 l = some (.lst cv) → Ats K H1 cv cs → (∀ t ∈ cs, Tr.TL (Tr.WL n) t) → Same H H1 → cs.flatMap Tr.heldT = Tr.held (Tr.wor b bag) →
        LpC2 (gTup K 2 (gCons (gName 4) (gCons (gName 5) gNil))) tYes (iTup K (tVar 5)) (gName 6) tYes (tVar 6) [4, 5, 6] [6] [some (.ref a), some v1, some v2, some (.ref l), none, none, none] Q (Itl K l) H1 := by
      intro l cv cs H1 v1 v2 hl1 hA ht1 s1 eq
      have cap : ∀ i j (ws : List Tr), cs[i]? = some (Tr.trn j ws) → ∀ m, ((cs.take i).flatMap Tr.heldT ++ ws.take m).length ≤ 107 := fun i j ws hi m => by
        have e : (cs.take (i + 1)).flatMap Tr.heldT = (cs.take i).flatMap Tr.heldT ++ ws := by rw [List.take_add_one, hi, List.flatMap_append]; simp [Tr.heldT, Tr.trn]
        have q := (Tr.flat_sub (f := Tr.heldT) (List.take_sublist (i + 1) cs)).length_le
        rw [e, eq] at q
        have := (List.take_sublist m ws).length_le
        rw [List.length_append] at q ⊢
        omega
      refine lpC2_by wk_list (fun D i H2 => H1 D = none ∧ Same H1 H2 ∧ LsAt K H2 D ((cs.take i).flatMap Tr.heldT)) (fun D nD => ⟨nD, same_new nD, [], upd_same, .nil⟩) (fun D i H2 _ p => SqL.of (p.2.1 _ _ hl1)) ?_ ?_
      · rintro D i y H2 _ hi ⟨nD, s2, vs2, e2, a2⟩ ⟨rfl, hy⟩
        obtain ⟨t, hti, at1⟩ := hA.get hy
        obtain ⟨m, ws, rfl, hws⟩ := ht1 t (List.mem_of_getElem? hti)
        obtain ⟨ta, tvs, rfl, hta, atv⟩ := tup_at at1
        cases atv with
        | cons am atv =>
        cases atv with
        | cons aws atv =>
        cases atv
        obtain ⟨wa, wvs, rfl, hwa, awv⟩ := tup_at aws
        walk_at "go"
        refine ⟨_, hta.kt (Kt.same s2), rfl, _, _, rfl, _, _, rfl, rfl, ?_⟩
        walk_at "go"
        refine ⟨⟨_, hwa.kt (Kt.same s2)⟩, in1_by wk_tup (fun j H3 => Same H1 H3 ∧ LsAt K H3 D ((cs.take i).flatMap Tr.heldT ++ ws.take j)) ⟨s2, vs2, e2, by simpa using a2⟩ (fun j H3 _ p => hwa.kt (Kt.same p.1)) ?_ ?_⟩
        · rintro j z H3 _ hj ⟨s3, vs3, e3, a3⟩ ⟨rfl, hz⟩
          obtain ⟨u, hu, au⟩ := awv.get hz
          walk_at "go"
          have c2 := cap i m ws hti j
          refine ⟨vs3, e3, Nat.lt_of_le_of_lt (by rw [a3.length]; exact c2) (by decide), fun b o e => ?_, vs3 ++ [z], upd_same, ?_⟩
          · rw [upd_ne (ne_of_none e nD)]; exact s3 b o e
          · rw [List.take_add_one, hu, ← List.append_assoc]
            exact (a3.append (.cons (au.kt (Kt.same s3)) .nil)).kt (Kt.lst e3)
        · rintro H3 ⟨s3, h3⟩
          refine ⟨nD, s3, ?_⟩
          rw [List.take_add_one, hti, List.flatMap_append]
          rw [awv.length, List.take_length] at h3
          simpa [Tr.heldT, Tr.trn] using h3
      · rintro D H2 nD ⟨_, s2, h2⟩
        rw [hA.length, List.take_length, eq] at h2
        exact k D H2 (s1.trans s2) (by
          cases e : H D with
          | none => rfl
          | some o => rw [s1 _ _ e] at nD; cases nD) h2
    have fresh2 : ∀ {l : Addr} {o : HO}, H l = none → Same H (upd H l o) := fun h => same_new h
    walk_at "go"
    rcases hb with ⟨c, rfl⟩ | ⟨m, ws, rfl, hws⟩
    · obtain ⟨ba, bvs, rfl, hba, abv⟩ := tup_at ab
      cases abv with
      | cons a1 abv =>
      cases abv with
      | cons a2 abv =>
      cases abv
      rw [int_at a1] at hba
      refine ⟨_, h0, rfl, _, _, rfl, _, _, rfl, rfl, ga, rfl, gvs, .inr hg, fun l hl1 => ⟨ba, rfl, _, hba.kt (Kt.new hl1), _, rfl, ?_⟩⟩
      walk_at "go"
      refine ⟨⟨_, SqL.of upd_same⟩, fin l gvs bag _ _ _ upd_same (ag.kt (Kt.new hl1)) ht (same_new hl1) rfl⟩
    · obtain ⟨ba, bvs, rfl, hba, abv⟩ := tup_at ab
      cases abv with
      | cons a1 abv =>
      cases abv with
      | cons a2 abv =>
      cases abv with
      | cons a3 abv =>
      cases abv
      rw [int_at a1] at hba
      refine ⟨_, h0, rfl, _, _, rfl, _, _, rfl, rfl, ga, rfl, gvs, .inr hg, fun l hl1 => ⟨ba, rfl, _, hba.kt (Kt.new hl1), _, rfl, ?_⟩⟩
      walk_at "go"
      refine ⟨_, hba.kt (Kt.new hl1), fun z => absurd (show (1 : Nat) = 0 from z.1) (by decide), fun _ p np => ⟨gvs, .inl ((hg.kt (Kt.new hl1)).kt (Kt.new np)), ?_, fun q nq => ⟨⟨_, SqL.of upd_same⟩, ?_⟩⟩⟩
      · rw [List.append_nil, ag.length]
        exact Nat.le_trans (Nat.succ_le_succ hl7) (by decide)
      · rw [List.append_nil]
        have kt : Kt H (upd (upd (upd H l (.lst gvs)) p (.tup (cutV [V.int 1, _, _] (some 1) none))) q (.lst (.ref p :: gvs))) := ((Kt.new hl1).trans (Kt.new np)).trans (Kt.new nq)
        refine fin q _ (Tr.trn m ws :: bag) _ _ _ upd_same (.cons (at_tup (SqT.of ?_) (.cons (a2.kt kt) (.cons (a3.kt kt) .nil))) (ag.kt kt)) (fun t mt => ?_) (((same_new hl1).trans (same_new np)).trans (same_new nq)) rfl
        · rw [upd_ne (fun e => by rw [e, upd_same] at nq; cases nq), upd_same]; rfl
        · rcases List.mem_cons.mp mt with e | mt
          · exact ⟨m, ws, e, hws⟩
          · exact ht t mt
end


set_option Elab.async false
set_option linter.all false
set_option maxRecDepth 100000
set_option maxHeartbeats 4000000
open PySem L2 StX


theorem Cal.mono {P : Program} {w : World} {K : PySem.W.Frag} {mg : Str → Option Value} {base : Heap} {CX : CXT} {j k : Nat} {x : Str} {ps : List Str} {sp : Sp} (C : L2.Cal P w K mg base CX j x ps sp) (h : j ≤ k) : L2.Cal P w K mg base CX k x ps sp := by
  obtain ⟨f, fd, F, r⟩ := C.ex
  exact ⟨f, fd, F.mono h, r⟩
theorem sortOk_w {xs : List Tr} (h : ∀ x ∈ xs, ∃ a l, x = Tr.t (a :: l)) : SortOk (xs.map Tr.toD) := .inl (.inl fun d m => by
  obtain ⟨x, hx, rfl⟩ := List.mem_map.mp m
  obtain ⟨a, l, rfl⟩ := h x hx
  rw [Tr.toD, Tr.toDs]
  exact ⟨_, _, rfl⟩)
theorem shape_w {n : Nat} {x : Tr} (h : Tr.WL n x) : ∃ a l, x = Tr.t (a :: l) := by
  cases n with
  | zero => exact h.elim
  | succ n => obtain ⟨b, bag, rfl, _⟩ := h; exact ⟨_, _, rfl⟩
def spParts (K : PySem.W.Frag) : Sp := fun vs H Q _ => ∃ v w, vs = [v] ∧ At K H v w ∧ Tr.WL 40 w ∧ (Tr.held w).length ≤ 107 ∧ ∀ p us H', Same H H' → At K H' (.ref p) (.t us) → Tr.Asc us → (∀ z, z ∈ us ↔ z ∈ Tr.held w) → Q (.ref p) H'
section
variable {P : Program} {w : World} {K : PySem.W.Frag} {mg : Str → Option Value} {base : Heap}
theorem scParts : FnScope ["worth"] ["worth"] (defScope sParts) := ⟨rfl, rfl, rfl, by decide +kernel, rfl, by decide +kernel, by decide +kernel⟩
theorem ok_parts (D : DefAt K mg "parts_of" sParts) (B : Bt mg) (Ceach_once : Cal P w K mg base CX0 1 "each_once" ["things"] (spOnce K)) (C_held_worths : Cal P w K mg base CX0 1 "_held_worths" ["worth"] (spHeld K)) :
    Cal P w K mg base CX0 2 "parts_of" ["worth"] (spParts K) := by
  refine D.cal (fun _ _ _ _ _ _ us hl => match us, hl with | [_], _ => rfl) fun f fd F => ?_
  refine F.ok scParts (fun vs H Q E h => ?_) (fun cdv A outer s H vs Q E HR h => ?_)
  · obtain ⟨v, x, rfl, _⟩ := h
    rfl
  · obtain ⟨v, x, rfl, hx, hw, hl, k⟩ := h
    refine ⟨_, (pss_one (ps_ret (pe_callTy call_tuple_of (by rfl) B.tuple (by decide +kernel) (pa_cons (pe_cal Ceach_once (by rfl) HR pass0 (pa_cons (pe_cal C_held_worths (by rfl) HR pass0 (pa_cons (pv 0) pa_nil)) pa_nil)) pa_nil)))), ?_⟩
    walk_at "go"
    refine ⟨v, x, _, rfl, hx, hw, hl, fun p H1 s1 n1 ⟨vs1, e1, a1⟩ => ?_⟩
    have wl : ∀ z ∈ Tr.held x, Tr.WL 40 z := fun z m => hw.part m
    refine ⟨.ref p, _, rfl, ⟨p, vs1, rfl, .inl (SqL.of e1), a1⟩, fun y hy z hz => (wl y hy).ak (wl z hz), sortOk_w fun y hy => shape_w (wl y hy), fun y hy => Nat.le_trans (wl y hy).dep_le (by decide), Nat.le_trans hl (by decide), fun q us H2 s2 n2 ⟨vs2, e2, a2⟩ asc mem => ?_⟩
    refine ⟨q, rfl, vs2, .inl ⟨SqL.of e2, fun l nl => ?_⟩⟩
    exact k l us _ ((s1.trans s2).trans (same_new nl)) (at_tup (SqT.of upd_same) (a2.kt (Kt.new nl))) asc mem
def ext (x : Tr) : Tr → Tr
  | .t s => .t (s ++ [x])
  | z => z
theorem head_nil : ∀ {us : List Tr}, Tr.Asc us → Tr.t [] ∈ us → (∀ z ∈ us, ∃ s, z = Tr.t s) → ∃ r, us = Tr.t [] :: r
  | [], _, m, _ => by cases m
  | h :: r, a, m, hs => by
    obtain ⟨s, rfl⟩ := hs h List.mem_cons_self
    rcases List.mem_cons.mp m with e | m
    · exact ⟨r, by rw [← e]⟩
    · have q := (List.pairwise_cons.mp a).1 _ m
      cases s with
      | nil => exact ⟨r, rfl⟩
      | cons x s => exact absurd q (by simp [Tr.lt, PySem.W.dataLt, Tr.toD, Tr.toDs, PySem.W.keyToks, PySem.W.keyToksAll, PyProof.Rows.lexLt, PyProof.Rows.itemLt])
/-- the parts of a bag so far -/
structure Bg (K : PySem.W.Frag) (H : Hp) (v1 v2 v3 : V) (bag : List Tr) (i : Nat) (σ : St) (H2 : Hp) : Prop where
  ex : ∃ q us t, σ = [some v1, some v2, some v3, some (.ref q), t, none] ∧ Same H H2 ∧ LsAt K H2 q us ∧ Tr.Asc us ∧ ∀ z, z ∈ us ↔ ∃ s, s.Sublist (bag.take i) ∧ z = Tr.t s
theorem asc_one (x : Tr) : Tr.Asc [x] := List.pairwise_singleton _ _
theorem sub_snoc {s l : List Tr} {x : Tr} : s.Sublist (l ++ [x]) ↔ s.Sublist l ∨ ∃ s', s = s' ++ [x] ∧ s'.Sublist l := by
  rw [List.sublist_append_iff]
  constructor
  · rintro ⟨l1, l2, rfl, h1, h2⟩
    rcases List.sublist_cons_iff.mp h2 with h | ⟨r, rfl, h⟩
    · cases h
      rw [List.append_nil]; exact .inl h1
    · cases h
      exact .inr ⟨l1, rfl, h1⟩
  · rintro (h | ⟨s', rfl, h⟩)
    · exact ⟨s, [], by simp, h, List.nil_sublist _⟩
    · exact ⟨s', [x], rfl, h, List.Sublist.refl _⟩
theorem map_cap {f : List Tr → Tr} {us bag : List Tr} (h7 : bag.length ≤ 7) (a : us.Nodup) (mem : ∀ z, z ∈ us → ∃ s, s.Sublist bag ∧ z = f s) : us.length ≤ 128 := by
  have := Tr.asc_len (L := (Tr.subs bag).map f) a fun z m => by
    obtain ⟨s, h, rfl⟩ := mem z m
    exact List.mem_map.mpr ⟨s, Tr.subs_mem h, rfl⟩
  rw [List.length_map, Tr.subs_len] at this
  exact Nat.le_trans this (Nat.le_trans (Nat.pow_le_pow_right (by decide) h7) (by decide))
theorem acc_put {K : PySem.W.Frag} {H2 H4 : Hp} {D : Addr} {dvs : List V} {v : V} {ts : List Tr} {t : Tr} (nD : H2 D = none) (s : Same H2 H4) (e : H4 D = some (.lst dvs)) (a : Ats K H4 dvs ts) (q : At K H4 v t) :
    Same H2 (upd H4 D (.lst (dvs ++ [v]))) ∧ LsAt K (upd H4 D (.lst (dvs ++ [v]))) D (ts ++ [t]) :=
  ⟨fun b o z => by rw [upd_ne (ne_of_none z nD)]; exact s b o z, _, upd_same, (a.append (.cons q .nil)).kt (Kt.lst e)⟩
def spBags (K : PySem.W.Frag) : Sp := fun vs H Q _ => ∃ v b bag, vs = [v] ∧ At K H v (Tr.wor b bag) ∧ Tr.WL 40 (Tr.wor b bag) ∧ ∀ p us H', Same H H' → At K H' (.ref p) (.t us) → us.length ≤ 128 → Tr.Asc us → (∀ z, z ∈ us ↔ ∃ s, s.Sublist bag ∧ z = Tr.wor b s) → Q (.ref p) H'
theorem scBags : FnScope ["worth", "base", "bag", "parts", "turn", "part"] ["worth"] (defScope sBags) := ⟨rfl, rfl, rfl, by decide +kernel, rfl, by decide +kernel, by decide +kernel⟩
theorem ok_bags (D : DefAt K mg "bags_within" sBags) (B : Bt mg) (Ceach_once : Cal P w K mg base CX0 1 "each_once" ["things"] (spOnce K)) :
    Cal P w K mg base CX0 2 "bags_within" ["worth"] (spBags K) := by
  refine D.cal (fun _ _ _ _ _ _ us hl => match us, hl with | [_], _ => rfl) fun f fd F => ?_
  refine F.ok scBags (fun vs H Q E h => ?_) (fun cdv A outer s H vs Q E HR h => ?_)
  · obtain ⟨v, b, bag, rfl, _⟩ := h
    rfl
  · obtain ⟨v, b, bag, rfl, hx, hw, k⟩ := h
    refine ⟨_, (pss_cons (ps_asg (pv 0) (pg_tup (n := 2) rfl (pgs_cons (pg_name (i := 1) scBags.nd rfl (Or.inr rfl)) (pgs_cons (pg_name (i := 2) scBags.nd rfl (Or.inl rfl)) pgs_nil))))
  (pss_cons (ps_set (i := 3) scBags.nd rfl (Or.inl rfl) (pe_lst (pa_cons (pe_tup pa_nil) pa_nil)))
  (pss_cons (ps_for PassesOwn.never rfl (pi_tup (pv 2)) (pg_name (i := 4) scBags.nd rfl (Or.inr rfl)) (pss_one (ps_set (i := 3) scBags.nd rfl (Or.inl rfl) (pe_cal Ceach_once (by rfl) HR pass0 (pa_cons (pe_op op_cat (pv 3) (pe_lc (own := [("part", 5)]) (g := gName 5) (tt := tYes) (te := tTup (tStar K (tVar 5) (tCons (tVar 4) tNil))) rfl scBags.nd (pi_list (pv 3)) (blkOk_by (own := [("part", 5)]) (N := ["worth", "base", "bag", "parts", "turn", "part"]) (sc := defScope sBags) (by decide +kernel)) (fun _ _ _ _ _ => (pg_name (i := 5) scBags.nd rfl (Or.inl rfl))) (fun _ _ _ _ _ => pts_nil) (fun _ _ _ _ _ => (pe_tup (pa_star (pv 5) (pa_cons (pv 4) pa_nil)))))) pa_nil)))))
  (pss_one (ps_ret (pe_callTy call_tuple_of (by rfl) B.tuple (by decide +kernel) (pa_cons (pe_lc (own := [("part", 5)]) (g := gName 5) (tt := tYes) rfl scBags.nd (pi_list (pv 3)) (blkOk_by (own := [("part", 5)]) (N := ["worth", "base", "bag", "parts", "turn", "part"]) (sc := defScope sBags) (by decide +kernel)) (fun _ _ _ _ _ => (pg_name (i := 5) scBags.nd rfl (Or.inl rfl))) (fun _ _ _ _ _ => pts_nil) (fun _ _ _ _ _ => (pe_tup (pa_cons (pv 1) (pa_cons (pv 5) pa_nil))))) pa_nil))))))), ?_⟩
    obtain ⟨a, vs0, rfl, h0, a0⟩ := tup_at hx
    cases a0 with
    | @cons vb _ _ _ ab a0 =>
    cases a0 with
    | cons abag a0 =>
    cases a0
    obtain ⟨ga, gvs, rfl, hg, ag⟩ := tup_at abag
    obtain ⟨b', bag', e0, hb, hl7, ht⟩ := id hw
    obtain ⟨rfl, rfl⟩ : b = b' ∧ bag = bag' := by
      unfold Tr.wor at e0
      injection e0 with e0
      injection e0 with e1 e2
      injection e2 with e2 _
      injection e2 with e2
      exact ⟨e1, e2⟩
    have akp : ∀ s s', s.Sublist bag → s'.Sublist bag → Tr.Ak (.t s) (.t s') := fun s s' h h' => Tr.ak_t.mpr (Tr.ak_all fun x hx y hy => (ht x (h.subset hx)).ak (fun v v' q q' => q.ak q') (ht y (h'.subset hy)))
    have dpp : ∀ s, s.Sublist bag → (Tr.t s).dep ≤ 190 := fun s h => by
      have q : Tr.deps s ≤ 158 := deps_le fun x hx => by
        obtain ⟨m, ws, rfl, hws⟩ := ht x (h.subset hx)
        have := deps_le (n := 156) (xs := ws) fun v hv => (hws v hv).dep_le
        unfold Tr.trn; simp only [Tr.dep_t, Tr.deps_cons, Tr.deps_nil, Tr.dep_i]; omega
      rw [Tr.dep_t]; omega
    walk_at "go"
    refine ⟨_, h0, rfl, _, _, rfl, _, _, rfl, rfl, by decide, fun p np => ⟨by decide, fun p1 np1 => ⟨ga, rfl, ⟨_, (hg.kt (Kt.new np)).kt (Kt.new np1)⟩, lp_by (wk_tup (xs := gvs)) (Bg K H (.ref a) vb (.ref ga) bag) ?_ (fun i σ H2 _ p => ?_) ?_ ?_⟩⟩⟩
    · refine ⟨p1, [.t []], none, rfl, (same_new np).trans (same_new np1), ⟨_, upd_same, .cons (at_tup (SqT.of ?_) .nil) .nil⟩, asc_one _, fun z => ?_⟩
      · rw [upd_ne (fun e => by rw [e, upd_same] at np1; cases np1)]; exact upd_same
      · rw [List.take_zero]
        exact ⟨fun m => ⟨[], List.Sublist.refl _, List.mem_singleton.mp m⟩, fun ⟨s, h, e⟩ => by rw [e, List.sublist_nil.mp h]; exact List.mem_singleton.mpr rfl⟩
    · obtain ⟨_, _, _, _, s2, _⟩ := p
      exact hg.kt (Kt.same s2)
    · rintro i y σ H2' H2 hi ⟨q, us, t, rfl, s2, ⟨qvs, eq, aq⟩, asc, mem⟩ ⟨e2, hy⟩
      subst e2
      obtain ⟨x, hxi, ax⟩ := ag.get hy
      have il : i < bag.length := (List.getElem?_eq_some_iff.mp hxi).1
      have tk : bag.take (i + 1) = bag.take i ++ [x] := by rw [List.take_add_one, hxi]; rfl
      have sb : ∀ s : List Tr, s.Sublist (bag.take i) → s.Sublist bag := fun s h => h.trans (List.take_sublist ..)
      have ul : us.length ≤ 128 := map_cap (f := Tr.t) (Nat.le_trans (List.length_take_le' ..) hl7) asc.nodup fun z m => (mem z).mp m
      walk_at "go"
      have cap : ∀ {dvs : List V} {H3 : Hp} {j : Nat} {f : Tr → Tr}, Ats K H3 dvs ((us.take j).map f) → dvs.length < sizeLine := fun h => by
        rw [h.length, List.length_map]
        exact Nat.lt_of_le_of_lt (Nat.le_trans (List.length_take_le' ..) ul) (by decide)
      refine ⟨⟨_, SqL.of eq⟩, lpC_by (wk_list (xs := qvs)) (fun D j H3 => H2 D = none ∧ Same H2 H3 ∧ LsAt K H3 D ((us.take j).map (ext x))) (fun D nD => ⟨nD, same_new nD, [], upd_same, .nil⟩) (fun D j H3 _ p => SqL.of (p.2.1 _ _ eq)) ?_ ?_⟩
      · rintro D j z H3' H3 hj ⟨nD, s3, dvs, eD, aD⟩ ⟨rfl, hz⟩
        obtain ⟨u, hu, au⟩ := aq.get hz
        obtain ⟨s, hs, rfl⟩ := (mem u).mp (List.mem_of_getElem? hu)
        obtain ⟨pa, pvs, rfl, hp, ap⟩ := tup_at au
        walk_at "go"
        refine ⟨pvs, .inl (hp.kt (Kt.same s3)), ?_, fun p np => ⟨dvs, ?_, cap aD, ?_⟩⟩
        · rw [List.length_append, ap.length]
          exact Nat.le_trans (Nat.succ_le_succ (Nat.le_trans (sb s hs).length_le hl7)) (by decide)
        · rw [upd_ne (ne_of_none eD np)]; exact eD
        · have kt : Kt H2 (upd H3 p (.tup (pvs ++ [y]))) := (Kt.same s3).trans (Kt.new np)
          have r := acc_put (K := K) (t := .t (s ++ [x])) nD (s3.trans (same_new np)) (by rw [upd_ne (ne_of_none eD np)]; exact eD) (aD.kt (Kt.new np)) (at_tup (SqT.of upd_same) ((ap.kt kt).append (.cons ((ax.kt (Kt.same s2)).kt kt) .nil)))
          rw [List.take_add_one, hu, List.map_append]
          exact ⟨nD, r⟩
      · rintro D H3 _ ⟨nD, s3, dvs, eD, aD⟩
        rw [aq.length, List.take_length] at aD
        have ld : dvs.length ≤ 128 := by rw [aD.length, List.length_map]; exact ul
        have lq : qvs.length ≤ 128 := by rw [aq.length]; exact ul
        refine ⟨q, D, qvs, dvs, rfl, rfl, s3 _ _ eq, eD, Nat.le_trans (Nat.add_le_add lq ld) (by decide), fun p np => ?_⟩
        have all : ∀ z ∈ us ++ us.map (ext x), ∃ s : List Tr, s.Sublist (bag.take (i + 1)) ∧ z = .t s := fun z m => by
          rcases List.mem_append.mp m with m | m
          · obtain ⟨s, h, e⟩ := (mem z).mp m
            exact ⟨s, by rw [tk]; exact sub_snoc.mpr (.inl h), e⟩
          · obtain ⟨u, m2, rfl⟩ := List.mem_map.mp m
            obtain ⟨s, h, rfl⟩ := (mem u).mp m2
            exact ⟨s ++ [x], by rw [tk]; exact sub_snoc.mpr (.inr ⟨s, rfl, h⟩), rfl⟩
        have nilm : Tr.t [] ∈ us := (mem _).mpr ⟨[], List.nil_sublist _, rfl⟩
        obtain ⟨r, er⟩ := head_nil asc nilm fun z m => by obtain ⟨s, _, e⟩ := (mem z).mp m; exact ⟨s, e⟩
        have so : SortOk ((us ++ us.map (ext x)).map Tr.toD) := .inr ⟨(r ++ us.map (ext x)).map Tr.toD, by rw [er]; simp [Tr.toD, Tr.toDs], fun d m => by
          obtain ⟨z, m2, rfl⟩ := List.mem_map.mp m
          obtain ⟨s, _, e⟩ := all z ((List.mem_append.mp m2).elim (fun m3 => List.mem_append_left _ (by rw [er]; exact List.mem_cons_of_mem _ m3)) fun m3 => List.mem_append_right _ m3)
          rw [e, Tr.toD]
          exact ⟨_, rfl⟩⟩
        refine ⟨.ref p, us ++ us.map (ext x), rfl, ⟨p, _, rfl, .inl (SqL.of upd_same), ((aq.kt (Kt.same s3)).append aD).kt (Kt.new np)⟩, fun y hy z hz => ?_, so, fun y hy => ?_, ?_, fun q' us' H4 s4 _ ls asc' mem' => ?_⟩
        · obtain ⟨s, h, rfl⟩ := all y hy
          obtain ⟨s', h', rfl⟩ := all z hz
          exact akp s s' (h.trans (List.take_sublist ..)) (h'.trans (List.take_sublist ..))
        · obtain ⟨s, h, rfl⟩ := all y hy
          exact dpp s (h.trans (List.take_sublist ..))
        · rw [List.length_append, List.length_map]
          exact Nat.le_trans (Nat.add_le_add ul ul) (by decide)
        · refine ⟨q', us', some y, rfl, ((s2.trans s3).trans (same_new np)).trans s4, ls, asc', fun z => ?_⟩
          rw [mem' z]
          refine ⟨all z, fun ⟨s, h, e⟩ => ?_⟩
          rw [tk] at h
          rcases sub_snoc.mp h with h2 | ⟨s', rfl, h2⟩
          · exact List.mem_append_left _ ((mem z).mpr ⟨s, h2, e⟩)
          · exact List.mem_append_right _ (List.mem_map.mpr ⟨.t s', (mem _).mpr ⟨s', h2, rfl⟩, e.symm⟩)
    · rintro σ H2 ⟨q, us, t, rfl, s2, ⟨qvs, eq, aq⟩, asc, mem⟩
      rw [ag.length, List.take_length] at mem
      have ul : us.length ≤ 128 := map_cap (f := Tr.t) hl7 asc.nodup fun z m => (mem z).mp m
      have cap : ∀ {dvs : List V} {H3 : Hp} {j : Nat} {f : Tr → Tr}, Ats K H3 dvs ((us.take j).map f) → dvs.length < sizeLine := fun h => by
        rw [h.length, List.length_map]
        exact Nat.lt_of_le_of_lt (Nat.le_trans (List.length_take_le' ..) ul) (by decide)
      walk_at "go"
      refine ⟨⟨_, SqL.of eq⟩, lpC_by (wk_list (xs := qvs)) (fun D j H3 => H2 D = none ∧ Same H2 H3 ∧ LsAt K H3 D ((us.take j).map fun z => .t [b, z])) (fun D nD => ⟨nD, same_new nD, [], upd_same, .nil⟩) (fun D j H3 _ p => SqL.of (p.2.1 _ _ eq)) ?_ ?_⟩
      · rintro D j z H3' H3 hj ⟨nD, s3, dvs, eD, aD⟩ ⟨rfl, hz⟩
        obtain ⟨u, hu, au⟩ := aq.get hz
        walk_at "go"
        refine ⟨by decide, fun p np => ⟨dvs, ?_, cap aD, ?_⟩⟩
        · rw [upd_ne (ne_of_none eD np)]; exact eD
        · have kt : Kt H2 (upd H3 p (.tup [vb, z])) := (Kt.same s3).trans (Kt.new np)
          have r := acc_put (K := K) (t := .t [b, u]) nD (s3.trans (same_new np)) (by rw [upd_ne (ne_of_none eD np)]; exact eD) (aD.kt (Kt.new np)) (at_tup (SqT.of upd_same) (.cons ((ab.kt (Kt.same s2)).kt kt) (.cons (au.kt kt) .nil)))
          rw [List.take_add_one, hu, List.map_append]
          exact ⟨nD, r⟩
      · rintro D H3 _ ⟨nD, s3, dvs, eD, aD⟩
        rw [aq.length, List.take_length] at aD
        walk_at "go"
        refine ⟨dvs, .inl ⟨SqL.of eD, fun l nl => k l _ _ ((s2.trans s3).trans (same_new nl)) (at_tup (SqT.of upd_same) (aD.kt (Kt.new nl))) (by rw [List.length_map]; exact ul) (Tr.asc_pair asc fun x hx y hy => ?_) fun z => ?_⟩⟩
        · obtain ⟨s, h, rfl⟩ := (mem x).mp hx
          obtain ⟨s', h', rfl⟩ := (mem y).mp hy
          exact akp s s' h h'
        constructor
        · intro m
          obtain ⟨u, m2, rfl⟩ := List.mem_map.mp m
          obtain ⟨s, h, rfl⟩ := (mem u).mp m2
          exact ⟨s, h, rfl⟩
        · rintro ⟨s, h, rfl⟩
          exact List.mem_map.mpr ⟨.t s, (mem _).mpr ⟨s, h, rfl⟩, rfl⟩
end


set_option Elab.async false
set_option linter.all false
set_option maxRecDepth 100000
set_option maxHeartbeats 4000000
open PySem L2 StX


def spIsW : Sp := fun vs H Q _ => ∃ z : Int, vs = [.int z] ∧ Q (.bl true) H
theorem tyTup {K : PySem.W.Frag} {H : Hp} {a : Addr} {xs : List V} (h : SqT K H a xs) : TyX K H (.ref a) (.type "tuple") := by
  rcases h with (h | ⟨o, h⟩) | ⟨o, its, n, h1, h2, _⟩
  · exact .base (.tup h)
  · exact .fTuple h
  · exact .kTuple h1 h2
theorem dep_mem {x : Tr} : ∀ {xs : List Tr}, x ∈ xs → x.dep ≤ Tr.deps xs
  | y :: ys, m => by
    rw [Tr.deps_cons]
    rcases List.mem_cons.mp m with rfl | m
    · exact Nat.le_max_left _ _
    · exact Nat.le_trans (dep_mem m) (Nat.le_max_right _ _)
/-- no tuple of it is long -/
inductive Nar : Tr → Prop
  | i (n : Int) : Nar (.i n)
  | t {xs : List Tr} : xs.length ≤ 83000 → (∀ x ∈ xs, Nar x) → Nar (.t xs)
theorem nar_w {S : Tr → Prop} (h1 : ∀ z, S z → (Tr.held z).length ≤ 107) (h2 : ∀ z v, S z → v ∈ Tr.held z → S v) : ∀ {n : Nat} {w : Tr}, Tr.WL n w → S w → Nar w
  | 0, _, h, _ => h.elim
  | n + 1, w, ⟨b, bag, e, hb, hl, ht⟩, s => by
    subst e
    have k : ∀ ws : List Tr, ws.length ≤ (Tr.held (Tr.wor b bag)).length → (∀ v ∈ ws, v ∈ Tr.held (Tr.wor b bag)) → (∀ v ∈ ws, Tr.WL n v) → Nar (.t ws) := fun ws l m q =>
      .t (by have := h1 _ s; omega) fun v hv => nar_w h1 h2 (q v hv) (h2 _ v s (m v hv))
    have nb : Nar b := by
      rcases hb with ⟨c, rfl⟩ | ⟨m, ws, rfl, q⟩
      · exact .t (by simp) fun x hx => by
          rcases List.mem_cons.mp hx with rfl | hx
          · exact .i _
          · rw [List.mem_singleton.mp hx]; exact .i _
      · have kk := k ws (by rw [Tr.held_wor, List.length_append]; exact Nat.le_add_right _ _) (fun v hv => List.mem_append_left _ hv) q
        exact .t (by simp) fun x hx => by
          rcases List.mem_cons.mp hx with rfl | hx
          · exact .i _
          · rcases List.mem_cons.mp hx with rfl | hx
            · exact .i _
            · rw [List.mem_singleton.mp hx]; exact kk
    have ng : Nar (.t bag) := .t (by omega) fun t mt => by
      obtain ⟨m, ws, rfl, q⟩ := ht t mt
      have sub : ∀ v ∈ ws, v ∈ bag.flatMap Tr.heldT := fun v hv => List.mem_flatMap.mpr ⟨_, mt, hv⟩
      have len : ws.length ≤ (bag.flatMap Tr.heldT).length := Tr.flat_len_mem (f := Tr.heldT) mt
      have kk := k ws (by rw [Tr.held_wor, List.length_append]; omega) (fun v hv => List.mem_append_right _ (sub v hv)) q
      exact .t (by simp) fun x hx => by
        rcases List.mem_cons.mp hx with rfl | hx
        · exact .i _
        · rw [List.mem_singleton.mp hx]; exact kk
    exact .t (by simp) fun x hx => by
      rcases List.mem_cons.mp hx with rfl | hx
      · exact nb
      · rw [List.mem_singleton.mp hx]; exact ng
theorem rep_snoc : ∀ n : Nat, (List.replicate n true).map V.bl ++ [V.bl true] = V.bl true :: (List.replicate n true).map V.bl
  | 0 => rfl
  | n + 1 => by rw [List.replicate_succ, List.map_cons, List.cons_append, rep_snoc n]
def spExact (K : PySem.W.Frag) (d : Nat) : Sp := fun vs H Q _ => ∃ u v t, vs = [u, v] ∧ At K H u t ∧ At K H v t ∧ t.dep < d ∧ Nar t ∧ ∀ H', Same H H' → Q (.bl true) H'
section
variable {P : Program} {w : World} {K : PySem.W.Frag} {mg : Str → Option Value} {base : Heap}
theorem tyInt {H : Hp} (z : Int) : TyX K H (.int z) (.type "int") := .base (.int z)
theorem scIsW : FnScope ["_law_thing"] ["_law_thing"] (defScope sIsW) := ⟨rfl, rfl, rfl, by decide +kernel, rfl, by decide +kernel, by decide +kernel⟩
theorem ok_isW (D : DefAt K mg "_law_whole" sIsW) (B : Bt mg) : Cal P w K mg base CX0 1 "_law_whole" ["_law_thing"] spIsW := by
  refine D.cal (fun _ _ _ _ _ _ us hl => match us, hl with | [_], _ => rfl) fun f fd F => ?_
  refine F.ok scIsW (fun vs H Q E h => ?_) (fun cdv A outer s H vs Q E hr h => ?_)
  · obtain ⟨x, rfl, _⟩ := h
    rfl
  · obtain ⟨z, rfl, q⟩ := h
    refine ⟨_, (pss_one (ps_ret (pe_and (pe_callB call_isi (by rfl) B.isi (by decide +kernel) (pa_cons (pv 0) (pa_cons (pe_bltn (v := .ty "int") (by rfl) B.int (by decide +kernel) rfl) pa_nil))) (pe_one (pe_not (pe_callB call_isi (by rfl) B.isi (by decide +kernel) (pa_cons (pv 0) (pa_cons (pe_bltn (v := .ty "bool") (by rfl) B.bool (by decide +kernel) rfl) pa_nil)))))))), ?_⟩
    walk_at "rd"
    refine ⟨_, _, .ty "int", tyInt z, true, kit_ty (by decide +kernel), ?_⟩
    exact iteT ⟨_, _, .ty "bool", tyInt z, false, kit_ty (by decide +kernel), q⟩
theorem scExact : FnScope ["_law_told", "_law_due", "_law_k"] ["_law_told", "_law_due"] (defScope sExact) := ⟨rfl, rfl, rfl, by decide +kernel, rfl, by decide +kernel, by decide +kernel⟩
theorem ok_exact (D : DefAt K mg "_law_exact" sExact) (B : Bt mg) (C_whole : Cal P w K mg base CX0 1 "_law_whole" ["_law_thing"] spIsW) : ∀ d : Nat, Cal P w K mg base CX0 (2 + d) "_law_exact" ["_law_told", "_law_due"] (spExact K d) := by
  intro d
  induction d with
  | zero =>
    refine D.cal (fun _ _ _ _ _ _ us hl => match us, hl with | [_, _], _ => rfl) fun f fd F => ?_
    constructor
    · rintro vs H Q E ⟨_, _, _, _, _, _, h, _⟩
      exact absurd h (Nat.not_lt_zero _)
    · intros
      rename_i h
      obtain ⟨_, _, _, _, _, _, h, _⟩ := h
      exact absurd h (Nat.not_lt_zero _)
  | succ d C_exact =>
    replace C_whole := Cal.mono C_whole (show 1 ≤ 2 + d by omega)
    refine D.cal (fun _ _ _ _ _ _ us hl => match us, hl with | [_, _], _ => rfl) fun f fd F => ?_
    refine F.ok scExact (fun vs H Q E h => ?_) (fun cdv A outer s H vs Q E HR h => ?_)
    · obtain ⟨u, v, t, rfl, _⟩ := h
      rfl
    · obtain ⟨u, v, t, rfl, au, av, dt, nr, q⟩ := h
      refine ⟨_, (pss_cons (ps_if (pt_val (pe_callB call_isi (by rfl) B.isi (by decide +kernel) (pa_cons (pv 1) (pa_cons (pe_bltn (v := .ty "tuple") (by rfl) B.tuple (by decide +kernel) rfl) pa_nil)))) (pss_cons (ps_if (PW.pt (pw_or (pt_not (pt_val (pe_callB call_isi (by rfl) B.isi (by decide +kernel) (pa_cons (pv 0) (pa_cons (pe_bltn (v := .ty "tuple") (by rfl) B.tuple (by decide +kernel) rfl) pa_nil))))) (pw_or1 (pt_cmpR op_ne (pe_callB call_len_seq (by rfl) B.len PySem.boot_len (pa_cons (pv 0) pa_nil)) (pe_callB call_len_seq (by rfl) B.len PySem.boot_len (pa_cons (pv 1) pa_nil)) (nomark _))))) (pss_one (ps_ret pe_bl)) pss_nil)
  (pss_one (ps_ret (pe_callB (cr_all rfl) (by rfl) B.all (by decide +kernel) (pa_cons (pe_lc (own := [("_law_k", 2)]) (g := gName 2) (tt := tYes) (te := tCal (spExact K d) E0 (tCons (tOp (rIxT K) (tVar 0) (tVar 2)) (tCons (tOp (rIxT K) (tVar 1) (tVar 2)) tNil))) rfl scExact.nd (pi_range1 (by rfl) B.range (pa_cons (pe_callB call_len_seq (by rfl) B.len PySem.boot_len (pa_cons (pv 1) pa_nil)) pa_nil)) (blkOk_by (own := [("_law_k", 2)]) (N := ["_law_told", "_law_due", "_law_k"]) (sc := defScope sExact) (by decide +kernel)) (fun _ _ _ _ _ => (pg_name (i := 2) scExact.nd rfl (Or.inl rfl))) (fun _ _ _ _ _ => pts_nil) (fun _ _ _ _ _ => (pe_cal C_exact (by rfl) HR pass0 (pa_cons (pe_ix ix_tup (pv 0) (pv 2) (fun _ _ => rfl)) (pa_cons (pe_ix ix_tup (pv 1) (pv 2) (fun _ _ => rfl)) pa_nil))))) pa_nil))))) pss_nil)
  (pss_one (ps_ret (pe_and (pe_cal C_whole (by rfl) HR pass0 (pa_cons (pv 0) pa_nil)) (pe_one (pe_cmpR op_eq (pv 0) (pv 1) (nomark _))))))), ?_⟩
      walk_at "go"
      cases t with
      | i n =>
        rw [int_at au, int_at av]
        refine ⟨_, _, .ty "tuple", tyInt n, false, kit_ty (by decide +kernel), ?_⟩
        rw [if_neg (by decide)]
        refine ⟨n, rfl, true, rfl, ?_⟩
        rw [if_pos rfl, rEq_int, decide_eq_true rfl]
        exact q H (Same.refl _)
      | t xs =>
        obtain ⟨a, us, rfl, ha, aus⟩ := tup_at au
        obtain ⟨b, vs, rfl, hb, avs⟩ := tup_at av
        have eqn : us.length = vs.length := by rw [aus.length, avs.length]
        obtain ⟨nl, nm⟩ : xs.length ≤ 83000 ∧ ∀ x ∈ xs, Nar x := by
          cases nr with
          | t a b => exact ⟨a, b⟩
        have lxs : vs.length ≤ 83000 := by rw [← avs.length] at nl; exact nl
        have dxs : ∀ x ∈ xs, x.dep < d := fun x m => by
          rw [Tr.dep_t] at dt
          exact Nat.lt_of_le_of_lt (dep_mem m) (by omega)
        refine ⟨_, _, .ty "tuple", tyTup hb, true, kit_ty (by decide +kernel), ?_⟩
        rw [if_pos rfl]
        refine ⟨_, _, .ty "tuple", tyTup ha, true, kit_ty (by decide +kernel), ?_⟩
        rw [if_neg (by decide)]
        refine ⟨a, rfl, us, .inr ha, b, rfl, vs, .inr hb, ?_⟩
        rw [if_neg (by rw [eqn]; simp)]
        refine ⟨b, rfl, vs, .inr hb, by omega, by omega, ?_⟩
        refine lpC_by wk_range (fun D i H2 => H D = none ∧ Same H H2 ∧ H2 D = some (.lst ((List.replicate i true).map V.bl))) (fun D nD => ⟨nD, same_new nD, upd_same⟩) (fun _ _ _ _ _ => trivial) ?_ ?_
        · rintro D i y H2' H2 hi ⟨nD, s2, e2⟩ ⟨rfl, rfl⟩
          walk_at "go"
          have ui : i < us.length := by rw [eqn]; omega
          obtain ⟨x, hx, ax⟩ := aus.get (List.getElem?_eq_getElem ui)
          obtain ⟨y, hy, ay⟩ := avs.get' hx
          rw [Int.zero_add]
          refine ⟨us, ha.kt (Kt.same s2), _, atI_nat (List.getElem?_eq_getElem ui), vs, hb.kt (Kt.same s2), y, atI_nat hy, _, _, x, rfl, ax.kt (Kt.same s2), ay.kt (Kt.same s2), dxs x (List.mem_of_getElem? hx), nm x (List.mem_of_getElem? hx), fun H3 s3 => ?_⟩
          refine ⟨_, s3 _ _ e2, ?_, nD, fun b o z => by rw [upd_ne (ne_of_none z nD)]; exact s3 _ _ (s2 b o z), ?_⟩
          · rw [List.length_map, List.length_replicate]
            exact Nat.lt_of_lt_of_le (Nat.lt_of_lt_of_le hi (by omega : _ ≤ 83000)) (by decide)
          · rw [upd_same, rep_snoc]
        · rintro D H2 nD ⟨_, s2, e2⟩
          refine ⟨D, _, rfl, SqL.of e2, ?_⟩
          rw [show (List.replicate (↑vs.length : Int).toNat true).all id = true by simp]
          exact q H2 s2
end


set_option Elab.async false
set_option linter.all false
set_option maxRecDepth 100000
set_option maxHeartbeats 4000000
open PySem L2 StX


theorem asc_of : ∀ {us : List Tr}, us.Pairwise (fun x y => Tr.lt y x = false) → us.Nodup → (∀ y ∈ us, ∀ z ∈ us, Tr.Ak y z) → Tr.Asc us
  | [], _, _, _ => List.Pairwise.nil
  | x :: us, p, n, a => by
    obtain ⟨p1, p2⟩ := List.pairwise_cons.mp p
    obtain ⟨n1, n2⟩ := List.nodup_cons.mp n
    refine List.pairwise_cons.mpr ⟨fun y m => ?_, asc_of p2 n2 fun y hy z hz => a y (List.mem_cons_of_mem _ hy) z (List.mem_cons_of_mem _ hz)⟩
    cases e : Tr.lt x y with
    | true => rfl
    | false => exact absurd (Tr.lt_tot (a x List.mem_cons_self y (List.mem_cons_of_mem _ m)) e (p1 y m)) fun e => n1 (by rw [e]; exact m)
theorem cut_take (ws : List V) (i : Nat) : cutV ws none (some (i : Int)) = ws.take i := by
  unfold cutV
  rw [HT.sIx_none, HT.sIx_nat, List.drop_zero, Nat.sub_zero]
  by_cases h : i ≤ ws.length
  · rw [Nat.min_eq_left h]
  · rw [Nat.min_eq_right (by omega), List.take_length, List.take_of_length_le (by omega)]
theorem Ats.take {K : PySem.W.Frag} {H : Hp} : ∀ {vs : List V} {xs : List Tr}, Ats K H vs xs → ∀ i, Ats K H (vs.take i) (xs.take i)
  | _, _, .nil, i => by simp; exact .nil
  | _, _, .cons a b, 0 => .nil
  | _, _, .cons a b, i + 1 => .cons a (Ats.take b i)
theorem Ats.drop {K : PySem.W.Frag} {H : Hp} : ∀ {vs : List V} {xs : List Tr}, Ats K H vs xs → ∀ i, Ats K H (vs.drop i) (xs.drop i)
  | _, _, .nil, i => by simp; exact .nil
  | _, _, .cons a b, 0 => .cons a b
  | _, _, .cons a b, i + 1 => Ats.drop b i
def spUnlike (K : PySem.W.Frag) : Sp := fun vs H Q _ => ∃ a xs, vs = [.ref a] ∧ LsAt K H a xs ∧ (∀ x ∈ xs, Tr.WL 40 x) ∧ xs.length ≤ 83000 ∧ ∀ p us H', Same H H' → At K H' (.ref p) (.t us) → Tr.Asc us → (∀ z, z ∈ us ↔ z ∈ xs) → Q (.ref p) H'
def spPartsD (K : PySem.W.Frag) : Sp := fun vs H Q _ => ∃ v w, vs = [v] ∧ At K H v w ∧ Tr.WL 40 w ∧ (Tr.held w).length ≤ 107 ∧ ∀ p us H', Same H H' → At K H' (.ref p) (.t us) → Tr.Asc us → (∀ z, z ∈ us ↔ z ∈ Tr.held w) → Q (.ref p) H'
section
variable {P : Program} {w : World} {K : PySem.W.Frag} {mg : Str → Option Value} {base : Heap}
theorem scUnlike : FnScope ["_law_worths", "_law_k", "_law_worth"] ["_law_worths"] (defScope sUnlike) := ⟨rfl, rfl, rfl, by decide +kernel, rfl, by decide +kernel, by decide +kernel⟩
theorem ok_unlike (D : DefAt K mg "_law_unlike" sUnlike) (B : Bt mg) : Cal P w K mg base CX0 1 "_law_unlike" ["_law_worths"] (spUnlike K) := by
  refine D.cal (fun _ _ _ _ _ _ us hl => match us, hl with | [_], _ => rfl) fun f fd F => ?_
  refine F.ok scUnlike (fun vs H Q E h => ?_) (fun cdv A outer s H vs Q E HR h => ?_)
  · obtain ⟨a, xs, rfl, _⟩ := h
    rfl
  · obtain ⟨a, xs, rfl, ⟨ws, ea, aw⟩, wl, hl, k⟩ := h
    refine ⟨_, (pss_one (ps_ret (pe_callTy call_tuple_of (by rfl) B.tuple (by decide +kernel) (pa_cons (pe_callB (cr_sortD (Room.u70 HR)) (by rfl) B.sorted (by decide +kernel) (pa_cons (pe_lc (own := [("_law_k", 1), ("_law_worth", 2)]) (g := gTup K 2 (gCons (gName 1) (gCons (gName 2) gNil))) (tt := (tTest (tOp (rNiT K) (tVar 2) (L2.tSl (rSlL K) (tVar 0) tNoPart (tPart (tVar 1)))))) rfl scUnlike.nd (pi_enum (by rfl) B.enum (pa_cons (pv 0) pa_nil)) (blkOk_by (own := [("_law_k", 1), ("_law_worth", 2)]) (N := ["_law_worths", "_law_k", "_law_worth"]) (sc := defScope sUnlike) (by decide +kernel)) (fun _ _ _ _ _ => (pg_tup (n := 2) rfl (pgs_cons (pg_name (i := 1) scUnlike.nd rfl (Or.inl rfl)) (pgs_cons (pg_name (i := 2) scUnlike.nd rfl (Or.inl rfl)) pgs_nil)))) (fun _ _ _ _ _ => pts_one (pt_cmpR (op_niT (Room.u70 HR)) (pv 2) (pe_slice sl_list (pv 0) po_none (po_some (pv 1))) (by rfl))) (fun _ _ _ _ _ => (pv 2))) pa_nil)) pa_nil)))), ?_⟩
    walk_at "go"
    have lw : ws.length ≤ 83000 := by rw [aw.length]; exact hl
    refine lpC_by (wk_enum (xs := ws)) (fun D i H2 => H D = none ∧ Same H H2 ∧ ∃ ys, LsAt K H2 D ys ∧ ys.length ≤ i ∧ ys.Nodup ∧ ∀ z, z ∈ ys ↔ z ∈ xs.take i) (fun D nD => ⟨nD, same_new nD, [], ⟨[], upd_same, .nil⟩, Nat.zero_le _, List.nodup_nil, fun z => by simp⟩)
      (fun D i H2 _ p => SqL.of (p.2.1 _ _ ea)) ?_ ?_
    · rintro D i y H2 H3 hi ⟨nD, s2, ys, ⟨dvs, eD, aD⟩, ly, nd, mem⟩ ⟨T, x, rfl, nT, rfl, hx⟩
      obtain ⟨u, hu, au⟩ := aw.get hx
      have s3 : Same H (upd H2 T (.tup [.int (i : Nat), x])) := s2.trans (same_new nT)
      walk_at "go"
      refine ⟨a, ws, rfl, SqL.of (s3 _ _ ea), fun q nq => ?_⟩
      have s4 := s3.trans (same_new (o := .lst (cutV ws none (some (i : Int)))) nq)
      have eD4 : upd (upd H2 T (.tup [.int (i : Nat), x])) q (.lst (cutV ws none (some (i : Int)))) D = some (.lst dvs) := ((same_new nT).trans (same_new nq)) _ _ eD
      have aD4 := (aD.kt (Kt.new (o := .tup [.int (i : Nat), x]) nT)).kt (Kt.new (o := .lst (cutV ws none (some (i : Int)))) nq)
      have tk : xs.take (i + 1) = xs.take i ++ [u] := by rw [List.take_add_one, hu]; rfl
      have au4 := au.kt (Kt.same s4)
      refine ⟨u, xs.take i, au4, ⟨q, _, rfl, .inl (SqL.of upd_same), ?_⟩, Nat.le_trans (wl u (List.mem_of_getElem? hu)).dep_le (by decide), _, rfl, ?_⟩
      · have q4 := (Ats.take aw i).kt (Kt.same s4)
        rw [← cut_take ws i] at q4
        exact q4
      · by_cases e : u ∈ xs.take i
        · rw [if_neg (by simpa using e)]
          refine ⟨nD, s4, ys, ⟨dvs, eD4, aD4⟩, by omega, nd, fun z => ?_⟩
          rw [mem z, tk, List.mem_append, List.mem_singleton]
          exact ⟨.inl, fun h => h.elim id fun h => by rw [h]; exact e⟩
        · rw [if_pos (by simpa using e)]
          have r := acc_put (K := K) nD s4 eD4 aD4 au4
          refine ⟨dvs, eD4, ?_, nD, r.1, ys ++ [u], r.2, by rw [List.length_append]; simp; omega, ?_, fun z => ?_⟩
          · rw [aD.length]
            exact Nat.lt_of_le_of_lt (Nat.le_trans ly (by omega : i ≤ 83000)) (by decide)
          · exact List.nodup_append.mpr ⟨nd, by simp, fun y hy z hz => by
              rw [List.mem_singleton.mp hz]
              exact fun h => e ((mem u).mp (h ▸ hy))⟩
          · rw [tk, List.mem_append, List.mem_append, mem z]
    · rintro D H2 nD ⟨_, s2, ys, ⟨dvs, eD, aD⟩, ly, nd, mem⟩
      rw [aw.length, List.take_length] at mem
      have wy : ∀ z ∈ ys, Tr.WL 40 z := fun z m => wl z ((mem z).mp m)
      refine ⟨D, dvs, ys, rfl, .inl (SqL.of eD), aD, fun y hy z hz => (wy y hy).ak (wy z hz), sortOk_w fun y hy => shape_w (wy y hy), fun y hy => Nat.le_trans (wy y hy).dep_le (by decide), fun p us vs np pr pw av => ?_⟩
      walk_at "go"
      refine ⟨vs, .inl ⟨SqL.of upd_same, fun l nl => ?_⟩⟩
      refine k l us _ ((s2.trans (same_new np)).trans (same_new nl)) (at_tup (SqT.of upd_same) ((av.kt (Kt.new np)).kt (Kt.new nl))) (asc_of pw (pr.nodup_iff.mpr nd) fun y hy z hz => (wy y (pr.mem_iff.mp hy)).ak (wy z (pr.mem_iff.mp hz))) fun z => ?_
      rw [pr.mem_iff, mem z]
theorem scPartsD : FnScope ["_law_worth", "_law_told", "_law_turn"] ["_law_worth"] (defScope sPartsD) := ⟨rfl, rfl, rfl, by decide +kernel, rfl, by decide +kernel, by decide +kernel⟩
theorem ok_partsD (D : DefAt K mg "_law_parts_due" sPartsD) (B : Bt mg) (C_unlike : Cal P w K mg base CX0 1 "_law_unlike" ["_law_worths"] (spUnlike K)) : Cal P w K mg base CX0 2 "_law_parts_due" ["_law_worth"] (spPartsD K) := by
  refine D.cal (fun _ _ _ _ _ _ us hl => match us, hl with | [_], _ => rfl) fun f fd F => ?_
  refine F.ok scPartsD (fun vs H Q E h => ?_) (fun cdv A outer s H vs Q E HR h => ?_)
  · obtain ⟨v, x, rfl, _⟩ := h
    rfl
  · obtain ⟨v, x, rfl, hx, hw, hl, k⟩ := h
    refine ⟨_, (pss_cons (ps_set (i := 1) scPartsD.nd rfl (Or.inl rfl) (pe_ifExp (pt_cmpR op_eq (pe_ix ix_tup (pe_ix ix_tup (pv 0) pe_int (fun _ _ => rfl)) pe_int (fun _ _ => rfl)) pe_int (nomark _)) (pe_callTy call_list_of (by rfl) B.list (by decide +kernel) (pa_cons (pe_ix ix_tup (pe_ix ix_tup (pv 0) pe_int (fun _ _ => rfl)) pe_int (fun _ _ => rfl)) pa_nil)) (pe_lst pa_nil)))
  (pss_cons (ps_for PassesOwn.never rfl (pi_tup (pe_ix ix_tup (pv 0) pe_int (fun _ _ => rfl))) (pg_name (i := 2) scPartsD.nd rfl (Or.inl rfl)) (pss_one (ps_set (i := 1) scPartsD.nd rfl (Or.inl rfl) (pe_op op_cat (pv 1) (pe_callTy call_list_of (by rfl) B.list (by decide +kernel) (pa_cons (pe_ix ix_tup (pv 2) pe_int (fun _ _ => rfl)) pa_nil))))))
  (pss_one (ps_ret (pe_cal C_unlike (by rfl) HR pass0 (pa_cons (pv 1) pa_nil)))))), ?_⟩
    obtain ⟨b, bag, rfl, hb, hl7, ht⟩ := id hw
    obtain ⟨a, vs0, rfl, h0, a0⟩ := tup_at hx
    cases a0 with
    | @cons vb _ _ _ ab a0 =>
    cases a0 with
    | cons abag a0 =>
    cases a0
    obtain ⟨ga, gvs, rfl, hg, ag⟩ := tup_at abag
    have fin : ∀ (l : Addr) (H1 : Hp) (v1 : Option V), LsAt K H1 l (Tr.heldB b) → Same H H1 → Lp (gName 2)
          (tAsg (tOp rCat (tVar 1) (tCB (fun xs H Q => ∃ p, xs = [.ref p] ∧ ∃ ys, (SqL K H p ys ∨ SqT K H p ys) ∧ ∀ l, H l = none → Q (.ref l) (upd H l (.lst ys))) (tCons (tOp (rIxT K) (tVar 2) (tC (.int 1))) tNil))) (gName 1))
          { nx := tRet (tCal (spUnlike K) E0 (tCons (tVar 1) tNil)) { nx := fun x H' => Q V.non H', rt := Q }, rt := Q } [some (.ref a), some (.ref l), v1] (Itt K ga) H1 := by
      intro l H1 v1 hl1 s1
      have cap : ∀ i, (Tr.heldB b ++ (bag.take i).flatMap Tr.heldT).length ≤ 107 := fun i => by
        have q := (Tr.flat_sub (f := Tr.heldT) (List.take_sublist i bag)).length_le
        rw [Tr.held_wor, List.length_append] at hl
        rw [List.length_append]
        omega
      refine lp_by (wk_tup (xs := gvs)) (fun i σ H2 => ∃ l' t, σ = [some (.ref a), some (.ref l'), t] ∧ Same H H2 ∧ LsAt K H2 l' (Tr.heldB b ++ (bag.take i).flatMap Tr.heldT)) ⟨l, v1, rfl, s1, by simpa using hl1⟩ (fun i σ H2 _ ⟨_, _, _, s2, _⟩ => hg.kt (Kt.same s2)) ?_ ?_
      · rintro i y σ H2' H2 hi ⟨l', t, rfl, s2, vs2, e2, a2⟩ ⟨rfl, hy⟩
        obtain ⟨x, hxi, ax⟩ := ag.get hy
        have tk : bag.take (i + 1) = bag.take i ++ [x] := by rw [List.take_add_one, hxi]; rfl
        obtain ⟨m, ws, rfl, _⟩ := ht x (List.mem_of_getElem? hxi)
        obtain ⟨ta, tvs, rfl, hta, atv⟩ := tup_at ax
        cases atv with
        | cons am atv =>
        cases atv with
        | cons aws atv =>
        cases atv
        obtain ⟨wa, wvs, rfl, hwa, awv⟩ := tup_at aws
        have e3 : Tr.heldB b ++ (bag.take (i + 1)).flatMap Tr.heldT = (Tr.heldB b ++ (bag.take i).flatMap Tr.heldT) ++ ws := by
          rw [tk, List.flatMap_append, ← List.append_assoc]
          simp [Tr.heldT, Tr.trn]
        have c3 := cap (i + 1)
        rw [e3, List.length_append, ← a2.length, ← awv.length] at c3
        walk_at "go"
        refine ⟨_, hta.kt (Kt.same s2), _, rfl, wa, rfl, wvs, .inr (hwa.kt (Kt.same s2)), fun l2 nl2 => ?_⟩
        refine ⟨l', l2, vs2, wvs, rfl, rfl, (same_new nl2) _ _ e2, upd_same, Nat.le_trans c3 (by decide), fun l3 nl3 => ?_⟩
        refine ⟨l3, rfl, (s2.trans (same_new nl2)).trans (same_new nl3), _, upd_same, ?_⟩
        rw [e3]
        exact (((a2.kt (Kt.new nl2)).append ((awv.kt (Kt.same s2)).kt (Kt.new nl2)))).kt (Kt.new nl3)
      · rintro σ H2 ⟨l', t, rfl, s2, ls2⟩
        rw [ag.length, List.take_length] at ls2
        walk_at "go"
        exact ⟨l', _, rfl, ls2, fun z m => hw.part m, Nat.le_trans hl (by decide), fun p us H3 s3 ap asc mem => k p us H3 (s2.trans s3) ap asc mem⟩
    rcases hb with ⟨c, rfl⟩ | ⟨m, ws, rfl, hws⟩
    · obtain ⟨ba, bvs, rfl, hba, abv⟩ := tup_at ab
      cases abv with
      | cons a1 abv =>
      cases abv with
      | cons a2 abv =>
      cases abv
      rw [int_at a1] at hba
      walk_at "go"
      refine ⟨_, h0, _, rfl, ba, rfl, _, hba, _, rfl, ?_⟩
      walk_at "go"
      rw [if_neg (by decide)]
      refine ⟨Nat.zero_le _, fun l nl => ⟨_, h0.kt (Kt.new nl), _, rfl, ga, rfl, ⟨_, hg.kt (Kt.new nl)⟩, fin l _ _ ⟨[], upd_same, .nil⟩ (same_new nl)⟩⟩
    · obtain ⟨ba, bvs, rfl, hba, abv⟩ := tup_at ab
      cases abv with
      | cons a1 abv =>
      cases abv with
      | cons a2 abv =>
      cases abv with
      | cons a3 abv =>
      cases abv
      rw [int_at a1] at hba
      obtain ⟨wa, wvs, rfl, hwa, awv⟩ := tup_at a3
      walk_at "go"
      refine ⟨_, h0, _, rfl, ba, rfl, _, hba, _, rfl, ?_⟩
      walk_at "go"
      refine ⟨_, h0, _, rfl, ba, rfl, _, hba, _, rfl, wa, rfl, wvs, .inr hwa, fun l nl => ?_⟩
      refine ⟨_, h0.kt (Kt.new nl), _, rfl, ga, rfl, ⟨_, hg.kt (Kt.new nl)⟩, fin l _ _ ⟨wvs, upd_same, awv.kt (Kt.new nl)⟩ (same_new nl)⟩
end


set_option Elab.async false
set_option linter.all false
set_option maxRecDepth 100000
set_option maxHeartbeats 4000000
open PySem L2 StX


def spWhole (K : PySem.W.Frag) : Sp := fun vs H Q _ => ∃ v lo hi x, vs = [v, .int lo, .int hi] ∧ ThAt K H v x ∧ Q (.bl (x.isW lo hi)) H
def spTurnQ (K : PySem.W.Frag) : Sp := fun vs H Q _ => ∃ v x, vs = [v] ∧ ThAt K H v x ∧ Q (.bl x.isTurn) H
def spBaseQ (K : PySem.W.Frag) : Sp := fun vs H Q _ => ∃ v x, vs = [v] ∧ ThAt K H v x ∧ ∀ H', Same H H' → Q (.bl x.isBase) H'
def spFormQ (K : PySem.W.Frag) : Sp := fun vs H Q _ => ∃ v x, vs = [v] ∧ ThAt K H v x ∧ x.sz ≤ 80000 ∧ ∀ H', Same H H' → Q (.bl x.form) H'
theorem ite_t {c A B : Prop} [Decidable c] (h : c) (a : A) : if c then A else B := by rw [if_pos h]; exact a
theorem ite_f {c A B : Prop} [Decidable c] (h : ¬ c) (b : B) : if c then A else B := by rw [if_neg h]; exact b
theorem thAts2 {K : PySem.W.Frag} {H : Hp} {vs : List V} {x y : Th} (h : ThAts K H vs [x, y]) : ∃ v w, ThAt K H v x ∧ ThAt K H w y ∧ vs = [v, w] := by
  cases h with
  | cons a h =>
  cases h with
  | cons b h =>
  cases h
  exact ⟨_, _, a, b, rfl⟩
theorem turn_len {xs : List Th} (h : ¬ xs.length = 2) : Th.isTurn (.t xs) = false := by
  unfold Th.isTurn
  split
  · rename_i e
    injection e with e
    subst e
    exact absurd rfl h
  · rfl
section
variable {P : Program} {w : World} {K : PySem.W.Frag} {mg : Str → Option Value} {base : Heap}
theorem scWhole : FnScope ["thing", "low", "high"] ["thing", "low", "high"] (defScope sWhole) := ⟨rfl, rfl, rfl, by decide +kernel, rfl, by decide +kernel, by decide +kernel⟩
theorem ok_whole (D : DefD K mg "is_whole" sWhole [.non, .non]) (B : Bt mg) : Cal P w K mg base CX0 1 "is_whole" ["thing", "low", "high"] (spWhole K) := by
  obtain ⟨f, fd, F, hm⟩ := D.ex
  refine ⟨f, fd, ?_, hm, F.kp, ?_⟩
  · refine F.ok scWhole (fun vs H Q E h => ?_) (fun cdv A outer s H vs Q E hr h => ?_)
    · obtain ⟨v, lo, hi, x, rfl, _⟩ := h
      rfl
    · obtain ⟨v, lo, hi, x, rfl, hx, q⟩ := h
      refine ⟨_, PSs.nox (pss_cons (ps_if (PW.pt (pw_or (pt_not (pt_val (pe_callB call_isi (by rfl) B.isi (by decide +kernel) (pa_cons (pv 0) (pa_cons (pe_bltn (v := .ty "int") (by rfl) B.int (by decide +kernel) rfl) pa_nil))))) (pw_or1 (pt_val (pe_callB call_isi (by rfl) B.isi (by decide +kernel) (pa_cons (pv 0) (pa_cons (pe_bltn (v := .ty "bool") (by rfl) B.bool (by decide +kernel) rfl) pa_nil))))))) (pss_one (ps_ret pe_bl)) pss_nil)
  (pss_one (ps_ret (pe_and (pe_or (pe_cmpR op_isN (pv 1) pe_non (nomark _)) (pe_one (pe_cmpR op_ge (pv 0) (pv 1) (nomark _)))) (pe_one (pe_or (pe_cmpR op_isN (pv 2) pe_non (nomark _)) (pe_one (pe_cmpR op_le (pv 0) (pv 2) (nomark _))))))))), ?_⟩
      walk_at "rd"
      rcases hx.num with ⟨n, rfl, rfl⟩ | ⟨_, e, b, rfl⟩ | ⟨e, t, ty, k⟩
      · refine ⟨_, _, .ty "int", tyInt n, true, kit_ty (by decide +kernel), ?_⟩
        rw [if_neg (by decide)]
        refine ⟨_, _, .ty "bool", tyInt n, false, kit_ty (by decide +kernel), ?_⟩
        rw [if_neg (by decide)]
        walk_at "rd"
        refine ite2 (fun e => ?_) (fun e => ?_)
        · simpa [Th.isW, e] using q
        · simpa [Th.isW, e] using q
      · rw [e] at q
        refine ⟨_, _, .ty "int", .base (.bl b), true, kit_ty (by decide +kernel), ?_⟩
        rw [if_neg (by decide)]
        refine ⟨_, _, .ty "bool", .base (.bl b), true, kit_ty (by decide +kernel), ?_⟩
        rw [if_pos rfl]
        exact q
      · rw [e] at q
        refine ⟨_, _, .ty "int", ty, false, k, ?_⟩
        rw [if_pos rfl]
        exact q
  · obtain ⟨ds, hd, hb⟩ := F.binds1 (ps := ["thing", "low", "high"]) 3 2 (by simp) (by simp) (fun T kV doc pm an cdv ct us its h1 h2 => by
      match its, h2 with
      | [d1, d2], _ =>
        match us, h1 with
        | [u1, u2, u3], _ => exact ⟨_, rfl, rfl⟩)
    cases hd
    exact hb
theorem scTurn : FnScope ["thing", "name", "worths"] ["thing"] (defScope sTurn) := ⟨rfl, rfl, rfl, by decide +kernel, rfl, by decide +kernel, by decide +kernel⟩
theorem ok_turn (D : DefAt K mg "_is_turn" sTurn) (B : Bt mg) (Cis_whole : Cal P w K mg base CX0 1 "is_whole" ["thing", "low", "high"] (spWhole K)) : Cal P w K mg base CX0 2 "_is_turn" ["thing"] (spTurnQ K) := by
  obtain ⟨_, gName⟩ := B.name
  obtain ⟨_, gMost⟩ := B.most
  refine D.cal (fun _ _ _ _ _ _ us hl => match us, hl with | [_], _ => rfl) fun f fd F => ?_
  refine F.ok scTurn (fun vs H Q E h => ?_) (fun cdv A outer s H vs Q E HR h => ?_)
  · obtain ⟨v, x, rfl, _⟩ := h
    rfl
  · obtain ⟨v, x, rfl, hx, q⟩ := h
    refine ⟨_, (pss_cons (ps_if (PW.pt (pw_or (pt_not (pt_val (pe_callB call_isi (by rfl) B.isi (by decide +kernel) (pa_cons (pv 0) (pa_cons (pe_bltn (v := .ty "tuple") (by rfl) B.tuple (by decide +kernel) rfl) pa_nil))))) (pw_or1 (pt_cmpR op_ne (pe_callB call_len_seq (by rfl) B.len PySem.boot_len (pa_cons (pv 0) pa_nil)) pe_int (nomark _))))) (pss_one (ps_ret pe_bl)) pss_nil)
  (pss_cons (ps_asg (pv 0) (pg_tup (n := 2) rfl (pgs_cons (pg_name (i := 1) scTurn.nd rfl (Or.inl rfl)) (pgs_cons (pg_name (i := 2) scTurn.nd rfl (Or.inl rfl)) pgs_nil))))
  (pss_one (ps_ret (pe_and (pe_cal Cis_whole (by rfl) HR pass0 (pa_cons (pv 1) (pa_cons pe_int (pa_cons (pe_glob (v := .int 99) (by rfl) gName ⟨_, rfl⟩) pa_nil)))) (pe_and (pe_callB call_isi (by rfl) B.isi (by decide +kernel) (pa_cons (pv 2) (pa_cons (pe_bltn (v := .ty "tuple") (by rfl) B.tuple (by decide +kernel) rfl) pa_nil))) (pe_one (pe_cmpR op_le (pe_callB call_len_seq (by rfl) B.len PySem.boot_len (pa_cons (pv 2) pa_nil)) (pe_glob (v := .int 4) (by rfl) gMost ⟨_, rfl⟩) (nomark _))))))))), ?_⟩
    walk_at "go"
    obtain ⟨t, ty, k⟩ := hx.tup
    refine ⟨_, _, .ty "tuple", ty, _, k, ?_⟩
    have dn : ∀ {b : Bool}, b = false → x.isTurn = b → Q (.bl false) H := fun h e => by rw [h] at e; rw [e] at q; exact q
    cases hx with
    | i n => exact ite_t rfl q
    | o _ => exact ite_t rfl q
    | @t a vs xs hs hA =>
      refine ite_f (by simp [Th.isTup]) ⟨a, rfl, vs, .inr hs, ?_⟩
      have le := hA.length
      by_cases l : xs.length = 2
      · obtain ⟨n, y, rfl⟩ : ∃ n y, xs = [n, y] := by
          match xs, l with
          | [n, y], _ => exact ⟨n, y, rfl⟩
        obtain ⟨vn, vy, hn, hy, rfl⟩ := thAts2 hA
        refine ite_f (by simp) ⟨a, rfl, _, hs, rfl, _, _, rfl, _, _, rfl, rfl, ?_⟩
        refine ⟨vn, 0, 99, n, rfl, hn, _, rfl, ?_⟩
        cases e : n.isW 0 99 with
        | false => exact ite_f (by decide) (dn rfl (by cases y <;> simp [Th.isTurn, e]))
        | true =>
          refine ite_t rfl ?_
          obtain ⟨t2, ty2, k2⟩ := hy.tup
          refine ⟨_, _, .ty "tuple", ty2, _, k2, ?_⟩
          cases hy with
          | i m => exact ite_f (by simp [Th.isTup]) (dn rfl rfl)
          | o _ => exact ite_f (by simp [Th.isTup]) (dn rfl rfl)
          | @t b ws ys hb hB =>
            refine ite_t rfl ⟨b, rfl, ws, .inr hb, ?_⟩
            have q' : Q (.bl (n.isW 0 99 && decide (ys.length ≤ 4))) H := q
            rw [e, Bool.true_and, ← hB.length] at q'
            rw [show decide (((ws.length : Nat) : Int) ≤ 4) = decide (ws.length ≤ 4) by simp only [decide_eq_decide]; omega]
            exact q'
      · exact ite_t (by rw [le]; omega) (dn rfl (turn_len l))
end


set_option Elab.async false
set_option linter.all false
set_option maxRecDepth 100000
set_option maxHeartbeats 4000000
open PySem L2 StX


theorem base_len {xs : List Th} (h : xs.length < 2) : Th.isBase (.t xs) = false := by
  unfold Th.isBase
  split
  · rename_i e
    injection e with e
    subst e
    exact absurd h (by simp)
  · rfl
theorem thAts2c {K : PySem.W.Frag} {H : Hp} {vs : List V} {x y : Th} {r : List Th} (h : ThAts K H vs (x :: y :: r)) : ∃ v w ws, ThAt K H v x ∧ ThAt K H w y ∧ ThAts K H ws r ∧ vs = v :: w :: ws := by
  cases h with
  | cons a h =>
  cases h with
  | cons b h => exact ⟨_, _, _, a, b, h, rfl⟩
theorem cut_drop (ws : List V) (i : Nat) (h : i < ws.length) : cutV ws (some ((i : Int) + 1)) none = ws.drop (i + 1) := by
  unfold cutV
  have e : ((i : Int) + 1) = ((i + 1 : Nat) : Int) := by omega
  rw [e, HT.sIx_none, HT.sIx_nat, Nat.min_eq_left (by omega)]
  exact List.take_of_length_le (by rw [List.length_drop]; omega)
section
variable {P : Program} {w : World} {K : PySem.W.Frag} {mg : Str → Option Value} {base : Heap}
theorem scBase : FnScope ["thing"] ["thing"] (defScope sBase) := ⟨rfl, rfl, rfl, by decide +kernel, rfl, by decide +kernel, by decide +kernel⟩
theorem ok_base (D : DefAt K mg "_is_base" sBase) (B : Bt mg) (Cis_whole : Cal P w K mg base CX0 2 "is_whole" ["thing", "low", "high"] (spWhole K)) (C_is_turn : Cal P w K mg base CX0 2 "_is_turn" ["thing"] (spTurnQ K)) : Cal P w K mg base CX0 3 "_is_base" ["thing"] (spBaseQ K) := by
  obtain ⟨_, gCell⟩ := B.cell
  refine D.cal (fun _ _ _ _ _ _ us hl => match us, hl with | [_], _ => rfl) fun f fd F => ?_
  refine F.ok scBase (fun vs H Q E h => ?_) (fun cdv A outer s H vs Q E HR h => ?_)
  · obtain ⟨v, x, rfl, _⟩ := h
    rfl
  · obtain ⟨v, x, rfl, hx, q⟩ := h
    refine ⟨_, (pss_cons (ps_if (PW.pt (pw_or (pt_not (pt_val (pe_callB call_isi (by rfl) B.isi (by decide +kernel) (pa_cons (pv 0) (pa_cons (pe_bltn (v := .ty "tuple") (by rfl) B.tuple (by decide +kernel) rfl) pa_nil))))) (pw_or1 (pt_cmpR op_lt (pe_callB call_len_seq (by rfl) B.len PySem.boot_len (pa_cons (pv 0) pa_nil)) pe_int (nomark _))))) (pss_one (ps_ret pe_bl)) pss_nil)
  (pss_cons (ps_if (pt_val (pe_cal Cis_whole (by rfl) HR pass0 (pa_cons (pe_ix ix_tup (pv 0) pe_int (fun _ _ => rfl)) (pa_cons pe_int (pa_cons pe_int pa_nil))))) (pss_one (ps_ret (pe_and (pe_cmpR op_eq (pe_callB call_len_seq (by rfl) B.len PySem.boot_len (pa_cons (pv 0) pa_nil)) pe_int (nomark _)) (pe_one (pe_cal Cis_whole (by rfl) HR pass0 (pa_cons (pe_ix ix_tup (pv 0) pe_int (fun _ _ => rfl)) (pa_cons pe_int (pa_cons (pe_glob (v := .int 2) (by rfl) gCell ⟨_, rfl⟩) pa_nil)))))))) pss_nil)
  (pss_one (ps_ret (pe_and (pe_cal Cis_whole (by rfl) HR pass0 (pa_cons (pe_ix ix_tup (pv 0) pe_int (fun _ _ => rfl)) (pa_cons pe_int (pa_cons pe_int pa_nil)))) (pe_one (pe_cal C_is_turn (by rfl) HR pass0 (pa_cons (pe_slice sl_tupA (pv 0) (po_some pe_int) po_none) pa_nil)))))))), ?_⟩
    walk_at "go"
    obtain ⟨t, ty, k⟩ := hx.tup
    refine ⟨_, _, .ty "tuple", ty, _, k, ?_⟩
    have dn : x.isBase = false → Q (.bl false) H := fun h => by rw [h] at q; exact q H (Same.refl _)
    cases hx with
    | i n => exact ite_t rfl (dn rfl)
    | o _ => exact ite_t rfl (dn rfl)
    | @t a vs xs hs hA =>
      refine ite_f (by simp [Th.isTup]) ⟨a, rfl, vs, .inr hs, ?_⟩
      have le := hA.length
      by_cases l : xs.length < 2
      · exact ite_t (by rw [le]; omega) (dn (base_len l))
      · obtain ⟨x0, y0, r, rfl⟩ : ∃ x y r, xs = x :: y :: r := by
          match xs, l with
          | x :: y :: r, _ => exact ⟨x, y, r, rfl⟩
          | [x], l => exact absurd (by decide : 1 < 2) l
          | [], l => exact absurd (by decide : 0 < 2) l
        obtain ⟨va, vb, ws, ha, hb, hr, rfl⟩ := thAts2c hA
        refine ite_f (by rw [le]; simp only [List.length_cons]; omega) ⟨a, rfl, _, hs, va, atI_0, va, 0, 0, x0, rfl, ha, _, rfl, ?_⟩
        cases e : x0.isW 0 0 with
        | true =>
          refine ite_t rfl ⟨a, rfl, _, .inr hs, ?_⟩
          have q2 : ∀ H', Same H H' → Q (.bl (r.isEmpty && y0.isW 0 2)) H' := fun H' s => by
            have := q H' s
            rw [show Th.isBase (.t (x0 :: y0 :: r)) = (r.isEmpty && y0.isW 0 2) from if_pos e] at this
            exact this
          cases r with
          | nil =>
            cases hr
            exact ite_t (by simp) ⟨a, rfl, _, hs, vb, atI_1, vb, 0, 2, y0, rfl, hb, q2 H (Same.refl _)⟩
          | cons z r => exact ite_f (by rw [le]; simp only [List.length_cons]; omega) (q2 H (Same.refl _))
        | false =>
          refine ite_f (by decide) ⟨a, rfl, _, hs, va, atI_0, va, 1, 1, x0, rfl, ha, _, rfl, ?_⟩
          have q2 : ∀ H', Same H H' → Q (.bl (x0.isW 1 1 && Th.isTurn (.t (y0 :: r)))) H' := fun H' s => by
            have := q H' s
            rw [show Th.isBase (.t (x0 :: y0 :: r)) = (x0.isW 1 1 && Th.isTurn (.t (y0 :: r))) from if_neg (by rw [e]; decide)] at this
            exact this
          cases e1 : x0.isW 1 1 with
          | false => exact ite_f (by decide) (by rw [e1] at q2; exact q2 H (Same.refl _))
          | true =>
            refine ite_t rfl ⟨a, rfl, _, hs, fun z => absurd z.1 ?_, fun _ p np => ⟨.ref p, .t (y0 :: r), rfl, .t (SqT.of upd_same) ?_, ?_⟩⟩
            · rw [show (some (1 : Int)) = some ((1 : Nat) : Int) from rfl, HT.sIx_nat]
              simp only [List.length_cons]; omega
            · rw [show (some (1 : Int)) = some (((0 : Nat) : Int) + 1) from rfl, cut_drop _ 0 (by simp)]
              exact .cons (hb.kl (Kl.new np)) (hr.kl (Kl.new np))
            · rw [e1] at q2
              exact q2 _ (same_new np)
end


set_option Elab.async false
set_option linter.all false
set_option maxRecDepth 100000
set_option maxHeartbeats 4000000
open PySem L2 StX


theorem form_len {xs : List Th} (h : ¬ xs.length = 2) : Th.form (.t xs) = false := by
  unfold Th.form
  split
  · rename_i e
    injection e with e
    subst e
    exact absurd rfl h
  · rfl
section
variable {P : Program} {w : World} {K : PySem.W.Frag} {mg : Str → Option Value} {base : Heap}
theorem scForm : FnScope ["thing", "base", "bag", "turn"] ["thing"] (defScope sForm) := ⟨rfl, rfl, rfl, by decide +kernel, rfl, by decide +kernel, by decide +kernel⟩
theorem ok_form (D : DefAt K mg "_has_form" sForm) (B : Bt mg) (C_is_base : Cal P w K mg base CX0 3 "_is_base" ["thing"] (spBaseQ K)) (C_is_turn : Cal P w K mg base CX0 3 "_is_turn" ["thing"] (spTurnQ K)) : Cal P w K mg base CX0 4 "_has_form" ["thing"] (spFormQ K) := by
  refine D.cal (fun _ _ _ _ _ _ us hl => match us, hl with | [_], _ => rfl) fun f fd F => ?_
  refine F.ok scForm (fun vs H Q E h => ?_) (fun cdv A outer s H vs Q E HR h => ?_)
  · obtain ⟨v, x, rfl, _⟩ := h
    rfl
  · obtain ⟨v, x, rfl, hx, hz, q⟩ := h
    refine ⟨_, (pss_cons (ps_if (PW.pt (pw_or (pt_not (pt_val (pe_callB call_isi (by rfl) B.isi (by decide +kernel) (pa_cons (pv 0) (pa_cons (pe_bltn (v := .ty "tuple") (by rfl) B.tuple (by decide +kernel) rfl) pa_nil))))) (pw_or1 (pt_cmpR op_ne (pe_callB call_len_seq (by rfl) B.len PySem.boot_len (pa_cons (pv 0) pa_nil)) pe_int (nomark _))))) (pss_one (ps_ret pe_bl)) pss_nil)
  (pss_cons (ps_asg (pv 0) (pg_tup (n := 2) rfl (pgs_cons (pg_name (i := 1) scForm.nd rfl (Or.inl rfl)) (pgs_cons (pg_name (i := 2) scForm.nd rfl (Or.inl rfl)) pgs_nil))))
  (pss_one (ps_ret (pe_and (pe_cal C_is_base (by rfl) HR pass0 (pa_cons (pv 1) pa_nil)) (pe_and (pe_callB call_isi (by rfl) B.isi (by decide +kernel) (pa_cons (pv 2) (pa_cons (pe_bltn (v := .ty "tuple") (by rfl) B.tuple (by decide +kernel) rfl) pa_nil))) (pe_one (pe_callB (cr_all rfl) (by rfl) B.all (by decide +kernel) (pa_cons (pe_lc (own := [("turn", 3)]) (g := gName 3) (tt := tYes) (te := tCal (spTurnQ K) E0 (tCons (tVar 3) tNil)) rfl scForm.nd (pi_tup (pv 2)) (blkOk_by (own := [("turn", 3)]) (N := ["thing", "base", "bag", "turn"]) (sc := defScope sForm) (by decide +kernel)) (fun _ _ _ _ _ => (pg_name (i := 3) scForm.nd rfl (Or.inl rfl))) (fun _ _ _ _ _ => pts_nil) (fun _ _ _ _ _ => (pe_cal C_is_turn (by rfl) HR pass0 (pa_cons (pv 3) pa_nil)))) pa_nil))))))))), ?_⟩
    walk_at "go"
    obtain ⟨t, ty, k⟩ := hx.tup
    refine ⟨_, _, .ty "tuple", ty, _, k, ?_⟩
    have dn : x.form = false → Q (.bl false) H := fun h => by rw [h] at q; exact q H (Same.refl _)
    cases hx with
    | i n => exact ite_t rfl (dn rfl)
    | o _ => exact ite_t rfl (dn rfl)
    | @t a vs xs hs hA =>
      refine ite_f (by simp [Th.isTup]) ⟨a, rfl, vs, .inr hs, ?_⟩
      have le := hA.length
      by_cases l : xs.length = 2
      · obtain ⟨b, y, rfl⟩ : ∃ n y, xs = [n, y] := by
          match xs, l with
          | [n, y], _ => exact ⟨n, y, rfl⟩
        obtain ⟨vb, vy, hb, hy, rfl⟩ := thAts2 hA
        refine ite_f (by simp) ⟨a, rfl, _, hs, rfl, _, _, rfl, _, _, rfl, rfl, ?_⟩
        refine ⟨vb, b, rfl, hb, fun H1 s1 => ⟨_, rfl, ?_⟩⟩
        cases e : b.isBase with
        | false => exact ite_f (by decide) (by
            have := q H1 s1
            rw [show Th.form (.t [b, y]) = false from by cases y <;> simp [Th.form, e]] at this
            exact this)
        | true =>
          refine ite_t rfl ?_
          obtain ⟨t2, ty2, k2⟩ := (hy.kl (Kl.same s1)).tup
          refine ⟨_, _, .ty "tuple", ty2, _, k2, ?_⟩
          cases hy with
          | i m => exact ite_f (by simp [Th.isTup]) (q H1 s1)
          | o _ => exact ite_f (by simp [Th.isTup]) (q H1 s1)
          | @t c ws g hc hB =>
            have lg : ws.length ≤ 80000 := by
              rw [hB.length]
              have := Th.len_szs g
              rw [Th.sz_t, Th.szs_cons, Th.szs_cons, Th.szs_nil, Th.sz_t] at hz
              omega
            refine ite_t rfl ⟨c, rfl, ⟨_, hc.kt (Kt.same s1)⟩, ?_⟩
            refine lpC_by (wk_tup (xs := ws)) (fun D i H2 => H1 D = none ∧ Same H1 H2 ∧ H2 D = some (.lst (((g.take i).map Th.isTurn).map V.bl))) (fun D nD => ⟨nD, same_new nD, upd_same⟩) (fun D i H2 _ p => (hc.kt (Kt.same s1)).kt (Kt.same p.2.1)) ?_ ?_
            · rintro D i y H2' H2 hi ⟨nD, s2, e2⟩ ⟨rfl, hy⟩
              obtain ⟨u, hu, au⟩ := hB.get hy
              walk_at "go"
              refine ⟨y, u, rfl, au.kl (Kl.same (s1.trans s2)), _, e2, ?_, nD, fun b o z => by rw [upd_ne (ne_of_none z nD)]; exact s2 _ _ z, ?_⟩
              · rw [List.length_map, List.length_map]
                exact Nat.lt_of_le_of_lt (Nat.le_trans (List.length_take_le ..) (by omega : i ≤ 80000)) (by decide)
              · rw [upd_same, List.take_add_one, hu, List.map_append, List.map_append]
                rfl
            · rintro D H2 nD ⟨_, s2, e2⟩
              rw [hB.length, List.take_length] at e2
              refine ⟨D, _, rfl, SqL.of e2, ?_⟩
              have := q H2 (s1.trans s2)
              rw [show Th.form (.t [b, .t g]) = (b.isBase && g.all Th.isTurn) from rfl, e, Bool.true_and] at this
              rw [List.all_map]
              exact this
      · exact ite_t (by rw [le]; omega) (dn (form_len l))
end


set_option Elab.async false
set_option linter.all false
set_option maxRecDepth 100000
set_option maxHeartbeats 4000000
open PySem L2 StX


theorem flat_subG {α β : Type} {f : α → List β} : ∀ {s bag : List α}, s.Sublist bag → (s.flatMap f).Sublist (bag.flatMap f)
  | _, _, .slnil => .slnil
  | _, _, .cons x h => by rw [List.flatMap_cons]; exact (flat_subG h).trans (List.sublist_append_right ..)
  | _, _, .cons₂ x h => by rw [List.flatMap_cons, List.flatMap_cons]; exact (List.Sublist.refl _).append (flat_subG h)
/-- a list of things at p -/
def LhAt (K : PySem.W.Frag) (H : Hp) (p : Addr) (xs : List Th) : Prop := ∃ vs, H p = some (.lst vs) ∧ ThAts K H vs xs
def spHeldH (K : PySem.W.Frag) : Sp := fun vs H Q _ => ∃ v x, vs = [v] ∧ ThAt K H v x ∧ x.form = true ∧ x.sz ≤ 80000 ∧ ∀ p H', Same H H' → H p = none → LhAt K H' p (Th.held x) → Q (.ref p) H'
section
variable {P : Program} {w : World} {K : PySem.W.Frag} {mg : Str → Option Value} {base : Heap}
theorem ok_heldH (D : DefAt K mg "_held_worths" sHeld) (B : Bt mg) : Cal P w K mg base CX0 1 "_held_worths" ["worth"] (spHeldH K) := by
  refine D.cal (fun _ _ _ _ _ _ us hl => match us, hl with | [_], _ => rfl) fun f fd F => ?_
  refine F.ok scHeld (fun vs H Q E h => ?_) (fun cdv A outer s H vs Q E HR h => ?_)
  · obtain ⟨v, x, rfl, _⟩ := h
    rfl
  · obtain ⟨v, x, rfl, hx, hf, hz, k⟩ := h
    refine ⟨_, (pss_cons (ps_asg (pv 0) (pg_tup (n := 2) rfl (pgs_cons (pg_name (i := 1) scHeld.nd rfl (Or.inl rfl)) (pgs_cons (pg_name (i := 2) scHeld.nd rfl (Or.inl rfl)) pgs_nil))))
  (pss_cons (ps_set (i := 3) scHeld.nd rfl (Or.inl rfl) (pe_callTy call_list_of (by rfl) B.list (by decide +kernel) (pa_cons (pv 2) pa_nil)))
  (pss_cons (ps_if (pt_cmpR op_eq (pe_ix ix_tup (pv 1) pe_int (fun _ _ => rfl)) pe_int (nomark _)) (pss_one (ps_set (i := 3) scHeld.nd rfl (Or.inl rfl) (pe_lst (pa_cons (pe_slice sl_tupA (pv 1) (po_some pe_int) po_none) (pa_star (pv 2) pa_nil))))) pss_nil)
  (pss_one (ps_ret (pe_lc2 (own := [("_", 4), ("worths", 5), ("held", 6)]) (vs1 := [6]) (g := gTup K 2 (gCons (gName 4) (gCons (gName 5) gNil))) (g1 := gName 6) (tt := tYes) (tt1 := tYes) (wi1 := iTup K (tVar 5)) rfl scHeld.nd (pi_list (pv 3)) (blkOk_by (own := [("_", 4), ("worths", 5), ("held", 6)]) (N := ["worth", "base", "bag", "calls", "_", "worths", "held"]) (sc := defScope sHeld) (by decide +kernel)) (by decide) (fun _ _ _ _ _ => (pg_tup (n := 2) rfl (pgs_cons (pg_name (i := 4) scHeld.nd rfl (Or.inl rfl)) (pgs_cons (pg_name (i := 5) scHeld.nd rfl (Or.inl rfl)) pgs_nil)))) (fun _ _ _ _ _ => pts_nil) (fun _ _ _ _ _ => (pi_tup (pv 5))) (fun _ _ _ _ _ => (pg_name (i := 6) scHeld.nd rfl (Or.inl rfl))) (fun _ _ _ _ _ => pts_nil) (fun _ _ _ _ _ => (pv 6)))))))), ?_⟩
    have hl : (Th.held x).length ≤ 80000 := by
      have := Th.held_sz hf
      have := Th.len_szs (Th.held x)
      omega
    obtain ⟨b, bag, rfl, hb, ht⟩ := Th.form_inv hf
    cases hx with
    | @t a vs0 _ h0 a0 =>
    obtain ⟨vb, vg, ab, abag, rfl⟩ := thAts2 a0
    cases abag with
    | @t ga gvs _ hg ag =>
    have fin : ∀ (l : Addr) (cv : List V) (cs : List Th) (H1 : Hp) (v1 v2 : V), H1 l = some (.lst cv) → ThAts K H1 cv cs → (∀ t ∈ cs, ∃ n ws, t = Th.t [.i n, .t ws]) → Same H H1 → cs.flatMap Th.heldT = Th.held (.t [b, .t bag]) →
        LpC2 (gTup K 2 (gCons (gName 4) (gCons (gName 5) gNil))) tYes (iTup K (tVar 5)) (gName 6) tYes (tVar 6) [4, 5, 6] [6] [some (.ref a), some v1, some v2, some (.ref l), none, none, none] Q (Itl K l) H1 := by
      intro l cv cs H1 v1 v2 hl1 hA ht1 s1 eq
      have cap : ∀ i j (ws : List Th), cs[i]? = some (.t [.i j, .t ws]) → ∀ m, ((cs.take i).flatMap Th.heldT ++ ws.take m).length ≤ 80000 := fun i j ws hi m => by
        have e : (cs.take (i + 1)).flatMap Th.heldT = (cs.take i).flatMap Th.heldT ++ ws := by rw [List.take_add_one, hi, List.flatMap_append]; simp [Th.heldT]
        have q := (flat_subG (f := Th.heldT) (List.take_sublist (i + 1) cs)).length_le
        rw [e, eq] at q
        have := (List.take_sublist m ws).length_le
        rw [List.length_append] at q ⊢
        omega
      refine lpC2_by wk_list (fun D i H2 => H1 D = none ∧ Same H1 H2 ∧ LhAt K H2 D ((cs.take i).flatMap Th.heldT)) (fun D nD => ⟨nD, same_new nD, [], upd_same, .nil⟩) (fun D i H2 _ p => SqL.of (p.2.1 _ _ hl1)) ?_ ?_
      · rintro D i y H2 _ hi ⟨nD, s2, vs2, e2, a2⟩ ⟨rfl, hy⟩
        obtain ⟨t, hti, at1⟩ := hA.get hy
        obtain ⟨m, ws, rfl⟩ := ht1 t (List.mem_of_getElem? hti)
        cases at1 with
        | @t ta tvs _ hta atv =>
        obtain ⟨vm, vw, am, aws, rfl⟩ := thAts2 atv
        cases aws with
        | @t wa wvs _ hwa awv =>
        walk_at "go"
        refine ⟨_, hta.kt (Kt.same s2), rfl, _, _, rfl, _, _, rfl, rfl, ?_⟩
        walk_at "go"
        refine ⟨⟨_, hwa.kt (Kt.same s2)⟩, in1_by wk_tup (fun j H3 => Same H1 H3 ∧ LhAt K H3 D ((cs.take i).flatMap Th.heldT ++ ws.take j)) ⟨s2, vs2, e2, by simpa using a2⟩ (fun j H3 _ p => hwa.kt (Kt.same p.1)) ?_ ?_⟩
        · rintro j z H3 _ hj ⟨s3, vs3, e3, a3⟩ ⟨rfl, hz⟩
          obtain ⟨u, hu, au⟩ := awv.get hz
          walk_at "go"
          have c2 := cap i m ws hti j
          refine ⟨vs3, e3, Nat.lt_of_le_of_lt (by rw [a3.length]; exact c2) (by decide), fun b o e => ?_, vs3 ++ [z], upd_same, ?_⟩
          · rw [upd_ne (ne_of_none e nD)]; exact s3 b o e
          · rw [List.take_add_one, hu, ← List.append_assoc]
            exact (a3.append (.cons (au.kl (Kl.same s3)) .nil)).kl (Kl.lst e3)
        · rintro H3 ⟨s3, h3⟩
          refine ⟨nD, s3, ?_⟩
          rw [List.take_add_one, hti, List.flatMap_append]
          rw [awv.length, List.take_length] at h3
          simpa [Th.heldT] using h3
      · rintro D H2 nD ⟨_, s2, h2⟩
        rw [hA.length, List.take_length, eq] at h2
        exact k D H2 (s1.trans s2) (by
          cases e : H D with
          | none => rfl
          | some o => rw [s1 _ _ e] at nD; cases nD) h2
    have hts : ∀ t ∈ bag, ∃ n ws, t = Th.t [.i n, .t ws] := fun t m => by
      obtain ⟨n, ws, e, _⟩ := Th.turn_inv (ht t m)
      exact ⟨n, ws, e⟩
    have lb : bag.length ≤ 80000 := by
      have := Th.len_szs bag
      rw [Th.sz_t, Th.szs_cons, Th.szs_cons, Th.szs_nil, Th.sz_t] at hz
      omega
    walk_at "go"
    rcases Th.base_inv hb with ⟨c, rfl, _⟩ | ⟨m, ws, rfl, _⟩
    · cases ab with
      | @t ba bvs _ hba abv =>
      obtain ⟨w1, w2, a1, a2, rfl⟩ := thAts2 abv
      cases a1
      refine ⟨_, h0, rfl, _, _, rfl, _, _, rfl, rfl, ga, rfl, gvs, .inr hg, fun l hl1 => ⟨ba, rfl, _, hba.kt (Kt.new hl1), _, rfl, ?_⟩⟩
      walk_at "go"
      refine ⟨⟨_, SqL.of upd_same⟩, fin l gvs bag _ _ _ upd_same (ag.kl (Kl.new hl1)) hts (same_new hl1) rfl⟩
    · cases ab with
      | @t ba bvs _ hba abv =>
      obtain ⟨w1, w2, wr, a1, a2, abr, ew⟩ := thAts2c abv
      obtain ⟨w3, rfl, a3⟩ : ∃ w3, wr = [w3] ∧ ThAt K H w3 (.t ws) := by
        cases abr with
        | cons a3 z => cases z; exact ⟨_, rfl, a3⟩
      subst ew
      cases a1
      refine ⟨_, h0, rfl, _, _, rfl, _, _, rfl, rfl, ga, rfl, gvs, .inr hg, fun l hl1 => ⟨ba, rfl, _, hba.kt (Kt.new hl1), _, rfl, ?_⟩⟩
      walk_at "go"
      refine ⟨_, hba.kt (Kt.new hl1), fun z => absurd (show (1 : Nat) = 0 from z.1) (by decide), fun _ p np => ⟨gvs, .inl ((hg.kt (Kt.new hl1)).kt (Kt.new np)), ?_, fun q nq => ⟨⟨_, SqL.of upd_same⟩, ?_⟩⟩⟩
      · rw [List.append_nil, ag.length]
        exact Nat.le_trans (Nat.succ_le_succ lb) (by decide)
      · rw [List.append_nil]
        have kt : Kl H (upd (upd (upd H l (.lst gvs)) p (.tup (cutV [V.int 1, w2, w3] (some 1) none))) q (.lst (.ref p :: gvs))) := ((Kl.new hl1).trans (Kl.new np)).trans (Kl.new nq)
        cases a2
        refine fin q _ (Th.t [.i m, .t ws] :: bag) _ _ _ upd_same (.cons (.t (SqT.of ?_) (.cons (.i m) (.cons (a3.kl kt) .nil))) (ag.kl kt)) (fun t mt => ?_) (((same_new hl1).trans (same_new np)).trans (same_new nq)) rfl
        · rw [upd_ne (fun e => by rw [e, upd_same] at nq; cases nq), upd_same]; rfl
        · rcases List.mem_cons.mp mt with e | mt
          · exact ⟨m, ws, e⟩
          · exact hts t mt
end


set_option Elab.async false
set_option linter.all false
set_option maxRecDepth 100000
set_option maxHeartbeats 4000000
open PySem L2 StX


abbrev YZ (xs ys : List V) : Nat → Hp → V → Hp → Prop := fun i H v H' => ∃ T x y, v = .ref T ∧ H T = none ∧ H' = upd H T (.tup [x, y]) ∧ xs[i]? = some x ∧ ys[i]? = some y
theorem wk_zipT {K : PySem.W.Frag} {a b : Addr} {xs ys : List V} {n : Nat} (hn : n = min xs.length ys.length) : Wk (RZ.ItzT K a b) n (fun H => SqT K H a xs ∧ SqT K H b ys) (YZ xs ys) := by
  subst hn
  refine ⟨fun i H h s => ?_, fun i H x H' h s y => ?_, fun H s => ⟨xs, ys, s.1, s.2, by omega⟩⟩
  · have h1 : i < xs.length := by omega
    have h2 : i < ys.length := by omega
    exact ⟨xs, ys, xs[i], ys[i], s.1, s.2, by simp [h1], by simp [h2]⟩
  · obtain ⟨T, x, z, h1, h2, h3, h4, h5⟩ := y
    exact ⟨T, x, z, h1, h2, h3, h4 xs s.1, h5 ys s.2⟩
def spAsc (K : PySem.W.Frag) : Sp := fun vs H Q _ => ∃ v xs, vs = [v] ∧ At K H v (.t xs) ∧ (∀ x ∈ xs, ∀ y ∈ xs, Tr.Ak x y) ∧ (∀ x ∈ xs, x.dep ≤ 190) ∧ xs.length ≤ 80000 ∧ ∀ H', Same H H' → Q (.bl (ascT xs)) H'
section
variable {P : Program} {w : World} {K : PySem.W.Frag} {mg : Str → Option Value} {base : Heap}
theorem scAscend : FnScope ["bag", "turn", "following"] ["bag"] (defScope sAscend) := ⟨rfl, rfl, rfl, by decide +kernel, rfl, by decide +kernel, by decide +kernel⟩
theorem ok_ascend (D : DefAt K mg "_is_ascending" sAscend) (B : Bt mg) : Cal P w K mg base CX0 1 "_is_ascending" ["bag"] (spAsc K) := by
  refine D.cal (fun _ _ _ _ _ _ us hl => match us, hl with | [_], _ => rfl) fun f fd F => ?_
  refine F.ok scAscend (fun vs H Q E h => ?_) (fun cdv A outer s H vs Q E HR h => ?_)
  · obtain ⟨v, x, rfl, _⟩ := h
    rfl
  · obtain ⟨v, xs, rfl, hx, ak, dp, hl, k⟩ := h
    refine ⟨_, (pss_one (ps_ret (pe_callB (cr_all rfl) (by rfl) B.all (by decide +kernel) (pa_cons (pe_lc (own := [("turn", 1), ("following", 2)]) (g := gTup K 2 (gCons (gName 1) (gCons (gName 2) gNil))) (tt := tYes) (te := tOp (rLeTr K) (tVar 1) (tVar 2)) rfl scAscend.nd (RZ.pi_zipA (by rfl) B.zip (pa_cons (pv 0) (pa_cons (pe_slice sl_tupA (pv 0) (po_some pe_int) po_none) pa_nil))) (blkOk_by (own := [("turn", 1), ("following", 2)]) (N := ["bag", "turn", "following"]) (sc := defScope sAscend) (by decide +kernel)) (fun _ _ _ _ _ => (pg_tup (n := 2) rfl (pgs_cons (pg_name (i := 1) scAscend.nd rfl (Or.inl rfl)) (pgs_cons (pg_name (i := 2) scAscend.nd rfl (Or.inl rfl)) pgs_nil)))) (fun _ _ _ _ _ => pts_nil) (fun _ _ _ _ _ => (pe_cmpR (op_leTr (Room.u70 HR)) (pv 1) (pv 2) (nomark _)))) pa_nil)))), ?_⟩
    walk_at "go"
    obtain ⟨a, vs, rfl, hs, hA⟩ := tup_at hx
    have fin : ∀ (b : Addr) (ys : List V) (H1 : Hp), Same H H1 → SqT K H1 b ys → Ats K H1 ys xs.tail →
        LpC (gTup K 2 (gCons (gName 1) (gCons (gName 2) gNil))) tYes (tOp (rLeTr K) (tVar 1) (tVar 2)) [1, 2] [some (.ref a), none, none] (fun x H1 => rAll K [x] H1 Q) (RZ.ItzT K a b) H1 := by
      intro b ys H1 s1 hb hB
      have lz : min vs.length ys.length = (xs.zip xs.tail).length := by rw [List.length_zip, hA.length, hB.length]
      refine lpC_by (wk_zipT (xs := vs) (ys := ys) rfl) (fun D i H2 => H1 D = none ∧ Same H1 H2 ∧ H2 D = some (.lst ((((xs.zip xs.tail).take i).map fun p => !Tr.lt p.2 p.1).map V.bl))) (fun D nD => ⟨nD, same_new nD, upd_same⟩) (fun D i H2 _ p => ⟨(hs.kt (Kt.same s1)).kt (Kt.same p.2.1), hb.kt (Kt.same p.2.1)⟩) ?_ ?_
      · rintro D i z H2 H3 hi ⟨nD, s2, e2⟩ ⟨T, x, y, rfl, nT, rfl, hx1, hy1⟩
        obtain ⟨t, ht, at1⟩ := hA.get hx1
        obtain ⟨u, hu, au1⟩ := hB.get hy1
        have s3 : Same H1 (upd H2 T (.tup [x, y])) := s2.trans (same_new nT)
        have mt := List.mem_of_getElem? ht
        have mu := List.mem_of_mem_tail (List.mem_of_getElem? hu)
        walk_at "go"
        refine ⟨t, u, at1.kt (Kt.same (s1.trans s3)), au1.kt (Kt.same s3), ak t mt u mu, dp t mt, _, (same_new nT) _ _ e2, ?_, nD, fun b o z => by rw [upd_ne (ne_of_none z nD)]; exact s3 _ _ z, ?_⟩
        · rw [List.length_map, List.length_map]
          exact Nat.lt_of_le_of_lt (Nat.le_trans (List.length_take_le ..) (by have := hA.length; omega : i ≤ 80000)) (by decide)
        · rw [upd_same, List.take_add_one, (List.getElem?_zip_eq_some (z := (t, u))).mpr ⟨ht, hu⟩, List.map_append, List.map_append]
          rfl
      · rintro D H2 nD ⟨_, s2, e2⟩
        rw [lz, List.take_length] at e2
        refine ⟨D, _, rfl, SqL.of e2, ?_⟩
        rw [List.all_map]
        exact k H2 (s1.trans s2)
    refine ⟨a, rfl, vs, hs, fun z => ?_, fun _ p np => ⟨a, rfl, vs, _, .inr ⟨hs.kt (Kt.new np), SqT.of upd_same, fin p _ _ (same_new np) (SqT.of upd_same) ?_⟩⟩⟩
    · have : vs = [] := by
        cases vs with
        | nil => rfl
        | cons v vs =>
          have := z.1
          rw [show (some (1 : Int)) = some ((1 : Nat) : Int) from rfl, HT.sIx_nat] at this
          simp only [List.length_cons] at this; omega
      subst this
      cases hA
      exact ⟨a, rfl, [], [], .inr ⟨hs, hs, fin a [] H (Same.refl _) hs .nil⟩⟩
    · cases vs with
      | nil =>
        rename_i hn
        exact absurd ⟨by rw [show (some (1 : Int)) = some ((1 : Nat) : Int) from rfl, HT.sIx_nat]; rfl, HT.sIx_none _ _⟩ hn
      | cons v vs =>
        cases hA with
        | cons h0 hr =>
        rw [show (some (1 : Int)) = some (((0 : Nat) : Int) + 1) from rfl, cut_drop _ 0 (by simp)]
        exact Ats.kt (Kt.new np) hr
end


set_option Elab.async false
set_option linter.all false
set_option maxRecDepth 100000
set_option maxHeartbeats 4000000
open PySem L2 StX


open Classical in
def spIsWorth (K : PySem.W.Frag) : Sp := fun vs H Q _ => ∃ v x, vs = [v] ∧ ThAt K H v x ∧ x.sz ≤ 80000 ∧ x.dep ≤ 190 ∧ ∀ H', Same H H' → Q (.bl (decide (x.OkF ∧ x.OkA))) H'
structure Wi (K : PySem.W.Frag) (H : Hp) (v : V) (x : Th) (p q : Addr) (m : Nat) (σ : St) (H2 : Hp) : Prop where
  ex : ∃ (t : Option V) (bvs : List V) (bs : List (List Th)) (wvs : List V) (ws : List Th), σ = [some v, some (.ref p), some (.ref q), t, none] ∧ Same H H2 ∧ H2 p = some (.lst bvs) ∧ ThAts K H2 bvs (bs.map Th.t) ∧ H2 q = some (.lst wvs) ∧ ThAts K H2 wvs ws ∧ Th.szs ws = m ∧ bs.length + m ≤ 80000 ∧
    (x.OkF ↔ ∀ w ∈ ws, w.OkF) ∧ (x.OkA ↔ (∀ b ∈ bs, Th.ascB b = true) ∧ ∀ w ∈ ws, w.OkA) ∧ (x.OkF → ∀ b ∈ bs, ∀ t ∈ b, t.isTurn = true ∧ ∀ v ∈ Th.heldT t, v.OkF) ∧ (∀ w ∈ ws, w.dep ≤ 190) ∧ (∀ b ∈ bs, Th.deps b ≤ 190) ∧ ∀ b ∈ bs, Th.szs b ≤ 80000
theorem ThAts.snoc {K : PySem.W.Frag} {H : Hp} : ∀ {vs : List V} {xf : List Th} {xl : Th}, ThAts K H vs (xf ++ [xl]) → ∃ vf vl, vs = vf ++ [vl] ∧ ThAts K H vf xf ∧ ThAt K H vl xl
  | _, [], xl, h => by
    cases h with
    | cons a h => cases h; exact ⟨[], _, rfl, .nil, a⟩
  | _, x :: xf, xl, h => by
    cases h with
    | cons a h =>
      obtain ⟨vf, vl, rfl, h1, h2⟩ := ThAts.snoc h
      exact ⟨_ :: vf, vl, rfl, .cons a h1, h2⟩
section
variable {P : Program} {w : World} {K : PySem.W.Frag} {mg : Str → Option Value} {base : Heap}
theorem scIsWorth : FnScope ["thing", "bags", "waiting", "worth", "bag"] ["thing"] (defScope sIsWorth) := ⟨rfl, rfl, rfl, by decide +kernel, rfl, by decide +kernel, by decide +kernel⟩
open Classical in
theorem ok_isWorth (D : DefAt K mg "is_worth" sIsWorth) (B : Bt mg) (C_has_form : Cal P w K mg base CX0 4 "_has_form" ["thing"] (spFormQ K)) (C_held_worths : Cal P w K mg base CX0 4 "_held_worths" ["worth"] (spHeldH K)) (C_is_ascending : Cal P w K mg base CX0 4 "_is_ascending" ["bag"] (spAsc K)) :
    Cal P w K mg base CX0 5 "is_worth" ["thing"] (spIsWorth K) := by
  refine D.cal (fun _ _ _ _ _ _ us hl => match us, hl with | [_], _ => rfl) fun f fd F => ?_
  refine F.ok scIsWorth (fun vs H Q E h => ?_) (fun cdv A outer s H vs Q E HR h => ?_)
  · obtain ⟨v, x, rfl, _⟩ := h
    rfl
  · obtain ⟨v, x, rfl, hx, hz, hd, k⟩ := h
    refine ⟨_, (pss_cons (ps_set (i := 1) scIsWorth.nd rfl (Or.inl rfl) (pe_lst pa_nil))
  (pss_cons (ps_set (i := 2) scIsWorth.nd rfl (Or.inl rfl) (pe_lst (pa_cons (pv 0) pa_nil)))
  (pss_cons (ps_while PassesOwn.never (pt_truth (pv 2) (by intro _; rfl)) (pss_cons (ps_set (i := 3) scIsWorth.nd rfl (Or.inl rfl) (pe_bm0 PySem.F.plainAttrs_list PySem.F.slot_list_pop PySem.F.type_list_pop mt_pop (pv 2)))
  (pss_cons (ps_if (pt_not (pt_val (pe_cal C_has_form (by rfl) HR pass0 (pa_cons (pv 3) pa_nil)))) (pss_one (ps_ret pe_bl)) pss_nil)
  (pss_cons (ps_expr (pe_bm PySem.F.plainAttrs_list PySem.F.slot_list_append PySem.F.type_list_append mt_append (pv 1) (pa_cons (pe_ix ix_tup (pv 3) pe_int (fun _ _ => rfl)) pa_nil)))
  (pss_one (ps_expr (pe_bm PySem.F.plainAttrs_list PySem.F.slot_list_extend PySem.F.type_list_extend mt_extend (pv 2) (pa_cons (pe_cal C_held_worths (by rfl) HR pass0 (pa_cons (pv 3) pa_nil)) pa_nil))))))))
  (pss_one (ps_ret (pe_callB (cr_all rfl) (by rfl) B.all (by decide +kernel) (pa_cons (pe_lc (own := [("bag", 4)]) (g := gName 4) (tt := tYes) (te := tCal (spAsc K) E0 (tCons (tVar 4) tNil)) rfl scIsWorth.nd (pi_list (pv 1)) (blkOk_by (own := [("bag", 4)]) (N := ["thing", "bags", "waiting", "worth", "bag"]) (sc := defScope sIsWorth) (by decide +kernel)) (fun _ _ _ _ _ => (pg_name (i := 4) scIsWorth.nd rfl (Or.inl rfl))) (fun _ _ _ _ _ => pts_nil) (fun _ _ _ _ _ => (pe_cal C_is_ascending (by rfl) HR pass0 (pa_cons (pv 4) pa_nil)))) pa_nil))))))), ?_⟩
    walk_at "go"
    have spl : ∀ ws : List Th, ws = [] ∨ ∃ wf wl, ws = wf ++ [wl] := fun ws => by
      rcases List.eq_nil_or_concat ws with e | ⟨wf, wl, e⟩
      · exact .inl e
      · exact .inr ⟨wf, wl, by rw [e, List.concat_eq_append]⟩
    refine ⟨Nat.zero_le _, fun p np => ⟨by decide, fun q nq => ?_⟩⟩
    have hpq : p ≠ q := fun e => by rw [e, upd_same] at nq; cases nq
    have nq0 : H q = none := by rw [upd_ne (Ne.symm hpq)] at nq; exact nq
    refine ⟨fun m σ H2 => Wi K H v x p q m σ H2, ⟨x.sz, none, [], [], [v], [x], rfl, ?_, ?_, .nil, upd_same, .cons (hx.kl ((Kl.new np).trans (Kl.new nq))) .nil, ?_, ?_, ?_, ?_, ?_, ?_, ?_⟩, fun m σ H2 wi => ?_⟩
    · exact (same_new np).trans (same_new nq)
    · rw [upd_ne hpq]; exact upd_same
    · rw [Th.szs_cons, Th.szs_nil]; rfl
    · rw [List.length_nil]; omega
    · exact ⟨fun h w m => by rw [List.mem_singleton.mp m]; exact h, fun h => h x List.mem_cons_self⟩
    · exact ⟨fun h => ⟨fun b m => (by cases m), fun w m => by rw [List.mem_singleton.mp m]; exact h⟩, fun h => h.2 x List.mem_cons_self⟩
    · exact fun _ b m => by cases m
    · exact fun w m => by rw [List.mem_singleton.mp m]; exact hd
    · exact ⟨fun b m => (by cases m), fun b m => (by cases m)⟩
    · obtain ⟨t, bvs, bs, wvs, ws, rfl, s2, ep, ap, eq, aq, hm, hbm, hF, hA, hG, hD, hDb, hS⟩ := wi
      walk_at "go"
      refine ⟨_, .inl ⟨_, SqL.of eq, rfl⟩, ?_⟩
      rcases spl ws with rfl | ⟨wf, wl, rfl⟩
      · cases aq
        refine ite_f (by simp) ?_
        walk_at "go"
        have okf : x.OkF := hF.mpr fun w m => by cases m
        have lb : bs.length ≤ 80000 := by omega
        refine ⟨⟨_, SqL.of ep⟩, lpC_by (wk_list (xs := bvs)) (fun D i H3 => H2 D = none ∧ Same H2 H3 ∧ H3 D = some (.lst (((bs.take i).map Th.ascB).map V.bl))) (fun D nD => ⟨nD, same_new nD, upd_same⟩) (fun D i H3 _ s => SqL.of (s.2.1 _ _ ep)) ?_ ?_⟩
        · rintro D i y H3' H3 hi ⟨nD, s3, e3⟩ ⟨rfl, hy⟩
          obtain ⟨z, hz1, az⟩ := ap.get hy
          rw [List.getElem?_map] at hz1
          obtain ⟨b, hb, rfl⟩ := Option.map_eq_some_iff.mp hz1
          have mb := List.mem_of_getElem? hb
          obtain ⟨n, xs, rfl, hxs⟩ := all_tl (g := b) fun t mt => turn_ws (hG okf b mb t mt).1 fun v mv => ok_ws ((hG okf b mb t mt).2 v mv)
          have dx : ∀ u ∈ xs, u.dep ≤ 190 := fun u mu => by
            have := Th.dep_le (x := u.toTh) (List.mem_map.mpr ⟨u, mu, rfl⟩)
            have := hDb _ mb
            rw [Tr.toTh_dep] at *
            omega
          walk_at "go"
          have az2 : ThAt K H3 y (Tr.t xs).toTh := by rw [Tr.th_t]; exact az.kl (Kl.same s3)
          refine ⟨y, xs, rfl, az2.to, fun a ma c mc => (hxs a ma).ak (fun v v' q q' => q.ak q') (hxs c mc), dx, ?_, fun H4 s4 => ?_⟩
          · have h1 := Th.len_szs (xs.map Tr.toTh)
            rw [List.length_map] at h1
            exact Nat.le_trans h1 (hS _ mb)
          · refine ⟨_, s4 _ _ e3, ?_, nD, fun b o z => by rw [upd_ne (ne_of_none z nD)]; exact s4 _ _ (s3 _ _ z), ?_⟩
            · rw [List.length_map, List.length_map]
              exact Nat.lt_of_le_of_lt (Nat.le_trans (List.length_take_le' ..) lb) (by decide)
            · rw [upd_same, List.take_add_one, hb, List.map_append, List.map_append, ← ascB_map]
              rfl
        · rintro D H3 nD ⟨_, s3, e3⟩
          rw [show bvs.length = bs.length by rw [ap.length, List.length_map], List.take_length] at e3
          refine ⟨D, _, rfl, SqL.of e3, ?_⟩
          have q := k H3 (s2.trans s3)
          rw [List.all_map]
          rw [show decide (x.OkF ∧ x.OkA) = bs.all (id ∘ Th.ascB) from ?_] at q
          · exact q
          · rw [Bool.eq_iff_iff, decide_eq_true_eq, List.all_eq_true]
            exact ⟨fun h b mb => (hA.mp h.2).1 b mb, fun h => ⟨okf, hA.mpr ⟨h, fun w m => by cases m⟩⟩⟩
      · obtain ⟨vf, vl, rfl, af, al⟩ := ThAts.snoc aq
        refine ite_t (by simp) ?_
        walk_at "go"
        have wd := hD wl (by simp)
        have ws_sz : Th.szs wf + wl.sz = m := by rw [← hm, Th.szs_append, Th.szs_cons, Th.szs_nil]; rfl
        refine ⟨fun σ' H' => ∃ m', m' < m ∧ Wi K H v x p q m' σ' H', fun _ _ h => h, .inl ⟨rfl, _, SqL.of eq⟩, q, vf ++ [vl], vl, rfl, rfl, eq, ?_, ?_⟩
        · rw [List.length_append, List.length_singleton, Nat.add_sub_cancel, List.getElem?_append_right (Nat.le_refl _), Nat.sub_self]
          rfl
        rw [List.dropLast_concat]
        have k1 : Kl H2 (upd H2 q (.lst vf)) := Kl.lst eq
        have al1 := al.kl k1
        have epq : upd H2 q (.lst vf) p = some (.lst bvs) := by rw [upd_ne hpq]; exact ep
        refine ⟨vl, wl, rfl, al1, by have := ws_sz; omega, fun H3 s3 => ⟨_, rfl, ?_⟩⟩
        have pre : Same H H3 := fun b o e => s3 _ _ (by rw [upd_ne (ne_of_none e nq0)]; exact s2 _ _ e)
        cases hf : wl.form with
        | false =>
          refine ite_t rfl ?_
          have q' := k H3 pre
          rw [show decide (x.OkF ∧ x.OkA) = false from decide_eq_false fun h => ?_] at q'
          · exact q'
          · have := (Th.OkF.iff.mp (hF.mp h.1 wl (by simp))).1
            rw [hf] at this
            cases this
        | true =>
          refine ite_f (by decide) ?_
          have ep3 := s3 _ _ epq
          have eq3 := s3 _ _ (upd_same (H := H2) (a := q) (o := .lst vf))
          have al3 := al1.kl (Kl.same s3)
          obtain ⟨b, g, rfl, hb, hg⟩ := Th.form_inv hf
          cases al3 with
          | @t wa wvs _ hwa awa =>
          obtain ⟨v1, v2, a1, a2, rfl⟩ := thAts2 awa
          refine ⟨.inl ⟨rfl, _, SqL.of ep3⟩, wa, rfl, _, hwa, v2, atI_1, bvs, ep3, ?_, .inl ⟨rfl, _, SqL.of (by rw [upd_ne (Ne.symm hpq)]; exact eq3)⟩, ?_⟩
          · rw [ap.length, List.length_map]
            exact Nat.lt_of_le_of_lt (by omega : bs.length ≤ 80000) (by decide)
          have k4 : Kl H3 (upd H3 p (.lst (bvs ++ [v2]))) := Kl.lst ep3
          have hs1 := Th.held_sz hf
          refine ⟨.ref wa, _, rfl, .t (hwa.kt k4.kt) (awa.kl k4), hf, by omega, fun r H5 s5 nr ⟨rvs, er, ar⟩ => ?_⟩
          have ep5 := s5 _ _ (upd_same (H := H3) (a := p) (o := .lst (bvs ++ [v2])))
          have eq5 := s5 _ _ (show upd H3 p (.lst (bvs ++ [v2])) q = some (.lst vf) by rw [upd_ne (Ne.symm hpq)]; exact eq3)
          have k25 : Kl H2 H5 := ((k1.trans (Kl.same s3)).trans k4).trans (Kl.same s5)
          have nqr : q ≠ r := fun e => by
            rw [← e, upd_ne (Ne.symm hpq), eq3] at nr; cases nr
          refine ⟨q, r, vf, rvs, rfl, rfl, eq5, er, ?_, ?_⟩
          · rw [af.length, ar.length]
            have := Th.len_szs wf
            have := Th.len_szs (Th.held (.t [b, .t g]))
            exact Nat.le_trans (by omega : _ ≤ 80000) (by decide)
          have k6 : Kl H5 (upd H5 q (.lst (vf ++ rvs))) := Kl.lst eq5
          refine ⟨Th.szs (wf ++ Th.held (.t [b, .t g])), ?_, ?_⟩
          · rw [Th.szs_append]; omega
          · refine ⟨some (.ref wa), bvs ++ [v2], bs ++ [g], vf ++ rvs, wf ++ Th.held (.t [b, .t g]), rfl, ?_, ?_, ?_, upd_same, ((af.kl k25).append ar).kl k6, rfl, ?_, ?_, ?_, ?_, ?_, ?_⟩
            · intro b o e
              rw [upd_ne (ne_of_none e nq0)]
              refine s5 _ _ ?_
              rw [upd_ne (ne_of_none e np)]
              exact pre _ _ e
            · rw [upd_ne hpq]; exact ep5
            · rw [List.map_append]
              exact ((ap.kl k25).append (.cons (a2.kl (k4.trans (Kl.same s5))) .nil)).kl k6
            · rw [List.length_append, List.length_singleton, Th.szs_append]; omega
            · rw [hF]
              constructor
              · intro h w m
                rcases List.mem_append.mp m with m | m
                · exact h w (List.mem_append_left _ m)
                · exact (Th.OkF.iff.mp (h _ (List.mem_append_right _ (List.mem_singleton.mpr rfl)))).2 w m
              · intro h w m
                rcases List.mem_append.mp m with m | m
                · exact h w (List.mem_append_left _ m)
                · rw [List.mem_singleton.mp m]
                  exact Th.OkF.iff.mpr ⟨hf, fun u mu => h u (List.mem_append_right _ mu)⟩
            · rw [hA]
              constructor
              · rintro ⟨h1, h2⟩
                have h3 := Th.OkA.iff.mp (h2 _ (List.mem_append_right _ (List.mem_singleton.mpr rfl)))
                refine ⟨fun c m => ?_, fun w m => ?_⟩
                · rcases List.mem_append.mp m with m | m
                  · exact h1 c m
                  · rw [List.mem_singleton.mp m]; exact h3.1
                · rcases List.mem_append.mp m with m | m
                  · exact h2 w (List.mem_append_left _ m)
                  · exact h3.2 w m
              · rintro ⟨h1, h2⟩
                refine ⟨fun c m => h1 c (List.mem_append_left _ m), fun w m => ?_⟩
                rcases List.mem_append.mp m with m | m
                · exact h2 w (List.mem_append_left _ m)
                · rw [List.mem_singleton.mp m]
                  exact Th.OkA.iff.mpr ⟨h1 g (List.mem_append_right _ (List.mem_singleton.mpr rfl)), fun u mu => h2 u (List.mem_append_right _ mu)⟩
            · intro ox c m
              rcases List.mem_append.mp m with m | m
              · exact hG ox c m
              · rw [List.mem_singleton.mp m]
                have h3 := (Th.OkF.iff.mp (hF.mp ox _ (List.mem_append_right _ (List.mem_singleton.mpr rfl)))).2
                exact fun t mt => ⟨hg t mt, fun u mu => h3 u (List.mem_append_right _ (List.mem_flatMap.mpr ⟨t, mt, mu⟩))⟩
            · intro w m
              rcases List.mem_append.mp m with m | m
              · exact hD w (List.mem_append_left _ m)
              · exact Nat.le_trans (Th.held_dep hf m) wd
            · refine ⟨fun c m => ?_, fun c m => ?_⟩
              · rcases List.mem_append.mp m with m | m
                · exact hDb c m
                · rw [List.mem_singleton.mp m]
                  rw [Th.dep_t, Th.deps_cons, Th.deps_cons, Th.deps_nil, Th.dep_t] at wd
                  omega
              · rcases List.mem_append.mp m with m | m
                · exact hS c m
                · rw [List.mem_singleton.mp m]
                  have e : (Th.t [b, .t g]).sz = b.sz + (Th.szs g + 1 + 0) + 1 := by rw [Th.sz_t, Th.szs_cons, Th.szs_cons, Th.szs_nil, Th.sz_t]
                  omega
end


set_option Elab.async false
set_option linter.all false
set_option maxRecDepth 100000
set_option maxHeartbeats 4000000
open PySem L2 StX


/-- an entry of the pool: a worth, how many it is -/
def ent (w : Tr) (k : Nat) : Tr := .t [w, .i (k : Nat)]
/-- w is nested below n and of k nodes -/
def Wt (n : Nat) (w : Tr) (k : Nat) : Prop := Tr.WL n w ∧ (Tr.nodes 10 w).length = k ∧ 1 ≤ k ∧ k ≤ 108 ∧ Tr.GW w
/-- the pool: at least three, the first three of one node each -/
structure Pool (n : Nat) (es : List (Tr × Nat)) : Prop where
  three : 3 ≤ es.length
  few : es.length ≤ 2 + n
  one : ∀ i, i < 3 → ∃ w, es[i]? = some (w, 1)
  wt : ∀ e ∈ es, Wt n e.1 e.2
def enc (es : List (Tr × Nat)) : List Tr := es.map fun e => ent e.1 e.2
theorem HandAt.put {H : Hp} {p c a : Addr} {o : HO} (h : HandAt H p c) (n1 : a ≠ p) (n2 : a ≠ c) : HandAt (upd H a o) p c := by
  obtain ⟨cs, i, big, tot, h⟩ := h
  exact ⟨cs, i, big, tot, by rw [upd_ne (Ne.symm n1)]; exact h.hp, by rw [upd_ne (Ne.symm n2)]; exact h.hc, h.nn, h.ln, h.b0, h.i0⟩
theorem HandAt.ne {H : Hp} {p c a : Addr} (h : HandAt H p c) (n : H a = none) : a ≠ p ∧ a ≠ c := by
  obtain ⟨cs, i, big, tot, h⟩ := h
  exact ⟨fun e => (by rw [e, h.hp] at n; cases n), fun e => (by rw [e, h.hc] at n; cases n)⟩
theorem But.kt {H H' : Hp} {p c : Addr} (h : HandAt H p c) (b : But p H H') : Kt H H' := by
  obtain ⟨cs, i, big, tot, hh⟩ := h
  exact fun a o n e => b a o (fun z => n _ (by rw [z, hh.hp] at e; exact (Option.some.inj e).symm)) e
def spPool (K : PySem.W.Frag) : Sp := fun vs H Q _ => vs = [] ∧ ∀ q es H', Same H H' → H q = none → LsAt K H' q (enc es) → Pool 1 es → (∀ e ∈ es, ∃ b, e.1 = Tr.wor b []) → Q (.ref q) H'
def spPick (K : PySem.W.Frag) : Sp := fun vs H Q _ => ∃ p c q room n es, vs = [.ref p, .ref q, .int (room : Nat)] ∧ p ≠ q ∧ HandAt H p c ∧ LsAt K H q (enc es) ∧ Pool n es ∧ n ≤ 9 ∧ 1 ≤ room ∧ ∀ v w k H', HandAt H' p c → But p H H' → At K H' v (ent w k) → Wt n w k → k ≤ room → Q v H'
section
variable {P : Program} {w : World} {K : PySem.W.Frag} {mg : Str → Option Value} {base : Heap}
theorem scPick : FnScope ["_law_hand_here", "_law_pool", "_law_room", "_law_entry"] ["_law_hand_here", "_law_pool", "_law_room"] (defScope sPick) := ⟨rfl, rfl, rfl, by decide +kernel, rfl, by decide +kernel, by decide +kernel⟩
theorem ok_pick (D : DefAt K mg "_law_pick" sPick) (B : Bt mg) (C_take : Cal P w K mg base CX0 2 "_law_take" ["_law_hand_here", "_law_many"] spTake) : Cal P w K mg base CX0 3 "_law_pick" ["_law_hand_here", "_law_pool", "_law_room"] (spPick K) := by
  refine D.cal (fun _ _ _ _ _ _ us hl => match us, hl with | [_, _, _], _ => rfl) fun f fd F => ?_
  refine F.ok scPick (fun vs H Q E h => ?_) (fun cdv A outer s H vs Q E HR h => ?_)
  · obtain ⟨p, c, q, room, n, es, rfl, _⟩ := h
    rfl
  · obtain ⟨p, c0, q, room, n, es, rfl, pq, hp, ⟨vs, eq, aq⟩, po, n9, r1, k⟩ := h
    refine ⟨_, (pss_cons (ps_set (i := 3) scPick.nd rfl (Or.inl rfl) (pe_ix ix_list (pv 1) (pe_cal C_take (by rfl) HR pass0 (pa_cons (pv 0) (pa_cons (pe_callB call_len_seq (by rfl) B.len PySem.boot_len (pa_cons (pv 1) pa_nil)) pa_nil))) (fun _ _ => rfl)))
  (pss_cons (ps_if (pt_cmpR op_gt (pe_ix ix_tup (pv 3) pe_int (fun _ _ => rfl)) (pv 2) (nomark _)) (pss_one (ps_ret (pe_ix ix_list (pv 1) (pe_cal C_take (by rfl) HR pass0 (pa_cons (pv 0) (pa_cons pe_int pa_nil))) (fun _ _ => rfl)))) pss_nil)
  (pss_one (ps_ret (pv 3))))), ?_⟩
    have kb : ∀ {H1 : Hp}, But p H H1 → H1 q = some (.lst vs) ∧ Ats K H1 vs (enc es) := fun b => ⟨b q _ (Ne.symm pq) eq, aq.kt (But.kt hp b)⟩
    have lv : vs.length = es.length := by rw [aq.length]; exact List.length_map _
    have l3 := po.three
    have l9 := po.few
    have get : ∀ (r : Int) (H1 : Hp), 0 ≤ r → r < es.length → But p H H1 → ∃ a w k' rest, atI vs r = some (.ref a) ∧ es[r.toNat]? = some (w, k') ∧ At K H1 (.ref a) (ent w k') ∧ SqT K H1 a (rest :: [.int (k' : Nat)]) ∧ Wt n w k' := fun r H1 r0 rm b => by
      obtain ⟨e, he⟩ : ∃ e, es[r.toNat]? = some e := ⟨_, List.getElem?_eq_getElem (by omega)⟩
      obtain ⟨v, hv, av⟩ := (kb b).2.get' (i := r.toNat) (x := ent e.1 e.2) (by unfold enc; rw [List.getElem?_map, he]; rfl)
      obtain ⟨a, xs, rfl, ha, aa⟩ := tup_at av
      cases aa with
      | @cons v1 _ _ _ a1 aa =>
      cases aa with
      | cons a2 aa =>
      cases aa
      rw [int_at a2] at ha
      exact ⟨a, e.1, e.2, v1, atI_int r0 hv, he, av, ha, po.wt e (List.mem_of_getElem? he)⟩
    walk_at "go"
    refine ⟨p, _, _, rfl, by omega, by omega, hp, fun r H1 r0 rm hp1 b1 => ?_⟩
    obtain ⟨a, x, k', v1, e1, e2, a1, s1, w1⟩ := get r H1 r0 (by omega) b1
    refine ⟨vs, r, rfl, SqL.of (kb b1).1, _, e1, a, rfl, _, s1, _, rfl, _, rfl, ?_⟩
    by_cases c : (room : Int) < (k' : Nat)
    · rw [if_pos c]
      refine ⟨p, _, 3, rfl, by decide, by decide, hp1, fun r2 H2 r20 r2m hp2 b2 => ?_⟩
      have b12 := b1.trans b2
      obtain ⟨a2, x2, k2, v2, f1, f2, f3, f4, f5⟩ := get r2 H2 r20 (by omega) b12
      refine ⟨vs, r2, rfl, SqL.of (kb b12).1, _, f1, k _ x2 k2 H2 hp2 b12 f3 f5 ?_⟩
      obtain ⟨z, hz⟩ := po.one r2.toNat (by omega)
      rw [hz] at f2
      have : k2 = 1 := (Prod.mk.inj (Option.some.inj f2)).2.symm
      omega
    · rw [if_neg c]
      exact k _ x k' H1 hp1 b1 a1 w1 (by omega)
theorem scPool : FnScope ["_law_cell"] [] (defScope sPool) := ⟨rfl, rfl, rfl, by decide +kernel, rfl, by decide +kernel, by decide +kernel⟩
theorem ok_pool (D : DefAt K mg "_law_begun_pool" sPool) (B : Bt mg) : Cal P w K mg base CX0 1 "_law_begun_pool" [] (spPool K) := by
  refine D.cal (fun _ _ _ _ _ _ us hl => match us, hl with | [], _ => rfl) fun f fd F => ?_
  refine F.ok scPool (fun vs H Q E h => ?_) (fun cdv A outer s H vs Q E HR h => ?_)
  · obtain ⟨rfl, _⟩ := h
    rfl
  · obtain ⟨rfl, k⟩ := h
    refine ⟨_, (pss_one (ps_ret (pe_lc (own := [("_law_cell", 0)]) (g := gName 0) (tt := tYes) rfl scPool.nd (pi_range1 (by rfl) B.range (pa_cons pe_int pa_nil)) (blkOk_by (own := [("_law_cell", 0)]) (N := ["_law_cell"]) (sc := defScope sPool) (by decide +kernel)) (fun _ _ _ _ _ => (pg_name (i := 0) scPool.nd rfl (Or.inl rfl))) (fun _ _ _ _ _ => pts_nil) (fun _ _ _ _ _ => (pe_tup (pa_cons (pe_tup (pa_cons (pe_tup (pa_cons pe_int (pa_cons (pv 0) pa_nil))) (pa_cons (pe_tup pa_nil) pa_nil))) (pa_cons pe_int pa_nil))))))), ?_⟩
    walk_at "go"
    have en : Int.toNat 3 = 3 := rfl
    rw [en]
    refine lpC_by wk_range (fun D i H2 => H D = none ∧ Same H H2 ∧ i ≤ 3 ∧ LsAt K H2 D ((List.range i).map fun c => ent (Tr.wor (Tr.base0 (c : Nat)) []) 1)) (fun D nD => ⟨nD, same_new nD, by decide, [], upd_same, .nil⟩) (fun _ _ _ _ _ => trivial) ?_ ?_
    · rintro D i y H2' H2 hi ⟨nD, s2, i3, dvs, eD, aD⟩ ⟨rfl, rfl⟩
      walk_at "go"
      refine ⟨by decide, fun p1 n1 => ⟨by decide, fun p2 n2 => ⟨by decide, fun p3 n3 => ⟨by decide, fun p4 n4 => ?_⟩⟩⟩⟩
      rw [Int.zero_add] at *
      have s4 := ((same_new (o := .tup [.int 0, .int (i : Nat)]) n1).trans (same_new (o := .tup []) n2)).trans ((same_new (o := .tup [.ref p1, .ref p2]) n3).trans (same_new (o := .tup [.ref p3, .int 1]) n4))
      have e1 := ((same_new (o := .tup []) n2).trans ((same_new (o := .tup [.ref p1, .ref p2]) n3).trans (same_new (o := .tup [.ref p3, .int 1]) n4))) p1 _ upd_same
      have e2 := ((same_new (o := .tup [.ref p1, .ref p2]) n3).trans (same_new (o := .tup [.ref p3, .int 1]) n4)) p2 _ upd_same
      have e3 := (same_new (o := .tup [.ref p3, .int 1]) n4) p3 _ upd_same
      have r := acc_put (K := K) (t := ent (Tr.wor (Tr.base0 (i : Nat)) []) 1) nD (s2.trans s4) (s4 _ _ eD) (aD.kt (Kt.same s4))
        (at_tup (SqT.of upd_same) (.cons (at_tup (SqT.of e3) (.cons (at_tup (SqT.of e1) (.cons (at_int 0) (.cons (at_int _) .nil))) (.cons (at_tup (SqT.of e2) .nil) .nil))) (.cons (at_int _) .nil)))
      refine ⟨dvs, s4 _ _ eD, ?_, nD, r.1, by omega, ?_⟩
      · rw [aD.length, List.length_map, List.length_range]
        exact Nat.lt_of_le_of_lt i3 (by decide)
      · rw [List.range_succ, List.map_append]
        exact r.2
    · rintro D H2 nD ⟨_, s2, _, ls2⟩
      refine k D ((List.range 3).map fun c => (Tr.wor (Tr.base0 (c : Nat)) [], 1)) H2 s2 nD (by unfold enc; rw [List.map_map]; exact ls2) ⟨by decide, by decide, fun i hi => ⟨_, by rw [List.getElem?_map, List.getElem?_range hi]; rfl⟩, fun e m => ?_⟩ (fun e m => by obtain ⟨c, _, rfl⟩ := List.mem_map.mp m; exact ⟨_, rfl⟩)
      obtain ⟨c, hc, rfl⟩ := List.mem_map.mp m
      have hc3 := List.mem_range.mp hc
      exact ⟨⟨_, _, rfl, .inl ⟨_, rfl⟩, by decide, fun t m => by cases m⟩, rfl, Nat.le_refl 1, (show 1 ≤ 108 by decide), Tr.gw_begun (by omega) (by omega)⟩
end


set_option Elab.async false
set_option linter.all false
set_option maxRecDepth 100000
set_option maxHeartbeats 4000000
open PySem L2 StX


def spName : Sp := fun vs H Q _ => ∃ p c, vs = [.ref p] ∧ HandAt H p c ∧ ∀ (z : Int) H', 0 ≤ z → z < 100 → HandAt H' p c → But p H H' → Q (.int z) H'
def spGiven (K : PySem.W.Frag) : Sp := fun vs H Q _ => ∃ p c l ws, vs = [.ref p, .ref l] ∧ HandAt H p c ∧ SqT K H l ws ∧ ∀ r H', HandAt H' p c → But p H H' → ((H r = none ∧ H' r = some (.lst ws)) ∨ SqT K H' r ws) → Q (.ref r) H'
def spTurned (K : PySem.W.Frag) : Sp := fun vs H Q _ => ∃ x m y b bag ws n, vs = [x, .int m, y] ∧ At K H x (Tr.wor b bag) ∧ Tr.WL n (Tr.wor b bag) ∧ n ≤ 9 ∧ At K H y (.t ws) ∧ (∀ v ∈ ws, Tr.WL n v) ∧ ∀ v bag' H', Same H H' → At K H' v (Tr.wor b bag') → WorX K H' v (Tr.wor b bag') → bag'.Perm (bag ++ [Tr.trn m ws]) → Tr.Up bag' → Q v H'
def spPicks (K : PySem.W.Frag) : Sp := fun vs H Q _ => ∃ p c q n es, vs = [.ref p, .ref q] ∧ p ≠ q ∧ HandAt H p c ∧ LsAt K H q (enc es) ∧ Pool n es ∧ n ≤ 9 ∧ ∀ v ws (k : Nat) H', HandAt H' p c → But p H H' → At K H' v (.t [.t ws, .i (k : Nat)]) → (∀ w ∈ ws, Tr.WL n w ∧ Tr.GW w) → ws.length ≤ 4 → (ws.flatMap (Tr.nodes 10)).length = k → k ≤ 48 → Q v H'
section
variable {P : Program} {w : World} {K : PySem.W.Frag} {mg : Str → Option Value} {base : Heap}
theorem HandAt.push {H : Hp} {p c a : Addr} {o : HO} (h : HandAt H p c) (n : H a = none) : HandAt (L2.upd H a o) p c := h.same (same_new n)
theorem But.new {H : Hp} {p a : Addr} {o : HO} (n : H a = none) : But p H (L2.upd H a o) := But.of (same_new n)
theorem scName : FnScope ["_law_hand_here"] ["_law_hand_here"] (defScope sName) := ⟨rfl, rfl, rfl, by decide +kernel, rfl, by decide +kernel, by decide +kernel⟩
theorem ok_name (D : DefAt K mg "_law_name" sName) (B : Bt mg) (C_take : Cal P w K mg base CX0 2 "_law_take" ["_law_hand_here", "_law_many"] spTake) : Cal P w K mg base CX0 3 "_law_name" ["_law_hand_here"] spName := by
  refine D.cal (fun _ _ _ _ _ _ us hl => match us, hl with | [_], _ => rfl) fun f fd F => ?_
  refine F.ok scName (fun vs H Q E h => ?_) (fun cdv A outer s H vs Q E HR h => ?_)
  · obtain ⟨p, c, rfl, _⟩ := h
    rfl
  · obtain ⟨p, c, rfl, hp, k⟩ := h
    refine ⟨_, (pss_one (ps_ret (pe_ifExp (pt_cmpR op_eq (pe_cal C_take (by rfl) HR pass0 (pa_cons (pv 0) (pa_cons pe_int pa_nil))) pe_int (nomark _)) (pe_cal C_take (by rfl) HR pass0 (pa_cons (pv 0) (pa_cons pe_int pa_nil))) (pe_cal C_take (by rfl) HR pass0 (pa_cons (pv 0) (pa_cons pe_int pa_nil)))))), ?_⟩
    walk_at "go"
    refine ⟨p, _, 3, rfl, by decide, by decide, hp, fun r H1 _ _ hp1 b1 => ?_⟩
    walk_at "go"
    refine ite2 (fun _ => ?_) (fun _ => ?_)
    · exact ⟨p, _, 3, rfl, by decide, by decide, hp1, fun r H2 r0 r1 hp2 b2 => k r H2 r0 (by omega) hp2 (b1.trans b2)⟩
    · exact ⟨p, _, 100, rfl, by decide, by decide, hp1, fun r H2 r0 r1 hp2 b2 => k r H2 r0 r1 hp2 (b1.trans b2)⟩
theorem scGiven : FnScope ["_law_hand_here", "_law_row"] ["_law_hand_here", "_law_row"] (defScope sGiven) := ⟨rfl, rfl, rfl, by decide +kernel, rfl, by decide +kernel, by decide +kernel⟩
theorem ok_given (D : DefAt K mg "_law_given" sGiven) (B : Bt mg) (C_take : Cal P w K mg base CX0 2 "_law_take" ["_law_hand_here", "_law_many"] spTake) : Cal P w K mg base CX0 3 "_law_given" ["_law_hand_here", "_law_row"] (spGiven K) := by
  refine D.cal (fun _ _ _ _ _ _ us hl => match us, hl with | [_, _], _ => rfl) fun f fd F => ?_
  refine F.ok scGiven (fun vs H Q E h => ?_) (fun cdv A outer s H vs Q E HR h => ?_)
  · obtain ⟨p, c, l, ws, rfl, _⟩ := h
    rfl
  · obtain ⟨p, c0, l, ws, rfl, hp, el, k⟩ := h
    refine ⟨_, (pss_one (ps_ret (pe_ifExp (pt_cmpR op_eq (pe_cal C_take (by rfl) HR pass0 (pa_cons (pv 0) (pa_cons pe_int pa_nil))) pe_int (nomark _)) (pe_callTy call_list_of (by rfl) B.list (by decide +kernel) (pa_cons (pv 1) pa_nil)) (pe_callTy call_tuple_of (by rfl) B.tuple (by decide +kernel) (pa_cons (pv 1) pa_nil))))), ?_⟩
    walk_at "go"
    refine ⟨p, _, 2, rfl, by decide, by decide, hp, fun r H1 _ _ hp1 b1 => ?_⟩
    have el1 := el.kt (But.kt hp b1)
    have fr : ∀ {a : Addr}, H1 a = none → H a = none := fun {a} n => by
      cases e : H a with
      | none => rfl
      | some o =>
        by_cases h : a = p
        · obtain ⟨cs, i, big, tot, hh⟩ := hp1
          rw [h, hh.hp] at n; cases n
        · rw [b1 _ _ h e] at n; cases n
    walk_at "go"
    refine ite2 (fun _ => ?_) (fun _ => ?_)
    · walk_at "go"
      refine ⟨ws, .inr el1, fun r nr => k r _ (hp1.push nr) (b1.trans (But.new nr)) (.inl ⟨fr nr, upd_same⟩)⟩
    · walk_at "go"
      refine ⟨ws, .inr ⟨el1, k l _ hp1 b1 (.inr el1)⟩⟩
theorem scTurned : FnScope ["_law_worth", "_law_name_here", "_law_worths"] ["_law_worth", "_law_name_here", "_law_worths"] (defScope sTurned) := ⟨rfl, rfl, rfl, by decide +kernel, rfl, by decide +kernel, by decide +kernel⟩
theorem ok_turned (D : DefAt K mg "_law_turned" sTurned) (B : Bt mg) : Cal P w K mg base CX0 1 "_law_turned" ["_law_worth", "_law_name_here", "_law_worths"] (spTurned K) := by
  refine D.cal (fun _ _ _ _ _ _ us hl => match us, hl with | [_, _, _], _ => rfl) fun f fd F => ?_
  refine F.ok scTurned (fun vs H Q E h => ?_) (fun cdv A outer s H vs Q E HR h => ?_)
  · obtain ⟨x, m, y, b, bag, ws, n, rfl, _⟩ := h
    rfl
  · obtain ⟨x, m, y, b, bag, ws, n, rfl, ax, wx, n9, ay, wy, k⟩ := h
    refine ⟨_, (pss_one (ps_ret (pe_tup (pa_cons (pe_ix ix_tup (pv 0) pe_int (fun _ _ => rfl)) (pa_cons (pe_callTy call_tuple_ofX (by rfl) B.tuple (by decide +kernel) (pa_cons (pe_callB (cr_sortD (Room.u70 HR)) (by rfl) B.sorted (by decide +kernel) (pa_cons (pe_op op_cat (pe_callTy call_list_of (by rfl) B.list (by decide +kernel) (pa_cons (pe_ix ix_tup (pv 0) pe_int (fun _ _ => rfl)) pa_nil)) (pe_lst (pa_cons (pe_tup (pa_cons (pv 1) (pa_cons (pv 2) pa_nil))) pa_nil))) pa_nil)) pa_nil)) pa_nil))))), ?_⟩
    obtain ⟨a, vs0, rfl, h0, a0⟩ := tup_at ax
    cases a0 with
    | @cons vb _ _ _ ab a0 =>
    cases a0 with
    | cons abag a0 =>
    cases a0
    obtain ⟨ga, gvs, rfl, hg, ag⟩ := tup_at abag
    have shp : ∃ n', n = n' + 1 ∧ bag.length ≤ 7 ∧ ∀ t ∈ bag, Tr.TL (Tr.WL n') t := by
      cases n with
      | zero => exact wx.elim
      | succ n' =>
        obtain ⟨b', bag', e0, _, h7, ht⟩ := wx
        unfold Tr.wor at e0
        injection e0 with e0
        injection e0 with e1 e2
        injection e2 with e2 _
        injection e2 with e2
        subst e2
        exact ⟨n', rfl, h7, ht⟩
    obtain ⟨n', rfl, h7, ht⟩ := shp
    have tl : ∀ t ∈ bag ++ [Tr.trn m ws], Tr.TL (Tr.WL (n' + 1)) t := fun t mt => (List.mem_append.mp mt).elim (fun mt => (ht t mt).imp fun _ h => h.up) fun mt => ⟨m, ws, List.mem_singleton.mp mt, wy⟩
    walk_at "go"
    refine ⟨_, h0, vb, rfl, _, h0, _, rfl, ga, rfl, gvs, .inr hg, fun l nl => ⟨by decide, fun p1 n1 => ⟨by decide, fun p2 n2 => ?_⟩⟩⟩
    have sA := (same_new (o := .lst gvs) nl).trans (same_new (o := .tup [.int m, y]) n1)
    have sB := sA.trans (same_new (o := .lst [.ref p1]) n2)
    refine ⟨l, p2, gvs, [.ref p1], rfl, rfl, ((same_new n1).trans (same_new n2)) _ _ upd_same, upd_same, ?_, fun p3 n3 => ?_⟩
    · rw [ag.length]
      exact Nat.le_trans (Nat.succ_le_succ h7) (by decide)
    have s3 := sB.trans (same_new (o := .lst (gvs ++ [.ref p1])) n3)
    have at1 : At K (upd (upd (upd (upd H l (.lst gvs)) p1 (.tup [.int m, y])) p2 (.lst [.ref p1])) p3 (.lst (gvs ++ [.ref p1]))) (.ref p1) (Tr.trn m ws) :=
      at_tup (SqT.of (((same_new n2).trans (same_new n3)) _ _ upd_same)) (.cons (at_int m) (.cons (ay.kt (Kt.same s3)) .nil))
    refine ⟨p3, _, bag ++ [Tr.trn m ws], rfl, .inl (SqL.of upd_same), (ag.kt (Kt.same s3)).append (.cons at1 .nil), fun y hy z hz => (tl y hy).ak (fun v v' q q' => q.ak q') (tl z hz), sortOk_w fun y hy => ?_, fun y hy => ?_, fun p4 us ys n4 pr pw ay4 => ?_⟩
    · obtain ⟨i, zs, rfl, _⟩ := tl y hy
      exact ⟨_, _, rfl⟩
    · obtain ⟨i, zs, rfl, q⟩ := tl y hy
      have := deps_le (n := 40) (xs := zs) fun v hv => Nat.le_trans (q v hv).dep_le (by omega)
      unfold Tr.trn; simp only [Tr.dep_t, Tr.deps_cons, Tr.deps_nil, Tr.dep_i]; omega
    walk_at "go"
    refine ⟨ys, .inl ⟨SqL.of upd_same, fun l5 o5 n5 d5 => ⟨by decide, fun p6 n6 => ?_⟩⟩⟩
    have s6 := ((s3.trans (same_new (o := .lst ys) n4)).trans (same_new (o := .frz o5 (.tup ys)) n5)).trans (same_new (o := .tup [vb, .ref l5]) n6)
    have ex : Ex (upd (upd (upd (upd (upd (upd (upd H l (.lst gvs)) p1 (.tup [.int m, y])) p2 (.lst [.ref p1])) p3 (.lst (gvs ++ [.ref p1]))) p4 (.lst ys)) l5 (.frz o5 (.tup ys))) p6 (.tup [vb, .ref l5])) l5 ys := ⟨o5, (same_new n6) _ _ upd_same, d5⟩
    have wx : WorX K _ (.ref p6) (Tr.wor b us) := ⟨p6, vb, l5, ys, b, us, rfl, SqT.of upd_same, ab.kt (Kt.same s6), ex.sq, ay4.kt (((Kt.new n4).trans (Kt.new n5)).trans (Kt.new n6)), rfl, .inr ex⟩
    exact k (.ref p6) us _ s6 wx.at wx pr pw
theorem scPicks : FnScope ["_law_hand_here", "_law_pool", "_law_picks_here", "_law_k", "_law_entry"] ["_law_hand_here", "_law_pool"] (defScope sPicks) := ⟨rfl, rfl, rfl, by decide +kernel, rfl, by decide +kernel, by decide +kernel⟩
theorem ok_picks (D : DefAt K mg "_law_picks" sPicks) (B : Bt mg) (C_take : Cal P w K mg base CX0 3 "_law_take" ["_law_hand_here", "_law_many"] spTake) (C_pick : Cal P w K mg base CX0 3 "_law_pick" ["_law_hand_here", "_law_pool", "_law_room"] (spPick K)) :
    Cal P w K mg base CX0 4 "_law_picks" ["_law_hand_here", "_law_pool"] (spPicks K) := by
  refine D.cal (fun _ _ _ _ _ _ us hl => match us, hl with | [_, _], _ => rfl) fun f fd F => ?_
  refine F.ok scPicks (fun vs H Q E h => ?_) (fun cdv A outer s H vs Q E HR h => ?_)
  · obtain ⟨p, c, q, n, es, rfl, _⟩ := h
    rfl
  · obtain ⟨p, c0, q, n, es, rfl, pq, hp, ⟨vs, eq, aq⟩, po, n9, k⟩ := h
    refine ⟨_, (pss_cons (ps_setLc (i := 2) (own := [("_law_k", 3)]) (g := gName 3) (tt := tYes) (te := tCal (spPick K) E0 (tCons (tVar 0) (tCons (tVar 1) (tCons (tC (.int 12)) tNil)))) rfl scPicks.nd rfl rfl (sw_true rfl rfl rfl (by decide +kernel)) (pi_range1 (by rfl) B.range (pa_cons (pe_cal C_take (by rfl) HR pass0 (pa_cons (pv 0) (pa_cons pe_int pa_nil))) pa_nil)) (blkOk_by (own := [("_law_k", 3)]) (N := ["_law_hand_here", "_law_pool", "_law_picks_here", "_law_k", "_law_entry"]) (sc := defScope sPicks) (by decide +kernel)) (fun _ _ _ _ _ => (pg_name (i := 3) scPicks.nd rfl (Or.inl rfl))) (fun _ _ _ _ _ => pts_nil) (fun _ _ _ _ _ => (pe_cal C_pick (by rfl) HR pass0 (pa_cons (pv 0) (pa_cons (pv 1) (pa_cons pe_int pa_nil))))))
  (pss_one (ps_ret (pe_tup (pa_cons (pe_callTy call_tuple_of (by rfl) B.tuple (by decide +kernel) (pa_cons (pe_lc (own := [("_law_entry", 4)]) (g := gName 4) (tt := tYes) (te := tOp (rIxT K) (tVar 4) (tC (.int 0))) rfl scPicks.nd (pi_list (pv 2)) (blkOk_by (own := [("_law_entry", 4)]) (N := ["_law_hand_here", "_law_pool", "_law_picks_here", "_law_k", "_law_entry"]) (sc := defScope sPicks) (by decide +kernel)) (fun _ _ _ _ _ => (pg_name (i := 4) scPicks.nd rfl (Or.inl rfl))) (fun _ _ _ _ _ => pts_nil) (fun _ _ _ _ _ => (pe_ix ix_tup (pv 4) pe_int (fun _ _ => rfl)))) pa_nil)) (pa_cons (pe_callB (cr_sum rfl) (by rfl) B.sum (by decide +kernel) (pa_cons (pe_lc (own := [("_law_entry", 4)]) (g := gName 4) (tt := tYes) (te := tOp (rIxT K) (tVar 4) (tC (.int 1))) rfl scPicks.nd (pi_list (pv 2)) (blkOk_by (own := [("_law_entry", 4)]) (N := ["_law_hand_here", "_law_pool", "_law_picks_here", "_law_k", "_law_entry"]) (sc := defScope sPicks) (by decide +kernel)) (fun _ _ _ _ _ => (pg_name (i := 4) scPicks.nd rfl (Or.inl rfl))) (fun _ _ _ _ _ => pts_nil) (fun _ _ _ _ _ => (pe_ix ix_tup (pv 4) pe_int (fun _ _ => rfl)))) pa_nil)) pa_nil)))))), ?_⟩
    walk_at "go"
    refine ⟨p, _, 5, rfl, by decide, by decide, hp, fun r H1 r0 r5 hp1 b1 => ⟨r, rfl, by omega, by omega, ?_⟩⟩
    have kb : ∀ {H2 : Hp}, But p H H2 → H2 q = some (.lst vs) ∧ Ats K H2 vs (enc es) := fun b => ⟨b q _ (Ne.symm pq) eq, aq.kt (But.kt hp b)⟩
    refine lpC_by wk_range (fun D i H2 => H1 D = none ∧ HandAt H2 p c0 ∧ But p H1 H2 ∧ ∃ ps : List (Tr × Nat), LsAt K H2 D (enc ps) ∧ ps.length = i ∧ ∀ e ∈ ps, Wt n e.1 e.2 ∧ e.2 ≤ 12) (fun D nD => ⟨nD, hp1.push nD, But.new nD, [], ⟨[], upd_same, .nil⟩, rfl, fun e m => by cases m⟩) (fun _ _ _ _ _ => trivial) ?_ ?_
    · rintro D i y H2' H2 hi ⟨nD, hp2, b2, ps, ⟨dvs, eD, aD⟩, lp, wp⟩ ⟨rfl, rfl⟩
      walk_at "go"
      have b12 := b1.trans b2
      obtain ⟨n1, n2⟩ := hp1.ne nD
      refine ⟨p, c0, q, 12, n, es, rfl, pq, hp2, ⟨vs, (kb b12).1, (kb b12).2⟩, po, n9, by decide, fun v x kk H3 hp3 b3 av wv k12 => ?_⟩
      have eD3 := b3 _ _ n1 eD
      have k3 := But.kt hp2 b3
      refine ⟨dvs, eD3, ?_, nD, hp3.put n1 n2, fun b o nb e => ?_, ps ++ [(x, kk)], ⟨_, upd_same, ?_⟩, by rw [List.length_append, lp]; rfl, fun e m => ?_⟩
      · rw [aD.length]
        unfold enc
        rw [List.length_map, lp]
        exact Nat.lt_of_lt_of_le (by omega : i < 5) (by decide)
      · rw [upd_ne (ne_of_none e nD)]
        exact b3 _ _ nb (b2 _ _ nb e)
      · unfold enc
        rw [List.map_append]
        exact ((aD.kt k3).append (.cons av .nil)).kt (Kt.lst eD3)
      · rcases List.mem_append.mp m with m | m
        · exact wp e m
        · rw [List.mem_singleton.mp m]; exact ⟨wv, k12⟩
    · rintro D H2 nD ⟨_, hp2, b2, ps, ⟨dvs, eD, aD⟩, lp, wp⟩
      walk_at "go"
      have lp4 : ps.length ≤ 4 := by omega
      have enl : ∀ j : Nat, (enc ps)[j]? = (ps[j]?).map (fun e : Tr × Nat => ent e.1 e.2) := fun j => List.getElem?_map ..
      have ent_inv : ∀ {H3 : Hp} {v : V} {x : Tr} {kk : Nat}, At K H3 v (ent x kk) → ∃ a v1, v = .ref a ∧ SqT K H3 a [v1, .int (kk : Nat)] ∧ At K H3 v1 x := fun h => by
        obtain ⟨a, xs, rfl, ha, aa⟩ := tup_at h
        cases aa with
        | @cons v1 _ _ _ a1 aa =>
        cases aa with
        | cons a2 aa =>
        cases aa
        rw [int_at a2] at ha
        exact ⟨a, v1, rfl, ha, a1⟩
      refine ⟨⟨_, SqL.of eD⟩, lpC_by (wk_list (xs := dvs)) (fun D2 i H3 => H2 D2 = none ∧ Same H2 H3 ∧ LsAt K H3 D2 ((ps.take i).map (·.1))) (fun D2 n2 => ⟨n2, same_new n2, [], upd_same, .nil⟩) (fun D2 i H3 _ s => SqL.of (s.2.1 _ _ eD)) ?_ ?_⟩
      · rintro D2 i y H3' H3 hi ⟨n2, s3, cvs, e3, a3⟩ ⟨rfl, hy⟩
        obtain ⟨x, hx, ax⟩ := aD.get hy
        rw [enl] at hx
        obtain ⟨e, he, rfl⟩ := Option.map_eq_some_iff.mp hx
        obtain ⟨a, v1, rfl, ha, av⟩ := ent_inv ax
        walk_at "go"
        have r := acc_put (K := K) n2 s3 e3 a3 (av.kt (Kt.same s3))
        refine ⟨_, ha.kt (Kt.same s3), v1, rfl, cvs, e3, ?_, n2, r.1, ?_⟩
        · rw [a3.length, List.length_map]
          exact Nat.lt_of_le_of_lt (Nat.le_trans (List.length_take_le' ..) lp4) (by decide)
        · rw [List.take_add_one, he, List.map_append]
          exact r.2
      · rintro D2 H3 n2 ⟨_, s3, cvs, e3, a3⟩
        rw [aD.length, show (enc ps).length = ps.length from List.length_map _, List.take_length] at a3
        walk_at "go"
        refine ⟨cvs, .inl ⟨SqL.of e3, fun l2 nl2 => ?_⟩⟩
        have s4 := s3.trans (same_new (o := .tup cvs) nl2)
        refine ⟨⟨_, SqL.of (s4 _ _ eD)⟩, lpC_by (wk_list (xs := dvs)) (fun D3 i H5 => upd H3 l2 (.tup cvs) D3 = none ∧ Same (upd H3 l2 (.tup cvs)) H5 ∧ H5 D3 = some (.lst (((ps.take i).map fun e => ((e.2 : Nat) : Int)).map V.int))) (fun D3 n3 => ⟨n3, same_new n3, upd_same⟩) (fun D3 i H5 _ s => SqL.of (s.2.1 _ _ (s4 _ _ eD))) ?_ ?_⟩
        · rintro D3 i y H5' H5 hi ⟨n3, s5, e5⟩ ⟨rfl, hy⟩
          obtain ⟨x, hx, ax⟩ := aD.get hy
          rw [enl] at hx
          obtain ⟨e, he, rfl⟩ := Option.map_eq_some_iff.mp hx
          obtain ⟨a, v1, rfl, ha, av⟩ := ent_inv ax
          walk_at "go"
          refine ⟨_, ha.kt (Kt.same (s4.trans s5)), _, rfl, _, e5, ?_, n3, fun b o z => by rw [upd_ne (ne_of_none z n3)]; exact s5 _ _ z, ?_⟩
          · rw [List.length_map, List.length_map]
            exact Nat.lt_of_le_of_lt (Nat.le_trans (List.length_take_le' ..) lp4) (by decide)
          · rw [upd_same, List.take_add_one, he, List.map_append, List.map_append]
            rfl
        · rintro D3 H5 n3 ⟨_, s5, e5⟩
          rw [aD.length, show (enc ps).length = ps.length from List.length_map _, List.take_length] at e5
          have sums : ∀ qs : List (Tr × Nat), (∀ e ∈ qs, Wt n e.1 e.2 ∧ e.2 ≤ 12) → (qs.map fun e => ((e.2 : Nat) : Int)).sum = (((qs.map (·.1)).flatMap (Tr.nodes 10)).length : Nat) ∧ ((qs.map (·.1)).flatMap (Tr.nodes 10)).length ≤ 12 * qs.length := fun qs => by
            induction qs with
            | nil => exact fun _ => ⟨rfl, Nat.le_refl _⟩
            | cons e qs ih =>
              intro h
              obtain ⟨i1, i2⟩ := ih fun z m => h z (List.mem_cons_of_mem _ m)
              obtain ⟨⟨_, w2, _, _⟩, h12⟩ := h e List.mem_cons_self
              simp only [List.map_cons, List.sum_cons, List.flatMap_cons, List.length_append, List.length_cons]
              rw [i1, w2]
              omega
          obtain ⟨q1, q2⟩ := sums ps wp
          refine ⟨D3, _, rfl, SqL.of e5, by decide, fun p4 n4 => ?_⟩
          have s6 := (s4.trans s5).trans (same_new (o := .tup [.ref l2, .int (ps.map fun e => ((e.2 : Nat) : Int)).sum]) n4)
          refine k (.ref p4) (ps.map (·.1)) _ _ (hp2.same s6) ((b1.trans b2).trans (But.of s6)) (at_tup (SqT.of upd_same) (.cons (at_tup (SqT.of ((s5.trans (same_new n4)) _ _ upd_same)) (a3.kt (Kt.same ((same_new nl2).trans (s5.trans (same_new n4)))))) (.cons (by rw [q1]; exact at_int _) .nil))) (fun z m => ?_) (by rw [List.length_map]; exact lp4) rfl (by omega)
          obtain ⟨e, me, rfl⟩ := List.mem_map.mp m
          exact ⟨(wp e me).1.1, (wp e me).1.2.2.2.2⟩
end


set_option Elab.async false
set_option linter.all false
set_option maxRecDepth 100000
set_option maxHeartbeats 4000000
open PySem L2 StX


def begun (n : Nat) : Tr := .t ((List.range n).map fun c => Tr.wor (Tr.base0 (c : Nat)) [])
def spBegun (K : PySem.W.Frag) : Sp := fun vs H Q _ => ∃ n : Nat, vs = [.int (n : Nat)] ∧ n ≤ 3 ∧ ∀ v H', Same H H' → At K H' v (begun n) → Q v H'
def spMade (K : PySem.W.Frag) : Sp := fun vs H Q _ => ∃ m y ws, vs = [.int m, y] ∧ Seq2 K H y ws ∧ ∀ v H', Same H H' → At K H' v (Tr.wor (Tr.base1 m ws) []) → Q v H'
def spAdded (K : PySem.W.Frag) : Sp := fun vs H Q _ => ∃ x m y b bag ws n, vs = [x, .int m, y] ∧ At K H x (Tr.wor b bag) ∧ Tr.WL n (Tr.wor b bag) ∧ n ≤ 10 ∧ Seq2 K H y ws ∧ (∀ v ∈ ws, Tr.WL n v) ∧ ∀ v bag' H', Same H H' → At K H' v (Tr.wor b bag') → bag'.Perm (bag ++ [Tr.trn m ws]) → Tr.Up bag' → Q v H'
section
variable {P : Program} {w : World} {K : PySem.W.Frag} {mg : Str → Option Value} {base : Heap}
theorem scBegun : FnScope ["cells", "cell"] ["cells"] (defScope sBegun) := ⟨rfl, rfl, rfl, by decide +kernel, rfl, by decide +kernel, by decide +kernel⟩
theorem ok_begun (D : DefAt K mg "begun_store" sBegun) (B : Bt mg) : Cal P w K mg base CX0 1 "begun_store" ["cells"] (spBegun K) := by
  refine D.cal (fun _ _ _ _ _ _ us hl => match us, hl with | [_], _ => rfl) fun f fd F => ?_
  refine F.ok scBegun (fun vs H Q E h => ?_) (fun cdv A outer s H vs Q E HR h => ?_)
  · obtain ⟨n, rfl, _⟩ := h
    rfl
  · obtain ⟨n, rfl, hn, k⟩ := h
    refine ⟨_, (pss_one (ps_ret (pe_callTy call_tuple_of (by rfl) B.tuple (by decide +kernel) (pa_cons (pe_lc (own := [("cell", 1)]) (g := gName 1) (tt := tYes) rfl scBegun.nd (pi_range1 (by rfl) B.range (pa_cons (pv 0) pa_nil)) (blkOk_by (own := [("cell", 1)]) (N := ["cells", "cell"]) (sc := defScope sBegun) (by decide +kernel)) (fun _ _ _ _ _ => (pg_name (i := 1) scBegun.nd rfl (Or.inl rfl))) (fun _ _ _ _ _ => pts_nil) (fun _ _ _ _ _ => (pe_tup (pa_cons (pe_tup (pa_cons pe_int (pa_cons (pv 1) pa_nil))) (pa_cons (pe_tup pa_nil) pa_nil))))) pa_nil)))), ?_⟩
    walk_at "go"
    have en : Int.toNat (n : Int) = n := rfl
    rw [en]
    refine ⟨by omega, by omega, lpC_by wk_range (fun D i H2 => H D = none ∧ Same H H2 ∧ i ≤ n ∧ LsAt K H2 D ((List.range i).map fun c => Tr.wor (Tr.base0 (c : Nat)) [])) (fun D nD => ⟨nD, same_new nD, Nat.zero_le _, [], upd_same, .nil⟩) (fun _ _ _ _ _ => trivial) ?_ ?_⟩
    · rintro D i y H2' H2 hi ⟨nD, s2, i3, dvs, eD, aD⟩ ⟨rfl, rfl⟩
      walk_at "go"
      refine ⟨by decide, fun p1 n1 => ⟨by decide, fun p2 n2 => ⟨by decide, fun p3 n3 => ?_⟩⟩⟩
      rw [Int.zero_add] at *
      have s3 := ((same_new (o := .tup [.int 0, .int (i : Nat)]) n1).trans (same_new (o := .tup []) n2)).trans (same_new (o := .tup [.ref p1, .ref p2]) n3)
      have e1 := ((same_new (o := .tup []) n2).trans (same_new (o := .tup [.ref p1, .ref p2]) n3)) p1 _ upd_same
      have e2 := (same_new (o := .tup [.ref p1, .ref p2]) n3) p2 _ upd_same
      have r := acc_put (K := K) (t := Tr.wor (Tr.base0 (i : Nat)) []) nD (s2.trans s3) (s3 _ _ eD) (aD.kt (Kt.same s3))
        (at_tup (SqT.of upd_same) (.cons (at_tup (SqT.of e1) (.cons (at_int 0) (.cons (at_int _) .nil))) (.cons (at_tup (SqT.of e2) .nil) .nil)))
      refine ⟨dvs, s3 _ _ eD, ?_, nD, r.1, by omega, ?_⟩
      · rw [aD.length, List.length_map, List.length_range]
        exact Nat.lt_of_le_of_lt (by omega : i ≤ 3) (by decide)
      · rw [List.range_succ, List.map_append]
        exact r.2
    · rintro D H2 nD ⟨_, s2, _, dvs, eD, aD⟩
      exact ⟨D, rfl, dvs, .inl ⟨SqL.of eD, fun l nl => k (.ref l) _ (s2.trans (same_new nl)) (at_tup (SqT.of upd_same) (aD.kt (Kt.new nl)))⟩⟩
theorem scMade : FnScope ["name", "worths"] ["name", "worths"] (defScope sMade) := ⟨rfl, rfl, rfl, by decide +kernel, rfl, by decide +kernel, by decide +kernel⟩
theorem ok_made (D : DefAt K mg "made_worth" sMade) (B : Bt mg) : Cal P w K mg base CX0 1 "made_worth" ["name", "worths"] (spMade K) := by
  refine D.cal (fun _ _ _ _ _ _ us hl => match us, hl with | [_, _], _ => rfl) fun f fd F => ?_
  refine F.ok scMade (fun vs H Q E h => ?_) (fun cdv A outer s H vs Q E HR h => ?_)
  · obtain ⟨m, y, ws, rfl, _⟩ := h
    rfl
  · obtain ⟨m, y, ws, rfl, sq, k⟩ := h
    refine ⟨_, (pss_one (ps_ret (pe_tup (pa_cons (pe_tup (pa_cons pe_int (pa_cons (pv 0) (pa_cons (pe_callTy call_tuple_of (by rfl) B.tuple (by decide +kernel) (pa_cons (pv 1) pa_nil)) pa_nil)))) (pa_cons (pe_tup pa_nil) pa_nil))))), ?_⟩
    walk_at "go"
    obtain ⟨l0, vs, rfl, hs, hA⟩ := sq
    have fin : ∀ (l : Addr) (H1 : Hp), Same H H1 → At K H1 (.ref l) (.t ws) → ∀ p, H1 p = none → ∀ p1, upd H1 p (.tup [.int 1, .int m, .ref l]) p1 = none → ∀ p2, upd (upd H1 p (.tup [.int 1, .int m, .ref l])) p1 (.tup []) p2 = none →
        Q (.ref p2) (upd (upd (upd H1 p (.tup [.int 1, .int m, .ref l])) p1 (.tup [])) p2 (.tup [.ref p, .ref p1])) := fun l H1 s1 al p np p1 n1 p2 n2 => by
      have s2 := ((same_new (o := .tup [.int 1, .int m, .ref l]) np).trans (same_new (o := .tup []) n1)).trans (same_new (o := .tup [.ref p, .ref p1]) n2)
      exact k _ _ (s1.trans s2) (at_tup (SqT.of upd_same) (.cons (at_tup (SqT.of (((same_new n1).trans (same_new n2)) _ _ upd_same)) (.cons (at_int 1) (.cons (at_int m) (.cons (al.kt (Kt.same s2)) .nil)))) (.cons (at_tup (SqT.of ((same_new n2) _ _ upd_same)) .nil) .nil)))
    refine ⟨l0, rfl, vs, ?_⟩
    rcases hs with hs | hs
    · exact .inl ⟨hs, fun l nl => ⟨by decide, fun p np => ⟨by decide, fun p1 n1 => ⟨by decide, fun p2 n2 => fin l _ (same_new nl) (at_tup (SqT.of upd_same) (hA.kt (Kt.new nl))) p np p1 n1 p2 n2⟩⟩⟩⟩
    · exact .inr ⟨hs, by decide, fun p np => ⟨by decide, fun p1 n1 => ⟨by decide, fun p2 n2 => fin l0 _ (Same.refl _) (at_tup hs hA) p np p1 n1 p2 n2⟩⟩⟩
theorem scAdded : FnScope ["worth", "name", "worths", "base", "bag"] ["worth", "name", "worths"] (defScope sAdded) := ⟨rfl, rfl, rfl, by decide +kernel, rfl, by decide +kernel, by decide +kernel⟩
theorem ok_added (D : DefAt K mg "added_worth" sAdded) (B : Bt mg) : Cal P w K mg base CX0 1 "added_worth" ["worth", "name", "worths"] (spAdded K) := by
  refine D.cal (fun _ _ _ _ _ _ us hl => match us, hl with | [_, _, _], _ => rfl) fun f fd F => ?_
  refine F.ok scAdded (fun vs H Q E h => ?_) (fun cdv A outer s H vs Q E HR h => ?_)
  · obtain ⟨x, m, y, b, bag, ws, n, rfl, _⟩ := h
    rfl
  · obtain ⟨x, m, y, b, bag, ws, n, rfl, ax, wx, n9, sq, wy, k⟩ := h
    refine ⟨_, (pss_cons (ps_asg (pv 0) (pg_tup (n := 2) rfl (pgs_cons (pg_name (i := 3) scAdded.nd rfl (Or.inl rfl)) (pgs_cons (pg_name (i := 4) scAdded.nd rfl (Or.inl rfl)) pgs_nil))))
  (pss_one (ps_ret (pe_tup (pa_cons (pv 3) (pa_cons (pe_callTy call_tuple_of (by rfl) B.tuple (by decide +kernel) (pa_cons (pe_callB (cr_sortD (Room.u70 HR)) (by rfl) B.sorted (by decide +kernel) (pa_cons (pe_lst (pa_star (pv 4) (pa_cons (pe_tup (pa_cons (pv 1) (pa_cons (pe_callTy call_tuple_of (by rfl) B.tuple (by decide +kernel) (pa_cons (pv 2) pa_nil)) pa_nil))) pa_nil))) pa_nil)) pa_nil)) pa_nil)))))), ?_⟩
    obtain ⟨a, vs0, rfl, h0, a0⟩ := tup_at ax
    cases a0 with
    | @cons vb _ _ _ ab a0 =>
    cases a0 with
    | cons abag a0 =>
    cases a0
    obtain ⟨ga, gvs, rfl, hg, ag⟩ := tup_at abag
    walk_at "go"
    obtain ⟨l0, vs, rfl, hs, hA⟩ := sq
    have shp : ∃ n', n = n' + 1 ∧ bag.length ≤ 7 ∧ ∀ t ∈ bag, Tr.TL (Tr.WL n') t := by
      cases n with
      | zero => exact wx.elim
      | succ n' =>
        obtain ⟨b', bag', e0, _, h7, ht⟩ := wx
        obtain ⟨rfl, rfl⟩ := Tr.wor_inj e0
        exact ⟨n', rfl, h7, ht⟩
    obtain ⟨n', rfl, h7, ht⟩ := shp
    have tl : ∀ t ∈ bag ++ [Tr.trn m ws], Tr.TL (Tr.WL (n' + 1)) t := fun t mt => (List.mem_append.mp mt).elim (fun mt => (ht t mt).imp fun _ h => h.up) fun mt => ⟨m, ws, List.mem_singleton.mp mt, wy⟩
    have fin : ∀ (l : Addr) (H1 : Hp), Same H H1 → At K H1 (.ref l) (.t ws) → ∀ p, H1 p = none → (gvs ++ [V.ref p]).length ≤ sizeLine ∧ ∀ p1, upd H1 p (.tup [.int m, .ref l]) p1 = none →
        rSortD K [V.ref p1] (upd (upd H1 p (.tup [.int m, .ref l])) p1 (.lst (gvs ++ [.ref p]))) fun x H2 => ∃ p, x = V.ref p ∧ ∃ x, (SqL K H2 p x ∧ ∀ (l : Addr), H2 l = none → 2 ≤ sizeLine ∧ ∀ (p : Addr), upd H2 l (.tup x) p = none → Q (V.ref p) (upd (upd H2 l (.tup x)) p (.tup [vb, V.ref l]))) ∨
          SqT K H2 p x ∧ 2 ≤ sizeLine ∧ ∀ (p_1 : Addr), H2 p_1 = none → Q (V.ref p_1) (upd H2 p_1 (.tup [vb, V.ref p])) := fun l H1 s1 al p np => by
      refine ⟨?_, fun p1 n1 => ?_⟩
      · rw [List.length_append, ag.length]
        exact Nat.le_trans (Nat.succ_le_succ h7) (by decide)
      have s2 := (same_new (o := .tup [.int m, .ref l]) np).trans (same_new (o := .lst (gvs ++ [.ref p])) n1)
      have at1 : At K (upd (upd H1 p (.tup [.int m, .ref l])) p1 (.lst (gvs ++ [.ref p]))) (.ref p) (Tr.trn m ws) :=
        at_tup (SqT.of ((same_new n1) _ _ upd_same)) (.cons (at_int m) (.cons (al.kt (Kt.same s2)) .nil))
      have s02 := s1.trans s2
      refine ⟨p1, _, bag ++ [Tr.trn m ws], rfl, .inl (SqL.of upd_same), (ag.kt (Kt.same s02)).append (.cons at1 .nil), fun y hy z hz => (tl y hy).ak (fun v v' q q' => q.ak q') (tl z hz), sortOk_w fun y hy => ?_, fun y hy => ?_, fun p4 us ys n4 pr pw ay4 => ?_⟩
      · obtain ⟨i, zs, rfl, _⟩ := tl y hy
        exact ⟨_, _, rfl⟩
      · obtain ⟨i, zs, rfl, q⟩ := tl y hy
        have := deps_le (n := 40) (xs := zs) fun v hv => Nat.le_trans (q v hv).dep_le (by omega)
        unfold Tr.trn; simp only [Tr.dep_t, Tr.deps_cons, Tr.deps_nil, Tr.dep_i]; omega
      refine ⟨p4, rfl, ys, .inl ⟨SqL.of upd_same, fun l5 n5 => ⟨by decide, fun p6 n6 => ?_⟩⟩⟩
      have s6 := ((s02.trans (same_new (o := .lst ys) n4)).trans (same_new (o := .tup ys) n5)).trans (same_new (o := .tup [vb, .ref l5]) n6)
      exact k (.ref p6) us _ s6 (at_tup (SqT.of upd_same) (.cons (ab.kt (Kt.same s6)) (.cons (at_tup (SqT.of ((same_new n6) _ _ upd_same)) (ay4.kt (((Kt.new n4).trans (Kt.new n5)).trans (Kt.new n6)))) .nil))) pr pw
    refine ⟨_, h0, rfl, vb, _, rfl, _, _, rfl, rfl, ga, rfl, gvs, .inl hg, l0, rfl, vs, ?_⟩
    rcases hs with hs | hs
    · exact .inl ⟨hs, fun l nl => ⟨by decide, fun p np => fin l _ (same_new nl) (at_tup (SqT.of upd_same) (hA.kt (Kt.new nl))) p np⟩⟩
    · exact .inr ⟨hs, by decide, fun p np => fin l0 _ (Same.refl _) (at_tup hs hA) p np⟩
end


set_option Elab.async false
set_option linter.all false
set_option maxRecDepth 100000
set_option maxHeartbeats 4000000
open PySem L2 StX


def nS (m : Int) : Str := Str.ofString (toString m)
def callS (m : Int) (ps : List Str) : Str := ((nS m ++ Str.ofString "(") ++ Txt.join (Str.ofString ", ") ps) ++ Str.ofString ")"
def addS (acc : Str) (ps : List Str) : Str := ps.foldl (fun a p => (a ++ Str.ofString " + ") ++ p) acc
def txtT (f : Tr → Str) : Tr → Str
  | .t [.i m, .t ws] => callS m (ws.map f)
  | _ => Str.empty
def txtB (f : Tr → Str) : Tr → Str
  | .t [.i _, .i c] => Str.ofString "b" ++ nS c
  | .t [.i _, .i m, .t ws] => callS m (ws.map f)
  | _ => Str.empty
def txt : Nat → Tr → Str
  | 0, _ => Str.empty
  | n + 1, .t [b, .t bag] => addS (txtB (txt n) b) (bag.map (txtT (txt n)))
  | _ + 1, _ => Str.empty
theorem txt_wor (n : Nat) (b : Tr) (bag : List Tr) : txt (n + 1) (Tr.wor b bag) = addS (txtB (txt n) b) (bag.map (txtT (txt n))) := rfl
theorem join_e : ∀ (x : Str) (r : List Str), Txt.join Str.empty (x :: r) = x ++ Txt.join Str.empty r := fun x r => by
  rw [TL.join_eq, TL.join_eq]
  cases r with
  | nil => exact (Str.append_empty x).symm
  | cons y r =>
    show x ++ Str.empty ++ Str.join Str.empty (y :: r) = _
    rw [Str.append_empty]
theorem add_join : ∀ (ps : List Str) (acc : Str), acc ++ Txt.join Str.empty (ps.map fun p => Str.ofString " + " ++ p) = addS acc ps
  | [], acc => by
    show acc ++ Txt.join Str.empty [] = acc
    rw [TL.join_eq]
    exact Str.append_empty acc
  | p :: ps, acc => by
    rw [List.map_cons, join_e, ← Str.append_assoc, ← Str.append_assoc]
    exact add_join ps _
theorem nS_len {m : Int} (h0 : 0 ≤ m) (h1 : m ≤ 99) : (nS m).length ≤ 2 := PyProof.Rows.toString_length_le h0 (by decide) (by omega)
theorem lenS (s : String) (k : Nat) (h : (Str.ofString s).length = k := by decide +kernel) : (Str.ofString s).length = k := h
theorem call_len {m : Int} {ps : List Str} (h0 : 0 ≤ m) (h1 : m ≤ 99) (h4 : ps.length ≤ 4) : (callS m ps).length ≤ 10 + (ps.map (·.length)).sum := by
  unfold callS
  rw [Str.length_append, Str.length_append, Str.length_append, lenS "(" 1, lenS ")" 1]
  have h := PySem.size_glued (Str.ofString ", ") ps
  rw [lenS ", " 2] at h
  have e : (Txt.join (Str.ofString ", ") ps).length = (Builtin.Str.glued (Str.ofString ", ") ps).length := rfl
  have := nS_len h0 h1
  omega
theorem add_len : ∀ (ps : List Str) (acc : Str), (addS acc ps).length = acc.length + 3 * ps.length + (ps.map (·.length)).sum
  | [], acc => by simp [addS]
  | p :: ps, acc => by
    have := add_len ps ((acc ++ Str.ofString " + ") ++ p)
    rw [Str.length_append, Str.length_append, lenS " + " 3] at this
    show (addS ((acc ++ Str.ofString " + ") ++ p) ps).length = _
    rw [this, List.length_cons, List.map_cons, List.sum_cons]
    omega
theorem sum_le {f : Tr → Str} : ∀ {ws : List Tr}, (∀ v ∈ ws, (f v).length ≤ 5 * v.toTh.sz) → ((ws.map f).map (·.length)).sum ≤ 5 * Th.szs (ws.map Tr.toTh)
  | [], _ => Nat.zero_le _
  | v :: ws, h => by
    have := h v List.mem_cons_self
    have := sum_le fun u m => h u (List.mem_cons_of_mem _ m)
    rw [List.map_cons, List.map_cons, List.sum_cons, List.map_cons, Th.szs_cons]
    omega
theorem turn_txt {f : Tr → Str} {t : Tr} (h : Tr.GTurn t) (k : ∀ v ∈ Tr.heldT t, (f v).length ≤ 5 * v.toTh.sz) : (txtT f t).length + 5 ≤ 5 * t.toTh.sz := by
  obtain ⟨m, ws, rfl, h0, h1, h4⟩ := h
  have a := call_len (m := m) (ps := ws.map f) h0 h1 (by rw [List.length_map]; exact h4)
  have b := sum_le (f := f) (ws := ws) k
  rw [Tr.trn_th, Th.sz_t, Th.szs_cons, Th.szs_cons, Th.szs_nil, Th.sz_i, Th.sz_t]
  show (callS m (ws.map f)).length + 5 ≤ _
  omega
theorem base_txt {f : Tr → Str} {b : Tr} (h : Tr.GBase b) (k : ∀ v ∈ Tr.heldB b, (f v).length ≤ 5 * v.toTh.sz) : (txtB f b).length ≤ 5 * b.toTh.sz := by
  rcases h with ⟨c, rfl, h0, h1⟩ | ⟨m, ws, rfl, h0, h1, h4⟩
  · rw [Tr.base0_th, Th.sz_t, Th.szs_cons, Th.szs_cons, Th.szs_nil, Th.sz_i, Th.sz_i]
    show (Str.ofString "b" ++ nS c).length ≤ _
    rw [Str.length_append, lenS "b" 1]
    have := nS_len h0 (by omega : c ≤ 99)
    omega
  · have a := call_len (m := m) (ps := ws.map f) h0 h1 (by rw [List.length_map]; exact h4)
    have b := sum_le (f := f) (ws := ws) k
    rw [Tr.base1_th, Th.sz_t, Th.szs_cons, Th.szs_cons, Th.szs_cons, Th.szs_nil, Th.sz_i, Th.sz_i, Th.sz_t]
    show (callS m (ws.map f)).length ≤ _
    omega
theorem bag_txt {f : Tr → Str} : ∀ {bag : List Tr}, (∀ t ∈ bag, Tr.GTurn t) → (∀ v ∈ bag.flatMap Tr.heldT, (f v).length ≤ 5 * v.toTh.sz) → 3 * bag.length + ((bag.map (txtT f)).map (·.length)).sum ≤ 5 * Th.szs (bag.map Tr.toTh)
  | [], _, _ => Nat.zero_le _
  | t :: bag, h, k => by
    have a := turn_txt (f := f) (h t List.mem_cons_self) fun v m => k v (List.mem_flatMap.mpr ⟨t, List.mem_cons_self, m⟩)
    have b := bag_txt (f := f) (bag := bag) (fun u m => h u (List.mem_cons_of_mem _ m)) fun v m => by
      obtain ⟨u, mu, mv⟩ := List.mem_flatMap.mp m
      exact k v (List.mem_flatMap.mpr ⟨u, List.mem_cons_of_mem _ mu, mv⟩)
    rw [List.map_cons, List.map_cons, List.sum_cons, List.length_cons, List.map_cons, Th.szs_cons]
    omega
theorem txt_len : ∀ {n : Nat} {w : Tr}, Tr.WL n w → Tr.GW w → (txt n w).length ≤ 5 * w.toTh.sz
  | 0, _, h, _ => h.elim
  | n + 1, w, h, g => by
    obtain ⟨b, bag, rfl⟩ := g.shape
    obtain ⟨h1, h2, h3, _, h5⟩ := g.inv
    have ih : ∀ v ∈ Tr.held (Tr.wor b bag), (txt n v).length ≤ 5 * v.toTh.sz := fun v m => txt_len (h.held v m) (h5 v m)
    have a := base_txt (f := txt n) h1 fun v m => ih v (by rw [Tr.held_wor]; exact List.mem_append_left _ m)
    have c := bag_txt (f := txt n) h3 fun v m => ih v (by rw [Tr.held_wor]; exact List.mem_append_right _ m)
    rw [txt_wor, add_len, List.length_map, Tr.wor_th, Th.sz_t, Th.szs_cons, Th.szs_cons, Th.szs_nil, Th.sz_t]
    omega


set_option Elab.async false
set_option linter.all false
set_option maxRecDepth 100000
set_option maxHeartbeats 4000000
open PySem L2 StX


def spText (K : PySem.W.Frag) (n : Nat) : Sp := fun vs H Q _ => ∃ v x, vs = [v] ∧ At K H v x ∧ Tr.WL n x ∧ Tr.GW x ∧ x.toTh.sz ≤ 80000 ∧ ∀ H', Same H H' → Q (.str (txt n x)) H'
def spCall (K : PySem.W.Frag) (n : Nat) : Sp := fun vs H Q _ => ∃ v m ws, vs = [v] ∧ At K H v (Tr.trn m ws) ∧ 0 ≤ m ∧ m ≤ 99 ∧ ws.length ≤ 4 ∧ (∀ u ∈ ws, Tr.WL n u ∧ Tr.GW u) ∧ Th.szs (ws.map Tr.toTh) ≤ 80000 ∧ ∀ H', Same H H' → Q (.str (callS m (ws.map (txt n)))) H'
def spCallD (K : PySem.W.Frag) (n : Nat) : Sp := fun vs H Q _ => ∃ v m ws, vs = [.int m, v] ∧ At K H v (.t ws) ∧ 0 ≤ m ∧ m ≤ 99 ∧ ws.length ≤ 4 ∧ (∀ u ∈ ws, Tr.WL n u ∧ Tr.GW u) ∧ Th.szs (ws.map Tr.toTh) ≤ 80000 ∧ ∀ H', Same H H' → Q (.str (callS m (ws.map (txt n)))) H'
theorem ats2 {K : PySem.W.Frag} {H : Hp} {vs : List V} {x y : Tr} (h : Ats K H vs [x, y]) : ∃ v w, vs = [v, w] ∧ At K H v x ∧ At K H w y := by
  cases h with
  | cons a h =>
  cases h with
  | cons b h =>
  cases h
  exact ⟨_, _, rfl, a, b⟩
theorem ats3 {K : PySem.W.Frag} {H : Hp} {vs : List V} {x y z : Tr} (h : Ats K H vs [x, y, z]) : ∃ v w u, vs = [v, w, u] ∧ At K H v x ∧ At K H w y ∧ At K H u z := by
  cases h with
  | cons a h =>
  obtain ⟨v, w, rfl, b, c⟩ := ats2 h
  exact ⟨_, _, _, rfl, a, b, c⟩
theorem lg {m : Int} (h0 : 0 ≤ m) (h1 : m ≤ 99) : m.natAbs.log2 < 1920 := Nat.lt_of_le_of_lt (Nat.log2_le_self _) (by omega)
section
variable {P : Program} {w : World} {K : PySem.W.Frag} {mg : Str → Option Value} {base : Heap}
theorem scCall : FnScope ["call", "name", "worths", "texts", "worth"] ["call"] (defScope sCall) := ⟨rfl, rfl, rfl, by decide +kernel, rfl, by decide +kernel, by decide +kernel⟩
theorem ok_call (D : DefAt K mg "_call_text" sCall) (B : Bt mg) (n k : Nat) (Cworth_text : Cal P w K mg base CX0 k "worth_text" ["worth"] (spText K n)) : Cal P w K mg base CX0 (k + 1) "_call_text" ["call"] (spCall K n) := by
  refine D.cal (fun _ _ _ _ _ _ us hl => match us, hl with | [_], _ => rfl) fun f fd F => ?_
  refine F.ok scCall (fun vs H Q E h => ?_) (fun cdv A outer s H vs Q E HR h => ?_)
  · obtain ⟨v, m, ws, rfl, _⟩ := h
    rfl
  · obtain ⟨v, m, ws, rfl, hx, h0, h1, h4, hw, hz, q⟩ := h
    refine ⟨_, (pss_cons (ps_asg (pv 0) (pg_tup (n := 2) rfl (pgs_cons (pg_name (i := 1) scCall.nd rfl (Or.inl rfl)) (pgs_cons (pg_name (i := 2) scCall.nd rfl (Or.inl rfl)) pgs_nil))))
  (pss_cons (ps_set (i := 3) scCall.nd rfl (Or.inl rfl) (pe_bm PySem.F.plainAttrs_str PySem.F.slot_str_join PySem.F.type_str_join mt_join pe_str (pa_cons (pe_lc (own := [("worth", 4)]) (g := gName 4) (tt := tYes) (te := tCal (spText K n) E0 (tCons (tVar 4) tNil)) rfl scCall.nd (pi_tup (pv 2)) (blkOk_by (own := [("worth", 4)]) (N := ["call", "name", "worths", "texts", "worth"]) (sc := defScope sCall) (by decide +kernel)) (fun _ _ _ _ _ => (pg_name (i := 4) scCall.nd rfl (Or.inl rfl))) (fun _ _ _ _ _ => pts_nil) (fun _ _ _ _ _ => (pe_cal Cworth_text (by rfl) HR pass0 (pa_cons (pv 4) pa_nil)))) pa_nil)))
  (pss_one (ps_ret (pe_joined (PJ.cons (pe_fmt (pv 1)) (PJ.cons pe_str (PJ.cons (pe_fmt (pv 3)) (PJ.cons pe_str PJ.nil))))))))), ?_⟩
    walk_at "go"
    obtain ⟨a, vs, rfl, ha, aA⟩ := tup_at hx
    obtain ⟨v1, v2, e, am, aw⟩ := ats2 aA
    subst e
    rw [int_at am] at *
    obtain ⟨b, wvs, rfl, hb, awv⟩ := tup_at aw
    have lw : wvs.length = ws.length := awv.length
    refine ⟨a, rfl, _, ha, rfl, _, _, rfl, _, _, rfl, rfl, rfl, b, rfl, ⟨_, hb⟩, ?_⟩
    refine lpC_by (wk_tup (xs := wvs)) (fun D i H2 => H D = none ∧ Same H H2 ∧ H2 D = some (.lst (((ws.take i).map (txt n)).map V.str))) (fun D nD => ⟨nD, same_new nD, upd_same⟩) (fun D i H2 _ p => hb.kt (Kt.same p.2.1)) ?_ ?_
    · rintro D i y H2' H2 hi ⟨nD, s2, e2⟩ ⟨rfl, hy⟩
      obtain ⟨u, hu, au⟩ := awv.get hy
      have mu := List.mem_of_getElem? hu
      walk_at "go"
      refine ⟨y, u, rfl, au.kt (Kt.same s2), (hw u mu).1, (hw u mu).2, ?_, fun H3 s3 => ?_⟩
      · have := Th.sz_mem (x := u.toTh) (List.mem_map.mpr ⟨u, mu, rfl⟩)
        omega
      · refine ⟨_, s3 _ _ e2, ?_, nD, fun b o z => by rw [upd_ne (ne_of_none z nD)]; exact s3 _ _ (s2 _ _ z), ?_⟩
        · rw [List.length_map, List.length_map]
          exact Nat.lt_of_le_of_lt (Nat.le_trans (List.length_take_le' ..) h4) (by decide)
        · rw [upd_same, List.take_add_one, hu, List.map_append, List.map_append]
          rfl
    · rintro D H2 nD ⟨_, s2, e2⟩
      rw [lw, List.take_length] at e2
      have sl := sum_le (f := txt n) (ws := ws) fun u mu => txt_len (hw u mu).1 (hw u mu).2
      have cl := call_len (m := m) (ps := ws.map (txt n)) h0 h1 (by rw [List.length_map]; exact h4)
      have big : (callS m (ws.map (txt n))).length ≤ 400010 := by omega
      have lv : (nS m).length ≤ 2 := nS_len h0 h1
      refine ⟨D, rfl, ws.map (txt n), .inl (SqL.of e2), ?_, ?_⟩
      · rw [lenS ", " 2, List.length_map]; omega
      unfold callS at big
      rw [Str.length_append, Str.length_append, Str.length_append] at big
      refine ⟨_, rfl, .inr ⟨m, rfl, lg h0 h1, _, rfl, ?_, _, rfl, ?_, _, rfl, .inl ⟨_, rfl, ?_, _, rfl, ?_, _, rfl, ?_, ?_⟩⟩⟩
      · rw [Str.empty_append]; exact Nat.le_trans lv (by decide)
      · rw [Str.empty_append, Str.length_append]; exact Nat.le_trans (by show (nS m).length + _ ≤ 400010; omega) (by decide : 400010 ≤ sizeLine)
      · exact Nat.le_trans (by omega) (by decide : 400010 ≤ sizeLine)
      · rw [Str.empty_append, Str.length_append, Str.length_append]; exact Nat.le_trans (by show (nS m).length + _ + _ ≤ 400010; omega) (by decide : 400010 ≤ sizeLine)
      · rw [Str.empty_append, Str.length_append, Str.length_append, Str.length_append]; exact Nat.le_trans (by show (nS m).length + _ + _ + _ ≤ 400010; omega) (by decide : 400010 ≤ sizeLine)
      · rw [Str.empty_append]
        exact q H2 s2
theorem scText : FnScope ["worth", "base", "bag", "text", "turn"] ["worth"] (defScope sText) := ⟨rfl, rfl, rfl, by decide +kernel, rfl, by decide +kernel, by decide +kernel⟩
theorem ok_text (D : DefAt K mg "worth_text" sText) (B : Bt mg) (n k : Nat) (C_call_text : Cal P w K mg base CX0 k "_call_text" ["call"] (spCall K n)) : Cal P w K mg base CX0 (k + 1) "worth_text" ["worth"] (spText K (n + 1)) := by
  refine D.cal (fun _ _ _ _ _ _ us hl => match us, hl with | [_], _ => rfl) fun f fd F => ?_
  refine F.ok scText (fun vs H Q E h => ?_) (fun cdv A outer s H vs Q E HR h => ?_)
  · obtain ⟨v, x, rfl, _⟩ := h
    rfl
  · obtain ⟨v, x, rfl, hx, hw, hg, hz, q⟩ := h
    refine ⟨_, (pss_cons (ps_asg (pv 0) (pg_tup (n := 2) rfl (pgs_cons (pg_name (i := 1) scText.nd rfl (Or.inl rfl)) (pgs_cons (pg_name (i := 2) scText.nd rfl (Or.inl rfl)) pgs_nil))))
  (pss_cons (ps_set (i := 3) scText.nd rfl (Or.inl rfl) (pe_ifExp (pt_cmpR op_eq (pe_ix ix_tup (pv 1) pe_int (fun _ _ => rfl)) pe_int (nomark _)) (pe_joined (PJ.cons pe_str (PJ.cons (pe_fmt (pe_ix ix_tup (pv 1) pe_int (fun _ _ => rfl))) PJ.nil))) (pe_cal C_call_text (by rfl) HR pass0 (pa_cons (pe_slice sl_tupA (pv 1) (po_some pe_int) po_none) pa_nil))))
  (pss_one (ps_ret (pe_op op_add_str (pv 3) (pe_bm PySem.F.plainAttrs_str PySem.F.slot_str_join PySem.F.type_str_join mt_join pe_str (pa_cons (pe_lc (own := [("turn", 4)]) (g := gName 4) (tt := tYes) (te := tOp (fun x y H Q => ∃ i j, x = V.str i ∧ y = V.str j ∧ i.length + j.length ≤ sizeLine ∧ Q (V.str (i ++ j)) H) (tC (.str (Str.ofString " + "))) (tCal (spCall K n) E0 (tCons (tVar 4) tNil))) rfl scText.nd (pi_tup (pv 2)) (blkOk_by (own := [("turn", 4)]) (N := ["worth", "base", "bag", "text", "turn"]) (sc := defScope sText) (by decide +kernel)) (fun _ _ _ _ _ => (pg_name (i := 4) scText.nd rfl (Or.inl rfl))) (fun _ _ _ _ _ => pts_nil) (fun _ _ _ _ _ => (pe_op op_add_str pe_str (pe_cal C_call_text (by rfl) HR pass0 (pa_cons (pv 4) pa_nil))))) pa_nil))))))), ?_⟩
    walk_at "go"
    obtain ⟨b, bag, rfl⟩ := hg.shape
    obtain ⟨g1, g2, g3, g4, g5⟩ := hg.inv
    have wl : ∀ u ∈ Tr.held (Tr.wor b bag), Tr.WL n u ∧ Tr.GW u := fun u m => ⟨hw.held u m, g5 u m⟩
    have ln := txt_len hw hg
    have ln2 : (txt (n + 1) (Tr.wor b bag)).length ≤ 400000 := by omega
    obtain ⟨a, vs0, rfl, h0, a0⟩ := tup_at hx
    obtain ⟨vb, vg, e, ab, abag⟩ := ats2 a0
    subst e
    obtain ⟨ga, gvs, rfl, hga, ag⟩ := tup_at abag
    have lg2 : gvs.length = bag.length := ag.length
    have szb : Th.szs (bag.map Tr.toTh) ≤ 80000 ∧ b.toTh.sz ≤ 80000 := by
      rw [Tr.wor_th, Th.sz_t, Th.szs_cons, Th.szs_cons, Th.szs_nil, Th.sz_t] at hz
      omega
    have fin : ∀ (σ1 : Option V) (H1 : Hp) (Q' : VK), Same H H1 → (∀ D H2, Same H1 H2 → H2 D = some (.lst (((bag.map (txtT (txt n))).map fun p => Str.ofString " + " ++ p).map V.str)) → Q' (.ref D) H2) →
        LpC (gName 4) tYes (tOp (fun x y H Q => ∃ i, x = V.str i ∧ ∃ j, y = V.str j ∧ i.length + j.length ≤ sizeLine ∧ Q (V.str (i ++ j)) H) (tC (.str (Str.ofString " + "))) (tCal (spCall K n) E0 (tCons (tVar 4) tNil))) [4] [some (.ref a), some vb, some (.ref ga), σ1, none] Q' (Itt K ga) H1 := by
      intro σ1 H1 Q' s1 q'
      refine lpC_by (wk_tup (xs := gvs)) (fun D i H2 => H1 D = none ∧ Same H1 H2 ∧ H2 D = some (.lst ((((bag.take i).map (txtT (txt n))).map fun p => Str.ofString " + " ++ p).map V.str))) (fun D nD => ⟨nD, same_new nD, upd_same⟩) (fun D i H2 _ p => hga.kt (Kt.same (s1.trans p.2.1))) ?_ ?_
      · rintro D i y H2' H2 hi ⟨nD, s2, e2⟩ ⟨rfl, hy⟩
        obtain ⟨u, hu, au⟩ := ag.get hy
        have mu := List.mem_of_getElem? hu
        obtain ⟨m, ws, rfl, h0', h1', h4'⟩ := g3 u mu
        have hz' := Th.sz_mem (x := (Tr.trn m ws).toTh) (List.mem_map.mpr ⟨_, mu, rfl⟩)
        have hz2 : Th.szs (ws.map Tr.toTh) + 3 ≤ 80000 := by
          rw [Tr.trn_th, Th.sz_t, Th.szs_cons, Th.szs_cons, Th.szs_nil, Th.sz_i, Th.sz_t] at hz'
          omega
        have hws : ∀ v ∈ ws, Tr.WL n v ∧ Tr.GW v := fun v mv => wl v (by rw [Tr.held_wor]; exact List.mem_append_right _ (List.mem_flatMap.mpr ⟨_, mu, mv⟩))
        walk_at "go"
        refine ⟨y, m, ws, rfl, au.kt (Kt.same (s1.trans s2)), h0', h1', h4', hws, by omega, fun H3 s3 => ⟨_, rfl, ?_, ?_⟩⟩
        · have sl := sum_le (f := txt n) (ws := ws) fun u mu => txt_len (hws u mu).1 (hws u mu).2
          have cl := call_len (m := m) (ps := ws.map (txt n)) h0' h1' (by rw [List.length_map]; exact h4')
          rw [lenS " + " 3]
          exact Nat.le_trans (by omega) (by decide : 400020 ≤ sizeLine)
        · refine ⟨_, s3 _ _ e2, ?_, nD, fun b o z => by rw [upd_ne (ne_of_none z nD)]; exact s3 _ _ (s2 _ _ z), ?_⟩
          · rw [List.length_map, List.length_map, List.length_map]
            exact Nat.lt_of_le_of_lt (Nat.le_trans (List.length_take_le' ..) g2) (by decide)
          · rw [upd_same, List.take_add_one, hu, List.map_append, List.map_append, List.map_append]
            rfl
      · rintro D H2 nD ⟨_, s2, e2⟩
        rw [lg2, List.take_length] at e2
        exact q' D H2 s2 e2
    have done : ∀ (D : Addr) (H2 : Hp), Same H H2 → H2 D = some (.lst (((bag.map (txtT (txt n))).map fun p => Str.ofString " + " ++ p).map V.str)) →
        (SqL K H2 D (((bag.map (txtT (txt n))).map fun p => Str.ofString " + " ++ p).map V.str)) ∧ ((((bag.map (txtT (txt n))).map fun p => Str.ofString " + " ++ p)).map fun x => x.length).sum + (((bag.map (txtT (txt n))).map fun p => Str.ofString " + " ++ p)).length * (Str.ofString "").length ≤ 16777216 ∧
        (txtB (txt n) b).length + (Txt.join (Str.ofString "") ((bag.map (txtT (txt n))).map fun p => Str.ofString " + " ++ p)).length ≤ sizeLine ∧ Q (.str (txtB (txt n) b ++ Txt.join (Str.ofString "") ((bag.map (txtT (txt n))).map fun p => Str.ofString " + " ++ p))) H2 := by
      intro D H2 s2 e2
      have e0 : Str.ofString "" = Str.empty := by decide +kernel
      have j := add_join (bag.map (txtT (txt n))) (txtB (txt n) b)
      rw [e0, j]
      refine ⟨SqL.of e2, ?_, ?_, ?_⟩
      · have c := bag_txt (f := txt n) g3 fun v m => txt_len (wl v (by rw [Tr.held_wor]; exact List.mem_append_right _ m)).1 (wl v (by rw [Tr.held_wor]; exact List.mem_append_right _ m)).2
        have e3 : ∀ ps : List Str, ((ps.map fun p => Str.ofString " + " ++ p).map fun x => x.length).sum = 3 * ps.length + (ps.map (·.length)).sum := fun ps => by
          induction ps with
          | nil => rfl
          | cons p ps ih => rw [List.map_cons, List.map_cons, List.sum_cons, ih, Str.length_append, lenS " + " 3, List.length_cons, List.map_cons, List.sum_cons]; omega
        rw [e3, List.length_map, show Str.empty.length = 0 from rfl, Nat.mul_zero]
        omega
      · rw [← Str.length_append, j]
        exact Nat.le_trans ln2 (by decide)
      · exact q H2 s2
    refine ⟨a, rfl, _, h0, rfl, _, _, rfl, _, _, rfl, rfl, ?_⟩
    rcases g1 with ⟨c, rfl, c0, c2⟩ | ⟨m, ws, rfl, m0, m1, m4⟩
    · obtain ⟨ba, bvs, rfl, hba, abv⟩ := tup_at ab
      obtain ⟨w1, w2, e, a1, a2⟩ := ats2 abv
      subst e
      rw [int_at a1, int_at a2] at hba
      refine ⟨ba, rfl, _, hba, _, atI_0, ?_⟩
      rw [rEq_int]
      refine ⟨_, rfl, ite_t rfl ?_⟩
      simp only [tJs, tFmt]
      walk_at "go"
      refine ⟨by decide +kernel, _, hba, _, atI_1, .inr ⟨c, rfl, lg c0 (by omega), ?_, rfl, ⟨_, hga⟩, ?_⟩⟩
      · rw [Str.empty_append, Str.length_append, lenS "b" 1]
        have := nS_len c0 (by omega : c ≤ 99)
        exact Nat.le_trans (by show 1 + (nS c).length ≤ 3; omega) (by decide : 3 ≤ sizeLine)
      · refine fin _ H _ (Same.refl _) fun D H2 s2 e2 => ?_
        obtain ⟨d1, d2, d3, d4⟩ := done D H2 s2 e2
        rw [Str.empty_append]
        exact ⟨D, rfl, _, .inl d1, d2, d3, d4⟩
    · obtain ⟨ba, bvs, rfl, hba, abv⟩ := tup_at ab
      obtain ⟨w1, w2, w3, e, a1, a2, a3⟩ := ats3 abv
      subst e
      rw [int_at a1, int_at a2] at hba
      refine ⟨ba, rfl, _, hba, _, atI_0, ?_⟩
      rw [rEq_int]
      refine ⟨_, rfl, ite_f (by decide) ⟨ba, rfl, _, hba, fun z => absurd (show (1 : Nat) = 0 from z.1) (by decide), fun _ p np => ?_⟩⟩
      have sl : Th.szs (ws.map Tr.toTh) ≤ 80000 := by
        have := szb.2
        rw [Tr.base1_th, Th.sz_t, Th.szs_cons, Th.szs_cons, Th.szs_cons, Th.szs_nil, Th.sz_i, Th.sz_i, Th.sz_t] at this
        omega
      refine ⟨.ref p, m, ws, rfl, at_tup (SqT.of upd_same) (.cons (at_int m) (.cons (a3.kt (Kt.new np)) .nil)), m0, m1, m4, fun v mv => wl v (by rw [Tr.held_wor]; exact List.mem_append_left _ mv), sl, fun H1 s1 => ⟨rfl, ga, rfl, ⟨_, hga.kt (Kt.same ((same_new np).trans s1))⟩, ?_⟩⟩
      refine fin _ H1 _ ((same_new np).trans s1) fun D H2 s2 e2 => ?_
      obtain ⟨d1, d2, d3, d4⟩ := done D H2 (((same_new np).trans s1).trans s2) e2
      exact ⟨D, rfl, _, .inl d1, d2, _, rfl, d3, d4⟩
end


set_option Elab.async false
set_option linter.all false
set_option maxRecDepth 100000
set_option maxHeartbeats 4000000
open PySem L2 StX


section
variable {P : Program} {w : World} {K : PySem.W.Frag} {mg : Str → Option Value} {base : Heap}
theorem scCallD : FnScope ["_law_name_here", "_law_worths", "_law_worth"] ["_law_name_here", "_law_worths"] (defScope sCallD) := ⟨rfl, rfl, rfl, by decide +kernel, rfl, by decide +kernel, by decide +kernel⟩
theorem ok_callD (D : DefAt K mg "_law_call_due" sCallD) (B : Bt mg) (n k : Nat) (C_text_due : Cal P w K mg base CX0 k "_law_text_due" ["_law_worth"] (spText K n)) : Cal P w K mg base CX0 (k + 1) "_law_call_due" ["_law_name_here", "_law_worths"] (spCallD K n) := by
  refine D.cal (fun _ _ _ _ _ _ us hl => match us, hl with | [_, _], _ => rfl) fun f fd F => ?_
  refine F.ok scCallD (fun vs H Q E h => ?_) (fun cdv A outer s H vs Q E HR h => ?_)
  · obtain ⟨v, m, ws, rfl, _⟩ := h
    rfl
  · obtain ⟨v, m, ws, rfl, hx, h0, h1, h4, hw, hz, q⟩ := h
    refine ⟨_, (pss_one (ps_ret (pe_op op_add_str (pe_op op_add_str (pe_op op_add_str (pe_callTy call_str_int (by rfl) B.str (by decide +kernel) (pa_cons (pv 0) pa_nil)) pe_str) (pe_bm PySem.F.plainAttrs_str PySem.F.slot_str_join PySem.F.type_str_join mt_join pe_str (pa_cons (pe_lc (own := [("_law_worth", 2)]) (g := gName 2) (tt := tYes) (te := tCal (spText K n) E0 (tCons (tVar 2) tNil)) rfl scCallD.nd (pi_tup (pv 1)) (blkOk_by (own := [("_law_worth", 2)]) (N := ["_law_name_here", "_law_worths", "_law_worth"]) (sc := defScope sCallD) (by decide +kernel)) (fun _ _ _ _ _ => (pg_name (i := 2) scCallD.nd rfl (Or.inl rfl))) (fun _ _ _ _ _ => pts_nil) (fun _ _ _ _ _ => (pe_cal C_text_due (by rfl) HR pass0 (pa_cons (pv 2) pa_nil)))) pa_nil))) pe_str))), ?_⟩
    walk_at "go"
    obtain ⟨b, wvs, rfl, hb, awv⟩ := tup_at hx
    have lw : wvs.length = ws.length := awv.length
    have lv : (nS m).length ≤ 2 := nS_len h0 h1
    refine ⟨lg h0 h1, ?_, rfl, b, rfl, ⟨_, hb⟩, ?_⟩
    · rw [lenS "(" 1]
      exact Nat.le_trans (by show (nS m).length + 1 ≤ 3; omega) (by decide : 3 ≤ sizeLine)
    refine lpC_by (wk_tup (xs := wvs)) (fun D i H2 => H D = none ∧ Same H H2 ∧ H2 D = some (.lst (((ws.take i).map (txt n)).map V.str))) (fun D nD => ⟨nD, same_new nD, upd_same⟩) (fun D i H2 _ p => hb.kt (Kt.same p.2.1)) ?_ ?_
    · rintro D i y H2' H2 hi ⟨nD, s2, e2⟩ ⟨rfl, hy⟩
      obtain ⟨u, hu, au⟩ := awv.get hy
      have mu := List.mem_of_getElem? hu
      walk_at "go"
      refine ⟨y, u, rfl, au.kt (Kt.same s2), (hw u mu).1, (hw u mu).2, ?_, fun H3 s3 => ?_⟩
      · have := Th.sz_mem (x := u.toTh) (List.mem_map.mpr ⟨u, mu, rfl⟩)
        omega
      · refine ⟨_, s3 _ _ e2, ?_, nD, fun b o z => by rw [upd_ne (ne_of_none z nD)]; exact s3 _ _ (s2 _ _ z), ?_⟩
        · rw [List.length_map, List.length_map]
          exact Nat.lt_of_le_of_lt (Nat.le_trans (List.length_take_le' ..) h4) (by decide)
        · rw [upd_same, List.take_add_one, hu, List.map_append, List.map_append]
          rfl
    · rintro D H2 nD ⟨_, s2, e2⟩
      rw [lw, List.take_length] at e2
      have sl := sum_le (f := txt n) (ws := ws) fun u mu => txt_len (hw u mu).1 (hw u mu).2
      have cl := call_len (m := m) (ps := ws.map (txt n)) h0 h1 (by rw [List.length_map]; exact h4)
      have big : (callS m (ws.map (txt n))).length ≤ 400010 := by omega
      refine ⟨D, rfl, ws.map (txt n), .inl (SqL.of e2), ?_, ?_, ?_, q H2 s2⟩
      · rw [lenS ", " 2, List.length_map]; omega
      all_goals
        unfold callS at big
        rw [Str.length_append, Str.length_append] at big
      · exact Nat.le_trans (by show (nS m ++ Str.ofString "(").length + _ ≤ 400010; omega) (by decide : 400010 ≤ sizeLine)
      · rw [Str.length_append]
        exact Nat.le_trans (by show (nS m ++ Str.ofString "(").length + _ + _ ≤ 400010; omega) (by decide : 400010 ≤ sizeLine)
theorem scTextD : FnScope ["_law_worth", "_law_base", "_law_bag", "_law_text", "_law_turn"] ["_law_worth"] (defScope sTextD) := ⟨rfl, rfl, rfl, by decide +kernel, rfl, by decide +kernel, by decide +kernel⟩
theorem ok_textD (D : DefAt K mg "_law_text_due" sTextD) (B : Bt mg) (n k : Nat) (C_call_due : Cal P w K mg base CX0 k "_law_call_due" ["_law_name_here", "_law_worths"] (spCallD K n)) : Cal P w K mg base CX0 (k + 1) "_law_text_due" ["_law_worth"] (spText K (n + 1)) := by
  refine D.cal (fun _ _ _ _ _ _ us hl => match us, hl with | [_], _ => rfl) fun f fd F => ?_
  refine F.ok scTextD (fun vs H Q E h => ?_) (fun cdv A outer s H vs Q E HR h => ?_)
  · obtain ⟨v, x, rfl, _⟩ := h
    rfl
  · obtain ⟨v, x, rfl, hx, hw, hg, hz, q⟩ := h
    refine ⟨_, (pss_cons (ps_asg (pv 0) (pg_tup (n := 2) rfl (pgs_cons (pg_name (i := 1) scTextD.nd rfl (Or.inl rfl)) (pgs_cons (pg_name (i := 2) scTextD.nd rfl (Or.inl rfl)) pgs_nil))))
  (pss_cons (ps_set (i := 3) scTextD.nd rfl (Or.inl rfl) (pe_ifExp (pt_cmpR op_eq (pe_ix ix_tup (pv 1) pe_int (fun _ _ => rfl)) pe_int (nomark _)) (pe_op op_add_str pe_str (pe_callTy call_str_int (by rfl) B.str (by decide +kernel) (pa_cons (pe_ix ix_tup (pv 1) pe_int (fun _ _ => rfl)) pa_nil))) (pe_cal C_call_due (by rfl) HR pass0 (pa_cons (pe_ix ix_tup (pv 1) pe_int (fun _ _ => rfl)) (pa_cons (pe_ix ix_tup (pv 1) pe_int (fun _ _ => rfl)) pa_nil)))))
  (pss_cons (ps_for PassesOwn.never rfl (pi_tup (pv 2)) (pg_name (i := 4) scTextD.nd rfl (Or.inl rfl)) (pss_one (ps_set (i := 3) scTextD.nd rfl (Or.inl rfl) (pe_op op_add_str (pe_op op_add_str (pv 3) pe_str) (pe_cal C_call_due (by rfl) HR pass0 (pa_cons (pe_ix ix_tup (pv 4) pe_int (fun _ _ => rfl)) (pa_cons (pe_ix ix_tup (pv 4) pe_int (fun _ _ => rfl)) pa_nil)))))))
  (pss_one (ps_ret (pv 3)))))), ?_⟩
    walk_at "go"
    obtain ⟨b, bag, rfl⟩ := hg.shape
    obtain ⟨g1, g2, g3, g4, g5⟩ := hg.inv
    have wl : ∀ u ∈ Tr.held (Tr.wor b bag), Tr.WL n u ∧ Tr.GW u := fun u m => ⟨hw.held u m, g5 u m⟩
    have ln := txt_len hw hg
    have ln2 : (txt (n + 1) (Tr.wor b bag)).length ≤ 400000 := by omega
    have cap : ∀ i, (addS (txtB (txt n) b) ((bag.take i).map (txtT (txt n)))).length ≤ 400000 := fun i => by
      refine Nat.le_trans ?_ ln2
      rw [txt_wor, add_len, add_len, List.length_map, List.length_map]
      have h1 := List.length_take_le' i bag
      have h2 : (((bag.take i).map (txtT (txt n))).map (·.length)).sum ≤ ((bag.map (txtT (txt n))).map (·.length)).sum := by
        conv => rhs; rw [← List.take_append_drop i bag, List.map_append, List.map_append, List.sum_append]
        exact Nat.le_add_right _ _
      omega
    obtain ⟨a, vs0, rfl, h0, a0⟩ := tup_at hx
    obtain ⟨vb, vg, e, ab, abag⟩ := ats2 a0
    subst e
    obtain ⟨ga, gvs, rfl, hga, ag⟩ := tup_at abag
    have lg2 : gvs.length = bag.length := ag.length
    have szb : Th.szs (bag.map Tr.toTh) ≤ 80000 ∧ b.toTh.sz ≤ 80000 := by
      rw [Tr.wor_th, Th.sz_t, Th.szs_cons, Th.szs_cons, Th.szs_nil, Th.sz_t] at hz
      omega
    refine ⟨a, rfl, _, h0, rfl, _, _, rfl, _, _, rfl, rfl, ?_⟩
    rcases g1 with ⟨c, rfl, c0, c2⟩ | ⟨m, ws, rfl, m0, m1, m4⟩
    · obtain ⟨ba, bvs, rfl, hba, abv⟩ := tup_at ab
      obtain ⟨w1, w2, e, a1, a2⟩ := ats2 abv
      subst e
      rw [int_at a1, int_at a2] at hba
      refine ⟨ba, rfl, _, hba, _, atI_0, ?_⟩
      rw [rEq_int]
      refine ⟨_, rfl, ite_t rfl ⟨ba, rfl, _, hba, _, atI_1, c, rfl, lg c0 (by omega), ?_, ga, rfl, ⟨_, hga⟩, ?_⟩⟩
      · rw [lenS "b" 1]
        have := nS_len c0 (by omega : c ≤ 99)
        exact Nat.le_trans (by show 1 + (nS c).length ≤ 3; omega) (by decide : 3 ≤ sizeLine)

      refine lp_by (wk_tup (xs := gvs)) (fun i σ H2 => ∃ t, σ = [some (.ref a), some (.ref ba), some (.ref ga), some (.str (addS (txtB (txt n) (Tr.base0 c)) ((bag.take i).map (txtT (txt n))))), t] ∧ Same H H2) ⟨none, rfl, Same.refl _⟩ (fun i σ H2 _ p => by obtain ⟨_, _, s⟩ := p; exact hga.kt (Kt.same s)) ?_ ?_
      · rintro i y σ H2' H2 hi ⟨t, rfl, s2⟩ ⟨rfl, hy⟩
        obtain ⟨u, hu, au⟩ := ag.get hy
        have mu := List.mem_of_getElem? hu
        obtain ⟨tm, tws, rfl, h0', h1', h4'⟩ := g3 u mu
        have hz' := Th.sz_mem (x := (Tr.trn tm tws).toTh) (List.mem_map.mpr ⟨_, mu, rfl⟩)
        have hz2 : Th.szs (tws.map Tr.toTh) + 3 ≤ 80000 := by
          rw [Tr.trn_th, Th.sz_t, Th.szs_cons, Th.szs_cons, Th.szs_nil, Th.sz_i, Th.sz_t] at hz'
          omega
        have hws : ∀ v ∈ tws, Tr.WL n v ∧ Tr.GW v := fun v mv => wl v (by rw [Tr.held_wor]; exact List.mem_append_right _ (List.mem_flatMap.mpr ⟨_, mu, mv⟩))
        obtain ⟨ta, tvs, rfl, hta, atv⟩ := tup_at (au.kt (Kt.same s2))
        obtain ⟨t1, t2, e, b1, b2⟩ := ats2 atv
        subst e
        rw [int_at b1] at hta
        have tk : bag.take (i + 1) = bag.take i ++ [Tr.trn tm tws] := by rw [List.take_add_one, hu]; rfl
        have stp : addS (txtB (txt n) (Tr.base0 c)) ((bag.take (i + 1)).map (txtT (txt n))) = (addS (txtB (txt n) (Tr.base0 c)) ((bag.take i).map (txtT (txt n))) ++ Str.ofString " + ") ++ callS tm (tws.map (txt n)) := by
          rw [tk, List.map_append]
          unfold addS
          rw [List.foldl_append]
          rfl
        have lst := cap (i + 1)
        rw [stp, Str.length_append, Str.length_append] at lst
        walk_at "go"
        refine ⟨?_, _, hta, _, atI_0, _, hta, _, atI_1, _, tm, tws, rfl, b2, h0', h1', h4', hws, by omega, fun H3 s3 => ⟨_, rfl, ?_, stp.symm, s2.trans s3⟩⟩
        · exact Nat.le_trans (by omega) (by decide : 400000 ≤ sizeLine)
        · rw [Str.length_append]
          exact Nat.le_trans lst (by decide : 400000 ≤ sizeLine)
      · rintro σ H2 ⟨t, rfl, s2⟩
        walk_at "go"
        rw [ag.length, List.take_length]
        exact q H2 s2

    · obtain ⟨ba, bvs, rfl, hba, abv⟩ := tup_at ab
      obtain ⟨w1, w2, w3, e, a1, a2, a3⟩ := ats3 abv
      subst e
      rw [int_at a1, int_at a2] at hba
      refine ⟨ba, rfl, _, hba, _, atI_0, ?_⟩
      rw [rEq_int]
      refine ⟨_, rfl, ite_f (by decide) ⟨ba, rfl, _, hba, _, atI_1, ba, rfl, _, hba, _, atI_2, ?_⟩⟩
      have sl : Th.szs (ws.map Tr.toTh) ≤ 80000 := by
        have := szb.2
        rw [Tr.base1_th, Th.sz_t, Th.szs_cons, Th.szs_cons, Th.szs_cons, Th.szs_nil, Th.sz_i, Th.sz_i, Th.sz_t] at this
        omega
      refine ⟨_, m, ws, rfl, a3, m0, m1, m4, fun v mv => wl v (by rw [Tr.held_wor]; exact List.mem_append_left _ mv), sl, fun H1 s1 => ⟨ga, rfl, ⟨_, hga.kt (Kt.same s1)⟩, ?_⟩⟩

      refine lp_by (wk_tup (xs := gvs)) (fun i σ H2 => ∃ t, σ = [some (.ref a), some (.ref ba), some (.ref ga), some (.str (addS (txtB (txt n) (Tr.base1 m ws)) ((bag.take i).map (txtT (txt n))))), t] ∧ Same H H2) ⟨none, rfl, s1⟩ (fun i σ H2 _ p => by obtain ⟨_, _, s⟩ := p; exact hga.kt (Kt.same s)) ?_ ?_
      · rintro i y σ H2' H2 hi ⟨t, rfl, s2⟩ ⟨rfl, hy⟩
        obtain ⟨u, hu, au⟩ := ag.get hy
        have mu := List.mem_of_getElem? hu
        obtain ⟨tm, tws, rfl, h0', h1', h4'⟩ := g3 u mu
        have hz' := Th.sz_mem (x := (Tr.trn tm tws).toTh) (List.mem_map.mpr ⟨_, mu, rfl⟩)
        have hz2 : Th.szs (tws.map Tr.toTh) + 3 ≤ 80000 := by
          rw [Tr.trn_th, Th.sz_t, Th.szs_cons, Th.szs_cons, Th.szs_nil, Th.sz_i, Th.sz_t] at hz'
          omega
        have hws : ∀ v ∈ tws, Tr.WL n v ∧ Tr.GW v := fun v mv => wl v (by rw [Tr.held_wor]; exact List.mem_append_right _ (List.mem_flatMap.mpr ⟨_, mu, mv⟩))
        obtain ⟨ta, tvs, rfl, hta, atv⟩ := tup_at (au.kt (Kt.same s2))
        obtain ⟨t1, t2, e, b1, b2⟩ := ats2 atv
        subst e
        rw [int_at b1] at hta
        have tk : bag.take (i + 1) = bag.take i ++ [Tr.trn tm tws] := by rw [List.take_add_one, hu]; rfl
        have stp : addS (txtB (txt n) (Tr.base1 m ws)) ((bag.take (i + 1)).map (txtT (txt n))) = (addS (txtB (txt n) (Tr.base1 m ws)) ((bag.take i).map (txtT (txt n))) ++ Str.ofString " + ") ++ callS tm (tws.map (txt n)) := by
          rw [tk, List.map_append]
          unfold addS
          rw [List.foldl_append]
          rfl
        have lst := cap (i + 1)
        rw [stp, Str.length_append, Str.length_append] at lst
        walk_at "go"
        refine ⟨?_, _, hta, _, atI_0, _, hta, _, atI_1, _, tm, tws, rfl, b2, h0', h1', h4', hws, by omega, fun H3 s3 => ⟨_, rfl, ?_, stp.symm, s2.trans s3⟩⟩
        · exact Nat.le_trans (by omega) (by decide : 400000 ≤ sizeLine)
        · rw [Str.length_append]
          exact Nat.le_trans lst (by decide : 400000 ≤ sizeLine)
      · rintro σ H2 ⟨t, rfl, s2⟩
        walk_at "go"
        rw [ag.length, List.take_length]
        exact q H2 s2
end


set_option Elab.async false
set_option linter.all false
set_option maxRecDepth 100000
set_option maxHeartbeats 4000000
open PySem L2 StX


def spBagsD (K : PySem.W.Frag) : Sp := fun vs H Q _ => ∃ v b bag, vs = [v] ∧ WorX K H v (Tr.wor b bag) ∧ Tr.WL 40 (Tr.wor b bag) ∧ Tr.Up bag ∧ ∀ p us H', Same H H' → At K H' (.ref p) (.t us) → Tr.Asc us → (∀ z, z ∈ us ↔ ∃ s, s.Sublist bag ∧ z = Tr.wor b s) → Q (.ref p) H'
theorem cat_any {a b : Addr} {xs ys : List V} {H : Hp} {Q : VK} (h1 : SqT K H a xs) (h2 : SqT K H b ys) (hz : xs.length + ys.length ≤ sizeLine) (q : ∀ p H', Same H H' → SqT K H' p (xs ++ ys) → Q (.ref p) H') : rCatA K (.ref a) (.ref b) H Q := by
  refine ⟨a, b, xs, ys, rfl, rfl, h1, h2, hz, fun e => ?_, fun _ e => ?_, fun _ _ p np => q p _ (same_new np) (SqT.of upd_same)⟩
  · subst e; exact q b H (Same.refl _) h2
  · subst e; exact q a H (Same.refl _) (by rw [List.append_nil]; exact h1)
theorem ats_rep {K : PySem.W.Frag} {H : Hp} {v : V} {u : Tr} (h : At K H v u) : ∀ n, Ats K H (List.replicate n v) (List.replicate n u)
  | 0 => .nil
  | n + 1 => by rw [List.replicate_succ, List.replicate_succ]; exact .cons h (ats_rep h n)
structure Od (K : PySem.W.Frag) (H : Hp) (bag : List Tr) (a : Addr) (i : Nat) (σ : St) (H2 : Hp) : Prop where
  ex : ∃ (q : Addr) (L : List (List Tr)) (t2 t3 t4 t5 : Option V), σ = [some (.ref a), some (.ref q), t2, t3, t4, t5, none] ∧ Same H H2 ∧ LsAt K H2 q (L.map Tr.t) ∧ Tr.Iv bag i L
structure Oi (K : PySem.W.Frag) (H2 : Hp) (bag : List Tr) (L : List (List Tr)) (u : Tr) (v1 v2 v3 v4 : V) (j : Nat) (σ : St) (H5 : Hp) : Prop where
  ex : ∃ (r : Addr) (t5 : Option V), σ = [some v1, some v2, some v3, some v4, some (.ref r), t5, none] ∧ Same H2 H5 ∧ LsAt K H5 r ((Tr.bstep bag (L.take j) u).map Tr.t)
section
variable {P : Program} {w : World} {K : PySem.W.Frag} {mg : Str → Option Value} {base : Heap}
theorem scBagsD : FnScope ["_law_worth", "_law_told", "_law_k", "_law_turn", "_law_longer", "_law_part", "_law_times"] ["_law_worth"] (defScope sBagsD) := ⟨rfl, rfl, rfl, by decide +kernel, rfl, by decide +kernel, by decide +kernel⟩
theorem ok_bagsD (D : DefAt K mg "_law_bags_due" sBagsD) (B : Bt mg) : Cal P w K mg base CX0 1 "_law_bags_due" ["_law_worth"] (spBagsD K) := by
  refine D.cal (fun _ _ _ _ _ _ us hl => match us, hl with | [_], _ => rfl) fun f fd F => ?_
  refine F.ok scBagsD (fun vs H Q E h => ?_) (fun cdv A outer s H vs Q E HR h => ?_)
  · obtain ⟨v, b, bag, rfl, _⟩ := h
    rfl
  · obtain ⟨v, b, bag, rfl, hx, hw, up, k⟩ := h
    refine ⟨_, (pss_cons (ps_set (i := 1) scBagsD.nd rfl (Or.inl rfl) (pe_lst (pa_cons (pe_tup pa_nil) pa_nil)))
  (pss_cons (ps_for PassesOwn.never rfl (pi_enT (by rfl) B.enum (pa_cons (pe_ix ix_tup (pv 0) pe_int (fun _ _ => rfl)) pa_nil)) (pg_tup (n := 2) rfl (pgs_cons (pg_name (i := 2) scBagsD.nd rfl (Or.inl rfl)) (pgs_cons (pg_name (i := 3) scBagsD.nd rfl (Or.inr rfl)) pgs_nil))) (pss_one (ps_if (pt_cmpR (op_niT (Room.u70 HR)) (pv 3) (pe_slice sl_tupA (pe_ix ix_tup (pv 0) pe_int (fun _ _ => rfl)) po_none (po_some (pv 2))) (by rfl)) (pss_cons (ps_set (i := 4) scBagsD.nd rfl (Or.inl rfl) (pe_lst pa_nil))
  (pss_cons (ps_for PassesOwn.never rfl (pi_list (pv 1)) (pg_name (i := 5) scBagsD.nd rfl (Or.inr rfl)) (pss_one (ps_set (i := 4) scBagsD.nd rfl (Or.inl rfl) (pe_op op_cat (pv 4) (pe_lc (own := [("_law_times", 6)]) (g := gName 6) (tt := tYes) (te := tOp (rCatA K) (tVar 5) (tOp (rRep1 K) (tTup (tCons (tVar 3) tNil)) (tVar 6))) rfl scBagsD.nd (pi_range1 (by rfl) B.range (pa_cons (pe_op op_add (pe_bmX PySem.F.plainAttrs_tuple PySem.F.slot_tuple_count PySem.F.type_tuple_count (mt_cntT (Room.u70 HR)) (pe_ix ix_tup (pv 0) pe_int (fun _ _ => rfl)) (pa_cons (pv 3) pa_nil)) pe_int) pa_nil)) (blkOk_by (own := [("_law_times", 6)]) (N := ["_law_worth", "_law_told", "_law_k", "_law_turn", "_law_longer", "_law_part", "_law_times"]) (sc := defScope sBagsD) (by decide +kernel)) (fun _ _ _ _ _ => (pg_name (i := 6) scBagsD.nd rfl (Or.inl rfl))) (fun _ _ _ _ _ => pts_nil) (fun _ _ _ _ _ => (pe_op op_catA (pv 5) (pe_op op_rep1 (pe_tup (pa_cons (pv 3) pa_nil)) (pv 6)))))))))
  (pss_one (ps_set (i := 1) scBagsD.nd rfl (Or.inl rfl) (pv 4))))) pss_nil)))
  (pss_one (ps_ret (pe_callTy call_tuple_of (by rfl) B.tuple (by decide +kernel) (pa_cons (pe_callB (cr_sortD (Room.u70 HR)) (by rfl) B.sorted (by decide +kernel) (pa_cons (pe_lc (own := [("_law_part", 5)]) (g := gName 5) (tt := tYes) (te := tTup (tCons (tOp (rIxT K) (tVar 0) (tC (.int 0))) (tCons (tVar 5) tNil))) rfl scBagsD.nd (pi_list (pv 1)) (blkOk_by (own := [("_law_part", 5)]) (N := ["_law_worth", "_law_told", "_law_k", "_law_turn", "_law_longer", "_law_part", "_law_times"]) (sc := defScope sBagsD) (by decide +kernel)) (fun _ _ _ _ _ => (pg_name (i := 5) scBagsD.nd rfl (Or.inl rfl))) (fun _ _ _ _ _ => pts_nil) (fun _ _ _ _ _ => (pe_tup (pa_cons (pe_ix ix_tup (pv 0) pe_int (fun _ _ => rfl)) (pa_cons (pv 5) pa_nil))))) pa_nil)) pa_nil)))))), ?_⟩
    walk_at "go"
    obtain ⟨a, vb, ga, gvs, b', bag', rfl, h0, ab, hga, ag, ew, hex⟩ := hx
    obtain ⟨rfl, rfl⟩ := Tr.wor_inj ew
    have lg2 : gvs.length = bag.length := ag.length
    obtain ⟨h7, ht⟩ : bag.length ≤ 7 ∧ ∀ t ∈ bag, Tr.TL (Tr.WL 39) t := by
      obtain ⟨b', bag', e0, _, h7, ht⟩ := hw
      obtain ⟨rfl, rfl⟩ := Tr.wor_inj e0
      exact ⟨h7, ht⟩
    have ak : ∀ x ∈ bag, ∀ y ∈ bag, Tr.Ak x y := fun x hx y hy => (ht x hx).ak (fun v v' q q' => q.ak q') (ht y hy)
    have dp : ∀ x ∈ bag, x.dep ≤ 160 := fun x hx => by
      obtain ⟨m, ws, rfl, hws⟩ := ht x hx
      have := deps_le (n := 156) (xs := ws) fun v hv => (hws v hv).dep_le
      unfold Tr.trn; simp only [Tr.dep_t, Tr.deps_cons, Tr.deps_nil, Tr.dep_i]; omega
    refine ⟨Nat.zero_le _, fun p0 n0 => ⟨by decide, fun q0 nq0 => ?_⟩⟩
    have s0 := (same_new (o := .tup []) n0).trans (same_new (o := .lst [.ref p0]) nq0)
    refine ⟨a, rfl, _, h0.kt (Kt.same s0), _, atI_1, ga, rfl, _, hga.kt (Kt.same s0), ?_⟩
    refine lp_by (wk_enumT (xs := gvs)) (Od K H bag a) ⟨q0, [[]], none, none, none, none, rfl, s0, ⟨_, upd_same, .cons (at_tup (SqT.of ((same_new nq0) _ _ upd_same)) .nil) .nil⟩, Tr.iv_zero bag⟩ (fun i σ H2 _ p => by obtain ⟨_, _, _, _, _, _, _, s, _⟩ := p; exact hga.kt (Kt.same s)) ?_ ?_
    · rintro i y σ H2 H3 hi ⟨q, L, t2, t3, t4, t5, rfl, s2, ⟨qvs, eq, aq⟩, iv⟩ ⟨T, x, rfl, nT, rfl, hx1⟩
      obtain ⟨u, hu, au⟩ := ag.get hx1
      have mu := List.mem_of_getElem? hu
      have l128 := iv.len h7
      have lq : qvs.length = L.length := by rw [aq.length, List.length_map]
      have sT := same_new (o := .tup [V.int (i : Nat), x]) nT
      walk_at "go"
      have hga3 := hga.kt (Kt.same (s2.trans sT))
      refine ⟨_, h0.kt (Kt.same (s2.trans sT)), _, atI_1, ga, rfl, _, hga3, fun z => ?_, fun _ p np => ?_⟩
      · have ti : gvs.take i = gvs := by
          have := z.2
          rw [HT.sIx_nat] at this
          exact List.take_of_length_le (by omega)
        have hs : SqT K (upd H2 T (.tup [V.int (i : Nat), x])) ga (gvs.take i) := by rw [ti]; exact hga3
        refine ⟨u, bag.take i, au.kt (Kt.same (s2.trans sT)), ⟨ga, _, rfl, .inr hs, (Ats.take ag i).kt (Kt.same (s2.trans sT))⟩, Nat.le_trans (dp u mu) (by decide), _, rfl, ?_⟩
        by_cases e : u ∈ bag.take i
        · exact ite_f (by simpa using e) ⟨q, L, _, _, _, _, rfl, s2.trans sT, ⟨_, sT _ _ eq, aq.kt (Kt.same sT)⟩, Tr.iv_old iv hu e⟩
        · refine ite_t (by simpa using e) ⟨Nat.zero_le _, fun r nr => ?_⟩
          have s5 := sT.trans (same_new (o := .lst []) nr)
          refine ⟨⟨_, SqL.of (s5 _ _ eq)⟩, lp_by (wk_list (xs := qvs)) (Oi K H2 bag L u (.ref a) (.ref q) (.int (i : Nat)) x) ⟨r, _, rfl, s5, _, upd_same, .nil⟩ (fun j σ H5 _ p => by obtain ⟨_, _, _, s, _⟩ := p; exact SqL.of (s _ _ eq)) ?_ ?_⟩
          · rintro j y2 σ H5' H5 hj ⟨r, t5, rfl, s6, ⟨rvs, er, ar⟩⟩ ⟨rfl, hy2⟩
            obtain ⟨z, hz, az⟩ := aq.get hy2
            rw [List.getElem?_map] at hz
            obtain ⟨pt, hp, rfl⟩ := Option.map_eq_some_iff.mp hz
            have mp := List.mem_of_getElem? hp
            obtain ⟨pa, pvs, rfl, hpa, apv⟩ := tup_at (az.kt (Kt.same s6))
            have lp7 : pvs.length ≤ 7 := by
              rw [apv.length]
              exact Nat.le_trans (iv.sub mp).length_le h7
            walk_at "go"
            have exg : Ex H5 ga gvs := by
              rcases hex with z | z
              · rw [z] at mu; cases mu
              · exact z.kt (Kt.same (s2.trans s6))
            refine ⟨_, h0.kt (Kt.same (s2.trans s6)), _, atI_1, ⟨ga, rfl, gvs, exg⟩, ga, gvs, bag, x, u, rfl, rfl, exg.sq, ag.kt (Kt.same (s2.trans s6)), au.kt (Kt.same (s2.trans s6)), Nat.le_trans (dp u mu) (by decide), _, rfl, ?_, ?_, ?_⟩
            · omega
            · have := List.count_le_length (a := u) (l := bag)
              omega
            have cn : ((bag.count u : Nat) + 1 : Int).toNat = bag.count u + 1 := by omega
            rw [cn]
            refine lpC_by wk_range (fun D m H6 => H5 D = none ∧ Same H5 H6 ∧ LsAt K H6 D (((List.range m).map fun n => pt ++ List.replicate n u).map Tr.t)) (fun D nD => ⟨nD, same_new nD, [], upd_same, .nil⟩) (fun _ _ _ _ _ => trivial) ?_ ?_
            · rintro D m y3 H6' H6 hm ⟨nD, s7, dvs, eD, aD⟩ ⟨rfl, rfl⟩
              walk_at "go"
              refine ⟨by decide, fun p9 n9 => ⟨p9, m, x, rfl, by rw [Int.zero_add], SqT.of upd_same, ?_, fun p8 H8 s8 t8 => ?_⟩⟩
              · have := List.count_le_length (a := u) (l := bag)
                omega
              have s9 := (same_new (o := .tup [x]) n9).trans s8
              have lrep : (List.replicate m x).length ≤ 7 := by
                have := List.count_le_length (a := u) (l := bag)
                rw [List.length_replicate]; omega
              refine cat_any (hpa.kt (Kt.same (s7.trans s9))) t8 (Nat.le_trans (Nat.add_le_add lp7 lrep) (by decide)) fun p7 H9 s10 t7 => ?_
              have s11 := s9.trans s10
              have kA := Kt.same ((s6.trans s7).trans s11)
              have at9 : At K H9 (.ref p7) (Tr.t (pt ++ List.replicate m u)) := at_tup t7 ((apv.kt (Kt.same (s7.trans s11))).append (ats_rep (au.kt (Kt.same (s2.trans ((s6.trans s7).trans s11)))) m))
              have r := acc_put (K := K) nD (s7.trans s11) (s11 _ _ eD) (aD.kt (Kt.same s11)) at9
              refine ⟨dvs, s11 _ _ eD, ?_, nD, r.1, ?_⟩
              · rw [aD.length, List.length_map, List.length_map, List.length_range]
                have := List.count_le_length (a := u) (l := bag)
                exact Nat.lt_of_le_of_lt (by omega : m ≤ 8) (by decide)
              · rw [List.range_succ, List.map_append, List.map_append]
                exact r.2
            · rintro D H6 nD ⟨_, s7, dvs, eD, aD⟩
              have lD : dvs.length ≤ 8 := by
                rw [aD.length, List.length_map, List.length_map, List.length_range]
                have := List.count_le_length (a := u) (l := bag)
                omega
              have lR : rvs.length ≤ 128 * 8 := by
                rw [ar.length, List.length_map]
                have c : ∀ M : List (List Tr), (Tr.bstep bag M u).length = M.length * (bag.count u + 1) := fun M => by
                  induction M with
                  | nil => simp [Tr.bstep]
                  | cons p M ih =>
                    show (((List.range (bag.count u + 1)).map fun j => p ++ List.replicate j u) ++ Tr.bstep bag M u).length = _
                    rw [List.length_append, ih, List.length_map, List.length_range, List.length_cons, Nat.succ_mul]; omega
                rw [c]
                have h1 := List.length_take_le' j L
                have := List.count_le_length (a := u) (l := bag)
                exact Nat.mul_le_mul (Nat.le_trans h1 l128) (by omega)
              refine ⟨r, D, rvs, dvs, rfl, rfl, s7 _ _ er, eD, Nat.le_trans (Nat.add_le_add lR lD) (by decide), fun p9 n9 => ?_⟩
              refine ⟨p9, _, rfl, s6.trans (s7.trans (same_new n9)), _, upd_same, ?_⟩
              have e9 : Tr.bstep bag (L.take (j + 1)) u = Tr.bstep bag (L.take j) u ++ (List.range (bag.count u + 1)).map fun n => pt ++ List.replicate n u := by
                rw [List.take_add_one, hp]
                unfold Tr.bstep
                rw [List.flatMap_append]
                simp
              rw [e9, List.map_append]
              exact ((ar.kt (Kt.same s7)).append aD).kt (Kt.new n9)
          · rintro σ H5 ⟨r, t5, rfl, s6, ⟨rvs, er, ar⟩⟩
            walk_at "go"
            rw [lq, List.take_length] at ar
            exact ⟨r, _, _, _, _, _, rfl, s2.trans s6, ⟨_, er, ar⟩, Tr.iv_new up ak iv hu e⟩

      · have s4 := sT.trans (same_new (o := .tup (cutV gvs none (some (i : Int)))) np)
        have hs : SqT K (upd (upd H2 T (.tup [V.int (i : Nat), x])) p (.tup (cutV gvs none (some (i : Int))))) p (gvs.take i) := by
          have h := SqT.of (K := K) (upd_same (H := upd H2 T (.tup [V.int (i : Nat), x])) (a := p) (o := .tup (cutV gvs none (some (i : Int)))))
          rw [cut_take] at h
          rw [cut_take]
          exact h
        refine ⟨u, bag.take i, au.kt (Kt.same (s2.trans s4)), ⟨p, _, rfl, .inr hs, (Ats.take ag i).kt (Kt.same (s2.trans s4))⟩, Nat.le_trans (dp u mu) (by decide), _, rfl, ?_⟩
        by_cases e : u ∈ bag.take i
        · exact ite_f (by simpa using e) ⟨q, L, _, _, _, _, rfl, s2.trans s4, ⟨_, s4 _ _ eq, aq.kt (Kt.same s4)⟩, Tr.iv_old iv hu e⟩
        · refine ite_t (by simpa using e) ⟨Nat.zero_le _, fun r nr => ?_⟩
          have s5 := s4.trans (same_new (o := .lst []) nr)
          refine ⟨⟨_, SqL.of (s5 _ _ eq)⟩, lp_by (wk_list (xs := qvs)) (Oi K H2 bag L u (.ref a) (.ref q) (.int (i : Nat)) x) ⟨r, _, rfl, s5, _, upd_same, .nil⟩ (fun j σ H5 _ p => by obtain ⟨_, _, _, s, _⟩ := p; exact SqL.of (s _ _ eq)) ?_ ?_⟩
          · rintro j y2 σ H5' H5 hj ⟨r, t5, rfl, s6, ⟨rvs, er, ar⟩⟩ ⟨rfl, hy2⟩
            obtain ⟨z, hz, az⟩ := aq.get hy2
            rw [List.getElem?_map] at hz
            obtain ⟨pt, hp, rfl⟩ := Option.map_eq_some_iff.mp hz
            have mp := List.mem_of_getElem? hp
            obtain ⟨pa, pvs, rfl, hpa, apv⟩ := tup_at (az.kt (Kt.same s6))
            have lp7 : pvs.length ≤ 7 := by
              rw [apv.length]
              exact Nat.le_trans (iv.sub mp).length_le h7
            walk_at "go"
            have exg : Ex H5 ga gvs := by
              rcases hex with z | z
              · rw [z] at mu; cases mu
              · exact z.kt (Kt.same (s2.trans s6))
            refine ⟨_, h0.kt (Kt.same (s2.trans s6)), _, atI_1, ⟨ga, rfl, gvs, exg⟩, ga, gvs, bag, x, u, rfl, rfl, exg.sq, ag.kt (Kt.same (s2.trans s6)), au.kt (Kt.same (s2.trans s6)), Nat.le_trans (dp u mu) (by decide), _, rfl, ?_, ?_, ?_⟩
            · omega
            · have := List.count_le_length (a := u) (l := bag)
              omega
            have cn : ((bag.count u : Nat) + 1 : Int).toNat = bag.count u + 1 := by omega
            rw [cn]
            refine lpC_by wk_range (fun D m H6 => H5 D = none ∧ Same H5 H6 ∧ LsAt K H6 D (((List.range m).map fun n => pt ++ List.replicate n u).map Tr.t)) (fun D nD => ⟨nD, same_new nD, [], upd_same, .nil⟩) (fun _ _ _ _ _ => trivial) ?_ ?_
            · rintro D m y3 H6' H6 hm ⟨nD, s7, dvs, eD, aD⟩ ⟨rfl, rfl⟩
              walk_at "go"
              refine ⟨by decide, fun p9 n9 => ⟨p9, m, x, rfl, by rw [Int.zero_add], SqT.of upd_same, ?_, fun p8 H8 s8 t8 => ?_⟩⟩
              · have := List.count_le_length (a := u) (l := bag)
                omega
              have s9 := (same_new (o := .tup [x]) n9).trans s8
              have lrep : (List.replicate m x).length ≤ 7 := by
                have := List.count_le_length (a := u) (l := bag)
                rw [List.length_replicate]; omega
              refine cat_any (hpa.kt (Kt.same (s7.trans s9))) t8 (Nat.le_trans (Nat.add_le_add lp7 lrep) (by decide)) fun p7 H9 s10 t7 => ?_
              have s11 := s9.trans s10
              have kA := Kt.same ((s6.trans s7).trans s11)
              have at9 : At K H9 (.ref p7) (Tr.t (pt ++ List.replicate m u)) := at_tup t7 ((apv.kt (Kt.same (s7.trans s11))).append (ats_rep (au.kt (Kt.same (s2.trans ((s6.trans s7).trans s11)))) m))
              have r := acc_put (K := K) nD (s7.trans s11) (s11 _ _ eD) (aD.kt (Kt.same s11)) at9
              refine ⟨dvs, s11 _ _ eD, ?_, nD, r.1, ?_⟩
              · rw [aD.length, List.length_map, List.length_map, List.length_range]
                have := List.count_le_length (a := u) (l := bag)
                exact Nat.lt_of_le_of_lt (by omega : m ≤ 8) (by decide)
              · rw [List.range_succ, List.map_append, List.map_append]
                exact r.2
            · rintro D H6 nD ⟨_, s7, dvs, eD, aD⟩
              have lD : dvs.length ≤ 8 := by
                rw [aD.length, List.length_map, List.length_map, List.length_range]
                have := List.count_le_length (a := u) (l := bag)
                omega
              have lR : rvs.length ≤ 128 * 8 := by
                rw [ar.length, List.length_map]
                have c : ∀ M : List (List Tr), (Tr.bstep bag M u).length = M.length * (bag.count u + 1) := fun M => by
                  induction M with
                  | nil => simp [Tr.bstep]
                  | cons p M ih =>
                    show (((List.range (bag.count u + 1)).map fun j => p ++ List.replicate j u) ++ Tr.bstep bag M u).length = _
                    rw [List.length_append, ih, List.length_map, List.length_range, List.length_cons, Nat.succ_mul]; omega
                rw [c]
                have h1 := List.length_take_le' j L
                have := List.count_le_length (a := u) (l := bag)
                exact Nat.mul_le_mul (Nat.le_trans h1 l128) (by omega)
              refine ⟨r, D, rvs, dvs, rfl, rfl, s7 _ _ er, eD, Nat.le_trans (Nat.add_le_add lR lD) (by decide), fun p9 n9 => ?_⟩
              refine ⟨p9, _, rfl, s6.trans (s7.trans (same_new n9)), _, upd_same, ?_⟩
              have e9 : Tr.bstep bag (L.take (j + 1)) u = Tr.bstep bag (L.take j) u ++ (List.range (bag.count u + 1)).map fun n => pt ++ List.replicate n u := by
                rw [List.take_add_one, hp]
                unfold Tr.bstep
                rw [List.flatMap_append]
                simp
              rw [e9, List.map_append]
              exact ((ar.kt (Kt.same s7)).append aD).kt (Kt.new n9)
          · rintro σ H5 ⟨r, t5, rfl, s6, ⟨rvs, er, ar⟩⟩
            walk_at "go"
            rw [lq, List.take_length] at ar
            exact ⟨r, _, _, _, _, _, rfl, s2.trans s6, ⟨_, er, ar⟩, Tr.iv_new up ak iv hu e⟩

    · rintro σ H2 ⟨q, L, t2, t3, t4, t5, rfl, s2, ⟨qvs, eq, aq⟩, iv⟩
      rw [lg2] at iv
      have l128 := iv.len h7
      have lq : qvs.length = L.length := by rw [aq.length, List.length_map]
      walk_at "go"
      refine ⟨⟨_, SqL.of eq⟩, lpC_by (wk_list (xs := qvs)) (fun D j H3 => H2 D = none ∧ Same H2 H3 ∧ LsAt K H3 D ((L.take j).map fun s => Tr.wor b s)) (fun D nD => ⟨nD, same_new nD, [], upd_same, .nil⟩) (fun D j H3 _ p => SqL.of (p.2.1 _ _ eq)) ?_ ?_⟩
      · rintro D j y2 H3' H3 hj ⟨nD, s3, dvs, eD, aD⟩ ⟨rfl, hy2⟩
        obtain ⟨z, hz, az⟩ := aq.get hy2
        rw [List.getElem?_map] at hz
        obtain ⟨pt, hp, rfl⟩ := Option.map_eq_some_iff.mp hz
        walk_at "go"
        refine ⟨_, h0.kt (Kt.same (s2.trans s3)), _, atI_0, by decide, fun p np => ⟨dvs, (same_new np) _ _ eD, ?_, ?_⟩⟩
        · rw [aD.length, List.length_map]
          exact Nat.lt_of_le_of_lt (Nat.le_trans (List.length_take_le' ..) l128) (by decide)
        · have kt : Kt H2 (upd H3 p (.tup [vb, y2])) := (Kt.same s3).trans (Kt.new np)
          have r := acc_put (K := K) (t := Tr.wor b pt) nD (s3.trans (same_new np)) ((same_new np) _ _ eD) (aD.kt (Kt.new np)) (at_tup (SqT.of upd_same) (.cons ((ab.kt (Kt.same s2)).kt kt) (.cons (az.kt kt) .nil)))
          rw [List.take_add_one, hp, List.map_append]
          exact ⟨nD, r⟩
      · rintro D H3 nD ⟨_, s3, dvs, eD, aD⟩
        rw [lq, List.take_length] at aD
        have wl : ∀ s ∈ L, Tr.WL 40 (Tr.wor b s) := fun s ms => hw.sub (iv.sub ms)
        have wm : ∀ z ∈ L.map fun s => Tr.wor b s, Tr.WL 40 z := fun z mz => by
          obtain ⟨s, ms, rfl⟩ := List.mem_map.mp mz
          exact wl s ms
        refine ⟨D, dvs, L.map fun s => Tr.wor b s, rfl, .inl (SqL.of eD), aD, fun y hy z hz => (wm y hy).ak (wm z hz), sortOk_w fun y hy => shape_w (wm y hy), fun y hy => Nat.le_trans (wm y hy).dep_le (by decide), fun p us ys np pr pw ay => ?_⟩
        refine ⟨p, rfl, ys, .inl ⟨SqL.of upd_same, fun l nl => ?_⟩⟩
        refine k l us _ ((s2.trans s3).trans ((same_new np).trans (same_new nl))) (at_tup (SqT.of upd_same) (ay.kt ((Kt.new np).trans (Kt.new nl)))) (asc_of pw (pr.nodup_iff.mpr ?_) fun y hy z hz => (wm y (pr.mem_iff.mp hy)).ak (wm z (pr.mem_iff.mp hz))) fun z => ?_
        · exact List.pairwise_map.mpr (iv.nd.imp fun {s s'} ne e => ne (Tr.wor_inj e).2)
        · rw [pr.mem_iff, List.mem_map]
          exact ⟨fun ⟨s, ms, e⟩ => ⟨s, (iv.all s).mp ms, e.symm⟩, fun ⟨s, hs, e⟩ => ⟨s, (iv.all s).mpr hs, e.symm⟩⟩
end


set_option Elab.async false
set_option linter.all false
set_option maxRecDepth 100000
set_option maxHeartbeats 4000000
open PySem L2 StX


theorem nar_gw {w : Tr} (h : Tr.GW w) : Nar w := by
  induction h with
  | @mk b bag h1 h2 h3 h4 h5 ih =>
    have two : ∀ {x y : Tr}, Nar x → Nar y → Nar (.t [x, y]) := fun hx hy => .t (by simp) fun z m => by
      rcases List.mem_cons.mp m with rfl | m
      · exact hx
      · rw [List.mem_singleton.mp m]; exact hy
    have nb : Nar b := by
      rcases h1 with ⟨c, rfl, _⟩ | ⟨m, ws, rfl, _, _, h⟩
      · exact two (.i _) (.i _)
      · refine .t (by simp) fun z m => ?_
        rcases List.mem_cons.mp m with rfl | m
        · exact .i _
        · rcases List.mem_cons.mp m with rfl | m
          · exact .i _
          · rw [List.mem_singleton.mp m]
            exact .t (by omega) fun v mv => ih v (List.mem_append_left _ mv)
    exact two nb (.t (by omega) fun t mt => by
      obtain ⟨m, ws, rfl, _, _, h⟩ := h3 t mt
      exact two (.i _) (.t (by omega) fun v mv => ih v (List.mem_append_right _ (List.mem_flatMap.mpr ⟨_, mt, mv⟩))))
def spMadeT (K : PySem.W.Frag) : Sp := fun vs H Q _ => ∃ p c x v m ws n, vs = [.ref p, x, v, .int m] ∧ HandAt H p c ∧ At K H v (.t ws) ∧ 0 ≤ m ∧ m ≤ 99 ∧ ws.length ≤ 4 ∧ (∀ u ∈ ws, Tr.WL n u ∧ Tr.GW u) ∧ n ≤ 12 ∧ ∀ H', HandAt H' p c → But p H H' → Q (.bl true) H'
section
variable {P : Program} {w : World} {K : PySem.W.Frag} {mg : Str → Option Value} {base : Heap}
theorem scMadeT : FnScope ["_law_hand_here", "_law_pool", "_law_worths", "_law_name_here", "_law_given_here", "_law_k"] ["_law_hand_here", "_law_pool", "_law_worths", "_law_name_here"] (defScope sMadeT) := ⟨rfl, rfl, rfl, by decide +kernel, rfl, by decide +kernel, by decide +kernel⟩
theorem ok_madeT (D : DefAt K mg "_law_made_told" sMadeT) (B : Bt mg) (C_given : Cal P w K mg base CX0 160 "_law_given" ["_law_hand_here", "_law_row"] (spGiven K)) (C_exact : Cal P w K mg base CX0 160 "_law_exact" ["_law_told", "_law_due"] (spExact K 150)) (Cmade_worth : Cal P w K mg base CX0 160 "made_worth" ["name", "worths"] (spMade K)) :
    Cal P w K mg base CX0 161 "_law_made_told" ["_law_hand_here", "_law_pool", "_law_worths", "_law_name_here"] (spMadeT K) := by
  refine D.cal (fun _ _ _ _ _ _ us hl => match us, hl with | [_, _, _, _], _ => rfl) fun f fd F => ?_
  refine F.ok scMadeT (fun vs H Q E h => ?_) (fun cdv A outer s H vs Q E HR h => ?_)
  · obtain ⟨p, c, x, v, m, ws, n, rfl, _⟩ := h
    rfl
  · obtain ⟨p, c, x, v, m, ws, n, rfl, hp, hv, m0, m1, w4, hw, n12, k⟩ := h
    refine ⟨_, (pss_cons (ps_set (i := 4) scMadeT.nd rfl (Or.inr rfl) (pe_cal C_given (by rfl) HR pass0 (pa_cons (pv 0) (pa_cons (pv 2) pa_nil))))
  (pss_cons (ps_if (pt_not (pt_val (pe_cal C_exact (by rfl) HR pass0 (pa_cons (pe_cal Cmade_worth (by rfl) HR pass0 (pa_cons (pv 3) (pa_cons (pv 4) pa_nil))) (pa_cons (pe_tup (pa_cons (pe_tup (pa_cons pe_int (pa_cons (pv 3) (pa_cons (pv 2) pa_nil)))) (pa_cons (pe_tup pa_nil) pa_nil))) pa_nil))))) (pss_one (ps_ret pe_bl)) pss_nil)
  (pss_one (ps_ret (pe_and (pe_cmpR op_eq (pe_callB call_len_seq (by rfl) B.len PySem.boot_len (pa_cons (pv 4) pa_nil)) (pe_callB call_len_seq (by rfl) B.len PySem.boot_len (pa_cons (pv 2) pa_nil)) (nomark _)) (pe_one (pe_callB (cr_all rfl) (by rfl) B.all (by decide +kernel) (pa_cons (pe_lc (own := [("_law_k", 5)]) (g := gName 5) (tt := tYes) (te := tOp (rEqT K) (tOp (rIx K) (tVar 4) (tVar 5)) (tOp (rIxT K) (tVar 2) (tVar 5))) rfl scMadeT.nd (pi_range1 (by rfl) B.range (pa_cons (pe_callB call_len_seq (by rfl) B.len PySem.boot_len (pa_cons (pv 2) pa_nil)) pa_nil)) (blkOk_by (own := [("_law_k", 5)]) (N := ["_law_hand_here", "_law_pool", "_law_worths", "_law_name_here", "_law_given_here", "_law_k"]) (sc := defScope sMadeT) (by decide +kernel)) (fun _ _ _ _ _ => (pg_name (i := 5) scMadeT.nd rfl (Or.inl rfl))) (fun _ _ _ _ _ => pts_nil) (fun _ _ _ _ _ => (pe_cmpR (op_eqT (Room.u70 HR)) (pe_ix ix_seq (pv 4) (pv 5) (fun _ _ => rfl)) (pe_ix ix_tup (pv 2) (pv 5) (fun _ _ => rfl)) (nomark _)))) pa_nil)))))))), ?_⟩
    walk_at "go"
    obtain ⟨l, lvs, rfl, hl, al⟩ := tup_at hv
    refine ⟨p, c, l, lvs, rfl, hp, hl, fun r H1 hp1 b1 hr => ?_⟩
    have hs : SqL K H1 r lvs ∨ SqT K H1 r lvs := hr.imp (fun h => SqL.of h.2) id
    have k1 := But.kt hp b1
    have al1 := al.kt k1
    have wl : ∀ u ∈ ws, Tr.WL 12 u := fun u mu => (hw u mu).1.mono n12
    refine ⟨m, .ref r, ws, rfl, ⟨r, lvs, rfl, hs, al1⟩, fun v2 H2 s2 a2 => ⟨by decide, fun p1 n1 => ⟨by decide, fun p2 n2 => ⟨by decide, fun p3 n3 => ?_⟩⟩⟩⟩
    have s3 := ((same_new (o := .tup [.int 1, .int m, .ref l]) n1).trans (same_new (o := .tup []) n2)).trans (same_new (o := .tup [.ref p1, .ref p2]) n3)
    have s13 := s2.trans s3
    have hl3 := (hl.kt k1).kt (Kt.same s13)
    have al3 := al1.kt (Kt.same s13)
    have at3 : At K (upd (upd (upd H2 p1 (.tup [.int 1, .int m, .ref l])) p2 (.tup [])) p3 (.tup [.ref p1, .ref p2])) (.ref p3) (Tr.wor (Tr.base1 m ws) []) :=
      at_tup (SqT.of upd_same) (.cons (at_tup (SqT.of (((same_new n2).trans (same_new n3)) _ _ upd_same)) (.cons (at_int 1) (.cons (at_int m) (.cons (at_tup hl3 al3) .nil)))) (.cons (at_tup (SqT.of ((same_new n3) _ _ upd_same)) .nil) .nil))
    have gw := Tr.gw_made m0 m1 w4 fun u mu => (hw u mu).2
    have wn : Tr.WL 13 (Tr.wor (Tr.base1 m ws) []) := ⟨_, _, rfl, .inr ⟨m, ws, rfl, wl⟩, by decide, fun t k => by cases k⟩
    refine ⟨v2, .ref p3, _, rfl, a2.kt (Kt.same s3), at3, by have := wn.dep_le; omega, nar_gw gw, fun H4 s4 => ⟨_, rfl, ite_f (by decide) ?_⟩⟩
    have s14 := s13.trans s4
    have hl4 := hl3.kt (Kt.same s4)
    have hs4 := seq_same s14 hs
    have ll : lvs.length ≤ 4 := by rw [al.length]; exact w4
    refine ⟨r, rfl, lvs, hs4, l, rfl, lvs, .inr hl4, ite_t rfl ⟨l, rfl, lvs, .inr hl4, by omega, by omega, ?_⟩⟩
    have en : ((lvs.length : Nat) : Int).toNat = lvs.length := by omega
    rw [en]
    refine lpC_by wk_range (fun D i H2 => H4 D = none ∧ Same H4 H2 ∧ H2 D = some (.lst ((List.replicate i true).map V.bl))) (fun D nD => ⟨nD, same_new nD, upd_same⟩) (fun _ _ _ _ _ => trivial) ?_ ?_
    · rintro D i y H5' H5 hi ⟨nD, s5, e5⟩ ⟨rfl, rfl⟩
      obtain ⟨x0, hx0, ax0⟩ := al.get (List.getElem?_eq_getElem hi)
      have a5 : At K H5 lvs[i] x0 := (ax0.kt k1).kt (Kt.same (s14.trans s5))
      have mx := List.mem_of_getElem? hx0
      walk_at "go"
      rw [Int.zero_add]
      have cont : ∃ x_1, SqT K H5 l x_1 ∧ ∃ x_2, atI x_1 (i : Int) = some x_2 ∧ rEqT K lvs[i] x_2 H5 fun y H6 => ∃ acc, H6 D = some (HO.lst acc) ∧ acc.length < sizeLine ∧ H4 D = none ∧ Same H4 (upd H6 D (.lst (acc ++ [y]))) ∧ upd H6 D (.lst (acc ++ [y])) D = some (.lst (V.bl true :: List.map V.bl (List.replicate i true))) :=
        ⟨lvs, hl4.kt (Kt.same s5), lvs[i], atI_nat (List.getElem?_eq_getElem hi), x0, x0, a5, a5, Nat.le_trans (wl x0 mx).dep_le (by decide), by
          rw [decide_eq_true rfl]
          exact ⟨_, e5, by rw [List.length_map, List.length_replicate]; exact Nat.lt_of_lt_of_le (by omega : i < 5) (by decide), nD, fun b o z => by rw [upd_ne (ne_of_none z nD)]; exact s5 _ _ z, by rw [upd_same, rep_snoc]⟩⟩
      rcases seq_same s5 hs4 with hL | hT
      · exact .inl ⟨r, lvs, i, lvs[i], rfl, rfl, hL, atI_nat (List.getElem?_eq_getElem hi), cont⟩
      · exact .inr (.inl ⟨r, lvs, i, lvs[i], rfl, rfl, hT, atI_nat (List.getElem?_eq_getElem hi), cont⟩)
    · rintro D H5 nD ⟨_, s5, e5⟩
      refine ⟨D, _, rfl, SqL.of e5, ?_⟩
      rw [show (List.replicate lvs.length true).all id = true by simp]
      exact k H5 (hp1.same (s14.trans s5)) (b1.trans (But.of (s14.trans s5)))
end


set_option Elab.async false
set_option linter.all false
set_option maxRecDepth 100000
set_option maxHeartbeats 4000000
open PySem L2 StX


theorem ak_bag {n : Nat} {b : Tr} {bag : List Tr} (h : Tr.WL n (Tr.wor b bag)) : ∀ x ∈ bag, ∀ y ∈ bag, Tr.Ak x y := by
  cases n with
  | zero => exact h.elim
  | succ n =>
    obtain ⟨b', bag', e0, _, _, ht⟩ := h
    obtain ⟨rfl, rfl⟩ := Tr.wor_inj e0
    exact fun x hx y hy => (ht x hx).ak (fun v v' q q' => q.ak q') (ht y hy)
theorem wl_new {n : Nat} {m : Int} {ws : List Tr} (h : ∀ v ∈ ws, Tr.WL n v) : Tr.WL (n + 1) (Tr.wor (Tr.base1 m ws) []) := ⟨_, _, rfl, .inr ⟨m, ws, rfl, h⟩, by decide, fun t k => by cases k⟩
theorem wl_turn {n : Nat} {b : Tr} {bag bag' ws : List Tr} {m : Int} (h : Tr.WL n (Tr.wor b bag)) (l : bag.length < 7) (hw : ∀ v ∈ ws, Tr.WL n v) (p : bag'.Perm (bag ++ [Tr.trn m ws])) : Tr.WL (n + 1) (Tr.wor b bag') := by
  cases n with
  | zero => exact h.elim
  | succ n =>
    obtain ⟨b', bag0, e0, hb, h7, ht⟩ := h
    obtain ⟨rfl, rfl⟩ := Tr.wor_inj e0
    refine ⟨b, bag', rfl, hb.imp fun _ => Tr.WL.up, ?_, fun t k => ?_⟩
    · rw [p.length_eq, List.length_append, List.length_singleton]; omega
    · rcases List.mem_append.mp (p.mem_iff.mp k) with k | k
      · exact (ht t k).imp fun _ => Tr.WL.up
      · exact ⟨m, ws, List.mem_singleton.mp k, hw⟩
theorem perm_swap2 {l : List Tr} {x y : Tr} : ((l ++ [x]) ++ [y]).Perm ((l ++ [y]) ++ [x]) := by
  rw [List.append_assoc, List.append_assoc]
  exact List.Perm.append_left l (List.Perm.swap y x [])
def spAddedT (K : PySem.W.Frag) : Sp := fun vs H Q _ => ∃ p c q hv m v b bag ws n es, vs = [.ref p, .ref q, hv, .int m, v] ∧ p ≠ q ∧ HandAt H p c ∧ LsAt K H q (enc es) ∧ Pool n es ∧ n ≤ 8 ∧ At K H hv (Tr.wor b bag) ∧ Tr.WL n (Tr.wor b bag) ∧ Tr.GW (Tr.wor b bag) ∧ bag.length < 7 ∧ At K H v (.t ws) ∧ 0 ≤ m ∧ m ≤ 99 ∧ ws.length ≤ 4 ∧ (∀ u ∈ ws, Tr.WL n u ∧ Tr.GW u) ∧ ∀ H', HandAt H' p c → But p H H' → Q (.bl true) H'
section
variable {P : Program} {w : World} {K : PySem.W.Frag} {mg : Str → Option Value} {base : Heap}
theorem scAddedT : FnScope ["_law_hand_here", "_law_pool", "_law_held", "_law_name_here", "_law_worths", "_law_given_here", "_law_due", "_law_told", "_law_other", "_law_size", "_law_second", "_law_both"] ["_law_hand_here", "_law_pool", "_law_held", "_law_name_here", "_law_worths"] (defScope sAddedT) := ⟨rfl, rfl, rfl, by decide +kernel, rfl, by decide +kernel, by decide +kernel⟩
theorem ok_addedT (D : DefAt K mg "_law_added_told" sAddedT) (B : Bt mg) (C_given : Cal P w K mg base CX0 160 "_law_given" ["_law_hand_here", "_law_row"] (spGiven K)) (C_exact : Cal P w K mg base CX0 160 "_law_exact" ["_law_told", "_law_due"] (spExact K 150)) (Cadded_worth : Cal P w K mg base CX0 160 "added_worth" ["worth", "name", "worths"] (spAdded K))
    (C_turned : Cal P w K mg base CX0 160 "_law_turned" ["_law_worth", "_law_name_here", "_law_worths"] (spTurned K)) (C_picks : Cal P w K mg base CX0 160 "_law_picks" ["_law_hand_here", "_law_pool"] (spPicks K)) (C_name : Cal P w K mg base CX0 160 "_law_name" ["_law_hand_here"] spName) (C_take : Cal P w K mg base CX0 160 "_law_take" ["_law_hand_here", "_law_many"] spTake) :
    Cal P w K mg base CX0 161 "_law_added_told" ["_law_hand_here", "_law_pool", "_law_held", "_law_name_here", "_law_worths"] (spAddedT K) := by
  refine D.cal (fun _ _ _ _ _ _ us hl => match us, hl with | [_, _, _, _, _], _ => rfl) fun f fd F => ?_
  refine F.ok scAddedT (fun vs H Q E h => ?_) (fun cdv A outer s H vs Q E HR h => ?_)
  · obtain ⟨p, c, q, hv, m, v, b, bag, ws, n, es, rfl, _⟩ := h
    rfl
  · obtain ⟨p, c, q, hv, m, v, b, bag, ws, n, es, rfl, pq, hp, hq, po, n8, ah, wh, gh, h6, av, m0, m1, w4, hw, k⟩ := h
    refine ⟨_, (pss_cons (ps_set (i := 5) scAddedT.nd rfl (Or.inl rfl) (pe_cal C_given (by rfl) HR pass0 (pa_cons (pv 0) (pa_cons (pv 4) pa_nil))))
  (pss_cons (ps_set (i := 6) scAddedT.nd rfl (Or.inl rfl) (pe_cal C_turned (by rfl) HR pass0 (pa_cons (pv 2) (pa_cons (pv 3) (pa_cons (pv 4) pa_nil)))))
  (pss_cons (ps_set (i := 7) scAddedT.nd rfl (Or.inl rfl) (pe_cal Cadded_worth (by rfl) HR pass0 (pa_cons (pv 2) (pa_cons (pv 3) (pa_cons (pv 5) pa_nil)))))
  (pss_cons (ps_if (PW.pt (pw_or (pt_not (pt_val (pe_cal C_exact (by rfl) HR pass0 (pa_cons (pv 7) (pa_cons (pv 6) pa_nil))))) (pw_or1 (pt_cmpR (op_neLs (Room.u70 HR)) (pe_callTy call_list_of (by rfl) B.list (by decide +kernel) (pa_cons (pv 5) pa_nil)) (pe_callTy call_list_of (by rfl) B.list (by decide +kernel) (pa_cons (pv 4) pa_nil)) (nomark _))))) (pss_one (ps_ret pe_bl)) pss_nil)
  (pss_cons (ps_if (pt_cmpR op_gt (pe_callB call_len_seq (by rfl) B.len PySem.boot_len (pa_cons (pe_ix ix_tup (pv 6) pe_int (fun _ _ => rfl)) pa_nil)) pe_int (nomark _)) (pss_one (ps_ret pe_bl)) pss_nil)
  (pss_cons (ps_asg (pe_cal C_picks (by rfl) HR pass0 (pa_cons (pv 0) (pa_cons (pv 1) pa_nil))) (pg_tup (n := 2) rfl (pgs_cons (pg_name (i := 8) scAddedT.nd rfl (Or.inl rfl)) (pgs_cons (pg_name (i := 9) scAddedT.nd rfl (Or.inl rfl)) pgs_nil))))
  (pss_cons (ps_set (i := 10) scAddedT.nd rfl (Or.inl rfl) (pe_cal C_name (by rfl) HR pass0 (pa_cons (pv 0) pa_nil)))
  (pss_cons (ps_if (pt_cmpR op_eq (pe_cal C_take (by rfl) HR pass0 (pa_cons (pv 0) (pa_cons pe_int pa_nil))) pe_int (nomark _)) (pss_one (ps_set (i := 10) scAddedT.nd rfl (Or.inl rfl) (pv 3))) pss_nil)
  (pss_cons (ps_set (i := 11) scAddedT.nd rfl (Or.inl rfl) (pe_cal C_turned (by rfl) HR pass0 (pa_cons (pv 6) (pa_cons (pv 10) (pa_cons (pv 8) pa_nil)))))
  (pss_cons (ps_if (pt_not (pt_val (pe_cal C_exact (by rfl) HR pass0 (pa_cons (pe_cal Cadded_worth (by rfl) HR pass0 (pa_cons (pv 7) (pa_cons (pv 10) (pa_cons (pe_cal C_given (by rfl) HR pass0 (pa_cons (pv 0) (pa_cons (pv 8) pa_nil))) pa_nil)))) (pa_cons (pv 11) pa_nil))))) (pss_one (ps_ret pe_bl)) pss_nil)
  (pss_one (ps_ret (pe_cal C_exact (by rfl) HR pass0 (pa_cons (pe_cal Cadded_worth (by rfl) HR pass0 (pa_cons (pe_cal Cadded_worth (by rfl) HR pass0 (pa_cons (pv 2) (pa_cons (pv 10) (pa_cons (pv 8) pa_nil)))) (pa_cons (pv 3) (pa_cons (pe_cal C_given (by rfl) HR pass0 (pa_cons (pv 0) (pa_cons (pv 4) pa_nil))) pa_nil)))) (pa_cons (pv 11) pa_nil))))))))))))))), ?_⟩
    walk_at "go"
    obtain ⟨l, lvs, rfl, hl, al⟩ := tup_at av
    have wl : ∀ u ∈ ws, Tr.WL n u := fun u mu => (hw u mu).1
    refine ⟨p, c, l, lvs, rfl, hp, hl, fun r H1 hp1 b1 hr => ?_⟩
    have k1 := But.kt hp b1
    have hs : SqL K H1 r lvs ∨ SqT K H1 r lvs := hr.imp (fun h => SqL.of h.2) id
    walk_at "go"
    refine ⟨hv, m, .ref l, b, bag, ws, n, rfl, ah.kt k1, wh, by omega, av.kt k1, wl, fun due bag1 H2 s2 a2 x2 pm2 up2 => ?_⟩
    walk_at "go"
    refine ⟨hv, m, .ref r, b, bag, ws, n, rfl, (ah.kt k1).kt (Kt.same s2), wh, by omega, ⟨r, lvs, rfl, seq_same s2 hs, (al.kt k1).kt (Kt.same s2)⟩, wl, fun told bag2 H3 s3 a3 pm3 up3 => ?_⟩
    have wd := wl_turn wh h6 wl pm2
    have gd := Tr.gw_turn gh h6 m0 m1 w4 (fun u mu => (hw u mu).2) pm2 up2
    have akb : ∀ x ∈ bag1, ∀ y ∈ bag1, Tr.Ak x y := ak_bag wd
    obtain rfl : bag1 = bag2 := Tr.up_perm up2 up3 (pm2.trans pm3.symm) akb
    walk_at "go"
    refine ⟨told, due, _, rfl, a3, a2.kt (Kt.same s3), by have := wd.dep_le; omega, nar_gw gd, fun H4 s4 => ⟨_, rfl, ite_f (by decide) ?_⟩⟩
    have s24 := (s2.trans s3).trans s4
    have s34 := s3.trans s4
    have hl4 := (hl.kt k1).kt (Kt.same s24)
    have al4 := (al.kt k1).kt (Kt.same s24)
    refine ⟨lvs, seq_same s24 hs, fun l1 nl1 => ⟨lvs, .inr (hl4.kt (Kt.new nl1)), fun l2 nl2 => ?_⟩⟩
    have s5 := (same_new (o := .lst lvs) nl1).trans (same_new (o := .lst lvs) nl2)
    refine ⟨l1, l2, lvs, lvs, ws, ws, rfl, rfl, SqL.of ((same_new nl2) _ _ upd_same), SqL.of upd_same, al4.kt (Kt.same s5), al4.kt (Kt.same s5), fun t m => Nat.le_trans (wl t m).dep_le (by omega), _, rfl, ite_f (by simp) ?_⟩
    have s25 := s24.trans s5
    obtain ⟨da, dvs, rfl, hda, ad⟩ := tup_at (a2.kt (Kt.same (s34.trans s5)))
    obtain ⟨d1, d2, e, adb, adg⟩ := ats2 ad
    subst e
    obtain ⟨dg, dgv, rfl, hdg, adg2⟩ := tup_at adg
    refine ⟨da, rfl, _, hda, _, atI_1, dg, rfl, dgv, .inr hdg, ?_⟩
    have hp5 := hp1.same s25
    have b5 := b1.trans (But.of (p := p) s25)
    refine ite2 (fun _ => k _ hp5 b5) (fun c6 => ?_)
    have l6 : bag1.length < 7 := by rw [← adg2.length]; omega
    obtain ⟨vs, eq, aq⟩ := hq
    have kq : ∀ {H7 : Hp}, But p H H7 → LsAt K H7 q (enc es) := fun b => ⟨vs, b _ _ (Ne.symm pq) eq, aq.kt (But.kt hp b)⟩
    refine ⟨p, c, q, n, es, rfl, pq, hp5, kq b5, po, by omega, fun ov ows kk H6 hp6 b6 aov wows l4 _ _ => ?_⟩
    obtain ⟨oa, ovs, rfl, hoa, aoa⟩ := tup_at aov
    obtain ⟨o1, o2, e, ao1, ao2⟩ := ats2 aoa
    subst e
    refine ⟨oa, rfl, _, hoa, rfl, _, _, rfl, _, _, rfl, rfl, p, c, rfl, hp6, fun nm H7 nm0 nm1 hp7 b7 => ?_⟩
    walk_at "go"
    refine ⟨p, c, 4, rfl, by decide, by decide, hp7, fun r4 H8 _ _ hp8 b8 => ?_⟩
    have kA := But.kt hp5 ((b6.trans b7).trans b8)
    have kO := But.kt hp6 (b7.trans b8)
    have bA := b5.trans ((b6.trans b7).trans b8)
    obtain ⟨oa1, oa1v, rfl, hoa1, aoa1⟩ := tup_at (ao1.kt kO)
    have wo : ∀ u ∈ ows, Tr.WL n u := fun u mu => (wows u mu).1
    have wo1 : ∀ u ∈ ows, Tr.WL (n + 1) u := fun u mu => (wo u mu).up
    have wl1 : ∀ u ∈ ws, Tr.WL (n + 1) u := fun u mu => (wl u mu).up
    have hda8 := (a2.kt (Kt.same (s34.trans s5))).kt kA
    have atold8 := (a3.kt (Kt.same (s4.trans s5))).kt kA
    have ah8 := ((ah.kt k1).kt (Kt.same s25)).kt kA
    have hl8 := (hl4.kt (Kt.same s5)).kt kA
    have al8 := (al4.kt (Kt.same s5)).kt kA
    have tail : ∀ sec : Int, 0 ≤ sec → sec ≤ 99 → spTurned K [.ref da, .int sec, .ref oa1] H8 (fun x H1 => spGiven K [.ref p, .ref oa1] H1 (fun x_1 H1 => spAdded K [told, .int sec, x_1] H1 (fun x_2 H1 => spExact K 150 [x_2, x] H1 (fun x_3 H1 => ∃ c, x_3 = .bl c ∧ if c = false then Q (.bl false) H1 else
        spAdded K [hv, .int sec, .ref oa1] H1 (fun x_4 H1 => spGiven K [.ref p, .ref l] H1 (fun x_5 H1 => spAdded K [x_4, .int m, x_5] H1 (fun x_6 H1 => spExact K 150 [x_6, x] H1 Q E0) E0) E0) E0) E0) E0) E0) E0 := by
      intro sec sc0 sc1
      refine ⟨.ref da, sec, .ref oa1, b, bag1, ows, n + 1, rfl, hda8, wd, by omega, at_tup hoa1 aoa1, wo1, fun both bag3 H9 s9 a9 x9 pm9 up9 => ?_⟩
      refine ⟨p, c, oa1, oa1v, rfl, hp8.same s9, hoa1.kt (Kt.same s9), fun r1 H10 hp10 b10 hr10 => ?_⟩
      have k10 := But.kt (hp8.same s9) b10
      have k810 := (Kt.same s9).trans k10
      have hs10 : SqL K H10 r1 oa1v ∨ SqT K H10 r1 oa1v := hr10.imp (fun h => SqL.of h.2) id
      refine ⟨told, sec, .ref r1, b, bag1, ows, n + 1, rfl, atold8.kt k810, wd, by omega, ⟨r1, oa1v, rfl, hs10, aoa1.kt k810⟩, wo1, fun t2 bag4 H11 s11 a11 pm11 up11 => ?_⟩
      have wb := wl_turn wd l6 wo1 pm9
      have gb := Tr.gw_turn gd l6 sc0 sc1 l4 (fun u mu => (wows u mu).2) pm9 up9
      have ak3 := ak_bag wb
      obtain rfl : bag3 = bag4 := Tr.up_perm up9 up11 (pm9.trans pm11.symm) ak3
      refine ⟨t2, both, _, rfl, a11, a9.kt (k10.trans (Kt.same s11)), by have := wb.dep_le; omega, nar_gw gb, fun H12 s12 => ⟨_, rfl, ite_f (by decide) ?_⟩⟩
      have s1012 := s11.trans s12
      have k812 := k810.trans (Kt.same s1012)
      refine ⟨hv, sec, .ref oa1, b, bag, ows, n, rfl, ah8.kt k812, wh, by omega, ⟨oa1, oa1v, rfl, .inr (hoa1.kt k812), aoa1.kt k812⟩, wo, fun t3 bag5 H13 s13 a13 pm13 up13 => ?_⟩
      have hp13 := hp10.same (s1012.trans s13)
      refine ⟨p, c, l, lvs, rfl, hp13, hl8.kt (k812.trans (Kt.same s13)), fun r2 H14 hp14 b14 hr14 => ?_⟩
      have k14 := But.kt hp13 b14
      have hs14 : SqL K H14 r2 lvs ∨ SqT K H14 r2 lvs := hr14.imp (fun h => SqL.of h.2) id
      have w5 := wl_turn wh h6 wo pm13
      refine ⟨t3, m, .ref r2, b, bag5, ws, n + 1, rfl, a13.kt k14, w5, by omega, ⟨r2, lvs, rfl, hs14, al8.kt ((k812.trans (Kt.same s13)).trans k14)⟩, wl1, fun t4 bag6 H15 s15 a15 pm15 up15 => ?_⟩
      have pmA : bag6.Perm ((bag ++ [Tr.trn sec ows]) ++ [Tr.trn m ws]) := pm15.trans (pm13.append_right _)
      have pmB : bag3.Perm ((bag ++ [Tr.trn m ws]) ++ [Tr.trn sec ows]) := pm9.trans (pm2.append_right _)
      have pmC : bag3.Perm bag6 := pmB.trans (perm_swap2.trans pmA.symm)
      obtain rfl : bag3 = bag6 := Tr.up_perm up9 up15 pmC ak3
      refine ⟨t4, both, _, rfl, a15, a9.kt (((k10.trans (Kt.same (s1012.trans s13))).trans k14).trans (Kt.same s15)), by have := wb.dep_le; omega, nar_gw gb, fun H16 s16 => ?_⟩
      exact k H16 (hp14.same (s15.trans s16)) (((bA.trans (But.of s9)).trans b10).trans ((But.of (s1012.trans s13)).trans (b14.trans (But.of (s15.trans s16)))))
    walk_at "go"
    refine ite2 (fun _ => ?_) (fun _ => ?_)
    · walk_at "go"
      exact tail m m0 m1
    · walk_at "go"
      exact tail nm nm0 (by omega)
end


set_option Elab.async false
set_option linter.all false
set_option maxRecDepth 100000
set_option maxHeartbeats 4000000
open PySem L2 StX


theorem flat_congr {f g : Tr → List Tr} : ∀ {xs : List Tr}, (∀ x ∈ xs, f x = g x) → xs.flatMap f = xs.flatMap g
  | [], _ => rfl
  | x :: xs, h => by rw [List.flatMap_cons, List.flatMap_cons, h x List.mem_cons_self, flat_congr fun y m => h y (List.mem_cons_of_mem _ m)]
theorem nodes_up : ∀ {n m : Nat} {w : Tr}, Tr.WL n w → n ≤ m → Tr.nodes m w = Tr.nodes n w
  | 0, _, _, h, _ => h.elim
  | n + 1, 0, _, _, hm => absurd hm (by omega)
  | n + 1, m + 1, w, h, hm => by
    show w :: (Tr.held w).flatMap (Tr.nodes m) = w :: (Tr.held w).flatMap (Tr.nodes n)
    rw [flat_congr fun v k => nodes_up (h.held v k) (by omega : n ≤ m)]
theorem cnt_w {n : Nat} {w : Tr} (h : Tr.WL (n + 1) w) (n9 : n ≤ 9) : (Tr.nodes 10 w).length = 1 + ((Tr.held w).flatMap (Tr.nodes 10)).length := by
  show ((Tr.held w).flatMap (Tr.nodes 9)).length + 1 = _
  rw [flat_congr (f := Tr.nodes 9) (g := Tr.nodes 10) fun v k => by rw [nodes_up (h.held v k) n9, nodes_up (h.held v k) (by omega : n ≤ 10)]]
  omega
theorem cnt_turn {n : Nat} {b : Tr} {bag bag' ws : List Tr} {m : Int} (h : Tr.WL n (Tr.wor b bag)) (h' : Tr.WL (n + 1) (Tr.wor b bag')) (n9 : n ≤ 9) (p : bag'.Perm (bag ++ [Tr.trn m ws])) :
    (Tr.nodes 10 (Tr.wor b bag')).length = (Tr.nodes 10 (Tr.wor b bag)).length + (ws.flatMap (Tr.nodes 10)).length := by
  cases n with
  | zero => exact h.elim
  | succ n =>
    rw [cnt_w h' n9, cnt_w h (by omega), Tr.held_wor, Tr.held_wor]
    have q : ((bag'.flatMap Tr.heldT).flatMap (Tr.nodes 10)).length = (((bag ++ [Tr.trn m ws]).flatMap Tr.heldT).flatMap (Tr.nodes 10)).length := ((p.flatMap_right Tr.heldT).flatMap_right (Tr.nodes 10)).length_eq
    rw [List.flatMap_append, List.length_append, q, List.flatMap_append, List.flatMap_append, List.flatMap_append, List.length_append, List.length_append]
    have e : [Tr.trn m ws].flatMap Tr.heldT = ws := by simp [Tr.heldT, Tr.trn]
    rw [e]; omega
theorem Pool.add {n : Nat} {es : List (Tr × Nat)} {e : Tr × Nat} (h : Pool n es) (w : Wt (n + 1) e.1 e.2) : Pool (n + 1) (es ++ [e]) := by
  refine ⟨by rw [List.length_append]; have := h.three; omega, by rw [List.length_append, List.length_singleton]; have := h.few; omega, fun i hi => ?_, fun x m => ?_⟩
  · obtain ⟨z, hz⟩ := h.one i hi
    exact ⟨z, by rw [List.getElem?_append_left (List.getElem?_eq_some_iff.mp hz).1]; exact hz⟩
  · rcases List.mem_append.mp m with m | m
    · obtain ⟨a, b⟩ := h.wt x m
      exact ⟨a.up, b⟩
    · rw [List.mem_singleton.mp m]; exact w
def But2 (p q : Addr) (H H' : Hp) : Prop := ∀ b o, b ≠ p → b ≠ q → H b = some o → H' b = some o
/-- an entry of the pool, its worth's bag known -/
def Pxe (K : PySem.W.Frag) (H : Hp) (v : V) (e : Tr × Nat) : Prop := ∃ a wv, v = .ref a ∧ SqT K H a [wv, .int (e.2 : Nat)] ∧ WorX K H wv e.1
def PX (K : PySem.W.Frag) (H : Hp) (q : Addr) (es : List (Tr × Nat)) : Prop := ∃ vs, H q = some (.lst vs) ∧ Paired (Pxe K H) vs es
theorem Pxe.kt {K : PySem.W.Frag} {H H' : Hp} (k : Kt H H') {v : V} {e : Tr × Nat} (h : Pxe K H v e) : Pxe K H' v e := by
  obtain ⟨a, wv, rfl, h1, h2⟩ := h
  exact ⟨a, wv, rfl, h1.kt k, h2.kt k⟩
theorem pxs_kt {K : PySem.W.Frag} {H H' : Hp} (k : Kt H H') : ∀ {vs : List V} {es : List (Tr × Nat)}, Paired (Pxe K H) vs es → Paired (Pxe K H') vs es
  | _, _, .nil => .nil
  | _, _, .cons a b => .cons (a.kt k) (pxs_kt k b)
theorem pxs_at {K : PySem.W.Frag} {H : Hp} : ∀ {vs : List V} {es : List (Tr × Nat)}, Paired (Pxe K H) vs es → Ats K H vs (enc es)
  | _, _, .nil => .nil
  | _, _, .cons (b := e) a b => by
    obtain ⟨x, wv, rfl, h1, h2⟩ := a
    exact .cons (at_tup h1 (.cons h2.at (.cons (at_int _) .nil))) (pxs_at b)
theorem pxs_snoc {K : PySem.W.Frag} {H : Hp} {v : V} {e : Tr × Nat} (h : Pxe K H v e) : ∀ {vs : List V} {es : List (Tr × Nat)}, Paired (Pxe K H) vs es → Paired (Pxe K H) (vs ++ [v]) (es ++ [e])
  | _, _, .nil => .cons h .nil
  | _, _, .cons a b => .cons a (pxs_snoc h b)
theorem PX.ls {K : PySem.W.Frag} {H : Hp} {q : Addr} {es : List (Tr × Nat)} (h : PX K H q es) : LsAt K H q (enc es) := by
  obtain ⟨vs, e, p⟩ := h
  exact ⟨vs, e, pxs_at p⟩
def spGrown (K : PySem.W.Frag) : Sp := fun vs H Q _ => ∃ (p c q : Addr) (n : Nat) (es : List (Tr × Nat)) (most : Nat), vs = [.ref p, .ref q, .int (most : Nat)] ∧ p ≠ q ∧ q ≠ c ∧ most ≤ 7 ∧ HandAt H p c ∧ PX K H q es ∧ Pool n es ∧ n ≤ 8 ∧ ∀ e H', HandAt H' p c → PX K H' q (es ++ [e]) → Pool (n + 1) (es ++ [e]) → But2 p q H H' → Q (.bl true) H'
section
variable {P : Program} {w : World} {K : PySem.W.Frag} {mg : Str → Option Value} {base : Heap}
theorem scGrown : FnScope ["_law_hand_here", "_law_pool", "_law_most", "_law_worths", "_law_size", "_law_name_here", "_law_held"] ["_law_hand_here", "_law_pool", "_law_most"] (defScope sGrown) := ⟨rfl, rfl, rfl, by decide +kernel, rfl, by decide +kernel, by decide +kernel⟩
theorem ok_grown (D : DefAt K mg "_law_grown" sGrown) (B : Bt mg) (C_take : Cal P w K mg base CX0 161 "_law_take" ["_law_hand_here", "_law_many"] spTake) (C_pick : Cal P w K mg base CX0 161 "_law_pick" ["_law_hand_here", "_law_pool", "_law_room"] (spPick K))
    (C_picks : Cal P w K mg base CX0 161 "_law_picks" ["_law_hand_here", "_law_pool"] (spPicks K)) (C_name : Cal P w K mg base CX0 161 "_law_name" ["_law_hand_here"] spName) (C_turned : Cal P w K mg base CX0 161 "_law_turned" ["_law_worth", "_law_name_here", "_law_worths"] (spTurned K))
    (C_made_told : Cal P w K mg base CX0 161 "_law_made_told" ["_law_hand_here", "_law_pool", "_law_worths", "_law_name_here"] (spMadeT K)) (C_added_told : Cal P w K mg base CX0 161 "_law_added_told" ["_law_hand_here", "_law_pool", "_law_held", "_law_name_here", "_law_worths"] (spAddedT K)) :
    Cal P w K mg base CX0 162 "_law_grown" ["_law_hand_here", "_law_pool", "_law_most"] (spGrown K) := by
  refine D.cal (fun _ _ _ _ _ _ us hl => match us, hl with | [_, _, _], _ => rfl) fun f fd F => ?_
  refine F.ok scGrown (fun vs H Q E h => ?_) (fun cdv A outer s H vs Q E HR h => ?_)
  · obtain ⟨p, c, q, n, es, most, rfl, _⟩ := h
    rfl
  · obtain ⟨p, c, q, n, es, most, rfl, pq, qc, m7, hp, ⟨vs, eq, px⟩, po, n8, k⟩ := h
    refine ⟨_, (pss_cons (ps_asg (pe_cal C_picks (by rfl) HR pass0 (pa_cons (pv 0) (pa_cons (pv 1) pa_nil))) (pg_tup (n := 2) rfl (pgs_cons (pg_name (i := 3) scGrown.nd rfl (Or.inl rfl)) (pgs_cons (pg_name (i := 4) scGrown.nd rfl (Or.inl rfl)) pgs_nil))))
  (pss_cons (ps_set (i := 5) scGrown.nd rfl (Or.inl rfl) (pe_cal C_name (by rfl) HR pass0 (pa_cons (pv 0) pa_nil)))
  (pss_cons (ps_set (i := 6) scGrown.nd rfl (Or.inl rfl) (pe_cal C_pick (by rfl) HR pass0 (pa_cons (pv 0) (pa_cons (pv 1) (pa_cons pe_int pa_nil)))))
  (pss_cons (ps_if (PW.pt (pw_and (pt_cmpR op_eq (pe_cal C_take (by rfl) HR pass0 (pa_cons (pv 0) (pa_cons pe_int pa_nil))) pe_int (nomark _)) (pw_and1 (pt_cmpR op_lt (pe_callB call_len_seq (by rfl) B.len PySem.boot_len (pa_cons (pe_ix ix_tup (pe_ix ix_tup (pv 6) pe_int (fun _ _ => rfl)) pe_int (fun _ _ => rfl)) pa_nil)) (pv 2) (nomark _))))) (pss_cons (ps_if (pt_not (pt_val (pe_cal C_added_told (by rfl) HR pass0 (pa_cons (pv 0) (pa_cons (pv 1) (pa_cons (pe_ix ix_tup (pv 6) pe_int (fun _ _ => rfl)) (pa_cons (pv 5) (pa_cons (pv 3) pa_nil)))))))) (pss_one (ps_ret pe_bl)) pss_nil)
  (pss_cons (ps_expr (pe_bm PySem.F.plainAttrs_list PySem.F.slot_list_append PySem.F.type_list_append mt_append (pv 1) (pa_cons (pe_tup (pa_cons (pe_cal C_turned (by rfl) HR pass0 (pa_cons (pe_ix ix_tup (pv 6) pe_int (fun _ _ => rfl)) (pa_cons (pv 5) (pa_cons (pv 3) pa_nil)))) (pa_cons (pe_op op_add (pe_ix ix_tup (pv 6) pe_int (fun _ _ => rfl)) (pv 4)) pa_nil))) pa_nil)))
  (pss_one (ps_ret pe_bl)))) pss_nil)
  (pss_cons (ps_expr (pe_bm PySem.F.plainAttrs_list PySem.F.slot_list_append PySem.F.type_list_append mt_append (pv 1) (pa_cons (pe_tup (pa_cons (pe_tup (pa_cons (pe_tup (pa_cons pe_int (pa_cons (pv 5) (pa_cons (pv 3) pa_nil)))) (pa_cons (pe_tup pa_nil) pa_nil))) (pa_cons (pe_op op_add pe_int (pv 4)) pa_nil))) pa_nil)))
  (pss_one (ps_ret (pe_cal C_made_told (by rfl) HR pass0 (pa_cons (pv 0) (pa_cons (pv 1) (pa_cons (pv 3) (pa_cons (pv 5) pa_nil)))))))))))), ?_⟩
    have aq := pxs_at px
    have frame : ∀ {H1 : Hp}, But p H H1 → LsAt K H1 q (enc es) := fun b => ⟨vs, b q _ (Ne.symm pq) eq, aq.kt (But.kt hp b)⟩
    have lvs : vs.length < sizeLine := by
      rw [aq.length, show (enc es).length = es.length from List.length_map _]
      exact Nat.lt_of_le_of_lt (Nat.le_trans po.few (by omega : _ ≤ 10)) (by decide)
    walk_at "go"
    refine ⟨p, c, q, n, es, rfl, pq, hp, ⟨vs, eq, aq⟩, po, by omega, fun v ws kk H1 hp1 b1 av wws l4 ck k48 => ?_⟩
    obtain ⟨a1, xs1, rfl, hs1, aa1⟩ := tup_at av
    obtain ⟨wv, wk, e, awv, akv⟩ := ats2 aa1
    subst e
    rw [int_at akv] at hs1
    refine ⟨a1, rfl, _, hs1, rfl, _, _, rfl, _, _, rfl, rfl, p, c, rfl, hp1, fun nm H2 nm0 nm1 hp2 b2 => ?_⟩
    have b12 := b1.trans b2
    walk_at "go"
    refine ⟨p, c, q, 60, n, es, rfl, pq, hp2, frame b12, po, by omega, by decide, fun hv x hk H3 hp3 b3 ax wx h60 => ?_⟩
    have b13 := b12.trans b3
    walk_at "go"
    refine ⟨p, c, 2, rfl, by decide, by decide, hp3, fun r H4 _ _ hp4 b4 => ?_⟩
    have b14 := b13.trans b4
    have ax4 := ax.kt (But.kt hp3 b4)
    have aw4 := awv.kt (But.kt hp1 ((b2.trans b3).trans b4))
    obtain ⟨wx1, wx2, wx3, wx4, wx5⟩ := wx
    obtain ⟨b, bag, rfl⟩ := wx5.shape
    obtain ⟨ha, hxs, rfl, hs, haa⟩ := tup_at ax4
    obtain ⟨hw, hkv, e, ahw, ahk⟩ := ats2 haa
    subst e
    rw [int_at ahk] at hs
    obtain ⟨xa, xvs, rfl, hxa, axs⟩ := tup_at ahw
    obtain ⟨vb, vg, e, avb, avg⟩ := ats2 axs
    subst e
    obtain ⟨ga, gvs, rfl, hga, agv⟩ := tup_at avg
    have fin : ∀ (e : Tr × Nat) (v : V) (H5 : Hp), HandAt H5 p c → But p H4 H5 → Pxe K H5 v e → Wt (n + 1) e.1 e.2 → H5 q = some (.lst vs) ∧ vs.length < sizeLine ∧ HandAt (upd H5 q (.lst (vs ++ [v]))) p c ∧ PX K (upd H5 q (.lst (vs ++ [v]))) q (es ++ [e]) ∧ Pool (n + 1) (es ++ [e]) ∧ But2 p q H (upd H5 q (.lst (vs ++ [v]))) := fun e v H5 hp5 b5 a5 w5 => by
      have b15 := b14.trans b5
      have e5 := b15 _ _ (Ne.symm pq) eq
      refine ⟨e5, lvs, hp5.put (Ne.symm pq) qc, ⟨_, upd_same, ?_⟩, po.add w5, fun o u no nq z => ?_⟩
      · exact pxs_kt (Kt.lst e5) (pxs_snoc a5 (pxs_kt (But.kt hp b15) px))
      · rw [upd_ne nq]
        exact b15 _ _ no z
    walk_at "go"
    have e4 := b14 _ _ (Ne.symm pq) eq
    refine ite2 (fun _ => ?_) (fun _ => ?_)
    · refine ⟨_, hs, _, atI_0, xa, rfl, _, hxa, _, atI_1, ga, rfl, gvs, .inr hga, ?_⟩
      refine ite2 (fun lt => ?_) (fun _ => ?_)
      · have l7 : bag.length < 7 := by rw [← agv.length]; omega
        refine ⟨_, hs, _, atI_0, ?_⟩
        refine ⟨p, c, q, .ref xa, nm, wv, b, bag, ws, n, es, rfl, pq, hp4, frame b14, po, n8, ahw, wx1, wx5, l7, aw4, nm0, by omega, l4, wws, fun H5 hp5 b5 => ⟨_, rfl, ite_f (by decide) ?_⟩⟩
        have k5 := But.kt hp4 b5
        have e5 := b5 _ _ (Ne.symm pq) e4
        refine ⟨.inl ⟨rfl, _, SqL.of e5⟩, _, hs.kt k5, _, atI_0, ?_⟩
        refine ⟨.ref xa, nm, wv, b, bag, ws, n, rfl, ahw.kt k5, wx1, by omega, aw4.kt k5, fun u mu => (wws u mu).1, fun tv bag' H6 s6 at6 x6 pm up => ?_⟩
        have wt' := wl_turn wx1 l7 (fun u mu => (wws u mu).1) pm
        have cn := cnt_turn wx1 wt' (by omega) pm
        refine ⟨_, (hs.kt k5).kt (Kt.same s6), _, atI_1, _, rfl, by decide, fun p5 n5 => ?_⟩
        have s7 := s6.trans (same_new (o := .tup [tv, .int ((hk : Nat) + (kk : Nat))]) n5)
        have pe : Pxe K (upd H6 p5 (.tup [tv, .int ((hk : Nat) + (kk : Nat))])) (.ref p5) (Tr.wor b bag', hk + kk) := ⟨p5, tv, rfl, by
          rw [show ((hk + kk : Nat) : Int) = (hk : Nat) + (kk : Nat) by omega]
          exact SqT.of upd_same, x6.kt (Kt.new n5)⟩
        obtain ⟨f1, f2, f3, f4, f5, f6⟩ := fin _ _ _ (hp5.same s7) (b5.trans (But.of s7)) pe ⟨wt', by rw [cn, wx2, ck], by omega, by omega, Tr.gw_turn wx5 l7 nm0 (by omega) l4 (fun u mu => (wws u mu).2) pm up⟩
        exact ⟨vs, f1, f2, k _ _ f3 f4 f5 f6⟩
      · refine ⟨.inl ⟨rfl, _, SqL.of e4⟩, by decide, fun p1 n1 => ⟨by decide, fun p2 n2 => ⟨by decide, fun p3 n3 => ⟨by decide, fun p4 n4 => ?_⟩⟩⟩⟩
        have s12 := (same_new (o := .tup [.int 1, .int nm, wv]) n1).trans (same_new (o := .tup []) n2)
        have s34 := (same_new (o := .tup [.ref p1, .ref p2]) n3).trans (same_new (o := .tup [.ref p3, .int (1 + (kk : Nat))]) n4)
        have s4 := s12.trans s34
        have wn : Tr.WL (n + 1) (Tr.wor (Tr.base1 nm ws) []) := wl_new fun u mu => (wws u mu).1
        have cn : (Tr.nodes 10 (Tr.wor (Tr.base1 nm ws) [])).length = 1 + kk := by rw [cnt_w wn (by omega), Tr.held_wor, ← ck]; simp [Tr.heldB, Tr.base1]
        have aw := at_tup (K := K) (SqT.of ((same_new (o := .tup [.ref p3, .int (1 + (kk : Nat))]) n4) _ _ upd_same)) (.cons (at_tup (SqT.of (((same_new n2).trans s34) _ _ upd_same)) (.cons (at_int 1) (.cons (at_int nm) (.cons (aw4.kt (Kt.same s4)) .nil)))) (.cons (at_tup (SqT.of (s34 _ _ upd_same)) .nil) .nil))
        have pe : Pxe K (upd (upd (upd (upd H4 p1 (.tup [.int 1, .int nm, wv])) p2 (.tup [])) p3 (.tup [.ref p1, .ref p2])) p4 (.tup [.ref p3, .int (1 + (kk : Nat))])) (.ref p4) (Tr.wor (Tr.base1 nm ws) [], 1 + kk) := ⟨p4, .ref p3, rfl, by
          rw [show ((1 + kk : Nat) : Int) = 1 + (kk : Nat) by omega]
          exact SqT.of upd_same, .of aw⟩
        obtain ⟨f1, f2, f3, f4, f5, f6⟩ := fin _ _ _ (hp4.same s4) (But.of s4) pe ⟨wn, cn, by omega, by omega, Tr.gw_made nm0 (by omega) l4 fun u mu => (wws u mu).2⟩
        refine ⟨vs, f1, f2, ?_⟩
        refine ⟨p, c, .ref q, wv, nm, ws, n, rfl, f3, aw4.kt ((Kt.same s4).trans (Kt.lst f1)), nm0, by omega, l4, wws, by omega, fun H9 hp9 b9 => ?_⟩
        obtain ⟨v9, e9, x9⟩ := f4
        exact k _ H9 hp9 ⟨v9, b9 _ _ (Ne.symm pq) e9, pxs_kt (But.kt f3 b9) x9⟩ f5 fun o u no nq z => b9 _ _ no (f6 _ _ no nq z)

    · refine ⟨.inl ⟨rfl, _, SqL.of e4⟩, by decide, fun p1 n1 => ⟨by decide, fun p2 n2 => ⟨by decide, fun p3 n3 => ⟨by decide, fun p4 n4 => ?_⟩⟩⟩⟩
      have s12 := (same_new (o := .tup [.int 1, .int nm, wv]) n1).trans (same_new (o := .tup []) n2)
      have s34 := (same_new (o := .tup [.ref p1, .ref p2]) n3).trans (same_new (o := .tup [.ref p3, .int (1 + (kk : Nat))]) n4)
      have s4 := s12.trans s34
      have wn : Tr.WL (n + 1) (Tr.wor (Tr.base1 nm ws) []) := wl_new fun u mu => (wws u mu).1
      have cn : (Tr.nodes 10 (Tr.wor (Tr.base1 nm ws) [])).length = 1 + kk := by rw [cnt_w wn (by omega), Tr.held_wor, ← ck]; simp [Tr.heldB, Tr.base1]
      have aw := at_tup (K := K) (SqT.of ((same_new (o := .tup [.ref p3, .int (1 + (kk : Nat))]) n4) _ _ upd_same)) (.cons (at_tup (SqT.of (((same_new n2).trans s34) _ _ upd_same)) (.cons (at_int 1) (.cons (at_int nm) (.cons (aw4.kt (Kt.same s4)) .nil)))) (.cons (at_tup (SqT.of (s34 _ _ upd_same)) .nil) .nil))
      have pe : Pxe K (upd (upd (upd (upd H4 p1 (.tup [.int 1, .int nm, wv])) p2 (.tup [])) p3 (.tup [.ref p1, .ref p2])) p4 (.tup [.ref p3, .int (1 + (kk : Nat))])) (.ref p4) (Tr.wor (Tr.base1 nm ws) [], 1 + kk) := ⟨p4, .ref p3, rfl, by
        rw [show ((1 + kk : Nat) : Int) = 1 + (kk : Nat) by omega]
        exact SqT.of upd_same, .of aw⟩
      obtain ⟨f1, f2, f3, f4, f5, f6⟩ := fin _ _ _ (hp4.same s4) (But.of s4) pe ⟨wn, cn, by omega, by omega, Tr.gw_made nm0 (by omega) l4 fun u mu => (wws u mu).2⟩
      refine ⟨vs, f1, f2, ?_⟩
      refine ⟨p, c, .ref q, wv, nm, ws, n, rfl, f3, aw4.kt ((Kt.same s4).trans (Kt.lst f1)), nm0, by omega, l4, wws, by omega, fun H9 hp9 b9 => ?_⟩
      obtain ⟨v9, e9, x9⟩ := f4
      exact k _ H9 hp9 ⟨v9, b9 _ _ (Ne.symm pq) e9, pxs_kt (But.kt f3 b9) x9⟩ f5 fun o u no nq z => b9 _ _ no (f6 _ _ no nq z)

end


set_option Elab.async false
set_option linter.all false
set_option maxRecDepth 100000
set_option maxHeartbeats 4000000
open PySem L2 StX


/-- no worth -/
def Bd (x : Th) : Prop := ¬ (x.OkF ∧ x.OkA)
theorem bd_form {x : Th} (h : x.form = false) : Bd x := fun k => by
  have := (Th.OkF.iff.mp k.1).1
  rw [h] at this; cases this
theorem bd_base {b g : Th} (h : b.isBase = false) : Bd (.t [b, g]) := bd_form (by cases g <;> simp [Th.form, h])
theorem bd_asc {x : Th} (h : Th.ascB (Th.bagOf x) = false) : Bd x := fun k => by
  have := (Th.OkA.iff.mp k.2).1
  rw [h] at this; cases this
theorem bd_held {x v : Th} (h : Bd v) (m : v ∈ Th.held x) : Bd x := fun k => h ⟨(Th.OkF.iff.mp k.1).2 v m, (Th.OkA.iff.mp k.2).2 v m⟩
theorem bd_turn {b : Th} {g : List Th} {t : Th} (h : t.isTurn = false) (m : t ∈ g) : Bd (.t [b, .t g]) := bd_form (by
  show (b.isBase && g.all Th.isTurn) = false
  rw [Bool.and_eq_false_iff]
  refine .inr ?_
  cases e : g.all Th.isTurn with
  | false => rfl
  | true =>
    rw [List.all_eq_true.mp e t m] at h
    cases h)
theorem But.kl {H H' : Hp} {p c : Addr} (h : HandAt H p c) (h' : HandAt H' p c) (b : But p H H') : Kl H H' := fun a o e => by
  by_cases z : a = p
  · subst z
    obtain ⟨cs, i, big, tot, hh⟩ := h
    obtain ⟨cs', i', big', tot', hh'⟩ := h'
    rw [hh.hp] at e
    exact .inr ⟨⟨_, (Option.some.inj e).symm⟩, _, hh'.hp⟩
  · exact .inl (b a o z e)
def zz : Tr := Tr.wor (Tr.base0 0) []
theorem zz_th : zz.toTh = .t [.t [.i 0, .i 0], .t []] := by unfold zz; rw [Tr.wor_th, Tr.base0_th]; rfl
theorem zz_sz {n : Nat} (h : n ≤ 8) : Th.szs ((List.replicate n zz).map Tr.toTh) ≤ 48 := by
  rw [List.map_replicate, zz_th]
  have : ∀ n : Nat, Th.szs (List.replicate n (Th.t [.t [.i 0, .i 0], .t []])) = 5 * n := fun n => by
    induction n with
    | zero => exact Th.szs_nil
    | succ n ih => rw [List.replicate_succ, Th.szs_cons, ih]; simp only [Th.sz_t, Th.szs_cons, Th.szs_nil, Th.sz_i]; omega
  rw [this]; omega
theorem zz_dep {n : Nat} : Th.deps ((List.replicate n zz).map Tr.toTh) ≤ 2 := by
  rw [List.map_replicate, zz_th]
  exact Th.deps_le fun x m => by
    rw [(List.mem_replicate.mp m).2]
    simp only [Th.dep_t, Th.deps_cons, Th.deps_nil, Th.dep_i]
    decide
theorem fives {K : PySem.W.Frag} {v0 v1 v2 v3 v4 : V} {n : Nat} {H1 : Hp} {Q : VK} (hn : n ≤ 8) (fin : ∀ D H2, H1 D = none → Same H1 H2 → LsAt K H2 D (List.replicate n zz) → Q (.ref D) H2) :
    LpC (gName 5) tYes (tTup (tCons (tTup (tCons (tC (V.int 0)) (tCons (tC (V.int 0)) tNil))) (tCons (tTup tNil) tNil))) [5] [some v0, some v1, some v2, some v3, some v4, none] Q (Itr 0 n) H1 := by
  refine lpC_by wk_range (fun D i H2 => H1 D = none ∧ Same H1 H2 ∧ i ≤ n ∧ LsAt K H2 D (List.replicate i zz)) (fun D nD => ⟨nD, same_new nD, Nat.zero_le _, [], upd_same, .nil⟩) (fun _ _ _ _ _ => trivial) ?_ ?_
  · rintro D i y H2' H2 hi ⟨nD, s2, i3, dvs, eD, aD⟩ ⟨rfl, rfl⟩
    walk_at "go"
    refine ⟨by decide, fun p1 n1 => ⟨by decide, fun p2 n2 => ⟨by decide, fun p3 n3 => ?_⟩⟩⟩
    have s3 := ((same_new (o := .tup [.int 0, .int 0]) n1).trans (same_new (o := .tup []) n2)).trans (same_new (o := .tup [.ref p1, .ref p2]) n3)
    have e1 := ((same_new (o := .tup []) n2).trans (same_new (o := .tup [.ref p1, .ref p2]) n3)) p1 _ upd_same
    have e2 := (same_new (o := .tup [.ref p1, .ref p2]) n3) p2 _ upd_same
    have r := acc_put (K := K) (t := zz) nD (s2.trans s3) (s3 _ _ eD) (aD.kt (Kt.same s3))
      (at_tup (SqT.of upd_same) (.cons (at_tup (SqT.of e1) (.cons (at_int 0) (.cons (at_int 0) .nil))) (.cons (at_tup (SqT.of e2) .nil) .nil)))
    refine ⟨dvs, s3 _ _ eD, ?_, nD, r.1, by omega, ?_⟩
    · rw [aD.length, List.length_replicate]
      exact Nat.lt_of_le_of_lt (by omega : i ≤ 8) (by decide)
    · rw [← List.replicate_succ, List.replicate_succ']
      exact r.2
  · rintro D H2 nD ⟨_, s2, _, dvs, eD, aD⟩
    exact fin D H2 nD s2 ⟨dvs, eD, aD⟩
def spBad (K : PySem.W.Frag) : Sp := fun vs H Q _ => ∃ p c vb vg b bag, vs = [.ref p, vb, vg] ∧ HandAt H p c ∧ At K H vb b ∧ At K H vg (.t bag) ∧ Tr.GBase b ∧ bag.length ≤ 7 ∧ (∀ t ∈ bag, Tr.GTurn t) ∧ b.toTh.sz + Th.szs (bag.map Tr.toTh) ≤ 3000 ∧ b.dep ≤ 60 ∧ Tr.deps bag ≤ 60 ∧
  ∀ v x H', HandAt H' p c → But p H H' → ThAt K H' v x → Bd x → x.sz ≤ 4000 → x.dep ≤ 64 → Q v H'
section
variable {P : Program} {w : World} {K : PySem.W.Frag} {mg : Str → Option Value} {base : Heap}
theorem scBadBase : FnScope ["_law_hand_here", "_law_base", "_law_bag", "_law_far", "_law_way", "_law_k"] ["_law_hand_here", "_law_base", "_law_bag"] (defScope sBadBase) := ⟨rfl, rfl, rfl, by decide +kernel, rfl, by decide +kernel, by decide +kernel⟩
theorem ok_badBase (D : DefAt K mg "_law_bad_base" sBadBase) (B : Bt mg) (C_take : Cal P w K mg base CX0 161 "_law_take" ["_law_hand_here", "_law_many"] spTake) (C_name : Cal P w K mg base CX0 161 "_law_name" ["_law_hand_here"] spName) :
    Cal P w K mg base CX0 162 "_law_bad_base" ["_law_hand_here", "_law_base", "_law_bag"] (spBad K) := by
  refine D.cal (fun _ _ _ _ _ _ us hl => match us, hl with | [_, _, _], _ => rfl) fun f fd F => ?_
  refine F.ok scBadBase (fun vs H Q E h => ?_) (fun cdv A outer s H vs Q E HR h => ?_)
  · obtain ⟨p, c, vb, vg, b, bag, rfl, _⟩ := h
    rfl
  · obtain ⟨p, c, vb, vg, b, bag, rfl, hp, ab, ag, gb, g7, gt, hz, d1, d2, k⟩ := h
    refine ⟨_, (pss_cons (ps_set (i := 3) scBadBase.nd rfl (Or.inl rfl) (pe_cal C_take (by rfl) HR pass0 (pa_cons (pv 0) (pa_cons (pe_op op_pow pe_int pe_int) pa_nil))))
  (pss_cons (ps_set (i := 4) scBadBase.nd rfl (Or.inl rfl) (pe_cal C_take (by rfl) HR pass0 (pa_cons (pv 0) (pa_cons pe_int pa_nil))))
  (pss_cons (ps_if (pt_cmpR op_eq (pv 4) pe_int (nomark _)) (pss_one (ps_ret (pe_tup (pa_cons (pe_tup (pa_cons pe_int (pa_cons (pe_cal C_take (by rfl) HR pass0 (pa_cons (pv 0) (pa_cons pe_int pa_nil))) pa_nil))) (pa_cons (pv 2) pa_nil))))) pss_nil)
  (pss_cons (ps_if (pt_cmpR op_eq (pv 4) pe_int (nomark _)) (pss_one (ps_ret (pe_tup (pa_cons (pe_callTy call_list_of (by rfl) B.list (by decide +kernel) (pa_cons (pv 1) pa_nil)) (pa_cons (pv 2) pa_nil))))) pss_nil)
  (pss_cons (ps_if (pt_cmpR op_eq (pv 4) pe_int (nomark _)) (pss_one (ps_ret (pe_tup (pa_cons (pe_op op_catA (pe_tup (pa_cons pe_int pa_nil)) (pe_slice sl_tupA (pv 1) (po_some pe_int) po_none)) (pa_cons (pv 2) pa_nil))))) pss_nil)
  (pss_cons (ps_if (pt_cmpR op_eq (pv 4) pe_int (nomark _)) (pss_one (ps_ret (pe_tup (pa_cons (pe_ifExp (pt_cmpR op_eq (pe_ix ix_tup (pv 1) pe_int (fun _ _ => rfl)) pe_int (nomark _)) (pe_tup (pa_cons (pe_ix ix_tup (pv 1) pe_int (fun _ _ => rfl)) (pa_cons (pe_op op_add pe_int (pv 3)) pa_nil))) (pe_tup (pa_cons pe_int (pa_cons (pe_op op_add pe_int (pv 3)) (pa_cons (pe_ix ix_tup (pv 1) pe_int (fun _ _ => rfl)) pa_nil))))) (pa_cons (pv 2) pa_nil))))) pss_nil)
  (pss_cons (ps_if (pt_cmpR op_eq (pv 4) pe_int (nomark _)) (pss_one (ps_ret (pe_tup (pa_cons (pe_op op_catA (pe_tup (pa_cons (pe_ix ix_tup (pv 1) pe_int (fun _ _ => rfl)) (pa_cons (pe_op op_sub (pe_un un_neg pe_int) (pv 3)) pa_nil))) (pe_slice sl_tupA (pv 1) (po_some pe_int) po_none)) (pa_cons (pv 2) pa_nil))))) pss_nil)
  (pss_cons (ps_if (pt_cmpR op_eq (pv 4) pe_int (nomark _)) (pss_one (ps_ret (pe_tup (pa_cons (pe_op op_catA (pe_tup (pa_cons (pe_cmpR op_eq (pe_ix ix_tup (pv 1) pe_int (fun _ _ => rfl)) pe_int (nomark _)) pa_nil)) (pe_slice sl_tupA (pv 1) (po_some pe_int) po_none)) (pa_cons (pv 2) pa_nil))))) pss_nil)
  (pss_cons (ps_if (pt_cmpR op_eq (pv 4) pe_int (nomark _)) (pss_one (ps_ret (pe_tup (pa_cons (pe_op op_catA (pe_tup (pa_cons (pe_ix ix_tup (pv 1) pe_int (fun _ _ => rfl)) (pa_cons (pe_cmpR op_eq (pe_cal C_take (by rfl) HR pass0 (pa_cons (pv 0) (pa_cons pe_int pa_nil))) pe_int (nomark _)) pa_nil))) (pe_slice sl_tupA (pv 1) (po_some pe_int) po_none)) (pa_cons (pv 2) pa_nil))))) pss_nil)
  (pss_cons (ps_if (pt_cmpR op_eq (pv 4) pe_int (nomark _)) (pss_one (ps_ret (pe_tup (pa_cons (pe_tup (pa_cons pe_int (pa_cons (pe_cal C_name (by rfl) HR pass0 (pa_cons (pv 0) pa_nil)) (pa_cons (pe_lst (pa_cons (pe_tup (pa_cons (pe_tup (pa_cons pe_int (pa_cons pe_int pa_nil))) (pa_cons (pe_tup pa_nil) pa_nil))) pa_nil)) pa_nil)))) (pa_cons (pv 2) pa_nil))))) pss_nil)
  (pss_one (ps_ret (pe_tup (pa_cons (pe_tup (pa_cons pe_int (pa_cons (pe_cal C_name (by rfl) HR pass0 (pa_cons (pv 0) pa_nil)) (pa_cons (pe_callTy call_tuple_of (by rfl) B.tuple (by decide +kernel) (pa_cons (pe_lc (own := [("_law_k", 5)]) (g := gName 5) (tt := tYes) rfl scBadBase.nd (pi_range1 (by rfl) B.range (pa_cons (pe_op op_add pe_int (pe_cal C_take (by rfl) HR pass0 (pa_cons (pv 0) (pa_cons pe_int pa_nil)))) pa_nil)) (blkOk_by (own := [("_law_k", 5)]) (N := ["_law_hand_here", "_law_base", "_law_bag", "_law_far", "_law_way", "_law_k"]) (sc := defScope sBadBase) (by decide +kernel)) (fun _ _ _ _ _ => (pg_name (i := 5) scBadBase.nd rfl (Or.inl rfl))) (fun _ _ _ _ _ => pts_nil) (fun _ _ _ _ _ => (pe_tup (pa_cons (pe_tup (pa_cons pe_int (pa_cons pe_int pa_nil))) (pa_cons (pe_tup pa_nil) pa_nil))))) pa_nil)) pa_nil)))) (pa_cons (pv 2) pa_nil))))))))))))))), ?_⟩
    walk_at "go"
    refine ⟨by decide, p, c, _, rfl, by decide, by decide, hp, fun far H1 f0 f1 hp1 b1 => ?_⟩
    refine ⟨p, c, 9, rfl, by decide, by decide, hp1, fun way H2 _ _ hp2 b2 => ?_⟩
    have b12 := b1.trans b2
    have kA := But.kt hp b12
    have ag2 := ag.kt kA
    have fin : ∀ (v1 : V) (nb : Th) (H3 : Hp) (l2 : Addr), HandAt H3 p c → But p H2 H3 → ThAt K H3 v1 nb → nb.isBase = false → nb.sz ≤ b.toTh.sz + 60 → nb.dep ≤ 62 → H3 l2 = none → Q (.ref l2) (upd H3 l2 (.tup [v1, vg])) := fun v1 nb H3 l2 hp3 b3 a1 nf zs dd n2 => by
      have a2 := (ThAt.of (ag2.kt (But.kt hp2 b3))).kl (Kl.new (o := .tup [v1, vg]) n2)
      rw [Tr.th_t] at a2
      refine k (.ref l2) (.t [nb, .t (bag.map Tr.toTh)]) _ (hp3.push n2) (b12.trans (b3.trans (But.new n2))) (.t (SqT.of upd_same) (.cons (a1.kl (Kl.new n2)) (.cons a2 .nil))) (bd_base nf) ?_ ?_
      · rw [Th.sz_t, Th.szs_cons, Th.szs_cons, Th.szs_nil, Th.sz_t]; omega
      · have := Tr.toThs_deps bag
        rw [Tr.toThs_map] at this
        rw [Th.dep_t, Th.deps_cons, Th.deps_cons, Th.deps_nil, Th.dep_t, this]; omega
    walk_at "go"
    rcases gb with ⟨cc, rfl, c0, c2⟩ | ⟨m, ws, rfl, m0, m1, w4⟩
    · obtain ⟨ba, bvs, rfl, hba, abv⟩ := tup_at (ab.kt kA)
      obtain ⟨w1, w2, e, a1, a2⟩ := ats2 abv
      subst e
      rw [int_at a1, int_at a2] at hba
      refine ite2 (fun _ => ?_) (fun _ => ?_)
      · exact ⟨p, c, 3, rfl, by decide, by decide, hp2, fun r H3 r0 r1 hp3 b3 => ⟨by decide, fun p1 n1 => ⟨by decide, fun l2 n2 => fin _ (.t [.i 1, .i r]) _ l2 (hp3.push n1) (b3.trans (But.new n1)) (.t (SqT.of upd_same) (.cons (.i 1) (.cons (.i r) .nil))) (by simp [Th.isBase, Th.isW, Th.isTurn]) (by simp only [Tr.base0_th, Tr.base1_th, Th.sz_t, Th.szs_cons, Th.szs_nil, Th.sz_i, Th.sz_o]; omega) (by simp only [Th.dep_t, Th.deps_cons, Th.deps_nil, Th.dep_i, Th.dep_o] at *; omega) n2⟩⟩⟩
      refine ite2 (fun _ => ?_) (fun _ => ?_)
      · exact ⟨ba, rfl, _, .inr hba, fun l nl => ⟨by decide, fun l2 n2 => fin _ .o _ l2 (hp2.push nl) (But.new nl) (.o (.lst upd_same)) rfl (by simp only [Tr.base0_th, Tr.base1_th, Th.sz_t, Th.szs_cons, Th.szs_nil, Th.sz_i, Th.sz_o]; omega) (by simp only [Th.dep_t, Th.deps_cons, Th.deps_nil, Th.dep_i, Th.dep_o] at *; omega) n2⟩⟩
      refine ite2 (fun _ => ?_) (fun _ => ?_)
      · refine ⟨by decide, fun p1 n1 => ⟨ba, rfl, _, hba.kt (Kt.new n1), fun z => absurd (show (1 : Nat) = 0 from z.1) (by decide), fun _ p2 n2 => ?_⟩⟩
        refine cat_any (xs := [V.int 2]) (ys := [V.int cc]) (SqT.of ((same_new n2) _ _ upd_same)) (SqT.of upd_same) (show _ ≤ 2 ^ 24 by simp) fun p3 H3 s3 h3 => ⟨by decide, fun l2 nl => ?_⟩
        have s13 := ((same_new (o := .tup [V.int 2]) n1).trans (same_new (o := .tup (cutV [V.int 0, V.int cc] (some 1) none)) n2)).trans s3
        exact fin _ (.t (.i 2 :: [.i cc])) _ l2 (hp2.same s13) (But.of s13) (.t h3 (.cons (.i 2) (.cons (.i cc) .nil))) (by simp [Th.isBase, Th.isW, Th.isTurn]) (by simp only [Tr.base0_th, Tr.base1_th, Th.sz_t, Th.szs_cons, Th.szs_nil, Th.sz_i, Th.sz_o]; omega) (by simp only [Th.dep_t, Th.deps_cons, Th.deps_nil, Th.dep_i, Th.dep_o] at *; omega) nl
      refine ite2 (fun _ => ?_) (fun _ => ?_)
      · refine ⟨ba, rfl, _, hba, _, atI_0, ?_⟩
        walk_at "go"
        refine ⟨_, hba, _, atI_0, by decide, fun p1 n1 => ⟨by decide, fun l2 n2 => ?_⟩⟩
        exact fin _ (.t [.i 0, .i (3 + far)]) _ l2 (hp2.push n1) (But.new n1) (.t (SqT.of upd_same) (.cons (.i 0) (.cons (.i _) .nil))) (by simp [Th.isBase, Th.isW]; omega) (by simp only [Tr.base0_th, Tr.base1_th, Th.sz_t, Th.szs_cons, Th.szs_nil, Th.sz_i, Th.sz_o]; omega) (by simp only [Th.dep_t, Th.deps_cons, Th.deps_nil, Th.dep_i, Th.dep_o] at *; omega) n2
      refine ite2 (fun _ => ?_) (fun _ => ?_)
      · refine ⟨ba, rfl, _, hba, _, atI_0, ?_⟩
        walk_at "go"
        refine ⟨by decide, fun p1 n1 => ⟨_, hba.kt (Kt.new n1), fun z => absurd (show (2 : Nat) = 0 from z.1) (by decide), fun _ p2 n2 => ?_⟩⟩
        refine cat_any (xs := [V.int 0, V.int (-1 - far)]) (ys := []) (SqT.of ((same_new n2) _ _ upd_same)) (SqT.of upd_same) (show _ ≤ 2 ^ 24 by simp) fun p3 H9 s9 h9 => ⟨by decide, fun l2 nl => ?_⟩
        have s19 := ((same_new (o := .tup [V.int 0, V.int (-1 - far)]) n1).trans (same_new (o := .tup (cutV [V.int 0, V.int cc] (some 2) none)) n2)).trans s9
        exact fin _ (.t [.i 0, .i (-1 - far)]) _ l2 (hp2.same s19) (But.of s19) (.t h9 (.cons (.i 0) (.cons (.i _) .nil))) (by simp [Th.isBase, Th.isW, Th.isTurn]; omega) (by simp only [Tr.base0_th, Tr.base1_th, Th.sz_t, Th.szs_cons, Th.szs_nil, Th.sz_i, Th.sz_o]; omega) (by simp only [Th.dep_t, Th.deps_cons, Th.deps_nil, Th.dep_i, Th.dep_o] at *; omega) nl
      refine ite2 (fun _ => ?_) (fun _ => ?_)
      · refine ⟨ba, rfl, _, hba, _, atI_0, ?_⟩
        walk_at "go"
        refine ⟨by decide, fun p1 n1 => ⟨_, hba.kt (Kt.new n1), fun z => absurd (show (1 : Nat) = 0 from z.1) (by decide), fun _ p2 n2 => ?_⟩⟩
        refine cat_any (xs := [V.bl (decide ((0 : Int) = 1))]) (ys := [V.int cc]) (SqT.of ((same_new n2) _ _ upd_same)) (SqT.of upd_same) (show _ ≤ 2 ^ 24 by simp) fun p3 H9 s9 h9 => ⟨by decide, fun l2 nl => ?_⟩
        have s19 := ((same_new (o := .tup [V.bl (decide ((0 : Int) = 1))]) n1).trans (same_new (o := .tup (cutV [V.int 0, V.int cc] (some 1) none)) n2)).trans s9
        exact fin _ (.t [.o, .i cc]) _ l2 (hp2.same s19) (But.of s19) (.t h9 (.cons (.o (.bl _)) (.cons (.i cc) .nil))) (by simp [Th.isBase, Th.isW, Th.isTurn]) (by simp only [Tr.base0_th, Tr.base1_th, Th.sz_t, Th.szs_cons, Th.szs_nil, Th.sz_i, Th.sz_o]; omega) (by simp only [Th.dep_t, Th.deps_cons, Th.deps_nil, Th.dep_i, Th.dep_o] at *; omega) nl
      refine ite2 (fun _ => ?_) (fun _ => ?_)
      · refine ⟨ba, rfl, _, hba, _, atI_0, ?_⟩
        walk_at "go"
        refine ⟨p, c, 2, rfl, by decide, by decide, hp2, fun r H3 r0 r1 hp3 b3 => ?_⟩
        show rEq (.int r) (.int 1) H3 _
        rw [rEq_int]
        refine ⟨by decide, fun p1 n1 => ⟨_, hba.kt ((But.kt hp2 b3).trans (Kt.new n1)), fun z => absurd (show (2 : Nat) = 0 from z.1) (by decide), fun _ p2 n2 => ?_⟩⟩
        refine cat_any (xs := [V.int 0, V.bl (decide (r = 1))]) (ys := []) (SqT.of ((same_new n2) _ _ upd_same)) (SqT.of upd_same) (show _ ≤ 2 ^ 24 by simp) fun p3 H9 s9 h9 => ⟨by decide, fun l2 nl => ?_⟩
        have s19 := ((same_new (o := .tup [V.int 0, V.bl (decide (r = 1))]) n1).trans (same_new (o := .tup (cutV [V.int 0, V.int cc] (some 2) none)) n2)).trans s9
        exact fin _ (.t [.i 0, .o]) _ l2 (hp3.same s19) (b3.trans (But.of s19)) (.t h9 (.cons (.i 0) (.cons (.o (.bl _)) .nil))) (by simp [Th.isBase, Th.isW, Th.isTurn]) (by simp only [Tr.base0_th, Tr.base1_th, Th.sz_t, Th.szs_cons, Th.szs_nil, Th.sz_i, Th.sz_o]; omega) (by simp only [Th.dep_t, Th.deps_cons, Th.deps_nil, Th.dep_i, Th.dep_o] at *; omega) nl
      refine ite2 (fun _ => ?_) (fun _ => ?_)
      · exact ⟨p, c, rfl, hp2, fun nm H3 r0 r1 hp3 b3 => ⟨by decide, fun p1 n1 => ⟨by decide, fun p2 n2 => ⟨by decide, fun p3 n3 => ⟨by decide, fun p4 n4 => ⟨by decide, fun p5 n5 => ⟨by decide, fun l2 nl =>
          fin _ (.t [.i 1, .i nm, .o]) _ l2 (((((hp3.push n1).push n2).push n3).push n4).push n5) (b3.trans ((((But.new n1).trans (But.new n2)).trans (But.new n3)).trans ((But.new n4).trans (But.new n5)))) (.t (SqT.of upd_same) (.cons (.i 1) (.cons (.i nm) (.cons (.o (.lst ((same_new n5) _ _ upd_same))) .nil)))) (by simp [Th.isBase, Th.isW, Th.isTurn]) (by simp only [Tr.base0_th, Tr.base1_th, Th.sz_t, Th.szs_cons, Th.szs_nil, Th.sz_i, Th.sz_o]; omega) (by simp only [Th.dep_t, Th.deps_cons, Th.deps_nil, Th.dep_i, Th.dep_o] at *; omega) nl⟩⟩⟩⟩⟩⟩⟩
      · refine ⟨p, c, rfl, hp2, fun nm H3 m0 m1 hp3 b3 => ⟨p, c, 3, rfl, by decide, by decide, hp3, fun r H4 r0 r1 hp4 b4 => ⟨r, rfl, by omega, by omega, ?_⟩⟩⟩
        refine fives (K := K) (by omega : (5 + r).toNat ≤ 8) fun D H5 nD s5 ⟨dvs, eD, aD⟩ => ⟨D, rfl, dvs, .inl ⟨SqL.of eD, fun l nl => ⟨by decide, fun p1 n1 => ⟨by decide, fun l2 n2 => ?_⟩⟩⟩⟩
        have s6 := (s5.trans (same_new (o := .tup dvs) nl)).trans (same_new (o := .tup [.int 1, .int nm, .ref l]) n1)
        have ad := ThAts.of (aD.kt ((Kt.new (o := .tup dvs) nl).trans (Kt.new (o := .tup [.int 1, .int nm, .ref l]) n1)))
        refine fin _ (.t [.i 1, .i nm, .t ((List.replicate (5 + r).toNat zz).map Tr.toTh)]) _ l2 (hp4.same s6) (b3.trans (b4.trans (But.of s6))) (.t (SqT.of upd_same) (.cons (.i 1) (.cons (.i nm) (.cons (.t (SqT.of ((same_new n1) _ _ upd_same)) ad) .nil)))) ?_ ?_ ?_ n2
        · have : ¬ (5 + r).toNat ≤ 4 := by omega
          simp [Th.isBase, Th.isW, Th.isTurn, this]
        · have := zz_sz (by omega : (5 + r).toNat ≤ 8)
          simp only [Tr.base0_th, Tr.base1_th, Th.sz_t, Th.szs_cons, Th.szs_nil, Th.sz_i, Th.sz_o]; omega
        · have := zz_dep (n := (5 + r).toNat)
          simp only [Th.dep_t, Th.deps_cons, Th.deps_nil, Th.dep_i, Th.dep_o]; omega
    · obtain ⟨ba, bvs, rfl, hba, abv⟩ := tup_at (ab.kt kA)
      obtain ⟨w1, w2, w3, e, a1, a2, a3'⟩ := ats3 abv
      subst e
      rw [int_at a1, int_at a2] at hba
      have a3 : ∀ H', Kl H2 H' → ThAt K H' w3 (.t (ws.map Tr.toTh)) := fun H' kk => by
        have := (ThAt.of a3').kl kk
        rw [Tr.th_t] at this
        exact this
      have d3 : Th.deps (ws.map Tr.toTh) ≤ 58 := by
        have := Tr.toThs_deps ws
        rw [Tr.toThs_map] at this
        rw [this]
        unfold Tr.base1 at d1
        simp only [Tr.dep_t, Tr.deps_cons, Tr.deps_nil, Tr.dep_i] at d1
        omega
      refine ite2 (fun _ => ?_) (fun _ => ?_)
      · exact ⟨p, c, 3, rfl, by decide, by decide, hp2, fun r H3 r0 r1 hp3 b3 => ⟨by decide, fun p1 n1 => ⟨by decide, fun l2 n2 => fin _ (.t [.i 1, .i r]) _ l2 (hp3.push n1) (b3.trans (But.new n1)) (.t (SqT.of upd_same) (.cons (.i 1) (.cons (.i r) .nil))) (by simp [Th.isBase, Th.isW, Th.isTurn]) (by simp only [Tr.base0_th, Tr.base1_th, Th.sz_t, Th.szs_cons, Th.szs_nil, Th.sz_i, Th.sz_o]; omega) (by simp only [Th.dep_t, Th.deps_cons, Th.deps_nil, Th.dep_i, Th.dep_o] at *; omega) n2⟩⟩⟩
      refine ite2 (fun _ => ?_) (fun _ => ?_)
      · exact ⟨ba, rfl, _, .inr hba, fun l nl => ⟨by decide, fun l2 n2 => fin _ .o _ l2 (hp2.push nl) (But.new nl) (.o (.lst upd_same)) rfl (by simp only [Tr.base0_th, Tr.base1_th, Th.sz_t, Th.szs_cons, Th.szs_nil, Th.sz_i, Th.sz_o]; omega) (by simp only [Th.dep_t, Th.deps_cons, Th.deps_nil, Th.dep_i, Th.dep_o] at *; omega) n2⟩⟩
      refine ite2 (fun _ => ?_) (fun _ => ?_)
      · refine ⟨by decide, fun p1 n1 => ⟨ba, rfl, _, hba.kt (Kt.new n1), fun z => absurd (show (1 : Nat) = 0 from z.1) (by decide), fun _ p2 n2 => ?_⟩⟩
        refine cat_any (xs := [V.int 2]) (ys := [V.int m, w3]) (SqT.of ((same_new n2) _ _ upd_same)) (SqT.of upd_same) (show _ ≤ 2 ^ 24 by simp) fun p3 H3 s3 h3 => ⟨by decide, fun l2 nl => ?_⟩
        have s13 := ((same_new (o := .tup [V.int 2]) n1).trans (same_new (o := .tup (cutV [V.int 1, V.int m, w3] (some 1) none)) n2)).trans s3
        exact fin _ (.t (.i 2 :: [.i m, .t (ws.map Tr.toTh)])) _ l2 (hp2.same s13) (But.of s13) (.t h3 (.cons (.i 2) (.cons (.i m) (.cons (a3 _ (Kl.same s13)) .nil)))) (by simp [Th.isBase, Th.isW, Th.isTurn]) (by simp only [Tr.base0_th, Tr.base1_th, Th.sz_t, Th.szs_cons, Th.szs_nil, Th.sz_i, Th.sz_o]; omega) (by simp only [Th.dep_t, Th.deps_cons, Th.deps_nil, Th.dep_i, Th.dep_o] at *; omega) nl
      refine ite2 (fun _ => ?_) (fun _ => ?_)
      · refine ⟨ba, rfl, _, hba, _, atI_0, ?_⟩
        walk_at "go"
        refine ⟨_, hba, _, atI_2, by decide, fun p1 n1 => ⟨by decide, fun l2 n2 => ?_⟩⟩
        exact fin _ (.t [.i 1, .i (100 + far), .t (ws.map Tr.toTh)]) _ l2 (hp2.push n1) (But.new n1) (.t (SqT.of upd_same) (.cons (.i 1) (.cons (.i _) (.cons (a3 _ (Kl.new n1)) .nil)))) (by simp [Th.isBase, Th.isW, Th.isTurn]; omega) (by simp only [Tr.base0_th, Tr.base1_th, Th.sz_t, Th.szs_cons, Th.szs_nil, Th.sz_i, Th.sz_o]; omega) (by simp only [Th.dep_t, Th.deps_cons, Th.deps_nil, Th.dep_i, Th.dep_o] at *; omega) n2
      refine ite2 (fun _ => ?_) (fun _ => ?_)
      · refine ⟨ba, rfl, _, hba, _, atI_0, ?_⟩
        walk_at "go"
        refine ⟨by decide, fun p1 n1 => ⟨_, hba.kt (Kt.new n1), fun z => absurd (show (2 : Nat) = 0 from z.1) (by decide), fun _ p2 n2 => ?_⟩⟩
        refine cat_any (xs := [V.int 1, V.int (-1 - far)]) (ys := [w3]) (SqT.of ((same_new n2) _ _ upd_same)) (SqT.of upd_same) (show _ ≤ 2 ^ 24 by simp) fun p3 H9 s9 h9 => ⟨by decide, fun l2 nl => ?_⟩
        have s19 := ((same_new (o := .tup [V.int 1, V.int (-1 - far)]) n1).trans (same_new (o := .tup (cutV [V.int 1, V.int m, w3] (some 2) none)) n2)).trans s9
        exact fin _ (.t [.i 1, .i (-1 - far), .t (ws.map Tr.toTh)]) _ l2 (hp2.same s19) (But.of s19) (.t h9 (.cons (.i 1) (.cons (.i _) (.cons (a3 _ (Kl.same s19)) .nil)))) (by simp [Th.isBase, Th.isW, Th.isTurn]; omega) (by simp only [Tr.base0_th, Tr.base1_th, Th.sz_t, Th.szs_cons, Th.szs_nil, Th.sz_i, Th.sz_o]; omega) (by simp only [Th.dep_t, Th.deps_cons, Th.deps_nil, Th.dep_i, Th.dep_o] at *; omega) nl
      refine ite2 (fun _ => ?_) (fun _ => ?_)
      · refine ⟨ba, rfl, _, hba, _, atI_0, ?_⟩
        walk_at "go"
        refine ⟨by decide, fun p1 n1 => ⟨_, hba.kt (Kt.new n1), fun z => absurd (show (1 : Nat) = 0 from z.1) (by decide), fun _ p2 n2 => ?_⟩⟩
        refine cat_any (xs := [V.bl (decide ((1 : Int) = 1))]) (ys := [V.int m, w3]) (SqT.of ((same_new n2) _ _ upd_same)) (SqT.of upd_same) (show _ ≤ 2 ^ 24 by simp) fun p3 H9 s9 h9 => ⟨by decide, fun l2 nl => ?_⟩
        have s19 := ((same_new (o := .tup [V.bl (decide ((1 : Int) = 1))]) n1).trans (same_new (o := .tup (cutV [V.int 1, V.int m, w3] (some 1) none)) n2)).trans s9
        exact fin _ (.t [.o, .i m, .t (ws.map Tr.toTh)]) _ l2 (hp2.same s19) (But.of s19) (.t h9 (.cons (.o (.bl _)) (.cons (.i m) (.cons (a3 _ (Kl.same s19)) .nil)))) (by simp [Th.isBase, Th.isW, Th.isTurn]) (by simp only [Tr.base0_th, Tr.base1_th, Th.sz_t, Th.szs_cons, Th.szs_nil, Th.sz_i, Th.sz_o]; omega) (by simp only [Th.dep_t, Th.deps_cons, Th.deps_nil, Th.dep_i, Th.dep_o] at *; omega) nl
      refine ite2 (fun _ => ?_) (fun _ => ?_)
      · refine ⟨ba, rfl, _, hba, _, atI_0, ?_⟩
        walk_at "go"
        refine ⟨p, c, 2, rfl, by decide, by decide, hp2, fun r H3 r0 r1 hp3 b3 => ?_⟩
        show rEq (.int r) (.int 1) H3 _
        rw [rEq_int]
        refine ⟨by decide, fun p1 n1 => ⟨_, hba.kt ((But.kt hp2 b3).trans (Kt.new n1)), fun z => absurd (show (2 : Nat) = 0 from z.1) (by decide), fun _ p2 n2 => ?_⟩⟩
        refine cat_any (xs := [V.int 1, V.bl (decide (r = 1))]) (ys := [w3]) (SqT.of ((same_new n2) _ _ upd_same)) (SqT.of upd_same) (show _ ≤ 2 ^ 24 by simp) fun p3 H9 s9 h9 => ⟨by decide, fun l2 nl => ?_⟩
        have s19 := ((same_new (o := .tup [V.int 1, V.bl (decide (r = 1))]) n1).trans (same_new (o := .tup (cutV [V.int 1, V.int m, w3] (some 2) none)) n2)).trans s9
        exact fin _ (.t [.i 1, .o, .t (ws.map Tr.toTh)]) _ l2 (hp3.same s19) (b3.trans (But.of s19)) (.t h9 (.cons (.i 1) (.cons (.o (.bl _)) (.cons (a3 _ ((But.kl hp2 hp3 b3).trans (Kl.same s19))) .nil)))) (by simp [Th.isBase, Th.isW, Th.isTurn]) (by simp only [Tr.base0_th, Tr.base1_th, Th.sz_t, Th.szs_cons, Th.szs_nil, Th.sz_i, Th.sz_o]; omega) (by simp only [Th.dep_t, Th.deps_cons, Th.deps_nil, Th.dep_i, Th.dep_o] at *; omega) nl
      refine ite2 (fun _ => ?_) (fun _ => ?_)
      · exact ⟨p, c, rfl, hp2, fun nm H3 r0 r1 hp3 b3 => ⟨by decide, fun p1 n1 => ⟨by decide, fun p2 n2 => ⟨by decide, fun p3 n3 => ⟨by decide, fun p4 n4 => ⟨by decide, fun p5 n5 => ⟨by decide, fun l2 nl =>
          fin _ (.t [.i 1, .i nm, .o]) _ l2 (((((hp3.push n1).push n2).push n3).push n4).push n5) (b3.trans ((((But.new n1).trans (But.new n2)).trans (But.new n3)).trans ((But.new n4).trans (But.new n5)))) (.t (SqT.of upd_same) (.cons (.i 1) (.cons (.i nm) (.cons (.o (.lst ((same_new n5) _ _ upd_same))) .nil)))) (by simp [Th.isBase, Th.isW, Th.isTurn]) (by simp only [Tr.base0_th, Tr.base1_th, Th.sz_t, Th.szs_cons, Th.szs_nil, Th.sz_i, Th.sz_o]; omega) (by simp only [Th.dep_t, Th.deps_cons, Th.deps_nil, Th.dep_i, Th.dep_o] at *; omega) nl⟩⟩⟩⟩⟩⟩⟩
      · refine ⟨p, c, rfl, hp2, fun nm H3 m0 m1 hp3 b3 => ⟨p, c, 3, rfl, by decide, by decide, hp3, fun r H4 r0 r1 hp4 b4 => ⟨r, rfl, by omega, by omega, ?_⟩⟩⟩
        refine fives (K := K) (by omega : (5 + r).toNat ≤ 8) fun D H5 nD s5 ⟨dvs, eD, aD⟩ => ⟨D, rfl, dvs, .inl ⟨SqL.of eD, fun l nl => ⟨by decide, fun p1 n1 => ⟨by decide, fun l2 n2 => ?_⟩⟩⟩⟩
        have s6 := (s5.trans (same_new (o := .tup dvs) nl)).trans (same_new (o := .tup [.int 1, .int nm, .ref l]) n1)
        have ad := ThAts.of (aD.kt ((Kt.new (o := .tup dvs) nl).trans (Kt.new (o := .tup [.int 1, .int nm, .ref l]) n1)))
        refine fin _ (.t [.i 1, .i nm, .t ((List.replicate (5 + r).toNat zz).map Tr.toTh)]) _ l2 (hp4.same s6) (b3.trans (b4.trans (But.of s6))) (.t (SqT.of upd_same) (.cons (.i 1) (.cons (.i nm) (.cons (.t (SqT.of ((same_new n1) _ _ upd_same)) ad) .nil)))) ?_ ?_ ?_ n2
        · have : ¬ (5 + r).toNat ≤ 4 := by omega
          simp [Th.isBase, Th.isW, Th.isTurn, this]
        · have := zz_sz (by omega : (5 + r).toNat ≤ 8)
          simp only [Tr.base0_th, Tr.base1_th, Th.sz_t, Th.szs_cons, Th.szs_nil, Th.sz_i, Th.sz_o]; omega
        · have := zz_dep (n := (5 + r).toNat)
          simp only [Th.dep_t, Th.deps_cons, Th.deps_nil, Th.dep_i, Th.dep_o]; omega
end


set_option Elab.async false
set_option linter.all false
set_option maxRecDepth 100000
set_option maxHeartbeats 4000000
open PySem L2 StX


theorem mem_zip_tail {x y : Th} : ∀ g : List Th, (x, y) ∈ (g ++ [x, y]).zip (g ++ [x, y]).tail
  | [] => by simp
  | [a] => by simp
  | a :: c :: g => by
    have := mem_zip_tail (x := x) (y := y) (c :: g)
    simp only [List.cons_append, List.tail_cons, List.zip_cons_cons] at *
    exact List.mem_cons_of_mem _ this
theorem asc_bad {x y : Th} (h : PySem.W.dataLt y.toD x.toD = true) (g : List Th) : Th.ascB (g ++ [x, y]) = false := by
  cases e : Th.ascB (g ++ [x, y]) with
  | false => rfl
  | true =>
    have := List.all_eq_true.mp e _ (mem_zip_tail g)
    rw [h] at this
    cases this
theorem deps_app {g e : List Th} {n : Nat} (h : Th.deps g ≤ n) (k : Th.deps e ≤ n) : Th.deps (g ++ e) ≤ n := Th.deps_le fun x m => (List.mem_append.mp m).elim (fun m => Nat.le_trans (Th.dep_le m) h) fun m => Nat.le_trans (Th.dep_le m) k
section
variable {P : Program} {w : World} {K : PySem.W.Frag} {mg : Str → Option Value} {base : Heap}
theorem scBadBag : FnScope ["_law_hand_here", "_law_base", "_law_bag", "_law_far", "_law_way", "_law_k"] ["_law_hand_here", "_law_base", "_law_bag"] (defScope sBadBag) := ⟨rfl, rfl, rfl, by decide +kernel, rfl, by decide +kernel, by decide +kernel⟩
theorem ok_badBag (D : DefAt K mg "_law_bad_bag" sBadBag) (B : Bt mg) (C_take : Cal P w K mg base CX0 161 "_law_take" ["_law_hand_here", "_law_many"] spTake) :
    Cal P w K mg base CX0 162 "_law_bad_bag" ["_law_hand_here", "_law_base", "_law_bag"] (spBad K) := by
  refine D.cal (fun _ _ _ _ _ _ us hl => match us, hl with | [_, _, _], _ => rfl) fun f fd F => ?_
  refine F.ok scBadBag (fun vs H Q E h => ?_) (fun cdv A outer s H vs Q E HR h => ?_)
  · obtain ⟨p, c, vb, vg, b, bag, rfl, _⟩ := h
    rfl
  · obtain ⟨p, c, vb, vg, b, bag, rfl, hp, ab, ag, gb, g7, gt, hz, d1, d2, k⟩ := h
    refine ⟨_, (pss_cons (ps_set (i := 3) scBadBag.nd rfl (Or.inl rfl) (pe_cal C_take (by rfl) HR pass0 (pa_cons (pv 0) (pa_cons (pe_op op_pow pe_int pe_int) pa_nil))))
  (pss_cons (ps_set (i := 4) scBadBag.nd rfl (Or.inl rfl) (pe_cal C_take (by rfl) HR pass0 (pa_cons (pv 0) (pa_cons pe_int pa_nil))))
  (pss_cons (ps_if (pt_cmpR op_eq (pv 4) pe_int (nomark _)) (pss_one (ps_ret (pe_tup (pa_cons (pv 1) (pa_cons (pe_tup (pa_cons (pe_tup (pa_cons (pe_cmpR op_eq (pe_cal C_take (by rfl) HR pass0 (pa_cons (pv 0) (pa_cons pe_int pa_nil))) pe_int (nomark _)) (pa_cons (pe_tup pa_nil) pa_nil))) pa_nil)) pa_nil))))) pss_nil)
  (pss_cons (ps_if (pt_cmpR op_eq (pv 4) pe_int (nomark _)) (pss_one (ps_ret (pe_tup (pa_cons (pv 1) (pa_cons (pe_tup (pa_cons (pe_tup (pa_cons pe_int (pa_cons (pe_callTy call_tuple_of (by rfl) B.tuple (by decide +kernel) (pa_cons (pe_lc (own := [("_law_k", 5)]) (g := gName 5) (tt := tYes) rfl scBadBag.nd (pi_range1 (by rfl) B.range (pa_cons (pe_op op_add pe_int (pe_cal C_take (by rfl) HR pass0 (pa_cons (pv 0) (pa_cons pe_int pa_nil)))) pa_nil)) (blkOk_by (own := [("_law_k", 5)]) (N := ["_law_hand_here", "_law_base", "_law_bag", "_law_far", "_law_way", "_law_k"]) (sc := defScope sBadBag) (by decide +kernel)) (fun _ _ _ _ _ => (pg_name (i := 5) scBadBag.nd rfl (Or.inl rfl))) (fun _ _ _ _ _ => pts_nil) (fun _ _ _ _ _ => (pe_tup (pa_cons (pe_tup (pa_cons pe_int (pa_cons pe_int pa_nil))) (pa_cons (pe_tup pa_nil) pa_nil))))) pa_nil)) pa_nil))) pa_nil)) pa_nil))))) pss_nil)
  (pss_cons (ps_if (pt_cmpR op_eq (pv 4) pe_int (nomark _)) (pss_one (ps_ret (pe_tup (pa_cons (pv 1) (pa_cons (pe_callTy call_list_of (by rfl) B.list (by decide +kernel) (pa_cons (pv 2) pa_nil)) pa_nil))))) pss_nil)
  (pss_cons (ps_if (pt_cmpR op_eq (pv 4) pe_int (nomark _)) (pss_one (ps_ret (pe_tup (pa_cons (pv 1) (pa_cons (pe_op op_catA (pv 2) (pe_tup (pa_cons (pe_tup (pa_cons pe_int (pa_cons (pe_tup pa_nil) pa_nil))) (pa_cons (pe_tup (pa_cons pe_int (pa_cons (pe_tup pa_nil) pa_nil))) pa_nil)))) pa_nil))))) pss_nil)
  (pss_cons (ps_if (pt_cmpR op_eq (pv 4) pe_int (nomark _)) (pss_one (ps_ret (pe_tup (pa_cons (pv 1) (pa_cons (pe_op op_catA (pv 2) (pe_tup (pa_cons (pe_tup (pa_cons pe_int (pa_cons (pe_tup pa_nil) (pa_cons pe_int pa_nil)))) pa_nil))) pa_nil))))) pss_nil)
  (pss_cons (ps_if (pt_cmpR op_eq (pv 4) pe_int (nomark _)) (pss_one (ps_ret (pe_tup (pa_cons (pv 1) (pa_cons (pe_op op_catA (pv 2) (pe_tup (pa_cons (pe_lst (pa_cons pe_int (pa_cons (pe_tup pa_nil) pa_nil))) pa_nil))) pa_nil))))) pss_nil)
  (pss_cons (ps_if (pt_cmpR op_eq (pv 4) pe_int (nomark _)) (pss_one (ps_ret (pe_tup (pa_cons (pv 1) (pa_cons (pe_op op_catA (pv 2) (pe_tup (pa_cons (pe_tup (pa_cons (pe_op op_add pe_int (pv 3)) (pa_cons (pe_tup pa_nil) pa_nil))) pa_nil))) pa_nil))))) pss_nil)
  (pss_cons (ps_if (pt_cmpR op_eq (pv 4) pe_int (nomark _)) (pss_one (ps_ret (pe_tup (pa_cons (pv 1) (pa_cons (pe_op op_catA (pe_tup (pa_cons (pe_tup (pa_cons (pe_op op_sub (pe_un un_neg pe_int) (pv 3)) (pa_cons (pe_tup pa_nil) pa_nil))) pa_nil)) (pv 2)) pa_nil))))) pss_nil)
  (pss_one (ps_ret (pe_tup (pa_cons (pv 1) (pa_cons (pe_op op_catA (pv 2) (pe_tup (pa_cons (pe_tup (pa_cons pe_int (pa_cons (pe_lst (pa_cons (pe_tup (pa_cons (pe_tup (pa_cons pe_int (pa_cons pe_int pa_nil))) (pa_cons (pe_tup pa_nil) pa_nil))) pa_nil)) pa_nil))) pa_nil))) pa_nil))))))))))))))), ?_⟩
    walk_at "go"
    refine ⟨by decide, p, c, _, rfl, by decide, by decide, hp, fun far H1 f0 f1 hp1 b1 => ?_⟩
    refine ⟨p, c, 9, rfl, by decide, by decide, hp1, fun way H2 _ _ hp2 b2 => ?_⟩
    have b12 := b1.trans b2
    have kA := But.kt hp b12
    have ab2 := ab.kt kA
    obtain ⟨ga, gvs, rfl, hga, agv⟩ := tup_at (ag.kt kA)
    have dg : Th.deps (bag.map Tr.toTh) ≤ 60 := by
      have := Tr.toThs_deps bag
      rw [Tr.toThs_map] at this
      rw [this]; exact d2
    have gl : gvs.length ≤ 7 := by rw [agv.length]; exact g7
    have agh : ∀ {H3 : Hp}, Kt H2 H3 → ThAts K H3 gvs (bag.map Tr.toTh) := fun kk => ThAts.of (agv.kt kk)
    have fin : ∀ (gv : V) (gx : Th) (H3 : Hp) (l2 : Addr), HandAt H3 p c → But p H2 H3 → ThAt K H3 gv gx → Bd (.t [b.toTh, gx]) → gx.sz ≤ Th.szs (bag.map Tr.toTh) + 80 → gx.dep ≤ 63 → H3 l2 = none → Q (.ref l2) (upd H3 l2 (.tup [vb, gv])) := fun gv gx H3 l2 hp3 b3 a1 bd zs dd n2 => by
      have a2 := (ThAt.of (ab2.kt (But.kt hp2 b3))).kl (Kl.new (o := .tup [vb, gv]) n2)
      refine k (.ref l2) (.t [b.toTh, gx]) _ (hp3.push n2) (b12.trans (b3.trans (But.new n2))) (.t (SqT.of upd_same) (.cons a2 (.cons (a1.kl (Kl.new n2)) .nil))) bd ?_ ?_
      · rw [Th.sz_t, Th.szs_cons, Th.szs_cons, Th.szs_nil]; omega
      · rw [Th.dep_t, Th.deps_cons, Th.deps_cons, Th.deps_nil, Tr.toTh_dep]; omega
    have one : ∀ (tv : V) (tx : Th) (H3 : Hp) (l1 l2 : Addr), HandAt H3 p c → But p H2 H3 → ThAt K H3 tv tx → tx.isTurn = false → tx.sz ≤ 70 → tx.dep ≤ 60 → H3 l1 = none → upd H3 l1 (.tup [tv]) l2 = none → Q (.ref l2) (upd (upd H3 l1 (.tup [tv])) l2 (.tup [vb, .ref l1])) := fun tv tx H3 l1 l2 hp3 b3 a1 nf zs dd n1 n2 =>
      fin (.ref l1) (.t [tx]) _ l2 (hp3.push n1) (b3.trans (But.new n1)) (.t (SqT.of upd_same) (.cons (a1.kl (Kl.new n1)) .nil)) (bd_turn nf List.mem_cons_self) (by rw [Th.sz_t, Th.szs_cons, Th.szs_nil]; omega) (by rw [Th.dep_t, Th.deps_cons, Th.deps_nil]; omega) n2
    have more : ∀ (ta : Addr) (tv : V) (tx : Th) (H3 : Hp), HandAt H3 p c → But p H2 H3 → SqT K H3 ta [tv] → ThAt K H3 tv tx → tx.isTurn = false → tx.sz ≤ 70 → tx.dep ≤ 60 → rCatA K (.ref ga) (.ref ta) H3 fun x H4 => 2 ≤ sizeLine ∧ ∀ l2, H4 l2 = none → Q (.ref l2) (upd H4 l2 (.tup [vb, x])) := fun ta tv tx H3 hp3 b3 ht a1 nf zs dd =>
      cat_any (hga.kt (But.kt hp2 b3)) ht (show _ ≤ 2 ^ 24 by simp only [List.length_cons, List.length_nil]; omega) fun p3 H4 s4 h4 => ⟨by decide, fun l2 n2 =>
        fin (.ref p3) (.t (bag.map Tr.toTh ++ [tx])) H4 l2 (hp3.same s4) (b3.trans (But.of s4)) (.t h4 (((agh (But.kt hp2 b3)).append (.cons a1 .nil)).kl (Kl.same s4))) (bd_turn nf (List.mem_append_right _ (List.mem_singleton.mpr rfl))) (by rw [Th.sz_t, Th.szs_append, Th.szs_cons, Th.szs_nil]; omega) (by rw [Th.dep_t]; exact Nat.succ_le_succ (deps_app (Nat.le_trans dg (by omega : 60 ≤ 62)) (by rw [Th.deps_cons, Th.deps_nil]; omega))) n2⟩
    walk_at "go"
    refine ite2 (fun _ => ?_) (fun _ => ?_)
    · refine ⟨p, c, 2, rfl, by decide, by decide, hp2, fun r H3 r0 r1 hp3 b3 => ?_⟩
      show rEq (.int r) (.int 1) H3 _
      rw [rEq_int]
      refine ⟨by decide, fun p1 n1 => ⟨by decide, fun p2 n2 => ⟨by decide, fun p3 n3 => ⟨by decide, fun l2 n4 => ?_⟩⟩⟩⟩
      have s12 := (same_new (o := .tup []) n1).trans (same_new (o := .tup [.bl (decide (r = 1)), .ref p1]) n2)
      exact one (.ref p2) (.t [.o, .t []]) _ p3 l2 (hp3.same s12) (b3.trans (But.of s12)) (.t (SqT.of upd_same) (.cons (.o (.bl _)) (.cons (.t (SqT.of ((same_new n2) _ _ upd_same)) .nil) .nil))) (by simp [Th.isTurn, Th.isW]) (by simp only [Th.sz_t, Th.szs_cons, Th.szs_nil, Th.sz_i, Th.sz_o]; omega) (by simp only [Th.dep_t, Th.deps_cons, Th.deps_nil, Th.dep_i, Th.dep_o]; omega) n3 n4
    refine ite2 (fun _ => ?_) (fun _ => ?_)
    · refine ⟨p, c, 3, rfl, by decide, by decide, hp2, fun r H4 r0 r1 hp4 b4 => ⟨r, rfl, by omega, by omega, ?_⟩⟩
      refine fives (K := K) (by omega : (5 + r).toNat ≤ 8) fun D H5 nD s5 ⟨dvs, eD, aD⟩ => ⟨D, rfl, dvs, .inl ⟨SqL.of eD, fun l nl => ⟨by decide, fun p1 n1 => ⟨by decide, fun p2 n2 => ⟨by decide, fun l2 n3 => ?_⟩⟩⟩⟩⟩
      have s6 := (s5.trans (same_new (o := .tup dvs) nl)).trans (same_new (o := .tup [.int 99, .ref l]) n1)
      have ad := ThAts.of (aD.kt ((Kt.new (o := .tup dvs) nl).trans (Kt.new (o := .tup [.int 99, .ref l]) n1)))
      have e1 := zz_sz (by omega : (5 + r).toNat ≤ 8)
      have e2 := zz_dep (n := (5 + r).toNat)
      have e3 : ¬ (5 + r).toNat ≤ 4 := by omega
      exact one (.ref p1) (.t [.i 99, .t ((List.replicate (5 + r).toNat zz).map Tr.toTh)]) _ p2 l2 (hp4.same s6) (b4.trans (But.of s6)) (.t (SqT.of upd_same) (.cons (.i 99) (.cons (.t (SqT.of ((same_new n1) _ _ upd_same)) ad) .nil))) (by simp [Th.isTurn, Th.isW, e3]) (by simp only [Th.sz_t, Th.szs_cons, Th.szs_nil, Th.sz_i, Th.sz_o]; omega) (by simp only [Th.dep_t, Th.deps_cons, Th.deps_nil, Th.dep_i, Th.dep_o]; omega) n2 n3
    refine ite2 (fun _ => ?_) (fun _ => ?_)
    · exact ⟨gvs, .inr hga, fun l nl => ⟨by decide, fun l2 n2 => fin (.ref l) .o _ l2 (hp2.push nl) (But.new nl) (.o (.lst upd_same)) (bd_form rfl) (by rw [Th.sz_o]; omega) (by rw [Th.dep_o]; omega) n2⟩⟩
    refine ite2 (fun _ => ?_) (fun _ => ?_)
    · refine ⟨by decide, fun p1 n1 => ⟨by decide, fun p2 n2 => ⟨by decide, fun p3 n3 => ⟨by decide, fun p4 n4 => ⟨by decide, fun p5 n5 => ?_⟩⟩⟩⟩⟩
      have s12 := (same_new (o := .tup []) n1).trans (same_new (o := .tup [.int 99, .ref p1]) n2)
      have s345 := ((same_new (o := .tup []) n3).trans (same_new (o := .tup [.int 98, .ref p3]) n4)).trans (same_new (o := .tup [.ref p2, .ref p4]) n5)
      have s15 := s12.trans s345
      have x1 := s345 _ _ (upd_same (H := upd H2 p1 (.tup [])) (a := p2) (o := .tup [.int 99, .ref p1]))
      have x0 := ((same_new (o := .tup [.int 99, .ref p1]) n2).trans s345) _ _ (upd_same (H := H2) (a := p1) (o := .tup []))
      have x4 := (same_new (o := .tup [.ref p2, .ref p4]) n5) _ _ upd_same
      have x3 := ((same_new (o := .tup [.int 98, .ref p3]) n4).trans (same_new (o := .tup [.ref p2, .ref p4]) n5)) _ _ upd_same
      refine cat_any (hga.kt (Kt.same s15)) (SqT.of upd_same) (show _ ≤ 2 ^ 24 by simp only [List.length_cons, List.length_nil]; omega) fun p6 H4 s4 h4 => ⟨by decide, fun l2 n6 => ?_⟩
      have kk := Kl.same s4
      refine fin (.ref p6) (.t (bag.map Tr.toTh ++ [.t [.i 99, .t []], .t [.i 98, .t []]])) H4 l2 (hp2.same (s15.trans s4)) (But.of (s15.trans s4)) (.t h4 ((agh (Kt.same (s15.trans s4))).append ((ThAts.cons (.t (SqT.of x1) (.cons (.i 99) (.cons (.t (SqT.of x0) .nil) .nil))) (.cons (.t (SqT.of x4) (.cons (.i 98) (.cons (.t (SqT.of x3) .nil) .nil))) .nil)).kl kk))) (bd_asc (asc_bad (by decide +kernel) _)) ?_ ?_ n6
      · simp only [Th.szs_append, Th.sz_t, Th.szs_cons, Th.szs_nil, Th.sz_i]; omega
      · rw [Th.dep_t]
        exact Nat.succ_le_succ (deps_app (Nat.le_trans dg (by omega : 60 ≤ 62)) (by simp only [Th.dep_t, Th.deps_cons, Th.deps_nil, Th.dep_i]; omega))
    refine ite2 (fun _ => ?_) (fun _ => ?_)
    · refine ⟨by decide, fun p1 n1 => ⟨by decide, fun p2 n2 => ⟨by decide, fun p3 n3 => ?_⟩⟩⟩
      have s12 := (same_new (o := .tup []) n1).trans (same_new (o := .tup [.int 99, .ref p1, .int 0]) n2)
      have s13 := s12.trans (same_new (o := .tup [.ref p2]) n3)
      refine more p3 (.ref p2) (.t [.i 99, .t [], .i 0]) _ (hp2.same s13) (But.of s13) (SqT.of upd_same) ?_ (by simp [Th.isTurn]) (by simp only [Th.sz_t, Th.szs_cons, Th.szs_nil, Th.sz_i, Th.sz_o]; omega) (by simp only [Th.dep_t, Th.deps_cons, Th.deps_nil, Th.dep_i, Th.dep_o]; omega)
      exact .t (SqT.of ((same_new n3) _ _ upd_same)) (.cons (.i _) (.cons (.t (SqT.of (((same_new n2).trans (same_new n3)) _ _ upd_same)) .nil) (.cons (.i 0) .nil)))
    refine ite2 (fun _ => ?_) (fun _ => ?_)
    · refine ⟨by decide, fun p1 n1 => ⟨by decide, fun p2 n2 => ⟨by decide, fun p3 n3 => ?_⟩⟩⟩
      have s12 := (same_new (o := .tup []) n1).trans (same_new (o := .lst [.int 99, .ref p1]) n2)
      have s13 := s12.trans (same_new (o := .tup [.ref p2]) n3)
      refine more p3 (.ref p2) .o _ (hp2.same s13) (But.of s13) (SqT.of upd_same) ?_ rfl (by simp only [Th.sz_t, Th.szs_cons, Th.szs_nil, Th.sz_i, Th.sz_o]; omega) (by simp only [Th.dep_t, Th.deps_cons, Th.deps_nil, Th.dep_i, Th.dep_o]; omega)
      exact .o (.lst ((same_new n3) _ _ upd_same))
    refine ite2 (fun _ => ?_) (fun _ => ?_)
    · refine ⟨by decide, fun p1 n1 => ⟨by decide, fun p2 n2 => ⟨by decide, fun p3 n3 => ?_⟩⟩⟩
      have s12 := (same_new (o := .tup []) n1).trans (same_new (o := .tup [.int (100 + far), .ref p1]) n2)
      have s13 := s12.trans (same_new (o := .tup [.ref p2]) n3)
      refine more p3 (.ref p2) (.t [.i (100 + far), .t []]) _ (hp2.same s13) (But.of s13) (SqT.of upd_same) ?_ (by simp [Th.isTurn, Th.isW]; omega) (by simp only [Th.sz_t, Th.szs_cons, Th.szs_nil, Th.sz_i, Th.sz_o]; omega) (by simp only [Th.dep_t, Th.deps_cons, Th.deps_nil, Th.dep_i, Th.dep_o]; omega)
      exact .t (SqT.of ((same_new n3) _ _ upd_same)) (.cons (.i _) (.cons (.t (SqT.of (((same_new n2).trans (same_new n3)) _ _ upd_same)) .nil) .nil))
    refine ite2 (fun _ => ?_) (fun _ => ?_)
    · refine ⟨by decide, fun p1 n1 => ⟨by decide, fun p2 n2 => ⟨by decide, fun p3 n3 => ?_⟩⟩⟩
      have s13 := ((same_new (o := .tup []) n1).trans (same_new (o := .tup [.int (-1 - far), .ref p1]) n2)).trans (same_new (o := .tup [.ref p2]) n3)
      refine cat_any (SqT.of upd_same) (hga.kt (Kt.same s13)) (show _ ≤ 2 ^ 24 by simp only [List.length_cons, List.length_nil]; omega) fun p6 H4 s4 h4 => ⟨by decide, fun l2 n6 => ?_⟩
      have tt : ThAt K (upd (upd (upd H2 p1 (.tup [])) p2 (.tup [.int (-1 - far), .ref p1])) p3 (.tup [.ref p2])) (.ref p2) (.t [.i (-1 - far), .t []]) := .t (SqT.of ((same_new n3) _ _ upd_same)) (.cons (.i _) (.cons (.t (SqT.of (((same_new n2).trans (same_new n3)) _ _ upd_same)) .nil) .nil))
      refine fin (.ref p6) (.t (.t [.i (-1 - far), .t []] :: bag.map Tr.toTh)) H4 l2 (hp2.same (s13.trans s4)) (But.of (s13.trans s4)) (.t h4 (.cons (tt.kl (Kl.same s4)) (agh (Kt.same (s13.trans s4))))) (bd_turn (t := .t [.i (-1 - far), .t []]) (by simp [Th.isTurn, Th.isW]; omega) List.mem_cons_self) ?_ ?_ n6
      · simp only [Th.sz_t, Th.szs_cons, Th.szs_nil, Th.sz_i]; omega
      · simp only [Th.dep_t, Th.deps_cons, Th.deps_nil, Th.dep_i]; omega
    · refine ⟨by decide, fun p1 n1 => ⟨by decide, fun p2 n2 => ⟨by decide, fun p3 n3 => ⟨by decide, fun p4 n4 => ⟨by decide, fun p5 n5 => ⟨by decide, fun p6 n6 => ?_⟩⟩⟩⟩⟩⟩
      have s14 := (((same_new (o := .tup [.int 0, .int 0]) n1).trans (same_new (o := .tup []) n2)).trans (same_new (o := .tup [.ref p1, .ref p2]) n3)).trans (same_new (o := .lst [.ref p3]) n4)
      have s16 := (s14.trans (same_new (o := .tup [.int 99, .ref p4]) n5)).trans (same_new (o := .tup [.ref p5]) n6)
      exact more p6 (.ref p5) (.t [.i 99, .o]) _ (hp2.same s16) (But.of s16) (SqT.of upd_same) (.t (SqT.of ((same_new n6) _ _ upd_same)) (.cons (.i 99) (.cons (.o (.lst (((same_new n5).trans (same_new n6)) _ _ upd_same))) .nil))) (by simp [Th.isTurn, Th.isW]) (by simp only [Th.sz_t, Th.szs_cons, Th.szs_nil, Th.sz_i, Th.sz_o]; omega) (by simp only [Th.dep_t, Th.deps_cons, Th.deps_nil, Th.dep_i, Th.dep_o]; omega)
end


set_option Elab.async false
set_option linter.all false
set_option maxRecDepth 100000
set_option maxHeartbeats 4000000
open PySem L2 StX


def spNoWorth (K : PySem.W.Frag) : Sp := fun vs H Q _ => ∃ p c v x, vs = [.ref p, v] ∧ HandAt H p c ∧ At K H v x ∧ Tr.GW x ∧ x.toTh.sz ≤ 2990 ∧ x.dep ≤ 60 ∧ ∀ v t H', HandAt H' p c → But p H H' → ThAt K H' v t → Bd t → t.sz ≤ 6000 → t.dep ≤ 64 → Q v H'
def spWithin (K : PySem.W.Frag) : Sp := fun vs H Q _ => ∃ p c q n es v t, vs = [.ref p, .ref q, v] ∧ p ≠ q ∧ HandAt H p c ∧ LsAt K H q (enc es) ∧ Pool n es ∧ n ≤ 9 ∧ ThAt K H v t ∧ Bd t ∧ t.sz ≤ 6000 ∧ t.dep ≤ 64 ∧ ∀ v u H', HandAt H' p c → But p H H' → ThAt K H' v u → Bd u → u.sz ≤ 20000 → u.dep ≤ 80 → Q v H'
theorem bag_nobase : ∀ {bag : List Tr}, (∀ t ∈ bag, Tr.GTurn t) → Th.isBase (.t (bag.map Tr.toTh)) = false
  | [], _ => rfl
  | [x], _ => rfl
  | x :: y :: r, h => by
    obtain ⟨m, ws, rfl, _⟩ := h x List.mem_cons_self
    rw [List.map_cons, List.map_cons, Tr.trn_th]
    rfl
section
variable {P : Program} {w : World} {K : PySem.W.Frag} {mg : Str → Option Value} {base : Heap}
theorem scNoWorth : FnScope ["_law_hand_here", "_law_worth", "_law_base", "_law_bag", "_law_way"] ["_law_hand_here", "_law_worth"] (defScope sNoWorth) := ⟨rfl, rfl, rfl, by decide +kernel, rfl, by decide +kernel, by decide +kernel⟩
theorem ok_noWorth (D : DefAt K mg "_law_no_worth" sNoWorth) (B : Bt mg) (C_take : Cal P w K mg base CX0 162 "_law_take" ["_law_hand_here", "_law_many"] spTake) (C_bad_base : Cal P w K mg base CX0 162 "_law_bad_base" ["_law_hand_here", "_law_base", "_law_bag"] (spBad K)) (C_bad_bag : Cal P w K mg base CX0 162 "_law_bad_bag" ["_law_hand_here", "_law_base", "_law_bag"] (spBad K)) :
    Cal P w K mg base CX0 163 "_law_no_worth" ["_law_hand_here", "_law_worth"] (spNoWorth K) := by
  refine D.cal (fun _ _ _ _ _ _ us hl => match us, hl with | [_, _], _ => rfl) fun f fd F => ?_
  refine F.ok scNoWorth (fun vs H Q E h => ?_) (fun cdv A outer s H vs Q E HR h => ?_)
  · obtain ⟨p, c, v, x, rfl, _⟩ := h
    rfl
  · obtain ⟨p, c, v, x, rfl, hp, ax, gx, hz, hd, k⟩ := h
    refine ⟨_, (pss_cons (ps_asg (pv 1) (pg_tup (n := 2) rfl (pgs_cons (pg_name (i := 2) scNoWorth.nd rfl (Or.inl rfl)) (pgs_cons (pg_name (i := 3) scNoWorth.nd rfl (Or.inl rfl)) pgs_nil))))
  (pss_cons (ps_set (i := 4) scNoWorth.nd rfl (Or.inl rfl) (pe_cal C_take (by rfl) HR pass0 (pa_cons (pv 0) (pa_cons pe_int pa_nil))))
  (pss_cons (ps_if (pt_cmpR op_lt (pv 4) pe_int (nomark _)) (pss_one (ps_ret (pe_cal C_bad_base (by rfl) HR pass0 (pa_cons (pv 0) (pa_cons (pv 2) (pa_cons (pv 3) pa_nil)))))) pss_nil)
  (pss_cons (ps_if (pt_cmpR op_lt (pv 4) pe_int (nomark _)) (pss_one (ps_ret (pe_cal C_bad_bag (by rfl) HR pass0 (pa_cons (pv 0) (pa_cons (pv 2) (pa_cons (pv 3) pa_nil)))))) pss_nil)
  (pss_one (ps_ret (pe_ix ix_list (pe_lst (pa_cons (pe_lst (pa_cons (pv 2) (pa_cons (pv 3) pa_nil))) (pa_cons (pe_tup (pa_cons (pv 2) pa_nil)) (pa_cons (pe_tup (pa_cons (pv 2) (pa_cons (pv 3) (pa_cons (pe_tup pa_nil) pa_nil)))) (pa_cons (pv 2) (pa_cons pe_non (pa_cons (pe_cal C_take (by rfl) HR pass0 (pa_cons (pv 0) (pa_cons (pe_op op_pow pe_int pe_int) pa_nil))) (pa_cons pe_str (pa_cons (pe_tup (pa_cons (pv 3) (pa_cons (pv 2) pa_nil))) (pa_cons (pe_lst pa_nil) (pa_cons pe_dnewK pa_nil))))))))))) (pe_cal C_take (by rfl) HR pass0 (pa_cons (pv 0) (pa_cons pe_int pa_nil))) (fun _ _ => rfl)))))))), ?_⟩
    walk_at "go"
    obtain ⟨b, bag, rfl⟩ := gx.shape
    obtain ⟨g1, g2, g3, g4, g5⟩ := gx.inv
    obtain ⟨a, vs0, rfl, h0, a0⟩ := tup_at ax
    obtain ⟨vb, vg, e, ab, ag⟩ := ats2 a0
    subst e
    have hz2 : b.toTh.sz + Th.szs (bag.map Tr.toTh) ≤ 2988 := by
      rw [Tr.wor_th, Th.sz_t, Th.szs_cons, Th.szs_cons, Th.szs_nil, Th.sz_t] at hz
      omega
    have hd2 : b.dep ≤ 59 ∧ Tr.deps bag ≤ 58 := by
      unfold Tr.wor at hd
      simp only [Tr.dep_t, Tr.deps_cons, Tr.deps_nil] at hd
      omega
    have dgt : Th.deps (bag.map Tr.toTh) ≤ 58 := by
      have := Tr.toThs_deps bag
      rw [Tr.toThs_map] at this
      rw [this]; exact hd2.2
    have dbt : b.toTh.dep ≤ 59 := by rw [Tr.toTh_dep]; exact hd2.1
    refine ⟨a, rfl, _, h0, rfl, _, _, rfl, _, _, rfl, rfl, p, c, 6, rfl, by decide, by decide, hp, fun way H1 _ _ hp1 b1 => ?_⟩
    have k1 := But.kt hp b1
    walk_at "go"
    refine ite2 (fun _ => ?_) (fun _ => ?_)
    · exact ⟨p, c, vb, vg, b, bag, rfl, hp1, ab.kt k1, ag.kt k1, g1, g2, g3, by omega, by omega, by omega, fun v t H2 hp2 b2 at2 bd sz dd => k v t H2 hp2 (b1.trans b2) at2 bd (by omega) dd⟩
    refine ite2 (fun _ => ?_) (fun _ => ?_)
    · exact ⟨p, c, vb, vg, b, bag, rfl, hp1, ab.kt k1, ag.kt k1, g1, g2, g3, by omega, by omega, by omega, fun v t H2 hp2 b2 at2 bd sz dd => k v t H2 hp2 (b1.trans b2) at2 bd (by omega) dd⟩
    refine ⟨by decide, fun p1 n1 => ⟨by decide, fun p2 n2 => ⟨by decide, fun p3 n3 => ⟨by decide, fun p4 n4 => ⟨by decide, ?_⟩⟩⟩⟩⟩
    have s34 := (same_new (o := .tup []) n3).trans (same_new (o := .tup [vb, vg, .ref p3]) n4)
    have s24 := (same_new (o := .tup [vb]) n2).trans s34
    have s14 := (same_new (o := .lst [vb, vg]) n1).trans s24
    have hpa := hp1.same s14
    refine ⟨p, c, _, rfl, by decide, by decide, hpa, fun z Hb _ _ hpb bb => ⟨by decide, fun p5 n5 => ⟨by decide, fun p6 n6 => fun p7 n7 => ⟨by decide, fun p8 n8 => ?_⟩⟩⟩⟩
    have s78 := (same_new (o := .dK []) n7).trans (same_new (o := .lst [V.ref p1, V.ref p2, V.ref p4, vb, V.non, .int z, V.str (Str.ofString "b0"), V.ref p5, V.ref p6, V.ref p7]) n8)
    have s68 := (same_new (o := .lst []) n6).trans s78
    have s58 := (same_new (o := .tup [vg, vb]) n5).trans s68
    have hpc := hpb.same s58
    have ne8 : p8 ≠ p := fun e => by
      obtain ⟨cs, i, big, tot, hh⟩ := hpb.same ((same_new (o := .tup [vg, vb]) n5).trans ((same_new (o := .lst []) n6).trans (same_new (o := .dK []) n7)))
      rw [e, hh.hp] at n8; cases n8
    refine ⟨p, c, 10, rfl, by decide, by decide, hpc, fun r Hd r0 r9 hpd bd => ?_⟩
    have bA := (But.of (p := p) s14).trans (bb.trans ((But.of s58).trans bd))
    have kb := But.kl hpa hpb bb
    have kd := But.kl hpc hpd bd
    have kA := ((Kl.same s14).trans kb).trans ((Kl.same s58).trans kd)
    have kB := kb.trans ((Kl.same s58).trans kd)
    have tb : ThAt K Hd vb b.toTh := (ThAt.of (ab.kt k1)).kl kA
    have tg : ThAt K Hd vg (.t (bag.map Tr.toTh)) := by
      have := (ThAt.of (ag.kt k1)).kl kA
      rw [Tr.th_t] at this; exact this
    have u1 : Oth Hd (.ref p1) := (Oth.lst (s24 _ _ upd_same)).kl kB
    have u2 : SqT K Hd p2 [vb] := (SqT.of (s34 _ _ upd_same)).kt kB.kt
    have u3 : SqT K Hd p3 [] := (SqT.of ((same_new (o := .tup [vb, vg, .ref p3]) n4) _ _ upd_same)).kt kB.kt
    have u4 : SqT K Hd p4 [vb, vg, .ref p3] := (SqT.of upd_same).kt kB.kt
    have u5 : SqT K Hd p5 [vg, vb] := (SqT.of (s68 _ _ upd_same)).kt kd.kt
    have u6 : Oth Hd (.ref p6) := (Oth.lst (s78 _ _ upd_same)).kl kd
    have u7 : Oth Hd (.ref p7) := (Oth.dic ((same_new n8) _ _ upd_same)).kl kd
    have fin : ∀ v t, ThAt K Hd v t → Bd t → t.sz ≤ 6000 → t.dep ≤ 64 → Q v Hd := fun v t a1 a2 a3 a4 => k v t Hd hpd (b1.trans bA) a1 a2 a3 a4
    have oo : ∀ v, Oth Hd v → Q v Hd := fun v a1 => fin v .o (.o a1) (bd_form rfl) (by rw [Th.sz_o]; omega) (by rw [Th.dep_o]; omega)
    refine ⟨[V.ref p1, V.ref p2, V.ref p4, vb, V.non, .int z, V.str (Str.ofString "b0"), V.ref p5, V.ref p6, V.ref p7], r, rfl, SqL.of (bd _ _ ne8 upd_same), ?_⟩
    have cases10 : r = 0 ∨ r = 1 ∨ r = 2 ∨ r = 3 ∨ r = 4 ∨ r = 5 ∨ r = 6 ∨ r = 7 ∨ r = 8 ∨ r = 9 := by omega
    rcases cases10 with rfl | rfl | rfl | rfl | rfl | rfl | rfl | rfl | rfl | rfl
    · exact ⟨_, rfl, oo _ u1⟩
    · exact ⟨_, rfl, fin _ (.t [b.toTh]) (.t u2 (.cons tb .nil)) (bd_form rfl) (by simp only [Th.sz_t, Th.szs_cons, Th.szs_nil]; omega) (by simp only [Th.dep_t, Th.deps_cons, Th.deps_nil]; omega)⟩
    · exact ⟨_, rfl, fin _ (.t [b.toTh, .t (bag.map Tr.toTh), .t []]) (.t u4 (.cons tb (.cons tg (.cons (.t u3 .nil) .nil)))) (bd_form rfl) (by simp only [Th.sz_t, Th.szs_cons, Th.szs_nil]; omega) (by simp only [Th.dep_t, Th.deps_cons, Th.deps_nil]; omega)⟩
    · refine ⟨_, rfl, fin _ b.toTh tb (bd_form ?_) (by omega) (by omega)⟩
      rcases g1 with ⟨cc, rfl, _⟩ | ⟨m, ws, rfl, _⟩
      · rw [Tr.base0_th]; rfl
      · rw [Tr.base1_th]; rfl
    · exact ⟨_, rfl, oo _ .non⟩
    · exact ⟨_, rfl, fin _ (.i z) (.i z) (bd_form rfl) (by rw [Th.sz_i]; omega) (by rw [Th.dep_i]; omega)⟩
    · exact ⟨_, rfl, oo _ (.str _)⟩
    · exact ⟨_, rfl, fin _ (.t [.t (bag.map Tr.toTh), b.toTh]) (.t u5 (.cons tg (.cons tb .nil))) (bd_base (bag_nobase g3)) (by simp only [Th.sz_t, Th.szs_cons, Th.szs_nil]; omega) (by simp only [Th.dep_t, Th.deps_cons, Th.deps_nil]; omega)⟩
    · exact ⟨_, rfl, oo _ u6⟩
    · exact ⟨_, rfl, oo _ u7⟩
theorem scWithin : FnScope ["_law_hand_here", "_law_pool", "_law_thing", "_law_good", "_law_way"] ["_law_hand_here", "_law_pool", "_law_thing"] (defScope sWithin) := ⟨rfl, rfl, rfl, by decide +kernel, rfl, by decide +kernel, by decide +kernel⟩
theorem ok_within (D : DefAt K mg "_law_within" sWithin) (B : Bt mg) (C_take : Cal P w K mg base CX0 162 "_law_take" ["_law_hand_here", "_law_many"] spTake) (C_name : Cal P w K mg base CX0 162 "_law_name" ["_law_hand_here"] spName) :
    Cal P w K mg base CX0 163 "_law_within" ["_law_hand_here", "_law_pool", "_law_thing"] (spWithin K) := by
  refine D.cal (fun _ _ _ _ _ _ us hl => match us, hl with | [_, _, _], _ => rfl) fun f fd F => ?_
  refine F.ok scWithin (fun vs H Q E h => ?_) (fun cdv A outer s H vs Q E HR h => ?_)
  · obtain ⟨p, c, q, n, es, v, t, rfl, _⟩ := h
    rfl
  · obtain ⟨p, c, q, n, es, v, t, rfl, pq, hp, ⟨vs, eq, aq⟩, po, n9, hv, bd, zt, dt, k⟩ := h
    refine ⟨_, (pss_cons (ps_set (i := 3) scWithin.nd rfl (Or.inl rfl) (pe_ix ix_tup (pe_ix ix_list (pv 1) (pe_cal C_take (by rfl) HR pass0 (pa_cons (pv 0) (pa_cons (pe_callB call_len_seq (by rfl) B.len PySem.boot_len (pa_cons (pv 1) pa_nil)) pa_nil))) (fun _ _ => rfl)) pe_int (fun _ _ => rfl)))
  (pss_cons (ps_set (i := 4) scWithin.nd rfl (Or.inl rfl) (pe_cal C_take (by rfl) HR pass0 (pa_cons (pv 0) (pa_cons pe_int pa_nil))))
  (pss_cons (ps_if (pt_cmpR op_eq (pv 4) pe_int (nomark _)) (pss_one (ps_ret (pe_tup (pa_cons (pe_tup (pa_cons pe_int (pa_cons (pe_cal C_name (by rfl) HR pass0 (pa_cons (pv 0) pa_nil)) (pa_cons (pe_tup (pa_cons (pv 3) (pa_cons (pv 2) pa_nil))) pa_nil)))) (pa_cons (pe_tup pa_nil) pa_nil))))) pss_nil)
  (pss_cons (ps_if (pt_cmpR op_eq (pv 4) pe_int (nomark _)) (pss_one (ps_ret (pe_tup (pa_cons (pe_tup (pa_cons pe_int (pa_cons (pe_cal C_name (by rfl) HR pass0 (pa_cons (pv 0) pa_nil)) (pa_cons (pe_tup (pa_cons (pv 2) pa_nil)) pa_nil)))) (pa_cons (pe_tup pa_nil) pa_nil))))) pss_nil)
  (pss_cons (ps_if (pt_cmpR op_eq (pv 4) pe_int (nomark _)) (pss_one (ps_ret (pe_tup (pa_cons (pe_ix ix_tup (pv 3) pe_int (fun _ _ => rfl)) (pa_cons (pe_tup (pa_cons (pe_tup (pa_cons (pe_cal C_name (by rfl) HR pass0 (pa_cons (pv 0) pa_nil)) (pa_cons (pe_tup (pa_cons (pv 3) (pa_cons (pv 2) pa_nil))) pa_nil))) pa_nil)) pa_nil))))) pss_nil)
  (pss_one (ps_ret (pe_tup (pa_cons (pe_tup (pa_cons pe_int (pa_cons pe_int pa_nil))) (pa_cons (pe_tup (pa_cons (pe_tup (pa_cons (pe_cal C_name (by rfl) HR pass0 (pa_cons (pv 0) pa_nil)) (pa_cons (pe_tup (pa_cons (pv 2) pa_nil)) pa_nil))) pa_nil)) pa_nil)))))))))), ?_⟩
    walk_at "go"
    have kb : ∀ {H1 : Hp}, But p H H1 → H1 q = some (.lst vs) ∧ Ats K H1 vs (enc es) := fun b => ⟨b q _ (Ne.symm pq) eq, aq.kt (But.kt hp b)⟩
    have lv : vs.length = es.length := by rw [aq.length]; exact List.length_map _
    have l3 := po.three
    have l9 := po.few
    refine ⟨p, c, _, rfl, by omega, by omega, hp, fun r H1 r0 rm hp1 b1 => ?_⟩
    obtain ⟨eq1, aq1⟩ := kb b1
    obtain ⟨e, he⟩ : ∃ e, es[r.toNat]? = some e := ⟨_, List.getElem?_eq_getElem (by omega)⟩
    obtain ⟨v1, hv1, av1⟩ := aq1.get' (i := r.toNat) (x := ent e.1 e.2) (by unfold enc; rw [List.getElem?_map, he]; rfl)
    obtain ⟨a, xs, rfl, ha, aa⟩ := tup_at av1
    obtain ⟨wv, wk, e1, awv, akv⟩ := ats2 aa
    subst e1
    obtain ⟨w1, w2, w3, w4, gw⟩ := po.wt e (List.mem_of_getElem? he)
    refine ⟨vs, r, rfl, SqL.of eq1, _, atI_int r0 hv1, a, rfl, _, ha, _, atI_0, ?_⟩
    have dw : e.1.toTh.dep ≤ 36 := by rw [Tr.toTh_dep]; have := w1.dep_le; omega
    have zw : e.1.toTh.sz ≤ 2916 := by
      have h1 := Tr.sz_nodes w1
      rw [← nodes_up w1 (by omega : n ≤ 10)] at h1
      omega
    have kl1 := But.kl hp hp1 b1
    have hv2 := hv.kl kl1
    refine ⟨p, c, 4, rfl, by decide, by decide, hp1, fun way H2 _ _ hp2 b2 => ?_⟩
    have kl2 := But.kl hp1 hp2 b2
    have hv3 := hv2.kl kl2
    have aw3 : ThAt K H2 wv e.1.toTh := (ThAt.of awv).kl kl2
    show rEq (.int way) (.int 0) H2 _
    walk_at "go"
    have fin : ∀ v u H', HandAt H' p c → But p H2 H' → ThAt K H' v u → t ∈ Th.held u → u.sz ≤ 20000 → u.dep ≤ 80 → Q v H' := fun v u H' h1 h2 h3 h4 h5 h6 => k v u H' h1 (b1.trans (b2.trans h2)) h3 (bd_held bd h4) h5 h6
    refine ite2 (fun _ => ?_) (fun _ => ?_)
    · refine ⟨p, c, rfl, hp2, fun nm H3 m0 m1 hp3 b3 => ⟨by decide, fun p1 n1 => ⟨by decide, fun p2 n2 => ⟨by decide, fun p3 n3 => ⟨by decide, fun p4 n4 => ?_⟩⟩⟩⟩⟩
      have s34 := (same_new (o := .tup []) n3).trans (same_new (o := .tup [.ref p2, .ref p3]) n4)
      have s24 := (same_new (o := .tup [.int 1, .int nm, .ref p1]) n2).trans s34
      have s14 := (same_new (o := .tup [wv, v]) n1).trans s24
      have kk := (But.kl hp2 hp3 b3).trans (Kl.same s14)
      exact fin _ (.t [.t [.i 1, .i nm, .t [e.1.toTh, t]], .t []]) _ (hp3.same s14) (b3.trans (But.of s14)) (.t (SqT.of upd_same) (.cons (.t (SqT.of (s34 _ _ upd_same)) (.cons (.i 1) (.cons (.i nm) (.cons (.t (SqT.of (s24 _ _ upd_same)) (.cons (aw3.kl kk) (.cons (hv3.kl kk) .nil))) .nil)))) (.cons (.t (SqT.of ((same_new n4) _ _ upd_same)) .nil) .nil))) (by simp [Th.held, Th.heldB]) (by simp only [Th.sz_t, Th.szs_cons, Th.szs_nil, Th.sz_i]; omega) (by simp only [Th.dep_t, Th.deps_cons, Th.deps_nil, Th.dep_i]; omega)
    refine ite2 (fun _ => ?_) (fun _ => ?_)
    · refine ⟨p, c, rfl, hp2, fun nm H3 m0 m1 hp3 b3 => ⟨by decide, fun p1 n1 => ⟨by decide, fun p2 n2 => ⟨by decide, fun p3 n3 => ⟨by decide, fun p4 n4 => ?_⟩⟩⟩⟩⟩
      have s34 := (same_new (o := .tup []) n3).trans (same_new (o := .tup [.ref p2, .ref p3]) n4)
      have s24 := (same_new (o := .tup [.int 1, .int nm, .ref p1]) n2).trans s34
      have s14 := (same_new (o := .tup [v]) n1).trans s24
      have kk := (But.kl hp2 hp3 b3).trans (Kl.same s14)
      exact fin _ (.t [.t [.i 1, .i nm, .t [t]], .t []]) _ (hp3.same s14) (b3.trans (But.of s14)) (.t (SqT.of upd_same) (.cons (.t (SqT.of (s34 _ _ upd_same)) (.cons (.i 1) (.cons (.i nm) (.cons (.t (SqT.of (s24 _ _ upd_same)) (.cons (hv3.kl kk) .nil)) .nil)))) (.cons (.t (SqT.of ((same_new n4) _ _ upd_same)) .nil) .nil))) (by simp [Th.held, Th.heldB]) (by simp only [Th.sz_t, Th.szs_cons, Th.szs_nil, Th.sz_i]; omega) (by simp only [Th.dep_t, Th.deps_cons, Th.deps_nil, Th.dep_i]; omega)
    refine ite2 (fun _ => ?_) (fun _ => ?_)
    · obtain ⟨gb, gbag, ge⟩ := gw.shape
      rw [ge] at awv zw dw
      obtain ⟨ga, gvs, rfl, hga, gat⟩ := tup_at awv
      obtain ⟨x1, x2, e1, ax1, _⟩ := ats2 gat
      subst e1
      have zg : gb.toTh.sz ≤ 2916 ∧ gb.toTh.dep ≤ 36 := by
        rw [Tr.wor_th] at zw dw
        rw [Th.sz_t, Th.szs_cons] at zw
        rw [Th.dep_t, Th.deps_cons] at dw
        omega
      refine ⟨ga, rfl, _, hga.kt kl2.kt, _, atI_0, p, c, rfl, hp2, fun nm H3 m0 m1 hp3 b3 => ⟨by decide, fun p1 n1 => ⟨by decide, fun p2 n2 => ⟨by decide, fun p3 n3 => ⟨by decide, fun p4 n4 => ?_⟩⟩⟩⟩⟩
      have s34 := (same_new (o := .tup [.ref p2]) n3).trans (same_new (o := .tup [x1, .ref p3]) n4)
      have s24 := (same_new (o := .tup [.int nm, .ref p1]) n2).trans s34
      have s14 := (same_new (o := .tup [.ref ga, v]) n1).trans s24
      have kk := (But.kl hp2 hp3 b3).trans (Kl.same s14)
      have zw2 : e.1.toTh.sz ≤ 2916 ∧ e.1.toTh.dep ≤ 36 := by rw [ge]; exact ⟨zw, dw⟩
      exact fin _ (.t [gb.toTh, .t [.t [.i nm, .t [e.1.toTh, t]]]]) _ (hp3.same s14) (b3.trans (But.of s14)) (.t (SqT.of upd_same) (.cons ((ThAt.of ax1).kl (kl2.trans kk)) (.cons (.t (SqT.of ((same_new n4) _ _ upd_same)) (.cons (.t (SqT.of (s34 _ _ upd_same)) (.cons (.i nm) (.cons (.t (SqT.of (s24 _ _ upd_same)) (.cons (aw3.kl kk) (.cons (hv3.kl kk) .nil))) .nil))) .nil)) .nil))) (by simp [Th.held, Th.heldT]) (by simp only [Th.sz_t, Th.szs_cons, Th.szs_nil, Th.sz_i]; omega) (by simp only [Th.dep_t, Th.deps_cons, Th.deps_nil, Th.dep_i]; omega)
    · refine ⟨by decide, fun p0 n0 => ⟨p, c, rfl, hp2.push n0, fun nm H3 m0 m1 hp3 b3 => ⟨by decide, fun p1 n1 => ⟨by decide, fun p2 n2 => ⟨by decide, fun p3 n3 => ⟨by decide, fun p4 n4 => ?_⟩⟩⟩⟩⟩⟩
      have s34 := (same_new (o := .tup [.ref p2]) n3).trans (same_new (o := .tup [.ref p0, .ref p3]) n4)
      have s24 := (same_new (o := .tup [.int nm, .ref p1]) n2).trans s34
      have s14 := (same_new (o := .tup [v]) n1).trans s24
      have kk0 := (But.kl (hp2.push (o := .tup [.int 0, .int 1]) n0) hp3 b3).trans (Kl.same s14)
      have kk := (Kl.new (o := .tup [.int 0, .int 1]) n0).trans kk0
      exact fin _ (.t [.t [.i 0, .i 1], .t [.t [.i nm, .t [t]]]]) _ (hp3.same s14) ((But.new n0).trans (b3.trans (But.of s14))) (.t (SqT.of upd_same) (.cons (.t ((SqT.of upd_same).kt kk0.kt) (.cons (.i 0) (.cons (.i 1) .nil))) (.cons (.t (SqT.of ((same_new n4) _ _ upd_same)) (.cons (.t (SqT.of (s34 _ _ upd_same)) (.cons (.i nm) (.cons (.t (SqT.of (s24 _ _ upd_same)) (.cons (hv3.kl kk) .nil)) .nil))) .nil)) .nil))) (by simp [Th.held, Th.heldB, Th.heldT]) (by simp only [Th.sz_t, Th.szs_cons, Th.szs_nil, Th.sz_i]; omega) (by simp only [Th.dep_t, Th.deps_cons, Th.deps_nil, Th.dep_i]; omega)
end


set_option Elab.async false
set_option linter.all false
set_option maxRecDepth 100000
set_option maxHeartbeats 4000000
open PySem L2 StX


theorem gw_sub {b : Tr} {bag s : List Tr} (h : Tr.GW (Tr.wor b bag)) (k : s.Sublist bag) : Tr.GW (Tr.wor b s) := by
  obtain ⟨h1, h2, h3, h4, h5⟩ := h.inv
  exact .mk h1 (Nat.le_trans k.length_le h2) (fun t m => h3 t (k.subset m)) (h4.sublist k) fun v m => h5 v ((Tr.held_sub k).subset m)
open Classical in
def spRight (K : PySem.W.Frag) : Sp := fun vs H Q _ => ∃ v x, vs = [v] ∧ WorX K H v x ∧ Tr.WL 32 x ∧ Tr.GW x ∧ x.toTh.sz ≤ 80000 ∧ ∀ H', Same H H' → Q (.bl true) H'
def chT (x : Th) (ns : List Int) : Th := ns.foldl (fun a n => .t [.t [.i 1, .i n, .t [a]], .t []]) x
def spChain (K : PySem.W.Frag) : Sp := fun vs H Q _ => ∃ v x l ns, vs = [v, .ref l] ∧ ThAt K H v x ∧ SqL K H l (ns.map V.int) ∧ ns.length ≤ 30 ∧ ∀ v' H', Same H H' → ThAt K H' v' (chT x ns) → Q v' H'
section
variable {P : Program} {w : World} {K : PySem.W.Frag} {mg : Str → Option Value} {base : Heap}
theorem scRight : FnScope ["_law_worth"] ["_law_worth"] (defScope sRight) := ⟨rfl, rfl, rfl, by decide +kernel, rfl, by decide +kernel, by decide +kernel⟩
open Classical in
theorem ok_right (D : DefAt K mg "_law_told_right" sRight) (B : Bt mg) (Cis_worth : Cal P w K mg base CX0 160 "is_worth" ["thing"] (spIsWorth K)) (Cworth_text : Cal P w K mg base CX0 160 "worth_text" ["worth"] (spText K 32)) (C_text_due : Cal P w K mg base CX0 160 "_law_text_due" ["_law_worth"] (spText K 32))
    (C_exact : Cal P w K mg base CX0 160 "_law_exact" ["_law_told", "_law_due"] (spExact K 150)) (Cparts_of : Cal P w K mg base CX0 160 "parts_of" ["worth"] (spParts K)) (C_parts_due : Cal P w K mg base CX0 160 "_law_parts_due" ["_law_worth"] (spPartsD K)) (Cbags_within : Cal P w K mg base CX0 160 "bags_within" ["worth"] (spBags K)) (C_bags_due : Cal P w K mg base CX0 160 "_law_bags_due" ["_law_worth"] (spBagsD K)) :
    Cal P w K mg base CX0 161 "_law_told_right" ["_law_worth"] (spRight K) := by
  refine D.cal (fun _ _ _ _ _ _ us hl => match us, hl with | [_], _ => rfl) fun f fd F => ?_
  refine F.ok scRight (fun vs H Q E h => ?_) (fun cdv A outer s H vs Q E HR h => ?_)
  · obtain ⟨v, x, rfl, _⟩ := h
    rfl
  · obtain ⟨v, x, rfl, hx, wx, gx, hz, k⟩ := h
    refine ⟨_, (pss_cons (ps_if (PW.pt (pw_or (pt_cmpR op_notBl (pe_cal Cis_worth (by rfl) HR pass0 (pa_cons (pv 0) pa_nil)) pe_bl (nomark _)) (pw_or1 (pt_cmpR op_ne (pe_cal Cworth_text (by rfl) HR pass0 (pa_cons (pv 0) pa_nil)) (pe_cal C_text_due (by rfl) HR pass0 (pa_cons (pv 0) pa_nil)) (nomark _))))) (pss_one (ps_ret pe_bl)) pss_nil)
  (pss_one (ps_ret (pe_and (pe_cal C_exact (by rfl) HR pass0 (pa_cons (pe_cal Cparts_of (by rfl) HR pass0 (pa_cons (pv 0) pa_nil)) (pa_cons (pe_cal C_parts_due (by rfl) HR pass0 (pa_cons (pv 0) pa_nil)) pa_nil))) (pe_one (pe_cal C_exact (by rfl) HR pass0 (pa_cons (pe_cal Cbags_within (by rfl) HR pass0 (pa_cons (pv 0) pa_nil)) (pa_cons (pe_cal C_bags_due (by rfl) HR pass0 (pa_cons (pv 0) pa_nil)) pa_nil)))))))), ?_⟩
    walk_at "go"
    have w40 : Tr.WL 40 x := wx.mono (by decide)
    have dx : x.dep ≤ 128 := wx.dep_le
    refine ⟨v, x.toTh, rfl, ThAt.of hx.at, hz, by rw [Tr.toTh_dep]; omega, fun H1 s1 => ?_⟩
    rw [decide_eq_true gx.ok]
    refine ⟨true, rfl, ?_⟩
    refine ite_f (by simp) ?_
    refine ⟨v, x, rfl, hx.at.kt (Kt.same s1), wx, gx, hz, fun H2 s2 => ?_⟩
    refine ⟨v, x, rfl, hx.at.kt (Kt.same (s1.trans s2)), wx, gx, hz, fun H3 s3 => ?_⟩
    show rNe (.str _) (.str _) H3 _
    rw [rNe_str]
    refine ⟨_, rfl, ite_f (by simp) ?_⟩
    have s13 := (s1.trans s2).trans s3
    have few := gx.few
    refine ⟨v, x, rfl, hx.at.kt (Kt.same s13), w40, by omega, fun p1 us H4 s4 a4 asc4 m4 => ?_⟩
    refine ⟨v, x, rfl, hx.at.kt (Kt.same (s13.trans s4)), w40, by omega, fun p2 us2 H5 s5 a5 asc5 m5 => ?_⟩
    obtain rfl : us = us2 := Tr.asc_uniq asc4 asc5 fun z => (m4 z).trans (m5 z).symm
    have wz : ∀ z ∈ us, Tr.WL 32 z := fun z m => wx.part ((m4 z).mp m)
    have du : (Tr.t us).dep < 150 := by
      have := deps_le (n := 128) (xs := us) fun z m => (wz z m).dep_le
      rw [Tr.dep_t]; omega
    have nu : Nar (.t us) := .t (by
      have := Tr.asc_len (L := Tr.held x) asc4.nodup fun z m => (m4 z).mp m
      omega) fun z m => nar_gw (gx.part ((m4 z).mp m))
    refine ⟨.ref p1, .ref p2, _, rfl, a4.kt (Kt.same s5), a5, du, nu, fun H6 s6 => ⟨_, rfl, ite_t rfl ?_⟩⟩
    have s16 := ((s13.trans s4).trans s5).trans s6
    obtain ⟨b, bag, rfl⟩ := gx.shape
    refine ⟨v, b, bag, rfl, hx.at.kt (Kt.same s16), w40, fun p3 bs H7 s7 a7 l7 asc7 m7 => ?_⟩
    refine ⟨v, b, bag, rfl, hx.kt (Kt.same (s16.trans s7)), w40, gx.inv.2.2.2.1, fun p4 bs2 H8 s8 a8 asc8 m8 => ?_⟩
    obtain rfl : bs = bs2 := Tr.asc_uniq asc7 asc8 fun z => (m7 z).trans (m8 z).symm
    have wb : ∀ z ∈ bs, Tr.WL 32 z ∧ Tr.GW z := fun z m => by
      obtain ⟨s, h, rfl⟩ := (m7 z).mp m
      exact ⟨wx.sub h, gw_sub gx h⟩
    have db : (Tr.t bs).dep < 150 := by
      have := deps_le (n := 128) (xs := bs) fun z m => (wb z m).1.dep_le
      rw [Tr.dep_t]; omega
    exact ⟨.ref p3, .ref p4, _, rfl, a7.kt (Kt.same s8), a8, db, .t (by omega) fun z m => nar_gw (wb z m).2, fun H9 s9 => k H9 (((s16.trans s7).trans s8).trans s9)⟩
theorem scChain : FnScope ["_law_thing", "_law_names", "_law_told", "_law_name_here"] ["_law_thing", "_law_names"] (defScope sChain) := ⟨rfl, rfl, rfl, by decide +kernel, rfl, by decide +kernel, by decide +kernel⟩
theorem ok_chain (D : DefAt K mg "_law_chain" sChain) (B : Bt mg) : Cal P w K mg base CX0 1 "_law_chain" ["_law_thing", "_law_names"] (spChain K) := by
  refine D.cal (fun _ _ _ _ _ _ us hl => match us, hl with | [_, _], _ => rfl) fun f fd F => ?_
  refine F.ok scChain (fun vs H Q E h => ?_) (fun cdv A outer s H vs Q E HR h => ?_)
  · obtain ⟨v, x, l, ns, rfl, _⟩ := h
    rfl
  · obtain ⟨v, x, l, ns, rfl, hx, hl, n30, k⟩ := h
    refine ⟨_, (pss_cons (ps_set (i := 2) scChain.nd rfl (Or.inl rfl) (pv 0))
  (pss_cons (ps_for PassesOwn.never rfl (pi_list (pv 1)) (pg_name (i := 3) scChain.nd rfl (Or.inl rfl)) (pss_one (ps_set (i := 2) scChain.nd rfl (Or.inl rfl) (pe_tup (pa_cons (pe_tup (pa_cons pe_int (pa_cons (pv 3) (pa_cons (pe_tup (pa_cons (pv 2) pa_nil)) pa_nil)))) (pa_cons (pe_tup pa_nil) pa_nil))))))
  (pss_one (ps_ret (pv 2))))), ?_⟩
    walk_at "go"
    refine ⟨⟨_, hl⟩, lp_by (wk_list (xs := ns.map V.int)) (fun i σ H2 => ∃ tv t3, σ = [some v, some (.ref l), some tv, t3] ∧ Same H H2 ∧ ThAt K H2 tv (chT x (ns.take i))) ⟨v, none, rfl, Same.refl _, hx⟩ (fun i σ H2 _ p => by obtain ⟨_, _, _, s, _⟩ := p; exact s.seq hl) ?_ ?_⟩
    · rintro i y σ H2' H2 hi ⟨tv, t3, rfl, s2, at2⟩ ⟨rfl, hy⟩
      obtain ⟨z, hz, rfl⟩ := item_int hy
      walk_at "go"
      refine ⟨by decide, fun p1 n1 => ⟨by decide, fun p2 n2 => ⟨by decide, fun p3 n3 => ⟨by decide, fun p4 n4 => ?_⟩⟩⟩⟩
      have s34 := (same_new (o := .tup []) n3).trans (same_new (o := .tup [.ref p2, .ref p3]) n4)
      have s24 := (same_new (o := .tup [.int 1, .int z, .ref p1]) n2).trans s34
      have s14 := (same_new (o := .tup [tv]) n1).trans s24
      refine ⟨s2.trans s14, ?_⟩
      rw [List.take_add_one, hz]
      unfold chT
      rw [List.foldl_append]
      exact .t (SqT.of upd_same) (.cons (.t (SqT.of (s34 _ _ upd_same)) (.cons (.i 1) (.cons (.i z) (.cons (.t (SqT.of (s24 _ _ upd_same)) (.cons (at2.kl (Kl.same s14)) .nil)) .nil)))) (.cons (.t (SqT.of ((same_new n4) _ _ upd_same)) .nil) .nil))
    · rintro σ H2 ⟨tv, t3, rfl, s2, at2⟩
      rw [List.length_map, List.take_length] at at2
      walk_at "go"
      exact k tv H2 s2 at2
end


set_option Elab.async false
set_option linter.all false
set_option maxRecDepth 100000
set_option maxHeartbeats 4000000
open PySem L2 StX


def chW (x : Tr) (ns : List Int) : Tr := ns.foldl (fun a n => Tr.wor (Tr.base1 n [a]) []) x
theorem chW_th : ∀ (ns : List Int) (x : Tr), (chW x ns).toTh = chT x.toTh ns
  | [], _ => rfl
  | n :: ns, x => by
    show (chW (Tr.wor (Tr.base1 n [x]) []) ns).toTh = _
    rw [chW_th ns, Tr.wor_th, Tr.base1_th]
    rfl
theorem chW_ok : ∀ (ns : List Int) (x : Tr) (k : Nat), Tr.WL k x → Tr.GW x → (∀ z ∈ ns, 0 ≤ z ∧ z < 100) → Tr.WL (k + ns.length) (chW x ns) ∧ Tr.GW (chW x ns)
  | [], _, _, h1, h2, _ => ⟨h1, h2⟩
  | n :: ns, x, k, h1, h2, h3 => by
    have hn := h3 n List.mem_cons_self
    have w1 : Tr.WL (k + 1) (Tr.wor (Tr.base1 n [x]) []) := wl_new fun v m => by rw [List.mem_singleton.mp m]; exact h1
    have g1 : Tr.GW (Tr.wor (Tr.base1 n [x]) []) := Tr.gw_made hn.1 (by omega) (by simp) fun v m => by rw [List.mem_singleton.mp m]; exact h2
    have := chW_ok ns _ (k + 1) w1 g1 fun z m => h3 z (List.mem_cons_of_mem _ m)
    rw [List.length_cons, show k + (ns.length + 1) = k + 1 + ns.length by omega]
    exact this
theorem chT_sz : ∀ (ns : List Int) (x : Th), (chT x ns).sz = x.sz + 6 * ns.length
  | [], x => by simp [chT]
  | n :: ns, x => by
    show (chT (.t [.t [.i 1, .i n, .t [x]], .t []]) ns).sz = _
    rw [chT_sz ns]
    simp only [Th.sz_t, Th.szs_cons, Th.szs_nil, Th.sz_i, List.length_cons]
    omega
theorem chT_dep : ∀ (ns : List Int) (x : Th), (chT x ns).dep ≤ x.dep + 3 * ns.length
  | [], x => by simp [chT]
  | n :: ns, x => by
    show (chT (.t [.t [.i 1, .i n, .t [x]], .t []]) ns).dep ≤ _
    have := chT_dep ns (.t [.t [.i 1, .i n, .t [x]], .t []])
    simp only [Th.dep_t, Th.deps_cons, Th.deps_nil, Th.dep_i, List.length_cons] at *
    omega
theorem chT_bad : ∀ (ns : List Int) (x : Th), Bd x → Bd (chT x ns)
  | [], _, h => h
  | n :: ns, x, h => chT_bad ns _ (bd_held h (by simp [Th.held, Th.heldB]))
def spDeep (K : PySem.W.Frag) : Sp := fun vs H Q _ => ∃ p c v t, vs = [.ref p, v] ∧ HandAt H p c ∧ ThAt K H v t ∧ Bd t ∧ t.sz ≤ 6000 ∧ t.dep ≤ 64 ∧ ∀ H', Q (.bl true) H'
section
variable {P : Program} {w : World} {K : PySem.W.Frag} {mg : Str → Option Value} {base : Heap}
theorem scDeep : FnScope ["_law_hand_here", "_law_thing", "_law_names", "_law_deep", "_law_whole_here", "_law_k"] ["_law_hand_here", "_law_thing"] (defScope sDeep) := ⟨rfl, rfl, rfl, by decide +kernel, rfl, by decide +kernel, by decide +kernel⟩
open Classical in
theorem ok_deep (D : DefAt K mg "_law_deep_right" sDeep) (B : Bt mg) (C_name : Cal P w K mg base CX0 161 "_law_name" ["_law_hand_here"] spName) (C_take : Cal P w K mg base CX0 161 "_law_take" ["_law_hand_here", "_law_many"] spTake) (C_chain : Cal P w K mg base CX0 161 "_law_chain" ["_law_thing", "_law_names"] (spChain K))
    (Cmade_worth : Cal P w K mg base CX0 161 "made_worth" ["name", "worths"] (spMade K)) (C_exact : Cal P w K mg base CX0 161 "_law_exact" ["_law_told", "_law_due"] (spExact K 150)) (C_told_right : Cal P w K mg base CX0 161 "_law_told_right" ["_law_worth"] (spRight K)) (Cis_worth : Cal P w K mg base CX0 161 "is_worth" ["thing"] (spIsWorth K)) :
    Cal P w K mg base CX0 162 "_law_deep_right" ["_law_hand_here", "_law_thing"] (spDeep K) := by
  refine D.cal (fun _ _ _ _ _ _ us hl => match us, hl with | [_, _], _ => rfl) fun f fd F => ?_
  refine F.ok scDeep (fun vs H Q E h => ?_) (fun cdv A outer s H vs Q E HR h => ?_)
  · obtain ⟨p, c, v, t, rfl, _⟩ := h
    rfl
  · obtain ⟨p, c, v, t, rfl, hp, hv, bd, zt, dt, k⟩ := h
    refine ⟨_, (pss_cons (ps_setLc (i := 2) (own := [("_law_k", 5)]) (g := gName 5) (tt := tYes) (te := tCal spName E0 (tCons (tVar 0) tNil)) rfl scDeep.nd rfl rfl (sw_true rfl rfl rfl (by decide +kernel)) (pi_range1 (by rfl) B.range (pa_cons pe_int pa_nil)) (blkOk_by (own := [("_law_k", 5)]) (N := ["_law_hand_here", "_law_thing", "_law_names", "_law_deep", "_law_whole_here", "_law_k"]) (sc := defScope sDeep) (by decide +kernel)) (fun _ _ _ _ _ => (pg_name (i := 5) scDeep.nd rfl (Or.inl rfl))) (fun _ _ _ _ _ => pts_nil) (fun _ _ _ _ _ => (pe_cal C_name (by rfl) HR pass0 (pa_cons (pv 0) pa_nil))))
  (pss_cons (ps_set (i := 3) scDeep.nd rfl (Or.inl rfl) (pe_cal C_chain (by rfl) HR pass0 (pa_cons (pe_tup (pa_cons (pe_tup (pa_cons pe_int (pa_cons (pe_cal C_take (by rfl) HR pass0 (pa_cons (pv 0) (pa_cons pe_int pa_nil))) pa_nil))) (pa_cons (pe_tup pa_nil) pa_nil))) (pa_cons (pe_slice sl_list (pv 2) po_none (po_some pe_int)) pa_nil))))
  (pss_cons (ps_set (i := 4) scDeep.nd rfl (Or.inl rfl) (pe_cal Cmade_worth (by rfl) HR pass0 (pa_cons (pe_ix ix_list (pv 2) pe_int (fun _ _ => rfl)) (pa_cons (pe_lst (pa_cons (pv 3) pa_nil)) pa_nil))))
  (pss_cons (ps_if (PW.pt (pw_or (pt_not (pt_val (pe_cal C_exact (by rfl) HR pass0 (pa_cons (pv 4) (pa_cons (pe_tup (pa_cons (pe_tup (pa_cons pe_int (pa_cons (pe_ix ix_list (pv 2) pe_int (fun _ _ => rfl)) (pa_cons (pe_tup (pa_cons (pv 3) pa_nil)) pa_nil)))) (pa_cons (pe_tup pa_nil) pa_nil))) pa_nil))))) (pw_or1 (pt_not (pt_val (pe_cal C_told_right (by rfl) HR pass0 (pa_cons (pv 4) pa_nil))))))) (pss_one (ps_ret pe_bl)) pss_nil)
  (pss_one (ps_ret (pe_cmpR op_isBl (pe_cal Cis_worth (by rfl) HR pass0 (pa_cons (pe_cal C_chain (by rfl) HR pass0 (pa_cons (pv 1) (pa_cons (pe_slice sl_list (pv 2) po_none (po_some pe_int)) pa_nil))) pa_nil)) pe_bl (nomark _)))))))), ?_⟩
    walk_at "go"
    have en : Int.toNat 30 = 30 := rfl
    rw [en]
    refine lpC_by wk_range (fun D i H2 => H D = none ∧ HandAt H2 p c ∧ But p H H2 ∧ ∃ ns : List Int, H2 D = some (.lst (ns.map V.int)) ∧ ns.length = i ∧ ∀ z ∈ ns, 0 ≤ z ∧ z < 100) (fun D nD => ⟨nD, hp.push nD, But.new nD, [], upd_same, rfl, fun z m => by cases m⟩) (fun _ _ _ _ _ => trivial) ?_ ?_
    · rintro D i y H2' H2 hi ⟨nD, hp2, b2, ns, eD, ln, hb⟩ ⟨rfl, rfl⟩
      walk_at "go"
      obtain ⟨n1, n2⟩ := hp.ne nD
      refine ⟨p, c, rfl, hp2, fun z H3 z0 z1 hp3 b3 => ⟨_, b3 _ _ n1 eD, ?_, nD, hp3.put n1 n2, fun b o nb e => ?_, ns ++ [z], ?_, by rw [List.length_append, ln]; rfl, fun u m => ?_⟩⟩
      · rw [List.length_map, ln]
        exact Nat.lt_of_lt_of_le hi (by decide)
      · rw [upd_ne (ne_of_none e nD)]
        exact b3 _ _ nb (b2 _ _ nb e)
      · rw [upd_same, List.map_append]; rfl
      · rcases List.mem_append.mp m with m | m
        · exact hb u m
        · rw [List.mem_singleton.mp m]; exact ⟨z0, z1⟩
    · rintro D H2 nD ⟨_, hp2, b2, ns, eD, ln, hb⟩
      walk_at "go"
      have kl0 := But.kl hp hp2 b2
      refine ⟨p, c, 3, rfl, by decide, by decide, hp2, fun r H3 r0 r3 hp3 b3 => ⟨by decide, fun p1 n1 => ⟨by decide, fun p2 n2 => ⟨by decide, fun p3 n3 => ?_⟩⟩⟩⟩
      obtain ⟨neDp, neDc⟩ := hp.ne nD
      have kl3 := kl0.trans (But.kl hp2 hp3 b3)
      have eD3 := b3 _ _ neDp eD
      have s23 := (same_new (o := .tup []) n2).trans (same_new (o := .tup [.ref p1, .ref p2]) n3)
      have s13 := (same_new (o := .tup [.int 0, .int r]) n1).trans s23
      have ab0 : At K (upd (upd (upd H3 p1 (.tup [.int 0, .int r])) p2 (.tup [])) p3 (.tup [.ref p1, .ref p2])) (.ref p3) (Tr.wor (Tr.base0 r) []) :=
        at_tup (SqT.of upd_same) (.cons (at_tup (SqT.of (s23 _ _ upd_same)) (.cons (at_int 0) (.cons (at_int r) .nil))) (.cons (at_tup (SqT.of ((same_new n3) _ _ upd_same)) .nil) .nil))
      have lns : (ns.map V.int).length = 30 := by rw [List.length_map]; exact ln
      refine ⟨D, ns.map V.int, rfl, SqL.of (s13 _ _ eD3), fun q nq => ?_⟩
      rw [show (some (29 : Int)) = some ((29 : Nat) : Int) from rfl, cut_take]
      have s14 := s13.trans (same_new (o := .lst ((ns.map V.int).take 29)) nq)
      refine ⟨.ref p3, (Tr.wor (Tr.base0 r) []).toTh, q, ns.take 29, rfl, (ThAt.of ab0).kl (Kl.new nq), SqL.of (by rw [upd_same, List.map_take]), by rw [List.length_take]; omega, fun vd H4 s4 ad => ?_⟩
      have s15 := s14.trans s4
      have eD4 := s15 _ _ eD3
      obtain ⟨n29, h29⟩ : ∃ z, ns[29]? = some z := ⟨_, List.getElem?_eq_getElem (by omega)⟩
      have b29 := hb n29 (List.mem_of_getElem? h29)
      have hat : atI (ns.map V.int) 29 = some (.int n29) := atI_nat (j := 29) (by rw [List.getElem?_map, h29]; rfl)
      have gw0 := Tr.gw_begun r0 (by omega : r ≤ 2)
      have wl0 : Tr.WL 1 (Tr.wor (Tr.base0 r) []) := ⟨_, _, rfl, .inl ⟨_, rfl⟩, by decide, fun t m => by cases m⟩
      have hb29 : ∀ z ∈ ns.take 29, 0 ≤ z ∧ z < 100 := fun z m => hb z (List.mem_of_mem_take m)
      obtain ⟨wlc, gwc⟩ := chW_ok (ns.take 29) _ 1 wl0 gw0 hb29
      have l29 : (ns.take 29).length = 29 := by rw [List.length_take]; omega
      rw [l29] at wlc
      have ad2 : At K H4 vd (chW (Tr.wor (Tr.base0 r) []) (ns.take 29)) := by
        rw [← chW_th] at ad
        exact ad.to
      refine ⟨_, SqL.of eD4, _, hat, by decide, fun p4 n4 => ?_⟩
      refine ⟨n29, .ref p4, [chW (Tr.wor (Tr.base0 r) []) (ns.take 29)], rfl, ⟨p4, [vd], rfl, .inl (SqL.of upd_same), .cons (ad2.kt (Kt.new n4)) .nil⟩, fun vw H5 s5 aw => ?_⟩
      have s45 := (same_new (o := .lst [vd]) n4).trans s5
      refine ⟨_, SqL.of (s45 _ _ eD4), _, hat, by decide, fun p5 n5 => ⟨by decide, fun p6 n6 => ⟨by decide, fun p7 n7 => ⟨by decide, fun p8 n8 => ?_⟩⟩⟩⟩
      have s78 := (same_new (o := .tup []) n7).trans (same_new (o := .tup [.ref p6, .ref p7]) n8)
      have s68 := (same_new (o := .tup [.int 1, .int n29, .ref p5]) n6).trans s78
      have s58 := (same_new (o := .tup [vd]) n5).trans s68
      have gww := Tr.gw_made (m := n29) (ws := [chW (Tr.wor (Tr.base0 r) []) (ns.take 29)]) b29.1 (by omega) (by simp) fun v m => by rw [List.mem_singleton.mp m]; exact gwc
      have wlw : Tr.WL 31 (Tr.wor (Tr.base1 n29 [chW (Tr.wor (Tr.base0 r) []) (ns.take 29)]) []) := wl_new (n := 30) fun v m => by rw [List.mem_singleton.mp m]; exact wlc
      have adue : At K (upd (upd (upd (upd H5 p5 (.tup [vd])) p6 (.tup [.int 1, .int n29, .ref p5])) p7 (.tup [])) p8 (.tup [.ref p6, .ref p7])) (.ref p8) (Tr.wor (Tr.base1 n29 [chW (Tr.wor (Tr.base0 r) []) (ns.take 29)]) []) :=
        at_tup (SqT.of upd_same) (.cons (at_tup (SqT.of (s78 _ _ upd_same)) (.cons (at_int 1) (.cons (at_int n29) (.cons (at_tup (SqT.of (s68 _ _ upd_same)) (.cons (ad2.kt (Kt.same (s45.trans s58))) .nil)) .nil)))) (.cons (at_tup (SqT.of ((same_new n8) _ _ upd_same)) .nil) .nil))
      have dw := wlw.dep_le
      refine ⟨vw, .ref p8, _, rfl, aw.kt (Kt.same s58), adue, by omega, nar_gw gww, fun H6 s6 => ⟨_, rfl, ite_f (by decide) ?_⟩⟩
      have szw : (Tr.wor (Tr.base1 n29 [chW (Tr.wor (Tr.base0 r) []) (ns.take 29)]) []).toTh.sz ≤ 80000 := by
        rw [Tr.wor_th, Tr.base1_th, List.map_cons, List.map_nil, chW_th]
        simp only [Th.sz_t, Th.szs_cons, Th.szs_nil, Th.sz_i, chT_sz, l29, Tr.wor_th, Tr.base0_th, List.map_nil]
        omega
      refine ⟨vw, _, rfl, .of ((aw.kt (Kt.same s58)).kt (Kt.same s6)), wlw.mono (by decide), gww, szw, fun H7 s7 => ⟨_, rfl, ite_f (by decide) ?_⟩⟩
      have s47 := ((s45.trans s58).trans s6).trans s7
      refine ⟨D, ns.map V.int, rfl, SqL.of (s47 _ _ eD4), fun q2 nq2 => ?_⟩
      rw [show (some (18 : Int)) = some ((18 : Nat) : Int) from rfl, cut_take]
      have s48 := s47.trans (same_new (o := .lst ((ns.map V.int).take 18)) nq2)
      refine ⟨v, t, q2, ns.take 18, rfl, hv.kl (kl3.trans (Kl.same (s15.trans s48))), SqL.of (by rw [upd_same, List.map_take]), by rw [List.length_take]; omega, fun vc H8 s8 ac => ?_⟩
      have l18 : (ns.take 18).length = 18 := by rw [List.length_take]; omega
      have z18 := chT_sz (ns.take 18) t
      have d18 := chT_dep (ns.take 18) t
      rw [l18] at z18 d18
      refine ⟨vc, _, rfl, ac, by omega, by omega, fun H9 s9 => ?_⟩
      rw [decide_eq_false (show ¬ _ from chT_bad (ns.take 18) t bd)]
      exact ⟨_, rfl, k H9⟩
end


set_option Elab.async false
set_option linter.all false
set_option maxRecDepth 100000
set_option maxHeartbeats 8000000
open PySem L2 StX


def spLaw (K : PySem.W.Frag) : Sp := fun vs H Q _ => ∃ (a : Addr) (ns : List Int), vs = [.ref a] ∧ SqL K H a (ns.map V.int) ∧ ns.length ≤ 63 ∧ ∀ H', Q (.bl true) H'
theorem px_of {K : PySem.W.Frag} {H : Hp} : ∀ {es : List (Tr × Nat)} {vs : List V}, (∀ e ∈ es, ∃ b, e.1 = Tr.wor b []) → Ats K H vs (enc es) → Paired (Pxe K H) vs es
  | [], _, _, h => by cases h; exact .nil
  | e :: es, _, k, h => by
    cases h with
    | cons a r =>
      refine .cons ?_ (px_of (fun x m => k x (List.mem_cons_of_mem _ m)) r)
      obtain ⟨x, xs, rfl, hx, ax⟩ := tup_at a
      obtain ⟨v1, v2, e1, b1, b2⟩ := ats2 ax
      subst e1
      rw [int_at b2] at hx
      obtain ⟨b, eb⟩ := k e List.mem_cons_self
      rw [eb] at b1
      exact ⟨x, v1, rfl, hx, by rw [eb]; exact .of b1⟩
theorem pxs_get {K : PySem.W.Frag} {H : Hp} : ∀ {vs : List V} {es : List (Tr × Nat)} {i : Nat} {v : V}, Paired (Pxe K H) vs es → vs[i]? = some v → ∃ e, es[i]? = some e ∧ Pxe K H v e
  | _, _, _, _, .nil, e => by simp at e
  | _, _, 0, _, .cons r _, e => by simp at e; subst e; exact ⟨_, rfl, r⟩
  | _, _, i + 1, v, .cons _ t, e => by
    obtain ⟨x, h1, h2⟩ := pxs_get (i := i) (v := v) t (by simpa using e)
    exact ⟨x, by simpa using h1, h2⟩
section
variable {P : Program} {w : World} {K : PySem.W.Frag} {mg : Str → Option Value} {base : Heap}
theorem scLaw : FnScope ["_law_script", "_law_hand_here", "_law_cells", "_law_pool", "_law_most", "_law_turn", "_law_entry", "_law_thing", "_law_cell"] ["_law_script"] (defScope sLaw) := ⟨rfl, rfl, rfl, by decide +kernel, rfl, by decide +kernel, by decide +kernel⟩
open Classical in
theorem ok_law (D : DefAt K mg "law" sLaw) (B : Bt mg) (C_hand : Cal P w K mg base CX0 163 "_law_hand" ["_law_script"] (spHand K)) (C_begun_pool : Cal P w K mg base CX0 163 "_law_begun_pool" [] (spPool K)) (C_take : Cal P w K mg base CX0 163 "_law_take" ["_law_hand_here", "_law_many"] spTake)
    (Cbegun_store : Cal P w K mg base CX0 163 "begun_store" ["cells"] (spBegun K)) (C_exact : Cal P w K mg base CX0 163 "_law_exact" ["_law_told", "_law_due"] (spExact K 150)) (C_grown : Cal P w K mg base CX0 163 "_law_grown" ["_law_hand_here", "_law_pool", "_law_most"] (spGrown K)) (C_told_right : Cal P w K mg base CX0 163 "_law_told_right" ["_law_worth"] (spRight K))
    (C_no_worth : Cal P w K mg base CX0 163 "_law_no_worth" ["_law_hand_here", "_law_worth"] (spNoWorth K)) (Cis_worth : Cal P w K mg base CX0 163 "is_worth" ["thing"] (spIsWorth K)) (C_within : Cal P w K mg base CX0 163 "_law_within" ["_law_hand_here", "_law_pool", "_law_thing"] (spWithin K)) (C_deep_right : Cal P w K mg base CX0 163 "_law_deep_right" ["_law_hand_here", "_law_thing"] (spDeep K)) :
    ∀ f fd, Fun K "law" "law" sLaw f fd → FnOk P w K mg base CX0 164 f fd ["_law_script"] (spLaw K) := by
  intro f fd F
  refine F.ok scLaw (fun vs H Q E h => ?_) (fun cdv A outer s H vs Q E HR h => ?_)
  · obtain ⟨a, ns, rfl, _⟩ := h
    rfl
  · obtain ⟨a, ns, rfl, hS, hlen, k⟩ := h
    refine ⟨_, (pss_cons (ps_set (i := 1) scLaw.nd rfl (Or.inl rfl) (pe_cal C_hand (by rfl) HR pass0 (pa_cons (pv 0) pa_nil)))
  (pss_cons (ps_for PassesOwn.never rfl (pi_range2 (by rfl) B.range (pa_cons pe_int (pa_cons pe_int pa_nil))) (pg_name (i := 2) scLaw.nd rfl (Or.inl rfl)) (pss_one (ps_if (pt_not (pt_val (pe_cal C_exact (by rfl) HR pass0 (pa_cons (pe_cal Cbegun_store (by rfl) HR pass0 (pa_cons (pv 2) pa_nil)) (pa_cons (pe_callTy call_tuple_of (by rfl) B.tuple (by decide +kernel) (pa_cons (pe_lc (own := [("_law_cell", 8)]) (g := gName 8) (tt := tYes) rfl scLaw.nd (pi_range1 (by rfl) B.range (pa_cons (pv 2) pa_nil)) (blkOk_by (own := [("_law_cell", 8)]) (N := ["_law_script", "_law_hand_here", "_law_cells", "_law_pool", "_law_most", "_law_turn", "_law_entry", "_law_thing", "_law_cell"]) (sc := defScope sLaw) (by decide +kernel)) (fun _ _ _ _ _ => (pg_name (i := 8) scLaw.nd rfl (Or.inl rfl))) (fun _ _ _ _ _ => pts_nil) (fun _ _ _ _ _ => (pe_tup (pa_cons (pe_tup (pa_cons pe_int (pa_cons (pv 8) pa_nil))) (pa_cons (pe_tup pa_nil) pa_nil))))) pa_nil)) pa_nil))))) (pss_one (ps_ret pe_bl)) pss_nil)))
  (pss_cons (ps_set (i := 3) scLaw.nd rfl (Or.inl rfl) (pe_cal0 C_begun_pool (by rfl) HR pass0))
  (pss_cons (ps_set (i := 4) scLaw.nd rfl (Or.inl rfl) (pe_ifExp (pt_cmpR op_eq (pe_cal C_take (by rfl) HR pass0 (pa_cons (pv 1) (pa_cons pe_int pa_nil))) pe_int (nomark _)) pe_int pe_int))
  (pss_cons (ps_for PassesOwn.never rfl (pi_range1 (by rfl) B.range (pa_cons (pe_op op_add pe_int (pe_cal C_take (by rfl) HR pass0 (pa_cons (pv 1) (pa_cons pe_int pa_nil)))) pa_nil)) (pg_name (i := 5) scLaw.nd rfl (Or.inl rfl)) (pss_one (ps_if (pt_not (pt_val (pe_cal C_grown (by rfl) HR pass0 (pa_cons (pv 1) (pa_cons (pv 3) (pa_cons (pv 4) pa_nil)))))) (pss_one (ps_ret pe_bl)) pss_nil)))
  (pss_cons (ps_for PassesOwn.never rfl (pi_list (pv 3)) (pg_name (i := 6) scLaw.nd rfl (Or.inl rfl)) (pss_one (ps_if (pt_not (pt_val (pe_cal C_told_right (by rfl) HR pass0 (pa_cons (pe_ix ix_tup (pv 6) pe_int (fun _ _ => rfl)) pa_nil)))) (pss_one (ps_ret pe_bl)) pss_nil)))
  (pss_cons (ps_for PassesOwn.never rfl (pi_range1 (by rfl) B.range (pa_cons pe_int pa_nil)) (pg_name (i := 5) scLaw.nd rfl (Or.inl rfl)) (pss_cons (ps_set (i := 7) scLaw.nd rfl (Or.inl rfl) (pe_cal C_no_worth (by rfl) HR pass0 (pa_cons (pv 1) (pa_cons (pe_ix ix_tup (pe_ix ix_list (pv 3) (pe_cal C_take (by rfl) HR pass0 (pa_cons (pv 1) (pa_cons (pe_callB call_len_seq (by rfl) B.len PySem.boot_len (pa_cons (pv 3) pa_nil)) pa_nil))) (fun _ _ => rfl)) pe_int (fun _ _ => rfl)) pa_nil))))
  (pss_cons (ps_if (pt_cmpR op_notBl (pe_cal Cis_worth (by rfl) HR pass0 (pa_cons (pv 7) pa_nil)) pe_bl (nomark _)) (pss_one (ps_ret pe_bl)) pss_nil)
  (pss_one (ps_if (pt_cmpR op_notBl (pe_cal Cis_worth (by rfl) HR pass0 (pa_cons (pe_cal C_within (by rfl) HR pass0 (pa_cons (pv 1) (pa_cons (pv 3) (pa_cons (pv 7) pa_nil)))) pa_nil)) pe_bl (nomark _)) (pss_one (ps_ret pe_bl)) pss_nil)))))
  (pss_one (ps_ret (pe_cal C_deep_right (by rfl) HR pass0 (pa_cons (pv 1) (pa_cons (pe_cal C_no_worth (by rfl) HR pass0 (pa_cons (pv 1) (pa_cons (pe_ix ix_tup (pe_ix ix_list (pv 3) (pe_cal C_take (by rfl) HR pass0 (pa_cons (pv 1) (pa_cons (pe_callB call_len_seq (by rfl) B.len PySem.boot_len (pa_cons (pv 3) pa_nil)) pa_nil))) (fun _ _ => rfl)) pe_int (fun _ _ => rfl)) pa_nil))) pa_nil)))))))))))), ?_⟩
    walk_at "go"
    refine ⟨a, ns, rfl, hS, hlen, fun p c H1 hp1 np s1 => ?_⟩
    walk_at "go"
    refine lp_by (wk_range (lo := 1) (n := 3)) (fun i σ H2 => ∃ t2, σ = [some (.ref a), some (.ref p), t2, none, none, none, none, none, none] ∧ Same H1 H2) ⟨none, rfl, Same.refl _⟩ (fun _ _ _ _ _ => trivial) ?_ ?_
    · rintro i y σ H2' H2 hi ⟨t2, rfl, s2⟩ ⟨rfl, rfl⟩
      have ei : (1 : Int) + (i : Nat) = ((1 + i : Nat) : Int) := by omega
      rw [ei]
      walk_at "go"
      refine ⟨1 + i, rfl, by omega, fun v H3 s3 a3 => ⟨by omega, by omega, ?_⟩⟩
      have en : Int.toNat ((1 + i : Nat) : Int) = 1 + i := by omega
      rw [en]
      refine lpC_by wk_range (fun D j H4 => H3 D = none ∧ Same H3 H4 ∧ j ≤ 1 + i ∧ LsAt K H4 D ((List.range j).map fun c => Tr.wor (Tr.base0 (c : Nat)) [])) (fun D nD => ⟨nD, same_new nD, Nat.zero_le _, [], upd_same, .nil⟩) (fun _ _ _ _ _ => trivial) ?_ ?_
      · rintro D j y H4' H4 hj ⟨nD, s4, j3, dvs, eD, aD⟩ ⟨rfl, rfl⟩
        walk_at "go"
        refine ⟨by decide, fun p1 n1 => ⟨by decide, fun p2 n2 => ⟨by decide, fun p3 n3 => ?_⟩⟩⟩
        rw [Int.zero_add] at *
        have s3' := ((same_new (o := .tup [.int 0, .int (j : Nat)]) n1).trans (same_new (o := .tup []) n2)).trans (same_new (o := .tup [.ref p1, .ref p2]) n3)
        have e1 := ((same_new (o := .tup []) n2).trans (same_new (o := .tup [.ref p1, .ref p2]) n3)) p1 _ upd_same
        have e2 := (same_new (o := .tup [.ref p1, .ref p2]) n3) p2 _ upd_same
        have r := acc_put (K := K) (t := Tr.wor (Tr.base0 (j : Nat)) []) nD (s4.trans s3') (s3' _ _ eD) (aD.kt (Kt.same s3'))
          (at_tup (SqT.of upd_same) (.cons (at_tup (SqT.of e1) (.cons (at_int 0) (.cons (at_int _) .nil))) (.cons (at_tup (SqT.of e2) .nil) .nil)))
        refine ⟨dvs, s3' _ _ eD, ?_, nD, r.1, by omega, ?_⟩
        · rw [aD.length, List.length_map, List.length_range]
          exact Nat.lt_of_le_of_lt (by omega : j ≤ 4) (by decide)
        · rw [List.range_succ, List.map_append]
          exact r.2
      · rintro D H4 nD ⟨_, s4, _, dvs, eD, aD⟩
        refine ⟨D, rfl, dvs, .inl ⟨SqL.of eD, fun l nl => ?_⟩⟩
        refine ⟨v, .ref l, begun (1 + i), rfl, a3.kt (Kt.same (s4.trans (same_new nl))), at_tup (SqT.of upd_same) (aD.kt (Kt.new nl)), ?_, ?_, fun H5 s5 => ⟨_, rfl, ite_f (by decide) (s2.trans (s3.trans ((s4.trans (same_new nl)).trans s5)))⟩⟩
        · unfold begun
          have := deps_le (n := 10) (xs := (List.range (1 + i)).map fun c => Tr.wor (Tr.base0 (c : Nat)) []) fun x m => by
            obtain ⟨cc, _, rfl⟩ := List.mem_map.mp m
            unfold Tr.wor Tr.base0
            simp only [Tr.dep_t, Tr.deps_cons, Tr.deps_nil, Tr.dep_i]
            omega
          rw [Tr.dep_t]; omega
        · refine .t (by rw [List.length_map, List.length_range]; omega) fun x m => ?_
          obtain ⟨cc, hc, rfl⟩ := List.mem_map.mp m
          have := List.mem_range.mp hc
          exact nar_gw (Tr.gw_begun (by omega) (by omega))
    · rintro σ H2 ⟨t2, rfl, s2⟩
      walk_at "go"
      refine ⟨rfl, fun q es0 H3 s3 nq ls3 po0 em0 => ?_⟩
      have hp3 := hp1.same (s2.trans s3)
      obtain ⟨qp, qc⟩ := (hp1.same s2).ne nq
      obtain ⟨vs0, eq0, aq0⟩ := ls3
      have px0 := px_of em0 aq0
      refine ⟨p, c, 4, rfl, by decide, by decide, hp3, fun r4 H4 _ _ hp4 b4 => ?_⟩
      have pxA : PX K H4 q es0 := ⟨vs0, b4 _ _ qp eq0, pxs_kt (But.kt hp3 b4) px0⟩
      show rEq (.int r4) (.int 0) H4 _
      rw [rEq_int]
      have most : ∀ (m : Nat), m ≤ 7 → True := fun _ _ => trivial
      refine ⟨_, rfl, ite2 (fun _ => ?_) (fun _ => ?_)⟩
      all_goals
        refine ⟨p, c, 7, rfl, by decide, by decide, hp4, fun r7 H5 r70 r77 hp5 b5 => ⟨r7, rfl, by omega, by omega, ?_⟩⟩
        have pxB : PX K H5 q es0 := by
          obtain ⟨vs4, e4, x4⟩ := pxA
          exact ⟨vs4, b5 _ _ qp e4, pxs_kt (But.kt hp4 b5) x4⟩
        have n8 : (2 + r7).toNat ≤ 8 := by omega
        refine lp_by wk_range (fun i σ H6 => i ≤ 8 → ∃ es t5 m, σ = [some (.ref a), some (.ref p), t2, some (.ref q), some (.int (m : Nat)), t5, none, none, none] ∧ m ≤ 7 ∧ HandAt H6 p c ∧ PX K H6 q es ∧ Pool (1 + i) es)
          (fun _ => by first | exact ⟨es0, none, 7, rfl, by decide, hp5, pxB, po0⟩ | exact ⟨es0, none, 4, rfl, by decide, hp5, pxB, po0⟩) (fun _ _ _ _ _ => trivial) ?_ ?_
        · rintro i y σ H6' H6 hi pv ⟨rfl, rfl⟩
          obtain ⟨es, t5, m, rfl, m7, hp6, px6, po6⟩ := pv (by omega)
          walk_at "go"
          refine ⟨p, c, q, 1 + i, es, m, rfl, Ne.symm qp, qc, m7, hp6, px6, po6, by omega, fun e H7 hp7 px7 po7 _ => ⟨_, rfl, ite_f (by decide) fun _ => ?_⟩⟩
          exact ⟨es ++ [e], _, m, rfl, rfl, m7, hp7, px7, by rw [show 1 + (i + 1) = (1 + i) + 1 by omega]; exact po7⟩
        · rintro σ H6 pv
          obtain ⟨es, t5, m, rfl, m7, hp6, ⟨vs6, e6, x6⟩, po6⟩ := pv n8
          have n9 : 1 + (2 + r7).toNat ≤ 9 := by omega
          generalize 1 + (2 + r7).toNat = n at po6 n9
          clear pv
          have good : ∀ e ∈ es, Tr.WL n e.1 ∧ Tr.GW e.1 ∧ e.1.toTh.sz ≤ 2990 ∧ e.1.dep ≤ 60 := fun e me => by
            obtain ⟨w1, w2, w3, w4, gw⟩ := po6.wt e me
            refine ⟨w1, gw, ?_, by have := w1.dep_le; omega⟩
            have h1 := Tr.sz_nodes w1
            rw [← nodes_up w1 (by omega : n ≤ 10)] at h1
            omega
          have lv6 : vs6.length = es.length := by
            have := (pxs_at x6).length
            rw [this]; exact List.length_map _
          have l3 := po6.three
          have l9 := po6.few
          walk_at "go"
          refine ⟨⟨_, SqL.of e6⟩, lp_by (wk_list (xs := vs6)) (fun i σ H7 => ∃ t6, σ = [some (.ref a), some (.ref p), t2, some (.ref q), some (.int (m : Nat)), t5, t6, none, none] ∧ Same H6 H7) ⟨none, rfl, Same.refl _⟩ (fun i σ H7 _ pv => by obtain ⟨_, _, s⟩ := pv; exact SqL.of (s _ _ e6)) ?_ ?_⟩
          · rintro i y σ H7' H7 hi ⟨t6, rfl, s7⟩ ⟨rfl, hy⟩
            obtain ⟨e, he, pe⟩ := pxs_get x6 hy
            obtain ⟨ea, wv, rfl, hea, wx⟩ := pe
            obtain ⟨g1, g2, g3, g4⟩ := good e (List.mem_of_getElem? he)
            walk_at "go"
            refine ⟨_, hea.kt (Kt.same s7), _, atI_0, wv, e.1, rfl, wx.kt (Kt.same s7), g1.mono (by omega), g2, by omega, fun H8 s8 => ⟨_, rfl, ite_f (by decide) ?_⟩⟩
            exact s7.trans s8
          · rintro σ H7 ⟨t6, rfl, s7⟩
            walk_at "go"
            have hp7 := hp6.same s7
            have e7 := s7 _ _ e6
            have x7 := pxs_kt (Kt.same s7) x6
            have pick : ∀ (r : Int) (H8 : Hp), 0 ≤ r → r < es.length → But p H7 H8 → ∃ ad wv e, atI vs6 r = some (.ref ad) ∧ SqT K H8 ad [wv, .int (e.2 : Nat)] ∧ At K H8 wv e.1 ∧ e ∈ es := fun r H8 r0 rm b => by
              obtain ⟨v, hv⟩ : ∃ v, vs6[r.toNat]? = some v := ⟨_, List.getElem?_eq_getElem (by omega)⟩
              obtain ⟨e, he, ea, wv, rfl, hea, wx⟩ := pxs_get x7 hv
              exact ⟨ea, wv, e, atI_int r0 hv, hea.kt (But.kt hp7 b), wx.at.kt (But.kt hp7 b), List.mem_of_getElem? he⟩
            have lsq : ∀ {H8 : Hp}, But p H7 H8 → H8 q = some (.lst vs6) := fun b => b _ _ qp e7
            have lsA : ∀ {H8 : Hp}, But p H7 H8 → LsAt K H8 q (enc es) := fun b => ⟨vs6, lsq b, (pxs_at x7).kt (But.kt hp7 b)⟩
            refine lp_by wk_range (fun i σ H8 => ∃ t5 t7, σ = [some (.ref a), some (.ref p), t2, some (.ref q), some (.int (m : Nat)), t5, t6, t7, none] ∧ HandAt H8 p c ∧ But p H7 H8) ⟨_, _, rfl, hp7, But.refl _ _⟩ (fun _ _ _ _ _ => trivial) ?_ ?_
            · rintro i y σ H8' H8 hi ⟨t5', t7, rfl, hp8, b8⟩ ⟨rfl, rfl⟩
              walk_at "go"
              refine ⟨vs6, .inl (SqL.of (lsq b8)), ?_⟩
              refine ⟨p, c, _, rfl, by omega, by omega, hp8, fun r H9 r0 rm hp9 b9 => ?_⟩
              have b79 := b8.trans b9
              obtain ⟨ad, wv, e, h1, h2, h3, h4⟩ := pick r H9 r0 (by omega) b79
              obtain ⟨g1, g2, g3, g4⟩ := good e h4
              refine ⟨vs6, r, rfl, SqL.of (lsq b79), _, h1, ad, rfl, _, h2, _, atI_0, ?_⟩
              refine ⟨p, c, wv, e.1, rfl, hp9, h3, g2, g3, g4, fun v t H10 hp10 b10 at10 bd zt dt => ?_⟩
              refine ⟨v, t, rfl, at10, by omega, by omega, fun H11 s11 => ?_⟩
              rw [decide_eq_false (show ¬ _ from bd)]
              refine ⟨false, rfl, ite_f (by decide) ?_⟩
              have b711 := (b79.trans b10).trans (But.of (p := p) s11)
              refine ⟨p, c, q, n, es, v, t, rfl, Ne.symm qp, hp10.same s11, lsA b711, po6, n9, at10.kl (Kl.same s11), bd, zt, dt, fun v2 u H12 hp12 b12 at12 bd2 zu du => ?_⟩
              refine ⟨v2, u, rfl, at12, by omega, by omega, fun H13 s13 => ?_⟩
              rw [decide_eq_false (show ¬ _ from bd2)]
              refine ⟨false, rfl, ite_f (by decide) ?_⟩
              exact ⟨hp12.same s13, (b711.trans b12).trans (But.of s13)⟩
            · rintro σ H8 ⟨t5', t7, rfl, hp8, b8⟩
              walk_at "go"
              refine ⟨vs6, .inl (SqL.of (lsq b8)), ?_⟩
              refine ⟨p, c, _, rfl, by omega, by omega, hp8, fun r H9 r0 rm hp9 b9 => ?_⟩
              have b79 := b8.trans b9
              obtain ⟨ad, wv, e, h1, h2, h3, h4⟩ := pick r H9 r0 (by omega) b79
              obtain ⟨g1, g2, g3, g4⟩ := good e h4
              refine ⟨vs6, r, rfl, SqL.of (lsq b79), _, h1, ad, rfl, _, h2, _, atI_0, ?_⟩
              refine ⟨p, c, wv, e.1, rfl, hp9, h3, g2, g3, g4, fun v t H10 hp10 b10 at10 bd zt dt => ?_⟩
              exact ⟨p, c, v, t, rfl, hp10, at10, bd, zt, dt, k⟩
end


set_option Elab.async false
set_option linter.all false
set_option maxRecDepth 100000
set_option maxHeartbeats 8000000
open PySem L2 StX
section
variable {P : Program} {w : World} {K : PySem.W.Frag} {mg : Str → Option Value} {base : Heap}
theorem all_text (D : DefAt K mg "worth_text" sText) (D2 : DefAt K mg "_call_text" sCall) (B : Bt mg) : ∀ n : Nat, Cal P w K mg base CX0 (2 * n + 1) "worth_text" ["worth"] (spText K n)
  | 0 => by
    refine D.cal (fun _ _ _ _ _ _ us hl => match us, hl with | [_], _ => rfl) fun f fd F => ?_
    constructor
    · rintro vs H Q E ⟨_, _, _, _, h, _⟩
      exact h.elim
    · intros
      rename_i h
      obtain ⟨_, _, _, _, h, _⟩ := h
      exact h.elim
  | n + 1 => ok_text D B n (2 * n + 2) (ok_call D2 B n (2 * n + 1) (all_text D D2 B n))
theorem all_textD (D : DefAt K mg "_law_text_due" sTextD) (D2 : DefAt K mg "_law_call_due" sCallD) (B : Bt mg) : ∀ n : Nat, Cal P w K mg base CX0 (2 * n + 1) "_law_text_due" ["_law_worth"] (spText K n)
  | 0 => by
    refine D.cal (fun _ _ _ _ _ _ us hl => match us, hl with | [_], _ => rfl) fun f fd F => ?_
    constructor
    · rintro vs H Q E ⟨_, _, _, _, h, _⟩
      exact h.elim
    · intros
      rename_i h
      obtain ⟨_, _, _, _, h, _⟩ := h
      exact h.elim
  | n + 1 => ok_textD D B n (2 * n + 2) (ok_callD D2 B n (2 * n + 1) (all_textD D D2 B n))
end
theorem all_mk {l : PySem.W.OpenLaw} {w : World} {K : PySem.W.Frag} {h : Heap} {mg : Str → Option Value} {fa fl : Addr} (X : K.In h) (Gn : h.Ns mainGlobals mg) (hfa : mg "law" = some (.ref fa))
    {od4 an4 : Option Addr} {sl4 : Array (Option Value)} {oc4 kV4 dc4 pm4 cd4 ct4 : Value} {tHIGHEST_CELL tHIGHEST_NAME tMOST_POCKETS : Tok}
    (a4 : PySem.W.nsIn K mainGlobals "law" = some (some (.ref fl))) (l4 : K.lookup fl = some ⟨oc4, od4, .func (PySem.W.fnOf "law" "law" (defArgs sLaw) (defBody sLaw) (defScope sLaw) .none kV4 dc4 pm4 an4 cd4 ct4), sl4⟩) (c4 : PySem.W.codeIn K cd4 "law" = true) (k4 : PySem.W.keepIn K (.ref fl) = true)
    (dw : DefD K mg "is_whole" sWhole [.non, .non])
    (dis_worth : DefAt K mg "is_worth" sIsWorth)
    (d_has_form : DefAt K mg "_has_form" sForm)
    (d_is_base : DefAt K mg "_is_base" sBase)
    (d_is_turn : DefAt K mg "_is_turn" sTurn)
    (d_is_ascending : DefAt K mg "_is_ascending" sAscend)
    (dbegun_store : DefAt K mg "begun_store" sBegun)
    (dmade_worth : DefAt K mg "made_worth" sMade)
    (dadded_worth : DefAt K mg "added_worth" sAdded)
    (dparts_of : DefAt K mg "parts_of" sParts)
    (d_held_worths : DefAt K mg "_held_worths" sHeld)
    (deach_once : DefAt K mg "each_once" sOnce)
    (dbags_within : DefAt K mg "bags_within" sBags)
    (dworth_text : DefAt K mg "worth_text" sText)
    (d_call_text : DefAt K mg "_call_text" sCall)
    (d_law_hand : DefAt K mg "_law_hand" sHand)
    (d_law_mixed : DefAt K mg "_law_mixed" sMixed)
    (d_law_take : DefAt K mg "_law_take" sTake)
    (d_law_whole : DefAt K mg "_law_whole" sIsW)
    (d_law_exact : DefAt K mg "_law_exact" sExact)
    (d_law_given : DefAt K mg "_law_given" sGiven)
    (d_law_begun_pool : DefAt K mg "_law_begun_pool" sPool)
    (d_law_pick : DefAt K mg "_law_pick" sPick)
    (d_law_name : DefAt K mg "_law_name" sName)
    (d_law_picks : DefAt K mg "_law_picks" sPicks)
    (d_law_turned : DefAt K mg "_law_turned" sTurned)
    (d_law_unlike : DefAt K mg "_law_unlike" sUnlike)
    (d_law_parts_due : DefAt K mg "_law_parts_due" sPartsD)
    (d_law_bags_due : DefAt K mg "_law_bags_due" sBagsD)
    (d_law_call_due : DefAt K mg "_law_call_due" sCallD)
    (d_law_text_due : DefAt K mg "_law_text_due" sTextD)
    (d_law_made_told : DefAt K mg "_law_made_told" sMadeT)
    (d_law_added_told : DefAt K mg "_law_added_told" sAddedT)
    (d_law_grown : DefAt K mg "_law_grown" sGrown)
    (d_law_bad_base : DefAt K mg "_law_bad_base" sBadBase)
    (d_law_bad_bag : DefAt K mg "_law_bad_bag" sBadBag)
    (d_law_no_worth : DefAt K mg "_law_no_worth" sNoWorth)
    (d_law_within : DefAt K mg "_law_within" sWithin)
    (d_law_told_right : DefAt K mg "_law_told_right" sRight)
    (d_law_chain : DefAt K mg "_law_chain" sChain)
    (d_law_deep_right : DefAt K mg "_law_deep_right" sDeep)
    (zlen : PySem.W.nsIn K mainGlobals "len" = some none)
    (zint : PySem.W.nsIn K mainGlobals "int" = some none)
    (zabs : PySem.W.nsIn K mainGlobals "abs" = some none)
    (zbool : PySem.W.nsIn K mainGlobals "bool" = some none)
    (zstr : PySem.W.nsIn K mainGlobals "str" = some none)
    (zlist : PySem.W.nsIn K mainGlobals "list" = some none)
    (ztuple : PySem.W.nsIn K mainGlobals "tuple" = some none)
    (zrange : PySem.W.nsIn K mainGlobals "range" = some none)
    (zisinstance : PySem.W.nsIn K mainGlobals "isinstance" = some none)
    (zsorted : PySem.W.nsIn K mainGlobals "sorted" = some none)
    (zsum : PySem.W.nsIn K mainGlobals "sum" = some none)
    (zall : PySem.W.nsIn K mainGlobals "all" = some none)
    (zenumerate : PySem.W.nsIn K mainGlobals "enumerate" = some none)
    (zzip : PySem.W.nsIn K mainGlobals "zip" = some none)
    (gHIGHEST_CELL : PySem.W.nsIn K mainGlobals "HIGHEST_CELL" = some (some (.int 2 tHIGHEST_CELL)))
    (gHIGHEST_NAME : PySem.W.nsIn K mainGlobals "HIGHEST_NAME" = some (some (.int 99 tHIGHEST_NAME)))
    (gMOST_POCKETS : PySem.W.nsIn K mainGlobals "MOST_POCKETS" = some (some (.int 4 tMOST_POCKETS))) :
    ∃ fd : FuncData, (∀ (s : Shared) (v : Value), BindsTo s fd ⟨[v], []⟩ [("_law_script", v)]) ∧ ∀ base : Heap, K.In base → base.Ns mainGlobals mg → FnOk l.prog w K mg base CX0 164 fa fd ["_law_script"] (spLaw K) := by
  have e := hfa.symm.trans (PySem.W.mg_of X Gn a4)
  cases e
  have F4 := fun_mk (st := sLaw) l4 c4 k4
  have B : Bt mg := ⟨PySem.W.mg_none_of X Gn zlen, PySem.W.mg_none_of X Gn zint, PySem.W.mg_none_of X Gn zabs, PySem.W.mg_none_of X Gn zbool, PySem.W.mg_none_of X Gn zstr, PySem.W.mg_none_of X Gn zlist, PySem.W.mg_none_of X Gn ztuple, PySem.W.mg_none_of X Gn zrange, PySem.W.mg_none_of X Gn zisinstance, PySem.W.mg_none_of X Gn zsorted, PySem.W.mg_none_of X Gn zsum, PySem.W.mg_none_of X Gn zall, PySem.W.mg_none_of X Gn zenumerate, PySem.W.mg_none_of X Gn zzip, ⟨_, PySem.W.mg_of X Gn gHIGHEST_CELL⟩, ⟨_, PySem.W.mg_of X Gn gHIGHEST_NAME⟩, ⟨_, PySem.W.mg_of X Gn gMOST_POCKETS⟩⟩
  refine ⟨PySem.W.fnOf "law" "law" (defArgs sLaw) (defBody sLaw) (defScope sLaw) .none kV4 dc4 pm4 an4 cd4 ct4, fun s v => .of_eq rfl, fun base _ _ => ?_⟩
  have CM := ok_mixed (P := l.prog) (w := w) (base := base) d_law_mixed B
  have CH := ok_hand (P := l.prog) (w := w) (base := base) d_law_hand B
  have CT := ok_take d_law_take B CM
  have CO := ok_once (P := l.prog) (w := w) (base := base) deach_once B
  have CHe := ok_held (P := l.prog) (w := w) (base := base) d_held_worths B
  have CHh := ok_heldH (P := l.prog) (w := w) (base := base) d_held_worths B
  have CP := ok_parts dparts_of B CO CHe
  have CB := ok_bags dbags_within B CO
  have CI := ok_isW (P := l.prog) (w := w) (base := base) d_law_whole B
  have CE := ok_exact d_law_exact B CI 150
  have CU := ok_unlike (P := l.prog) (w := w) (base := base) d_law_unlike B
  have CPD := ok_partsD d_law_parts_due B CU
  have CW := ok_whole (P := l.prog) (w := w) (base := base) dw B
  have CTn := ok_turn d_is_turn B CW
  have CBs := ok_base d_is_base B (Cal.mono CW (by decide)) CTn
  have CF := ok_form d_has_form B CBs (Cal.mono CTn (by decide))
  have CAs := ok_ascend (P := l.prog) (w := w) (base := base) d_is_ascending B
  have CIs := ok_isWorth dis_worth B CF (Cal.mono CHh (by decide)) (Cal.mono CAs (by decide))
  have CPk := ok_pick d_law_pick B CT
  have CPo := ok_pool (P := l.prog) (w := w) (base := base) d_law_begun_pool B
  have CN := ok_name d_law_name B CT
  have CG := ok_given d_law_given B CT
  have CTu := ok_turned (P := l.prog) (w := w) (base := base) d_law_turned B
  have CPs := ok_picks d_law_picks B (Cal.mono CT (by decide)) CPk
  have CBg := ok_begun (P := l.prog) (w := w) (base := base) dbegun_store B
  have CMd := ok_made (P := l.prog) (w := w) (base := base) dmade_worth B
  have CAd := ok_added (P := l.prog) (w := w) (base := base) dadded_worth B
  have CBd := ok_bagsD (P := l.prog) (w := w) (base := base) d_law_bags_due B
  have CTx := all_text (P := l.prog) (w := w) (base := base) dworth_text d_call_text B 32
  have CTd := all_textD (P := l.prog) (w := w) (base := base) d_law_text_due d_law_call_due B 32
  have CMt := ok_madeT d_law_made_told B (Cal.mono CG (by decide)) (Cal.mono CE (by decide)) (Cal.mono CMd (by decide))
  have CAt := ok_addedT d_law_added_told B (Cal.mono CG (by decide)) (Cal.mono CE (by decide)) (Cal.mono CAd (by decide)) (Cal.mono CTu (by decide)) (Cal.mono CPs (by decide)) (Cal.mono CN (by decide)) (Cal.mono CT (by decide))
  have CGr := ok_grown d_law_grown B (Cal.mono CT (by decide)) (Cal.mono CPk (by decide)) (Cal.mono CPs (by decide)) (Cal.mono CN (by decide)) (Cal.mono CTu (by decide)) CMt CAt
  have CBb := ok_badBase d_law_bad_base B (Cal.mono CT (by decide)) (Cal.mono CN (by decide))
  have CBa := ok_badBag d_law_bad_bag B (Cal.mono CT (by decide))
  have CNw := ok_noWorth d_law_no_worth B (Cal.mono CT (by decide)) CBb CBa
  have CWi := ok_within d_law_within B (Cal.mono CT (by decide)) (Cal.mono CN (by decide))
  have CR := ok_right d_law_told_right B (Cal.mono CIs (by decide)) (Cal.mono CTx (by decide)) (Cal.mono CTd (by decide)) (Cal.mono CE (by decide)) (Cal.mono CP (by decide)) (Cal.mono CPD (by decide)) (Cal.mono CB (by decide)) (Cal.mono CBd (by decide))
  have CCh := ok_chain (P := l.prog) (w := w) (base := base) d_law_chain B
  have CD := ok_deep d_law_deep_right B (Cal.mono CN (by decide)) (Cal.mono CT (by decide)) (Cal.mono CCh (by decide)) (Cal.mono CMd (by decide)) (Cal.mono CE (by decide)) CR (Cal.mono CIs (by decide))
  exact ok_law ⟨_, _, F4, hfa⟩ B (Cal.mono CH (by decide)) (Cal.mono CPo (by decide)) (Cal.mono CT (by decide)) (Cal.mono CBg (by decide)) (Cal.mono CE (by decide)) (Cal.mono CGr (by decide)) (Cal.mono CR (by decide)) CNw (Cal.mono CIs (by decide)) CWi (Cal.mono CD (by decide)) _ _ F4
theorem walk {l : PySem.W.OpenLaw} {q : Program} {loose : List Str} {XP : (Str → Option Value) → Heap → Prop} {YP : World → Heap → Prop} {d : DefRec} {K : Params → PySem.W.Frag} (hn : l.most = some 63) (hdf : d.params.defaults = [])
    (hY : ∀ (w : World) (h : Heap), YP w h → (K w.params).In h)
    (F : ∀ (w : World) (mg : Str → Option Value) (fa : Addr) (h : Heap), (K w.params).In h → h.Ns mainGlobals mg → mg d.name = some (.ref fa) →
      ∃ fd : FuncData, (∀ (s : Shared) (u : Value), BindsTo s fd ⟨[u], []⟩ [("_law_script", u)]) ∧ ∀ base : Heap, (K w.params).In base → base.Ns mainGlobals mg → FnOk l.prog w (K w.params) mg base CX0 164 fa fd ["_law_script"] (spLaw (K w.params))) :
    PySem.W.WalkO q loose XP YP l.row.toRowW d [] (fun f vs => PySem.call f vs) :=
  L2.walk_of (n := 63) (k := 164) (x := "_law_script") (CX := fun _ => CX0) (sp := fun w => spLaw (K w.params)) hn (by decide) hdf ⟨rfl, by decide, by decide⟩ hY F (fun _ _ a ns hl _ hS => ⟨a, ns, rfl, hS, hl, fun _ => rfl⟩) fun _ _ _ _ _ z => z
end K04

open PySem PySem.W PyProof.Rows
set_option Elab.async false
set_option maxRecDepth 100000 in
set_option maxHeartbeats 0 in
theorem PySem.Challenge.cw_knownguards_k04_whole_worths_made_and_to_holds : PySem.Challenge.rw_knownguards_k04_whole_worths_made_and_to.Holds := by
  w_on; o_law; k_head; (case hw => w_witness2)
  k_fill
  refine K04.walk (l := PySem.Challenge.rw_knownguards_k04_whole_worths_made_and_to) rfl rfl (fun w h Y => PySem.W.kIn_of Y) ?F
  case F =>
    intro w mg fa h KX G hmg
    refine' K04.all_mk KX G hmg ?a4 ?l4 ?c4 ?k4 ?dw ?dis_worth ?d_has_form ?d_is_base ?d_is_turn ?d_is_ascending ?dbegun_store ?dmade_worth ?dadded_worth ?dparts_of ?d_held_worths ?deach_once ?dbags_within ?dworth_text ?d_call_text ?d_law_hand ?d_law_mixed ?d_law_take ?d_law_whole ?d_law_exact ?d_law_given ?d_law_begun_pool ?d_law_pick ?d_law_name ?d_law_picks ?d_law_turned ?d_law_unlike ?d_law_parts_due ?d_law_bags_due ?d_law_call_due ?d_law_text_due ?d_law_made_told ?d_law_added_told ?d_law_grown ?d_law_bad_base ?d_law_bad_bag ?d_law_no_worth ?d_law_within ?d_law_told_right ?d_law_chain ?d_law_deep_right ?zlen ?zint ?zabs ?zbool ?zstr ?zlist ?ztuple ?zrange ?zisinstance ?zsorted ?zsum ?zall ?zenumerate ?zzip ?gHIGHEST_CELL ?gHIGHEST_NAME ?gMOST_POCKETS
    (case a4 => k_is); (case l4 => k_is); (case c4 => k_is); (case k4 => k_is)
    (case dw => (refine' L2.defD_mk (its := [.none, .none]) KX G ?x1 ?x2 ?x3 ?x4 ?x5 ?x6 ?x7 ?x8; (case x1 => k_is); (case x2 => k_is); (case x3 => k_is); (case x4 => k_is); (case x5 => k_is); (case x6 => rfl); (case x7 => simp); (case x8 => exact .cons rfl (.cons rfl .nil))))
    (case dis_worth => (refine' L2.defAt_mk KX G ?x1 ?x2 ?x3 ?x4; (case x1 => k_is); (case x2 => k_is); (case x3 => k_is); (case x4 => k_is)))
    (case d_has_form => (refine' L2.defAt_mk KX G ?x1 ?x2 ?x3 ?x4; (case x1 => k_is); (case x2 => k_is); (case x3 => k_is); (case x4 => k_is)))
    (case d_is_base => (refine' L2.defAt_mk KX G ?x1 ?x2 ?x3 ?x4; (case x1 => k_is); (case x2 => k_is); (case x3 => k_is); (case x4 => k_is)))
    (case d_is_turn => (refine' L2.defAt_mk KX G ?x1 ?x2 ?x3 ?x4; (case x1 => k_is); (case x2 => k_is); (case x3 => k_is); (case x4 => k_is)))
    (case d_is_ascending => (refine' L2.defAt_mk KX G ?x1 ?x2 ?x3 ?x4; (case x1 => k_is); (case x2 => k_is); (case x3 => k_is); (case x4 => k_is)))
    (case dbegun_store => (refine' L2.defAt_mk KX G ?x1 ?x2 ?x3 ?x4; (case x1 => k_is); (case x2 => k_is); (case x3 => k_is); (case x4 => k_is)))
    (case dmade_worth => (refine' L2.defAt_mk KX G ?x1 ?x2 ?x3 ?x4; (case x1 => k_is); (case x2 => k_is); (case x3 => k_is); (case x4 => k_is)))
    (case dadded_worth => (refine' L2.defAt_mk KX G ?x1 ?x2 ?x3 ?x4; (case x1 => k_is); (case x2 => k_is); (case x3 => k_is); (case x4 => k_is)))
    (case dparts_of => (refine' L2.defAt_mk KX G ?x1 ?x2 ?x3 ?x4; (case x1 => k_is); (case x2 => k_is); (case x3 => k_is); (case x4 => k_is)))
    (case d_held_worths => (refine' L2.defAt_mk KX G ?x1 ?x2 ?x3 ?x4; (case x1 => k_is); (case x2 => k_is); (case x3 => k_is); (case x4 => k_is)))
    (case deach_once => (refine' L2.defAt_mk KX G ?x1 ?x2 ?x3 ?x4; (case x1 => k_is); (case x2 => k_is); (case x3 => k_is); (case x4 => k_is)))
    (case dbags_within => (refine' L2.defAt_mk KX G ?x1 ?x2 ?x3 ?x4; (case x1 => k_is); (case x2 => k_is); (case x3 => k_is); (case x4 => k_is)))
    (case dworth_text => (refine' L2.defAt_mk KX G ?x1 ?x2 ?x3 ?x4; (case x1 => k_is); (case x2 => k_is); (case x3 => k_is); (case x4 => k_is)))
    (case d_call_text => (refine' L2.defAt_mk KX G ?x1 ?x2 ?x3 ?x4; (case x1 => k_is); (case x2 => k_is); (case x3 => k_is); (case x4 => k_is)))
    (case d_law_hand => (refine' L2.defAt_mk KX G ?x1 ?x2 ?x3 ?x4; (case x1 => k_is); (case x2 => k_is); (case x3 => k_is); (case x4 => k_is)))
    (case d_law_mixed => (refine' L2.defAt_mk KX G ?x1 ?x2 ?x3 ?x4; (case x1 => k_is); (case x2 => k_is); (case x3 => k_is); (case x4 => k_is)))
    (case d_law_take => (refine' L2.defAt_mk KX G ?x1 ?x2 ?x3 ?x4; (case x1 => k_is); (case x2 => k_is); (case x3 => k_is); (case x4 => k_is)))
    (case d_law_whole => (refine' L2.defAt_mk KX G ?x1 ?x2 ?x3 ?x4; (case x1 => k_is); (case x2 => k_is); (case x3 => k_is); (case x4 => k_is)))
    (case d_law_exact => (refine' L2.defAt_mk KX G ?x1 ?x2 ?x3 ?x4; (case x1 => k_is); (case x2 => k_is); (case x3 => k_is); (case x4 => k_is)))
    (case d_law_given => (refine' L2.defAt_mk KX G ?x1 ?x2 ?x3 ?x4; (case x1 => k_is); (case x2 => k_is); (case x3 => k_is); (case x4 => k_is)))
    (case d_law_begun_pool => (refine' L2.defAt_mk KX G ?x1 ?x2 ?x3 ?x4; (case x1 => k_is); (case x2 => k_is); (case x3 => k_is); (case x4 => k_is)))
    (case d_law_pick => (refine' L2.defAt_mk KX G ?x1 ?x2 ?x3 ?x4; (case x1 => k_is); (case x2 => k_is); (case x3 => k_is); (case x4 => k_is)))
    (case d_law_name => (refine' L2.defAt_mk KX G ?x1 ?x2 ?x3 ?x4; (case x1 => k_is); (case x2 => k_is); (case x3 => k_is); (case x4 => k_is)))
    (case d_law_picks => (refine' L2.defAt_mk KX G ?x1 ?x2 ?x3 ?x4; (case x1 => k_is); (case x2 => k_is); (case x3 => k_is); (case x4 => k_is)))
    (case d_law_turned => (refine' L2.defAt_mk KX G ?x1 ?x2 ?x3 ?x4; (case x1 => k_is); (case x2 => k_is); (case x3 => k_is); (case x4 => k_is)))
    (case d_law_unlike => (refine' L2.defAt_mk KX G ?x1 ?x2 ?x3 ?x4; (case x1 => k_is); (case x2 => k_is); (case x3 => k_is); (case x4 => k_is)))
    (case d_law_parts_due => (refine' L2.defAt_mk KX G ?x1 ?x2 ?x3 ?x4; (case x1 => k_is); (case x2 => k_is); (case x3 => k_is); (case x4 => k_is)))
    (case d_law_bags_due => (refine' L2.defAt_mk KX G ?x1 ?x2 ?x3 ?x4; (case x1 => k_is); (case x2 => k_is); (case x3 => k_is); (case x4 => k_is)))
    (case d_law_call_due => (refine' L2.defAt_mk KX G ?x1 ?x2 ?x3 ?x4; (case x1 => k_is); (case x2 => k_is); (case x3 => k_is); (case x4 => k_is)))
    (case d_law_text_due => (refine' L2.defAt_mk KX G ?x1 ?x2 ?x3 ?x4; (case x1 => k_is); (case x2 => k_is); (case x3 => k_is); (case x4 => k_is)))
    (case d_law_made_told => (refine' L2.defAt_mk KX G ?x1 ?x2 ?x3 ?x4; (case x1 => k_is); (case x2 => k_is); (case x3 => k_is); (case x4 => k_is)))
    (case d_law_added_told => (refine' L2.defAt_mk KX G ?x1 ?x2 ?x3 ?x4; (case x1 => k_is); (case x2 => k_is); (case x3 => k_is); (case x4 => k_is)))
    (case d_law_grown => (refine' L2.defAt_mk KX G ?x1 ?x2 ?x3 ?x4; (case x1 => k_is); (case x2 => k_is); (case x3 => k_is); (case x4 => k_is)))
    (case d_law_bad_base => (refine' L2.defAt_mk KX G ?x1 ?x2 ?x3 ?x4; (case x1 => k_is); (case x2 => k_is); (case x3 => k_is); (case x4 => k_is)))
    (case d_law_bad_bag => (refine' L2.defAt_mk KX G ?x1 ?x2 ?x3 ?x4; (case x1 => k_is); (case x2 => k_is); (case x3 => k_is); (case x4 => k_is)))
    (case d_law_no_worth => (refine' L2.defAt_mk KX G ?x1 ?x2 ?x3 ?x4; (case x1 => k_is); (case x2 => k_is); (case x3 => k_is); (case x4 => k_is)))
    (case d_law_within => (refine' L2.defAt_mk KX G ?x1 ?x2 ?x3 ?x4; (case x1 => k_is); (case x2 => k_is); (case x3 => k_is); (case x4 => k_is)))
    (case d_law_told_right => (refine' L2.defAt_mk KX G ?x1 ?x2 ?x3 ?x4; (case x1 => k_is); (case x2 => k_is); (case x3 => k_is); (case x4 => k_is)))
    (case d_law_chain => (refine' L2.defAt_mk KX G ?x1 ?x2 ?x3 ?x4; (case x1 => k_is); (case x2 => k_is); (case x3 => k_is); (case x4 => k_is)))
    (case d_law_deep_right => (refine' L2.defAt_mk KX G ?x1 ?x2 ?x3 ?x4; (case x1 => k_is); (case x2 => k_is); (case x3 => k_is); (case x4 => k_is)))
    (case zlen => k_is)
    (case zint => k_is)
    (case zabs => k_is)
    (case zbool => k_is)
    (case zstr => k_is)
    (case zlist => k_is)
    (case ztuple => k_is)
    (case zrange => k_is)
    (case zisinstance => k_is)
    (case zsorted => k_is)
    (case zsum => k_is)
    (case zall => k_is)
    (case zenumerate => k_is)
    (case zzip => k_is)
    (case gHIGHEST_CELL => k_is)
    (case gHIGHEST_NAME => k_is)
    (case gMOST_POCKETS => k_is)
