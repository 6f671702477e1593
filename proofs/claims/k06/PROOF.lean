import PyProof.Rows.All
import Wide.All
import OpenK.AllK
import Wide.FinOn
import HandS.ForMost
import HandS.Wide
import HandS.Style
import HandS.RevTup
import HandS.Rev
import HandS.IsInst
import HandS.More
import HandS.Conv
import HandS.Defaults
import HandS.ForExc
import HandS.OwnEq
import HandS.Flow
import PyProof.ListStr
import HandS.Exc
import HandS.ExcIs
import HandS.TryOnly
import HandS.ExcOwn
import HandS.WordsExc
import KE.KExcInit
import HandS.ExcInit
import HandS.ExcField
import KE.KExcIs
import HandS.ExcValue
import PyProof.Rows.FactsExc_KeyError
import HandS.Walk
import HandS.EndBits
import PyProof.ReprRoads
import PyProof.ReprLen
import PySem.Challenge.RW_hopline_k06_refusals
import PyProof.TupleOfStr
import KE.KExcLine

set_option Elab.async false
set_option linter.all false
set_option maxRecDepth 100000
namespace HopR
open PySem PySem.Spec PyProof.Rows L2
/-! ### an exception that is kept behind its suite -/
/-- the exception at a, of the class cls, its dict d, kept as a value -/
def ExH (cls : Value) (d : Option Addr) (a : Addr) : HO := .ext fun h => ∃ (oe : Obj) (vs : Array Value), h.get? a = some oe ∧ Zc cls d oe ∧ oe.data = .fields vs
theorem exH_ok {P : Program} {w : World} {H : Hp} {h : Heap} {a : Addr} {cls : Value} {d : Option Addr} {oe : Obj} {vs : Array Value} (e : h.get? a = some oe) (z : Zc cls d oe) (q : oe.data = .fields vs) : ObjOk P w H h a (ExH cls d a) :=
  ⟨⟨oe, vs, e, z, q⟩, ⟨oe, e⟩, fun _ _ ⟨o, v, q, r⟩ k => ⟨o, v, k o q, r⟩⟩
section
variable {X : Cx} {pins : List (Addr × Obj)} {σ σ0 : L2.St} {H H0 : Hp} {s sI : Shared} {a : Addr} {oe : Obj} {vs : Array Value} {o : HO}
/-- an object that came behind the entry is tracked from now on -/
theorem track (I : Inv X pins σ H s) (J : Inv X pins σ0 H0 sI) (hI : sI.heap.get? a = none) (hx : X.ex = []) (na : H a = none) (nL : a ≠ X.env.locals) (ha : s.heap.get? a = some oe) (hd : oe.data = .fields vs) (new : ObjOk X.prog X.w (upd H a o) s.heap a o) : Inv X pins σ (upd H a o) s := by
  have n0 : ∀ b u, X.s_0.heap.get? b = some u → b ≠ a := by
    intro b u e z
    subst z
    obtain ⟨u2, q⟩ := J.base.there b u e (by rw [hx]; exact fun z => nomatch z)
    rw [hI] at q
    cases q
  have nN : ∀ {b : Addr} {u : HO}, H b = some u → b ≠ a := fun e => ne_of_none e na
  have bs := I.base
  refine ⟨I.ok, I.os, I.bare, ⟨bs.keep, bs.slot, ?_, bs.there, ?_, ?_, ?_⟩, I.loc, I.cell, ?_, ?_, ?_, ?_, I.len⟩
  · intro b u e n q
    rw [upd_ne (n0 b u e)]
    exact bs.free b u e n q
  · intro b xs e
    have q := bs.tups b xs e
    rw [upd_ne (nN q)]
    exact q
  · intro b ob u e
    have q := bs.frzs b ob u e
    rw [upd_ne (nN q)]
    exact q
  · intro b ps e
    obtain ⟨m, q⟩ := bs.tbls b ps e
    exact ⟨m, by rw [upd_ne (nN q)]; exact q⟩
  · rw [upd_ne nL.symm]
    exact I.free
  · intro x c e
    have nc : c ≠ a := by
      intro z
      subst z
      obtain ⟨v, oc, e1, e2⟩ := I.cell x c e
      rw [ha] at e1
      cases e1
      rw [hd] at e2
      cases e2
    rw [upd_ne nc]
    exact I.freeC x c e
  · intro p hp
    have np : p.1 ≠ a := by
      intro z
      have q := (J.pin p hp).1
      rw [z, hI] at q
      cases q
    obtain ⟨e, n, r⟩ := I.pin p hp
    exact ⟨e, by rw [upd_ne np]; exact n, r⟩
  · intro b u e
    by_cases hb : b = a
    · subst hb
      rw [upd_same] at e
      cases e
      exact new
    · rw [upd_ne hb] at e
      refine (I.hok b u e).stay (fun c v _ q => q) (fun c q => ?_) (fun c xs q => ?_)
      · rw [upd_ne (nN q)]
        exact q
      · rw [upd_ne (nN q)]
        exact q
end
theorem fly_keeps {B h h' : Heap} {l : List Env} {a : Addr} {Z : Obj → Prop} (x : HandSPX.FlyingZ B l a Z h) (k : ∀ b o, h.get? b = some o → h'.get? b = some o) : HandSPX.FlyingZ B l a Z h' := by
  obtain ⟨x1, x2, x3, oe, vs, T, oT, ts, e1, e2, e3, e4, e5, e6, e7, e8, e9⟩ := x
  exact ⟨fun b o e => k b o (x1 b o e), x2, x3.of_keeps (fun b o e _ => ⟨o, k b o e, rfl⟩), oe, vs, T, oT, ts, k _ _ e1, e2, e3, e4, e5, e6, k _ _ e7, e8, e9⟩
/-- the clause's test takes the exceptions whose class has m -/
def Tests (X : Cx) (t : Expr) (m : Value → Prop) : Prop :=
  ∀ (a : Addr) (oe : Obj) (pn pins : List (Addr × Obj)) (σ : L2.St) (H : Hp) (s : Shared) (cls : Value) (Q : Value → Shared → Prop) (E : Value → Shared → Prop), Inv (X.suite a ((a, oe) :: pn)) pins σ H s → s.heap.get? a = some oe → oe.cls = cls → m cls →
    (∀ (c : Value) (h' : Heap), (∀ b o, s.heap.get? b = some o → h'.get? b = some o) → PySem.W.Looks (model X.prog X.w) h' (excMatches (.ref a) c) true → Q c { s with heap := h' }) → wpAny (model X.prog X.w) (X.A.mark (some (.ref a))) (eval t X.env) Q E s
theorem ld_nm {X : Cx} {x : Str} {c : Value} {pins : List (Addr × Obj)} {σ : L2.St} {H : Hp} {s : Shared} {Q : Value → Shared → Prop} {E : Value → Shared → Prop} {p : Pos} (I : Inv X pins σ H s) (hc : Names X x c) (q : Q c s) : wpAny (model X.prog X.w) X.A (eval (.Name x p) X.env) Q E s := by
  obtain ⟨g, nd, h | ⟨h1, h2, h3⟩⟩ := hc
  · exact ld_glob I g h q nd
  · exact ld_blt I g h1 h2 q h3 nd
theorem ty_looks {P : Program} {w : World} {h : Heap} {a : Addr} {oe : Obj} {cls : Value} (e : h.get? a = some oe) (c : oe.cls = cls) : PySem.W.Looks (model P w) h (typeOf (.ref a)) cls := by
  intro A Q E s k q
  exact wpAny_typeOf_ref (k _ _ e) (by rw [c]; exact q)
theorem tests_one {X : Cx} {x : Str} {c : Value} {p : Pos} (hc : Names X x c) : Tests X (.Name x p) fun cls => PySem.W.exmOne X.K cls c = some true := by
  intro a oe pn pins σ H s cls Q E I ha hcl hm k
  exact ld_nm (X := X.suite a ((a, oe) :: pn)) I hc (k c s.heap (fun _ _ z => z) (PySem.W.exm_one I.kIn (ty_looks ha hcl) hm))
theorem tests_two {X : Cx} {x1 x2 : Str} {c1 c2 : Value} {p1 p2 pos : Pos} {u} (h1 : Names X x1 c1) (h2 : Names X x2 c2) : Tests X (.Tuple [.Name x1 p1, .Name x2 p2] u pos) fun cls => PySem.W.exmAny X.K cls [c1, c2] = some true := by
  intro a oe pn pins σ H s cls Q E I ha hcl hm k
  refine wpAny_Tuple_spliced ?_
  refine Calls.spliced_cons (ld_nm (X := X.suite a ((a, oe) :: pn)) I h1 ?_)
  refine Calls.spliced_cons (ld_nm (X := X.suite a ((a, oe) :: pn)) I h2 (Calls.spliced_nil ⟨by show 2 ≤ sizeLine; decide, ?_⟩))
  have hk : ∀ b o, s.heap.get? b = some o → (s.heap.push { cls := .type "tuple", data := .seq [c1, c2].toArray }).get? b = some o := fun b o e => Heap.get?_push_of_some _ e
  refine k (.ref s.heap.objs.size) _ hk ?_
  exact PySem.W.exm_tup2 (fun b o e => hk b o (I.kIn b o e)) (ty_looks (hk _ _ ha) hcl) (Heap.get?_push_size _ rfl) hm
/-- what 'except .. as n: v = n' wishes of an exception of the body: it is taken, and kept in slot j; slot i, n's, is empty behind it -/
def wHeld (m : Value → Prop) (i j : Nat) (D : Ends) : WX := fun cls d σ H => m cls ∧ ∀ a, H a = none → D.nx (((σ.set i (some (.ref a))).set j (some (.ref a))).set i none) (upd H a (ExH cls d a))
section
variable {X : Cx} {n v : Str} {i j : Nat} {t : Expr} {m : Value → Prop} {body : List Stmt} {pos pos' p1 p2 p3 : Pos} {tb : WX → TS}
theorem ps_try_held (hs : X.stack = X.env :: X.outer) (hf : X.env.frame = some X.env.locals) (hN : X.N.Nodup) (hi : X.N[i]? = some n) (hj : X.N[j]? = some v) (hln : X.env.kindOf n = some .local) (hlv : X.env.kindOf v = some .local) (hx : X.ex = []) (ht : Tests X t m)
    (hb : ∀ (W : WX) (pn : List (Addr × Obj)) (xe : Value → Shared → Prop), Takes (X.tr pn xe) W → PassesOwn (model X.prog X.w) X.A X.env xe → PSs (X.tr pn xe) body (tb W))
    (hsu : ∀ (a : Addr) (oe : Obj) (pn : List (Addr × Obj)), PSs (X.suite a ((a, oe) :: pn)) [.Assign [.Name v p1] (.Name n p2) p3] (tAsg (tVar i) (gName j))) :
    PS X (.Try body [.ExceptHandler (some t) (some n) [.Assign [.Name v p1] (.Name n p2) p3] pos'] [] [] pos) (fun D σ H => tb (wHeld m i j D) D σ H) := by
  constructor
  intro pins s σ H D I h
  have ok := I.ok
  have frm : X.A.frames = some (X.env :: X.outer) := ok.frames.trans (congrArg some hs)
  have body_ := hb (wHeld m i j D) (X.pn ++ pins) (fun e s₁ => wpAny (model X.prog X.w) X.A (noteFrame e X.env) (fun _ s₂ => wpAny (model X.prog X.w) X.A (setFlight e none) (fun _ s₃ => wpAny (model X.prog X.w) X.A (handleBy e X.env [.ExceptHandler (some t) (some n) [.Assign [.Name v p1] (.Name n p2) p3] pos']) (SP X pins D) X.xe s₃) X.xe s₂) X.xe s₁) ?caught PassesOwn.looking
  · refine wpAny_Try_except (wpAny_mono (body_.run [] s σ H D (I.toTry _) h) ?_ fun _ _ z => z)
    intro f s1 hsp
    match f, hsp with
    | .next, ⟨σ', H', J', q⟩ => exact wpAny_execs_nil ⟨σ', H', J'.ofTry ok, q⟩
    | .brk, ⟨σ', H', J', q⟩ => exact ⟨σ', H', J'.ofTry ok, q⟩
    | .cont, ⟨σ', H', J', q⟩ => exact ⟨σ', H', J'.ofTry ok, q⟩
    | .ret u, ⟨v, σ', H', J', r, q⟩ => exact ⟨v, σ', H', J'.ofTry ok, r, q⟩
  case caught =>
    rintro u s' ⟨a, B, sI, pins', σ', H', cls, d, rfl, J', nb, up, sky, na, os, ag, hm, hk⟩
    have J : Inv X pins σ' H' sI := J'.ofTry ok
    have sk2 : Sky B (X.env :: X.outer) a (Zc cls d) X.env.locals s'.heap := hs ▸ sky
    show wpAny (model X.prog X.w) X.A (noteFrame (.ref a) X.env) _ _ _
    refine Sky.land Zc.steady frm hf sk2 fun h3 fl3 up3 => ?_
    have notF : ∀ {g : Heap}, HandSPX.FlyingZ B (X.env :: X.outer) a (Zc cls d) g → a ∉ frs (X.env :: X.outer) := by
      intro g fl hmem
      obtain ⟨o1, v1, e1, _, e3⟩ := fl.there
      obtain ⟨_, o2, e2, hn2⟩ := fl.2.2.1.mem hmem
      rw [e1] at e2
      cases e2
      exact hn2 _ e3
    have nfr := notF fl3
    have nL : a ≠ X.env.locals := by
      intro z
      exact nfr (List.mem_filterMap.mpr ⟨X.env, List.mem_cons_self, hf.trans (congrArg some z.symm)⟩)
    have nF : a ∉ X.fs := by
      intro z
      obtain ⟨e, he, q⟩ := List.mem_filterMap.mp z
      exact nfr (List.mem_filterMap.mpr ⟨e, List.mem_cons_of_mem _ he, q⟩)
    have nI : sI.heap.get? a = none := by
      cases e : sI.heap.get? a with
      | none => rfl
      | some o =>
        have q := nb a o e (by rw [hs]; exact nfr)
        rw [fl3.2.1] at q
        cases q
    obtain ⟨oe3, vs3, he3, hz3, hd3⟩ := fl3.there
    have J3 : Inv X pins σ' H' { s' with heap := h3 } := J.landed nb fl3.1 (up.trans up3) os ag
    refine wpAny_handleBy_cons (codeAny_handlers_test ?_) (fun q => nomatch q)
    refine ht a oe3 _ _ _ _ _ cls _ _ (J3.suite he3 hd3 na nL nF) he3 hz3.1 hm fun c h' kp lk => lk.here ?_
    refine codeAny_handlers_suite_as (HandSPX.lands_againZ (fly_keeps fl3 kp) fun h4 fl4 up4 => ?_)
    have upA : sI.heap.UpToSlots h4 := ((up.trans up3).trans (Heap.UpToSlots.of_keeps kp)).trans up4
    have J4 : Inv X pins σ' H' { s' with heap := h4 } := J.landed nb fl4.1 upA os ag
    obtain ⟨oe4, vs4, he4, hz4, hd4⟩ := fl4.there
    refine store_ok (X := X.suite a ((a, oe4) :: (X.pn ++ pins))) (v := .ref a) (J4.suite he4 hd4 na nL nF) hN hi (.inl hln) rfl (fun s5 S5 => ?_) (.inr hln)
    have hlen : i < σ'.length := by
      rw [J.len]
      exact (List.getElem?_eq_some_iff.mp hi).1
    refine wpAny_mono ((hsu a oe4 (X.pn ++ pins)).run [] s5 _ H' { nx := fun σ6 H6 => σ6 = (σ'.set i (some (.ref a))).set j (some (.ref a)) ∧ H6 = H', rt := fun _ _ => False } S5 ?_) (fun f s6 hsp => ?_) (fun _ _ z => False.elim z)
    · exact ⟨.ref a, by simp [hlen], rfl, rfl⟩
    match f, hsp with
    | .next, ⟨σ6, H6, S6, e6, e7⟩ =>
      subst e6 e7
      refine gone_ok (X := X.suite a ((a, oe4) :: (X.pn ++ pins))) S6 hN hi hln fun s7 S7 => ?_
      have ha7 := (S7.pin (a, oe4) (List.mem_append_left _ List.mem_cons_self)).1
      exact ⟨_, _, track (S7.unsuite ok) J nI hx na nL ha7 hd4 (exH_ok ha7 hz4 hd4), hk a na⟩
    | .brk, ⟨_, _, _, z⟩ => exact z.elim
    | .cont, ⟨_, _, _, z⟩ => exact z.elim
    | .ret u, ⟨_, _, _, _, _, z⟩ => exact z.elim
end
end HopR

set_option Elab.async false
set_option linter.all false
set_option maxRecDepth 100000
namespace HopR
open PySem PySem.Spec PyProof.Rows L2
/-! ### isinstance of a kept exception without a dict -/
section
variable {X : Cx}
theorem held_at {pins : List (Addr × Obj)} {σ : L2.St} {H : Hp} {s : Shared} {a D : Addr} (I : Inv X pins σ H s) (ha : H a = some (ExH (.ref D) none a)) : ∃ oe, PySem.W.InstAt s.heap a oe D none := by
  obtain ⟨⟨oe, vs, e, ⟨z1, z2⟩, q⟩, _, _⟩ := I.hok a _ ha
  obtain ⟨oc, od, oda, osl⟩ := oe
  dsimp only at z1 z2 q
  subst z1 z2 q
  exact ⟨_, e, rfl, rfl, trivial⟩
/-- isinstance(kept, c) -/
def rIsH (K : PySem.W.Frag) : List V → Hp → VK → Prop := fun xs H Q => ∃ (a D : Addr) (c : V) (cv : Value) (b : Bool), xs = [.ref a, c] ∧ H a = some (ExH (.ref D) none a) ∧ ExcC K D ∧ ClsV c cv ∧ PySem.W.kitOne K (.ref D) cv = some b ∧ Q (.bl b) H
theorem call_isH : CallR X (.builtin "isinstance") (rIsH X.K) := by
  rintro pins s σ H xs us Q I r ⟨a, D, c, cv, b, rfl, ha, C, kc, e, q⟩
  obtain ⟨u1, u2, rfl, r1, r2⟩ := vals2 r
  obtain rfl := kc.eq r2
  cases (show u1 = Value.ref a from r1)
  obtain ⟨oe, J⟩ := held_at I ha
  exact PySem.W.kia_one (PySem.W.handS_kitx_exc C.hg C.hk C.hs C.hd C.ha C.hn C.ht C.hm) I.kIn J e (fun z => nomatch z) fun tk => ⟨.bl b, H, I.tok tk, rfl, q⟩
/-- isinstance(kept, (c1, c2, ..)) -/
def rIsHT (K : PySem.W.Frag) : List V → Hp → VK → Prop := fun xs H Q => ∃ (a D tp : Addr) (cs : List V) (ws : List Value) (b : Bool), xs = [.ref a, .ref tp] ∧ H a = some (ExH (.ref D) none a) ∧ ExcC K D ∧ H tp = some (.tup cs) ∧ Paired ClsV cs ws ∧ PySem.W.kitAny K (.ref D) ws = some b ∧ Q (.bl b) H
theorem call_isHT : CallR X (.builtin "isinstance") (rIsHT X.K) := by
  rintro pins s σ H xs us Q I r ⟨a, D, tp, cs, ws, b, rfl, ha, C, ht, kc, e, q⟩
  obtain ⟨u1, u2, rfl, r1, r2⟩ := vals2 r
  cases (show u1 = Value.ref a from r1)
  cases (show u2 = Value.ref tp from r2)
  obtain ⟨oe, J⟩ := held_at I ha
  have hT : ObjOk X.prog X.w H s.heap tp (.tup cs) := I.hok tp _ ht
  obtain ⟨_, its, rv, ⟨oc, od, dt, osl⟩, g1, g2, n, g3⟩ := hT
  obtain rfl := ClsV.all kc rv
  simp only at g2 g3
  subst g2 g3
  exact PySem.W.kia_tup (PySem.W.handS_kitx_exc C.hg C.hk C.hs C.hd C.ha C.hn C.ht C.hm) I.kIn J g1 e (fun z => nomatch z) fun tk => ⟨.bl b, H, I.tok tk, rfl, q⟩
end
/-! ### things that are whole numbers or not -/
/-- x is of a built-in type that is no whole number's -/
def Odd (K : PySem.W.Frag) (H : Hp) (x : V) : Prop := ∃ t bI, TyX K H x t ∧ PySem.W.kitOne K t (.type "int") = some bI ∧ (bI = true → PySem.W.kitOne K t (.type "bool") = some true)
theorem odd_non {K : PySem.W.Frag} {H : Hp} : Odd K H .non := ⟨_, false, .base .non, kit_ty (by decide +kernel), fun z => nomatch z⟩
theorem odd_bl {K : PySem.W.Frag} {H : Hp} {b : Bool} : Odd K H (.bl b) := ⟨_, true, .base (.bl b), kit_ty (by decide +kernel), fun _ => kit_ty (by decide +kernel)⟩
theorem odd_str {K : PySem.W.Frag} {H : Hp} {z : Str} : Odd K H (.str z) := ⟨_, false, .base (.str z), kit_ty (by decide +kernel), fun z => nomatch z⟩
theorem odd_lst {K : PySem.W.Frag} {H : Hp} {a : Addr} {xs : List V} (e : H a = some (.lst xs)) : Odd K H (.ref a) := ⟨_, false, .base (.lst e), kit_ty (by decide +kernel), fun z => nomatch z⟩
theorem odd_tup {K : PySem.W.Frag} {H : Hp} {a : Addr} {xs : List V} (e : H a = some (.tup xs)) : Odd K H (.ref a) := ⟨_, false, .base (.tup e), kit_ty (by decide +kernel), fun z => nomatch z⟩
theorem odd_dK {K : PySem.W.Frag} {H : Hp} {a : Addr} {xs : List (Key × V)} (e : H a = some (.dK xs)) : Odd K H (.ref a) := ⟨_, false, .base (.dK e), kit_ty (by decide +kernel), fun z => nomatch z⟩
end HopR

set_option Elab.async false
set_option linter.all false
set_option maxRecDepth 100000
set_option maxHeartbeats 4000000
namespace HopR
open PySem PySem.Spec PyProof.Rows L2
/-! ### a refusal over IndexError that keeps what was handed in: class N(IndexError), its __init__ says IndexError.__init__(self, text), then self.f = x -/
abbrev bmI : List Value := [.type "IndexError", .type "LookupError", .type "Exception", .type "BaseException", .type "object"]
/-- what is written of the class at C, whose __init__ is at fI, its field f -/
structure Kept (K : PySem.W.Frag) (C fI : Addr) (f : Str) : Prop where
  new : PySem.W.excInitIn K C bmI "IndexError.__new__" = true
  over : PySem.W.excOver K C bmI = true
  ini : PySem.W.findIn K (.ref C) "__init__" = some (some (.ref fI))
  fn : PySem.W.typeIn K (.ref fI) = some (.type "function")
  sa : PySem.W.findIn K (.ref C) "__setattr__" = some (some (.builtin "object.__setattr__"))
  taker : PySem.W.takerIn K C f = some none
  none_ : PySem.W.findIn K (.ref C) f = some none
  keep : PySem.W.keepIn K (.ref C) = true
  ty : PySem.W.typeIn K (.ref C) = some (.type "type")
  xf : XfC K C
theorem type_ie : typeOf (.type "IndexError") = pure (.type "type") := by kernel_rfl
/-- a dict laid for an exception, then named in it, then filled -/
theorem laid_dict {H : Hp} {a d : Addr} {o1 o2 o3 : HO} (n : d ≠ a) : upd (upd (upd H d o1) a o2) d o3 = upd (upd H d o3) a o2 := by
  funext b
  by_cases h1 : b = d
  · subst h1
    rw [upd_same, upd_ne n, upd_same]
  · rw [upd_ne h1]
    by_cases h2 : b = a
    · subst h2
      rw [upd_same, upd_same]
    · rw [upd_ne h2, upd_ne h2, upd_ne h1, upd_ne h1]
theorem gone_dict {H : Hp} {a d : Addr} {o1 o2 o3 o4 : HO} (n : d ≠ a) (na : H a = none) : upd (del (upd (upd (upd H a o1) d o2) a o3) a) d o4 = upd H d o4 := by
  funext b
  by_cases h1 : b = d
  · subst h1
    rw [upd_same, upd_same]
  · rw [upd_ne h1, upd_ne h1]
    by_cases h2 : b = a
    · subst h2
      rw [del_same, na]
    · rw [del_ne h2, upd_ne h2, upd_ne h1, upd_ne h2]
section
variable {X : Cx} {C fI a : Addr} {f : Str}
/-- self.f = y, on an exception without a dict -/
theorem keep_it {pins : List (Addr × Obj)} {σ : L2.St} {H : Hp} {s : Shared} {A : Around} {y : V} {u : Value} {Q : Unit → Shared → Prop} {E : Value → Shared → Prop} (T : Kept X.K C fI f) (I : Inv X pins σ H s) (ha : H a = some (exo a C none)) (r : RelV y u)
    (k : ∀ d s', H d = none → d ≠ a → Inv X pins σ (upd (upd H d (exd d [(f, y)])) a (exo a C (some d))) s' → Q () s') : wpAny (model X.prog X.w) A (setAttr (.ref a) f u) Q E s := by
  obtain ⟨t0, at0⟩ := exo_at I.hok ha
  obtain ⟨cd, c1, c2⟩ := PySem.W.any_some T.xf.hdC
  obtain ⟨hp, g, dr, tk, os⟩ := s
  have lt : a < hp.objs.size := Heap.lt_size at0
  have ne : hp.objs.size ≠ a := Nat.ne_of_gt lt
  refine PySem.W.set_plain (od := none) I.kIn ⟨at0, rfl, rfl, trivial⟩ T.sa ?_
  refine PySem.W.osa_openX (od := none) PySem.F.store_IndexError I.kIn ⟨at0, rfl, rfl, trivial⟩ T.over T.taker fun _ => ?_
  refine wpAny_bind (wpAny_pure (wpAny_bind (PySem.W.instanceDict_exc at0 (PySem.W.looks_clsIn I.kIn c1) c2 ?_)))
  refine HandSPX.store_in_new ?_ ?_
  · exact ⟨_, #[], _, (Heap.get?_update_other _ _ ne.symm).trans (Heap.get?_push_size _ rfl), rfl, fun e he => absurd he (by simp), fun _ => rfl⟩
  · intro h' tk' ns sb
    have I1 : Inv X pins σ (upd H hp.objs.size (exd hp.objs.size [])) ⟨hp.push (PySem.W.dictOf [] 0), g, dr, tk, os⟩ :=
      I.laid (a := hp.objs.size) (o := exd hp.objs.size []) (t' := tk) (fun b o q => Heap.get?_push_of_some _ q) (Nat.le_refl _) (exd_ok (mA := fun _ => none) (Heap.Ns1.of_empty ⟨_, #[], _, Heap.get?_push_size _ rfl, rfl, fun e he => absurd he (by simp), fun _ => rfl⟩) fun _ => True.intro)
    have a1 : (hp.push (PySem.W.dictOf [] 0)).get? a = some _ := Heap.get?_push_of_some _ at0
    have a2 := Heap.get?_update_self (fun o : Obj => { o with dict := some hp.objs.size }) a1 rfl
    have I2 := I1.write (x := a) (e := a) (o := exo a C (some hp.objs.size)) (t' := tk) (h' := (hp.push (PySem.W.dictOf [] 0)).update a fun o => { o with dict := some hp.objs.size }) (by rw [upd_ne ne.symm, ha]; exact True.intro) (.inl rfl)
      (fun b o hb q => (Heap.get?_update_other _ _ (Ne.symm hb)).trans q) ⟨_, a2⟩ (exo_ok a2)
    have d3 : ∃ o, h'.get? hp.objs.size = some o := by
      obtain ⟨o, _, _, q, _⟩ := ns
      exact ⟨o, q⟩
    have I3 := I2.write (x := hp.objs.size) (e := hp.objs.size) (o := exd hp.objs.size [(f, y)]) (t' := tk') (h' := h') (by rw [upd_ne ne, upd_same]; exact True.intro) (.inl rfl)
      (fun b o hb q => (sb.2 b hb).trans q) d3 (exd_ok ns (relO_put (fs := []) r fun g => True.intro))
    rw [laid_dict ne] at I3
    exact k _ _ (I.hok.fresh (Nat.le_refl _)) ne I3
/-- IndexError.__init__(self, ..): nothing of it is told -/
theorem init_ie {pins : List (Addr × Obj)} {σ : L2.St} {H : Hp} {s : Shared} {A : Around} {us : List Value} {Q : Value → Shared → Prop} {E : Value → Shared → Prop} (T : Kept X.K C fI f) (I : Inv X pins σ H s) (ha : H a = some (exo a C none)) (hl : us.length ≤ sizeLine)
    (k : ∀ s', Inv X pins σ H s' → Q .none s') : wpAny (model X.prog X.w) A (call (.builtin "IndexError.__init__") (.ref a :: us)) Q E s := by
  obtain ⟨nm, N, qn, bs, bm, hdct, sn, sub, ab, col, dd, k0, k1, k2, k3, k5, at1, cont⟩ := PySem.W.excInit_of I.kIn T.new
  obtain ⟨t0, at0⟩ := exo_at I.hok ha
  obtain ⟨hp, g, dr, tk, os⟩ := s
  refine wpAny_call (HandSPX.init_base PySem.F.excBase_IndexError cont at1 at0 hl ?_)
  intro h' t1 kp at2
  have same : upd H a (exo a C none) = H := by
    funext b
    by_cases hb : b = a
    · rw [hb, upd_same, ha]
    · rw [upd_ne hb]
  have J := I.write (x := a) (e := a) (o := exo a C none) (t' := tk) (h' := h') (by rw [ha]; exact True.intro) (.inl rfl) kp ⟨_, at2⟩ (exo_ok at2)
  rw [same] at J
  exact k _ J
variable {e o : Expr} {es : List Expr} {te to : TE} {ta : TA} {p p1 p2 p' pos : Pos}
/-- what is asked of IndexError.__init__(self, ..) -/
def tIeI (K : PySem.W.Frag) (f : Str) (ta : TA) : TE := fun σ H Q => ta σ H fun vs H1 => ∃ (a C fI : Addr) (ws : List V), vs = .ref a :: ws ∧ ws.length ≤ 1000 ∧ Kept K C fI f ∧ H1 a = some (exo a C none) ∧ Q .non H1
theorem pe_ieinit {pl : Sem Bool} (f : Str) (hg : Gl X "IndexError") (hm : X.mg "IndexError" = none) (vV : PySem.W.findCls X.K (.type "IndexError") (.type "type") "__init__" = some (.val (.builtin "IndexError.__init__"))) (ha : PA X (e :: es) ta)
    (hc : eval (.Call (.Attribute (.Name "IndexError" p1) "__init__" p2) (e :: es) [] pos) X.env = (do
      let ov ← eval (.Name "IndexError" p1) X.env
      standAt p2.atName
      let (m, first) ← holding [ov] (getMethod ov "__init__" pl)
      callWith pos m first (backTo pos (starEach (e :: es) X.env)) (backToKw pos (keywordEach [] X.env))) := by rfl)
    (he : starEach (e :: es) X.env = (false, eval e X.env) :: starEach es X.env := by rfl) (hpl : (backTo pos (starEach es X.env)).any (·.1) = false := by rfl) :
    PE X (.Call (.Attribute (.Name "IndexError" p1) "__init__" p2) (e :: es) [] pos) (tIeI X.K f ta) := by
  constructor
  intro pins s σ H Q I h
  obtain ⟨m, fr⟩ := I.fr
  refine PySem.W.methodCall_KW (ld_blt I hg hm PyProof.Rows.Boot.«IndexError» (PySem.W.method_type fr I.ok.mod.kin type_ie (by decide +kernel) vV (by decide +kernel) ?_) (by decide) (by decide)) hc
  show wpAny (model X.prog X.w) X.A (callWith pos (Value.builtin "IndexError.__init__") [] (backTo pos (starEach (e :: es) X.env)) []) _ _ _
  refine PyProof.Rows.callWith_method1 (thn (ha.run pos pins _ σ H _ (I.tok _) h) ?_) he hpl
  rintro us s1 ⟨vs, H1, J, r, a, C, fI, ws, rfl, hl, T, at1, q⟩
  cases r with
  | cons ra rr =>
    cases (show _ = Value.ref a from ra)
    refine init_ie T J at1 ?_ fun s' J' => ⟨.non, H1, J', rfl, q⟩
    have := Paired.length rr
    rw [sizeLine_eq]
    omega
/-- self.f = e -/
def tKeep (K : PySem.W.Frag) (f : Str) (to te : TE) : TS := fun D σ H => te σ H fun y H1 => to σ H1 fun x H2 => ∃ a C fI : Addr, x = .ref a ∧ Kept K C fI f ∧ H2 a = some (exo a C none) ∧ ∀ d, H2 d = none → d ≠ a → D.nx σ (upd (upd H2 d (exd d [(f, y)])) a (exo a C (some d)))
theorem ps_keep (ho : PE X o to) (he : PE X e te) (hs : swapsWith e (some (.Attribute o f p')) pos.line X.env = pure false := by rfl) : PS X (.Assign [.Attribute o f p'] e pos) (tKeep X.K f to te) := by
  constructor
  intro pins s σ H D I h
  refine plainObj_wpAny_Assign_Attribute (thn (he.run pins s σ H _ I h) ?_) hs
  rintro v s1 ⟨y, H1, I1, r1, q1⟩
  refine thn (ho.run pins s1 σ H1 _ I1 q1) ?_
  rintro u s2 ⟨x, H2, I2, r2, a, C, fI, rfl, T, ha, q⟩
  cases (show u = Value.ref a from r2)
  exact keep_it T I2 ha r1 fun d s' n ne J => ⟨σ, _, J, q d n ne⟩
/-- what __init__ does -/
def spKeepI (C : Addr) (f : Str) : Sp := fun vs H Q _ => ∃ (a : Addr) (y : V), vs = [.ref a, y] ∧ H a = some (exo a C none) ∧ ∀ d, H d = none → d ≠ a → Q .non (upd (upd H d (exd d [(f, y)])) a (exo a C (some d)))
/-- N(e): the refusal with its field, the dict at d new -/
def tMkK (C : Addr) (f : Str) (ta : TA) : L2.St → Hp → XK → Prop := fun σ H Q => ta σ H fun vs H1 => ∃ y, vs = [y] ∧ ∀ d, H1 d = none → Q (.ref C) (some d) (upd H1 d (.xd [(f, y)]))
theorem pmk_keep {x : Str} {k : Nat} {fd : FuncData} {ps : List Str} (T : Kept X.K C fI f) (F1 : FnOk X.prog X.w X.K X.mg X.base CX0 k fI fd ps (spKeepI C f)) (hr : Room (k + 1) X.A) (hb : Binds X.K fd ps []) (hg : Gl X x) (hm : X.mg x = some (.ref C)) (ha : PA X [e] ta)
    (hdb : (x == ("__debug__" : Str)) = false := by decide) (he : starEach (e :: []) X.env = (false, eval e X.env) :: starEach [] X.env := by rfl) (hpl : (backTo pos (starEach [] X.env)).any (·.1) = false := by rfl) :
    PMk X (.Call (.Name x p) [e] [] pos) (tMkK C f ta) := by
  intro pins s0 σ H0 Q I0 h0
  refine wpAny_Call_Name_kw (ld_glob I0 hg hm ?_ hdb)
  refine PySem.W.callWith_K (h₀ := X.base) I0.ok.mod.kin T.keep (thn (ha.run pos pins s0 σ H0 _ I0 h0) ?_) he hpl
  rintro us s ⟨vs, H, I, r, y, rfl, q⟩
  refine ⟨I.kIn, ?_⟩
  obtain ⟨nm, N, qn, bs, bm, hdct, sn, sub, ab, col, dd, k0, k1, k2, k3, k5, at1, cont⟩ := PySem.W.excInit_of I.kIn T.new
  obtain ⟨hp, g, dr, tk, os⟩ := s
  have na : H (hp.objs.size + 1) = none := I.hok.fresh (Nat.le_succ _)
  have old : ∀ b u, hp.get? b = some u → ((hp.push (PySem.W.kdv_tup us)).push (HandSPX.excO C hp.objs.size)).get? b = some u := fun b u q => Heap.get?_push_of_some _ (Heap.get?_push_of_some _ q)
  have at2 : ((hp.push (PySem.W.kdv_tup us)).push (HandSPX.excO C hp.objs.size)).get? (hp.objs.size + 1) = some (HandSPX.excO C hp.objs.size) := by heap_get
  have J : Inv X pins σ (upd H (hp.objs.size + 1) (exo (hp.objs.size + 1) C none)) ⟨(hp.push (PySem.W.kdv_tup us)).push (HandSPX.excO C hp.objs.size), g, dr, tk, os⟩ := I.laid (t' := tk) old (Nat.le_succ _) (exo_ok at2)
  have rr : Vals [V.ref (hp.objs.size + 1), y] (Value.ref (hp.objs.size + 1) :: us) := .cons rfl r
  have sp : spKeepI C f [V.ref (hp.objs.size + 1), y] (upd H (hp.objs.size + 1) (exo (hp.objs.size + 1) C none)) (fun v H2 => v = .non ∧ ∃ d, H d = none ∧ d ≠ hp.objs.size + 1 ∧ H2 = upd (upd (upd H (hp.objs.size + 1) (exo (hp.objs.size + 1) C none)) d (exd d [(f, y)])) (hp.objs.size + 1) (exo (hp.objs.size + 1) C (some d))) (fun _ _ _ => False) :=
    ⟨_, y, rfl, upd_same, fun d nd ne => ⟨rfl, d, by rw [upd_ne ne] at nd; exact nd, ne, rfl⟩⟩
  have hl : (Value.ref (hp.objs.size + 1) :: us).length = ps.length := rr.length.symm.trans (F1.len _ _ _ _ sp)
  have bi := hb _ (Value.ref (hp.objs.size + 1) :: us) J.kIn (by rw [List.append_nil]; exact hl)
  rw [List.append_nil] at bi
  have lu : us.length ≤ sizeLine := by
    rw [← Paired.length r]
    show 1 ≤ sizeLine
    decide
  refine wpAny_call (HandSPX.call_own PySem.F.excBase_IndexError cont at1 (PySem.W.looks_findIn I.kIn T.ini) (fun self => PySem.W.bind_fn I.kIn self T.fn) lu
    (codeAny_mono (F1.run _ X.stack _ _ ⟨Value.ref (hp.objs.size + 1) :: us, []⟩ _ _ _ _ (hr.make C us []) (J.env0.make C us []) bi rr sp) ?_))
  intro res s' z
  match res, z with
  | .error er, z =>
    have no : Passes CX0 X (fun _ _ _ => False) := fun _ _ _ _ _ _ _ h => h.elim
    exact no pins σ _ _ er s' J z
  | .ok (.ret u), z =>
    obtain ⟨v, H2, os2, bare2, un2, hok2, rv, rfl, d, nd, ne, rfl⟩ := z
    obtain ⟨hz, gz, dz, tz, oz⟩ := s'
    refine ⟨rv, mk_end (d := d) (fs := [(f, y)]) (raises_own T.xf.exC T.ty) I (Nat.le_succ _) old un2 hok2 os2 bare2 upd_same (by rw [upd_ne ne, upd_same]) nd ?_⟩
    rw [gone_dict ne na]
    exact q d nd
  | .ok .next, z => exact z.elim
  | .ok .brk, z => exact z.elim
  | .ok .cont, z => exact z.elim
end
end HopR

set_option Elab.async false
set_option linter.all false
set_option maxRecDepth 100000
set_option maxHeartbeats 4000000
namespace HopR
open PySem PySem.Spec PyProof.Rows L2
/-! ### a kept refusal that has a field -/
section
variable {X : Cx}
/-- what H says of a kept exception of the class at D with the fields fs -/
def Fld (H : Hp) (a D : Addr) (fs : List (Str × V)) : Prop := ∃ d, H a = some (ExH (.ref D) (some d) a) ∧ H d = some (.xd fs)
theorem fld_at {pins : List (Addr × Obj)} {σ : L2.St} {H : Hp} {s : Shared} {a D : Addr} {fs : List (Str × V)} (I : Inv X pins σ H s) (hf : Fld H a D fs) : ∃ oe od, PySem.W.InstAt s.heap a oe D (some od) ∧ ∀ n v, fs.lookup n = some v → ∃ u, PySem.W.lookIn n od = some (some u) ∧ RelV v u := by
  obtain ⟨d, h1, h2⟩ := hf
  obtain ⟨⟨oe, vs, e, ⟨z1, z2⟩, q⟩, _, _⟩ := I.hok a _ h1
  have ok : ObjOk X.prog X.w H s.heap d (.xd fs) := I.hok d _ h2
  obtain ⟨mA, ns, rel⟩ := ok
  obtain ⟨od, at2, look⟩ := lookIn_ns ns
  refine ⟨oe, od, ⟨e, z1, ?_, by rw [z2]; exact at2⟩, fun n v l => ?_⟩
  · unfold PySem.W.notCls
    rw [q]
  · have r := rel n
    rw [l] at r
    obtain ⟨u, hu, ru⟩ := RelO.some_of r
    exact ⟨u, by rw [look, hu], ru⟩
theorem kit_fld {K : PySem.W.Frag} {a D : Addr} {oe : Obj} {od : Option Obj} (C : ExcC K D) : PySem.W.KitX K (.ref a) (.ref D) (fun h => PySem.W.InstAt h a oe D od) :=
  PySem.W.kitx_exc (by obtain ⟨cd, hc, _⟩ := PySem.W.any_some C.hd; rw [hc]; rfl) C.hg C.hk C.hs C.ha C.hn C.ht C.hm
/-- isinstance(kept, c) -/
def rIsF (K : PySem.W.Frag) : List V → Hp → VK → Prop := fun xs H Q => ∃ (a D : Addr) (fs : List (Str × V)) (c : V) (cv : Value) (b : Bool), xs = [.ref a, c] ∧ Fld H a D fs ∧ ExcC K D ∧ ClsV c cv ∧ PySem.W.kitOne K (.ref D) cv = some b ∧ Q (.bl b) H
theorem call_isF : CallR X (.builtin "isinstance") (rIsF X.K) := by
  rintro pins s σ H xs us Q I r ⟨a, D, fs, c, cv, b, rfl, hf, C, kc, e, q⟩
  obtain ⟨u1, u2, rfl, r1, r2⟩ := vals2 r
  obtain rfl := kc.eq r2
  cases (show u1 = Value.ref a from r1)
  obtain ⟨oe, od, J, _⟩ := fld_at I hf
  exact PySem.W.kia_one (kit_fld C) I.kIn J e (fun z => nomatch z) fun tk => ⟨.bl b, H, I.tok tk, rfl, q⟩
/-- isinstance(kept, (c1, c2, ..)) -/
def rIsFT (K : PySem.W.Frag) : List V → Hp → VK → Prop := fun xs H Q => ∃ (a D tp : Addr) (fs : List (Str × V)) (cs : List V) (ws : List Value) (b : Bool), xs = [.ref a, .ref tp] ∧ Fld H a D fs ∧ ExcC K D ∧ H tp = some (.tup cs) ∧ Paired ClsV cs ws ∧ PySem.W.kitAny K (.ref D) ws = some b ∧ Q (.bl b) H
theorem call_isFT : CallR X (.builtin "isinstance") (rIsFT X.K) := by
  rintro pins s σ H xs us Q I r ⟨a, D, tp, fs, cs, ws, b, rfl, hf, C, ht, kc, e, q⟩
  obtain ⟨u1, u2, rfl, r1, r2⟩ := vals2 r
  cases (show u1 = Value.ref a from r1)
  cases (show u2 = Value.ref tp from r2)
  obtain ⟨oe, od, J, _⟩ := fld_at I hf
  have hT : ObjOk X.prog X.w H s.heap tp (.tup cs) := I.hok tp _ ht
  obtain ⟨_, its, rv, ⟨oc, odd, dt, osl⟩, g1, g2, n, g3⟩ := hT
  obtain rfl := ClsV.all kc rv
  simp only at g2 g3
  subst g2 g3
  exact PySem.W.kia_tup (kit_fld C) I.kIn J g1 e (fun z => nomatch z) fun tk => ⟨.bl b, H, I.tok tk, rfl, q⟩
/-- kept.n -/
def tFldH (K : PySem.W.Frag) (n : Str) (te : TE) : TE := fun σ H Q => te σ H fun x H1 => ∃ (a D : Addr) (fs : List (Str × V)) (v : V), x = .ref a ∧ Fld H1 a D fs ∧ XfC K D ∧ PySem.W.findIn K (.ref D) n = some none ∧ fs.lookup n = some v ∧ Q v H1
theorem pe_fldH {e : Expr} {te : TE} {pos : Pos} {n : Str} (he : PE X e te) (hb : attributeBase e n X.env (eval e X.env) = eval e X.env := by rfl) : PE X (.Attribute e n pos) (tFldH X.K n te) := by
  constructor
  intro pins s σ H Q I h
  refine attr_of hb (thn (he.run pins s σ H _ I h) ?_)
  rintro u s1 ⟨x, H1, I1, rx, a, D, fs, v, rfl, hf, T, no, l, q⟩
  cases (show u = Value.ref a from rx)
  obtain ⟨oe, od, J, look⟩ := fld_at I1 hf
  obtain ⟨w, e1, e2⟩ := look n v l
  exact HandSPX.exc_get I1.kIn J T.ga T.gg T.exC (PySem.W.findObj_own T.hdC no rfl e1) (handed_of e2) ⟨v, H1, I1.tok _, e2, q⟩
end
end HopR

set_option Elab.async false
set_option linter.all false
set_option maxRecDepth 100000
set_option maxHeartbeats 4000000
namespace PySem
namespace HopKe
open Builtin HandSPX PyProof.Rows
/-! ### a class over KeyError: it has no __new__ of its own, LookupError's makes the object -/
/-- what stands above the class: KeyError and LookupError, not the two kinds whose objects have members of their own -/
structure Tail (bm : List Value) : Prop where
  l : bm.contains (.type "LookupError") = true
  k : bm.contains (.type "KeyError") = true
  a : bm.contains (.type "AttributeError") = false
  n : bm.contains (.type "NameError") = false
/-- such a class lies at C -/
def Lies (h : Heap) (C : Addr) : Prop := ∃ nm q N bs bm hd sn sub ab col dd k0 k1 k2 k3 k5, h.get? C = some (excClassObj nm q C N bs bm hd sn sub ab col dd k0 k1 k2 k3 k5 "LookupError.__new__") ∧ Tail bm
/-- the heap with its new object behind the args -/
abbrev withNew (h : Heap) (C : Addr) (us : List Value) : Heap := (h.push (W.kdv_tup us)).push (excO C h.objs.size)
theorem withNew_keeps {h : Heap} {C : Addr} {us : List Value} (b : Addr) (o : Obj) (e : h.get? b = some o) : (withNew h C us).get? b = some o := Heap.get?_push_of_some _ (Heap.get?_push_of_some _ e)
section
variable {M : Model} {A : Around} {E : Value → Shared → Prop} {s : Shared} {nm q X : Str} {C N : Addr} {bs bm sub : List Value} {hd ab b : Bool} {sn : List Str} {col : Option Bool} {dd : Option Addr} {k0 k1 k2 k3 k5 : Option Value} {nw T : String}
theorem isSub {Q : Bool → Shared → Prop} (hC : s.heap.get? C = some (excClassObj nm q C N bs bm hd sn sub ab col dd k0 k1 k2 k3 k5 nw)) (m : bm.contains (.type T) = b) (hq : Q b s) : wpAny M A (isSubtype (.ref C) (.type T)) Q E s := by
  refine wpAny_isSubtype_exc hC ?_
  rw [List.contains_cons, m]
  exact hq
theorem isMe {Q : Bool → Shared → Prop} (hC : s.heap.get? C = some (excClassObj nm q C N bs bm hd sn sub ab col dd k0 k1 k2 k3 k5 nw)) (hq : Q true s) : wpAny M A (isSubtype (.ref C) (.ref C)) Q E s := by
  refine wpAny_isSubtype_exc hC ?_
  rw [List.contains_cons, beq_self_eq_true, Bool.true_or]
  exact hq
end
section
variable {prog : Program} {w : World} {C : Addr} {us : List Value}
/-- LookupError.__new__ lets the class by -/
theorem lets {M : Model} {A : Around} {E : Value → Shared → Prop} {s : Shared} (L : Lies s.heap C) {Q : Unit → Shared → Prop} (k : Q () s) : wpAny M A (checkBuiltinCall "LookupError.__new__" ⟨.ref C :: us, []⟩) Q E s := by
  obtain ⟨nm, qn, N, bs, bm, hd, sn, sub, ab, col, dd, k0, k1, k2, k3, k5, at1, T⟩ := L
  have B := PySem.F.excBase_LookupError
  have t1 := T.l
  have t2 := B.noStar
  simp only [checkBuiltinCall, B.newSplit, B.newKind, B.newRow]
  repeat (first | with_reducible refine wpAny_loadPart_at (by assumption) ?_ | with_reducible refine isMe (by assumption) ?_ | with_reducible refine isSub (by assumption) (by assumption) ?_ | with_reducible refine wpAny_staticBase_exc (by assumption) ?_ | with_reducible refine wpAny_madeBy_exc (by assumption) ?_ | with_reducible refine wpAny_madeHere_exc (by assumption) (by assumption) ?_ | simp only [bne_self_eq_false, Bool.false_eq_true, if_false] | wp_step)
  exact k
/-- and lays the new object -/
theorem lays {A : Around} {s : Shared} {R : Result → Shared → Prop} (L : Lies s.heap C) (hl : us.length ≤ sizeLine) (k : R (.ok (.ret (.ref (s.heap.objs.size + 1)))) { s with heap := withNew s.heap C us }) : codeAny (model prog w) A (.builtin "LookupError.__new__" ⟨.ref C :: us, []⟩) R s := by
  obtain ⟨nm, qn, N, bs, bm, hd, sn, sub, ab, col, dd, k0, k1, k2, k3, k5, at1, T⟩ := L
  obtain ⟨t1, _, t3, t4⟩ := T
  have B := PySem.F.excBase_LookupError
  have t5 := B.ends
  have t6 := B.canon
  refine codeAny_builtinAt B.entry (show wpAt _ _ _ (stack >>= _) _ _ _ from wpAt_bind (wpAt_stack fun _ _ => wpAt_of_wpAny ?_))
  wp_walk
  rw [B.owner]
  repeat (first | with_reducible refine wpAny_loadPart_at (by assumption) ?_ | with_reducible refine isMe (by assumption) ?_ | with_reducible refine isSub (by assumption) (by assumption) ?_ | with_reducible refine wpAny_staticBase_exc (by assumption) ?_ | with_reducible refine wpAny_madeBy_exc (by assumption) ?_ | with_reducible refine wpAny_madeHere_exc (by assumption) (by assumption) ?_ | simp only [bne_self_eq_false, Bool.false_eq_true, if_false] | wp_step)
  rw [Heap.size_push]
  exact k
/-- the class called: its object lies in the heap, then its own __init__ -/
theorem call_ke {A : Around} {s : Shared} {R : Result → Shared → Prop} {fI : Addr} (L : Lies s.heap C) (hi : W.Looks (model prog w) s.heap (typeLookup (.ref C) "__init__") (some (.ref fI))) (hb : ∀ self, W.Looks (model prog w) s.heap (bindSpecial (.ref fI) self) (.ref fI, [self])) (hl : us.length ≤ sizeLine)
    (k : codeAny (model prog w) (A.under (.builtin "type.__call__" ⟨.ref C :: us, []⟩)) (.call (.ref fI) ⟨.ref (s.heap.objs.size + 1) :: us, []⟩) (W.InitBack (s.heap.objs.size + 1) R) { s with heap := withNew s.heap C us }) : codeAny (model prog w) A (.call (.ref C) ⟨us, []⟩) R s := by
  obtain ⟨nm, qn, N, bs, bm, hd, sn, sub, ab, col, dd, k0, k1, k2, k3, k5, at1, T⟩ := id L
  have t1 := tc_lookup
  have t2 := tc_bind (.ref C)
  have t3 : s.TypeIs (.ref C) "type" := ⟨_, at1, rfl⟩
  refine codeAny_of_tree (show wpAny _ _ (callAny (.ref C) _) _ _ _ from ?_)
  repeat (first | with_reducible refine wpAny_loadPart_at (by assumption) ?_ | with_reducible refine isMe (by assumption) ?_ | with_reducible refine isSub (by assumption) (by assumption) ?_ | with_reducible refine wpAny_staticBase_exc (by assumption) ?_ | with_reducible refine wpAny_madeBy_exc (by assumption) ?_ | with_reducible refine wpAny_madeHere_exc (by assumption) (by assumption) ?_ | simp only [bne_self_eq_false, Bool.false_eq_true, if_false] | wp_step)
  all_goals try assumption
  repeat (first | with_reducible refine wpAny_loadPart_at (by assumption) ?_ | with_reducible refine isMe (by assumption) ?_ | with_reducible refine isSub (by assumption) (by assumption) ?_ | with_reducible refine wpAny_staticBase_exc (by assumption) ?_ | with_reducible refine wpAny_madeBy_exc (by assumption) ?_ | with_reducible refine wpAny_madeHere_exc (by assumption) (by assumption) ?_ | simp only [bne_self_eq_false, Bool.false_eq_true, if_false] | wp_step)
  refine ⟨rfl, codeAny_call_builtin_at (Code.quiet_builtin _ (by decide +kernel)) entry_typeCall (wpAny_check_type_call_sub at1 ?_)⟩
  repeat (first | with_reducible refine wpAny_loadPart_at (by assumption) ?_ | with_reducible refine isMe (by assumption) ?_ | with_reducible refine isSub (by assumption) (by assumption) ?_ | with_reducible refine wpAny_staticBase_exc (by assumption) ?_ | with_reducible refine wpAny_madeBy_exc (by assumption) ?_ | with_reducible refine wpAny_madeHere_exc (by assumption) (by assumption) ?_ | simp only [bne_self_eq_false, Bool.false_eq_true, if_false] | wp_step)
  refine codeAny_call_builtin_code (Code.quiet_builtin _ PySem.F.excBase_LookupError.quiet) (lets L (lays L hl ?_))
  show wpAny _ _ _ _ _ _
  have at2 := withNew_keeps (us := ([] : List Value).append us) (C := C) _ _ at1
  have at3 : (withNew s.heap C (([] : List Value).append us)).get? (s.heap.objs.size + 1) = some (excO C s.heap.objs.size) := by heap_get
  clear at1
  unfold isInstance
  repeat (first | with_reducible refine wpAny_loadPart_at (by assumption) ?_ | with_reducible refine isMe (by assumption) ?_ | with_reducible refine isSub (by assumption) (by assumption) ?_ | with_reducible refine wpAny_staticBase_exc (by assumption) ?_ | with_reducible refine wpAny_madeBy_exc (by assumption) ?_ | with_reducible refine wpAny_madeHere_exc (by assumption) (by assumption) ?_ | simp only [bne_self_eq_false, Bool.false_eq_true, if_false] | wp_step)
  show wpAny _ _ (typeLookup (.ref C) _) _ _ _
  refine (hi.keeps withNew_keeps).at (wpAny_holding (wpAny_bind (((hb _).keeps withNew_keeps).at (wpAny_bind (wpAny_call (codeAny_mono k ?_))))))
  intro r s' z
  match r, z with
  | .error _, z => exact z
  | .ok (.ret _), ⟨e, z⟩ =>
    subst e
    wp_walk
    exact z
  | .ok .next, z => exact z.elim
  | .ok .brk, z => exact z.elim
  | .ok .cont, z => exact z.elim
/-- KeyError.__init__ on the new object: its args are laid anew -/
theorem init_ke {A : Around} {s : Shared} {R : Result → Shared → Prop} {e t0 : Addr} (L : Lies s.heap C) (at1 : s.heap.get? e = some (excO C t0)) (hl : us.length ≤ sizeLine)
    (k : ∀ h' t1, h'.get? e = some (excO C t1) → (∀ b o, b ≠ e → s.heap.get? b = some o → h'.get? b = some o) → R (.ok (.ret .none)) { s with heap := h' }) : codeAny (model prog w) A (.call (.builtin "KeyError.__init__") ⟨.ref e :: us, []⟩) R s := by
  obtain ⟨nm, qn, N, bs, bm, hd, sn, sub, ab, col, dd, k0, k1, k2, k3, k5, at2, T⟩ := L
  have t1 := T.k
  have t2 := excClass_KeyError.notStar
  refine codeAny_call_builtin excClass_KeyError.init.plain excClass_KeyError.initEntry ?_
  simp only [checkBuiltinCall, excClass_KeyError.initSplit, excClass_KeyError.initKind, excClass_KeyError.initSig]
  repeat (first | with_reducible refine wpAny_loadPart_at (by assumption) ?_ | with_reducible refine isMe (by assumption) ?_ | with_reducible refine isSub (by assumption) (by assumption) ?_ | with_reducible refine wpAny_staticBase_exc (by assumption) ?_ | with_reducible refine wpAny_madeBy_exc (by assumption) ?_ | with_reducible refine wpAny_madeHere_exc (by assumption) (by assumption) ?_ | simp only [bne_self_eq_false, Bool.false_eq_true, if_false] | wp_step)
  refine wpAny_onRaise ?_
  have t3 : ∀ a b n, Bind.check ⟨.positional, "*", "KeyError", .self, [⟨"args", .varPos, false⟩]⟩ a b n (List.map (·.1) ({ pos := Value.ref e :: us } : Args).kw) = pure () := fun _ _ _ => check_star_args _ _ _ _ _ _
  rw [t3]
  refine wpAny_pure ?_
  wp_walk
  refine k _ s.heap.objs.size ((Heap.get?_update_self _ (Heap.get?_push_of_some _ at1) rfl).trans rfl) fun b o ne q => ?_
  exact (Heap.get?_update_other _ _ ne.symm).trans (Heap.get?_push_of_some _ q)
end
end HopKe
end PySem

set_option Elab.async false
set_option linter.all false
set_option maxRecDepth 100000
set_option maxHeartbeats 4000000
namespace HopR
open PySem PySem.Spec PyProof.Rows L2
/-! ### a refusal over KeyError that keeps what was handed in -/
abbrev bmK : List Value := [.type "KeyError", .type "LookupError", .type "Exception", .type "BaseException", .type "object"]
/-- what is written of the class at C over KeyError, whose __init__ is at fI, its field f -/
structure KeptK (K : PySem.W.Frag) (C fI : Addr) (f : Str) : Prop where
  new : PySem.W.excInitIn K C bmK "LookupError.__new__" = true
  over : PySem.W.excOver K C bmK = true
  ini : PySem.W.findIn K (.ref C) "__init__" = some (some (.ref fI))
  fn : PySem.W.typeIn K (.ref fI) = some (.type "function")
  sa : PySem.W.findIn K (.ref C) "__setattr__" = some (some (.builtin "object.__setattr__"))
  taker : PySem.W.takerIn K C f = some none
  none_ : PySem.W.findIn K (.ref C) f = some none
  keep : PySem.W.keepIn K (.ref C) = true
  ty : PySem.W.typeIn K (.ref C) = some (.type "type")
  xf : XfC K C
theorem tail_ke {bm : List Value} (h : ∀ X : String, bm.contains (.type X) = bmK.contains (.type X)) : PySem.HopKe.Tail bm :=
  ⟨(h _).trans (by decide +kernel), (h _).trans (by decide +kernel), (h _).trans (by decide +kernel), (h _).trans (by decide +kernel)⟩
theorem store_ke : StoreFacts "KeyError" bmK "object.__setattr__" "object" where
  mro := by kernel_rfl
  slot := .of (owner := "object") (n := "__setattr__") (by rw [typeLookup_type, builtinLookup_eq_fast]; kernel_rfl) (by decide +kernel) (by decide +kernel) (by decide +kernel)
    (by first | exact .inl (by decide +kernel) | exact .inr (by decide +kernel)) (by rw [isSubtype_type]; kernel_rfl)
  entry := PySem.F.store_LookupError.entry
  kind := PySem.F.store_LookupError.kind
  split := PySem.F.store_LookupError.split
  hasOwner := by decide +kernel
  args := PySem.F.store_LookupError.args
  passes := fun self => by kernel_rfl
theorem type_ke : typeOf (.type "KeyError") = pure (.type "type") := by kernel_rfl
section
variable {X : Cx} {C fI a : Addr} {f : Str}
/-- self.f = y, on an exception without a dict -/
theorem keep_ke {pins : List (Addr × Obj)} {σ : L2.St} {H : Hp} {s : Shared} {A : Around} {y : V} {u : Value} {Q : Unit → Shared → Prop} {E : Value → Shared → Prop} (T : KeptK X.K C fI f) (I : Inv X pins σ H s) (ha : H a = some (exo a C none)) (r : RelV y u)
    (k : ∀ d s', H d = none → d ≠ a → Inv X pins σ (upd (upd H d (exd d [(f, y)])) a (exo a C (some d))) s' → Q () s') : wpAny (model X.prog X.w) A (setAttr (.ref a) f u) Q E s := by
  obtain ⟨t0, at0⟩ := exo_at I.hok ha
  obtain ⟨cd, c1, c2⟩ := PySem.W.any_some T.xf.hdC
  obtain ⟨hp, g, dr, tk, os⟩ := s
  have lt : a < hp.objs.size := Heap.lt_size at0
  have ne : hp.objs.size ≠ a := Nat.ne_of_gt lt
  refine PySem.W.set_plain (od := none) I.kIn ⟨at0, rfl, rfl, trivial⟩ T.sa ?_
  refine PySem.W.osa_openX (od := none) store_ke I.kIn ⟨at0, rfl, rfl, trivial⟩ T.over T.taker fun _ => ?_
  refine wpAny_bind (wpAny_pure (wpAny_bind (PySem.W.instanceDict_exc at0 (PySem.W.looks_clsIn I.kIn c1) c2 ?_)))
  refine HandSPX.store_in_new ⟨_, #[], _, (Heap.get?_update_other _ _ ne.symm).trans (Heap.get?_push_size _ rfl), rfl, fun e he => absurd he (by simp), fun _ => rfl⟩ ?_
  intro h' tk' ns sb
  have I1 : Inv X pins σ (upd H hp.objs.size (exd hp.objs.size [])) ⟨hp.push (PySem.W.dictOf [] 0), g, dr, tk, os⟩ :=
    I.laid (a := hp.objs.size) (o := exd hp.objs.size []) (t' := tk) (fun b o q => Heap.get?_push_of_some _ q) (Nat.le_refl _) (exd_ok (mA := fun _ => none) (Heap.Ns1.of_empty ⟨_, #[], _, Heap.get?_push_size _ rfl, rfl, fun e he => absurd he (by simp), fun _ => rfl⟩) fun _ => True.intro)
  have a1 : (hp.push (PySem.W.dictOf [] 0)).get? a = some _ := Heap.get?_push_of_some _ at0
  have a2 := Heap.get?_update_self (fun o : Obj => { o with dict := some hp.objs.size }) a1 rfl
  have I2 := I1.write (x := a) (e := a) (o := exo a C (some hp.objs.size)) (t' := tk) (h' := (hp.push (PySem.W.dictOf [] 0)).update a fun o => { o with dict := some hp.objs.size }) (by rw [upd_ne ne.symm, ha]; exact True.intro) (.inl rfl)
    (fun b o hb q => (Heap.get?_update_other _ _ (Ne.symm hb)).trans q) ⟨_, a2⟩ (exo_ok a2)
  have d3 : ∃ o, h'.get? hp.objs.size = some o := by
    obtain ⟨o, _, _, q, _⟩ := ns
    exact ⟨o, q⟩
  have I3 := I2.write (x := hp.objs.size) (e := hp.objs.size) (o := exd hp.objs.size [(f, y)]) (t' := tk') (h' := h') (by rw [upd_ne ne, upd_same]; exact True.intro) (.inl rfl)
    (fun b o hb q => (sb.2 b hb).trans q) d3 (exd_ok ns (relO_put (fs := []) r fun g => True.intro))
  rw [laid_dict ne] at I3
  exact k _ _ (I.hok.fresh (Nat.le_refl _)) ne I3
/-- KeyError.__init__(self, ..): nothing of it is told -/
theorem begun_ke {pins : List (Addr × Obj)} {σ : L2.St} {H : Hp} {s : Shared} {A : Around} {us : List Value} {Q : Value → Shared → Prop} {E : Value → Shared → Prop} (T : KeptK X.K C fI f) (I : Inv X pins σ H s) (ha : H a = some (exo a C none)) (hl : us.length ≤ sizeLine)
    (k : ∀ s', Inv X pins σ H s' → Q .none s') : wpAny (model X.prog X.w) A (call (.builtin "KeyError.__init__") (.ref a :: us)) Q E s := by
  obtain ⟨nm, N, qn, bs, bm, hdct, sn, sub, ab, col, dd, k0, k1, k2, k3, k5, at1, cont⟩ := PySem.W.excInit_of I.kIn T.new
  obtain ⟨t0, at0⟩ := exo_at I.hok ha
  obtain ⟨hp, g, dr, tk, os⟩ := s
  refine wpAny_call (PySem.HopKe.init_ke (s := ⟨hp, g, dr, tk, os⟩) ⟨_, _, _, _, _, _, _, _, _, _, _, _, _, _, _, _, at1, tail_ke cont⟩ at0 hl ?_)
  intro h' t1 at2 kp
  have same : upd H a (exo a C none) = H := by
    funext b
    by_cases hb : b = a
    · rw [hb, upd_same, ha]
    · rw [upd_ne hb]
  have J := I.write (x := a) (e := a) (o := exo a C none) (t' := tk) (h' := h') (by rw [ha]; exact True.intro) (.inl rfl) kp ⟨_, at2⟩ (exo_ok at2)
  rw [same] at J
  exact k _ J
variable {e o : Expr} {es : List Expr} {te to : TE} {ta : TA} {p p1 p2 p' pos : Pos}
def tKeI (K : PySem.W.Frag) (f : Str) (ta : TA) : TE := fun σ H Q => ta σ H fun vs H1 => ∃ (a C fI : Addr) (ws : List V), vs = .ref a :: ws ∧ ws.length ≤ 1000 ∧ KeptK K C fI f ∧ H1 a = some (exo a C none) ∧ Q .non H1
theorem pe_keinit {pl : Sem Bool} (f : Str) (hg : Gl X "KeyError") (hm : X.mg "KeyError" = none) (vV : PySem.W.findCls X.K (.type "KeyError") (.type "type") "__init__" = some (.val (.builtin "KeyError.__init__"))) (ha : PA X (e :: es) ta)
    (hc : eval (.Call (.Attribute (.Name "KeyError" p1) "__init__" p2) (e :: es) [] pos) X.env = (do
      let ov ← eval (.Name "KeyError" p1) X.env
      standAt p2.atName
      let (m, first) ← holding [ov] (getMethod ov "__init__" pl)
      callWith pos m first (backTo pos (starEach (e :: es) X.env)) (backToKw pos (keywordEach [] X.env))) := by rfl)
    (he : starEach (e :: es) X.env = (false, eval e X.env) :: starEach es X.env := by rfl) (hpl : (backTo pos (starEach es X.env)).any (·.1) = false := by rfl) :
    PE X (.Call (.Attribute (.Name "KeyError" p1) "__init__" p2) (e :: es) [] pos) (tKeI X.K f ta) := by
  constructor
  intro pins s σ H Q I h
  obtain ⟨m, fr⟩ := I.fr
  refine PySem.W.methodCall_KW (ld_blt I hg hm PyProof.Rows.Boot.«KeyError» (PySem.W.method_type fr I.ok.mod.kin type_ke (by decide +kernel) vV (by decide +kernel) ?_) (by decide) (by decide)) hc
  show wpAny (model X.prog X.w) X.A (callWith pos (Value.builtin "KeyError.__init__") [] (backTo pos (starEach (e :: es) X.env)) []) _ _ _
  refine PyProof.Rows.callWith_method1 (thn (ha.run pos pins _ σ H _ (I.tok _) h) ?_) he hpl
  rintro us s1 ⟨vs, H1, J, r, a, C, fI, ws, rfl, hl, T, at1, q⟩
  cases r with
  | cons ra rr =>
    cases (show _ = Value.ref a from ra)
    refine begun_ke T J at1 ?_ fun s' J' => ⟨.non, H1, J', rfl, q⟩
    have := Paired.length rr
    rw [sizeLine_eq]
    omega
def tKeepK (K : PySem.W.Frag) (f : Str) (to te : TE) : TS := fun D σ H => te σ H fun y H1 => to σ H1 fun x H2 => ∃ a C fI : Addr, x = .ref a ∧ KeptK K C fI f ∧ H2 a = some (exo a C none) ∧ ∀ d, H2 d = none → d ≠ a → D.nx σ (upd (upd H2 d (exd d [(f, y)])) a (exo a C (some d)))
theorem ps_keepK (ho : PE X o to) (he : PE X e te) (hs : swapsWith e (some (.Attribute o f p')) pos.line X.env = pure false := by rfl) : PS X (.Assign [.Attribute o f p'] e pos) (tKeepK X.K f to te) := by
  constructor
  intro pins s σ H D I h
  refine plainObj_wpAny_Assign_Attribute (thn (he.run pins s σ H _ I h) ?_) hs
  rintro v s1 ⟨y, H1, I1, r1, q1⟩
  refine thn (ho.run pins s1 σ H1 _ I1 q1) ?_
  rintro u s2 ⟨x, H2, I2, r2, a, C, fI, rfl, T, ha, q⟩
  cases (show u = Value.ref a from r2)
  exact keep_ke T I2 ha r1 fun d s' n ne J => ⟨σ, _, J, q d n ne⟩
/-! ### N(e) as a value: the refusal with its field -/
/-- how a class whose __init__ is a def of its own is called -/
structure Own1 (K : PySem.W.Frag) (C fI : Addr) : Prop where
  call : ∀ {prog : Program} {w : World} {A : Around} {R : Result → Shared → Prop} {s : Shared} {rest : List Value}, K.In s.heap → rest.length ≤ sizeLine →
    codeAny (model prog w) (A.under (.builtin "type.__call__" ⟨.ref C :: rest, []⟩)) (.call (.ref fI) ⟨.ref (s.heap.objs.size + 1) :: rest, []⟩) (PySem.W.InitBack (s.heap.objs.size + 1) R) { s with heap := (s.heap.push (PySem.W.kdv_tup rest)).push (HandSPX.excO C s.heap.objs.size) } →
    codeAny (model prog w) A (.call (.ref C) ⟨rest, []⟩) R s
  keep : PySem.W.keepIn K (.ref C) = true
theorem Kept.own1 {K : PySem.W.Frag} (T : Kept K C fI f) : Own1 K C fI where
  keep := T.keep
  call := by
    intro prog w A R s rest kin hl h
    obtain ⟨nm, N, qn, bs, bm, hdct, sn, sub, ab, col, dd, k0, k1, k2, k3, k5, at1, cont⟩ := PySem.W.excInit_of kin T.new
    exact HandSPX.call_own PySem.F.excBase_IndexError cont at1 (PySem.W.looks_findIn kin T.ini) (fun self => PySem.W.bind_fn kin self T.fn) hl h
theorem KeptK.own1 {K : PySem.W.Frag} (T : KeptK K C fI f) : Own1 K C fI where
  keep := T.keep
  call := by
    intro prog w A R s rest kin hl h
    obtain ⟨nm, N, qn, bs, bm, hdct, sn, sub, ab, col, dd, k0, k1, k2, k3, k5, at1, cont⟩ := PySem.W.excInit_of kin T.new
    exact PySem.HopKe.call_ke ⟨_, _, _, _, _, _, _, _, _, _, _, _, _, _, _, _, at1, tail_ke cont⟩ (PySem.W.looks_findIn kin T.ini) (fun self => PySem.W.bind_fn kin self T.fn) hl h
def tMkV (C : Addr) (f : Str) (ta : TA) : TE := fun σ H Q => ta σ H fun vs H1 => ∃ y, vs = [y] ∧ ∀ a d, H1 a = none → H1 d = none → d ≠ a → Q (.ref a) (upd (upd H1 d (.xd [(f, y)])) a (ExH (.ref C) (some d) a))
theorem told_dict {H : Hp} {a d : Addr} {o1 o2 o3 o4 o5 : HO} (n : d ≠ a) : upd (upd (upd (upd (upd H a o1) d o2) a o3) d o4) a o5 = upd (upd H d o4) a o5 := by
  funext b
  by_cases h2 : b = a
  · subst h2
    rw [upd_same, upd_same]
  · rw [upd_ne h2, upd_ne h2]
    by_cases h1 : b = d
    · subst h1
      rw [upd_same, upd_same]
    · rw [upd_ne h1, upd_ne h1, upd_ne h2, upd_ne h1, upd_ne h2]
theorem pe_keepV {x : Str} {k : Nat} {fd : FuncData} {ps : List Str} (T : Own1 X.K C fI) (F1 : FnOk X.prog X.w X.K X.mg X.base CX0 k fI fd ps (spKeepI C f)) (hr : Room (k + 1) X.A) (hb : Binds X.K fd ps []) (hg : Gl X x) (hm : X.mg x = some (.ref C)) (ha : PA X [e] ta)
    (hdb : (x == ("__debug__" : Str)) = false := by decide) (he : starEach (e :: []) X.env = (false, eval e X.env) :: starEach [] X.env := by rfl) (hpl : (backTo pos (starEach [] X.env)).any (·.1) = false := by rfl) :
    PE X (.Call (.Name x p) [e] [] pos) (tMkV C f ta) := by
  constructor
  intro pins s0 σ H0 Q I0 h0
  refine wpAny_Call_Name_kw (ld_glob I0 hg hm ?_ hdb)
  refine PySem.W.callWith_K (h₀ := X.base) I0.ok.mod.kin T.keep (thn (ha.run pos pins s0 σ H0 _ I0 h0) ?_) he hpl
  rintro us s ⟨vs, H, I, r, y, rfl, q⟩
  refine ⟨I.kIn, ?_⟩
  obtain ⟨hp, g, dr, tk, os⟩ := s
  have na : H (hp.objs.size + 1) = none := I.hok.fresh (Nat.le_succ _)
  have old : ∀ b u, hp.get? b = some u → ((hp.push (PySem.W.kdv_tup us)).push (HandSPX.excO C hp.objs.size)).get? b = some u := fun b u q => Heap.get?_push_of_some _ (Heap.get?_push_of_some _ q)
  have at2 : ((hp.push (PySem.W.kdv_tup us)).push (HandSPX.excO C hp.objs.size)).get? (hp.objs.size + 1) = some (HandSPX.excO C hp.objs.size) := by heap_get
  have J : Inv X pins σ (upd H (hp.objs.size + 1) (exo (hp.objs.size + 1) C none)) ⟨(hp.push (PySem.W.kdv_tup us)).push (HandSPX.excO C hp.objs.size), g, dr, tk, os⟩ := I.laid (t' := tk) old (Nat.le_succ _) (exo_ok at2)
  have rr : Vals [V.ref (hp.objs.size + 1), y] (Value.ref (hp.objs.size + 1) :: us) := .cons rfl r
  have sp : spKeepI C f [V.ref (hp.objs.size + 1), y] (upd H (hp.objs.size + 1) (exo (hp.objs.size + 1) C none)) (fun v H2 => v = .non ∧ ∃ d, H d = none ∧ d ≠ hp.objs.size + 1 ∧ H2 = upd (upd (upd H (hp.objs.size + 1) (exo (hp.objs.size + 1) C none)) d (exd d [(f, y)])) (hp.objs.size + 1) (exo (hp.objs.size + 1) C (some d))) (fun _ _ _ => False) :=
    ⟨_, y, rfl, upd_same, fun d nd ne => ⟨rfl, d, by rw [upd_ne ne] at nd; exact nd, ne, rfl⟩⟩
  have hl : (Value.ref (hp.objs.size + 1) :: us).length = ps.length := rr.length.symm.trans (F1.len _ _ _ _ sp)
  have bi := hb _ (Value.ref (hp.objs.size + 1) :: us) J.kIn (by rw [List.append_nil]; exact hl)
  rw [List.append_nil] at bi
  have lu : us.length ≤ sizeLine := by
    rw [← Paired.length r]
    show 1 ≤ sizeLine
    decide
  refine wpAny_call (T.call (s := ⟨hp, g, dr, tk, os⟩) I.kIn lu
    (codeAny_mono (F1.run _ X.stack _ _ ⟨Value.ref (hp.objs.size + 1) :: us, []⟩ _ _ _ _ (hr.make C us []) (J.env0.make C us []) bi rr sp) ?_))
  intro res s' z
  match res, z with
  | .error er, z =>
    have no : Passes CX0 X (fun _ _ _ => False) := fun _ _ _ _ _ _ _ h => h.elim
    exact no pins σ _ _ er s' J z
  | .ok (.ret u), z =>
    obtain ⟨v, H', I3, rv, rfl, d, nd, ne, rfl⟩ := J.after z
    obtain ⟨hz, gz, dz, tz, oz⟩ := s'
    have ed : upd (upd (upd H (hp.objs.size + 1) (exo (hp.objs.size + 1) C none)) d (exd d [(f, y)])) (hp.objs.size + 1) (exo (hp.objs.size + 1) C (some d)) d = some (exd d [(f, y)]) := by rw [upd_ne ne, upd_same]
    obtain ⟨mA, ns, rel⟩ := exd_at I3.hok ed
    have I4 := I3.write (x := d) (e := d) (o := .xd [(f, y)]) (t' := tz) (h' := hz) (by rw [ed]; exact True.intro) (.inl rfl) (fun _ _ _ q => q) (by obtain ⟨o, _, _, q, _⟩ := ns; exact ⟨o, q⟩) ⟨mA, ns, rel⟩
    obtain ⟨t0, at0⟩ := exo_at I3.hok upd_same
    have I5 := I4.write (x := hp.objs.size + 1) (e := hp.objs.size + 1) (o := ExH (.ref C) (some d) (hp.objs.size + 1)) (t' := tz) (h' := hz) (by rw [upd_ne (Ne.symm ne), upd_same]; exact True.intro) (.inl rfl) (fun _ _ _ q => q) ⟨_, at0⟩ (exH_ok at0 ⟨rfl, rfl⟩ rfl)
    rw [told_dict ne] at I5
    exact ⟨rv, V.ref (hp.objs.size + 1), _, I5, rfl, q _ d na nd ne⟩
  | .ok .next, z => exact z.elim
  | .ok .brk, z => exact z.elim
  | .ok .cont, z => exact z.elim
/-! ### isinstance of a refusal, with a dict or none -/
def Er (H : Hp) (a D : Addr) : Prop := H a = some (ExO (.ref D) a) ∨ ∃ fs, Fld H a D fs
theorem Er.same {H H' : Hp} {a D : Addr} (s : Same H H') (h : Er H a D) : Er H' a D := by
  rcases h with h | ⟨fs, d, h1, h2⟩
  · exact .inl (s _ _ h)
  · exact .inr ⟨fs, d, s _ _ h1, s _ _ h2⟩
def rIsEr (K : PySem.W.Frag) : List V → Hp → VK → Prop := fun xs H Q => ∃ (a D : Addr) (c : V) (cv : Value) (b : Bool), xs = [.ref a, c] ∧ Er H a D ∧ ExcC K D ∧ ClsV c cv ∧ PySem.W.kitOne K (.ref D) cv = some b ∧ Q (.bl b) H
theorem call_isEr : CallR X (.builtin "isinstance") (rIsEr X.K) := by
  rintro pins s σ H xs us Q I r ⟨a, D, c, cv, b, rfl, ha | ⟨fs, hf⟩, C, kc, e, q⟩
  · obtain ⟨u1, u2, rfl, r1, r2⟩ := vals2 r
    obtain rfl := kc.eq r2
    cases (show u1 = Value.ref a from r1)
    obtain ⟨⟨oe, vs, e1, ⟨z1, z2⟩, q1, _⟩, _, _⟩ := I.hok a _ ha
    obtain ⟨oc, od, oda, osl⟩ := oe
    dsimp only at z1 z2 q1
    subst z1 z2 q1
    exact PySem.W.kia_one (PySem.W.handS_kitx_exc C.hg C.hk C.hs C.hd C.ha C.hn C.ht C.hm) I.kIn ⟨e1, rfl, rfl, trivial⟩ e (fun z => nomatch z) fun tk => ⟨.bl b, H, I.tok tk, rfl, q⟩
  · exact call_isF pins s σ H _ us Q I r ⟨a, D, fs, c, cv, b, rfl, hf, C, kc, e, q⟩
end
end HopR

set_option Elab.async false
set_option linter.all false
set_option maxRecDepth 100000
namespace HopR
open PySem PySem.Spec PyProof.Rows L2
/-! rules of my own: texts -/
/-- the signs of a text, each a text -/
def sg (z : Str) : List Str := z.cps.toList.map fun c => ⟨#[c]⟩
theorem sg_len (z : Str) : (sg z).length = z.length := by
  unfold sg
  rw [List.length_map]
  rfl
theorem sg_get {z : Str} {i : Nat} {c : Nat} (h : z.cps[i]? = some c) : (sg z)[i]? = some ⟨#[c]⟩ := by
  unfold sg
  rw [List.getElem?_map, Array.getElem?_toList, h]
  rfl
theorem strsAre_of : ∀ (vs : List Value) (ys : List Str), vs.length = ys.length → (∀ (j : Nat) (v : Value), vs[j]? = some v → ∃ y t, ys[j]? = some y ∧ v = .str y t) → StrsAre vs ys
  | [], [], _, _ => .nil
  | v :: r, y :: q, hl, h => by
    obtain ⟨y', t, e1, e2⟩ := h 0 v rfl
    have e3 : y = y' := Option.some.inj e1
    subst e3 e2
    exact .cons y t (strsAre_of r q (by simpa using hl) fun j w hw => h (j + 1) w hw)
theorem signs_are {z : Str} {acc : Array Value} (h : ItemsOf (SignAt z) acc z.cps.size) : StrsAre acc.toList (sg z) := by
  refine strsAre_of _ _ (by rw [sg_len, Array.length_toList, h.1]; rfl) fun j v hv => ?_
  obtain ⟨c, u, hc, e⟩ := h.2 j v (by rw [← Array.getElem?_toList]; exact hv)
  exact ⟨⟨#[c]⟩, u, sg_get hc, e⟩
section
variable {X : Cx}
/-- sorted(text) -/
def rSortT : List V → Hp → VK → Prop := fun vs H Q => ∃ z : Str, vs = [.str z] ∧ z.length < 64 ∧ ∀ (ys : List Str) (p : Addr), ys.Perm (sg z) → sortedS ys = true → H p = none → Q (.ref p) (upd H p (.lst (ys.map V.str)))
theorem cr_sortT (hcm : X.calm = true) : CallR X (.builtin "sorted") rSortT := by
  intro pins s σ H xs us Q I r h
  obtain ⟨z, rfl, h64, q⟩ := h
  obtain ⟨u, rfl, t, rfl⟩ := vals1 r
  refine Calls.call_function_entry kind_sorted plain_sorted entry_sorted (args_sorted1 (.str z t)) ?_
  unfold Builtin.«sorted»
  refine wpAny_bind (m := checkCount "sorted" 1 1 [Value.str z t].length) (wpAny_pure ?_)
  have hz : z.cps.size < 64 := h64
  refine wpAny_bind (wpAny_collect_str (A := X.A.in1) (show X.A.in1.handled = none from I.ok.hd hcm) z t (fun s' acc hk hg hdr hos hit => ?_) (Nat.le_trans (Nat.le_of_lt hz) (by decide)))
  have hS := signs_are hit
  have es : s' = { s with heap := s'.heap, toks := s'.toks } := by
    cases s'
    cases s
    simp only at hg hdr hos
    subst hg hdr hos
    rfl
  have hal : acc.toList.length < 64 := by rw [Array.length_toList, hit.1]; exact hz
  refine wpAny_bind (wpAny_newList ?_ (Nat.le_trans (Nat.le_of_lt hal) (by decide)))
  have hoL : (s'.heap.push (seqObj "list" acc.toList.toArray 0)).get? s'.heap.objs.size = some (seqObj "list" acc.toList.toArray 0) := Heap.get?_push_size _ rfl
  refine wpAny_bind (wpAny_holding (wpAny_call_entry slot_list_sort ⟨_, hoL, rfl⟩ entry_list_sort (list_sort_treeK strKind_oneLt hoL hS.keysOf (fun v₁ v₂ rest e => keyKind_strs (by rw [← e]; exact hS)) hal fun st' hp hs => ⟨_, rfl, ?_⟩) (args_list_sort _)))
  obtain ⟨ys, g1, g2, g3⟩ := sorted_out_str hS hp hs
  obtain ⟨ep, he'⟩ := sortedHeap_at (vs := acc.toList) (out := (arrOf st').map (·.2)) hoL
  have I1 : Inv X pins σ H s' := by
    rw [es]
    exact I.kept hk
  have hlen : (ys.map V.str).length ≤ sizeLine := by
    rw [List.length_map, g2.length_eq, sg_len]
    exact Nat.le_trans (Nat.le_of_lt h64) (by decide)
  have hne : ∀ b o, s'.heap.get? b = some o → (sortedHeap (s'.heap.push (seqObj "list" acc.toList.toArray 0)) s'.heap.objs.size acc.toList ((arrOf st').map (·.2))).get? b = some o := fun b o e => by
    rw [sortedHeap_old (Nat.ne_of_lt (Heap.lt_size e)) (by rw [size_push']; exact Nat.lt_succ_of_lt (Heap.lt_size e))]
    exact Heap.get?_push_of_some _ e
  refine wpAny_pure ⟨_, rfl, .ref _, upd H s'.heap.objs.size (.lst (ys.map V.str)), I1.laid (t' := s'.toks) hne (Nat.le_refl _) ?_, rfl, q ys _ g2 g3 (I1.hok.fresh (Nat.le_refl _))⟩
  exact ⟨hlen, ((arrOf st').map (·.2)).toList, ep, vals_of_strs g1, by rw [Array.toArray_toList]; exact he'⟩
/-- list(text) -/
def rListT : List V → Hp → VK → Prop := fun vs H Q => ∃ z : Str, vs = [.str z] ∧ z.length ≤ sizeLine ∧ ∀ p : Addr, H p = none → Q (.ref p) (upd H p (.lst ((sg z).map V.str)))
theorem cr_listT (hcm : X.calm = true) : CallR X (.type "list") rListT := by
  intro pins s σ H xs us Q I r h
  obtain ⟨z, rfl, hz, q⟩ := h
  obtain ⟨u, rfl, t, rfl⟩ := vals1 r
  refine call_list_str (I.ok.hd hcm) z t (fun h' tk acc c' hk hS' hit => ?_) hz
  refine ⟨.ref _, upd H s.heap.objs.size (.lst ((sg z).map V.str)), I.laid hk (Nat.le_refl _) ?_, rfl, q _ (I.hok.fresh (Nat.le_refl _))⟩
  exact ⟨by rw [List.length_map, sg_len]; exact hz, acc.toList, c', vals_of_strs (signs_are hit), by rw [Array.toArray_toList]; exact hS'⟩
/-- text * n -/
def repS (z : Str) (n : Nat) : Str := ⟨((List.replicate n z.cps.toList).flatten).toArray⟩
theorem foldl_app : ∀ (n : Nat) (a b : Array Nat), ((List.replicate n a).foldl (· ++ ·) b).toList = b.toList ++ (List.replicate n a.toList).flatten
  | 0, a, b => by simp
  | n + 1, a, b => by
    rw [List.replicate_succ, List.foldl_cons, foldl_app n, List.replicate_succ, List.flatten_cons, Array.toList_append, List.append_assoc]
theorem repS_len (z : Str) (k : Nat) : (repS z k).length = z.length * k := by
  show ((List.replicate k z.cps.toList).flatten).toArray.size = z.cps.size * k
  rw [List.size_toArray, List.length_flatten, List.map_replicate, List.sum_replicate_nat, Array.length_toList, Nat.mul_comm]
def rRepS : R2 := fun x y H Q => ∃ (z : Str) (k : Nat), x = .str z ∧ y = .int (k : Int) ∧ z.length * k ≤ 1000000 ∧ k ≤ 1000000 ∧ Q (.str (repS z k)) H
theorem op_repS : OpR X (binaryOp .Mult) rRepS := by
  intro pins s σ H x y v u Q I rx ry h
  obtain ⟨z, k, rfl, rfl, hz, hk, q⟩ := h
  obtain ⟨t, rfl⟩ := rx
  obtain ⟨t', rfl⟩ := ry
  refine PySem.P.mul_str ?_ ?_ ?_ ?_
  · rw [decide_eq_false (by omega), decide_eq_false (by omega)]
    rfl
  · intro h1 _
    have h0 : (0 : Int) < (k : Int) := by omega
    have h2 : ((z.length * k : Nat) : Int) ≤ 2 ^ 63 - 1 := by omega
    rw [Int.natCast_mul] at h2
    have h3 := (Int.le_ediv_iff_mul_le h0).mpr h2
    omega
  · intro _ _
    unfold Builtin.Str.tooLong
    rw [Int.toNat_natCast, sizeLine_eq]
    exact decide_eq_false (by omega)
  · by_cases h1 : (k : Int) < 1
    · rw [if_pos h1]
      have e : repS z k = Str.empty := by
        have : k = 0 := by omega
        subst this
        rfl
      rw [e] at q
      exact ⟨by decide, .str _, H, I.tok _, ⟨_, rfl⟩, q⟩
    · rw [if_neg h1]
      by_cases h2 : ((k : Int) == 1 || z.length == 0) = true
      · rw [if_pos h2]
        have e : repS z k = z := by
          rw [Bool.or_eq_true] at h2
          rcases h2 with h2 | h2
          · have h3 : (k : Int) = 1 := by simpa using h2
            have h4 : k = 1 := by omega
            subst h4
            unfold repS
            simp
          · have h3 : z.length = 0 := by simpa using h2
            have h4 : z.cps = #[] := Array.eq_empty_of_size_eq_zero h3
            unfold repS
            cases z with | mk zc =>
            simp only at h4
            subst h4
            simp
        rw [e] at q
        exact ⟨.str z, H, I, ⟨t, rfl⟩, q⟩
      · rw [if_neg h2]
        have e : (⟨(List.replicate (k : Int).toNat z.cps).foldl (· ++ ·) #[]⟩ : Str) = repS z k := by
          unfold repS
          rw [Int.toNat_natCast, ← Array.toArray_toList (xs := (List.replicate k z.cps).foldl (· ++ ·) #[]), foldl_app]
          rfl
        rw [e]
        have hl : (repS z k).length ≤ sizeLine := by
          rw [repS_len, sizeLine_eq]
          omega
        exact ⟨hl, .str _, H, I.tok _, ⟨_, rfl⟩, q⟩
/-- text[::-1] -/
def revS (z : Str) : Str := ⟨z.cps.toList.reverse.toArray⟩
theorem revS_len (z : Str) : (revS z).length = z.length := by
  show z.cps.toList.reverse.toArray.size = z.cps.size
  rw [List.size_toArray, List.length_reverse, Array.length_toList]
theorem rev_pick (z : Str) : (⟨((PySem.Builtin.Str.strSliceIndices none none (-1) z.length).filterMap (z.cps[·]?)).toArray⟩ : Str) = revS z := by
  unfold revS
  have e : PySem.Builtin.Str.strSliceIndices none none (-1) z.length = (List.range z.length).reverse := by
    rw [← PySem.W.krv_range, ← PySem.W.krv_sliceRange]
    rfl
  have e2 := PySem.W.krv_all z.cps
  rw [e, List.filterMap_reverse]
  show (⟨((List.range z.cps.size).filterMap (z.cps[·]?)).reverse.toArray⟩ : Str) = _
  rw [e2]
def tRevS (te : TE) : TE := fun σ H Q => te σ H fun x H1 => ∃ z : Str, x = .str z ∧ z.length ≤ sizeLine ∧ Q (.str (revS z)) H1
theorem pe_revS {e : Expr} {te : TE} {k : Nat} {p1 p2 p3 pos : Pos} (he : PE X e te) : PE X (.Subscript e (.Slice none none (some (.UnaryOp .USub (.Constant (.int 1) k p1) p2)) p3) pos) (tRevS te) := by
  refine ⟨fun pins s σ H Q I h => Subscript_ (thn (he.run pins s σ H _ I h) fun v s1 ⟨x, H1, I1, r1, z, ex, hz, q⟩ => ?_)⟩
  subst ex
  obtain ⟨t, rfl⟩ := r1
  have hst : PO X (some (.UnaryOp .USub (.Constant (.int 1) k p1) p2)) (tPart (tUn (rU fun i => .int (-i)) (tC (.int 1)))) := po_some (pe_un un_neg pe_int)
  refine wpAny_Slice (thn (po_none.run pins s1 σ H1 (fun o K2 => o = none ∧ K2 = H1) I1 ⟨rfl, rfl⟩) fun vl s2 ⟨l, H2, I2, pl, el, e2⟩ => ?_)
  subst el e2
  refine thn (po_none.run pins s2 σ H2 (fun o K3 => o = none ∧ K3 = H2) I2 ⟨rfl, rfl⟩) fun vu s3 ⟨u, H3, I3, pu, eu, e3⟩ => ?_
  subst eu e3
  refine thn (hst.run pins s3 σ H3 (fun o K4 => o = some (-1) ∧ K4 = H3) I3 ⟨1, rfl, -1, rfl, rfl, rfl⟩) fun vs s4 ⟨o, H4, I4, ps, eo, e4⟩ => ?_
  subst eo e4
  obtain ⟨l, rfl, hl⟩ := IsPart.raw pl
  obtain ⟨u, rfl, hu⟩ := IsPart.raw pu
  obtain ⟨st, rfl, hst'⟩ := IsPart.raw ps
  have I5 : Inv X pins σ H4 { s4 with heap := s4.heap.push { cls := .type "slice", data := .fields #[partValue l, partValue u, partValue st] } } := I4.kept (t' := s4.toks) fun b ob qq => Heap.get?_push_of_some _ qq
  show wpAny (model X.prog X.w) X.A (subscriptTail e (.Slice none none (some (.UnaryOp .USub (.Constant (.int 1) k p1) p2)) p3) (.str z t) (.ref s4.heap.objs.size)) (EP X pins σ Q) X.xe { s4 with heap := s4.heap.push { cls := .type "slice", data := .fields #[partValue l, partValue u, partValue st] } }
  refine tail_any (ops := [.ref s4.heap.objs.size, .str z t]) (T := "str") (typeIs_str _ _ _) F.slot_str_getitem.lookup ?_ (by with_unfolding_all rfl)
  refine wpAny_getItem_str_slice (l := l) (u := u) (st := st) (Heap.IsSliceOf.new ..) (by rw [hst']; decide) ?_
  have em : sliceMade z t l u st = .str (revS z) := by
    unfold sliceMade slicePicked
    rw [hst', hl, hu]
    rw [if_neg (by simp)]
    rw [← rev_pick z]
    rfl
  rw [em]
  exact ⟨by rw [revS_len]; exact hz, .str _, H4, I5.tok _, ⟨_, rfl⟩, q⟩
end
end HopR

set_option Elab.async false
set_option linter.all false
set_option maxRecDepth 100000
namespace HopR
open PySem PySem.Spec PyProof.Rows L2
/-! rows as lists of truths -/
def cd (b : Bool) : Nat := if b then 111 else 46
def tx (bs : List Bool) : Str := ⟨(bs.map cd).toArray⟩
theorem cd_inj {a b : Bool} (h : cd a = cd b) : a = b := by
  cases a <;> cases b <;> first | rfl | (exact absurd h (by decide))
theorem map_cd_inj : ∀ {as bs : List Bool}, as.map cd = bs.map cd → as = bs
  | [], [], _ => rfl
  | [], _ :: _, h => by simp at h
  | _ :: _, [], h => by simp at h
  | a :: r, b :: q, h => by
    rw [List.map_cons, List.map_cons] at h
    injection h with h1 h2
    rw [cd_inj h1, map_cd_inj h2]
theorem tx_inj {as bs : List Bool} (h : tx as = tx bs) : as = bs := by
  unfold tx at h
  injection h with h
  exact map_cd_inj (by simpa using congrArg Array.toList h)
theorem tx_len (bs : List Bool) : (tx bs).length = bs.length := by
  show (bs.map cd).toArray.size = bs.length
  rw [List.size_toArray, List.length_map]
theorem tx_list (bs : List Bool) : (tx bs).cps.toList = bs.map cd := rfl
theorem tx_get {bs : List Bool} {i : Nat} {b : Bool} (h : bs[i]? = some b) : (tx bs).cps[i]? = some (cd b) := by
  show (bs.map cd).toArray[i]? = some (cd b)
  rw [List.getElem?_toArray, List.getElem?_map, h]
  rfl
theorem ext_str {a b : Str} (h : a.cps.toList = b.cps.toList) : a = b := by
  cases a with | mk x =>
  cases b with | mk y =>
  have e : x = y := Array.toList_inj.mp h
  rw [e]
theorem tx_app (as bs : List Bool) : tx as ++ tx bs = tx (as ++ bs) := by
  apply ext_str
  show ((as.map cd).toArray ++ (bs.map cd).toArray).toList = (as ++ bs).map cd
  rw [Array.toList_append, List.map_append]
theorem tx_rev (bs : List Bool) : revS (tx bs) = tx bs.reverse := by
  unfold revS tx
  simp
theorem tx_sg (bs : List Bool) : sg (tx bs) = bs.map fun b => tx [b] := by
  unfold sg
  rw [tx_list, List.map_map]
  rfl
theorem tx_o : ("o" : Str) = tx [true] := by decide +kernel
theorem tx_f : ("." : Str) = tx [false] := by decide +kernel
/-- a row walked sign by sign: a turn's sign is the text of that place's truth -/
theorem walk_tx {bs : List Bool} : Walk (Its (tx bs)) bs.length (fun _ => True) (fun i H v H' => H' = H ∧ ∃ b, bs[i]? = some b ∧ v = .str (tx [b])) := by
  have w := walk_str (z := tx bs)
  rw [show (tx bs).cps.size = bs.length from tx_len bs] at w
  refine w.mono (fun _ g => g) fun i H x H' hi _ y => ?_
  obtain ⟨e1, c, e2, e3⟩ := y
  have hb : bs[i]? = some bs[i] := List.getElem?_eq_getElem hi
  rw [tx_get hb] at e2
  cases e2
  exact ⟨e1, _, hb, e3⟩
def for_tx {bs : List Bool} {g : TG} {tb : TS} {D : Ends} {σ : L2.St} {H : Hp} (Pv : Nat → L2.St → Hp → Prop) (h0 : Pv 0 σ H)
    (hs : ∀ i b σ H, bs[i]? = some b → Pv i σ H → g (.str (tx [b])) σ H fun σ2 H2 => tb { D with nx := Pv (i + 1), ct := Pv (i + 1), bk := D.nx } σ2 H2) (hd : ∀ σ H, Pv bs.length σ H → D.nx σ H) :=
  for_it (walk_tx (bs := bs)) (g := g) (tb := tb) (D := D) (σ := σ) (H := H) Pv h0 (fun _ _ _ _ _ => trivial)
    (fun i x σ H H' _ p y => by
      obtain ⟨e1, b, hb, e2⟩ := y
      subst e1 e2
      exact hs i b σ _ hb p) hd
def lc_tx {bs : List Bool} {g : TG} {tt : TT} {te : TE} {vs : List Nat} {σ : L2.St} {H1 : Hp} {D : Addr} {Qd : Hp → Prop} (Pv : Nat → Hp → Prop) (h0 : Pv 0 (upd H1 D (.lst [])))
    (hs : ∀ i b H, bs[i]? = some b → Pv i H → g (.str (tx [b])) (wipe σ vs) H fun σ2 H2 => wipe σ2 vs = wipe σ vs ∧ tt σ2 H2 fun kept H3 =>
      if kept = true then (te σ2 H3 fun y H4 => ∃ acc, H4 D = some (.lst acc) ∧ acc.length < sizeLine ∧ Pv (i + 1) (upd H4 D (.lst (acc ++ [y])))) else Pv (i + 1) H3)
    (hd : ∀ H, Pv bs.length H → Qd H) :=
  lc_it (walk_tx (bs := bs)) (g := g) (tt := tt) (te := te) (vs := vs) (σ := σ) (H1 := H1) (D := D) (Qd := Qd) Pv h0 (fun _ _ _ _ => trivial)
    (fun i x H H' _ p y => by
      obtain ⟨e1, b, hb, e2⟩ := y
      subst e1 e2
      exact hs i b _ hb p) hd
end HopR

set_option Elab.async false
set_option linter.all false
set_option maxRecDepth 100000
namespace HopR
open PySem PySem.Spec PyProof.Rows L2 TL
theorem joinL_nil : ∀ ps : List (List Nat), joinL [] ps = ps.flatten
  | [] => rfl
  | [p] => by
    show p = p ++ []
    rw [List.append_nil]
  | p :: q :: r => by
    show p ++ ([] ++ joinL [] (q :: r)) = p ++ (q :: r).flatten
    rw [List.nil_append, joinL_nil (q :: r)]
theorem join0_list (ys : List Str) : (Txt.join "" ys).cps.toList = (ys.map fun y => y.cps.toList).flatten := by
  have e : Txt.join "" ys = Str.join "" ys := PySem.StrLaws.glued_eq_join "" ys
  rw [e]
  have h := tl_join "" ys
  have h2 : tl ("" : Str) = [] := by decide +kernel
  rw [h2, joinL_nil] at h
  exact h
theorem join_tx (bs : List Bool) : Txt.join "" (bs.map fun b => tx [b]) = tx bs := by
  apply ext_str
  rw [join0_list, List.map_map, tx_list]
  induction bs with
  | nil => rfl
  | cons b r ih =>
    rw [List.map_cons, List.flatten_cons, ih]
    rfl
theorem sum_ones : ∀ bs : List Bool, ((bs.map fun b => tx [b]).map (·.length)).sum = bs.length
  | [] => rfl
  | b :: r => by
    rw [List.map_cons, List.map_cons, List.sum_cons, sum_ones r, tx_len]
    show 1 + r.length = r.length + 1
    omega
theorem join_fits {bs : List Bool} (h : bs.length ≤ 1000) : ((bs.map fun b => tx [b]).map (·.length)).sum + (bs.map fun b => tx [b]).length * ("" : Str).length ≤ 16777216 := by
  have e : ("" : Str).length = 0 := by decide +kernel
  rw [sum_ones, e, Nat.mul_zero]
  omega
theorem cut_tx (bs : List Bool) (lo hi : Option Int) : cutS (tx bs) lo hi = tx ((bs.drop (HT.sIx bs.length 0 lo)).take (HT.sIx bs.length bs.length hi - HT.sIx bs.length 0 lo)) := by
  apply ext_str
  unfold cutS
  rw [tx_len, tx_list, tx_list, List.map_take, List.map_drop]
theorem cut_to (bs : List Bool) (k : Nat) : cutS (tx bs) none (some (k : Int)) = tx (bs.take k) := by
  rw [cut_tx, HT.sIx_none, HT.sIx_nat, List.drop_zero, Nat.sub_zero]
  by_cases h : k ≤ bs.length
  · rw [Nat.min_eq_left h]
  · rw [Nat.min_eq_right (by omega), List.take_length, List.take_of_length_le (by omega)]
theorem cut_from (bs : List Bool) (k : Nat) : cutS (tx bs) (some (k : Int)) none = tx (bs.drop k) := by
  rw [cut_tx, HT.sIx_none, HT.sIx_nat]
  by_cases h : k ≤ bs.length
  · rw [Nat.min_eq_left h, List.take_of_length_le (by rw [List.length_drop]; exact Nat.le_refl _)]
  · rw [Nat.min_eq_right (by omega), List.drop_length, List.drop_of_length_le (by omega), List.take_nil]
theorem cut_at (bs : List Bool) (k m : Nat) : cutS (tx bs) (some (k : Int)) (some ((k : Int) + (m : Int))) = tx ((bs.drop k).take m) := by
  have e : ((k : Int) + (m : Int)) = ((k + m : Nat) : Int) := by omega
  rw [e, cut_tx, HT.sIx_nat, HT.sIx_nat]
  by_cases h : k ≤ bs.length
  · rw [Nat.min_eq_left h]
    by_cases h2 : k + m ≤ bs.length
    · rw [Nat.min_eq_left h2, Nat.add_sub_cancel_left]
    · rw [Nat.min_eq_right (by omega), List.take_of_length_le (by rw [List.length_drop]; exact Nat.le_refl _), List.take_of_length_le (by rw [List.length_drop]; omega)]
  · rw [Nat.min_eq_right (by omega), Nat.min_eq_right (by omega), List.drop_length, List.drop_of_length_le (by omega), List.take_nil, List.take_nil]
theorem cut_mid (bs : List Bool) (h : 2 ≤ bs.length) : cutS (tx bs) (some 1) (some (-1)) = tx ((bs.drop 1).take (bs.length - 2)) := by
  rw [cut_tx]
  have e1 : HT.sIx bs.length 0 (some 1) = 1 := by
    rw [show (some (1 : Int)) = some ((1 : Nat) : Int) from rfl, HT.sIx_nat]
    omega
  have e2 : HT.sIx bs.length bs.length (some (-1)) = bs.length - 1 := by
    show (if (-1 : Int) < 0 then ((-1 : Int) + (bs.length : Int)).toNat else min (-1 : Int).toNat bs.length) = bs.length - 1
    rw [if_pos (by decide)]
    omega
  rw [e1, e2]
  congr 2
/-! ### rows: walls, changes, the mirror -/
def ends (bs : List Bool) : List Bool := true :: (bs ++ [false])
theorem ends_len (bs : List Bool) : (ends bs).length = bs.length + 2 := by
  unfold ends
  rw [List.length_cons, List.length_append]
  rfl
def opn (bs : List Bool) (k : Nat) : Bool := decide (((ends bs).drop k).take 2 = [true, false])
def walls (bs : List Bool) : List Nat := (List.range (bs.length + 1)).filter (opn bs)
def bhd (bs : List Bool) (k : Nat) : List Bool := (ends bs).take k ++ [false] ++ [true] ++ (ends bs).drop (k + 2)
def chg (bs : List Bool) (k : Nat) : List Bool := ((bhd bs k).drop 1).take ((bhd bs k).length - 2)
def mir (bs : List Bool) : List Bool := bs.reverse.map (!·)
def num (bs : List Bool) : Int := bs.foldl (fun n b => n * 2 + (if b then 1 else 0)) 0
theorem mem_walls {bs : List Bool} {k : Nat} : k ∈ walls bs ↔ k ≤ bs.length ∧ opn bs k = true := by
  unfold walls
  rw [List.mem_filter, List.mem_range, Nat.lt_succ_iff]
theorem mir_len (bs : List Bool) : (mir bs).length = bs.length := by
  unfold mir
  rw [List.length_map, List.length_reverse]
theorem walls_len (bs : List Bool) : (walls bs).length ≤ bs.length + 1 := by
  unfold walls
  exact Nat.le_trans (List.length_filter_le _ _) (by rw [List.length_range]; exact Nat.le_refl _)
theorem bhd_len {bs : List Bool} {k : Nat} (h : k ≤ bs.length) : (bhd bs k).length = bs.length + 2 := by
  unfold bhd
  rw [List.length_append, List.length_append, List.length_append, List.length_take, List.length_drop, ends_len]
  show min k (bs.length + 2) + 1 + 1 + (bs.length + 2 - (k + 2)) = bs.length + 2
  omega
theorem chg_len {bs : List Bool} {k : Nat} (h : k ≤ bs.length) : (chg bs k).length = bs.length := by
  unfold chg
  rw [List.length_take, List.length_drop, bhd_len h]
  omega
end HopR

set_option Elab.async false
set_option linter.all false
set_option maxRecDepth 100000
namespace HopR
open PySem PySem.Spec PyProof.Rows L2
/-! ### defs that are called where no repr is under way -/
/-- the promise sp of the def at f, kept wherever it is called while no repr is under way -/
structure FnOkG (P : Program) (w : World) (K : PySem.W.Frag) (mg : Str → Option Value) (base : Heap) (CX : CXT) (k : Nat) (f : Addr) (fd : FuncData) (ps : List Str) (sp : Sp) : Prop where
  arity : ∀ {vs H Q E}, sp vs H Q E → vs.length = ps.length
  calls : ∀ {A : Around} {outer : List Env} {s : Shared} {H : Hp} {args : Args} {us : List Value} {vs : List V} {Q : VK} {E : XK}, A.guards = some [] → Room k A → Env0 P w K mg base A outer s H →
    BindsTo s fd args (ps.zip us) → Vals vs us → sp vs H Q E → codeAny (model P w) A (.call (.ref f) args) (CR CX outer P w H s Q E) s
section
variable {P : Program} {w : World} {K : PySem.W.Frag} {mg : Str → Option Value} {base : Heap}
theorem FnOkG.of {CX : CXT} {k : Nat} {f : Addr} {fd : FuncData} {ps : List Str} {sp : Sp} (F : FnOk P w K mg base CX k f fd ps sp) : FnOkG P w K mg base CX k f fd ps sp where
  arity h := F.len _ _ _ _ h
  calls _ room e0 bind vals prom := F.run _ _ _ _ _ _ _ _ _ room e0 bind vals prom
/-- what the body's end says to the caller -/
theorem ends_say {CX : CXT} {N : List Str} {qual : Str} {scope : Scope} {f : Addr} {cdv : Value} {A : Around} {outer : List Env} {s : Shared} {H : Hp} {Q : VK} {E : XK} {fl : Flow} {s' : Shared}
    (h : SP (cxOf CX P w K mg base N qual scope f cdv A outer s H E) [] { nx := fun _ H' => Q .non H', rt := Q } fl s') :
    match fl with | .ret u => CE outer P w H s Q u s' | .next => CE outer P w H s Q Value.none s' | _ => False := by
  match fl, h with
  | .ret u, ⟨v, σ', H', J, rv, g⟩ => exact ⟨v, H', J.os, J.bare, J.base, J.hok, rv, g⟩
  | .next, ⟨σ', H', J, g⟩ => exact ⟨V.non, H', J.os, J.bare, J.base, J.hok, rfl, g⟩
  | .brk, ⟨_, _, _, g⟩ => exact g
  | .cont, ⟨_, _, _, g⟩ => exact g
theorem okG {x qual : Str} {st : Stmt} {f : Addr} {fd : FuncData} {N ps : List Str} {k : Nat} {sp : Sp} (F : Fun K x qual st f fd) (S : FnScope N ps (defScope st)) (len : ∀ vs H Q E, sp vs H Q E → vs.length = ps.length)
    (body : ∀ (cdv : Value) (A : Around) (outer : List Env) (s : Shared) (H : Hp) (vs : List V) (Q : VK) (E : XK), A.guards = some [] → Room k (A.deeper (envOfC qual (defScope st) s.heap.objs.size f cdv)) → sp vs H Q E →
      ∃ t, PSs (cxOf CX0 P w K mg base N qual (defScope st) f cdv A outer s H E).nox (defBody st) t ∧ t { nx := fun _ H' => Q .non H', rt := Q } (start N vs) H) : FnOkG P w K mg base CX0 (k + 1) f fd ps sp where
  arity h := len _ _ _ _ h
  calls {A outer s H args us vs Q E} free room e0 bind vals prom := by
    obtain ⟨_, _, _, _, _, _, cdv, _, _, rfl, lk, code⟩ := F.ex
    have old : ∀ b o, base.get? b = some o → s.heap.get? b = some o := fun b o e => (e0.bs b o e).1
    have here := e0.mod.kin.keeps old
    obtain ⟨t, pr, rd⟩ := body cdv A outer s H vs Q E free (room.deeper _) prom
    have kinds : ∀ y ∈ ps.zip us, (defScope st).names.lookup y.1 = some .local ∨ ((defScope st).names.lookup y.1 = some .cell ∧ ((cellsFrom (s.heap.objs.size + 1) (defScope st).names []).lookup y.1).isSome = true) := by
      intro y hy
      have hp : y.1 ∈ ps := by
        obtain ⟨y1, y2⟩ := y
        exact (List.of_mem_zip hy).1
      exact (S.par _ hp).imp id fun g => ⟨g, PySem.W.cellsFrom_some _ _ _ (.inl g)⟩
    refine codeAny_call_function room.depth (here _ _ lk) rfl S.co S.gen rfl (PySem.W.codeRec_of here code) (bind _ _ _ _ ?_)
    refine wpAny_newFunctionEnv_cells S.kind kinds fun _ e s1 x => ?_
    cases e
    refine ⟨(e0.mod.nolimit.keeps old).keeps x.toInCall.keep, codeAny_func ?_⟩
    have run := pr.nox.run [] s1 _ H _ (inv_start S room.hd e0 (len _ _ _ _ prom) vals x) rd
    refine wpAny_mono run (fun fl s' h => ?_) fun _ _ z => z
    have said := ends_say h
    cases fl with
    | ret _ => exact said
    | next => exact said
    | brk => exact said.elim
    | cont => exact said.elim
end
section
variable {X : Cx} {CX : CXT} {k : Nat} {f : Addr} {fd : FuncData} {ps : List Str} {sp : Sp} {ds : List Value} {dvs : List V} {E : XK}
theorem after_call {pins : List (Addr × Obj)} {σ : L2.St} {H : Hp} {s : Shared} {Q : VK} (hx : Passes CX X E) (I : Inv X pins σ H s) {r : Except Value Flow} {s' : Shared} (h : CR CX X.stack X.prog X.w H s Q E r s') :
    match r with | .ok (.ret u) => EP X pins σ Q u s' | .ok _ => False | .error e => X.xe e s' := by
  match r, h with
  | .error e, h => exact hx pins σ H s e s' I h
  | .ok (.ret u), h => exact I.after h
  | .ok .next, h => exact h
  | .ok .brk, h => exact h
  | .ok .cont, h => exact h
variable {x : Str} {p pos : Pos} {e : Expr} {es : List Expr} {t : TA}
/-- f(e, ..) at a place where no repr is under way -/
theorem pe_callG (F : FnOkG X.prog X.w X.K X.mg X.base CX k f fd ps sp) (hG : X.A.guards = some []) (hr : Room k X.A) (hg : Gl X x) (hm : X.mg x = some (.ref f)) (hk : PySem.W.keepIn X.K (.ref f) = true) (hb : Binds X.K fd ps ds) (hd : Vals dvs ds) (hx : Passes CX X E)
    (ha : PA X (e :: es) t) (hdb : (x == ("__debug__" : Str)) = false := by decide)
    (he : starEach (e :: es) X.env = (false, eval e X.env) :: starEach es X.env := by rfl) (hpl : (backTo pos (starEach es X.env)).any (·.1) = false := by rfl) :
    PE X (.Call (.Name x p) (e :: es) [] pos) (tCall sp dvs E t) := by
  constructor
  intro pins s σ H Q I h
  refine wpAny_Call_Name_kw (ld_glob I hg hm (PySem.W.callWith_K (h₀ := X.base) I.ok.mod.kin hk (thn (ha.run pos pins s σ H _ I h) ?_) he hpl) hdb)
  rintro us s1 ⟨vs, H1, I1, vals, prom⟩
  have all := vals.append hd
  have size : (us ++ ds).length = ps.length := all.length.symm.trans (F.arity prom)
  refine ⟨I1.kIn, wpAny_call (codeAny_mono (F.calls hG hr I1.env0 (hb s1 us I1.kIn size) all prom) fun r s' h => ?_)⟩
  have := after_call hx I1 h
  cases r with
  | error e => exact this
  | ok fl => cases fl <;> exact this
/-! ### repr of data -/
def rReprD (K : PySem.W.Frag) : List V → Hp → VK → Prop := fun vs H Q => ∃ (v : V) (d : PyData), vs = [v] ∧ Dp K H v d ∧ d.showable = true ∧ d.hasDict = false ∧ d.depth ≤ 64 ∧ d.shown.length ≤ sizeLine ∧ Q (.str d.shown) H
theorem cr_reprD (hG : X.A.guards = some []) (hu : X.A.units + 66 < cLine) : CallR X (.builtin "repr") (rReprD X.K) := by
  rintro pins s σ H _ us Q I r ⟨v, d, rfl, hd, hs, hn, hdep, hz, q⟩
  obtain ⟨u, rfl, rv⟩ := vals1 r
  obtain ⟨as, rd⟩ := Dp.reads I d v u hd rv
  cases hd with
  | non =>
    cases rv
    exact P.repr_of_none ⟨.str _, H, I.tok _, ⟨_, rfl⟩, q⟩
  | bl b =>
    cases rv
    exact P.repr_of_bool ⟨.str _, H, I.tok _, ⟨_, rfl⟩, q⟩
  | int i =>
    obtain ⟨t, rfl⟩ := rv
    have hb : i.natAbs.log2 < 1920 := of_decide_eq_true (by simpa only [PyData.showable] using hs)
    exact P.repr_of_int hb ⟨.str _, H, I.tok _, ⟨_, rfl⟩, by simpa only [PyData.shown] using q⟩
  | str x =>
    obtain ⟨t, rfl⟩ := rv
    exact P.repr_of_str ⟨.str _, H, I.tok _, ⟨_, rfl⟩, by simpa only [PyData.shown] using q⟩ (by simpa only [PyData.shown] using hz)
  | lst h1 h2 =>
    cases rv
    exact repr_of_reads' rd hs (fun e => absurd (hn.symm.trans e) (by decide)) hG (by omega) (fun _ _ e => e) (fun h' t tk hk => ⟨.str _, H, I.kept hk, ⟨_, rfl⟩, q⟩) hz
  | tup h1 h2 =>
    cases rv
    exact repr_of_reads' rd hs (fun e => absurd (hn.symm.trans e) (by decide)) hG (by omega) (fun _ _ e => e) (fun h' t tk hk => ⟨.str _, H, I.kept hk, ⟨_, rfl⟩, q⟩) hz
end
/-! ### the end -/
section
variable (K : PySem.W.Frag) (a : Addr) (vs : List Value) (ns : List Int)
/-- the script as the heap has it -/
abbrev scrO : Obj := { cls := .type "list", data := .seq vs.toArray }
/-- tracked is the script alone, locked, and not even that where the top wrote it -/
def scrH : Hp := fun b => if b = a ∧ K.lookup a = none then some (.frz (scrO vs) (.lst (ns.map V.int))) else none
theorem scrH_or (b : Addr) : scrH K a vs ns b = none ∨ (b = a ∧ K.lookup a = none ∧ scrH K a vs ns b = some (.frz (scrO vs) (.lst (ns.map V.int)))) := by
  unfold scrH
  by_cases h : b = a ∧ K.lookup a = none
  · exact .inr ⟨h.1, h.2, if_pos h⟩
  · exact .inl (if_neg h)
theorem scrH_only : Only (scrH K a vs ns) := fun b => (scrH_or K a vs ns b).imp id fun ⟨_, _, e⟩ => ⟨_, _, e⟩
end
section
variable {P : Program} {w : World} {K : PySem.W.Frag} {a : Addr} {vs : List Value} {ns : List Int} {h : Heap}
theorem scrH_sq (kin : K.In h) (at_ : h.get? a = some (scrO vs)) (hi : IntsAre vs ns) (few : ns.length ≤ sizeLine) : SqL K (scrH K a vs ns) a (ns.map V.int) := by
  cases hk : K.lookup a with
  | none => exact .inl (.inr ⟨scrO vs, if_pos ⟨rfl, hk⟩⟩)
  | some o =>
    obtain rfl : o = scrO vs := Option.some.inj ((kin a o hk).symm.trans at_)
    exact .inr ⟨_, vs.toArray, _, hk, rfl, rfl, rfl, by rw [List.size_toArray, hi.length]; exact few, by simpa using vals_ints hi⟩
theorem scrH_ok (at_ : h.get? a = some (scrO vs)) (hi : IntsAre vs ns) (few : ns.length ≤ sizeLine) : HOk P w (scrH K a vs ns) h := by
  intro b u e
  rcases scrH_or K a vs ns b with n | ⟨rfl, _, y⟩
  · exact absurd (n.symm.trans e) (by simp)
  · cases y.symm.trans e
    refine ⟨at_, ?_, vs, _, vals_ints hi, at_⟩
    rw [List.length_map]
    exact few
/-- what isn't the script, and what the top wrote, stands also where the tracked is hidden -/
theorem scrH_base (at_ : h.get? a = some (scrO vs)) {b : Addr} {o : Obj} (e : h.get? b = some o) (q : o ≠ scrO vs ∨ K.lookup b ≠ none) : (hidT h (scrH K a vs ns)).get? b = some o := by
  refine hidT_get e ((scrH_or K a vs ns b).resolve_right ?_)
  rintro ⟨rfl, n, _⟩
  exact q.elim (fun z => z (Option.some.inj (e.symm.trans at_))) fun z => z n
theorem scrH_ns (at_ : h.get? a = some (scrO vs)) {b : Addr} {m : Str → Option Value} : h.Ns b m → (hidT h (scrH K a vs ns)).Ns b m := by
  rintro ⟨o, es, ep, e, dd, r⟩
  refine ⟨o, es, ep, scrH_base at_ e (.inl ?_), dd, r⟩
  rintro rfl
  exact absurd dd (by simp)
end
/-- a law whose promise holds where no repr is under way: nothing is, where it is called -/
theorem walk_ofG {l : PySem.W.OpenLaw} {n k : Nat} {q : Program} {loose : List Str} {XP : (Str → Option Value) → Heap → Prop} {YP : World → Heap → Prop} {d : DefRec} {K : Params → PySem.W.Frag} {sp : World → Sp} {x : Str}
    (most : l.most = some n) (few : n ≤ sizeLine) (plain : d.params.defaults = []) (room : Room k callerA) (top : ∀ (w : World) (h : Heap), YP w h → (K w.params).In h)
    (F : ∀ (w : World) (mg : Str → Option Value) (fa : Addr) (h : Heap), (K w.params).In h → h.Ns mainGlobals mg → mg d.name = some (.ref fa) →
      ∃ fd : FuncData, (∀ (s : Shared) (u : Value), BindsTo s fd ⟨[u], []⟩ [(x, u)]) ∧ ∀ base : Heap, (K w.params).In base → base.Ns mainGlobals mg → FnOkG l.prog w (K w.params) mg base CX0 k fa fd [x] (sp w))
    (prom : ∀ (w : World) (H : Hp) (a : Addr) (ns : List Int), ns.length ≤ n → (∀ z ∈ ns, Builtin.Int.intBits z ≤ 1048576) → Only H → SqL (K w.params) H a (ns.map V.int) → sp w [.ref a] H (fun v _ => v = .bl true) fun _ _ _ => False) :
    PySem.W.WalkO q loose XP YP l.row.toRowW d [] (fun f vs => PySem.call f vs) := by
  apply Att.attach_callB most plain
  intro w s₀ s₁ mg mb fa o pm cd doc a vs ns G Y _ _ _ hmg at_ isI size bits gens
  have kin := top w _ Y
  obtain ⟨fd, bind, hF⟩ := F w mg fa _ kin G.T.g hmg
  have few' := Nat.le_trans size few
  have ok : HOk l.prog w (scrH (K w.params) a vs ns) s₁.heap := scrH_ok at_ isI few'
  have kin' : (K w.params).In (hidT s₁.heap (scrH (K w.params) a vs ns)) := fun b o e => scrH_base at_ (kin b o e) (.inr (by rw [e]; simp))
  have g' := scrH_ns (K := K w.params) (ns := ns) at_ G.T.g
  obtain ⟨mc, lim1, lim2⟩ := G.T.nolimit
  have e0 : Env0 l.prog w (K w.params) mg (hidT s₁.heap (scrH (K w.params) a vs ns)) callerA [] s₁ (scrH (K w.params) a vs ns) :=
    ⟨rfl, ⟨kin', g', ⟨mb, scrH_ns at_ G.T.b, G.T.builtins⟩, ⟨mc, scrH_ns at_ lim1, lim2⟩⟩, fun _ _ => of_hidT, Nat.le_of_eq (hidT_size _ _), trivial, (by intro _ z; cases z), ok, AllBare.of_eq gens⟩
  refine codeAny_mono ((hF _ kin' g').calls (us := [.ref a]) (vs := [.ref a]) rfl room e0 (bind s₁ (.ref a)) (.cons rfl .nil) (prom w _ a ns size bits (scrH_only (K w.params) a vs ns) (scrH_sq kin at_ isI few'))) fun r s' h => ?_
  match r, h with
  | .error e, h => exact h.elim
  | .ok .next, h => exact h.elim
  | .ok .brk, h => exact h.elim
  | .ok .cont, h => exact h.elim
  | .ok (.ret u), ⟨v, H', os, bare, un, ok', rel, is⟩ =>
    have is : v = .bl true := is
    subst is
    cases (show u = Value.bool true from rel)
    refine ⟨rfl, OldK.of_keep ?_, os, bare⟩
    intro b o e
    rcases scrH_or (K w.params) a vs ns b with z | ⟨rfl, _, z⟩
    · exact un.keep b o e z (fun m => nomatch m) (by simp)
    · cases at_.symm.trans e
      exact (ok' _ _ (un.frzs _ _ _ z)).1
end HopR

set_option Elab.async false
set_option linter.all false
set_option maxRecDepth 100000
namespace HopR
open PySem PySem.Spec PyProof.Rows L2
theorem hu66 {A : Around} {k : Nat} (hr : Room k A) : A.units + 66 < cLine := by
  have := hr.un
  omega
/-! ### f(k = v, ..), no value by its place -/
section
variable {X : Cx} {CX : CXT} {k : Nat} {f : Addr} {fd : FuncData} {ps ks : List Str} {sp : Sp} {E : XK} {x : Str} {p pos : Pos} {kws : List Keyword} {tk : TA}
def tCallKw (m : Nat) (sp : Sp) (gV : List V → List V) (E : XK) (tk : TA) : TE := fun σ H Q => tk σ H fun zs H2 => zs.length = m ∧ sp (gV zs) H2 Q E
theorem pe_callKw {g : List Value → List Value} {gV : List V → List V} (F : FnOk X.prog X.w X.K X.mg X.base CX k f fd ps sp) (hr : Room k X.A) (hg : Gl X x) (hm : X.mg x = some (.ref f)) (hk : PySem.W.keepIn X.K (.ref f) = true)
    (hb : ∀ (s : Shared) (ws : List Value), X.K.In s.heap → ws.length = ks.length → BindsTo s fd ⟨[], ks.zip ws⟩ (ps.zip (g ws))) (hrel : ∀ {zs : List V} {ws : List Value}, Vals zs ws → Vals (gV zs) (g ws)) (hx : Passes CX X E) (hkw : PK X kws tk)
    (hall : (backToKw pos (keywordEach kws X.env)).all (·.1.isSome) = true := by rfl) (hks : (backToKw pos (keywordEach kws X.env)).filterMap (·.1) = ks := by rfl) (hdb : (x == ("__debug__" : Str)) = false := by decide)
    (hpl : ((backTo pos (starEach [] X.env)).any (·.1) || (backToKw pos (keywordEach kws X.env)).any (·.1.isNone)) = false := by rfl) :
    PE X (.Call (.Name x p) [] kws pos) (tCallKw ks.length sp gV E tk) := by
  refine ⟨fun pins s σ H Q I h => wpAny_Call_Name_kw (ld_glob I hg hm ?_ hdb)⟩
  refine PySem.W.callWith_KW0 (h₀ := X.base) I.ok.mod.kin hk hall (thn (hkw.run pos pins s σ H _ I h) fun ws s2 ⟨zs, H2, I2, rz, l2, q2⟩ => ⟨I2.kIn, ?_⟩) hpl
  rw [hks]
  refine wpAny_call (codeAny_mono (F.run X.A X.stack s2 H2 ⟨[], ks.zip ws⟩ (g ws) (gV zs) Q E hr I2.env0 (hb s2 ws I2.kIn (rz.length.symm.trans l2)) (hrel rz) q2) fun r s' hq => ?_)
  match r, hq with
  | .error e, hq => exact hx pins σ H2 s2 e s' I2 hq
  | .ok (.ret u), hq => exact I2.after hq
  | .ok .next, hq => exact hq.elim
  | .ok .brk, hq => exact hq.elim
  | .ok .cont, hq => exact hq.elim
end
/-! ### lists of small numbers as data -/
def wv (k : Nat) : V := .int (k : Int)
def dw (k : Nat) : PyData := PyData.int (k : Int)
theorem dp_walls {K : PySem.W.Frag} {H : Hp} : ∀ ks : List Nat, DpAll K H (ks.map wv) (ks.map dw)
  | [] => .nil
  | k :: r => .cons (.int _) (dp_walls r)
theorem lay_dw : ∀ ks : List Nat, PyData.canLayAll0 (ks.map dw) = true
  | [] => rfl
  | k :: r => by
    rw [List.map_cons]
    simp only [PyData.canLayAll0, lay_dw r, Bool.and_true]
    rfl
theorem deep_dw : ∀ ks : List Nat, PyData.depthAll (ks.map dw) = 0
  | [] => rfl
  | k :: r => by
    rw [List.map_cons]
    simp only [PyData.depthAll, deep_dw r]
    rfl
theorem shaped_ints (ks : List Nat) : SeqAt.shaped (.list (ks.map dw)) = true := by
  unfold SeqAt.shaped
  rw [Bool.and_eq_true]
  refine ⟨?_, decide_eq_true ?_⟩
  · simp only [PyData.canLay0, lay_dw]
  · simp only [PyData.depth, deep_dw]
    decide
theorem show_dw : ∀ ks : List Nat, (∀ k ∈ ks, k ≤ 30) → PyData.showableAll (ks.map dw) = true
  | [], _ => rfl
  | k :: r, h => by
    have hk := h k (List.mem_cons_self ..)
    have e : PyData.showable (dw k) = true := by
      show decide ((k : Int).natAbs.log2 < 1920) = true
      refine decide_eq_true (Nat.lt_of_le_of_lt (Nat.log2_le_self _) ?_)
      show k < 1920
      omega
    rw [List.map_cons]
    simp only [PyData.showableAll, e, show_dw r fun q hq => h q (List.mem_cons_of_mem _ hq), Bool.and_true]
theorem nodict_dw : ∀ ks : List Nat, PyData.hasDictAll (ks.map dw) = false
  | [] => rfl
  | k :: r => by
    rw [List.map_cons]
    simp only [PyData.hasDictAll, nodict_dw r, Bool.or_false]
    rfl
theorem text30 : ∀ k < 31, (PyData.shown (dw k)).length ≤ 2 := by decide +kernel
theorem shown_len : ∀ ks : List Nat, (∀ k ∈ ks, k ≤ 30) → ((PyData.shownAll (ks.map dw)).map (·.length)).sum ≤ 2 * ks.length ∧ (PyData.shownAll (ks.map dw)).length = ks.length
  | [], _ => ⟨Nat.le_refl _, rfl⟩
  | k :: r, h => by
    obtain ⟨h1, h2⟩ := shown_len r fun q hq => h q (List.mem_cons_of_mem _ hq)
    have hk := text30 k (by have := h k (List.mem_cons_self ..); omega)
    rw [List.map_cons]
    simp only [PyData.shownAll, List.map_cons, List.sum_cons, List.length_cons]
    omega
theorem ints_show {ks : List Nat} (h : ∀ k ∈ ks, k ≤ 30) (hl : ks.length ≤ 1000) : (PyData.list (ks.map dw)).showable = true ∧ (PyData.list (ks.map dw)).hasDict = false ∧ (PyData.list (ks.map dw)).depth ≤ 64 ∧ (PyData.list (ks.map dw)).shown.length ≤ sizeLine := by
  obtain ⟨h1, h2⟩ := shown_len ks h
  refine ⟨?_, ?_, ?_, ?_⟩
  · simp only [PyData.showable, show_dw ks h]
  · simp only [PyData.hasDict, nodict_dw]
  · simp only [PyData.depth, deep_dw]
    decide
  · simp only [PyData.shown]
    have h3 := listText_len_le (PyData.shownAll (ks.map dw))
    rw [sizeLine_eq]
    omega
/-! ### the law's own words of walls and changes -/
theorem opn_eq {bs : List Bool} {k : Nat} (h : k ≤ bs.length) : opn bs k = ((decide (k = 0) || bs.getD (k - 1) false) && (decide (k = bs.length) || !bs.getD k true)) := by
  have hl := ends_len bs
  have e1 : (ends bs)[k]?.getD false = (decide (k = 0) || bs.getD (k - 1) false) := by
    unfold ends
    cases k with
    | zero => rfl
    | succ j =>
      rw [List.getElem?_cons_succ, List.getElem?_append_left (by omega), List.getD_eq_getElem?_getD]
      simp
  have e2 : (ends bs)[k + 1]?.getD true = (decide (k ≠ bs.length) && bs.getD k true) := by
    unfold ends
    rw [List.getElem?_cons_succ]
    by_cases hk : k = bs.length
    · subst hk
      rw [List.getElem?_append_right (Nat.le_refl _)]
      simp
    · rw [List.getElem?_append_left (by omega), List.getD_eq_getElem?_getD, decide_eq_true hk]
      rfl
  have e3 : opn bs k = (((ends bs)[k]?.getD false) && !((ends bs)[k + 1]?.getD true)) := by
    have g1 : (ends bs)[k]? = some (ends bs)[k] := List.getElem?_eq_getElem (by omega)
    have g2 : (ends bs)[k + 1]? = some (ends bs)[k + 1] := List.getElem?_eq_getElem (by omega)
    have g3 : ((ends bs).drop k).take 2 = [(ends bs)[k], (ends bs)[k + 1]] := by
      rw [List.drop_eq_getElem_cons (by omega), List.drop_eq_getElem_cons (by omega)]
      rfl
    unfold opn
    rw [g3, g1, g2]
    show decide ([(ends bs)[k], (ends bs)[k + 1]] = [true, false]) = ((ends bs)[k] && !(ends bs)[k + 1])
    cases (ends bs)[k] <;> cases (ends bs)[k + 1] <;> rfl
  rw [e3, e1, e2]
  by_cases hk : k = bs.length
  · simp [hk]
  · simp [hk]
def lbeh (bs : List Bool) (k : Nat) : List Bool := if k < bs.length then (if 0 < k then bs.set (k - 1) false else bs).set k true else (if 0 < k then bs.set (k - 1) false else bs)
theorem lbeh_len (bs : List Bool) (k : Nat) : (lbeh bs k).length = bs.length := by
  unfold lbeh
  split <;> split <;> simp
theorem chg_get {bs : List Bool} {k i : Nat} (h : k ≤ bs.length) (hi : i < bs.length) : (chg bs k)[i]? = some (if i + 1 = k then false else if i = k then true else bs[i]) := by
  have hl := ends_len bs
  have hb := bhd_len h
  have he : (ends bs)[i + 1]? = some bs[i] := by
    unfold ends
    rw [List.getElem?_cons_succ, List.getElem?_append_left hi, List.getElem?_eq_getElem hi]
  unfold chg
  rw [List.getElem?_take_of_lt (by rw [hb]; omega), List.getElem?_drop, Nat.add_comm 1 i]
  unfold bhd
  rw [List.append_assoc, List.append_assoc]
  by_cases h1 : i + 1 < k
  · rw [List.getElem?_append_left (by rw [List.length_take]; omega), List.getElem?_take_of_lt h1, he, if_neg (by omega), if_neg (by omega)]
  · rw [List.getElem?_append_right (by rw [List.length_take]; omega), List.length_take, Nat.min_eq_left (by omega)]
    by_cases h2 : i + 1 = k
    · rw [if_pos h2, h2, Nat.sub_self]
      rfl
    · rw [if_neg h2]
      by_cases h3 : i = k
      · rw [if_pos h3, show i + 1 - k = 1 by omega]
        rfl
      · rw [if_neg h3]
        obtain ⟨m, hm⟩ : ∃ m, i + 1 - k = m + 2 := ⟨i + 1 - k - 2, by omega⟩
        rw [hm]
        show ((ends bs).drop (k + 2))[m]? = some bs[i]
        rw [List.getElem?_drop, show k + 2 + m = i + 1 by omega, he]
theorem lbeh_eq {bs : List Bool} {k : Nat} (h : k ≤ bs.length) : lbeh bs k = chg bs k := by
  apply List.ext_getElem?
  intro i
  by_cases hi : i < bs.length
  · rw [chg_get h hi]
    unfold lbeh
    have g : bs[i]? = some bs[i] := List.getElem?_eq_getElem hi
    have inner : (if 0 < k then bs.set (k - 1) false else bs)[i]? = some (if i + 1 = k then false else bs[i]) := by
      by_cases hk : 0 < k
      · rw [if_pos hk, List.getElem?_set]
        by_cases e : k - 1 = i
        · rw [if_pos e, if_pos (by omega), if_pos (by omega)]
        · rw [if_neg e, if_neg (by omega), g]
      · rw [if_neg hk, if_neg (by omega), g]
    have il : (if 0 < k then bs.set (k - 1) false else bs).length = bs.length := by
      split <;> simp
    by_cases hk : k < bs.length
    · rw [if_pos hk, List.getElem?_set]
      by_cases e : k = i
      · rw [if_pos e, if_pos (by rw [il]; exact hk), if_neg (by omega), if_pos e.symm]
      · rw [if_neg e, inner]
        by_cases e2 : i + 1 = k
        · rw [if_pos e2, if_pos e2]
        · rw [if_neg e2, if_neg e2, if_neg (fun z => e z.symm)]
    · rw [if_neg hk, inner]
      by_cases e2 : i + 1 = k
      · rw [if_pos e2, if_pos e2]
      · rw [if_neg e2, if_neg e2, if_neg (by omega)]
  · rw [List.getElem?_eq_none (by rw [lbeh_len]; omega), List.getElem?_eq_none (by rw [chg_len h]; omega)]
end HopR

set_option Elab.async false
set_option linter.all false
set_option maxRecDepth 100000
namespace HopR
open PySem L2
theorem same_upd {H : Hp} {p : Addr} {o : HO} (h : H p = none) : Same H (upd H p o) := fun b x e => by
  rw [upd_ne (ne_of_none e h)]
  exact e
theorem same_new {H H1 : Hp} {p : Addr} {o : HO} (h : H p = none) (s : Same H H1) : Same H (upd H1 p o) := fun b x e => by
  rw [upd_ne (ne_of_none e h)]
  exact s _ _ e
/-- a def of the text, its binding, where its name leads -/
structure Fn (K : PySem.W.Frag) (mg : Str → Option Value) (x : Str) (st : Stmt) (ps : List Str) (f : Addr) (fd : FuncData) : Prop where
  F : Fun K x x st f fd
  b : Binds K fd ps []
  g : mg x = some (.ref f)
end HopR

set_option Elab.async false
set_option linter.all false
set_option maxRecDepth 100000
namespace HopR
open PySem L2
/-! ### classes of refusals -/
theorem kit_own {K : PySem.W.Frag} {D C : Addr} {b : Bool} (ne : D ≠ C) (hd : PySem.W.hasDictIn K C = true) (ht : PySem.W.typeIn K (.ref C) = some (.type "type")) (h : PySem.W.subIn K (.ref D) (.ref C) = some b) : PySem.W.kitOne K (.ref D) (.ref C) = some b := by
  obtain ⟨cd, hc, _⟩ := PySem.W.any_some hd
  have e1 : ((Value.ref D == Value.ref C) = true) = False := by
    rw [eq_iff_iff]
    exact ⟨fun z => ne (Value.ref.inj (beq_iff_eq.mp z)), False.elim⟩
  have e2 : ((PySem.W.clsIn K C).isSome && PySem.W.typeIn K (.ref C) == some (.type "type")) = true := by rw [hc, ht] <;> rfl
  unfold PySem.W.kitOne
  rw [if_neg (by rw [e1]; exact id)]
  show (if ((PySem.W.clsIn K C).isSome && PySem.W.typeIn K (.ref C) == some (.type "type")) = true then PySem.W.subIn K (.ref D) (.ref C) else none) = some b
  rw [if_pos e2]
  exact h
theorem kit_me {K : PySem.W.Frag} {D : Addr} : PySem.W.kitOne K (.ref D) (.ref D) = some true := by
  unfold PySem.W.kitOne
  rw [if_pos (by simp)]
theorem kit_blt {K : PySem.W.Frag} {D : Addr} {T : String} {b : Bool} (m : PySem.W.kitMeta T = true) (h : PySem.W.subIn K (.ref D) (.type T) = some b) : PySem.W.kitOne K (.ref D) (.type T) = some b := by
  have e1 : ¬ ((Value.ref D == Value.type T) = true) := fun z => nomatch (beq_iff_eq.mp z)
  unfold PySem.W.kitOne
  rw [if_neg e1]
  show (if PySem.W.kitMeta T = true then PySem.W.subIn K (.ref D) (.type T) else none) = some b
  rw [if_pos m]
  exact h
theorem kitAny_cons {K : PySem.W.Frag} {t c : Value} {r : List Value} (h : PySem.W.kitOne K t c = some false) (q : PySem.W.kitAny K t r = some false) : PySem.W.kitAny K t (c :: r) = some false := by
  simp only [PySem.W.kitAny, h, q]
theorem kitAny_nil {K : PySem.W.Frag} {t : Value} : PySem.W.kitAny K t [] = some false := by simp only [PySem.W.kitAny]
theorem exmAny2 {K : PySem.W.Frag} {t c1 c2 : Value} {b1 b2 : Bool} (h1 : PySem.W.exmOne K t c1 = some b1) (h2 : PySem.W.exmOne K t c2 = some b2) : PySem.W.exmAny K t [c1, c2] = some (b1 || b2) := by
  simp only [PySem.W.exmAny, h1, h2, Bool.or_false]
/-- an own exception class, as its instances are made and asked -/
structure Xc (K : PySem.W.Frag) (D : Addr) (bm : List Value) (nw : String) : Prop where
  x : PySem.W.excIn K D bm nw = true
  k : PySem.W.keepIn K (.ref D) = true
  be : PySem.W.subIn K (.ref D) (.type "BaseException") = some true
  ty : PySem.W.typeIn K (.ref D) = some (.type "type")
  c : ExcC K D
abbrev bmV : List Value := [.type "ValueError", .type "Exception", .type "BaseException", .type "object"]
abbrev bmZ : List Value := [.type "ZeroDivisionError", .type "ArithmeticError", .type "Exception", .type "BaseException", .type "object"]
/-! ### things by their kind -/
theorem tyx_same {K : PySem.W.Frag} {H H' : Hp} {x : V} {t : Value} (s : Same H H') (ty : TyX K H x t) : TyX K H' x t := by
  cases ty with
  | base h =>
    cases h with
    | non => exact .base .non
    | bl x => exact .base (.bl x)
    | int i => exact .base (.int i)
    | str x => exact .base (.str x)
    | flt x => exact .base (.flt x)
    | lst e => exact .base (.lst (s _ _ e))
    | frz e => exact .base (.frz (s _ _ e))
    | tup e => exact .base (.tup (s _ _ e))
    | dK e => exact .base (.dK (s _ _ e))
    | dT e => exact .base (.dT (s _ _ e))
    | ins e a b c d f => exact .base (.ins (s _ _ e) a b c d f)
  | byt b => exact .byt b
  | set e => exact .set (s _ _ e)
  | kList e c => exact .kList e c
  | kTuple e c => exact .kTuple e c
  | kDict e c => exact .kDict e c
  | fTuple e => exact .fTuple (s _ _ e)
  | fDict e => exact .fDict (s _ _ e)
theorem odd_same {K : PySem.W.Frag} {H H' : Hp} {x : V} (s : Same H H') (h : Odd K H x) : Odd K H' x := by
  obtain ⟨t, b, ty, k⟩ := h
  exact ⟨t, b, tyx_same s ty, k⟩
/-- x is no text -/
def NoTxt (K : PySem.W.Frag) (H : Hp) (x : V) : Prop := ∃ t, TyX K H x t ∧ PySem.W.kitOne K t (.type "str") = some false
theorem notxt_non {K : PySem.W.Frag} {H : Hp} : NoTxt K H .non := ⟨_, .base .non, kit_ty (by decide +kernel)⟩
theorem notxt_bl {K : PySem.W.Frag} {H : Hp} {b : Bool} : NoTxt K H (.bl b) := ⟨_, .base (.bl b), kit_ty (by decide +kernel)⟩
theorem notxt_int {K : PySem.W.Frag} {H : Hp} {i : Int} : NoTxt K H (.int i) := ⟨_, .base (.int i), kit_ty (by decide +kernel)⟩
theorem notxt_lst {K : PySem.W.Frag} {H : Hp} {a : Addr} {xs : List V} (e : H a = some (.lst xs)) : NoTxt K H (.ref a) := ⟨_, .base (.lst e), kit_ty (by decide +kernel)⟩
theorem notxt_tup {K : PySem.W.Frag} {H : Hp} {a : Addr} {xs : List V} (e : H a = some (.tup xs)) : NoTxt K H (.ref a) := ⟨_, .base (.tup e), kit_ty (by decide +kernel)⟩
theorem notxt_dK {K : PySem.W.Frag} {H : Hp} {a : Addr} {xs : List (Key × V)} (e : H a = some (.dK xs)) : NoTxt K H (.ref a) := ⟨_, .base (.dK e), kit_ty (by decide +kernel)⟩
theorem notxt_same {K : PySem.W.Frag} {H H' : Hp} {x : V} (s : Same H H') (h : NoTxt K H x) : NoTxt K H' x := by
  obtain ⟨t, ty, k⟩ := h
  exact ⟨t, tyx_same s ty, k⟩
/-! ### signs in the written dict of both signs -/
/-- the sign is a bead or a free place -/
def okc (c : Nat) : Bool := decide (c = 111) || decide (c = 46)
theorem okc_cd (b : Bool) : okc (cd b) = true := by cases b <;> rfl
def keyText : Value → Option Str
  | .str s _ => some s
  | _ => none
theorem keyText_str {v : Value} {s : Str} (h : keyText v = some s) : ∃ t, v = .str s t := by
  cases v <;> simp [keyText] at h
  exact ⟨_, by rw [h]⟩
def keysAre (es : Array DictEntry) : Prop := es.toList.map (fun e => keyText e.key) = [some ("o" : Str), some ("." : Str)]
theorem sign_in {K : PySem.W.Frag} {d : Addr} {es : Array DictEntry} {n : Nat} (l : K.lookup d = some ⟨.type "dict", none, .dict es n, #[]⟩) (hk : keysAre es) (c : Nat) : ∃ r, PySem.W.nsIn K d ⟨#[c]⟩ = some r ∧ r.isSome = okc c := by
  unfold keysAre at hk
  obtain ⟨e1, e2, hes⟩ : ∃ e1 e2, es.toList = [e1, e2] := by
    have hl := congrArg List.length hk
    rw [List.length_map] at hl
    match h : es.toList, hl with
    | [e1, e2], _ => exact ⟨e1, e2, rfl⟩
  rw [hes] at hk
  obtain ⟨t1, k1⟩ := keyText_str (List.cons.inj hk).1
  obtain ⟨t2, k2⟩ := keyText_str (List.cons.inj (List.cons.inj hk).2).1
  have i1 : e1.key.isStr ⟨#[c]⟩ = decide (c = 111) := by
    rw [k1]
    by_cases h : c = 111
    · subst h
      show (("o" : Str) == ⟨#[111]⟩) = true
      decide +kernel
    · rw [decide_eq_false h]
      have : ¬ (("o" : Str) = ⟨#[c]⟩) := fun z => by
        have z2 := congrArg (fun q : Str => q.cps.toList) z
        have z3 : [111] = [c] := z2
        exact h (List.cons.inj z3).1.symm
      simp [Value.isStr, this]
  have i2 : e2.key.isStr ⟨#[c]⟩ = decide (c = 46) := by
    rw [k2]
    by_cases h : c = 46
    · subst h
      show (("." : Str) == ⟨#[46]⟩) = true
      decide +kernel
    · rw [decide_eq_false h]
      have : ¬ (("." : Str) = ⟨#[c]⟩) := fun z => by
        have z2 := congrArg (fun q : Str => q.cps.toList) z
        have z3 : [46] = [c] := z2
        exact h (List.cons.inj z3).1.symm
      simp [Value.isStr, this]
  have r1 : e1.refKey = false := by unfold DictEntry.refKey; rw [k1]
  have r2 : e2.refKey = false := by unfold DictEntry.refKey; rw [k2]
  unfold PySem.W.nsIn
  rw [l]
  simp only [hes, List.find?, i1, i2, List.any_cons, r1, r2, List.any_nil, Bool.or_false]
  unfold okc
  by_cases h1 : c = 111
  · simp [h1]
  · by_cases h2 : c = 46
    · simp [h2]
    · simp [h1, h2]
/-- x is no row: no text, or one that is too short, too long, or has another sign -/
def NotRow (K : PySem.W.Frag) (H : Hp) (x : V) : Prop := NoTxt K H x ∨ ∃ z : Str, x = .str z ∧ z.length ≤ 10000 ∧ (z.length = 0 ∨ 30 < z.length ∨ ∃ c ∈ z.cps.toList, okc c = false)
def NotWord (K : PySem.W.Frag) (H : Hp) (x : V) : Prop := NoTxt K H x ∨ ∃ z : Str, x = .str z ∧ z.length ≤ 10000 ∧ (30 < z.length ∨ ∃ c ∈ z.cps.toList, okc c = false)
theorem notrow_same {K : PySem.W.Frag} {H H' : Hp} {x : V} (s : Same H H') (h : NotRow K H x) : NotRow K H' x := h.imp (notxt_same s) id
theorem notword_same {K : PySem.W.Frag} {H H' : Hp} {x : V} (s : Same H H') (h : NotWord K H x) : NotWord K H' x := h.imp (notxt_same s) id
theorem notword_row {K : PySem.W.Frag} {H : Hp} {x : V} (h : NotWord K H x) : NotRow K H x := h.imp id fun ⟨z, e, l, q⟩ => ⟨z, e, l, .inr q⟩
end HopR

set_option Elab.async false
set_option linter.all false
set_option maxRecDepth 100000
namespace HopR
open PySem L2
/-! ### words: where they can be shortened, and to what -/
def shp (bs : List Bool) (i : Nat) : Bool := decide ((bs.drop i).take 2 = [true, false])
def plc (bs : List Bool) : List Nat := (List.range bs.length).filter (shp bs)
def shA (bs : List Bool) (k : Nat) : List Bool := bs.take (k + 1) ++ bs.drop (k + 2)
def shB (bs : List Bool) (k : Nat) : List Bool := bs.take k ++ bs.drop (k + 1)
theorem shp_split {bs : List Bool} {i : Nat} (h : shp bs i = true) : bs = bs.take i ++ true :: false :: bs.drop (i + 2) ∧ i + 2 ≤ bs.length := by
  have h := of_decide_eq_true h
  have e : bs.drop i = [true, false] ++ (bs.drop i).drop 2 := by
    conv => lhs; rw [← List.take_append_drop 2 (bs.drop i), h]
  rw [List.drop_drop] at e
  have hl := congrArg List.length e
  rw [List.length_drop, List.length_append, List.length_drop] at hl
  have hl2 : bs.length - i = 2 + (bs.length - (i + 2)) := hl
  refine ⟨?_, by omega⟩
  conv => lhs; rw [← List.take_append_drop i bs, e]
  rfl
theorem plc_shp {bs : List Bool} {k : Nat} (h : k ∈ plc bs) : shp bs k = true ∧ k < bs.length := ⟨(List.mem_filter.mp h).2, List.mem_range.mp (List.mem_filter.mp h).1⟩
theorem plc_few (bs : List Bool) : (plc bs).length ≤ bs.length := by
  refine Nat.le_trans (List.length_filter_le _ _) ?_
  rw [List.length_range]
  exact Nat.le_refl _
theorem shA_len {bs : List Bool} {k : Nat} (h : k + 2 ≤ bs.length) : (shA bs k).length + 1 = bs.length := by
  unfold shA
  rw [List.length_append, List.length_take, List.length_drop]
  omega
theorem shB_len {bs : List Bool} {k : Nat} (h : k + 2 ≤ bs.length) : (shB bs k).length + 1 = bs.length := by
  unfold shB
  rw [List.length_append, List.length_take, List.length_drop]
  omega
theorem shA_eq {bs : List Bool} {k : Nat} (h : k ∈ plc bs) : shA bs k = bs.take k ++ [true] ++ bs.drop (k + 2) := by
  obtain ⟨e, hl⟩ := shp_split (plc_shp h).1
  unfold shA
  have e2 : bs.take (k + 1) = bs.take k ++ [true] := by
    rw [List.take_add_one]
    congr 1
    rw [e, List.getElem?_append_right (by rw [List.length_take]; omega), List.length_take, show k - min k bs.length = 0 by omega]
    rfl
  rw [e2]
theorem shB_eq {bs : List Bool} {k : Nat} (h : k ∈ plc bs) : shB bs k = bs.take k ++ [false] ++ bs.drop (k + 2) := by
  obtain ⟨e, hl⟩ := shp_split (plc_shp h).1
  unfold shB
  rw [List.append_assoc]
  congr 1
  have e3 : bs.drop (k + 1) = false :: bs.drop (k + 2) := by
    have h1 : k + 1 < bs.length := by omega
    rw [List.drop_eq_getElem_cons h1]
    congr 1
    have h2 : bs[k + 1]? = some false := by
      rw [e, List.getElem?_append_right (by rw [List.length_take]; omega), List.length_take, show k + 1 - min k bs.length = 1 by omega]
      rfl
    rw [List.getElem?_eq_getElem h1] at h2
    exact Option.some.inj h2
  rw [e3]
  rfl
/-! ### words and other things -/
def isRowB (z : Str) : Bool := decide (1 ≤ z.length) && (decide (z.length ≤ 30) && z.cps.toList.all okc)
def isWordB (z : Str) : Bool := decide (z.length ≤ 30) && z.cps.toList.all okc
/-- whether x is a row -/
def RowB (K : PySem.W.Frag) (H : Hp) (x : V) (b : Bool) : Prop := (NoTxt K H x ∧ b = false) ∨ ∃ z : Str, x = .str z ∧ z.length ≤ 10000 ∧ b = isRowB z
/-- whether x is a word -/
def WordB (K : PySem.W.Frag) (H : Hp) (x : V) (b : Bool) : Prop := (NoTxt K H x ∧ b = false) ∨ ∃ z : Str, x = .str z ∧ z.length ≤ 10000 ∧ b = isWordB z
theorem wordB_same {K : PySem.W.Frag} {H H' : Hp} {x : V} {b : Bool} (s : Same H H') (h : WordB K H x b) : WordB K H' x b := h.imp (fun ⟨q, e⟩ => ⟨notxt_same s q, e⟩) id
theorem rowB_same {K : PySem.W.Frag} {H H' : Hp} {x : V} {b : Bool} (s : Same H H') (h : RowB K H x b) : RowB K H' x b := h.imp (fun ⟨q, e⟩ => ⟨notxt_same s q, e⟩) id
theorem okc_tx (bs : List Bool) : (tx bs).cps.toList.all okc = true := by
  rw [tx_list, List.all_map, List.all_eq_true]
  exact fun b _ => okc_cd b
theorem isWord_tx {bs : List Bool} (h : bs.length ≤ 30) : isWordB (tx bs) = true := by
  unfold isWordB
  rw [okc_tx, tx_len, decide_eq_true h]
  rfl
theorem isRow_tx {bs : List Bool} (h1 : 1 ≤ bs.length) (h : bs.length ≤ 30) : isRowB (tx bs) = true := by
  unfold isRowB
  rw [okc_tx, tx_len, decide_eq_true h, decide_eq_true h1]
  rfl
theorem len0 {z : Str} (h : z.length = 0) : z = "" := by
  apply ext_str
  have : z.cps = #[] := Array.eq_empty_of_size_eq_zero h
  rw [this]
  rfl
/-- as the program tells it: a row, or the text without signs -/
theorem isWord_or (z : Str) : isWordB z = (isRowB z || decide (z = "")) := by
  unfold isWordB isRowB
  by_cases h : z.length = 0
  · rw [len0 h]
    decide +kernel
  · have ne : ¬ z = "" := fun e => h (by rw [e]; decide +kernel)
    rw [decide_eq_false ne, decide_eq_true (show 1 ≤ z.length by omega)]
    simp
/-- a spot at which the word of bs can't be shortened -/
def BadSpot (K : PySem.W.Frag) (H : Hp) (y : V) (ks : List Nat) : Prop := Odd K H y ∨ ∃ i : Int, y = .int i ∧ ∀ k ∈ ks, i ≠ (k : Int)
theorem badspot_same {K : PySem.W.Frag} {H H' : Hp} {y : V} {ks : List Nat} (s : Same H H') (h : BadSpot K H y ks) : BadSpot K H' y ks := h.imp (odd_same s) id
theorem inV_in {ks : List Nat} {k : Nat} (h : k ∈ ks) : inV (wv k) (ks.map wv) = true := by
  unfold inV
  rw [List.any_eq_true]
  exact ⟨wv k, List.mem_map_of_mem h, by unfold wv eqV; simp⟩
theorem inV_no {ks : List Nat} {i : Int} (h : ∀ k ∈ ks, i ≠ (k : Int)) : inV (.int i) (ks.map wv) = false := by
  unfold inV
  rw [List.any_eq_false]
  intro x hx
  obtain ⟨k, hk, rfl⟩ := List.mem_map.mp hx
  unfold wv eqV
  simp
  have := h k hk
  omega
theorem flat_ks (ks : List Nat) : (ks.map wv).all flatV = true := by
  rw [List.all_eq_true]
  intro x hx
  obtain ⟨k, _, rfl⟩ := List.mem_map.mp hx
  rfl
theorem fit {m : Nat} (h : m ≤ 10000) : m ≤ sizeLine := Nat.le_trans h (by decide)
theorem fit' {m : Nat} (h : m ≤ 10000) : m < sizeLine := Nat.lt_of_le_of_lt h (by decide)
theorem tx_fit {bs : List Bool} (h : bs.length ≤ 10000) : (tx bs).length ≤ sizeLine := by
  rw [tx_len]
  exact fit h
theorem tx_nil : ("" : Str) = tx [] := by decide +kernel
theorem dec_str {a b : Str} {p : Prop} [Decidable p] (h : a = b ↔ p) : decide (V.str a = V.str b) = decide p := by
  by_cases q : p
  · rw [decide_eq_true q, decide_eq_true (by rw [h.mpr q])]
  · rw [decide_eq_false q, decide_eq_false fun z => q (h.mp (V.str.inj z))]
end HopR

set_option Elab.async false
set_option linter.all false
set_option maxRecDepth 100000
namespace HopR
open PySem L2
/-! ### the draws -/
def dval (left : Int) (k : Nat) (z : Int) : Int :=
  if (1000000000000000000 : Int) ≤ left then left % z
  else
    let small := left % 1000000000000000000
    let one := (small + 7 * (k : Int) + 1) * (48271 + 2 * (k : Int) * (k : Int)) % 2147483647
    let two := (small / 3 + 11 * (k : Int) + 5) * (39373 + 6 * (k : Int)) % 2147483629
    (one * two + one / 64) % z
def dleft (left : Int) (z : Int) : Int := if (1000000000000000000 : Int) ≤ left then left / z else left
def draws : Int → Nat → List Int → List Int
  | _, _, [] => []
  | left, k, z :: r => dval left k z :: draws (dleft left z) (k + 1) r
theorem draws_len : ∀ (zs : List Int) (c : Int) (k : Nat), (draws c k zs).length = zs.length
  | [], _, _ => rfl
  | z :: r, c, k => by
    show (draws (dleft c z) (k + 1) r).length + 1 = r.length + 1
    rw [draws_len r]
theorem dval_ok {c : Int} {k : Nat} {z : Int} (h : 0 < z) : 0 ≤ dval c k z ∧ dval c k z < z := by
  unfold dval
  split
  · exact ⟨Int.emod_nonneg _ (by omega), Int.emod_lt_of_pos _ h⟩
  · exact ⟨Int.emod_nonneg _ (by omega), Int.emod_lt_of_pos _ h⟩
theorem draws_ok : ∀ (zs : List Int) (c : Int) (k : Nat), (∀ z ∈ zs, 0 < z) → ∀ (i : Nat) (d z : Int), (draws c k zs)[i]? = some d → zs[i]? = some z → 0 ≤ d ∧ d < z
  | [], _, _, _, i, d, z, _, h => by simp at h
  | y :: r, c, k, hp, 0, d, z, h1, h2 => by
    have e1 : dval c k y = d := Option.some.inj h1
    have e2 : y = z := Option.some.inj h2
    subst e1 e2
    exact dval_ok (hp y (List.mem_cons_self ..))
  | y :: r, c, k, hp, i + 1, d, z, h1, h2 => draws_ok r _ _ (fun q hq => hp q (List.mem_cons_of_mem _ hq)) i d z h1 h2
/-- the size of a draw is one that is reckoned with -/
def SizeOk (z : Int) : Prop := 0 < z ∧ z < 18446744073709551616
def bits (cs : List Int) : List Bool := cs.map fun c => decide (c = 1)
theorem signs_rows : ∀ (ys : List Str), (∀ y ∈ ys, ∃ b, y = tx [b]) → ∃ bs : List Bool, ys = bs.map fun b => tx [b]
  | [], _ => ⟨[], rfl⟩
  | y :: r, h => by
    obtain ⟨b, e⟩ := h y (List.mem_cons_self ..)
    obtain ⟨bs, e2⟩ := signs_rows r fun z hz => h z (List.mem_cons_of_mem _ hz)
    exact ⟨b :: bs, by rw [e, e2]; rfl⟩
theorem dot_o (c : Int) (h0 : 0 ≤ c) (h2 : c < 2) : atI (".o" : Str).cps.toList c = some (cd (decide (c = 1))) := by
  have e : (".o" : Str).cps.toList = [46, 111] := by decide +kernel
  rw [e]
  rcases (show c = 0 ∨ c = 1 by omega) with rfl | rfl
  · decide
  · decide
/-- a row -/
def Row (bs : List Bool) : Prop := 1 ≤ bs.length ∧ bs.length ≤ 30
theorem row_size {bs : List Bool} (h : Row bs) : (tx bs).length ≤ sizeLine := tx_fit (Nat.le_trans h.2 (by decide))
theorem flat_rep {α : Type} (x : α) : ∀ m : Nat, (List.replicate m [x]).flatten = List.replicate m x
  | 0 => rfl
  | m + 1 => by
    rw [List.replicate_succ, List.flatten_cons, flat_rep x m]
    rfl
theorem rep_of (m : Nat) : repS "o." m = tx (List.replicate m [true, false]).flatten := by
  unfold repS tx
  have e : ("o." : Str).cps.toList = [true, false].map cd := by decide +kernel
  rw [e, List.map_flatten, List.map_replicate]
theorem rep_of_len (m : Nat) : (List.replicate m [true, false]).flatten.length = 2 * m := by
  rw [List.length_flatten, List.map_replicate, List.sum_replicate_nat]
  show m * 2 = 2 * m
  omega
def spDrawn (K : PySem.W.Frag) : Sp := fun vs H Q _ => ∃ (c : Int) (a : Addr) (zs : List Int), vs = [.int c, .ref a] ∧ SqL K H a (zs.map V.int) ∧ (∀ z ∈ zs, SizeOk z) ∧ zs.length ≤ 1000 ∧
  ∀ H' p, Same H H' → H p = none → H' p = some (.lst ((draws c 0 zs).map V.int)) → Q (.ref p) H'
def spCellH (K : PySem.W.Frag) : Sp := fun vs H Q _ => ∃ (a : Addr) (ns : List Int) (k : Nat), vs = [.ref a, .int (k : Int)] ∧ SqL K H a (ns.map V.int) ∧ ∀ c : Int, Q (.int c) H
def spLRow : Sp := fun vs H Q _ => ∃ (c : Int) (M : Nat), vs = [.int c, .int (M : Int)] ∧ 1 ≤ M ∧ M ≤ 30 ∧ ∀ H' bs, Same H H' → 1 ≤ bs.length → bs.length ≤ M → Q (.str (tx bs)) H'
end HopR

set_option Elab.async false
set_option linter.all false
set_option maxRecDepth 100000
namespace HopR
open PySem L2
/-- a list of draws by its places -/
theorem draws2 {c z0 z1 : Int} (h0 : 0 < z0) (h1 : 0 < z1) : ∃ d0 d1 : Int, draws c 0 [z0, z1] = [d0, d1] ∧ (0 ≤ d0 ∧ d0 < z0) ∧ (0 ≤ d1 ∧ d1 < z1) := by
  have hl := draws_len [z0, z1] c 0
  match hd : draws c 0 [z0, z1], hl with
  | [d0, d1], _ =>
    have hp : ∀ z ∈ [z0, z1], 0 < z := by
      intro z hz
      simp only [List.mem_cons, List.not_mem_nil, or_false] at hz
      rcases hz with rfl | rfl
      · exact h0
      · exact h1
    exact ⟨d0, d1, rfl, draws_ok _ c 0 hp 0 d0 z0 (by rw [hd]; rfl) rfl, draws_ok _ c 0 hp 1 d1 z1 (by rw [hd]; rfl) rfl⟩
end HopR

set_option Elab.async false
set_option linter.all false
set_option maxRecDepth 100000
namespace HopR
open PySem L2
/-! ### data that can be shown -/
structure Okd (d : PyData) (k N : Nat) : Prop where
  sh : d.showable = true
  nd : d.hasDict = false
  dp : d.depth ≤ k
  ls : d.leavesShort 13 = true
  wt : d.weight ≤ N
structure Okds (ds : List PyData) (k N : Nat) : Prop where
  sh : PyData.showableAll ds = true
  nd : PyData.hasDictAll ds = false
  dp : PyData.depthAll ds ≤ k
  ls : PyData.leavesShortAll 13 ds = true
  wt : PyData.weightAll ds ≤ N
theorem Okds.nil {k : Nat} : Okds [] k 0 := ⟨rfl, rfl, Nat.zero_le _, rfl, Nat.le_refl _⟩
theorem Okds.cons {d : PyData} {ds : List PyData} {k N M : Nat} (a : Okd d k N) (b : Okds ds k M) : Okds (d :: ds) k (N + 1 + M) where
  sh := by simp only [PyData.showableAll, a.sh, b.sh, Bool.and_true]
  nd := by simp only [PyData.hasDictAll, a.nd, b.nd, Bool.or_false]
  dp := by
    simp only [PyData.depthAll]
    exact Nat.max_le.mpr ⟨a.dp, b.dp⟩
  ls := by simp only [PyData.leavesShortAll, a.ls, b.ls, Bool.and_true]
  wt := by
    simp only [PyData.weightAll]
    have := a.wt
    have := b.wt
    omega
theorem Okds.list {ds : List PyData} {k N : Nat} (a : Okds ds k N) : Okd (.list ds) (k + 1) N :=
  ⟨by simp only [PyData.showable, a.sh], by simp only [PyData.hasDict, a.nd], by simp only [PyData.depth]; exact Nat.succ_le_succ a.dp, by simp only [PyData.leavesShort, a.ls], by simp only [PyData.weight]; exact a.wt⟩
theorem Okds.tuple {ds : List PyData} {k N : Nat} (a : Okds ds k N) : Okd (.tuple ds) (k + 1) N :=
  ⟨by simp only [PyData.showable, a.sh], by simp only [PyData.hasDict, a.nd], by simp only [PyData.depth]; exact Nat.succ_le_succ a.dp, by simp only [PyData.leavesShort, a.ls], by simp only [PyData.weight]; exact a.wt⟩
theorem Okd.int {i : Int} {k : Nat} (h : i.natAbs < 1000000000000) : Okd (.int i) k 41 := by
  have hl : i.natAbs.log2 < 40 ∨ i.natAbs = 0 := by
    by_cases h0 : i.natAbs = 0
    · exact .inr h0
    · exact .inl ((Nat.log2_lt h0).mpr (by omega))
  have hl : i.natAbs.log2 < 40 := hl.elim id fun e => by
    rw [e]
    decide
  refine ⟨decide_eq_true (by omega), rfl, Nat.zero_le _, ?_, ?_⟩
  · simp only [PyData.leavesShort]
    exact decide_eq_true (PyData.shown_int_le h)
  · simp only [PyData.weight]
    split <;> omega
theorem Okd.bool {b : Bool} {k : Nat} : Okd (.bool b) k 0 := ⟨rfl, rfl, Nat.zero_le _, rfl, Nat.le_refl _⟩
theorem Okd.none {k : Nat} : Okd .none k 0 := ⟨rfl, rfl, Nat.zero_le _, rfl, Nat.le_refl _⟩
theorem Okd.tx {bs : List Bool} {k : Nat} : Okd (.str (tx bs)) k bs.length := by
  refine ⟨rfl, rfl, Nat.zero_le _, ?_, ?_⟩
  · simp only [PyData.leavesShort]
    rw [tx_list, List.all_map, List.all_eq_true]
    intro b _
    cases b <;> decide
  · simp only [PyData.weight]
    exact Nat.le_of_eq (tx_len bs)
theorem Okds.ints : ∀ {ks : List Nat} {k : Nat}, (∀ j ∈ ks, j < 1000000000000) → Okds (ks.map dw) k (42 * ks.length)
  | [], k, _ => Okds.nil
  | a :: r, k, h => by
    have h1 : Okd (dw a) k 41 := Okd.int (i := (a : Int)) (h a (List.mem_cons_self ..))
    have h2 : Okds (r.map dw) k (42 * r.length) := Okds.ints fun j hj => h j (List.mem_cons_of_mem _ hj)
    have := Okds.cons h1 h2
    rw [List.length_cons, show 42 * (r.length + 1) = 41 + 1 + 42 * r.length by omega]
    exact this
theorem Okd.mono {d : PyData} {k k' N N' : Nat} (a : Okd d k N) (hk : k ≤ k') (hN : N ≤ N') : Okd d k' N' := ⟨a.sh, a.nd, Nat.le_trans a.dp hk, a.ls, Nat.le_trans a.wt hN⟩
theorem Okd.fits {d : PyData} {k N : Nat} (a : Okd d k N) (hN : N ≤ 1048576) : d.shown.length ≤ sizeLine := PyData.shown_fits (B := 13) (by decide) (by decide) a.ls (Nat.le_trans a.wt hN)
end HopR

set_option Elab.async false
set_option linter.all false
set_option maxRecDepth 100000
set_option exponentiation.threshold 200000
namespace Hop
open PySem L2 HopR
def top (i : Nat) : Stmt := PySem.Challenge.pw_hopline_k06_refusals.main.body.getD i (.Pass ⟨0, 0, 0, 0⟩)
abbrev sInit : Stmt := inClass (top 15) 0
abbrev sInitN : Stmt := inClass (top 16) 0
abbrev sDrawn : Stmt := top 19
abbrev sPlain : Stmt := top 20
abbrev sMade : Stmt := top 21
abbrev sKinds : Stmt := top 22
abbrev sUnder : Stmt := top 23
abbrev sDue : Stmt := top 24
abbrev sRight : Stmt := top 25
abbrev sLaw : Stmt := top 26
structure TxtN (mg : Str → Option Value) : Prop where
  isi : mg "isinstance" = none
  ve : mg "ValueError" = none
  ze : mg "ZeroDivisionError" = none
  ie : mg "IndexError" = none
  ke : mg "KeyError" = none
  len : mg "len" = none
  range : mg "range" = none
  repr : mg "repr" = none
/-- the fifteen classes of refusals, and HopError -/
structure C15 (K : PySem.W.Frag) (mg : Str → Option Value) (c : Nat → Addr) (HE fW fN : Addr) : Prop where
  g0 : mg "NoNumber" = some (.ref (c 0))
  g1 : mg "NoRow" = some (.ref (c 1))
  g2 : mg "NoPace" = some (.ref (c 2))
  g3 : mg "NoStep" = some (.ref (c 3))
  g4 : mg "NoWord" = some (.ref (c 4))
  g5 : mg "NoPlace" = some (.ref (c 5))
  g6 : mg "NoHeap" = some (.ref (c 6))
  g7 : mg "TooMany" = some (.ref (c 7))
  g8 : mg "NoWay" = some (.ref (c 8))
  g9 : mg "NoLines" = some (.ref (c 9))
  g10 : mg "NoRing" = some (.ref (c 10))
  g11 : mg "BadRow" = some (.ref (c 11))
  g12 : mg "ByNought" = some (.ref (c 12))
  g13 : mg "NoWall" = some (.ref (c 13))
  g14 : mg "NoName" = some (.ref (c 14))
  x0 : PySem.W.excIn K (c 0) bmV "ValueError.__new__" = true
  k0 : PySem.W.keepIn K (.ref (c 0)) = true
  x1 : PySem.W.excIn K (c 1) bmV "ValueError.__new__" = true
  k1 : PySem.W.keepIn K (.ref (c 1)) = true
  x2 : PySem.W.excIn K (c 2) bmV "ValueError.__new__" = true
  k2 : PySem.W.keepIn K (.ref (c 2)) = true
  x3 : PySem.W.excIn K (c 3) bmV "ValueError.__new__" = true
  k3 : PySem.W.keepIn K (.ref (c 3)) = true
  x4 : PySem.W.excIn K (c 4) bmV "ValueError.__new__" = true
  k4 : PySem.W.keepIn K (.ref (c 4)) = true
  x5 : PySem.W.excIn K (c 5) bmV "ValueError.__new__" = true
  k5 : PySem.W.keepIn K (.ref (c 5)) = true
  x6 : PySem.W.excIn K (c 6) bmV "ValueError.__new__" = true
  k6 : PySem.W.keepIn K (.ref (c 6)) = true
  x7 : PySem.W.excIn K (c 7) bmV "ValueError.__new__" = true
  k7 : PySem.W.keepIn K (.ref (c 7)) = true
  x8 : PySem.W.excIn K (c 8) bmV "ValueError.__new__" = true
  k8 : PySem.W.keepIn K (.ref (c 8)) = true
  x9 : PySem.W.excIn K (c 9) bmV "ValueError.__new__" = true
  k9 : PySem.W.keepIn K (.ref (c 9)) = true
  x10 : PySem.W.excIn K (c 10) bmV "ValueError.__new__" = true
  k10 : PySem.W.keepIn K (.ref (c 10)) = true
  x11 : PySem.W.excIn K (c 11) bmV "ValueError.__new__" = true
  k11 : PySem.W.keepIn K (.ref (c 11)) = true
  x12 : PySem.W.excIn K (c 12) bmZ "ZeroDivisionError.__new__" = true
  k12 : PySem.W.keepIn K (.ref (c 12)) = true
  gHE : mg "HopError" = some (.ref HE)
  ex : ∀ i, i < 15 → ExcC K (c i)
  own : ∀ i j, i < 15 → j < 15 → PySem.W.kitOne K (.ref (c i)) (.ref (c j)) = some (decide (i = j))
  he : ∀ i, i < 15 → PySem.W.kitOne K (.ref (c i)) (.ref HE) = some (decide (i < 12))
  ve : ∀ i, i < 15 → PySem.W.kitOne K (.ref (c i)) (.type "ValueError") = some (decide (i < 12))
  ze : ∀ i, i < 15 → PySem.W.kitOne K (.ref (c i)) (.type "ZeroDivisionError") = some (decide (i = 12))
  ie : ∀ i, i < 15 → PySem.W.kitOne K (.ref (c i)) (.type "IndexError") = some (decide (i = 13))
  ke : ∀ i, i < 15 → PySem.W.kitOne K (.ref (c i)) (.type "KeyError") = some (decide (i = 14))
  W : Kept K (c 13) fW "wall"
  N : KeptK K (c 14) fN "name"
  vI : PySem.W.findCls K (.type "IndexError") (.type "type") "__init__" = some (.val (.builtin "IndexError.__init__"))
  vK : PySem.W.findCls K (.type "KeyError") (.type "type") "__init__" = some (.val (.builtin "KeyError.__init__"))
section
variable {P : Program} {w : World} {K : PySem.W.Frag} {mg : Str → Option Value} {base : Heap} {c : Nat → Addr} {HE fW fN : Addr}
/-! ### the two with an own __init__ -/
theorem scInit : FnScope ["self", "wall"] ["self", "wall"] (defScope sInit) := ⟨rfl, rfl, rfl, by decide +kernel, rfl, by decide +kernel, by decide +kernel⟩
theorem ok_init {fd : FuncData} {k : Nat} (F : Fun K "__init__" "NoWall.__init__" sInit fW fd) (T : TxtN mg) (Z : C15 K mg c HE fW fN) : FnOk P w K mg base CX0 (k + 1) fW fd ["self", "wall"] (spKeepI (c 13) "wall") := by
  refine F.ok scInit (fun vs H Q E h => ?_) (fun cdv A outer s H vs Q E hr h => ?_)
  · obtain ⟨a, y, rfl, _⟩ := h
    rfl
  · obtain ⟨a, y, rfl, ha, q⟩ := h
    refine ⟨_, pss_cons (ps_expr (pe_ieinit "wall" (by rfl) T.ie Z.vI (pa_cons (pv 0) (pa_cons pe_str pa_nil)))) (pss_one (ps_keep (pv 0) (pv 1))), ?_⟩
    refine ⟨.ref a, rfl, a, c 13, fW, [.str "no such wall, or it is shut"], rfl, by decide, Z.W, ha, ?_⟩
    exact ⟨y, rfl, .ref a, rfl, a, c 13, fW, rfl, Z.W, ha, fun d nd ne => q d nd ne⟩
theorem scInitN : FnScope ["self", "name"] ["self", "name"] (defScope sInitN) := ⟨rfl, rfl, rfl, by decide +kernel, rfl, by decide +kernel, by decide +kernel⟩
theorem ok_initN {fd : FuncData} {k : Nat} (F : Fun K "__init__" "NoName.__init__" sInitN fN fd) (T : TxtN mg) (Z : C15 K mg c HE fW fN) : FnOk P w K mg base CX0 (k + 1) fN fd ["self", "name"] (spKeepI (c 14) "name") := by
  refine F.ok scInitN (fun vs H Q E h => ?_) (fun cdv A outer s H vs Q E hr h => ?_)
  · obtain ⟨a, y, rfl, _⟩ := h
    rfl
  · obtain ⟨a, y, rfl, ha, q⟩ := h
    refine ⟨_, pss_cons (ps_expr (pe_keinit "name" (by rfl) T.ke Z.vK (pa_cons (pv 0) (pa_cons pe_str pa_nil)))) (pss_one (ps_keepK (pv 0) (pv 1))), ?_⟩
    refine ⟨.ref a, rfl, a, c 14, fN, [.str "nothing is kept by this name"], rfl, by decide, Z.N, ha, ?_⟩
    exact ⟨y, rfl, .ref a, rfl, a, c 14, fN, rfl, Z.N, ha, fun d nd ne => q d nd ne⟩
/-! ### _law_plain, _law_made -/
def spPlain (c : Nat → Addr) : Sp := fun vs H Q _ => ∃ i : Nat, vs = [.int i] ∧ i < 13 ∧ ∀ H' a, Same H H' → H a = none → H' a = some (ExO (.ref (c i)) a) → Q (.ref a) H'
theorem scPlain : FnScope ["_law_which"] ["_law_which"] (defScope sPlain) := ⟨rfl, rfl, rfl, by decide +kernel, rfl, by decide +kernel, by decide +kernel⟩
theorem ok_plain {f : Addr} {fd : FuncData} {k : Nat} (F : Fun K "_law_plain" "_law_plain" sPlain f fd) (Z : C15 K mg c HE fW fN) : FnOk P w K mg base CX0 (k + 1) f fd ["_law_which"] (spPlain c) := by
  refine F.ok scPlain (fun vs H Q E h => ?_) (fun cdv A outer s H vs Q E hr h => ?_)
  · obtain ⟨i, rfl, _⟩ := h
    rfl
  · obtain ⟨i, rfl, hi, q⟩ := h
    refine ⟨_, (pss_cons (ps_if (pt_cmpR op_lt (pv 0) pe_int (nomark _)) (pss_one (ps_ret (pe_ix ix_list (pe_lst (pa_cons (pe_exc1 PySem.F.excBase_ValueError Z.x0 Z.g0 Z.k0 (by rfl) pe_str) (pa_cons (pe_exc1 PySem.F.excBase_ValueError Z.x1 Z.g1 Z.k1 (by rfl) pe_str) (pa_cons (pe_exc1 PySem.F.excBase_ValueError Z.x2 Z.g2 Z.k2 (by rfl) pe_str) (pa_cons (pe_exc1 PySem.F.excBase_ValueError Z.x3 Z.g3 Z.k3 (by rfl) pe_str) pa_nil))))) (pv 0) (fun _ _ => rfl)))) pss_nil) (pss_cons (ps_if (pt_cmpR op_lt (pv 0) pe_int (nomark _)) (pss_one (ps_ret (pe_ix ix_list (pe_lst (pa_cons (pe_exc1 PySem.F.excBase_ValueError Z.x4 Z.g4 Z.k4 (by rfl) pe_str) (pa_cons (pe_exc1 PySem.F.excBase_ValueError Z.x5 Z.g5 Z.k5 (by rfl) pe_str) (pa_cons (pe_exc1 PySem.F.excBase_ValueError Z.x6 Z.g6 Z.k6 (by rfl) pe_str) (pa_cons (pe_exc1 PySem.F.excBase_ValueError Z.x7 Z.g7 Z.k7 (by rfl) pe_str) pa_nil))))) (pe_op op_sub (pv 0) pe_int) (fun _ _ => rfl)))) pss_nil) (pss_one (ps_ret (pe_ix ix_list (pe_lst (pa_cons (pe_exc1 PySem.F.excBase_ValueError Z.x8 Z.g8 Z.k8 (by rfl) pe_str) (pa_cons (pe_exc1 PySem.F.excBase_ValueError Z.x9 Z.g9 Z.k9 (by rfl) pe_str) (pa_cons (pe_exc1 PySem.F.excBase_ValueError Z.x10 Z.g10 Z.k10 (by rfl) pe_str) (pa_cons (pe_exc1 PySem.F.excBase_ValueError Z.x11 Z.g11 Z.k11 (by rfl) pe_str) (pa_cons (pe_exc1 PySem.F.excBase_ZeroDivisionError Z.x12 Z.g12 Z.k12 (by rfl) pe_str) pa_nil)))))) (pe_op op_sub (pv 0) pe_int) (fun _ _ => rfl)))))), ?_⟩
    refine ⟨.int i, rfl, i, 4, rfl, rfl, _, rfl, ite2 (fun h => ?_) (fun h => ?_)⟩
    · have h := of_decide_eq_true h
      intro a0 n0
      have s0 := same_upd (o := ExO (.ref (c 0)) a0) n0
      have e0 : upd H a0 (ExO (.ref (c 0)) a0) a0 = some (ExO (.ref (c 0)) a0) := upd_same
      generalize upd H a0 (ExO (.ref (c 0)) a0) = J0 at s0 e0 ⊢
      intro a1 n1
      have s1 := same_upd (o := ExO (.ref (c 1)) a1) n1
      have e1 : upd J0 a1 (ExO (.ref (c 1)) a1) a1 = some (ExO (.ref (c 1)) a1) := upd_same
      generalize upd J0 a1 (ExO (.ref (c 1)) a1) = J1 at s1 e1 ⊢
      intro a2 n2
      have s2 := same_upd (o := ExO (.ref (c 2)) a2) n2
      have e2 : upd J1 a2 (ExO (.ref (c 2)) a2) a2 = some (ExO (.ref (c 2)) a2) := upd_same
      generalize upd J1 a2 (ExO (.ref (c 2)) a2) = J2 at s2 e2 ⊢
      intro a3 n3
      have s3 := same_upd (o := ExO (.ref (c 3)) a3) n3
      have e3 : upd J2 a3 (ExO (.ref (c 3)) a3) a3 = some (ExO (.ref (c 3)) a3) := upd_same
      generalize upd J2 a3 (ExO (.ref (c 3)) a3) = J3 at s3 e3 ⊢
      refine ⟨(by show 4 ≤ sizeLine; decide), fun l nl => ?_⟩
      have sl := same_upd (o := .lst [V.ref a0, V.ref a1, V.ref a2, V.ref a3]) nl
      have el : upd J3 l (.lst [V.ref a0, V.ref a1, V.ref a2, V.ref a3]) l = some (.lst [V.ref a0, V.ref a1, V.ref a2, V.ref a3]) := upd_same
      generalize upd J3 l (.lst [V.ref a0, V.ref a1, V.ref a2, V.ref a3]) = JL at sl el ⊢
      rcases (show i = 0 ∨ i = 1 ∨ i = 2 ∨ i = 3 by omega) with rfl | rfl | rfl | rfl
      · exact ⟨.int (0 : Nat), rfl, l, _, _, .ref a0, rfl, rfl, SqL.of el, rfl, q _ a0 ((((s0.trans s1).trans s2).trans s3).trans sl) n0 ((((s1.trans s2).trans s3).trans sl) _ _ e0)⟩
      · exact ⟨.int (1 : Nat), rfl, l, _, _, .ref a1, rfl, rfl, SqL.of el, rfl, q _ a1 ((((s0.trans s1).trans s2).trans s3).trans sl) (s0.free n1) (((s2.trans s3).trans sl) _ _ e1)⟩
      · exact ⟨.int (2 : Nat), rfl, l, _, _, .ref a2, rfl, rfl, SqL.of el, rfl, q _ a2 ((((s0.trans s1).trans s2).trans s3).trans sl) ((s0.trans s1).free n2) ((s3.trans sl) _ _ e2)⟩
      · exact ⟨.int (3 : Nat), rfl, l, _, _, .ref a3, rfl, rfl, SqL.of el, rfl, q _ a3 ((((s0.trans s1).trans s2).trans s3).trans sl) (((s0.trans s1).trans s2).free n3) (sl _ _ e3)⟩
    have h4 : ¬ (i : Int) < 4 := fun z => h (decide_eq_true z)
    refine ⟨.int i, rfl, i, 8, rfl, rfl, _, rfl, ite2 (fun h => ?_) (fun h => ?_)⟩
    · have h := of_decide_eq_true h
      intro a4 n4
      have s4 := same_upd (o := ExO (.ref (c 4)) a4) n4
      have e4 : upd H a4 (ExO (.ref (c 4)) a4) a4 = some (ExO (.ref (c 4)) a4) := upd_same
      generalize upd H a4 (ExO (.ref (c 4)) a4) = J4 at s4 e4 ⊢
      intro a5 n5
      have s5 := same_upd (o := ExO (.ref (c 5)) a5) n5
      have e5 : upd J4 a5 (ExO (.ref (c 5)) a5) a5 = some (ExO (.ref (c 5)) a5) := upd_same
      generalize upd J4 a5 (ExO (.ref (c 5)) a5) = J5 at s5 e5 ⊢
      intro a6 n6
      have s6 := same_upd (o := ExO (.ref (c 6)) a6) n6
      have e6 : upd J5 a6 (ExO (.ref (c 6)) a6) a6 = some (ExO (.ref (c 6)) a6) := upd_same
      generalize upd J5 a6 (ExO (.ref (c 6)) a6) = J6 at s6 e6 ⊢
      intro a7 n7
      have s7 := same_upd (o := ExO (.ref (c 7)) a7) n7
      have e7 : upd J6 a7 (ExO (.ref (c 7)) a7) a7 = some (ExO (.ref (c 7)) a7) := upd_same
      generalize upd J6 a7 (ExO (.ref (c 7)) a7) = J7 at s7 e7 ⊢
      refine ⟨(by show 4 ≤ sizeLine; decide), fun l nl => ?_⟩
      have sl := same_upd (o := .lst [V.ref a4, V.ref a5, V.ref a6, V.ref a7]) nl
      have el : upd J7 l (.lst [V.ref a4, V.ref a5, V.ref a6, V.ref a7]) l = some (.lst [V.ref a4, V.ref a5, V.ref a6, V.ref a7]) := upd_same
      generalize upd J7 l (.lst [V.ref a4, V.ref a5, V.ref a6, V.ref a7]) = JL at sl el ⊢
      rcases (show i = 4 ∨ i = 5 ∨ i = 6 ∨ i = 7 by omega) with rfl | rfl | rfl | rfl
      · exact ⟨.int (4 : Nat), rfl, (4 : Nat), 4, rfl, rfl, l, _, _, .ref a4, rfl, rfl, SqL.of el, rfl, q _ a4 ((((s4.trans s5).trans s6).trans s7).trans sl) n4 ((((s5.trans s6).trans s7).trans sl) _ _ e4)⟩
      · exact ⟨.int (5 : Nat), rfl, (5 : Nat), 4, rfl, rfl, l, _, _, .ref a5, rfl, rfl, SqL.of el, rfl, q _ a5 ((((s4.trans s5).trans s6).trans s7).trans sl) (s4.free n5) (((s6.trans s7).trans sl) _ _ e5)⟩
      · exact ⟨.int (6 : Nat), rfl, (6 : Nat), 4, rfl, rfl, l, _, _, .ref a6, rfl, rfl, SqL.of el, rfl, q _ a6 ((((s4.trans s5).trans s6).trans s7).trans sl) ((s4.trans s5).free n6) ((s7.trans sl) _ _ e6)⟩
      · exact ⟨.int (7 : Nat), rfl, (7 : Nat), 4, rfl, rfl, l, _, _, .ref a7, rfl, rfl, SqL.of el, rfl, q _ a7 ((((s4.trans s5).trans s6).trans s7).trans sl) (((s4.trans s5).trans s6).free n7) (sl _ _ e7)⟩
    have h8 : ¬ (i : Int) < 8 := fun z => h (decide_eq_true z)
    intro a8 n8
    have s8 := same_upd (o := ExO (.ref (c 8)) a8) n8
    have e8 : upd H a8 (ExO (.ref (c 8)) a8) a8 = some (ExO (.ref (c 8)) a8) := upd_same
    generalize upd H a8 (ExO (.ref (c 8)) a8) = J8 at s8 e8 ⊢
    intro a9 n9
    have s9 := same_upd (o := ExO (.ref (c 9)) a9) n9
    have e9 : upd J8 a9 (ExO (.ref (c 9)) a9) a9 = some (ExO (.ref (c 9)) a9) := upd_same
    generalize upd J8 a9 (ExO (.ref (c 9)) a9) = J9 at s9 e9 ⊢
    intro a10 n10
    have s10 := same_upd (o := ExO (.ref (c 10)) a10) n10
    have e10 : upd J9 a10 (ExO (.ref (c 10)) a10) a10 = some (ExO (.ref (c 10)) a10) := upd_same
    generalize upd J9 a10 (ExO (.ref (c 10)) a10) = J10 at s10 e10 ⊢
    intro a11 n11
    have s11 := same_upd (o := ExO (.ref (c 11)) a11) n11
    have e11 : upd J10 a11 (ExO (.ref (c 11)) a11) a11 = some (ExO (.ref (c 11)) a11) := upd_same
    generalize upd J10 a11 (ExO (.ref (c 11)) a11) = J11 at s11 e11 ⊢
    intro a12 n12
    have s12 := same_upd (o := ExO (.ref (c 12)) a12) n12
    have e12 : upd J11 a12 (ExO (.ref (c 12)) a12) a12 = some (ExO (.ref (c 12)) a12) := upd_same
    generalize upd J11 a12 (ExO (.ref (c 12)) a12) = J12 at s12 e12 ⊢
    refine ⟨(by show 5 ≤ sizeLine; decide), fun l nl => ?_⟩
    have sl := same_upd (o := .lst [V.ref a8, V.ref a9, V.ref a10, V.ref a11, V.ref a12]) nl
    have el : upd J12 l (.lst [V.ref a8, V.ref a9, V.ref a10, V.ref a11, V.ref a12]) l = some (.lst [V.ref a8, V.ref a9, V.ref a10, V.ref a11, V.ref a12]) := upd_same
    generalize upd J12 l (.lst [V.ref a8, V.ref a9, V.ref a10, V.ref a11, V.ref a12]) = JL at sl el ⊢
    rcases (show i = 8 ∨ i = 9 ∨ i = 10 ∨ i = 11 ∨ i = 12 by omega) with rfl | rfl | rfl | rfl | rfl
    · exact ⟨.int (8 : Nat), rfl, (8 : Nat), 8, rfl, rfl, l, _, _, .ref a8, rfl, rfl, SqL.of el, rfl, q _ a8 (((((s8.trans s9).trans s10).trans s11).trans s12).trans sl) n8 (((((s9.trans s10).trans s11).trans s12).trans sl) _ _ e8)⟩
    · exact ⟨.int (9 : Nat), rfl, (9 : Nat), 8, rfl, rfl, l, _, _, .ref a9, rfl, rfl, SqL.of el, rfl, q _ a9 (((((s8.trans s9).trans s10).trans s11).trans s12).trans sl) (s8.free n9) ((((s10.trans s11).trans s12).trans sl) _ _ e9)⟩
    · exact ⟨.int (10 : Nat), rfl, (10 : Nat), 8, rfl, rfl, l, _, _, .ref a10, rfl, rfl, SqL.of el, rfl, q _ a10 (((((s8.trans s9).trans s10).trans s11).trans s12).trans sl) ((s8.trans s9).free n10) (((s11.trans s12).trans sl) _ _ e10)⟩
    · exact ⟨.int (11 : Nat), rfl, (11 : Nat), 8, rfl, rfl, l, _, _, .ref a11, rfl, rfl, SqL.of el, rfl, q _ a11 (((((s8.trans s9).trans s10).trans s11).trans s12).trans sl) (((s8.trans s9).trans s10).free n11) ((s12.trans sl) _ _ e11)⟩
    · exact ⟨.int (12 : Nat), rfl, (12 : Nat), 8, rfl, rfl, l, _, _, .ref a12, rfl, rfl, SqL.of el, rfl, q _ a12 (((((s8.trans s9).trans s10).trans s11).trans s12).trans sl) ((((s8.trans s9).trans s10).trans s11).free n12) (sl _ _ e12)⟩
def MadeE (H' : Hp) (c : Nat → Addr) (i : Nat) (x : V) (a : Addr) : Prop := Er H' a (c i) ∧ (i = 13 → Fld H' a (c 13) [(("wall" : Str), x)]) ∧ (i = 14 → Fld H' a (c 14) [(("name" : Str), x)])
def spMade (c : Nat → Addr) : Sp := fun vs H Q _ => ∃ (i : Nat) (x : V), vs = [.int i, x] ∧ i < 15 ∧ ∀ H' a, Same H H' → H a = none → MadeE H' c i x a → Q (.ref a) H'
theorem scMade : FnScope ["_law_which", "_law_thing"] ["_law_which", "_law_thing"] (defScope sMade) := ⟨rfl, rfl, rfl, by decide +kernel, rfl, by decide +kernel, by decide +kernel⟩
theorem ok_made {f fp : Addr} {fd gp gW gN : FuncData} {k : Nat} (F : Fun K "_law_made" "_law_made" sMade f fd) (Np : Fn K mg "_law_plain" sPlain ["_law_which"] fp gp) (FW : Fun K "__init__" "NoWall.__init__" sInit fW gW) (bW : Binds K gW ["self", "wall"] [])
    (FN : Fun K "__init__" "NoName.__init__" sInitN fN gN) (bN : Binds K gN ["self", "name"] []) (T : TxtN mg) (Z : C15 K mg c HE fW fN) : FnOk P w K mg base CX0 (k + 3) f fd ["_law_which", "_law_thing"] (spMade c) := by
  have Gp : FnOk P w K mg base CX0 (k + 2) fp gp ["_law_which"] (spPlain c) := ok_plain (k := k + 1) Np.F Z
  have GW : FnOk P w K mg base CX0 (k + 1) fW gW ["self", "wall"] (spKeepI (c 13) "wall") := ok_init FW T Z
  have GN : FnOk P w K mg base CX0 (k + 1) fN gN ["self", "name"] (spKeepI (c 14) "name") := ok_initN FN T Z
  refine F.ok scMade (fun vs H Q E h => ?_) (fun cdv A outer s H vs Q E hr h => ?_)
  · obtain ⟨i, x, rfl, _⟩ := h
    rfl
  · obtain ⟨i, x, rfl, hi, q⟩ := h
    refine ⟨_, (pss_cons (ps_if (pt_cmpR op_eq (pv 0) pe_int (nomark _)) (pss_one (ps_ret (pe_keepV Z.W.own1 GW hr bW (by rfl) Z.g13 (pa_cons (pv 1) pa_nil)))) pss_nil) (pss_cons (ps_if (pt_cmpR op_eq (pv 0) pe_int (nomark _)) (pss_one (ps_ret (pe_keepV Z.N.own1 GN hr bN (by rfl) Z.g14 (pa_cons (pv 1) pa_nil)))) pss_nil) (pss_one (ps_ret (pe_call Gp hr (by rfl) Np.g Np.F.kp Np.b .nil pass0 (pa_cons (pv 0) pa_nil)))))), ?_⟩
    have told : ∀ {D a d : Addr} {f : Str}, H a = none → H d = none → d ≠ a → Same H (upd (upd H d (.xd [(f, x)])) a (ExH (.ref D) (some d) a)) ∧ Fld (upd (upd H d (.xd [(f, x)])) a (ExH (.ref D) (some d) a)) a D [(f, x)] := fun {D a d f} na nd ne => by
      have s1 := same_upd (o := .xd [(f, x)]) nd
      have na1 : upd H d (.xd [(f, x)]) a = none := (upd_ne (Ne.symm ne)).trans na
      exact ⟨s1.trans (same_upd na1), _, upd_same, (upd_ne ne).trans upd_same⟩
    refine ⟨.int i, rfl, rfl, _, rfl, ite2 (fun h => ?_) (fun h => ?_)⟩
    · have h := V.int.inj (of_decide_eq_true h)
      obtain rfl : i = 13 := by omega
      refine ⟨x, rfl, x, rfl, fun a d na nd ne => ?_⟩
      obtain ⟨s1, f1⟩ := told (D := c 13) (f := "wall") na nd ne
      exact q _ a s1 na ⟨.inr ⟨_, f1⟩, fun _ => f1, fun z => by omega⟩
    have h13 : i ≠ 13 := fun z => h (decide_eq_true (by rw [z]; rfl))
    refine ⟨.int i, rfl, rfl, _, rfl, ite2 (fun h => ?_) (fun h => ?_)⟩
    · have h := V.int.inj (of_decide_eq_true h)
      obtain rfl : i = 14 := by omega
      refine ⟨x, rfl, x, rfl, fun a d na nd ne => ?_⟩
      obtain ⟨s1, f1⟩ := told (D := c 14) (f := "name") na nd ne
      exact q _ a s1 na ⟨.inr ⟨_, f1⟩, fun z => by omega, fun _ => f1⟩
    have h14 : i ≠ 14 := fun z => h (decide_eq_true (by rw [z]; rfl))
    exact ⟨.int i, rfl, i, rfl, by omega, fun H' a s na ea => q H' a s na ⟨.inl ea, fun z => absurd z h13, fun z => absurd z h14⟩⟩
/-! ### _law_kinds, _law_under, _law_due -/
def kinds (i : Nat) : List Bool := (List.range 15).map fun j => decide (i = j)
def under (i : Nat) : List Bool := [decide (i < 12), decide (i < 12), decide (i = 12), decide (i = 13), decide (i = 14)]
def spTold (c : Nat → Addr) (f : Nat → List Bool) : Sp := fun vs H Q _ => ∃ (i : Nat) (a : Addr), vs = [.ref a] ∧ i < 15 ∧ Er H a (c i) ∧ ∀ H' p, Same H H' → H p = none → H' p = some (.lst ((f i).map V.bl)) → Q (.ref p) H'
theorem scKinds : FnScope ["_law_error", "_law_first"] ["_law_error"] (defScope sKinds) := ⟨rfl, rfl, rfl, by decide +kernel, rfl, by decide +kernel, by decide +kernel⟩
theorem ok_kinds {f : Addr} {fd : FuncData} {k : Nat} (F : Fun K "_law_kinds" "_law_kinds" sKinds f fd) (T : TxtN mg) (Z : C15 K mg c HE fW fN) : FnOk P w K mg base CX0 (k + 1) f fd ["_law_error"] (spTold c kinds) := by
  refine F.ok scKinds (fun vs H Q E h => ?_) (fun cdv A outer s H vs Q E hr h => ?_)
  · obtain ⟨i, a, rfl, _⟩ := h
    rfl
  · obtain ⟨i, a, rfl, hi, er, q⟩ := h
    have nd := scKinds.nd
    refine ⟨_, (pss_cons (ps_set (i := 1) nd rfl (.inl rfl) (pe_lst (pa_cons (pe_callB call_isEr (by rfl) T.isi (by decide +kernel) (pa_cons (pv 0) (pa_cons (pe_glob (v := .ref (c 0)) (by rfl) Z.g0 rfl) pa_nil))) (pa_cons (pe_callB call_isEr (by rfl) T.isi (by decide +kernel) (pa_cons (pv 0) (pa_cons (pe_glob (v := .ref (c 1)) (by rfl) Z.g1 rfl) pa_nil))) (pa_cons (pe_callB call_isEr (by rfl) T.isi (by decide +kernel) (pa_cons (pv 0) (pa_cons (pe_glob (v := .ref (c 2)) (by rfl) Z.g2 rfl) pa_nil))) pa_nil))))) (pss_cons (ps_set (i := 1) nd rfl (.inl rfl) (pe_op op_cat (pv 1) (pe_lst (pa_cons (pe_callB call_isEr (by rfl) T.isi (by decide +kernel) (pa_cons (pv 0) (pa_cons (pe_glob (v := .ref (c 3)) (by rfl) Z.g3 rfl) pa_nil))) (pa_cons (pe_callB call_isEr (by rfl) T.isi (by decide +kernel) (pa_cons (pv 0) (pa_cons (pe_glob (v := .ref (c 4)) (by rfl) Z.g4 rfl) pa_nil))) (pa_cons (pe_callB call_isEr (by rfl) T.isi (by decide +kernel) (pa_cons (pv 0) (pa_cons (pe_glob (v := .ref (c 5)) (by rfl) Z.g5 rfl) pa_nil))) pa_nil)))))) (pss_cons (ps_set (i := 1) nd rfl (.inl rfl) (pe_op op_cat (pv 1) (pe_lst (pa_cons (pe_callB call_isEr (by rfl) T.isi (by decide +kernel) (pa_cons (pv 0) (pa_cons (pe_glob (v := .ref (c 6)) (by rfl) Z.g6 rfl) pa_nil))) (pa_cons (pe_callB call_isEr (by rfl) T.isi (by decide +kernel) (pa_cons (pv 0) (pa_cons (pe_glob (v := .ref (c 7)) (by rfl) Z.g7 rfl) pa_nil))) (pa_cons (pe_callB call_isEr (by rfl) T.isi (by decide +kernel) (pa_cons (pv 0) (pa_cons (pe_glob (v := .ref (c 8)) (by rfl) Z.g8 rfl) pa_nil))) pa_nil)))))) (pss_cons (ps_expr (pe_bm PySem.F.plainAttrs_list PySem.F.slot_list_append PySem.F.type_list_append mt_append (pv 1) (pa_cons (pe_callB call_isEr (by rfl) T.isi (by decide +kernel) (pa_cons (pv 0) (pa_cons (pe_glob (v := .ref (c 9)) (by rfl) Z.g9 rfl) pa_nil))) pa_nil))) (pss_cons (ps_set (i := 1) nd rfl (.inl rfl) (pe_op op_cat (pv 1) (pe_lst (pa_cons (pe_callB call_isEr (by rfl) T.isi (by decide +kernel) (pa_cons (pv 0) (pa_cons (pe_glob (v := .ref (c 10)) (by rfl) Z.g10 rfl) pa_nil))) (pa_cons (pe_callB call_isEr (by rfl) T.isi (by decide +kernel) (pa_cons (pv 0) (pa_cons (pe_glob (v := .ref (c 11)) (by rfl) Z.g11 rfl) pa_nil))) (pa_cons (pe_callB call_isEr (by rfl) T.isi (by decide +kernel) (pa_cons (pv 0) (pa_cons (pe_glob (v := .ref (c 12)) (by rfl) Z.g12 rfl) pa_nil))) pa_nil)))))) (pss_one (ps_ret (pe_op op_cat (pv 1) (pe_lst (pa_cons (pe_callB call_isEr (by rfl) T.isi (by decide +kernel) (pa_cons (pv 0) (pa_cons (pe_glob (v := .ref (c 13)) (by rfl) Z.g13 rfl) pa_nil))) (pa_cons (pe_callB call_isEr (by rfl) T.isi (by decide +kernel) (pa_cons (pv 0) (pa_cons (pe_glob (v := .ref (c 14)) (by rfl) Z.g14 rfl) pa_nil))) pa_nil))))))))))), ?_⟩
    refine ⟨.ref a, rfl, a, c i, .ref (c 0), .ref (c 0), decide (i = 0), rfl, er, Z.ex i hi, .own _, Z.own i 0 hi (by decide), .ref a, rfl, a, c i, .ref (c 1), .ref (c 1), decide (i = 1), rfl, er, Z.ex i hi, .own _, Z.own i 1 hi (by decide), .ref a, rfl, a, c i, .ref (c 2), .ref (c 2), decide (i = 2), rfl, er, Z.ex i hi, .own _, Z.own i 2 hi (by decide), (by show 3 ≤ sizeLine; decide), fun l0 m0 => ?_⟩
    have sl0 := same_upd (o := .lst [V.bl (decide (i = 0)), V.bl (decide (i = 1)), V.bl (decide (i = 2))]) m0
    have el0 : upd H l0 (.lst [V.bl (decide (i = 0)), V.bl (decide (i = 1)), V.bl (decide (i = 2))]) l0 = some (.lst [V.bl (decide (i = 0)), V.bl (decide (i = 1)), V.bl (decide (i = 2))]) := upd_same
    generalize upd H l0 (.lst [V.bl (decide (i = 0)), V.bl (decide (i = 1)), V.bl (decide (i = 2))]) = H0 at sl0 el0 ⊢
    have S0 := sl0
    refine ⟨.ref l0, rfl, .ref a, rfl, a, c i, .ref (c 3), .ref (c 3), decide (i = 3), rfl, (er.same S0), Z.ex i hi, .own _, Z.own i 3 hi (by decide), .ref a, rfl, a, c i, .ref (c 4), .ref (c 4), decide (i = 4), rfl, (er.same S0), Z.ex i hi, .own _, Z.own i 4 hi (by decide), .ref a, rfl, a, c i, .ref (c 5), .ref (c 5), decide (i = 5), rfl, (er.same S0), Z.ex i hi, .own _, Z.own i 5 hi (by decide), (by show 3 ≤ sizeLine; decide), fun u1 v1 => ?_⟩
    have su1 := same_upd (o := .lst [V.bl (decide (i = 3)), V.bl (decide (i = 4)), V.bl (decide (i = 5))]) v1
    have eu1 : upd H0 u1 (.lst [V.bl (decide (i = 3)), V.bl (decide (i = 4)), V.bl (decide (i = 5))]) u1 = some (.lst [V.bl (decide (i = 3)), V.bl (decide (i = 4)), V.bl (decide (i = 5))]) := upd_same
    generalize upd H0 u1 (.lst [V.bl (decide (i = 3)), V.bl (decide (i = 4)), V.bl (decide (i = 5))]) = U1 at su1 eu1 ⊢
    refine ⟨l0, u1, _, _, rfl, rfl, su1 _ _ el0, eu1, (by show 6 ≤ sizeLine; decide), fun l1 m1 => ?_⟩
    have x1 : [V.bl (decide (i = 0)), V.bl (decide (i = 1)), V.bl (decide (i = 2))] ++ [V.bl (decide (i = 3)), V.bl (decide (i = 4)), V.bl (decide (i = 5))] = [V.bl (decide (i = 0)), V.bl (decide (i = 1)), V.bl (decide (i = 2)), V.bl (decide (i = 3)), V.bl (decide (i = 4)), V.bl (decide (i = 5))] := rfl
    rw [x1]
    have sl1 := same_upd (o := .lst [V.bl (decide (i = 0)), V.bl (decide (i = 1)), V.bl (decide (i = 2)), V.bl (decide (i = 3)), V.bl (decide (i = 4)), V.bl (decide (i = 5))]) m1
    have el1 : upd U1 l1 (.lst [V.bl (decide (i = 0)), V.bl (decide (i = 1)), V.bl (decide (i = 2)), V.bl (decide (i = 3)), V.bl (decide (i = 4)), V.bl (decide (i = 5))]) l1 = some (.lst [V.bl (decide (i = 0)), V.bl (decide (i = 1)), V.bl (decide (i = 2)), V.bl (decide (i = 3)), V.bl (decide (i = 4)), V.bl (decide (i = 5))]) := upd_same
    generalize upd U1 l1 (.lst [V.bl (decide (i = 0)), V.bl (decide (i = 1)), V.bl (decide (i = 2)), V.bl (decide (i = 3)), V.bl (decide (i = 4)), V.bl (decide (i = 5))]) = H1 at sl1 el1 ⊢
    have S1 := S0.trans (su1.trans sl1)
    refine ⟨.ref l1, rfl, .ref a, rfl, a, c i, .ref (c 6), .ref (c 6), decide (i = 6), rfl, (er.same S1), Z.ex i hi, .own _, Z.own i 6 hi (by decide), .ref a, rfl, a, c i, .ref (c 7), .ref (c 7), decide (i = 7), rfl, (er.same S1), Z.ex i hi, .own _, Z.own i 7 hi (by decide), .ref a, rfl, a, c i, .ref (c 8), .ref (c 8), decide (i = 8), rfl, (er.same S1), Z.ex i hi, .own _, Z.own i 8 hi (by decide), (by show 3 ≤ sizeLine; decide), fun u2 v2 => ?_⟩
    have su2 := same_upd (o := .lst [V.bl (decide (i = 6)), V.bl (decide (i = 7)), V.bl (decide (i = 8))]) v2
    have eu2 : upd H1 u2 (.lst [V.bl (decide (i = 6)), V.bl (decide (i = 7)), V.bl (decide (i = 8))]) u2 = some (.lst [V.bl (decide (i = 6)), V.bl (decide (i = 7)), V.bl (decide (i = 8))]) := upd_same
    generalize upd H1 u2 (.lst [V.bl (decide (i = 6)), V.bl (decide (i = 7)), V.bl (decide (i = 8))]) = U2 at su2 eu2 ⊢
    refine ⟨l1, u2, _, _, rfl, rfl, su2 _ _ el1, eu2, (by show 9 ≤ sizeLine; decide), fun l2 m2 => ?_⟩
    have x2 : [V.bl (decide (i = 0)), V.bl (decide (i = 1)), V.bl (decide (i = 2)), V.bl (decide (i = 3)), V.bl (decide (i = 4)), V.bl (decide (i = 5))] ++ [V.bl (decide (i = 6)), V.bl (decide (i = 7)), V.bl (decide (i = 8))] = [V.bl (decide (i = 0)), V.bl (decide (i = 1)), V.bl (decide (i = 2)), V.bl (decide (i = 3)), V.bl (decide (i = 4)), V.bl (decide (i = 5)), V.bl (decide (i = 6)), V.bl (decide (i = 7)), V.bl (decide (i = 8))] := rfl
    rw [x2]
    have sl2 := same_upd (o := .lst [V.bl (decide (i = 0)), V.bl (decide (i = 1)), V.bl (decide (i = 2)), V.bl (decide (i = 3)), V.bl (decide (i = 4)), V.bl (decide (i = 5)), V.bl (decide (i = 6)), V.bl (decide (i = 7)), V.bl (decide (i = 8))]) m2
    have el2 : upd U2 l2 (.lst [V.bl (decide (i = 0)), V.bl (decide (i = 1)), V.bl (decide (i = 2)), V.bl (decide (i = 3)), V.bl (decide (i = 4)), V.bl (decide (i = 5)), V.bl (decide (i = 6)), V.bl (decide (i = 7)), V.bl (decide (i = 8))]) l2 = some (.lst [V.bl (decide (i = 0)), V.bl (decide (i = 1)), V.bl (decide (i = 2)), V.bl (decide (i = 3)), V.bl (decide (i = 4)), V.bl (decide (i = 5)), V.bl (decide (i = 6)), V.bl (decide (i = 7)), V.bl (decide (i = 8))]) := upd_same
    generalize upd U2 l2 (.lst [V.bl (decide (i = 0)), V.bl (decide (i = 1)), V.bl (decide (i = 2)), V.bl (decide (i = 3)), V.bl (decide (i = 4)), V.bl (decide (i = 5)), V.bl (decide (i = 6)), V.bl (decide (i = 7)), V.bl (decide (i = 8))]) = H2 at sl2 el2 ⊢
    have S2 := S1.trans (su2.trans sl2)
    refine ⟨.ref l2, rfl, .inl ⟨rfl, _, SqL.of el2⟩, .ref a, rfl, a, c i, .ref (c 9), .ref (c 9), decide (i = 9), rfl, (er.same S2), Z.ex i hi, .own _, Z.own i 9 hi (by decide), l2, _, _, rfl, rfl, el2, (by show 9 < sizeLine; decide), ?_⟩
    have f2 : H l2 = none := (S1.trans su2).free m2
    have S3 : Same H (upd H2 l2 (.lst ([V.bl (decide (i = 0)), V.bl (decide (i = 1)), V.bl (decide (i = 2)), V.bl (decide (i = 3)), V.bl (decide (i = 4)), V.bl (decide (i = 5)), V.bl (decide (i = 6)), V.bl (decide (i = 7)), V.bl (decide (i = 8))] ++ [V.bl (decide (i = 9))]))) := same_new f2 S2
    have el3 : upd H2 l2 (.lst ([V.bl (decide (i = 0)), V.bl (decide (i = 1)), V.bl (decide (i = 2)), V.bl (decide (i = 3)), V.bl (decide (i = 4)), V.bl (decide (i = 5)), V.bl (decide (i = 6)), V.bl (decide (i = 7)), V.bl (decide (i = 8))] ++ [V.bl (decide (i = 9))])) l2 = some (.lst [V.bl (decide (i = 0)), V.bl (decide (i = 1)), V.bl (decide (i = 2)), V.bl (decide (i = 3)), V.bl (decide (i = 4)), V.bl (decide (i = 5)), V.bl (decide (i = 6)), V.bl (decide (i = 7)), V.bl (decide (i = 8)), V.bl (decide (i = 9))]) := upd_same
    generalize upd H2 l2 (.lst ([V.bl (decide (i = 0)), V.bl (decide (i = 1)), V.bl (decide (i = 2)), V.bl (decide (i = 3)), V.bl (decide (i = 4)), V.bl (decide (i = 5)), V.bl (decide (i = 6)), V.bl (decide (i = 7)), V.bl (decide (i = 8))] ++ [V.bl (decide (i = 9))])) = H3 at S3 el3 ⊢
    refine ⟨.ref l2, rfl, .ref a, rfl, a, c i, .ref (c 10), .ref (c 10), decide (i = 10), rfl, (er.same S3), Z.ex i hi, .own _, Z.own i 10 hi (by decide), .ref a, rfl, a, c i, .ref (c 11), .ref (c 11), decide (i = 11), rfl, (er.same S3), Z.ex i hi, .own _, Z.own i 11 hi (by decide), .ref a, rfl, a, c i, .ref (c 12), .ref (c 12), decide (i = 12), rfl, (er.same S3), Z.ex i hi, .own _, Z.own i 12 hi (by decide), (by show 3 ≤ sizeLine; decide), fun u4 v4 => ?_⟩
    have su4 := same_upd (o := .lst [V.bl (decide (i = 10)), V.bl (decide (i = 11)), V.bl (decide (i = 12))]) v4
    have eu4 : upd H3 u4 (.lst [V.bl (decide (i = 10)), V.bl (decide (i = 11)), V.bl (decide (i = 12))]) u4 = some (.lst [V.bl (decide (i = 10)), V.bl (decide (i = 11)), V.bl (decide (i = 12))]) := upd_same
    generalize upd H3 u4 (.lst [V.bl (decide (i = 10)), V.bl (decide (i = 11)), V.bl (decide (i = 12))]) = U4 at su4 eu4 ⊢
    refine ⟨l2, u4, _, _, rfl, rfl, su4 _ _ el3, eu4, (by show 13 ≤ sizeLine; decide), fun l4 m4 => ?_⟩
    have x4 : [V.bl (decide (i = 0)), V.bl (decide (i = 1)), V.bl (decide (i = 2)), V.bl (decide (i = 3)), V.bl (decide (i = 4)), V.bl (decide (i = 5)), V.bl (decide (i = 6)), V.bl (decide (i = 7)), V.bl (decide (i = 8)), V.bl (decide (i = 9))] ++ [V.bl (decide (i = 10)), V.bl (decide (i = 11)), V.bl (decide (i = 12))] = [V.bl (decide (i = 0)), V.bl (decide (i = 1)), V.bl (decide (i = 2)), V.bl (decide (i = 3)), V.bl (decide (i = 4)), V.bl (decide (i = 5)), V.bl (decide (i = 6)), V.bl (decide (i = 7)), V.bl (decide (i = 8)), V.bl (decide (i = 9)), V.bl (decide (i = 10)), V.bl (decide (i = 11)), V.bl (decide (i = 12))] := rfl
    rw [x4]
    have sl4 := same_upd (o := .lst [V.bl (decide (i = 0)), V.bl (decide (i = 1)), V.bl (decide (i = 2)), V.bl (decide (i = 3)), V.bl (decide (i = 4)), V.bl (decide (i = 5)), V.bl (decide (i = 6)), V.bl (decide (i = 7)), V.bl (decide (i = 8)), V.bl (decide (i = 9)), V.bl (decide (i = 10)), V.bl (decide (i = 11)), V.bl (decide (i = 12))]) m4
    have el4 : upd U4 l4 (.lst [V.bl (decide (i = 0)), V.bl (decide (i = 1)), V.bl (decide (i = 2)), V.bl (decide (i = 3)), V.bl (decide (i = 4)), V.bl (decide (i = 5)), V.bl (decide (i = 6)), V.bl (decide (i = 7)), V.bl (decide (i = 8)), V.bl (decide (i = 9)), V.bl (decide (i = 10)), V.bl (decide (i = 11)), V.bl (decide (i = 12))]) l4 = some (.lst [V.bl (decide (i = 0)), V.bl (decide (i = 1)), V.bl (decide (i = 2)), V.bl (decide (i = 3)), V.bl (decide (i = 4)), V.bl (decide (i = 5)), V.bl (decide (i = 6)), V.bl (decide (i = 7)), V.bl (decide (i = 8)), V.bl (decide (i = 9)), V.bl (decide (i = 10)), V.bl (decide (i = 11)), V.bl (decide (i = 12))]) := upd_same
    generalize upd U4 l4 (.lst [V.bl (decide (i = 0)), V.bl (decide (i = 1)), V.bl (decide (i = 2)), V.bl (decide (i = 3)), V.bl (decide (i = 4)), V.bl (decide (i = 5)), V.bl (decide (i = 6)), V.bl (decide (i = 7)), V.bl (decide (i = 8)), V.bl (decide (i = 9)), V.bl (decide (i = 10)), V.bl (decide (i = 11)), V.bl (decide (i = 12))]) = H4 at sl4 el4 ⊢
    have S4 := S3.trans (su4.trans sl4)
    refine ⟨.ref l4, rfl, .ref a, rfl, a, c i, .ref (c 13), .ref (c 13), decide (i = 13), rfl, (er.same S4), Z.ex i hi, .own _, Z.own i 13 hi (by decide), .ref a, rfl, a, c i, .ref (c 14), .ref (c 14), decide (i = 14), rfl, (er.same S4), Z.ex i hi, .own _, Z.own i 14 hi (by decide), (by show 2 ≤ sizeLine; decide), fun u5 v5 => ?_⟩
    have su5 := same_upd (o := .lst [V.bl (decide (i = 13)), V.bl (decide (i = 14))]) v5
    have eu5 : upd H4 u5 (.lst [V.bl (decide (i = 13)), V.bl (decide (i = 14))]) u5 = some (.lst [V.bl (decide (i = 13)), V.bl (decide (i = 14))]) := upd_same
    generalize upd H4 u5 (.lst [V.bl (decide (i = 13)), V.bl (decide (i = 14))]) = U5 at su5 eu5 ⊢
    refine ⟨l4, u5, _, _, rfl, rfl, su5 _ _ el4, eu5, (by show 15 ≤ sizeLine; decide), fun l5 m5 => ?_⟩
    exact q _ l5 (S4.trans (su5.trans (same_upd m5))) ((S4.trans su5).free m5) upd_same
theorem scUnder : FnScope ["_law_error", "_law_found"] ["_law_error"] (defScope sUnder) := ⟨rfl, rfl, rfl, by decide +kernel, rfl, by decide +kernel, by decide +kernel⟩
theorem ok_under {f : Addr} {fd : FuncData} {k : Nat} (F : Fun K "_law_under" "_law_under" sUnder f fd) (T : TxtN mg) (Z : C15 K mg c HE fW fN) : FnOk P w K mg base CX0 (k + 1) f fd ["_law_error"] (spTold c under) := by
  refine F.ok scUnder (fun vs H Q E h => ?_) (fun cdv A outer s H vs Q E hr h => ?_)
  · obtain ⟨i, a, rfl, _⟩ := h
    rfl
  · obtain ⟨i, a, rfl, hi, er, q⟩ := h
    have nd := scUnder.nd
    refine ⟨_, (pss_cons (ps_set (i := 1) nd rfl (.inl rfl) (pe_lst (pa_cons (pe_callB call_isEr (by rfl) T.isi (by decide +kernel) (pa_cons (pv 0) (pa_cons (pe_glob (v := .ref HE) (by rfl) Z.gHE rfl) pa_nil))) (pa_cons (pe_callB call_isEr (by rfl) T.isi (by decide +kernel) (pa_cons (pv 0) (pa_cons (pe_bltn (v := .ty "ValueError") (by rfl) T.ve (by decide +kernel) rfl) pa_nil))) (pa_cons (pe_callB call_isEr (by rfl) T.isi (by decide +kernel) (pa_cons (pv 0) (pa_cons (pe_bltn (v := .ty "ZeroDivisionError") (by rfl) T.ze (by decide +kernel) rfl) pa_nil))) pa_nil))))) (pss_one (ps_ret (pe_op op_cat (pv 1) (pe_lst (pa_cons (pe_callB call_isEr (by rfl) T.isi (by decide +kernel) (pa_cons (pv 0) (pa_cons (pe_bltn (v := .ty "IndexError") (by rfl) T.ie (by decide +kernel) rfl) pa_nil))) (pa_cons (pe_callB call_isEr (by rfl) T.isi (by decide +kernel) (pa_cons (pv 0) (pa_cons (pe_bltn (v := .ty "KeyError") (by rfl) T.ke (by decide +kernel) rfl) pa_nil))) pa_nil))))))), ?_⟩
    refine ⟨.ref a, rfl, a, c i, .ref HE, .ref HE, decide (i < 12), rfl, er, Z.ex i hi, .own _, Z.he i hi, .ref a, rfl, a, c i, .ty "ValueError", .type "ValueError", decide (i < 12), rfl, er, Z.ex i hi, .ty _, Z.ve i hi, .ref a, rfl, a, c i, .ty "ZeroDivisionError", .type "ZeroDivisionError", decide (i = 12), rfl, er, Z.ex i hi, .ty _, Z.ze i hi, (by show 3 ≤ sizeLine; decide), fun l0 m0 => ?_⟩
    have sl0 := same_upd (o := .lst [V.bl (decide (i < 12)), V.bl (decide (i < 12)), V.bl (decide (i = 12))]) m0
    have el0 : upd H l0 (.lst [V.bl (decide (i < 12)), V.bl (decide (i < 12)), V.bl (decide (i = 12))]) l0 = some (.lst [V.bl (decide (i < 12)), V.bl (decide (i < 12)), V.bl (decide (i = 12))]) := upd_same
    generalize upd H l0 (.lst [V.bl (decide (i < 12)), V.bl (decide (i < 12)), V.bl (decide (i = 12))]) = H0 at sl0 el0 ⊢
    refine ⟨.ref l0, rfl, .ref a, rfl, a, c i, .ty "IndexError", .type "IndexError", decide (i = 13), rfl, (er.same sl0), Z.ex i hi, .ty _, Z.ie i hi, .ref a, rfl, a, c i, .ty "KeyError", .type "KeyError", decide (i = 14), rfl, (er.same sl0), Z.ex i hi, .ty _, Z.ke i hi, (by show 2 ≤ sizeLine; decide), fun u1 v1 => ?_⟩
    have su1 := same_upd (o := .lst [V.bl (decide (i = 13)), V.bl (decide (i = 14))]) v1
    refine ⟨l0, u1, _, _, rfl, rfl, su1 _ _ el0, upd_same, (by show 5 ≤ sizeLine; decide), fun l1 m1 => ?_⟩
    exact q _ l1 (sl0.trans (su1.trans (same_upd m1))) ((sl0.trans su1).free m1) upd_same
def spDue : Sp := fun vs H Q _ => ∃ i : Nat, vs = [.int i] ∧ i < 15 ∧ ∀ H' p, Same H H' → H p = none → H' p = some (.lst ((under i).map V.bl)) → Q (.ref p) H'
theorem scDue : FnScope ["_law_which"] ["_law_which"] (defScope sDue) := ⟨rfl, rfl, rfl, by decide +kernel, rfl, by decide +kernel, by decide +kernel⟩
theorem ok_due {f : Addr} {fd : FuncData} {k : Nat} (F : Fun K "_law_due" "_law_due" sDue f fd) : FnOk P w K mg base CX0 (k + 1) f fd ["_law_which"] spDue := by
  refine F.ok scDue (fun vs H Q E h => ?_) (fun cdv A outer s H vs Q E hr h => ?_)
  · obtain ⟨i, rfl, _⟩ := h
    rfl
  · obtain ⟨i, rfl, hi, q⟩ := h
    refine ⟨_, (pss_cons (ps_if (pt_cmpR op_lt (pv 0) pe_int (nomark _)) (pss_one (ps_ret (pe_lst (pa_cons pe_bl (pa_cons pe_bl (pa_cons pe_bl (pa_cons pe_bl (pa_cons pe_bl pa_nil)))))))) pss_nil) (pss_one (ps_ret (pe_lst (pa_cons pe_bl (pa_cons pe_bl (pa_cons (pe_cmpR op_eq (pv 0) pe_int (nomark _)) (pa_cons (pe_cmpR op_eq (pv 0) pe_int (nomark _)) (pa_cons (pe_cmpR op_eq (pv 0) pe_int (nomark _)) pa_nil))))))))), ?_⟩
    have eqi : ∀ m : Nat, decide (V.int (i : Int) = V.int (m : Int)) = decide (i = m) := fun m => by
      by_cases h : i = m
      · subst h
        simp
      · rw [decide_eq_false h, decide_eq_false]
        intro z
        exact h (by have := V.int.inj z; omega)
    refine ⟨.int i, rfl, i, 12, rfl, rfl, _, rfl, ite2 (fun h => ?_) (fun h => ?_)⟩
    · have h := of_decide_eq_true h
      refine ⟨(by show 5 ≤ sizeLine; decide), fun p np => q _ p (same_upd np) np ?_⟩
      rw [upd_same]
      unfold under
      rw [decide_eq_true (show i < 12 by omega), decide_eq_false (show ¬ i = 12 by omega), decide_eq_false (show ¬ i = 13 by omega), decide_eq_false (show ¬ i = 14 by omega)]
      rfl
    have h12 : ¬ (i : Int) < 12 := fun z => h (decide_eq_true z)
    refine ⟨.int i, rfl, rfl, .int i, rfl, rfl, .int i, rfl, rfl, (by show 5 ≤ sizeLine; decide), fun p np => q _ p (same_upd np) np ?_⟩
    rw [upd_same]
    unfold under
    rw [decide_eq_false (show ¬ i < 12 by omega), ← eqi 12, ← eqi 13, ← eqi 14]
    rfl
end
end Hop

set_option Elab.async false
set_option linter.all false
set_option maxRecDepth 100000
namespace HopR
open PySem L2
/-! ### texts by their codes -/
def rt (cs : List Nat) : Str := ⟨cs.toArray⟩
def one (c : Nat) : Str := ⟨#[c]⟩
theorem rt_list (cs : List Nat) : (rt cs).cps.toList = cs := by simp [rt]
theorem rt_len (cs : List Nat) : (rt cs).length = cs.length := by
  show cs.toArray.size = cs.length
  simp
theorem rt_of (z : Str) : rt z.cps.toList = z := ext_str (rt_list _)
theorem rt_inj {a b : List Nat} (h : rt a = rt b) : a = b := by
  have := congrArg (fun q : Str => q.cps.toList) h
  simpa only [rt_list] using this
theorem rt_app (a b : List Nat) : rt a ++ rt b = rt (a ++ b) := by
  apply ext_str
  rw [rt_list]
  show ((rt a).cps ++ (rt b).cps).toList = a ++ b
  rw [Array.toList_append, rt_list, rt_list]
theorem rt_fit {cs : List Nat} (h : cs.length ≤ 10000) : (rt cs).length ≤ sizeLine := by
  rw [rt_len]
  exact fit h
theorem sg_rt (cs : List Nat) : sg (rt cs) = cs.map one := by
  unfold sg
  rw [rt_list]
  rfl
theorem join_rt (cs : List Nat) : Txt.join "" (cs.map one) = rt cs := by
  apply ext_str
  rw [join0_list, List.map_map, rt_list]
  induction cs with
  | nil => rfl
  | cons b r ih =>
    rw [List.map_cons, List.flatten_cons, ih]
    rfl
theorem ones_sum : ∀ cs : List Nat, ((cs.map one).map (·.length)).sum = cs.length
  | [] => rfl
  | c :: r => by
    rw [List.map_cons, List.map_cons, List.sum_cons, ones_sum r]
    show 1 + r.length = r.length + 1
    omega
theorem join_rt_fits {cs : List Nat} (h : cs.length ≤ 1000) : ((cs.map one).map (·.length)).sum + (cs.map one).length * ("" : Str).length ≤ 16777216 := by
  have e : ("" : Str).length = 0 := by decide +kernel
  rw [ones_sum, e, Nat.mul_zero]
  omega
theorem cut_rt (cs : List Nat) (lo hi : Option Int) : cutS (rt cs) lo hi = rt ((cs.drop (HT.sIx cs.length 0 lo)).take (HT.sIx cs.length cs.length hi - HT.sIx cs.length 0 lo)) := by
  apply ext_str
  unfold cutS
  rw [rt_len, rt_list, rt_list]
theorem cut_rt_to (cs : List Nat) (k : Nat) : cutS (rt cs) none (some (k : Int)) = rt (cs.take k) := by
  rw [cut_rt, HT.sIx_none, HT.sIx_nat, List.drop_zero, Nat.sub_zero]
  by_cases h : k ≤ cs.length
  · rw [Nat.min_eq_left h]
  · rw [Nat.min_eq_right (by omega), List.take_length, List.take_of_length_le (by omega)]
theorem cut_rt_from (cs : List Nat) (k : Nat) : cutS (rt cs) (some (k : Int)) none = rt (cs.drop k) := by
  rw [cut_rt, HT.sIx_none, HT.sIx_nat]
  by_cases h : k ≤ cs.length
  · rw [Nat.min_eq_left h, List.take_of_length_le (by rw [List.length_drop]; exact Nat.le_refl _)]
  · rw [Nat.min_eq_right (by omega), List.drop_length, List.drop_of_length_le (by omega), List.take_nil]
theorem one_inj {a b : Nat} (h : one a = one b) : a = b := by
  have := congrArg (fun q : Str => q.cps.toList) h
  exact (List.cons.inj this).1
theorem one_eq (a b : Nat) : (one a == one b) = decide (a = b) := by
  by_cases h : a = b
  · subst h
    simp
  · rw [decide_eq_false h]
    have : ¬ (one a = one b) := fun z => h (one_inj z)
    simp [this]
/-! ### signs in a written dict -/
theorem find_key (c : Nat) : ∀ (ts : List Nat) (L : List DictEntry), L.map (fun e => keyText e.key) = ts.map (fun q => some (one q)) → (L.find? (·.key.isStr (one c))).isSome = decide (c ∈ ts) ∧ L.any (·.refKey) = false
  | [], [], _ => ⟨by simp, rfl⟩
  | [], e :: r, h => by simp at h
  | q :: ts, [], h => by simp at h
  | q :: ts, e :: r, h => by
    rw [List.map_cons, List.map_cons] at h
    obtain ⟨h1, h2⟩ := List.cons.inj h
    obtain ⟨t, hk⟩ := keyText_str h1
    obtain ⟨i1, i2⟩ := find_key c ts r h2
    have e1 : e.key.isStr (one c) = decide (q = c) := by
      rw [hk]
      exact one_eq q c
    refine ⟨?_, ?_⟩
    · rw [List.find?_cons, e1]
      by_cases hq : q = c
      · rw [decide_eq_true hq]
        simp [hq]
      · rw [decide_eq_false hq]
        show (r.find? (·.key.isStr (one c))).isSome = _
        rw [i1]
        have : ¬ c = q := fun z => hq z.symm
        simp [this]
    · rw [List.any_cons, i2, Bool.or_false]
      unfold DictEntry.refKey
      rw [hk]
theorem key_in {K : PySem.W.Frag} {d : Addr} {es : Array DictEntry} {n : Nat} {ts : List Nat} (l : K.lookup d = some ⟨.type "dict", none, .dict es n, #[]⟩) (hk : es.toList.map (fun e => keyText e.key) = ts.map (fun q => some (one q))) (c : Nat) :
    ∃ r, PySem.W.nsIn K d (one c) = some r ∧ r.isSome = decide (c ∈ ts) := by
  obtain ⟨h1, h2⟩ := find_key c ts es.toList hk
  unfold PySem.W.nsIn
  rw [l]
  simp only
  cases hf : es.toList.find? (·.key.isStr (one c)) with
  | some e =>
    rw [hf] at h1
    exact ⟨_, rfl, h1⟩
  | none =>
    rw [hf] at h1
    simp only [h2]
    exact ⟨_, rfl, h1⟩
/-! ### rings -/
def okr (c : Nat) : Bool := decide (c ∈ [97, 98, 46])
def isRingB (z : Str) : Bool := decide (2 ≤ z.length) && (decide (z.length ≤ 12) && z.cps.toList.all okr)
/-- whether x is a ring -/
def RingB (K : PySem.W.Frag) (H : Hp) (x : V) (b : Bool) : Prop := (NoTxt K H x ∧ b = false) ∨ ∃ z : Str, x = .str z ∧ z.length ≤ 10000 ∧ b = isRingB z
theorem ringB_same {K : PySem.W.Frag} {H H' : Hp} {x : V} {b : Bool} (s : Same H H') (h : RingB K H x b) : RingB K H' x b := h.imp (fun ⟨q, e⟩ => ⟨notxt_same s q, e⟩) id
/-- a ring by its codes -/
structure Rg (cs : List Nat) : Prop where
  lo : 2 ≤ cs.length
  hi : cs.length ≤ 12
  ok : ∀ c ∈ cs, c ∈ [97, 98, 46]
theorem Rg.isB {cs : List Nat} (h : Rg cs) : isRingB (rt cs) = true := by
  unfold isRingB
  rw [rt_len, rt_list, decide_eq_true h.lo, decide_eq_true h.hi]
  show cs.all okr = true
  rw [List.all_eq_true]
  exact fun c hc => decide_eq_true (h.ok c hc)
/-- how far above the others a sign stands -/
def rk (c : Nat) : Nat := if c = 97 then 2 else if c = 98 then 1 else 0
def nxt (cs : List Nat) (i : Nat) : Nat := (i + 1) % cs.length
theorem nxt_lt {cs : List Nat} (h : Rg cs) (i : Nat) : nxt cs i < cs.length := Nat.mod_lt _ (Nat.lt_of_lt_of_le (by decide) h.lo)
/-- the signs at a place and at the next one exchanged -/
def swp (cs : List Nat) (i : Nat) : List Nat := (cs.set i (cs.getD (nxt cs i) 0)).set (nxt cs i) (cs.getD i 0)
theorem swp_len (cs : List Nat) (i : Nat) : (swp cs i).length = cs.length := by
  unfold swp
  rw [List.length_set, List.length_set]
def ups (cs : List Nat) (i : Nat) : Bool := decide (rk (cs.getD (nxt cs i) 0) < rk (cs.getD i 0))
def rchg (cs : List Nat) (m : Nat) : List Nat := (List.range m).filter (ups cs)
theorem rchg_succ (cs : List Nat) (i : Nat) : rchg cs (i + 1) = rchg cs i ++ (if ups cs i then [i] else []) := by
  unfold rchg
  rw [List.range_succ, List.filter_append]
  congr 1
  cases h : ups cs i with
  | true => simp [h]
  | false => simp [h]
theorem rchg_few (cs : List Nat) (m : Nat) : (rchg cs m).length ≤ m := by
  refine Nat.le_trans (List.length_filter_le _ _) ?_
  rw [List.length_range]
  exact Nat.le_refl _
/-- the data of the changes -/
def dchg (cs : List Nat) (ks : List Nat) : List PyData := ks.map fun (k : Nat) => PyData.tuple [.int (k : Int), .str (rt (swp cs k))]
/-- a list of tuples (place, ring) -/
def Tups (H : Hp) (cs : List Nat) : List Nat → List V → Prop
  | [], vs => vs = []
  | k :: r, vs => ∃ p vr, vs = .ref p :: vr ∧ H p = some (.tup [.int (k : Int), .str (rt (swp cs k))]) ∧ Tups H cs r vr
theorem tups_same {H H' : Hp} {cs : List Nat} (s : Same H H') : ∀ {ks : List Nat} {vs : List V}, Tups H cs ks vs → Tups H' cs ks vs
  | [], _, h => h
  | k :: r, _, ⟨p, vr, e, h1, h2⟩ => ⟨p, vr, e, s _ _ h1, tups_same s h2⟩
theorem tups_add {H : Hp} {cs : List Nat} {k : Nat} {p : Addr} (h1 : H p = some (.tup [.int (k : Int), .str (rt (swp cs k))])) : ∀ {ks : List Nat} {vs : List V}, Tups H cs ks vs → Tups H cs (ks ++ [k]) (vs ++ [.ref p])
  | [], _, h => by
    cases h
    exact ⟨p, [], rfl, h1, rfl⟩
  | q :: r, _, ⟨p', vr, e, h2, h3⟩ => ⟨p', vr ++ [.ref p], by rw [e]; rfl, h2, tups_add h1 h3⟩
theorem tups_upd {H : Hp} {cs : List Nat} {D : Addr} {xs : List V} {o : HO} (hD : H D = some (.lst xs)) : ∀ {ks : List Nat} {vs : List V}, Tups H cs ks vs → Tups (upd H D o) cs ks vs
  | [], _, h => h
  | k :: r, _, ⟨p, vr, e, h1, h2⟩ => ⟨p, vr, e, by
      rw [upd_ne (fun z => by rw [z, hD] at h1; cases h1)]
      exact h1, tups_upd hD h2⟩
theorem tups_len {H : Hp} {cs : List Nat} : ∀ {ks : List Nat} {vs : List V}, Tups H cs ks vs → vs.length = ks.length
  | [], _, h => by
    cases h
    rfl
  | k :: r, _, ⟨p, vr, e, _, h2⟩ => by
    rw [e, List.length_cons, List.length_cons, tups_len h2]
theorem tups_dp {K : PySem.W.Frag} {H : Hp} {cs : List Nat} : ∀ {ks : List Nat} {vs : List V}, Tups H cs ks vs → DpAll K H vs (dchg cs ks)
  | [], _, h => by
    cases h
    exact .nil
  | k :: r, _, ⟨p, vr, e, h1, h2⟩ => by
    rw [e]
    exact .cons (.tup (SqT.of h1) (.cons (.int _) (.cons (.str _) .nil))) (tups_dp h2)
theorem getD_small {cs : List Nat} (h : Rg cs) (i : Nat) : cs.getD i 0 < 1114112 := by
  rw [List.getD_eq_getElem?_getD]
  cases e : cs[i]? with
  | none => show 0 < 1114112; decide
  | some c =>
    have := h.ok c (List.mem_of_getElem? e)
    simp only [List.mem_cons, List.not_mem_nil, or_false] at this
    show c < 1114112
    omega
theorem strOk_swp {cs : List Nat} (h : Rg cs) (i : Nat) : PyData.strOk (rt (swp cs i)) = true := by
  unfold PyData.strOk
  rw [← Array.all_toList, rt_list, List.all_eq_true]
  intro c hc
  refine decide_eq_true ?_
  unfold swp at hc
  rcases List.mem_or_eq_of_mem_set hc with h1 | rfl
  · rcases List.mem_or_eq_of_mem_set h1 with h2 | rfl
    · have := h.ok c h2
      simp only [List.mem_cons, List.not_mem_nil, or_false] at this
      omega
    · exact getD_small h _
  · exact getD_small h _
theorem lay_dchg {cs : List Nat} (h : Rg cs) : ∀ ks : List Nat, PyData.canLayAll0 (dchg cs ks) = true
  | [] => rfl
  | k :: r => by
    show PyData.canLayAll0 (.tuple [.int (k : Int), .str (rt (swp cs k))] :: dchg cs r) = true
    simp only [PyData.canLayAll0, lay_dchg h r, Bool.and_true, PyData.canLay0, strOk_swp h]
theorem deep_dchg (cs : List Nat) : ∀ ks : List Nat, PyData.depthAll (dchg cs ks) ≤ 1
  | [] => by show 0 ≤ 1; decide
  | k :: r => by
    show PyData.depthAll (.tuple [.int (k : Int), .str (rt (swp cs k))] :: dchg cs r) ≤ 1
    have := deep_dchg cs r
    simp only [PyData.depthAll, PyData.depth]
    omega
theorem shaped_dchg {cs : List Nat} (h : Rg cs) (ks : List Nat) : SeqAt.shaped (.list (dchg cs ks)) = true := by
  unfold SeqAt.shaped
  rw [Bool.and_eq_true]
  refine ⟨?_, decide_eq_true ?_⟩
  · simp only [PyData.canLay0, lay_dchg h]
  · have := deep_dchg cs ks
    simp only [PyData.depth]
    omega
theorem eqv_dchg {cs : List Nat} (h : Rg cs) (ks : List Nat) : PyData.eqv (.list (dchg cs ks)) (.list (dchg cs ks)) = true := PySem.SeqAt.eqv_refl _ (by simp only [PyData.canLay0, lay_dchg h])
end HopR

set_option Elab.async false
set_option linter.all false
set_option maxRecDepth 100000
namespace HopR
open PySem PySem.Spec PyProof.Rows L2
section
variable {X : Cx}
/-- tuple(text) -/
def rTupT : List V → Hp → VK → Prop := fun vs H Q => ∃ z : Str, vs = [.str z] ∧ z.length ≤ sizeLine ∧ ∀ p : Addr, H p = none → Q (.ref p) (upd H p (.tup ((sg z).map V.str)))
theorem cr_tupT (hcm : X.calm = true) : CallR X (.type "tuple") rTupT := by
  rintro pins s σ H _ us Q I r ⟨z, rfl, hz, q⟩
  obtain ⟨_, rfl, t, rfl⟩ := vals1 r
  refine call_tuple_str (I.ok.hd hcm) z t (fun h' tk acc old items => ?_) hz
  have after : Inv X pins σ H { s with heap := h', toks := tk } := I.kept old
  refine ⟨.ref h'.objs.size, _, after.laid (t' := tk) (fun b o e => Heap.get?_push_of_some _ e) (Nat.le_refl _) ?_, rfl, q _ (after.hok.fresh (Nat.le_refl _))⟩
  refine ⟨by rw [List.length_map, sg_len]; exact hz, acc.toList, vals_of_strs (signs_are items), ?_⟩
  rw [Array.toArray_toList]
  exact IsTup.new _ _
end
/-! ### lists of whole numbers as data -/
def dis (zs : List Int) : List PyData := zs.map PyData.int
theorem dp_ints {K : PySem.W.Frag} {H : Hp} : ∀ zs : List Int, DpAll K H (zs.map V.int) (dis zs)
  | [] => .nil
  | z :: r => .cons (.int z) (dp_ints r)
theorem lay_ints : ∀ zs : List Int, PyData.canLayAll0 (dis zs) = true
  | [] => rfl
  | z :: r => by
    show PyData.canLayAll0 (.int z :: dis r) = true
    simp only [PyData.canLayAll0, lay_ints r, Bool.and_true]
    rfl
theorem deep_ints : ∀ zs : List Int, PyData.depthAll (dis zs) = 0
  | [] => rfl
  | z :: r => by
    show PyData.depthAll (.int z :: dis r) = 0
    simp only [PyData.depthAll, deep_ints r]
    rfl
theorem shaped_zs (zs : List Int) : SeqAt.shaped (.list (dis zs)) = true := by
  unfold SeqAt.shaped
  rw [Bool.and_eq_true]
  refine ⟨?_, decide_eq_true ?_⟩
  · simp only [PyData.canLay0, lay_ints]
  · simp only [PyData.depth, deep_ints]
    decide
theorem cut_ints (ns : List Int) (hi : Int) (hl : ns.length ≤ 63) : ∃ zs : List Int, cutV (ns.map V.int) none (some hi) = zs.map V.int ∧ zs.length ≤ 63 := by
  unfold cutV
  refine ⟨(ns.drop (HT.sIx (ns.map V.int).length 0 none)).take (HT.sIx (ns.map V.int).length (ns.map V.int).length (some hi) - HT.sIx (ns.map V.int).length 0 none), by rw [List.map_take, List.map_drop], ?_⟩
  rw [List.length_take, List.length_drop]
  omega
end HopR

set_option Elab.async false
set_option linter.all false
set_option maxRecDepth 100000
set_option exponentiation.threshold 200000
namespace Hop
open PySem L2 HopR
/-- y is data that repr tells as z, now and later -/
def Shown (K : PySem.W.Frag) (H : Hp) (y : V) (z : Str) : Prop := ∀ H', Same H H' → ∃ d, Dp K H' y d ∧ d.showable = true ∧ d.hasDict = false ∧ d.depth ≤ 64 ∧ d.shown.length ≤ sizeLine ∧ d.shown = z
theorem Shown.same {K : PySem.W.Frag} {H H' : Hp} {y : V} {z : Str} (s : Same H H') (h : Shown K H y z) : Shown K H' y z := fun H2 s2 => h H2 (s.trans s2)
theorem shown_non {K : PySem.W.Frag} {H : Hp} : ∃ z, Shown K H .non z := ⟨_, fun _ _ => ⟨.none, .non, rfl, rfl, by decide, by decide +kernel, rfl⟩⟩
theorem shown_bl {K : PySem.W.Frag} {H : Hp} {b : Bool} : ∃ z, Shown K H (.bl b) z := ⟨_, fun _ _ => ⟨.bool b, .bl b, rfl, rfl, (by show 0 ≤ 64; decide), (by cases b <;> decide +kernel), rfl⟩⟩
theorem shown_int {K : PySem.W.Frag} {H : Hp} {i : Int} (h : i.natAbs < 1000000000000) : ∃ z, Shown K H (.int i) z := by
  have o : Okd (.int i) 0 41 := Okd.int h
  exact ⟨_, fun _ _ => ⟨.int i, .int i, o.sh, o.nd, Nat.le_trans o.dp (by decide), o.fits (by decide), rfl⟩⟩
theorem shown_ws {K : PySem.W.Frag} {H : Hp} {m : Nat} (h : m < 10) : ∃ z, Shown K H (.str (repS "w" m)) z := by
  have key : (PyData.str (repS "w" m)).showable = true ∧ (PyData.str (repS "w" m)).shown.length ≤ sizeLine := by
    rcases (show m = 0 ∨ m = 1 ∨ m = 2 ∨ m = 3 ∨ m = 4 ∨ m = 5 ∨ m = 6 ∨ m = 7 ∨ m = 8 ∨ m = 9 by omega) with rfl | rfl | rfl | rfl | rfl | rfl | rfl | rfl | rfl | rfl <;> decide +kernel
  exact ⟨_, fun _ _ => ⟨.str _, .str _, key.1, rfl, (by show 0 ≤ 64; decide), key.2, rfl⟩⟩
theorem shown_one {K : PySem.W.Frag} {H : Hp} {p : Addr} {i : Int} (h : i.natAbs < 1000000000000) (e : H p = some (.lst [.int i])) : ∃ z, Shown K H (.ref p) z := by
  have o : Okd (.list [.int i]) 1 42 := (Okds.cons (Okd.int (k := 0) h) Okds.nil).list
  exact ⟨_, fun H' s => ⟨.list [.int i], .lst (SqL.of (s _ _ e)) (.cons (.int i) .nil), o.sh, o.nd, Nat.le_trans o.dp (by decide), o.fits (by decide), rfl⟩⟩
theorem shown_two {K : PySem.W.Frag} {H : Hp} {p : Addr} {i j : Int} (hi : i.natAbs < 1000000000000) (hj : j.natAbs < 1000000000000) (e : H p = some (.tup [.int i, .int j])) : ∃ z, Shown K H (.ref p) z := by
  have o : Okd (.tuple [.int i, .int j]) 1 84 := (Okds.cons (Okd.int (k := 0) hi) (Okds.cons (Okd.int (k := 0) hj) Okds.nil)).tuple
  exact ⟨_, fun H' s => ⟨.tuple [.int i, .int j], .tup (SqT.of (s _ _ e)) (.cons (.int i) (.cons (.int j) .nil)), o.sh, o.nd, Nat.le_trans o.dp (by decide), o.fits (by decide), rfl⟩⟩
theorem dp_bools {K : PySem.W.Frag} {H : Hp} : ∀ ks : List Bool, DpAll K H (ks.map V.bl) (ks.map PyData.bool)
  | [] => .nil
  | k :: ks => .cons (.bl k) (dp_bools ks)
/-- as many truths: they are the same list -/
theorem same_kinds : ∀ i < 15, SeqAt.shaped (.list ((kinds i).map PyData.bool)) = true ∧ PyData.eqv (.list ((kinds i).map PyData.bool)) (.list ((kinds i).map PyData.bool)) = true := by decide +kernel
theorem same_under : ∀ i < 15, SeqAt.shaped (.list ((under i).map PyData.bool)) = true ∧ PyData.eqv (.list ((under i).map PyData.bool)) (.list ((under i).map PyData.bool)) = true := by decide +kernel
abbrev nRi : List Str := ["_law_which", "_law_thing", "_law_error", "_law_k"]
theorem scRight : FnScope nRi ["_law_which", "_law_thing"] (defScope sRight) := ⟨rfl, rfl, rfl, by decide +kernel, rfl, by decide +kernel, by decide +kernel⟩
structure DJ (K : PySem.W.Frag) (mg : Str → Option Value) (fW fN : Addr) (gW gN : FuncData) (a1 a2 a3 a4 a5 a6 a7 : Addr) (b1 b2 b3 b4 b5 b6 b7 : FuncData) : Prop where
  w : Fn K mg "_law_drawn" sDrawn ["_law_cell", "_law_sizes"] a1 b1
  p : Fn K mg "_law_plain" sPlain ["_law_which"] a2 b2
  m : Fn K mg "_law_made" sMade ["_law_which", "_law_thing"] a3 b3
  k : Fn K mg "_law_kinds" sKinds ["_law_error"] a4 b4
  u : Fn K mg "_law_under" sUnder ["_law_error"] a5 b5
  d : Fn K mg "_law_due" sDue ["_law_which"] a6 b6
  r : Fn K mg "_law_right" sRight ["_law_which", "_law_thing"] a7 b7
  FW : Fun K "__init__" "NoWall.__init__" sInit fW gW
  bW : Binds K gW ["self", "wall"] []
  FN : Fun K "__init__" "NoName.__init__" sInitN fN gN
  bN : Binds K gN ["self", "name"] []
section
variable {P : Program} {w : World} {K : PySem.W.Frag} {mg : Str → Option Value} {base : Heap} {c : Nat → Addr} {HE fW fN : Addr} {gW gN : FuncData}
variable {a1 a2 a3 a4 a5 a6 a7 : Addr} {b1 b2 b3 b4 b5 b6 b7 : FuncData}
theorem scDrawn : FnScope ["_law_cell", "_law_sizes", "_law_found", "_law_left", "_law_k", "_law_small", "_law_one", "_law_two"] ["_law_cell", "_law_sizes"] (defScope sDrawn) := ⟨rfl, rfl, rfl, by decide +kernel, rfl, by decide +kernel, by decide +kernel⟩
theorem ok_drawn {f : Addr} {fd : FuncData} {k : Nat} (F : Fun K "_law_drawn" "_law_drawn" sDrawn f fd) (mL : mg "len" = none) (mR : mg "range" = none) : FnOk P w K mg base CX0 (k + 1) f fd ["_law_cell", "_law_sizes"] (spDrawn K) := by
  refine F.ok scDrawn (fun vs H Q E h => ?_) (fun cdv A outer s H vs Q E hr h => ?_)
  · obtain ⟨c, a, zs, rfl, _⟩ := h
    rfl
  · obtain ⟨c, a, zs, rfl, hS, hz, hlen, q⟩ := h
    have nd := scDrawn.nd
    refine ⟨_, pss_cons (ps_set (i := 2) nd rfl (.inl rfl) (pe_lst pa_nil))
      (pss_cons (ps_set (i := 3) nd rfl (.inl rfl) (pv 0))
      (pss_cons (ps_for PassesOwn.never rfl (pi_range1 (by rfl) mR (pa_cons (pe_callB call_len_seq (by rfl) mL PySem.boot_len (pa_cons (pv 1) pa_nil)) pa_nil)) (pg_name (i := 4) nd rfl (.inl rfl))
        (pss_one (ps_if (pt_cmpR op_ge (pv 3) (pe_op op_pow pe_int pe_int) (nomark _))
          (pss_cons (ps_expr (pe_bm PySem.F.plainAttrs_list PySem.F.slot_list_append PySem.F.type_list_append mt_append (pv 2) (pa_cons (pe_op op_mod (pv 3) (pe_ix ix_list (pv 1) (pv 4) (fun _ _ => rfl))) pa_nil)))
            (pss_one (ps_set (i := 3) nd rfl (.inl rfl) (pe_op op_fdivW (pv 3) (pe_ix ix_list (pv 1) (pv 4) (fun _ _ => rfl))))))
          (pss_cons (ps_set (i := 5) nd rfl (.inl rfl) (pe_op op_mod (pv 3) (pe_op op_pow pe_int pe_int)))
          (pss_cons (ps_set (i := 6) nd rfl (.inl rfl) (pe_op op_mod (pe_op op_mul (pe_op op_add (pe_op op_add (pv 5) (pe_op op_mul pe_int (pv 4))) pe_int) (pe_op op_add pe_int (pe_op op_mul (pe_op op_mul pe_int (pv 4)) (pv 4)))) pe_int))
          (pss_cons (ps_set (i := 7) nd rfl (.inl rfl) (pe_op op_mod (pe_op op_mul (pe_op op_add (pe_op op_add (pe_op op_fdiv (pv 5) pe_int) (pe_op op_mul pe_int (pv 4))) pe_int) (pe_op op_add pe_int (pe_op op_mul pe_int (pv 4)))) pe_int))
          (pss_one (ps_expr (pe_bm PySem.F.plainAttrs_list PySem.F.slot_list_append PySem.F.type_list_append mt_append (pv 2) (pa_cons (pe_op op_mod (pe_op op_add (pe_op op_mul (pv 6) (pv 7)) (pe_op op_fdiv (pv 6) pe_int)) (pe_ix ix_list (pv 1) (pv 4) (fun _ _ => rfl))) pa_nil))))))))))
      (pss_one (ps_ret (pv 2))))), ?_⟩
    -- found = []; left = cell
    refine ⟨Nat.zero_le _, fun o no => ?_⟩
    have s1 : Same H (upd H o (.lst [])) := same_upd no
    refine ⟨.int c, rfl, .ref a, rfl, a, zs.map V.int, rfl, .inl (s1.seq hS), ((zs.map V.int).length : Int), rfl, by omega, (by rw [List.length_map]; omega), ?_⟩
    refine for_range (lo := 0) (n := zs.length) (fun i σ H3 => ∃ (l : Int) (y4 y5 y6 y7 : Option V) (ds : List Int), σ = [some (.int c), some (.ref a), some (.ref o), some (.int l), y4, y5, y6, y7] ∧
        Same H H3 ∧ H3 o = some (.lst (ds.map V.int)) ∧ ds.length = i ∧ ds ++ draws l i (zs.drop i) = draws c 0 zs)
      ⟨c, none, none, none, none, [], rfl, s1, upd_same, rfl, by simp⟩ ?_ ?_ |> (fun h => by rw [List.length_map]; exact h)
    · rintro i σ H3 hi ⟨l, y4, y5, y6, y7, ds, rfl, sm, eo, el, ed⟩
      have hA : SqL K H3 a (zs.map V.int) := sm.seq hS
      have hz1 := hz zs[i] (List.getElem_mem hi)
      have gz : zs[i]? = some zs[i] := List.getElem?_eq_getElem hi
      have g : atI (zs.map V.int) (i : Int) = some (.int zs[i]) := atI_nat (by rw [List.getElem?_map, gz]; rfl)
      have hd : zs.drop i = zs[i] :: zs.drop (i + 1) := List.drop_eq_getElem_cons hi
      rw [hd] at ed
      have ed' : (ds ++ [dval l i zs[i]]) ++ draws (dleft l zs[i]) (i + 1) (zs.drop (i + 1)) = draws c 0 zs := by
        rw [List.append_assoc]
        exact ed
      have small : (ds.map V.int).length < sizeLine := by
        rw [List.length_map]
        exact small1000 (by omega)
      rw [Int.zero_add]
      refine ⟨.int l, rfl, 10, 18, rfl, rfl, ⟨by decide, by decide, by decide⟩, l, 10 ^ 18, rfl, rfl, _, rfl, ite2 (fun e => ?_) (fun e => ?_)⟩
      · have e : (1000000000000000000 : Int) ≤ l := of_decide_eq_true e
        refine ⟨.ref o, rfl, .inl ⟨rfl, _, SqL.of eo⟩, .int l, rfl, .ref a, rfl, .int (i : Int), rfl, a, _, _, _, rfl, rfl, hA, g, l, zs[i], rfl, rfl, hz1.1, o, _, _, rfl, rfl, eo, small, ?_⟩
        have e1 : dval l i zs[i] = l % zs[i] := by
          unfold dval
          rw [if_pos e]
        have e2 : dleft l zs[i] = l / zs[i] := by
          unfold dleft
          rw [if_pos e]
        have sm2 : Same H (upd H3 o (.lst (ds.map V.int ++ [.int (l % zs[i])]))) := same_new no sm
        refine ⟨.int l, rfl, .ref a, rfl, .int (i : Int), rfl, a, _, _, _, rfl, rfl, sm2.seq hS, g, l, zs[i], rfl, rfl, wide_div hz1.1 (b := 64) (by have := hz1.2; have := hz1.1; omega) (by decide) (by decide), ?_⟩
        refine ⟨_, _, _, _, _, ds ++ [dval l i zs[i]], rfl, sm2, ?_, ?_, ?_⟩
        · rw [upd_same, e1, List.map_append]
          rfl
        · rw [List.length_append, el]
          rfl
        · rw [← e2]
          exact ed'
      · have e : ¬ (1000000000000000000 : Int) ≤ l := fun z => e (decide_eq_true z)
        have e2 : dleft l zs[i] = l := by
          unfold dleft
          rw [if_neg e]
        have hi1000 : (i : Int) < 1000 := by omega
        have s0 : 0 ≤ l % 1000000000000000000 := Int.emod_nonneg _ (by decide)
        have s9 : l % 1000000000000000000 < 1000000000000000000 := Int.emod_lt_of_pos _ (by decide)
        refine ⟨.int l, rfl, 10, 18, rfl, rfl, ⟨by decide, by decide, by decide⟩, l, 10 ^ 18, rfl, rfl, (show (0 : Int) < 10 ^ 18 by decide), ?_⟩
        refine ⟨_, rfl, .int (i : Int), rfl, 7, i, rfl, rfl, .inl ⟨by decide, by decide⟩, _, _, rfl, rfl, _, _, rfl, rfl, .int (i : Int), rfl, 2, i, rfl, rfl, .inl ⟨by decide, by decide⟩, .int (i : Int), rfl, _, _, rfl, rfl, .inl ⟨by omega, by omega⟩, _, _, rfl, rfl, _, _, rfl, rfl,
          .inl ⟨by show -(2 ^ 64) < l % 1000000000000000000 + 7 * (i : Int) + 1; omega, by show l % 1000000000000000000 + 7 * (i : Int) + 1 < 2 ^ 64; omega⟩, _, _, rfl, rfl, (show (0 : Int) < 2147483647 by decide), ?_⟩
        refine ⟨_, rfl, _, _, rfl, rfl, ⟨by decide, by decide⟩, .int (i : Int), rfl, 11, i, rfl, rfl, .inl ⟨by decide, by decide⟩, _, _, rfl, rfl, _, _, rfl, rfl, .int (i : Int), rfl, 6, i, rfl, rfl, .inl ⟨by decide, by decide⟩, _, _, rfl, rfl, _, _, rfl, rfl,
          .inl ⟨by show -(2 ^ 64) < l % 1000000000000000000 / 3 + 11 * (i : Int) + 5; omega, by show l % 1000000000000000000 / 3 + 11 * (i : Int) + 5 < 2 ^ 64; omega⟩, _, _, rfl, rfl, (show (0 : Int) < 2147483629 by decide), ?_⟩
        have o0 := Int.emod_nonneg ((l % 1000000000000000000 + 7 * (i : Int) + 1) * (48271 + 2 * (i : Int) * (i : Int))) (show (2147483647 : Int) ≠ 0 by decide)
        have o9 := Int.emod_lt_of_pos ((l % 1000000000000000000 + 7 * (i : Int) + 1) * (48271 + 2 * (i : Int) * (i : Int))) (show (0 : Int) < 2147483647 by decide)
        refine ⟨.ref o, rfl, .inl ⟨rfl, _, SqL.of eo⟩, _, rfl, _, rfl, _, _, rfl, rfl, .inl ⟨Int.lt_of_lt_of_le (by decide) o0, Int.lt_trans o9 (by decide)⟩, _, rfl, _, _, rfl, rfl, ⟨by decide, by decide⟩, _, _, rfl, rfl, .ref a, rfl, .int (i : Int), rfl, a, _, _, _, rfl, rfl, hA, g, _, zs[i], rfl, rfl, hz1.1, o, _, _, rfl, rfl, eo, small, ?_⟩
        have e1 : dval l i zs[i] = ((l % 1000000000000000000 + 7 * (i : Int) + 1) * (48271 + 2 * (i : Int) * (i : Int)) % 2147483647 * ((l % 1000000000000000000 / 3 + 11 * (i : Int) + 5) * (39373 + 6 * (i : Int)) % 2147483629) + (l % 1000000000000000000 + 7 * (i : Int) + 1) * (48271 + 2 * (i : Int) * (i : Int)) % 2147483647 / 64) % zs[i] := by
          unfold dval
          rw [if_neg e]
        refine ⟨_, _, _, _, _, ds ++ [dval l i zs[i]], rfl, same_new no sm, ?_, ?_, ?_⟩
        · rw [upd_same, e1, List.map_append]
          rfl
        · rw [List.length_append, el]
          rfl
        · rw [e2] at ed'
          exact ed'
    · rintro σ H3 ⟨l, y4, y5, y6, y7, ds, rfl, sm, eo, el, ed⟩
      rw [List.drop_length] at ed
      have ed : ds = draws c 0 zs := by
        rw [← ed]
        show ds = ds ++ []
        rw [List.append_nil]
      subst ed
      exact ⟨.ref o, rfl, q H3 o sm no eo⟩


def spRight (K : PySem.W.Frag) : Sp := fun vs H Q _ => ∃ (i : Nat) (x : V) (z : Str), vs = [.int i, x] ∧ i < 15 ∧ Shown K H x z ∧ ∀ H', Same H H' → Q (.bl true) H'
set_option maxHeartbeats 2000000 in
theorem ok_right {f : Addr} {fd : FuncData} {k : Nat} (F : Fun K "_law_right" "_law_right" sRight f fd) (D : DJ K mg fW fN gW gN a1 a2 a3 a4 a5 a6 a7 b1 b2 b3 b4 b5 b6 b7) (T : TxtN mg) (Z : C15 K mg c HE fW fN) :
    FnOkG P w K mg base CX0 (k + 4) f fd ["_law_which", "_law_thing"] (spRight K) := by
  have Gm : FnOk P w K mg base CX0 (k + 3) a3 b3 ["_law_which", "_law_thing"] (spMade c) := ok_made D.m.F D.p D.FW D.bW D.FN D.bN T Z
  have Gk : FnOk P w K mg base CX0 (k + 3) a4 b4 ["_law_error"] (spTold c kinds) := ok_kinds (k := k + 2) D.k.F T Z
  have Gu : FnOk P w K mg base CX0 (k + 3) a5 b5 ["_law_error"] (spTold c under) := ok_under (k := k + 2) D.u.F T Z
  have Gd : FnOk P w K mg base CX0 (k + 3) a6 b6 ["_law_which"] spDue := ok_due (k := k + 2) D.d.F
  refine okG F scRight (fun vs H Q E h => ?_) (fun cdv A outer s H vs Q E hG hr h => ?_)
  · obtain ⟨i, x, z, rfl, _⟩ := h
    rfl
  · obtain ⟨i, x, z, rfl, hi, hz, q⟩ := h
    have nd := scRight.nd
    have hu := hu66 hr
    have hu64 : (A.deeper (PyProof.Rows.envOfC "_law_right" (defScope sRight) s.heap.objs.size f cdv)).units + 64 < cLine := by omega
    refine ⟨_, (pss_cons (ps_set (i := 2) nd rfl (.inl rfl) (pe_call Gm hr (by rfl) D.m.g D.m.F.kp D.m.b .nil pass0 (pa_cons (pv 0) (pa_cons (pv 1) pa_nil)))) (pss_cons (ps_if (PW.pt (pw_or (pt_cmpR (op_neD hu64) (pe_call Gk hr (by rfl) D.k.g D.k.F.kp D.k.b .nil pass0 (pa_cons (pv 2) pa_nil)) (pe_lc (own := [("_law_k", 3)]) (g := gName 3) rfl nd (pi_range1 (by rfl) T.range (pa_cons pe_int pa_nil)) (blkOk_by (own := [("_law_k", 3)]) (N := nRi) (sc := defScope sRight) (by decide +kernel)) (fun _ _ _ _ _ => pg_name (i := 3) nd rfl (Or.inl rfl)) (fun _ _ _ _ _ => pts_nil) (fun _ _ _ _ _ => (pe_cmpR (show OpR _ (compareOp .Eq) rEq from op_eq) (pv 3) (pv 0) (nomark _)))) (nomark _)) (pw_or1 (pt_cmpR (op_neD hu64) (pe_call Gu hr (by rfl) D.u.g D.u.F.kp D.u.b .nil pass0 (pa_cons (pv 2) pa_nil)) (pe_call Gd hr (by rfl) D.d.g D.d.F.kp D.d.b .nil pass0 (pa_cons (pv 0) pa_nil)) (nomark _))))) (pss_one (ps_ret pe_bl)) pss_nil) (pss_cons (ps_if (pt_cmpR op_eq (pv 0) pe_int (nomark _)) (pss_one (ps_ret (pe_cmpR op_eq (pe_callB (cr_reprD hG hu) (by rfl) T.repr (by decide +kernel) (pa_cons (pe_fldH (n := "wall") (pv 2)) pa_nil)) (pe_callB (cr_reprD hG hu) (by rfl) T.repr (by decide +kernel) (pa_cons (pv 1) pa_nil)) (nomark _)))) pss_nil) (pss_one (ps_ret (pe_or (pe_cmpR op_ne (pv 0) pe_int (nomark _)) (pe_one (pe_cmpR op_eq (pe_callB (cr_reprD hG hu) (by rfl) T.repr (by decide +kernel) (pa_cons (pe_fldH (n := "name") (pv 2)) pa_nil)) (pe_callB (cr_reprD hG hu) (by rfl) T.repr (by decide +kernel) (pa_cons (pv 1) pa_nil)) (nomark _))))))))), ?_⟩
    refine ⟨.int i, rfl, x, rfl, i, x, rfl, hi, fun H1 a s1 na hm => ?_⟩
    obtain ⟨er, hw, hn⟩ := hm
    refine ⟨.ref a, rfl, i, a, rfl, hi, er, fun H2 p2 s2 n2 e2 => ?_⟩
    refine ⟨15, rfl, by decide, by decide, fun U nU => ?_⟩
    refine lc_range (lo := 0) (n := 15) (fun j H3 => Same H2 H3 ∧ H3 U = some (.lst (((List.range j).map fun m => decide (i = m)).map V.bl))) ⟨same_upd nU, upd_same⟩ ?_ ?_
    · rintro j H3 hj ⟨s3, e3⟩
      rw [Int.zero_add]
      have eqi : decide (V.int (j : Int) = V.int (i : Int)) = decide (i = j) := by
        by_cases h : i = j
        · subst h
          simp
        · rw [decide_eq_false h, decide_eq_false]
          intro z
          exact h (by have := V.int.inj z; omega)
      refine ⟨rfl, .int (j : Int), rfl, .int i, rfl, rfl, _, e3, ?_, same_new nU s3, ?_⟩
      · rw [List.length_map, List.length_map, List.length_range]
        exact fit' (by omega)
      · rw [upd_same, List.range_succ, List.map_append, List.map_append, eqi]
        rfl
    rintro H3 ⟨s3, e3⟩
    have hk := same_kinds i hi
    have hk2 := same_under i hi
    refine ⟨.list ((kinds i).map .bool), .list ((kinds i).map .bool), .lst (SqL.of (s3 _ _ e2)) (dp_bools _), .lst (SqL.of e3) (dp_bools (kinds i)), hk.1, hk.1, _, rfl, ?_⟩
    rw [hk.2]
    refine iteF ?_
    have s13 := s2.trans s3
    refine ⟨.ref a, rfl, i, a, rfl, hi, er.same s13, fun H4 p4 s4 n4 e4 => ?_⟩
    refine ⟨.int i, rfl, i, rfl, hi, fun H5 p5 s5 n5 e5 => ?_⟩
    refine ⟨.list ((under i).map .bool), .list ((under i).map .bool), .lst (SqL.of (s5 _ _ e4)) (dp_bools _), .lst (SqL.of e5) (dp_bools _), hk2.1, hk2.1, _, rfl, ?_⟩
    rw [hk2.2]
    refine iteF ?_
    have s15 := s13.trans (s4.trans s5)
    have s05 := s1.trans s15
    obtain ⟨dt, k1, k2, k3, k4, k5, rfl⟩ := hz _ s05
    have fs : ∀ {D : Addr} {l : List (Str × V)}, Fld H1 a D l → Fld H5 a D l := fun h => by
      obtain ⟨d, h1, h2⟩ := h
      exact ⟨d, s15 _ _ h1, s15 _ _ h2⟩
    refine ⟨.int i, rfl, rfl, _, rfl, ite2 (fun h => ?_) (fun h => ?_)⟩
    · have h := V.int.inj (of_decide_eq_true h)
      refine ⟨.ref a, rfl, a, c 13, _, x, rfl, fs (hw (by omega)), Z.W.xf, Z.W.none_, rfl, x, dt, rfl, k1, k2, k3, k4, k5, x, rfl, x, dt, rfl, k1, k2, k3, k4, k5, rfl, ?_⟩
      rw [decide_eq_true rfl]
      exact q _ s05
    refine ⟨.int i, rfl, rfl, _, rfl, ite2 (fun h => q _ s05) (fun h => ?_)⟩
    have h14 : i = 14 := by
      by_cases e : i = 14
      · exact e
      · exfalso
        refine h ?_
        have : ¬ V.int (i : Int) = V.int 14 := fun z => e (by have := V.int.inj z; omega)
        rw [decide_eq_false this]
        rfl
    refine ⟨.ref a, rfl, a, c 14, _, x, rfl, fs (hn h14), Z.N.xf, Z.N.none_, rfl, x, dt, rfl, k1, k2, k3, k4, k5, x, rfl, x, dt, rfl, k1, k2, k3, k4, k5, rfl, ?_⟩
    rw [decide_eq_true rfl]
    exact q _ s05
/-! ### the law -/
def spLaw (K : PySem.W.Frag) : Sp := fun vs H Q _ => ∃ (a : Addr) (ns : List Int), vs = [.ref a] ∧ SqL K H a (ns.map V.int) ∧ ns.length ≤ 63 ∧ ∀ H', Q (.bl true) H'
def sz4 : List Int := [15, 15, 1000000000000, 8]
theorem draws4 (c : Int) : ∃ d0 d1 d2 d3 : Int, draws c 0 sz4 = [d0, d1, d2, d3] ∧ (0 ≤ d0 ∧ d0 < 15) ∧ (0 ≤ d1 ∧ d1 < 15) ∧ (0 ≤ d2 ∧ d2 < 1000000000000) ∧ (0 ≤ d3 ∧ d3 < 8) := by
  have hl : (draws c 0 sz4).length = 4 := by rw [draws_len]; rfl
  have k := draws_ok sz4 c 0 (fun z hz => by
    simp only [sz4, List.mem_cons, List.not_mem_nil, or_false] at hz
    rcases hz with rfl | rfl | rfl | rfl <;> decide)
  match hd : draws c 0 sz4, hl with
  | [d0, d1, d2, d3], _ =>
    rw [hd] at k
    exact ⟨d0, d1, d2, d3, rfl, k 0 d0 15 rfl rfl, k 1 d1 15 rfl rfl, k 2 d2 1000000000000 rfl rfl, k 3 d3 8 rfl rfl⟩
abbrev nLaw : List Str := ["_law_script", "_law_cell", "_law_draws", "_law_thing", "_law_which"]
theorem scLaw : FnScope nLaw ["_law_script"] (defScope sLaw) := ⟨rfl, rfl, rfl, by decide +kernel, rfl, by decide +kernel, by decide +kernel⟩
set_option maxHeartbeats 2000000 in
theorem ok_law {f : Addr} {fd : FuncData} (F : Fun K "law" "law" sLaw f fd) (D : DJ K mg fW fN gW gN a1 a2 a3 a4 a5 a6 a7 b1 b2 b3 b4 b5 b6 b7) (T : TxtN mg) (Z : C15 K mg c HE fW fN) :
    FnOkG P w K mg base CX0 8 f fd ["_law_script"] (spLaw K) := by
  have Gd : FnOk P w K mg base CX0 7 a1 b1 ["_law_cell", "_law_sizes"] (spDrawn K) := ok_drawn (k := 6) D.w.F T.len T.range
  have Gr : FnOkG P w K mg base CX0 7 a7 b7 ["_law_which", "_law_thing"] (spRight K) := ok_right (k := 3) D.r.F D T Z
  refine okG F scLaw (fun vs H Q E h => ?_) (fun cdv A outer s H vs Q E hG hr h => ?_)
  · obtain ⟨a, ns, rfl, _⟩ := h
    rfl
  · obtain ⟨a, ns, rfl, hS, hlen, q⟩ := h
    have nd := scLaw.nd
    refine ⟨_, (pss_cons (ps_for PassesOwn.never rfl (pi_list (pe_op op_cat (pe_slice sl_list (pv 0) po_none (po_some pe_int)) (pe_lst (pa_cons pe_int pa_nil)))) (pg_name (i := 1) nd rfl (.inl rfl)) (pss_cons (ps_set (i := 2) nd rfl (.inl rfl) (pe_call Gd hr (by rfl) D.w.g D.w.F.kp D.w.b .nil pass0 (pa_cons (pv 1) (pa_cons (pe_lst (pa_cons pe_int (pa_cons pe_int (pa_cons (pe_op op_pow pe_int pe_int) (pa_cons pe_int pa_nil))))) pa_nil)))) (pss_cons (ps_set (i := 3) nd rfl (.inl rfl) (pe_ix ix_list (pe_lst (pa_cons (pe_ix ix_list (pv 2) pe_int (fun _ _ => rfl)) (pa_cons (pe_op op_sub pe_int (pe_ix ix_list (pv 2) pe_int (fun _ _ => rfl))) (pa_cons (pe_op op_repS pe_str (pe_op op_add pe_int (pe_op op_mod (pe_ix ix_list (pv 2) pe_int (fun _ _ => rfl)) pe_int))) (pa_cons pe_non (pa_cons pe_bl (pa_cons (pe_tup (pa_cons pe_int (pa_cons pe_int pa_nil))) (pa_cons (pe_lst (pa_cons (pe_ix ix_list (pv 2) pe_int (fun _ _ => rfl)) pa_nil)) (pa_cons pe_int pa_nil))))))))) (pe_ix ix_list (pv 2) pe_int (fun _ _ => rfl)) (fun _ _ => rfl))) (pss_one (ps_for PassesOwn.never rfl (pi_list (pe_lst (pa_cons (pe_ix ix_list (pv 2) pe_int (fun _ _ => rfl)) (pa_cons (pe_ix ix_list (pv 2) pe_int (fun _ _ => rfl)) (pa_cons pe_int (pa_cons pe_int (pa_cons pe_int pa_nil))))))) (pg_name (i := 4) nd rfl (.inl rfl)) (pss_one (ps_if (pt_not (pt_val (pe_callG Gr hG hr (by rfl) D.r.g D.r.F.kp D.r.b .nil pass0 (pa_cons (pv 4) (pa_cons (pv 3) pa_nil))))) (pss_one (ps_ret pe_bl)) pss_nil))))))) (pss_one (ps_ret pe_bl))), ?_⟩
    obtain ⟨zs, ez, hzl⟩ := cut_ints ns 20 hlen
    refine ⟨.ref a, rfl, 20, rfl, a, _, rfl, hS, fun p np => ?_⟩
    rw [ez]
    refine ⟨(by show 1 ≤ sizeLine; decide), fun p2 n2 => ?_⟩
    have t1 := same_upd (o := .lst (zs.map V.int)) np
    have ep : upd H p (.lst (zs.map V.int)) p = some (.lst (zs.map V.int)) := upd_same
    generalize upd H p (.lst (zs.map V.int)) = H1 at t1 ep n2
    have t2 := same_upd (o := .lst [.int 0]) n2
    have ep2 : upd H1 p2 (.lst [.int 0]) p2 = some (.lst [.int 0]) := upd_same
    generalize upd H1 p2 (.lst [.int 0]) = H2 at t2 ep2
    refine ⟨p, p2, zs.map V.int, [.int 0], rfl, rfl, t2 _ _ ep, ep2, (by rw [List.length_map]; exact fit (by show zs.length + 1 ≤ _; omega)), fun p3 n3 => ?_⟩
    have ecat : zs.map V.int ++ [V.int 0] = (zs ++ [0]).map V.int := by rw [List.map_append]; rfl
    rw [ecat]
    have e3 : upd H2 p3 (.lst ((zs ++ [0]).map V.int)) p3 = some (.lst ((zs ++ [0]).map V.int)) := upd_same
    generalize upd H2 p3 (.lst ((zs ++ [0]).map V.int)) = H3 at e3
    refine ⟨p3, rfl, ⟨_, SqL.of e3⟩, ?_⟩
    refine for_list (K := K) (a := p3) (xs := (zs ++ [0]).map V.int) (fun i σ H4 => ∃ y1 y2 y3 y4, σ = [some (.ref a), y1, y2, y3, y4] ∧ Same H3 H4) ⟨_, _, _, _, rfl, Same.refl _⟩ (fun i σ H4 _ ⟨_, _, _, _, _, h⟩ => SqL.of (h _ _ e3)) ?_ (fun σ H4 _ => q H4)
    rintro i x σ H4 hx ⟨y1, y2, y3, y4, rfl, s4⟩
    rw [List.getElem?_map] at hx
    obtain ⟨v, hc, rfl⟩ := Option.map_eq_some_iff.mp hx
    refine ⟨.int v, rfl, 10, 12, rfl, rfl, ⟨by decide, by decide, by decide⟩, (by show 4 ≤ sizeLine; decide), fun l1 n1 => ?_⟩
    refine ⟨v, l1, sz4, rfl, SqL.of upd_same, ?_, by decide, fun H5 pd s5 n5 e5 => ?_⟩
    · intro z hz
      simp only [sz4, List.mem_cons, List.not_mem_nil, or_false] at hz
      rcases hz with rfl | rfl | rfl | rfl <;> exact ⟨by decide, by decide⟩
    obtain ⟨d0, d1, d2, d3, ed, b0, b1', b2', b3'⟩ := draws4 v
    rw [ed] at e5
    have s45 : Same H3 H5 := s4.trans ((same_upd n1).trans s5)
    -- the thing
    have at2 : atI ([d0, d1, d2, d3].map V.int) 2 = some (.int d2) := rfl
    have ix2 : SqL K H5 pd ([d0, d1, d2, d3].map V.int) := SqL.of e5
    have hm0 := Int.emod_nonneg d2 (show (9 : Int) ≠ 0 by decide)
    have hm9 := Int.emod_lt_of_pos d2 (show (0 : Int) < 9 by decide)
    refine ⟨.ref pd, rfl, pd, _, 2, .int d2, rfl, rfl, ix2, at2, .ref pd, rfl, pd, _, 2, .int d2, rfl, rfl, ix2, at2, 0, d2, rfl, rfl, ?_⟩
    refine ⟨.ref pd, rfl, pd, _, 2, .int d2, rfl, rfl, ix2, at2, d2, 9, rfl, rfl, (show (0 : Int) < 9 by decide), 1, d2 % 9, rfl, rfl, "w", (1 + d2 % 9).toNat, rfl, ?_, ?_, ?_, ?_⟩
    · rw [Int.toNat_of_nonneg (by omega)]
    · rw [show ("w" : Str).length = 1 by decide +kernel]
      omega
    · omega
    have hk : (1 + d2 % 9).toNat < 10 := by omega
    generalize (1 + d2 % 9).toNat = m at hk ⊢
    refine ⟨(by show 2 ≤ sizeLine; decide), fun tT nT => ?_⟩
    have r1 := same_upd (o := .tup [.int 1, .int 2]) nT
    have q1 : upd H5 tT (.tup [.int 1, .int 2]) tT = some (.tup [.int 1, .int 2]) := upd_same
    generalize upd H5 tT (.tup [.int 1, .int 2]) = R1 at r1 q1 ⊢
    refine ⟨.ref pd, rfl, pd, _, 2, .int d2, rfl, rfl, SqL.of (r1 _ _ e5), at2, (by show 1 ≤ sizeLine; decide), fun lL nL => ?_⟩
    have r2 := same_upd (o := .lst [.int d2]) nL
    have q2 : upd R1 lL (.lst [.int d2]) lL = some (.lst [.int d2]) := upd_same
    generalize upd R1 lL (.lst [.int d2]) = R2 at r2 q2 ⊢
    refine ⟨(by show 8 ≤ sizeLine; decide), fun lO nO => ?_⟩
    generalize hbl : [V.int d2, .int (0 - d2), .str (repS "w" m), .non, .bl true, .ref tT, .ref lL, .int 0] = bl at nO ⊢
    have r3 := same_upd (o := .lst bl) nO
    have q3 : upd R2 lO (.lst bl) lO = some (.lst bl) := upd_same
    generalize upd R2 lO (.lst bl) = R3 at r3 q3 ⊢
    have s5R : Same H5 R3 := r1.trans (r2.trans r3)
    obtain ⟨x, hx, z, hsh⟩ : ∃ b, atI bl d3 = some b ∧ ∃ z, Shown K R3 b z := by
      rw [← hbl]
      rcases (show d3 = 0 ∨ d3 = 1 ∨ d3 = 2 ∨ d3 = 3 ∨ d3 = 4 ∨ d3 = 5 ∨ d3 = 6 ∨ d3 = 7 by omega) with rfl | rfl | rfl | rfl | rfl | rfl | rfl | rfl
      · exact ⟨_, rfl, shown_int (by omega)⟩
      · exact ⟨_, rfl, shown_int (by omega)⟩
      · exact ⟨_, rfl, shown_ws hk⟩
      · exact ⟨_, rfl, shown_non⟩
      · exact ⟨_, rfl, shown_bl⟩
      · exact ⟨_, rfl, shown_two (by decide) (by decide) (r3 _ _ (r2 _ _ q1))⟩
      · exact ⟨_, rfl, shown_one (by omega) (r3 _ _ q2)⟩
      · exact ⟨_, rfl, shown_int (by decide)⟩
    have ixR : SqL K R3 pd ([d0, d1, d2, d3].map V.int) := SqL.of (s5R _ _ e5)
    refine ⟨.ref pd, rfl, pd, _, 3, .int d3, rfl, rfl, ixR, rfl, lO, _, d3, x, rfl, rfl, SqL.of q3, hx, ?_⟩
    -- the five
    refine ⟨.ref pd, rfl, pd, _, 0, .int d0, rfl, rfl, ixR, rfl, .ref pd, rfl, pd, _, 1, .int d1, rfl, rfl, ixR, rfl, (by show 5 ≤ sizeLine; decide), fun lw nw => ?_⟩
    have r4 := same_upd (o := .lst [.int d0, .int d1, .int 12, .int 13, .int 14]) nw
    have q4 : upd R3 lw (.lst [.int d0, .int d1, .int 12, .int 13, .int 14]) lw = some (.lst [.int d0, .int d1, .int 12, .int 13, .int 14]) := upd_same
    generalize upd R3 lw (.lst [.int d0, .int d1, .int 12, .int 13, .int 14]) = R4 at r4 q4 ⊢
    refine ⟨lw, rfl, ⟨_, SqL.of q4⟩, ?_⟩
    have five : ∀ y ∈ [V.int d0, .int d1, .int 12, .int 13, .int 14], ∃ j : Nat, y = .int j ∧ j < 15 := fun y hy => by
      simp only [List.mem_cons, List.not_mem_nil, or_false] at hy
      rcases hy with rfl | rfl | rfl | rfl | rfl
      · exact ⟨d0.toNat, by rw [Int.toNat_of_nonneg b0.1], by omega⟩
      · exact ⟨d1.toNat, by rw [Int.toNat_of_nonneg b1'.1], by omega⟩
      · exact ⟨12, rfl, by decide⟩
      · exact ⟨13, rfl, by decide⟩
      · exact ⟨14, rfl, by decide⟩
    refine for_list (K := K) (a := lw) (xs := [V.int d0, .int d1, .int 12, .int 13, .int 14]) (fun i σ G => ∃ y4, σ = [some (.ref a), some (.int v), some (.ref pd), some x, y4] ∧ Same R4 G) ⟨_, rfl, Same.refl _⟩ (fun i σ G _ ⟨_, _, h⟩ => SqL.of (h _ _ q4)) ?_ ?_
    · rintro i y σ G hy ⟨y4, rfl, sG⟩
      obtain ⟨j, rfl, hj⟩ := five y (List.mem_of_getElem? hy)
      exact ⟨.int j, rfl, x, rfl, j, x, z, rfl, hj, hsh.same (r4.trans sG), fun G' s' => ⟨true, rfl, iteF ⟨_, rfl, sG.trans s'⟩⟩⟩
    rintro σ G ⟨y4, rfl, sG⟩
    exact ⟨_, _, _, _, rfl, s45.trans (s5R.trans (r4.trans sG))⟩
end
end Hop

set_option Elab.async false
set_option linter.all false
set_option maxRecDepth 100000
set_option maxHeartbeats 2000000
namespace Hop
open PySem L2 HopR
theorem kit_tyC {K : PySem.W.Frag} {C : Addr} {T : String} (hd : PySem.W.hasDictIn K C = true) (ht : PySem.W.typeIn K (.ref C) = some (.type "type")) (h : PySem.W.subIn K (.type T) (.ref C) = some false) : PySem.W.kitOne K (.type T) (.ref C) = some false := by
  obtain ⟨cd, hc, _⟩ := PySem.W.any_some hd
  have e2 : ((PySem.W.clsIn K C).isSome && PySem.W.typeIn K (.ref C) == some (.type "type")) = true := by rw [hc, ht] <;> rfl
  unfold PySem.W.kitOne
  have e1 : ¬ ((Value.type T == Value.ref C) = true) := fun z => nomatch (beq_iff_eq.mp z)
  rw [if_neg e1]
  show (if ((PySem.W.clsIn K C).isSome && PySem.W.typeIn K (.ref C) == some (.type "type")) = true then PySem.W.subIn K (.type T) (.ref C) else none) = some false
  rw [if_pos e2]
  exact h
theorem all15 {p : Nat → Prop} (h0 : p 0) (h1 : p 1) (h2 : p 2) (h3 : p 3) (h4 : p 4) (h5 : p 5) (h6 : p 6) (h7 : p 7) (h8 : p 8) (h9 : p 9) (h10 : p 10) (h11 : p 11) (h12 : p 12) (h13 : p 13) (h14 : p 14) : ∀ i, i < 15 → p i := fun i hi => by
  rcases (show i = 0 ∨ i = 1 ∨ i = 2 ∨ i = 3 ∨ i = 4 ∨ i = 5 ∨ i = 6 ∨ i = 7 ∨ i = 8 ∨ i = 9 ∨ i = 10 ∨ i = 11 ∨ i = 12 ∨ i = 13 ∨ i = 14 by omega) with rfl | rfl | rfl | rfl | rfl | rfl | rfl | rfl | rfl | rfl | rfl | rfl | rfl | rfl | rfl <;> assumption
/-- which class stands under which -/
def tblB (K : PySem.W.Frag) (L : List Addr) (HE : Addr) : Bool := (List.range 15).all fun i =>
  ((List.range 15).all fun j => decide (i = j) || (!(L.getD i 0 == L.getD j 0) && (PySem.W.subIn K (.ref (L.getD i 0)) (.ref (L.getD j 0)) == some false))) &&
  (!(L.getD i 0 == HE) && ((PySem.W.subIn K (.ref (L.getD i 0)) (.ref HE) == some (decide (i < 12))) && ((PySem.W.subIn K (.ref (L.getD i 0)) (.type "ValueError") == some (decide (i < 12))) && ((PySem.W.subIn K (.ref (L.getD i 0)) (.type "ZeroDivisionError") == some (decide (i = 12))) &&
    ((PySem.W.subIn K (.ref (L.getD i 0)) (.type "IndexError") == some (decide (i = 13))) && (PySem.W.subIn K (.ref (L.getD i 0)) (.type "KeyError") == some (decide (i = 14))))))))
theorem tbl_at {K : PySem.W.Frag} {L : List Addr} {HE : Addr} (h : tblB K L HE = true) {i : Nat} (hi : i < 15) : (∀ j, j < 15 → i = j ∨ (L.getD i 0 ≠ L.getD j 0 ∧ PySem.W.subIn K (.ref (L.getD i 0)) (.ref (L.getD j 0)) = some false)) ∧ L.getD i 0 ≠ HE ∧
    PySem.W.subIn K (.ref (L.getD i 0)) (.ref HE) = some (decide (i < 12)) ∧ PySem.W.subIn K (.ref (L.getD i 0)) (.type "ValueError") = some (decide (i < 12)) ∧ PySem.W.subIn K (.ref (L.getD i 0)) (.type "ZeroDivisionError") = some (decide (i = 12)) ∧
    PySem.W.subIn K (.ref (L.getD i 0)) (.type "IndexError") = some (decide (i = 13)) ∧ PySem.W.subIn K (.ref (L.getD i 0)) (.type "KeyError") = some (decide (i = 14)) := by
  have h1 := List.all_eq_true.mp h i (List.mem_range.mpr hi)
  simp only [Bool.and_eq_true, beq_iff_eq, Bool.not_eq_true', beq_eq_false_iff_ne] at h1
  obtain ⟨h1, h2, h3, h4, h5, h6, h7⟩ := h1
  refine ⟨fun j hj => ?_, h2, h3, h4, h5, h6, h7⟩
  have q := List.all_eq_true.mp h1 j (List.mem_range.mpr hj)
  rcases Bool.or_eq_true_iff.mp q with z | z
  · exact .inl (of_decide_eq_true z)
  · simp only [Bool.and_eq_true, beq_iff_eq, Bool.not_eq_true', beq_eq_false_iff_ne] at z
    exact .inr z
theorem tbl_own {K : PySem.W.Frag} {L : List Addr} {HE : Addr} (h : tblB K L HE = true) {i j : Nat} (hi : i < 15) (hj : j < 15) (d : PySem.W.hasDictIn K (L.getD j 0) = true) (t : PySem.W.typeIn K (.ref (L.getD j 0)) = some (.type "type")) :
    PySem.W.kitOne K (.ref (L.getD i 0)) (.ref (L.getD j 0)) = some (decide (i = j)) := by
  rcases (tbl_at h hi).1 j hj with rfl | ⟨n, s⟩
  · rw [decide_eq_true rfl]
    exact HopR.kit_me
  · rw [decide_eq_false (fun z => n (by rw [z]))]
    exact HopR.kit_own n d t s
theorem tbl_he {K : PySem.W.Frag} {L : List Addr} {HE : Addr} (h : tblB K L HE = true) {i : Nat} (hi : i < 15) (d : PySem.W.hasDictIn K HE = true) (t : PySem.W.typeIn K (.ref HE) = some (.type "type")) : PySem.W.kitOne K (.ref (L.getD i 0)) (.ref HE) = some (decide (i < 12)) :=
  HopR.kit_own (tbl_at h hi).2.1 d t (tbl_at h hi).2.2.1
/-! ### what the top has written -/
theorem all_mk {l : PySem.W.OpenLaw} {w : World} {K : PySem.W.Frag} {h : Heap} {mg : Str → Option Value} {fa : Addr} (X : K.In h) (G : h.Ns mainGlobals mg) (hfa : mg "law" = some (.ref fa))
    {fw : Addr} {odw anw : Option Addr} {slw : Array (Option Value)} {ocw kVw dcw pmw cdw ctw : Value}
    {fp : Addr} {odp anp : Option Addr} {slp : Array (Option Value)} {ocp kVp dcp pmp cdp ctp : Value}
    {fm : Addr} {odm anm : Option Addr} {slm : Array (Option Value)} {ocm kVm dcm pmm cdm ctm : Value}
    {fk : Addr} {odk ank : Option Addr} {slk : Array (Option Value)} {ock kVk dck pmk cdk ctk : Value}
    {fu : Addr} {odu anu : Option Addr} {slu : Array (Option Value)} {ocu kVu dcu pmu cdu ctu : Value}
    {fq : Addr} {odq anq : Option Addr} {slq : Array (Option Value)} {ocq kVq dcq pmq cdq ctq : Value}
    {fr : Addr} {odr anr : Option Addr} {slr : Array (Option Value)} {ocr kVr dcr pmr cdr ctr : Value}
    {fL : Addr} {odL anL : Option Addr} {slL : Array (Option Value)} {ocL kVL dcL pmL cdL ctL : Value}
    {A0 A1 A2 A3 A4 A5 A6 A7 A8 A9 A10 A11 A12 A13 A14 HE : Addr}
    {fi : Addr} {odi ani : Option Addr} {sli : Array (Option Value)} {oci kVi dci pmi cdi cti : Value}
    {fj : Addr} {odj anj : Option Addr} {slj : Array (Option Value)} {ocj kVj dcj pmj cdj ctj : Value}
    (aw : PySem.W.nsIn K mainGlobals "_law_drawn" = some (some (.ref fw))) (lw : K.lookup fw = some ⟨ocw, odw, .func (PySem.W.fnOf "_law_drawn" "_law_drawn" (defArgs sDrawn) (defBody sDrawn) (defScope sDrawn) .none kVw dcw pmw anw cdw ctw), slw⟩) (cw : PySem.W.codeIn K cdw "_law_drawn" = true) (kw : PySem.W.keepIn K (.ref fw) = true)
    (ap : PySem.W.nsIn K mainGlobals "_law_plain" = some (some (.ref fp))) (lp : K.lookup fp = some ⟨ocp, odp, .func (PySem.W.fnOf "_law_plain" "_law_plain" (defArgs sPlain) (defBody sPlain) (defScope sPlain) .none kVp dcp pmp anp cdp ctp), slp⟩) (cp : PySem.W.codeIn K cdp "_law_plain" = true) (kp : PySem.W.keepIn K (.ref fp) = true)
    (am : PySem.W.nsIn K mainGlobals "_law_made" = some (some (.ref fm))) (lm : K.lookup fm = some ⟨ocm, odm, .func (PySem.W.fnOf "_law_made" "_law_made" (defArgs sMade) (defBody sMade) (defScope sMade) .none kVm dcm pmm anm cdm ctm), slm⟩) (cm : PySem.W.codeIn K cdm "_law_made" = true) (km : PySem.W.keepIn K (.ref fm) = true)
    (ak : PySem.W.nsIn K mainGlobals "_law_kinds" = some (some (.ref fk))) (lk : K.lookup fk = some ⟨ock, odk, .func (PySem.W.fnOf "_law_kinds" "_law_kinds" (defArgs sKinds) (defBody sKinds) (defScope sKinds) .none kVk dck pmk ank cdk ctk), slk⟩) (ck : PySem.W.codeIn K cdk "_law_kinds" = true) (kk : PySem.W.keepIn K (.ref fk) = true)
    (au : PySem.W.nsIn K mainGlobals "_law_under" = some (some (.ref fu))) (lu : K.lookup fu = some ⟨ocu, odu, .func (PySem.W.fnOf "_law_under" "_law_under" (defArgs sUnder) (defBody sUnder) (defScope sUnder) .none kVu dcu pmu anu cdu ctu), slu⟩) (cu : PySem.W.codeIn K cdu "_law_under" = true) (ku : PySem.W.keepIn K (.ref fu) = true)
    (aq : PySem.W.nsIn K mainGlobals "_law_due" = some (some (.ref fq))) (lq : K.lookup fq = some ⟨ocq, odq, .func (PySem.W.fnOf "_law_due" "_law_due" (defArgs sDue) (defBody sDue) (defScope sDue) .none kVq dcq pmq anq cdq ctq), slq⟩) (cq : PySem.W.codeIn K cdq "_law_due" = true) (kq : PySem.W.keepIn K (.ref fq) = true)
    (ar : PySem.W.nsIn K mainGlobals "_law_right" = some (some (.ref fr))) (lr : K.lookup fr = some ⟨ocr, odr, .func (PySem.W.fnOf "_law_right" "_law_right" (defArgs sRight) (defBody sRight) (defScope sRight) .none kVr dcr pmr anr cdr ctr), slr⟩) (cr : PySem.W.codeIn K cdr "_law_right" = true) (kr : PySem.W.keepIn K (.ref fr) = true)
    (aL : PySem.W.nsIn K mainGlobals "law" = some (some (.ref fL))) (lL : K.lookup fL = some ⟨ocL, odL, .func (PySem.W.fnOf "law" "law" (defArgs sLaw) (defBody sLaw) (defScope sLaw) .none kVL dcL pmL anL cdL ctL), slL⟩) (cL : PySem.W.codeIn K cdL "law" = true) (kL : PySem.W.keepIn K (.ref fL) = true)
    (z0 : PySem.W.nsIn K mainGlobals "isinstance" = some none)
    (z1 : PySem.W.nsIn K mainGlobals "ValueError" = some none)
    (z2 : PySem.W.nsIn K mainGlobals "ZeroDivisionError" = some none)
    (z3 : PySem.W.nsIn K mainGlobals "IndexError" = some none)
    (z4 : PySem.W.nsIn K mainGlobals "KeyError" = some none)
    (z5 : PySem.W.nsIn K mainGlobals "len" = some none)
    (z6 : PySem.W.nsIn K mainGlobals "range" = some none)
    (z7 : PySem.W.nsIn K mainGlobals "repr" = some none)
    (g_A0 : PySem.W.nsIn K mainGlobals "NoNumber" = some (some (.ref A0)))
    (g_A1 : PySem.W.nsIn K mainGlobals "NoRow" = some (some (.ref A1)))
    (g_A2 : PySem.W.nsIn K mainGlobals "NoPace" = some (some (.ref A2)))
    (g_A3 : PySem.W.nsIn K mainGlobals "NoStep" = some (some (.ref A3)))
    (g_A4 : PySem.W.nsIn K mainGlobals "NoWord" = some (some (.ref A4)))
    (g_A5 : PySem.W.nsIn K mainGlobals "NoPlace" = some (some (.ref A5)))
    (g_A6 : PySem.W.nsIn K mainGlobals "NoHeap" = some (some (.ref A6)))
    (g_A7 : PySem.W.nsIn K mainGlobals "TooMany" = some (some (.ref A7)))
    (g_A8 : PySem.W.nsIn K mainGlobals "NoWay" = some (some (.ref A8)))
    (g_A9 : PySem.W.nsIn K mainGlobals "NoLines" = some (some (.ref A9)))
    (g_A10 : PySem.W.nsIn K mainGlobals "NoRing" = some (some (.ref A10)))
    (g_A11 : PySem.W.nsIn K mainGlobals "BadRow" = some (some (.ref A11)))
    (g_A12 : PySem.W.nsIn K mainGlobals "ByNought" = some (some (.ref A12)))
    (g_A13 : PySem.W.nsIn K mainGlobals "NoWall" = some (some (.ref A13)))
    (g_A14 : PySem.W.nsIn K mainGlobals "NoName" = some (some (.ref A14)))
    (g_HE : PySem.W.nsIn K mainGlobals "HopError" = some (some (.ref HE)))
    (d_A0 : PySem.W.hasDictIn K A0 = true)
    (t_A0 : PySem.W.typeIn K (.ref A0) = some (.type "type"))
    (d_A1 : PySem.W.hasDictIn K A1 = true)
    (t_A1 : PySem.W.typeIn K (.ref A1) = some (.type "type"))
    (d_A2 : PySem.W.hasDictIn K A2 = true)
    (t_A2 : PySem.W.typeIn K (.ref A2) = some (.type "type"))
    (d_A3 : PySem.W.hasDictIn K A3 = true)
    (t_A3 : PySem.W.typeIn K (.ref A3) = some (.type "type"))
    (d_A4 : PySem.W.hasDictIn K A4 = true)
    (t_A4 : PySem.W.typeIn K (.ref A4) = some (.type "type"))
    (d_A5 : PySem.W.hasDictIn K A5 = true)
    (t_A5 : PySem.W.typeIn K (.ref A5) = some (.type "type"))
    (d_A6 : PySem.W.hasDictIn K A6 = true)
    (t_A6 : PySem.W.typeIn K (.ref A6) = some (.type "type"))
    (d_A7 : PySem.W.hasDictIn K A7 = true)
    (t_A7 : PySem.W.typeIn K (.ref A7) = some (.type "type"))
    (d_A8 : PySem.W.hasDictIn K A8 = true)
    (t_A8 : PySem.W.typeIn K (.ref A8) = some (.type "type"))
    (d_A9 : PySem.W.hasDictIn K A9 = true)
    (t_A9 : PySem.W.typeIn K (.ref A9) = some (.type "type"))
    (d_A10 : PySem.W.hasDictIn K A10 = true)
    (t_A10 : PySem.W.typeIn K (.ref A10) = some (.type "type"))
    (d_A11 : PySem.W.hasDictIn K A11 = true)
    (t_A11 : PySem.W.typeIn K (.ref A11) = some (.type "type"))
    (d_A12 : PySem.W.hasDictIn K A12 = true)
    (t_A12 : PySem.W.typeIn K (.ref A12) = some (.type "type"))
    (d_A13 : PySem.W.hasDictIn K A13 = true)
    (t_A13 : PySem.W.typeIn K (.ref A13) = some (.type "type"))
    (d_A14 : PySem.W.hasDictIn K A14 = true)
    (t_A14 : PySem.W.typeIn K (.ref A14) = some (.type "type"))
    (d_HE : PySem.W.hasDictIn K HE = true)
    (t_HE : PySem.W.typeIn K (.ref HE) = some (.type "type"))
    (b_A0 : PySem.W.subIn K (.ref A0) (.type "BaseException") = some true)
    (b_A1 : PySem.W.subIn K (.ref A1) (.type "BaseException") = some true)
    (b_A10 : PySem.W.subIn K (.ref A10) (.type "BaseException") = some true)
    (b_A11 : PySem.W.subIn K (.ref A11) (.type "BaseException") = some true)
    (b_A12 : PySem.W.subIn K (.ref A12) (.type "BaseException") = some true)
    (b_A13 : PySem.W.subIn K (.ref A13) (.type "BaseException") = some true)
    (b_A14 : PySem.W.subIn K (.ref A14) (.type "BaseException") = some true)
    (b_A2 : PySem.W.subIn K (.ref A2) (.type "BaseException") = some true)
    (b_A3 : PySem.W.subIn K (.ref A3) (.type "BaseException") = some true)
    (b_A4 : PySem.W.subIn K (.ref A4) (.type "BaseException") = some true)
    (b_A5 : PySem.W.subIn K (.ref A5) (.type "BaseException") = some true)
    (b_A6 : PySem.W.subIn K (.ref A6) (.type "BaseException") = some true)
    (b_A7 : PySem.W.subIn K (.ref A7) (.type "BaseException") = some true)
    (b_A8 : PySem.W.subIn K (.ref A8) (.type "BaseException") = some true)
    (b_A9 : PySem.W.subIn K (.ref A9) (.type "BaseException") = some true)
    (q_hn : PySem.W.specialIn K (.builtin "object.__class__") "__get__" = some (some (.builtin "getset_descriptor.__get__")))
    (q_htk : PySem.W.takesIn K (.builtin "object.__class__") = some true)
    (x_A0 : PySem.W.excIn K A0 [.type "ValueError", .type "Exception", .type "BaseException", .type "object"] "ValueError.__new__" = true)
    (k_A0 : PySem.W.keepIn K (.ref A0) = true)
    (ga_A0 : PySem.W.findIn K (.ref A0) "__getattribute__" = some (some (.builtin "BaseException.__getattribute__")))
    (gt_A0 : PySem.W.findIn K (.ref A0) "__getattr__" = some none)
    (cl_A0 : PySem.W.findIn K (.ref A0) "__class__" = some (some (.builtin "object.__class__")))
    (mo_A0 : PySem.W.mroIn K A0 (.type "object") = some true)
    (x_A1 : PySem.W.excIn K A1 [.type "ValueError", .type "Exception", .type "BaseException", .type "object"] "ValueError.__new__" = true)
    (k_A1 : PySem.W.keepIn K (.ref A1) = true)
    (ga_A1 : PySem.W.findIn K (.ref A1) "__getattribute__" = some (some (.builtin "BaseException.__getattribute__")))
    (gt_A1 : PySem.W.findIn K (.ref A1) "__getattr__" = some none)
    (cl_A1 : PySem.W.findIn K (.ref A1) "__class__" = some (some (.builtin "object.__class__")))
    (mo_A1 : PySem.W.mroIn K A1 (.type "object") = some true)
    (x_A2 : PySem.W.excIn K A2 [.type "ValueError", .type "Exception", .type "BaseException", .type "object"] "ValueError.__new__" = true)
    (k_A2 : PySem.W.keepIn K (.ref A2) = true)
    (ga_A2 : PySem.W.findIn K (.ref A2) "__getattribute__" = some (some (.builtin "BaseException.__getattribute__")))
    (gt_A2 : PySem.W.findIn K (.ref A2) "__getattr__" = some none)
    (cl_A2 : PySem.W.findIn K (.ref A2) "__class__" = some (some (.builtin "object.__class__")))
    (mo_A2 : PySem.W.mroIn K A2 (.type "object") = some true)
    (x_A3 : PySem.W.excIn K A3 [.type "ValueError", .type "Exception", .type "BaseException", .type "object"] "ValueError.__new__" = true)
    (k_A3 : PySem.W.keepIn K (.ref A3) = true)
    (ga_A3 : PySem.W.findIn K (.ref A3) "__getattribute__" = some (some (.builtin "BaseException.__getattribute__")))
    (gt_A3 : PySem.W.findIn K (.ref A3) "__getattr__" = some none)
    (cl_A3 : PySem.W.findIn K (.ref A3) "__class__" = some (some (.builtin "object.__class__")))
    (mo_A3 : PySem.W.mroIn K A3 (.type "object") = some true)
    (x_A4 : PySem.W.excIn K A4 [.type "ValueError", .type "Exception", .type "BaseException", .type "object"] "ValueError.__new__" = true)
    (k_A4 : PySem.W.keepIn K (.ref A4) = true)
    (ga_A4 : PySem.W.findIn K (.ref A4) "__getattribute__" = some (some (.builtin "BaseException.__getattribute__")))
    (gt_A4 : PySem.W.findIn K (.ref A4) "__getattr__" = some none)
    (cl_A4 : PySem.W.findIn K (.ref A4) "__class__" = some (some (.builtin "object.__class__")))
    (mo_A4 : PySem.W.mroIn K A4 (.type "object") = some true)
    (x_A5 : PySem.W.excIn K A5 [.type "ValueError", .type "Exception", .type "BaseException", .type "object"] "ValueError.__new__" = true)
    (k_A5 : PySem.W.keepIn K (.ref A5) = true)
    (ga_A5 : PySem.W.findIn K (.ref A5) "__getattribute__" = some (some (.builtin "BaseException.__getattribute__")))
    (gt_A5 : PySem.W.findIn K (.ref A5) "__getattr__" = some none)
    (cl_A5 : PySem.W.findIn K (.ref A5) "__class__" = some (some (.builtin "object.__class__")))
    (mo_A5 : PySem.W.mroIn K A5 (.type "object") = some true)
    (x_A6 : PySem.W.excIn K A6 [.type "ValueError", .type "Exception", .type "BaseException", .type "object"] "ValueError.__new__" = true)
    (k_A6 : PySem.W.keepIn K (.ref A6) = true)
    (ga_A6 : PySem.W.findIn K (.ref A6) "__getattribute__" = some (some (.builtin "BaseException.__getattribute__")))
    (gt_A6 : PySem.W.findIn K (.ref A6) "__getattr__" = some none)
    (cl_A6 : PySem.W.findIn K (.ref A6) "__class__" = some (some (.builtin "object.__class__")))
    (mo_A6 : PySem.W.mroIn K A6 (.type "object") = some true)
    (x_A7 : PySem.W.excIn K A7 [.type "ValueError", .type "Exception", .type "BaseException", .type "object"] "ValueError.__new__" = true)
    (k_A7 : PySem.W.keepIn K (.ref A7) = true)
    (ga_A7 : PySem.W.findIn K (.ref A7) "__getattribute__" = some (some (.builtin "BaseException.__getattribute__")))
    (gt_A7 : PySem.W.findIn K (.ref A7) "__getattr__" = some none)
    (cl_A7 : PySem.W.findIn K (.ref A7) "__class__" = some (some (.builtin "object.__class__")))
    (mo_A7 : PySem.W.mroIn K A7 (.type "object") = some true)
    (x_A8 : PySem.W.excIn K A8 [.type "ValueError", .type "Exception", .type "BaseException", .type "object"] "ValueError.__new__" = true)
    (k_A8 : PySem.W.keepIn K (.ref A8) = true)
    (ga_A8 : PySem.W.findIn K (.ref A8) "__getattribute__" = some (some (.builtin "BaseException.__getattribute__")))
    (gt_A8 : PySem.W.findIn K (.ref A8) "__getattr__" = some none)
    (cl_A8 : PySem.W.findIn K (.ref A8) "__class__" = some (some (.builtin "object.__class__")))
    (mo_A8 : PySem.W.mroIn K A8 (.type "object") = some true)
    (x_A9 : PySem.W.excIn K A9 [.type "ValueError", .type "Exception", .type "BaseException", .type "object"] "ValueError.__new__" = true)
    (k_A9 : PySem.W.keepIn K (.ref A9) = true)
    (ga_A9 : PySem.W.findIn K (.ref A9) "__getattribute__" = some (some (.builtin "BaseException.__getattribute__")))
    (gt_A9 : PySem.W.findIn K (.ref A9) "__getattr__" = some none)
    (cl_A9 : PySem.W.findIn K (.ref A9) "__class__" = some (some (.builtin "object.__class__")))
    (mo_A9 : PySem.W.mroIn K A9 (.type "object") = some true)
    (x_A10 : PySem.W.excIn K A10 [.type "ValueError", .type "Exception", .type "BaseException", .type "object"] "ValueError.__new__" = true)
    (k_A10 : PySem.W.keepIn K (.ref A10) = true)
    (ga_A10 : PySem.W.findIn K (.ref A10) "__getattribute__" = some (some (.builtin "BaseException.__getattribute__")))
    (gt_A10 : PySem.W.findIn K (.ref A10) "__getattr__" = some none)
    (cl_A10 : PySem.W.findIn K (.ref A10) "__class__" = some (some (.builtin "object.__class__")))
    (mo_A10 : PySem.W.mroIn K A10 (.type "object") = some true)
    (x_A11 : PySem.W.excIn K A11 [.type "ValueError", .type "Exception", .type "BaseException", .type "object"] "ValueError.__new__" = true)
    (k_A11 : PySem.W.keepIn K (.ref A11) = true)
    (ga_A11 : PySem.W.findIn K (.ref A11) "__getattribute__" = some (some (.builtin "BaseException.__getattribute__")))
    (gt_A11 : PySem.W.findIn K (.ref A11) "__getattr__" = some none)
    (cl_A11 : PySem.W.findIn K (.ref A11) "__class__" = some (some (.builtin "object.__class__")))
    (mo_A11 : PySem.W.mroIn K A11 (.type "object") = some true)
    (k_A12 : PySem.W.keepIn K (.ref A12) = true)
    (ga_A12 : PySem.W.findIn K (.ref A12) "__getattribute__" = some (some (.builtin "BaseException.__getattribute__")))
    (gt_A12 : PySem.W.findIn K (.ref A12) "__getattr__" = some none)
    (cl_A12 : PySem.W.findIn K (.ref A12) "__class__" = some (some (.builtin "object.__class__")))
    (mo_A12 : PySem.W.mroIn K A12 (.type "object") = some true)
    (k_A13 : PySem.W.keepIn K (.ref A13) = true)
    (ga_A13 : PySem.W.findIn K (.ref A13) "__getattribute__" = some (some (.builtin "BaseException.__getattribute__")))
    (gt_A13 : PySem.W.findIn K (.ref A13) "__getattr__" = some none)
    (cl_A13 : PySem.W.findIn K (.ref A13) "__class__" = some (some (.builtin "object.__class__")))
    (mo_A13 : PySem.W.mroIn K A13 (.type "object") = some true)
    (k_A14 : PySem.W.keepIn K (.ref A14) = true)
    (ga_A14 : PySem.W.findIn K (.ref A14) "__getattribute__" = some (some (.builtin "BaseException.__getattribute__")))
    (gt_A14 : PySem.W.findIn K (.ref A14) "__getattr__" = some none)
    (cl_A14 : PySem.W.findIn K (.ref A14) "__class__" = some (some (.builtin "object.__class__")))
    (mo_A14 : PySem.W.mroIn K A14 (.type "object") = some true)
    (x_A12 : PySem.W.excIn K A12 [.type "ZeroDivisionError", .type "ArithmeticError", .type "Exception", .type "BaseException", .type "object"] "ZeroDivisionError.__new__" = true)
    (mi : PySem.W.findIn K (.ref A13) "__init__" = some (some (.ref fi)))
    (ti : PySem.W.typeIn K (.ref fi) = some (.type "function"))
    (li : K.lookup fi = some ⟨oci, odi, .func (PySem.W.fnOf "__init__" "NoWall.__init__" (defArgs sInit) (defBody sInit) (defScope sInit) .none kVi dci pmi ani cdi cti), sli⟩)
    (ci : PySem.W.codeIn K cdi "NoWall.__init__" = true)
    (ki : PySem.W.keepIn K (.ref fi) = true)
    (nwi : PySem.W.excInitIn K A13 [.type "IndexError", .type "LookupError", .type "Exception", .type "BaseException", .type "object"] "IndexError.__new__" = true)
    (ovi : PySem.W.excOver K A13 [.type "IndexError", .type "LookupError", .type "Exception", .type "BaseException", .type "object"] = true)
    (sai : PySem.W.findIn K (.ref A13) "__setattr__" = some (some (.builtin "object.__setattr__")))
    (tki : PySem.W.takerIn K A13 "wall" = some none)
    (nfi : PySem.W.findIn K (.ref A13) "wall" = some none)
    (mj : PySem.W.findIn K (.ref A14) "__init__" = some (some (.ref fj)))
    (tj : PySem.W.typeIn K (.ref fj) = some (.type "function"))
    (lj : K.lookup fj = some ⟨ocj, odj, .func (PySem.W.fnOf "__init__" "NoName.__init__" (defArgs sInitN) (defBody sInitN) (defScope sInitN) .none kVj dcj pmj anj cdj ctj), slj⟩)
    (cj : PySem.W.codeIn K cdj "NoName.__init__" = true)
    (kj : PySem.W.keepIn K (.ref fj) = true)
    (nwj : PySem.W.excInitIn K A14 [.type "KeyError", .type "LookupError", .type "Exception", .type "BaseException", .type "object"] "LookupError.__new__" = true)
    (ovj : PySem.W.excOver K A14 [.type "KeyError", .type "LookupError", .type "Exception", .type "BaseException", .type "object"] = true)
    (saj : PySem.W.findIn K (.ref A14) "__setattr__" = some (some (.builtin "object.__setattr__")))
    (tkj : PySem.W.takerIn K A14 "name" = some none)
    (nfj : PySem.W.findIn K (.ref A14) "name" = some none)
    (vI : PySem.W.findCls K (.type "IndexError") (.type "type") "__init__" = some (.val (.builtin "IndexError.__init__")))
    (vK : PySem.W.findCls K (.type "KeyError") (.type "type") "__init__" = some (.val (.builtin "KeyError.__init__")))
    (tb : tblB K [A0, A1, A2, A3, A4, A5, A6, A7, A8, A9, A10, A11, A12, A13, A14] HE = true)
    : ∃ fd : FuncData, (∀ (s : Shared) (v : Value), BindsTo s fd ⟨[v], []⟩ [("_law_script", v)]) ∧ ∀ base : Heap, K.In base → base.Ns mainGlobals mg → FnOkG l.prog w K mg base CX0 8 fa fd ["_law_script"] (spLaw K) := by
  have e := hfa.symm.trans (PySem.W.mg_of X G aL)
  cases e
  have Fw := fun_mk (st := sDrawn) lw cw kw
  have bw := Fw.binds (ps := ["_law_cell", "_law_sizes"]) fun _ _ _ _ _ _ us hl => match us, hl with | [_, _], _ => rfl
  have Nw := Fn.mk (ps := ["_law_cell", "_law_sizes"]) Fw bw (PySem.W.mg_of X G aw)
  have Fp := fun_mk (st := sPlain) lp cp kp
  have bp := Fp.binds (ps := ["_law_which"]) fun _ _ _ _ _ _ us hl => match us, hl with | [_], _ => rfl
  have Np := Fn.mk (ps := ["_law_which"]) Fp bp (PySem.W.mg_of X G ap)
  have Fm := fun_mk (st := sMade) lm cm km
  have bm := Fm.binds (ps := ["_law_which", "_law_thing"]) fun _ _ _ _ _ _ us hl => match us, hl with | [_, _], _ => rfl
  have Nm := Fn.mk (ps := ["_law_which", "_law_thing"]) Fm bm (PySem.W.mg_of X G am)
  have Fk := fun_mk (st := sKinds) lk ck kk
  have bk := Fk.binds (ps := ["_law_error"]) fun _ _ _ _ _ _ us hl => match us, hl with | [_], _ => rfl
  have Nk := Fn.mk (ps := ["_law_error"]) Fk bk (PySem.W.mg_of X G ak)
  have Fu := fun_mk (st := sUnder) lu cu ku
  have bu := Fu.binds (ps := ["_law_error"]) fun _ _ _ _ _ _ us hl => match us, hl with | [_], _ => rfl
  have Nu := Fn.mk (ps := ["_law_error"]) Fu bu (PySem.W.mg_of X G au)
  have Fq := fun_mk (st := sDue) lq cq kq
  have bq := Fq.binds (ps := ["_law_which"]) fun _ _ _ _ _ _ us hl => match us, hl with | [_], _ => rfl
  have Nq := Fn.mk (ps := ["_law_which"]) Fq bq (PySem.W.mg_of X G aq)
  have Fr := fun_mk (st := sRight) lr cr kr
  have br := Fr.binds (ps := ["_law_which", "_law_thing"]) fun _ _ _ _ _ _ us hl => match us, hl with | [_, _], _ => rfl
  have Nr := Fn.mk (ps := ["_law_which", "_law_thing"]) Fr br (PySem.W.mg_of X G ar)
  have y0 := PySem.W.mg_none_of X G z0
  have y1 := PySem.W.mg_none_of X G z1
  have y2 := PySem.W.mg_none_of X G z2
  have y3 := PySem.W.mg_none_of X G z3
  have y4 := PySem.W.mg_none_of X G z4
  have y5 := PySem.W.mg_none_of X G z5
  have y6 := PySem.W.mg_none_of X G z6
  have y7 := PySem.W.mg_none_of X G z7
  have Fi := fun_mk (st := sInit) li ci ki
  have bi := Fi.binds (ps := ["self", "wall"]) fun _ _ _ _ _ _ us hl => match us, hl with | [_, _], _ => rfl
  have Fj := fun_mk (st := sInitN) lj cj kj
  have bj := Fj.binds (ps := ["self", "name"]) fun _ _ _ _ _ _ us hl => match us, hl with | [_, _], _ => rfl
  have dD : ∀ i, i < 15 → PySem.W.hasDictIn K (([A0, A1, A2, A3, A4, A5, A6, A7, A8, A9, A10, A11, A12, A13, A14] : List Addr).getD i 0) = true := all15 d_A0 d_A1 d_A2 d_A3 d_A4 d_A5 d_A6 d_A7 d_A8 d_A9 d_A10 d_A11 d_A12 d_A13 d_A14
  have dT : ∀ i, i < 15 → PySem.W.typeIn K (.ref (([A0, A1, A2, A3, A4, A5, A6, A7, A8, A9, A10, A11, A12, A13, A14] : List Addr).getD i 0)) = some (.type "type") := all15 t_A0 t_A1 t_A2 t_A3 t_A4 t_A5 t_A6 t_A7 t_A8 t_A9 t_A10 t_A11 t_A12 t_A13 t_A14
  have Z : C15 K mg (fun i => ([A0, A1, A2, A3, A4, A5, A6, A7, A8, A9, A10, A11, A12, A13, A14] : List Addr).getD i 0) HE fi fj := { g0 := PySem.W.mg_of X G g_A0, g1 := PySem.W.mg_of X G g_A1, g2 := PySem.W.mg_of X G g_A2, g3 := PySem.W.mg_of X G g_A3, g4 := PySem.W.mg_of X G g_A4, g5 := PySem.W.mg_of X G g_A5, g6 := PySem.W.mg_of X G g_A6, g7 := PySem.W.mg_of X G g_A7, g8 := PySem.W.mg_of X G g_A8, g9 := PySem.W.mg_of X G g_A9, g10 := PySem.W.mg_of X G g_A10, g11 := PySem.W.mg_of X G g_A11, g12 := PySem.W.mg_of X G g_A12, g13 := PySem.W.mg_of X G g_A13, g14 := PySem.W.mg_of X G g_A14, x0 := x_A0, k0 := k_A0, x1 := x_A1, k1 := k_A1, x2 := x_A2, k2 := k_A2, x3 := x_A3, k3 := k_A3, x4 := x_A4, k4 := k_A4, x5 := x_A5, k5 := k_A5, x6 := x_A6, k6 := k_A6, x7 := x_A7, k7 := k_A7, x8 := x_A8, k8 := k_A8, x9 := x_A9, k9 := k_A9, x10 := x_A10, k10 := k_A10, x11 := x_A11, k11 := k_A11, x12 := x_A12, k12 := k_A12, gHE := PySem.W.mg_of X G g_HE, ex := all15 ⟨ga_A0, gt_A0, b_A0, d_A0, cl_A0, q_hn, q_htk, mo_A0⟩ ⟨ga_A1, gt_A1, b_A1, d_A1, cl_A1, q_hn, q_htk, mo_A1⟩ ⟨ga_A2, gt_A2, b_A2, d_A2, cl_A2, q_hn, q_htk, mo_A2⟩ ⟨ga_A3, gt_A3, b_A3, d_A3, cl_A3, q_hn, q_htk, mo_A3⟩ ⟨ga_A4, gt_A4, b_A4, d_A4, cl_A4, q_hn, q_htk, mo_A4⟩ ⟨ga_A5, gt_A5, b_A5, d_A5, cl_A5, q_hn, q_htk, mo_A5⟩ ⟨ga_A6, gt_A6, b_A6, d_A6, cl_A6, q_hn, q_htk, mo_A6⟩ ⟨ga_A7, gt_A7, b_A7, d_A7, cl_A7, q_hn, q_htk, mo_A7⟩ ⟨ga_A8, gt_A8, b_A8, d_A8, cl_A8, q_hn, q_htk, mo_A8⟩ ⟨ga_A9, gt_A9, b_A9, d_A9, cl_A9, q_hn, q_htk, mo_A9⟩ ⟨ga_A10, gt_A10, b_A10, d_A10, cl_A10, q_hn, q_htk, mo_A10⟩ ⟨ga_A11, gt_A11, b_A11, d_A11, cl_A11, q_hn, q_htk, mo_A11⟩ ⟨ga_A12, gt_A12, b_A12, d_A12, cl_A12, q_hn, q_htk, mo_A12⟩ ⟨ga_A13, gt_A13, b_A13, d_A13, cl_A13, q_hn, q_htk, mo_A13⟩ ⟨ga_A14, gt_A14, b_A14, d_A14, cl_A14, q_hn, q_htk, mo_A14⟩, own := fun i j hi hj => tbl_own tb hi hj (dD j hj) (dT j hj), he := fun i hi => tbl_he tb hi d_HE t_HE, ve := fun i hi => HopR.kit_blt (by decide +kernel) (tbl_at tb hi).2.2.2.1, ze := fun i hi => HopR.kit_blt (by decide +kernel) (tbl_at tb hi).2.2.2.2.1, ie := fun i hi => HopR.kit_blt (by decide +kernel) (tbl_at tb hi).2.2.2.2.2.1, ke := fun i hi => HopR.kit_blt (by decide +kernel) (tbl_at tb hi).2.2.2.2.2.2, W := ⟨nwi, ovi, mi, ti, sai, tki, nfi, k_A13, t_A13, ⟨ga_A13, gt_A13, b_A13, d_A13⟩⟩, N := ⟨nwj, ovj, mj, tj, saj, tkj, nfj, k_A14, t_A14, ⟨ga_A14, gt_A14, b_A14, d_A14⟩⟩, vI := vI, vK := vK }
  have DD : DJ K mg fi fj _ _ fw fp fm fk fu fq fr _ _ _ _ _ _ _ := ⟨Nw, Np, Nm, Nk, Nu, Nq, Nr, Fi, bi, Fj, bj⟩
  have T : TxtN mg := ⟨y0, y1, y2, y3, y4, y5, y6, y7⟩
  exact ⟨PySem.W.fnOf "law" "law" (defArgs sLaw) (defBody sLaw) (defScope sLaw) .none kVL dcL pmL anL cdL ctL, fun s v => .of_eq rfl, fun base _ _ => ok_law (fun_mk (st := sLaw) lL cL kL) DD T Z⟩
end Hop
open PySem PySem.W PyProof.Rows in
set_option maxRecDepth 100000 in
set_option maxHeartbeats 0 in
theorem PySem.Challenge.cw_hopline_k06_refusals_holds : PySem.Challenge.rw_hopline_k06_refusals.Holds := by
  w_on; o_law; k_head; (case hw => w_witness2)
  k_fill
  refine HopR.walk_ofG (l := PySem.Challenge.rw_hopline_k06_refusals) (n := 63) (k := 8) (x := "_law_script") (sp := fun w => Hop.spLaw _) rfl (by decide) rfl ⟨rfl, by decide, by decide⟩ (fun w h Y => PySem.W.kIn_of Y) ?F (fun _ _ a ns hl _ _ hS => ⟨a, ns, rfl, hS, hl, fun _ => rfl⟩)
  case F =>
    intro w mg fa h KX G hmg
    refine' Hop.all_mk KX G hmg ?u_aw ?u_lw ?u_cw ?u_kw ?u_ap ?u_lp ?u_cp ?u_kp ?u_am ?u_lm ?u_cm ?u_km ?u_ak ?u_lk ?u_ck ?u_kk ?u_au ?u_lu ?u_cu ?u_ku ?u_aq ?u_lq ?u_cq ?u_kq ?u_ar ?u_lr ?u_cr ?u_kr ?u_aL ?u_lL ?u_cL ?u_kL ?u_z0 ?u_z1 ?u_z2 ?u_z3 ?u_z4 ?u_z5 ?u_z6 ?u_z7 ?u_g_A0 ?u_g_A1 ?u_g_A2 ?u_g_A3 ?u_g_A4 ?u_g_A5 ?u_g_A6 ?u_g_A7 ?u_g_A8 ?u_g_A9 ?u_g_A10 ?u_g_A11 ?u_g_A12 ?u_g_A13 ?u_g_A14 ?u_g_HE ?u_d_A0 ?u_t_A0 ?u_d_A1 ?u_t_A1 ?u_d_A2 ?u_t_A2 ?u_d_A3 ?u_t_A3 ?u_d_A4 ?u_t_A4 ?u_d_A5 ?u_t_A5 ?u_d_A6 ?u_t_A6 ?u_d_A7 ?u_t_A7 ?u_d_A8 ?u_t_A8 ?u_d_A9 ?u_t_A9 ?u_d_A10 ?u_t_A10 ?u_d_A11 ?u_t_A11 ?u_d_A12 ?u_t_A12 ?u_d_A13 ?u_t_A13 ?u_d_A14 ?u_t_A14 ?u_d_HE ?u_t_HE ?u_b_A0 ?u_b_A1 ?u_b_A10 ?u_b_A11 ?u_b_A12 ?u_b_A13 ?u_b_A14 ?u_b_A2 ?u_b_A3 ?u_b_A4 ?u_b_A5 ?u_b_A6 ?u_b_A7 ?u_b_A8 ?u_b_A9 ?u_q_hn ?u_q_htk ?u_x_A0 ?u_k_A0 ?u_ga_A0 ?u_gt_A0 ?u_cl_A0 ?u_mo_A0 ?u_x_A1 ?u_k_A1 ?u_ga_A1 ?u_gt_A1 ?u_cl_A1 ?u_mo_A1 ?u_x_A2 ?u_k_A2 ?u_ga_A2 ?u_gt_A2 ?u_cl_A2 ?u_mo_A2 ?u_x_A3 ?u_k_A3 ?u_ga_A3 ?u_gt_A3 ?u_cl_A3 ?u_mo_A3 ?u_x_A4 ?u_k_A4 ?u_ga_A4 ?u_gt_A4 ?u_cl_A4 ?u_mo_A4 ?u_x_A5 ?u_k_A5 ?u_ga_A5 ?u_gt_A5 ?u_cl_A5 ?u_mo_A5 ?u_x_A6 ?u_k_A6 ?u_ga_A6 ?u_gt_A6 ?u_cl_A6 ?u_mo_A6 ?u_x_A7 ?u_k_A7 ?u_ga_A7 ?u_gt_A7 ?u_cl_A7 ?u_mo_A7 ?u_x_A8 ?u_k_A8 ?u_ga_A8 ?u_gt_A8 ?u_cl_A8 ?u_mo_A8 ?u_x_A9 ?u_k_A9 ?u_ga_A9 ?u_gt_A9 ?u_cl_A9 ?u_mo_A9 ?u_x_A10 ?u_k_A10 ?u_ga_A10 ?u_gt_A10 ?u_cl_A10 ?u_mo_A10 ?u_x_A11 ?u_k_A11 ?u_ga_A11 ?u_gt_A11 ?u_cl_A11 ?u_mo_A11 ?u_k_A12 ?u_ga_A12 ?u_gt_A12 ?u_cl_A12 ?u_mo_A12 ?u_k_A13 ?u_ga_A13 ?u_gt_A13 ?u_cl_A13 ?u_mo_A13 ?u_k_A14 ?u_ga_A14 ?u_gt_A14 ?u_cl_A14 ?u_mo_A14 ?u_x_A12 ?u_mi ?u_ti ?u_li ?u_ci ?u_ki ?u_nwi ?u_ovi ?u_sai ?u_tki ?u_nfi ?u_mj ?u_tj ?u_lj ?u_cj ?u_kj ?u_nwj ?u_ovj ?u_saj ?u_tkj ?u_nfj ?u_vI ?u_vK ?u_tb
    (case u_aw => k_is)
    (case u_lw => k_is)
    (case u_cw => k_is)
    (case u_kw => k_is)
    (case u_ap => k_is)
    (case u_lp => k_is)
    (case u_cp => k_is)
    (case u_kp => k_is)
    (case u_am => k_is)
    (case u_lm => k_is)
    (case u_cm => k_is)
    (case u_km => k_is)
    (case u_ak => k_is)
    (case u_lk => k_is)
    (case u_ck => k_is)
    (case u_kk => k_is)
    (case u_au => k_is)
    (case u_lu => k_is)
    (case u_cu => k_is)
    (case u_ku => k_is)
    (case u_aq => k_is)
    (case u_lq => k_is)
    (case u_cq => k_is)
    (case u_kq => k_is)
    (case u_ar => k_is)
    (case u_lr => k_is)
    (case u_cr => k_is)
    (case u_kr => k_is)
    (case u_aL => k_is)
    (case u_lL => k_is)
    (case u_cL => k_is)
    (case u_kL => k_is)
    (case u_z0 => k_is)
    (case u_z1 => k_is)
    (case u_z2 => k_is)
    (case u_z3 => k_is)
    (case u_z4 => k_is)
    (case u_z5 => k_is)
    (case u_z6 => k_is)
    (case u_z7 => k_is)
    (case u_g_A0 => k_is)
    (case u_g_A1 => k_is)
    (case u_g_A2 => k_is)
    (case u_g_A3 => k_is)
    (case u_g_A4 => k_is)
    (case u_g_A5 => k_is)
    (case u_g_A6 => k_is)
    (case u_g_A7 => k_is)
    (case u_g_A8 => k_is)
    (case u_g_A9 => k_is)
    (case u_g_A10 => k_is)
    (case u_g_A11 => k_is)
    (case u_g_A12 => k_is)
    (case u_g_A13 => k_is)
    (case u_g_A14 => k_is)
    (case u_g_HE => k_is)
    (case u_d_A0 => k_is)
    (case u_t_A0 => k_is)
    (case u_d_A1 => k_is)
    (case u_t_A1 => k_is)
    (case u_d_A2 => k_is)
    (case u_t_A2 => k_is)
    (case u_d_A3 => k_is)
    (case u_t_A3 => k_is)
    (case u_d_A4 => k_is)
    (case u_t_A4 => k_is)
    (case u_d_A5 => k_is)
    (case u_t_A5 => k_is)
    (case u_d_A6 => k_is)
    (case u_t_A6 => k_is)
    (case u_d_A7 => k_is)
    (case u_t_A7 => k_is)
    (case u_d_A8 => k_is)
    (case u_t_A8 => k_is)
    (case u_d_A9 => k_is)
    (case u_t_A9 => k_is)
    (case u_d_A10 => k_is)
    (case u_t_A10 => k_is)
    (case u_d_A11 => k_is)
    (case u_t_A11 => k_is)
    (case u_d_A12 => k_is)
    (case u_t_A12 => k_is)
    (case u_d_A13 => k_is)
    (case u_t_A13 => k_is)
    (case u_d_A14 => k_is)
    (case u_t_A14 => k_is)
    (case u_d_HE => k_is)
    (case u_t_HE => k_is)
    (case u_b_A0 => k_is)
    (case u_b_A1 => k_is)
    (case u_b_A10 => k_is)
    (case u_b_A11 => k_is)
    (case u_b_A12 => k_is)
    (case u_b_A13 => k_is)
    (case u_b_A14 => k_is)
    (case u_b_A2 => k_is)
    (case u_b_A3 => k_is)
    (case u_b_A4 => k_is)
    (case u_b_A5 => k_is)
    (case u_b_A6 => k_is)
    (case u_b_A7 => k_is)
    (case u_b_A8 => k_is)
    (case u_b_A9 => k_is)
    (case u_q_hn => k_is)
    (case u_q_htk => k_is)
    (case u_x_A0 => k_exc)
    (case u_k_A0 => k_is)
    (case u_ga_A0 => k_is)
    (case u_gt_A0 => k_is)
    (case u_cl_A0 => k_is)
    (case u_mo_A0 => k_is)
    (case u_x_A1 => k_exc)
    (case u_k_A1 => k_is)
    (case u_ga_A1 => k_is)
    (case u_gt_A1 => k_is)
    (case u_cl_A1 => k_is)
    (case u_mo_A1 => k_is)
    (case u_x_A2 => k_exc)
    (case u_k_A2 => k_is)
    (case u_ga_A2 => k_is)
    (case u_gt_A2 => k_is)
    (case u_cl_A2 => k_is)
    (case u_mo_A2 => k_is)
    (case u_x_A3 => k_exc)
    (case u_k_A3 => k_is)
    (case u_ga_A3 => k_is)
    (case u_gt_A3 => k_is)
    (case u_cl_A3 => k_is)
    (case u_mo_A3 => k_is)
    (case u_x_A4 => k_exc)
    (case u_k_A4 => k_is)
    (case u_ga_A4 => k_is)
    (case u_gt_A4 => k_is)
    (case u_cl_A4 => k_is)
    (case u_mo_A4 => k_is)
    (case u_x_A5 => k_exc)
    (case u_k_A5 => k_is)
    (case u_ga_A5 => k_is)
    (case u_gt_A5 => k_is)
    (case u_cl_A5 => k_is)
    (case u_mo_A5 => k_is)
    (case u_x_A6 => k_exc)
    (case u_k_A6 => k_is)
    (case u_ga_A6 => k_is)
    (case u_gt_A6 => k_is)
    (case u_cl_A6 => k_is)
    (case u_mo_A6 => k_is)
    (case u_x_A7 => k_exc)
    (case u_k_A7 => k_is)
    (case u_ga_A7 => k_is)
    (case u_gt_A7 => k_is)
    (case u_cl_A7 => k_is)
    (case u_mo_A7 => k_is)
    (case u_x_A8 => k_exc)
    (case u_k_A8 => k_is)
    (case u_ga_A8 => k_is)
    (case u_gt_A8 => k_is)
    (case u_cl_A8 => k_is)
    (case u_mo_A8 => k_is)
    (case u_x_A9 => k_exc)
    (case u_k_A9 => k_is)
    (case u_ga_A9 => k_is)
    (case u_gt_A9 => k_is)
    (case u_cl_A9 => k_is)
    (case u_mo_A9 => k_is)
    (case u_x_A10 => k_exc)
    (case u_k_A10 => k_is)
    (case u_ga_A10 => k_is)
    (case u_gt_A10 => k_is)
    (case u_cl_A10 => k_is)
    (case u_mo_A10 => k_is)
    (case u_x_A11 => k_exc)
    (case u_k_A11 => k_is)
    (case u_ga_A11 => k_is)
    (case u_gt_A11 => k_is)
    (case u_cl_A11 => k_is)
    (case u_mo_A11 => k_is)
    (case u_k_A12 => k_is)
    (case u_ga_A12 => k_is)
    (case u_gt_A12 => k_is)
    (case u_cl_A12 => k_is)
    (case u_mo_A12 => k_is)
    (case u_k_A13 => k_is)
    (case u_ga_A13 => k_is)
    (case u_gt_A13 => k_is)
    (case u_cl_A13 => k_is)
    (case u_mo_A13 => k_is)
    (case u_k_A14 => k_is)
    (case u_ga_A14 => k_is)
    (case u_gt_A14 => k_is)
    (case u_cl_A14 => k_is)
    (case u_mo_A14 => k_is)
    (case u_x_A12 => k_exc)
    (case u_mi => k_is)
    (case u_ti => k_is)
    (case u_li => k_is)
    (case u_ci => k_is)
    (case u_ki => k_is)
    (case u_nwi => first | kx_is | k_is | kernel_rfl | decide +kernel)
    (case u_ovi => first | kx_is | k_is | kernel_rfl | decide +kernel)
    (case u_sai => k_is)
    (case u_tki => first | kx_is | k_is | kernel_rfl | decide +kernel)
    (case u_nfi => k_is)
    (case u_mj => k_is)
    (case u_tj => k_is)
    (case u_lj => k_is)
    (case u_cj => k_is)
    (case u_kj => k_is)
    (case u_nwj => first | kx_is | k_is | kernel_rfl | decide +kernel)
    (case u_ovj => first | kx_is | k_is | kernel_rfl | decide +kernel)
    (case u_saj => k_is)
    (case u_tkj => first | kx_is | k_is | kernel_rfl | decide +kernel)
    (case u_nfj => k_is)
    (case u_vI => first | kx_is | k_is | kernel_rfl | decide +kernel)
    (case u_vK => first | kx_is | k_is | kernel_rfl | decide +kernel)
    (case u_tb => first | kernel_rfl | decide +kernel | rfl)
