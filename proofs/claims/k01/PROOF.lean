import PyProof.Rows.All
import Wide.All
import OpenK.AllK
import Wide.FinOn
import HandS.ForMost
import HandS.Wide
import HandS.Style
import HandS.RevTup
import HandS.Rev
import HandS.IsInst
import HandS.More
import HandS.Conv
import HandS.Defaults
import HandS.ForExc
import HandS.OwnEq
import HandS.Flow
import PyProof.ListStr
import HandS.Codes
import HandS.Exc
import HandS.ExcIs
import HandS.TryOnly
import HandS.ExcOwn
import HandS.WordsExc
import PySem.Challenge.RW_hopline_k01_parts_made
import HandS.MakeKw
import HandS.MakeKwOnly

set_option Elab.async false
set_option linter.all false
set_option maxRecDepth 100000
namespace HopR
open PySem PySem.Spec PyProof.Rows L2
/-! ### numbers: // by any number but 0 -/
def CDivWN (_ j : Int) : Prop := j ≠ 0 ∧ j.natAbs.log2 < 9000
theorem op_fdivWN {X : Cx} : OpR X (binaryOp .FloorDiv) (rI CDivWN fun i j => .int (i.fdiv j)) := opI fun i j _ _ _ _ _ hc q => floordiv_int hc.1 q (.inl (PyProof.noPylong_of_log2 hc.2))
theorem gcd_fmod (a b : Int) : Int.gcd b (a.fmod b) = Int.gcd a b := by
  rw [Int.fmod_def, Int.mul_comm, Int.gcd_sub_mul_right_right, Int.gcd_comm]
theorem fmod_less (a : Int) {b : Int} (h : b ≠ 0) : (a.fmod b).natAbs < b.natAbs := by
  have h1 := Int.emod_nonneg a h
  have h2 := Int.emod_lt a h
  rw [Int.fmod_eq_emod]
  by_cases h3 : 0 ≤ b ∨ b ∣ a
  · rw [if_pos h3]
    omega
  · rw [if_neg h3]
    have h4 : a % b ≠ 0 := fun e => h3 (.inr (Int.dvd_of_emod_eq_zero e))
    have h5 : b < 0 := by
      refine Int.not_le.mp fun e => h3 (.inl e)
    omega
/-! ### fractions -/
theorem low_num {t b : Int} (h : b ≠ 0) : (t.fdiv (if b < 0 then -(Int.gcd t b : Int) else (Int.gcd t b : Int))) = (Rat.divInt t b).num := by
  have hd : ((Int.gcd t b : Nat) : Int) ∣ t := Int.gcd_dvd_left ..
  rw [Rat.num_divInt, Int.gcd_comm b t]
  by_cases hb : b < 0
  · rw [if_pos hb, Int.fdiv_eq_ediv_of_dvd (by rw [Int.neg_dvd]; exact hd), Int.ediv_neg, Int.sign_eq_neg_one_of_neg hb, Int.neg_one_mul, Int.neg_ediv_of_dvd hd]
  · have hb2 : 0 < b := by omega
    rw [if_neg hb, Int.fdiv_eq_ediv_of_dvd hd, Int.sign_eq_one_of_pos hb2, Int.one_mul]
theorem low_den {t b : Int} (h : b ≠ 0) : (b.fdiv (if b < 0 then -(Int.gcd t b : Int) else (Int.gcd t b : Int))) = ((Rat.divInt t b).den : Int) := by
  have hd : ((Int.gcd t b : Nat) : Int) ∣ b := Int.gcd_dvd_right ..
  rw [Rat.den_divInt, if_neg h, Int.gcd_comm b t]
  rw [Int.natCast_ediv]
  by_cases hb : b < 0
  · rw [if_pos hb, Int.fdiv_eq_ediv_of_dvd (by rw [Int.neg_dvd]; exact hd), Int.ediv_neg, Int.ofNat_natAbs_of_nonpos (by omega), Int.neg_ediv_of_dvd hd]
  · rw [if_neg hb, Int.fdiv_eq_ediv_of_dvd hd, Int.natAbs_of_nonneg (by omega)]
theorem gcd_pos {t b : Int} (h : b ≠ 0) : 0 < Int.gcd t b := Int.gcd_pos_of_ne_zero_right _ h
/-- both numbers of the fraction are below 2 ^ n -/
def Sz (n : Nat) (q : Rat) : Prop := q.num.natAbs < 2 ^ n ∧ q.den < 2 ^ n
theorem Sz.mono {n m : Nat} {q : Rat} (h : Sz n q) (hm : n ≤ m) : Sz m q := ⟨Nat.lt_of_lt_of_le h.1 (Nat.pow_le_pow_right (by decide) hm), Nat.lt_of_lt_of_le h.2 (Nat.pow_le_pow_right (by decide) hm)⟩
theorem sz_divInt {t b : Int} {n : Nat} (h : b ≠ 0) (ht : t.natAbs < 2 ^ n) (hb : b.natAbs < 2 ^ n) : Sz n (Rat.divInt t b) := by
  have g := gcd_pos (t := t) h
  constructor
  · rw [Rat.num_divInt]
    refine Nat.lt_of_le_of_lt (Int.natAbs_ediv_le_natAbs _ _) ?_
    rw [Int.natAbs_mul]
    rcases Int.lt_or_gt_of_ne h with h | h
    · rw [Int.sign_eq_neg_one_of_neg h]; simpa using ht
    · rw [Int.sign_eq_one_of_pos h]; simpa using ht
  · rw [Rat.den_divInt, if_neg h]
    exact Nat.lt_of_le_of_lt (Nat.div_le_self _ _) hb
theorem den_ne (q : Rat) : ((q.den : Nat) : Int) ≠ 0 := by
  have := q.den_nz
  omega
theorem pos_two (n : Nat) : 0 < 2 ^ n := Nat.pow_pos (by decide)
theorem two_lt {a b : Nat} {n : Nat} (ha : a < 2 ^ n) (hb : b < 2 ^ n) : a + b < 2 ^ (n + 1) := by
  rw [Nat.pow_succ]
  omega
theorem add_eq (q r : Rat) : q + r = Rat.divInt (q.num * r.den + r.num * q.den) ((q.den : Int) * (r.den : Int)) := by
  conv => lhs; rw [← Rat.num_divInt_den q, ← Rat.num_divInt_den r]
  exact Rat.divInt_add_divInt _ _ (den_ne q) (den_ne r)
theorem sub_eq (q r : Rat) : q - r = Rat.divInt (q.num * r.den - r.num * q.den) ((q.den : Int) * (r.den : Int)) := by
  conv => lhs; rw [← Rat.num_divInt_den q, ← Rat.num_divInt_den r]
  exact Rat.divInt_sub_divInt _ _ (den_ne q) (den_ne r)
theorem mul_eq (q r : Rat) : q * r = Rat.divInt (q.num * r.num) ((q.den : Int) * (r.den : Int)) := by
  conv => lhs; rw [← Rat.num_divInt_den q, ← Rat.num_divInt_den r]
  exact Rat.divInt_mul_divInt _ _
theorem div_eq (q r : Rat) : q / r = Rat.divInt (q.num * r.den) ((q.den : Int) * r.num) := by
  rw [Rat.div_def]
  conv => lhs; rw [← Rat.num_divInt_den q, ← Rat.num_divInt_den r]
  rw [Rat.inv_divInt]
  exact Rat.divInt_mul_divInt _ _
end HopR

set_option Elab.async false
set_option linter.all false
set_option maxRecDepth 100000
namespace HopR
open PySem PySem.Spec PyProof.Rows L2
/-! ### an exception that is kept behind its suite -/
/-- the exception at a, of the class cls, its dict d, kept as a value -/
def ExH (cls : Value) (d : Option Addr) (a : Addr) : HO := .ext fun h => ∃ (oe : Obj) (vs : Array Value), h.get? a = some oe ∧ Zc cls d oe ∧ oe.data = .fields vs
theorem exH_ok {P : Program} {w : World} {H : Hp} {h : Heap} {a : Addr} {cls : Value} {d : Option Addr} {oe : Obj} {vs : Array Value} (e : h.get? a = some oe) (z : Zc cls d oe) (q : oe.data = .fields vs) : ObjOk P w H h a (ExH cls d a) :=
  ⟨⟨oe, vs, e, z, q⟩, ⟨oe, e⟩, fun _ _ ⟨o, v, q, r⟩ k => ⟨o, v, k o q, r⟩⟩
section
variable {X : Cx} {pins : List (Addr × Obj)} {σ σ0 : L2.St} {H H0 : Hp} {s sI : Shared} {a : Addr} {oe : Obj} {vs : Array Value} {o : HO}
/-- an object that came behind the entry is tracked from now on -/
theorem track (I : Inv X pins σ H s) (J : Inv X pins σ0 H0 sI) (hI : sI.heap.get? a = none) (hx : X.ex = []) (na : H a = none) (nL : a ≠ X.env.locals) (ha : s.heap.get? a = some oe) (hd : oe.data = .fields vs) (new : ObjOk X.prog X.w (upd H a o) s.heap a o) : Inv X pins σ (upd H a o) s := by
  have n0 : ∀ b u, X.s_0.heap.get? b = some u → b ≠ a := by
    intro b u e z
    subst z
    obtain ⟨u2, q⟩ := J.base.there b u e (by rw [hx]; exact fun z => nomatch z)
    rw [hI] at q
    cases q
  have nN : ∀ {b : Addr} {u : HO}, H b = some u → b ≠ a := fun e => ne_of_none e na
  have bs := I.base
  refine ⟨I.ok, I.os, I.bare, ⟨bs.keep, bs.slot, ?_, bs.there, ?_, ?_, ?_⟩, I.loc, I.cell, ?_, ?_, ?_, ?_, I.len⟩
  · intro b u e n q
    rw [upd_ne (n0 b u e)]
    exact bs.free b u e n q
  · intro b xs e
    have q := bs.tups b xs e
    rw [upd_ne (nN q)]
    exact q
  · intro b ob u e
    have q := bs.frzs b ob u e
    rw [upd_ne (nN q)]
    exact q
  · intro b ps e
    obtain ⟨m, q⟩ := bs.tbls b ps e
    exact ⟨m, by rw [upd_ne (nN q)]; exact q⟩
  · rw [upd_ne nL.symm]
    exact I.free
  · intro x c e
    have nc : c ≠ a := by
      intro z
      subst z
      obtain ⟨v, oc, e1, e2⟩ := I.cell x c e
      rw [ha] at e1
      cases e1
      rw [hd] at e2
      cases e2
    rw [upd_ne nc]
    exact I.freeC x c e
  · intro p hp
    have np : p.1 ≠ a := by
      intro z
      have q := (J.pin p hp).1
      rw [z, hI] at q
      cases q
    obtain ⟨e, n, r⟩ := I.pin p hp
    exact ⟨e, by rw [upd_ne np]; exact n, r⟩
  · intro b u e
    by_cases hb : b = a
    · subst hb
      rw [upd_same] at e
      cases e
      exact new
    · rw [upd_ne hb] at e
      refine (I.hok b u e).stay (fun c v _ q => q) (fun c q => ?_) (fun c xs q => ?_)
      · rw [upd_ne (nN q)]
        exact q
      · rw [upd_ne (nN q)]
        exact q
end
theorem fly_keeps {B h h' : Heap} {l : List Env} {a : Addr} {Z : Obj → Prop} (x : HandSPX.FlyingZ B l a Z h) (k : ∀ b o, h.get? b = some o → h'.get? b = some o) : HandSPX.FlyingZ B l a Z h' := by
  obtain ⟨x1, x2, x3, oe, vs, T, oT, ts, e1, e2, e3, e4, e5, e6, e7, e8, e9⟩ := x
  exact ⟨fun b o e => k b o (x1 b o e), x2, x3.of_keeps (fun b o e _ => ⟨o, k b o e, rfl⟩), oe, vs, T, oT, ts, k _ _ e1, e2, e3, e4, e5, e6, k _ _ e7, e8, e9⟩
/-- the clause's test takes the exceptions whose class has m -/
def Tests (X : Cx) (t : Expr) (m : Value → Prop) : Prop :=
  ∀ (a : Addr) (oe : Obj) (pn pins : List (Addr × Obj)) (σ : L2.St) (H : Hp) (s : Shared) (cls : Value) (Q : Value → Shared → Prop) (E : Value → Shared → Prop), Inv (X.suite a ((a, oe) :: pn)) pins σ H s → s.heap.get? a = some oe → oe.cls = cls → m cls →
    (∀ (c : Value) (h' : Heap), (∀ b o, s.heap.get? b = some o → h'.get? b = some o) → PySem.W.Looks (model X.prog X.w) h' (excMatches (.ref a) c) true → Q c { s with heap := h' }) → wpAny (model X.prog X.w) (X.A.mark (some (.ref a))) (eval t X.env) Q E s
theorem ld_nm {X : Cx} {x : Str} {c : Value} {pins : List (Addr × Obj)} {σ : L2.St} {H : Hp} {s : Shared} {Q : Value → Shared → Prop} {E : Value → Shared → Prop} {p : Pos} (I : Inv X pins σ H s) (hc : Names X x c) (q : Q c s) : wpAny (model X.prog X.w) X.A (eval (.Name x p) X.env) Q E s := by
  obtain ⟨g, nd, h | ⟨h1, h2, h3⟩⟩ := hc
  · exact ld_glob I g h q nd
  · exact ld_blt I g h1 h2 q h3 nd
theorem ty_looks {P : Program} {w : World} {h : Heap} {a : Addr} {oe : Obj} {cls : Value} (e : h.get? a = some oe) (c : oe.cls = cls) : PySem.W.Looks (model P w) h (typeOf (.ref a)) cls := by
  intro A Q E s k q
  exact wpAny_typeOf_ref (k _ _ e) (by rw [c]; exact q)
theorem tests_one {X : Cx} {x : Str} {c : Value} {p : Pos} (hc : Names X x c) : Tests X (.Name x p) fun cls => PySem.W.exmOne X.K cls c = some true := by
  intro a oe pn pins σ H s cls Q E I ha hcl hm k
  exact ld_nm (X := X.suite a ((a, oe) :: pn)) I hc (k c s.heap (fun _ _ z => z) (PySem.W.exm_one I.kIn (ty_looks ha hcl) hm))
theorem tests_two {X : Cx} {x1 x2 : Str} {c1 c2 : Value} {p1 p2 pos : Pos} {u} (h1 : Names X x1 c1) (h2 : Names X x2 c2) : Tests X (.Tuple [.Name x1 p1, .Name x2 p2] u pos) fun cls => PySem.W.exmAny X.K cls [c1, c2] = some true := by
  intro a oe pn pins σ H s cls Q E I ha hcl hm k
  refine wpAny_Tuple_spliced ?_
  refine Calls.spliced_cons (ld_nm (X := X.suite a ((a, oe) :: pn)) I h1 ?_)
  refine Calls.spliced_cons (ld_nm (X := X.suite a ((a, oe) :: pn)) I h2 (Calls.spliced_nil ⟨by show 2 ≤ sizeLine; decide, ?_⟩))
  have hk : ∀ b o, s.heap.get? b = some o → (s.heap.push { cls := .type "tuple", data := .seq [c1, c2].toArray }).get? b = some o := fun b o e => Heap.get?_push_of_some _ e
  refine k (.ref s.heap.objs.size) _ hk ?_
  exact PySem.W.exm_tup2 (fun b o e => hk b o (I.kIn b o e)) (ty_looks (hk _ _ ha) hcl) (Heap.get?_push_size _ rfl) hm
/-- what 'except .. as n: v = n' wishes of an exception of the body: it is taken, and kept in slot j; slot i, n's, is empty behind it -/
def wHeld (m : Value → Prop) (i j : Nat) (D : Ends) : WX := fun cls d σ H => m cls ∧ ∀ a, H a = none → D.nx (((σ.set i (some (.ref a))).set j (some (.ref a))).set i none) (upd H a (ExH cls d a))
section
variable {X : Cx} {n v : Str} {i j : Nat} {t : Expr} {m : Value → Prop} {body : List Stmt} {pos pos' p1 p2 p3 : Pos} {tb : WX → TS}
theorem ps_try_held (hs : X.stack = X.env :: X.outer) (hf : X.env.frame = some X.env.locals) (hN : X.N.Nodup) (hi : X.N[i]? = some n) (hj : X.N[j]? = some v) (hln : X.env.kindOf n = some .local) (hlv : X.env.kindOf v = some .local) (hx : X.ex = []) (ht : Tests X t m)
    (hb : ∀ (W : WX) (pn : List (Addr × Obj)) (xe : Value → Shared → Prop), Takes (X.tr pn xe) W → PassesOwn (model X.prog X.w) X.A X.env xe → PSs (X.tr pn xe) body (tb W))
    (hsu : ∀ (a : Addr) (oe : Obj) (pn : List (Addr × Obj)), PSs (X.suite a ((a, oe) :: pn)) [.Assign [.Name v p1] (.Name n p2) p3] (tAsg (tVar i) (gName j))) :
    PS X (.Try body [.ExceptHandler (some t) (some n) [.Assign [.Name v p1] (.Name n p2) p3] pos'] [] [] pos) (fun D σ H => tb (wHeld m i j D) D σ H) := by
  constructor
  intro pins s σ H D I h
  have ok := I.ok
  have frm : X.A.frames = some (X.env :: X.outer) := ok.frames.trans (congrArg some hs)
  have body_ := hb (wHeld m i j D) (X.pn ++ pins) (fun e s₁ => wpAny (model X.prog X.w) X.A (noteFrame e X.env) (fun _ s₂ => wpAny (model X.prog X.w) X.A (setFlight e none) (fun _ s₃ => wpAny (model X.prog X.w) X.A (handleBy e X.env [.ExceptHandler (some t) (some n) [.Assign [.Name v p1] (.Name n p2) p3] pos']) (SP X pins D) X.xe s₃) X.xe s₂) X.xe s₁) ?caught PassesOwn.looking
  · refine wpAny_Try_except (wpAny_mono (body_.run [] s σ H D (I.toTry _) h) ?_ fun _ _ z => z)
    intro f s1 hsp
    match f, hsp with
    | .next, ⟨σ', H', J', q⟩ => exact wpAny_execs_nil ⟨σ', H', J'.ofTry ok, q⟩
    | .brk, ⟨σ', H', J', q⟩ => exact ⟨σ', H', J'.ofTry ok, q⟩
    | .cont, ⟨σ', H', J', q⟩ => exact ⟨σ', H', J'.ofTry ok, q⟩
    | .ret u, ⟨v, σ', H', J', r, q⟩ => exact ⟨v, σ', H', J'.ofTry ok, r, q⟩
  case caught =>
    rintro u s' ⟨a, B, sI, pins', σ', H', cls, d, rfl, J', nb, up, sky, na, os, ag, hm, hk⟩
    have J : Inv X pins σ' H' sI := J'.ofTry ok
    have sk2 : Sky B (X.env :: X.outer) a (Zc cls d) X.env.locals s'.heap := hs ▸ sky
    show wpAny (model X.prog X.w) X.A (noteFrame (.ref a) X.env) _ _ _
    refine Sky.land Zc.steady frm hf sk2 fun h3 fl3 up3 => ?_
    have notF : ∀ {g : Heap}, HandSPX.FlyingZ B (X.env :: X.outer) a (Zc cls d) g → a ∉ frs (X.env :: X.outer) := by
      intro g fl hmem
      obtain ⟨o1, v1, e1, _, e3⟩ := fl.there
      obtain ⟨_, o2, e2, hn2⟩ := fl.2.2.1.mem hmem
      rw [e1] at e2
      cases e2
      exact hn2 _ e3
    have nfr := notF fl3
    have nL : a ≠ X.env.locals := by
      intro z
      exact nfr (List.mem_filterMap.mpr ⟨X.env, List.mem_cons_self, hf.trans (congrArg some z.symm)⟩)
    have nF : a ∉ X.fs := by
      intro z
      obtain ⟨e, he, q⟩ := List.mem_filterMap.mp z
      exact nfr (List.mem_filterMap.mpr ⟨e, List.mem_cons_of_mem _ he, q⟩)
    have nI : sI.heap.get? a = none := by
      cases e : sI.heap.get? a with
      | none => rfl
      | some o =>
        have q := nb a o e (by rw [hs]; exact nfr)
        rw [fl3.2.1] at q
        cases q
    obtain ⟨oe3, vs3, he3, hz3, hd3⟩ := fl3.there
    have J3 : Inv X pins σ' H' { s' with heap := h3 } := J.landed nb fl3.1 (up.trans up3) os ag
    refine wpAny_handleBy_cons (codeAny_handlers_test ?_) (fun q => nomatch q)
    refine ht a oe3 _ _ _ _ _ cls _ _ (J3.suite he3 hd3 na nL nF) he3 hz3.1 hm fun c h' kp lk => lk.here ?_
    refine codeAny_handlers_suite_as (HandSPX.lands_againZ (fly_keeps fl3 kp) fun h4 fl4 up4 => ?_)
    have upA : sI.heap.UpToSlots h4 := ((up.trans up3).trans (Heap.UpToSlots.of_keeps kp)).trans up4
    have J4 : Inv X pins σ' H' { s' with heap := h4 } := J.landed nb fl4.1 upA os ag
    obtain ⟨oe4, vs4, he4, hz4, hd4⟩ := fl4.there
    refine store_ok (X := X.suite a ((a, oe4) :: (X.pn ++ pins))) (v := .ref a) (J4.suite he4 hd4 na nL nF) hN hi (.inl hln) rfl (fun s5 S5 => ?_) (.inr hln)
    have hlen : i < σ'.length := by
      rw [J.len]
      exact (List.getElem?_eq_some_iff.mp hi).1
    refine wpAny_mono ((hsu a oe4 (X.pn ++ pins)).run [] s5 _ H' { nx := fun σ6 H6 => σ6 = (σ'.set i (some (.ref a))).set j (some (.ref a)) ∧ H6 = H', rt := fun _ _ => False } S5 ?_) (fun f s6 hsp => ?_) (fun _ _ z => False.elim z)
    · exact ⟨.ref a, by simp [hlen], rfl, rfl⟩
    match f, hsp with
    | .next, ⟨σ6, H6, S6, e6, e7⟩ =>
      subst e6 e7
      refine gone_ok (X := X.suite a ((a, oe4) :: (X.pn ++ pins))) S6 hN hi hln fun s7 S7 => ?_
      have ha7 := (S7.pin (a, oe4) (List.mem_append_left _ List.mem_cons_self)).1
      exact ⟨_, _, track (S7.unsuite ok) J nI hx na nL ha7 hd4 (exH_ok ha7 hz4 hd4), hk a na⟩
    | .brk, ⟨_, _, _, z⟩ => exact z.elim
    | .cont, ⟨_, _, _, z⟩ => exact z.elim
    | .ret u, ⟨_, _, _, _, _, z⟩ => exact z.elim
end
end HopR

set_option Elab.async false
set_option linter.all false
set_option maxRecDepth 100000
namespace HopR
open PySem PySem.Spec PyProof.Rows L2
/-! ### isinstance of a kept exception without a dict -/
section
variable {X : Cx}
theorem held_at {pins : List (Addr × Obj)} {σ : L2.St} {H : Hp} {s : Shared} {a D : Addr} (I : Inv X pins σ H s) (ha : H a = some (ExH (.ref D) none a)) : ∃ oe, PySem.W.InstAt s.heap a oe D none := by
  obtain ⟨⟨oe, vs, e, ⟨z1, z2⟩, q⟩, _, _⟩ := I.hok a _ ha
  obtain ⟨oc, od, oda, osl⟩ := oe
  dsimp only at z1 z2 q
  subst z1 z2 q
  exact ⟨_, e, rfl, rfl, trivial⟩
/-- isinstance(kept, c) -/
def rIsH (K : PySem.W.Frag) : List V → Hp → VK → Prop := fun xs H Q => ∃ (a D : Addr) (c : V) (cv : Value) (b : Bool), xs = [.ref a, c] ∧ H a = some (ExH (.ref D) none a) ∧ ExcC K D ∧ ClsV c cv ∧ PySem.W.kitOne K (.ref D) cv = some b ∧ Q (.bl b) H
theorem call_isH : CallR X (.builtin "isinstance") (rIsH X.K) := by
  rintro pins s σ H xs us Q I r ⟨a, D, c, cv, b, rfl, ha, C, kc, e, q⟩
  obtain ⟨u1, u2, rfl, r1, r2⟩ := vals2 r
  obtain rfl := kc.eq r2
  cases (show u1 = Value.ref a from r1)
  obtain ⟨oe, J⟩ := held_at I ha
  exact PySem.W.kia_one (PySem.W.handS_kitx_exc C.hg C.hk C.hs C.hd C.ha C.hn C.ht C.hm) I.kIn J e (fun z => nomatch z) fun tk => ⟨.bl b, H, I.tok tk, rfl, q⟩
/-- isinstance(kept, (c1, c2, ..)) -/
def rIsHT (K : PySem.W.Frag) : List V → Hp → VK → Prop := fun xs H Q => ∃ (a D tp : Addr) (cs : List V) (ws : List Value) (b : Bool), xs = [.ref a, .ref tp] ∧ H a = some (ExH (.ref D) none a) ∧ ExcC K D ∧ H tp = some (.tup cs) ∧ Paired ClsV cs ws ∧ PySem.W.kitAny K (.ref D) ws = some b ∧ Q (.bl b) H
theorem call_isHT : CallR X (.builtin "isinstance") (rIsHT X.K) := by
  rintro pins s σ H xs us Q I r ⟨a, D, tp, cs, ws, b, rfl, ha, C, ht, kc, e, q⟩
  obtain ⟨u1, u2, rfl, r1, r2⟩ := vals2 r
  cases (show u1 = Value.ref a from r1)
  cases (show u2 = Value.ref tp from r2)
  obtain ⟨oe, J⟩ := held_at I ha
  have hT : ObjOk X.prog X.w H s.heap tp (.tup cs) := I.hok tp _ ht
  obtain ⟨_, its, rv, ⟨oc, od, dt, osl⟩, g1, g2, n, g3⟩ := hT
  obtain rfl := ClsV.all kc rv
  simp only at g2 g3
  subst g2 g3
  exact PySem.W.kia_tup (PySem.W.handS_kitx_exc C.hg C.hk C.hs C.hd C.ha C.hn C.ht C.hm) I.kIn J g1 e (fun z => nomatch z) fun tk => ⟨.bl b, H, I.tok tk, rfl, q⟩
end
/-! ### things that are whole numbers or not -/
/-- x is of a built-in type that is no whole number's -/
def Odd (K : PySem.W.Frag) (H : Hp) (x : V) : Prop := ∃ t bI, TyX K H x t ∧ PySem.W.kitOne K t (.type "int") = some bI ∧ (bI = true → PySem.W.kitOne K t (.type "bool") = some true)
theorem odd_non {K : PySem.W.Frag} {H : Hp} : Odd K H .non := ⟨_, false, .base .non, kit_ty (by decide +kernel), fun z => nomatch z⟩
theorem odd_bl {K : PySem.W.Frag} {H : Hp} {b : Bool} : Odd K H (.bl b) := ⟨_, true, .base (.bl b), kit_ty (by decide +kernel), fun _ => kit_ty (by decide +kernel)⟩
theorem odd_str {K : PySem.W.Frag} {H : Hp} {z : Str} : Odd K H (.str z) := ⟨_, false, .base (.str z), kit_ty (by decide +kernel), fun z => nomatch z⟩
theorem odd_lst {K : PySem.W.Frag} {H : Hp} {a : Addr} {xs : List V} (e : H a = some (.lst xs)) : Odd K H (.ref a) := ⟨_, false, .base (.lst e), kit_ty (by decide +kernel), fun z => nomatch z⟩
theorem odd_tup {K : PySem.W.Frag} {H : Hp} {a : Addr} {xs : List V} (e : H a = some (.tup xs)) : Odd K H (.ref a) := ⟨_, false, .base (.tup e), kit_ty (by decide +kernel), fun z => nomatch z⟩
theorem odd_dK {K : PySem.W.Frag} {H : Hp} {a : Addr} {xs : List (Key × V)} (e : H a = some (.dK xs)) : Odd K H (.ref a) := ⟨_, false, .base (.dK e), kit_ty (by decide +kernel), fun z => nomatch z⟩
end HopR

set_option Elab.async false
set_option linter.all false
set_option maxRecDepth 100000
namespace HopR
open PySem PySem.Spec PyProof.Rows L2
/-! ### C(e, ..) in a try, where __init__ may raise -/
def tMakeS (C : Addr) (sp : Sp) (E : L2.St → XK) (t : TA) : TE := fun σ H Q => t σ H fun vs H1 => ∀ x dx, H1 x = none → H1 dx = none → dx ≠ x → sp (.ref x :: vs) (upd (upd H1 dx (.own x)) x (.ins C dx [])) (fun v H2 => v = .non ∧ Q (.ref x) H2) (E σ)
section
variable {X : Cx} {CX : CXT} {k : Nat} {f C : Addr} {fd : FuncData} {ps : List Str} {sp : Sp} {E : L2.St → XK} {x : Str} {p pos : Pos} {e : Expr} {es : List Expr} {t : TA}
theorem pe_makeS (M : Mk X.K C f) (F : FnOk X.prog X.w X.K X.mg X.base CX k f fd ps sp) (hr : Room (k + 1) X.A) (hg : Gl X x) (hm : X.mg x = some (.ref C)) (hb : Binds X.K fd ps []) (hx : ∀ σ, PassesAt CX X σ (E σ))
    (ha : PA X (e :: es) t) (hdb : (x == ("__debug__" : Str)) = false := by decide) (he : starEach (e :: es) X.env = (false, eval e X.env) :: starEach es X.env := by rfl) (hpl : (backTo pos (starEach es X.env)).any (·.1) = false := by rfl) :
    PE X (.Call (.Name x p) (e :: es) [] pos) (tMakeS C sp E t) := by
  constructor
  intro pins s0 σ H0 Q I0 h0
  refine wpAny_Call_Name_kw (ld_glob I0 hg hm ?_ hdb)
  refine PySem.W.callWith_K (h₀ := X.base) I0.ok.mod.kin M.kp ?_ he hpl
  refine thn (ha.run pos pins s0 σ H0 _ I0 h0) ?_
  rintro us s ⟨vs, H, I, r, h⟩
  refine ⟨I.kIn, ?_⟩
  have hq := h (s.heap.objs.size + 1) s.heap.objs.size (I.hok.fresh (Nat.le_succ _)) (I.hok.fresh (Nat.le_refl _)) (Nat.ne_of_lt (Nat.lt_succ_self _))
  have J := Inv.made (C := C) I
  have r2 : Vals (V.ref (s.heap.objs.size + 1) :: vs) (Value.ref (s.heap.objs.size + 1) :: us) := .cons rfl r
  have hl : (Value.ref (s.heap.objs.size + 1) :: us).length = ps.length := r2.length.symm.trans (F.len _ _ _ _ hq)
  have hbi := hb _ (Value.ref (s.heap.objs.size + 1) :: us) J.kIn (by rw [List.append_nil]; exact hl)
  rw [List.append_nil] at hbi
  have run := F.run _ X.stack _ _ ⟨Value.ref (s.heap.objs.size + 1) :: us, []⟩ _ _ _ (E σ) (hr.make C us []) (J.env0.make C us []) hbi r2 hq
  refine wpAny_call (make_map (f := f) I.kIn M.makes M.init (beq_iff_eq.mp M.fn) (codeAny_mono run ?_))
  intro r s' hq'
  match r, hq' with
  | .error e, hq' => exact hx σ pins _ _ e s' J hq'
  | .ok (.ret u), hq' =>
    obtain ⟨v, H', I3, rv, ev, q3⟩ := J.after hq'
    subst ev
    exact ⟨rv, V.ref (s.heap.objs.size + 1), H', I3, rfl, q3⟩
  | .ok .next, hq' => exact hq'.elim
  | .ok .brk, hq' => exact hq'.elim
  | .ok .cont, hq' => exact hq'.elim
end
end HopR

set_option Elab.async false
set_option linter.all false
namespace HopR
open PySem L2
theorem hu66 {A : Around} {k : Nat} (hr : Room k A) : A.units + 66 < cLine := by
  have := hr.un
  omega
end HopR

set_option Elab.async false
set_option linter.all false
set_option maxRecDepth 100000
namespace Hop
open PySem L2 HopR
open C8 (InsC call_isC)
def top (i : Nat) : Stmt := PySem.Challenge.pw_hopline_k01_parts_made.main.body.getD i (.Pass ⟨0, 0, 0, 0⟩)
abbrev sIsWhole : Stmt := top 12
abbrev sDivisor : Stmt := top 13
abbrev sInit : Stmt := inClass (top 15) 0
theorem same_upd {H : Hp} {p : Addr} {o : HO} (h : H p = none) : Same H (upd H p o) := fun b x e => by
  rw [upd_ne (ne_of_none e h)]
  exact e
theorem same_new {H H1 : Hp} {p : Addr} {o : HO} (h : H p = none) (s : Same H H1) : Same H (upd H1 p o) := fun b x e => by
  rw [upd_ne (ne_of_none e h)]
  exact s _ _ e
/-- a def of the text, its binding, where its name leads -/
structure Fn (K : PySem.W.Frag) (mg : Str → Option Value) (x : Str) (st : Stmt) (ps : List Str) (f : Addr) (fd : FuncData) : Prop where
  F : Fun K x x st f fd
  b : Binds K fd ps []
  g : mg x = some (.ref f)
/-! ### a Part -/
theorem tb_ : ¬ (("top" : Str) = "bottom") := by decide +kernel
def pf (q : Rat) : List (Str × V) := putF "bottom" (.int (q.den : Int)) (putF "top" (.int q.num) [])
theorem pf_top (q : Rat) : (pf q).lookup ("top" : Str) = some (.int q.num) := by
  unfold pf
  rw [lookup_putF, if_neg tb_, lookup_putF, if_pos rfl]
theorem pf_bottom (q : Rat) : (pf q).lookup ("bottom" : Str) = some (.int (q.den : Int)) := by
  unfold pf
  rw [lookup_putF, if_pos rfl]
theorem pf_no (q : Rat) {m : Str} (h1 : ¬ m = "bottom") (h2 : ¬ m = "top") : (pf q).lookup m = none := by
  unfold pf
  rw [lookup_putF, if_neg h1, lookup_putF, if_neg h2]
  rfl
/-- at a a Part of q -/
def PA (C : Addr) (H : Hp) (a : Addr) (q : Rat) : Prop := ∃ dx, H a = some (.ins C dx (pf q))
theorem PA.same {C : Addr} {H H' : Hp} {a : Addr} {q : Rat} (s : Same H H') (h : PA C H a q) : PA C H' a q := let ⟨dx, e⟩ := h; ⟨dx, s _ _ e⟩
/-- what is known of the class and of the built-ins -/
structure Txt (K : PySem.W.Frag) (mg : Str → Option Value) (C : Addr) : Prop where
  len : mg "len" = none
  range : mg "range" = none
  abs : mg "abs" = none
  isi : mg "isinstance" = none
  int : mg "int" = none
  bool : mg "bool" = none
  ins : InsC K C
  nT : NoAttr K C "top"
  nB : NoAttr K C "bottom"
  mgC : mg "Part" = some (.ref C)
section
variable {P : Program} {w : World} {K : PySem.W.Frag} {mg : Str → Option Value} {base : Heap} {C : Addr}
def spWhole : Sp := fun vs H Q _ => ∃ i : Int, vs = [.int i] ∧ Q (.bl true) H
theorem scWhole : FnScope ["thing"] ["thing"] (defScope sIsWhole) := ⟨rfl, rfl, rfl, by decide +kernel, rfl, by decide +kernel, by decide +kernel⟩
theorem ok_whole {f : Addr} {fd : FuncData} {k : Nat} (F : Fun K "is_whole" "is_whole" sIsWhole f fd) (T : Txt K mg C) : FnOk P w K mg base CX0 (k + 1) f fd ["thing"] spWhole := by
  refine F.ok scWhole (fun vs H Q E h => ?_) (fun cdv A outer s H vs Q E hr h => ?_)
  · obtain ⟨i, rfl, _⟩ := h
    rfl
  · obtain ⟨i, rfl, q⟩ := h
    refine ⟨_, pss_one (ps_ret (pe_and (pe_callB call_isi (by rfl) T.isi (by decide +kernel) (pa_cons (pv 0) (pa_cons (pe_bltn (v := .ty "int") (by rfl) T.int (by decide +kernel) rfl) pa_nil)))
      (pe_one (pe_not (pe_callB call_isi (by rfl) T.isi (by decide +kernel) (pa_cons (pv 0) (pa_cons (pe_bltn (v := .ty "bool") (by rfl) T.bool (by decide +kernel) rfl) pa_nil))))))), ?_⟩
    refine ⟨.int i, rfl, .int i, .ty "int", .type "int", .type "int", true, rfl, .ty _, .base (.int _), kit_ty (by decide +kernel), true, rfl, ?_⟩
    exact ⟨.int i, rfl, .int i, .ty "bool", .type "int", .type "bool", false, rfl, .ty _, .base (.int _), kit_ty (by decide +kernel), false, rfl, q⟩
def spDivisor : Sp := fun vs H Q _ => ∃ a b : Int, vs = [.int a, .int b] ∧ Q (.int (Int.gcd a b : Int)) H
theorem scDivisor : FnScope ["one", "other"] ["one", "other"] (defScope sDivisor) := ⟨rfl, rfl, rfl, by decide +kernel, rfl, by decide +kernel, by decide +kernel⟩
theorem ok_divisor {f : Addr} {fd : FuncData} {k : Nat} (F : Fun K "common_divisor" "common_divisor" sDivisor f fd) (T : Txt K mg C) : FnOk P w K mg base CX0 (k + 1) f fd ["one", "other"] spDivisor := by
  refine F.ok scDivisor (fun vs H Q E h => ?_) (fun cdv A outer s H vs Q E hr h => ?_)
  · obtain ⟨a, b, rfl, _⟩ := h
    rfl
  · obtain ⟨a, b, rfl, q⟩ := h
    have nd := scDivisor.nd
    refine ⟨_, pss_cons (ps_while PassesOwn.never (pt_cmpR op_ne (pv 1) pe_int (nomark _)) (pss_one (ps_par (by rfl) nd (i := 0) (j := 1) rfl rfl (by decide) rfl rfl (pa_cons (pv 1) (pa_cons (pe_op op_modN (pv 0) (pv 1)) pa_nil)) (by rfl))))
      (pss_one (ps_ret (pe_callB call_abs (by rfl) T.abs (by decide +kernel) (pa_cons (pv 0) pa_nil)))), ?_⟩
    refine while_by (fun σ H1 => ∃ x y : Int, σ = [some (.int x), some (.int y)] ∧ Int.gcd x y = Int.gcd a b ∧ H1 = H) (fun σ _ => match σ with | [_, some (.int y)] => y.natAbs | _ => 0) ⟨a, b, rfl, rfl, rfl⟩ ?_ ?_
    · rintro σ H1 ⟨x, y, rfl, e, rfl⟩
      refine ⟨.int y, rfl, rfl, _, rfl, ?_⟩
      by_cases hy : y = 0
      · subst hy
        refine iteNS rfl ⟨.int x, rfl, x, rfl, ?_⟩
        have e2 : (if x < 0 then -x else x) = (Int.gcd a b : Int) := by
          rw [← e, Int.gcd_zero_right]
          split <;> omega
        show Q (.int (if x < 0 then -x else x)) H1
        rw [e2]
        exact q
      · rw [decide_eq_false (fun z => hy (V.int.inj z))]
        refine iteT ⟨.int y, rfl, .int x, rfl, .int y, rfl, x, y, rfl, rfl, hy, _, _, rfl, ⟨y, x.fmod y, rfl, (gcd_fmod x y).trans e, rfl⟩, fmod_less x hy⟩
    · rintro σ H1 Q1 Q2 hm h
      obtain ⟨v, e1, e2, k2, e3, h⟩ := h
      exact ⟨v, e1, e2, k2, e3, hm _ _ h⟩
/-! ### Part.__init__ -/
theorem scInit : FnScope ["self", "top", "bottom", "divisor"] ["self", "top", "bottom"] (defScope sInit) := ⟨rfl, rfl, rfl, by decide +kernel, rfl, by decide +kernel, by decide +kernel⟩
def spInit (C : Addr) : Sp := fun vs H Q _ => ∃ (p dx : Addr) (t b : Int), vs = [.ref p, .int t, .int b] ∧ b ≠ 0 ∧ b.natAbs < 2 ^ 8000 ∧ H p = some (.ins C dx []) ∧ Q .non (upd H p (.ins C dx (pf (Rat.divInt t b))))
theorem ok_init {f f1 f2 : Addr} {fd fd1 fd2 : FuncData} {k : Nat} (F : FunD K "__init__" "Part.__init__" (defArgs sInit) (defBody sInit) (defScope sInit) [.int 1] [] f fd) (N1 : Fn K mg "is_whole" sIsWhole ["thing"] f1 fd1) (N2 : Fn K mg "common_divisor" sDivisor ["one", "other"] f2 fd2) (T : Txt K mg C) :
    FnOk P w K mg base CX0 (k + 2) f fd ["self", "top", "bottom"] (spInit C) := by
  have G1 : FnOk P w K mg base CX0 (k + 1) f1 fd1 ["thing"] spWhole := ok_whole N1.F T
  have G2 : FnOk P w K mg base CX0 (k + 1) f2 fd2 ["one", "other"] spDivisor := ok_divisor N2.F T
  refine F.ok scInit (fun vs H Q E h => ?_) (fun cdv A outer s H vs Q E hr h => ?_)
  · obtain ⟨p, dx, t, b, rfl, _⟩ := h
    rfl
  · obtain ⟨p, dx, t, b, rfl, hb, hb2, hp, q⟩ := h
    have nd := scInit.nd
    refine ⟨_, PSs.nox (pss_cons (ps_if (pt_not (pt_val (pe_call G1 hr (by rfl) N1.g N1.F.kp N1.b .nil pass0 (pa_cons (pv 1) pa_nil)))) (pss_one ps_never) pss_nil)
      (pss_cons (ps_if (pt_not (pt_val (pe_call G1 hr (by rfl) N1.g N1.F.kp N1.b .nil pass0 (pa_cons (pv 2) pa_nil)))) (pss_one ps_never) pss_nil)
      (pss_cons (ps_if (pt_cmpR op_eq (pv 2) pe_int (nomark _)) (pss_one ps_never) pss_nil)
      (pss_cons (ps_set (i := 3) nd rfl (.inl rfl) (pe_call G2 hr (by rfl) N2.g N2.F.kp N2.b .nil pass0 (pa_cons (pv 1) (pa_cons (pv 2) pa_nil))))
      (pss_cons (ps_if (pt_cmpR op_lt (pv 2) pe_int (nomark _)) (pss_one (ps_set (i := 3) nd rfl (.inl rfl) (pe_un un_neg (pv 3)))) pss_nil)
      (pss_cons (ps_fld (pv 0) (pe_op op_fdivWN (pv 1) (pv 3)) rfl)
      (pss_one (ps_fld (pv 0) (pe_op op_fdivWN (pv 2) (pv 3)) rfl)))))))), ?_⟩
    refine ⟨.int t, rfl, t, rfl, true, rfl, iteF ⟨.int b, rfl, b, rfl, true, rfl, iteF ⟨.int b, rfl, rfl, _, rfl, ?_⟩⟩⟩
    rw [decide_eq_false (fun z => hb (V.int.inj z))]
    refine iteF ⟨.int t, rfl, .int b, rfl, t, b, rfl, ?_⟩
    have hg := gcd_pos (t := t) hb
    have hgl : (Int.gcd t b).log2 < 9000 := by
      have h1 : Int.gcd t b ≤ b.natAbs := Nat.le_of_dvd (by omega) (Int.gcd_dvd_natAbs_right ..)
      exact Nat.lt_of_lt_of_le (PySem.Flt.log2_lt_of (by decide) (Nat.lt_of_le_of_lt h1 hb2)) (by decide)
    have fin : ∀ g : Int, g = (if b < 0 then -(Int.gcd t b : Int) else (Int.gcd t b : Int)) → CDivWN t g ∧ CDivWN b g := fun g e => by
      have e2 : g.natAbs = Int.gcd t b := by
        rw [e]
        split <;> omega
      unfold CDivWN
      rw [e2]
      exact ⟨⟨by omega, hgl⟩, ⟨by omega, hgl⟩⟩
    have done : ∀ g : Int, g = (if b < 0 then -(Int.gcd t b : Int) else (Int.gcd t b : Int)) → Q .non (upd (upd H p (.ins C dx (putF "top" (.int (t.fdiv g)) []))) p (.ins C dx (putF "bottom" (.int (b.fdiv g)) (putF "top" (.int (t.fdiv g)) [])))) := fun g e => by
      rw [upd_upd, e, low_num hb, low_den hb]
      exact q
    refine ⟨.int b, rfl, _, _, rfl, rfl, _, rfl, ite2 (fun e => ?_) (fun e => ?_)⟩
    · have e : b < 0 := of_decide_eq_true e
      have eg : -(Int.gcd t b : Int) = (if b < 0 then -(Int.gcd t b : Int) else (Int.gcd t b : Int)) := (if_pos e).symm
      obtain ⟨c1, c2⟩ := fin _ eg
      refine ⟨_, rfl, _, rfl, ?_⟩
      refine ⟨.int t, rfl, _, rfl, t, _, rfl, rfl, c1, .ref p, rfl, p, C, dx, _, rfl, hp, T.ins.cl, T.nT, (by show 0 < 1000; decide), ?_⟩
      exact ⟨.int b, rfl, _, rfl, b, _, rfl, rfl, c2, .ref p, rfl, p, C, dx, _, rfl, upd_same, T.ins.cl, T.nB, (by show 1 < 1000; decide), done _ eg⟩
    · have e : ¬ b < 0 := fun z => e (decide_eq_true z)
      have eg : (Int.gcd t b : Int) = (if b < 0 then -(Int.gcd t b : Int) else (Int.gcd t b : Int)) := (if_neg e).symm
      obtain ⟨c1, c2⟩ := fin _ eg
      refine ⟨.int t, rfl, _, rfl, t, _, rfl, rfl, c1, .ref p, rfl, p, C, dx, _, rfl, hp, T.ins.cl, T.nT, (by show 0 < 1000; decide), ?_⟩
      exact ⟨.int b, rfl, _, rfl, b, _, rfl, rfl, c2, .ref p, rfl, p, C, dx, _, rfl, upd_same, T.ins.cl, T.nB, (by show 1 < 1000; decide), done _ eg⟩
/-! ### the methods -/
/-- what a Part is made with: its class, its __init__ and how that binds -/
structure Mks (K : PySem.W.Frag) (mg : Str → Option Value) (C fi f1 f2 : Addr) (gi g1 g2 : FuncData) (d1 : Value) : Prop where
  M : Mk K C fi
  F : FunD K "__init__" "Part.__init__" (defArgs sInit) (defBody sInit) (defScope sInit) [.int 1] [] fi gi
  b3 : Binds K gi ["self", "top", "bottom"] []
  b2 : Binds K gi ["self", "top", "bottom"] [d1]
  r1 : RelV (.int 1) d1
  N1 : Fn K mg "is_whole" sIsWhole ["thing"] f1 g1
  N2 : Fn K mg "common_divisor" sDivisor ["one", "other"] f2 g2
/-- a new Part, behind H -/
def New (C : Addr) (H : Hp) (q : Rat) (Q : VK) : Prop := ∀ H' p, Same H H' → H p = none → PA C H' p q → Q (.ref p) H'
theorem made {C : Addr} {H : Hp} {t b : Int} {Q : VK} {E : XK} (hb : b ≠ 0) (hz : b.natAbs < 2 ^ 8000) (h : New C H (Rat.divInt t b) Q) :
    ∀ x dx, H x = none → H dx = none → dx ≠ x → spInit C (.ref x :: ([.int t, .int b] ++ [])) (upd (upd H dx (.own x)) x (.ins C dx [])) (fun v H2 => v = .non ∧ Q (.ref x) H2) E := by
  intro x dx hx hdx ne
  refine ⟨x, dx, t, b, rfl, hb, hz, upd_same, rfl, ?_⟩
  rw [upd_upd]
  refine h _ _ (fun c o e => ?_) hx ⟨dx, upd_same⟩
  rw [upd_ne (ne_of_none e hx), upd_ne (ne_of_none e hdx)]
  exact e
theorem made1 {C : Addr} {H : Hp} {t : Int} {Q : VK} {E : XK} (h : New C H (Rat.divInt t 1) Q) :
    ∀ x dx, H x = none → H dx = none → dx ≠ x → spInit C (.ref x :: ([.int t] ++ [.int 1])) (upd (upd H dx (.own x)) x (.ins C dx [])) (fun v H2 => v = .non ∧ Q (.ref x) H2) E :=
  made (t := t) (b := 1) (by decide) (Nat.one_lt_two_pow (by decide)) h
end
end Hop

set_option Elab.async false
set_option linter.all false
set_option maxRecDepth 100000
namespace Hop
open PySem L2 HopR
open C8 (InsC call_isC)
abbrev sDrawn : Stmt := top 18
abbrev sLow : Stmt := top 19
abbrev sLIs : Stmt := top 20
abbrev sNumber : Stmt := top 21
abbrev sRefused : Stmt := top 22
abbrev sLaw : Stmt := top 23
/-! ### the draws -/
def dval (left : Int) (k : Nat) (z : Int) : Int :=
  if (1000000000000000000 : Int) ≤ left then left % z
  else
    let small := left % 1000000000000000000
    let one := (small + 7 * (k : Int) + 1) * (48271 + 2 * (k : Int) * (k : Int)) % 2147483647
    let two := (small / 3 + 11 * (k : Int) + 5) * (39373 + 6 * (k : Int)) % 2147483629
    (one * two + one / 64) % z
def dleft (left : Int) (z : Int) : Int := if (1000000000000000000 : Int) ≤ left then left / z else left
def draws : Int → Nat → List Int → List Int
  | _, _, [] => []
  | left, k, z :: r => dval left k z :: draws (dleft left z) (k + 1) r
theorem draws_len : ∀ (zs : List Int) (c : Int) (k : Nat), (draws c k zs).length = zs.length
  | [], _, _ => rfl
  | z :: r, c, k => by
    show (draws (dleft c z) (k + 1) r).length + 1 = r.length + 1
    rw [draws_len r]
theorem dval_ok {c : Int} {k : Nat} {z : Int} (h : 0 < z) : 0 ≤ dval c k z ∧ dval c k z < z := by
  unfold dval
  split
  · exact ⟨Int.emod_nonneg _ (by omega), Int.emod_lt_of_pos _ h⟩
  · exact ⟨Int.emod_nonneg _ (by omega), Int.emod_lt_of_pos _ h⟩
theorem draws_ok : ∀ (zs : List Int) (c : Int) (k : Nat), (∀ z ∈ zs, 0 < z) → ∀ (i : Nat) (d z : Int), (draws c k zs)[i]? = some d → zs[i]? = some z → 0 ≤ d ∧ d < z
  | [], _, _, _, i, d, z, _, h => by simp at h
  | y :: r, c, k, hp, 0, d, z, h1, h2 => by
    have e1 : dval c k y = d := Option.some.inj h1
    have e2 : y = z := Option.some.inj h2
    subst e1 e2
    exact dval_ok (hp y (List.mem_cons_self ..))
  | y :: r, c, k, hp, i + 1, d, z, h1, h2 => draws_ok r _ _ (fun q hq => hp q (List.mem_cons_of_mem _ hq)) i d z h1 h2
/-- the size of a draw is one that is reckoned with -/
def SizeOk (z : Int) : Prop := 0 < z ∧ z < 18446744073709551616
def spDrawn (K : PySem.W.Frag) : Sp := fun vs H Q _ => ∃ (c : Int) (a : Addr) (zs : List Int), vs = [.int c, .ref a] ∧ SqL K H a (zs.map V.int) ∧ (∀ z ∈ zs, SizeOk z) ∧ zs.length ≤ 1000 ∧
  ∀ H' p, Same H H' → H p = none → H' p = some (.lst ((draws c 0 zs).map V.int)) → Q (.ref p) H'
structure TxtD (mg : Str → Option Value) : Prop where
  len : mg "len" = none
  range : mg "range" = none
theorem scDrawn : FnScope ["_law_cell", "_law_sizes", "_law_found", "_law_left", "_law_k", "_law_small", "_law_one", "_law_two"] ["_law_cell", "_law_sizes"] (defScope sDrawn) := ⟨rfl, rfl, rfl, by decide +kernel, rfl, by decide +kernel, by decide +kernel⟩
section
variable {P : Program} {w : World} {K : PySem.W.Frag} {mg : Str → Option Value} {base : Heap}
theorem ok_drawn {f : Addr} {fd : FuncData} {k : Nat} (F : Fun K "_law_drawn" "_law_drawn" sDrawn f fd) (T : TxtD mg) : FnOk P w K mg base CX0 (k + 1) f fd ["_law_cell", "_law_sizes"] (spDrawn K) := by
  refine F.ok scDrawn (fun vs H Q E h => ?_) (fun cdv A outer s H vs Q E hr h => ?_)
  · obtain ⟨c, a, zs, rfl, _⟩ := h
    rfl
  · obtain ⟨c, a, zs, rfl, hS, hz, hlen, q⟩ := h
    have nd := scDrawn.nd
    refine ⟨_, pss_cons (ps_set (i := 2) nd rfl (.inl rfl) (pe_lst pa_nil))
      (pss_cons (ps_set (i := 3) nd rfl (.inl rfl) (pv 0))
      (pss_cons (ps_for PassesOwn.never rfl (pi_range1 (by rfl) T.range (pa_cons (pe_callB call_len_seq (by rfl) T.len PySem.boot_len (pa_cons (pv 1) pa_nil)) pa_nil)) (pg_name (i := 4) nd rfl (.inl rfl))
        (pss_one (ps_if (pt_cmpR op_ge (pv 3) (pe_op op_pow pe_int pe_int) (nomark _))
          (pss_cons (ps_expr (pe_bm PySem.F.plainAttrs_list PySem.F.slot_list_append PySem.F.type_list_append mt_append (pv 2) (pa_cons (pe_op op_mod (pv 3) (pe_ix ix_list (pv 1) (pv 4) (fun _ _ => rfl))) pa_nil)))
            (pss_one (ps_set (i := 3) nd rfl (.inl rfl) (pe_op op_fdivW (pv 3) (pe_ix ix_list (pv 1) (pv 4) (fun _ _ => rfl))))))
          (pss_cons (ps_set (i := 5) nd rfl (.inl rfl) (pe_op op_mod (pv 3) (pe_op op_pow pe_int pe_int)))
          (pss_cons (ps_set (i := 6) nd rfl (.inl rfl) (pe_op op_mod (pe_op op_mul (pe_op op_add (pe_op op_add (pv 5) (pe_op op_mul pe_int (pv 4))) pe_int) (pe_op op_add pe_int (pe_op op_mul (pe_op op_mul pe_int (pv 4)) (pv 4)))) pe_int))
          (pss_cons (ps_set (i := 7) nd rfl (.inl rfl) (pe_op op_mod (pe_op op_mul (pe_op op_add (pe_op op_add (pe_op op_fdiv (pv 5) pe_int) (pe_op op_mul pe_int (pv 4))) pe_int) (pe_op op_add pe_int (pe_op op_mul pe_int (pv 4)))) pe_int))
          (pss_one (ps_expr (pe_bm PySem.F.plainAttrs_list PySem.F.slot_list_append PySem.F.type_list_append mt_append (pv 2) (pa_cons (pe_op op_mod (pe_op op_add (pe_op op_mul (pv 6) (pv 7)) (pe_op op_fdiv (pv 6) pe_int)) (pe_ix ix_list (pv 1) (pv 4) (fun _ _ => rfl))) pa_nil))))))))))
      (pss_one (ps_ret (pv 2))))), ?_⟩
    -- found = []; left = cell
    refine ⟨Nat.zero_le _, fun o no => ?_⟩
    have s1 : Same H (upd H o (.lst [])) := same_upd no
    refine ⟨.int c, rfl, .ref a, rfl, a, zs.map V.int, rfl, .inl (s1.seq hS), ((zs.map V.int).length : Int), rfl, by omega, (by rw [List.length_map]; omega), ?_⟩
    refine for_range (lo := 0) (n := zs.length) (fun i σ H3 => ∃ (l : Int) (y4 y5 y6 y7 : Option V) (ds : List Int), σ = [some (.int c), some (.ref a), some (.ref o), some (.int l), y4, y5, y6, y7] ∧
        Same H H3 ∧ H3 o = some (.lst (ds.map V.int)) ∧ ds.length = i ∧ ds ++ draws l i (zs.drop i) = draws c 0 zs)
      ⟨c, none, none, none, none, [], rfl, s1, upd_same, rfl, by simp⟩ ?_ ?_ |> (fun h => by rw [List.length_map]; exact h)
    · rintro i σ H3 hi ⟨l, y4, y5, y6, y7, ds, rfl, sm, eo, el, ed⟩
      have hA : SqL K H3 a (zs.map V.int) := sm.seq hS
      have hz1 := hz zs[i] (List.getElem_mem hi)
      have gz : zs[i]? = some zs[i] := List.getElem?_eq_getElem hi
      have g : atI (zs.map V.int) (i : Int) = some (.int zs[i]) := atI_nat (by rw [List.getElem?_map, gz]; rfl)
      have hd : zs.drop i = zs[i] :: zs.drop (i + 1) := List.drop_eq_getElem_cons hi
      rw [hd] at ed
      have ed' : (ds ++ [dval l i zs[i]]) ++ draws (dleft l zs[i]) (i + 1) (zs.drop (i + 1)) = draws c 0 zs := by
        rw [List.append_assoc]
        exact ed
      have small : (ds.map V.int).length < sizeLine := by
        rw [List.length_map]
        exact small1000 (by omega)
      rw [Int.zero_add]
      refine ⟨.int l, rfl, 10, 18, rfl, rfl, ⟨by decide, by decide, by decide⟩, l, 10 ^ 18, rfl, rfl, _, rfl, ite2 (fun e => ?_) (fun e => ?_)⟩
      · have e : (1000000000000000000 : Int) ≤ l := of_decide_eq_true e
        refine ⟨.ref o, rfl, .inl ⟨rfl, _, SqL.of eo⟩, .int l, rfl, .ref a, rfl, .int (i : Int), rfl, a, _, _, _, rfl, rfl, hA, g, l, zs[i], rfl, rfl, hz1.1, o, _, _, rfl, rfl, eo, small, ?_⟩
        have e1 : dval l i zs[i] = l % zs[i] := by
          unfold dval
          rw [if_pos e]
        have e2 : dleft l zs[i] = l / zs[i] := by
          unfold dleft
          rw [if_pos e]
        have sm2 : Same H (upd H3 o (.lst (ds.map V.int ++ [.int (l % zs[i])]))) := same_new no sm
        refine ⟨.int l, rfl, .ref a, rfl, .int (i : Int), rfl, a, _, _, _, rfl, rfl, sm2.seq hS, g, l, zs[i], rfl, rfl, wide_div hz1.1 (b := 64) (by have := hz1.2; have := hz1.1; omega) (by decide) (by decide), ?_⟩
        refine ⟨_, _, _, _, _, ds ++ [dval l i zs[i]], rfl, sm2, ?_, ?_, ?_⟩
        · rw [upd_same, e1, List.map_append]
          rfl
        · rw [List.length_append, el]
          rfl
        · rw [← e2]
          exact ed'
      · have e : ¬ (1000000000000000000 : Int) ≤ l := fun z => e (decide_eq_true z)
        have e2 : dleft l zs[i] = l := by
          unfold dleft
          rw [if_neg e]
        have hi1000 : (i : Int) < 1000 := by omega
        have s0 : 0 ≤ l % 1000000000000000000 := Int.emod_nonneg _ (by decide)
        have s9 : l % 1000000000000000000 < 1000000000000000000 := Int.emod_lt_of_pos _ (by decide)
        refine ⟨.int l, rfl, 10, 18, rfl, rfl, ⟨by decide, by decide, by decide⟩, l, 10 ^ 18, rfl, rfl, (show (0 : Int) < 10 ^ 18 by decide), ?_⟩
        refine ⟨_, rfl, .int (i : Int), rfl, 7, i, rfl, rfl, .inl ⟨by decide, by decide⟩, _, _, rfl, rfl, _, _, rfl, rfl, .int (i : Int), rfl, 2, i, rfl, rfl, .inl ⟨by decide, by decide⟩, .int (i : Int), rfl, _, _, rfl, rfl, .inl ⟨by omega, by omega⟩, _, _, rfl, rfl, _, _, rfl, rfl,
          .inl ⟨by show -(2 ^ 64) < l % 1000000000000000000 + 7 * (i : Int) + 1; omega, by show l % 1000000000000000000 + 7 * (i : Int) + 1 < 2 ^ 64; omega⟩, _, _, rfl, rfl, (show (0 : Int) < 2147483647 by decide), ?_⟩
        refine ⟨_, rfl, _, _, rfl, rfl, ⟨by decide, by decide⟩, .int (i : Int), rfl, 11, i, rfl, rfl, .inl ⟨by decide, by decide⟩, _, _, rfl, rfl, _, _, rfl, rfl, .int (i : Int), rfl, 6, i, rfl, rfl, .inl ⟨by decide, by decide⟩, _, _, rfl, rfl, _, _, rfl, rfl,
          .inl ⟨by show -(2 ^ 64) < l % 1000000000000000000 / 3 + 11 * (i : Int) + 5; omega, by show l % 1000000000000000000 / 3 + 11 * (i : Int) + 5 < 2 ^ 64; omega⟩, _, _, rfl, rfl, (show (0 : Int) < 2147483629 by decide), ?_⟩
        have o0 := Int.emod_nonneg ((l % 1000000000000000000 + 7 * (i : Int) + 1) * (48271 + 2 * (i : Int) * (i : Int))) (show (2147483647 : Int) ≠ 0 by decide)
        have o9 := Int.emod_lt_of_pos ((l % 1000000000000000000 + 7 * (i : Int) + 1) * (48271 + 2 * (i : Int) * (i : Int))) (show (0 : Int) < 2147483647 by decide)
        refine ⟨.ref o, rfl, .inl ⟨rfl, _, SqL.of eo⟩, _, rfl, _, rfl, _, _, rfl, rfl, .inl ⟨Int.lt_of_lt_of_le (by decide) o0, Int.lt_trans o9 (by decide)⟩, _, rfl, _, _, rfl, rfl, ⟨by decide, by decide⟩, _, _, rfl, rfl, .ref a, rfl, .int (i : Int), rfl, a, _, _, _, rfl, rfl, hA, g, _, zs[i], rfl, rfl, hz1.1, o, _, _, rfl, rfl, eo, small, ?_⟩
        have e1 : dval l i zs[i] = ((l % 1000000000000000000 + 7 * (i : Int) + 1) * (48271 + 2 * (i : Int) * (i : Int)) % 2147483647 * ((l % 1000000000000000000 / 3 + 11 * (i : Int) + 5) * (39373 + 6 * (i : Int)) % 2147483629) + (l % 1000000000000000000 + 7 * (i : Int) + 1) * (48271 + 2 * (i : Int) * (i : Int)) % 2147483647 / 64) % zs[i] := by
          unfold dval
          rw [if_neg e]
        refine ⟨_, _, _, _, _, ds ++ [dval l i zs[i]], rfl, same_new no sm, ?_, ?_, ?_⟩
        · rw [upd_same, e1, List.map_append]
          rfl
        · rw [List.length_append, el]
          rfl
        · rw [e2] at ed'
          exact ed'
    · rintro σ H3 ⟨l, y4, y5, y6, y7, ds, rfl, sm, eo, el, ed⟩
      rw [List.drop_length] at ed
      have ed : ds = draws c 0 zs := by
        rw [← ed]
        show ds = ds ++ []
        rw [List.append_nil]
      subst ed
      exact ⟨.ref o, rfl, q H3 o sm no eo⟩

end
/-! ### the refusals -/
theorem kit_own {K : PySem.W.Frag} {D C : Addr} {b : Bool} (ne : D ≠ C) (hd : PySem.W.hasDictIn K C = true) (ht : PySem.W.typeIn K (.ref C) = some (.type "type")) (h : PySem.W.subIn K (.ref D) (.ref C) = some b) : PySem.W.kitOne K (.ref D) (.ref C) = some b := by
  obtain ⟨cd, hc, _⟩ := PySem.W.any_some hd
  have e1 : ((Value.ref D == Value.ref C) = true) = False := by
    rw [eq_iff_iff]
    exact ⟨fun z => ne (Value.ref.inj (beq_iff_eq.mp z)), False.elim⟩
  have e2 : ((PySem.W.clsIn K C).isSome && PySem.W.typeIn K (.ref C) == some (.type "type")) = true := by rw [hc, ht] <;> rfl
  unfold PySem.W.kitOne
  rw [if_neg (by rw [e1]; exact id)]
  show (if ((PySem.W.clsIn K C).isSome && PySem.W.typeIn K (.ref C) == some (.type "type")) = true then PySem.W.subIn K (.ref D) (.ref C) else none) = some b
  rw [if_pos e2]
  exact h
theorem kit_me {K : PySem.W.Frag} {D : Addr} : PySem.W.kitOne K (.ref D) (.ref D) = some true := by
  unfold PySem.W.kitOne
  rw [if_pos (by simp)]
theorem kit_blt {K : PySem.W.Frag} {D : Addr} {T : String} {b : Bool} (m : PySem.W.kitMeta T = true) (h : PySem.W.subIn K (.ref D) (.type T) = some b) : PySem.W.kitOne K (.ref D) (.type T) = some b := by
  have e1 : ¬ ((Value.ref D == Value.type T) = true) := fun z => nomatch (beq_iff_eq.mp z)
  unfold PySem.W.kitOne
  rw [if_neg e1]
  show (if PySem.W.kitMeta T = true then PySem.W.subIn K (.ref D) (.type T) else none) = some b
  rw [if_pos m]
  exact h
theorem kitAny4 {K : PySem.W.Frag} {t c1 c2 c3 c4 : Value} (h1 : PySem.W.kitOne K t c1 = some false) (h2 : PySem.W.kitOne K t c2 = some false) (h3 : PySem.W.kitOne K t c3 = some false) (h4 : PySem.W.kitOne K t c4 = some false) : PySem.W.kitAny K t [c1, c2, c3, c4] = some false := by
  simp only [PySem.W.kitAny, h1, h2, h3, h4]
theorem exmAny2 {K : PySem.W.Frag} {t c1 c2 : Value} {b1 b2 : Bool} (h1 : PySem.W.exmOne K t c1 = some b1) (h2 : PySem.W.exmOne K t c2 = some b2) : PySem.W.exmAny K t [c1, c2] = some (b1 || b2) := by
  simp only [PySem.W.exmAny, h1, h2, Bool.or_false]
/-- an own exception class, as its instances are made and asked -/
structure Xc (K : PySem.W.Frag) (D : Addr) (bm : List Value) (nw : String) : Prop where
  x : PySem.W.excIn K D bm nw = true
  k : PySem.W.keepIn K (.ref D) = true
  be : PySem.W.subIn K (.ref D) (.type "BaseException") = some true
  ty : PySem.W.typeIn K (.ref D) = some (.type "type")
  c : ExcC K D
abbrev bmV : List Value := [.type "ValueError", .type "Exception", .type "BaseException", .type "object"]
abbrev bmZ : List Value := [.type "ZeroDivisionError", .type "ArithmeticError", .type "Exception", .type "BaseException", .type "object"]
structure Er (K : PySem.W.Frag) (mg : Str → Option Value) (HE NN BN NP NR NS NW : Addr) : Prop where
  gHE : mg "HopError" = some (.ref HE)
  gNN : mg "NoNumber" = some (.ref NN)
  gBN : mg "ByNought" = some (.ref BN)
  gNP : mg "NoPace" = some (.ref NP)
  gNR : mg "NoRow" = some (.ref NR)
  gNS : mg "NoStep" = some (.ref NS)
  gNW : mg "NoWord" = some (.ref NW)
  ve : mg "ValueError" = none
  ze : mg "ZeroDivisionError" = none
  N : Xc K NN bmV "ValueError.__new__"
  B : Xc K BN bmZ "ZeroDivisionError.__new__"
  mN : PySem.W.exmAny K (.ref NN) [.ref HE, .ref BN] = some true
  mB : PySem.W.exmAny K (.ref BN) [.ref HE, .ref BN] = some true
  nB : PySem.W.kitOne K (.ref NN) (.ref BN) = some false
  n4 : PySem.W.kitAny K (.ref NN) [.ref NP, .ref NR, .ref NS, .ref NW] = some false
  nV : PySem.W.kitOne K (.ref NN) (.type "ValueError") = some true
  bZ : PySem.W.kitOne K (.ref BN) (.type "ZeroDivisionError") = some true
  bH : PySem.W.kitOne K (.ref BN) (.ref HE) = some false
section
variable {P : Program} {w : World} {K : PySem.W.Frag} {mg : Str → Option Value} {base : Heap} {C HE NN BN NP NR NS NW : Addr}
def spOdd (K : PySem.W.Frag) : Sp := fun vs H Q _ => ∃ x, vs = [x] ∧ Odd K H x ∧ Q (.bl false) H
theorem ok_odd {f : Addr} {fd : FuncData} {k : Nat} (F : Fun K "is_whole" "is_whole" sIsWhole f fd) (T : Txt K mg C) : FnOk P w K mg base CX0 (k + 1) f fd ["thing"] (spOdd K) := by
  refine F.ok scWhole (fun vs H Q E h => ?_) (fun cdv A outer s H vs Q E hr h => ?_)
  · obtain ⟨i, rfl, _⟩ := h
    rfl
  · obtain ⟨x, rfl, ⟨t, bI, ty, k1, k2⟩, q⟩ := h
    refine ⟨_, pss_one (ps_ret (pe_and (pe_callB call_isi (by rfl) T.isi (by decide +kernel) (pa_cons (pv 0) (pa_cons (pe_bltn (v := .ty "int") (by rfl) T.int (by decide +kernel) rfl) pa_nil)))
      (pe_one (pe_not (pe_callB call_isi (by rfl) T.isi (by decide +kernel) (pa_cons (pv 0) (pa_cons (pe_bltn (v := .ty "bool") (by rfl) T.bool (by decide +kernel) rfl) pa_nil))))))), ?_⟩
    refine ⟨x, rfl, x, .ty "int", t, .type "int", bI, rfl, .ty _, ty, k1, bI, rfl, ?_⟩
    cases bI with
    | false => exact q
    | true => exact ⟨x, rfl, x, .ty "bool", t, .type "bool", true, rfl, .ty _, ty, k2 rfl, true, rfl, q⟩
/-- Part.__init__ where it refuses -/
def spInitR (K : PySem.W.Frag) (NN BN : Addr) : Sp := fun vs H Q E => ∃ (p : Addr) (x y : V), vs = [.ref p, x, y] ∧ ((Odd K H x ∧ E (.ref NN) none H) ∨ ((∃ t, x = .int t) ∧ Odd K H y ∧ E (.ref NN) none H) ∨ ((∃ t, x = .int t) ∧ y = .int 0 ∧ E (.ref BN) none H))
theorem ok_initR {f f1 f2 : Addr} {fd fd1 fd2 : FuncData} {k : Nat} (F : FunD K "__init__" "Part.__init__" (defArgs sInit) (defBody sInit) (defScope sInit) [.int 1] [] f fd) (N1 : Fn K mg "is_whole" sIsWhole ["thing"] f1 fd1) (N2 : Fn K mg "common_divisor" sDivisor ["one", "other"] f2 fd2) (T : Txt K mg C) (Z : Er K mg HE NN BN NP NR NS NW) :
    FnOk P w K mg base (L2.CX P w) (k + 2) f fd ["self", "top", "bottom"] (spInitR K NN BN) := by
  have G1 : FnOk P w K mg base CX0 (k + 1) f1 fd1 ["thing"] spWhole := ok_whole N1.F T
  have G0 : FnOk P w K mg base CX0 (k + 1) f1 fd1 ["thing"] (spOdd K) := ok_odd N1.F T
  refine F.ok scInit (fun vs H Q E h => ?_) (fun cdv A outer s H vs Q E hr h => ?_)
  · obtain ⟨p, x, y, rfl, _⟩ := h
    rfl
  · obtain ⟨p, x, y, rfl, h⟩ := h
    have nd := scInit.nd
    rcases h with ⟨ox, e⟩ | ⟨⟨t, rfl⟩, oy, e⟩ | ⟨⟨t, rfl⟩, rfl, e⟩
    · refine ⟨_, pss_cons (ps_if (pt_not (pt_val (pe_call G0 hr (by rfl) N1.g N1.F.kp N1.b .nil pass0 (pa_cons (pv 1) pa_nil)))) (pss_one (ps_raise rfl (takes_of rfl rfl rfl rfl) (pmk_own PySem.F.excBase_ValueError Z.N.x Z.gNN Z.N.k (raises_own Z.N.be Z.N.ty) rfl))) pss_nil) (pss_cons ps_never (pss_cons ps_never (pss_cons ps_never (pss_cons ps_never (pss_cons ps_never (pss_one ps_never)))))), ?_⟩
      exact ⟨x, rfl, x, rfl, ox, false, rfl, iteT e⟩
    · refine ⟨_, pss_cons (ps_if (pt_not (pt_val (pe_call G1 hr (by rfl) N1.g N1.F.kp N1.b .nil pass0 (pa_cons (pv 1) pa_nil)))) (pss_one ps_never) pss_nil)
        (pss_cons (ps_if (pt_not (pt_val (pe_call G0 hr (by rfl) N1.g N1.F.kp N1.b .nil pass0 (pa_cons (pv 2) pa_nil)))) (pss_one (ps_raise rfl (takes_of rfl rfl rfl rfl) (pmk_own PySem.F.excBase_ValueError Z.N.x Z.gNN Z.N.k (raises_own Z.N.be Z.N.ty) rfl))) pss_nil) (pss_cons ps_never (pss_cons ps_never (pss_cons ps_never (pss_cons ps_never (pss_one ps_never)))))), ?_⟩
      exact ⟨.int t, rfl, t, rfl, true, rfl, iteF ⟨y, rfl, y, rfl, oy, false, rfl, iteT e⟩⟩
    · refine ⟨_, pss_cons (ps_if (pt_not (pt_val (pe_call G1 hr (by rfl) N1.g N1.F.kp N1.b .nil pass0 (pa_cons (pv 1) pa_nil)))) (pss_one ps_never) pss_nil)
        (pss_cons (ps_if (pt_not (pt_val (pe_call G1 hr (by rfl) N1.g N1.F.kp N1.b .nil pass0 (pa_cons (pv 2) pa_nil)))) (pss_one ps_never) pss_nil)
        (pss_cons (ps_if (pt_cmpR op_eq (pv 2) pe_int (nomark _)) (pss_one (ps_raise rfl (takes_of rfl rfl rfl rfl) (pmk_own PySem.F.excBase_ZeroDivisionError Z.B.x Z.gBN Z.B.k (raises_own Z.B.be Z.B.ty) rfl))) pss_nil) (pss_cons ps_never (pss_cons ps_never (pss_cons ps_never (pss_one ps_never)))))), ?_⟩
      exact ⟨.int t, rfl, t, rfl, true, rfl, iteF ⟨.int 0, rfl, 0, rfl, true, rfl, iteF ⟨.int 0, rfl, rfl, _, rfl, e⟩⟩⟩
end
end Hop

set_option Elab.async false
set_option linter.all false
set_option maxRecDepth 100000
namespace Hop
open PySem L2 HopR
open C8 (InsC call_isC)
section
variable {P : Program} {w : World} {K : PySem.W.Frag} {mg : Str → Option Value} {base : Heap} {C HE NN BN NP NR NS NW : Addr}
theorem scRefused : FnScope ["_law_upper", "_law_under", "_law_error", "e"] ["_law_upper", "_law_under"] (defScope sRefused) := ⟨rfl, rfl, rfl, by decide +kernel, rfl, by decide +kernel, by decide +kernel⟩
def spRefused (K : PySem.W.Frag) : Sp := fun vs H Q _ => ∃ x y z, vs = [x, y] ∧ ((Odd K H x ∧ z = ("number" : Str)) ∨ ((∃ t, x = .int t) ∧ Odd K H y ∧ z = ("number" : Str)) ∨ ((∃ t, x = .int t) ∧ y = .int 0 ∧ z = ("nought" : Str))) ∧ ∀ H', Same H H' → Q (.str z) H'
theorem odd_same {H H' : Hp} {x : V} (s : Same H H') (h : Odd K H x) : Odd K H' x := by
  obtain ⟨t, b, ty, k⟩ := h
  refine ⟨t, b, ?_, k⟩
  cases ty with
  | base h =>
    cases h with
    | non => exact .base .non
    | bl x => exact .base (.bl x)
    | int i => exact .base (.int i)
    | str x => exact .base (.str x)
    | flt x => exact .base (.flt x)
    | lst e => exact .base (.lst (s _ _ e))
    | frz e => exact .base (.frz (s _ _ e))
    | tup e => exact .base (.tup (s _ _ e))
    | dK e => exact .base (.dK (s _ _ e))
    | dT e => exact .base (.dT (s _ _ e))
    | ins e a b c d f => exact .base (.ins (s _ _ e) a b c d f)
  | byt b => exact .byt b
  | set e => exact .set (s _ _ e)
  | kList e c => exact .kList e c
  | kTuple e c => exact .kTuple e c
  | kDict e c => exact .kDict e c
  | fTuple e => exact .fTuple (s _ _ e)
  | fDict e => exact .fDict (s _ _ e)
theorem ok_refused {f fi f1 f2 : Addr} {fd gi g1 g2 : FuncData} {d1 : Value} {k : Nat} (F : Fun K "_law_refused" "_law_refused" sRefused f fd) (N : Mks K mg C fi f1 f2 gi g1 g2 d1) (T : Txt K mg C) (Z : Er K mg HE NN BN NP NR NS NW) : FnOk P w K mg base CX0 (k + 4) f fd ["_law_upper", "_law_under"] (spRefused K) := by
  have GR : FnOk P w K mg base (L2.CX P w) (k + 2) fi gi ["self", "top", "bottom"] (spInitR K NN BN) := ok_initR N.F N.N1 N.N2 T Z
  refine F.ok scRefused (fun vs H Q E h => ?_) (fun cdv A outer s H vs Q E hr h => ?_)
  · obtain ⟨x, y, z, rfl, _⟩ := h
    rfl
  · obtain ⟨x, y, z, rfl, h, q⟩ := h
    have nd := scRefused.nd
    refine ⟨_, pss_cons (ps_set (i := 2) nd rfl (.inl rfl) pe_non)
      (pss_cons (ps_try_held (i := 3) (j := 2) rfl rfl nd rfl rfl rfl rfl rfl (tests_two ⟨rfl, by decide, .inl Z.gHE⟩ ⟨rfl, by decide, .inl Z.gBN⟩)
          (fun W pn xe tk _ => pss_one (ps_expr (pe_makeS N.M GR hr (by rfl) T.mgC N.b3 (fun σ => passAt tk σ) (pa_cons (pv 0) (pa_cons (pv 1) pa_nil)))))
          (fun a oe pn => pss_one (ps_set (i := 2) nd rfl (.inl rfl) (pv 3))))
      (pss_cons (ps_if (pt_cmpR op_isN (pv 2) pe_non (nomark _)) (pss_one (ps_ret pe_str)) pss_nil)
      (pss_cons (ps_if (pt_val (pe_callB call_isH (by rfl) T.isi (by decide +kernel) (pa_cons (pv 2) (pa_cons (pe_glob (v := .ref BN) (by rfl) Z.gBN rfl) pa_nil))))
        (pss_one (ps_ret (pe_ix ix_list (pe_lst (pa_cons pe_str (pa_cons pe_str pa_nil))) (pe_callTy call_int1 (by rfl) T.int (by decide +kernel) (pa_cons (pe_and (pe_callB call_isH (by rfl) T.isi (by decide +kernel) (pa_cons (pv 2) (pa_cons (pe_bltn (v := .ty "ZeroDivisionError") (by rfl) Z.ze (by decide +kernel) rfl) pa_nil)))
          (pe_one (pe_not (pe_callB call_isH (by rfl) T.isi (by decide +kernel) (pa_cons (pv 2) (pa_cons (pe_glob (v := .ref HE) (by rfl) Z.gHE rfl) pa_nil)))))) pa_nil)) (fun _ _ => rfl)))) pss_nil)
      (pss_cons (ps_if (PW.pt (pw_or (pt_val (pe_callB call_isHT (by rfl) T.isi (by decide +kernel) (pa_cons (pv 2) (pa_cons (pe_tup (pa_cons (pe_glob (v := .ref NP) (by rfl) Z.gNP rfl) (pa_cons (pe_glob (v := .ref NR) (by rfl) Z.gNR rfl) (pa_cons (pe_glob (v := .ref NS) (by rfl) Z.gNS rfl) (pa_cons (pe_glob (v := .ref NW) (by rfl) Z.gNW rfl) pa_nil))))) pa_nil))))
          (pw_or1 (pt_not (pt_val (pe_callB call_isH (by rfl) T.isi (by decide +kernel) (pa_cons (pv 2) (pa_cons (pe_bltn (v := .ty "ValueError") (by rfl) Z.ve (by decide +kernel) rfl) pa_nil)))))))) (pss_one (ps_ret pe_str)) pss_nil)
      (pss_one (ps_ret (pe_ix ix_list (pe_lst (pa_cons pe_str (pa_cons pe_str pa_nil))) (pe_callTy call_int1 (by rfl) T.int (by decide +kernel) (pa_cons (pe_callB call_isH (by rfl) T.isi (by decide +kernel) (pa_cons (pv 2) (pa_cons (pe_glob (v := .ref NN) (by rfl) Z.gNN rfl) pa_nil))) pa_nil)) (fun _ _ => rfl)))))))), ?_⟩
    refine ⟨x, rfl, y, rfl, fun p dx hp hdx ne => ⟨p, x, y, rfl, ?_⟩⟩
    have s1 : Same H (upd (upd H dx (.own p)) p (.ins C dx [])) := same_new hp (same_upd hdx)
    generalize hH1 : upd (upd H dx (.own p)) p (.ins C dx []) = H1 at s1
    rcases h with ⟨ox, rfl⟩ | ⟨⟨t, rfl⟩, oy, rfl⟩ | ⟨⟨t, rfl⟩, rfl, rfl⟩
    · refine .inl ⟨odd_same s1 ox, Z.mN, fun a na => ?_⟩
      refine ⟨.ref a, rfl, rfl, _, rfl, ?_⟩
      rw [decide_eq_false (fun z => nomatch z)]
      refine iteF ⟨.ref a, rfl, a, NN, .ref BN, .ref BN, false, rfl, upd_same, Z.N.c, .own _, Z.nB, false, rfl, iteF ?_⟩
      refine ⟨.ref a, rfl, (by show 4 ≤ sizeLine; decide), fun tp nt => ?_⟩
      have sA : Same H (upd H1 a (ExH (.ref NN) none a)) := same_new (s1.free na) s1
      have sT := same_new (o := .tup [.ref NP, .ref NR, .ref NS, .ref NW]) (sA.free nt) sA
      have ha : upd (upd H1 a (ExH (.ref NN) none a)) tp (.tup [.ref NP, .ref NR, .ref NS, .ref NW]) a = some (ExH (.ref NN) none a) := same_upd nt _ _ upd_same
      refine ⟨a, NN, tp, _, _, false, rfl, ha, Z.N.c, upd_same, .cons (.own _) (.cons (.own _) (.cons (.own _) (.cons (.own _) .nil))), Z.n4, false, rfl, iteF ?_⟩
      refine ⟨.ref a, rfl, a, NN, .ty "ValueError", .type "ValueError", true, rfl, ha, Z.N.c, .ty _, Z.nV, true, rfl, iteF ?_⟩
      refine ⟨(by show 2 ≤ sizeLine; decide), fun l nl => ?_⟩
      refine ⟨.ref a, rfl, a, NN, .ref NN, .ref NN, true, rfl, same_upd nl _ _ ha, Z.N.c, .own _, kit_me, .inr ⟨true, rfl, ?_⟩⟩
      exact ⟨l, _, 1, .str "number", rfl, rfl, SqL.of upd_same, rfl, q _ (same_new (sT.free nl) sT)⟩
    · refine .inr (.inl ⟨⟨t, rfl⟩, odd_same s1 oy, Z.mN, fun a na => ?_⟩)
      refine ⟨.ref a, rfl, rfl, _, rfl, ?_⟩
      rw [decide_eq_false (fun z => nomatch z)]
      refine iteF ⟨.ref a, rfl, a, NN, .ref BN, .ref BN, false, rfl, upd_same, Z.N.c, .own _, Z.nB, false, rfl, iteF ?_⟩
      refine ⟨.ref a, rfl, (by show 4 ≤ sizeLine; decide), fun tp nt => ?_⟩
      have sA : Same H (upd H1 a (ExH (.ref NN) none a)) := same_new (s1.free na) s1
      have sT := same_new (o := .tup [.ref NP, .ref NR, .ref NS, .ref NW]) (sA.free nt) sA
      have ha : upd (upd H1 a (ExH (.ref NN) none a)) tp (.tup [.ref NP, .ref NR, .ref NS, .ref NW]) a = some (ExH (.ref NN) none a) := same_upd nt _ _ upd_same
      refine ⟨a, NN, tp, _, _, false, rfl, ha, Z.N.c, upd_same, .cons (.own _) (.cons (.own _) (.cons (.own _) (.cons (.own _) .nil))), Z.n4, false, rfl, iteF ?_⟩
      refine ⟨.ref a, rfl, a, NN, .ty "ValueError", .type "ValueError", true, rfl, ha, Z.N.c, .ty _, Z.nV, true, rfl, iteF ?_⟩
      refine ⟨(by show 2 ≤ sizeLine; decide), fun l nl => ?_⟩
      refine ⟨.ref a, rfl, a, NN, .ref NN, .ref NN, true, rfl, same_upd nl _ _ ha, Z.N.c, .own _, kit_me, .inr ⟨true, rfl, ?_⟩⟩
      exact ⟨l, _, 1, .str "number", rfl, rfl, SqL.of upd_same, rfl, q _ (same_new (sT.free nl) sT)⟩
    · refine .inr (.inr ⟨⟨t, rfl⟩, rfl, Z.mB, fun a na => ?_⟩)
      refine ⟨.ref a, rfl, rfl, _, rfl, ?_⟩
      rw [decide_eq_false (fun z => nomatch z)]
      refine iteF ⟨.ref a, rfl, a, BN, .ref BN, .ref BN, true, rfl, upd_same, Z.B.c, .own _, kit_me, true, rfl, iteT ?_⟩
      have sA : Same H (upd H1 a (ExH (.ref BN) none a)) := same_new (s1.free na) s1
      refine ⟨(by show 2 ≤ sizeLine; decide), fun l nl => ?_⟩
      have hl := same_upd (o := .lst [.str "odd", .str "nought"]) nl _ _ (upd_same (H := H1) (a := a) (o := ExH (.ref BN) none a))
      refine ⟨.ref a, rfl, a, BN, .ty "ZeroDivisionError", .type "ZeroDivisionError", true, rfl, hl, Z.B.c, .ty _, Z.bZ, true, rfl, ?_⟩
      refine ⟨.ref a, rfl, a, BN, .ref HE, .ref HE, false, rfl, hl, Z.B.c, .own _, Z.bH, false, rfl, .inr ⟨true, rfl, ?_⟩⟩
      exact ⟨l, _, 1, .str "nought", rfl, rfl, SqL.of upd_same, rfl, q _ (same_new (sA.free nl) sA)⟩
end
end Hop

set_option Elab.async false
set_option linter.all false
set_option maxRecDepth 100000
set_option exponentiation.threshold 10000
namespace Hop
open PySem L2 HopR
open C8 (InsC call_isC)
section
variable {P : Program} {w : World} {K : PySem.W.Frag} {mg : Str → Option Value} {base : Heap} {C HE NN BN NP NR NS NW : Addr}
/-! ### _law_low -/
theorem scLow : FnScope ["_law_upper", "_law_under", "_law_one", "_law_other"] ["_law_upper", "_law_under"] (defScope sLow) := ⟨rfl, rfl, rfl, by decide +kernel, rfl, by decide +kernel, by decide +kernel⟩
def tq (q : Rat) : List V := [.int q.num, .int (q.den : Int)]
def spLow : Sp := fun vs H Q _ => ∃ t b : Int, vs = [.int t, .int b] ∧ b ≠ 0 ∧ b.natAbs < 2 ^ 8000 ∧ ∀ H' p, Same H H' → H p = none → H' p = some (.tup (tq (Rat.divInt t b))) → Q (.ref p) H'
theorem abs_nat (x : Int) : (if x < 0 then -x else x) = (x.natAbs : Int) := by
  split <;> omega
theorem ok_low {f : Addr} {fd : FuncData} {k : Nat} (F : Fun K "_law_low" "_law_low" sLow f fd) (T : Txt K mg C) : FnOk P w K mg base CX0 (k + 1) f fd ["_law_upper", "_law_under"] spLow := by
  refine F.ok scLow (fun vs H Q E h => ?_) (fun cdv A outer s H vs Q E hr h => ?_)
  · obtain ⟨a, b, rfl, _⟩ := h
    rfl
  · obtain ⟨t, b, rfl, hb, hb2, q⟩ := h
    have nd := scLow.nd
    refine ⟨_, pss_cons (ps_set (i := 2) nd rfl (.inl rfl) (pe_callB call_abs (by rfl) T.abs (by decide +kernel) (pa_cons (pv 0) pa_nil)))
      (pss_cons (ps_set (i := 3) nd rfl (.inl rfl) (pe_callB call_abs (by rfl) T.abs (by decide +kernel) (pa_cons (pv 1) pa_nil)))
      (pss_cons (ps_while PassesOwn.never (pt_cmpR op_gt (pv 3) pe_int (nomark _)) (pss_one (ps_par (by rfl) nd (i := 2) (j := 3) rfl rfl (by decide) rfl rfl (pa_cons (pv 3) (pa_cons (pe_op op_modN (pv 2) (pv 3)) pa_nil)) (by rfl))))
      (pss_cons (ps_if (pt_cmpR op_lt (pv 1) pe_int (nomark _)) (pss_one (ps_set (i := 2) nd rfl (.inl rfl) (pe_op op_sub pe_int (pv 2)))) pss_nil)
      (pss_one (ps_ret (pe_tup (pa_cons (pe_op op_fdivWN (pv 0) (pv 2)) (pa_cons (pe_op op_fdivWN (pv 1) (pv 2)) pa_nil)))))))), ?_⟩
    refine ⟨.int t, rfl, t, rfl, .int b, rfl, b, rfl, ?_⟩
    rw [abs_nat, abs_nat]
    have hg := gcd_pos (t := t) hb
    have hgl : (Int.gcd t b).log2 < 9000 := by
      have h1 : Int.gcd t b ≤ b.natAbs := Nat.le_of_dvd (by omega) (Int.gcd_dvd_natAbs_right ..)
      exact Nat.lt_of_lt_of_le (PySem.Flt.log2_lt_of (by decide) (Nat.lt_of_le_of_lt h1 hb2)) (by decide)
    have fin : ∀ g : Int, g = (if b < 0 then -(Int.gcd t b : Int) else (Int.gcd t b : Int)) → CDivWN t g ∧ CDivWN b g := fun g e => by
      have e2 : g.natAbs = Int.gcd t b := by
        rw [e]
        split <;> omega
      unfold CDivWN
      rw [e2]
      exact ⟨⟨by omega, hgl⟩, ⟨by omega, hgl⟩⟩
    have done : ∀ g : Int, g = (if b < 0 then -(Int.gcd t b : Int) else (Int.gcd t b : Int)) → ∀ p, H p = none → Q (.ref p) (upd H p (.tup [.int (t.fdiv g), .int (b.fdiv g)])) := fun g e p hp => by
      rw [e, low_num hb, low_den hb]
      exact q _ _ (same_upd hp) hp upd_same
    refine while_by (fun σ H1 => ∃ x y : Nat, σ = [some (.int t), some (.int b), some (.int (x : Int)), some (.int (y : Int))] ∧ Nat.gcd x y = Int.gcd t b ∧ H1 = H) (fun σ _ => match σ with | [_, _, _, some (.int y)] => y.natAbs | _ => 0) ⟨t.natAbs, b.natAbs, rfl, rfl, rfl⟩ ?_ ?_
    · rintro σ H1 ⟨x, y, rfl, e, rfl⟩
      refine ⟨_, rfl, _, _, rfl, rfl, _, rfl, ?_⟩
      by_cases hy : y = 0
      · subst hy
        rw [Nat.gcd_zero_right] at e
        subst e
        rw [decide_eq_false (show ¬ (((0 : Nat) : Int) > 0) by decide)]
        refine iteF ⟨.int b, rfl, _, _, rfl, rfl, _, rfl, ite2 (fun e => ?_) (fun e => ?_)⟩
        · have e : b < 0 := of_decide_eq_true e
          have eg : (0 : Int) - (Int.gcd t b : Int) = (if b < 0 then -(Int.gcd t b : Int) else (Int.gcd t b : Int)) := by
            rw [if_pos e]
            omega
          obtain ⟨c1, c2⟩ := fin _ eg
          exact ⟨_, rfl, _, _, rfl, rfl, .int t, rfl, _, rfl, t, _, rfl, rfl, c1, .int b, rfl, _, rfl, b, _, rfl, rfl, c2, (by show 2 ≤ sizeLine; decide), fun p hp => done _ eg p hp⟩
        · have e : ¬ b < 0 := fun z => e (decide_eq_true z)
          have eg : (Int.gcd t b : Int) = (if b < 0 then -(Int.gcd t b : Int) else (Int.gcd t b : Int)) := (if_neg e).symm
          obtain ⟨c1, c2⟩ := fin _ eg
          exact ⟨.int t, rfl, _, rfl, t, _, rfl, rfl, c1, .int b, rfl, _, rfl, b, _, rfl, rfl, c2, (by show 2 ≤ sizeLine; decide), fun p hp => done _ eg p hp⟩
      · have hyi : (y : Int) ≠ 0 := by omega
        have em : ((x : Int).fmod (y : Int)) = ((x % y : Nat) : Int) := by
          rw [Int.fmod_eq_emod_of_nonneg _ (by omega)]
          exact (Int.natCast_emod x y).symm
        rw [decide_eq_true (show (y : Int) > 0 by omega)]
        refine iteT ⟨_, rfl, _, rfl, _, rfl, _, _, rfl, rfl, hyi, _, _, rfl, ⟨y, x % y, (by show [some (V.int t), some (V.int b), some (V.int (y : Int)), some (V.int ((x : Int).fmod (y : Int)))] = _; rw [em]), ?_, rfl⟩, ?_⟩
        · rw [← e, Nat.gcd_comm y, ← Nat.gcd_rec, Nat.gcd_comm]
        · exact fmod_less (x : Int) hyi
    · rintro σ H1 Q1 Q2 hm h
      obtain ⟨v, e1, i1, j1, e2, e3, k2, e4, h⟩ := h
      exact ⟨v, e1, i1, j1, e2, e3, k2, e4, hm _ _ h⟩
end
end Hop

set_option Elab.async false
set_option linter.all false
set_option maxRecDepth 100000
set_option exponentiation.threshold 10000
namespace Hop
open PySem L2 HopR
open C8 (InsC call_isC)
section
variable {P : Program} {w : World} {K : PySem.W.Frag} {mg : Str → Option Value} {base : Heap} {C HE NN BN NP NR NS NW : Addr}
/-! ### _law_is -/
theorem scLIs : FnScope ["_law_found", "_law_due"] ["_law_found", "_law_due"] (defScope sLIs) := ⟨rfl, rfl, rfl, by decide +kernel, rfl, by decide +kernel, by decide +kernel⟩
def spLIs (K : PySem.W.Frag) (C : Addr) : Sp := fun vs H Q _ => ∃ (a dt : Addr) (t b : Int), vs = [.ref a, .ref dt] ∧ PA C H a (Rat.divInt t b) ∧ H dt = some (.tup [.int t, .int b]) ∧ b ≠ 0 ∧ b.natAbs < 2 ^ 8000 ∧ ∀ H', Same H H' → Q (.bl true) H'
theorem eqv_two (i j : Int) : PyData.eqv (.tuple [.int i, .int j]) (.tuple [.int i, .int j]) = true := by
  simp [PyData.eqv, PyData.eqvAll]
theorem ok_is {f fl : Addr} {fd gl : FuncData} {k : Nat} (F : Fun K "_law_is" "_law_is" sLIs f fd) (Nl : Fn K mg "_law_low" sLow ["_law_upper", "_law_under"] fl gl) (T : Txt K mg C) : FnOk P w K mg base CX0 (k + 2) f fd ["_law_found", "_law_due"] (spLIs K C) := by
  have Gl : FnOk P w K mg base CX0 (k + 1) fl gl ["_law_upper", "_law_under"] spLow := ok_low Nl.F T
  refine F.ok scLIs (fun vs H Q E h => ?_) (fun cdv A outer s H vs Q E hr h => ?_)
  · obtain ⟨a, dt, t, b, rfl, _⟩ := h
    rfl
  · obtain ⟨a, dt, t, b, rfl, ⟨dx, ha⟩, ht, hb, hz, q⟩ := h
    have hu := hu66 hr
    refine ⟨_, pss_cons (ps_if (PW.pt (pw_or (pt_not (pt_val (pe_callB (call_isC T.ins) (by rfl) T.isi (by decide +kernel) (pa_cons (pv 0) (pa_cons (pe_glob (v := .ref C) (by rfl) T.mgC rfl) pa_nil)))))
        (pw_or (pt_val (pe_callB call_isi (by rfl) T.isi (by decide +kernel) (pa_cons (pe_fld (pv 0) rfl) (pa_cons (pe_bltn (v := .ty "bool") (by rfl) T.bool (by decide +kernel) rfl) pa_nil))))
        (pw_or1 (pt_val (pe_callB call_isi (by rfl) T.isi (by decide +kernel) (pa_cons (pe_fld (pv 0) rfl) (pa_cons (pe_bltn (v := .ty "bool") (by rfl) T.bool (by decide +kernel) rfl) pa_nil)))))))) (pss_one (ps_ret pe_bl)) pss_nil)
      (pss_cons (ps_if (PW.pt (pw_or (pt_not (pt_val (pe_callB call_isi (by rfl) T.isi (by decide +kernel) (pa_cons (pe_fld (pv 0) rfl) (pa_cons (pe_bltn (v := .ty "int") (by rfl) T.int (by decide +kernel) rfl) pa_nil)))))
        (pw_or1 (pt_not (pt_val (pe_callB call_isi (by rfl) T.isi (by decide +kernel) (pa_cons (pe_fld (pv 0) rfl) (pa_cons (pe_bltn (v := .ty "int") (by rfl) T.int (by decide +kernel) rfl) pa_nil)))))))) (pss_one (ps_ret pe_bl)) pss_nil)
      (pss_one (ps_ret (pe_cmpR (op_eqD (Nat.lt_of_le_of_lt (Nat.add_le_add_left (by decide : 64 ≤ 66) _) hu)) (pe_tup (pa_cons (pe_fld (pv 0) rfl) (pa_cons (pe_fld (pv 0) rfl) pa_nil)))
        (pe_call Gl hr (by rfl) Nl.g Nl.F.kp Nl.b .nil pass0 (pa_cons (pe_ix ix_tup (pv 1) pe_int (fun _ _ => rfl)) (pa_cons (pe_ix ix_tup (pv 1) pe_int (fun _ _ => rfl)) pa_nil))) (nomark _))))), ?_⟩
    generalize hq : Rat.divInt t b = r at ha
    refine ⟨.ref a, rfl, a, dx, _, rfl, ha, true, rfl, iteF ?_⟩
    refine ⟨.ref a, rfl, a, C, dx, _, _, rfl, ha, T.ins.cl, T.nT, pf_top r, .int r.num, .ty "bool", .type "int", .type "bool", false, rfl, .ty _, .base (.int _), kit_ty (by decide +kernel), false, rfl, iteF ?_⟩
    refine ⟨.ref a, rfl, a, C, dx, _, _, rfl, ha, T.ins.cl, T.nB, pf_bottom r, .int (r.den : Int), .ty "bool", .type "int", .type "bool", false, rfl, .ty _, .base (.int _), kit_ty (by decide +kernel), false, rfl, iteF ?_⟩
    refine ⟨.ref a, rfl, a, C, dx, _, _, rfl, ha, T.ins.cl, T.nT, pf_top r, .int r.num, .ty "int", .type "int", .type "int", true, rfl, .ty _, .base (.int _), kit_ty (by decide +kernel), true, rfl, iteF ?_⟩
    refine ⟨.ref a, rfl, a, C, dx, _, _, rfl, ha, T.ins.cl, T.nB, pf_bottom r, .int (r.den : Int), .ty "int", .type "int", .type "int", true, rfl, .ty _, .base (.int _), kit_ty (by decide +kernel), true, rfl, iteF ?_⟩
    refine ⟨.ref a, rfl, a, C, dx, _, _, rfl, ha, T.ins.cl, T.nT, pf_top r, .ref a, rfl, a, C, dx, _, _, rfl, ha, T.ins.cl, T.nB, pf_bottom r, (by show 2 ≤ sizeLine; decide), fun p hp => ?_⟩
    have s1 : Same H (upd H p (.tup [.int r.num, .int (r.den : Int)])) := same_upd hp
    have ht1 : SqT K _ dt _ := SqT.of (s1 _ _ ht)
    refine ⟨.ref dt, rfl, dt, _, 0, .int t, rfl, rfl, ht1, rfl, .ref dt, rfl, dt, _, 1, .int b, rfl, rfl, ht1, rfl, t, b, rfl, hb, hz, fun H2 p2 s2 n2 e2 => ?_⟩
    rw [hq] at e2
    refine ⟨.tuple [.int r.num, .int (r.den : Int)], .tuple [.int r.num, .int (r.den : Int)], .tup (SqT.of (s2 _ _ upd_same)) (.cons (.int _) (.cons (.int _) .nil)), .tup (SqT.of e2) (.cons (.int _) (.cons (.int _) .nil)), rfl, rfl, ?_⟩
    rw [eqv_two]
    exact q _ (s1.trans s2)
/-! ### _law_number -/
theorem scNumber : FnScope ["_law_draws"] ["_law_draws"] (defScope sNumber) := ⟨rfl, rfl, rfl, by decide +kernel, rfl, by decide +kernel, by decide +kernel⟩
def spNumber (K : PySem.W.Frag) : Sp := fun vs H Q _ => ∃ (a : Addr) (d0 d1 d2 d3 : Int), vs = [.ref a] ∧ SqL K H a [.int d0, .int d1, .int d2, .int d3] ∧ (0 ≤ d0 ∧ d0 < 3) ∧ (0 ≤ d1 ∧ d1 < 1000000000000) ∧ (0 ≤ d2 ∧ d2 < 1000000000000000000) ∧ (0 ≤ d3 ∧ d3 < 2) ∧ ∀ H' (n : Int), Same H H' → n.natAbs < 2 ^ 200 → Q (.int n) H'
theorem ok_number {f : Addr} {fd : FuncData} {k : Nat} (F : Fun K "_law_number" "_law_number" sNumber f fd) (T : Txt K mg C) : FnOk P w K mg base CX0 (k + 1) f fd ["_law_draws"] (spNumber K) := by
  refine F.ok scNumber (fun vs H Q E h => ?_) (fun cdv A outer s H vs Q E hr h => ?_)
  · obtain ⟨a, d0, d1, d2, d3, rfl, _⟩ := h
    rfl
  · obtain ⟨a, d0, d1, d2, d3, rfl, hS, h0, h1, h2, h3, q⟩ := h
    refine ⟨_, pss_one (ps_ret (pe_op op_mul (pe_ix ix_list (pe_lst (pa_cons (pe_op op_mod (pe_ix ix_list (pv 0) pe_int (fun _ _ => rfl)) pe_int) (pa_cons (pe_ix ix_list (pv 0) pe_int (fun _ _ => rfl)) (pa_cons (pe_op op_add (pe_op op_mul (pe_ix ix_list (pv 0) pe_int (fun _ _ => rfl)) (pe_op op_pow pe_int pe_int)) (pe_ix ix_list (pv 0) pe_int (fun _ _ => rfl))) pa_nil)))) (pe_ix ix_list (pv 0) pe_int (fun _ _ => rfl)) (fun _ _ => rfl))
      (pe_ix ix_list (pe_lst (pa_cons pe_int (pa_cons (pe_un un_neg pe_int) pa_nil))) (pe_ix ix_list (pv 0) pe_int (fun _ _ => rfl)) (fun _ _ => rfl)))), ?_⟩
    refine ⟨.ref a, rfl, a, _, 1, .int d1, rfl, rfl, hS, rfl, d1, 13, rfl, rfl, (show (0 : Int) < 13 by decide), .ref a, rfl, a, _, 1, .int d1, rfl, rfl, hS, rfl, ?_⟩
    refine ⟨.ref a, rfl, a, _, 1, .int d1, rfl, rfl, hS, rfl, 10, 18, rfl, rfl, ⟨by decide, by decide, by decide⟩, d1, _, rfl, rfl, .inl ⟨by omega, by omega⟩, .ref a, rfl, a, _, 2, .int d2, rfl, rfl, hS, rfl, _, _, rfl, rfl, (by show 3 ≤ sizeLine; decide), fun p hp => ?_⟩
    have s1 : Same H (upd H p (.lst [.int (d1 % 13), .int d1, .int (d1 * 10 ^ 18 + d2)])) := same_upd hp
    obtain ⟨n, hn, hnz⟩ : ∃ n : Int, atI [V.int (d1 % 13), .int d1, .int (d1 * 10 ^ 18 + d2)] d0 = some (.int n) ∧ 0 ≤ n ∧ n < 1000000000000000000000000000000 := by
      rcases (show d0 = 0 ∨ d0 = 1 ∨ d0 = 2 by omega) with rfl | rfl | rfl
      · exact ⟨_, rfl, by omega, by omega⟩
      · exact ⟨_, rfl, by omega, by omega⟩
      · exact ⟨_, rfl, by omega, by omega⟩
    refine ⟨.ref a, rfl, a, _, 0, .int d0, rfl, rfl, s1.seq hS, rfl, p, _, d0, .int n, rfl, rfl, SqL.of upd_same, hn, 1, rfl, (by show 2 ≤ sizeLine; decide), fun p2 hp2 => ?_⟩
    have s2 := same_new (o := .lst [.int 1, .int (-1)]) (s1.free hp2) s1
    obtain ⟨m, hm, hmz⟩ : ∃ m : Int, atI [V.int 1, .int (-1)] d3 = some (.int m) ∧ (m = 1 ∨ m = -1) := by
      rcases (show d3 = 0 ∨ d3 = 1 by omega) with rfl | rfl
      · exact ⟨_, rfl, .inl rfl⟩
      · exact ⟨_, rfl, .inr rfl⟩
    refine ⟨.ref a, rfl, a, _, 3, .int d3, rfl, rfl, s2.seq hS, rfl, p2, _, d3, .int m, rfl, rfl, SqL.of upd_same, hm, n, m, rfl, rfl, .inr ⟨by omega, by omega⟩, q _ _ s2 ?_⟩
    rcases hmz with rfl | rfl
    · omega
    · omega
end
end Hop

set_option Elab.async false
set_option linter.all false
set_option maxRecDepth 100000
set_option exponentiation.threshold 10000
namespace Hop
open PySem L2 HopR
open C8 (InsC call_isC)
section
variable {P : Program} {w : World} {K : PySem.W.Frag} {mg : Str → Option Value} {base : Heap} {C HE NN BN NP NR NS NW : Addr}
theorem vals_rev : ∀ {zs : List V} {ws : List Value}, Vals zs ws → Vals zs.reverse ws.reverse
  | _, _, .nil => .nil
  | _, _, .cons r t => by
    rw [List.reverse_cons, List.reverse_cons]
    exact (vals_rev t).append (.cons r .nil)
/-- Part(top = ..), Part(.., bottom = ..), Part(bottom = .., top = ..) -/
structure Kws (K : PySem.W.Frag) (gi : FuncData) (its : List Value) : Prop where
  kT : KBn K gi ["self", "top", "bottom"] 1 ["top"] (fun us ws => us ++ ws ++ its) (fun vs zs => vs ++ zs ++ [.int 1])
  kB : KBn K gi ["self", "top", "bottom"] 2 ["bottom"] (fun us ws => us ++ ws) (fun vs zs => vs ++ zs)
  kR : KBn K gi ["self", "top", "bottom"] 1 ["bottom", "top"] (fun us ws => us ++ ws.reverse) (fun vs zs => vs ++ zs.reverse)
theorem kws_mk {fi : Addr} {gi : FuncData} (F : FunD K "__init__" "Part.__init__" (defArgs sInit) (defBody sInit) (defScope sInit) [.int 1] [] fi gi) : ∃ its, Kws K gi its := by
  obtain ⟨i1, k1⟩ := F.kbindsD (ps := ["self", "top", "bottom"]) 1 ["top"] (fun us its ws => us ++ ws ++ its) (by simp) (fun r1 r2 r3 => (r1.append r3).append r2) (fun T kV doc pm an cdv ct us its ws h1 h2 h3 => match us, its, ws, h1, h2, h3 with | [_], [_], [_], _, _, _ => ⟨_, rfl, rfl⟩)
  obtain ⟨i2, k2⟩ := F.kbindsD (ps := ["self", "top", "bottom"]) 2 ["bottom"] (fun us its ws => us ++ ws) (by simp) (fun r1 r2 r3 => r1.append r3) (fun T kV doc pm an cdv ct us its ws h1 h2 h3 => match us, its, ws, h1, h2, h3 with | [_, _], [_], [_], _, _, _ => ⟨_, rfl, rfl⟩)
  obtain ⟨i3, k3⟩ := F.kbindsD (ps := ["self", "top", "bottom"]) 1 ["bottom", "top"] (fun us its ws => us ++ ws.reverse) (by simp) (fun r1 r2 r3 => r1.append (vals_rev r3)) (fun T kV doc pm an cdv ct us its ws h1 h2 h3 => match us, its, ws, h1, h2, h3 with | [_], [_], [_, _], _, _, _ => ⟨_, rfl, rfl⟩)
  exact ⟨i1, k1, k2, k3⟩
theorem mk_facts {H : Hp} {p dx : Addr} {q : Rat} (np : H p = none) (hd : H dx = none) : Same H (upd (upd H dx (.own p)) p (.ins C dx (pf q))) ∧ PA C (upd (upd H dx (.own p)) p (.ins C dx (pf q))) p q :=
  ⟨same_new np (same_upd hd), dx, upd_same⟩
theorem ten {ds : List Int} (h : ds.length = 10) : ∃ e0 e1 e2 e3 e4 e5 e6 e7 e8 e9, ds = [e0, e1, e2, e3, e4, e5, e6, e7, e8, e9] :=
  match ds, h with
  | [e0, e1, e2, e3, e4, e5, e6, e7, e8, e9], _ => ⟨e0, e1, e2, e3, e4, e5, e6, e7, e8, e9, rfl⟩
def sizes : List Int := [3, 1000000000000, 1000000000000000000, 2, 3, 1000000000000, 1000000000000000000, 2, 9, 9]
theorem scLaw : FnScope ["_law_script", "_law_odd", "_law_cell", "_law_draws", "_law_upper", "_law_under", "_law_found"] ["_law_script"] (defScope sLaw) := ⟨rfl, rfl, rfl, by decide +kernel, rfl, by decide +kernel, by decide +kernel⟩
def spLaw (K : PySem.W.Frag) : Sp := fun vs H Q _ => ∃ (a : Addr) (ns : List Int), vs = [.ref a] ∧ SqL K H a (ns.map V.int) ∧ ns.length ≤ 63 ∧ ∀ H', Q (.bl true) H'
theorem odd_part {H : Hp} {a : Addr} {q : Rat} (T : Txt K mg C) (hi : PySem.W.kitOne K (.ref C) (.type "int") = some false) (h : PA C H a q) : Odd K H (.ref a) := by
  obtain ⟨dx, e⟩ := h
  exact ⟨_, false, .base (.ins e T.ins.cl T.ins.ha T.ins.hn T.ins.htk T.ins.hm), hi, fun z => nomatch z⟩
theorem shaped_nn : SeqAt.shaped (.list [.str "nought", .str "number"]) = true := by decide +kernel
theorem shaped_mm : SeqAt.shaped (.list [.str "number", .str "number"]) = true := by decide +kernel
theorem two_eqv (a b : Str) : PyData.eqv (.list [.str a, .str b]) (.list [.str a, .str b]) = true := by
  simp [PyData.eqv, PyData.eqvAll]
theorem ok_law {f fi f1 f2 fw fl fs fn ff : Addr} {fd gi g1 g2 gw gl gs gn gf : FuncData} {d1 : Value} {its : List Value} (F : Fun K "law" "law" sLaw f fd) (N : Mks K mg C fi f1 f2 gi g1 g2 d1) (W : Kws K gi its)
    (Nw : Fn K mg "_law_drawn" sDrawn ["_law_cell", "_law_sizes"] fw gw) (Nl : Fn K mg "_law_low" sLow ["_law_upper", "_law_under"] fl gl) (Ns : Fn K mg "_law_is" sLIs ["_law_found", "_law_due"] fs gs) (Nn : Fn K mg "_law_number" sNumber ["_law_draws"] fn gn) (Nf : Fn K mg "_law_refused" sRefused ["_law_upper", "_law_under"] ff gf)
    (T : Txt K mg C) (Z : Er K mg HE NN BN NP NR NS NW) (hi : PySem.W.kitOne K (.ref C) (.type "int") = some false) :
    FnOk P w K mg base CX0 6 f fd ["_law_script"] (spLaw K) := by
  have GI : FnOk P w K mg base CX0 4 fi gi ["self", "top", "bottom"] (spInit C) := ok_init N.F N.N1 N.N2 T
  have G1 : FnOk P w K mg base CX0 5 f1 g1 ["thing"] spWhole := ok_whole N.N1.F T
  have G0 : FnOk P w K mg base CX0 5 f1 g1 ["thing"] (spOdd K) := ok_odd N.N1.F T
  have Gd : FnOk P w K mg base CX0 5 fw gw ["_law_cell", "_law_sizes"] (spDrawn K) := ok_drawn Nw.F ⟨T.len, T.range⟩
  have Gs : FnOk P w K mg base CX0 5 fs gs ["_law_found", "_law_due"] (spLIs K C) := ok_is Ns.F Nl T
  have Gn : FnOk P w K mg base CX0 5 fn gn ["_law_draws"] (spNumber K) := ok_number Nn.F T
  have Gf : FnOk P w K mg base CX0 5 ff gf ["_law_upper", "_law_under"] (spRefused K) := ok_refused Nf.F N T Z
  refine F.ok scLaw (fun vs H Q E h => ?_) (fun cdv A outer s H vs Q E hr h => ?_)
  · obtain ⟨a, ns, rfl, _⟩ := h
    rfl
  · obtain ⟨a, ns, rfl, hS, hlen, q⟩ := h
    have nd := scLaw.nd
    have hu := hu66 hr
    have hu64 := Nat.lt_of_le_of_lt (Nat.add_le_add_left (by decide : 64 ≤ 66) _) hu
    refine ⟨_, pss_cons (ps_set (i := 1) nd rfl (.inl rfl) (pe_lst (pa_cons pe_non (pa_cons pe_bl (pa_cons pe_bl (pa_cons pe_str (pa_cons (pe_cmpR op_eq pe_int pe_int (nomark _)) (pa_cons (pe_lst (pa_cons pe_int pa_nil)) (pa_cons (pe_tup (pa_cons pe_int pa_nil)) (pa_cons pe_dnewK (pa_cons pe_str pa_nil)))))))))))
      (pss_cons (ps_for PassesOwn.never rfl (pi_list (pe_op op_cat (pe_slice sl_list (pv 0) po_none (po_some pe_int)) (pe_lst (pa_cons pe_int pa_nil)))) (pg_name (i := 2) nd rfl (.inl rfl))
        (pss_cons (ps_set (i := 3) nd rfl (.inl rfl) (pe_call Gd hr (by rfl) Nw.g Nw.F.kp Nw.b .nil pass0 (pa_cons (pv 2) (pa_cons (pe_op op_cat (pe_op op_rep (pe_lst (pa_cons pe_int (pa_cons (pe_op op_pow pe_int pe_int) (pa_cons (pe_op op_pow pe_int pe_int) (pa_cons pe_int pa_nil))))) pe_int) (pe_lst (pa_cons pe_int (pa_cons pe_int pa_nil)))) pa_nil))))
        (pss_cons (ps_set (i := 4) nd rfl (.inl rfl) (pe_call Gn hr (by rfl) Nn.g Nn.F.kp Nn.b .nil pass0 (pa_cons (pe_slice sl_list (pv 3) po_none (po_some pe_int)) pa_nil)))
        (pss_cons (ps_set (i := 5) nd rfl (.inl rfl) (pe_call Gn hr (by rfl) Nn.g Nn.F.kp Nn.b .nil pass0 (pa_cons (pe_slice sl_list (pv 3) (po_some pe_int) (po_some pe_int)) pa_nil)))
        (pss_cons (ps_if (PW.pt (pw_or (pt_not (pt_val (pe_call Gs hr (by rfl) Ns.g Ns.F.kp Ns.b .nil pass0 (pa_cons (pe_make N.M GI hr (by rfl) T.mgC N.b2 (.cons N.r1 .nil) pass0 (pa_cons (pv 4) pa_nil)) (pa_cons (pe_tup (pa_cons (pv 4) (pa_cons pe_int pa_nil))) pa_nil)))))
          (pw_or1 (pt_not (pt_val (pe_call Gs hr (by rfl) Ns.g Ns.F.kp Ns.b .nil pass0 (pa_cons (pe_makeK0 N.M GI hr (by rfl) T.mgC W.kT pass0 (pk_cons (pv 4) pk_nil)) (pa_cons (pe_tup (pa_cons (pv 4) (pa_cons pe_int pa_nil))) pa_nil)))))))) (pss_one (ps_ret pe_bl)) pss_nil)
        (pss_cons (ps_if (pt_cmpR op_ne (pv 5) pe_int (nomark _))
          (pss_one (ps_for PassesOwn.never rfl (pi_list (pe_lst (pa_cons (pe_make N.M GI hr (by rfl) T.mgC N.b3 .nil pass0 (pa_cons (pv 4) (pa_cons (pv 5) pa_nil))) (pa_cons (pe_makeK (n := 1) N.M GI hr (by rfl) T.mgC W.kB pass0 (pa_cons (pv 4) pa_nil) (pk_cons (pv 5) pk_nil)) (pa_cons (pe_makeK0 N.M GI hr (by rfl) T.mgC W.kR pass0 (pk_cons (pv 5) (pk_cons (pv 4) pk_nil))) pa_nil))))) (pg_name (i := 6) nd rfl (.inl rfl))
            (pss_one (ps_if (pt_not (pt_val (pe_call Gs hr (by rfl) Ns.g Ns.F.kp Ns.b .nil pass0 (pa_cons (pv 6) (pa_cons (pe_tup (pa_cons (pv 4) (pa_cons (pv 5) pa_nil))) pa_nil))))) (pss_one (ps_ret pe_bl)) pss_nil)))) pss_nil)
        (pss_cons (ps_if (PW.pt (pw_or (pt_cmpR op_notBl (pe_call G1 hr (by rfl) N.N1.g N.N1.F.kp N.N1.b .nil pass0 (pa_cons (pv 4) pa_nil)) pe_bl (nomark _))
          (pw_or (pt_cmpR op_notBl (pe_call G0 hr (by rfl) N.N1.g N.N1.F.kp N.N1.b .nil pass0 (pa_cons (pe_ix ix_list (pv 1) (pe_ix ix_list (pv 3) pe_int (fun _ _ => rfl)) (fun _ _ => rfl)) pa_nil)) pe_bl (nomark _))
          (pw_or1 (pt_cmpR op_notBl (pe_call G0 hr (by rfl) N.N1.g N.N1.F.kp N.N1.b .nil pass0 (pa_cons (pe_make N.M GI hr (by rfl) T.mgC N.b2 (.cons N.r1 .nil) pass0 (pa_cons pe_int pa_nil)) pa_nil)) pe_bl (nomark _)))))) (pss_one (ps_ret pe_bl)) pss_nil)
        (pss_cons (ps_if (pt_cmpR (op_neD hu64) (pe_lst (pa_cons (pe_call Gf hr (by rfl) Nf.g Nf.F.kp Nf.b .nil pass0 (pa_cons (pv 4) (pa_cons pe_int pa_nil))) (pa_cons (pe_call Gf hr (by rfl) Nf.g Nf.F.kp Nf.b .nil pass0 (pa_cons (pe_ix ix_list (pv 1) (pe_ix ix_list (pv 3) pe_int (fun _ _ => rfl)) (fun _ _ => rfl)) (pa_cons pe_int pa_nil))) pa_nil))) (pe_lst (pa_cons pe_str (pa_cons pe_str pa_nil))) (nomark _)) (pss_one (ps_ret pe_bl)) pss_nil)
        (pss_one (ps_if (pt_cmpR (op_neD hu64) (pe_lst (pa_cons (pe_call Gf hr (by rfl) Nf.g Nf.F.kp Nf.b .nil pass0 (pa_cons (pv 4) (pa_cons (pe_ix ix_list (pv 1) (pe_ix ix_list (pv 3) pe_int (fun _ _ => rfl)) (fun _ _ => rfl)) pa_nil))) (pa_cons (pe_call Gf hr (by rfl) Nf.g Nf.F.kp Nf.b .nil pass0 (pa_cons (pe_ix ix_list (pv 1) (pe_ix ix_list (pv 3) pe_int (fun _ _ => rfl)) (fun _ _ => rfl)) (pa_cons (pe_ix ix_list (pv 1) (pe_ix ix_list (pv 3) pe_int (fun _ _ => rfl)) (fun _ _ => rfl)) pa_nil))) pa_nil))) (pe_lst (pa_cons pe_str (pa_cons pe_str pa_nil))) (nomark _)) (pss_one (ps_ret pe_bl)) pss_nil))))))))))
      (pss_one (ps_ret pe_bl))), ?_⟩
    refine ⟨rfl, (by show 1 ≤ sizeLine; decide), fun l1 n1 => ⟨(by show 1 ≤ sizeLine; decide), fun l2 n2 => fun l3 n3 => ⟨(by show 9 ≤ sizeLine; decide), fun o no => ?_⟩⟩⟩
    have x1 : Same H (upd H l1 (.lst [.int 1])) := same_upd n1
    have x2 := same_new (o := .tup [.int 1]) (x1.free n2) x1
    have x3 := same_new (o := .dK []) (x2.free n3) x2
    have y2 : Same (upd H l1 (.lst [.int 1])) _ := same_upd (o := .tup [.int 1]) n2
    have y3 : Same _ _ := same_upd (o := .dK []) n3
    have y4 := same_upd (o := .lst [.non, .bl true, .bl false, .str "1", .bl (decide (V.int 1 = V.int 1)), .ref l1, .ref l2, .ref l3, .str ""]) no
    generalize hH0 : upd (upd (upd (upd H l1 (.lst [.int 1])) l2 (.tup [.int 1])) l3 (.dK [])) o (.lst [.non, .bl true, .bl false, .str "1", .bl (decide (V.int 1 = V.int 1)), .ref l1, .ref l2, .ref l3, .str ""]) = H0 at y4
    have sH0 : Same H H0 := x3.trans y4
    have eo : H0 o = some (.lst [.non, .bl true, .bl false, .str "1", .bl (decide (V.int 1 = V.int 1)), .ref l1, .ref l2, .ref l3, .str ""]) := by rw [← hH0, upd_same]
    have hodd : ∀ i : Int, 0 ≤ i → i < 9 → ∃ x, atI [V.non, .bl true, .bl false, .str "1", .bl (decide (V.int 1 = V.int 1)), .ref l1, .ref l2, .ref l3, .str ""] i = some x ∧ Odd K H0 x := by
      intro i i0 i9
      rcases (show i = 0 ∨ i = 1 ∨ i = 2 ∨ i = 3 ∨ i = 4 ∨ i = 5 ∨ i = 6 ∨ i = 7 ∨ i = 8 by omega) with rfl | rfl | rfl | rfl | rfl | rfl | rfl | rfl | rfl
      · exact ⟨_, rfl, odd_non⟩
      · exact ⟨_, rfl, odd_bl⟩
      · exact ⟨_, rfl, odd_bl⟩
      · exact ⟨_, rfl, odd_str⟩
      · exact ⟨_, rfl, odd_bl⟩
      · exact ⟨_, rfl, odd_lst (y4 _ _ (y3 _ _ (y2 _ _ upd_same)))⟩
      · exact ⟨_, rfl, odd_tup (y4 _ _ (y3 _ _ upd_same))⟩
      · exact ⟨_, rfl, odd_dK (y4 _ _ upd_same)⟩
      · exact ⟨_, rfl, odd_str⟩
    generalize [V.non, .bl true, .bl false, .str "1", .bl (decide (V.int 1 = V.int 1)), .ref l1, .ref l2, .ref l3, .str ""] = odds at eo hodd
    refine ⟨.ref a, rfl, 30, rfl, a, _, rfl, sH0.seq hS, fun p np => ⟨(by show 1 ≤ sizeLine; decide), fun p2 np2 => ?_⟩⟩
    have npp : p ≠ p2 := fun e => by
      rw [← e, upd_same] at np2
      cases np2
    obtain ⟨zs, ez, hzl⟩ : ∃ zs : List Int, cutV (ns.map V.int) none (some 30) = zs.map V.int ∧ zs.length ≤ 63 := by
      unfold cutV
      refine ⟨(ns.drop (HT.sIx (ns.map V.int).length 0 none)).take (HT.sIx (ns.map V.int).length (ns.map V.int).length (some 30) - HT.sIx (ns.map V.int).length 0 none), by rw [List.map_take, List.map_drop], ?_⟩
      rw [List.length_take, List.length_drop]
      omega
    rw [ez] at np2 ⊢
    refine ⟨p, p2, zs.map V.int, [.int 0], rfl, rfl, by rw [upd_ne npp, upd_same], upd_same, ?_, fun p3 np3 => ?_⟩
    · rw [List.length_map]
      exact Nat.le_trans (Nat.add_le_add_right hzl 1) (by decide)
    have ecat : zs.map V.int ++ [V.int 0] = (zs ++ [0]).map V.int := by rw [List.map_append]; rfl
    rw [ecat]
    refine ⟨p3, rfl, ⟨_, SqL.of upd_same⟩, ?_⟩
    have w1 : Same H0 (upd H0 p (.lst (zs.map V.int))) := same_upd np
    have w2 := same_new (o := .lst [.int 0]) (w1.free np2) w1
    have w3 := same_new (o := .lst ((zs ++ [0]).map V.int)) (w2.free np3) w2
    generalize hH2 : upd (upd (upd H0 p (.lst (zs.map V.int))) p2 (.lst [.int 0])) p3 (.lst ((zs ++ [0]).map V.int)) = H2 at w3
    have e3 : H2 p3 = some (.lst ((zs ++ [0]).map V.int)) := by
      rw [← hH2, upd_same]
    refine for_list (K := K) (a := p3) (xs := (zs ++ [0]).map V.int) (fun i σ H3 => ∃ y2 y3 y4 y5 y6, σ = [some (.ref a), some (.ref o), y2, y3, y4, y5, y6] ∧ Same H2 H3) ⟨_, _, _, _, _, rfl, Same.refl _⟩ (fun i σ H3 _ ⟨_, _, _, _, _, _, h⟩ => SqL.of (h _ _ e3)) ?_ ?_
    · rintro i x σ H3 hx ⟨y2, y3, y4, y5, y6, rfl, s3⟩
      rw [List.getElem?_map] at hx
      obtain ⟨c, _, rfl⟩ := Option.map_eq_some_iff.mp hx
      -- the draws
      refine ⟨.int c, rfl, 10, 12, rfl, rfl, ⟨by decide, by decide, by decide⟩, 10, 18, rfl, rfl, ⟨by decide, by decide, by decide⟩, (by show 4 ≤ sizeLine; decide), fun q1 m1 => ?_⟩
      refine ⟨q1, 2, _, rfl, rfl, upd_same, by decide, by decide, (by show 4 * 2 ≤ sizeLine; decide), fun q2 m2 => ⟨(by show 2 ≤ sizeLine; decide), fun q3 m3 => ?_⟩⟩
      have v1 := same_upd (o := .lst [.int 3, .int (10 ^ (12 : Int).toNat), .int (10 ^ (18 : Int).toNat), .int 2]) m1
      have v2 := same_new (o := .lst (List.replicate (2 : Int).toNat [V.int 3, .int (10 ^ (12 : Int).toNat), .int (10 ^ (18 : Int).toNat), .int 2]).flatten) (v1.free m2) v1
      have v3 := same_new (o := .lst [.int 9, .int 9]) (v2.free m3) v2
      refine ⟨q2, q3, _, _, rfl, rfl, same_upd m3 _ _ upd_same, upd_same, (by decide), fun q4 m4 => ?_⟩
      have v4 := same_new (o := .lst (sizes.map V.int)) (v3.free m4) v3
      refine ⟨c, q4, sizes, rfl, SqL.of upd_same, ?_, by decide, fun H4 p4 s4 n4 e4 => ?_⟩
      · intro z hz
        simp only [sizes, List.mem_cons, List.not_mem_nil, or_false] at hz
        rcases hz with rfl | rfl | rfl | rfl | rfl | rfl | rfl | rfl | rfl | rfl <;> exact ⟨by decide, by decide⟩
      have sA : Same H3 H4 := v4.trans s4
      generalize hds : draws c 0 sizes = ds at e4
      have hpos : ∀ z ∈ sizes, 0 < z := by decide
      have hok : ∀ (i : Nat) (x z : Int), ds[i]? = some x → sizes[i]? = some z → 0 ≤ x ∧ x < z := by
        rw [← hds]
        exact draws_ok _ c 0 hpos
      obtain ⟨a0, a1, a2, a3, a4, a5, a6, a7, a8, a9, rfl⟩ := ten (ds := ds) (by rw [← hds, draws_len]; rfl)
      have b0 := hok 0 _ _ rfl rfl
      have b1 := hok 1 _ _ rfl rfl
      have b2 := hok 2 _ _ rfl rfl
      have b3 := hok 3 _ _ rfl rfl
      have b4 := hok 4 _ _ rfl rfl
      have b5 := hok 5 _ _ rfl rfl
      have b6 := hok 6 _ _ rfl rfl
      have b7 := hok 7 _ _ rfl rfl
      have b8 := hok 8 _ _ rfl rfl
      have b9 := hok 9 _ _ rfl rfl
      -- both numbers
      refine ⟨.ref p4, rfl, 4, rfl, p4, _, rfl, SqL.of e4, fun q5 m5 => ?_⟩
      refine ⟨q5, a0, a1, a2, a3, rfl, SqL.of upd_same, b0, b1, b2, b3, fun H5 up s5 zup => ?_⟩
      have sB : Same H4 H5 := (same_upd m5).trans s5
      refine ⟨.ref p4, rfl, 4, rfl, 8, rfl, p4, _, rfl, SqL.of (sB _ _ e4), fun q6 m6 => ?_⟩
      refine ⟨q6, a4, a5, a6, a7, rfl, SqL.of upd_same, b4, b5, b6, b7, fun H6 un s6 zun => ?_⟩
      have sC : Same H5 H6 := (same_upd m6).trans s6
      have e46 := sC _ _ (sB _ _ e4)
      obtain ⟨x8, h8, o8⟩ := hodd a8 b8.1 b8.2
      obtain ⟨x9, h9, o9⟩ := hodd a9 b9.1 b9.2
      have z1 : ((1 : Int)).natAbs < 2 ^ 8000 := Nat.one_lt_two_pow (by decide)
      have zu : un.natAbs < 2 ^ 8000 := Nat.lt_of_lt_of_le zun (Nat.pow_le_pow_right (by decide) (by decide))
      -- one number
      refine ⟨.int up, rfl, ?_⟩
      intro p7 dx0 n7 hdx0 ne0
      refine ⟨p7, dx0, up, 1, rfl, (by decide), z1, upd_same, rfl, ?_⟩
      rw [upd_upd]
      obtain ⟨s7, pa7⟩ := mk_facts (C := C) (q := Rat.divInt up 1) n7 hdx0
      generalize upd (upd H6 dx0 (.own p7)) p7 (.ins C dx0 (pf (Rat.divInt up 1))) = H7 at s7 pa7 ⊢
      refine ⟨.int up, rfl, (by show 2 ≤ sizeLine; decide), fun t7 nt7 => ?_⟩
      refine ⟨p7, t7, up, 1, rfl, pa7.same (same_upd nt7), upd_same, (by decide), z1, fun H8 s8 => ⟨true, rfl, iteF ?_⟩⟩
      have t68 : Same H6 H8 := (s7.trans (same_upd nt7)).trans s8
      refine ⟨.int up, rfl, rfl, rfl, ?_⟩
      intro p9 dx0 n9 hdx0 ne0
      refine ⟨p9, dx0, up, 1, rfl, (by decide), z1, upd_same, rfl, ?_⟩
      rw [upd_upd]
      obtain ⟨s9, pa9⟩ := mk_facts (C := C) (q := Rat.divInt up 1) n9 hdx0
      generalize upd (upd H8 dx0 (.own p9)) p9 (.ins C dx0 (pf (Rat.divInt up 1))) = H9 at s9 pa9 ⊢
      refine ⟨.int up, rfl, (by show 2 ≤ sizeLine; decide), fun t9 nt9 => ?_⟩
      refine ⟨p9, t9, up, 1, rfl, pa9.same (same_upd nt9), upd_same, (by decide), z1, fun Ha sa => ⟨true, rfl, iteF ?_⟩⟩
      have t6a : Same H6 Ha := (((t68.trans s9).trans (same_upd nt9)).trans sa)
      -- both numbers
      refine ⟨.int un, rfl, rfl, _, rfl, ?_⟩
      by_cases hun : un = 0
      · rw [decide_eq_true (show V.int un = V.int 0 by rw [hun])]
        refine iteF ?_
        · have sD := t6a
          have e4c := sD _ _ e46
          have eoc := sD _ _ (sC _ _ (sB _ _ (sA _ _ (s3 _ _ (w3 _ _ eo)))))
          have o8c := odd_same (((((w3.trans s3).trans sA).trans sB).trans sC).trans sD) o8
          have o9c := odd_same (((((w3.trans s3).trans sA).trans sB).trans sC).trans sD) o9
          refine ⟨.int up, rfl, up, rfl, true, true, rfl, rfl, _, rfl, iteF ?_⟩
          refine ⟨.ref o, rfl, .ref p4, rfl, p4, _, 8, .int a8, rfl, rfl, SqL.of e4c, rfl, o, _, a8, x8, rfl, rfl, SqL.of eoc, h8, x8, rfl, o8c, false, false, rfl, rfl, _, rfl, iteF ?_⟩
          intro pd dx0 nd' hdx0 ne0
          refine ⟨pd, dx0, 1, 1, rfl, (by decide), z1, upd_same, rfl, ?_⟩
          rw [upd_upd]
          obtain ⟨sd, pad⟩ := mk_facts (C := C) (q := Rat.divInt 1 1) nd' hdx0
          generalize upd (upd Ha dx0 (.own pd)) pd (.ins C dx0 (pf (Rat.divInt 1 1))) = Hd at sd pad ⊢
          refine ⟨_, rfl, odd_part T hi pad, false, false, rfl, rfl, _, rfl, iteF ?_⟩
          refine ⟨.int up, rfl, .int up, .int 0, "nought", rfl, .inr (.inr ⟨⟨up, rfl⟩, rfl, rfl⟩), fun He se => ?_⟩
          have sde := sd.trans se
          refine ⟨.ref o, rfl, .ref p4, rfl, p4, _, 8, .int a8, rfl, rfl, SqL.of (sde _ _ e4c), rfl, o, _, a8, x8, rfl, rfl, SqL.of (sde _ _ eoc), h8, x8, .int 0, "number", rfl, .inl ⟨odd_same sde o8c, rfl⟩, fun Hf sf => ?_⟩
          refine ⟨(by show 2 ≤ sizeLine; decide), fun L1 nL1 => ⟨(by show 2 ≤ sizeLine; decide), fun L2 nL2 => ?_⟩⟩
          refine ⟨_, _, .lst (SqL.of (same_upd nL2 _ _ upd_same)) (.cons (.str _) (.cons (.str _) .nil)), .lst (SqL.of upd_same) (.cons (.str _) (.cons (.str _) .nil)), shaped_nn, shaped_nn, _, rfl, ?_⟩
          rw [two_eqv]
          have sdf := ((sde.trans sf).trans (same_upd (o := .lst [.str "nought", .str "number"]) nL1)).trans (same_upd (o := .lst [.str "nought", .str "number"]) nL2)
          refine iteF ⟨.int up, rfl, .ref o, rfl, .ref p4, rfl, p4, _, 9, .int a9, rfl, rfl, SqL.of (sdf _ _ e4c), rfl, o, _, a9, x9, rfl, rfl, SqL.of (sdf _ _ eoc), h9, .int up, x9, "number", rfl, .inr (.inl ⟨⟨up, rfl⟩, odd_same sdf o9c, rfl⟩), fun Hg sg => ?_⟩
          have sdg := sdf.trans sg
          refine ⟨.ref o, rfl, .ref p4, rfl, p4, _, 8, .int a8, rfl, rfl, SqL.of (sdg _ _ e4c), rfl, o, _, a8, x8, rfl, rfl, SqL.of (sdg _ _ eoc), h8, .ref o, rfl, .ref p4, rfl, p4, _, 9, .int a9, rfl, rfl, SqL.of (sdg _ _ e4c), rfl, o, _, a9, x9, rfl, rfl, SqL.of (sdg _ _ eoc), h9, x8, x9, "number", rfl, .inl ⟨odd_same sdg o8c, rfl⟩, fun Hh sh => ?_⟩
          refine ⟨(by show 2 ≤ sizeLine; decide), fun L3 nL3 => ⟨(by show 2 ≤ sizeLine; decide), fun L4 nL4 => ?_⟩⟩
          refine ⟨_, _, .lst (SqL.of (same_upd nL4 _ _ upd_same)) (.cons (.str _) (.cons (.str _) .nil)), .lst (SqL.of upd_same) (.cons (.str _) (.cons (.str _) .nil)), shaped_mm, shaped_mm, _, rfl, ?_⟩
          rw [two_eqv]
          have sdh := ((sdg.trans sh).trans (same_upd (o := .lst [.str "number", .str "number"]) nL3)).trans (same_upd (o := .lst [.str "number", .str "number"]) nL4)
          exact iteF ⟨_, _, _, _, _, rfl, ((((s3.trans sA).trans sB).trans sC).trans sD).trans sdh⟩
      · rw [decide_eq_false fun z => hun (V.int.inj z)]
        refine iteT ⟨.int up, rfl, .int un, rfl, ?_⟩
        intro pb dx0 nb hdx0 ne0
        refine ⟨pb, dx0, up, un, rfl, hun, zu, upd_same, rfl, ?_⟩
        rw [upd_upd]
        obtain ⟨sb, pab⟩ := mk_facts (C := C) (q := Rat.divInt up un) nb hdx0
        generalize upd (upd Ha dx0 (.own pb)) pb (.ins C dx0 (pf (Rat.divInt up un))) = Hb at sb pab ⊢
        refine ⟨.int up, rfl, .int un, rfl, rfl, rfl, ?_⟩
        intro pc dx0 nc hdx0 ne0
        refine ⟨pc, dx0, up, un, rfl, hun, zu, upd_same, rfl, ?_⟩
        rw [upd_upd]
        obtain ⟨sc, pac⟩ := mk_facts (C := C) (q := Rat.divInt up un) nc hdx0
        generalize upd (upd Hb dx0 (.own pc)) pc (.ins C dx0 (pf (Rat.divInt up un))) = Hc at sc pac ⊢
        refine ⟨.int un, rfl, .int up, rfl, rfl, rfl, ?_⟩
        intro pd dx0 nd' hdx0 ne0
        refine ⟨pd, dx0, up, un, rfl, hun, zu, upd_same, rfl, ?_⟩
        rw [upd_upd]
        obtain ⟨sd, pad⟩ := mk_facts (C := C) (q := Rat.divInt up un) nd' hdx0
        generalize upd (upd Hc dx0 (.own pd)) pd (.ins C dx0 (pf (Rat.divInt up un))) = Hd at sd pad ⊢
        refine ⟨(by show 3 ≤ sizeLine; decide), fun l9 nl9 => ?_⟩
        have u4 := same_upd (o := .lst [.ref pb, .ref pc, .ref pd]) nl9
        have tall : Same Ha (upd Hd l9 (.lst [.ref pb, .ref pc, .ref pd])) := ((sb.trans sc).trans sd).trans u4
        have qb := ((pab.same sc).same sd).same u4
        have qc := (pac.same sd).same u4
        have qd := pad.same u4
        have el9 : upd Hd l9 (.lst [.ref pb, .ref pc, .ref pd]) l9 = some (.lst [.ref pb, .ref pc, .ref pd]) := upd_same
        generalize upd Hd l9 (.lst [.ref pb, .ref pc, .ref pd]) = H20 at tall qb qc qd el9
        refine ⟨l9, rfl, ⟨_, SqL.of el9⟩, ?_⟩
        refine for_list (K := K) (a := l9) (xs := [.ref pb, .ref pc, .ref pd]) (fun i σ H21 => ∃ y6, σ = [some (.ref a), some (.ref o), some (.int c), some (.ref p4), some (.int up), some (.int un), y6] ∧ Same H20 H21) ⟨_, rfl, Same.refl _⟩ (fun i σ H21 _ ⟨_, _, h⟩ => SqL.of (h _ _ el9)) ?_ ?_
        · rintro i x σ H21 hx ⟨y6, rfl, s21⟩
          obtain ⟨px, rfl, pax⟩ : ∃ px, x = .ref px ∧ PA C H20 px (Rat.divInt up un) := by
            match i, hx with
            | 0, hx => exact ⟨pb, (Option.some.inj hx).symm, qb⟩
            | 1, hx => exact ⟨pc, (Option.some.inj hx).symm, qc⟩
            | 2, hx => exact ⟨pd, (Option.some.inj hx).symm, qd⟩
          refine ⟨_, rfl, .int up, rfl, .int un, rfl, (by show 2 ≤ sizeLine; decide), fun t22 nt22 => ?_⟩
          refine ⟨px, t22, up, un, rfl, (pax.same s21).same (same_upd nt22), upd_same, hun, zu, fun H23 s23 => ⟨true, rfl, iteF ?_⟩⟩
          exact ⟨_, rfl, (s21.trans (same_upd nt22)).trans s23⟩
        · rintro σ H21 ⟨y6, rfl, s21⟩
          have sD := (t6a.trans tall).trans s21
          have e4c := sD _ _ e46
          have eoc := sD _ _ (sC _ _ (sB _ _ (sA _ _ (s3 _ _ (w3 _ _ eo)))))
          have o8c := odd_same (((((w3.trans s3).trans sA).trans sB).trans sC).trans sD) o8
          have o9c := odd_same (((((w3.trans s3).trans sA).trans sB).trans sC).trans sD) o9
          refine ⟨.int up, rfl, up, rfl, true, true, rfl, rfl, _, rfl, iteF ?_⟩
          refine ⟨.ref o, rfl, .ref p4, rfl, p4, _, 8, .int a8, rfl, rfl, SqL.of e4c, rfl, o, _, a8, x8, rfl, rfl, SqL.of eoc, h8, x8, rfl, o8c, false, false, rfl, rfl, _, rfl, iteF ?_⟩
          intro pd dx0 nd' hdx0 ne0
          refine ⟨pd, dx0, 1, 1, rfl, (by decide), z1, upd_same, rfl, ?_⟩
          rw [upd_upd]
          obtain ⟨sd, pad⟩ := mk_facts (C := C) (q := Rat.divInt 1 1) nd' hdx0
          generalize upd (upd H21 dx0 (.own pd)) pd (.ins C dx0 (pf (Rat.divInt 1 1))) = Hd at sd pad ⊢
          refine ⟨_, rfl, odd_part T hi pad, false, false, rfl, rfl, _, rfl, iteF ?_⟩
          refine ⟨.int up, rfl, .int up, .int 0, "nought", rfl, .inr (.inr ⟨⟨up, rfl⟩, rfl, rfl⟩), fun He se => ?_⟩
          have sde := sd.trans se
          refine ⟨.ref o, rfl, .ref p4, rfl, p4, _, 8, .int a8, rfl, rfl, SqL.of (sde _ _ e4c), rfl, o, _, a8, x8, rfl, rfl, SqL.of (sde _ _ eoc), h8, x8, .int 0, "number", rfl, .inl ⟨odd_same sde o8c, rfl⟩, fun Hf sf => ?_⟩
          refine ⟨(by show 2 ≤ sizeLine; decide), fun L1 nL1 => ⟨(by show 2 ≤ sizeLine; decide), fun L2 nL2 => ?_⟩⟩
          refine ⟨_, _, .lst (SqL.of (same_upd nL2 _ _ upd_same)) (.cons (.str _) (.cons (.str _) .nil)), .lst (SqL.of upd_same) (.cons (.str _) (.cons (.str _) .nil)), shaped_nn, shaped_nn, _, rfl, ?_⟩
          rw [two_eqv]
          have sdf := ((sde.trans sf).trans (same_upd (o := .lst [.str "nought", .str "number"]) nL1)).trans (same_upd (o := .lst [.str "nought", .str "number"]) nL2)
          refine iteF ⟨.int up, rfl, .ref o, rfl, .ref p4, rfl, p4, _, 9, .int a9, rfl, rfl, SqL.of (sdf _ _ e4c), rfl, o, _, a9, x9, rfl, rfl, SqL.of (sdf _ _ eoc), h9, .int up, x9, "number", rfl, .inr (.inl ⟨⟨up, rfl⟩, odd_same sdf o9c, rfl⟩), fun Hg sg => ?_⟩
          have sdg := sdf.trans sg
          refine ⟨.ref o, rfl, .ref p4, rfl, p4, _, 8, .int a8, rfl, rfl, SqL.of (sdg _ _ e4c), rfl, o, _, a8, x8, rfl, rfl, SqL.of (sdg _ _ eoc), h8, .ref o, rfl, .ref p4, rfl, p4, _, 9, .int a9, rfl, rfl, SqL.of (sdg _ _ e4c), rfl, o, _, a9, x9, rfl, rfl, SqL.of (sdg _ _ eoc), h9, x8, x9, "number", rfl, .inl ⟨odd_same sdg o8c, rfl⟩, fun Hh sh => ?_⟩
          refine ⟨(by show 2 ≤ sizeLine; decide), fun L3 nL3 => ⟨(by show 2 ≤ sizeLine; decide), fun L4 nL4 => ?_⟩⟩
          refine ⟨_, _, .lst (SqL.of (same_upd nL4 _ _ upd_same)) (.cons (.str _) (.cons (.str _) .nil)), .lst (SqL.of upd_same) (.cons (.str _) (.cons (.str _) .nil)), shaped_mm, shaped_mm, _, rfl, ?_⟩
          rw [two_eqv]
          have sdh := ((sdg.trans sh).trans (same_upd (o := .lst [.str "number", .str "number"]) nL3)).trans (same_upd (o := .lst [.str "number", .str "number"]) nL4)
          exact iteF ⟨_, _, _, _, _, rfl, ((((s3.trans sA).trans sB).trans sC).trans sD).trans sdh⟩
    · rintro σ H3 ⟨y2, y3, y4, y5, y6, rfl, s3⟩
      exact q _
end
end Hop

set_option Elab.async false
set_option linter.all false
set_option maxRecDepth 100000
namespace Hop
open PySem L2 HopR
/-! ### what the top has written -/
theorem all_mk {l : PySem.W.OpenLaw} {w : World} {K : PySem.W.Frag} {h : Heap} {mg : Str → Option Value} {fa : Addr} (X : K.In h) (G : h.Ns mainGlobals mg) (hfa : mg "law" = some (.ref fa))
    {f1 : Addr} {od1 an1 : Option Addr} {sl1 : Array (Option Value)} {oc1 kV1 dc1 pm1 cd1 ct1 : Value}
    {f2 : Addr} {od2 an2 : Option Addr} {sl2 : Array (Option Value)} {oc2 kV2 dc2 pm2 cd2 ct2 : Value}
    {fw : Addr} {odw anw : Option Addr} {slw : Array (Option Value)} {ocw kVw dcw pmw cdw ctw : Value}
    {fl : Addr} {odl anl : Option Addr} {sll : Array (Option Value)} {ocl kVl dcl pml cdl ctl : Value}
    {fs : Addr} {ods ans : Option Addr} {sls : Array (Option Value)} {ocs kVs dcs pms cds cts : Value}
    {fm : Addr} {odm anm : Option Addr} {slm : Array (Option Value)} {ocm kVm dcm pmm cdm ctm : Value}
    {ff : Addr} {odf anf : Option Addr} {slf : Array (Option Value)} {ocf kVf dcf pmf cdf ctf : Value}
    {fL : Addr} {odL anL : Option Addr} {slL : Array (Option Value)} {ocL kVL dcL pmL cdL ctL : Value}
    {C fi Ti : Addr} {odi ani odT : Option Addr} {sli slT : Array (Option Value)} {oci kVi dci pmi cdi cti ocT : Value} {t1 : Tok} {nT : Nat}
    {HE NN BN NP NR NS NW : Addr}
    (a1 : PySem.W.nsIn K mainGlobals "is_whole" = some (some (.ref f1))) (l1 : K.lookup f1 = some ⟨oc1, od1, .func (PySem.W.fnOf "is_whole" "is_whole" (defArgs sIsWhole) (defBody sIsWhole) (defScope sIsWhole) .none kV1 dc1 pm1 an1 cd1 ct1), sl1⟩) (c1 : PySem.W.codeIn K cd1 "is_whole" = true) (k1 : PySem.W.keepIn K (.ref f1) = true)
    (a2 : PySem.W.nsIn K mainGlobals "common_divisor" = some (some (.ref f2))) (l2 : K.lookup f2 = some ⟨oc2, od2, .func (PySem.W.fnOf "common_divisor" "common_divisor" (defArgs sDivisor) (defBody sDivisor) (defScope sDivisor) .none kV2 dc2 pm2 an2 cd2 ct2), sl2⟩) (c2 : PySem.W.codeIn K cd2 "common_divisor" = true) (k2 : PySem.W.keepIn K (.ref f2) = true)
    (aw : PySem.W.nsIn K mainGlobals "_law_drawn" = some (some (.ref fw))) (lw : K.lookup fw = some ⟨ocw, odw, .func (PySem.W.fnOf "_law_drawn" "_law_drawn" (defArgs sDrawn) (defBody sDrawn) (defScope sDrawn) .none kVw dcw pmw anw cdw ctw), slw⟩) (cw : PySem.W.codeIn K cdw "_law_drawn" = true) (kw : PySem.W.keepIn K (.ref fw) = true)
    (al : PySem.W.nsIn K mainGlobals "_law_low" = some (some (.ref fl))) (ll : K.lookup fl = some ⟨ocl, odl, .func (PySem.W.fnOf "_law_low" "_law_low" (defArgs sLow) (defBody sLow) (defScope sLow) .none kVl dcl pml anl cdl ctl), sll⟩) (cl : PySem.W.codeIn K cdl "_law_low" = true) (kl : PySem.W.keepIn K (.ref fl) = true)
    (as : PySem.W.nsIn K mainGlobals "_law_is" = some (some (.ref fs))) (ls : K.lookup fs = some ⟨ocs, ods, .func (PySem.W.fnOf "_law_is" "_law_is" (defArgs sLIs) (defBody sLIs) (defScope sLIs) .none kVs dcs pms ans cds cts), sls⟩) (cs : PySem.W.codeIn K cds "_law_is" = true) (ks : PySem.W.keepIn K (.ref fs) = true)
    (am : PySem.W.nsIn K mainGlobals "_law_number" = some (some (.ref fm))) (lm : K.lookup fm = some ⟨ocm, odm, .func (PySem.W.fnOf "_law_number" "_law_number" (defArgs sNumber) (defBody sNumber) (defScope sNumber) .none kVm dcm pmm anm cdm ctm), slm⟩) (cm : PySem.W.codeIn K cdm "_law_number" = true) (km : PySem.W.keepIn K (.ref fm) = true)
    (af : PySem.W.nsIn K mainGlobals "_law_refused" = some (some (.ref ff))) (lf : K.lookup ff = some ⟨ocf, odf, .func (PySem.W.fnOf "_law_refused" "_law_refused" (defArgs sRefused) (defBody sRefused) (defScope sRefused) .none kVf dcf pmf anf cdf ctf), slf⟩) (cf : PySem.W.codeIn K cdf "_law_refused" = true) (kf : PySem.W.keepIn K (.ref ff) = true)
    (aL : PySem.W.nsIn K mainGlobals "law" = some (some (.ref fL))) (lL : K.lookup fL = some ⟨ocL, odL, .func (PySem.W.fnOf "law" "law" (defArgs sLaw) (defBody sLaw) (defScope sLaw) .none kVL dcL pmL anL cdL ctL), slL⟩) (cL : PySem.W.codeIn K cdL "law" = true) (kL : PySem.W.keepIn K (.ref fL) = true)
    (gC : PySem.W.nsIn K mainGlobals "Part" = some (some (.ref C)))
    (mi : PySem.W.findIn K (.ref C) "__init__" = some (some (.ref fi))) (ni : PySem.W.isFn K (.ref fi) = true) (li : K.lookup fi = some ⟨oci, odi, .func (PySem.W.fnOf "__init__" "Part.__init__" (defArgs sInit) (defBody sInit) (defScope sInit) (.ref Ti) kVi dci pmi ani cdi cti), sli⟩) (ci : PySem.W.codeIn K cdi "Part.__init__" = true) (ki : PySem.W.keepIn K (.ref fi) = true) (lT : K.lookup Ti = some ⟨ocT, odT, .seq #[.int 1 t1] nT, slT⟩)
    (q_pg : PySem.W.plainGet K C Str.empty = true)
    (q_hd : PySem.W.hasDictIn K C = true)
    (q_po : PySem.W.plainOver K C = true)
    (q_sa : PySem.W.findIn K (.ref C) "__setattr__" = some (some (.builtin "object.__setattr__")))
    (q_ha : PySem.W.findIn K (.ref C) "__class__" = some (some (.builtin "object.__class__")))
    (q_hn : PySem.W.specialIn K (.builtin "object.__class__") "__get__" = some (some (.builtin "getset_descriptor.__get__")))
    (q_htk : PySem.W.takesIn K (.builtin "object.__class__") = some true)
    (q_hm : PySem.W.mroIn K C (.type "object") = some true)
    (q_nT : PySem.W.findIn K (.ref C) "top" = some none)
    (q_nB : PySem.W.findIn K (.ref C) "bottom" = some none)
    (q_mk : PySem.W.makesIn K C = true)
    (q_kc : PySem.W.keepIn K (.ref C) = true)
    (q_ne : PySem.W.findIn K (.ref C) "__ne__" = some (some (.builtin "object.__ne__")))
    (q_ob : PySem.W.subIn K (.ref C) (.type "object") = some true)
    (z0 : PySem.W.nsIn K mainGlobals "len" = some none)
    (z1 : PySem.W.nsIn K mainGlobals "range" = some none)
    (z2 : PySem.W.nsIn K mainGlobals "abs" = some none)
    (z3 : PySem.W.nsIn K mainGlobals "isinstance" = some none)
    (z4 : PySem.W.nsIn K mainGlobals "int" = some none)
    (z5 : PySem.W.nsIn K mainGlobals "bool" = some none)
    (z6 : PySem.W.nsIn K mainGlobals "ValueError" = some none)
    (z7 : PySem.W.nsIn K mainGlobals "ZeroDivisionError" = some none)
    (g_HE : PySem.W.nsIn K mainGlobals "HopError" = some (some (.ref HE)))
    (g_NN : PySem.W.nsIn K mainGlobals "NoNumber" = some (some (.ref NN)))
    (g_BN : PySem.W.nsIn K mainGlobals "ByNought" = some (some (.ref BN)))
    (g_NP : PySem.W.nsIn K mainGlobals "NoPace" = some (some (.ref NP)))
    (g_NR : PySem.W.nsIn K mainGlobals "NoRow" = some (some (.ref NR)))
    (g_NS : PySem.W.nsIn K mainGlobals "NoStep" = some (some (.ref NS)))
    (g_NW : PySem.W.nsIn K mainGlobals "NoWord" = some (some (.ref NW)))
    (d_HE : PySem.W.hasDictIn K HE = true)
    (t_HE : PySem.W.typeIn K (.ref HE) = some (.type "type"))
    (d_NN : PySem.W.hasDictIn K NN = true)
    (t_NN : PySem.W.typeIn K (.ref NN) = some (.type "type"))
    (d_BN : PySem.W.hasDictIn K BN = true)
    (t_BN : PySem.W.typeIn K (.ref BN) = some (.type "type"))
    (d_NP : PySem.W.hasDictIn K NP = true)
    (t_NP : PySem.W.typeIn K (.ref NP) = some (.type "type"))
    (d_NR : PySem.W.hasDictIn K NR = true)
    (t_NR : PySem.W.typeIn K (.ref NR) = some (.type "type"))
    (d_NS : PySem.W.hasDictIn K NS = true)
    (t_NS : PySem.W.typeIn K (.ref NS) = some (.type "type"))
    (d_NW : PySem.W.hasDictIn K NW = true)
    (t_NW : PySem.W.typeIn K (.ref NW) = some (.type "type"))
    (b_HE : PySem.W.subIn K (.ref HE) (.type "BaseException") = some true)
    (b_NN : PySem.W.subIn K (.ref NN) (.type "BaseException") = some true)
    (b_BN : PySem.W.subIn K (.ref BN) (.type "BaseException") = some true)
    (x_NN : PySem.W.excIn K NN [.type "ValueError", .type "Exception", .type "BaseException", .type "object"] "ValueError.__new__" = true)
    (k_NN : PySem.W.keepIn K (.ref NN) = true)
    (ga_NN : PySem.W.findIn K (.ref NN) "__getattribute__" = some (some (.builtin "BaseException.__getattribute__")))
    (gt_NN : PySem.W.findIn K (.ref NN) "__getattr__" = some none)
    (cl_NN : PySem.W.findIn K (.ref NN) "__class__" = some (some (.builtin "object.__class__")))
    (mo_NN : PySem.W.mroIn K NN (.type "object") = some true)
    (x_BN : PySem.W.excIn K BN [.type "ZeroDivisionError", .type "ArithmeticError", .type "Exception", .type "BaseException", .type "object"] "ZeroDivisionError.__new__" = true)
    (k_BN : PySem.W.keepIn K (.ref BN) = true)
    (ga_BN : PySem.W.findIn K (.ref BN) "__getattribute__" = some (some (.builtin "BaseException.__getattribute__")))
    (gt_BN : PySem.W.findIn K (.ref BN) "__getattr__" = some none)
    (cl_BN : PySem.W.findIn K (.ref BN) "__class__" = some (some (.builtin "object.__class__")))
    (mo_BN : PySem.W.mroIn K BN (.type "object") = some true)
    (s_NN_HE : PySem.W.subIn K (.ref NN) (.ref HE) = some true)
    (s_NN_BN : PySem.W.subIn K (.ref NN) (.ref BN) = some false)
    (s_NN_NP : PySem.W.subIn K (.ref NN) (.ref NP) = some false)
    (s_NN_NR : PySem.W.subIn K (.ref NN) (.ref NR) = some false)
    (s_NN_NS : PySem.W.subIn K (.ref NN) (.ref NS) = some false)
    (s_NN_NW : PySem.W.subIn K (.ref NN) (.ref NW) = some false)
    (s_BN_HE : PySem.W.subIn K (.ref BN) (.ref HE) = some false)
    (s_BN_BN : PySem.W.subIn K (.ref BN) (.ref BN) = some true)
    (e_NN_BN : NN ≠ BN)
    (e_NN_NP : NN ≠ NP)
    (e_NN_NR : NN ≠ NR)
    (e_NN_NS : NN ≠ NS)
    (e_NN_NW : NN ≠ NW)
    (e_BN_HE : BN ≠ HE)
    (sv : PySem.W.subIn K (.ref NN) (.type "ValueError") = some true)
    (sz : PySem.W.subIn K (.ref BN) (.type "ZeroDivisionError") = some true)
    (si : PySem.W.subIn K (.ref C) (.type "int") = some false)
    : ∃ fd : FuncData, (∀ (s : Shared) (v : Value), BindsTo s fd ⟨[v], []⟩ [("_law_script", v)]) ∧ ∀ base : Heap, K.In base → base.Ns mainGlobals mg → FnOk l.prog w K mg base CX0 6 fa fd ["_law_script"] (spLaw K) := by
  have e := hfa.symm.trans (PySem.W.mg_of X G aL)
  cases e
  have F1 := fun_mk (st := sIsWhole) l1 c1 k1
  have b1 := F1.binds (ps := ["thing"]) fun _ _ _ _ _ _ us hl => match us, hl with | [_], _ => rfl
  have N1 := Fn.mk (ps := ["thing"]) F1 b1 (PySem.W.mg_of X G a1)
  have F2 := fun_mk (st := sDivisor) l2 c2 k2
  have b2 := F2.binds (ps := ["one", "other"]) fun _ _ _ _ _ _ us hl => match us, hl with | [_, _], _ => rfl
  have N2 := Fn.mk (ps := ["one", "other"]) F2 b2 (PySem.W.mg_of X G a2)
  have Fw := fun_mk (st := sDrawn) lw cw kw
  have bw := Fw.binds (ps := ["_law_cell", "_law_sizes"]) fun _ _ _ _ _ _ us hl => match us, hl with | [_, _], _ => rfl
  have Nw := Fn.mk (ps := ["_law_cell", "_law_sizes"]) Fw bw (PySem.W.mg_of X G aw)
  have Fl := fun_mk (st := sLow) ll cl kl
  have bl := Fl.binds (ps := ["_law_upper", "_law_under"]) fun _ _ _ _ _ _ us hl => match us, hl with | [_, _], _ => rfl
  have Nl := Fn.mk (ps := ["_law_upper", "_law_under"]) Fl bl (PySem.W.mg_of X G al)
  have Fs := fun_mk (st := sLIs) ls cs ks
  have bs := Fs.binds (ps := ["_law_found", "_law_due"]) fun _ _ _ _ _ _ us hl => match us, hl with | [_, _], _ => rfl
  have Ns := Fn.mk (ps := ["_law_found", "_law_due"]) Fs bs (PySem.W.mg_of X G as)
  have Fm := fun_mk (st := sNumber) lm cm km
  have bm := Fm.binds (ps := ["_law_draws"]) fun _ _ _ _ _ _ us hl => match us, hl with | [_], _ => rfl
  have Nm := Fn.mk (ps := ["_law_draws"]) Fm bm (PySem.W.mg_of X G am)
  have Ff := fun_mk (st := sRefused) lf cf kf
  have bf := Ff.binds (ps := ["_law_upper", "_law_under"]) fun _ _ _ _ _ _ us hl => match us, hl with | [_, _], _ => rfl
  have Nf := Fn.mk (ps := ["_law_upper", "_law_under"]) Ff bf (PySem.W.mg_of X G af)
  have Fi : FunD K "__init__" "Part.__init__" (defArgs sInit) (defBody sInit) (defScope sInit) [.int 1] [] fi _ := ⟨⟨oci, odi, _, _, _, _, _, _, _, sli, rfl, li, ci, .inr ⟨by simp, Ti, _, [.int 1 t1], nT, rfl, lT, rfl, .cons ⟨_, rfl⟩ .nil⟩, .inl rfl⟩, ki⟩
  obtain ⟨ds3, r3, b3⟩ := Fi.binds1 (ps := ["self", "top", "bottom"]) 3 1 (by simp) rfl (fun T kV doc pm an cdv ct us its hl hi => match us, its, hl, hi with | [_, _, _], [_], _, _ => ⟨_, rfl, rfl⟩)
  obtain rfl : ds3 = [] := by cases r3; rfl
  obtain ⟨ds2, r2, b2⟩ := Fi.binds1 (ps := ["self", "top", "bottom"]) 2 0 (by simp) rfl (fun T kV doc pm an cdv ct us its hl hi => match us, its, hl, hi with | [_, _], [_], _, _ => ⟨_, rfl, rfl⟩)
  obtain ⟨d1, rfl, r1⟩ : ∃ d1, ds2 = [d1] ∧ RelV (.int 1) d1 := by
    cases r2 with
    | cons r rr =>
      cases rr
      exact ⟨_, rfl, r⟩
  have y0 := PySem.W.mg_none_of X G z0
  have y1 := PySem.W.mg_none_of X G z1
  have y2 := PySem.W.mg_none_of X G z2
  have y3 := PySem.W.mg_none_of X G z3
  have y4 := PySem.W.mg_none_of X G z4
  have y5 := PySem.W.mg_none_of X G z5
  have y6 := PySem.W.mg_none_of X G z6
  have y7 := PySem.W.mg_none_of X G z7
  have q_me : PySem.W.kitOne K (.ref C) (.ref C) = some true := by
    unfold PySem.W.kitOne
    rw [if_pos (by simp)]
  have CL : Cls K C := ⟨q_pg, q_hd, q_po, q_sa⟩
  have IC : C8.InsC K C := ⟨CL, q_ha, q_hn, q_htk, q_hm, q_me⟩
  have gPart := PySem.W.mg_of X G gC
  have T : Txt K mg C := ⟨y0, y1, y2, y3, y4, y5, IC, q_nT, q_nB, gPart⟩
  have N : Mks K mg C fi f1 f2 _ _ _ d1 := ⟨⟨q_mk, mi, ni, q_kc⟩, Fi, b3, b2, r1, N1, N2⟩
  obtain ⟨its, W⟩ := kws_mk (K := K) Fi
  have Z : Er K mg HE NN BN NP NR NS NW := ⟨PySem.W.mg_of X G g_HE, PySem.W.mg_of X G g_NN, PySem.W.mg_of X G g_BN, PySem.W.mg_of X G g_NP, PySem.W.mg_of X G g_NR, PySem.W.mg_of X G g_NS, PySem.W.mg_of X G g_NW, y6, y7, ⟨x_NN, k_NN, b_NN, t_NN, ⟨ga_NN, gt_NN, b_NN, d_NN, cl_NN, q_hn, q_htk, mo_NN⟩⟩, ⟨x_BN, k_BN, b_BN, t_BN, ⟨ga_BN, gt_BN, b_BN, d_BN, cl_BN, q_hn, q_htk, mo_BN⟩⟩, exmAny2 (PySem.W.exm_ref b_HE d_HE t_HE s_NN_HE) (PySem.W.exm_ref b_BN d_BN t_BN s_NN_BN), exmAny2 (PySem.W.exm_ref b_HE d_HE t_HE s_BN_HE) (PySem.W.exm_ref b_BN d_BN t_BN s_BN_BN), (kit_own e_NN_BN d_BN t_BN s_NN_BN), kitAny4 (kit_own e_NN_NP d_NP t_NP s_NN_NP) (kit_own e_NN_NR d_NR t_NR s_NN_NR) (kit_own e_NN_NS d_NS t_NS s_NN_NS) (kit_own e_NN_NW d_NW t_NW s_NN_NW), kit_blt (by decide +kernel) sv, kit_blt (by decide +kernel) sz, (kit_own e_BN_HE d_HE t_HE s_BN_HE)⟩
  exact ⟨PySem.W.fnOf "law" "law" (defArgs sLaw) (defBody sLaw) (defScope sLaw) .none kVL dcL pmL anL cdL ctL, fun s v => .of_eq rfl, fun base _ _ => ok_law (fun_mk (st := sLaw) lL cL kL) N W Nw Nl Ns Nm Nf T Z (kit_blt (by decide +kernel) si)⟩
end Hop
open PySem PySem.W PyProof.Rows in
set_option maxRecDepth 100000 in
set_option maxHeartbeats 0 in
theorem PySem.Challenge.cw_hopline_k01_parts_made_holds : PySem.Challenge.rw_hopline_k01_parts_made.Holds := by
  w_on; o_law; k_head; (case hw => w_witness2)
  k_fill
  refine L2.walk_of (l := PySem.Challenge.rw_hopline_k01_parts_made) (n := 63) (k := 6) (x := "_law_script") (CX := fun _ => L2.CX0) (sp := fun w => Hop.spLaw _) rfl (by decide) rfl ⟨rfl, by decide, by decide⟩ (fun w h Y => PySem.W.kIn_of Y) ?F (fun _ _ a ns hl _ hS => ⟨a, ns, rfl, hS, hl, fun _ => rfl⟩) (fun _ _ _ _ _ h => h)
  case F =>
    intro w mg fa h KX G hmg
    refine' Hop.all_mk KX G hmg ?u_a1 ?u_l1 ?u_c1 ?u_k1 ?u_a2 ?u_l2 ?u_c2 ?u_k2 ?u_aw ?u_lw ?u_cw ?u_kw ?u_al ?u_ll ?u_cl ?u_kl ?u_as ?u_ls ?u_cs ?u_ks ?u_am ?u_lm ?u_cm ?u_km ?u_af ?u_lf ?u_cf ?u_kf ?u_aL ?u_lL ?u_cL ?u_kL ?u_gC ?u_mi ?u_ni ?u_li ?u_ci ?u_ki ?u_lT ?u_q_pg ?u_q_hd ?u_q_po ?u_q_sa ?u_q_ha ?u_q_hn ?u_q_htk ?u_q_hm ?u_q_nT ?u_q_nB ?u_q_mk ?u_q_kc ?u_q_ne ?u_q_ob ?u_z0 ?u_z1 ?u_z2 ?u_z3 ?u_z4 ?u_z5 ?u_z6 ?u_z7 ?u_g_HE ?u_g_NN ?u_g_BN ?u_g_NP ?u_g_NR ?u_g_NS ?u_g_NW ?u_d_HE ?u_t_HE ?u_d_NN ?u_t_NN ?u_d_BN ?u_t_BN ?u_d_NP ?u_t_NP ?u_d_NR ?u_t_NR ?u_d_NS ?u_t_NS ?u_d_NW ?u_t_NW ?u_b_HE ?u_b_NN ?u_b_BN ?u_x_NN ?u_k_NN ?u_ga_NN ?u_gt_NN ?u_cl_NN ?u_mo_NN ?u_x_BN ?u_k_BN ?u_ga_BN ?u_gt_BN ?u_cl_BN ?u_mo_BN ?u_s_NN_HE ?u_s_NN_BN ?u_s_NN_NP ?u_s_NN_NR ?u_s_NN_NS ?u_s_NN_NW ?u_s_BN_HE ?u_s_BN_BN ?u_e_NN_BN ?u_e_NN_NP ?u_e_NN_NR ?u_e_NN_NS ?u_e_NN_NW ?u_e_BN_HE ?u_sv ?u_sz ?u_si
    (case u_a1 => k_is)
    (case u_l1 => k_is)
    (case u_c1 => k_is)
    (case u_k1 => k_is)
    (case u_a2 => k_is)
    (case u_l2 => k_is)
    (case u_c2 => k_is)
    (case u_k2 => k_is)
    (case u_aw => k_is)
    (case u_lw => k_is)
    (case u_cw => k_is)
    (case u_kw => k_is)
    (case u_al => k_is)
    (case u_ll => k_is)
    (case u_cl => k_is)
    (case u_kl => k_is)
    (case u_as => k_is)
    (case u_ls => k_is)
    (case u_cs => k_is)
    (case u_ks => k_is)
    (case u_am => k_is)
    (case u_lm => k_is)
    (case u_cm => k_is)
    (case u_km => k_is)
    (case u_af => k_is)
    (case u_lf => k_is)
    (case u_cf => k_is)
    (case u_kf => k_is)
    (case u_aL => k_is)
    (case u_lL => k_is)
    (case u_cL => k_is)
    (case u_kL => k_is)
    (case u_gC => k_is)
    (case u_mi => k_is)
    (case u_ni => k_is)
    (case u_li => k_is)
    (case u_ci => k_is)
    (case u_ki => k_is)
    (case u_lT => k_is)
    (case u_q_pg => k_is)
    (case u_q_hd => k_is)
    (case u_q_po => k_is)
    (case u_q_sa => k_is)
    (case u_q_ha => k_is)
    (case u_q_hn => k_is)
    (case u_q_htk => k_is)
    (case u_q_hm => k_is)
    (case u_q_nT => k_is)
    (case u_q_nB => k_is)
    (case u_q_mk => k_is)
    (case u_q_kc => k_is)
    (case u_q_ne => k_is)
    (case u_q_ob => k_is)
    (case u_z0 => k_is)
    (case u_z1 => k_is)
    (case u_z2 => k_is)
    (case u_z3 => k_is)
    (case u_z4 => k_is)
    (case u_z5 => k_is)
    (case u_z6 => k_is)
    (case u_z7 => k_is)
    (case u_g_HE => k_is)
    (case u_g_NN => k_is)
    (case u_g_BN => k_is)
    (case u_g_NP => k_is)
    (case u_g_NR => k_is)
    (case u_g_NS => k_is)
    (case u_g_NW => k_is)
    (case u_d_HE => k_is)
    (case u_t_HE => k_is)
    (case u_d_NN => k_is)
    (case u_t_NN => k_is)
    (case u_d_BN => k_is)
    (case u_t_BN => k_is)
    (case u_d_NP => k_is)
    (case u_t_NP => k_is)
    (case u_d_NR => k_is)
    (case u_t_NR => k_is)
    (case u_d_NS => k_is)
    (case u_t_NS => k_is)
    (case u_d_NW => k_is)
    (case u_t_NW => k_is)
    (case u_b_HE => k_is)
    (case u_b_NN => k_is)
    (case u_b_BN => k_is)
    (case u_x_NN => k_exc)
    (case u_k_NN => k_is)
    (case u_ga_NN => k_is)
    (case u_gt_NN => k_is)
    (case u_cl_NN => k_is)
    (case u_mo_NN => k_is)
    (case u_x_BN => k_exc)
    (case u_k_BN => k_is)
    (case u_ga_BN => k_is)
    (case u_gt_BN => k_is)
    (case u_cl_BN => k_is)
    (case u_mo_BN => k_is)
    (case u_s_NN_HE => k_is)
    (case u_s_NN_BN => k_is)
    (case u_s_NN_NP => k_is)
    (case u_s_NN_NR => k_is)
    (case u_s_NN_NS => k_is)
    (case u_s_NN_NW => k_is)
    (case u_s_BN_HE => k_is)
    (case u_s_BN_BN => k_is)
    (case u_e_NN_BN => decide)
    (case u_e_NN_NP => decide)
    (case u_e_NN_NR => decide)
    (case u_e_NN_NS => decide)
    (case u_e_NN_NW => decide)
    (case u_e_BN_HE => decide)
    (case u_sv => k_is)
    (case u_sz => k_is)
    (case u_si => k_is)
