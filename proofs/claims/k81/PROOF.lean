import PyProof.Rows.All
import Wide.All
import OpenK.AllK
import Wide.FinOn
import HandS.ForMost
import HandS.Wide
import HandS.Style
import HandS.RevTup
import HandS.Rev
import HandS.IsInst
import HandS.More
import HandS.Conv
import HandS.Defaults
import HandS.ForExc
import HandS.OwnEq
import HandS.Flow
import PyProof.ListStr
import HandS.Walk
import HandS.EndBits
import PyProof.ReprRoads
import PyProof.ReprLen
import HandS.Exc
import HandS.ExcIs
import HandS.TryOnly
import HandS.ExcOwn
import HandS.WordsExc
import HandS.ReplaceLit
import HandS.ReplaceDef
import HandS.ReplaceList
import PySem.Challenge.RW_hopline_k81_ring_chances
import PyProof.TupleOfStr
import HandS.Deep
import HandS.Codes
import KE.KCallOwn
import PyProof.InstNe

set_option Elab.async false
set_option linter.all false
set_option maxRecDepth 100000
namespace HopR
open PySem PySem.Spec PyProof.Rows L2
/-! rules of my own: texts -/
/-- the signs of a text, each a text -/
def sg (z : Str) : List Str := z.cps.toList.map fun c => ⟨#[c]⟩
theorem sg_len (z : Str) : (sg z).length = z.length := by
  unfold sg
  rw [List.length_map]
  rfl
theorem sg_get {z : Str} {i : Nat} {c : Nat} (h : z.cps[i]? = some c) : (sg z)[i]? = some ⟨#[c]⟩ := by
  unfold sg
  rw [List.getElem?_map, Array.getElem?_toList, h]
  rfl
theorem strsAre_of : ∀ (vs : List Value) (ys : List Str), vs.length = ys.length → (∀ (j : Nat) (v : Value), vs[j]? = some v → ∃ y t, ys[j]? = some y ∧ v = .str y t) → StrsAre vs ys
  | [], [], _, _ => .nil
  | v :: r, y :: q, hl, h => by
    obtain ⟨y', t, e1, e2⟩ := h 0 v rfl
    have e3 : y = y' := Option.some.inj e1
    subst e3 e2
    exact .cons y t (strsAre_of r q (by simpa using hl) fun j w hw => h (j + 1) w hw)
theorem signs_are {z : Str} {acc : Array Value} (h : ItemsOf (SignAt z) acc z.cps.size) : StrsAre acc.toList (sg z) := by
  refine strsAre_of _ _ (by rw [sg_len, Array.length_toList, h.1]; rfl) fun j v hv => ?_
  obtain ⟨c, u, hc, e⟩ := h.2 j v (by rw [← Array.getElem?_toList]; exact hv)
  exact ⟨⟨#[c]⟩, u, sg_get hc, e⟩
section
variable {X : Cx}
/-- sorted(text) -/
def rSortT : List V → Hp → VK → Prop := fun vs H Q => ∃ z : Str, vs = [.str z] ∧ z.length < 64 ∧ ∀ (ys : List Str) (p : Addr), ys.Perm (sg z) → sortedS ys = true → H p = none → Q (.ref p) (upd H p (.lst (ys.map V.str)))
theorem cr_sortT (hcm : X.calm = true) : CallR X (.builtin "sorted") rSortT := by
  intro pins s σ H xs us Q I r h
  obtain ⟨z, rfl, h64, q⟩ := h
  obtain ⟨u, rfl, t, rfl⟩ := vals1 r
  refine Calls.call_function_entry kind_sorted plain_sorted entry_sorted (args_sorted1 (.str z t)) ?_
  unfold Builtin.«sorted»
  refine wpAny_bind (m := checkCount "sorted" 1 1 [Value.str z t].length) (wpAny_pure ?_)
  have hz : z.cps.size < 64 := h64
  refine wpAny_bind (wpAny_collect_str (A := X.A.in1) (show X.A.in1.handled = none from I.ok.hd hcm) z t (fun s' acc hk hg hdr hos hit => ?_) (Nat.le_trans (Nat.le_of_lt hz) (by decide)))
  have hS := signs_are hit
  have es : s' = { s with heap := s'.heap, toks := s'.toks } := by
    cases s'
    cases s
    simp only at hg hdr hos
    subst hg hdr hos
    rfl
  have hal : acc.toList.length < 64 := by rw [Array.length_toList, hit.1]; exact hz
  refine wpAny_bind (wpAny_newList ?_ (Nat.le_trans (Nat.le_of_lt hal) (by decide)))
  have hoL : (s'.heap.push (seqObj "list" acc.toList.toArray 0)).get? s'.heap.objs.size = some (seqObj "list" acc.toList.toArray 0) := Heap.get?_push_size _ rfl
  refine wpAny_bind (wpAny_holding (wpAny_call_entry slot_list_sort ⟨_, hoL, rfl⟩ entry_list_sort (list_sort_treeK strKind_oneLt hoL hS.keysOf (fun v₁ v₂ rest e => keyKind_strs (by rw [← e]; exact hS)) hal fun st' hp hs => ⟨_, rfl, ?_⟩) (args_list_sort _)))
  obtain ⟨ys, g1, g2, g3⟩ := sorted_out_str hS hp hs
  obtain ⟨ep, he'⟩ := sortedHeap_at (vs := acc.toList) (out := (arrOf st').map (·.2)) hoL
  have I1 : Inv X pins σ H s' := by
    rw [es]
    exact I.kept hk
  have hlen : (ys.map V.str).length ≤ sizeLine := by
    rw [List.length_map, g2.length_eq, sg_len]
    exact Nat.le_trans (Nat.le_of_lt h64) (by decide)
  have hne : ∀ b o, s'.heap.get? b = some o → (sortedHeap (s'.heap.push (seqObj "list" acc.toList.toArray 0)) s'.heap.objs.size acc.toList ((arrOf st').map (·.2))).get? b = some o := fun b o e => by
    rw [sortedHeap_old (Nat.ne_of_lt (Heap.lt_size e)) (by rw [size_push']; exact Nat.lt_succ_of_lt (Heap.lt_size e))]
    exact Heap.get?_push_of_some _ e
  refine wpAny_pure ⟨_, rfl, .ref _, upd H s'.heap.objs.size (.lst (ys.map V.str)), I1.laid (t' := s'.toks) hne (Nat.le_refl _) ?_, rfl, q ys _ g2 g3 (I1.hok.fresh (Nat.le_refl _))⟩
  exact ⟨hlen, ((arrOf st').map (·.2)).toList, ep, vals_of_strs g1, by rw [Array.toArray_toList]; exact he'⟩
/-- list(text) -/
def rListT : List V → Hp → VK → Prop := fun vs H Q => ∃ z : Str, vs = [.str z] ∧ z.length ≤ sizeLine ∧ ∀ p : Addr, H p = none → Q (.ref p) (upd H p (.lst ((sg z).map V.str)))
theorem cr_listT (hcm : X.calm = true) : CallR X (.type "list") rListT := by
  intro pins s σ H xs us Q I r h
  obtain ⟨z, rfl, hz, q⟩ := h
  obtain ⟨u, rfl, t, rfl⟩ := vals1 r
  refine call_list_str (I.ok.hd hcm) z t (fun h' tk acc c' hk hS' hit => ?_) hz
  refine ⟨.ref _, upd H s.heap.objs.size (.lst ((sg z).map V.str)), I.laid hk (Nat.le_refl _) ?_, rfl, q _ (I.hok.fresh (Nat.le_refl _))⟩
  exact ⟨by rw [List.length_map, sg_len]; exact hz, acc.toList, c', vals_of_strs (signs_are hit), by rw [Array.toArray_toList]; exact hS'⟩
/-- text * n -/
def repS (z : Str) (n : Nat) : Str := ⟨((List.replicate n z.cps.toList).flatten).toArray⟩
theorem foldl_app : ∀ (n : Nat) (a b : Array Nat), ((List.replicate n a).foldl (· ++ ·) b).toList = b.toList ++ (List.replicate n a.toList).flatten
  | 0, a, b => by simp
  | n + 1, a, b => by
    rw [List.replicate_succ, List.foldl_cons, foldl_app n, List.replicate_succ, List.flatten_cons, Array.toList_append, List.append_assoc]
theorem repS_len (z : Str) (k : Nat) : (repS z k).length = z.length * k := by
  show ((List.replicate k z.cps.toList).flatten).toArray.size = z.cps.size * k
  rw [List.size_toArray, List.length_flatten, List.map_replicate, List.sum_replicate_nat, Array.length_toList, Nat.mul_comm]
def rRepS : R2 := fun x y H Q => ∃ (z : Str) (k : Nat), x = .str z ∧ y = .int (k : Int) ∧ z.length * k ≤ 1000000 ∧ k ≤ 1000000 ∧ Q (.str (repS z k)) H
theorem op_repS : OpR X (binaryOp .Mult) rRepS := by
  intro pins s σ H x y v u Q I rx ry h
  obtain ⟨z, k, rfl, rfl, hz, hk, q⟩ := h
  obtain ⟨t, rfl⟩ := rx
  obtain ⟨t', rfl⟩ := ry
  refine PySem.P.mul_str ?_ ?_ ?_ ?_
  · rw [decide_eq_false (by omega), decide_eq_false (by omega)]
    rfl
  · intro h1 _
    have h0 : (0 : Int) < (k : Int) := by omega
    have h2 : ((z.length * k : Nat) : Int) ≤ 2 ^ 63 - 1 := by omega
    rw [Int.natCast_mul] at h2
    have h3 := (Int.le_ediv_iff_mul_le h0).mpr h2
    omega
  · intro _ _
    unfold Builtin.Str.tooLong
    rw [Int.toNat_natCast, sizeLine_eq]
    exact decide_eq_false (by omega)
  · by_cases h1 : (k : Int) < 1
    · rw [if_pos h1]
      have e : repS z k = Str.empty := by
        have : k = 0 := by omega
        subst this
        rfl
      rw [e] at q
      exact ⟨by decide, .str _, H, I.tok _, ⟨_, rfl⟩, q⟩
    · rw [if_neg h1]
      by_cases h2 : ((k : Int) == 1 || z.length == 0) = true
      · rw [if_pos h2]
        have e : repS z k = z := by
          rw [Bool.or_eq_true] at h2
          rcases h2 with h2 | h2
          · have h3 : (k : Int) = 1 := by simpa using h2
            have h4 : k = 1 := by omega
            subst h4
            unfold repS
            simp
          · have h3 : z.length = 0 := by simpa using h2
            have h4 : z.cps = #[] := Array.eq_empty_of_size_eq_zero h3
            unfold repS
            cases z with | mk zc =>
            simp only at h4
            subst h4
            simp
        rw [e] at q
        exact ⟨.str z, H, I, ⟨t, rfl⟩, q⟩
      · rw [if_neg h2]
        have e : (⟨(List.replicate (k : Int).toNat z.cps).foldl (· ++ ·) #[]⟩ : Str) = repS z k := by
          unfold repS
          rw [Int.toNat_natCast, ← Array.toArray_toList (xs := (List.replicate k z.cps).foldl (· ++ ·) #[]), foldl_app]
          rfl
        rw [e]
        have hl : (repS z k).length ≤ sizeLine := by
          rw [repS_len, sizeLine_eq]
          omega
        exact ⟨hl, .str _, H, I.tok _, ⟨_, rfl⟩, q⟩
/-- text[::-1] -/
def revS (z : Str) : Str := ⟨z.cps.toList.reverse.toArray⟩
theorem revS_len (z : Str) : (revS z).length = z.length := by
  show z.cps.toList.reverse.toArray.size = z.cps.size
  rw [List.size_toArray, List.length_reverse, Array.length_toList]
theorem rev_pick (z : Str) : (⟨((PySem.Builtin.Str.strSliceIndices none none (-1) z.length).filterMap (z.cps[·]?)).toArray⟩ : Str) = revS z := by
  unfold revS
  have e : PySem.Builtin.Str.strSliceIndices none none (-1) z.length = (List.range z.length).reverse := by
    rw [← PySem.W.krv_range, ← PySem.W.krv_sliceRange]
    rfl
  have e2 := PySem.W.krv_all z.cps
  rw [e, List.filterMap_reverse]
  show (⟨((List.range z.cps.size).filterMap (z.cps[·]?)).reverse.toArray⟩ : Str) = _
  rw [e2]
def tRevS (te : TE) : TE := fun σ H Q => te σ H fun x H1 => ∃ z : Str, x = .str z ∧ z.length ≤ sizeLine ∧ Q (.str (revS z)) H1
theorem pe_revS {e : Expr} {te : TE} {k : Nat} {p1 p2 p3 pos : Pos} (he : PE X e te) : PE X (.Subscript e (.Slice none none (some (.UnaryOp .USub (.Constant (.int 1) k p1) p2)) p3) pos) (tRevS te) := by
  refine ⟨fun pins s σ H Q I h => Subscript_ (thn (he.run pins s σ H _ I h) fun v s1 ⟨x, H1, I1, r1, z, ex, hz, q⟩ => ?_)⟩
  subst ex
  obtain ⟨t, rfl⟩ := r1
  have hst : PO X (some (.UnaryOp .USub (.Constant (.int 1) k p1) p2)) (tPart (tUn (rU fun i => .int (-i)) (tC (.int 1)))) := po_some (pe_un un_neg pe_int)
  refine wpAny_Slice (thn (po_none.run pins s1 σ H1 (fun o K2 => o = none ∧ K2 = H1) I1 ⟨rfl, rfl⟩) fun vl s2 ⟨l, H2, I2, pl, el, e2⟩ => ?_)
  subst el e2
  refine thn (po_none.run pins s2 σ H2 (fun o K3 => o = none ∧ K3 = H2) I2 ⟨rfl, rfl⟩) fun vu s3 ⟨u, H3, I3, pu, eu, e3⟩ => ?_
  subst eu e3
  refine thn (hst.run pins s3 σ H3 (fun o K4 => o = some (-1) ∧ K4 = H3) I3 ⟨1, rfl, -1, rfl, rfl, rfl⟩) fun vs s4 ⟨o, H4, I4, ps, eo, e4⟩ => ?_
  subst eo e4
  obtain ⟨l, rfl, hl⟩ := IsPart.raw pl
  obtain ⟨u, rfl, hu⟩ := IsPart.raw pu
  obtain ⟨st, rfl, hst'⟩ := IsPart.raw ps
  have I5 : Inv X pins σ H4 { s4 with heap := s4.heap.push { cls := .type "slice", data := .fields #[partValue l, partValue u, partValue st] } } := I4.kept (t' := s4.toks) fun b ob qq => Heap.get?_push_of_some _ qq
  show wpAny (model X.prog X.w) X.A (subscriptTail e (.Slice none none (some (.UnaryOp .USub (.Constant (.int 1) k p1) p2)) p3) (.str z t) (.ref s4.heap.objs.size)) (EP X pins σ Q) X.xe { s4 with heap := s4.heap.push { cls := .type "slice", data := .fields #[partValue l, partValue u, partValue st] } }
  refine tail_any (ops := [.ref s4.heap.objs.size, .str z t]) (T := "str") (typeIs_str _ _ _) F.slot_str_getitem.lookup ?_ (by with_unfolding_all rfl)
  refine wpAny_getItem_str_slice (l := l) (u := u) (st := st) (Heap.IsSliceOf.new ..) (by rw [hst']; decide) ?_
  have em : sliceMade z t l u st = .str (revS z) := by
    unfold sliceMade slicePicked
    rw [hst', hl, hu]
    rw [if_neg (by simp)]
    rw [← rev_pick z]
    rfl
  rw [em]
  exact ⟨by rw [revS_len]; exact hz, .str _, H4, I5.tok _, ⟨_, rfl⟩, q⟩
end
end HopR

set_option Elab.async false
set_option linter.all false
set_option maxRecDepth 100000
namespace HopR
open PySem PySem.Spec PyProof.Rows L2
/-! rows as lists of truths -/
def cd (b : Bool) : Nat := if b then 111 else 46
def tx (bs : List Bool) : Str := ⟨(bs.map cd).toArray⟩
theorem cd_inj {a b : Bool} (h : cd a = cd b) : a = b := by
  cases a <;> cases b <;> first | rfl | (exact absurd h (by decide))
theorem map_cd_inj : ∀ {as bs : List Bool}, as.map cd = bs.map cd → as = bs
  | [], [], _ => rfl
  | [], _ :: _, h => by simp at h
  | _ :: _, [], h => by simp at h
  | a :: r, b :: q, h => by
    rw [List.map_cons, List.map_cons] at h
    injection h with h1 h2
    rw [cd_inj h1, map_cd_inj h2]
theorem tx_inj {as bs : List Bool} (h : tx as = tx bs) : as = bs := by
  unfold tx at h
  injection h with h
  exact map_cd_inj (by simpa using congrArg Array.toList h)
theorem tx_len (bs : List Bool) : (tx bs).length = bs.length := by
  show (bs.map cd).toArray.size = bs.length
  rw [List.size_toArray, List.length_map]
theorem tx_list (bs : List Bool) : (tx bs).cps.toList = bs.map cd := rfl
theorem tx_get {bs : List Bool} {i : Nat} {b : Bool} (h : bs[i]? = some b) : (tx bs).cps[i]? = some (cd b) := by
  show (bs.map cd).toArray[i]? = some (cd b)
  rw [List.getElem?_toArray, List.getElem?_map, h]
  rfl
theorem ext_str {a b : Str} (h : a.cps.toList = b.cps.toList) : a = b := by
  cases a with | mk x =>
  cases b with | mk y =>
  have e : x = y := Array.toList_inj.mp h
  rw [e]
theorem tx_app (as bs : List Bool) : tx as ++ tx bs = tx (as ++ bs) := by
  apply ext_str
  show ((as.map cd).toArray ++ (bs.map cd).toArray).toList = (as ++ bs).map cd
  rw [Array.toList_append, List.map_append]
theorem tx_rev (bs : List Bool) : revS (tx bs) = tx bs.reverse := by
  unfold revS tx
  simp
theorem tx_sg (bs : List Bool) : sg (tx bs) = bs.map fun b => tx [b] := by
  unfold sg
  rw [tx_list, List.map_map]
  rfl
theorem tx_o : ("o" : Str) = tx [true] := by decide +kernel
theorem tx_f : ("." : Str) = tx [false] := by decide +kernel
/-- a row walked sign by sign: a turn's sign is the text of that place's truth -/
theorem walk_tx {bs : List Bool} : Walk (Its (tx bs)) bs.length (fun _ => True) (fun i H v H' => H' = H ∧ ∃ b, bs[i]? = some b ∧ v = .str (tx [b])) := by
  have w := walk_str (z := tx bs)
  rw [show (tx bs).cps.size = bs.length from tx_len bs] at w
  refine w.mono (fun _ g => g) fun i H x H' hi _ y => ?_
  obtain ⟨e1, c, e2, e3⟩ := y
  have hb : bs[i]? = some bs[i] := List.getElem?_eq_getElem hi
  rw [tx_get hb] at e2
  cases e2
  exact ⟨e1, _, hb, e3⟩
def for_tx {bs : List Bool} {g : TG} {tb : TS} {D : Ends} {σ : L2.St} {H : Hp} (Pv : Nat → L2.St → Hp → Prop) (h0 : Pv 0 σ H)
    (hs : ∀ i b σ H, bs[i]? = some b → Pv i σ H → g (.str (tx [b])) σ H fun σ2 H2 => tb { D with nx := Pv (i + 1), ct := Pv (i + 1), bk := D.nx } σ2 H2) (hd : ∀ σ H, Pv bs.length σ H → D.nx σ H) :=
  for_it (walk_tx (bs := bs)) (g := g) (tb := tb) (D := D) (σ := σ) (H := H) Pv h0 (fun _ _ _ _ _ => trivial)
    (fun i x σ H H' _ p y => by
      obtain ⟨e1, b, hb, e2⟩ := y
      subst e1 e2
      exact hs i b σ _ hb p) hd
def lc_tx {bs : List Bool} {g : TG} {tt : TT} {te : TE} {vs : List Nat} {σ : L2.St} {H1 : Hp} {D : Addr} {Qd : Hp → Prop} (Pv : Nat → Hp → Prop) (h0 : Pv 0 (upd H1 D (.lst [])))
    (hs : ∀ i b H, bs[i]? = some b → Pv i H → g (.str (tx [b])) (wipe σ vs) H fun σ2 H2 => wipe σ2 vs = wipe σ vs ∧ tt σ2 H2 fun kept H3 =>
      if kept = true then (te σ2 H3 fun y H4 => ∃ acc, H4 D = some (.lst acc) ∧ acc.length < sizeLine ∧ Pv (i + 1) (upd H4 D (.lst (acc ++ [y])))) else Pv (i + 1) H3)
    (hd : ∀ H, Pv bs.length H → Qd H) :=
  lc_it (walk_tx (bs := bs)) (g := g) (tt := tt) (te := te) (vs := vs) (σ := σ) (H1 := H1) (D := D) (Qd := Qd) Pv h0 (fun _ _ _ _ => trivial)
    (fun i x H H' _ p y => by
      obtain ⟨e1, b, hb, e2⟩ := y
      subst e1 e2
      exact hs i b _ hb p) hd
end HopR

set_option Elab.async false
set_option linter.all false
set_option maxRecDepth 100000
namespace HopR
open PySem PySem.Spec PyProof.Rows L2 TL
theorem joinL_nil : ∀ ps : List (List Nat), joinL [] ps = ps.flatten
  | [] => rfl
  | [p] => by
    show p = p ++ []
    rw [List.append_nil]
  | p :: q :: r => by
    show p ++ ([] ++ joinL [] (q :: r)) = p ++ (q :: r).flatten
    rw [List.nil_append, joinL_nil (q :: r)]
theorem join0_list (ys : List Str) : (Txt.join "" ys).cps.toList = (ys.map fun y => y.cps.toList).flatten := by
  have e : Txt.join "" ys = Str.join "" ys := PySem.StrLaws.glued_eq_join "" ys
  rw [e]
  have h := tl_join "" ys
  have h2 : tl ("" : Str) = [] := by decide +kernel
  rw [h2, joinL_nil] at h
  exact h
theorem join_tx (bs : List Bool) : Txt.join "" (bs.map fun b => tx [b]) = tx bs := by
  apply ext_str
  rw [join0_list, List.map_map, tx_list]
  induction bs with
  | nil => rfl
  | cons b r ih =>
    rw [List.map_cons, List.flatten_cons, ih]
    rfl
theorem sum_ones : ∀ bs : List Bool, ((bs.map fun b => tx [b]).map (·.length)).sum = bs.length
  | [] => rfl
  | b :: r => by
    rw [List.map_cons, List.map_cons, List.sum_cons, sum_ones r, tx_len]
    show 1 + r.length = r.length + 1
    omega
theorem join_fits {bs : List Bool} (h : bs.length ≤ 1000) : ((bs.map fun b => tx [b]).map (·.length)).sum + (bs.map fun b => tx [b]).length * ("" : Str).length ≤ 16777216 := by
  have e : ("" : Str).length = 0 := by decide +kernel
  rw [sum_ones, e, Nat.mul_zero]
  omega
theorem cut_tx (bs : List Bool) (lo hi : Option Int) : cutS (tx bs) lo hi = tx ((bs.drop (HT.sIx bs.length 0 lo)).take (HT.sIx bs.length bs.length hi - HT.sIx bs.length 0 lo)) := by
  apply ext_str
  unfold cutS
  rw [tx_len, tx_list, tx_list, List.map_take, List.map_drop]
theorem cut_to (bs : List Bool) (k : Nat) : cutS (tx bs) none (some (k : Int)) = tx (bs.take k) := by
  rw [cut_tx, HT.sIx_none, HT.sIx_nat, List.drop_zero, Nat.sub_zero]
  by_cases h : k ≤ bs.length
  · rw [Nat.min_eq_left h]
  · rw [Nat.min_eq_right (by omega), List.take_length, List.take_of_length_le (by omega)]
theorem cut_from (bs : List Bool) (k : Nat) : cutS (tx bs) (some (k : Int)) none = tx (bs.drop k) := by
  rw [cut_tx, HT.sIx_none, HT.sIx_nat]
  by_cases h : k ≤ bs.length
  · rw [Nat.min_eq_left h, List.take_of_length_le (by rw [List.length_drop]; exact Nat.le_refl _)]
  · rw [Nat.min_eq_right (by omega), List.drop_length, List.drop_of_length_le (by omega), List.take_nil]
theorem cut_at (bs : List Bool) (k m : Nat) : cutS (tx bs) (some (k : Int)) (some ((k : Int) + (m : Int))) = tx ((bs.drop k).take m) := by
  have e : ((k : Int) + (m : Int)) = ((k + m : Nat) : Int) := by omega
  rw [e, cut_tx, HT.sIx_nat, HT.sIx_nat]
  by_cases h : k ≤ bs.length
  · rw [Nat.min_eq_left h]
    by_cases h2 : k + m ≤ bs.length
    · rw [Nat.min_eq_left h2, Nat.add_sub_cancel_left]
    · rw [Nat.min_eq_right (by omega), List.take_of_length_le (by rw [List.length_drop]; exact Nat.le_refl _), List.take_of_length_le (by rw [List.length_drop]; omega)]
  · rw [Nat.min_eq_right (by omega), Nat.min_eq_right (by omega), List.drop_length, List.drop_of_length_le (by omega), List.take_nil, List.take_nil]
theorem cut_mid (bs : List Bool) (h : 2 ≤ bs.length) : cutS (tx bs) (some 1) (some (-1)) = tx ((bs.drop 1).take (bs.length - 2)) := by
  rw [cut_tx]
  have e1 : HT.sIx bs.length 0 (some 1) = 1 := by
    rw [show (some (1 : Int)) = some ((1 : Nat) : Int) from rfl, HT.sIx_nat]
    omega
  have e2 : HT.sIx bs.length bs.length (some (-1)) = bs.length - 1 := by
    show (if (-1 : Int) < 0 then ((-1 : Int) + (bs.length : Int)).toNat else min (-1 : Int).toNat bs.length) = bs.length - 1
    rw [if_pos (by decide)]
    omega
  rw [e1, e2]
  congr 2
/-! ### rows: walls, changes, the mirror -/
def ends (bs : List Bool) : List Bool := true :: (bs ++ [false])
theorem ends_len (bs : List Bool) : (ends bs).length = bs.length + 2 := by
  unfold ends
  rw [List.length_cons, List.length_append]
  rfl
def opn (bs : List Bool) (k : Nat) : Bool := decide (((ends bs).drop k).take 2 = [true, false])
def walls (bs : List Bool) : List Nat := (List.range (bs.length + 1)).filter (opn bs)
def bhd (bs : List Bool) (k : Nat) : List Bool := (ends bs).take k ++ [false] ++ [true] ++ (ends bs).drop (k + 2)
def chg (bs : List Bool) (k : Nat) : List Bool := ((bhd bs k).drop 1).take ((bhd bs k).length - 2)
def mir (bs : List Bool) : List Bool := bs.reverse.map (!·)
def num (bs : List Bool) : Int := bs.foldl (fun n b => n * 2 + (if b then 1 else 0)) 0
theorem mem_walls {bs : List Bool} {k : Nat} : k ∈ walls bs ↔ k ≤ bs.length ∧ opn bs k = true := by
  unfold walls
  rw [List.mem_filter, List.mem_range, Nat.lt_succ_iff]
theorem mir_len (bs : List Bool) : (mir bs).length = bs.length := by
  unfold mir
  rw [List.length_map, List.length_reverse]
theorem walls_len (bs : List Bool) : (walls bs).length ≤ bs.length + 1 := by
  unfold walls
  exact Nat.le_trans (List.length_filter_le _ _) (by rw [List.length_range]; exact Nat.le_refl _)
theorem bhd_len {bs : List Bool} {k : Nat} (h : k ≤ bs.length) : (bhd bs k).length = bs.length + 2 := by
  unfold bhd
  rw [List.length_append, List.length_append, List.length_append, List.length_take, List.length_drop, ends_len]
  show min k (bs.length + 2) + 1 + 1 + (bs.length + 2 - (k + 2)) = bs.length + 2
  omega
theorem chg_len {bs : List Bool} {k : Nat} (h : k ≤ bs.length) : (chg bs k).length = bs.length := by
  unfold chg
  rw [List.length_take, List.length_drop, bhd_len h]
  omega
end HopR

set_option Elab.async false
set_option linter.all false
set_option maxRecDepth 100000
namespace HopR
open PySem PySem.Spec PyProof.Rows L2
/-! ### defs that are called where no repr is under way -/
/-- the promise sp of the def at f, kept wherever it is called while no repr is under way -/
structure FnOkG (P : Program) (w : World) (K : PySem.W.Frag) (mg : Str → Option Value) (base : Heap) (CX : CXT) (k : Nat) (f : Addr) (fd : FuncData) (ps : List Str) (sp : Sp) : Prop where
  arity : ∀ {vs H Q E}, sp vs H Q E → vs.length = ps.length
  calls : ∀ {A : Around} {outer : List Env} {s : Shared} {H : Hp} {args : Args} {us : List Value} {vs : List V} {Q : VK} {E : XK}, A.guards = some [] → Room k A → Env0 P w K mg base A outer s H →
    BindsTo s fd args (ps.zip us) → Vals vs us → sp vs H Q E → codeAny (model P w) A (.call (.ref f) args) (CR CX outer P w H s Q E) s
section
variable {P : Program} {w : World} {K : PySem.W.Frag} {mg : Str → Option Value} {base : Heap}
theorem FnOkG.of {CX : CXT} {k : Nat} {f : Addr} {fd : FuncData} {ps : List Str} {sp : Sp} (F : FnOk P w K mg base CX k f fd ps sp) : FnOkG P w K mg base CX k f fd ps sp where
  arity h := F.len _ _ _ _ h
  calls _ room e0 bind vals prom := F.run _ _ _ _ _ _ _ _ _ room e0 bind vals prom
/-- what the body's end says to the caller -/
theorem ends_say {CX : CXT} {N : List Str} {qual : Str} {scope : Scope} {f : Addr} {cdv : Value} {A : Around} {outer : List Env} {s : Shared} {H : Hp} {Q : VK} {E : XK} {fl : Flow} {s' : Shared}
    (h : SP (cxOf CX P w K mg base N qual scope f cdv A outer s H E) [] { nx := fun _ H' => Q .non H', rt := Q } fl s') :
    match fl with | .ret u => CE outer P w H s Q u s' | .next => CE outer P w H s Q Value.none s' | _ => False := by
  match fl, h with
  | .ret u, ⟨v, σ', H', J, rv, g⟩ => exact ⟨v, H', J.os, J.bare, J.base, J.hok, rv, g⟩
  | .next, ⟨σ', H', J, g⟩ => exact ⟨V.non, H', J.os, J.bare, J.base, J.hok, rfl, g⟩
  | .brk, ⟨_, _, _, g⟩ => exact g
  | .cont, ⟨_, _, _, g⟩ => exact g
theorem okG {x qual : Str} {st : Stmt} {f : Addr} {fd : FuncData} {N ps : List Str} {k : Nat} {sp : Sp} (F : Fun K x qual st f fd) (S : FnScope N ps (defScope st)) (len : ∀ vs H Q E, sp vs H Q E → vs.length = ps.length)
    (body : ∀ (cdv : Value) (A : Around) (outer : List Env) (s : Shared) (H : Hp) (vs : List V) (Q : VK) (E : XK), A.guards = some [] → Room k (A.deeper (envOfC qual (defScope st) s.heap.objs.size f cdv)) → sp vs H Q E →
      ∃ t, PSs (cxOf CX0 P w K mg base N qual (defScope st) f cdv A outer s H E).nox (defBody st) t ∧ t { nx := fun _ H' => Q .non H', rt := Q } (start N vs) H) : FnOkG P w K mg base CX0 (k + 1) f fd ps sp where
  arity h := len _ _ _ _ h
  calls {A outer s H args us vs Q E} free room e0 bind vals prom := by
    obtain ⟨_, _, _, _, _, _, cdv, _, _, rfl, lk, code⟩ := F.ex
    have old : ∀ b o, base.get? b = some o → s.heap.get? b = some o := fun b o e => (e0.bs b o e).1
    have here := e0.mod.kin.keeps old
    obtain ⟨t, pr, rd⟩ := body cdv A outer s H vs Q E free (room.deeper _) prom
    have kinds : ∀ y ∈ ps.zip us, (defScope st).names.lookup y.1 = some .local ∨ ((defScope st).names.lookup y.1 = some .cell ∧ ((cellsFrom (s.heap.objs.size + 1) (defScope st).names []).lookup y.1).isSome = true) := by
      intro y hy
      have hp : y.1 ∈ ps := by
        obtain ⟨y1, y2⟩ := y
        exact (List.of_mem_zip hy).1
      exact (S.par _ hp).imp id fun g => ⟨g, PySem.W.cellsFrom_some _ _ _ (.inl g)⟩
    refine codeAny_call_function room.depth (here _ _ lk) rfl S.co S.gen rfl (PySem.W.codeRec_of here code) (bind _ _ _ _ ?_)
    refine wpAny_newFunctionEnv_cells S.kind kinds fun _ e s1 x => ?_
    cases e
    refine ⟨(e0.mod.nolimit.keeps old).keeps x.toInCall.keep, codeAny_func ?_⟩
    have run := pr.nox.run [] s1 _ H _ (inv_start S room.hd e0 (len _ _ _ _ prom) vals x) rd
    refine wpAny_mono run (fun fl s' h => ?_) fun _ _ z => z
    have said := ends_say h
    cases fl with
    | ret _ => exact said
    | next => exact said
    | brk => exact said.elim
    | cont => exact said.elim
end
section
variable {X : Cx} {CX : CXT} {k : Nat} {f : Addr} {fd : FuncData} {ps : List Str} {sp : Sp} {ds : List Value} {dvs : List V} {E : XK}
theorem after_call {pins : List (Addr × Obj)} {σ : L2.St} {H : Hp} {s : Shared} {Q : VK} (hx : Passes CX X E) (I : Inv X pins σ H s) {r : Except Value Flow} {s' : Shared} (h : CR CX X.stack X.prog X.w H s Q E r s') :
    match r with | .ok (.ret u) => EP X pins σ Q u s' | .ok _ => False | .error e => X.xe e s' := by
  match r, h with
  | .error e, h => exact hx pins σ H s e s' I h
  | .ok (.ret u), h => exact I.after h
  | .ok .next, h => exact h
  | .ok .brk, h => exact h
  | .ok .cont, h => exact h
variable {x : Str} {p pos : Pos} {e : Expr} {es : List Expr} {t : TA}
/-- f(e, ..) at a place where no repr is under way -/
theorem pe_callG (F : FnOkG X.prog X.w X.K X.mg X.base CX k f fd ps sp) (hG : X.A.guards = some []) (hr : Room k X.A) (hg : Gl X x) (hm : X.mg x = some (.ref f)) (hk : PySem.W.keepIn X.K (.ref f) = true) (hb : Binds X.K fd ps ds) (hd : Vals dvs ds) (hx : Passes CX X E)
    (ha : PA X (e :: es) t) (hdb : (x == ("__debug__" : Str)) = false := by decide)
    (he : starEach (e :: es) X.env = (false, eval e X.env) :: starEach es X.env := by rfl) (hpl : (backTo pos (starEach es X.env)).any (·.1) = false := by rfl) :
    PE X (.Call (.Name x p) (e :: es) [] pos) (tCall sp dvs E t) := by
  constructor
  intro pins s σ H Q I h
  refine wpAny_Call_Name_kw (ld_glob I hg hm (PySem.W.callWith_K (h₀ := X.base) I.ok.mod.kin hk (thn (ha.run pos pins s σ H _ I h) ?_) he hpl) hdb)
  rintro us s1 ⟨vs, H1, I1, vals, prom⟩
  have all := vals.append hd
  have size : (us ++ ds).length = ps.length := all.length.symm.trans (F.arity prom)
  refine ⟨I1.kIn, wpAny_call (codeAny_mono (F.calls hG hr I1.env0 (hb s1 us I1.kIn size) all prom) fun r s' h => ?_)⟩
  have := after_call hx I1 h
  cases r with
  | error e => exact this
  | ok fl => cases fl <;> exact this
/-! ### repr of data -/
def rReprD (K : PySem.W.Frag) : List V → Hp → VK → Prop := fun vs H Q => ∃ (v : V) (d : PyData), vs = [v] ∧ Dp K H v d ∧ d.showable = true ∧ d.hasDict = false ∧ d.depth ≤ 64 ∧ d.shown.length ≤ sizeLine ∧ Q (.str d.shown) H
theorem cr_reprD (hG : X.A.guards = some []) (hu : X.A.units + 66 < cLine) : CallR X (.builtin "repr") (rReprD X.K) := by
  rintro pins s σ H _ us Q I r ⟨v, d, rfl, hd, hs, hn, hdep, hz, q⟩
  obtain ⟨u, rfl, rv⟩ := vals1 r
  obtain ⟨as, rd⟩ := Dp.reads I d v u hd rv
  cases hd with
  | non =>
    cases rv
    exact P.repr_of_none ⟨.str _, H, I.tok _, ⟨_, rfl⟩, q⟩
  | bl b =>
    cases rv
    exact P.repr_of_bool ⟨.str _, H, I.tok _, ⟨_, rfl⟩, q⟩
  | int i =>
    obtain ⟨t, rfl⟩ := rv
    have hb : i.natAbs.log2 < 1920 := of_decide_eq_true (by simpa only [PyData.showable] using hs)
    exact P.repr_of_int hb ⟨.str _, H, I.tok _, ⟨_, rfl⟩, by simpa only [PyData.shown] using q⟩
  | str x =>
    obtain ⟨t, rfl⟩ := rv
    exact P.repr_of_str ⟨.str _, H, I.tok _, ⟨_, rfl⟩, by simpa only [PyData.shown] using q⟩ (by simpa only [PyData.shown] using hz)
  | lst h1 h2 =>
    cases rv
    exact repr_of_reads' rd hs (fun e => absurd (hn.symm.trans e) (by decide)) hG (by omega) (fun _ _ e => e) (fun h' t tk hk => ⟨.str _, H, I.kept hk, ⟨_, rfl⟩, q⟩) hz
  | tup h1 h2 =>
    cases rv
    exact repr_of_reads' rd hs (fun e => absurd (hn.symm.trans e) (by decide)) hG (by omega) (fun _ _ e => e) (fun h' t tk hk => ⟨.str _, H, I.kept hk, ⟨_, rfl⟩, q⟩) hz
end
/-! ### the end -/
section
variable (K : PySem.W.Frag) (a : Addr) (vs : List Value) (ns : List Int)
/-- the script as the heap has it -/
abbrev scrO : Obj := { cls := .type "list", data := .seq vs.toArray }
/-- tracked is the script alone, locked, and not even that where the top wrote it -/
def scrH : Hp := fun b => if b = a ∧ K.lookup a = none then some (.frz (scrO vs) (.lst (ns.map V.int))) else none
theorem scrH_or (b : Addr) : scrH K a vs ns b = none ∨ (b = a ∧ K.lookup a = none ∧ scrH K a vs ns b = some (.frz (scrO vs) (.lst (ns.map V.int)))) := by
  unfold scrH
  by_cases h : b = a ∧ K.lookup a = none
  · exact .inr ⟨h.1, h.2, if_pos h⟩
  · exact .inl (if_neg h)
theorem scrH_only : Only (scrH K a vs ns) := fun b => (scrH_or K a vs ns b).imp id fun ⟨_, _, e⟩ => ⟨_, _, e⟩
end
section
variable {P : Program} {w : World} {K : PySem.W.Frag} {a : Addr} {vs : List Value} {ns : List Int} {h : Heap}
theorem scrH_sq (kin : K.In h) (at_ : h.get? a = some (scrO vs)) (hi : IntsAre vs ns) (few : ns.length ≤ sizeLine) : SqL K (scrH K a vs ns) a (ns.map V.int) := by
  cases hk : K.lookup a with
  | none => exact .inl (.inr ⟨scrO vs, if_pos ⟨rfl, hk⟩⟩)
  | some o =>
    obtain rfl : o = scrO vs := Option.some.inj ((kin a o hk).symm.trans at_)
    exact .inr ⟨_, vs.toArray, _, hk, rfl, rfl, rfl, by rw [List.size_toArray, hi.length]; exact few, by simpa using vals_ints hi⟩
theorem scrH_ok (at_ : h.get? a = some (scrO vs)) (hi : IntsAre vs ns) (few : ns.length ≤ sizeLine) : HOk P w (scrH K a vs ns) h := by
  intro b u e
  rcases scrH_or K a vs ns b with n | ⟨rfl, _, y⟩
  · exact absurd (n.symm.trans e) (by simp)
  · cases y.symm.trans e
    refine ⟨at_, ?_, vs, _, vals_ints hi, at_⟩
    rw [List.length_map]
    exact few
/-- what isn't the script, and what the top wrote, stands also where the tracked is hidden -/
theorem scrH_base (at_ : h.get? a = some (scrO vs)) {b : Addr} {o : Obj} (e : h.get? b = some o) (q : o ≠ scrO vs ∨ K.lookup b ≠ none) : (hidT h (scrH K a vs ns)).get? b = some o := by
  refine hidT_get e ((scrH_or K a vs ns b).resolve_right ?_)
  rintro ⟨rfl, n, _⟩
  exact q.elim (fun z => z (Option.some.inj (e.symm.trans at_))) fun z => z n
theorem scrH_ns (at_ : h.get? a = some (scrO vs)) {b : Addr} {m : Str → Option Value} : h.Ns b m → (hidT h (scrH K a vs ns)).Ns b m := by
  rintro ⟨o, es, ep, e, dd, r⟩
  refine ⟨o, es, ep, scrH_base at_ e (.inl ?_), dd, r⟩
  rintro rfl
  exact absurd dd (by simp)
end
/-- a law whose promise holds where no repr is under way: nothing is, where it is called -/
theorem walk_ofG {l : PySem.W.OpenLaw} {n k : Nat} {q : Program} {loose : List Str} {XP : (Str → Option Value) → Heap → Prop} {YP : World → Heap → Prop} {d : DefRec} {K : Params → PySem.W.Frag} {sp : World → Sp} {x : Str}
    (most : l.most = some n) (few : n ≤ sizeLine) (plain : d.params.defaults = []) (room : Room k callerA) (top : ∀ (w : World) (h : Heap), YP w h → (K w.params).In h)
    (F : ∀ (w : World) (mg : Str → Option Value) (fa : Addr) (h : Heap), (K w.params).In h → h.Ns mainGlobals mg → mg d.name = some (.ref fa) →
      ∃ fd : FuncData, (∀ (s : Shared) (u : Value), BindsTo s fd ⟨[u], []⟩ [(x, u)]) ∧ ∀ base : Heap, (K w.params).In base → base.Ns mainGlobals mg → FnOkG l.prog w (K w.params) mg base CX0 k fa fd [x] (sp w))
    (prom : ∀ (w : World) (H : Hp) (a : Addr) (ns : List Int), ns.length ≤ n → (∀ z ∈ ns, Builtin.Int.intBits z ≤ 1048576) → Only H → SqL (K w.params) H a (ns.map V.int) → sp w [.ref a] H (fun v _ => v = .bl true) fun _ _ _ => False) :
    PySem.W.WalkO q loose XP YP l.row.toRowW d [] (fun f vs => PySem.call f vs) := by
  apply Att.attach_callB most plain
  intro w s₀ s₁ mg mb fa o pm cd doc a vs ns G Y _ _ _ hmg at_ isI size bits gens
  have kin := top w _ Y
  obtain ⟨fd, bind, hF⟩ := F w mg fa _ kin G.T.g hmg
  have few' := Nat.le_trans size few
  have ok : HOk l.prog w (scrH (K w.params) a vs ns) s₁.heap := scrH_ok at_ isI few'
  have kin' : (K w.params).In (hidT s₁.heap (scrH (K w.params) a vs ns)) := fun b o e => scrH_base at_ (kin b o e) (.inr (by rw [e]; simp))
  have g' := scrH_ns (K := K w.params) (ns := ns) at_ G.T.g
  obtain ⟨mc, lim1, lim2⟩ := G.T.nolimit
  have e0 : Env0 l.prog w (K w.params) mg (hidT s₁.heap (scrH (K w.params) a vs ns)) callerA [] s₁ (scrH (K w.params) a vs ns) :=
    ⟨rfl, ⟨kin', g', ⟨mb, scrH_ns at_ G.T.b, G.T.builtins⟩, ⟨mc, scrH_ns at_ lim1, lim2⟩⟩, fun _ _ => of_hidT, Nat.le_of_eq (hidT_size _ _), trivial, (by intro _ z; cases z), ok, AllBare.of_eq gens⟩
  refine codeAny_mono ((hF _ kin' g').calls (us := [.ref a]) (vs := [.ref a]) rfl room e0 (bind s₁ (.ref a)) (.cons rfl .nil) (prom w _ a ns size bits (scrH_only (K w.params) a vs ns) (scrH_sq kin at_ isI few'))) fun r s' h => ?_
  match r, h with
  | .error e, h => exact h.elim
  | .ok .next, h => exact h.elim
  | .ok .brk, h => exact h.elim
  | .ok .cont, h => exact h.elim
  | .ok (.ret u), ⟨v, H', os, bare, un, ok', rel, is⟩ =>
    have is : v = .bl true := is
    subst is
    cases (show u = Value.bool true from rel)
    refine ⟨rfl, OldK.of_keep ?_, os, bare⟩
    intro b o e
    rcases scrH_or (K w.params) a vs ns b with z | ⟨rfl, _, z⟩
    · exact un.keep b o e z (fun m => nomatch m) (by simp)
    · cases at_.symm.trans e
      exact (ok' _ _ (un.frzs _ _ _ z)).1
end HopR

set_option Elab.async false
set_option linter.all false
set_option maxRecDepth 100000
namespace HopR
open PySem PySem.Spec PyProof.Rows L2
theorem hu66 {A : Around} {k : Nat} (hr : Room k A) : A.units + 66 < cLine := by
  have := hr.un
  omega
/-! ### f(k = v, ..), no value by its place -/
section
variable {X : Cx} {CX : CXT} {k : Nat} {f : Addr} {fd : FuncData} {ps ks : List Str} {sp : Sp} {E : XK} {x : Str} {p pos : Pos} {kws : List Keyword} {tk : TA}
def tCallKw (m : Nat) (sp : Sp) (gV : List V → List V) (E : XK) (tk : TA) : TE := fun σ H Q => tk σ H fun zs H2 => zs.length = m ∧ sp (gV zs) H2 Q E
theorem pe_callKw {g : List Value → List Value} {gV : List V → List V} (F : FnOk X.prog X.w X.K X.mg X.base CX k f fd ps sp) (hr : Room k X.A) (hg : Gl X x) (hm : X.mg x = some (.ref f)) (hk : PySem.W.keepIn X.K (.ref f) = true)
    (hb : ∀ (s : Shared) (ws : List Value), X.K.In s.heap → ws.length = ks.length → BindsTo s fd ⟨[], ks.zip ws⟩ (ps.zip (g ws))) (hrel : ∀ {zs : List V} {ws : List Value}, Vals zs ws → Vals (gV zs) (g ws)) (hx : Passes CX X E) (hkw : PK X kws tk)
    (hall : (backToKw pos (keywordEach kws X.env)).all (·.1.isSome) = true := by rfl) (hks : (backToKw pos (keywordEach kws X.env)).filterMap (·.1) = ks := by rfl) (hdb : (x == ("__debug__" : Str)) = false := by decide)
    (hpl : ((backTo pos (starEach [] X.env)).any (·.1) || (backToKw pos (keywordEach kws X.env)).any (·.1.isNone)) = false := by rfl) :
    PE X (.Call (.Name x p) [] kws pos) (tCallKw ks.length sp gV E tk) := by
  refine ⟨fun pins s σ H Q I h => wpAny_Call_Name_kw (ld_glob I hg hm ?_ hdb)⟩
  refine PySem.W.callWith_KW0 (h₀ := X.base) I.ok.mod.kin hk hall (thn (hkw.run pos pins s σ H _ I h) fun ws s2 ⟨zs, H2, I2, rz, l2, q2⟩ => ⟨I2.kIn, ?_⟩) hpl
  rw [hks]
  refine wpAny_call (codeAny_mono (F.run X.A X.stack s2 H2 ⟨[], ks.zip ws⟩ (g ws) (gV zs) Q E hr I2.env0 (hb s2 ws I2.kIn (rz.length.symm.trans l2)) (hrel rz) q2) fun r s' hq => ?_)
  match r, hq with
  | .error e, hq => exact hx pins σ H2 s2 e s' I2 hq
  | .ok (.ret u), hq => exact I2.after hq
  | .ok .next, hq => exact hq.elim
  | .ok .brk, hq => exact hq.elim
  | .ok .cont, hq => exact hq.elim
end
/-! ### lists of small numbers as data -/
def wv (k : Nat) : V := .int (k : Int)
def dw (k : Nat) : PyData := PyData.int (k : Int)
theorem dp_walls {K : PySem.W.Frag} {H : Hp} : ∀ ks : List Nat, DpAll K H (ks.map wv) (ks.map dw)
  | [] => .nil
  | k :: r => .cons (.int _) (dp_walls r)
theorem lay_dw : ∀ ks : List Nat, PyData.canLayAll0 (ks.map dw) = true
  | [] => rfl
  | k :: r => by
    rw [List.map_cons]
    simp only [PyData.canLayAll0, lay_dw r, Bool.and_true]
    rfl
theorem deep_dw : ∀ ks : List Nat, PyData.depthAll (ks.map dw) = 0
  | [] => rfl
  | k :: r => by
    rw [List.map_cons]
    simp only [PyData.depthAll, deep_dw r]
    rfl
theorem shaped_ints (ks : List Nat) : SeqAt.shaped (.list (ks.map dw)) = true := by
  unfold SeqAt.shaped
  rw [Bool.and_eq_true]
  refine ⟨?_, decide_eq_true ?_⟩
  · simp only [PyData.canLay0, lay_dw]
  · simp only [PyData.depth, deep_dw]
    decide
theorem show_dw : ∀ ks : List Nat, (∀ k ∈ ks, k ≤ 30) → PyData.showableAll (ks.map dw) = true
  | [], _ => rfl
  | k :: r, h => by
    have hk := h k (List.mem_cons_self ..)
    have e : PyData.showable (dw k) = true := by
      show decide ((k : Int).natAbs.log2 < 1920) = true
      refine decide_eq_true (Nat.lt_of_le_of_lt (Nat.log2_le_self _) ?_)
      show k < 1920
      omega
    rw [List.map_cons]
    simp only [PyData.showableAll, e, show_dw r fun q hq => h q (List.mem_cons_of_mem _ hq), Bool.and_true]
theorem nodict_dw : ∀ ks : List Nat, PyData.hasDictAll (ks.map dw) = false
  | [] => rfl
  | k :: r => by
    rw [List.map_cons]
    simp only [PyData.hasDictAll, nodict_dw r, Bool.or_false]
    rfl
theorem text30 : ∀ k < 31, (PyData.shown (dw k)).length ≤ 2 := by decide +kernel
theorem shown_len : ∀ ks : List Nat, (∀ k ∈ ks, k ≤ 30) → ((PyData.shownAll (ks.map dw)).map (·.length)).sum ≤ 2 * ks.length ∧ (PyData.shownAll (ks.map dw)).length = ks.length
  | [], _ => ⟨Nat.le_refl _, rfl⟩
  | k :: r, h => by
    obtain ⟨h1, h2⟩ := shown_len r fun q hq => h q (List.mem_cons_of_mem _ hq)
    have hk := text30 k (by have := h k (List.mem_cons_self ..); omega)
    rw [List.map_cons]
    simp only [PyData.shownAll, List.map_cons, List.sum_cons, List.length_cons]
    omega
theorem ints_show {ks : List Nat} (h : ∀ k ∈ ks, k ≤ 30) (hl : ks.length ≤ 1000) : (PyData.list (ks.map dw)).showable = true ∧ (PyData.list (ks.map dw)).hasDict = false ∧ (PyData.list (ks.map dw)).depth ≤ 64 ∧ (PyData.list (ks.map dw)).shown.length ≤ sizeLine := by
  obtain ⟨h1, h2⟩ := shown_len ks h
  refine ⟨?_, ?_, ?_, ?_⟩
  · simp only [PyData.showable, show_dw ks h]
  · simp only [PyData.hasDict, nodict_dw]
  · simp only [PyData.depth, deep_dw]
    decide
  · simp only [PyData.shown]
    have h3 := listText_len_le (PyData.shownAll (ks.map dw))
    rw [sizeLine_eq]
    omega
/-! ### the law's own words of walls and changes -/
theorem opn_eq {bs : List Bool} {k : Nat} (h : k ≤ bs.length) : opn bs k = ((decide (k = 0) || bs.getD (k - 1) false) && (decide (k = bs.length) || !bs.getD k true)) := by
  have hl := ends_len bs
  have e1 : (ends bs)[k]?.getD false = (decide (k = 0) || bs.getD (k - 1) false) := by
    unfold ends
    cases k with
    | zero => rfl
    | succ j =>
      rw [List.getElem?_cons_succ, List.getElem?_append_left (by omega), List.getD_eq_getElem?_getD]
      simp
  have e2 : (ends bs)[k + 1]?.getD true = (decide (k ≠ bs.length) && bs.getD k true) := by
    unfold ends
    rw [List.getElem?_cons_succ]
    by_cases hk : k = bs.length
    · subst hk
      rw [List.getElem?_append_right (Nat.le_refl _)]
      simp
    · rw [List.getElem?_append_left (by omega), List.getD_eq_getElem?_getD, decide_eq_true hk]
      rfl
  have e3 : opn bs k = (((ends bs)[k]?.getD false) && !((ends bs)[k + 1]?.getD true)) := by
    have g1 : (ends bs)[k]? = some (ends bs)[k] := List.getElem?_eq_getElem (by omega)
    have g2 : (ends bs)[k + 1]? = some (ends bs)[k + 1] := List.getElem?_eq_getElem (by omega)
    have g3 : ((ends bs).drop k).take 2 = [(ends bs)[k], (ends bs)[k + 1]] := by
      rw [List.drop_eq_getElem_cons (by omega), List.drop_eq_getElem_cons (by omega)]
      rfl
    unfold opn
    rw [g3, g1, g2]
    show decide ([(ends bs)[k], (ends bs)[k + 1]] = [true, false]) = ((ends bs)[k] && !(ends bs)[k + 1])
    cases (ends bs)[k] <;> cases (ends bs)[k + 1] <;> rfl
  rw [e3, e1, e2]
  by_cases hk : k = bs.length
  · simp [hk]
  · simp [hk]
def lbeh (bs : List Bool) (k : Nat) : List Bool := if k < bs.length then (if 0 < k then bs.set (k - 1) false else bs).set k true else (if 0 < k then bs.set (k - 1) false else bs)
theorem lbeh_len (bs : List Bool) (k : Nat) : (lbeh bs k).length = bs.length := by
  unfold lbeh
  split <;> split <;> simp
theorem chg_get {bs : List Bool} {k i : Nat} (h : k ≤ bs.length) (hi : i < bs.length) : (chg bs k)[i]? = some (if i + 1 = k then false else if i = k then true else bs[i]) := by
  have hl := ends_len bs
  have hb := bhd_len h
  have he : (ends bs)[i + 1]? = some bs[i] := by
    unfold ends
    rw [List.getElem?_cons_succ, List.getElem?_append_left hi, List.getElem?_eq_getElem hi]
  unfold chg
  rw [List.getElem?_take_of_lt (by rw [hb]; omega), List.getElem?_drop, Nat.add_comm 1 i]
  unfold bhd
  rw [List.append_assoc, List.append_assoc]
  by_cases h1 : i + 1 < k
  · rw [List.getElem?_append_left (by rw [List.length_take]; omega), List.getElem?_take_of_lt h1, he, if_neg (by omega), if_neg (by omega)]
  · rw [List.getElem?_append_right (by rw [List.length_take]; omega), List.length_take, Nat.min_eq_left (by omega)]
    by_cases h2 : i + 1 = k
    · rw [if_pos h2, h2, Nat.sub_self]
      rfl
    · rw [if_neg h2]
      by_cases h3 : i = k
      · rw [if_pos h3, show i + 1 - k = 1 by omega]
        rfl
      · rw [if_neg h3]
        obtain ⟨m, hm⟩ : ∃ m, i + 1 - k = m + 2 := ⟨i + 1 - k - 2, by omega⟩
        rw [hm]
        show ((ends bs).drop (k + 2))[m]? = some bs[i]
        rw [List.getElem?_drop, show k + 2 + m = i + 1 by omega, he]
theorem lbeh_eq {bs : List Bool} {k : Nat} (h : k ≤ bs.length) : lbeh bs k = chg bs k := by
  apply List.ext_getElem?
  intro i
  by_cases hi : i < bs.length
  · rw [chg_get h hi]
    unfold lbeh
    have g : bs[i]? = some bs[i] := List.getElem?_eq_getElem hi
    have inner : (if 0 < k then bs.set (k - 1) false else bs)[i]? = some (if i + 1 = k then false else bs[i]) := by
      by_cases hk : 0 < k
      · rw [if_pos hk, List.getElem?_set]
        by_cases e : k - 1 = i
        · rw [if_pos e, if_pos (by omega), if_pos (by omega)]
        · rw [if_neg e, if_neg (by omega), g]
      · rw [if_neg hk, if_neg (by omega), g]
    have il : (if 0 < k then bs.set (k - 1) false else bs).length = bs.length := by
      split <;> simp
    by_cases hk : k < bs.length
    · rw [if_pos hk, List.getElem?_set]
      by_cases e : k = i
      · rw [if_pos e, if_pos (by rw [il]; exact hk), if_neg (by omega), if_pos e.symm]
      · rw [if_neg e, inner]
        by_cases e2 : i + 1 = k
        · rw [if_pos e2, if_pos e2]
        · rw [if_neg e2, if_neg e2, if_neg (fun z => e z.symm)]
    · rw [if_neg hk, inner]
      by_cases e2 : i + 1 = k
      · rw [if_pos e2, if_pos e2]
      · rw [if_neg e2, if_neg e2, if_neg (by omega)]
  · rw [List.getElem?_eq_none (by rw [lbeh_len]; omega), List.getElem?_eq_none (by rw [chg_len h]; omega)]
end HopR

set_option Elab.async false
set_option linter.all false
set_option maxRecDepth 100000
namespace HopR
open PySem PySem.Spec PyProof.Rows L2
/-! ### an exception that is kept behind its suite -/
/-- the exception at a, of the class cls, its dict d, kept as a value -/
def ExH (cls : Value) (d : Option Addr) (a : Addr) : HO := .ext fun h => ∃ (oe : Obj) (vs : Array Value), h.get? a = some oe ∧ Zc cls d oe ∧ oe.data = .fields vs
theorem exH_ok {P : Program} {w : World} {H : Hp} {h : Heap} {a : Addr} {cls : Value} {d : Option Addr} {oe : Obj} {vs : Array Value} (e : h.get? a = some oe) (z : Zc cls d oe) (q : oe.data = .fields vs) : ObjOk P w H h a (ExH cls d a) :=
  ⟨⟨oe, vs, e, z, q⟩, ⟨oe, e⟩, fun _ _ ⟨o, v, q, r⟩ k => ⟨o, v, k o q, r⟩⟩
section
variable {X : Cx} {pins : List (Addr × Obj)} {σ σ0 : L2.St} {H H0 : Hp} {s sI : Shared} {a : Addr} {oe : Obj} {vs : Array Value} {o : HO}
/-- an object that came behind the entry is tracked from now on -/
theorem track (I : Inv X pins σ H s) (J : Inv X pins σ0 H0 sI) (hI : sI.heap.get? a = none) (hx : X.ex = []) (na : H a = none) (nL : a ≠ X.env.locals) (ha : s.heap.get? a = some oe) (hd : oe.data = .fields vs) (new : ObjOk X.prog X.w (upd H a o) s.heap a o) : Inv X pins σ (upd H a o) s := by
  have n0 : ∀ b u, X.s_0.heap.get? b = some u → b ≠ a := by
    intro b u e z
    subst z
    obtain ⟨u2, q⟩ := J.base.there b u e (by rw [hx]; exact fun z => nomatch z)
    rw [hI] at q
    cases q
  have nN : ∀ {b : Addr} {u : HO}, H b = some u → b ≠ a := fun e => ne_of_none e na
  have bs := I.base
  refine ⟨I.ok, I.os, I.bare, ⟨bs.keep, bs.slot, ?_, bs.there, ?_, ?_, ?_⟩, I.loc, I.cell, ?_, ?_, ?_, ?_, I.len⟩
  · intro b u e n q
    rw [upd_ne (n0 b u e)]
    exact bs.free b u e n q
  · intro b xs e
    have q := bs.tups b xs e
    rw [upd_ne (nN q)]
    exact q
  · intro b ob u e
    have q := bs.frzs b ob u e
    rw [upd_ne (nN q)]
    exact q
  · intro b ps e
    obtain ⟨m, q⟩ := bs.tbls b ps e
    exact ⟨m, by rw [upd_ne (nN q)]; exact q⟩
  · rw [upd_ne nL.symm]
    exact I.free
  · intro x c e
    have nc : c ≠ a := by
      intro z
      subst z
      obtain ⟨v, oc, e1, e2⟩ := I.cell x c e
      rw [ha] at e1
      cases e1
      rw [hd] at e2
      cases e2
    rw [upd_ne nc]
    exact I.freeC x c e
  · intro p hp
    have np : p.1 ≠ a := by
      intro z
      have q := (J.pin p hp).1
      rw [z, hI] at q
      cases q
    obtain ⟨e, n, r⟩ := I.pin p hp
    exact ⟨e, by rw [upd_ne np]; exact n, r⟩
  · intro b u e
    by_cases hb : b = a
    · subst hb
      rw [upd_same] at e
      cases e
      exact new
    · rw [upd_ne hb] at e
      refine (I.hok b u e).stay (fun c v _ q => q) (fun c q => ?_) (fun c xs q => ?_)
      · rw [upd_ne (nN q)]
        exact q
      · rw [upd_ne (nN q)]
        exact q
end
theorem fly_keeps {B h h' : Heap} {l : List Env} {a : Addr} {Z : Obj → Prop} (x : HandSPX.FlyingZ B l a Z h) (k : ∀ b o, h.get? b = some o → h'.get? b = some o) : HandSPX.FlyingZ B l a Z h' := by
  obtain ⟨x1, x2, x3, oe, vs, T, oT, ts, e1, e2, e3, e4, e5, e6, e7, e8, e9⟩ := x
  exact ⟨fun b o e => k b o (x1 b o e), x2, x3.of_keeps (fun b o e _ => ⟨o, k b o e, rfl⟩), oe, vs, T, oT, ts, k _ _ e1, e2, e3, e4, e5, e6, k _ _ e7, e8, e9⟩
/-- the clause's test takes the exceptions whose class has m -/
def Tests (X : Cx) (t : Expr) (m : Value → Prop) : Prop :=
  ∀ (a : Addr) (oe : Obj) (pn pins : List (Addr × Obj)) (σ : L2.St) (H : Hp) (s : Shared) (cls : Value) (Q : Value → Shared → Prop) (E : Value → Shared → Prop), Inv (X.suite a ((a, oe) :: pn)) pins σ H s → s.heap.get? a = some oe → oe.cls = cls → m cls →
    (∀ (c : Value) (h' : Heap), (∀ b o, s.heap.get? b = some o → h'.get? b = some o) → PySem.W.Looks (model X.prog X.w) h' (excMatches (.ref a) c) true → Q c { s with heap := h' }) → wpAny (model X.prog X.w) (X.A.mark (some (.ref a))) (eval t X.env) Q E s
theorem ld_nm {X : Cx} {x : Str} {c : Value} {pins : List (Addr × Obj)} {σ : L2.St} {H : Hp} {s : Shared} {Q : Value → Shared → Prop} {E : Value → Shared → Prop} {p : Pos} (I : Inv X pins σ H s) (hc : Names X x c) (q : Q c s) : wpAny (model X.prog X.w) X.A (eval (.Name x p) X.env) Q E s := by
  obtain ⟨g, nd, h | ⟨h1, h2, h3⟩⟩ := hc
  · exact ld_glob I g h q nd
  · exact ld_blt I g h1 h2 q h3 nd
theorem ty_looks {P : Program} {w : World} {h : Heap} {a : Addr} {oe : Obj} {cls : Value} (e : h.get? a = some oe) (c : oe.cls = cls) : PySem.W.Looks (model P w) h (typeOf (.ref a)) cls := by
  intro A Q E s k q
  exact wpAny_typeOf_ref (k _ _ e) (by rw [c]; exact q)
theorem tests_one {X : Cx} {x : Str} {c : Value} {p : Pos} (hc : Names X x c) : Tests X (.Name x p) fun cls => PySem.W.exmOne X.K cls c = some true := by
  intro a oe pn pins σ H s cls Q E I ha hcl hm k
  exact ld_nm (X := X.suite a ((a, oe) :: pn)) I hc (k c s.heap (fun _ _ z => z) (PySem.W.exm_one I.kIn (ty_looks ha hcl) hm))
theorem tests_two {X : Cx} {x1 x2 : Str} {c1 c2 : Value} {p1 p2 pos : Pos} {u} (h1 : Names X x1 c1) (h2 : Names X x2 c2) : Tests X (.Tuple [.Name x1 p1, .Name x2 p2] u pos) fun cls => PySem.W.exmAny X.K cls [c1, c2] = some true := by
  intro a oe pn pins σ H s cls Q E I ha hcl hm k
  refine wpAny_Tuple_spliced ?_
  refine Calls.spliced_cons (ld_nm (X := X.suite a ((a, oe) :: pn)) I h1 ?_)
  refine Calls.spliced_cons (ld_nm (X := X.suite a ((a, oe) :: pn)) I h2 (Calls.spliced_nil ⟨by show 2 ≤ sizeLine; decide, ?_⟩))
  have hk : ∀ b o, s.heap.get? b = some o → (s.heap.push { cls := .type "tuple", data := .seq [c1, c2].toArray }).get? b = some o := fun b o e => Heap.get?_push_of_some _ e
  refine k (.ref s.heap.objs.size) _ hk ?_
  exact PySem.W.exm_tup2 (fun b o e => hk b o (I.kIn b o e)) (ty_looks (hk _ _ ha) hcl) (Heap.get?_push_size _ rfl) hm
/-- what 'except .. as n: v = n' wishes of an exception of the body: it is taken, and kept in slot j; slot i, n's, is empty behind it -/
def wHeld (m : Value → Prop) (i j : Nat) (D : Ends) : WX := fun cls d σ H => m cls ∧ ∀ a, H a = none → D.nx (((σ.set i (some (.ref a))).set j (some (.ref a))).set i none) (upd H a (ExH cls d a))
section
variable {X : Cx} {n v : Str} {i j : Nat} {t : Expr} {m : Value → Prop} {body : List Stmt} {pos pos' p1 p2 p3 : Pos} {tb : WX → TS}
theorem ps_try_held (hs : X.stack = X.env :: X.outer) (hf : X.env.frame = some X.env.locals) (hN : X.N.Nodup) (hi : X.N[i]? = some n) (hj : X.N[j]? = some v) (hln : X.env.kindOf n = some .local) (hlv : X.env.kindOf v = some .local) (hx : X.ex = []) (ht : Tests X t m)
    (hb : ∀ (W : WX) (pn : List (Addr × Obj)) (xe : Value → Shared → Prop), Takes (X.tr pn xe) W → PassesOwn (model X.prog X.w) X.A X.env xe → PSs (X.tr pn xe) body (tb W))
    (hsu : ∀ (a : Addr) (oe : Obj) (pn : List (Addr × Obj)), PSs (X.suite a ((a, oe) :: pn)) [.Assign [.Name v p1] (.Name n p2) p3] (tAsg (tVar i) (gName j))) :
    PS X (.Try body [.ExceptHandler (some t) (some n) [.Assign [.Name v p1] (.Name n p2) p3] pos'] [] [] pos) (fun D σ H => tb (wHeld m i j D) D σ H) := by
  constructor
  intro pins s σ H D I h
  have ok := I.ok
  have frm : X.A.frames = some (X.env :: X.outer) := ok.frames.trans (congrArg some hs)
  have body_ := hb (wHeld m i j D) (X.pn ++ pins) (fun e s₁ => wpAny (model X.prog X.w) X.A (noteFrame e X.env) (fun _ s₂ => wpAny (model X.prog X.w) X.A (setFlight e none) (fun _ s₃ => wpAny (model X.prog X.w) X.A (handleBy e X.env [.ExceptHandler (some t) (some n) [.Assign [.Name v p1] (.Name n p2) p3] pos']) (SP X pins D) X.xe s₃) X.xe s₂) X.xe s₁) ?caught PassesOwn.looking
  · refine wpAny_Try_except (wpAny_mono (body_.run [] s σ H D (I.toTry _) h) ?_ fun _ _ z => z)
    intro f s1 hsp
    match f, hsp with
    | .next, ⟨σ', H', J', q⟩ => exact wpAny_execs_nil ⟨σ', H', J'.ofTry ok, q⟩
    | .brk, ⟨σ', H', J', q⟩ => exact ⟨σ', H', J'.ofTry ok, q⟩
    | .cont, ⟨σ', H', J', q⟩ => exact ⟨σ', H', J'.ofTry ok, q⟩
    | .ret u, ⟨v, σ', H', J', r, q⟩ => exact ⟨v, σ', H', J'.ofTry ok, r, q⟩
  case caught =>
    rintro u s' ⟨a, B, sI, pins', σ', H', cls, d, rfl, J', nb, up, sky, na, os, ag, hm, hk⟩
    have J : Inv X pins σ' H' sI := J'.ofTry ok
    have sk2 : Sky B (X.env :: X.outer) a (Zc cls d) X.env.locals s'.heap := hs ▸ sky
    show wpAny (model X.prog X.w) X.A (noteFrame (.ref a) X.env) _ _ _
    refine Sky.land Zc.steady frm hf sk2 fun h3 fl3 up3 => ?_
    have notF : ∀ {g : Heap}, HandSPX.FlyingZ B (X.env :: X.outer) a (Zc cls d) g → a ∉ frs (X.env :: X.outer) := by
      intro g fl hmem
      obtain ⟨o1, v1, e1, _, e3⟩ := fl.there
      obtain ⟨_, o2, e2, hn2⟩ := fl.2.2.1.mem hmem
      rw [e1] at e2
      cases e2
      exact hn2 _ e3
    have nfr := notF fl3
    have nL : a ≠ X.env.locals := by
      intro z
      exact nfr (List.mem_filterMap.mpr ⟨X.env, List.mem_cons_self, hf.trans (congrArg some z.symm)⟩)
    have nF : a ∉ X.fs := by
      intro z
      obtain ⟨e, he, q⟩ := List.mem_filterMap.mp z
      exact nfr (List.mem_filterMap.mpr ⟨e, List.mem_cons_of_mem _ he, q⟩)
    have nI : sI.heap.get? a = none := by
      cases e : sI.heap.get? a with
      | none => rfl
      | some o =>
        have q := nb a o e (by rw [hs]; exact nfr)
        rw [fl3.2.1] at q
        cases q
    obtain ⟨oe3, vs3, he3, hz3, hd3⟩ := fl3.there
    have J3 : Inv X pins σ' H' { s' with heap := h3 } := J.landed nb fl3.1 (up.trans up3) os ag
    refine wpAny_handleBy_cons (codeAny_handlers_test ?_) (fun q => nomatch q)
    refine ht a oe3 _ _ _ _ _ cls _ _ (J3.suite he3 hd3 na nL nF) he3 hz3.1 hm fun c h' kp lk => lk.here ?_
    refine codeAny_handlers_suite_as (HandSPX.lands_againZ (fly_keeps fl3 kp) fun h4 fl4 up4 => ?_)
    have upA : sI.heap.UpToSlots h4 := ((up.trans up3).trans (Heap.UpToSlots.of_keeps kp)).trans up4
    have J4 : Inv X pins σ' H' { s' with heap := h4 } := J.landed nb fl4.1 upA os ag
    obtain ⟨oe4, vs4, he4, hz4, hd4⟩ := fl4.there
    refine store_ok (X := X.suite a ((a, oe4) :: (X.pn ++ pins))) (v := .ref a) (J4.suite he4 hd4 na nL nF) hN hi (.inl hln) rfl (fun s5 S5 => ?_) (.inr hln)
    have hlen : i < σ'.length := by
      rw [J.len]
      exact (List.getElem?_eq_some_iff.mp hi).1
    refine wpAny_mono ((hsu a oe4 (X.pn ++ pins)).run [] s5 _ H' { nx := fun σ6 H6 => σ6 = (σ'.set i (some (.ref a))).set j (some (.ref a)) ∧ H6 = H', rt := fun _ _ => False } S5 ?_) (fun f s6 hsp => ?_) (fun _ _ z => False.elim z)
    · exact ⟨.ref a, by simp [hlen], rfl, rfl⟩
    match f, hsp with
    | .next, ⟨σ6, H6, S6, e6, e7⟩ =>
      subst e6 e7
      refine gone_ok (X := X.suite a ((a, oe4) :: (X.pn ++ pins))) S6 hN hi hln fun s7 S7 => ?_
      have ha7 := (S7.pin (a, oe4) (List.mem_append_left _ List.mem_cons_self)).1
      exact ⟨_, _, track (S7.unsuite ok) J nI hx na nL ha7 hd4 (exH_ok ha7 hz4 hd4), hk a na⟩
    | .brk, ⟨_, _, _, z⟩ => exact z.elim
    | .cont, ⟨_, _, _, z⟩ => exact z.elim
    | .ret u, ⟨_, _, _, _, _, z⟩ => exact z.elim
end
end HopR

set_option Elab.async false
set_option linter.all false
set_option maxRecDepth 100000
namespace HopR
open PySem PySem.Spec PyProof.Rows L2
/-! ### isinstance of a kept exception without a dict -/
section
variable {X : Cx}
theorem held_at {pins : List (Addr × Obj)} {σ : L2.St} {H : Hp} {s : Shared} {a D : Addr} (I : Inv X pins σ H s) (ha : H a = some (ExH (.ref D) none a)) : ∃ oe, PySem.W.InstAt s.heap a oe D none := by
  obtain ⟨⟨oe, vs, e, ⟨z1, z2⟩, q⟩, _, _⟩ := I.hok a _ ha
  obtain ⟨oc, od, oda, osl⟩ := oe
  dsimp only at z1 z2 q
  subst z1 z2 q
  exact ⟨_, e, rfl, rfl, trivial⟩
/-- isinstance(kept, c) -/
def rIsH (K : PySem.W.Frag) : List V → Hp → VK → Prop := fun xs H Q => ∃ (a D : Addr) (c : V) (cv : Value) (b : Bool), xs = [.ref a, c] ∧ H a = some (ExH (.ref D) none a) ∧ ExcC K D ∧ ClsV c cv ∧ PySem.W.kitOne K (.ref D) cv = some b ∧ Q (.bl b) H
theorem call_isH : CallR X (.builtin "isinstance") (rIsH X.K) := by
  rintro pins s σ H xs us Q I r ⟨a, D, c, cv, b, rfl, ha, C, kc, e, q⟩
  obtain ⟨u1, u2, rfl, r1, r2⟩ := vals2 r
  obtain rfl := kc.eq r2
  cases (show u1 = Value.ref a from r1)
  obtain ⟨oe, J⟩ := held_at I ha
  exact PySem.W.kia_one (PySem.W.handS_kitx_exc C.hg C.hk C.hs C.hd C.ha C.hn C.ht C.hm) I.kIn J e (fun z => nomatch z) fun tk => ⟨.bl b, H, I.tok tk, rfl, q⟩
/-- isinstance(kept, (c1, c2, ..)) -/
def rIsHT (K : PySem.W.Frag) : List V → Hp → VK → Prop := fun xs H Q => ∃ (a D tp : Addr) (cs : List V) (ws : List Value) (b : Bool), xs = [.ref a, .ref tp] ∧ H a = some (ExH (.ref D) none a) ∧ ExcC K D ∧ H tp = some (.tup cs) ∧ Paired ClsV cs ws ∧ PySem.W.kitAny K (.ref D) ws = some b ∧ Q (.bl b) H
theorem call_isHT : CallR X (.builtin "isinstance") (rIsHT X.K) := by
  rintro pins s σ H xs us Q I r ⟨a, D, tp, cs, ws, b, rfl, ha, C, ht, kc, e, q⟩
  obtain ⟨u1, u2, rfl, r1, r2⟩ := vals2 r
  cases (show u1 = Value.ref a from r1)
  cases (show u2 = Value.ref tp from r2)
  obtain ⟨oe, J⟩ := held_at I ha
  have hT : ObjOk X.prog X.w H s.heap tp (.tup cs) := I.hok tp _ ht
  obtain ⟨_, its, rv, ⟨oc, od, dt, osl⟩, g1, g2, n, g3⟩ := hT
  obtain rfl := ClsV.all kc rv
  simp only at g2 g3
  subst g2 g3
  exact PySem.W.kia_tup (PySem.W.handS_kitx_exc C.hg C.hk C.hs C.hd C.ha C.hn C.ht C.hm) I.kIn J g1 e (fun z => nomatch z) fun tk => ⟨.bl b, H, I.tok tk, rfl, q⟩
end
/-! ### things that are whole numbers or not -/
/-- x is of a built-in type that is no whole number's -/
def Odd (K : PySem.W.Frag) (H : Hp) (x : V) : Prop := ∃ t bI, TyX K H x t ∧ PySem.W.kitOne K t (.type "int") = some bI ∧ (bI = true → PySem.W.kitOne K t (.type "bool") = some true)
theorem odd_non {K : PySem.W.Frag} {H : Hp} : Odd K H .non := ⟨_, false, .base .non, kit_ty (by decide +kernel), fun z => nomatch z⟩
theorem odd_bl {K : PySem.W.Frag} {H : Hp} {b : Bool} : Odd K H (.bl b) := ⟨_, true, .base (.bl b), kit_ty (by decide +kernel), fun _ => kit_ty (by decide +kernel)⟩
theorem odd_str {K : PySem.W.Frag} {H : Hp} {z : Str} : Odd K H (.str z) := ⟨_, false, .base (.str z), kit_ty (by decide +kernel), fun z => nomatch z⟩
theorem odd_lst {K : PySem.W.Frag} {H : Hp} {a : Addr} {xs : List V} (e : H a = some (.lst xs)) : Odd K H (.ref a) := ⟨_, false, .base (.lst e), kit_ty (by decide +kernel), fun z => nomatch z⟩
theorem odd_tup {K : PySem.W.Frag} {H : Hp} {a : Addr} {xs : List V} (e : H a = some (.tup xs)) : Odd K H (.ref a) := ⟨_, false, .base (.tup e), kit_ty (by decide +kernel), fun z => nomatch z⟩
theorem odd_dK {K : PySem.W.Frag} {H : Hp} {a : Addr} {xs : List (Key × V)} (e : H a = some (.dK xs)) : Odd K H (.ref a) := ⟨_, false, .base (.dK e), kit_ty (by decide +kernel), fun z => nomatch z⟩
end HopR

set_option Elab.async false
set_option linter.all false
set_option maxRecDepth 100000
namespace HopR
open PySem L2
theorem same_upd {H : Hp} {p : Addr} {o : HO} (h : H p = none) : Same H (upd H p o) := fun b x e => by
  rw [upd_ne (ne_of_none e h)]
  exact e
theorem same_new {H H1 : Hp} {p : Addr} {o : HO} (h : H p = none) (s : Same H H1) : Same H (upd H1 p o) := fun b x e => by
  rw [upd_ne (ne_of_none e h)]
  exact s _ _ e
/-- a def of the text, its binding, where its name leads -/
structure Fn (K : PySem.W.Frag) (mg : Str → Option Value) (x : Str) (st : Stmt) (ps : List Str) (f : Addr) (fd : FuncData) : Prop where
  F : Fun K x x st f fd
  b : Binds K fd ps []
  g : mg x = some (.ref f)
end HopR

set_option Elab.async false
set_option linter.all false
set_option maxRecDepth 100000
namespace HopR
open PySem L2
/-! ### classes of refusals -/
theorem kit_own {K : PySem.W.Frag} {D C : Addr} {b : Bool} (ne : D ≠ C) (hd : PySem.W.hasDictIn K C = true) (ht : PySem.W.typeIn K (.ref C) = some (.type "type")) (h : PySem.W.subIn K (.ref D) (.ref C) = some b) : PySem.W.kitOne K (.ref D) (.ref C) = some b := by
  obtain ⟨cd, hc, _⟩ := PySem.W.any_some hd
  have e1 : ((Value.ref D == Value.ref C) = true) = False := by
    rw [eq_iff_iff]
    exact ⟨fun z => ne (Value.ref.inj (beq_iff_eq.mp z)), False.elim⟩
  have e2 : ((PySem.W.clsIn K C).isSome && PySem.W.typeIn K (.ref C) == some (.type "type")) = true := by rw [hc, ht] <;> rfl
  unfold PySem.W.kitOne
  rw [if_neg (by rw [e1]; exact id)]
  show (if ((PySem.W.clsIn K C).isSome && PySem.W.typeIn K (.ref C) == some (.type "type")) = true then PySem.W.subIn K (.ref D) (.ref C) else none) = some b
  rw [if_pos e2]
  exact h
theorem kit_me {K : PySem.W.Frag} {D : Addr} : PySem.W.kitOne K (.ref D) (.ref D) = some true := by
  unfold PySem.W.kitOne
  rw [if_pos (by simp)]
theorem kit_blt {K : PySem.W.Frag} {D : Addr} {T : String} {b : Bool} (m : PySem.W.kitMeta T = true) (h : PySem.W.subIn K (.ref D) (.type T) = some b) : PySem.W.kitOne K (.ref D) (.type T) = some b := by
  have e1 : ¬ ((Value.ref D == Value.type T) = true) := fun z => nomatch (beq_iff_eq.mp z)
  unfold PySem.W.kitOne
  rw [if_neg e1]
  show (if PySem.W.kitMeta T = true then PySem.W.subIn K (.ref D) (.type T) else none) = some b
  rw [if_pos m]
  exact h
theorem kitAny_cons {K : PySem.W.Frag} {t c : Value} {r : List Value} (h : PySem.W.kitOne K t c = some false) (q : PySem.W.kitAny K t r = some false) : PySem.W.kitAny K t (c :: r) = some false := by
  simp only [PySem.W.kitAny, h, q]
theorem kitAny_nil {K : PySem.W.Frag} {t : Value} : PySem.W.kitAny K t [] = some false := by simp only [PySem.W.kitAny]
theorem exmAny2 {K : PySem.W.Frag} {t c1 c2 : Value} {b1 b2 : Bool} (h1 : PySem.W.exmOne K t c1 = some b1) (h2 : PySem.W.exmOne K t c2 = some b2) : PySem.W.exmAny K t [c1, c2] = some (b1 || b2) := by
  simp only [PySem.W.exmAny, h1, h2, Bool.or_false]
/-- an own exception class, as its instances are made and asked -/
structure Xc (K : PySem.W.Frag) (D : Addr) (bm : List Value) (nw : String) : Prop where
  x : PySem.W.excIn K D bm nw = true
  k : PySem.W.keepIn K (.ref D) = true
  be : PySem.W.subIn K (.ref D) (.type "BaseException") = some true
  ty : PySem.W.typeIn K (.ref D) = some (.type "type")
  c : ExcC K D
abbrev bmV : List Value := [.type "ValueError", .type "Exception", .type "BaseException", .type "object"]
abbrev bmZ : List Value := [.type "ZeroDivisionError", .type "ArithmeticError", .type "Exception", .type "BaseException", .type "object"]
/-! ### things by their kind -/
theorem tyx_same {K : PySem.W.Frag} {H H' : Hp} {x : V} {t : Value} (s : Same H H') (ty : TyX K H x t) : TyX K H' x t := by
  cases ty with
  | base h =>
    cases h with
    | non => exact .base .non
    | bl x => exact .base (.bl x)
    | int i => exact .base (.int i)
    | str x => exact .base (.str x)
    | flt x => exact .base (.flt x)
    | lst e => exact .base (.lst (s _ _ e))
    | frz e => exact .base (.frz (s _ _ e))
    | tup e => exact .base (.tup (s _ _ e))
    | dK e => exact .base (.dK (s _ _ e))
    | dT e => exact .base (.dT (s _ _ e))
    | ins e a b c d f => exact .base (.ins (s _ _ e) a b c d f)
  | byt b => exact .byt b
  | set e => exact .set (s _ _ e)
  | kList e c => exact .kList e c
  | kTuple e c => exact .kTuple e c
  | kDict e c => exact .kDict e c
  | fTuple e => exact .fTuple (s _ _ e)
  | fDict e => exact .fDict (s _ _ e)
theorem odd_same {K : PySem.W.Frag} {H H' : Hp} {x : V} (s : Same H H') (h : Odd K H x) : Odd K H' x := by
  obtain ⟨t, b, ty, k⟩ := h
  exact ⟨t, b, tyx_same s ty, k⟩
/-- x is no text -/
def NoTxt (K : PySem.W.Frag) (H : Hp) (x : V) : Prop := ∃ t, TyX K H x t ∧ PySem.W.kitOne K t (.type "str") = some false
theorem notxt_non {K : PySem.W.Frag} {H : Hp} : NoTxt K H .non := ⟨_, .base .non, kit_ty (by decide +kernel)⟩
theorem notxt_bl {K : PySem.W.Frag} {H : Hp} {b : Bool} : NoTxt K H (.bl b) := ⟨_, .base (.bl b), kit_ty (by decide +kernel)⟩
theorem notxt_int {K : PySem.W.Frag} {H : Hp} {i : Int} : NoTxt K H (.int i) := ⟨_, .base (.int i), kit_ty (by decide +kernel)⟩
theorem notxt_lst {K : PySem.W.Frag} {H : Hp} {a : Addr} {xs : List V} (e : H a = some (.lst xs)) : NoTxt K H (.ref a) := ⟨_, .base (.lst e), kit_ty (by decide +kernel)⟩
theorem notxt_tup {K : PySem.W.Frag} {H : Hp} {a : Addr} {xs : List V} (e : H a = some (.tup xs)) : NoTxt K H (.ref a) := ⟨_, .base (.tup e), kit_ty (by decide +kernel)⟩
theorem notxt_dK {K : PySem.W.Frag} {H : Hp} {a : Addr} {xs : List (Key × V)} (e : H a = some (.dK xs)) : NoTxt K H (.ref a) := ⟨_, .base (.dK e), kit_ty (by decide +kernel)⟩
theorem notxt_same {K : PySem.W.Frag} {H H' : Hp} {x : V} (s : Same H H') (h : NoTxt K H x) : NoTxt K H' x := by
  obtain ⟨t, ty, k⟩ := h
  exact ⟨t, tyx_same s ty, k⟩
/-! ### signs in the written dict of both signs -/
/-- the sign is a bead or a free place -/
def okc (c : Nat) : Bool := decide (c = 111) || decide (c = 46)
theorem okc_cd (b : Bool) : okc (cd b) = true := by cases b <;> rfl
def keyText : Value → Option Str
  | .str s _ => some s
  | _ => none
theorem keyText_str {v : Value} {s : Str} (h : keyText v = some s) : ∃ t, v = .str s t := by
  cases v <;> simp [keyText] at h
  exact ⟨_, by rw [h]⟩
def keysAre (es : Array DictEntry) : Prop := es.toList.map (fun e => keyText e.key) = [some ("o" : Str), some ("." : Str)]
theorem sign_in {K : PySem.W.Frag} {d : Addr} {es : Array DictEntry} {n : Nat} (l : K.lookup d = some ⟨.type "dict", none, .dict es n, #[]⟩) (hk : keysAre es) (c : Nat) : ∃ r, PySem.W.nsIn K d ⟨#[c]⟩ = some r ∧ r.isSome = okc c := by
  unfold keysAre at hk
  obtain ⟨e1, e2, hes⟩ : ∃ e1 e2, es.toList = [e1, e2] := by
    have hl := congrArg List.length hk
    rw [List.length_map] at hl
    match h : es.toList, hl with
    | [e1, e2], _ => exact ⟨e1, e2, rfl⟩
  rw [hes] at hk
  obtain ⟨t1, k1⟩ := keyText_str (List.cons.inj hk).1
  obtain ⟨t2, k2⟩ := keyText_str (List.cons.inj (List.cons.inj hk).2).1
  have i1 : e1.key.isStr ⟨#[c]⟩ = decide (c = 111) := by
    rw [k1]
    by_cases h : c = 111
    · subst h
      show (("o" : Str) == ⟨#[111]⟩) = true
      decide +kernel
    · rw [decide_eq_false h]
      have : ¬ (("o" : Str) = ⟨#[c]⟩) := fun z => by
        have z2 := congrArg (fun q : Str => q.cps.toList) z
        have z3 : [111] = [c] := z2
        exact h (List.cons.inj z3).1.symm
      simp [Value.isStr, this]
  have i2 : e2.key.isStr ⟨#[c]⟩ = decide (c = 46) := by
    rw [k2]
    by_cases h : c = 46
    · subst h
      show (("." : Str) == ⟨#[46]⟩) = true
      decide +kernel
    · rw [decide_eq_false h]
      have : ¬ (("." : Str) = ⟨#[c]⟩) := fun z => by
        have z2 := congrArg (fun q : Str => q.cps.toList) z
        have z3 : [46] = [c] := z2
        exact h (List.cons.inj z3).1.symm
      simp [Value.isStr, this]
  have r1 : e1.refKey = false := by unfold DictEntry.refKey; rw [k1]
  have r2 : e2.refKey = false := by unfold DictEntry.refKey; rw [k2]
  unfold PySem.W.nsIn
  rw [l]
  simp only [hes, List.find?, i1, i2, List.any_cons, r1, r2, List.any_nil, Bool.or_false]
  unfold okc
  by_cases h1 : c = 111
  · simp [h1]
  · by_cases h2 : c = 46
    · simp [h2]
    · simp [h1, h2]
/-- x is no row: no text, or one that is too short, too long, or has another sign -/
def NotRow (K : PySem.W.Frag) (H : Hp) (x : V) : Prop := NoTxt K H x ∨ ∃ z : Str, x = .str z ∧ z.length ≤ 10000 ∧ (z.length = 0 ∨ 30 < z.length ∨ ∃ c ∈ z.cps.toList, okc c = false)
def NotWord (K : PySem.W.Frag) (H : Hp) (x : V) : Prop := NoTxt K H x ∨ ∃ z : Str, x = .str z ∧ z.length ≤ 10000 ∧ (30 < z.length ∨ ∃ c ∈ z.cps.toList, okc c = false)
theorem notrow_same {K : PySem.W.Frag} {H H' : Hp} {x : V} (s : Same H H') (h : NotRow K H x) : NotRow K H' x := h.imp (notxt_same s) id
theorem notword_same {K : PySem.W.Frag} {H H' : Hp} {x : V} (s : Same H H') (h : NotWord K H x) : NotWord K H' x := h.imp (notxt_same s) id
theorem notword_row {K : PySem.W.Frag} {H : Hp} {x : V} (h : NotWord K H x) : NotRow K H x := h.imp id fun ⟨z, e, l, q⟩ => ⟨z, e, l, .inr q⟩
end HopR

set_option Elab.async false
set_option linter.all false
set_option maxRecDepth 100000
namespace HopR
open PySem L2
/-! ### words: where they can be shortened, and to what -/
def shp (bs : List Bool) (i : Nat) : Bool := decide ((bs.drop i).take 2 = [true, false])
def plc (bs : List Bool) : List Nat := (List.range bs.length).filter (shp bs)
def shA (bs : List Bool) (k : Nat) : List Bool := bs.take (k + 1) ++ bs.drop (k + 2)
def shB (bs : List Bool) (k : Nat) : List Bool := bs.take k ++ bs.drop (k + 1)
theorem shp_split {bs : List Bool} {i : Nat} (h : shp bs i = true) : bs = bs.take i ++ true :: false :: bs.drop (i + 2) ∧ i + 2 ≤ bs.length := by
  have h := of_decide_eq_true h
  have e : bs.drop i = [true, false] ++ (bs.drop i).drop 2 := by
    conv => lhs; rw [← List.take_append_drop 2 (bs.drop i), h]
  rw [List.drop_drop] at e
  have hl := congrArg List.length e
  rw [List.length_drop, List.length_append, List.length_drop] at hl
  have hl2 : bs.length - i = 2 + (bs.length - (i + 2)) := hl
  refine ⟨?_, by omega⟩
  conv => lhs; rw [← List.take_append_drop i bs, e]
  rfl
theorem plc_shp {bs : List Bool} {k : Nat} (h : k ∈ plc bs) : shp bs k = true ∧ k < bs.length := ⟨(List.mem_filter.mp h).2, List.mem_range.mp (List.mem_filter.mp h).1⟩
theorem plc_few (bs : List Bool) : (plc bs).length ≤ bs.length := by
  refine Nat.le_trans (List.length_filter_le _ _) ?_
  rw [List.length_range]
  exact Nat.le_refl _
theorem shA_len {bs : List Bool} {k : Nat} (h : k + 2 ≤ bs.length) : (shA bs k).length + 1 = bs.length := by
  unfold shA
  rw [List.length_append, List.length_take, List.length_drop]
  omega
theorem shB_len {bs : List Bool} {k : Nat} (h : k + 2 ≤ bs.length) : (shB bs k).length + 1 = bs.length := by
  unfold shB
  rw [List.length_append, List.length_take, List.length_drop]
  omega
theorem shA_eq {bs : List Bool} {k : Nat} (h : k ∈ plc bs) : shA bs k = bs.take k ++ [true] ++ bs.drop (k + 2) := by
  obtain ⟨e, hl⟩ := shp_split (plc_shp h).1
  unfold shA
  have e2 : bs.take (k + 1) = bs.take k ++ [true] := by
    rw [List.take_add_one]
    congr 1
    rw [e, List.getElem?_append_right (by rw [List.length_take]; omega), List.length_take, show k - min k bs.length = 0 by omega]
    rfl
  rw [e2]
theorem shB_eq {bs : List Bool} {k : Nat} (h : k ∈ plc bs) : shB bs k = bs.take k ++ [false] ++ bs.drop (k + 2) := by
  obtain ⟨e, hl⟩ := shp_split (plc_shp h).1
  unfold shB
  rw [List.append_assoc]
  congr 1
  have e3 : bs.drop (k + 1) = false :: bs.drop (k + 2) := by
    have h1 : k + 1 < bs.length := by omega
    rw [List.drop_eq_getElem_cons h1]
    congr 1
    have h2 : bs[k + 1]? = some false := by
      rw [e, List.getElem?_append_right (by rw [List.length_take]; omega), List.length_take, show k + 1 - min k bs.length = 1 by omega]
      rfl
    rw [List.getElem?_eq_getElem h1] at h2
    exact Option.some.inj h2
  rw [e3]
  rfl
/-! ### words and other things -/
def isRowB (z : Str) : Bool := decide (1 ≤ z.length) && (decide (z.length ≤ 30) && z.cps.toList.all okc)
def isWordB (z : Str) : Bool := decide (z.length ≤ 30) && z.cps.toList.all okc
/-- whether x is a row -/
def RowB (K : PySem.W.Frag) (H : Hp) (x : V) (b : Bool) : Prop := (NoTxt K H x ∧ b = false) ∨ ∃ z : Str, x = .str z ∧ z.length ≤ 10000 ∧ b = isRowB z
/-- whether x is a word -/
def WordB (K : PySem.W.Frag) (H : Hp) (x : V) (b : Bool) : Prop := (NoTxt K H x ∧ b = false) ∨ ∃ z : Str, x = .str z ∧ z.length ≤ 10000 ∧ b = isWordB z
theorem wordB_same {K : PySem.W.Frag} {H H' : Hp} {x : V} {b : Bool} (s : Same H H') (h : WordB K H x b) : WordB K H' x b := h.imp (fun ⟨q, e⟩ => ⟨notxt_same s q, e⟩) id
theorem rowB_same {K : PySem.W.Frag} {H H' : Hp} {x : V} {b : Bool} (s : Same H H') (h : RowB K H x b) : RowB K H' x b := h.imp (fun ⟨q, e⟩ => ⟨notxt_same s q, e⟩) id
theorem okc_tx (bs : List Bool) : (tx bs).cps.toList.all okc = true := by
  rw [tx_list, List.all_map, List.all_eq_true]
  exact fun b _ => okc_cd b
theorem isWord_tx {bs : List Bool} (h : bs.length ≤ 30) : isWordB (tx bs) = true := by
  unfold isWordB
  rw [okc_tx, tx_len, decide_eq_true h]
  rfl
theorem isRow_tx {bs : List Bool} (h1 : 1 ≤ bs.length) (h : bs.length ≤ 30) : isRowB (tx bs) = true := by
  unfold isRowB
  rw [okc_tx, tx_len, decide_eq_true h, decide_eq_true h1]
  rfl
theorem len0 {z : Str} (h : z.length = 0) : z = "" := by
  apply ext_str
  have : z.cps = #[] := Array.eq_empty_of_size_eq_zero h
  rw [this]
  rfl
/-- as the program tells it: a row, or the text without signs -/
theorem isWord_or (z : Str) : isWordB z = (isRowB z || decide (z = "")) := by
  unfold isWordB isRowB
  by_cases h : z.length = 0
  · rw [len0 h]
    decide +kernel
  · have ne : ¬ z = "" := fun e => h (by rw [e]; decide +kernel)
    rw [decide_eq_false ne, decide_eq_true (show 1 ≤ z.length by omega)]
    simp
/-- a spot at which the word of bs can't be shortened -/
def BadSpot (K : PySem.W.Frag) (H : Hp) (y : V) (ks : List Nat) : Prop := Odd K H y ∨ ∃ i : Int, y = .int i ∧ ∀ k ∈ ks, i ≠ (k : Int)
theorem badspot_same {K : PySem.W.Frag} {H H' : Hp} {y : V} {ks : List Nat} (s : Same H H') (h : BadSpot K H y ks) : BadSpot K H' y ks := h.imp (odd_same s) id
theorem inV_in {ks : List Nat} {k : Nat} (h : k ∈ ks) : inV (wv k) (ks.map wv) = true := by
  unfold inV
  rw [List.any_eq_true]
  exact ⟨wv k, List.mem_map_of_mem h, by unfold wv eqV; simp⟩
theorem inV_no {ks : List Nat} {i : Int} (h : ∀ k ∈ ks, i ≠ (k : Int)) : inV (.int i) (ks.map wv) = false := by
  unfold inV
  rw [List.any_eq_false]
  intro x hx
  obtain ⟨k, hk, rfl⟩ := List.mem_map.mp hx
  unfold wv eqV
  simp
  have := h k hk
  omega
theorem flat_ks (ks : List Nat) : (ks.map wv).all flatV = true := by
  rw [List.all_eq_true]
  intro x hx
  obtain ⟨k, _, rfl⟩ := List.mem_map.mp hx
  rfl
theorem fit {m : Nat} (h : m ≤ 10000) : m ≤ sizeLine := Nat.le_trans h (by decide)
theorem fit' {m : Nat} (h : m ≤ 10000) : m < sizeLine := Nat.lt_of_le_of_lt h (by decide)
theorem tx_fit {bs : List Bool} (h : bs.length ≤ 10000) : (tx bs).length ≤ sizeLine := by
  rw [tx_len]
  exact fit h
theorem tx_nil : ("" : Str) = tx [] := by decide +kernel
theorem dec_str {a b : Str} {p : Prop} [Decidable p] (h : a = b ↔ p) : decide (V.str a = V.str b) = decide p := by
  by_cases q : p
  · rw [decide_eq_true q, decide_eq_true (by rw [h.mpr q])]
  · rw [decide_eq_false q, decide_eq_false fun z => q (h.mp (V.str.inj z))]
end HopR

set_option Elab.async false
set_option linter.all false
set_option maxRecDepth 100000
namespace HopR
open PySem L2
/-! ### the draws -/
def dval (left : Int) (k : Nat) (z : Int) : Int :=
  if (1000000000000000000 : Int) ≤ left then left % z
  else
    let small := left % 1000000000000000000
    let one := (small + 7 * (k : Int) + 1) * (48271 + 2 * (k : Int) * (k : Int)) % 2147483647
    let two := (small / 3 + 11 * (k : Int) + 5) * (39373 + 6 * (k : Int)) % 2147483629
    (one * two + one / 64) % z
def dleft (left : Int) (z : Int) : Int := if (1000000000000000000 : Int) ≤ left then left / z else left
def draws : Int → Nat → List Int → List Int
  | _, _, [] => []
  | left, k, z :: r => dval left k z :: draws (dleft left z) (k + 1) r
theorem draws_len : ∀ (zs : List Int) (c : Int) (k : Nat), (draws c k zs).length = zs.length
  | [], _, _ => rfl
  | z :: r, c, k => by
    show (draws (dleft c z) (k + 1) r).length + 1 = r.length + 1
    rw [draws_len r]
theorem dval_ok {c : Int} {k : Nat} {z : Int} (h : 0 < z) : 0 ≤ dval c k z ∧ dval c k z < z := by
  unfold dval
  split
  · exact ⟨Int.emod_nonneg _ (by omega), Int.emod_lt_of_pos _ h⟩
  · exact ⟨Int.emod_nonneg _ (by omega), Int.emod_lt_of_pos _ h⟩
theorem draws_ok : ∀ (zs : List Int) (c : Int) (k : Nat), (∀ z ∈ zs, 0 < z) → ∀ (i : Nat) (d z : Int), (draws c k zs)[i]? = some d → zs[i]? = some z → 0 ≤ d ∧ d < z
  | [], _, _, _, i, d, z, _, h => by simp at h
  | y :: r, c, k, hp, 0, d, z, h1, h2 => by
    have e1 : dval c k y = d := Option.some.inj h1
    have e2 : y = z := Option.some.inj h2
    subst e1 e2
    exact dval_ok (hp y (List.mem_cons_self ..))
  | y :: r, c, k, hp, i + 1, d, z, h1, h2 => draws_ok r _ _ (fun q hq => hp q (List.mem_cons_of_mem _ hq)) i d z h1 h2
/-- the size of a draw is one that is reckoned with -/
def SizeOk (z : Int) : Prop := 0 < z ∧ z < 18446744073709551616
def bits (cs : List Int) : List Bool := cs.map fun c => decide (c = 1)
theorem signs_rows : ∀ (ys : List Str), (∀ y ∈ ys, ∃ b, y = tx [b]) → ∃ bs : List Bool, ys = bs.map fun b => tx [b]
  | [], _ => ⟨[], rfl⟩
  | y :: r, h => by
    obtain ⟨b, e⟩ := h y (List.mem_cons_self ..)
    obtain ⟨bs, e2⟩ := signs_rows r fun z hz => h z (List.mem_cons_of_mem _ hz)
    exact ⟨b :: bs, by rw [e, e2]; rfl⟩
theorem dot_o (c : Int) (h0 : 0 ≤ c) (h2 : c < 2) : atI (".o" : Str).cps.toList c = some (cd (decide (c = 1))) := by
  have e : (".o" : Str).cps.toList = [46, 111] := by decide +kernel
  rw [e]
  rcases (show c = 0 ∨ c = 1 by omega) with rfl | rfl
  · decide
  · decide
/-- a row -/
def Row (bs : List Bool) : Prop := 1 ≤ bs.length ∧ bs.length ≤ 30
theorem row_size {bs : List Bool} (h : Row bs) : (tx bs).length ≤ sizeLine := tx_fit (Nat.le_trans h.2 (by decide))
theorem flat_rep {α : Type} (x : α) : ∀ m : Nat, (List.replicate m [x]).flatten = List.replicate m x
  | 0 => rfl
  | m + 1 => by
    rw [List.replicate_succ, List.flatten_cons, flat_rep x m]
    rfl
theorem rep_of (m : Nat) : repS "o." m = tx (List.replicate m [true, false]).flatten := by
  unfold repS tx
  have e : ("o." : Str).cps.toList = [true, false].map cd := by decide +kernel
  rw [e, List.map_flatten, List.map_replicate]
theorem rep_of_len (m : Nat) : (List.replicate m [true, false]).flatten.length = 2 * m := by
  rw [List.length_flatten, List.map_replicate, List.sum_replicate_nat]
  show m * 2 = 2 * m
  omega
def spDrawn (K : PySem.W.Frag) : Sp := fun vs H Q _ => ∃ (c : Int) (a : Addr) (zs : List Int), vs = [.int c, .ref a] ∧ SqL K H a (zs.map V.int) ∧ (∀ z ∈ zs, SizeOk z) ∧ zs.length ≤ 1000 ∧
  ∀ H' p, Same H H' → H p = none → H' p = some (.lst ((draws c 0 zs).map V.int)) → Q (.ref p) H'
def spCellH (K : PySem.W.Frag) : Sp := fun vs H Q _ => ∃ (a : Addr) (ns : List Int) (k : Nat), vs = [.ref a, .int (k : Int)] ∧ SqL K H a (ns.map V.int) ∧ ∀ c : Int, Q (.int c) H
def spLRow : Sp := fun vs H Q _ => ∃ (c : Int) (M : Nat), vs = [.int c, .int (M : Int)] ∧ 1 ≤ M ∧ M ≤ 30 ∧ ∀ H' bs, Same H H' → 1 ≤ bs.length → bs.length ≤ M → Q (.str (tx bs)) H'
end HopR

set_option Elab.async false
set_option linter.all false
set_option maxRecDepth 100000
namespace HopR
open PySem L2
/-- a list of draws by its places -/
theorem draws2 {c z0 z1 : Int} (h0 : 0 < z0) (h1 : 0 < z1) : ∃ d0 d1 : Int, draws c 0 [z0, z1] = [d0, d1] ∧ (0 ≤ d0 ∧ d0 < z0) ∧ (0 ≤ d1 ∧ d1 < z1) := by
  have hl := draws_len [z0, z1] c 0
  match hd : draws c 0 [z0, z1], hl with
  | [d0, d1], _ =>
    have hp : ∀ z ∈ [z0, z1], 0 < z := by
      intro z hz
      simp only [List.mem_cons, List.not_mem_nil, or_false] at hz
      rcases hz with rfl | rfl
      · exact h0
      · exact h1
    exact ⟨d0, d1, rfl, draws_ok _ c 0 hp 0 d0 z0 (by rw [hd]; rfl) rfl, draws_ok _ c 0 hp 1 d1 z1 (by rw [hd]; rfl) rfl⟩
end HopR

set_option Elab.async false
set_option linter.all false
set_option maxRecDepth 100000
namespace HopR
open PySem L2
/-! ### texts by their codes -/
def rt (cs : List Nat) : Str := ⟨cs.toArray⟩
def one (c : Nat) : Str := ⟨#[c]⟩
theorem rt_list (cs : List Nat) : (rt cs).cps.toList = cs := by simp [rt]
theorem rt_len (cs : List Nat) : (rt cs).length = cs.length := by
  show cs.toArray.size = cs.length
  simp
theorem rt_of (z : Str) : rt z.cps.toList = z := ext_str (rt_list _)
theorem rt_inj {a b : List Nat} (h : rt a = rt b) : a = b := by
  have := congrArg (fun q : Str => q.cps.toList) h
  simpa only [rt_list] using this
theorem rt_app (a b : List Nat) : rt a ++ rt b = rt (a ++ b) := by
  apply ext_str
  rw [rt_list]
  show ((rt a).cps ++ (rt b).cps).toList = a ++ b
  rw [Array.toList_append, rt_list, rt_list]
theorem rt_fit {cs : List Nat} (h : cs.length ≤ 10000) : (rt cs).length ≤ sizeLine := by
  rw [rt_len]
  exact fit h
theorem sg_rt (cs : List Nat) : sg (rt cs) = cs.map one := by
  unfold sg
  rw [rt_list]
  rfl
theorem join_rt (cs : List Nat) : Txt.join "" (cs.map one) = rt cs := by
  apply ext_str
  rw [join0_list, List.map_map, rt_list]
  induction cs with
  | nil => rfl
  | cons b r ih =>
    rw [List.map_cons, List.flatten_cons, ih]
    rfl
theorem ones_sum : ∀ cs : List Nat, ((cs.map one).map (·.length)).sum = cs.length
  | [] => rfl
  | c :: r => by
    rw [List.map_cons, List.map_cons, List.sum_cons, ones_sum r]
    show 1 + r.length = r.length + 1
    omega
theorem join_rt_fits {cs : List Nat} (h : cs.length ≤ 1000) : ((cs.map one).map (·.length)).sum + (cs.map one).length * ("" : Str).length ≤ 16777216 := by
  have e : ("" : Str).length = 0 := by decide +kernel
  rw [ones_sum, e, Nat.mul_zero]
  omega
theorem cut_rt (cs : List Nat) (lo hi : Option Int) : cutS (rt cs) lo hi = rt ((cs.drop (HT.sIx cs.length 0 lo)).take (HT.sIx cs.length cs.length hi - HT.sIx cs.length 0 lo)) := by
  apply ext_str
  unfold cutS
  rw [rt_len, rt_list, rt_list]
theorem cut_rt_to (cs : List Nat) (k : Nat) : cutS (rt cs) none (some (k : Int)) = rt (cs.take k) := by
  rw [cut_rt, HT.sIx_none, HT.sIx_nat, List.drop_zero, Nat.sub_zero]
  by_cases h : k ≤ cs.length
  · rw [Nat.min_eq_left h]
  · rw [Nat.min_eq_right (by omega), List.take_length, List.take_of_length_le (by omega)]
theorem cut_rt_from (cs : List Nat) (k : Nat) : cutS (rt cs) (some (k : Int)) none = rt (cs.drop k) := by
  rw [cut_rt, HT.sIx_none, HT.sIx_nat]
  by_cases h : k ≤ cs.length
  · rw [Nat.min_eq_left h, List.take_of_length_le (by rw [List.length_drop]; exact Nat.le_refl _)]
  · rw [Nat.min_eq_right (by omega), List.drop_length, List.drop_of_length_le (by omega), List.take_nil]
theorem one_inj {a b : Nat} (h : one a = one b) : a = b := by
  have := congrArg (fun q : Str => q.cps.toList) h
  exact (List.cons.inj this).1
theorem one_eq (a b : Nat) : (one a == one b) = decide (a = b) := by
  by_cases h : a = b
  · subst h
    simp
  · rw [decide_eq_false h]
    have : ¬ (one a = one b) := fun z => h (one_inj z)
    simp [this]
/-! ### signs in a written dict -/
theorem find_key (c : Nat) : ∀ (ts : List Nat) (L : List DictEntry), L.map (fun e => keyText e.key) = ts.map (fun q => some (one q)) → (L.find? (·.key.isStr (one c))).isSome = decide (c ∈ ts) ∧ L.any (·.refKey) = false
  | [], [], _ => ⟨by simp, rfl⟩
  | [], e :: r, h => by simp at h
  | q :: ts, [], h => by simp at h
  | q :: ts, e :: r, h => by
    rw [List.map_cons, List.map_cons] at h
    obtain ⟨h1, h2⟩ := List.cons.inj h
    obtain ⟨t, hk⟩ := keyText_str h1
    obtain ⟨i1, i2⟩ := find_key c ts r h2
    have e1 : e.key.isStr (one c) = decide (q = c) := by
      rw [hk]
      exact one_eq q c
    refine ⟨?_, ?_⟩
    · rw [List.find?_cons, e1]
      by_cases hq : q = c
      · rw [decide_eq_true hq]
        simp [hq]
      · rw [decide_eq_false hq]
        show (r.find? (·.key.isStr (one c))).isSome = _
        rw [i1]
        have : ¬ c = q := fun z => hq z.symm
        simp [this]
    · rw [List.any_cons, i2, Bool.or_false]
      unfold DictEntry.refKey
      rw [hk]
theorem key_in {K : PySem.W.Frag} {d : Addr} {es : Array DictEntry} {n : Nat} {ts : List Nat} (l : K.lookup d = some ⟨.type "dict", none, .dict es n, #[]⟩) (hk : es.toList.map (fun e => keyText e.key) = ts.map (fun q => some (one q))) (c : Nat) :
    ∃ r, PySem.W.nsIn K d (one c) = some r ∧ r.isSome = decide (c ∈ ts) := by
  obtain ⟨h1, h2⟩ := find_key c ts es.toList hk
  unfold PySem.W.nsIn
  rw [l]
  simp only
  cases hf : es.toList.find? (·.key.isStr (one c)) with
  | some e =>
    rw [hf] at h1
    exact ⟨_, rfl, h1⟩
  | none =>
    rw [hf] at h1
    simp only [h2]
    exact ⟨_, rfl, h1⟩
/-! ### rings -/
def okr (c : Nat) : Bool := decide (c ∈ [97, 98, 46])
def isRingB (z : Str) : Bool := decide (2 ≤ z.length) && (decide (z.length ≤ 12) && z.cps.toList.all okr)
/-- whether x is a ring -/
def RingB (K : PySem.W.Frag) (H : Hp) (x : V) (b : Bool) : Prop := (NoTxt K H x ∧ b = false) ∨ ∃ z : Str, x = .str z ∧ z.length ≤ 10000 ∧ b = isRingB z
theorem ringB_same {K : PySem.W.Frag} {H H' : Hp} {x : V} {b : Bool} (s : Same H H') (h : RingB K H x b) : RingB K H' x b := h.imp (fun ⟨q, e⟩ => ⟨notxt_same s q, e⟩) id
/-- a ring by its codes -/
structure Rg (cs : List Nat) : Prop where
  lo : 2 ≤ cs.length
  hi : cs.length ≤ 12
  ok : ∀ c ∈ cs, c ∈ [97, 98, 46]
theorem Rg.isB {cs : List Nat} (h : Rg cs) : isRingB (rt cs) = true := by
  unfold isRingB
  rw [rt_len, rt_list, decide_eq_true h.lo, decide_eq_true h.hi]
  show cs.all okr = true
  rw [List.all_eq_true]
  exact fun c hc => decide_eq_true (h.ok c hc)
/-- how far above the others a sign stands -/
def rk (c : Nat) : Nat := if c = 97 then 2 else if c = 98 then 1 else 0
def nxt (cs : List Nat) (i : Nat) : Nat := (i + 1) % cs.length
theorem nxt_lt {cs : List Nat} (h : Rg cs) (i : Nat) : nxt cs i < cs.length := Nat.mod_lt _ (Nat.lt_of_lt_of_le (by decide) h.lo)
/-- the signs at a place and at the next one exchanged -/
def swp (cs : List Nat) (i : Nat) : List Nat := (cs.set i (cs.getD (nxt cs i) 0)).set (nxt cs i) (cs.getD i 0)
theorem swp_len (cs : List Nat) (i : Nat) : (swp cs i).length = cs.length := by
  unfold swp
  rw [List.length_set, List.length_set]
def ups (cs : List Nat) (i : Nat) : Bool := decide (rk (cs.getD (nxt cs i) 0) < rk (cs.getD i 0))
def rchg (cs : List Nat) (m : Nat) : List Nat := (List.range m).filter (ups cs)
theorem rchg_succ (cs : List Nat) (i : Nat) : rchg cs (i + 1) = rchg cs i ++ (if ups cs i then [i] else []) := by
  unfold rchg
  rw [List.range_succ, List.filter_append]
  congr 1
  cases h : ups cs i with
  | true => simp [h]
  | false => simp [h]
theorem rchg_few (cs : List Nat) (m : Nat) : (rchg cs m).length ≤ m := by
  refine Nat.le_trans (List.length_filter_le _ _) ?_
  rw [List.length_range]
  exact Nat.le_refl _
/-- the data of the changes -/
def dchg (cs : List Nat) (ks : List Nat) : List PyData := ks.map fun (k : Nat) => PyData.tuple [.int (k : Int), .str (rt (swp cs k))]
/-- a list of tuples (place, ring) -/
def Tups (H : Hp) (cs : List Nat) : List Nat → List V → Prop
  | [], vs => vs = []
  | k :: r, vs => ∃ p vr, vs = .ref p :: vr ∧ H p = some (.tup [.int (k : Int), .str (rt (swp cs k))]) ∧ Tups H cs r vr
theorem tups_same {H H' : Hp} {cs : List Nat} (s : Same H H') : ∀ {ks : List Nat} {vs : List V}, Tups H cs ks vs → Tups H' cs ks vs
  | [], _, h => h
  | k :: r, _, ⟨p, vr, e, h1, h2⟩ => ⟨p, vr, e, s _ _ h1, tups_same s h2⟩
theorem tups_add {H : Hp} {cs : List Nat} {k : Nat} {p : Addr} (h1 : H p = some (.tup [.int (k : Int), .str (rt (swp cs k))])) : ∀ {ks : List Nat} {vs : List V}, Tups H cs ks vs → Tups H cs (ks ++ [k]) (vs ++ [.ref p])
  | [], _, h => by
    cases h
    exact ⟨p, [], rfl, h1, rfl⟩
  | q :: r, _, ⟨p', vr, e, h2, h3⟩ => ⟨p', vr ++ [.ref p], by rw [e]; rfl, h2, tups_add h1 h3⟩
theorem tups_upd {H : Hp} {cs : List Nat} {D : Addr} {xs : List V} {o : HO} (hD : H D = some (.lst xs)) : ∀ {ks : List Nat} {vs : List V}, Tups H cs ks vs → Tups (upd H D o) cs ks vs
  | [], _, h => h
  | k :: r, _, ⟨p, vr, e, h1, h2⟩ => ⟨p, vr, e, by
      rw [upd_ne (fun z => by rw [z, hD] at h1; cases h1)]
      exact h1, tups_upd hD h2⟩
theorem tups_len {H : Hp} {cs : List Nat} : ∀ {ks : List Nat} {vs : List V}, Tups H cs ks vs → vs.length = ks.length
  | [], _, h => by
    cases h
    rfl
  | k :: r, _, ⟨p, vr, e, _, h2⟩ => by
    rw [e, List.length_cons, List.length_cons, tups_len h2]
theorem tups_dp {K : PySem.W.Frag} {H : Hp} {cs : List Nat} : ∀ {ks : List Nat} {vs : List V}, Tups H cs ks vs → DpAll K H vs (dchg cs ks)
  | [], _, h => by
    cases h
    exact .nil
  | k :: r, _, ⟨p, vr, e, h1, h2⟩ => by
    rw [e]
    exact .cons (.tup (SqT.of h1) (.cons (.int _) (.cons (.str _) .nil))) (tups_dp h2)
theorem getD_small {cs : List Nat} (h : Rg cs) (i : Nat) : cs.getD i 0 < 1114112 := by
  rw [List.getD_eq_getElem?_getD]
  cases e : cs[i]? with
  | none => show 0 < 1114112; decide
  | some c =>
    have := h.ok c (List.mem_of_getElem? e)
    simp only [List.mem_cons, List.not_mem_nil, or_false] at this
    show c < 1114112
    omega
theorem strOk_swp {cs : List Nat} (h : Rg cs) (i : Nat) : PyData.strOk (rt (swp cs i)) = true := by
  unfold PyData.strOk
  rw [← Array.all_toList, rt_list, List.all_eq_true]
  intro c hc
  refine decide_eq_true ?_
  unfold swp at hc
  rcases List.mem_or_eq_of_mem_set hc with h1 | rfl
  · rcases List.mem_or_eq_of_mem_set h1 with h2 | rfl
    · have := h.ok c h2
      simp only [List.mem_cons, List.not_mem_nil, or_false] at this
      omega
    · exact getD_small h _
  · exact getD_small h _
theorem lay_dchg {cs : List Nat} (h : Rg cs) : ∀ ks : List Nat, PyData.canLayAll0 (dchg cs ks) = true
  | [] => rfl
  | k :: r => by
    show PyData.canLayAll0 (.tuple [.int (k : Int), .str (rt (swp cs k))] :: dchg cs r) = true
    simp only [PyData.canLayAll0, lay_dchg h r, Bool.and_true, PyData.canLay0, strOk_swp h]
theorem deep_dchg (cs : List Nat) : ∀ ks : List Nat, PyData.depthAll (dchg cs ks) ≤ 1
  | [] => by show 0 ≤ 1; decide
  | k :: r => by
    show PyData.depthAll (.tuple [.int (k : Int), .str (rt (swp cs k))] :: dchg cs r) ≤ 1
    have := deep_dchg cs r
    simp only [PyData.depthAll, PyData.depth]
    omega
theorem shaped_dchg {cs : List Nat} (h : Rg cs) (ks : List Nat) : SeqAt.shaped (.list (dchg cs ks)) = true := by
  unfold SeqAt.shaped
  rw [Bool.and_eq_true]
  refine ⟨?_, decide_eq_true ?_⟩
  · simp only [PyData.canLay0, lay_dchg h]
  · have := deep_dchg cs ks
    simp only [PyData.depth]
    omega
theorem eqv_dchg {cs : List Nat} (h : Rg cs) (ks : List Nat) : PyData.eqv (.list (dchg cs ks)) (.list (dchg cs ks)) = true := PySem.SeqAt.eqv_refl _ (by simp only [PyData.canLay0, lay_dchg h])
end HopR

set_option Elab.async false
set_option linter.all false
set_option maxRecDepth 100000
namespace Hop
open PySem L2 HopR
/-! ### the upper line's beads take the nearest free bead of the lower line to the left, round the ring -/
/-- the places from p on to the left, round -/
def lef (n p : Nat) : List Nat := (List.range n).map fun t => if t ≤ p then p - t else p + n - t
def isb (cs : List Nat) (i : Nat) : Bool := decide (cs.getD i 0 = 98)
def put (n : Nat) (cs : List Nat) (p : Nat) : List Nat := match (lef n p).filter (isb cs) with
  | [] => cs
  | x :: _ => cs.set x 97
theorem put_nil {n p : Nat} {cs : List Nat} (h : (lef n p).filter (isb cs) = []) : put n cs p = cs := by
  unfold put
  rw [h]
theorem put_cons {n p x : Nat} {cs r : List Nat} (h : (lef n p).filter (isb cs) = x :: r) : put n cs p = cs.set x 97 := by
  unfold put
  rw [h]
theorem lef_len (n p : Nat) : (lef n p).length = n := by simp [lef]
theorem lef_get {n p t : Nat} (h : t < (lef n p).length) : (lef n p)[t] = if t ≤ p then p - t else p + n - t := by simp [lef]
theorem lef_rot {n p q : Nat} (hq : q ≤ p) (hp : p < n) : lef n q = (lef n p).drop (p - q) ++ (lef n p).take (p - q) := by
  refine List.ext_getElem ?_ fun t h1 h2 => ?_
  · rw [List.length_append, List.length_drop, List.length_take, lef_len, lef_len]
    omega
  · rw [lef_len] at h1
    have hd : ((lef n p).drop (p - q)).length = n - (p - q) := by rw [List.length_drop, lef_len]
    by_cases h3 : t < n - (p - q)
    · rw [lef_get, List.getElem_append_left (by rw [hd]; exact h3), List.getElem_drop, lef_get]
      split <;> split <;> omega
    · rw [lef_get, List.getElem_append_right (by rw [hd]; omega), List.getElem_take, lef_get]
      rw [hd]
      split <;> split <;> omega
theorem lef_nodup {n p : Nat} (hp : p < n) : (lef n p).Nodup := by
  unfold lef
  refine List.pairwise_map.mpr (List.Pairwise.imp_of_mem (fun {a b} ha hb hne => ?_) List.nodup_range)
  have := List.mem_range.mp ha
  have := List.mem_range.mp hb
  intro h
  apply hne
  split at h <;> split at h <;> omega
theorem mem_lef {n p i : Nat} (hp : p < n) (hi : i < n) : i ∈ lef n p := by
  unfold lef
  refine List.mem_map.mpr ⟨if i ≤ p then p - i else p + n - i, List.mem_range.mpr ?_, ?_⟩
  · split <;> omega
  · split <;> split <;> omega
theorem lef_lt {n p i : Nat} (hp : p < n) (h : i ∈ lef n p) : i < n := by
  unfold lef at h
  obtain ⟨t, ht, rfl⟩ := List.mem_map.mp h
  have := List.mem_range.mp ht
  split <;> omega
theorem isb_lt {cs : List Nat} {i : Nat} (h : isb cs i = true) : i < cs.length := by
  unfold isb at h
  have h := of_decide_eq_true h
  rw [List.getD_eq_getElem?_getD] at h
  refine Nat.lt_of_not_le fun hl => ?_
  rw [List.getElem?_eq_none hl] at h
  exact absurd h (by decide)
theorem isb_set {cs : List Nat} {x i : Nat} : isb (cs.set x 97) i = (isb cs i && decide (i ≠ x)) := by
  unfold isb
  rw [List.getD_eq_getElem?_getD, List.getD_eq_getElem?_getD, List.getElem?_set]
  by_cases h : x = i
  · subst h
    by_cases hl : x < cs.length <;> simp [hl]
  · rw [if_neg h]
    have : i ≠ x := fun z => h z.symm
    simp [this]
theorem filter_set {cs L : List Nat} {x : Nat} : L.filter (isb (cs.set x 97)) = (L.filter (isb cs)).filter (fun i => decide (i ≠ x)) := by
  rw [List.filter_filter]
  congr 1
  funext i
  rw [isb_set, Bool.and_comm]
theorem put_comm1 {n p q : Nat} (cs : List Nat) (hq : q ≤ p) (hp : p < n) : put n (put n cs p) q = put n (put n cs q) p := by
  have er := lef_rot hq hp
  have ep : lef n p = (lef n p).take (p - q) ++ (lef n p).drop (p - q) := (List.take_append_drop _ _).symm
  have nd := lef_nodup hp
  generalize (lef n p).take (p - q) = U at er ep
  generalize (lef n p).drop (p - q) = Z at er ep
  have same : (lef n p).filter (isb cs) = (lef n q).filter (isb cs) → put n (put n cs p) q = put n (put n cs q) p := fun h => by
    cases hf : (lef n p).filter (isb cs) with
    | nil => rw [put_nil hf, put_nil (h ▸ hf), put_nil hf]
    | cons x r =>
      have hf2 : (lef n q).filter (isb cs) = x :: r := h ▸ hf
      rw [put_cons hf, put_cons hf2]
      have e1 : (lef n p).filter (isb (cs.set x 97)) = (lef n q).filter (isb (cs.set x 97)) := by rw [filter_set, filter_set, h]
      cases hg : (lef n p).filter (isb (cs.set x 97)) with
      | nil => rw [put_nil hg, put_nil (e1 ▸ hg)]
      | cons y r' => rw [put_cons hg, put_cons (e1 ▸ hg)]
  have fp : (lef n p).filter (isb cs) = U.filter (isb cs) ++ Z.filter (isb cs) := by rw [ep, List.filter_append]
  have fq : (lef n q).filter (isb cs) = Z.filter (isb cs) ++ U.filter (isb cs) := by rw [er, List.filter_append]
  cases hA : U.filter (isb cs) with
  | nil =>
    rw [hA] at fp fq
    rw [List.append_nil] at fq
    exact same (fp.trans fq.symm)
  | cons x A =>
    cases hB : Z.filter (isb cs) with
    | nil =>
      rw [hB] at fp fq
      rw [List.append_nil] at fp
      exact same (fp.trans fq.symm)
    | cons y B =>
      rw [hA, hB] at fp fq
      have ne : x ≠ y := fun z => by
        have h1 : ((lef n p).filter (isb cs)).Nodup := nd.filter _
        rw [fp, z] at h1
        have := (List.nodup_cons.mp h1).1
        exact this (List.mem_append_right _ (List.mem_cons_self ..))
      have f2 : (lef n q).filter (isb (cs.set x 97)) = y :: (B ++ x :: A).filter (fun i => decide (i ≠ x)) := by
        rw [filter_set, fq]
        show ((y :: (B ++ x :: A)).filter _) = _
        rw [List.filter_cons_of_pos (by simpa using ne.symm)]
      have f3 : (lef n p).filter (isb (cs.set y 97)) = x :: (A ++ y :: B).filter (fun i => decide (i ≠ y)) := by
        rw [filter_set, fp]
        show ((x :: (A ++ y :: B)).filter _) = _
        rw [List.filter_cons_of_pos (by simpa using ne)]
      rw [put_cons (r := A ++ y :: B) fp, put_cons (r := B ++ x :: A) fq, put_cons f2, put_cons f3, List.set_comm _ _ ne]
theorem put_comm {n p q : Nat} (cs : List Nat) (hp : p < n) (hq : q < n) : put n (put n cs p) q = put n (put n cs q) p := by
  rcases Nat.le_total q p with h | h
  · exact put_comm1 cs h hp
  · exact (put_comm1 cs h hq).symm
theorem puts_perm {n : Nat} {ps qs : List Nat} (h : ps.Perm qs) (lt : ∀ p ∈ ps, p < n) (cs : List Nat) : ps.foldl (put n) cs = qs.foldl (put n) cs :=
  h.foldl_eq' (fun x hx y hy z => put_comm z (lt x hx) (lt y hy)) cs
theorem put_len (n : Nat) (cs : List Nat) (p : Nat) : (put n cs p).length = cs.length := by
  unfold put
  split
  · rfl
  · rw [List.length_set]
theorem puts_len (n : Nat) : ∀ (ps cs : List Nat), (ps.foldl (put n) cs).length = cs.length
  | [], cs => rfl
  | p :: ps, cs => by rw [List.foldl_cons, puts_len n ps, put_len]
/-- a bead is left: one is found -/
theorem put_at {n p : Nat} {cs : List Nat} (hp : p < n) (hl : cs.length = n) (h : 0 < cs.count 98) : ∃ x r, (lef n p).filter (isb cs) = x :: r ∧ x < n ∧ cs[x]? = some 98 := by
  obtain ⟨i, hi, e⟩ := List.getElem_of_mem (List.count_pos_iff.mp h)
  have hb : isb cs i = true := by
    unfold isb
    rw [List.getD_eq_getElem?_getD, List.getElem?_eq_getElem hi, e]
    rfl
  have hm : i ∈ (lef n p).filter (isb cs) := List.mem_filter.mpr ⟨mem_lef hp (hl ▸ hi), hb⟩
  cases hf : (lef n p).filter (isb cs) with
  | nil =>
    rw [hf] at hm
    cases hm
  | cons x r =>
    have hx : x ∈ (lef n p).filter (isb cs) := by
      rw [hf]
      exact List.mem_cons_self ..
    obtain ⟨h1, h2⟩ := List.mem_filter.mp hx
    have h3 := isb_lt h2
    refine ⟨x, r, rfl, hl ▸ h3, ?_⟩
    unfold isb at h2
    have h2 := of_decide_eq_true h2
    rw [List.getD_eq_getElem?_getD, List.getElem?_eq_getElem h3] at h2
    rw [List.getElem?_eq_getElem h3, show cs[x] = 98 from h2]
end Hop

set_option Elab.async false
set_option linter.all false
set_option maxRecDepth 100000
namespace HopR
open PySem PySem.Spec PyProof.Rows L2
/-! ### tests and statements where a token is out -/
def PTT (X : Cx) (c : Expr) (t : TT) : Prop :=
  ∀ (pins : List (Addr × Obj)) (s : Shared) (σ : L2.St) (H : Hp) (Q : Bool → Hp → Prop), 1 ≤ s.toks → Inv X pins σ H s → t σ H Q → wpAny (model X.prog X.w) X.A (isTrue c X.env (eval c X.env)) (TP X pins σ Q) X.xe s
/-- an expression behind which a token is out -/
def PE1 (X : Cx) (e : Expr) (t : TE) : Prop :=
  ∀ (pins : List (Addr × Obj)) (s : Shared) (σ : L2.St) (H : Hp) (Q : VK), Inv X pins σ H s → t σ H Q → wpAny (model X.prog X.w) X.A (eval e X.env) (fun v s' => 1 ≤ s'.toks ∧ EP X pins σ Q v s') X.xe s
section
variable {X : Cx} {a b e : Expr} {ta tb te : TE} {tA tB' : TT} {rest : List Expr} {pos : Pos}
theorem PTT.of (h : PT X a tA) : PTT X a tA := fun pins s σ H Q _ I q => h.run pins s σ H Q I q
theorem ptt_cmp {op : CmpOp} {r : R2} (ho : OpR X (compareOp op) r) (ha : PET X a ta) (hb : PET X b tb) (hm : behindInMarks op b = false) : PTT X (.Compare a [op] [b] pos) (tTest (tOp r ta tb)) := by
  intro pins s σ H Q h0 I h
  refine wpAny_isTrue_Compare1 (wpAny_mono (PySem.wpAny_toks (ha pins s σ H _ h0 I h)) (fun v s1 q => ?_) fun _ _ z => z.2) hm
  obtain ⟨hk, x, H1, I1, r1, q1⟩ := q
  exact thn (hb pins s1 σ H1 _ (Nat.le_trans h0 hk) I1 q1) fun u s2 ⟨y, H2, I2, r2, q2⟩ => thn (ho pins s2 σ H2 x y v u _ I2 r1 r2 q2) fun c s3 ⟨z, H3, I3, r3, k, e, q3⟩ => by
    subst e
    cases r3
    exact wpAny_truthy_bool ⟨H3, I3, q3⟩
theorem ptt_or (ha : PTT X a tA) (hb : PW X (.BoolOp .Or (b :: rest) pos) tB') : PTT X (.BoolOp .Or (a :: b :: rest) pos) (tOr tA tB') := by
  intro pins s σ H Q h0 I h
  refine isTrue_or (thn (ha pins s σ H _ h0 I h) fun c s1 ⟨H1, I1, q1⟩ => ?_)
  cases c with
  | false => exact hb.run _ pins s1 σ H1 Q I1 q1
  | true => exact ⟨H1, I1, q1⟩
theorem pst_ifT {c : Expr} {a b : List Stmt} {tc : TT} {t u : TS} (hc : PTT X c tc) (ha : PSsT X a t) (hb : PSsT X b u) : PST X (.If c a b pos) (tIfS tc t u) := by
  intro pins s σ H D h0 I h
  refine wpAny_If (wpAny_mono (PySem.wpAny_toks (hc pins s σ H _ h0 I h)) (fun d s1 q => ?_) fun _ _ z => z.2)
  obtain ⟨hk, H1, I1, q1⟩ := q
  have h1 := Nat.le_trans h0 hk
  cases d with
  | false => exact hb pins s1 σ H1 D h1 I1 q1
  | true => exact ha pins s1 σ H1 D h1 I1 q1
theorem pst_set {i : Nat} {x : Str} {pos' : Pos} (hN : X.N.Nodup) (hi : X.N[i]? = some x) (hx : Loc X.env.scope x) (he : PET X e te) (hs : swapsWith e (some (.Name x pos')) pos.line X.env = pure false := by rfl) (hf : X.fn x = true ∨ X.env.scope.names.lookup x = some .local := by first | exact .inl rfl | exact .inr rfl | assumption) :
    PST X (.Assign [.Name x pos'] e pos) (tAsg te (gName i)) := by
  intro pins s σ H D h0 I h
  exact wpAny_Assign_Name (thn (he pins s σ H _ h0 I h) fun v s1 ⟨y, H1, I1, r1, q1⟩ => store_ok I1 hN hi hx r1 (fun s2 I2 => ⟨_, H1, I2, q1⟩) hf) hs
theorem pet_callTy {T : String} {r : List V → Hp → VK → Prop} {x : Str} {es : List Expr} {t : TA} {p : Pos} (hc : CallR X (.type T) r) (hg : Gl X x) (hm : X.mg x = none) (hv : bootBuiltins x = some (.type T)) (ha : PAT X (e :: es) t) (hn : x ≠ "__name__" := by decide) (hdb : (x == ("__debug__" : Str)) = false := by decide)
    (he : starEach (e :: es) X.env = (false, eval e X.env) :: starEach es X.env := by rfl) (hpl : (backTo pos (starEach es X.env)).any (·.1) = false := by rfl) : PET X (.Call (.Name x p) (e :: es) [] pos) (tCB r t) := by
  intro pins s σ H Q h0 I h
  refine wpAny_Call_Name_kw (ld_blt I hg hm hv (PyProof.Rows.callWith_type1 ?_ he hpl) hn hdb)
  exact thn (ha pos pins s σ H _ h0 I h) fun us s1 ⟨vs, H1, I1, r1, q1⟩ => hc pins s1 σ H1 vs us Q I1 r1 q1
theorem pe1_int {i : Int} {j : Nat} : PE1 X (.Constant (.int i) j pos) (tC (.int i)) := fun _ s _ H _ I h => wpAny_Constant_int ⟨by show 1 ≤ s.toks + 1; omega, .int i, H, I.tok _, ⟨_, rfl⟩, h⟩
theorem pe1_opr {op : Operator} {r : R2} (ho : OpR X (binaryOp op) r) (ha : PE X a ta) (hb : PE1 X b tb) : PE1 X (.BinOp a op b pos) (tOp r ta tb) := by
  intro pins s σ H Q I h
  refine wpAny_BinOp (thn (ha.run pins s σ H _ I h) fun v s1 ⟨x, H1, I1, r1, q1⟩ => thn (hb pins s1 σ H1 _ I1 q1) fun u s2 ⟨h2, y, H2, I2, r2, q2⟩ => ?_)
  exact wpAny_mono (PySem.wpAny_toks (ho pins s2 σ H2 x y v u Q I2 r1 r2 q2)) (fun _ _ z => ⟨Nat.le_trans h2 z.1, z.2⟩) fun _ _ z => z.2
theorem pe1_opl {op : Operator} {r : R2} (ho : OpR X (binaryOp op) r) (ha : PE1 X a ta) (hb : PE X b tb) : PE1 X (.BinOp a op b pos) (tOp r ta tb) := by
  intro pins s σ H Q I h
  refine wpAny_BinOp (thn (ha pins s σ H _ I h) fun v s1 ⟨h1, x, H1, I1, r1, q1⟩ => wpAny_mono (PySem.wpAny_toks (hb.run pins s1 σ H1 _ I1 q1)) (fun u s2 z => ?_) fun _ _ z => z.2)
  obtain ⟨h2, y, H2, I2, r2, q2⟩ := z
  exact wpAny_mono (PySem.wpAny_toks (ho pins s2 σ H2 x y v u Q I2 r1 r2 q2)) (fun _ _ z => ⟨Nat.le_trans (Nat.le_trans h1 h2) z.1, z.2⟩) fun _ _ z => z.2
/-- name = value, and behind it a token is out -/
theorem pss_setT {i : Nat} {x : Str} {pos' : Pos} {rest : List Stmt} {u : TS} (hN : X.N.Nodup) (hi : X.N[i]? = some x) (hx : Loc X.env.scope x) (he : PE1 X e te) (hr : PSsT X rest u) (hs : swapsWith e (some (.Name x pos')) pos.line X.env = pure false := by rfl) (hf : X.fn x = true ∨ X.env.scope.names.lookup x = some .local := by first | exact .inl rfl | exact .inr rfl | assumption) :
    PSs X (.Assign [.Name x pos'] e pos :: rest) (tSeq (tAsg te (gName i)) u) := by
  refine ⟨fun pins s σ H D I h => ?_⟩
  refine wpAny_execs_cons (wpAny_Assign_Name (thn (he pins s σ H _ I h) fun v s1 ⟨h1, y, H1, I1, r1, q1⟩ => ?_) hs)
  refine wpAny_mono (PySem.wpAny_toks (store_ok (Q := fun _ s2 => Inv X pins (σ.set i (some y)) H1 s2) I1 hN hi hx r1 (fun s2 I2 => I2) hf)) (fun _ s2 z => ?_) fun _ _ z => z.2
  exact hr pins s2 _ H1 D (Nat.le_trans h1 z.1) z.2 q1
end
end HopR

set_option Elab.async false
set_option linter.all false
set_option maxRecDepth 100000
namespace Hop
open PySem L2 HopR
theorem count_put {x c : Nat} {cs : List Nat} (hx : cs[x]? = some 98) : (cs.set x 97).count c = cs.count c - (if c = 98 then 1 else 0) + (if c = 97 then 1 else 0) := by
  obtain ⟨hl, e⟩ := List.getElem?_eq_some_iff.mp hx
  rw [List.count_set hl, e]
  simp only [beq_iff_eq]
  congr 1
  · congr 1
    by_cases h : c = 98 <;> simp [h, eq_comm]
  · by_cases h : c = 97 <;> simp [h, eq_comm]
/-- all beads of the upper line find one -/
theorem puts_count {n : Nat} : ∀ (ps cs : List Nat), cs.length = n → (∀ p ∈ ps, p < n) → ps.length ≤ cs.count 98 → (ps.foldl (put n) cs).count 98 = cs.count 98 - ps.length ∧ (ps.foldl (put n) cs).count 97 = cs.count 97 + ps.length
  | [], cs, _, _, _ => ⟨rfl, rfl⟩
  | p :: ps, cs, hl, lt, hc => by
    rw [List.length_cons] at hc
    obtain ⟨x, r, hf, hx, hcx⟩ := put_at (lt p (List.mem_cons_self ..)) hl (by omega)
    have e := put_cons hf
    have c8 : (put n cs p).count 98 = cs.count 98 - 1 := by rw [e, count_put hcx]; rfl
    have c7 : (put n cs p).count 97 = cs.count 97 + 1 := by rw [e, count_put hcx]; rfl
    obtain ⟨i1, i2⟩ := puts_count ps (put n cs p) (by rw [put_len]; exact hl) (fun q hq => lt q (List.mem_cons_of_mem _ hq)) (by omega)
    rw [List.foldl_cons, i1, i2, c8, c7, List.length_cons]
    omega
/-- whether a bead stands there -/
def lowc (c : Nat) : Nat := if c = 97 ∨ c = 98 then 111 else c
theorem put_low {n p : Nat} {cs : List Nat} : (put n cs p).map lowc = cs.map lowc := by
  cases hf : (lef n p).filter (isb cs) with
  | nil => rw [put_nil hf]
  | cons x r =>
    rw [put_cons hf]
    have hx : isb cs x = true := (List.mem_filter.mp (show x ∈ (lef n p).filter (isb cs) by rw [hf]; exact List.mem_cons_self ..)).2
    have hl := isb_lt hx
    unfold isb at hx
    have hx := of_decide_eq_true hx
    rw [List.getD_eq_getElem?_getD, List.getElem?_eq_getElem hl] at hx
    rw [List.map_set]
    refine List.ext_getElem? fun i => ?_
    rw [List.getElem?_set]
    split
    · rename_i h
      subst h
      rw [List.length_map, if_pos hl, List.getElem?_map, List.getElem?_eq_getElem hl]
      show some (lowc 97) = some (lowc cs[x])
      rw [show cs[x] = 98 from hx]
      rfl
    · rfl
theorem puts_low {n : Nat} : ∀ (ps cs : List Nat), (ps.foldl (put n) cs).map lowc = cs.map lowc
  | [], _ => rfl
  | p :: ps, cs => by rw [List.foldl_cons, puts_low ps, put_low]
theorem put_ok {n p : Nat} {cs : List Nat} (h : ∀ c ∈ cs, c ∈ [97, 98, 46]) : ∀ c ∈ put n cs p, c ∈ [97, 98, 46] := by
  cases hf : (lef n p).filter (isb cs) with
  | nil => rw [put_nil hf]; exact h
  | cons x r =>
    rw [put_cons hf]
    intro c hc
    rcases List.mem_or_eq_of_mem_set hc with hc | rfl
    · exact h c hc
    · exact List.mem_cons_self ..
theorem puts_ok {n : Nat} : ∀ (ps cs : List Nat), (∀ c ∈ cs, c ∈ [97, 98, 46]) → ∀ c ∈ ps.foldl (put n) cs, c ∈ [97, 98, 46]
  | [], _, h => h
  | p :: ps, cs, h => puts_ok ps _ (put_ok h)
/-! ### turned round -/
def rot {α : Type} (k : Nat) (xs : List α) : List α := xs.drop k ++ xs.take k
def sh (n k p : Nat) : Nat := if k ≤ p then p - k else p + n - k
theorem rot_len {α : Type} {k : Nat} {xs : List α} (h : k ≤ xs.length) : (rot k xs).length = xs.length := by
  unfold rot
  rw [List.length_append, List.length_drop, List.length_take]
  omega
theorem rot_get {α : Type} {n k i : Nat} {xs : List α} (hl : xs.length = n) (hk : k ≤ n) (hi : i < n) : (rot k xs)[sh n k i]? = xs[i]? := by
  unfold rot sh
  split
  · rw [List.getElem?_append_left (by rw [List.length_drop]; omega), List.getElem?_drop]
    congr 1
    omega
  · rw [List.getElem?_append_right (by rw [List.length_drop]; omega), List.length_drop, List.getElem?_take]
    rw [if_pos (by omega)]
    congr 1
    omega
theorem sh_lt {n k i : Nat} (hk : k ≤ n) (hi : i < n) : sh n k i < n := by
  unfold sh
  split <;> omega
theorem lef_sh {n k p : Nat} (hk : k ≤ n) (hp : p < n) : lef n (sh n k p) = (lef n p).map (sh n k) := by
  unfold lef
  rw [List.map_map]
  refine List.map_congr_left fun t ht => ?_
  have := List.mem_range.mp ht
  show (if t ≤ sh n k p then sh n k p - t else sh n k p + n - t) = sh n k (if t ≤ p then p - t else p + n - t)
  unfold sh
  repeat' split
  all_goals omega
theorem rot_set {n k x v : Nat} {cs : List Nat} (hl : cs.length = n) (hk : k ≤ n) (hx : x < n) : (rot k cs).set (sh n k x) v = rot k (cs.set x v) := by
  unfold rot sh
  rw [List.drop_set, List.take_set]
  split
  · rename_i h
    rw [List.set_append_left _ _ (by rw [List.length_drop]; omega), if_neg (by omega), List.set_eq_of_length_le (l := cs.take k) (by rw [List.length_take]; omega)]
  · rename_i h
    rw [List.set_append_right _ _ (by rw [List.length_drop]; omega), if_pos (by omega), List.length_drop]
    congr 2
    omega
theorem put_rot {n k p : Nat} {cs : List Nat} (hl : cs.length = n) (hk : k ≤ n) (hp : p < n) : put n (rot k cs) (sh n k p) = rot k (put n cs p) := by
  have e : (lef n (sh n k p)).filter (isb (rot k cs)) = ((lef n p).filter (isb cs)).map (sh n k) := by
    rw [lef_sh hk hp, List.filter_map]
    congr 1
    refine List.filter_congr fun i hi => ?_
    have := lef_lt hp hi
    show isb (rot k cs) (sh n k i) = isb cs i
    unfold isb
    rw [List.getD_eq_getElem?_getD, List.getD_eq_getElem?_getD, rot_get hl hk this]
  cases hf : (lef n p).filter (isb cs) with
  | nil =>
    rw [hf] at e
    rw [put_nil hf, put_nil e]
  | cons x r =>
    rw [hf] at e
    have hx := lef_lt hp (List.mem_filter.mp (show x ∈ (lef n p).filter (isb cs) by rw [hf]; exact List.mem_cons_self ..)).1
    rw [put_cons hf, put_cons e, rot_set hl hk hx]
theorem puts_rot {n k : Nat} (hk : k ≤ n) : ∀ (ps cs : List Nat), cs.length = n → (∀ p ∈ ps, p < n) → (ps.map (sh n k)).foldl (put n) (rot k cs) = rot k (ps.foldl (put n) cs)
  | [], _, _, _ => rfl
  | p :: ps, cs, hl, lt => by
    rw [List.map_cons, List.foldl_cons, List.foldl_cons, put_rot hl hk (lt p (List.mem_cons_self ..)), puts_rot hk ps _ (by rw [put_len]; exact hl) fun q hq => lt q (List.mem_cons_of_mem _ hq)]
/-! ### lines -/
def bds (hi : List Bool) : List Nat := (List.range hi.length).filter fun i => hi.getD i false
def lob (lo : List Bool) : List Nat := lo.map fun b => if b then 98 else 46
def rg (hi lo : List Bool) : List Nat := (bds hi).foldl (put hi.length) (lob lo)
theorem bds_lt {hi : List Bool} : ∀ p ∈ bds hi, p < hi.length := fun p hp => List.mem_range.mp (List.mem_filter.mp hp).1
theorem lob_rot (k : Nat) (lo : List Bool) : lob (rot k lo) = rot k (lob lo) := by
  unfold lob rot
  rw [List.map_append, List.map_drop, List.map_take]
theorem bds_rot {n k : Nat} {hi : List Bool} (hl : hi.length = n) (hk : k ≤ n) : (bds (rot k hi)).Perm ((bds hi).map (sh n k)) := by
  have r1 : List.range n = List.range (n - k) ++ (List.range k).map (fun i => (n - k) + i) := by
    conv => lhs; rw [show n = (n - k) + k by omega]
    exact List.range_add
  have r2 : List.range n = List.range k ++ (List.range (n - k)).map (fun i => k + i) := by
    conv => lhs; rw [show n = k + (n - k) by omega]
    exact List.range_add
  have e1 : bds (rot k hi) = ((List.range (n - k)).filter fun i => hi.getD (k + i) false) ++ ((List.range k).filter fun i => hi.getD i false).map (fun i => (n - k) + i) := by
    unfold bds
    rw [rot_len (by omega), hl, r1, List.filter_append, List.filter_map]
    congr 1
    · refine List.filter_congr fun i hi' => ?_
      have := List.mem_range.mp hi'
      rw [List.getD_eq_getElem?_getD, List.getD_eq_getElem?_getD]
      have := rot_get (k := k) (i := k + i) hl hk (by omega)
      rw [show sh n k (k + i) = i by unfold sh; rw [if_pos (by omega)]; omega] at this
      rw [this]
    · congr 1
      refine List.filter_congr fun i hi' => ?_
      have := List.mem_range.mp hi'
      show (rot k hi).getD (n - k + i) false = hi.getD i false
      rw [List.getD_eq_getElem?_getD, List.getD_eq_getElem?_getD]
      have := rot_get (k := k) (i := i) hl hk (by omega)
      rw [show sh n k i = n - k + i by unfold sh; rw [if_neg (by omega)]; omega] at this
      rw [this]
  have e2 : (bds hi).map (sh n k) = ((List.range k).filter fun i => hi.getD i false).map (fun i => (n - k) + i) ++ ((List.range (n - k)).filter fun i => hi.getD (k + i) false) := by
    unfold bds
    rw [hl, r2, List.filter_append, List.filter_map, List.map_append, List.map_map]
    congr 1
    · refine List.map_congr_left fun i hi' => ?_
      have := List.mem_range.mp (List.mem_filter.mp hi').1
      unfold sh
      rw [if_neg (by omega)]
      omega
    · refine Eq.trans (List.map_congr_left (g := id) fun i hi' => ?_) (List.map_id _)
      show sh n k (k + i) = i
      unfold sh
      rw [if_pos (by omega)]
      omega
  rw [e1, e2]
  exact List.perm_append_comm
theorem rg_rot {n k : Nat} {hi lo : List Bool} (h1 : hi.length = n) (h2 : lo.length = n) (hk : k ≤ n) : rg (rot k hi) (rot k lo) = rot k (rg hi lo) := by
  have hl : (lob lo).length = n := by unfold lob; rw [List.length_map, h2]
  unfold rg
  rw [rot_len (by omega), h1, lob_rot, ← puts_rot hk (bds hi) (lob lo) hl (fun p hp => h1 ▸ bds_lt p hp)]
  exact puts_perm (bds_rot h1 hk) (fun p hp => by have := bds_lt p hp; rw [rot_len (by omega), h1] at this; exact this) _
end Hop

set_option Elab.async false
set_option linter.all false
set_option maxRecDepth 100000
namespace Hop
open PySem L2 HopR
theorem repl_one (y z : Nat) : ∀ cs : List Nat, PySem.StrLaws.replL [y] [z] cs = cs.map fun c => if c = y then z else c
  | [] => PySem.StrLaws.replL_nil
  | c :: r => by
    by_cases h : c = y
    · subst h
      rw [PySem.StrLaws.replL_hit (by simp) rfl, List.map_cons, if_pos rfl]
      show [z] ++ PySem.StrLaws.replL [c] [z] r = _
      rw [repl_one]
      rfl
    · rw [PySem.StrLaws.replL_miss (y := [y]) (c := c) (r := r) (fun q => h (by simpa using q)), repl_one, List.map_cons, if_neg h]
theorem replace_rt (cs : List Nat) (y z : Nat) : PySem.Txt.replace (rt cs) (one y) (one z) = rt (cs.map fun c => if c = y then z else c) := by
  refine ext_str ?_
  rw [PySem.StrLaws.replace_list (by show 1 ≤ 1; decide), rt_list, rt_list]
  exact repl_one y z cs
theorem count_rt (cs : List Nat) (c : Nat) : PySem.Txt.count (rt cs) (one c) = ((cs.count c : Nat) : Int) := by
  have e : PySem.Txt.count (rt cs) ⟨#[c]⟩ = PyProof.Rows.cnt c (rt cs).cps.toList := PyProof.Rows.count_is (rt cs) c
  show PySem.Txt.count (rt cs) ⟨#[c]⟩ = _
  rw [e, rt_list]
  clear e
  induction cs with
  | nil => rfl
  | cons b r ih =>
    rw [PyProof.Rows.cnt_cons, ih]
    by_cases h : b = c
    · subst h
      rw [List.count_cons_self, if_pos rfl]
      omega
    · rw [List.count_cons_of_ne h, if_neg h]
      omega
theorem tx_rt (bs : List Bool) : tx bs = rt (bs.map cd) := ext_str (by rw [tx_list, rt_list])
theorem sgn_o : ("o" : Str) = one 111 := by decide +kernel
theorem sgn_f : ("." : Str) = one 46 := by decide +kernel
theorem sgn_a : ("a" : Str) = one 97 := by decide +kernel
theorem sgn_b : ("b" : Str) = one 98 := by decide +kernel
def nb (bs : List Bool) : Nat := bs.count true
theorem count_tx (bs : List Bool) : PySem.Txt.count (tx bs) "o" = ((nb bs : Nat) : Int) := by
  rw [tx_rt, sgn_o, count_rt]
  congr 1
  unfold nb
  induction bs with
  | nil => rfl
  | cons b r ih =>
    rw [List.map_cons]
    cases b with
    | true => rw [List.count_cons_self, ← ih]; exact List.count_cons_self
    | false =>
      have e1 : (cd false :: r.map cd).count 111 = (r.map cd).count 111 := List.count_cons_of_ne (by decide)
      have e2 : (false :: r).count true = r.count true := List.count_cons_of_ne (by decide)
      rw [e1, e2, ih]
theorem lob_tx (lo : List Bool) : PySem.Txt.replace (tx lo) "o" "b" = rt (lob lo) := by
  rw [tx_rt, sgn_o, sgn_b, replace_rt, List.map_map]
  congr 1
  exact List.map_congr_left fun b _ => by cases b <;> rfl
theorem loa_tx (lo : List Bool) : PySem.Txt.replace (tx lo) "o" "a" = rt (lo.map fun b => if b then 97 else 46) := by
  rw [tx_rt, sgn_o, sgn_a, replace_rt, List.map_map]
  congr 1
  exact List.map_congr_left fun b _ => by cases b <;> rfl
theorem lob_count (lo : List Bool) : (lob lo).count 98 = nb lo ∧ (lob lo).count 97 = 0 := by
  unfold lob nb
  induction lo with
  | nil => exact ⟨rfl, rfl⟩
  | cons b r ih =>
    rw [List.map_cons]
    cases b with
    | true => exact ⟨by show (98 :: _).count 98 = _; rw [List.count_cons_self, ih.1, List.count_cons_self], by show (98 :: _).count 97 = _; rw [List.count_cons_of_ne (by decide)]; exact ih.2⟩
    | false => exact ⟨by show (46 :: _).count 98 = _; rw [List.count_cons_of_ne (by decide), ih.1, List.count_cons_of_ne (by decide)], by show (46 :: _).count 97 = _; rw [List.count_cons_of_ne (by decide)]; exact ih.2⟩
theorem bds_len (hi : List Bool) : (bds hi).length = nb hi := by
  unfold bds nb
  rw [← List.countP_eq_length_filter]
  have h : hi = (List.range hi.length).map (fun i => hi.getD i false) := by
    refine List.ext_getElem (by simp) fun i h1 h2 => ?_
    simp [h1]
  conv => rhs; rw [h]
  rw [List.count_eq_countP, List.countP_map]
  refine List.countP_congr fun i _ => ?_
  simp
theorem lob_len (lo : List Bool) : (lob lo).length = lo.length := by unfold lob; rw [List.length_map]
theorem lob_ok (lo : List Bool) : ∀ c ∈ lob lo, c ∈ [97, 98, 46] := fun c hc => by
  unfold lob at hc
  obtain ⟨b, _, rfl⟩ := List.mem_map.mp hc
  cases b <;> decide
section
variable {hi lo : List Bool}
theorem rg_len : (rg hi lo).length = lo.length := by
  unfold rg
  rw [puts_len, lob_len]
theorem rg_ring (h2 : 2 ≤ lo.length) (h12 : lo.length ≤ 12) : Rg (rg hi lo) := ⟨by rw [rg_len]; exact h2, by rw [rg_len]; exact h12, puts_ok _ _ (lob_ok lo)⟩
theorem rg_low : (rg hi lo).map lowc = lo.map cd := by
  unfold rg
  rw [puts_low]
  unfold lob
  rw [List.map_map]
  exact List.map_congr_left fun b _ => by cases b <;> rfl
theorem rg_back : PySem.Txt.replace (PySem.Txt.replace (rt (rg hi lo)) "a" "o") "b" "o" = tx lo := by
  rw [sgn_a, sgn_b, sgn_o, replace_rt, replace_rt, tx_rt, ← rg_low (hi := hi), List.map_map]
  congr 1
  refine List.map_congr_left fun c _ => ?_
  show (if (if c = 97 then 111 else c) = 98 then 111 else if c = 97 then 111 else c) = lowc c
  unfold lowc
  repeat' split
  all_goals omega
theorem rg_count (hl : hi.length = lo.length) (hb : nb hi ≤ nb lo) : (rg hi lo).count 98 = nb lo - nb hi ∧ (rg hi lo).count 97 = nb hi := by
  obtain ⟨c8, c7⟩ := lob_count lo
  obtain ⟨h1, h2⟩ := puts_count (n := hi.length) (bds hi) (lob lo) (by rw [lob_len, hl]) bds_lt (by rw [bds_len, c8]; exact hb)
  unfold rg
  rw [h1, h2, c8, c7, bds_len]
  exact ⟨rfl, Nat.zero_add _⟩
theorem rg_self : rg lo lo = lo.map fun b => if b then 97 else 46 := by
  have hc := (rg_count (hi := lo) (lo := lo) rfl (Nat.le_refl _)).1
  rw [Nat.sub_self] at hc
  have hn : 98 ∉ rg lo lo := List.count_eq_zero.mp hc
  have hm := rg_low (hi := lo) (lo := lo)
  have ok : ∀ c ∈ rg lo lo, c ∈ [97, 98, 46] := puts_ok _ _ (lob_ok lo)
  refine List.ext_getElem (by rw [rg_len, List.length_map]) fun i h1 h2 => ?_
  rw [List.length_map] at h2
  have hg : lowc (rg lo lo)[i] = cd lo[i] := by
    have := congrArg (fun l => l[i]?) hm
    rw [List.getElem?_map, List.getElem?_map, List.getElem?_eq_getElem h1, List.getElem?_eq_getElem h2] at this
    exact Option.some.inj this
  have h3 : (rg lo lo)[i] ≠ 98 := fun z => hn (z ▸ List.getElem_mem h1)
  have h4 := ok _ (List.getElem_mem h1)
  rw [List.getElem_map]
  generalize (rg lo lo)[i] = c at *
  simp only [List.mem_cons, List.not_mem_nil, or_false] at h4
  rcases h4 with rfl | rfl | rfl
  · cases hb : lo[i] with
    | true => rfl
    | false => rw [hb] at hg; exact absurd hg (by decide)
  · exact absurd rfl h3
  · cases hb : lo[i] with
    | true => rw [hb] at hg; exact absurd hg (by decide)
    | false => rfl
end
end Hop

set_option Elab.async false
set_option linter.all false
set_option maxRecDepth 100000
namespace Hop
open PySem L2 HopR
/-! ### how many upper lines come to a ring: a scan from the right -/
/-- the ring so far and how many upper beads wait, from the right on -/
def sc : List Bool → List Bool → List Nat × Nat
  | u :: us, l :: ls =>
    let r := sc us ls
    let k := r.2 + u.toNat
    if l then (if k = 0 then (98 :: r.1, 0) else (97 :: r.1, k - 1)) else (46 :: r.1, k)
  | _, _ => ([], 0)
theorem sc_nil (us : List Bool) : sc us [] = ([], 0) := by cases us <;> rfl
theorem sc_cons (u l : Bool) (us ls : List Bool) : sc (u :: us) (l :: ls) = if l then (if (sc us ls).2 + u.toNat = 0 then (98 :: (sc us ls).1, 0) else (97 :: (sc us ls).1, (sc us ls).2 + u.toNat - 1)) else (46 :: (sc us ls).1, (sc us ls).2 + u.toNat) := rfl
/-- a line read from the right, its first k beads taken -/
def mkR : Nat → List Bool → List Nat
  | _, [] => []
  | k, false :: R => 46 :: mkR k R
  | 0, true :: R => 98 :: mkR 0 R
  | k + 1, true :: R => 97 :: mkR k R
theorem mkR_len : ∀ (R : List Bool) (k : Nat), (mkR k R).length = R.length
  | [], _ => rfl
  | false :: R, k => by
    show (mkR k R).length + 1 = R.length + 1
    rw [mkR_len R]
  | true :: R, 0 => by
    show (mkR 0 R).length + 1 = R.length + 1
    rw [mkR_len R]
  | true :: R, k + 1 => by
    show (mkR k R).length + 1 = R.length + 1
    rw [mkR_len R]
theorem mkR_0 : ∀ R : List Bool, mkR 0 R = lob R
  | [] => rfl
  | false :: R => by
    show 46 :: mkR 0 R = 46 :: lob R
    rw [mkR_0 R]
  | true :: R => by
    show 98 :: mkR 0 R = 98 :: lob R
    rw [mkR_0 R]
theorem nb_cons (b : Bool) (R : List Bool) : nb (b :: R) = nb R + b.toNat := by
  unfold nb
  cases b with
  | true => rw [List.count_cons_self]; rfl
  | false => rw [List.count_cons_of_ne (by decide)]; rfl
theorem nb_rev (R : List Bool) : nb R.reverse = nb R := by
  unfold nb
  rw [List.count_reverse]
/-- the next bead that is free -/
theorem mkR_next : ∀ (R : List Bool) (k : Nat), k < nb R → ∃ t : Nat, t < R.length ∧ (mkR k R)[t]? = some 98 ∧ (∀ j : Nat, j < t → (mkR k R)[j]? ≠ some 98) ∧ (mkR k R).set t 97 = mkR (k + 1) R
  | [], k, h => absurd h (Nat.not_lt_zero _)
  | false :: R, k, h => by
    rw [nb_cons] at h
    obtain ⟨t, h1, h2, h3, h4⟩ := mkR_next R k h
    refine ⟨t + 1, Nat.succ_lt_succ h1, h2, fun j hj => ?_, ?_⟩
    · cases j with
      | zero => exact fun z => absurd (Option.some.inj z) (by decide)
      | succ j => exact h3 j (by omega)
    · show 46 :: (mkR k R).set t 97 = 46 :: mkR (k + 1) R
      rw [h4]
  | true :: R, 0, h => ⟨0, Nat.succ_pos _, rfl, fun j hj => absurd hj (Nat.not_lt_zero _), rfl⟩
  | true :: R, k + 1, h => by
    rw [nb_cons] at h
    obtain ⟨t, h1, h2, h3, h4⟩ := mkR_next R k (by simp only [Bool.toNat_true] at h; omega)
    refine ⟨t + 1, Nat.succ_lt_succ h1, h2, fun j hj => ?_, ?_⟩
    · cases j with
      | zero => exact fun z => absurd (Option.some.inj z) (by decide)
      | succ j => exact h3 j (by omega)
    · show 97 :: (mkR k R).set t 97 = 97 :: mkR (k + 1) R
      rw [h4]
theorem head_of {f : Nat → Bool} : ∀ {L : List Nat} {x t : Nat}, L[t]? = some x → f x = true → (∀ j : Nat, j < t → ∀ y, L[j]? = some y → f y = false) → ∃ r, L.filter f = x :: r
  | [], x, t, h, _, _ => by simp at h
  | a :: L, x, 0, h, hx, _ => by
    obtain rfl : a = x := Option.some.inj h
    exact ⟨_, List.filter_cons_of_pos hx⟩
  | a :: L, x, t + 1, h, hx, hj => by
    have ha := hj 0 (Nat.succ_pos _) a rfl
    obtain ⟨r, e⟩ := head_of (L := L) (x := x) (t := t) h hx fun j hjt y hy => hj (j + 1) (by omega) y hy
    exact ⟨r, by rw [List.filter_cons_of_neg (by rw [ha]; decide)]; exact e⟩
/-- the bead at the right end of what is not yet scanned -/
theorem put_mk {n : Nat} {R : List Bool} {S : List Nat} {k p : Nat} (hp : R.length = p + 1) (hn : R.length + S.length = n) (hk : k < nb R) : put n ((mkR k R).reverse ++ S) p = (mkR (k + 1) R).reverse ++ S := by
  obtain ⟨t, h1, h2, h3, h4⟩ := mkR_next R k hk
  have hl : (mkR k R).length = p + 1 := by rw [mkR_len]; exact hp
  have ge : ∀ j : Nat, j ≤ p → ((mkR k R).reverse ++ S)[p - j]? = (mkR k R)[j]? := fun j hj => by
    rw [List.getElem?_append_left (by rw [List.length_reverse]; omega), List.getElem?_reverse (by omega)]
    congr 1
    omega
  have lg : ∀ j : Nat, j ≤ p → (lef n p)[j]? = some (p - j) := fun j hj => by
    rw [List.getElem?_eq_getElem (by rw [lef_len]; omega), lef_get, if_pos hj]
  have isv : ∀ j : Nat, j ≤ p → (isb ((mkR k R).reverse ++ S) (p - j) = true ↔ (mkR k R)[j]? = some 98) := fun j hj => by
    unfold isb
    rw [decide_eq_true_iff, List.getD_eq_getElem?_getD, ge j hj]
    cases h : (mkR k R)[j]? with
    | none =>
      have := List.getElem?_eq_none_iff.mp h
      omega
    | some v => simp
  obtain ⟨r, e⟩ := head_of (f := isb ((mkR k R).reverse ++ S)) (lg t (by omega)) ((isv t (by omega)).mpr h2) fun j hj y hy => by
    rw [lg j (by omega)] at hy
    obtain rfl := Option.some.inj hy
    cases hb : isb ((mkR k R).reverse ++ S) (p - j) with
    | false => rfl
    | true => exact absurd ((isv j (by omega)).mp hb) (h3 j hj)
  rw [put_cons e, List.set_append_left _ _ (by rw [List.length_reverse]; omega), ← h4]
  congr 1
  refine List.ext_getElem? fun i => ?_
  by_cases hi : i < p + 1
  · rw [List.getElem?_set, List.getElem?_reverse (by omega), List.getElem?_reverse (by rw [List.length_set]; omega), List.length_set, List.getElem?_set, List.length_reverse, hl]
    by_cases hx : p - t = i
    · rw [if_pos hx, if_pos (by omega), if_pos (by omega), if_pos (by omega)]
    · rw [if_neg hx, if_neg (by omega)]
  · rw [List.getElem?_eq_none (by rw [List.length_set, List.length_reverse]; omega), List.getElem?_eq_none (by rw [List.length_reverse, List.length_set]; omega)]
/-- the beads from place i on -/
def bfr (us : List Bool) (i : Nat) : List Nat := (List.range (us.length - i)).map fun j => i + j
def bdf (us : List Bool) (i : Nat) : List Nat := (bfr us i).filter fun j => us.getD j false
theorem bdf_step {us : List Bool} {i : Nat} (h : i < us.length) : bdf us i = (if us[i] then [i] else []) ++ bdf us (i + 1) := by
  have e : bfr us i = i :: bfr us (i + 1) := by
    unfold bfr
    rw [show us.length - i = (us.length - (i + 1)) + 1 by omega, List.range_succ_eq_map, List.map_cons, List.map_map]
    congr 1
    refine List.map_congr_left fun j _ => ?_
    show i + (j + 1) = i + 1 + j
    omega
  unfold bdf
  rw [e]
  have hg : us.getD i false = us[i] := by rw [List.getD_eq_getElem?_getD, List.getElem?_eq_getElem h]; rfl
  cases hb : us[i] with
  | true => rw [List.filter_cons_of_pos (by rw [hg, hb])]; rfl
  | false => rw [List.filter_cons_of_neg (by rw [hg, hb]; decide)]; rfl
theorem bdf_0 (us : List Bool) : bdf us 0 = bds us := by
  unfold bdf bfr bds
  congr 1
  rw [Nat.sub_zero]
  refine Eq.trans (List.map_congr_left (g := id) fun j _ => ?_) (List.map_id _)
  exact Nat.zero_add j
theorem bdf_lt {us : List Bool} {i : Nat} : ∀ p ∈ bdf us i, p < us.length := fun p hp => by
  obtain ⟨h1, _⟩ := List.mem_filter.mp hp
  obtain ⟨j, hj, rfl⟩ := List.mem_map.mp h1
  have := List.mem_range.mp hj
  omega
end Hop

set_option Elab.async false
set_option linter.all false
set_option maxRecDepth 100000
namespace Hop
open PySem L2 HopR
section
variable {us lo : List Bool}
theorem take_succ_rev {i : Nat} (h : i < lo.length) : (lo.take (i + 1)).reverse = lo[i] :: (lo.take i).reverse := by
  rw [List.take_add_one, List.getElem?_eq_getElem h]
  simp
theorem sc_drop {i : Nat} (h1 : i < us.length) (h2 : i < lo.length) : sc (us.drop i) (lo.drop i) = if lo[i] then (if (sc (us.drop (i + 1)) (lo.drop (i + 1))).2 + us[i].toNat = 0 then (98 :: (sc (us.drop (i + 1)) (lo.drop (i + 1))).1, 0) else (97 :: (sc (us.drop (i + 1)) (lo.drop (i + 1))).1, (sc (us.drop (i + 1)) (lo.drop (i + 1))).2 + us[i].toNat - 1)) else (46 :: (sc (us.drop (i + 1)) (lo.drop (i + 1))).1, (sc (us.drop (i + 1)) (lo.drop (i + 1))).2 + us[i].toNat) := by
  rw [List.drop_eq_getElem_cons h1, List.drop_eq_getElem_cons h2, sc_cons]
theorem sc_len : ∀ (us ls : List Bool), us.length = ls.length → (sc us ls).1.length = ls.length
  | [], [], _ => rfl
  | u :: us, l :: ls, h => by
    have ih := sc_len us ls (by simpa using h)
    rw [sc_cons]
    split
    · split
      · show (sc us ls).1.length + 1 = ls.length + 1
        rw [ih]
      · show (sc us ls).1.length + 1 = ls.length + 1
        rw [ih]
    · show (sc us ls).1.length + 1 = ls.length + 1
      rw [ih]
  | [], _ :: _, h => by simp at h
  | _ :: _, [], h => by simp at h
/-- the ring when the beads from place i on are put -/
theorem ring_at {n : Nat} (h1 : us.length = n) (h2 : lo.length = n) : ∀ (d i : Nat), i + d = n → (sc (us.drop i) (lo.drop i)).2 ≤ nb (lo.take i) →
    (bdf us i).foldl (put n) (lob lo) = (mkR (sc (us.drop i) (lo.drop i)).2 (lo.take i).reverse).reverse ++ (sc (us.drop i) (lo.drop i)).1
  | 0, i, hi, hk => by
    have e1 : bdf us i = [] := by
      unfold bdf bfr
      rw [show us.length - i = 0 by omega]
      rfl
    rw [e1, List.drop_of_length_le (by omega), List.drop_of_length_le (l := lo) (by omega), List.take_of_length_le (by omega), sc_nil, mkR_0]
    show lob lo = (lob lo.reverse).reverse ++ []
    unfold lob
    rw [List.append_nil, List.map_reverse, List.reverse_reverse]
  | d + 1, i, hi, hk => by
    have hiu : i < us.length := by omega
    have hil : i < lo.length := by omega
    have es := sc_drop hiu hil
    have er := take_succ_rev hil
    have hnb : nb (lo.take (i + 1)) = nb (lo.take i) + lo[i].toNat := by rw [← nb_rev, er, nb_cons, nb_rev]
    have hS : (sc (us.drop (i + 1)) (lo.drop (i + 1))).1.length = n - (i + 1) := by
      rw [sc_len _ _ (by rw [List.length_drop, List.length_drop, h1, h2]), List.length_drop, h2]
    have ih := ring_at h1 h2 d (i + 1) (by omega)
    generalize hk' : (sc (us.drop (i + 1)) (lo.drop (i + 1))).2 = k at es ih
    generalize (sc (us.drop (i + 1)) (lo.drop (i + 1))).1 = S at es ih hS
    have low : k + us[i].toNat ≤ nb (lo.take (i + 1)) := by
      rw [hnb]
      rw [es] at hk
      cases hl : lo[i] with
      | false =>
        rw [hl] at hk
        simpa using hk
      | true =>
        rw [hl] at hk
        by_cases h0 : k + us[i].toNat = 0
        · omega
        · rw [if_pos rfl, if_neg h0] at hk
          simp only [Bool.toNat_true]
          have : k + us[i].toNat - 1 ≤ nb (lo.take i) := hk
          omega
    have ih := ih (by omega)
    have hR : (lo.take (i + 1)).reverse.length = i + 1 := by
      rw [List.length_reverse, List.length_take]
      omega
    -- one more bead
    have step : (bdf us i).foldl (put n) (lob lo) = (mkR (k + us[i].toNat) (lo.take (i + 1)).reverse).reverse ++ S := by
      rw [bdf_step hiu]
      cases hu : us[i] with
      | false => exact ih
      | true =>
        rw [hu] at low
        show ([i] ++ bdf us (i + 1)).foldl (put n) (lob lo) = _
        rw [puts_perm (n := n) (List.perm_append_comm (l₁ := [i]) (l₂ := bdf us (i + 1))) (fun p hp => by
          rcases List.mem_append.mp hp with hp | hp
          · rw [List.mem_singleton.mp hp]; omega
          · exact h1 ▸ bdf_lt p hp), List.foldl_append, ih]
        exact put_mk hR (by rw [hR, hS]; omega) (by rw [nb_rev]; exact low)
    rw [step, er, es]
    cases hl : lo[i] with
    | false =>
      rw [if_neg (by decide)]
      show (46 :: mkR (k + us[i].toNat) (lo.take i).reverse).reverse ++ S = _ ++ 46 :: S
      rw [List.reverse_cons, List.append_assoc]
      rfl
    | true =>
      rw [if_pos rfl]
      by_cases h0 : k + us[i].toNat = 0
      · rw [if_pos h0, h0]
        show (98 :: mkR 0 (lo.take i).reverse).reverse ++ S = _ ++ 98 :: S
        rw [List.reverse_cons, List.append_assoc]
        rfl
      · rw [if_neg h0]
        obtain ⟨m, hm⟩ : ∃ m, k + us[i].toNat = m + 1 := ⟨k + us[i].toNat - 1, by omega⟩
        rw [hm]
        show (97 :: mkR m (lo.take i).reverse).reverse ++ S = (mkR (m + 1 - 1) (lo.take i).reverse).reverse ++ 97 :: S
        rw [List.reverse_cons, List.append_assoc]
        rfl
/-- nought is left: the scan tells the ring -/
theorem rg_scan (hl : us.length = lo.length) (h0 : (sc us lo).2 = 0) : rg us lo = (sc us lo).1 := by
  have h := ring_at (us := us) (lo := lo) (n := us.length) rfl hl.symm us.length 0 (Nat.zero_add _) (by rw [List.drop_zero, List.drop_zero, h0]; exact Nat.zero_le _)
  rw [List.drop_zero, List.drop_zero, bdf_0, List.take_zero] at h
  exact h
theorem mkR_all : ∀ (R : List Bool) (k : Nat), nb R ≤ k → 98 ∉ mkR k R
  | [], _, _ => by simp [mkR]
  | false :: R, k, h => by
    rw [nb_cons] at h
    intro z
    rcases List.mem_cons.mp (show 98 ∈ 46 :: mkR k R from z) with z | z
    · exact absurd z (by decide)
    · exact mkR_all R k h z
  | true :: R, 0, h => by
    rw [nb_cons] at h
    simp at h
  | true :: R, k + 1, h => by
    rw [nb_cons] at h
    intro z
    rcases List.mem_cons.mp (show 98 ∈ 97 :: mkR k R from z) with z | z
    · exact absurd z (by decide)
    · exact mkR_all R k (by simp only [Bool.toNat_true] at h; omega) z
/-- what is taken stays taken -/
theorem put_keep {n p i : Nat} {cs : List Nat} (h : cs[i]? ≠ some 98) : (put n cs p)[i]? ≠ some 98 := by
  cases hf : (lef n p).filter (isb cs) with
  | nil => rw [put_nil hf]; exact h
  | cons x r =>
    rw [put_cons hf, List.getElem?_set]
    split
    · split
      · exact fun z => absurd (Option.some.inj z) (by decide)
      · exact fun z => nomatch z
    · exact h
theorem puts_keep {n i : Nat} : ∀ (ps cs : List Nat), cs[i]? ≠ some 98 → (ps.foldl (put n) cs)[i]? ≠ some 98
  | [], _, h => h
  | p :: ps, cs, h => puts_keep ps _ (put_keep h)
/-- beads are left over: the first place is taken -/
theorem rg_over {n : Nat} (h1 : us.length = n) (h2 : lo.length = n) : ∀ (d i : Nat), i + d = n → nb (lo.take i) < (sc (us.drop i) (lo.drop i)).2 → ((bdf us i).foldl (put n) (lob lo))[0]? ≠ some 98
  | 0, i, hi, hk => by
    rw [List.drop_of_length_le (l := lo) (by omega), sc_nil] at hk
    exact absurd hk (Nat.not_lt_zero _)
  | d + 1, i, hi, hk => by
    have hiu : i < us.length := by omega
    have hil : i < lo.length := by omega
    have perm : (bdf us i).foldl (put n) (lob lo) = (if us[i] then [i] else []).foldl (put n) ((bdf us (i + 1)).foldl (put n) (lob lo)) := by
      rw [bdf_step hiu, ← List.foldl_append]
      exact puts_perm List.perm_append_comm (fun p hp => by
        rcases List.mem_append.mp hp with hp | hp
        · split at hp
          · rw [List.mem_singleton.mp hp]; omega
          · cases hp
        · exact h1 ▸ bdf_lt p hp) _
    rw [perm]
    refine puts_keep _ _ ?_
    by_cases hlow : nb (lo.take (i + 1)) < (sc (us.drop (i + 1)) (lo.drop (i + 1))).2
    · exact rg_over h1 h2 d (i + 1) (by omega) hlow
    · have es := sc_drop hiu hil
      have hnb : nb (lo.take (i + 1)) = nb (lo.take i) + lo[i].toNat := by rw [← nb_rev, take_succ_rev hil, nb_cons, nb_rev]
      have hr := ring_at h1 h2 d (i + 1) (by omega) (by omega)
      have hu1 : us[i].toNat ≤ 1 := Bool.toNat_le _
      have full : nb (lo.take (i + 1)) ≤ (sc (us.drop (i + 1)) (lo.drop (i + 1))).2 := by
        rw [es] at hk
        cases hl : lo[i] with
        | false =>
          rw [hl] at hk hnb
          have hk : nb (lo.take i) < (sc (us.drop (i + 1)) (lo.drop (i + 1))).2 + us[i].toNat := hk
          simp only [Bool.toNat_false] at hnb
          omega
        | true =>
          rw [hl] at hk hnb
          simp only [Bool.toNat_true] at hnb
          by_cases h0 : (sc (us.drop (i + 1)) (lo.drop (i + 1))).2 + us[i].toNat = 0
          · rw [if_pos rfl, if_pos h0] at hk
            exact absurd hk (Nat.not_lt_zero _)
          · rw [if_pos rfl, if_neg h0] at hk
            have hk : nb (lo.take i) < (sc (us.drop (i + 1)) (lo.drop (i + 1))).2 + us[i].toNat - 1 := hk
            omega
      rw [hr, List.getElem?_append_left (by rw [List.length_reverse, mkR_len, List.length_reverse, List.length_take]; omega)]
      exact fun z => mkR_all _ _ (by rw [nb_rev]; exact full) (List.mem_reverse.mp (List.mem_of_getElem? z))
/-- a ring whose first bead is free: the upper lines that come to it are those whose scan tells it -/
theorem scan_iff {cs : List Nat} (hl : us.length = lo.length) (h98 : cs[0]? = some 98) : rg us lo = cs ↔ sc us lo = (cs, 0) := by
  constructor
  · intro h
    by_cases h0 : (sc us lo).2 = 0
    · have := rg_scan hl h0
      rw [← h, this, ← h0]
    · have := rg_over (us := us) (lo := lo) (n := us.length) rfl hl.symm us.length 0 (Nat.zero_add _) (by rw [List.drop_zero, List.drop_zero, List.take_zero]; exact Nat.pos_of_ne_zero h0)
      rw [bdf_0] at this
      have hc : (rg us lo)[0]? = some 98 := by rw [h]; exact h98
      exact absurd hc this
  · intro h
    have h0 : (sc us lo).2 = 0 := by rw [h]
    rw [rg_scan hl h0, h]
end
end Hop

set_option Elab.async false
set_option linter.all false
set_option maxRecDepth 100000
namespace Hop
open PySem L2 HopR
/-! ### all upper lines -/
def allb : Nat → List (List Bool)
  | 0 => [[]]
  | n + 1 => (allb n).map (false :: ·) ++ (allb n).map (true :: ·)
theorem allb_len : ∀ (n : Nat), ∀ u ∈ allb n, u.length = n
  | 0, u, h => by
    rw [List.mem_singleton.mp h]
    rfl
  | n + 1, u, h => by
    rcases List.mem_append.mp h with h | h <;>
    · obtain ⟨v, hv, rfl⟩ := List.mem_map.mp h
      rw [List.length_cons, allb_len n v hv]
theorem allb_snoc : ∀ n : Nat, (allb (n + 1)).Perm ((allb n).map (· ++ [false]) ++ (allb n).map (· ++ [true]))
  | 0 => List.Perm.refl _
  | n + 1 => by
    have ih := allb_snoc n
    show ((allb (n + 1)).map (false :: ·) ++ (allb (n + 1)).map (true :: ·)).Perm _
    have h1 := (ih.map (false :: ·)).append (ih.map (true :: ·))
    refine h1.trans ?_
    show List.Perm _ (((allb n).map (false :: ·) ++ (allb n).map (true :: ·)).map (· ++ [false]) ++ ((allb n).map (false :: ·) ++ (allb n).map (true :: ·)).map (· ++ [true]))
    simp only [List.map_append, List.map_map]
    have e : ∀ (b c : Bool) (L : List (List Bool)), L.map ((b :: ·) ∘ (· ++ [c])) = L.map ((· ++ [c]) ∘ (b :: ·)) := fun b c L => List.map_congr_left fun x _ => rfl
    rw [e, e, e, e]
    generalize (allb n).map ((· ++ [false]) ∘ (false :: ·)) = A
    generalize (allb n).map ((· ++ [true]) ∘ (false :: ·)) = B
    generalize (allb n).map ((· ++ [false]) ∘ (true :: ·)) = C
    generalize (allb n).map ((· ++ [true]) ∘ (true :: ·)) = D
    rw [List.append_assoc, List.append_assoc]
    refine List.Perm.append_left A ?_
    rw [← List.append_assoc, ← List.append_assoc]
    exact List.Perm.append_right D List.perm_append_comm
/-- turned by one place -/
theorem allb_rot (n : Nat) : ((allb n).map (rot 1)).Perm (allb n) := by
  cases n with
  | zero => exact List.Perm.refl _
  | succ n =>
    have e : (allb (n + 1)).map (rot 1) = (allb n).map (· ++ [false]) ++ (allb n).map (· ++ [true]) := by
      show ((allb n).map (false :: ·) ++ (allb n).map (true :: ·)).map (rot 1) = _
      rw [List.map_append, List.map_map, List.map_map]
      rfl
    rw [e]
    exact (allb_snoc n).symm
/-- the places with a bead -/
def lows (cs : List Nat) : List Bool := cs.map fun c => decide (c ≠ 46)
theorem lows_len (cs : List Nat) : (lows cs).length = cs.length := by unfold lows; rw [List.length_map]
theorem lows_rot (k : Nat) (cs : List Nat) : lows (rot k cs) = rot k (lows cs) := by
  unfold lows rot
  rw [List.map_append, List.map_drop, List.map_take]
/-- how many upper lines with as many beads as the ring has a come to it -/
def due (cs : List Nat) : Nat := (allb cs.length).countP fun u => decide (nb u = cs.count 97) && decide (rg u (lows cs) = cs)
theorem rot_inj {α : Type} {k : Nat} {xs ys : List α} (hk : k ≤ xs.length) (hl : xs.length = ys.length) (h : rot k xs = rot k ys) : xs = ys := by
  unfold rot at h
  have h1 := List.append_inj h (by rw [List.length_drop, List.length_drop, hl])
  rw [← List.take_append_drop k xs, ← List.take_append_drop k ys, h1.1, h1.2]
theorem nb_rot' (bs : List Bool) (j : Nat) : nb (rot j bs) = nb bs := by
  unfold nb rot
  rw [List.count_append, Nat.add_comm, ← List.count_append, List.take_append_drop]
theorem count_rot (cs : List Nat) (j c : Nat) : (rot j cs).count c = cs.count c := by
  unfold rot
  rw [List.count_append, Nat.add_comm, ← List.count_append, List.take_append_drop]
theorem due_rot1 (cs : List Nat) (h : 1 ≤ cs.length) : due (rot 1 cs) = due cs := by
  unfold due
  rw [rot_len h, count_rot, ← (allb_rot cs.length).countP_eq, List.countP_map]
  refine List.countP_congr fun u hu => ?_
  have hul := allb_len _ u hu
  show (decide (nb (rot 1 u) = cs.count 97) && decide (rg (rot 1 u) (lows (rot 1 cs)) = rot 1 cs)) = true ↔ _
  rw [nb_rot', lows_rot, rg_rot hul (lows_len cs) h]
  have e : (rot 1 (rg u (lows cs)) = rot 1 cs) ↔ (rg u (lows cs) = cs) := ⟨fun z => rot_inj (by rw [rg_len, lows_len]; exact h) (by rw [rg_len, lows_len]) z, fun z => by rw [z]⟩
  simp only [e]
theorem rot_succ {α : Type} {k : Nat} {xs : List α} (h : k + 1 ≤ xs.length) : rot (k + 1) xs = rot 1 (rot k xs) := by
  have e1 : rot k xs = xs[k] :: (xs.drop (k + 1) ++ xs.take k) := by
    unfold rot
    rw [List.drop_eq_getElem_cons (i := k) (by omega)]
    rfl
  rw [e1]
  show xs.drop (k + 1) ++ xs.take (k + 1) = (xs.drop (k + 1) ++ xs.take k) ++ [xs[k]]
  rw [List.take_add_one, List.getElem?_eq_getElem (by omega), List.append_assoc]
  rfl
theorem due_rot {cs : List Nat} : ∀ (k : Nat), k ≤ cs.length → due (rot k cs) = due cs
  | 0, _ => by
    unfold rot
    rw [List.drop_zero, List.take_zero, List.append_nil]
  | k + 1, h => by rw [rot_succ h, due_rot1 _ (by rw [rot_len (by omega)]; omega), due_rot k (by omega)]
/-! ### the count, place by place -/
def wup (w : List Nat) : List Nat := (w ++ [0]).zipWith (· + ·) (0 :: w)
def past (w : List Nat) (c : Nat) : List Nat := if c = 98 then w.take 1 else if c = 97 then (wup w).drop 1 else wup w
def wt : List Nat → List Nat
  | [] => [1]
  | c :: cs => past (wt cs) c
theorem wup_get (w : List Nat) (k : Nat) : (wup w).getD k 0 = w.getD k 0 + (if k = 0 then 0 else w.getD (k - 1) 0) := by
  unfold wup
  rw [List.getD_eq_getElem?_getD, List.getElem?_zipWith]
  cases k with
  | zero =>
    cases w with
    | nil => rfl
    | cons a r => rfl
  | succ k =>
    rw [if_neg (Nat.succ_ne_zero k), List.getD_eq_getElem?_getD, List.getD_eq_getElem?_getD]
    rw [List.getElem?_cons_succ]
    show _ = w[k + 1]?.getD 0 + w[k]?.getD 0
    by_cases h : k < w.length
    · rw [List.getElem?_eq_getElem h]
      by_cases h2 : k + 1 < w.length
      · rw [List.getElem?_append_left h2, List.getElem?_eq_getElem h2]
        rfl
      · have : k + 1 = w.length := by omega
        rw [List.getElem?_append_right (by omega), List.getElem?_eq_none (l := w) (by omega), this, Nat.sub_self]
        rfl
    · rw [List.getElem?_eq_none (l := w) (i := k) (by omega), List.getElem?_eq_none (l := w) (i := k + 1) (by omega)]
      cases (w ++ [0])[k + 1]? <;> rfl
def cntS (cs : List Nat) (k : Nat) : Nat := (allb cs.length).countP fun u => decide (sc u (lows cs) = (cs, k))
theorem cntS_cons (c : Nat) (cs : List Nat) (k : Nat) : cntS (c :: cs) k = (allb cs.length).countP (fun u => decide (sc (false :: u) (lows (c :: cs)) = (c :: cs, k))) + (allb cs.length).countP (fun u => decide (sc (true :: u) (lows (c :: cs)) = (c :: cs, k))) := by
  unfold cntS
  show (((allb cs.length).map (false :: ·)) ++ ((allb cs.length).map (true :: ·))).countP _ = _
  rw [List.countP_append, List.countP_map, List.countP_map]
  rfl
theorem wt_get : ∀ (cs : List Nat), (∀ c ∈ cs, c ∈ [97, 98, 46]) → ∀ k, (wt cs).getD k 0 = cntS cs k
  | [], _, k => by
    cases k with
    | zero => rfl
    | succ k => rfl
  | c :: cs, hc, k => by
    have ih := wt_get cs fun x hx => hc x (List.mem_cons_of_mem _ hx)
    have h0 := hc c (List.mem_cons_self ..)
    rw [cntS_cons]
    simp only [List.mem_cons, List.not_mem_nil, or_false] at h0
    rcases h0 with rfl | rfl | rfl
    · -- a
      have e : (wt (97 :: cs)).getD k 0 = (wup (wt cs)).getD (k + 1) 0 := by
        show ((wup (wt cs)).drop 1).getD k 0 = _
        rw [List.getD_eq_getElem?_getD, List.getElem?_drop, List.getD_eq_getElem?_getD, Nat.add_comm]
      rw [e, wup_get, if_neg (Nat.succ_ne_zero k), ih, ih]
      congr 1
      · refine List.countP_congr fun u _ => ?_
        rw [decide_eq_true_iff, decide_eq_true_iff]
        show _ ↔ sc (false :: u) (true :: lows cs) = _
        rw [sc_cons, if_pos rfl]
        generalize sc u (lows cs) = S
        obtain ⟨r, q⟩ := S
        show _ ↔ (if q = 0 then (98 :: r, 0) else (97 :: r, q - 1)) = _
        split <;> simp <;> omega
      · refine List.countP_congr fun u _ => ?_
        rw [decide_eq_true_iff, decide_eq_true_iff]
        show _ ↔ sc (true :: u) (true :: lows cs) = _
        rw [sc_cons, if_pos rfl]
        generalize sc u (lows cs) = S
        obtain ⟨r, q⟩ := S
        show _ ↔ (if q + 1 = 0 then (98 :: r, 0) else (97 :: r, q + 1 - 1)) = _
        simp
    · -- b
      have z : (allb cs.length).countP (fun u => decide (sc (true :: u) (lows (98 :: cs)) = (98 :: cs, k))) = 0 := by
        refine List.countP_eq_zero.mpr fun u _ => ?_
        rw [decide_eq_true_iff]
        show ¬ sc (true :: u) (true :: lows cs) = _
        rw [sc_cons, if_pos rfl]
        generalize sc u (lows cs) = S
        obtain ⟨r, q⟩ := S
        show ¬ (if q + 1 = 0 then (98 :: r, 0) else (97 :: r, q + 1 - 1)) = _
        simp
      rw [z, Nat.add_zero]
      show ((wt cs).take 1).getD k 0 = _
      cases k with
      | zero =>
        have e : ((wt cs).take 1).getD 0 0 = (wt cs).getD 0 0 := by
          rw [List.getD_eq_getElem?_getD, List.getD_eq_getElem?_getD, List.getElem?_take]
          rfl
        rw [e, ih]
        refine List.countP_congr fun u _ => ?_
        rw [decide_eq_true_iff, decide_eq_true_iff]
        show _ ↔ sc (false :: u) (true :: lows cs) = _
        rw [sc_cons, if_pos rfl]
        generalize sc u (lows cs) = S
        obtain ⟨r, q⟩ := S
        show _ ↔ (if q = 0 then (98 :: r, 0) else (97 :: r, q - 1)) = _
        split <;> simp <;> omega
      | succ k =>
        have e : ((wt cs).take 1).getD (k + 1) 0 = 0 := by
          rw [List.getD_eq_getElem?_getD, List.getElem?_take, if_neg (by omega)]
          rfl
        rw [e]
        refine (List.countP_eq_zero.mpr fun u _ => ?_).symm
        rw [decide_eq_true_iff]
        show ¬ sc (false :: u) (true :: lows cs) = _
        rw [sc_cons, if_pos rfl]
        generalize sc u (lows cs) = S
        obtain ⟨r, q⟩ := S
        show ¬ (if q = 0 then (98 :: r, 0) else (97 :: r, q - 1)) = _
        split <;> simp
    · -- free
      show (wup (wt cs)).getD k 0 = _
      rw [wup_get, ih]
      congr 1
      · refine List.countP_congr fun u _ => ?_
        rw [decide_eq_true_iff, decide_eq_true_iff]
        show _ ↔ sc (false :: u) (false :: lows cs) = _
        rw [sc_cons]
        generalize sc u (lows cs) = S
        obtain ⟨r, q⟩ := S
        show _ ↔ (46 :: r, q) = _
        simp
      · cases k with
        | zero =>
          rw [if_pos rfl]
          refine (List.countP_eq_zero.mpr fun u _ => ?_).symm
          rw [decide_eq_true_iff]
          show ¬ sc (true :: u) (false :: lows cs) = _
          rw [sc_cons]
          generalize sc u (lows cs) = S
          obtain ⟨r, q⟩ := S
          show ¬ (46 :: r, q + 1) = _
          simp
        | succ k =>
          rw [if_neg (Nat.succ_ne_zero k), ih]
          refine List.countP_congr fun u _ => ?_
          rw [decide_eq_true_iff, decide_eq_true_iff]
          show _ ↔ sc (true :: u) (false :: lows cs) = _
          rw [sc_cons]
          generalize sc u (lows cs) = S
          obtain ⟨r, q⟩ := S
          show _ ↔ (46 :: r, q + 1) = _
          simp
theorem sc_nb : ∀ (us ls : List Bool), us.length = ls.length → nb us = (sc us ls).1.count 97 + (sc us ls).2
  | [], [], _ => rfl
  | u :: us, l :: ls, h => by
    have ih := sc_nb us ls (by simpa using h)
    rw [nb_cons, ih, sc_cons]
    split
    · split
      · rename_i h0
        show _ = (98 :: (sc us ls).1).count 97 + 0
        rw [List.count_cons_of_ne (by decide)]
        omega
      · rename_i h0
        show _ = (97 :: (sc us ls).1).count 97 + ((sc us ls).2 + u.toNat - 1)
        rw [List.count_cons_self]
        omega
    · show _ = (46 :: (sc us ls).1).count 97 + ((sc us ls).2 + u.toNat)
      rw [List.count_cons_of_ne (by decide)]
      omega
  | [], _ :: _, h => by simp at h
  | _ :: _, [], h => by simp at h
/-- a ring whose first bead is free -/
theorem due_b {cs : List Nat} (hc : ∀ c ∈ cs, c ∈ [97, 98, 46]) (h : cs[0]? = some 98) : due cs = (wt cs).getD 0 0 := by
  rw [wt_get cs hc]
  unfold due cntS
  refine List.countP_congr fun u hu => ?_
  have hul : u.length = (lows cs).length := by rw [allb_len _ u hu, lows_len]
  have e := scan_iff (us := u) (lo := lows cs) hul h
  rw [Bool.and_eq_true, decide_eq_true_iff, decide_eq_true_iff, decide_eq_true_iff, e]
  refine ⟨fun z => z.2, fun z => ⟨?_, z⟩⟩
  have := sc_nb u (lows cs) hul
  rw [z] at this
  exact this
theorem wt_pos : ∀ cs : List Nat, 1 ≤ (wt cs).getD 0 0
  | [] => Nat.le_refl _
  | c :: cs => by
    have ih := wt_pos cs
    show 1 ≤ (past (wt cs) c).getD 0 0
    unfold past
    split
    · rw [List.getD_eq_getElem?_getD, List.getElem?_take]
      rw [List.getD_eq_getElem?_getD] at ih
      exact ih
    · split
      · have e : ((wup (wt cs)).drop 1).getD 0 0 = (wup (wt cs)).getD 1 0 := by
          rw [List.getD_eq_getElem?_getD, List.getElem?_drop, List.getD_eq_getElem?_getD]
        rw [e, wup_get]
        exact Nat.le_trans ih (Nat.le_add_left _ _)
      · rw [wup_get]
        exact Nat.le_trans ih (Nat.le_add_right _ _)
end Hop

set_option Elab.async false
set_option linter.all false
set_option maxRecDepth 100000
namespace Hop
open PySem L2 HopR
/-! ### how many lines have m beads -/
def chs (n m : Nat) : Nat := (allb n).countP fun u => decide (nb u = m)
theorem chs_succ (n m : Nat) : chs (n + 1) (m + 1) = chs n (m + 1) + chs n m := by
  unfold chs
  show (((allb n).map (false :: ·)) ++ ((allb n).map (true :: ·))).countP _ = _
  rw [List.countP_append, List.countP_map, List.countP_map]
  have e1 : (allb n).countP ((fun u => decide (nb u = m + 1)) ∘ (false :: ·)) = (allb n).countP fun u => decide (nb u = m + 1) := List.countP_congr fun u _ => by
    show decide (nb (false :: u) = m + 1) = true ↔ _
    rw [nb_cons]
    simp
  have e2 : (allb n).countP ((fun u => decide (nb u = m + 1)) ∘ (true :: ·)) = (allb n).countP fun u => decide (nb u = m) := List.countP_congr fun u _ => by
    show decide (nb (true :: u) = m + 1) = true ↔ _
    rw [nb_cons]
    simp
  rw [e1, e2]
theorem chs_zero : ∀ n : Nat, chs n 0 = 1
  | 0 => rfl
  | n + 1 => by
    have ih := chs_zero n
    unfold chs at ih ⊢
    show (((allb n).map (false :: ·)) ++ ((allb n).map (true :: ·))).countP _ = _
    rw [List.countP_append, List.countP_map, List.countP_map]
    have e1 : (allb n).countP ((fun u => decide (nb u = 0)) ∘ (false :: ·)) = (allb n).countP fun u => decide (nb u = 0) := List.countP_congr fun u _ => by
      show decide (nb (false :: u) = 0) = true ↔ _
      rw [nb_cons]
      simp
    have e2 : (allb n).countP ((fun u => decide (nb u = 0)) ∘ (true :: ·)) = 0 := List.countP_eq_zero.mpr fun u _ => by
      show ¬ decide (nb (true :: u) = 0) = true
      rw [nb_cons]
      simp
    rw [e1, e2, ih]
theorem chs_none (m : Nat) : chs 0 (m + 1) = 0 := rfl
theorem chs_over : ∀ (n m : Nat), n < m → chs n m = 0
  | 0, 0, h => absurd h (Nat.lt_irrefl _)
  | 0, m + 1, _ => rfl
  | n + 1, 0, h => absurd h (Nat.not_lt_zero _)
  | n + 1, m + 1, h => by rw [chs_succ, chs_over n (m + 1) (by omega), chs_over n m (by omega)]
theorem chs_step : ∀ (n t : Nat), t ≤ n → (t + 1) * chs n (t + 1) = (n - t) * chs n t
  | 0, 0, _ => rfl
  | 0, t + 1, h => absurd h (Nat.not_succ_le_zero _)
  | n + 1, 0, _ => by
    by_cases h : n = 0
    · subst h
      rfl
    · have ih := chs_step n 0 (Nat.zero_le _)
      rw [chs_zero] at ih
      rw [chs_succ, chs_zero, chs_zero]
      omega
  | n + 1, t + 1, h => by
    have ih1 := chs_step n t (by omega)
    rw [chs_succ, chs_succ]
    by_cases h2 : t + 1 ≤ n
    · have ih2 := chs_step n (t + 1) h2
      have e : n + 1 - (t + 1) = n - t := by omega
      have e3 : n - t = (n - (t + 1)) + 1 := by omega
      rw [e]
      have x1 : (t + 1 + 1) * (chs n (t + 1 + 1) + chs n (t + 1)) = (t + 1 + 1) * chs n (t + 1 + 1) + (t + 1 + 1) * chs n (t + 1) := Nat.mul_add ..
      have x2 : (n - t) * (chs n (t + 1) + chs n t) = (n - t) * chs n (t + 1) + (n - t) * chs n t := Nat.mul_add ..
      have x3 : (t + 1 + 1) * chs n (t + 1) = (t + 1) * chs n (t + 1) + chs n (t + 1) := Nat.succ_mul ..
      have x4 : (n - t) * chs n (t + 1) = (n - (t + 1)) * chs n (t + 1) + chs n (t + 1) := by rw [e3]; exact Nat.succ_mul ..
      omega
    · have e : t = n := by omega
      subst e
      rw [chs_over t (t + 1) (by omega), chs_over t (t + 1 + 1) (by omega)]
      simp
theorem chs_pos : ∀ (n m : Nat), m ≤ n → 1 ≤ chs n m
  | n, 0, _ => by rw [chs_zero]; exact Nat.le_refl _
  | n + 1, m + 1, h => by
    rw [chs_succ]
    exact Nat.le_trans (chs_pos n m (by omega)) (Nat.le_add_left _ _)
theorem chs_le : ∀ (n m : Nat), chs n m ≤ 2 ^ n
  | 0, 0 => Nat.le_refl _
  | 0, m + 1 => Nat.zero_le _
  | n + 1, 0 => by
    rw [chs_zero]
    exact Nat.one_le_two_pow
  | n + 1, m + 1 => by
    rw [chs_succ, Nat.pow_succ]
    have := chs_le n m
    have := chs_le n (m + 1)
    omega
/-! ### a ring with no second kind -/
theorem rg_full {hi lo : List Bool} (hl : hi.length = lo.length) (hb : nb hi = nb lo) : rg hi lo = lo.map fun b => if b then 97 else 46 := by
  have hc := (rg_count hl (Nat.le_of_eq hb)).1
  rw [hb, Nat.sub_self] at hc
  have hn : 98 ∉ rg hi lo := List.count_eq_zero.mp hc
  have hm := rg_low (hi := hi) (lo := lo)
  have ok : ∀ c ∈ rg hi lo, c ∈ [97, 98, 46] := puts_ok _ _ (lob_ok lo)
  refine List.ext_getElem (by rw [rg_len, List.length_map]) fun i h1 h2 => ?_
  rw [List.length_map] at h2
  have hg : lowc (rg hi lo)[i] = cd lo[i] := by
    have := congrArg (fun l => l[i]?) hm
    rw [List.getElem?_map, List.getElem?_map, List.getElem?_eq_getElem h1, List.getElem?_eq_getElem h2] at this
    exact Option.some.inj this
  have h3 : (rg hi lo)[i] ≠ 98 := fun z => hn (z ▸ List.getElem_mem h1)
  have h4 := ok _ (List.getElem_mem h1)
  rw [List.getElem_map]
  generalize (rg hi lo)[i] = c at *
  simp only [List.mem_cons, List.not_mem_nil, or_false] at h4
  rcases h4 with rfl | rfl | rfl
  · cases hb : lo[i] with
    | true => rfl
    | false => rw [hb] at hg; exact absurd hg (by decide)
  · exact absurd rfl h3
  · cases hb : lo[i] with
    | true => rw [hb] at hg; exact absurd hg (by decide)
    | false => rfl
theorem lows_nb : ∀ (cs : List Nat), (∀ c ∈ cs, c ∈ [97, 98, 46]) → nb (lows cs) = cs.count 97 + cs.count 98
  | [], _ => rfl
  | c :: cs, h => by
    have ih := lows_nb cs fun x hx => h x (List.mem_cons_of_mem _ hx)
    have h0 := h c (List.mem_cons_self ..)
    show nb (decide (c ≠ 46) :: lows cs) = _
    rw [nb_cons, ih]
    simp only [List.mem_cons, List.not_mem_nil, or_false] at h0
    rcases h0 with rfl | rfl | rfl
    · rw [List.count_cons_self, List.count_cons_of_ne (by decide)]
      show _ + 1 = _
      omega
    · rw [List.count_cons_self, List.count_cons_of_ne (by decide)]
      show _ + 1 = _
      omega
    · rw [List.count_cons_of_ne (by decide), List.count_cons_of_ne (by decide)]
      rfl
theorem due_nob {cs : List Nat} (hc : ∀ c ∈ cs, c ∈ [97, 98, 46]) (h : 98 ∉ cs) : due cs = chs cs.length (cs.count 97) := by
  have h8 : cs.count 98 = 0 := List.count_eq_zero.mpr h
  have hn := lows_nb cs hc
  rw [h8, Nat.add_zero] at hn
  have hcs : (lows cs).map (fun b => if b then 97 else 46) = cs := by
    unfold lows
    rw [List.map_map]
    refine Eq.trans (List.map_congr_left (g := id) fun c hc' => ?_) (List.map_id _)
    have h0 := hc c hc'
    simp only [List.mem_cons, List.not_mem_nil, or_false] at h0
    rcases h0 with rfl | rfl | rfl
    · rfl
    · exact absurd hc' h
    · rfl
  unfold due chs
  refine List.countP_congr fun u hu => ?_
  rw [Bool.and_eq_true, decide_eq_true_iff, decide_eq_true_iff]
  refine ⟨fun z => z.1, fun z => ⟨z, ?_⟩⟩
  rw [rg_full (by rw [allb_len _ u hu, lows_len]) (by rw [z, hn]), hcs]
/-- what the program reckons -/
def um (cs : List Nat) : Nat := if 98 ∈ cs then (wt (rot (cs.idxOf 98) cs)).getD 0 0 else chs cs.length (cs.count 97)
theorem um_due {cs : List Nat} (hc : ∀ c ∈ cs, c ∈ [97, 98, 46]) : um cs = due cs := by
  unfold um
  split
  · rename_i h
    have hi : cs.idxOf 98 < cs.length := List.idxOf_lt_length_iff.mpr h
    have hr : ∀ c ∈ rot (cs.idxOf 98) cs, c ∈ [97, 98, 46] := fun c hc' => by
      unfold rot at hc'
      rcases List.mem_append.mp hc' with z | z
      · exact hc c (List.mem_of_mem_drop z)
      · exact hc c (List.mem_of_mem_take z)
    have h0 : (rot (cs.idxOf 98) cs)[0]? = some 98 := by
      unfold rot
      rw [List.getElem?_append_left (by rw [List.length_drop]; omega), List.getElem?_drop, Nat.add_zero, List.getElem?_eq_getElem hi, List.getElem_idxOf hi]
    rw [← due_b hr h0, due_rot _ (Nat.le_of_lt hi)]
  · rename_i h
    exact (due_nob hc h).symm
theorem um_pos {cs : List Nat} : 1 ≤ um cs := by
  unfold um
  split
  · exact wt_pos _
  · exact chs_pos _ _ List.count_le_length
theorem um_rot {cs : List Nat} (hc : ∀ c ∈ cs, c ∈ [97, 98, 46]) {k : Nat} (hk : k ≤ cs.length) : um (rot k cs) = um cs := by
  have hr : ∀ c ∈ rot k cs, c ∈ [97, 98, 46] := fun c hc' => by
    unfold rot at hc'
    rcases List.mem_append.mp hc' with z | z
    · exact hc c (List.mem_of_mem_drop z)
    · exact hc c (List.mem_of_mem_take z)
  rw [um_due hr, um_due hc, due_rot k hk]
/-! ### the law's own lines -/
def allr : Nat → List (List Bool)
  | 0 => [[]]
  | n + 1 => (allr n).map (· ++ [false]) ++ (allr n).map (· ++ [true])
theorem allr_perm : ∀ n : Nat, (allr n).Perm (allb n)
  | 0 => List.Perm.refl _
  | n + 1 => by
    have ih := allr_perm n
    exact ((ih.map (· ++ [false])).append (ih.map (· ++ [true]))).trans (allb_snoc n).symm
/-- the rows of i places that may come to m beads at n places -/
def may (n m i : Nat) (u : List Bool) : Bool := decide (m + i ≤ nb u + n) && decide (nb u ≤ m)
def upp (n m i : Nat) : List (List Bool) := (allr i).filter (may n m i)
theorem nb_snoc (u : List Bool) (b : Bool) : nb (u ++ [b]) = nb u + b.toNat := by
  unfold nb
  rw [List.count_append]
  cases b <;> rfl
theorem upp_succ (n m i : Nat) : upp n m (i + 1) = ((upp n m i).map (· ++ [false]) ++ (upp n m i).map (· ++ [true])).filter (may n m (i + 1)) := by
  have e : ∀ b : Bool, ((allr i).map (· ++ [b])).filter (may n m (i + 1)) = ((upp n m i).map (· ++ [b])).filter (may n m (i + 1)) := fun b => by
    unfold upp
    rw [List.filter_map, List.filter_map, List.filter_filter]
    congr 1
    refine List.filter_congr fun u _ => ?_
    show may n m (i + 1) (u ++ [b]) = (may n m (i + 1) (u ++ [b]) && may n m i u)
    cases h : may n m (i + 1) (u ++ [b]) with
    | false => rfl
    | true =>
      unfold may at h ⊢
      rw [nb_snoc, Bool.and_eq_true, decide_eq_true_iff, decide_eq_true_iff] at h
      have hb : b.toNat ≤ 1 := Bool.toNat_le _
      rw [decide_eq_true (by omega), decide_eq_true (by omega)]
      rfl
  show ((allr i).map (· ++ [false]) ++ (allr i).map (· ++ [true])).filter _ = _
  rw [List.filter_append, List.filter_append, e, e]
theorem upp_all (n m : Nat) : upp n m n = (allr n).filter fun u => decide (nb u = m) := by
  unfold upp
  refine List.filter_congr fun u _ => ?_
  unfold may
  by_cases h : nb u = m
  · rw [decide_eq_true (by omega), decide_eq_true (by omega), decide_eq_true h]
    rfl
  · rw [decide_eq_false h]
    by_cases h2 : nb u ≤ m
    · rw [decide_eq_false (by omega)]
      rfl
    · rw [decide_eq_false h2, Bool.and_false]
theorem upp_len (n m : Nat) : (upp n m n).length = chs n m := by
  rw [upp_all, ← List.countP_eq_length_filter, (allr_perm n).countP_eq]
  rfl
theorem upp_due (cs : List Nat) : (upp cs.length (cs.count 97) cs.length).countP (fun u => decide (rg u (lows cs) = cs)) = due cs := by
  rw [upp_all, List.countP_filter, (allr_perm cs.length).countP_eq]
  unfold due
  refine List.countP_congr fun u _ => ?_
  rw [Bool.and_comm]
theorem upp_mem {n m : Nat} {u : List Bool} (h : u ∈ upp n m n) : u.length = n ∧ nb u = m := by
  rw [upp_all] at h
  obtain ⟨h1, h2⟩ := List.mem_filter.mp h
  exact ⟨allb_len n u ((allr_perm n).mem_iff.mp h1), of_decide_eq_true h2⟩
theorem upp_few (n m i : Nat) : (upp n m i).length ≤ 2 ^ i := by
  refine Nat.le_trans (List.length_filter_le _ _) ?_
  have : (allr i).length = 2 ^ i := by
    induction i with
    | zero => rfl
    | succ i ih =>
      show ((allr i).map _ ++ (allr i).map _).length = _
      rw [List.length_append, List.length_map, List.length_map, ih, Nat.pow_succ]
      omega
  omega
end Hop

set_option Elab.async false
set_option linter.all false
set_option maxRecDepth 100000
namespace Hop
open PySem L2 HopR
/-! ### as much comes to a ring as goes: three rules of the count, and a sum that closes round the ring -/
abbrev Sg (cs : List Nat) : Prop := ∀ c ∈ cs, c ∈ [97, 98, 46]
theorem Sg.tl {c : Nat} {cs : List Nat} (h : Sg (c :: cs)) : Sg cs := fun x hx => h x (List.mem_cons_of_mem _ hx)
theorem Sg.l {a b : List Nat} (h : Sg (a ++ b)) : Sg a := fun x hx => h x (List.mem_append_left _ hx)
theorem Sg.r {a b : List Nat} (h : Sg (a ++ b)) : Sg b := fun x hx => h x (List.mem_append_right _ hx)
theorem three {c : Nat} (h : c ∈ [97, 98, 46]) : c = 97 ∨ c = 98 ∨ c = 46 := by simpa using h
def fw (cs : List Nat) (k : Nat) : Nat := (wt cs).getD k 0
theorem fw_nil (k : Nat) : fw [] k = if k = 0 then 1 else 0 := by
  cases k <;> rfl
theorem fw_e (cs : List Nat) (k : Nat) : fw (46 :: cs) k = fw cs k + (if k = 0 then 0 else fw cs (k - 1)) := wup_get (wt cs) k
theorem fw_d (cs : List Nat) (k : Nat) : fw (97 :: cs) k = fw cs (k + 1) + fw cs k := by
  show ((wup (wt cs)).drop 1).getD k 0 = _
  rw [List.getD_eq_getElem?_getD, List.getElem?_drop, ← List.getD_eq_getElem?_getD, Nat.add_comm 1 k, wup_get, if_neg (Nat.succ_ne_zero k)]
  rfl
theorem fw_a (cs : List Nat) (k : Nat) : fw (98 :: cs) k = if k = 0 then fw cs 0 else 0 := by
  show ((wt cs).take 1).getD k 0 = _
  rw [List.getD_eq_getElem?_getD, List.getElem?_take]
  cases k with
  | zero =>
    rw [if_pos (by decide), if_pos rfl]
    unfold fw
    rw [List.getD_eq_getElem?_getD]
  | succ k =>
    rw [if_neg (by omega), if_neg (Nat.succ_ne_zero k)]
    rfl
theorem fw_de (cs : List Nat) (k : Nat) : fw (97 :: 46 :: cs) k = fw (97 :: cs) k + fw (46 :: cs) k := by
  rw [fw_d, fw_e, fw_d, fw_e, if_neg (Nat.succ_ne_zero k), Nat.add_sub_cancel]
theorem fw_add {x y z : List Nat} (h : ∀ k, fw x k = fw y k + fw z k) : ∀ (u : List Nat), Sg u → ∀ k, fw (u ++ x) k = fw (u ++ y) k + fw (u ++ z) k
  | [], _, k => h k
  | c :: u, hu, k => by
    have ih := fw_add h u hu.tl
    rw [List.cons_append, List.cons_append, List.cons_append]
    rcases three (hu c List.mem_cons_self) with rfl | rfl | rfl
    · rw [fw_d, fw_d, fw_d, ih, ih]
      omega
    · rw [fw_a, fw_a, fw_a, ih]
      split <;> omega
    · rw [fw_e, fw_e, fw_e, ih, ih]
      split <;> omega
theorem fw_eq {x y : List Nat} (h : ∀ k, fw x k = fw y k) : ∀ (u : List Nat), Sg u → ∀ k, fw (u ++ x) k = fw (u ++ y) k
  | [], _, k => h k
  | c :: u, hu, k => by
    have ih := fw_eq h u hu.tl
    rw [List.cons_append, List.cons_append]
    rcases three (hu c List.mem_cons_self) with rfl | rfl | rfl
    · rw [fw_d, fw_d, ih, ih]
    · rw [fw_a, fw_a, ih]
    · rw [fw_e, fw_e, ih, ih]
theorem um_b (r : List Nat) : um (98 :: r) = fw r 0 := by
  unfold um
  rw [if_pos List.mem_cons_self]
  have e : (98 :: r).idxOf 98 = 0 := by simp
  rw [e]
  have e2 : rot 0 (98 :: r) = 98 :: r := by
    unfold rot
    rw [List.drop_zero, List.take_zero, List.append_nil]
  rw [e2]
  have := fw_a r 0
  rw [if_pos rfl] at this
  exact this
theorem um_mid {p s : List Nat} (hc : Sg (p ++ 98 :: s)) : um (p ++ 98 :: s) = fw (s ++ p) 0 := by
  rw [← um_rot hc (k := p.length) (by rw [List.length_append]; omega)]
  have e : rot p.length (p ++ 98 :: s) = 98 :: (s ++ p) := by
    unfold rot
    rw [List.drop_left, List.take_left]
    rfl
  rw [e, um_b]
theorem um_de {rest : List Nat} (hc : Sg rest) (hb : 98 ∈ rest) : um (97 :: 46 :: rest) = um (97 :: rest) + um (46 :: rest) := by
  obtain ⟨p, s, rfl⟩ := List.append_of_mem hb
  have hp : Sg p := hc.l
  have hs : Sg s := (hc.r).tl
  have h2 : Sg (98 :: s) := hc.r
  have g : ∀ l : List Nat, Sg l → Sg ((l ++ p) ++ 98 :: s) := fun l hl x hx => by
    rcases List.mem_append.mp hx with z | z
    · rcases List.mem_append.mp z with z | z
      · exact hl x z
      · exact hp x z
    · exact h2 x z
  have e1 := um_mid (p := 97 :: 46 :: p) (s := s) (g [97, 46] (by decide))
  have e2 := um_mid (p := 97 :: p) (s := s) (g [97] (by decide))
  have e3 := um_mid (p := 46 :: p) (s := s) (g [46] (by decide))
  rw [show 97 :: 46 :: (p ++ 98 :: s) = (97 :: 46 :: p) ++ 98 :: s from rfl, show 97 :: (p ++ 98 :: s) = (97 :: p) ++ 98 :: s from rfl, show 46 :: (p ++ 98 :: s) = (46 :: p) ++ 98 :: s from rfl, e1, e2, e3]
  exact fw_add (fw_de p) s hs 0
theorem um_da {rest : List Nat} (hc : Sg rest) : um (97 :: 98 :: rest) = um (98 :: rest) := by
  have e1 := um_mid (p := [97]) (s := rest) (fun x hx => by
    rcases List.mem_append.mp hx with z | z
    · rw [List.mem_singleton.mp z]
      decide
    · rcases List.mem_cons.mp z with rfl | z
      · decide
      · exact hc x z)
  rw [show 97 :: 98 :: rest = [97] ++ 98 :: rest from rfl, e1, um_b]
  have h : ∀ k, fw [97] k = fw [] k := fun k => by
    rw [fw_d, fw_nil, fw_nil, if_neg (Nat.succ_ne_zero k), Nat.zero_add]
  have := fw_eq h rest hc 0
  rw [List.append_nil] at this
  exact this
theorem um_ae (rest : List Nat) : um (98 :: 46 :: rest) = um (98 :: rest) := by
  rw [um_b, um_b, fw_e, if_pos rfl, Nat.add_zero]
def hat (c : Nat) : Int := if c = 97 then -1 else if c = 46 then 1 else 0
theorem pair_ok {x y : Nat} {rest : List Nat} (hc : Sg (x :: y :: rest)) (hb : 98 ∈ x :: y :: rest) :
    ((if rk x < rk y then um (y :: x :: rest) else 0 : Nat) : Int) - ((if rk y < rk x then um (x :: y :: rest) else 0 : Nat) : Int) = hat x * (um (y :: rest) : Int) - hat y * (um (x :: rest) : Int) := by
  have hr : Sg rest := hc.tl.tl
  have hb' : x ≠ 98 → y ≠ 98 → 98 ∈ rest := fun h1 h2 => by
    rcases List.mem_cons.mp hb with z | z
    · exact absurd z.symm h1
    · rcases List.mem_cons.mp z with z | z
      · exact absurd z.symm h2
      · exact z
  rcases three (hc x List.mem_cons_self) with rfl | rfl | rfl <;> rcases three (hc y (List.mem_cons_of_mem _ List.mem_cons_self)) with rfl | rfl | rfl
  · rw [if_neg (by decide)]
    omega
  · rw [if_neg (by decide), if_pos (by decide), um_da hr, show hat 97 = -1 from rfl, show hat 98 = 0 from rfl]
    omega
  · rw [if_neg (by decide), if_pos (by decide), um_de hr (hb' (by decide) (by decide)), show hat 97 = -1 from rfl, show hat 46 = 1 from rfl]
    omega
  · rw [if_pos (by decide), if_neg (by decide), um_da hr, show hat 97 = -1 from rfl, show hat 98 = 0 from rfl]
    omega
  · rw [if_neg (by decide)]
    omega
  · rw [if_neg (by decide), if_pos (by decide), um_ae, show hat 98 = 0 from rfl, show hat 46 = 1 from rfl]
    omega
  · rw [if_pos (by decide), if_neg (by decide), um_de hr (hb' (by decide) (by decide)), show hat 97 = -1 from rfl, show hat 46 = 1 from rfl]
    omega
  · rw [if_pos (by decide), if_neg (by decide), um_ae, show hat 98 = 0 from rfl, show hat 46 = 1 from rfl]
    omega
  · rw [if_neg (by decide)]
    omega
/-! ### a place of the ring, seen from there -/
theorem rot_two {cs : List Nat} {i : Nat} (hl : 2 ≤ cs.length) (hi : i < cs.length) : ∃ rest, rot i cs = cs.getD i 0 :: cs.getD (nxt cs i) 0 :: rest ∧ rot i (swp cs i) = cs.getD (nxt cs i) 0 :: cs.getD i 0 :: rest ∧ rot (nxt cs i) cs = cs.getD (nxt cs i) 0 :: (rest ++ [cs.getD i 0]) := by
  have hn : nxt cs i < cs.length := Nat.mod_lt _ (by omega)
  have hcase : (i + 1 < cs.length ∧ nxt cs i = i + 1) ∨ (i + 1 = cs.length ∧ nxt cs i = 0) := by
    unfold nxt
    by_cases h : i + 1 < cs.length
    · exact .inl ⟨h, Nat.mod_eq_of_lt h⟩
    · have : i + 1 = cs.length := by omega
      exact .inr ⟨this, by rw [this, Nat.mod_self]⟩
  have s0 : sh cs.length i i = 0 := by
    unfold sh
    rw [if_pos (Nat.le_refl _), Nat.sub_self]
  have s1 : sh cs.length i (nxt cs i) = 1 := by
    unfold sh
    rcases hcase with ⟨h, e⟩ | ⟨h, e⟩ <;> rw [e]
    · rw [if_pos (by omega)]
      omega
    · rw [if_neg (by omega)]
      omega
  have g0 := rot_get (k := i) rfl (Nat.le_of_lt hi) hi
  have g1 := rot_get (k := i) rfl (Nat.le_of_lt hi) hn
  rw [s0, List.getElem?_eq_getElem hi] at g0
  rw [s1, List.getElem?_eq_getElem hn] at g1
  have ex : cs.getD i 0 = cs[i] := by rw [List.getD_eq_getElem?_getD, List.getElem?_eq_getElem hi]; rfl
  have ey : cs.getD (nxt cs i) 0 = cs[nxt cs i] := by rw [List.getD_eq_getElem?_getD, List.getElem?_eq_getElem hn]; rfl
  rw [← ex] at g0
  rw [← ey] at g1
  have hlen : (rot i cs).length = cs.length := rot_len (Nat.le_of_lt hi)
  obtain ⟨rest, er⟩ : ∃ rest, rot i cs = cs.getD i 0 :: cs.getD (nxt cs i) 0 :: rest := by
    match e : rot i cs, (show 2 ≤ (rot i cs).length by omega) with
    | a :: b :: r, _ =>
      rw [e] at g0 g1
      have h1 : a = cs.getD i 0 := Option.some.inj g0
      have h2 : b = cs.getD (nxt cs i) 0 := Option.some.inj g1
      exact ⟨r, by rw [h1, h2]⟩
  refine ⟨rest, er, ?_, ?_⟩
  · have t1 := rot_set (k := i) (x := i) (v := cs.getD (nxt cs i) 0) (cs := cs) rfl (Nat.le_of_lt hi) hi
    have t2 := rot_set (n := cs.length) (k := i) (x := nxt cs i) (v := cs.getD i 0) (cs := cs.set i (cs.getD (nxt cs i) 0)) (by rw [List.length_set]) (Nat.le_of_lt hi) hn
    rw [s0, er] at t1
    rw [s1, ← t1] at t2
    unfold swp
    rw [← t2]
    rfl
  · have e1 : rot (nxt cs i) cs = rot 1 (rot i cs) := by
      rcases hcase with ⟨h, e⟩ | ⟨h, e⟩ <;> rw [e]
      · exact rot_succ (Nat.le_of_lt h)
      · rw [← rot_succ (Nat.le_of_eq h), h]
        unfold rot
        rw [List.drop_zero, List.take_zero, List.append_nil, List.drop_length, List.take_length, List.nil_append]
    rw [e1, er]
    rfl
theorem mem_rot {cs : List Nat} {i x : Nat} : x ∈ rot i cs ↔ x ∈ cs := by
  unfold rot
  rw [List.mem_append]
  constructor
  · rintro (h | h)
    · exact List.mem_of_mem_drop h
    · exact List.mem_of_mem_take h
  · intro h
    rw [← List.take_append_drop i cs] at h
    exact (List.mem_append.mp h).symm
theorem mem_swp {cs : List Nat} {i x : Nat} (hl : 2 ≤ cs.length) (hi : i < cs.length) : x ∈ swp cs i ↔ x ∈ cs := by
  obtain ⟨rest, e1, e2, _⟩ := rot_two hl hi
  rw [← mem_rot (i := i) (cs := swp cs i), ← mem_rot (i := i) (cs := cs), e1, e2]
  simp only [List.mem_cons]
  constructor
  · rintro (h | h | h)
    · exact .inr (.inl h)
    · exact .inl h
    · exact .inr (.inr h)
  · rintro (h | h | h)
    · exact .inr (.inl h)
    · exact .inl h
    · exact .inr (.inr h)
theorem rg_swp {cs : List Nat} (h : Rg cs) {i : Nat} (hi : i < cs.length) : Rg (swp cs i) := ⟨by rw [swp_len]; exact h.lo, by rw [swp_len]; exact h.hi, fun c hc => h.ok c ((mem_swp h.lo hi).mp hc)⟩
/-- the sign stands below the next one -/
def dn (cs : List Nat) (i : Nat) : Bool := decide (rk (cs.getD i 0) < rk (cs.getD (nxt cs i) 0))
theorem nxt_swp (cs : List Nat) (i j : Nat) : nxt (swp cs i) j = nxt cs j := by
  unfold nxt
  rw [swp_len]
theorem swp_signs {cs : List Nat} {i : Nat} (hl : 2 ≤ cs.length) (hi : i < cs.length) : (swp cs i).getD i 0 = cs.getD (nxt cs i) 0 ∧ (swp cs i).getD (nxt cs i) 0 = cs.getD i 0 ∧ swp (swp cs i) i = cs := by
  obtain ⟨rest, e1, e2, _⟩ := rot_two hl hi
  obtain ⟨rest', f1, f2, _⟩ := rot_two (cs := swp cs i) (i := i) (by rw [swp_len]; exact hl) (by rw [swp_len]; exact hi)
  rw [nxt_swp] at f1 f2
  rw [e2] at f1
  have h1 := (List.cons.inj f1).1
  have h2 := (List.cons.inj (List.cons.inj f1).2).1
  have h3 := (List.cons.inj (List.cons.inj f1).2).2
  refine ⟨h1.symm, h2.symm, ?_⟩
  refine rot_inj (k := i) (by rw [swp_len, swp_len]; exact Nat.le_of_lt hi) (by rw [swp_len, swp_len]) ?_
  rw [f2, e1, ← h1, ← h2, ← h3]
theorem ups_swp {cs : List Nat} {i : Nat} (hl : 2 ≤ cs.length) (hi : i < cs.length) : ups (swp cs i) i = dn cs i := by
  obtain ⟨h1, h2, _⟩ := swp_signs hl hi
  unfold ups dn
  rw [nxt_swp, h1, h2]
theorem place_b {cs : List Nat} (hR : Rg cs) (hb : 98 ∈ cs) {i : Nat} (hi : i < cs.length) :
    ((if dn cs i = true then um (swp cs i) else 0 : Nat) : Int) - ((if ups cs i = true then um cs else 0 : Nat) : Int) = hat (cs.getD i 0) * (um (rot i cs).tail : Int) - hat (cs.getD (nxt cs i) 0) * (um (rot (nxt cs i) cs).tail : Int) := by
  obtain ⟨rest, e1, e2, e3⟩ := rot_two hR.lo hi
  have hk : i ≤ cs.length := Nat.le_of_lt hi
  have hc : Sg (rot i cs) := fun x hx => hR.ok x (mem_rot.mp hx)
  have u1 : um cs = um (rot i cs) := (um_rot hR.ok hk).symm
  have u2 : um (swp cs i) = um (rot i (swp cs i)) := (um_rot (rg_swp hR hi).ok (by rw [swp_len]; exact hk)).symm
  rw [e1] at hc u1
  rw [e2] at u2
  have hb2 : 98 ∈ rot i cs := mem_rot.mpr hb
  rw [e1] at hb2
  have key := pair_ok hc hb2
  have hx2 : Sg (cs.getD i 0 :: rest) := fun c h => by
    rcases List.mem_cons.mp h with rfl | h
    · exact hc _ List.mem_cons_self
    · exact hc _ (List.mem_cons_of_mem _ (List.mem_cons_of_mem _ h))
  have u3 : um (rest ++ [cs.getD i 0]) = um (cs.getD i 0 :: rest) := um_rot (k := 1) hx2 (by rw [List.length_cons]; omega)
  rw [u2, u1, e1, e3, List.tail_cons, List.tail_cons, u3]
  unfold dn ups
  simp only [decide_eq_true_eq]
  exact key
def ha (c : Nat) : Int := if c = 97 then 1 else 0
theorem place_n {cs : List Nat} (hR : Rg cs) (hb : 98 ∉ cs) {i : Nat} (hi : i < cs.length) :
    ((if dn cs i = true then um (swp cs i) else 0 : Nat) : Int) - ((if ups cs i = true then um cs else 0 : Nat) : Int) = -(ha (cs.getD i 0) * (um cs : Int)) - -(ha (cs.getD (nxt cs i) 0) * (um cs : Int)) := by
  obtain ⟨rest, e1, e2, e3⟩ := rot_two hR.lo hi
  have hk : i ≤ cs.length := Nat.le_of_lt hi
  have hc : Sg (rot i cs) := fun x hx => hR.ok x (mem_rot.mp hx)
  have hn : 98 ∉ rot i cs := fun z => hb (mem_rot.mp z)
  have u1 : um cs = um (rot i cs) := (um_rot hR.ok hk).symm
  have u2 : um (swp cs i) = um (rot i (swp cs i)) := (um_rot (rg_swp hR hi).ok (by rw [swp_len]; exact hk)).symm
  rw [e1] at hc u1 hn
  rw [e2] at u2
  have u3 : um (swp cs i) = um cs := by
    have hn2 : 98 ∉ cs.getD (nxt cs i) 0 :: cs.getD i 0 :: rest := fun z => hn (by
      simp only [List.mem_cons] at z ⊢
      rcases z with z | z | z
      · exact .inr (.inl z)
      · exact .inl z
      · exact .inr (.inr z))
    rw [u2, u1]
    unfold um
    rw [if_neg hn2, if_neg hn]
    congr 1
    exact (List.Perm.swap (cs.getD i 0) (cs.getD (nxt cs i) 0) rest).count_eq 97
  have hx : cs.getD i 0 = 97 ∨ cs.getD i 0 = 46 := by
    rcases three (hc _ List.mem_cons_self) with h | h | h
    · exact .inl h
    · exact absurd (h ▸ List.mem_cons_self : 98 ∈ cs.getD i 0 :: cs.getD (nxt cs i) 0 :: rest) hn
    · exact .inr h
  have hy : cs.getD (nxt cs i) 0 = 97 ∨ cs.getD (nxt cs i) 0 = 46 := by
    rcases three (hc _ (List.mem_cons_of_mem _ List.mem_cons_self)) with h | h | h
    · exact .inl h
    · exact absurd (List.mem_cons_of_mem _ (h ▸ List.mem_cons_self) : 98 ∈ cs.getD i 0 :: cs.getD (nxt cs i) 0 :: rest) hn
    · exact .inr h
  rw [u3]
  unfold dn ups
  simp only [decide_eq_true_eq]
  rcases hx with hx | hx <;> rcases hy with hy | hy <;> rw [hx, hy]
  · rw [if_neg (by decide)]
    omega
  · rw [if_neg (by decide), if_pos (by decide), show ha 97 = 1 from rfl, show ha 46 = 0 from rfl]
    omega
  · rw [if_pos (by decide), if_neg (by decide), show ha 97 = 1 from rfl, show ha 46 = 0 from rfl]
    omega
  · rw [if_neg (by decide)]
    omega
/-- what comes, by the places -/
def cms (cs : List Nat) (m : Nat) : List Nat := (List.range m).filter (dn cs)
theorem cms_succ (cs : List Nat) (i : Nat) : cms cs (i + 1) = cms cs i ++ (if dn cs i then [i] else []) := by
  unfold cms
  rw [List.range_succ, List.filter_append]
  congr 1
  cases h : dn cs i with
  | true => simp [h]
  | false => simp [h]
theorem closes {cs : List Nat} (hl : 2 ≤ cs.length) {R : Nat → Int} (h : ∀ i, i < cs.length → ((if dn cs i = true then um (swp cs i) else 0 : Nat) : Int) - ((if ups cs i = true then um cs else 0 : Nat) : Int) = R i - R (nxt cs i)) :
    ∀ m, m ≤ cs.length → (((cms cs m).map fun i => um (swp cs i)).sum : Int) - ((um cs * (rchg cs m).length : Nat) : Int) = R 0 - R (m % cs.length)
  | 0, _ => by
    rw [Nat.zero_mod]
    show (0 : Int) - ((um cs * 0 : Nat) : Int) = _
    rw [Nat.mul_zero]
    omega
  | m + 1, hm => by
    have ih := closes hl h m (by omega)
    have st := h m (by omega)
    rw [Nat.mod_eq_of_lt (by omega : m < cs.length)] at ih
    rw [cms_succ, rchg_succ, List.map_append, List.sum_append, List.length_append, Nat.mul_add]
    show _ = R 0 - R (nxt cs m)
    cases h1 : dn cs m <;> cases h2 : ups cs m <;> rw [h1, h2] at st <;> simp only [Bool.false_eq_true, if_false, if_true, List.map_cons, List.map_nil, List.sum_cons, List.sum_nil, List.length_cons, List.length_nil, Nat.mul_zero, Nat.mul_one, Nat.add_zero, Nat.zero_add] at st ⊢ <;> omega
theorem balance {cs : List Nat} (hR : Rg cs) : ((cms cs cs.length).map fun i => um (swp cs i)).sum = um cs * (rchg cs cs.length).length := by
  have key : (((cms cs cs.length).map fun i => um (swp cs i)).sum : Int) - ((um cs * (rchg cs cs.length).length : Nat) : Int) = 0 := by
    by_cases hb : 98 ∈ cs
    · have := closes hR.lo (R := fun i => hat (cs.getD i 0) * (um (rot i cs).tail : Int)) (fun i hi => place_b hR hb hi) cs.length (Nat.le_refl _)
      rw [this, Nat.mod_self]
      omega
    · have := closes hR.lo (R := fun i => -(ha (cs.getD i 0) * (um cs : Int))) (fun i hi => place_n hR hb hi) cs.length (Nat.le_refl _)
      rw [this, Nat.mod_self]
      omega
  omega
end Hop

set_option Elab.async false
set_option linter.all false
set_option maxRecDepth 100000
namespace Hop
open PySem L2 HopR
def top (i : Nat) : Stmt := PySem.Challenge.pw_hopline_k81_ring_chances.main.body.getD i (.Pass ⟨0, 0, 0, 0⟩)
abbrev sIsRing : Stmt := top 25
abbrev sNeedRing : Stmt := top 26
abbrev sDrawn : Stmt := top 31
abbrev sLRing : Stmt := top 32
abbrev sChoices : Stmt := top 17
abbrev sWup : Stmt := top 18
abbrev sPast : Stmt := top 19
abbrev sUppers : Stmt := top 20
abbrev sWeight : Stmt := top 29
abbrev sWhole : Stmt := top 34
abbrev sLRank : Stmt := top 38
abbrev sLSwap : Stmt := top 39
abbrev sLSteps : Stmt := top 40
abbrev sLaw : Stmt := top 41
abbrev sChoose : Stmt := top 33
abbrev sIsWhole : Stmt := top 9
abbrev sDivisor : Stmt := top 10
abbrev sChance : Stmt := top 27
abbrev sIsPart : Stmt := top 35
abbrev sLowest : Stmt := top 13
abbrev sLow : Stmt := top 36
abbrev sAll : Stmt := top 37
abbrev sInit : Stmt := inClass (top 12) 0
abbrev sPlus : Stmt := inClass (top 12) 1
abbrev sTimes : Stmt := inClass (top 12) 3
abbrev sEq : Stmt := inClass (top 12) 7
/-! ### what stands at the top -/
structure Txt (K : PySem.W.Frag) (w : World) (mg : Str → Option Value) (d : Addr) (es : Array DictEntry) (n : Nat) : Prop where
  len : mg "len" = none
  range : mg "range" = none
  all : mg "all" = none
  isi : mg "isinstance" = none
  str : mg "str" = none
  bool : mg "bool" = none
  list : mg "list" = none
  zip : mg "zip" = none
  reversed : mg "reversed" = none
  sum : mg "sum" = none
  enum : mg "enumerate" = none
  int : mg "int" = none
  first : ∃ t, mg "FIRST" = some (.str "a" t)
  second : ∃ t, mg "SECOND" = some (.str "b" t)
  least : ∃ t, mg "LEAST_IN_RING" = some (.int 2 t)
  most : ∃ t, mg "MOST_IN_RING" = some (.int 12 t)
  os : mg "RANK" = some (.ref d)
  D : KDict K w d es n
  keys : es.toList.map (fun e => keyText e.key) = [97, 98, 46].map (fun q => some (one q))
  va : ∃ t, PySem.W.nsIn K d "a" = some (some (.int 2 t))
  vb : ∃ t, PySem.W.nsIn K d "b" = some (some (.int 1 t))
  vf : ∃ t, PySem.W.nsIn K d "." = some (some (.int 0 t))
/-- a text in a written dict -/
def rInKd (K : PySem.W.Frag) (d : Addr) : R2 := fun x y H Q => ∃ (z : Str) (r : Option Value), x = .str z ∧ y = .ref d ∧ PySem.W.nsIn K d z = some r ∧ Q (.bl r.isSome) H
theorem op_inKd {X : Cx} {d : Addr} {es : Array DictEntry} {n : Nat} (D : KDict X.K X.w d es n) : OpR X (compareOp .In) (rInKd X.K d) := op_in_kd D
section
variable {P : Program} {w : World} {K : PySem.W.Frag} {mg : Str → Option Value} {base : Heap} {d : Addr} {es : Array DictEntry} {n : Nat}
theorem rank_at (T : Txt K w mg d es n) {c : Nat} (h : c ∈ [97, 98, 46]) : ∃ t, PySem.W.nsIn K d (one c) = some (some (.int (rk c : Int) t)) := by
  simp only [List.mem_cons, List.not_mem_nil, or_false] at h
  rcases h with rfl | rfl | rfl
  · obtain ⟨t, e⟩ := T.va
    rw [show ("a" : Str) = one 97 by decide +kernel] at e
    exact ⟨t, e⟩
  · obtain ⟨t, e⟩ := T.vb
    rw [show ("b" : Str) = one 98 by decide +kernel] at e
    exact ⟨t, e⟩
  · obtain ⟨t, e⟩ := T.vf
    rw [show ("." : Str) = one 46 by decide +kernel] at e
    exact ⟨t, e⟩
theorem at_rt {cs : List Nat} {i : Nat} (h : i < cs.length) : atI (rt cs).cps.toList (i : Int) = some (cs.getD i 0) := atI_nat (by rw [rt_list, List.getElem?_eq_getElem h, List.getD_eq_getElem?_getD, List.getElem?_eq_getElem h]; rfl)
theorem rg_at {cs : List Nat} (h : Rg cs) {i : Nat} (hi : i < cs.length) : cs.getD i 0 ∈ [97, 98, 46] := by
  rw [List.getD_eq_getElem?_getD, List.getElem?_eq_getElem hi]
  exact h.ok _ (List.getElem_mem hi)
/-! ### is_ring -/
def spIsRing (K : PySem.W.Frag) : Sp := fun vs H Q _ => ∃ x b, vs = [x] ∧ RingB K H x b ∧ ∀ H', Same H H' → Q (.bl b) H'
theorem scIsRing : FnScope ["thing", "sign"] ["thing"] (defScope sIsRing) := ⟨rfl, rfl, rfl, by decide +kernel, rfl, by decide +kernel, by decide +kernel⟩
theorem ok_isring {f : Addr} {fd : FuncData} {k : Nat} (F : Fun K "is_ring" "is_ring" sIsRing f fd) (T : Txt K w mg d es n) : FnOk P w K mg base CX0 (k + 1) f fd ["thing"] (spIsRing K) := by
  refine F.ok scIsRing (fun vs H Q E h => ?_) (fun cdv A outer s H vs Q E hr h => ?_)
  · obtain ⟨x, b, rfl, _⟩ := h
    rfl
  · obtain ⟨x, b, rfl, hb, q⟩ := h
    have nd := scIsRing.nd
    obtain ⟨tm, gm⟩ := T.most
    obtain ⟨tl, gl⟩ := T.least
    refine ⟨_, pss_cons (ps_if (PW.pt (pw_or (pt_not (pt_val (pe_callB call_isi (by rfl) T.isi (by decide +kernel) (pa_cons (pv 0) (pa_cons (pe_bltn (v := .ty "str") (by rfl) T.str (by decide +kernel) rfl) pa_nil)))))
          (pw_or (pt_cmpR op_lt (pe_callB call_len_str (by rfl) T.len PySem.boot_len (pa_cons (pv 0) pa_nil)) (pe_glob (v := .int 2) (by rfl) gl ⟨_, rfl⟩) (nomark _))
          (pw_or1 (pt_cmpR op_gt (pe_callB call_len_str (by rfl) T.len PySem.boot_len (pa_cons (pv 0) pa_nil)) (pe_glob (v := .int 12) (by rfl) gm ⟨_, rfl⟩) (nomark _))))))
        (pss_one (ps_ret pe_bl)) pss_nil)
      (pss_one (ps_ret (pe_callB (cr_all rfl) (by rfl) T.all (by decide +kernel) (pa_cons
        (pe_lc (own := [("sign", 1)]) (g := gName 1) (tt := tYes) (te := tOp (rInKd K d) (tVar 1) (tC (.ref d))) rfl nd (pi_str (pv 0)) (blkOk_by (own := [("sign", 1)]) (N := ["thing", "sign"]) (sc := defScope sIsRing) (by decide +kernel))
          (fun _ _ _ _ _ => pg_name (i := 1) nd rfl (Or.inl rfl)) (fun _ _ _ _ _ => pts_nil)
          (fun _ _ _ _ _ => pe_cmpR (op_inKd T.D) (pv 1) (pe_glob (v := .ref d) (by rfl) T.os rfl) (by rfl)))
        pa_nil)))), ?_⟩
    rcases hb with ⟨⟨t, ty, kt⟩, rfl⟩ | ⟨z, rfl, hz, rfl⟩
    · exact ⟨x, rfl, x, .ty "str", t, .type "str", false, rfl, .ty _, ty, kt, false, rfl, q H (Same.refl _)⟩
    · refine ⟨.str z, rfl, .str z, .ty "str", .type "str", .type "str", true, rfl, .ty _, .base (.str _), kit_ty (by decide +kernel), true, rfl, iteF ?_⟩
      refine ⟨.str z, rfl, z, rfl, fit hz, _, _, rfl, rfl, _, rfl, ?_⟩
      by_cases h1 : z.length < 2
      · rw [decide_eq_true (show (z.length : Int) < 2 by omega)]
        have e : isRingB z = false := by
          unfold isRingB
          rw [decide_eq_false (by omega)]
          rfl
        rw [e] at q
        exact q H (Same.refl _)
      rw [decide_eq_false (show ¬ (z.length : Int) < 2 by omega)]
      refine iteF ⟨.str z, rfl, z, rfl, fit hz, _, _, rfl, rfl, _, rfl, ?_⟩
      by_cases h2 : 12 < z.length
      · rw [decide_eq_true (show (z.length : Int) > 12 by omega)]
        have e : isRingB z = false := by
          unfold isRingB
          rw [decide_eq_false (show ¬ z.length ≤ 12 by omega)]
          simp
        rw [e] at q
        exact q H (Same.refl _)
      rw [decide_eq_false (show ¬ (z.length : Int) > 12 by omega)]
      refine iteF ⟨.str z, rfl, z, rfl, fun D hD => ?_⟩
      refine lc_it walk_str (fun i H3 => Same H H3 ∧ H3 D = some (.lst (((z.cps.toList.take i).map okr).map V.bl))) ⟨same_upd hD, upd_same⟩ (fun _ _ _ _ => trivial) ?_ ?_
      · rintro i x H3 H' hi ⟨sm, eD⟩ ⟨rfl, c, hc, rfl⟩
        obtain ⟨r, e1, e2⟩ := key_in T.D.at_ T.keys c
        refine ⟨rfl, .str ⟨#[c]⟩, rfl, ⟨#[c]⟩, r, rfl, rfl, e1, _, eD, ?_, same_new hD sm, ?_⟩
        · rw [List.length_map, List.length_map]
          refine fit' (Nat.le_trans (List.length_take_le _ _) ?_)
          have : i < z.length := hi
          omega
        · rw [upd_same, e2, List.take_add_one, Array.getElem?_toList, hc, List.map_append, List.map_append]
          rfl
      · rintro H3 ⟨sm, eD⟩
        refine ⟨D, (z.cps.toList.map okr), rfl, SqL.of ?_, ?_⟩
        · rw [eD, List.take_of_length_le (by rw [Array.length_toList]; exact Nat.le_refl _)]
        · have e : (z.cps.toList.map okr).all id = isRingB z := by
            unfold isRingB
            rw [decide_eq_true (show 2 ≤ z.length by omega), decide_eq_true (show z.length ≤ 12 by omega), List.all_map]
            rfl
          rw [e]
          exact q H3 sm
/-! ### need_ring -/
def spNeed : Sp := fun vs H Q _ => ∃ cs, vs = [.str (rt cs)] ∧ Rg cs ∧ ∀ H', Same H H' → Q .non H'
theorem scNeed : FnScope ["thing"] ["thing"] (defScope sNeedRing) := ⟨rfl, rfl, rfl, by decide +kernel, rfl, by decide +kernel, by decide +kernel⟩
theorem ok_need {f f1 : Addr} {fd fd1 : FuncData} {k : Nat} (F : Fun K "need_ring" "need_ring" sNeedRing f fd) (N1 : Fn K mg "is_ring" sIsRing ["thing"] f1 fd1) (T : Txt K w mg d es n) : FnOk P w K mg base CX0 (k + 2) f fd ["thing"] spNeed := by
  have G1 : FnOk P w K mg base CX0 (k + 1) f1 fd1 ["thing"] (spIsRing K) := ok_isring N1.F T
  refine F.ok scNeed (fun vs H Q E h => ?_) (fun cdv A outer s H vs Q E hr h => ?_)
  · obtain ⟨cs, rfl, _⟩ := h
    rfl
  · obtain ⟨cs, rfl, hR, q⟩ := h
    refine ⟨_, pss_one (ps_if (pt_not (pt_val (pe_call G1 hr (by rfl) N1.g N1.F.kp N1.b .nil pass0 (pa_cons (pv 0) pa_nil)))) (pss_one ps_never) pss_nil), ?_⟩
    refine ⟨.str (rt cs), rfl, .str (rt cs), true, rfl, .inr ⟨rt cs, rfl, ?_, hR.isB.symm⟩, fun H1 s1 => ⟨true, rfl, iteF (q H1 s1)⟩⟩
    rw [rt_len]
    have := hR.hi
    omega
theorem rgFits {cs : List Nat} (h : Rg cs) : (rt cs).length ≤ sizeLine := rt_fit (Nat.le_trans h.hi (by decide))
def vl (cs : List Nat) : List V := (cs.map one).map V.str
theorem vl_len (cs : List Nat) : (vl cs).length = cs.length := by
  unfold vl
  rw [List.length_map, List.length_map]
theorem vl_at {cs : List Nat} {i : Nat} (h : i < cs.length) : atI (vl cs) (i : Int) = some (.str (one (cs.getD i 0))) := atI_nat (by
  unfold vl
  rw [List.getElem?_map, List.getElem?_map, List.getD_eq_getElem?_getD, List.getElem?_eq_getElem h]
  rfl)
end
end Hop

set_option Elab.async false
set_option linter.all false
set_option maxRecDepth 100000
set_option maxHeartbeats 1000000
namespace HopR
open PySem PySem.Spec PyProof.Rows L2
/-! ### reversed(text) -/
theorem text_norev : typeLookup (.type "str") "__reversed__" = pure none := by rw [typeLookup_type, builtinLookup_eq_fast]; kernel_rfl
theorem text_get : typeLookup (.type "str") "__getitem__" = pure (some (.builtin "str.__getitem__")) := by rw [typeLookup_type, builtinLookup_eq_fast]; kernel_rfl
/-- goes through the text x backwards; the next place is i -/
def RevAt (h : Heap) (a : Addr) (x : Str) (t : Tok) (i : Int) : Prop := ∃ o, h.get? a = some o ∧ o.cls = .type "reversed" ∧ o.data = .fields #[.str x t, rawInt i]
section
variable {prog : Program} {w : World} {A : Around} {E : Value → Shared → Prop} {s : Shared} {x : Str} {t : Tok}
theorem RevAt.kind {a : Addr} {i : Int} (r : RevAt s.heap a x t i) : s.TypeIs (.ref a) "reversed" := r.elim fun o h => ⟨o, h.1, h.2.1⟩
theorem rev_made {Q : Value → Shared → Prop} (few : ¬ (x.length : Int) ≥ 2 ^ 63)
    (q : Q (.ref s.heap.objs.size) { s with heap := s.heap.push { cls := .type "reversed", data := .fields #[.str x t, rawInt ((x.length : Int) - 1)] }, toks := s.toks + 1 + 1 }) : wpAny (model prog w) A (call (.type "reversed") [.str x t]) Q E s := by
  have ty := typeIs_str s x t
  refine callType_codes (Q₁ := fun obj s' => s'.TypeIs obj "reversed" ∧ Q obj s') RT.called_rt (F.typeCall_reversed_1 _) F.entry_object_init (codeAny_of_tree ?_) fun obj s' h =>
    ⟨h.1, F.args_object_init_2 obj _, object_init_meets RT.called_rt.init.lookup RT.called_rt.made (by decide) prog w A.in1 _ s' ⟨h.1, rfl, h.2⟩⟩
  show wpAny _ A.in1.in1 (do checkBuiltinCall "reversed.__new__" ⟨[.type "reversed", .str x t], []⟩; again (.builtin "reversed.__new__" ⟨[.type "reversed", .str x t], []⟩)) _ _ s
  refine wpAny_bind (wpAny_of_eq (F.newCall_reversed_1 _) (wpAny_pure ⟨plainId_quiet F.plain_reversed_new _, codeAny_builtin F.entry_reversed_new ?_⟩))
  rw [Around.under_plainId F.plain_reversed_new _]
  unfold Builtin.«reversed.__new__»
  refine wpAny_bind (wpAny_of_eq (newClass_reversed _) (wpAny_bind (wpAny_of_eq (a := ()) rfl (wpAny_bind (wpAny_of_eq (a := ()) rfl ?_)))))
  refine wpAny_bind (wpAny_specialOf ty text_norev ?_)
  refine wpAny_bind ?_
  wp_delta
  refine wpAny_bind (wpAny_isInstance (T := "str") (U := "dict") (b := false) ty PySem.F.sub_str_dict ?_)
  rw [if_neg Bool.false_ne_true]
  refine wpAny_bind (wpAny_specialOf ty text_get ?_)
  refine wpAny_pure ?_
  rw [if_neg (by decide)]
  refine wpAny_bind (len_str few (wpAny_bind (wpAny_of_eq (a := some ((x.length : Nat) : Int)) rfl (wpAny_bind ?_))))
  show wpAny _ _ (newObj (.type "reversed") (.fields #[.str x t, rawInt ((x.length : Int) - 1)])) _ _ _
  exact wpAny_newObj_type (wpAny_pure ⟨⟨_, Heap.get?_push_size _ rfl, rfl⟩, q⟩)
/-- one sign more -/
theorem rev_item {a : Addr} {i c : Nat} {Q : Option Value → Shared → Prop} (r : RevAt s.heap a x t (i : Int)) (hc : x.cps[i]? = some c) (few : x.length ≤ sizeLine)
    (q : ∀ h' k u, RevAt h' a x t ((i : Int) - 1) → Heap.SameBut a s.heap h' → Q (some (.str ⟨#[c]⟩ u)) { s with heap := h', toks := k }) : wpAny (model prog w) A (pyNext (.ref a)) Q E s := by
  obtain ⟨o, ho, cls, dat⟩ := id r
  have lt : i < x.length := (Array.getElem?_eq_some_iff.mp hc).1
  rw [sizeLine_eq] at few
  have spot : (seqIndex? (i : Int) x.length).bind (x.cps[·]?) = some c := by
    rw [seqIndex_of (by omega) (by omega)]
    exact hc
  unfold pyNext
  refine wpAny_bind (wpAny_attempt (wpAny_callSpecial?_slot (name := Str.ofString "__next__") r.kind RT.slot_rt_next (wpAny_call_entry RT.slot_rt_next r.kind RT.entry_rt_next ?_ (RT.args_rt_next _))))
  unfold Builtin.«reversed.__next__»
  refine wpAny_bind (wpAny_of_eq (a := (Value.ref a, [])) rfl (wpAny_bind (wpAny_field ho dat (x := .str x t) rfl (wpAny_bind (wpAny_field ho dat (x := rawInt (i : Int)) rfl ?_)))))
  show wpAny _ _ (if (i : Int) < 0 then _ else _) _ _ s
  rw [if_neg (by omega)]
  refine wpAny_bind (wpAny_specialOf (typeIs_str s x t) text_get ?_)
  rw [if_neg (by decide)]
  refine wpAny_bind (wpAny_mkInt (wpAny_bind (wpAny_attempt (PyProof.Rows.getItem_str (s := { s with toks := s.toks + 1 }) (by
    rw [decide_eq_false (by omega), decide_eq_false (by omega)]
    rfl) spot ?_))))
  refine wpAny_bind (wpAny_field (s := { s with toks := s.toks + 1 + 1 }) ho dat (x := rawInt (i : Int)) rfl ?_)
  refine wpAny_bind (wpAny_setField (s := { s with toks := s.toks + 1 + 1 }) ho dat (by simp) ?_)
  have out : RevAt (s.heap.update a (Obj.mapFields (·.setIfInBounds 1 (rawInt ((i : Int) - 1))))) a x t ((i : Int) - 1) :=
    ⟨_, Heap.get?_update_self _ ho (Obj.isFreed_of_fields (Obj.data_mapFields dat _)), (Obj.cls_mapFields ..).trans cls, by rw [Obj.data_mapFields dat]; simp⟩
  exact wpAny_pure ⟨_, rfl, wpAny_pure (q _ _ _ out (Heap.SameBut.update ..))⟩
theorem stop_raised {α : Type} {Q : α → Shared → Prop} (calm : A.handled = none) (q : ∀ h' e, (∀ b o, s.heap.get? b = some o → h'.get? b = some o) → (∃ o, h'.get? e = some o ∧ o.cls = .type "StopIteration") → E (.ref e) { s with heap := h' }) :
    wpAny (model prog w) A (Builtin.SmallTypes.stopIteration : Sem α) Q E s := by
  unfold Builtin.SmallTypes.stopIteration
  simp only [newExc, newTuple, raiseNew]
  refine wpAny_bind (wpAny_bind (wpAny_newObj_type (wpAny_bind (m := firstArgMember _ _) (wpAny_of_eq (a := Value.none) rfl (wpAny_newObj_type ?_ (by size_fits)))) (by size_fits)))
  refine wpAny_bind (wpAny_handled ?_)
  rw [calm]
  exact wpAny_bind (wpAny_pure (wpAny_throw (q _ _ (fun b o e => Heap.get?_push_of_some _ (Heap.get?_push_of_some _ e)) ⟨_, Heap.get?_push_size _ rfl, rfl⟩)))
/-- no sign is left -/
theorem rev_end {a : Addr} {Q : Option Value → Shared → Prop} (calm : A.handled = none) (r : RevAt s.heap a x t (-1)) (q : ∀ h', Heap.ExtBut a s.heap h' → Q none { s with heap := h' }) : wpAny (model prog w) A (pyNext (.ref a)) Q E s := by
  obtain ⟨o, ho, cls, dat⟩ := id r
  unfold pyNext
  refine wpAny_bind (wpAny_attempt (wpAny_callSpecial?_slot (name := Str.ofString "__next__") r.kind RT.slot_rt_next (wpAny_call_entry RT.slot_rt_next r.kind RT.entry_rt_next ?_ (RT.args_rt_next _))))
  unfold Builtin.«reversed.__next__»
  refine wpAny_bind (wpAny_of_eq (a := (Value.ref a, [])) rfl (wpAny_bind (wpAny_field ho dat (x := .str x t) rfl (wpAny_bind (wpAny_field ho dat (x := rawInt (-1)) rfl ?_)))))
  show wpAny _ _ (if (-1 : Int) < 0 then _ else _) _ _ s
  rw [if_pos (by decide)]
  refine wpAny_bind (wpAny_rule (wpAny_bind ?_))
  wp_delta
  have ho2 := Heap.get?_update_self (Obj.mapFields (·.setIfInBounds 1 (rawInt (-1)))) ho (Obj.isFreed_of_fields (Obj.data_mapFields dat _))
  refine wpAny_bind (wpAny_setField ho dat (by simp) (wpAny_setField (s := { s with heap := s.heap.update a (Obj.mapFields (·.setIfInBounds 1 (rawInt (-1)))) }) ho2 (Obj.data_mapFields dat _) (by simp) ?_))
  have calm1 : A.in1.handled = none := calm
  refine wpAny_bind (stop_raised calm1 fun h' e old ⟨oe, he, ce⟩ => ?_)
  refine wpAny_bind (wpAny_isInstance (T := "StopIteration") (b := true) ⟨oe, he, ce⟩ isSubtype_stop (wpAny_pure (q _ fun b ob nb g => old b ob ?_)))
  exact (Heap.get?_update_other _ _ (Ne.symm nb)).trans ((Heap.get?_update_other _ _ (Ne.symm nb)).trans g)
end
end HopR

set_option Elab.async false
set_option linter.all false
set_option maxRecDepth 100000
namespace HopR
open PySem PySem.Spec PyProof.Rows L2
/-- the signs of a text from its end on -/
def ItRevS (x : Str) : It := ⟨fun i _ => i < x.cps.size, fun i H v H' => H' = H ∧ ∃ c, x.cps[x.cps.size - 1 - i]? = some c ∧ v = .str ⟨#[c]⟩, fun i _ => x.cps.size ≤ i⟩
theorem turn_revS {P : Program} {w : World} {K : PySem.W.Frag} {tg : Expr} (it : Addr) (x : Str) (t : Tok) (few : x.length ≤ sizeLine) : Turn P w K tg (ItRevS x) [it] it (fun i h => i ≤ x.cps.size ∧ RevAt h it x t ((x.cps.size : Int) - 1 - (i : Nat))) where
  mem := List.mem_singleton.mpr rfl
  obj i h st b hb := by
    obtain rfl := List.mem_singleton.mp hb
    obtain ⟨_, o, g, _, d⟩ := st
    exact ⟨o, g, fun v z => by rw [d] at z; cases z⟩
  keep i h h' st k := let ⟨o, g, r⟩ := st.2; ⟨st.1, o, k it (List.mem_singleton.mpr rfl) o g, r⟩
  item := by
    intro X hP hw hK calm i pins s σ H E I free st go
    subst hP hw hK
    obtain ⟨f0, f1, _, f3, f4, f5⟩ := free it (List.mem_singleton.mpr rfl)
    have go : i < x.cps.size := go
    obtain ⟨_, r⟩ := st
    rw [show (x.cps.size : Int) - 1 - (i : Nat) = ((x.cps.size - 1 - i : Nat) : Int) by omega] at r
    have hc : x.cps[x.cps.size - 1 - i]? = some (x.cps[x.cps.size - 1 - i]'(by omega)) := Array.getElem?_eq_getElem _
    refine rev_item r hc few fun h' k u r' sb => ⟨_, rfl, ?_⟩
    have J : Inv X pins σ H { s with heap := h', toks := k } := I.turned (t' := k) (fun b o nb g => (sb.2 b nb).trans g) f0 f1 f3 f4 f5
    obtain ⟨o, g, c, d⟩ := id r'
    refine go_of (s := { s with heap := h', toks := k }) g c d (by decide) ⟨.str ⟨#[_]⟩, H, J, ⟨u, rfl⟩, ⟨rfl, _, hc, rfl⟩, ⟨go, ?_⟩, fun b hb => (free b hb).1⟩
    rw [show (x.cps.size : Int) - 1 - ((i + 1 : Nat) : Int) = ((x.cps.size - 1 - i : Nat) : Int) - 1 by omega]
    exact r'
  done := by
    intro X hP hw hK calm i pins s σ H E I free st stop
    subst hP hw hK
    obtain ⟨f0, f1, _, f3, f4, f5⟩ := free it (List.mem_singleton.mpr rfl)
    have stop : x.cps.size ≤ i := stop
    obtain ⟨le, r⟩ := st
    rw [show (x.cps.size : Int) - 1 - (i : Nat) = -1 by omega] at r
    exact rev_end (I.ok.hd calm) r fun h' eb => ⟨rfl, I.turned (t' := s.toks) (fun b o nb g => eb b o nb g) f0 f1 f3 f4 f5⟩
  self A i s Q E st q := by
    refine wpAny_pyIter_slot st.2.kind RT.slot_rt_iter (wpAny_call_entry RT.slot_rt_iter st.2.kind RT.entry_rt_iter ?_ (RT.args_rt_iter _))
    show wpAny _ _ (ret (.ref it)) _ _ s
    exact wpAny_pure ⟨_, rfl, "reversed", _, st.2.kind, RT.slot_rt_next.lookup, q⟩
theorem walk_revS {x : Str} : Walk (ItRevS x) x.cps.size (fun _ => True) (fun i H v H' => H' = H ∧ ∃ c, x.cps[x.cps.size - 1 - i]? = some c ∧ v = .str ⟨#[c]⟩) :=
  ⟨fun _ _ lt _ => lt, fun _ _ => Nat.le_refl _, fun _ _ _ _ _ _ y => y⟩
def iRevS (te : TE) : TI := fun σ H R => te σ H fun v H1 => ∃ x : Str, v = .str x ∧ x.length ≤ sizeLine ∧ R (ItRevS x) H1
theorem pi_revS {X : Cx} {tg e : Expr} {te : TE} {p pos : Pos} (hg : Gl X "reversed") (hm : X.mg "reversed" = none) (he : PE X e te) (hs : starEach [e] X.env = (false, eval e X.env) :: starEach [] X.env := by rfl) : PI X tg (.Call (.Name "reversed" p) [e] [] pos) (iRevS te) := by
  constructor
  intro pins s σ H R I h
  refine Call_ (ld_blt I hg hm PyProof.Rows.boot_reversed (callWith_type1 (args_cons (thn (he.run pins s σ H _ I h) ?_) hs) hs rfl))
  rintro v s1 ⟨_, H1, J, rel, x, rfl, few, q⟩
  obtain ⟨t, rfl⟩ := rel
  refine args_nil (rev_made (by have := few; rw [sizeLine_eq] at this; omega) ?_)
  have gone : RevAt (s1.heap.push { cls := .type "reversed", data := .fields #[.str x t, rawInt ((x.length : Int) - 1)] }) s1.heap.objs.size x t ((x.cps.size : Int) - 1 - ((0 : Nat) : Int)) := ⟨_, Heap.get?_push_size _ rfl, rfl, by
    show Data.fields #[.str x t, rawInt ((x.length : Int) - 1)] = _
    rw [show (x.cps.size : Int) - 1 - ((0 : Nat) : Int) = (x.length : Int) - 1 by show (x.cps.size : Int) - 1 - ((0 : Nat) : Int) = (x.cps.size : Int) - 1; omega]⟩
  have J2 : Inv X pins σ H1 { s1 with heap := s1.heap.push { cls := .type "reversed", data := .fields #[.str x t, rawInt ((x.length : Int) - 1)] }, toks := s1.toks + 1 + 1 } := J.kept fun b o g => Heap.get?_push_of_some _ g
  refine (turn_revS (P := X.prog) (w := X.w) (K := X.K) (tg := tg) s1.heap.objs.size x t few).self X.A 0 _ _ _ ⟨Nat.zero_le _, gone⟩ ?_
  exact ⟨_, _, _, ItRevS x, H1, rfl, J2, turn_revS _ x t few, ⟨Nat.zero_le _, gone⟩, fun b hb => by
    obtain rfl := List.mem_singleton.mp hb
    exact J.fpOk (Nat.le_refl _) (J.hok.fresh (Nat.le_refl _)), q⟩
end HopR

set_option Elab.async false
set_option linter.all false
set_option maxRecDepth 100000
namespace HopR
open PySem PySem.Spec PyProof.Rows L2
theorem noxT {X : Cx} {st : List Stmt} {t : TS} (h : PSsT X.nox st t) : PSsT X st t := fun pins s σ H D h0 I hw =>
  wpAny_mono (h pins s σ H D h0 (I.wish _) hw) (fun _ _ q => SP.unwish q) fun _ _ z => z.elim
/-- a def whose body begins where a token is out -/
theorem okT {P : Program} {w : World} {K : PySem.W.Frag} {mg : Str → Option Value} {base : Heap} {x qual : Str} {st : Stmt} {f : Addr} {fd : FuncData} {N ps : List Str} {k : Nat} {sp : Sp} (F : Fun K x qual st f fd) (S : FnScope N ps (defScope st)) (hnc : ∀ y ∈ (defScope st).names, y.2 ≠ .cell) (hps : 1 ≤ ps.length) (len : ∀ vs H Q E, sp vs H Q E → vs.length = ps.length)
    (body : ∀ (cdv : Value) (A : Around) (outer : List Env) (s : Shared) (H : Hp) (vs : List V) (Q : VK) (E : XK), Room k (A.deeper (envOfC qual (defScope st) s.heap.objs.size f cdv)) → sp vs H Q E →
      ∃ t, PSsT (cxOf CX0 P w K mg base N qual (defScope st) f cdv A outer s H E).nox (defBody st) t ∧ t { nx := fun _ H' => Q .non H', rt := Q } (start N vs) H) : FnOk P w K mg base CX0 (k + 1) f fd ps sp := by
  obtain ⟨_, _, _, _, _, _, cdv, _, _, rfl, lk, code⟩ := F.ex
  refine fn_ofT lk code S hnc hps len fun A outer s H vs Q E room h => ?_
  obtain ⟨t, b, q⟩ := body cdv A outer s H vs Q E room h
  exact ⟨t, noxT b, q⟩
end HopR

set_option Elab.async false
set_option linter.all false
set_option maxRecDepth 100000
namespace HopR
open PySem PySem.Spec PyProof.Rows L2
section
variable {X : Cx}
/-- tuple(text) -/
def rTupT : List V → Hp → VK → Prop := fun vs H Q => ∃ z : Str, vs = [.str z] ∧ z.length ≤ sizeLine ∧ ∀ p : Addr, H p = none → Q (.ref p) (upd H p (.tup ((sg z).map V.str)))
theorem cr_tupT (hcm : X.calm = true) : CallR X (.type "tuple") rTupT := by
  rintro pins s σ H _ us Q I r ⟨z, rfl, hz, q⟩
  obtain ⟨_, rfl, t, rfl⟩ := vals1 r
  refine call_tuple_str (I.ok.hd hcm) z t (fun h' tk acc old items => ?_) hz
  have after : Inv X pins σ H { s with heap := h', toks := tk } := I.kept old
  refine ⟨.ref h'.objs.size, _, after.laid (t' := tk) (fun b o e => Heap.get?_push_of_some _ e) (Nat.le_refl _) ?_, rfl, q _ (after.hok.fresh (Nat.le_refl _))⟩
  refine ⟨by rw [List.length_map, sg_len]; exact hz, acc.toList, vals_of_strs (signs_are items), ?_⟩
  rw [Array.toArray_toList]
  exact IsTup.new _ _
end
/-! ### lists of whole numbers as data -/
def dis (zs : List Int) : List PyData := zs.map PyData.int
theorem dp_ints {K : PySem.W.Frag} {H : Hp} : ∀ zs : List Int, DpAll K H (zs.map V.int) (dis zs)
  | [] => .nil
  | z :: r => .cons (.int z) (dp_ints r)
theorem lay_ints : ∀ zs : List Int, PyData.canLayAll0 (dis zs) = true
  | [] => rfl
  | z :: r => by
    show PyData.canLayAll0 (.int z :: dis r) = true
    simp only [PyData.canLayAll0, lay_ints r, Bool.and_true]
    rfl
theorem deep_ints : ∀ zs : List Int, PyData.depthAll (dis zs) = 0
  | [] => rfl
  | z :: r => by
    show PyData.depthAll (.int z :: dis r) = 0
    simp only [PyData.depthAll, deep_ints r]
    rfl
theorem shaped_zs (zs : List Int) : SeqAt.shaped (.list (dis zs)) = true := by
  unfold SeqAt.shaped
  rw [Bool.and_eq_true]
  refine ⟨?_, decide_eq_true ?_⟩
  · simp only [PyData.canLay0, lay_ints]
  · simp only [PyData.depth, deep_ints]
    decide
theorem cut_ints (ns : List Int) (hi : Int) (hl : ns.length ≤ 63) : ∃ zs : List Int, cutV (ns.map V.int) none (some hi) = zs.map V.int ∧ zs.length ≤ 63 := by
  unfold cutV
  refine ⟨(ns.drop (HT.sIx (ns.map V.int).length 0 none)).take (HT.sIx (ns.map V.int).length (ns.map V.int).length (some hi) - HT.sIx (ns.map V.int).length 0 none), by rw [List.map_take, List.map_drop], ?_⟩
  rw [List.length_take, List.length_drop]
  omega
end HopR

set_option Elab.async false
set_option linter.all false
set_option maxRecDepth 100000
namespace Hop
open PySem L2 HopR
section
variable {P : Program} {w : World} {K : PySem.W.Frag} {mg : Str → Option Value} {base : Heap} {d : Addr} {es : Array DictEntry} {n : Nat}
/-! ### the draws -/
theorem scDrawn : FnScope ["_law_cell", "_law_sizes", "_law_found", "_law_left", "_law_k", "_law_small", "_law_one", "_law_two"] ["_law_cell", "_law_sizes"] (defScope sDrawn) := ⟨rfl, rfl, rfl, by decide +kernel, rfl, by decide +kernel, by decide +kernel⟩
theorem ok_drawn {f : Addr} {fd : FuncData} {k : Nat} (F : Fun K "_law_drawn" "_law_drawn" sDrawn f fd) (mL : mg "len" = none) (mR : mg "range" = none) : FnOk P w K mg base CX0 (k + 1) f fd ["_law_cell", "_law_sizes"] (spDrawn K) := by
  refine F.ok scDrawn (fun vs H Q E h => ?_) (fun cdv A outer s H vs Q E hr h => ?_)
  · obtain ⟨c, a, zs, rfl, _⟩ := h
    rfl
  · obtain ⟨c, a, zs, rfl, hS, hz, hlen, q⟩ := h
    have nd := scDrawn.nd
    refine ⟨_, pss_cons (ps_set (i := 2) nd rfl (.inl rfl) (pe_lst pa_nil))
      (pss_cons (ps_set (i := 3) nd rfl (.inl rfl) (pv 0))
      (pss_cons (ps_for PassesOwn.never rfl (pi_range1 (by rfl) mR (pa_cons (pe_callB call_len_seq (by rfl) mL PySem.boot_len (pa_cons (pv 1) pa_nil)) pa_nil)) (pg_name (i := 4) nd rfl (.inl rfl))
        (pss_one (ps_if (pt_cmpR op_ge (pv 3) (pe_op op_pow pe_int pe_int) (nomark _))
          (pss_cons (ps_expr (pe_bm PySem.F.plainAttrs_list PySem.F.slot_list_append PySem.F.type_list_append mt_append (pv 2) (pa_cons (pe_op op_mod (pv 3) (pe_ix ix_list (pv 1) (pv 4) (fun _ _ => rfl))) pa_nil)))
            (pss_one (ps_set (i := 3) nd rfl (.inl rfl) (pe_op op_fdivW (pv 3) (pe_ix ix_list (pv 1) (pv 4) (fun _ _ => rfl))))))
          (pss_cons (ps_set (i := 5) nd rfl (.inl rfl) (pe_op op_mod (pv 3) (pe_op op_pow pe_int pe_int)))
          (pss_cons (ps_set (i := 6) nd rfl (.inl rfl) (pe_op op_mod (pe_op op_mul (pe_op op_add (pe_op op_add (pv 5) (pe_op op_mul pe_int (pv 4))) pe_int) (pe_op op_add pe_int (pe_op op_mul (pe_op op_mul pe_int (pv 4)) (pv 4)))) pe_int))
          (pss_cons (ps_set (i := 7) nd rfl (.inl rfl) (pe_op op_mod (pe_op op_mul (pe_op op_add (pe_op op_add (pe_op op_fdiv (pv 5) pe_int) (pe_op op_mul pe_int (pv 4))) pe_int) (pe_op op_add pe_int (pe_op op_mul pe_int (pv 4)))) pe_int))
          (pss_one (ps_expr (pe_bm PySem.F.plainAttrs_list PySem.F.slot_list_append PySem.F.type_list_append mt_append (pv 2) (pa_cons (pe_op op_mod (pe_op op_add (pe_op op_mul (pv 6) (pv 7)) (pe_op op_fdiv (pv 6) pe_int)) (pe_ix ix_list (pv 1) (pv 4) (fun _ _ => rfl))) pa_nil))))))))))
      (pss_one (ps_ret (pv 2))))), ?_⟩
    -- found = []; left = cell
    refine ⟨Nat.zero_le _, fun o no => ?_⟩
    have s1 : Same H (upd H o (.lst [])) := same_upd no
    refine ⟨.int c, rfl, .ref a, rfl, a, zs.map V.int, rfl, .inl (s1.seq hS), ((zs.map V.int).length : Int), rfl, by omega, (by rw [List.length_map]; omega), ?_⟩
    refine for_range (lo := 0) (n := zs.length) (fun i σ H3 => ∃ (l : Int) (y4 y5 y6 y7 : Option V) (ds : List Int), σ = [some (.int c), some (.ref a), some (.ref o), some (.int l), y4, y5, y6, y7] ∧
        Same H H3 ∧ H3 o = some (.lst (ds.map V.int)) ∧ ds.length = i ∧ ds ++ draws l i (zs.drop i) = draws c 0 zs)
      ⟨c, none, none, none, none, [], rfl, s1, upd_same, rfl, by simp⟩ ?_ ?_ |> (fun h => by rw [List.length_map]; exact h)
    · rintro i σ H3 hi ⟨l, y4, y5, y6, y7, ds, rfl, sm, eo, el, ed⟩
      have hA : SqL K H3 a (zs.map V.int) := sm.seq hS
      have hz1 := hz zs[i] (List.getElem_mem hi)
      have gz : zs[i]? = some zs[i] := List.getElem?_eq_getElem hi
      have g : atI (zs.map V.int) (i : Int) = some (.int zs[i]) := atI_nat (by rw [List.getElem?_map, gz]; rfl)
      have hd : zs.drop i = zs[i] :: zs.drop (i + 1) := List.drop_eq_getElem_cons hi
      rw [hd] at ed
      have ed' : (ds ++ [dval l i zs[i]]) ++ draws (dleft l zs[i]) (i + 1) (zs.drop (i + 1)) = draws c 0 zs := by
        rw [List.append_assoc]
        exact ed
      have small : (ds.map V.int).length < sizeLine := by
        rw [List.length_map]
        exact small1000 (by omega)
      rw [Int.zero_add]
      refine ⟨.int l, rfl, 10, 18, rfl, rfl, ⟨by decide, by decide, by decide⟩, l, 10 ^ 18, rfl, rfl, _, rfl, ite2 (fun e => ?_) (fun e => ?_)⟩
      · have e : (1000000000000000000 : Int) ≤ l := of_decide_eq_true e
        refine ⟨.ref o, rfl, .inl ⟨rfl, _, SqL.of eo⟩, .int l, rfl, .ref a, rfl, .int (i : Int), rfl, a, _, _, _, rfl, rfl, hA, g, l, zs[i], rfl, rfl, hz1.1, o, _, _, rfl, rfl, eo, small, ?_⟩
        have e1 : dval l i zs[i] = l % zs[i] := by
          unfold dval
          rw [if_pos e]
        have e2 : dleft l zs[i] = l / zs[i] := by
          unfold dleft
          rw [if_pos e]
        have sm2 : Same H (upd H3 o (.lst (ds.map V.int ++ [.int (l % zs[i])]))) := same_new no sm
        refine ⟨.int l, rfl, .ref a, rfl, .int (i : Int), rfl, a, _, _, _, rfl, rfl, sm2.seq hS, g, l, zs[i], rfl, rfl, wide_div hz1.1 (b := 64) (by have := hz1.2; have := hz1.1; omega) (by decide) (by decide), ?_⟩
        refine ⟨_, _, _, _, _, ds ++ [dval l i zs[i]], rfl, sm2, ?_, ?_, ?_⟩
        · rw [upd_same, e1, List.map_append]
          rfl
        · rw [List.length_append, el]
          rfl
        · rw [← e2]
          exact ed'
      · have e : ¬ (1000000000000000000 : Int) ≤ l := fun z => e (decide_eq_true z)
        have e2 : dleft l zs[i] = l := by
          unfold dleft
          rw [if_neg e]
        have hi1000 : (i : Int) < 1000 := by omega
        have s0 : 0 ≤ l % 1000000000000000000 := Int.emod_nonneg _ (by decide)
        have s9 : l % 1000000000000000000 < 1000000000000000000 := Int.emod_lt_of_pos _ (by decide)
        refine ⟨.int l, rfl, 10, 18, rfl, rfl, ⟨by decide, by decide, by decide⟩, l, 10 ^ 18, rfl, rfl, (show (0 : Int) < 10 ^ 18 by decide), ?_⟩
        refine ⟨_, rfl, .int (i : Int), rfl, 7, i, rfl, rfl, .inl ⟨by decide, by decide⟩, _, _, rfl, rfl, _, _, rfl, rfl, .int (i : Int), rfl, 2, i, rfl, rfl, .inl ⟨by decide, by decide⟩, .int (i : Int), rfl, _, _, rfl, rfl, .inl ⟨by omega, by omega⟩, _, _, rfl, rfl, _, _, rfl, rfl,
          .inl ⟨by show -(2 ^ 64) < l % 1000000000000000000 + 7 * (i : Int) + 1; omega, by show l % 1000000000000000000 + 7 * (i : Int) + 1 < 2 ^ 64; omega⟩, _, _, rfl, rfl, (show (0 : Int) < 2147483647 by decide), ?_⟩
        refine ⟨_, rfl, _, _, rfl, rfl, ⟨by decide, by decide⟩, .int (i : Int), rfl, 11, i, rfl, rfl, .inl ⟨by decide, by decide⟩, _, _, rfl, rfl, _, _, rfl, rfl, .int (i : Int), rfl, 6, i, rfl, rfl, .inl ⟨by decide, by decide⟩, _, _, rfl, rfl, _, _, rfl, rfl,
          .inl ⟨by show -(2 ^ 64) < l % 1000000000000000000 / 3 + 11 * (i : Int) + 5; omega, by show l % 1000000000000000000 / 3 + 11 * (i : Int) + 5 < 2 ^ 64; omega⟩, _, _, rfl, rfl, (show (0 : Int) < 2147483629 by decide), ?_⟩
        have o0 := Int.emod_nonneg ((l % 1000000000000000000 + 7 * (i : Int) + 1) * (48271 + 2 * (i : Int) * (i : Int))) (show (2147483647 : Int) ≠ 0 by decide)
        have o9 := Int.emod_lt_of_pos ((l % 1000000000000000000 + 7 * (i : Int) + 1) * (48271 + 2 * (i : Int) * (i : Int))) (show (0 : Int) < 2147483647 by decide)
        refine ⟨.ref o, rfl, .inl ⟨rfl, _, SqL.of eo⟩, _, rfl, _, rfl, _, _, rfl, rfl, .inl ⟨Int.lt_of_lt_of_le (by decide) o0, Int.lt_trans o9 (by decide)⟩, _, rfl, _, _, rfl, rfl, ⟨by decide, by decide⟩, _, _, rfl, rfl, .ref a, rfl, .int (i : Int), rfl, a, _, _, _, rfl, rfl, hA, g, _, zs[i], rfl, rfl, hz1.1, o, _, _, rfl, rfl, eo, small, ?_⟩
        have e1 : dval l i zs[i] = ((l % 1000000000000000000 + 7 * (i : Int) + 1) * (48271 + 2 * (i : Int) * (i : Int)) % 2147483647 * ((l % 1000000000000000000 / 3 + 11 * (i : Int) + 5) * (39373 + 6 * (i : Int)) % 2147483629) + (l % 1000000000000000000 + 7 * (i : Int) + 1) * (48271 + 2 * (i : Int) * (i : Int)) % 2147483647 / 64) % zs[i] := by
          unfold dval
          rw [if_neg e]
        refine ⟨_, _, _, _, _, ds ++ [dval l i zs[i]], rfl, same_new no sm, ?_, ?_, ?_⟩
        · rw [upd_same, e1, List.map_append]
          rfl
        · rw [List.length_append, el]
          rfl
        · rw [e2] at ed'
          exact ed'
    · rintro σ H3 ⟨l, y4, y5, y6, y7, ds, rfl, sm, eo, el, ed⟩
      rw [List.drop_length] at ed
      have ed : ds = draws c 0 zs := by
        rw [← ed]
        show ds = ds ++ []
        rw [List.append_nil]
      subst ed
      exact ⟨.ref o, rfl, q H3 o sm no eo⟩

/-! ### _law_ring -/
def spLRing : Sp := fun vs H Q _ => ∃ c M : Int, vs = [.int c, .int M] ∧ (M = 5 ∨ M = 12) ∧ ∀ H' cs, Same H H' → Rg cs → (cs.length : Int) ≤ M → Q (.str (rt cs)) H'
theorem scLRing : FnScope ["_law_cell", "_law_most", "_law_draws", "_law_menu", "_law_draw"] ["_law_cell", "_law_most"] (defScope sLRing) := ⟨rfl, rfl, rfl, by decide +kernel, rfl, by decide +kernel, by decide +kernel⟩
theorem sizes14 : ∀ z ∈ ([11, 4] ++ List.replicate 12 3 : List Int), SizeOk z := by
  intro z hz
  rcases List.mem_append.mp hz with h | h
  · rcases List.mem_cons.mp h with rfl | h
    · exact ⟨by decide, by decide⟩
    · obtain rfl := List.mem_singleton.mp h
      exact ⟨by decide, by decide⟩
  · rw [(List.mem_replicate.mp h).2]
    exact ⟨by decide, by decide⟩
theorem sizes7 : ∀ z ∈ ([4, 4] ++ List.replicate 5 3 : List Int), SizeOk z := by
  intro z hz
  rcases List.mem_append.mp hz with h | h
  · rcases List.mem_cons.mp h with rfl | h
    · exact ⟨by decide, by decide⟩
    · obtain rfl := List.mem_singleton.mp h
      exact ⟨by decide, by decide⟩
  · rw [(List.mem_replicate.mp h).2]
    exact ⟨by decide, by decide⟩
def menu : Nat → List Nat
  | 0 => [97, 98, 46]
  | 1 => [97, 98, 46]
  | 2 => [97, 46, 46]
  | _ => [98, 97, 97]
theorem menu_len (m : Nat) : (menu m).length = 3 := by
  unfold menu
  split <;> rfl
theorem menu_ok (m : Nat) : ∀ c ∈ menu m, c ∈ [97, 98, 46] := by
  unfold menu
  split <;> decide
theorem ok_lring {f f1 : Addr} {fd fd1 : FuncData} {k : Nat} (F : Fun K "_law_ring" "_law_ring" sLRing f fd) (N1 : Fn K mg "_law_drawn" sDrawn ["_law_cell", "_law_sizes"] f1 fd1) (T : Txt K w mg d es n) : FnOk P w K mg base CX0 (k + 2) f fd ["_law_cell", "_law_most"] spLRing := by
  have G1 : FnOk P w K mg base CX0 (k + 1) f1 fd1 ["_law_cell", "_law_sizes"] (spDrawn K) := ok_drawn N1.F T.len T.range
  refine F.ok scLRing (fun vs H Q E h => ?_) (fun cdv A outer s H vs Q E hr h => ?_)
  · obtain ⟨c, M, rfl, _⟩ := h
    rfl
  · obtain ⟨c, M, rfl, hM, q⟩ := h
    have nd := scLRing.nd
    refine ⟨_, pss_cons (ps_set (i := 2) nd rfl (.inl rfl) (pe_call G1 hr (by rfl) N1.g N1.F.kp N1.b .nil pass0 (pa_cons (pv 0) (pa_cons (pe_op op_cat (pe_lst (pa_cons (pe_op op_sub (pv 1) pe_int) (pa_cons pe_int pa_nil))) (pe_op op_rep (pe_lst (pa_cons pe_int pa_nil)) (pv 1))) pa_nil))))
      (pss_cons (ps_set (i := 3) nd rfl (.inr rfl) (pe_ix ix_list (pe_lst (pa_cons (pe_lst (pa_cons pe_str (pa_cons pe_str (pa_cons pe_str pa_nil)))) (pa_cons (pe_lst (pa_cons pe_str (pa_cons pe_str (pa_cons pe_str pa_nil)))) (pa_cons (pe_lst (pa_cons pe_str (pa_cons pe_str (pa_cons pe_str pa_nil))))
          (pa_cons (pe_lst (pa_cons pe_str (pa_cons pe_str (pa_cons pe_str pa_nil)))) pa_nil))))) (pe_ix ix_list (pv 2) pe_int (fun _ _ => rfl)) (fun _ _ => rfl)))
      (pss_one (ps_ret (pe_join pe_str (pe_lc (own := [("_law_draw", 4)]) (g := gName 4) (tt := tYes) rfl nd (pi_list (pe_slice sl_list (pv 2) (po_some pe_int) (po_some (pe_op op_add pe_int (pe_ix ix_list (pv 2) pe_int (fun _ _ => rfl))))))
        (blkOk_by (own := [("_law_draw", 4)]) (N := ["_law_cell", "_law_most", "_law_draws", "_law_menu", "_law_draw"]) (sc := defScope sLRing) (by decide +kernel))
        (fun _ _ _ _ _ => pg_name (i := 4) nd rfl (Or.inl rfl)) (fun _ _ _ _ _ => pts_nil) (fun _ _ _ _ _ => pe_ix (show IxR _ (rIxL K) from ix_list) (pv 3) (pv 4) (fun _ _ => rfl))))))), ?_⟩
    rcases hM with rfl | rfl
    · refine ⟨.int c, rfl, .int 5, rfl, _, _, rfl, rfl, (by show 2 ≤ sizeLine; decide), fun l1 n1 => ⟨(by show 1 ≤ sizeLine; decide), fun l2 n2 => ?_⟩⟩
      refine ⟨.int 5, rfl, l2, 5, [.int 3], rfl, rfl, upd_same, by decide, by decide, (by show 1 * 5 ≤ sizeLine; decide), fun l3 n3 => ?_⟩
      have m2 := (same_upd n1).free n2
      have nl12 : l1 ≠ l2 := fun e => by
        rw [← e, upd_same] at n2
        cases n2
      have s2 := same_new (o := .lst [.int 3]) m2 (same_upd (o := .lst [.int (5 - 1), .int 4]) n1)
      have m3 := s2.free n3
      have nl13 : l1 ≠ l3 := fun e => by
        rw [← e, upd_ne nl12, upd_same] at n3
        cases n3
      refine ⟨l1, l3, [.int (5 - 1), .int 4], _, rfl, rfl, ?_, upd_same, (by show 2 + 5 ≤ sizeLine; decide), fun l4 n4 => ?_⟩
      · rw [upd_ne nl13, upd_ne nl12, upd_same]
      have s3 := same_new (o := .lst (List.replicate (5 : Int).toNat [V.int 3]).flatten) m3 s2
      have m4 := s3.free n4
      refine ⟨c, l4, [4, 4] ++ List.replicate 5 3, rfl, SqL.of upd_same, sizes7, by decide, fun H1 p s4 np ep => ?_⟩
      have sH1 : Same H H1 := (same_new m4 s3).trans s4
      generalize hds : draws c 0 ([4, 4] ++ List.replicate 5 3) = ds at ep
      have hlen : ds.length = 7 := by
        rw [← hds, draws_len]
        rfl
      have hok : ∀ (i : Nat) (x z : Int), ds[i]? = some x → ([4, 4] ++ List.replicate 5 3 : List Int)[i]? = some z → 0 ≤ x ∧ x < z := by
        rw [← hds]
        exact draws_ok _ c 0 (fun z hz => (sizes7 z hz).1)
      obtain ⟨d0, e0⟩ : ∃ x, ds[0]? = some x := ⟨ds[0], List.getElem?_eq_getElem (by omega)⟩
      obtain ⟨d1, e1⟩ : ∃ x, ds[1]? = some x := ⟨ds[1], List.getElem?_eq_getElem (by omega)⟩
      have b0 := hok 0 d0 4 e0 rfl
      have b1 := hok 1 d1 4 e1 rfl
      obtain ⟨m, rfl⟩ : ∃ m : Nat, d0 = (m : Int) := ⟨d0.toNat, by omega⟩
      have hcs : ∀ x ∈ (ds.drop 2).take (m + 2), 0 ≤ x ∧ x < 3 := fun x hx => by
        obtain ⟨j, hj⟩ := List.getElem?_of_mem (List.mem_of_mem_take hx)
        rw [List.getElem?_drop] at hj
        have hj2 : 2 + j < ds.length := (List.getElem?_eq_some_iff.mp hj).1
        refine hok (2 + j) x 3 hj ?_
        rw [List.getElem?_append_right (by show 2 ≤ 2 + j; omega), List.getElem?_replicate]
        show (if 2 + j - 2 < 5 then some (3 : Int) else none) = some 3
        rw [if_pos (by omega)]
      have hcl : ((ds.drop 2).take (m + 2)).length = m + 2 := by
        rw [List.length_take, List.length_drop, hlen]
        omega
      generalize hcd : (ds.drop 2).take (m + 2) = xs at hcs hcl
      have ecut : cutV (ds.map V.int) (some 2) (some (4 + (m : Int))) = xs.map V.int := by
        unfold cutV
        rw [show (some (2 : Int)) = some ((2 : Nat) : Int) from rfl, show (4 + (m : Int)) = ((4 + m : Nat) : Int) by omega, HT.sIx_nat, HT.sIx_nat, List.length_map, hlen, ← hcd, List.map_take, List.map_drop]
        have i1 : min 2 7 = 2 := by omega
        have i2 : min (4 + m) 7 - 2 = m + 2 := by omega
        rw [i1, i2]
      have g1 : atI (ds.map V.int) 1 = some (.int d1) := atI_nat (j := 1) (by rw [List.getElem?_map, e1]; rfl)
      have g0 : atI (ds.map V.int) 0 = some (.int (m : Int)) := atI_nat (j := 0) (by rw [List.getElem?_map, e0]; rfl)
      -- the menus
      refine ⟨(by show 3 ≤ sizeLine; decide), fun p1 np1 => ⟨(by show 3 ≤ sizeLine; decide), fun p2 np2 => ⟨(by show 3 ≤ sizeLine; decide), fun p3 np3 => ⟨(by show 3 ≤ sizeLine; decide), fun p4 np4 => ⟨(by show 4 ≤ sizeLine; decide), fun p5 np5 => ?_⟩⟩⟩⟩⟩
      have u1 := same_upd (o := .lst [.str "a", .str "b", .str "."]) np1
      have w1 : upd H1 p1 (.lst [.str "a", .str "b", .str "."]) p1 = some (.lst [.str "a", .str "b", .str "."]) := upd_same
      generalize upd H1 p1 (.lst [.str "a", .str "b", .str "."]) = J1 at *
      have u2 := same_upd (o := .lst [.str "a", .str "b", .str "."]) np2
      have w2 : upd J1 p2 (.lst [.str "a", .str "b", .str "."]) p2 = some (.lst [.str "a", .str "b", .str "."]) := upd_same
      generalize upd J1 p2 (.lst [.str "a", .str "b", .str "."]) = J2 at *
      have u3 := same_upd (o := .lst [.str "a", .str ".", .str "."]) np3
      have w3 : upd J2 p3 (.lst [.str "a", .str ".", .str "."]) p3 = some (.lst [.str "a", .str ".", .str "."]) := upd_same
      generalize upd J2 p3 (.lst [.str "a", .str ".", .str "."]) = J3 at *
      have u4 := same_upd (o := .lst [.str "b", .str "a", .str "a"]) np4
      have w4 : upd J3 p4 (.lst [.str "b", .str "a", .str "a"]) p4 = some (.lst [.str "b", .str "a", .str "a"]) := upd_same
      generalize upd J3 p4 (.lst [.str "b", .str "a", .str "a"]) = J4 at *
      have u5 := same_upd (o := .lst [.ref p1, .ref p2, .ref p3, .ref p4]) np5
      have w5 : upd J4 p5 (.lst [.ref p1, .ref p2, .ref p3, .ref p4]) p5 = some (.lst [.ref p1, .ref p2, .ref p3, .ref p4]) := upd_same
      generalize upd J4 p5 (.lst [.ref p1, .ref p2, .ref p3, .ref p4]) = J5 at *
      have sJ : Same H1 J5 := (((u1.trans u2).trans u3).trans u4).trans u5
      have ep5 := sJ _ _ ep
      have v1 := (((u2.trans u3).trans u4).trans u5) _ _ w1
      have v2 := ((u3.trans u4).trans u5) _ _ w2
      have v3 := (u4.trans u5) _ _ w3
      have v4 := u5 _ _ w4
      have ta : ("a" : Str) = one 97 := by decide +kernel
      have tb : ("b" : Str) = one 98 := by decide +kernel
      have tf : ("." : Str) = one 46 := by decide +kernel
      rw [ta, tb, tf] at v1 v2
      rw [ta, tf] at v3
      rw [ta, tb] at v4
      obtain ⟨pm, hpm, em⟩ : ∃ pm, atI [V.ref p1, .ref p2, .ref p3, .ref p4] d1 = some (.ref pm) ∧ J5 pm = some (.lst (vl (menu d1.toNat))) := by
        rcases (show d1 = 0 ∨ d1 = 1 ∨ d1 = 2 ∨ d1 = 3 by omega) with rfl | rfl | rfl | rfl
        · exact ⟨p1, rfl, v1⟩
        · exact ⟨p2, rfl, v2⟩
        · exact ⟨p3, rfl, v3⟩
        · exact ⟨p4, rfl, v4⟩
      refine ⟨.ref p, rfl, p, _, _, _, rfl, rfl, SqL.of ep5, g1, p5, _, _, .ref pm, rfl, rfl, SqL.of w5, hpm, ?_⟩
      refine ⟨⟨_, rfl⟩, ?_⟩
      refine ⟨.ref p, rfl, 2, rfl, .ref p, rfl, p, _, _, _, rfl, rfl, SqL.of ep5, g0, _, _, rfl, rfl, _, rfl, p, _, rfl, SqL.of ep5, fun l5 n5 => ?_⟩
      rw [ecut]
      have s5 := same_upd (o := .lst (xs.map V.int)) n5
      have e5 : upd J5 l5 (.lst (xs.map V.int)) l5 = some (.lst (xs.map V.int)) := upd_same
      generalize upd J5 l5 (.lst (xs.map V.int)) = J6 at *
      have em6 := s5 _ _ em
      have sH6 : Same H J6 := (sH1.trans sJ).trans s5
      refine ⟨l5, rfl, ⟨_, SqL.of e5⟩, fun D hD => ?_⟩
      have hD0 := sH6.free hD
      refine lc_list (K := K) (a := l5) (xs := xs.map V.int) (fun i H3 => ∃ cs : List Nat, Same J6 H3 ∧ Same H H3 ∧ H3 D = some (.lst (vl cs)) ∧ cs.length = i ∧ ∀ c ∈ cs, c ∈ [97, 98, 46]) ⟨[], same_upd hD, same_new hD0 sH6, upd_same, rfl, by simp⟩ (fun i H3 _ ⟨_, h, _⟩ => SqL.of (h _ _ e5)) ?_ ?_
      · rintro i x H3 hx ⟨cs, sm6, sm, eD, hl, hc⟩
        rw [List.getElem?_map] at hx
        obtain ⟨u, hu, rfl⟩ := Option.map_eq_some_iff.mp hx
        have hb := hcs u (List.mem_of_getElem? hu)
        have hi : i < xs.length := (List.getElem?_eq_some_iff.mp hu).1
        obtain ⟨j, rfl⟩ : ∃ j : Nat, u = (j : Int) := ⟨u.toNat, by omega⟩
        have hj : j < (menu d1.toNat).length := by
          rw [menu_len]
          omega
        refine ⟨rfl, .ref pm, rfl, .int (j : Int), rfl, pm, _, _, _, rfl, rfl, SqL.of (sm6 _ _ em6), vl_at hj, _, eD, ?_, cs ++ [(menu d1.toNat).getD j 0], ?_, same_new hD0 sm, ?_, ?_, ?_⟩
        · rw [vl_len]
          exact fit' (by omega)
        · intro b o e
          rw [upd_ne (ne_of_none e hD)]
          exact sm6 _ _ e
        · rw [upd_same]
          unfold vl
          rw [List.map_append, List.map_append]
          rfl
        · rw [List.length_append, hl]
          rfl
        · intro c hc'
          rcases List.mem_append.mp hc' with h | h
          · exact hc c h
          · rw [List.mem_singleton.mp h, List.getD_eq_getElem?_getD, List.getElem?_eq_getElem hj]
            exact menu_ok _ _ (List.getElem_mem hj)
      · rintro H3 ⟨cs, sm6, sm, eD, hl, hc⟩
        rw [List.length_map] at hl
        refine ⟨"", D, cs.map one, rfl, rfl, .inl (SqL.of eD), join_rt_fits (by omega), ?_⟩
        rw [join_rt]
        exact q H3 cs sm ⟨by omega, by omega, hc⟩ (by omega)
    · refine ⟨.int c, rfl, .int 12, rfl, _, _, rfl, rfl, (by show 2 ≤ sizeLine; decide), fun l1 n1 => ⟨(by show 1 ≤ sizeLine; decide), fun l2 n2 => ?_⟩⟩
      refine ⟨.int 12, rfl, l2, 12, [.int 3], rfl, rfl, upd_same, by decide, by decide, (by show 1 * 12 ≤ sizeLine; decide), fun l3 n3 => ?_⟩
      have m2 := (same_upd n1).free n2
      have nl12 : l1 ≠ l2 := fun e => by
        rw [← e, upd_same] at n2
        cases n2
      have s2 := same_new (o := .lst [.int 3]) m2 (same_upd (o := .lst [.int (12 - 1), .int 4]) n1)
      have m3 := s2.free n3
      have nl13 : l1 ≠ l3 := fun e => by
        rw [← e, upd_ne nl12, upd_same] at n3
        cases n3
      refine ⟨l1, l3, [.int (12 - 1), .int 4], _, rfl, rfl, ?_, upd_same, (by show 2 + 12 ≤ sizeLine; decide), fun l4 n4 => ?_⟩
      · rw [upd_ne nl13, upd_ne nl12, upd_same]
      have s3 := same_new (o := .lst (List.replicate (12 : Int).toNat [V.int 3]).flatten) m3 s2
      have m4 := s3.free n4
      refine ⟨c, l4, [11, 4] ++ List.replicate 12 3, rfl, SqL.of upd_same, sizes14, by decide, fun H1 p s4 np ep => ?_⟩
      have sH1 : Same H H1 := (same_new m4 s3).trans s4
      generalize hds : draws c 0 ([11, 4] ++ List.replicate 12 3) = ds at ep
      have hlen : ds.length = 14 := by
        rw [← hds, draws_len]
        rfl
      have hok : ∀ (i : Nat) (x z : Int), ds[i]? = some x → ([11, 4] ++ List.replicate 12 3 : List Int)[i]? = some z → 0 ≤ x ∧ x < z := by
        rw [← hds]
        exact draws_ok _ c 0 (fun z hz => (sizes14 z hz).1)
      obtain ⟨d0, e0⟩ : ∃ x, ds[0]? = some x := ⟨ds[0], List.getElem?_eq_getElem (by omega)⟩
      obtain ⟨d1, e1⟩ : ∃ x, ds[1]? = some x := ⟨ds[1], List.getElem?_eq_getElem (by omega)⟩
      have b0 := hok 0 d0 11 e0 rfl
      have b1 := hok 1 d1 4 e1 rfl
      obtain ⟨m, rfl⟩ : ∃ m : Nat, d0 = (m : Int) := ⟨d0.toNat, by omega⟩
      have hcs : ∀ x ∈ (ds.drop 2).take (m + 2), 0 ≤ x ∧ x < 3 := fun x hx => by
        obtain ⟨j, hj⟩ := List.getElem?_of_mem (List.mem_of_mem_take hx)
        rw [List.getElem?_drop] at hj
        have hj2 : 2 + j < ds.length := (List.getElem?_eq_some_iff.mp hj).1
        refine hok (2 + j) x 3 hj ?_
        rw [List.getElem?_append_right (by show 2 ≤ 2 + j; omega), List.getElem?_replicate]
        show (if 2 + j - 2 < 12 then some (3 : Int) else none) = some 3
        rw [if_pos (by omega)]
      have hcl : ((ds.drop 2).take (m + 2)).length = m + 2 := by
        rw [List.length_take, List.length_drop, hlen]
        omega
      generalize hcd : (ds.drop 2).take (m + 2) = xs at hcs hcl
      have ecut : cutV (ds.map V.int) (some 2) (some (4 + (m : Int))) = xs.map V.int := by
        unfold cutV
        rw [show (some (2 : Int)) = some ((2 : Nat) : Int) from rfl, show (4 + (m : Int)) = ((4 + m : Nat) : Int) by omega, HT.sIx_nat, HT.sIx_nat, List.length_map, hlen, ← hcd, List.map_take, List.map_drop]
        have i1 : min 2 14 = 2 := by omega
        have i2 : min (4 + m) 14 - 2 = m + 2 := by omega
        rw [i1, i2]
      have g1 : atI (ds.map V.int) 1 = some (.int d1) := atI_nat (j := 1) (by rw [List.getElem?_map, e1]; rfl)
      have g0 : atI (ds.map V.int) 0 = some (.int (m : Int)) := atI_nat (j := 0) (by rw [List.getElem?_map, e0]; rfl)
      -- the menus
      refine ⟨(by show 3 ≤ sizeLine; decide), fun p1 np1 => ⟨(by show 3 ≤ sizeLine; decide), fun p2 np2 => ⟨(by show 3 ≤ sizeLine; decide), fun p3 np3 => ⟨(by show 3 ≤ sizeLine; decide), fun p4 np4 => ⟨(by show 4 ≤ sizeLine; decide), fun p5 np5 => ?_⟩⟩⟩⟩⟩
      have u1 := same_upd (o := .lst [.str "a", .str "b", .str "."]) np1
      have w1 : upd H1 p1 (.lst [.str "a", .str "b", .str "."]) p1 = some (.lst [.str "a", .str "b", .str "."]) := upd_same
      generalize upd H1 p1 (.lst [.str "a", .str "b", .str "."]) = J1 at *
      have u2 := same_upd (o := .lst [.str "a", .str "b", .str "."]) np2
      have w2 : upd J1 p2 (.lst [.str "a", .str "b", .str "."]) p2 = some (.lst [.str "a", .str "b", .str "."]) := upd_same
      generalize upd J1 p2 (.lst [.str "a", .str "b", .str "."]) = J2 at *
      have u3 := same_upd (o := .lst [.str "a", .str ".", .str "."]) np3
      have w3 : upd J2 p3 (.lst [.str "a", .str ".", .str "."]) p3 = some (.lst [.str "a", .str ".", .str "."]) := upd_same
      generalize upd J2 p3 (.lst [.str "a", .str ".", .str "."]) = J3 at *
      have u4 := same_upd (o := .lst [.str "b", .str "a", .str "a"]) np4
      have w4 : upd J3 p4 (.lst [.str "b", .str "a", .str "a"]) p4 = some (.lst [.str "b", .str "a", .str "a"]) := upd_same
      generalize upd J3 p4 (.lst [.str "b", .str "a", .str "a"]) = J4 at *
      have u5 := same_upd (o := .lst [.ref p1, .ref p2, .ref p3, .ref p4]) np5
      have w5 : upd J4 p5 (.lst [.ref p1, .ref p2, .ref p3, .ref p4]) p5 = some (.lst [.ref p1, .ref p2, .ref p3, .ref p4]) := upd_same
      generalize upd J4 p5 (.lst [.ref p1, .ref p2, .ref p3, .ref p4]) = J5 at *
      have sJ : Same H1 J5 := (((u1.trans u2).trans u3).trans u4).trans u5
      have ep5 := sJ _ _ ep
      have v1 := (((u2.trans u3).trans u4).trans u5) _ _ w1
      have v2 := ((u3.trans u4).trans u5) _ _ w2
      have v3 := (u4.trans u5) _ _ w3
      have v4 := u5 _ _ w4
      have ta : ("a" : Str) = one 97 := by decide +kernel
      have tb : ("b" : Str) = one 98 := by decide +kernel
      have tf : ("." : Str) = one 46 := by decide +kernel
      rw [ta, tb, tf] at v1 v2
      rw [ta, tf] at v3
      rw [ta, tb] at v4
      obtain ⟨pm, hpm, em⟩ : ∃ pm, atI [V.ref p1, .ref p2, .ref p3, .ref p4] d1 = some (.ref pm) ∧ J5 pm = some (.lst (vl (menu d1.toNat))) := by
        rcases (show d1 = 0 ∨ d1 = 1 ∨ d1 = 2 ∨ d1 = 3 by omega) with rfl | rfl | rfl | rfl
        · exact ⟨p1, rfl, v1⟩
        · exact ⟨p2, rfl, v2⟩
        · exact ⟨p3, rfl, v3⟩
        · exact ⟨p4, rfl, v4⟩
      refine ⟨.ref p, rfl, p, _, _, _, rfl, rfl, SqL.of ep5, g1, p5, _, _, .ref pm, rfl, rfl, SqL.of w5, hpm, ?_⟩
      refine ⟨⟨_, rfl⟩, ?_⟩
      refine ⟨.ref p, rfl, 2, rfl, .ref p, rfl, p, _, _, _, rfl, rfl, SqL.of ep5, g0, _, _, rfl, rfl, _, rfl, p, _, rfl, SqL.of ep5, fun l5 n5 => ?_⟩
      rw [ecut]
      have s5 := same_upd (o := .lst (xs.map V.int)) n5
      have e5 : upd J5 l5 (.lst (xs.map V.int)) l5 = some (.lst (xs.map V.int)) := upd_same
      generalize upd J5 l5 (.lst (xs.map V.int)) = J6 at *
      have em6 := s5 _ _ em
      have sH6 : Same H J6 := (sH1.trans sJ).trans s5
      refine ⟨l5, rfl, ⟨_, SqL.of e5⟩, fun D hD => ?_⟩
      have hD0 := sH6.free hD
      refine lc_list (K := K) (a := l5) (xs := xs.map V.int) (fun i H3 => ∃ cs : List Nat, Same J6 H3 ∧ Same H H3 ∧ H3 D = some (.lst (vl cs)) ∧ cs.length = i ∧ ∀ c ∈ cs, c ∈ [97, 98, 46]) ⟨[], same_upd hD, same_new hD0 sH6, upd_same, rfl, by simp⟩ (fun i H3 _ ⟨_, h, _⟩ => SqL.of (h _ _ e5)) ?_ ?_
      · rintro i x H3 hx ⟨cs, sm6, sm, eD, hl, hc⟩
        rw [List.getElem?_map] at hx
        obtain ⟨u, hu, rfl⟩ := Option.map_eq_some_iff.mp hx
        have hb := hcs u (List.mem_of_getElem? hu)
        have hi : i < xs.length := (List.getElem?_eq_some_iff.mp hu).1
        obtain ⟨j, rfl⟩ : ∃ j : Nat, u = (j : Int) := ⟨u.toNat, by omega⟩
        have hj : j < (menu d1.toNat).length := by
          rw [menu_len]
          omega
        refine ⟨rfl, .ref pm, rfl, .int (j : Int), rfl, pm, _, _, _, rfl, rfl, SqL.of (sm6 _ _ em6), vl_at hj, _, eD, ?_, cs ++ [(menu d1.toNat).getD j 0], ?_, same_new hD0 sm, ?_, ?_, ?_⟩
        · rw [vl_len]
          exact fit' (by omega)
        · intro b o e
          rw [upd_ne (ne_of_none e hD)]
          exact sm6 _ _ e
        · rw [upd_same]
          unfold vl
          rw [List.map_append, List.map_append]
          rfl
        · rw [List.length_append, hl]
          rfl
        · intro c hc'
          rcases List.mem_append.mp hc' with h | h
          · exact hc c h
          · rw [List.mem_singleton.mp h, List.getD_eq_getElem?_getD, List.getElem?_eq_getElem hj]
            exact menu_ok _ _ (List.getElem_mem hj)
      · rintro H3 ⟨cs, sm6, sm, eD, hl, hc⟩
        rw [List.length_map] at hl
        refine ⟨"", D, cs.map one, rfl, rfl, .inl (SqL.of eD), join_rt_fits (by omega), ?_⟩
        rw [join_rt]
        exact q H3 cs sm ⟨by omega, by omega, hc⟩ (by omega)
end
end Hop

set_option Elab.async false
set_option linter.all false
set_option maxRecDepth 100000
namespace Hop
open PySem L2 HopR
section
variable {P : Program} {w : World} {K : PySem.W.Frag} {mg : Str → Option Value} {base : Heap} {d : Addr} {es : Array DictEntry} {n : Nat}
/-! ### choices, _law_choose -/
theorem ch_int {m t : Nat} (h : t ≤ m) : (((chs m t : Nat) : Int) * ((m : Int) - (t : Int))) / ((t : Int) + 1) = ((chs m (t + 1) : Nat) : Int) := by
  have e := chs_step m t h
  have e2 : ((chs m t : Nat) : Int) * ((m : Int) - (t : Int)) = ((chs m (t + 1) : Nat) : Int) * ((t : Int) + 1) := by
    rw [show (m : Int) - (t : Int) = ((m - t : Nat) : Int) by omega, show (t : Int) + 1 = ((t + 1 : Nat) : Int) by omega, ← Int.natCast_mul, ← Int.natCast_mul, Nat.mul_comm (chs m t), ← e, Nat.mul_comm]
  rw [e2, Int.mul_ediv_cancel _ (by omega)]
def spChoices : Sp := fun vs H Q _ => ∃ m t : Nat, vs = [.int (m : Int), .int (t : Int)] ∧ t ≤ m ∧ m ≤ 12 ∧ Q (.int ((chs m t : Nat) : Int)) H
theorem chs_small {m t : Nat} (h : m ≤ 12) : chs m t ≤ 4096 := Nat.le_trans (chs_le m t) (Nat.pow_le_pow_right (by decide) h)
theorem scChoices : FnScope ["many", "some", "result", "turn"] ["many", "some"] (defScope sChoices) := ⟨rfl, rfl, rfl, by decide +kernel, rfl, by decide +kernel, by decide +kernel⟩
theorem ok_choices {f : Addr} {fd : FuncData} {k : Nat} (F : Fun K "choices" "choices" sChoices f fd) (T : Txt K w mg d es n) : FnOk P w K mg base CX0 (k + 1) f fd ["many", "some"] spChoices := by
  refine F.ok scChoices (fun vs H Q E h => ?_) (fun cdv A outer s H vs Q E hr h => ?_)
  · obtain ⟨m, t, rfl, _⟩ := h
    rfl
  · obtain ⟨m, t, rfl, ht, hm, q⟩ := h
    have nd := scChoices.nd
    refine ⟨_, pss_cons (ps_set (i := 2) nd rfl (.inl rfl) pe_int)
      (pss_cons (ps_for PassesOwn.never rfl (pi_range1 (by rfl) T.range (pa_cons (pv 1) pa_nil)) (pg_name (i := 3) nd rfl (.inl rfl)) (pss_one (ps_set (i := 2) nd rfl (.inl rfl) (pe_op op_fdiv (pe_op op_mul (pv 2) (pe_op op_sub (pv 0) (pv 3))) (pe_op op_add (pv 3) pe_int)))))
      (pss_one (ps_ret (pv 2)))), ?_⟩
    refine ⟨.int _, rfl, _, rfl, by omega, by omega, ?_⟩
    rw [Int.toNat_natCast]
    refine for_range (lo := 0) (n := t) (fun i σ H1 => ∃ y3, σ = [some (.int (m : Int)), some (.int (t : Int)), some (.int ((chs m i : Nat) : Int)), y3] ∧ H1 = H) ⟨_, by rw [chs_zero]; rfl, rfl⟩ ?_ ?_
    · rintro i σ H1 hi ⟨y3, rfl, rfl⟩
      rw [Int.zero_add]
      have hs := chs_small (t := i) hm
      refine ⟨.int _, rfl, .int _, rfl, .int _, rfl, _, _, rfl, rfl, _, _, rfl, rfl, .inl ⟨by omega, by omega⟩, .int _, rfl, _, _, rfl, rfl, _, _, rfl, rfl, ⟨by omega, by omega⟩, some (.int (i : Int)), ?_, rfl⟩
      rw [← ch_int (show i ≤ m by omega)]
      rfl
    · rintro σ H1 ⟨y3, rfl, rfl⟩
      exact ⟨_, rfl, q⟩
theorem scChoose : FnScope ["_law_many", "_law_some", "_law_found", "_law_k"] ["_law_many", "_law_some"] (defScope sChoose) := ⟨rfl, rfl, rfl, by decide +kernel, rfl, by decide +kernel, by decide +kernel⟩
theorem ok_choose {f : Addr} {fd : FuncData} {k : Nat} (F : Fun K "_law_choose" "_law_choose" sChoose f fd) (T : Txt K w mg d es n) : FnOk P w K mg base CX0 (k + 1) f fd ["_law_many", "_law_some"] spChoices := by
  refine F.ok scChoose (fun vs H Q E h => ?_) (fun cdv A outer s H vs Q E hr h => ?_)
  · obtain ⟨m, t, rfl, _⟩ := h
    rfl
  · obtain ⟨m, t, rfl, ht, hm, q⟩ := h
    have nd := scChoose.nd
    refine ⟨_, pss_cons (ps_set (i := 2) nd rfl (.inl rfl) pe_int)
      (pss_cons (ps_for PassesOwn.never rfl (pi_range1 (by rfl) T.range (pa_cons (pv 1) pa_nil)) (pg_name (i := 3) nd rfl (.inl rfl)) (pss_one (ps_set (i := 2) nd rfl (.inl rfl) (pe_op op_fdiv (pe_op op_mul (pv 2) (pe_op op_sub (pv 0) (pv 3))) (pe_op op_add (pv 3) pe_int)))))
      (pss_one (ps_ret (pv 2)))), ?_⟩
    refine ⟨.int _, rfl, _, rfl, by omega, by omega, ?_⟩
    rw [Int.toNat_natCast]
    refine for_range (lo := 0) (n := t) (fun i σ H1 => ∃ y3, σ = [some (.int (m : Int)), some (.int (t : Int)), some (.int ((chs m i : Nat) : Int)), y3] ∧ H1 = H) ⟨_, by rw [chs_zero]; rfl, rfl⟩ ?_ ?_
    · rintro i σ H1 hi ⟨y3, rfl, rfl⟩
      rw [Int.zero_add]
      have hs := chs_small (t := i) hm
      refine ⟨.int _, rfl, .int _, rfl, .int _, rfl, _, _, rfl, rfl, _, _, rfl, rfl, .inl ⟨by omega, by omega⟩, .int _, rfl, _, _, rfl, rfl, _, _, rfl, rfl, ⟨by omega, by omega⟩, some (.int (i : Int)), ?_, rfl⟩
      rw [← ch_int (show i ≤ m by omega)]
      rfl
    · rintro σ H1 ⟨y3, rfl, rfl⟩
      exact ⟨_, rfl, q⟩
/-! ### with_upper, past -/
theorem wup_len (v : List Nat) : (wup v).length = v.length + 1 := by
  unfold wup
  rw [List.length_zipWith, List.length_append, List.length_cons]
  show min (v.length + 1) (v.length + 1) = v.length + 1
  omega
def spWup : Sp := fun vs H Q _ => ∃ (a : Addr) (v : List Nat), vs = [.ref a] ∧ H a = some (.lst (v.map wv)) ∧ v.length ≤ 100 ∧ ∀ H' p, Same H H' → H p = none → H' p = some (.lst ((wup v).map wv)) → Q (.ref p) H'
abbrev nWup : List Str := ["waiting", "one", "other"]
theorem scWup : FnScope nWup ["waiting"] (defScope sWup) := ⟨rfl, rfl, rfl, by decide +kernel, rfl, by decide +kernel, by decide +kernel⟩
theorem ok_wup {f : Addr} {fd : FuncData} {k : Nat} (F : Fun K "with_upper" "with_upper" sWup f fd) (T : Txt K w mg d es n) : FnOk P w K mg base CX0 (k + 1) f fd ["waiting"] spWup := by
  refine F.ok scWup (fun vs H Q E h => ?_) (fun cdv A outer s H vs Q E hr h => ?_)
  · obtain ⟨a, v, rfl, _⟩ := h
    rfl
  · obtain ⟨a, v, rfl, ea, hl, q⟩ := h
    have nd := scWup.nd
    refine ⟨_, pss_one (ps_ret (pe_lc (own := [("one", 1), ("other", 2)]) (g := gTup K 2 (gCons (gName 1) (gCons (gName 2) gNil))) (tt := tYes) rfl nd (pi_zip (by rfl) T.zip (pa_cons (pe_op op_cat (pv 0) (pe_lst (pa_cons pe_int pa_nil))) (pa_cons (pe_op op_cat (pe_lst (pa_cons pe_int pa_nil)) (pv 0)) pa_nil)))
      (blkOk_by (own := [("one", 1), ("other", 2)]) (N := nWup) (sc := defScope sWup) (by decide +kernel))
      (fun _ _ _ _ _ => pg_tup (by rfl) (pgs_cons (pg_name (i := 1) nd rfl (.inl rfl)) (pgs_cons (pg_name (i := 2) nd rfl (.inl rfl)) pgs_nil))) (fun _ _ _ _ _ => pts_nil) (fun _ _ _ _ _ => pe_op op_add (pv 1) (pv 2)))), ?_⟩
    refine ⟨.ref a, rfl, (by show 1 ≤ sizeLine; decide), fun l1 n1 => ?_⟩
    have t1 := same_upd (o := .lst [.int 0]) n1
    have e1 : upd H l1 (.lst [.int 0]) l1 = some (.lst [.int 0]) := upd_same
    generalize upd H l1 (.lst [.int 0]) = H1 at t1 e1
    refine ⟨a, l1, v.map wv, [.int 0], rfl, rfl, t1 _ _ ea, e1, by rw [List.length_map]; exact fit (by show v.length + 1 ≤ _; omega), fun l2 n2 => ?_⟩
    have c2 : v.map wv ++ [V.int 0] = (v ++ [0]).map wv := by rw [List.map_append]; rfl
    rw [c2]
    have t2 := same_upd (o := .lst ((v ++ [0]).map wv)) n2
    have e2 : upd H1 l2 (.lst ((v ++ [0]).map wv)) l2 = some (.lst ((v ++ [0]).map wv)) := upd_same
    generalize upd H1 l2 (.lst ((v ++ [0]).map wv)) = H2 at t2 e2
    refine ⟨(by show 1 ≤ sizeLine; decide), fun l3 n3 => ?_⟩
    have t3 := same_upd (o := .lst [.int 0]) n3
    have e3 : upd H2 l3 (.lst [.int 0]) l3 = some (.lst [.int 0]) := upd_same
    generalize upd H2 l3 (.lst [.int 0]) = H3 at t3 e3
    refine ⟨.ref a, rfl, l3, a, [.int 0], v.map wv, rfl, rfl, e3, t3 _ _ (t2 _ _ (t1 _ _ ea)), by rw [List.length_map]; exact fit (by show 1 + v.length ≤ _; omega), fun l4 n4 => ?_⟩
    have c4 : [V.int 0] ++ v.map wv = (0 :: v).map wv := rfl
    rw [c4]
    have t4 := same_upd (o := .lst ((0 :: v).map wv)) n4
    have e4 : upd H3 l4 (.lst ((0 :: v).map wv)) l4 = some (.lst ((0 :: v).map wv)) := upd_same
    generalize upd H3 l4 (.lst ((0 :: v).map wv)) = H4 at t4 e4
    have e24 := t4 _ _ (t3 _ _ e2)
    have s04 : Same H H4 := (t1.trans t2).trans (t3.trans t4)
    refine ⟨l2, l4, _, _, rfl, SqL.of e24, SqL.of e4, fun D hD => ?_⟩
    refine lc_it (walk_zip (K := K) (a := l2) (b := l4) (xs := (v ++ [0]).map wv) (ys := (0 :: v).map wv) (n := v.length + 1) (by rw [List.length_map, List.length_map, List.length_append]; show v.length + 1 = min (v.length + 1) (v.length + 1); omega))
      (fun i H5 => Same H4 H5 ∧ H5 D = some (.lst (((wup v).take i).map wv))) ⟨same_upd hD, upd_same⟩ (fun i H5 _ h => ⟨SqL.of (h.1 _ _ e24), SqL.of (h.1 _ _ e4)⟩) ?_ ?_
    · rintro i x H5 H6 hi ⟨sm, eD⟩ ⟨t, x1, x2, rfl, nt, rfl, hx1, hx2⟩
      have hx1 : ((v ++ [0]).map wv)[i]? = some x1 := hx1
      have hx2 : ((0 :: v).map wv)[i]? = some x2 := hx2
      rw [List.getElem?_map] at hx1 hx2
      obtain ⟨k1, hk1, rfl⟩ := Option.map_eq_some_iff.mp hx1
      obtain ⟨k2, hk2, rfl⟩ := Option.map_eq_some_iff.mp hx2
      have hw : (wup v)[i]? = some (k1 + k2) := by
        unfold wup
        rw [List.getElem?_zipWith, hk1, hk2]
      have nDt : D ≠ t := ne_of_none eD nt
      refine ⟨t, _, rfl, SqT.of upd_same, rfl, _, _, rfl, _, _, rfl, rfl, rfl, .int (k1 : Int), rfl, .int (k2 : Int), rfl, _, _, rfl, rfl, _, (by rw [upd_ne nDt]; exact eD), ?_, ?_, ?_⟩
      · rw [List.length_map]
        exact fit' (Nat.le_trans (List.length_take_le _ _) (by omega))
      · exact same_new hD (same_new (sm.free nt) sm)
      · rw [upd_same, List.take_add_one, hw, List.map_append]
        show _ = some (HO.lst (_ ++ [wv (k1 + k2)]))
        unfold wv
        rw [Int.natCast_add]
    · rintro H5 ⟨sm, eD⟩
      rw [List.take_of_length_le (by rw [wup_len]; exact Nat.le_refl _)] at eD
      exact q H5 D (s04.trans sm) (s04.free hD) eD
end
end Hop

set_option Elab.async false
set_option linter.all false
set_option maxRecDepth 100000
namespace Hop
open PySem L2 HopR
theorem is_b (c : Nat) : decide (V.str (one c) = V.str "b") = decide (c = 98) := by
  rw [sgn_b]
  by_cases h : c = 98
  · rw [h, decide_eq_true rfl, decide_eq_true rfl]
  · rw [decide_eq_false h, decide_eq_false fun q => h (one_inj (V.str.inj q))]
theorem is_a (c : Nat) : decide (V.str (one c) = V.str "a") = decide (c = 97) := by
  rw [sgn_a]
  by_cases h : c = 97
  · rw [h, decide_eq_true rfl, decide_eq_true rfl]
  · rw [decide_eq_false h, decide_eq_false fun q => h (one_inj (V.str.inj q))]
theorem past_len (v : List Nat) (c : Nat) : (past v c).length ≤ v.length + 1 := by
  unfold past
  split
  · rw [List.length_take]; omega
  · split
    · rw [List.length_drop, wup_len]; omega
    · rw [wup_len]; exact Nat.le_refl _
theorem wt_len : ∀ cs : List Nat, (wt cs).length ≤ cs.length + 1
  | [] => Nat.le_refl _
  | c :: cs => by
    have h1 := past_len (wt cs) c
    have h2 := wt_len cs
    show (past (wt cs) c).length ≤ cs.length + 1 + 1
    omega
theorem cut_to1 (v : List Nat) : cutV (v.map wv) none (some 1) = (v.take 1).map wv := by
  unfold cutV
  rw [show (some (1 : Int)) = some ((1 : Nat) : Int) from rfl, HT.sIx_nat, List.length_map, List.map_take]
  show ((v.map wv).drop 0).take (min 1 v.length - 0) = _
  rw [List.drop_zero, Nat.sub_zero]
  rcases v with _ | ⟨a, r⟩
  · rfl
  · rw [show min 1 (a :: r).length = 1 by show min 1 (r.length + 1) = 1; omega]
theorem cut_from1 (v : List Nat) : cutV (v.map wv) (some 1) none = (v.drop 1).map wv := by
  unfold cutV
  rw [show (some (1 : Int)) = some ((1 : Nat) : Int) from rfl, HT.sIx_nat, List.length_map, List.map_drop]
  show ((v.map wv).drop (min 1 v.length)).take (v.length - min 1 v.length) = _
  rcases v with _ | ⟨a, r⟩
  · rfl
  · rw [show min 1 (a :: r).length = 1 by show min 1 (r.length + 1) = 1; omega, List.take_of_length_le (by rw [List.length_drop, List.length_map]; exact Nat.le_refl _)]
section
variable {P : Program} {w : World} {K : PySem.W.Frag} {mg : Str → Option Value} {base : Heap} {d : Addr} {es : Array DictEntry} {n : Nat}
/-! ### past -/
def spPast : Sp := fun vs H Q _ => ∃ (a : Addr) (v : List Nat) (c : Nat), vs = [.ref a, .str (one c)] ∧ H a = some (.lst (v.map wv)) ∧ v.length ≤ 99 ∧ ∀ H' p, Same H H' → H p = none → H' p = some (.lst ((past v c).map wv)) → Q (.ref p) H'
theorem scPast : FnScope ["waiting", "sign", "beads"] ["waiting", "sign"] (defScope sPast) := ⟨rfl, rfl, rfl, by decide +kernel, rfl, by decide +kernel, by decide +kernel⟩
theorem ok_past {f f1 : Addr} {fd fd1 : FuncData} {k : Nat} (F : Fun K "past" "past" sPast f fd) (N1 : Fn K mg "with_upper" sWup ["waiting"] f1 fd1) (T : Txt K w mg d es n) : FnOk P w K mg base CX0 (k + 2) f fd ["waiting", "sign"] spPast := by
  have G1 : FnOk P w K mg base CX0 (k + 1) f1 fd1 ["waiting"] spWup := ok_wup N1.F T
  refine F.ok scPast (fun vs H Q E h => ?_) (fun cdv A outer s H vs Q E hr h => ?_)
  · obtain ⟨a, v, c, rfl, _⟩ := h
    rfl
  · obtain ⟨a, v, c, rfl, ea, hl, q⟩ := h
    have nd := scPast.nd
    obtain ⟨ta, ga⟩ := T.first
    obtain ⟨ts, gs⟩ := T.second
    refine ⟨_, pss_cons (ps_if (pt_cmpR op_eq (pv 1) (pe_glob (v := .str "b") (by rfl) gs ⟨_, rfl⟩) (nomark _)) (pss_one (ps_ret (pe_slice sl_list (pv 0) po_none (po_some pe_int)))) pss_nil)
      (pss_cons (ps_set (i := 2) nd rfl (.inl rfl) (pe_call G1 hr (by rfl) N1.g N1.F.kp N1.b .nil pass0 (pa_cons (pv 0) pa_nil)))
      (pss_one (ps_ret (pe_ifExp (pt_cmpR op_eq (pv 1) (pe_glob (v := .str "a") (by rfl) ga ⟨_, rfl⟩) (nomark _)) (pe_slice sl_list (pv 2) (po_some pe_int) po_none) (pv 2))))), ?_⟩
    refine ⟨.str (one c), rfl, rfl, _, rfl, ?_⟩
    rw [is_b]
    unfold past at q
    by_cases hb : c = 98
    · rw [decide_eq_true hb]
      simp only [if_pos hb] at q
      refine iteT ⟨.ref a, rfl, 1, rfl, a, _, rfl, SqL.of ea, fun p np => ?_⟩
      rw [cut_to1]
      exact q _ p (same_upd np) np upd_same
    · rw [decide_eq_false hb]
      simp only [if_neg hb] at q
      refine iteF ⟨.ref a, rfl, a, v, rfl, ea, by omega, fun H1 p1 s1 n1 e1 => ?_⟩
      refine ⟨.str (one c), rfl, rfl, _, rfl, ?_⟩
      rw [is_a]
      by_cases ha : c = 97
      · rw [decide_eq_true ha]
        simp only [if_pos ha] at q
        refine iteT ⟨.ref p1, rfl, 1, rfl, p1, _, rfl, SqL.of e1, fun p np => ?_⟩
        rw [cut_from1]
        exact q _ p (same_new (s1.free np) s1) (s1.free np) upd_same
      · rw [decide_eq_false ha]
        simp only [if_neg ha] at q
        exact iteF ⟨.ref p1, rfl, q H1 p1 s1 n1 e1⟩
/-! ### uppers_many -/
theorem idx_at {cs : List Nat} {c : Nat} (h : c ∈ cs) : ∃ rest, PySem.Builtin.Str.occurrences (rt cs) (one c) 0 (rt cs).length 1 = cs.idxOf c :: rest := by
  have hm : c ∈ (rt cs).cps.toList := by rw [rt_list]; exact h
  rcases PySem.StrLaws.occ_head (rt cs) (one c) 1 (Nat.le_refl 1) with ⟨_, hn⟩ | ⟨i, r, h0, hi, hn⟩
  · obtain ⟨j, hj⟩ := List.getElem?_of_mem hm
    exact absurd ((PySem.StrLaws.subAt_one (rt cs) c j).mpr hj) (hn j)
  · refine ⟨r, ?_⟩
    rw [h0]
    congr 1
    have h1 := (PySem.StrLaws.subAt_one (rt cs) c i).mp hi
    rw [rt_list] at h1
    have hlt : cs.idxOf c < cs.length := List.idxOf_lt_length_iff.mpr h
    have h2 : cs[cs.idxOf c]? = some c := by rw [List.getElem?_eq_getElem hlt, List.getElem_idxOf hlt]
    have h3 : ∀ j, j < i → cs[j]? ≠ some c := fun j hj z => hn j hj ((PySem.StrLaws.subAt_one (rt cs) c j).mpr (by rw [rt_list]; exact z))
    rcases Nat.lt_trichotomy i (cs.idxOf c) with hlt' | he | hgt
    · have := List.not_of_lt_findIdx (p := (· == c)) (xs := cs) (i := i) hlt'
      obtain ⟨hil, e⟩ := List.getElem?_eq_some_iff.mp h1
      rw [e] at this
      simp at this
    · exact he
    · exact absurd h2 (h3 _ hgt)
def spUpp : Sp := fun vs H Q _ => ∃ cs, vs = [.str (rt cs)] ∧ Rg cs ∧ ∀ H', Same H H' → Q (.int ((um cs : Nat) : Int)) H'
theorem scUpp : FnScope ["ring", "start", "waiting", "sign"] ["ring"] (defScope sUppers) := ⟨rfl, rfl, rfl, by decide +kernel, rfl, by decide +kernel, by decide +kernel⟩
theorem ok_uppers {f f1 f2 f3 : Addr} {fd fd1 fd2 fd3 : FuncData} {k : Nat} (F : Fun K "uppers_many" "uppers_many" sUppers f fd) (N1 : Fn K mg "with_upper" sWup ["waiting"] f1 fd1) (N2 : Fn K mg "past" sPast ["waiting", "sign"] f2 fd2) (N3 : Fn K mg "choices" sChoices ["many", "some"] f3 fd3) (T : Txt K w mg d es n) :
    FnOk P w K mg base CX0 (k + 3) f fd ["ring"] spUpp := by
  have G2 : FnOk P w K mg base CX0 (k + 2) f2 fd2 ["waiting", "sign"] spPast := ok_past N2.F N1 T
  have G3 : FnOk P w K mg base CX0 (k + 2) f3 fd3 ["many", "some"] spChoices := ok_choices N3.F T
  refine F.ok scUpp (fun vs H Q E h => ?_) (fun cdv A outer s H vs Q E hr h => ?_)
  · obtain ⟨cs, rfl, _⟩ := h
    rfl
  · obtain ⟨cs, rfl, hR, q⟩ := h
    have nd := scUpp.nd
    obtain ⟨ta, ga⟩ := T.first
    obtain ⟨ts, gs⟩ := T.second
    refine ⟨_, pss_cons (ps_if (pt_cmpR op_notIn_str (pe_glob (v := .str "b") (by rfl) gs ⟨_, rfl⟩) (pv 0) (by rfl)) (pss_one (ps_ret (pe_call G3 hr (by rfl) N3.g N3.F.kp N3.b .nil pass0 (pa_cons (pe_callB call_len_str (by rfl) T.len PySem.boot_len (pa_cons (pv 0) pa_nil)) (pa_cons (pe_bm PySem.F.plainAttrs_str PySem.F.slot_str_count PySem.F.type_str_count mt_count (pv 0) (pa_cons (pe_glob (v := .str "a") (by rfl) ga ⟨_, rfl⟩) pa_nil)) pa_nil))))) pss_nil)
      (pss_cons (ps_set (i := 1) nd rfl (.inl rfl) (pe_bm PySem.F.plainAttrs_str PySem.F.slot_str_index PySem.F.type_str_index mt_sindex (pv 0) (pa_cons (pe_glob (v := .str "b") (by rfl) gs ⟨_, rfl⟩) pa_nil)))
      (pss_cons (ps_set (i := 2) nd rfl (.inl rfl) (pe_lst (pa_cons pe_int pa_nil)))
      (pss_cons (ps_for PassesOwn.never rfl (pi_revS (by rfl) T.reversed (pe_op op_add_str (pe_slice sl_str (pv 0) (po_some (pv 1)) po_none) (pe_slice sl_str (pv 0) po_none (po_some (pv 1))))) (pg_name (i := 3) nd rfl (.inl rfl)) (pss_one (ps_set (i := 2) nd rfl (.inl rfl) (pe_call G2 hr (by rfl) N2.g N2.F.kp N2.b .nil pass0 (pa_cons (pv 2) (pa_cons (pv 3) pa_nil))))))
      (pss_one (ps_ret (pe_ix ix_list (pv 2) pe_int (fun _ _ => rfl))))))), ?_⟩
    have hlo := hR.lo
    have hhi := hR.hi
    have wr : (rt cs).length ≤ sizeLine := rt_fit (by omega)
    have hin : (!(PySem.Builtin.Str.occurrences (rt cs) (one 98) 0 (rt cs).length 1).isEmpty) = decide (98 ∈ cs) := by
      have := PySem.StrLaws.found_one (rt cs) 98
      rw [rt_list] at this
      exact this
    refine ⟨.str (rt cs), rfl, "b", rt cs, rfl, rfl, _, rfl, ?_⟩
    rw [sgn_b, hin]
    unfold um at q
    by_cases hb : 98 ∈ cs
    · rw [decide_eq_true hb]
      simp only [if_pos hb] at q
      obtain ⟨rest, hocc⟩ := idx_at hb
      have hil : cs.idxOf 98 < cs.length := List.idxOf_lt_length_iff.mpr hb
      generalize cs.idxOf 98 = j at q hocc hil
      refine iteF ⟨.str (rt cs), rfl, rfl, rt cs, one 98, j, rest, rfl, rfl, hocc, (by show 1 ≤ sizeLine; decide), fun o no => ?_⟩
      have t1 := same_upd (o := .lst [.int 1]) no
      have e1 : upd H o (.lst [.int 1]) o = some (.lst (([1] : List Nat).map wv)) := upd_same
      generalize upd H o (.lst [.int 1]) = H1 at t1 e1
      refine ⟨.str (rt cs), rfl, .int (j : Int), rfl, _, rfl, rt cs, rfl, wr, ?_⟩
      rw [cut_rt_from]
      refine ⟨.str (rt cs), rfl, .int (j : Int), rfl, _, rfl, rt cs, rfl, wr, ?_⟩
      rw [cut_rt_to]
      refine ⟨_, _, rfl, rfl, ?_, ?_⟩
      · rw [rt_len, rt_len, List.length_drop, List.length_take]
        exact fit (by omega)
      rw [show rt (cs.drop j) ++ rt (cs.take j) = rt (rot j cs) from rt_app _ _]
      have hrl : (rot j cs).length = cs.length := rot_len (Nat.le_of_lt hil)
      generalize rot j cs = ds at q hrl
      have dl : (rt ds).cps.size = ds.length := rt_len ds
      refine ⟨rt ds, rfl, rt_fit (by omega), ?_⟩
      refine for_it walk_revS (fun i σ H2 => ∃ (y3 : Option V) (p : Addr), σ = [some (.str (rt cs)), some (.int (j : Int)), some (.ref p), y3] ∧ Same H H2 ∧ H2 p = some (.lst ((wt (ds.drop (ds.length - i))).map wv))) ⟨_, o, rfl, t1, by rw [Nat.sub_zero, List.drop_length]; exact e1⟩ (fun _ _ _ _ _ => trivial) ?_ ?_
      · rintro i x σ H2 H3 hi ⟨y3, p, rfl, s2, e2⟩ ⟨rfl, c, hc, rfl⟩
        rw [dl] at hi
        rw [← Array.getElem?_toList, rt_list, dl] at hc
        obtain ⟨hcl, ec⟩ := List.getElem?_eq_some_iff.mp hc
        have ed : ds.drop (ds.length - (i + 1)) = c :: ds.drop (ds.length - i) := by
          rw [show ds.length - (i + 1) = ds.length - 1 - i by omega, List.drop_eq_getElem_cons hcl, ec, show ds.length - 1 - i + 1 = ds.length - i by omega]
        have hwl : (wt (ds.drop (ds.length - i))).length ≤ 99 := by
          have := wt_len (ds.drop (ds.length - i))
          rw [List.length_drop] at this
          omega
        refine ⟨.ref p, rfl, .str (one c), rfl, p, _, c, rfl, e2, hwl, fun H4 p4 s4 n4 e4 => ⟨_, p4, rfl, s2.trans s4, ?_⟩⟩
        rw [ed]
        exact e4
      · rintro σ H2 ⟨y3, p, rfl, s2, e2⟩
        rw [dl, Nat.sub_self, List.drop_zero] at e2
        have h1 := wt_pos ds
        have g0 : ((wt ds).map wv)[0]? = some (wv ((wt ds).getD 0 0)) := by
          rw [List.getElem?_map, List.getD_eq_getElem?_getD]
          rw [List.getD_eq_getElem?_getD] at h1
          cases h : (wt ds)[0]? with
          | none => rw [h] at h1; exact absurd h1 (by decide)
          | some x => rfl
        exact ⟨.ref p, rfl, p, _, 0, _, rfl, rfl, SqL.of e2, atI_nat (j := 0) g0, q H2 s2⟩
    · rw [decide_eq_false hb]
      simp only [if_neg hb] at q
      refine iteT ⟨.str (rt cs), rfl, rt cs, rfl, wr, .str (rt cs), rfl, rfl, rt cs, "a", rfl, rfl, ?_⟩
      rw [sgn_a, count_rt, rt_len]
      exact ⟨cs.length, cs.count 97, rfl, List.count_le_length, hhi, q H (Same.refl _)⟩
/-! ### need_ring -/
def spNeedR : Sp := fun vs H Q _ => ∃ cs, vs = [.str (rt cs)] ∧ Rg cs ∧ ∀ H', Same H H' → Q .non H'
theorem scNeedR : FnScope ["thing"] ["thing"] (defScope sNeedRing) := ⟨rfl, rfl, rfl, by decide +kernel, rfl, by decide +kernel, by decide +kernel⟩
theorem ok_needring {f f1 : Addr} {fd fd1 : FuncData} {k : Nat} (F : Fun K "need_ring" "need_ring" sNeedRing f fd) (N1 : Fn K mg "is_ring" sIsRing ["thing"] f1 fd1) (T : Txt K w mg d es n) : FnOk P w K mg base CX0 (k + 2) f fd ["thing"] spNeedR := by
  have G1 : FnOk P w K mg base CX0 (k + 1) f1 fd1 ["thing"] (spIsRing K) := ok_isring N1.F T
  refine F.ok scNeedR (fun vs H Q E h => ?_) (fun cdv A outer s H vs Q E hr h => ?_)
  · obtain ⟨cs, rfl, _⟩ := h
    rfl
  · obtain ⟨cs, rfl, hR, q⟩ := h
    refine ⟨_, pss_one (ps_if (pt_not (pt_val (pe_call G1 hr (by rfl) N1.g N1.F.kp N1.b .nil pass0 (pa_cons (pv 0) pa_nil)))) (pss_one ps_never) pss_nil), ?_⟩
    refine ⟨.str (rt cs), rfl, .str (rt cs), true, rfl, .inr ⟨rt cs, rfl, ?_, hR.isB.symm⟩, fun H1 s1 => ⟨true, rfl, iteF (q H1 s1)⟩⟩
    rw [rt_len]
    have := hR.hi
    omega
/-! ### ring_weight -/
theorem scWeight : FnScope ["ring"] ["ring"] (defScope sWeight) := ⟨rfl, rfl, rfl, by decide +kernel, rfl, by decide +kernel, by decide +kernel⟩
theorem ok_weight {f f0 f1 f2 f3 f4 f5 : Addr} {fd fd0 fd1 fd2 fd3 fd4 fd5 : FuncData} {k : Nat} (F : Fun K "ring_weight" "ring_weight" sWeight f fd) (N0 : Fn K mg "is_ring" sIsRing ["thing"] f0 fd0) (N5 : Fn K mg "need_ring" sNeedRing ["thing"] f5 fd5) (N1 : Fn K mg "with_upper" sWup ["waiting"] f1 fd1) (N2 : Fn K mg "past" sPast ["waiting", "sign"] f2 fd2) (N3 : Fn K mg "choices" sChoices ["many", "some"] f3 fd3)
    (N4 : Fn K mg "uppers_many" sUppers ["ring"] f4 fd4) (T : Txt K w mg d es n) : FnOk P w K mg base CX0 (k + 4) f fd ["ring"] spUpp := by
  have G5 : FnOk P w K mg base CX0 (k + 3) f5 fd5 ["thing"] spNeedR := ok_needring N5.F N0 T
  have G4 : FnOk P w K mg base CX0 (k + 3) f4 fd4 ["ring"] spUpp := ok_uppers N4.F N1 N2 N3 T
  refine F.ok scWeight (fun vs H Q E h => ?_) (fun cdv A outer s H vs Q E hr h => ?_)
  · obtain ⟨cs, rfl, _⟩ := h
    rfl
  · obtain ⟨cs, rfl, hR, q⟩ := h
    refine ⟨_, pss_cons (ps_expr (pe_call G5 hr (by rfl) N5.g N5.F.kp N5.b .nil pass0 (pa_cons (pv 0) pa_nil))) (pss_one (ps_ret (pe_call G4 hr (by rfl) N4.g N4.F.kp N4.b .nil pass0 (pa_cons (pv 0) pa_nil)))), ?_⟩
    exact ⟨.str (rt cs), rfl, cs, rfl, hR, fun H1 s1 => ⟨.str (rt cs), rfl, cs, rfl, hR, fun H2 s2 => q H2 (s1.trans s2)⟩⟩
end
end Hop

set_option Elab.async false
set_option linter.all false
set_option maxRecDepth 100000
namespace HopR
open PySem PySem.Spec PyProof.Rows L2
/-! ### numbers: // by any number but 0 -/
def CDivWN (_ j : Int) : Prop := j ≠ 0 ∧ j.natAbs.log2 < 9000
theorem op_fdivWN {X : Cx} : OpR X (binaryOp .FloorDiv) (rI CDivWN fun i j => .int (i.fdiv j)) := opI fun i j _ _ _ _ _ hc q => floordiv_int hc.1 q (.inl (PyProof.noPylong_of_log2 hc.2))
theorem gcd_fmod (a b : Int) : Int.gcd b (a.fmod b) = Int.gcd a b := by
  rw [Int.fmod_def, Int.mul_comm, Int.gcd_sub_mul_right_right, Int.gcd_comm]
theorem fmod_less (a : Int) {b : Int} (h : b ≠ 0) : (a.fmod b).natAbs < b.natAbs := by
  have h1 := Int.emod_nonneg a h
  have h2 := Int.emod_lt a h
  rw [Int.fmod_eq_emod]
  by_cases h3 : 0 ≤ b ∨ b ∣ a
  · rw [if_pos h3]
    omega
  · rw [if_neg h3]
    have h4 : a % b ≠ 0 := fun e => h3 (.inr (Int.dvd_of_emod_eq_zero e))
    have h5 : b < 0 := by
      refine Int.not_le.mp fun e => h3 (.inl e)
    omega
/-! ### fractions -/
theorem low_num {t b : Int} (h : b ≠ 0) : (t.fdiv (if b < 0 then -(Int.gcd t b : Int) else (Int.gcd t b : Int))) = (Rat.divInt t b).num := by
  have hd : ((Int.gcd t b : Nat) : Int) ∣ t := Int.gcd_dvd_left ..
  rw [Rat.num_divInt, Int.gcd_comm b t]
  by_cases hb : b < 0
  · rw [if_pos hb, Int.fdiv_eq_ediv_of_dvd (by rw [Int.neg_dvd]; exact hd), Int.ediv_neg, Int.sign_eq_neg_one_of_neg hb, Int.neg_one_mul, Int.neg_ediv_of_dvd hd]
  · have hb2 : 0 < b := by omega
    rw [if_neg hb, Int.fdiv_eq_ediv_of_dvd hd, Int.sign_eq_one_of_pos hb2, Int.one_mul]
theorem low_den {t b : Int} (h : b ≠ 0) : (b.fdiv (if b < 0 then -(Int.gcd t b : Int) else (Int.gcd t b : Int))) = ((Rat.divInt t b).den : Int) := by
  have hd : ((Int.gcd t b : Nat) : Int) ∣ b := Int.gcd_dvd_right ..
  rw [Rat.den_divInt, if_neg h, Int.gcd_comm b t]
  rw [Int.natCast_ediv]
  by_cases hb : b < 0
  · rw [if_pos hb, Int.fdiv_eq_ediv_of_dvd (by rw [Int.neg_dvd]; exact hd), Int.ediv_neg, Int.ofNat_natAbs_of_nonpos (by omega), Int.neg_ediv_of_dvd hd]
  · rw [if_neg hb, Int.fdiv_eq_ediv_of_dvd hd, Int.natAbs_of_nonneg (by omega)]
theorem gcd_pos {t b : Int} (h : b ≠ 0) : 0 < Int.gcd t b := Int.gcd_pos_of_ne_zero_right _ h
/-- both numbers of the fraction are below 2 ^ n -/
def Sz (n : Nat) (q : Rat) : Prop := q.num.natAbs < 2 ^ n ∧ q.den < 2 ^ n
theorem Sz.mono {n m : Nat} {q : Rat} (h : Sz n q) (hm : n ≤ m) : Sz m q := ⟨Nat.lt_of_lt_of_le h.1 (Nat.pow_le_pow_right (by decide) hm), Nat.lt_of_lt_of_le h.2 (Nat.pow_le_pow_right (by decide) hm)⟩
theorem sz_divInt {t b : Int} {n : Nat} (h : b ≠ 0) (ht : t.natAbs < 2 ^ n) (hb : b.natAbs < 2 ^ n) : Sz n (Rat.divInt t b) := by
  have g := gcd_pos (t := t) h
  constructor
  · rw [Rat.num_divInt]
    refine Nat.lt_of_le_of_lt (Int.natAbs_ediv_le_natAbs _ _) ?_
    rw [Int.natAbs_mul]
    rcases Int.lt_or_gt_of_ne h with h | h
    · rw [Int.sign_eq_neg_one_of_neg h]; simpa using ht
    · rw [Int.sign_eq_one_of_pos h]; simpa using ht
  · rw [Rat.den_divInt, if_neg h]
    exact Nat.lt_of_le_of_lt (Nat.div_le_self _ _) hb
theorem den_ne (q : Rat) : ((q.den : Nat) : Int) ≠ 0 := by
  have := q.den_nz
  omega
theorem pos_two (n : Nat) : 0 < 2 ^ n := Nat.pow_pos (by decide)
theorem two_lt {a b : Nat} {n : Nat} (ha : a < 2 ^ n) (hb : b < 2 ^ n) : a + b < 2 ^ (n + 1) := by
  rw [Nat.pow_succ]
  omega
theorem add_eq (q r : Rat) : q + r = Rat.divInt (q.num * r.den + r.num * q.den) ((q.den : Int) * (r.den : Int)) := by
  conv => lhs; rw [← Rat.num_divInt_den q, ← Rat.num_divInt_den r]
  exact Rat.divInt_add_divInt _ _ (den_ne q) (den_ne r)
theorem sub_eq (q r : Rat) : q - r = Rat.divInt (q.num * r.den - r.num * q.den) ((q.den : Int) * (r.den : Int)) := by
  conv => lhs; rw [← Rat.num_divInt_den q, ← Rat.num_divInt_den r]
  exact Rat.divInt_sub_divInt _ _ (den_ne q) (den_ne r)
theorem mul_eq (q r : Rat) : q * r = Rat.divInt (q.num * r.num) ((q.den : Int) * (r.den : Int)) := by
  conv => lhs; rw [← Rat.num_divInt_den q, ← Rat.num_divInt_den r]
  exact Rat.divInt_mul_divInt _ _
theorem div_eq (q r : Rat) : q / r = Rat.divInt (q.num * r.den) ((q.den : Int) * r.num) := by
  rw [Rat.div_def]
  conv => lhs; rw [← Rat.num_divInt_den q, ← Rat.num_divInt_den r]
  rw [Rat.inv_divInt]
  exact Rat.divInt_mul_divInt _ _
end HopR

set_option Elab.async false
set_option linter.all false
set_option maxRecDepth 100000
namespace HopR
open PySem PySem.Spec PyProof.Rows L2
/-! ### products, divided out crosswise -/
theorem mul_num (q r : Rat) : (q.num.fdiv (Int.gcd q.num (r.den : Int) : Int)) * (r.num.fdiv (Int.gcd r.num (q.den : Int) : Int)) = (q * r).num := by
  have h1 : ((Int.gcd q.num (r.den : Int) : Nat) : Int) ∣ q.num := Int.gcd_dvd_left ..
  have h2 : ((Int.gcd r.num (q.den : Int) : Nat) : Int) ∣ r.num := Int.gcd_dvd_left ..
  rw [Int.fdiv_eq_ediv_of_dvd h1, Int.fdiv_eq_ediv_of_dvd h2]
  show _ = (Rat.mul q r).num
  unfold Rat.mul
  rfl
theorem mul_den (q r : Rat) : ((q.den : Int).fdiv (Int.gcd r.num (q.den : Int) : Int)) * ((r.den : Int).fdiv (Int.gcd q.num (r.den : Int) : Int)) = ((q * r).den : Int) := by
  have h1 : ((Int.gcd q.num (r.den : Int) : Nat) : Int) ∣ (r.den : Int) := Int.gcd_dvd_right ..
  have h2 : ((Int.gcd r.num (q.den : Int) : Nat) : Int) ∣ (q.den : Int) := Int.gcd_dvd_right ..
  rw [Int.fdiv_eq_ediv_of_dvd h1, Int.fdiv_eq_ediv_of_dvd h2]
  show _ = ((Rat.mul q r).den : Int)
  unfold Rat.mul
  rfl
end HopR

set_option Elab.async false
set_option linter.all false
set_option maxRecDepth 100000
namespace HopR
open PySem PySem.Spec PyProof.Rows L2
/-! ### len, str and repr of objects of an own class; an attribute as a target -/
section
variable {X : Cx} {CX : CXT} {n : Nat} {C f : Addr} {fd : FuncData} {ps : List Str} {sp : Sp} {E : XK}
/-- a def called by a built-in that runs in the same frames -/
theorem call_at {A : Around} {pins : List (Addr × Obj)} {σ : L2.St} {H : Hp} {s : Shared} {Q : VK} {us : List Value} {vs : List V} (F : FnOk X.prog X.w X.K X.mg X.base CX n f fd ps sp) (room : Room n A) (frames : A.frames = X.A.frames) (bind : Binds X.K fd ps []) (lets : Passes CX X E)
    (I : Inv X pins σ H s) (vals : Vals vs us) (prom : sp vs H Q E) : wpAny (model X.prog X.w) A (call (.ref f) us) (EP X pins σ Q) X.xe s := by
  have I0 := I.env0
  have here : Env0 X.prog X.w X.K X.mg X.base A X.stack s H := { frames := frames.trans I0.frames, mod := I0.mod, bs := I0.bs, bsz := I0.bsz, funs := I0.funs, frf := I0.frf, hok := I0.hok, bare := I0.bare }
  have size := vals.length.symm.trans (F.len _ _ _ _ prom)
  have bound := bind s us I.kIn (by rw [List.append_nil]; exact size)
  rw [List.append_nil] at bound
  refine wpAny_call (codeAny_mono (F.run A X.stack s H ⟨us, []⟩ us vs Q E room here bound vals prom) fun r s' h => ?_)
  have said := after_call lets I h
  cases r with
  | error e => exact said
  | ok fl => cases fl <;> exact said
/-- one object of the class, and what its method promises of it -/
def rOwn1 (C : Addr) (sp : Sp) (E : XK) (R : V → Hp → VK → Prop) : List V → Hp → VK → Prop := fun xs H Q => ∃ a dx fs, xs = [.ref a] ∧ H a = some (.ins C dx fs) ∧ sp [.ref a] H (fun v H' => R v H' Q) E
def isLen : V → Hp → VK → Prop := fun v H Q => ∃ i : Int, v = .int i ∧ (0 ≤ i ∧ i < 2 ^ 63) ∧ Q (.int i) H
def isTxt : V → Hp → VK → Prop := fun v H Q => ∃ z : Str, v = .str z ∧ Q (.str z) H
/-- len(o) -/
theorem cr_lenOwn (len : PySem.W.findIn X.K (.ref C) "__len__" = some (some (.ref f))) (fn : PySem.W.isFn X.K (.ref f) = true) (F : FnOk X.prog X.w X.K X.mg X.base CX n f fd ps sp) (room : Room (n + 1) X.A) (bind : Binds X.K fd ps []) (lets : Passes CX X E) :
    CallR X (.builtin "len") (rOwn1 C sp E isLen) := by
  rintro pins s σ H _ us Q I r ⟨a, dx, fs, rfl, ha, prom⟩
  obtain ⟨u, rfl, rv⟩ := vals1 r
  cases rv
  obtain ⟨_, J, _⟩ := ins_get I.hok ha
  obtain ⟨od, J, _⟩ := J.look
  obtain ⟨m, F0⟩ := I.fr
  refine PySem.W.len_K F0 I.ok.mod.kin J len fn (thn (call_at F room.in1 rfl bind lets I (us := [.ref a]) (vs := [.ref a]) (.cons rfl .nil) prom) ?_)
  rintro w s' ⟨z, H', I', rz, i, rfl, hi, q⟩
  obtain ⟨t, rfl⟩ := rz
  exact ⟨hi, .int i, H', I'.tok _, ⟨_, rfl⟩, q⟩
/-- str(o) -/
theorem cr_strOwn (str : PySem.W.findIn X.K (.ref C) "__str__" = some (some (.ref f))) (fn : PySem.W.isFn X.K (.ref f) = true) (F : FnOk X.prog X.w X.K X.mg X.base CX n f fd ps sp) (room : Room (n + 2) X.A) (bind : Binds X.K fd ps []) (lets : Passes CX X E) :
    CallR X (.type "str") (rOwn1 C sp E isTxt) := by
  rintro pins s σ H _ us Q I r ⟨a, dx, fs, rfl, ha, prom⟩
  obtain ⟨u, rfl, rv⟩ := vals1 r
  cases rv
  obtain ⟨_, J, _⟩ := ins_get I.hok ha
  obtain ⟨od, J, _⟩ := J.look
  have un := room.un
  refine PySem.W.kso_call (by show X.A.units + 1 + 1 < cLine; omega) I.kIn J str fn (thn (call_at F room.in1.in1 rfl bind lets I (us := [.ref a]) (vs := [.ref a]) (.cons rfl .nil) prom) ?_)
  rintro w s' ⟨z, H', I', rz, y, rfl, q⟩
  obtain ⟨t, rfl⟩ := rz
  exact ⟨.str y, H', I', ⟨_, rfl⟩, q⟩
/-- repr(o) -/
theorem cr_reprOwn (rep : PySem.W.findIn X.K (.ref C) "__repr__" = some (some (.ref f))) (fn : PySem.W.isFn X.K (.ref f) = true) (F : FnOk X.prog X.w X.K X.mg X.base CX n f fd ps sp) (room : Room (n + 1) X.A) (bind : Binds X.K fd ps []) (lets : Passes CX X E) :
    CallR X (.builtin "repr") (rOwn1 C sp E isTxt) := by
  rintro pins s σ H _ us Q I r ⟨a, dx, fs, rfl, ha, prom⟩
  obtain ⟨u, rfl, rv⟩ := vals1 r
  cases rv
  obtain ⟨_, J, _⟩ := ins_get I.hok ha
  obtain ⟨od, J, _⟩ := J.look
  obtain ⟨m, F0⟩ := I.fr
  have un := room.un
  refine PySem.W.repr_K (by show X.A.units + 1 < cLine; omega) F0 I.ok.mod.kin J rep fn (thn (call_at F room.in1 rfl bind lets I (us := [.ref a]) (vs := [.ref a]) (.cons rfl .nil) prom) ?_)
  rintro w s' ⟨z, H', I', rz, y, rfl, q⟩
  obtain ⟨t, rfl⟩ := rz
  exact ⟨.str y, H', I', ⟨_, rfl⟩, q⟩
end
section
variable {X : Cx}
/-- o.f as a target: the field is put -/
def gFld (K : PySem.W.Frag) (to : TE) (f : Str) : TG := fun v σ H Q => to σ H fun o H1 => ∃ a C dx fs, o = .ref a ∧ H1 a = some (.ins C dx fs) ∧ Cls K C ∧ NoAttr K C f ∧ fs.length < 1000 ∧ Q σ (upd H1 a (.ins C dx (putF f v fs)))
theorem pg_fld {o : Expr} {to : TE} {f : Str} {pos : Pos} (ho : PE X o to) : PG X (.Attribute o f pos) (gFld X.K to f) := by
  constructor
  intro pins s σ H v u Q I r h
  rw [assign_Attribute]
  refine wpAny_bind (wpAny_holding (thn (ho.run pins s σ H _ I h) ?_))
  rintro ov s1 ⟨x, H1, I1, rx, a, C, dx, fs, rfl, ea, c, na, few, q⟩
  cases rx
  refine wpAny_bind (wpAny_standAt (wpAny_bind (wpAny_holding (setattr_ok I1 ea c na few r fun s2 I2 => ?_))))
  exact wpAny_release ⟨σ, _, I2, q⟩
end
end HopR

set_option Elab.async false
set_option linter.all false
set_option maxRecDepth 100000
namespace HopR
open PySem L2
/-! ### fractions above nought -/
theorem num_pos {q : Rat} (h : 0 < q) : 0 < q.num := by
  have h1 : 0 ≤ q.num := Rat.num_nonneg.mpr (by grind)
  have h2 : q.num ≠ 0 := fun e => by
    have : q = 0 := Rat.num_eq_zero.mp e
    rw [this] at h
    exact absurd h (by decide)
  omega
theorem pos_num {q : Rat} (h : 0 < q.num) : 0 < q := by
  have h1 : 0 ≤ q := Rat.num_nonneg.mp (by omega)
  have h2 : q ≠ 0 := fun e => by
    rw [e] at h
    exact absurd h (by decide)
  grind
theorem add_above {x y : Rat} (h : 0 ≤ y) (h2 : 0 < x) : 0 < y + x := by grind
theorem le_above {x : Rat} (h : 0 < x) : 0 ≤ x := by grind
theorem div_ne {q r : Rat} (h : 0 < q) (h2 : 0 < r) : q / r ≠ 0 := by
  rw [Rat.div_def]
  intro e
  rcases Rat.mul_eq_zero.mp e with e | e
  · rw [e] at h
    exact absurd h (by decide)
  · have h3 : r = 0 := by rw [← Rat.inv_inv r, e, Rat.inv_zero]
    rw [h3] at h2
    exact absurd h2 (by decide)
theorem ne_above {x : Rat} (h : 0 < x) : x ≠ 0 := fun e => by
  rw [e] at h
  exact absurd h (by decide)
theorem nat_low (n : Nat) : (0 : Rat) ≤ ((n : Int) : Rat) := by exact_mod_cast Nat.zero_le n
theorem nat_above {n : Nat} (h : 0 < n) : (0 : Rat) < ((n : Int) : Rat) := by exact_mod_cast h
theorem rat_int (t : Int) : Rat.divInt t 1 = (t : Rat) := by
  rw [Rat.divInt_eq_div]
  show (t : Rat) / ((1 : Int) : Rat) = (t : Rat)
  rw [Rat.div_def]
  have e : ((1 : Int) : Rat)⁻¹ = 1 := by decide +kernel
  rw [e, Rat.mul_one]
theorem sz_int {n k : Nat} (h : n < 2 ^ k) (hk : 1 ≤ k) : Sz k ((n : Int) : Rat) := by
  refine ⟨h, ?_⟩
  show 1 < 2 ^ k
  exact Nat.one_lt_two_pow (by omega)
theorem sz_add {n m : Nat} {q r : Rat} (h1 : Sz n q) (h2 : Sz m r) : Sz (n + m + 1) (q + r) := by
  rw [add_eq]
  have b1 : (q.num * r.den).natAbs < 2 ^ (n + m) := by
    rw [Int.natAbs_mul, Nat.pow_add]
    exact Nat.mul_lt_mul'' h1.1 h2.2
  have b2 : (r.num * q.den).natAbs < 2 ^ (n + m) := by
    rw [Int.natAbs_mul, Nat.add_comm, Nat.pow_add]
    exact Nat.mul_lt_mul'' h2.1 h1.2
  refine sz_divInt (Int.mul_ne_zero (den_ne q) (den_ne r)) ?_ ?_
  · exact Nat.lt_of_le_of_lt (Int.natAbs_add_le _ _) (two_lt b1 b2)
  · rw [Int.natAbs_mul]
    have h3 : q.den * r.den < 2 ^ (n + m) := by
      rw [Nat.pow_add]
      exact Nat.mul_lt_mul'' h1.2 h2.2
    exact Nat.lt_of_lt_of_le h3 (Nat.pow_le_pow_right (by decide) (by omega))
theorem sz_mul {n m : Nat} {q r : Rat} (h1 : Sz n q) (h2 : Sz m r) : Sz (n + m) (q * r) := by
  rw [mul_eq]
  refine sz_divInt (Int.mul_ne_zero (den_ne q) (den_ne r)) ?_ ?_
  · rw [Int.natAbs_mul, Nat.pow_add]
    exact Nat.mul_lt_mul'' h1.1 h2.1
  · rw [Int.natAbs_mul, Nat.pow_add]
    exact Nat.mul_lt_mul'' h1.2 h2.2
theorem sz_inv {n : Nat} {r : Rat} (h : Sz n r) (h0 : r ≠ 0) : Sz n r⁻¹ := by
  rw [Rat.inv_def]
  exact sz_divInt (fun e => h0 (Rat.num_eq_zero.mp e)) h.2 h.1
theorem sz_div {n m : Nat} {q r : Rat} (h1 : Sz n q) (h2 : Sz m r) (h0 : r ≠ 0) : Sz (n + m) (q / r) := by
  rw [Rat.div_def]
  exact sz_mul h1 (sz_inv h2 h0)
/-! ### walls -/
theorem two_in {l : List Nat} {a b : Nat} (ha : a ∈ l) (hb : b ∈ l) (h : a ≠ b) : 2 ≤ l.length := by
  match l, ha, hb with
  | [x], ha, hb =>
    have h1 := List.mem_singleton.mp ha
    have h2 := List.mem_singleton.mp hb
    omega
  | _ :: _ :: _, _, _ => simp
theorem one_in {l : List Nat} {a : Nat} (ha : a ∈ l) : 1 ≤ l.length := by
  match l, ha with
  | _ :: _, _ => simp
end HopR

set_option Elab.async false
set_option linter.all false
set_option maxRecDepth 100000
set_option exponentiation.threshold 200000
namespace Hop
open PySem L2 HopR
open C8 (InsC call_isC)
/-! ### a Part -/
theorem tb_ : ¬ (("top" : Str) = "bottom") := by decide +kernel
def pf (q : Rat) : List (Str × V) := putF "bottom" (.int (q.den : Int)) (putF "top" (.int q.num) [])
theorem pf_top (q : Rat) : (pf q).lookup ("top" : Str) = some (.int q.num) := by
  unfold pf
  rw [lookup_putF, if_neg tb_, lookup_putF, if_pos rfl]
theorem pf_bottom (q : Rat) : (pf q).lookup ("bottom" : Str) = some (.int (q.den : Int)) := by
  unfold pf
  rw [lookup_putF, if_pos rfl]
theorem pf_no (q : Rat) {m : Str} (h1 : ¬ m = "bottom") (h2 : ¬ m = "top") : (pf q).lookup m = none := by
  unfold pf
  rw [lookup_putF, if_neg h1, lookup_putF, if_neg h2]
  rfl
/-- at a a Part of q -/
def PA (C : Addr) (H : Hp) (a : Addr) (q : Rat) : Prop := ∃ dx, H a = some (.ins C dx (pf q))
theorem PA.same {C : Addr} {H H' : Hp} {a : Addr} {q : Rat} (s : Same H H') (h : PA C H a q) : PA C H' a q := let ⟨dx, e⟩ := h; ⟨dx, s _ _ e⟩
/-- what is known of the class and of the built-ins -/
structure TxtP (K : PySem.W.Frag) (mg : Str → Option Value) (C : Addr) : Prop where
  len : mg "len" = none
  range : mg "range" = none
  abs : mg "abs" = none
  isi : mg "isinstance" = none
  int : mg "int" = none
  bool : mg "bool" = none
  ins : InsC K C
  nT : NoAttr K C "top"
  nB : NoAttr K C "bottom"
  mgC : mg "Part" = some (.ref C)
section
variable {P : Program} {w : World} {K : PySem.W.Frag} {mg : Str → Option Value} {base : Heap} {C : Addr}
def spWhole : Sp := fun vs H Q _ => ∃ i : Int, vs = [.int i] ∧ Q (.bl true) H
theorem scWhole : FnScope ["thing"] ["thing"] (defScope sIsWhole) := ⟨rfl, rfl, rfl, by decide +kernel, rfl, by decide +kernel, by decide +kernel⟩
theorem ok_whole {f : Addr} {fd : FuncData} {k : Nat} (F : Fun K "is_whole" "is_whole" sIsWhole f fd) (T : TxtP K mg C) : FnOk P w K mg base CX0 (k + 1) f fd ["thing"] spWhole := by
  refine F.ok scWhole (fun vs H Q E h => ?_) (fun cdv A outer s H vs Q E hr h => ?_)
  · obtain ⟨i, rfl, _⟩ := h
    rfl
  · obtain ⟨i, rfl, q⟩ := h
    refine ⟨_, pss_one (ps_ret (pe_and (pe_callB call_isi (by rfl) T.isi (by decide +kernel) (pa_cons (pv 0) (pa_cons (pe_bltn (v := .ty "int") (by rfl) T.int (by decide +kernel) rfl) pa_nil)))
      (pe_one (pe_not (pe_callB call_isi (by rfl) T.isi (by decide +kernel) (pa_cons (pv 0) (pa_cons (pe_bltn (v := .ty "bool") (by rfl) T.bool (by decide +kernel) rfl) pa_nil))))))), ?_⟩
    refine ⟨.int i, rfl, .int i, .ty "int", .type "int", .type "int", true, rfl, .ty _, .base (.int _), kit_ty (by decide +kernel), true, rfl, ?_⟩
    exact ⟨.int i, rfl, .int i, .ty "bool", .type "int", .type "bool", false, rfl, .ty _, .base (.int _), kit_ty (by decide +kernel), false, rfl, q⟩
def spDivisor : Sp := fun vs H Q _ => ∃ a b : Int, vs = [.int a, .int b] ∧ Q (.int (Int.gcd a b : Int)) H
theorem scDivisor : FnScope ["one", "other"] ["one", "other"] (defScope sDivisor) := ⟨rfl, rfl, rfl, by decide +kernel, rfl, by decide +kernel, by decide +kernel⟩
theorem ok_divisor {f : Addr} {fd : FuncData} {k : Nat} (F : Fun K "common_divisor" "common_divisor" sDivisor f fd) (T : TxtP K mg C) : FnOk P w K mg base CX0 (k + 1) f fd ["one", "other"] spDivisor := by
  refine F.ok scDivisor (fun vs H Q E h => ?_) (fun cdv A outer s H vs Q E hr h => ?_)
  · obtain ⟨a, b, rfl, _⟩ := h
    rfl
  · obtain ⟨a, b, rfl, q⟩ := h
    have nd := scDivisor.nd
    refine ⟨_, pss_cons (ps_while PassesOwn.never (pt_cmpR op_ne (pv 1) pe_int (nomark _)) (pss_one (ps_par (by rfl) nd (i := 0) (j := 1) rfl rfl (by decide) rfl rfl (pa_cons (pv 1) (pa_cons (pe_op op_modN (pv 0) (pv 1)) pa_nil)) (by rfl))))
      (pss_one (ps_ret (pe_callB call_abs (by rfl) T.abs (by decide +kernel) (pa_cons (pv 0) pa_nil)))), ?_⟩
    refine while_by (fun σ H1 => ∃ x y : Int, σ = [some (.int x), some (.int y)] ∧ Int.gcd x y = Int.gcd a b ∧ H1 = H) (fun σ _ => match σ with | [_, some (.int y)] => y.natAbs | _ => 0) ⟨a, b, rfl, rfl, rfl⟩ ?_ ?_
    · rintro σ H1 ⟨x, y, rfl, e, rfl⟩
      refine ⟨.int y, rfl, rfl, _, rfl, ?_⟩
      by_cases hy : y = 0
      · subst hy
        refine iteNS rfl ⟨.int x, rfl, x, rfl, ?_⟩
        have e2 : (if x < 0 then -x else x) = (Int.gcd a b : Int) := by
          rw [← e, Int.gcd_zero_right]
          split <;> omega
        show Q (.int (if x < 0 then -x else x)) H1
        rw [e2]
        exact q
      · rw [decide_eq_false (fun z => hy (V.int.inj z))]
        refine iteT ⟨.int y, rfl, .int x, rfl, .int y, rfl, x, y, rfl, rfl, hy, _, _, rfl, ⟨y, x.fmod y, rfl, (gcd_fmod x y).trans e, rfl⟩, fmod_less x hy⟩
    · rintro σ H1 Q1 Q2 hm h
      obtain ⟨v, e1, e2, k2, e3, h⟩ := h
      exact ⟨v, e1, e2, k2, e3, hm _ _ h⟩
/-! ### Part.__init__ -/
theorem scInit : FnScope ["self", "top", "bottom", "divisor"] ["self", "top", "bottom"] (defScope sInit) := ⟨rfl, rfl, rfl, by decide +kernel, rfl, by decide +kernel, by decide +kernel⟩
def spInit (C : Addr) : Sp := fun vs H Q _ => ∃ (p dx : Addr) (t b : Int), vs = [.ref p, .int t, .int b] ∧ b ≠ 0 ∧ b.natAbs < 2 ^ 8000 ∧ H p = some (.ins C dx []) ∧ Q .non (upd H p (.ins C dx (pf (Rat.divInt t b))))
theorem ok_init {f f1 f2 : Addr} {fd fd1 fd2 : FuncData} {k : Nat} (F : FunD K "__init__" "Part.__init__" (defArgs sInit) (defBody sInit) (defScope sInit) [.int 1] [] f fd) (N1 : Fn K mg "is_whole" sIsWhole ["thing"] f1 fd1) (N2 : Fn K mg "common_divisor" sDivisor ["one", "other"] f2 fd2) (T : TxtP K mg C) :
    FnOk P w K mg base CX0 (k + 2) f fd ["self", "top", "bottom"] (spInit C) := by
  have G1 : FnOk P w K mg base CX0 (k + 1) f1 fd1 ["thing"] spWhole := ok_whole N1.F T
  have G2 : FnOk P w K mg base CX0 (k + 1) f2 fd2 ["one", "other"] spDivisor := ok_divisor N2.F T
  refine F.ok scInit (fun vs H Q E h => ?_) (fun cdv A outer s H vs Q E hr h => ?_)
  · obtain ⟨p, dx, t, b, rfl, _⟩ := h
    rfl
  · obtain ⟨p, dx, t, b, rfl, hb, hb2, hp, q⟩ := h
    have nd := scInit.nd
    refine ⟨_, PSs.nox (pss_cons (ps_if (pt_not (pt_val (pe_call G1 hr (by rfl) N1.g N1.F.kp N1.b .nil pass0 (pa_cons (pv 1) pa_nil)))) (pss_one ps_never) pss_nil)
      (pss_cons (ps_if (pt_not (pt_val (pe_call G1 hr (by rfl) N1.g N1.F.kp N1.b .nil pass0 (pa_cons (pv 2) pa_nil)))) (pss_one ps_never) pss_nil)
      (pss_cons (ps_if (pt_cmpR op_eq (pv 2) pe_int (nomark _)) (pss_one ps_never) pss_nil)
      (pss_cons (ps_set (i := 3) nd rfl (.inl rfl) (pe_call G2 hr (by rfl) N2.g N2.F.kp N2.b .nil pass0 (pa_cons (pv 1) (pa_cons (pv 2) pa_nil))))
      (pss_cons (ps_if (pt_cmpR op_lt (pv 2) pe_int (nomark _)) (pss_one (ps_set (i := 3) nd rfl (.inl rfl) (pe_un un_neg (pv 3)))) pss_nil)
      (pss_cons (ps_fld (pv 0) (pe_op op_fdivWN (pv 1) (pv 3)) rfl)
      (pss_one (ps_fld (pv 0) (pe_op op_fdivWN (pv 2) (pv 3)) rfl)))))))), ?_⟩
    refine ⟨.int t, rfl, t, rfl, true, rfl, iteF ⟨.int b, rfl, b, rfl, true, rfl, iteF ⟨.int b, rfl, rfl, _, rfl, ?_⟩⟩⟩
    rw [decide_eq_false (fun z => hb (V.int.inj z))]
    refine iteF ⟨.int t, rfl, .int b, rfl, t, b, rfl, ?_⟩
    have hg := gcd_pos (t := t) hb
    have hgl : (Int.gcd t b).log2 < 9000 := by
      have h1 : Int.gcd t b ≤ b.natAbs := Nat.le_of_dvd (by omega) (Int.gcd_dvd_natAbs_right ..)
      exact Nat.lt_of_lt_of_le (PySem.Flt.log2_lt_of (by decide) (Nat.lt_of_le_of_lt h1 hb2)) (by decide)
    have fin : ∀ g : Int, g = (if b < 0 then -(Int.gcd t b : Int) else (Int.gcd t b : Int)) → CDivWN t g ∧ CDivWN b g := fun g e => by
      have e2 : g.natAbs = Int.gcd t b := by
        rw [e]
        split <;> omega
      unfold CDivWN
      rw [e2]
      exact ⟨⟨by omega, hgl⟩, ⟨by omega, hgl⟩⟩
    have done : ∀ g : Int, g = (if b < 0 then -(Int.gcd t b : Int) else (Int.gcd t b : Int)) → Q .non (upd (upd H p (.ins C dx (putF "top" (.int (t.fdiv g)) []))) p (.ins C dx (putF "bottom" (.int (b.fdiv g)) (putF "top" (.int (t.fdiv g)) [])))) := fun g e => by
      rw [upd_upd, e, low_num hb, low_den hb]
      exact q
    refine ⟨.int b, rfl, _, _, rfl, rfl, _, rfl, ite2 (fun e => ?_) (fun e => ?_)⟩
    · have e : b < 0 := of_decide_eq_true e
      have eg : -(Int.gcd t b : Int) = (if b < 0 then -(Int.gcd t b : Int) else (Int.gcd t b : Int)) := (if_pos e).symm
      obtain ⟨c1, c2⟩ := fin _ eg
      refine ⟨_, rfl, _, rfl, ?_⟩
      refine ⟨.int t, rfl, _, rfl, t, _, rfl, rfl, c1, .ref p, rfl, p, C, dx, _, rfl, hp, T.ins.cl, T.nT, (by show 0 < 1000; decide), ?_⟩
      exact ⟨.int b, rfl, _, rfl, b, _, rfl, rfl, c2, .ref p, rfl, p, C, dx, _, rfl, upd_same, T.ins.cl, T.nB, (by show 1 < 1000; decide), done _ eg⟩
    · have e : ¬ b < 0 := fun z => e (decide_eq_true z)
      have eg : (Int.gcd t b : Int) = (if b < 0 then -(Int.gcd t b : Int) else (Int.gcd t b : Int)) := (if_neg e).symm
      obtain ⟨c1, c2⟩ := fin _ eg
      refine ⟨.int t, rfl, _, rfl, t, _, rfl, rfl, c1, .ref p, rfl, p, C, dx, _, rfl, hp, T.ins.cl, T.nT, (by show 0 < 1000; decide), ?_⟩
      exact ⟨.int b, rfl, _, rfl, b, _, rfl, rfl, c2, .ref p, rfl, p, C, dx, _, rfl, upd_same, T.ins.cl, T.nB, (by show 1 < 1000; decide), done _ eg⟩
/-! ### the methods -/
/-- what a Part is made with: its class, its __init__ and how that binds -/
structure Mks (K : PySem.W.Frag) (mg : Str → Option Value) (C fi f1 f2 : Addr) (gi g1 g2 : FuncData) (d1 : Value) : Prop where
  M : Mk K C fi
  F : FunD K "__init__" "Part.__init__" (defArgs sInit) (defBody sInit) (defScope sInit) [.int 1] [] fi gi
  b3 : Binds K gi ["self", "top", "bottom"] []
  b2 : Binds K gi ["self", "top", "bottom"] [d1]
  r1 : RelV (.int 1) d1
  N1 : Fn K mg "is_whole" sIsWhole ["thing"] f1 g1
  N2 : Fn K mg "common_divisor" sDivisor ["one", "other"] f2 g2
/-- a new Part, behind H -/
def New (C : Addr) (H : Hp) (q : Rat) (Q : VK) : Prop := ∀ H' p, Same H H' → H p = none → PA C H' p q → Q (.ref p) H'
theorem made {C : Addr} {H : Hp} {t b : Int} {Q : VK} {E : XK} (hb : b ≠ 0) (hz : b.natAbs < 2 ^ 8000) (h : New C H (Rat.divInt t b) Q) :
    ∀ x dx, H x = none → H dx = none → dx ≠ x → spInit C (.ref x :: ([.int t, .int b] ++ [])) (upd (upd H dx (.own x)) x (.ins C dx [])) (fun v H2 => v = .non ∧ Q (.ref x) H2) E := by
  intro x dx hx hdx ne
  refine ⟨x, dx, t, b, rfl, hb, hz, upd_same, rfl, ?_⟩
  rw [upd_upd]
  refine h _ _ (fun c o e => ?_) hx ⟨dx, upd_same⟩
  rw [upd_ne (ne_of_none e hx), upd_ne (ne_of_none e hdx)]
  exact e
theorem made1 {C : Addr} {H : Hp} {t : Int} {Q : VK} {E : XK} (h : New C H (Rat.divInt t 1) Q) :
    ∀ x dx, H x = none → H dx = none → dx ≠ x → spInit C (.ref x :: ([.int t] ++ [.int 1])) (upd (upd H dx (.own x)) x (.ins C dx [])) (fun v H2 => v = .non ∧ Q (.ref x) H2) E :=
  made (t := t) (b := 1) (by decide) (Nat.one_lt_two_pow (by decide)) h
def spOp (C : Addr) (ok : Rat → Rat → Prop) (g : Rat → Rat → Rat) : Sp := fun vs H Q _ => ∃ a b q r, vs = [.ref a, .ref b] ∧ PA C H a q ∧ PA C H b r ∧ Sz 4000 q ∧ Sz 3900 r ∧ ok q r ∧ New C H (g q r) Q
theorem den_pos (q : Rat) : 0 < q.den := Nat.pos_of_ne_zero q.den_nz
theorem sz_den {q r : Rat} (h1 : Sz 4000 q) (h2 : Sz 3900 r) : ((q.den : Int) * (r.den : Int)).natAbs < 2 ^ 8000 := by
  have h := wide_lt (i := (q.den : Int)) (j := (r.den : Int)) (a := 4000) (b := 3900) (by simpa using h1.2) (by simpa using h2.2)
  exact Nat.lt_of_lt_of_le h (Nat.pow_le_pow_right (by decide) (by decide))
theorem mulW {i j : Int} (h1 : i.natAbs < 2 ^ 4000) (h2 : j.natAbs < 2 ^ 4000) : CMulW i j := wide_mul h1 h2 (by decide) (by decide) (by decide)
theorem up39 {n : Nat} (h : n < 2 ^ 3900) : n < 2 ^ 4000 := Nat.lt_of_lt_of_le h (Nat.pow_le_pow_right (by decide) (by decide))
theorem scPlus : FnScope ["self", "other"] ["self", "other"] (defScope sPlus) := ⟨rfl, rfl, rfl, by decide +kernel, rfl, by decide +kernel, by decide +kernel⟩
theorem ok_plus {f fi f1 f2 : Addr} {fd gi g1 g2 : FuncData} {d1 : Value} {k : Nat} (F : Fun K "plus" "Part.plus" sPlus f fd) (N : Mks K mg C fi f1 f2 gi g1 g2 d1) (T : TxtP K mg C) : FnOk P w K mg base CX0 (k + 4) f fd ["self", "other"] (spOp C (fun _ _ => True) (fun q r => q + r)) := by
  have GI : FnOk P w K mg base CX0 (k + 2) fi gi ["self", "top", "bottom"] (spInit C) := ok_init N.F N.N1 N.N2 T
  refine F.ok scPlus (fun vs H Q E h => ?_) (fun cdv A outer s H vs Q E hr h => ?_)
  · obtain ⟨a, b, q, r, rfl, _⟩ := h
    rfl
  · obtain ⟨a, b, q, r, rfl, ⟨dx, ha⟩, ⟨dy, hb⟩, zq, zr, _, h⟩ := h
    refine ⟨_, pss_one (ps_ret (pe_make N.M GI hr (by rfl) T.mgC N.b3 .nil pass0 (pa_cons (pe_op op_add (pe_op op_mulW (pe_fld (pv 0) rfl) (pe_fld (pv 1) rfl)) (pe_op op_mulW (pe_fld (pv 1) rfl) (pe_fld (pv 0) rfl))) (pa_cons (pe_op op_mulW (pe_fld (pv 0) rfl) (pe_fld (pv 1) rfl)) pa_nil)))), ?_⟩
    refine ⟨.ref a, rfl, a, C, dx, _, _, rfl, ha, T.ins.cl, T.nT, pf_top q, .ref b, rfl, b, C, dy, _, _, rfl, hb, T.ins.cl, T.nB, pf_bottom r, _, _, rfl, rfl, mulW zq.1 (by simpa using up39 zr.2), ?_⟩
    refine ⟨.ref b, rfl, b, C, dy, _, _, rfl, hb, T.ins.cl, T.nT, pf_top r, .ref a, rfl, a, C, dx, _, _, rfl, ha, T.ins.cl, T.nB, pf_bottom q, _, _, rfl, rfl, mulW (up39 zr.1) (by simpa using zq.2), _, _, rfl, rfl, ?_⟩
    refine ⟨.ref a, rfl, a, C, dx, _, _, rfl, ha, T.ins.cl, T.nB, pf_bottom q, .ref b, rfl, b, C, dy, _, _, rfl, hb, T.ins.cl, T.nB, pf_bottom r, _, _, rfl, rfl, mulW (by simpa using zq.2) (by simpa using up39 zr.2), ?_⟩
    refine made (Int.mul_ne_zero (den_ne q) (den_ne r)) (sz_den zq zr) ?_
    rw [← add_eq]
    exact h
/-! ### lowest, times, over -/
theorem mk_facts {H : Hp} {x dx : Addr} {q : Rat} (hx : H x = none) (hdx : H dx = none) : Same H (upd (upd H dx (.own x)) x (.ins C dx (pf q))) ∧ PA C (upd (upd H dx (.own x)) x (.ins C dx (pf q))) x q := by
  refine ⟨fun c o e => ?_, dx, upd_same⟩
  rw [upd_ne (ne_of_none e hx), upd_ne (ne_of_none e hdx)]
  exact e
/-! ### _law_together -/
theorem pf_set (q r : Rat) : putF "bottom" (.int (q.den : Int)) (putF "top" (.int q.num) (pf r)) = pf q := by
  unfold pf
  simp [putF, tb_]
theorem few_pf (q : Rat) : (pf q).length < 1000 := by
  unfold pf
  simp [putF, tb_]
theorem few_pf1 (q : Rat) (x : V) : (putF "top" x (pf q)).length < 1000 := by
  unfold pf
  simp [putF, tb_]
theorem scLowest : FnScope ["top", "bottom", "result"] ["top", "bottom"] (defScope sLowest) := ⟨rfl, rfl, rfl, by decide +kernel, rfl, by decide +kernel, by decide +kernel⟩
def spLowest (C : Addr) : Sp := fun vs H Q _ => ∃ q : Rat, vs = [.int q.num, .int (q.den : Int)] ∧ New C H q Q
theorem ok_lowest {f fi f1 f2 : Addr} {fd gi g1 g2 : FuncData} {d1 : Value} {k : Nat} (F : Fun K "lowest" "lowest" sLowest f fd) (N : Mks K mg C fi f1 f2 gi g1 g2 d1) (T : TxtP K mg C) : FnOk P w K mg base CX0 (k + 4) f fd ["top", "bottom"] (spLowest C) := by
  have GI : FnOk P w K mg base CX0 (k + 2) fi gi ["self", "top", "bottom"] (spInit C) := ok_init N.F N.N1 N.N2 T
  refine F.ok scLowest (fun vs H Q E h => ?_) (fun cdv A outer s H vs Q E hr h => ?_)
  · obtain ⟨q, rfl, _⟩ := h
    rfl
  · obtain ⟨q, rfl, h⟩ := h
    have nd := scLowest.nd
    refine ⟨_, pss_cons (ps_set (i := 2) nd rfl (.inl rfl) (pe_make N.M GI hr (by rfl) T.mgC N.b2 (.cons N.r1 .nil) pass0 (pa_cons pe_int pa_nil)))
      (pss_cons (ps_fld (pv 2) (pv 0) rfl) (pss_cons (ps_fld (pv 2) (pv 1) rfl) (pss_one (ps_ret (pv 2))))), ?_⟩
    intro p dx np hdx ne
    refine ⟨p, dx, 1, 1, rfl, by decide, Nat.one_lt_two_pow (by decide), upd_same, rfl, ?_⟩
    rw [upd_upd]
    refine ⟨.int q.num, rfl, .ref p, rfl, p, C, dx, _, rfl, upd_same, T.ins.cl, T.nT, few_pf _, ?_⟩
    refine ⟨.int (q.den : Int), rfl, .ref p, rfl, p, C, dx, _, rfl, upd_same, T.ins.cl, T.nB, few_pf1 _ _, ?_⟩
    refine ⟨.ref p, rfl, ?_⟩
    rw [upd_upd, upd_upd, pf_set]
    refine h _ p (fun c o e => ?_) np ⟨dx, upd_same⟩
    rw [upd_ne (ne_of_none e np), upd_ne (ne_of_none e hdx)]
    exact e
def spMul (C : Addr) : Sp := fun vs H Q _ => ∃ a b q r, vs = [.ref a, .ref b] ∧ PA C H a q ∧ PA C H b r ∧ Sz 100000 q ∧ Sz 3900 r ∧ (r ≠ 0 ∨ Sz 8000 q) ∧ New C H (q * r) Q
theorem fdiv_le {t : Int} {g n : Nat} (h : t.natAbs < 2 ^ n) (d : (g : Int) ∣ t) : (t.fdiv (g : Int)).natAbs < 2 ^ n := by
  rw [Int.fdiv_eq_ediv_of_dvd d]
  exact Nat.lt_of_le_of_lt (Int.natAbs_ediv_le_natAbs _ _) h
theorem scTimes : FnScope ["self", "other", "first", "second"] ["self", "other"] (defScope sTimes) := ⟨rfl, rfl, rfl, by decide +kernel, rfl, by decide +kernel, by decide +kernel⟩
theorem ok_mul {f fi f1 f2 fz : Addr} {fd gi g1 g2 gz : FuncData} {d1 : Value} {k : Nat} (F : Fun K "times" "Part.times" sTimes f fd) (N : Mks K mg C fi f1 f2 gi g1 g2 d1) (Nz : Fn K mg "lowest" sLowest ["top", "bottom"] fz gz) (T : TxtP K mg C) :
    FnOk P w K mg base CX0 (k + 5) f fd ["self", "other"] (spMul C) := by
  have G2 : FnOk P w K mg base CX0 (k + 4) f2 g2 ["one", "other"] spDivisor := ok_divisor N.N2.F T
  have GZ : FnOk P w K mg base CX0 (k + 4) fz gz ["top", "bottom"] (spLowest C) := ok_lowest Nz.F N T
  refine F.ok scTimes (fun vs H Q E h => ?_) (fun cdv A outer s H vs Q E hr h => ?_)
  · obtain ⟨a, b, q, r, rfl, _⟩ := h
    rfl
  · obtain ⟨a, b, q, r, rfl, ⟨dx, ha⟩, ⟨dy, hb⟩, zq, zr, hs, h⟩ := h
    have nd := scTimes.nd
    refine ⟨_, pss_cons (ps_set (i := 2) nd rfl (.inl rfl) (pe_call G2 hr (by rfl) N.N2.g N.N2.F.kp N.N2.b .nil pass0 (pa_cons (pe_fld (pv 0) rfl) (pa_cons (pe_fld (pv 1) rfl) pa_nil))))
      (pss_cons (ps_set (i := 3) nd rfl (.inl rfl) (pe_call G2 hr (by rfl) N.N2.g N.N2.F.kp N.N2.b .nil pass0 (pa_cons (pe_fld (pv 1) rfl) (pa_cons (pe_fld (pv 0) rfl) pa_nil))))
      (pss_one (ps_ret (pe_call GZ hr (by rfl) Nz.g Nz.F.kp Nz.b .nil pass0 (pa_cons (pe_op op_mulW (pe_op op_fdivWN (pe_fld (pv 0) rfl) (pv 2)) (pe_op op_fdivWN (pe_fld (pv 1) rfl) (pv 3)))
        (pa_cons (pe_op op_mulW (pe_op op_fdivWN (pe_fld (pv 0) rfl) (pv 3)) (pe_op op_fdivWN (pe_fld (pv 1) rfl) (pv 2))) pa_nil)))))), ?_⟩
    have p1 := gcd_pos (t := q.num) (den_ne r)
    have p2 := gcd_pos (t := r.num) (den_ne q)
    have l1 : (Int.gcd q.num (r.den : Int)).log2 < 9000 := by
      have h1 : Int.gcd q.num (r.den : Int) ≤ r.den := Nat.le_of_dvd (Nat.pos_of_ne_zero r.den_nz) (Int.gcd_dvd_natAbs_right ..)
      exact Nat.lt_of_lt_of_le (PySem.Flt.log2_lt_of (by decide) (Nat.lt_of_le_of_lt h1 zr.2)) (by decide)
    have l2 : (Int.gcd r.num (q.den : Int)).log2 < 9000 := by
      rcases hs with h0 | h0
      · have h1 : Int.gcd r.num (q.den : Int) ≤ r.num.natAbs := Nat.le_of_dvd (Int.natAbs_pos.mpr fun e => h0 (Rat.num_eq_zero.mp e)) (Int.gcd_dvd_natAbs_left ..)
        exact Nat.lt_of_lt_of_le (PySem.Flt.log2_lt_of (by decide) (Nat.lt_of_le_of_lt h1 zr.1)) (by decide)
      · have h1 : Int.gcd r.num (q.den : Int) ≤ q.den := Nat.le_of_dvd (Nat.pos_of_ne_zero q.den_nz) (Int.gcd_dvd_natAbs_right ..)
        exact Nat.lt_of_lt_of_le (PySem.Flt.log2_lt_of (by decide) (Nat.lt_of_le_of_lt h1 h0.2)) (by decide)
    have c1 : ∀ t : Int, CDivWN t (Int.gcd q.num (r.den : Int) : Int) := fun t => ⟨by omega, l1⟩
    have c2 : ∀ t : Int, CDivWN t (Int.gcd r.num (q.den : Int) : Int) := fun t => ⟨by omega, l2⟩
    refine ⟨.ref a, rfl, a, C, dx, _, _, rfl, ha, T.ins.cl, T.nT, pf_top q, .ref b, rfl, b, C, dy, _, _, rfl, hb, T.ins.cl, T.nB, pf_bottom r, q.num, (r.den : Int), rfl, ?_⟩
    refine ⟨.ref b, rfl, b, C, dy, _, _, rfl, hb, T.ins.cl, T.nT, pf_top r, .ref a, rfl, a, C, dx, _, _, rfl, ha, T.ins.cl, T.nB, pf_bottom q, r.num, (q.den : Int), rfl, ?_⟩
    refine ⟨.ref a, rfl, a, C, dx, _, _, rfl, ha, T.ins.cl, T.nT, pf_top q, _, rfl, _, _, rfl, rfl, c1 _, .ref b, rfl, b, C, dy, _, _, rfl, hb, T.ins.cl, T.nT, pf_top r, _, rfl, _, _, rfl, rfl, c2 _, _, _, rfl, rfl, ?_, ?_⟩
    · exact wide_mul (fdiv_le zq.1 (Int.gcd_dvd_left ..)) (fdiv_le zr.1 (Int.gcd_dvd_left ..)) (by decide) (by decide) (by decide)
    refine ⟨.ref a, rfl, a, C, dx, _, _, rfl, ha, T.ins.cl, T.nB, pf_bottom q, _, rfl, _, _, rfl, rfl, c2 _, .ref b, rfl, b, C, dy, _, _, rfl, hb, T.ins.cl, T.nB, pf_bottom r, _, rfl, _, _, rfl, rfl, c1 _, _, _, rfl, rfl, ?_, ?_⟩
    · exact wide_mul (fdiv_le (t := (q.den : Int)) zq.2 (Int.gcd_dvd_right ..)) (fdiv_le (t := (r.den : Int)) zr.2 (Int.gcd_dvd_right ..)) (by decide) (by decide) (by decide)
    refine ⟨q * r, ?_, h⟩
    show [V.int (_ * _), V.int (_ * _)] = _
    rw [mul_num, mul_den]
theorem ok_times {f fi f1 f2 fz : Addr} {fd gi g1 g2 gz : FuncData} {d1 : Value} {k : Nat} (F : Fun K "times" "Part.times" sTimes f fd) (N : Mks K mg C fi f1 f2 gi g1 g2 d1) (Nz : Fn K mg "lowest" sLowest ["top", "bottom"] fz gz) (T : TxtP K mg C) :
    FnOk P w K mg base CX0 (k + 5) f fd ["self", "other"] (spOp C (fun _ _ => True) (fun q r => q * r)) :=
  (ok_mul F N Nz T).imp fun vs H Q E ⟨a, b, q, r, e, ha, hb, zq, zr, _, h⟩ => ⟨a, b, q, r, e, ha, hb, zq.mono (by decide), zr, .inr (zq.mono (by decide)), h⟩
end
end Hop

set_option Elab.async false
set_option linter.all false
set_option maxRecDepth 100000
set_option exponentiation.threshold 200000
namespace Hop
open PySem L2 HopR
open C8 (InsC call_isC)
theorem count_a' (cs : List Nat) : PySem.Txt.count (rt cs) "a" = ((cs.count 97 : Nat) : Int) := by rw [sgn_a, count_rt]
theorem count_b' (cs : List Nat) : PySem.Txt.count (rt cs) "b" = ((cs.count 98 : Nat) : Int) := by rw [sgn_b, count_rt]
theorem ab_len : ∀ cs : List Nat, cs.count 97 + cs.count 98 ≤ cs.length
  | [] => Nat.le_refl _
  | c :: t => by
    have ih := ab_len t
    rw [List.count_cons, List.count_cons, List.length_cons]
    by_cases h1 : c = 97
    · subst h1
      simp
      omega
    · by_cases h2 : c = 98
      · subst h2
        simp
        omega
      · simp [h1, h2]
        omega
/-- how many upper and lower lines there are together -/
def lns (cs : List Nat) : Nat := chs cs.length (cs.count 97) * chs cs.length (cs.count 97 + cs.count 98)
theorem lns_pos (cs : List Nat) : 0 < lns cs := Nat.mul_pos (chs_pos _ _ List.count_le_length) (chs_pos _ _ (ab_len cs))
theorem lns_few {cs : List Nat} (h : cs.length ≤ 12) : lns cs ≤ 4096 * 4096 := Nat.mul_le_mul (chs_small h) (chs_small h)
theorem few_pow {m : Nat} (h : m ≤ 4096 * 4096) : m < 2 ^ 3900 := Nat.lt_of_le_of_lt h (Nat.lt_of_lt_of_le (by decide : 4096 * 4096 < 2 ^ 25) (Nat.pow_le_pow_right (by decide) (by decide)))
section
variable {P : Program} {w : World} {K : PySem.W.Frag} {mg : Str → Option Value} {base : Heap} {d : Addr} {es : Array DictEntry} {n : Nat} {C : Addr}
/-! ### ring_chance -/
def spChance (C : Addr) : Sp := fun vs H Q _ => ∃ cs, vs = [.str (rt cs)] ∧ Rg cs ∧ New C H (Rat.divInt ((um cs : Nat) : Int) ((lns cs : Nat) : Int)) Q
theorem scChance : FnScope ["ring", "firsts", "beads"] ["ring"] (defScope sChance) := ⟨rfl, rfl, rfl, by decide +kernel, rfl, by decide +kernel, by decide +kernel⟩
theorem ok_chance {f f1 f2 f6 f7 f8 f9 fi fx fy : Addr} {fd fd1 fd2 fd6 fd7 fd8 fd9 gi gx gy : FuncData} {d1 : Value} {k : Nat} (F : Fun K "ring_chance" "ring_chance" sChance f fd) (N1 : Fn K mg "is_ring" sIsRing ["thing"] f1 fd1) (N2 : Fn K mg "need_ring" sNeedRing ["thing"] f2 fd2)
    (N6 : Fn K mg "with_upper" sWup ["waiting"] f6 fd6) (N7 : Fn K mg "past" sPast ["waiting", "sign"] f7 fd7) (N8 : Fn K mg "choices" sChoices ["many", "some"] f8 fd8) (N9 : Fn K mg "uppers_many" sUppers ["ring"] f9 fd9) (NP : Mks K mg C fi fx fy gi gx gy d1) (T : Txt K w mg d es n) (TP : TxtP K mg C) :
    FnOk P w K mg base CX0 (k + 4) f fd ["ring"] (spChance C) := by
  have G2 : FnOk P w K mg base CX0 (k + 3) f2 fd2 ["thing"] spNeedR := ok_needring N2.F N1 T
  have G8 : FnOk P w K mg base CX0 (k + 3) f8 fd8 ["many", "some"] spChoices := ok_choices N8.F T
  have G9 : FnOk P w K mg base CX0 (k + 3) f9 fd9 ["ring"] spUpp := ok_uppers N9.F N6 N7 N8 T
  have GI : FnOk P w K mg base CX0 (k + 2) fi gi ["self", "top", "bottom"] (spInit C) := ok_init NP.F NP.N1 NP.N2 TP
  refine F.ok scChance (fun vs H Q E h => ?_) (fun cdv A outer s H vs Q E hr h => ?_)
  · obtain ⟨cs, rfl, _⟩ := h
    rfl
  · obtain ⟨cs, rfl, hR, q⟩ := h
    have nd := scChance.nd
    obtain ⟨ta, ga⟩ := T.first
    obtain ⟨ts, gs⟩ := T.second
    have wr : (rt cs).length ≤ sizeLine := rgFits hR
    have hhi := hR.hi
    have hab := ab_len cs
    refine ⟨_, pss_cons (ps_expr (pe_call G2 hr (by rfl) N2.g N2.F.kp N2.b .nil pass0 (pa_cons (pv 0) pa_nil)))
      (pss_cons (ps_set (i := 1) nd rfl (.inl rfl) (pe_bm PySem.F.plainAttrs_str PySem.F.slot_str_count PySem.F.type_str_count mt_count (pv 0) (pa_cons (pe_glob (v := .str "a") (by rfl) ga ⟨_, rfl⟩) pa_nil)))
      (pss_cons (ps_set (i := 2) nd rfl (.inl rfl) (pe_op op_add (pv 1) (pe_bm PySem.F.plainAttrs_str PySem.F.slot_str_count PySem.F.type_str_count mt_count (pv 0) (pa_cons (pe_glob (v := .str "b") (by rfl) gs ⟨_, rfl⟩) pa_nil))))
      (pss_one (ps_ret (pe_make NP.M GI hr (by rfl) TP.mgC NP.b3 .nil pass0 (pa_cons (pe_call G9 hr (by rfl) N9.g N9.F.kp N9.b .nil pass0 (pa_cons (pv 0) pa_nil))
        (pa_cons (pe_op op_mul (pe_call G8 hr (by rfl) N8.g N8.F.kp N8.b .nil pass0 (pa_cons (pe_callB call_len_str (by rfl) T.len PySem.boot_len (pa_cons (pv 0) pa_nil)) (pa_cons (pv 1) pa_nil))) (pe_call G8 hr (by rfl) N8.g N8.F.kp N8.b .nil pass0 (pa_cons (pe_callB call_len_str (by rfl) T.len PySem.boot_len (pa_cons (pv 0) pa_nil)) (pa_cons (pv 2) pa_nil)))) pa_nil))))))), ?_⟩
    refine ⟨.str (rt cs), rfl, cs, rfl, hR, fun H1 s1 => ?_⟩
    refine ⟨.str (rt cs), rfl, rfl, rt cs, "a", rfl, rfl, ?_⟩
    rw [count_a']
    refine ⟨.int _, rfl, .str (rt cs), rfl, rfl, rt cs, "b", rfl, rfl, ?_⟩
    rw [count_b']
    refine ⟨_, _, rfl, rfl, ?_⟩
    have e2 : ((cs.count 97 : Nat) : Int) + ((cs.count 98 : Nat) : Int) = ((cs.count 97 + cs.count 98 : Nat) : Int) := by omega
    rw [show (fun i j : Int => V.int (i + j)) ((cs.count 97 : Nat) : Int) ((cs.count 98 : Nat) : Int) = V.int ((cs.count 97 + cs.count 98 : Nat) : Int) from congrArg V.int e2]
    refine ⟨.str (rt cs), rfl, cs, rfl, hR, fun H2 s2 => ?_⟩
    have c1 := chs_small (t := cs.count 97) hhi
    have c2 := chs_small (t := cs.count 97 + cs.count 98) hhi
    refine ⟨.str (rt cs), rfl, rt cs, rfl, wr, .int _, rfl, cs.length, cs.count 97, by rw [rt_len]; rfl, List.count_le_length, hhi, ?_⟩
    refine ⟨.str (rt cs), rfl, rt cs, rfl, wr, .int _, rfl, cs.length, cs.count 97 + cs.count 98, by rw [rt_len]; rfl, hab, hhi, _, _, rfl, rfl, .inl ⟨by omega, by omega⟩, ?_⟩
    have em : ((chs cs.length (cs.count 97) : Nat) : Int) * ((chs cs.length (cs.count 97 + cs.count 98) : Nat) : Int) = ((lns cs : Nat) : Int) := (Int.natCast_mul _ _).symm
    rw [show (fun i j : Int => V.int (i * j)) ((chs cs.length (cs.count 97) : Nat) : Int) ((chs cs.length (cs.count 97 + cs.count 98) : Nat) : Int) = V.int ((lns cs : Nat) : Int) from congrArg V.int em]
    have hp := lns_pos cs
    refine made (by omega) (by rw [Int.natAbs_natCast]; exact Nat.lt_of_lt_of_le (few_pow (lns_few hhi)) (Nat.pow_le_pow_right (by decide) (by decide))) ?_
    exact fun H' p s' np pa => q H' p ((s1.trans s2).trans s') ((s1.trans s2).free np) pa
/-! ### _law_whole -/
def spWholeI : Sp := fun vs H Q _ => ∃ i : Int, vs = [.int i] ∧ Q (.bl true) H
theorem scWholeI : FnScope ["_law_found"] ["_law_found"] (defScope sWhole) := ⟨rfl, rfl, rfl, by decide +kernel, rfl, by decide +kernel, by decide +kernel⟩
theorem ok_wholeI {f : Addr} {fd : FuncData} {k : Nat} (F : Fun K "_law_whole" "_law_whole" sWhole f fd) (T : Txt K w mg d es n) : FnOk P w K mg base CX0 (k + 1) f fd ["_law_found"] spWholeI := by
  refine F.ok scWholeI (fun vs H Q E h => ?_) (fun cdv A outer s H vs Q E hr h => ?_)
  · obtain ⟨i, rfl, _⟩ := h
    rfl
  · obtain ⟨i, rfl, q⟩ := h
    refine ⟨_, pss_one (ps_ret (pe_and (pe_callB call_isi (by rfl) T.isi (by decide +kernel) (pa_cons (pv 0) (pa_cons (pe_bltn (v := .ty "int") (by rfl) T.int (by decide +kernel) rfl) pa_nil)))
      (pe_one (pe_not (pe_callB call_isi (by rfl) T.isi (by decide +kernel) (pa_cons (pv 0) (pa_cons (pe_bltn (v := .ty "bool") (by rfl) T.bool (by decide +kernel) rfl) pa_nil))))))), ?_⟩
    refine ⟨.int i, rfl, .int i, .ty "int", .type "int", .type "int", true, rfl, .ty _, .base (.int _), kit_ty (by decide +kernel), true, rfl, ?_⟩
    exact ⟨.int i, rfl, .int i, .ty "bool", .type "int", .type "bool", false, rfl, .ty _, .base (.int _), kit_ty (by decide +kernel), false, rfl, q⟩
/-! ### _law_is_part -/
def spIsPart (C : Addr) : Sp := fun vs H Q _ => ∃ (a t : Addr) (q : Rat), vs = [.ref a, .ref t] ∧ PA C H a q ∧ H t = some (.tup [.int q.num, .int (q.den : Int)]) ∧ ∀ H', Same H H' → Q (.bl true) H'
theorem scIsPart : FnScope ["_law_found", "_law_due"] ["_law_found", "_law_due"] (defScope sIsPart) := ⟨rfl, rfl, rfl, by decide +kernel, rfl, by decide +kernel, by decide +kernel⟩
theorem lay_two (i j : Int) : PyData.canLay0 (.tuple [.int i, .int j]) = true := rfl
theorem shaped_two (i j : Int) : SeqAt.shaped (.tuple [.int i, .int j]) = true := rfl
theorem ok_ispart {f f1 : Addr} {fd g1 : FuncData} {k : Nat} (F : Fun K "_law_is_part" "_law_is_part" sIsPart f fd) (N1 : Fn K mg "_law_whole" sWhole ["_law_found"] f1 g1) (T : Txt K w mg d es n) (TP : TxtP K mg C) : FnOk P w K mg base CX0 (k + 2) f fd ["_law_found", "_law_due"] (spIsPart C) := by
  have G1 : FnOk P w K mg base CX0 (k + 1) f1 g1 ["_law_found"] spWholeI := ok_wholeI N1.F T
  refine F.ok scIsPart (fun vs H Q E h => ?_) (fun cdv A outer s H vs Q E hr h => ?_)
  · obtain ⟨a, t, q, rfl, _⟩ := h
    rfl
  · obtain ⟨a, t, r, rfl, ⟨dx, ha⟩, ht, q⟩ := h
    have hu := hu66 hr
    have hu64 : (A.deeper (PyProof.Rows.envOfC "_law_is_part" (defScope sIsPart) s.heap.objs.size f cdv)).units + 64 < cLine := by omega
    refine ⟨_, pss_cons (ps_if (PW.pt (pw_or (pt_not (pt_val (pe_callB (call_isC TP.ins) (by rfl) T.isi (by decide +kernel) (pa_cons (pv 0) (pa_cons (pe_glob (v := .ref C) (by rfl) TP.mgC rfl) pa_nil)))))
        (pw_or (pt_not (pt_val (pe_call G1 hr (by rfl) N1.g N1.F.kp N1.b .nil pass0 (pa_cons (pe_fld (pv 0) rfl) pa_nil)))) (pw_or1 (pt_not (pt_val (pe_call G1 hr (by rfl) N1.g N1.F.kp N1.b .nil pass0 (pa_cons (pe_fld (pv 0) rfl) pa_nil)))))))) (pss_one (ps_ret pe_bl)) pss_nil)
      (pss_one (ps_ret (pe_cmpR (op_eqD hu64) (pe_tup (pa_cons (pe_fld (pv 0) rfl) (pa_cons (pe_fld (pv 0) rfl) pa_nil))) (pv 1) (nomark _)))), ?_⟩
    refine ⟨.ref a, rfl, a, dx, _, rfl, ha, true, rfl, iteF ?_⟩
    refine ⟨.ref a, rfl, a, C, dx, _, _, rfl, ha, TP.ins.cl, TP.nT, pf_top r, _, rfl, true, rfl, iteF ?_⟩
    refine ⟨.ref a, rfl, a, C, dx, _, _, rfl, ha, TP.ins.cl, TP.nB, pf_bottom r, _, rfl, true, rfl, iteF ?_⟩
    refine ⟨.ref a, rfl, a, C, dx, _, _, rfl, ha, TP.ins.cl, TP.nT, pf_top r, .ref a, rfl, a, C, dx, _, _, rfl, ha, TP.ins.cl, TP.nB, pf_bottom r, (by show 2 ≤ sizeLine; decide), fun p np => ?_⟩
    refine ⟨.ref t, rfl, .tuple [.int r.num, .int (r.den : Int)], .tuple [.int r.num, .int (r.den : Int)], .tup (SqT.of upd_same) (.cons (.int _) (.cons (.int _) .nil)), .tup (SqT.of (same_upd np _ _ ht)) (.cons (.int _) (.cons (.int _) .nil)), shaped_two _ _, shaped_two _ _, ?_⟩
    rw [PySem.SeqAt.eqv_refl _ (lay_two _ _)]
    exact q _ (same_upd np)
end
end Hop

set_option Elab.async false
set_option linter.all false
set_option maxRecDepth 100000
namespace Hop
open PySem L2 HopR
/-! ### all words with as many of each sign -/
def ok3 (a b c : Nat) (w : List Nat) : Bool := decide (w.count 97 ≤ a) && (decide (w.count 98 ≤ b) && decide (w.count 46 ≤ c))
def nx3 (L : List (List Nat)) : List (List Nat) := L.map (· ++ [97]) ++ L.map (· ++ [98]) ++ L.map (· ++ [46])
def ar (a b c : Nat) : Nat → List (List Nat)
  | 0 => [[]]
  | i + 1 => (nx3 (ar a b c i)).filter (ok3 a b c)
theorem nx3_mem {L : List (List Nat)} {w : List Nat} (h : w ∈ nx3 L) : ∃ v z, v ∈ L ∧ z ∈ [97, 98, 46] ∧ w = v ++ [z] := by
  unfold nx3 at h
  rcases List.mem_append.mp h with h | h
  · rcases List.mem_append.mp h with h | h <;> obtain ⟨v, hv, rfl⟩ := List.mem_map.mp h
    · exact ⟨v, 97, hv, by decide, rfl⟩
    · exact ⟨v, 98, hv, by decide, rfl⟩
  · obtain ⟨v, hv, rfl⟩ := List.mem_map.mp h
    exact ⟨v, 46, hv, by decide, rfl⟩
theorem mem_nx3 {L : List (List Nat)} {v : List Nat} {z : Nat} (h : v ∈ L) (hz : z ∈ [97, 98, 46]) : v ++ [z] ∈ nx3 L := by
  unfold nx3
  rcases three hz with rfl | rfl | rfl
  · exact List.mem_append_left _ (List.mem_append_left _ (List.mem_map.mpr ⟨v, h, rfl⟩))
  · exact List.mem_append_left _ (List.mem_append_right _ (List.mem_map.mpr ⟨v, h, rfl⟩))
  · exact List.mem_append_right _ (List.mem_map.mpr ⟨v, h, rfl⟩)
theorem nx3_len (L : List (List Nat)) : (nx3 L).length = 3 * L.length := by
  unfold nx3
  rw [List.length_append, List.length_append, List.length_map, List.length_map, List.length_map]
  omega
section
variable {a b c : Nat}
theorem ok3_iff {w : List Nat} : ok3 a b c w = true ↔ w.count 97 ≤ a ∧ w.count 98 ≤ b ∧ w.count 46 ≤ c := by
  unfold ok3
  rw [Bool.and_eq_true, Bool.and_eq_true, decide_eq_true_eq, decide_eq_true_eq, decide_eq_true_eq]
theorem ar_ok : ∀ {i : Nat} {w : List Nat}, w ∈ ar a b c i → w.length = i ∧ Sg w ∧ ok3 a b c w = true
  | 0, w, h => by
    rw [List.mem_singleton.mp h]
    refine ⟨rfl, (fun x hx => nomatch hx), ?_⟩
    exact ok3_iff.mpr ⟨Nat.zero_le _, Nat.zero_le _, Nat.zero_le _⟩
  | i + 1, w, h => by
    obtain ⟨h1, h2⟩ := List.mem_filter.mp h
    obtain ⟨v, z, hv, hz, rfl⟩ := nx3_mem h1
    obtain ⟨q1, q2, _⟩ := ar_ok hv
    refine ⟨by rw [List.length_append, q1]; rfl, fun x hx => ?_, h2⟩
    rcases List.mem_append.mp hx with hx | hx
    · exact q2 x hx
    · rw [List.mem_singleton.mp hx]
      exact hz
theorem ar_few : ∀ i, (ar a b c i).length ≤ 3 ^ i
  | 0 => Nat.le_refl _
  | i + 1 => by
    have h1 := List.length_filter_le (ok3 a b c) (nx3 (ar a b c i))
    rw [nx3_len] at h1
    have h2 := ar_few i
    rw [Nat.pow_succ]
    show ((nx3 (ar a b c i)).filter (ok3 a b c)).length ≤ _
    omega
theorem ar_all : ∀ {i : Nat} {w : List Nat}, w.length = i → Sg w → ok3 a b c w = true → w ∈ ar a b c i
  | 0, w, hl, _, _ => by
    rw [List.length_eq_zero_iff.mp hl]
    exact List.mem_singleton.mpr rfl
  | i + 1, w, hl, hs, ho => by
    have hw : w ≠ [] := fun e => by rw [e] at hl; simp at hl
    have e := List.dropLast_concat_getLast hw
    have hv : w.dropLast.length = i := by rw [List.length_dropLast, hl]; rfl
    have sv : Sg w.dropLast := fun x hx => hs x (List.dropLast_subset _ hx)
    have cnt : ∀ z, w.dropLast.count z ≤ w.count z := fun z => by
      conv => rhs; rw [← e]
      rw [List.count_append]
      omega
    obtain ⟨h1, h2, h3⟩ := ok3_iff.mp ho
    have ov : ok3 a b c w.dropLast = true := ok3_iff.mpr ⟨Nat.le_trans (cnt _) h1, Nat.le_trans (cnt _) h2, Nat.le_trans (cnt _) h3⟩
    refine List.mem_filter.mpr ⟨?_, ho⟩
    rw [← e]
    exact mem_nx3 (ar_all hv sv ov) (hs _ (List.getLast_mem hw))
end
theorem abc_len : ∀ {cs : List Nat}, Sg cs → cs.count 97 + cs.count 98 + cs.count 46 = cs.length
  | [], _ => rfl
  | c :: t, h => by
    have ih := abc_len h.tl
    rw [List.length_cons]
    rcases three (h c List.mem_cons_self) with rfl | rfl | rfl
    · rw [List.count_cons_self, List.count_cons_of_ne (by decide), List.count_cons_of_ne (by decide)]
      omega
    · rw [List.count_cons_self, List.count_cons_of_ne (by decide), List.count_cons_of_ne (by decide)]
      omega
    · rw [List.count_cons_self, List.count_cons_of_ne (by decide), List.count_cons_of_ne (by decide)]
      omega
/-- the rings of the sort of cs -/
def arc (cs : List Nat) : List (List Nat) := ar (cs.count 97) (cs.count 98) (cs.count 46) cs.length
theorem arc_ok {cs w : List Nat} (hR : Rg cs) (h : w ∈ arc cs) : Rg w ∧ w.length = cs.length ∧ w.count 97 = cs.count 97 ∧ w.count 98 = cs.count 98 := by
  obtain ⟨h1, h2, h3⟩ := ar_ok h
  obtain ⟨c1, c2, c3⟩ := ok3_iff.mp h3
  have e1 := abc_len h2
  have e2 := abc_len hR.ok
  exact ⟨⟨by rw [h1]; exact hR.lo, by rw [h1]; exact hR.hi, h2⟩, h1, by omega, by omega⟩
theorem arc_all {cs w : List Nat} (hR : Rg cs) (hw : Sg w) (hl : w.length = cs.length) (h1 : w.count 97 = cs.count 97) (h2 : w.count 98 = cs.count 98) : w ∈ arc cs := by
  refine ar_all hl hw (ok3_iff.mpr ⟨by omega, by omega, ?_⟩)
  have e1 := abc_len hw
  have e2 := abc_len hR.ok
  omega
theorem ar_sum : ∀ n < 6, ∀ a ≤ n, ∀ b ≤ n, a + b ≤ n → ((ar a b (n - a - b) n).map um).sum = chs n a * chs n (a + b) := by decide +kernel
theorem arc_sum {cs : List Nat} (hR : Rg cs) (h5 : cs.length ≤ 5) : ((arc cs).map um).sum = chs cs.length (cs.count 97) * chs cs.length (cs.count 97 + cs.count 98) := by
  have e := abc_len hR.ok
  have := ar_sum cs.length (by omega) (cs.count 97) (by omega) (cs.count 98) (by omega) (by omega)
  rw [show cs.length - cs.count 97 - cs.count 98 = cs.count 46 by omega] at this
  exact this
theorem swp_count {cs : List Nat} {i z : Nat} (hl : 2 ≤ cs.length) (hi : i < cs.length) : (swp cs i).count z = cs.count z := by
  obtain ⟨rest, e1, e2, _⟩ := rot_two hl hi
  rw [← count_rot (swp cs i) i z, ← count_rot cs i z, e1, e2]
  exact (List.Perm.swap _ _ rest).count_eq z
end Hop

set_option Elab.async false
set_option linter.all false
set_option maxRecDepth 100000
namespace Hop
open PySem L2 HopR
def rCntS : V → List V → Hp → VK → Prop := fun x xs H Q => ∃ a b, x = .str a ∧ xs = [.str b] ∧ Q (.int (PySem.Txt.count a b)) H
def rLtI : R2 := rI0 fun i j => .bl (decide (i < j))
def rSubI : R2 := rI0 fun i j => .int (i - j)
def vr (L : List (List Nat)) : List V := L.map fun c => V.str (rt c)
theorem vr_len (L : List (List Nat)) : (vr L).length = L.length := List.length_map ..
theorem vr_take (us : List (List Nat)) (j : Nat) (f : List Nat → List Nat) {u : List Nat} (h : us[j]? = some u) : vr ((us.take (j + 1)).map f) = vr ((us.take j).map f) ++ [.str (rt (f u))] := by
  unfold vr
  rw [List.take_add_one, h, List.map_append, List.map_append]
  rfl
theorem vr_filter (us : List (List Nat)) (j : Nat) (f : List Nat → Bool) {u : List Nat} (h : us[j]? = some u) : vr ((us.take (j + 1)).filter f) = vr ((us.take j).filter f) ++ (if f u then [.str (rt u)] else []) := by
  unfold vr
  rw [List.take_add_one, h, List.filter_append, List.map_append]
  congr 1
  cases hf : f u with
  | true => simp [hf]
  | false => simp [hf]
theorem vr_app (a b : List (List Nat)) : vr a ++ vr b = vr (a ++ b) := by
  unfold vr
  rw [List.map_append]
theorem rt_snoc (w : List Nat) (c : Nat) : rt w ++ one c = rt (w ++ [c]) := rt_app w [c]
/-- the greatest of three differences -/
def df3 (cs w : List Nat) : List Int := [((w.count 97 : Nat) : Int) - ((cs.count 97 : Nat) : Int), ((w.count 98 : Nat) : Int) - ((cs.count 98 : Nat) : Int), ((w.count 46 : Nat) : Int) - ((cs.count 46 : Nat) : Int)]
theorem df3_max {cs w : List Nat} {m : Int} (h1 : m ∈ df3 cs w) (h2 : ∀ y ∈ df3 cs w, y ≤ m) : decide (m < 1) = ok3 (cs.count 97) (cs.count 98) (cs.count 46) w := by
  unfold df3 at h1 h2
  have q1 := h2 _ List.mem_cons_self
  have q2 := h2 _ (List.mem_cons_of_mem _ List.mem_cons_self)
  have q3 := h2 _ (List.mem_cons_of_mem _ (List.mem_cons_of_mem _ List.mem_cons_self))
  simp only [List.mem_cons, List.not_mem_nil, or_false] at h1
  by_cases h : m < 1
  · rw [decide_eq_true h]
    exact (ok3_iff.mpr ⟨by omega, by omega, by omega⟩).symm
  · rw [decide_eq_false h]
    cases ho : ok3 (cs.count 97) (cs.count 98) (cs.count 46) w with
    | false => rfl
    | true =>
      have := ok3_iff.mp ho
      omega
/-- the names of the block of the rows -/
def scRow : Scope := { kind := .function, names := [(".0", .local), ("_law_row", .cell), ("max", .globalImplicit), ("_law_ring_here", .free)], isGenerator := false, isCoroutine := false }
section
variable {P : Program} {w : World} {K : PySem.W.Frag} {mg : Str → Option Value} {base : Heap} {d : Addr} {es : Array DictEntry} {n : Nat}
/-! ### _law_all_rings -/
def spAll : Sp := fun vs H Q _ => ∃ cs : List Nat, vs = [.str (rt cs)] ∧ Rg cs ∧ cs.length ≤ 5 ∧ ∀ H' p, Same H H' → H p = none → H' p = some (.lst (vr (arc cs))) → Q (.ref p) H'
abbrev nAR : List Str := ["_law_ring_here", "_law_found", "_law_place", "_law_more", "_law_row", "_law_sign"]
theorem scAll : FnScope nAR ["_law_ring_here"] (defScope sAll) := ⟨rfl, rfl, rfl, by decide +kernel, rfl, by decide +kernel, by decide +kernel⟩
abbrev tDf (K : PySem.W.Frag) : TE := tLc (iStr (tC (.str "ab."))) (gName 5) tYes (tOp rSubI (tBM K "str" rCntS (tVar 4) (tCons (tVar 5) tNil)) (tBM K "str" rCntS (tVar 0) (tCons (tVar 5) tNil))) [5]
set_option maxHeartbeats 4000000 in
theorem ok_all {f : Addr} {fd : FuncData} {k : Nat} (F : Fun K "_law_all_rings" "_law_all_rings" sAll f fd) (T : Txt K w mg d es n) (mx : mg "max" = none) : FnOk P w K mg base CX0 (k + 1) f fd ["_law_ring_here"] spAll := by
  refine F.ok scAll (fun vs H Q E h => ?_) (fun cdv A outer s H vs Q E hr h => ?_)
  · obtain ⟨cs, rfl, _⟩ := h
    rfl
  · obtain ⟨cs, rfl, hR, h5, q⟩ := h
    have nd := scAll.nd
    have hhi := hR.hi
    have sl : 100000 ≤ sizeLine := by decide
    have wr : (rt cs).length ≤ sizeLine := rgFits hR
    refine ⟨_, pss_cons (ps_set (i := 1) nd rfl (.inl rfl) (pe_lst (pa_cons pe_str pa_nil)))
      (pss_cons (ps_for PassesOwn.never rfl (pi_range1 (by rfl) T.range (pa_cons (pe_callB call_len_str (by rfl) T.len PySem.boot_len (pa_cons (pv 0) pa_nil)) pa_nil)) (pg_name (i := 2) nd rfl (.inl rfl))
        (pss_cons (ps_set (i := 3) nd rfl (.inl rfl) (pe_op op_cat (pe_op op_cat
            (pe_lc (own := [("_law_row", 4)]) (g := gName 4) (tt := tYes) rfl nd (pi_list (pv 1)) (blkOk_by (own := [("_law_row", 4)]) (N := nAR) (sc := defScope sAll) (by decide +kernel)) (fun _ _ _ _ _ => pg_name (i := 4) nd rfl (Or.inl rfl)) (fun _ _ _ _ _ => pts_nil) (fun _ _ _ _ _ => pe_op op_add_str (pv 4) pe_str))
            (pe_lc (own := [("_law_row", 4)]) (g := gName 4) (tt := tYes) rfl nd (pi_list (pv 1)) (blkOk_by (own := [("_law_row", 4)]) (N := nAR) (sc := defScope sAll) (by decide +kernel)) (fun _ _ _ _ _ => pg_name (i := 4) nd rfl (Or.inl rfl)) (fun _ _ _ _ _ => pts_nil) (fun _ _ _ _ _ => pe_op op_add_str (pv 4) pe_str)))
            (pe_lc (own := [("_law_row", 4)]) (g := gName 4) (tt := tYes) rfl nd (pi_list (pv 1)) (blkOk_by (own := [("_law_row", 4)]) (N := nAR) (sc := defScope sAll) (by decide +kernel)) (fun _ _ _ _ _ => pg_name (i := 4) nd rfl (Or.inl rfl)) (fun _ _ _ _ _ => pts_nil) (fun _ _ _ _ _ => pe_op op_add_str (pv 4) pe_str))))
        (pss_one (ps_setLc (i := 1) (own := [("_law_row", 4)]) (g := gName 4) (tt := tTest (tOp rLtI (tCB (rMax K) (tCons (tDf K) tNil)) (tC (.int 1)))) (by rfl) nd rfl rfl (sw_true rfl rfl rfl (by decide +kernel)) (pi_list (pv 3)) (blkOk_by (own := [("_law_row", 4)]) (N := nAR) (sc := defScope sAll) (by decide +kernel)) (fun _ _ _ _ _ => pg_name (i := 4) nd rfl (Or.inr rfl))
            (fun _ _ _ _ _ => pts_one (pt_cmpR (show OpR _ (compareOp .Lt) rLtI from op_lt) (pe_callB (show CallR _ (.builtin "max") (rMax K) from cr_max rfl) (by rfl) mx (by decide +kernel) (pa_cons
              (pe_lc (own := [("_law_sign", 5)]) (g := gName 5) (tt := tYes) rfl nd (pi_str pe_str) (blkOk_by (own := [("_law_sign", 5)]) (N := nAR) (sc := relS scRow (defScope sAll)) (by decide +kernel)) (fun _ _ _ _ _ => pg_name (i := 5) nd rfl (Or.inl rfl)) (fun _ _ _ _ _ => pts_nil)
                (fun _ _ _ _ _ => pe_op (show OpR _ (binaryOp .Sub) rSubI from op_sub) (pe_bm PySem.F.plainAttrs_str PySem.F.slot_str_count PySem.F.type_str_count (show MtR _ "str.count" rCntS from mt_count) (pv 4) (pa_cons (pv 5) pa_nil)) (pe_bm PySem.F.plainAttrs_str PySem.F.slot_str_count PySem.F.type_str_count (show MtR _ "str.count" rCntS from mt_count) (pv 0) (pa_cons (pv 5) pa_nil)))) pa_nil)) pe_int (nomark _))) (fun _ _ _ _ _ => pv 4)))))
      (pss_one (ps_ret (pv 1)))), ?_⟩
    refine ⟨(by show 1 ≤ sizeLine; decide), fun o no => ?_⟩
    generalize hA : cs.count 97 = ca at *
    generalize hB : cs.count 98 = cb at *
    generalize hC : cs.count 46 = cc at *
    have t1 := same_upd (o := .lst [.str ""]) no
    have e1 : upd H o (.lst [.str ""]) o = some (.lst (vr (ar ca cb cc 0))) := upd_same
    generalize upd H o (.lst [.str ""]) = H1 at t1 e1
    refine ⟨.str (rt cs), rfl, rt cs, rfl, wr, _, rfl, by omega, by rw [rt_len]; omega, ?_⟩
    rw [show (((rt cs).length : Int)).toNat = cs.length by rw [rt_len]; omega]
    refine for_range (lo := 0) (n := cs.length) (fun i σ H2 => ∃ (y2 y3 y4 y5 : Option V) (p : Addr), σ = [some (.str (rt cs)), some (.ref p), y2, y3, y4, y5] ∧ Same H H2 ∧ H p = none ∧ H2 p = some (.lst (vr (ar ca cb cc i)))) ⟨_, _, _, _, o, rfl, t1, no, e1⟩ ?_ ?_
    · rintro i σ H2 hi ⟨y2, y3, y4, y5, p, rfl, s2, np, e2⟩
      have hU : (ar ca cb cc i).length ≤ 243 := Nat.le_trans (ar_few i) (Nat.pow_le_pow_right (n := 3) (j := 5) (by decide) (by omega))
      have hrow : ∀ u ∈ ar ca cb cc i, u.length = i := fun u hu => (ar_ok hu).1
      have eS : ar ca cb cc (i + 1) = (nx3 (ar ca cb cc i)).filter (ok3 ca cb cc) := rfl
      generalize ar ca cb cc i = U at e2 hU hrow eS
      have addOne : ∀ {u : List Nat} (z : Nat), u ∈ U → (rt u).length + (one z).length ≤ sizeLine := fun z hu => by
        rw [rt_len, hrow _ hu]
        show i + 1 ≤ sizeLine
        omega
      have mapped : ∀ (z : Nat) {HA HB : Hp} {DD : Addr}, HA DD = none → ∀ {j : Nat} {x : V}, (vr U)[j]? = some x → Same HA HB → HB DD = some (.lst (vr ((U.take j).map (· ++ [z])))) →
          ∃ u, U[j]? = some u ∧ x = .str (rt u) ∧ u ∈ U ∧ (vr ((U.take j).map (· ++ [z]))).length < sizeLine ∧ Same HA (upd HB DD (.lst (vr ((U.take j).map (· ++ [z])) ++ [.str (rt u ++ one z)]))) ∧ upd HB DD (.lst (vr ((U.take j).map (· ++ [z])) ++ [.str (rt u ++ one z)])) DD = some (.lst (vr ((U.take (j + 1)).map (· ++ [z])))) := by
        intro z HA HB DD hDD j x hx sAB eB
        unfold vr at hx
        rw [List.getElem?_map] at hx
        obtain ⟨u, hu, rfl⟩ := Option.map_eq_some_iff.mp hx
        refine ⟨u, hu, rfl, List.mem_of_getElem? hu, ?_, same_new hDD sAB, ?_⟩
        · rw [vr_len, List.length_map, List.length_take]
          omega
        · rw [upd_same, vr_take U j (· ++ [z]) hu, rt_snoc]
      have za : ("a" : Str) = one 97 := by decide +kernel
      have zb : ("b" : Str) = one 98 := by decide +kernel
      have zf : ("." : Str) = one 46 := by decide +kernel
      refine ⟨.ref p, rfl, p, rfl, ⟨_, SqL.of e2⟩, fun D3 hD3 => ?_⟩
      refine lc_list (K := K) (a := p) (xs := vr U) (fun j H3 => Same H2 H3 ∧ H3 D3 = some (.lst (vr ((U.take j).map (· ++ [97]))))) ⟨same_upd hD3, upd_same⟩ (fun j H3 _ h => SqL.of (h.1 _ _ e2)) ?_ ?_
      · rintro j x H3 hx ⟨s3, e3⟩
        obtain ⟨u, hu, rfl, hm, hl1, hs1, he1⟩ := mapped 97 hD3 hx s3 e3
        rw [← za] at hs1 he1
        exact ⟨rfl, .str (rt u), rfl, rt u, "a", rfl, rfl, by rw [za]; exact addOne _ hm, _, e3, hl1, hs1, he1⟩
      rintro H3 ⟨s3, e3⟩
      rw [vr_len, List.take_length] at e3
      refine ⟨.ref p, rfl, p, rfl, ⟨_, SqL.of (s3 _ _ e2)⟩, fun D4 hD4 => ?_⟩
      refine lc_list (K := K) (a := p) (xs := vr U) (fun j H4 => Same H3 H4 ∧ H4 D4 = some (.lst (vr ((U.take j).map (· ++ [98]))))) ⟨same_upd hD4, upd_same⟩ (fun j H4 _ h => SqL.of ((s3.trans h.1) _ _ e2)) ?_ ?_
      · rintro j x H4 hx ⟨s4, e4⟩
        obtain ⟨u, hu, rfl, hm, hl1, hs1, he1⟩ := mapped 98 hD4 hx s4 e4
        rw [← zb] at hs1 he1
        exact ⟨rfl, .str (rt u), rfl, rt u, "b", rfl, rfl, by rw [zb]; exact addOne _ hm, _, e4, hl1, hs1, he1⟩
      rintro H4 ⟨s4, e4⟩
      rw [vr_len, List.take_length] at e4
      refine ⟨D3, D4, _, _, rfl, rfl, s4 _ _ e3, e4, ?_, fun p5 n5 => ?_⟩
      · rw [vr_len, vr_len, List.length_map, List.length_map]
        omega
      rw [vr_app]
      have s25 : Same H2 (upd H4 p5 (.lst (vr (U.map (· ++ [97]) ++ U.map (· ++ [98]))))) := (s3.trans s4).trans (same_upd n5)
      have e5 : upd H4 p5 (.lst (vr (U.map (· ++ [97]) ++ U.map (· ++ [98])))) p5 = some (.lst (vr (U.map (· ++ [97]) ++ U.map (· ++ [98])))) := upd_same
      generalize upd H4 p5 (.lst (vr (U.map (· ++ [97]) ++ U.map (· ++ [98])))) = H5 at s25 e5
      refine ⟨.ref p, rfl, p, rfl, ⟨_, SqL.of (s25 _ _ e2)⟩, fun D6 hD6 => ?_⟩
      refine lc_list (K := K) (a := p) (xs := vr U) (fun j H6 => Same H5 H6 ∧ H6 D6 = some (.lst (vr ((U.take j).map (· ++ [46]))))) ⟨same_upd hD6, upd_same⟩ (fun j H6 _ h => SqL.of ((s25.trans h.1) _ _ e2)) ?_ ?_
      · rintro j x H6 hx ⟨s6, e6⟩
        obtain ⟨u, hu, rfl, hm, hl1, hs1, he1⟩ := mapped 46 hD6 hx s6 e6
        rw [← zf] at hs1 he1
        exact ⟨rfl, .str (rt u), rfl, rt u, ".", rfl, rfl, by rw [zf]; exact addOne _ hm, _, e6, hl1, hs1, he1⟩
      rintro H6 ⟨s6, e6⟩
      rw [vr_len, List.take_length] at e6
      refine ⟨p5, D6, _, _, rfl, rfl, s6 _ _ e5, e6, ?_, fun p7 n7 => ?_⟩
      · rw [vr_len, vr_len, List.length_append, List.length_map, List.length_map, List.length_map]
        omega
      rw [vr_app]
      have eM : U.map (· ++ [97]) ++ U.map (· ++ [98]) ++ U.map (· ++ [46]) = nx3 U := rfl
      rw [eM]
      have s27 : Same H2 (upd H6 p7 (.lst (vr (nx3 U)))) := (s25.trans s6).trans (same_upd n7)
      have e7 : upd H6 p7 (.lst (vr (nx3 U))) p7 = some (.lst (vr (nx3 U))) := upd_same
      have hM : (nx3 U).length ≤ 729 := by
        rw [nx3_len]
        omega
      generalize upd H6 p7 (.lst (vr (nx3 U))) = H7 at s27 e7
      generalize nx3 U = M at hM e7 eS
      refine ⟨.ref p7, rfl, p7, rfl, ⟨_, SqL.of e7⟩, fun D8 hD8 => ?_⟩
      refine lc_list (K := K) (a := p7) (xs := vr M) (fun j H8 => Same H7 H8 ∧ H8 D8 = some (.lst (vr ((M.take j).filter (ok3 ca cb cc))))) ⟨same_upd hD8, upd_same⟩ (fun j H8 _ h => SqL.of (h.1 _ _ e7)) ?_ ?_
      · rintro j x H8 hx8 ⟨s8, e8⟩
        unfold vr at hx8
        rw [List.getElem?_map] at hx8
        obtain ⟨u, hu, rfl⟩ := Option.map_eq_some_iff.mp hx8
        have ef := vr_filter M j (ok3 ca cb cc) hu
        refine ⟨rfl, "ab.", rfl, fun D9 hD9 => ?_⟩
        have nD : D8 ≠ D9 := ne_of_none e8 hD9
        refine lc_it walk_str (fun t H9 => Same H8 H9 ∧ H9 D9 = some (.lst (((df3 cs u).take t).map V.int))) ⟨same_upd hD9, upd_same⟩ (fun _ _ _ _ => trivial) ?_ ?_
        · rintro t x H9' H9 ht ⟨s9, e9⟩ ⟨rfl, z, hz, rfl⟩
          have ht3 : t < 3 := ht
          have hz2 : (df3 cs u)[t]? = some (((u.count z : Nat) : Int) - ((cs.count z : Nat) : Int)) := by
            rw [← Array.getElem?_toList, show ("ab." : Str).cps.toList = [97, 98, 46] by decide +kernel] at hz
            rcases (show t = 0 ∨ t = 1 ∨ t = 2 by omega) with rfl | rfl | rfl
            · obtain rfl : 97 = z := Option.some.inj hz
              rfl
            · obtain rfl : 98 = z := Option.some.inj hz
              rfl
            · obtain rfl : 46 = z := Option.some.inj hz
              rfl
          refine ⟨rfl, .str (rt u), rfl, rfl, .str (one z), rfl, rt u, one z, rfl, rfl, .str (rt cs), rfl, rfl, .str (one z), rfl, rt cs, one z, rfl, rfl, _, _, rfl, rfl, _, e9, ?_, same_new hD9 s9, ?_⟩
          · rw [List.length_map]
            refine fit' (Nat.le_trans (List.length_take_le _ _) ?_)
            omega
          · rw [upd_same, List.take_add_one, hz2, List.map_append, count_rt, count_rt]
            rfl
        rintro H9 ⟨s9, e9⟩
        have e9 : H9 D9 = some (.lst ((df3 cs u).map V.int)) := e9
        refine ⟨D9, _, rfl, SqL.of e9, (by show 0 < 3; decide), fun m hm hmax => ⟨_, _, rfl, rfl, _, rfl, ?_⟩⟩
        rw [df3_max hm hmax, hA, hB, hC]
        have e89 := s9 _ _ e8
        cases hb : ok3 ca cb cc u with
        | true =>
          rw [hb, if_pos rfl] at ef
          refine iteT ⟨.str (rt u), rfl, _, e89, ?_, same_new hD8 (s8.trans s9), ?_⟩
          · rw [vr_len]
            have := List.length_filter_le (ok3 ca cb cc) (M.take j)
            rw [List.length_take] at this
            omega
          · rw [upd_same, ef]
        | false =>
          rw [hb, if_neg (by decide), List.append_nil] at ef
          exact iteF ⟨s8.trans s9, by rw [e89, ef]⟩
      rintro H8 ⟨s8, e8⟩
      rw [vr_len, List.take_length, ← eS] at e8
      exact ⟨_, _, _, _, D8, rfl, s2.trans (s27.trans s8), (s2.trans s27).free hD8, e8⟩
    · rintro σ H2 ⟨y2, y3, y4, y5, p, rfl, s2, np, e2⟩
      refine ⟨.ref p, rfl, q H2 p s2 np ?_⟩
      unfold arc
      rw [hA, hB, hC]
      exact e2
end
end Hop

set_option Elab.async false
set_option linter.all false
set_option maxRecDepth 100000
namespace Hop
open PySem L2 HopR
section
variable {P : Program} {w : World} {K : PySem.W.Frag} {mg : Str → Option Value} {base : Heap} {d : Addr} {es : Array DictEntry} {n : Nat}
theorem rgPos {cs : List Nat} (h : Rg cs) : (0 : Int) < ((rt cs).length : Int) := by
  rw [rt_len]
  have := h.lo
  omega
theorem nxt_int (cs : List Nat) (i : Nat) : ((i : Int) + 1) % ((rt cs).length : Int) = (nxt cs i : Int) := by
  rw [rt_len]
  unfold nxt
  rw [Int.natCast_emod]
  rfl
theorem vl_set (cs : List Nat) (k c : Nat) : (vl cs).set k (.str (one c)) = vl (cs.set k c) := by
  unfold vl
  rw [List.map_set, List.map_set]
theorem ixN_low {n j : Nat} (hj : j < n) : ixN n (j : Int) = some j := by
  unfold ixN
  rw [if_pos (by omega), if_pos (by omega)]
  simp
theorem ixN_vl {cs : List Nat} {j : Nat} (hj : j < cs.length) : ixN (vl cs).length (j : Int) = some j := by
  rw [vl_len]
  exact ixN_low hj
def spExch : Sp := fun vs H Q _ => ∃ cs, ∃ i : Nat, vs = [.str (rt cs), .int (i : Int)] ∧ Rg cs ∧ i < cs.length ∧ ∀ H', Same H H' → Q (.str (rt (swp cs i))) H'
theorem ta : ("a" : Str) = one 97 := by decide +kernel
theorem tb : ("b" : Str) = one 98 := by decide +kernel
theorem tf : ("." : Str) = one 46 := by decide +kernel
def dst (cs : List Nat) : List PyData := cs.map fun (c : Nat) => PyData.str (one c)
theorem dp_vl {H : Hp} : ∀ cs : List Nat, DpAll K H (vl cs) (dst cs)
  | [] => .nil
  | c :: r => .cons (.str _) (dp_vl r)
theorem lay_dst : ∀ cs : List Nat, (∀ c ∈ cs, c < 1114112) → PyData.canLayAll0 (dst cs) = true
  | [], _ => rfl
  | c :: r, h => by
    show PyData.canLayAll0 (.str (one c) :: dst r) = true
    have e : PyData.strOk (one c) = true := by
      unfold PyData.strOk
      rw [← Array.all_toList]
      show ([c] : List Nat).all _ = true
      rw [List.all_cons, List.all_nil, Bool.and_true]
      exact decide_eq_true (h c (List.mem_cons_self ..))
    simp only [PyData.canLayAll0, PyData.canLay0, e, lay_dst r fun q hq => h q (List.mem_cons_of_mem _ hq), Bool.and_true]
theorem deep_dst : ∀ cs : List Nat, PyData.depthAll (dst cs) = 0
  | [] => rfl
  | c :: r => by
    show PyData.depthAll (.str (one c) :: dst r) = 0
    simp only [PyData.depthAll, deep_dst r]
    rfl
theorem shaped_dst {cs : List Nat} (h : ∀ c ∈ cs, c < 1114112) : SeqAt.shaped (.list (dst cs)) = true := by
  unfold SeqAt.shaped
  rw [Bool.and_eq_true]
  refine ⟨?_, decide_eq_true ?_⟩
  · simp only [PyData.canLay0, lay_dst cs h]
  · simp only [PyData.depth, deep_dst]
    decide
/-! ### _law_rank -/
def spLRank : Sp := fun vs H Q _ => ∃ c, vs = [.str (one c)] ∧ c ∈ [97, 98, 46] ∧ ∀ H', Same H H' → Q (.int (rk c : Int)) H'
theorem scLRank : FnScope ["_law_sign"] ["_law_sign"] (defScope sLRank) := ⟨rfl, rfl, rfl, by decide +kernel, rfl, by decide +kernel, by decide +kernel⟩
theorem ok_lrank {f : Addr} {fd : FuncData} {k : Nat} (F : Fun K "_law_rank" "_law_rank" sLRank f fd) (T : Txt K w mg d es n) : FnOk P w K mg base CX0 (k + 1) f fd ["_law_sign"] spLRank := by
  refine F.ok scLRank (fun vs H Q E h => ?_) (fun cdv A outer s H vs Q E hr h => ?_)
  · obtain ⟨c, rfl, _⟩ := h
    rfl
  · obtain ⟨c, rfl, hc, q⟩ := h
    have hu := hu66 hr
    refine ⟨_, pss_one (ps_ret (pe_bm PySem.F.plainAttrs_list PySem.F.slot_list_index PySem.F.type_list_index (mt_indexD (Nat.lt_of_le_of_lt (Nat.add_le_add_left (by decide : 65 ≤ 66) _) hu)) (pe_lst (pa_cons pe_str (pa_cons pe_str (pa_cons pe_str pa_nil)))) (pa_cons (pv 0) pa_nil))), ?_⟩
    refine ⟨(by show 3 ≤ sizeLine; decide), fun p np => ⟨.inl ⟨rfl, _, SqL.of upd_same⟩, .str (one c), rfl, ?_⟩⟩
    have hl : Dp K (upd H p (.lst [.str ".", .str "b", .str "a"])) (V.ref p) (.list (dst [46, 98, 97])) := .lst (SqL.of (by rw [upd_same, ta, tb, tf]; rfl)) (dp_vl [46, 98, 97])
    have hsh : SeqAt.shaped (.list (dst [46, 98, 97])) = true := shaped_dst (by decide)
    simp only [List.mem_cons, List.not_mem_nil, or_false] at hc
    have eq1 : ∀ a b : Nat, PyData.eqv (.str (one a)) (.str (one b)) = decide (a = b) := fun a b => one_eq a b
    rcases hc with rfl | rfl | rfl
    · refine ⟨p, .str (one 97), .str (one 97), _, 2, .str (one 97), rfl, rfl, hl, .str _, hsh, by decide +kernel, rfl, ?_, ?_, q _ (same_upd np)⟩
      · rw [eq1]; rfl
      · intro m z hm hz
        match m, hm with
        | 0, _ => cases hz; exact eq1 46 97
        | 1, _ => cases hz; exact eq1 98 97
    · refine ⟨p, .str (one 98), .str (one 98), _, 1, .str (one 98), rfl, rfl, hl, .str _, hsh, by decide +kernel, rfl, ?_, ?_, q _ (same_upd np)⟩
      · rw [eq1]; rfl
      · intro m z hm hz
        match m, hm with
        | 0, _ => cases hz; exact eq1 46 98
    · refine ⟨p, .str (one 46), .str (one 46), _, 0, .str (one 46), rfl, rfl, hl, .str _, hsh, by decide +kernel, rfl, ?_, ?_, q _ (same_upd np)⟩
      · rw [eq1]; rfl
      · intro m z hm hz
        exact absurd hm (Nat.not_lt_zero _)
end
end Hop

set_option Elab.async false
set_option linter.all false
set_option maxRecDepth 100000
namespace Hop
open PySem L2 HopR
section
variable {P : Program} {w : World} {K : PySem.W.Frag} {mg : Str → Option Value} {base : Heap} {d : Addr} {es : Array DictEntry} {n : Nat}
/-! ### _law_swapped -/
theorem scLSwap : FnScope ["_law_ring_here", "_law_place", "_law_signs", "_law_after"] ["_law_ring_here", "_law_place"] (defScope sLSwap) := ⟨rfl, rfl, rfl, by decide +kernel, rfl, by decide +kernel, by decide +kernel⟩
theorem ok_lswap {f : Addr} {fd : FuncData} {k : Nat} (F : Fun K "_law_swapped" "_law_swapped" sLSwap f fd) (T : Txt K w mg d es n) : FnOk P w K mg base CX0 (k + 1) f fd ["_law_ring_here", "_law_place"] spExch := by
  refine F.ok scLSwap (fun vs H Q E h => ?_) (fun cdv A outer s H vs Q E hr h => ?_)
  · obtain ⟨cs, i, rfl, _⟩ := h
    rfl
  · obtain ⟨cs, i, rfl, hR, hi, q⟩ := h
    have nd := scLSwap.nd
    refine ⟨_, pss_cons (ps_set (i := 2) nd rfl (.inl rfl) (pe_callTy (cr_listT rfl) (by rfl) T.list (by decide +kernel) (pa_cons (pv 0) pa_nil)))
      (pss_cons (ps_set (i := 3) nd rfl (.inl rfl) (pe_op op_mod (pe_op op_add (pv 1) pe_int) (pe_callB call_len_str (by rfl) T.len PySem.boot_len (pa_cons (pv 0) pa_nil))))
      (pss_cons (ps_asg (pe_tup (pa_cons (pe_ix ix_list (pv 2) (pv 3) (fun _ _ => rfl)) (pa_cons (pe_ix ix_list (pv 2) (pv 1) (fun _ _ => rfl)) pa_nil))) (pg_tup rfl (pgs_cons (pg_sub (pv 2) (pv 1) set_list) (pgs_cons (pg_sub (pv 2) (pv 3) set_list) pgs_nil))))
      (pss_one (ps_ret (pe_join pe_str (pv 2)))))), ?_⟩
    have hj := nxt_lt hR i
    refine ⟨.str (rt cs), rfl, rt cs, rfl, rgFits hR, fun o no => ?_⟩
    have e0 : (sg (rt cs)).map V.str = vl cs := by
      rw [sg_rt]
      rfl
    rw [e0]
    refine ⟨.int (i : Int), rfl, _, _, rfl, rfl, .str (rt cs), rfl, rt cs, rfl, rgFits hR, _, _, rfl, rfl, rgPos hR, ?_⟩
    have ej := nxt_int cs i
    dsimp only
    rw [ej]
    refine ⟨.ref o, rfl, .int (nxt cs i : Int), rfl, o, _, _, _, rfl, rfl, SqL.of upd_same, vl_at hj, .ref o, rfl, .int (i : Int), rfl, o, _, _, _, rfl, rfl, SqL.of upd_same, vl_at hi, (by show 2 ≤ sizeLine; decide), fun p np => ?_⟩
    have npo : o ≠ p := fun e => by
      rw [← e, upd_same] at np
      cases np
    have np0 : H p = none := (same_upd no).free np
    refine ⟨p, _, rfl, SqT.of upd_same, rfl, _, _, rfl, ?_⟩
    refine ⟨.ref o, rfl, .int (i : Int), rfl, o, _, _, i, rfl, rfl, (by rw [upd_ne npo, upd_same]), ixN_vl hi, ?_⟩
    rw [vl_set]
    refine ⟨_, _, rfl, .ref o, rfl, .int (nxt cs i : Int), rfl, o, _, _, nxt cs i, rfl, rfl, upd_same, ixN_vl (by rw [List.length_set]; exact hj), ?_⟩
    rw [vl_set]
    refine ⟨rfl, ⟨_, rfl⟩, .ref o, rfl, "", o, (swp cs i).map one, rfl, rfl, .inl (SqL.of upd_same), join_rt_fits (by rw [swp_len]; have := hR.hi; omega), ?_⟩
    rw [join_rt]
    exact q _ (same_new no (same_new no (same_new np0 (same_upd no))))
/-! ### _law_steps -/
def sel (z : Int) (cs : List Nat) (m : Nat) : List Nat := if z = 1 then rchg cs m else cms cs m
def flg (z : Int) (cs : List Nat) (i : Nat) : Bool := if z = 1 then ups cs i else dn cs i
theorem sel_succ (z : Int) (cs : List Nat) (i : Nat) : sel z cs (i + 1) = sel z cs i ++ (if flg z cs i then [i] else []) := by
  unfold sel flg
  by_cases h : z = 1
  · rw [if_pos h, if_pos h, if_pos h, rchg_succ]
  · rw [if_neg h, if_neg h, if_neg h, cms_succ]
theorem sel_0 (z : Int) (cs : List Nat) : sel z cs 0 = [] := by
  unfold sel
  split <;> rfl
theorem sel_few (z : Int) (cs : List Nat) (m : Nat) : (sel z cs m).length ≤ m := by
  unfold sel
  split
  · exact rchg_few cs m
  · refine Nat.le_trans (List.length_filter_le _ _) ?_
    rw [List.length_range]
    exact Nat.le_refl _
theorem flg_law {z : Int} (h : z = 1 ∨ z = -1) (cs : List Nat) (i : Nat) : decide (z * ((rk (cs.getD (nxt cs i) 0) : Int) - (rk (cs.getD i 0) : Int)) < 0) = flg z cs i := by
  unfold flg
  rcases h with rfl | rfl
  · rw [if_pos rfl]
    unfold ups
    by_cases h : rk (cs.getD (nxt cs i) 0) < rk (cs.getD i 0)
    · rw [decide_eq_true h, decide_eq_true (by omega)]
    · rw [decide_eq_false h, decide_eq_false (by omega)]
  · rw [if_neg (by decide)]
    unfold dn
    by_cases h : rk (cs.getD i 0) < rk (cs.getD (nxt cs i) 0)
    · rw [decide_eq_true h, decide_eq_true (by omega)]
    · rw [decide_eq_false h, decide_eq_false (by omega)]
def spLSteps : Sp := fun vs H Q _ => ∃ cs, ∃ z : Int, vs = [.str (rt cs), .int z] ∧ Rg cs ∧ (z = 1 ∨ z = -1) ∧ ∀ H' p ws, Same H H' → H p = none → H' p = some (.lst ws) → Tups H' cs (sel z cs cs.length) ws → Q (.ref p) H'
theorem scLSteps : FnScope ["_law_ring_here", "_law_sign", "_law_found", "_law_place", "_law_after", "_law_lift"] ["_law_ring_here", "_law_sign"] (defScope sLSteps) := ⟨rfl, rfl, rfl, by decide +kernel, rfl, by decide +kernel, by decide +kernel⟩
theorem ok_lsteps {f f1 f2 : Addr} {fd fd1 fd2 : FuncData} {k : Nat} (F : Fun K "_law_steps" "_law_steps" sLSteps f fd) (N1 : Fn K mg "_law_rank" sLRank ["_law_sign"] f1 fd1) (N2 : Fn K mg "_law_swapped" sLSwap ["_law_ring_here", "_law_place"] f2 fd2) (T : Txt K w mg d es n) :
    FnOk P w K mg base CX0 (k + 2) f fd ["_law_ring_here", "_law_sign"] spLSteps := by
  have G1 : FnOk P w K mg base CX0 (k + 1) f1 fd1 ["_law_sign"] spLRank := ok_lrank N1.F T
  have G2 : FnOk P w K mg base CX0 (k + 1) f2 fd2 ["_law_ring_here", "_law_place"] spExch := ok_lswap N2.F T
  refine F.ok scLSteps (fun vs H Q E h => ?_) (fun cdv A outer s H vs Q E hr h => ?_)
  · obtain ⟨cs, z, rfl, _⟩ := h
    rfl
  · obtain ⟨cs, z, rfl, hR, hz, q⟩ := h
    have nd := scLSteps.nd
    refine ⟨_, pss_cons (ps_set (i := 2) nd rfl (.inl rfl) (pe_lst pa_nil))
      (pss_cons (ps_for PassesOwn.never rfl (pi_range1 (by rfl) T.range (pa_cons (pe_callB call_len_str (by rfl) T.len PySem.boot_len (pa_cons (pv 0) pa_nil)) pa_nil)) (pg_name (i := 3) nd rfl (.inl rfl))
        (pss_cons (ps_set (i := 4) nd rfl (.inl rfl) (pe_op op_mod (pe_op op_add (pv 3) pe_int) (pe_callB call_len_str (by rfl) T.len PySem.boot_len (pa_cons (pv 0) pa_nil))))
        (pss_cons (ps_set (i := 5) nd rfl (.inl rfl) (pe_op op_sub (pe_call G1 hr (by rfl) N1.g N1.F.kp N1.b .nil pass0 (pa_cons (pe_ix ix_str (pv 0) (pv 4) (fun _ _ => rfl)) pa_nil)) (pe_call G1 hr (by rfl) N1.g N1.F.kp N1.b .nil pass0 (pa_cons (pe_ix ix_str (pv 0) (pv 3) (fun _ _ => rfl)) pa_nil))))
        (pss_one (ps_if (pt_cmpR op_lt (pe_op op_mul (pv 1) (pv 5)) pe_int (nomark _))
          (pss_one (ps_expr (pe_bm PySem.F.plainAttrs_list PySem.F.slot_list_append PySem.F.type_list_append mt_append (pv 2) (pa_cons (pe_tup (pa_cons (pv 3) (pa_cons (pe_call G2 hr (by rfl) N2.g N2.F.kp N2.b .nil pass0 (pa_cons (pv 0) (pa_cons (pv 3) pa_nil))) pa_nil))) pa_nil)))) pss_nil)))))
      (pss_one (ps_ret (pv 2)))), ?_⟩
    refine ⟨Nat.zero_le _, fun o no => ?_⟩
    refine ⟨.str (rt cs), rfl, rt cs, rfl, rgFits hR, _, rfl, (by omega), (by rw [rt_len]; have := hR.hi; omega), ?_⟩
    have en : ((rt cs).length : Int).toNat = cs.length := by
      rw [rt_len]
      omega
    rw [en]
    refine for_range (lo := 0) (n := cs.length) (fun i σ H3 => ∃ y3 y4 y5 ws, σ = [some (.str (rt cs)), some (.int z), some (.ref o), y3, y4, y5] ∧ Same H H3 ∧ H3 o = some (.lst ws) ∧ Tups H3 cs (sel z cs i) ws) ⟨none, none, none, [], rfl, same_upd no, upd_same, by rw [sel_0]; rfl⟩ ?_ ?_
    · rintro i σ H3 hi ⟨y3, y4, y5, ws, rfl, sm, eo, tp⟩
      rw [Int.zero_add]
      have hj := nxt_lt hR i
      refine ⟨.int (i : Int), rfl, _, _, rfl, rfl, .str (rt cs), rfl, rt cs, rfl, rgFits hR, _, _, rfl, rfl, rgPos hR, ?_⟩
      have ej := nxt_int cs i
      dsimp only
      rw [ej]
      refine ⟨.str (rt cs), rfl, .int (nxt cs i : Int), rfl, rt cs, _, cs.getD (nxt cs i) 0, rfl, rfl, rgFits hR, at_rt hj, cs.getD (nxt cs i) 0, rfl, rg_at hR hj, fun H4 s4 => ?_⟩
      refine ⟨.str (rt cs), rfl, .int (i : Int), rfl, rt cs, _, cs.getD i 0, rfl, rfl, rgFits hR, at_rt hi, cs.getD i 0, rfl, rg_at hR hi, fun H5 s5 => ?_⟩
      refine ⟨_, _, rfl, rfl, .int z, rfl, _, rfl, z, _, rfl, rfl, .inl ⟨by omega, by omega⟩, _, _, rfl, rfl, _, rfl, ?_⟩
      rw [flg_law hz]
      have s35 := s4.trans s5
      refine ite2 (fun e => ?_) (fun e => ?_)
      · refine ⟨.ref o, rfl, .inl ⟨rfl, _, SqL.of (s35 _ _ eo)⟩, .int (i : Int), rfl, .str (rt cs), rfl, .int (i : Int), rfl, cs, i, rfl, hR, hi, fun H6 s6 => ⟨(by show 2 ≤ sizeLine; decide), fun p np => ?_⟩⟩
        have s36 := s35.trans s6
        have eo6 := s36 _ _ eo
        have nop : o ≠ p := ne_of_none eo6 np
        have np0 : H p = none := (sm.trans s36).free np
        refine ⟨o, ws, _, rfl, rfl, (by rw [upd_ne nop]; exact eo6), ?_, ?_⟩
        · rw [tups_len tp]
          have := sel_few z cs i
          have := hR.hi
          exact fit' (by omega)
        · refine ⟨_, _, _, ws ++ [.ref p], rfl, same_new no (same_new np0 (sm.trans s36)), upd_same, ?_⟩
          rw [sel_succ z, if_pos e]
          exact tups_upd (by rw [upd_ne nop]; exact eo6) (tups_add upd_same (tups_same (s36.trans (same_upd np)) tp))
      · refine ⟨_, _, _, ws, rfl, sm.trans s35, s35 _ _ eo, ?_⟩
        rw [sel_succ z, if_neg e, List.append_nil]
        exact tups_same s35 tp
    · rintro σ H3 ⟨y3, y4, y5, ws, rfl, sm, eo, tp⟩
      exact ⟨.ref o, rfl, q H3 o ws sm no eo tp⟩
end
end Hop

set_option Elab.async false
set_option linter.all false
set_option maxRecDepth 100000
namespace HopR
open PySem PySem.Spec PyProof.Rows L2
/-! ### == and != by an own __eq__ of a class of the text, whose own names hold no __ne__ -/
structure EqC (K : PySem.W.Frag) (C f : Addr) : Prop where
  eq : PySem.W.findIn K (.ref C) "__eq__" = some (some (.ref f))
  fn : PySem.W.isFn K (.ref f) = true
  own : ∃ nm q N bs hd sn sub ab col dd k0 k1 k2 k3 k5 nw, K.lookup C = some (excClassObj nm q C N bs [.type "object"] hd sn sub ab col dd k0 k1 k2 k3 k5 nw) ∧ PySem.W.nsOkIn K N = true ∧ PySem.W.nsIn K N "__eq__" = some (some (.ref f)) ∧ PySem.W.nsIn K N "__ne__" = some none
theorem name_here {K : PySem.W.Frag} {h : Heap} {N : Addr} {mg : Str → Option Value} {x : Str} {v : Value} (kin : K.In h) (names : h.Ns N mg) (e : PySem.W.nsIn K N x = some (some v)) : mg x = some v := by
  rcases names with ⟨o, es, ep, at_, data, -, find⟩
  rw [← find]
  revert e
  unfold PySem.W.nsIn
  cases look : K.lookup N with
  | none => exact fun e => nomatch e
  | some ob =>
    obtain rfl : ob = o := Option.some.inj ((kin _ _ look).symm.trans at_)
    obtain ⟨cls, dict, dat, slots⟩ := ob
    obtain rfl : dat = .dict es ep := data
    intro e
    unfold nsFind findBy
    rw [← Array.find?_toList]
    cases hit : es.toList.find? (·.key.isStr x) with
    | none =>
      simp only [hit] at e
      split at e <;> cases e
    | some en =>
      simp only [hit] at e
      cases e
      rfl
theorem fn_here {K : PySem.W.Frag} {h : Heap} {f : Addr} (kin : K.In h) (fn : PySem.W.isFn K (.ref f) = true) : ∃ o, h.get? f = some o ∧ o.cls = .type "function" := by
  have e : (K.lookup f).map (·.cls) = some (Value.type "function") := beq_iff_eq.mp fn
  obtain ⟨o, look, cls⟩ := Option.map_eq_some_iff.mp e
  exact ⟨o, kin _ _ look, cls⟩
theorem EqC.here {K : PySem.W.Frag} {h : Heap} {C f a : Addr} {o : Obj} (c : EqC K C f) (kin : K.In h) (at_ : h.get? a = some o) (cls : o.cls = .ref C) : h.OwnEqNoNe a C f "object" [.type "object"] := by
  obtain ⟨nm, q, N, bs, hd, sn, sub, ab, col, dd, k0, k1, k2, k3, k5, nw, look, ok, heq, hne⟩ := c.own
  obtain ⟨of, hf, hc⟩ := fn_here kin c.fn
  have names : h.Ns N (h.nsMap N) := .of_isNs (PySem.W.isNs_of_in kin ok)
  exact ⟨o, of, nm, q, N, bs, hd, sn, sub, ab, col, dd, k0, k1, k2, k3, k5, nw, h.nsMap N, _, at_, cls, kin _ _ look, names, name_here kin names heq, hf, hc, PySem.F.cmp_object.mro, PySem.F.cmp_object.eq.lookup, PySem.W.nsMap_none_of_in kin ok hne⟩
section
variable {X : Cx} {CX : CXT} {n : Nat} {C f : Addr} {fd : FuncData} {ps : List Str} {sp : Sp} {E : XK}
/-- two instances of the class; what its __eq__ promises of them, a truth -/
def rOwn (C : Addr) (sp : Sp) (E : XK) (neg : Bool) : R2 := fun x y H Q => ∃ a b dx dy fs gs, x = .ref a ∧ y = .ref b ∧ H a = some (.ins C dx fs) ∧ H b = some (.ins C dy gs) ∧ sp [.ref a, .ref b] H (fun v H' => ∃ k : Bool, v = .bl k ∧ Q (.bl (k ^^ neg)) H') E
theorem two_refs {a b : Addr} : Vals [V.ref a, V.ref b] [Value.ref a, Value.ref b] := .cons rfl (.cons rfl .nil)
theorem op_eqOwn (c : EqC X.K C f) (F : FnOk X.prog X.w X.K X.mg X.base CX n f fd ps sp) (room : Room n X.A) (bind : Binds X.K fd ps []) (lets : Passes CX X E) : OpR X (compareOp .Eq) (rOwn C sp E false) := by
  rintro pins s σ H _ _ v u Q I rx ry ⟨a, b, dx, dy, fs, gs, rfl, rfl, ha, hb, prom⟩
  cases rx; cases ry
  obtain ⟨_, J, _⟩ := ins_get I.hok ha
  obtain ⟨_, J', _⟩ := ins_get I.hok hb
  obtain ⟨_, J, _⟩ := J.look
  obtain ⟨_, J', _⟩ := J'.look
  obtain ⟨m, F0⟩ := I.fr
  refine PySem.W.cmp_K (op := .Eq) (tb := .ref C) room.units0 F0 I.ok.mod.kin J J'.type (by simp [PySem.W.notFirst]) c.eq c.fn (thn (call_at F room rfl bind lets I two_refs prom) ?_)
  rintro w s' ⟨z, H', I', rz, k, rfl, q⟩
  cases rz
  refine ⟨.bl k, H', I', rfl, ?_⟩
  rw [Bool.xor_false] at q
  exact q
theorem op_neOwn (c : EqC X.K C f) (F : FnOk X.prog X.w X.K X.mg X.base CX n f fd ps sp) (room : Room (n + 1) X.A) (bind : Binds X.K fd ps []) (lets : Passes CX X E) : OpR X (compareOp .NotEq) (rOwn C sp E true) := by
  rintro pins ⟨hp, g, d, t, os⟩ σ H _ _ v u Q I rx ry ⟨a, b, dx, dy, fs, gs, rfl, rfl, ha, hb, prom⟩
  cases rx; cases ry
  obtain ⟨_, J, _⟩ := ins_get I.hok ha
  obtain ⟨_, J', _⟩ := ins_get I.hok hb
  obtain ⟨_, J, _⟩ := J.look
  obtain ⟨_, J', _⟩ := J'.look
  have un := room.un
  refine compareOp_ne_ownEq PySem.F.cmp_object (c.here I.kIn J.at_ J.cls) J'.at_ J'.cls (by omega) (thn (call_at (A := X.A.in1) F room.in1 rfl bind lets I two_refs prom) ?_)
  rintro w s' ⟨z, H', I', rz, k, rfl, q⟩
  cases rz
  refine ⟨k, rfl, .bl (!k), H', I', rfl, ?_⟩
  rw [Bool.xor_true] at q
  exact q
end
end HopR

set_option Elab.async false
set_option linter.all false
set_option maxRecDepth 100000
set_option exponentiation.threshold 200000
namespace Hop
open PySem L2 HopR
open C8 (InsC call_isC)
section
variable {P : Program} {w : World} {K : PySem.W.Frag} {mg : Str → Option Value} {base : Heap} {C : Addr}
/-! ### _law_low -/
theorem scLow : FnScope ["_law_top", "_law_bottom", "_law_one", "_law_other"] ["_law_top", "_law_bottom"] (defScope sLow) := ⟨rfl, rfl, rfl, by decide +kernel, rfl, by decide +kernel, by decide +kernel⟩
def tq (q : Rat) : List V := [.int q.num, .int (q.den : Int)]
def spLow : Sp := fun vs H Q _ => ∃ t b : Int, vs = [.int t, .int b] ∧ b ≠ 0 ∧ b.natAbs < 2 ^ 8000 ∧ ∀ H' p, Same H H' → H p = none → H' p = some (.tup (tq (Rat.divInt t b))) → Q (.ref p) H'
theorem abs_nat (x : Int) : (if x < 0 then -x else x) = (x.natAbs : Int) := by
  split <;> omega
theorem ok_low {f : Addr} {fd : FuncData} {k : Nat} (F : Fun K "_law_low" "_law_low" sLow f fd) (T : TxtP K mg C) : FnOk P w K mg base CX0 (k + 1) f fd ["_law_top", "_law_bottom"] spLow := by
  refine F.ok scLow (fun vs H Q E h => ?_) (fun cdv A outer s H vs Q E hr h => ?_)
  · obtain ⟨a, b, rfl, _⟩ := h
    rfl
  · obtain ⟨t, b, rfl, hb, hb2, q⟩ := h
    have nd := scLow.nd
    refine ⟨_, pss_cons (ps_set (i := 2) nd rfl (.inl rfl) (pe_callB call_abs (by rfl) T.abs (by decide +kernel) (pa_cons (pv 0) pa_nil)))
      (pss_cons (ps_set (i := 3) nd rfl (.inl rfl) (pe_callB call_abs (by rfl) T.abs (by decide +kernel) (pa_cons (pv 1) pa_nil)))
      (pss_cons (ps_while PassesOwn.never (pt_cmpR op_gt (pv 3) pe_int (nomark _)) (pss_one (ps_par (by rfl) nd (i := 2) (j := 3) rfl rfl (by decide) rfl rfl (pa_cons (pv 3) (pa_cons (pe_op op_modN (pv 2) (pv 3)) pa_nil)) (by rfl))))
      (pss_cons (ps_if (pt_cmpR op_lt (pv 1) pe_int (nomark _)) (pss_one (ps_set (i := 2) nd rfl (.inl rfl) (pe_op op_sub pe_int (pv 2)))) pss_nil)
      (pss_one (ps_ret (pe_tup (pa_cons (pe_op op_fdivWN (pv 0) (pv 2)) (pa_cons (pe_op op_fdivWN (pv 1) (pv 2)) pa_nil)))))))), ?_⟩
    refine ⟨.int t, rfl, t, rfl, .int b, rfl, b, rfl, ?_⟩
    rw [abs_nat, abs_nat]
    have hg := gcd_pos (t := t) hb
    have hgl : (Int.gcd t b).log2 < 9000 := by
      have h1 : Int.gcd t b ≤ b.natAbs := Nat.le_of_dvd (by omega) (Int.gcd_dvd_natAbs_right ..)
      exact Nat.lt_of_lt_of_le (PySem.Flt.log2_lt_of (by decide) (Nat.lt_of_le_of_lt h1 hb2)) (by decide)
    have fin : ∀ g : Int, g = (if b < 0 then -(Int.gcd t b : Int) else (Int.gcd t b : Int)) → CDivWN t g ∧ CDivWN b g := fun g e => by
      have e2 : g.natAbs = Int.gcd t b := by
        rw [e]
        split <;> omega
      unfold CDivWN
      rw [e2]
      exact ⟨⟨by omega, hgl⟩, ⟨by omega, hgl⟩⟩
    have done : ∀ g : Int, g = (if b < 0 then -(Int.gcd t b : Int) else (Int.gcd t b : Int)) → ∀ p, H p = none → Q (.ref p) (upd H p (.tup [.int (t.fdiv g), .int (b.fdiv g)])) := fun g e p hp => by
      rw [e, low_num hb, low_den hb]
      exact q _ _ (same_upd hp) hp upd_same
    refine while_by (fun σ H1 => ∃ x y : Nat, σ = [some (.int t), some (.int b), some (.int (x : Int)), some (.int (y : Int))] ∧ Nat.gcd x y = Int.gcd t b ∧ H1 = H) (fun σ _ => match σ with | [_, _, _, some (.int y)] => y.natAbs | _ => 0) ⟨t.natAbs, b.natAbs, rfl, rfl, rfl⟩ ?_ ?_
    · rintro σ H1 ⟨x, y, rfl, e, rfl⟩
      refine ⟨_, rfl, _, _, rfl, rfl, _, rfl, ?_⟩
      by_cases hy : y = 0
      · subst hy
        rw [Nat.gcd_zero_right] at e
        subst e
        rw [decide_eq_false (show ¬ (((0 : Nat) : Int) > 0) by decide)]
        refine iteF ⟨.int b, rfl, _, _, rfl, rfl, _, rfl, ite2 (fun e => ?_) (fun e => ?_)⟩
        · have e : b < 0 := of_decide_eq_true e
          have eg : (0 : Int) - (Int.gcd t b : Int) = (if b < 0 then -(Int.gcd t b : Int) else (Int.gcd t b : Int)) := by
            rw [if_pos e]
            omega
          obtain ⟨c1, c2⟩ := fin _ eg
          exact ⟨_, rfl, _, _, rfl, rfl, .int t, rfl, _, rfl, t, _, rfl, rfl, c1, .int b, rfl, _, rfl, b, _, rfl, rfl, c2, (by show 2 ≤ sizeLine; decide), fun p hp => done _ eg p hp⟩
        · have e : ¬ b < 0 := fun z => e (decide_eq_true z)
          have eg : (Int.gcd t b : Int) = (if b < 0 then -(Int.gcd t b : Int) else (Int.gcd t b : Int)) := (if_neg e).symm
          obtain ⟨c1, c2⟩ := fin _ eg
          exact ⟨.int t, rfl, _, rfl, t, _, rfl, rfl, c1, .int b, rfl, _, rfl, b, _, rfl, rfl, c2, (by show 2 ≤ sizeLine; decide), fun p hp => done _ eg p hp⟩
      · have hyi : (y : Int) ≠ 0 := by omega
        have em : ((x : Int).fmod (y : Int)) = ((x % y : Nat) : Int) := by
          rw [Int.fmod_eq_emod_of_nonneg _ (by omega)]
          exact (Int.natCast_emod x y).symm
        rw [decide_eq_true (show (y : Int) > 0 by omega)]
        refine iteT ⟨_, rfl, _, rfl, _, rfl, _, _, rfl, rfl, hyi, _, _, rfl, ⟨y, x % y, (by show [some (V.int t), some (V.int b), some (V.int (y : Int)), some (V.int ((x : Int).fmod (y : Int)))] = _; rw [em]), ?_, rfl⟩, ?_⟩
        · rw [← e, Nat.gcd_comm y, ← Nat.gcd_rec, Nat.gcd_comm]
        · exact fmod_less (x : Int) hyi
    · rintro σ H1 Q1 Q2 hm h
      obtain ⟨v, e1, i1, j1, e2, e3, k2, e4, h⟩ := h
      exact ⟨v, e1, i1, j1, e2, e3, k2, e4, hm _ _ h⟩
/-! ### Parts alike -/
def spPEq (C : Addr) : Sp := fun vs H Q _ => ∃ a b q r, vs = [.ref a, .ref b] ∧ PA C H a q ∧ PA C H b r ∧ Q (.bl (decide (q = r))) H
theorem scEq : FnScope ["self", "other"] ["self", "other"] (defScope sEq) := ⟨rfl, rfl, rfl, by decide +kernel, rfl, by decide +kernel, by decide +kernel⟩
theorem ok_eq {f : Addr} {fd : FuncData} {k : Nat} (F : Fun K "__eq__" "Part.__eq__" sEq f fd) (T : TxtP K mg C) : FnOk P w K mg base CX0 (k + 1) f fd ["self", "other"] (spPEq C) := by
  refine F.ok scEq (fun vs H Q E h => ?_) (fun cdv A outer s H vs Q E hr h => ?_)
  · obtain ⟨a, b, q, r, rfl, _⟩ := h
    rfl
  · obtain ⟨a, b, q, r, rfl, ⟨dx, ha⟩, ⟨dy, hb⟩, h⟩ := h
    refine ⟨_, pss_one (ps_ret (pe_and (pe_callB (call_isC T.ins) (by rfl) T.isi (by decide +kernel) (pa_cons (pv 1) (pa_cons (pe_glob (v := .ref C) (by rfl) T.mgC rfl) pa_nil)))
      (pe_and (pe_cmpR op_eq (pe_fld (pv 0) rfl) (pe_fld (pv 1) rfl) (nomark _)) (pe_one (pe_cmpR op_eq (pe_fld (pv 0) rfl) (pe_fld (pv 1) rfl) (nomark _)))))), ?_⟩
    refine ⟨.ref b, rfl, b, dy, _, rfl, hb, true, rfl, ?_⟩
    refine ⟨.ref a, rfl, a, C, dx, _, _, rfl, ha, T.ins.cl, T.nT, pf_top q, .ref b, rfl, b, C, dy, _, _, rfl, hb, T.ins.cl, T.nT, pf_top r, rfl, _, rfl, ?_⟩
    by_cases e1 : q.num = r.num
    · rw [decide_eq_true (show V.int q.num = V.int r.num by rw [e1])]
      refine ⟨.ref a, rfl, a, C, dx, _, _, rfl, ha, T.ins.cl, T.nB, pf_bottom q, .ref b, rfl, b, C, dy, _, _, rfl, hb, T.ins.cl, T.nB, pf_bottom r, rfl, ?_⟩
      have e : decide (V.int (q.den : Int) = V.int (r.den : Int)) = decide (q = r) := by
        by_cases e2 : q.den = r.den
        · rw [decide_eq_true (show V.int (q.den : Int) = V.int (r.den : Int) by rw [e2]), decide_eq_true (Rat.ext e1 e2)]
        · rw [decide_eq_false fun z => e2 (by have := V.int.inj z; omega), decide_eq_false fun z => e2 (by rw [z])]
      show Q (.bl (decide (V.int (q.den : Int) = V.int (r.den : Int)))) H
      rw [e]
      exact h
    · rw [decide_eq_false fun z => e1 (V.int.inj z)]
      rw [decide_eq_false (show ¬ q = r from fun z => e1 (by rw [z]))] at h
      exact h
end
end Hop

set_option Elab.async false
set_option linter.all false
set_option maxRecDepth 100000
set_option exponentiation.threshold 200000
namespace Hop
open PySem L2 HopR
open C8 (InsC call_isC)
/-! ### fractions with one bottom -/
theorem same_bottom {a b m : Int} (h : m ≠ 0) : Rat.divInt a m + Rat.divInt b m = Rat.divInt (a + b) m := by
  rw [Rat.divInt_add_divInt _ _ h h, Rat.divInt_eq_divInt_iff (Int.mul_ne_zero h h) h]
  grind
theorem times_whole {a k m : Int} (h : m ≠ 0) : Rat.divInt a m * Rat.divInt k 1 = Rat.divInt (a * k) m := by
  rw [Rat.divInt_mul_divInt, Int.mul_one]
theorem self_bottom {m : Int} (h : m ≠ 0) : Rat.divInt m m = Rat.divInt 1 1 := by
  rw [Rat.divInt_eq_divInt_iff h (by decide)]
  omega
theorem zero_bottom (m : Int) : Rat.divInt 0 1 = Rat.divInt 0 m := by rw [Rat.zero_divInt, Rat.zero_divInt]
theorem sum_take {α : Type} {L : List α} {i : Nat} {u : α} (h : L[i]? = some u) (g : α → Nat) : ((L.take (i + 1)).map g).sum = ((L.take i).map g).sum + g u := by
  rw [List.take_add_one, h, List.map_append, List.sum_append]
  rfl
theorem sum_le {α : Type} (L : List α) (g : α → Nat) (i : Nat) : ((L.take i).map g).sum ≤ (L.map g).sum := by
  conv => rhs; rw [← List.take_append_drop i L]
  rw [List.map_append, List.sum_append]
  omega
theorem no_plus (q : Rat) : (pf q).lookup ("plus" : Str) = none := pf_no q (by decide +kernel) (by decide +kernel)
theorem no_times' (q : Rat) : (pf q).lookup ("times" : Str) = none := pf_no q (by decide +kernel) (by decide +kernel)
theorem um_few {cs : List Nat} (h : Rg cs) : um cs ≤ 4096 := by
  rw [um_due h.ok]
  unfold due
  refine Nat.le_trans (List.countP_le_length) ?_
  have : ∀ n, (allb n).length = 2 ^ n := fun n => by
    induction n with
    | zero => rfl
    | succ n ih =>
      have := (allb_snoc n).length_eq
      rw [this, List.length_append, List.length_map, List.length_map, ih, Nat.pow_succ]
      omega
  rw [this]
  exact Nat.pow_le_pow_right (n := 2) (j := 12) (by decide) h.hi
theorem lns_eq {cs u : List Nat} (h : Rg u ∧ u.length = cs.length ∧ u.count 97 = cs.count 97 ∧ u.count 98 = cs.count 98) : lns u = lns cs := by
  unfold lns
  rw [h.2.1, h.2.2.1, h.2.2.2]
theorem cms_lt {cs : List Nat} {k : Nat} (h : k ∈ cms cs cs.length) : k < cs.length := List.mem_range.mp (List.mem_filter.mp h).1
theorem cms_few (cs : List Nat) (m : Nat) : (cms cs m).length ≤ m := by
  refine Nat.le_trans (List.length_filter_le _ _) ?_
  rw [List.length_range]
  exact Nat.le_refl _
theorem tups_at {H : Hp} {cs : List Nat} : ∀ {ks : List Nat} {vs : List V} {i : Nat} {x : V}, Tups H cs ks vs → vs[i]? = some x → ∃ k p, ks[i]? = some k ∧ x = .ref p ∧ H p = some (.tup [.int (k : Int), .str (rt (swp cs k))])
  | [], _, i, x, h, e => by
    cases h
    simp at e
  | k :: r, _, 0, x, ⟨p, vr, ev, h1, h2⟩, e => by
    rw [ev] at e
    exact ⟨k, p, rfl, (Option.some.inj e).symm, h1⟩
  | k :: r, _, i + 1, x, ⟨p, vr, ev, h1, h2⟩, e => by
    rw [ev] at e
    exact tups_at (i := i) h2 e
section
variable {P : Program} {w : World} {K : PySem.W.Frag} {mg : Str → Option Value} {base : Heap} {d : Addr} {es : Array DictEntry} {n : Nat} {C : Addr}
/-- the chances of the words W are kept -/
def Kept (C : Addr) (M : Nat) (H : Hp) (kvs : List (Key × V)) (W : List (List Nat)) : Prop := ∀ u ∈ W, ∃ p, valV kvs (Sum.inr (rt u)) = some (.ref p) ∧ PA C H p (Rat.divInt ((um u : Nat) : Int) ((M : Nat) : Int))
theorem Kept.same {M : Nat} {H H' : Hp} {kvs : List (Key × V)} {W : List (List Nat)} (s : Same H H') (h : Kept C M H kvs W) : Kept C M H' kvs W := fun u hu => let ⟨p, e, pa⟩ := h u hu; ⟨p, e, pa.same s⟩
theorem pa_upd {H : Hp} {p pd : Addr} {q : Rat} {kvs : List (Key × V)} {o : HO} (hd : H pd = some (.dK kvs)) (h : PA C H p q) : PA C (upd H pd o) p q := by
  obtain ⟨dx, e⟩ := h
  exact ⟨dx, by rw [upd_ne (fun z => by rw [z, hd] at e; cases e)]; exact e⟩
theorem Kept.put {M : Nat} {H : Hp} {kvs : List (Key × V)} {W : List (List Nat)} {u : List Nat} {p pd : Addr} (hd : H pd = some (.dK kvs)) (h : Kept C M H kvs W) (pa : PA C H p (Rat.divInt ((um u : Nat) : Int) ((M : Nat) : Int))) :
    Kept C M (upd H pd (.dK (putK kvs (Sum.inr (rt u)) (.ref p)))) (putK kvs (Sum.inr (rt u)) (.ref p)) (W ++ [u]) := fun v hv => by
  by_cases e : v = u
  · subst e
    exact ⟨p, by rw [valV_put, if_pos rfl], pa_upd hd pa⟩
  · rcases List.mem_append.mp hv with hv | hv
    · obtain ⟨p', e1, pa'⟩ := h v hv
      refine ⟨p', ?_, pa_upd hd pa'⟩
      rw [valV_put, if_neg (fun z => e (rt_inj (Sum.inr.inj z)))]
      exact e1
    · exact absurd (List.mem_singleton.mp hv) e
structure Df (K : PySem.W.Frag) (mg : Str → Option Value) (C f1 f2 f6 f7 f8 f9 f13 f14 fi fx fy fz fp ft fe fw fr fc fv fs fl fa fk fq fu : Addr) (g1 g2 g6 g7 g8 g9 g13 g14 gi gx gy gz gp gt ge gw gr gc gv gs gl ga gk gq gu : FuncData) (d1 : Value) : Prop where
  N1 : Fn K mg "is_ring" sIsRing ["thing"] f1 g1
  N2 : Fn K mg "need_ring" sNeedRing ["thing"] f2 g2
  N6 : Fn K mg "with_upper" sWup ["waiting"] f6 g6
  N7 : Fn K mg "past" sPast ["waiting", "sign"] f7 g7
  N8 : Fn K mg "choices" sChoices ["many", "some"] f8 g8
  N9 : Fn K mg "uppers_many" sUppers ["ring"] f9 g9
  N13 : Fn K mg "ring_weight" sWeight ["ring"] f13 g13
  N14 : Fn K mg "ring_chance" sChance ["ring"] f14 g14
  NP : Mks K mg C fi fx fy gi gx gy d1
  Nz : Fn K mg "lowest" sLowest ["top", "bottom"] fz gz
  Fp : Fun K "plus" "Part.plus" sPlus fp gp
  bp : Binds K gp ["self", "other"] []
  mp : Meth K C "plus" fp
  Ft : Fun K "times" "Part.times" sTimes ft gt
  bt : Binds K gt ["self", "other"] []
  mt : Meth K C "times" ft
  Fe : Fun K "__eq__" "Part.__eq__" sEq fe ge
  be : Binds K ge ["self", "other"] []
  ec : EqC K C fe
  Nw : Fn K mg "_law_drawn" sDrawn ["_law_cell", "_law_sizes"] fw gw
  Nr : Fn K mg "_law_ring" sLRing ["_law_cell", "_law_most"] fr gr
  Nc : Fn K mg "_law_choose" sChoose ["_law_many", "_law_some"] fc gc
  Nv : Fn K mg "_law_whole" sWhole ["_law_found"] fv gv
  Ns : Fn K mg "_law_is_part" sIsPart ["_law_found", "_law_due"] fs gs
  Nl : Fn K mg "_law_low" sLow ["_law_top", "_law_bottom"] fl gl
  Na : Fn K mg "_law_all_rings" sAll ["_law_ring_here"] fa ga
  Nk : Fn K mg "_law_rank" sLRank ["_law_sign"] fk gk
  Nq : Fn K mg "_law_swapped" sLSwap ["_law_ring_here", "_law_place"] fq gq
  Nu : Fn K mg "_law_steps" sLSteps ["_law_ring_here", "_law_sign"] fu gu
abbrev nLaw : List Str := ["_law_script", "_law_cells", "_law_cell", "_law_ring_here", "_law_upper", "_law_many", "_law_rings", "_law_chances", "_law_whole_here", "_law_one", "_law_came", "_law_place", "_law_elder"]
theorem scLaw : FnScope nLaw ["_law_script"] (defScope sLaw) := ⟨rfl, rfl, rfl, by decide +kernel, rfl, by decide +kernel, by decide +kernel⟩
def spLaw (K : PySem.W.Frag) : Sp := fun vs H Q _ => ∃ (a : Addr) (ns : List Int), vs = [.ref a] ∧ SqL K H a (ns.map V.int) ∧ ns.length ≤ 63 ∧ ∀ H', Q (.bl true) H'
set_option maxHeartbeats 4000000 in
theorem ok_law {f f1 f2 f6 f7 f8 f9 f13 f14 fi fx fy fz fp ft fe fw fr fc fv fs fl fa fk fq fu : Addr} {fd g1 g2 g6 g7 g8 g9 g13 g14 gi gx gy gz gp gt ge gw gr gc gv gs gl ga gk gq gu : FuncData} {d1 : Value} (F : Fun K "law" "law" sLaw f fd)
    (N : Df K mg C f1 f2 f6 f7 f8 f9 f13 f14 fi fx fy fz fp ft fe fw fr fc fv fs fl fa fk fq fu g1 g2 g6 g7 g8 g9 g13 g14 gi gx gy gz gp gt ge gw gr gc gv gs gl ga gk gq gu d1) (T : Txt K w mg d es n) (TP : TxtP K mg C) (mx : mg "max" = none) : FnOk P w K mg base CX0 7 f fd ["_law_script"] (spLaw K) := by
  have Gr : FnOk P w K mg base CX0 6 fr gr ["_law_cell", "_law_most"] spLRing := ok_lring N.Nr.F N.Nw T
  have Gc : FnOk P w K mg base CX0 6 fc gc ["_law_many", "_law_some"] spChoices := ok_choose N.Nc.F T
  have Gt : FnOk P w K mg base CX0 6 f13 g13 ["ring"] spUpp := ok_weight N.N13.F N.N1 N.N2 N.N6 N.N7 N.N8 N.N9 T
  have Gh : FnOk P w K mg base CX0 6 f14 g14 ["ring"] (spChance C) := ok_chance N.N14.F N.N1 N.N2 N.N6 N.N7 N.N8 N.N9 N.NP T TP
  have GI : FnOk P w K mg base CX0 5 fi gi ["self", "top", "bottom"] (spInit C) := ok_init N.NP.F N.NP.N1 N.NP.N2 TP
  have Gp : FnOk P w K mg base CX0 6 fp gp ["self", "other"] (spOp C (fun _ _ => True) (fun q r => q + r)) := ok_plus N.Fp N.NP TP
  have Gm : FnOk P w K mg base CX0 6 ft gt ["self", "other"] (spOp C (fun _ _ => True) (fun q r => q * r)) := ok_times N.Ft N.NP N.Nz TP
  have Ge : FnOk P w K mg base CX0 5 fe ge ["self", "other"] (spPEq C) := ok_eq N.Fe TP
  have Gs : FnOk P w K mg base CX0 6 fs gs ["_law_found", "_law_due"] (spIsPart C) := ok_ispart N.Ns.F N.Nv T TP
  have Gl : FnOk P w K mg base CX0 6 fl gl ["_law_top", "_law_bottom"] spLow := ok_low N.Nl.F TP
  have Ga : FnOk P w K mg base CX0 6 fa ga ["_law_ring_here"] spAll := ok_all N.Na.F T mx
  have Gu : FnOk P w K mg base CX0 6 fu gu ["_law_ring_here", "_law_sign"] spLSteps := ok_lsteps N.Nu.F N.Nk N.Nq T
  refine F.ok scLaw (fun vs H Q E h => ?_) (fun cdv A outer s H vs Q E hr h => ?_)
  · obtain ⟨a, ns, rfl, _⟩ := h
    rfl
  · obtain ⟨a, ns, rfl, hS, hlen, q⟩ := h
    have nd := scLaw.nd
    have hu := hu66 hr
    have hu1 := hu_of hr
    have hu64 : (A.deeper (PyProof.Rows.envOfC "law" (defScope sLaw) s.heap.objs.size f cdv)).units + 64 < cLine := by omega
    obtain ⟨tL, pL, hL⟩ : ∃ tL, PSs (cxOf CX0 P w K mg base nLaw "law" (defScope sLaw) f cdv A outer s H E).nox ((defBody sLaw).drop 2) tL ∧
        ∀ (H1 : Hp) (p1 : Addr) (zs : List Int), H1 p1 = some (.lst (zs.map V.int)) → tL { nx := fun _ H' => Q .non H', rt := Q } [some (.ref a), some (.ref p1), none, none, none, none, none, none, none, none, none, none, none] H1 := by
      refine ⟨_, pss_cons (ps_for PassesOwn.never rfl (pi_list (pv 1)) (pg_name (i := 2) nd rfl (.inl rfl))
          (pss_cons (ps_set (i := 3) nd rfl (.inl rfl) (pe_call Gr hr (by rfl) N.Nr.g N.Nr.F.kp N.Nr.b .nil pass0 (pa_cons (pv 2) (pa_cons pe_int pa_nil))))
          (pss_cons (ps_set (i := 4) nd rfl (.inl rfl) (pe_bm PySem.F.plainAttrs_str PySem.F.slot_str_count PySem.F.type_str_count mt_count (pv 3) (pa_cons pe_str pa_nil)))
          (pss_cons (ps_set (i := 5) nd rfl (.inl rfl) (pe_op op_mul (pe_call Gc hr (by rfl) N.Nc.g N.Nc.F.kp N.Nc.b .nil pass0 (pa_cons (pe_callB call_len_str (by rfl) T.len PySem.boot_len (pa_cons (pv 3) pa_nil)) (pa_cons (pv 4) pa_nil)))
            (pe_call Gc hr (by rfl) N.Nc.g N.Nc.F.kp N.Nc.b .nil pass0 (pa_cons (pe_callB call_len_str (by rfl) T.len PySem.boot_len (pa_cons (pv 3) pa_nil)) (pa_cons (pe_op op_add (pv 4) (pe_bm PySem.F.plainAttrs_str PySem.F.slot_str_count PySem.F.type_str_count mt_count (pv 3) (pa_cons pe_str pa_nil))) pa_nil)))))
          (pss_cons (ps_if (pt_not (pt_val (pe_call Gs hr (by rfl) N.Ns.g N.Ns.F.kp N.Ns.b .nil pass0 (pa_cons (pe_call Gh hr (by rfl) N.N14.g N.N14.F.kp N.N14.b .nil pass0 (pa_cons (pv 3) pa_nil)) (pa_cons (pe_call Gl hr (by rfl) N.Nl.g N.Nl.F.kp N.Nl.b .nil pass0 (pa_cons (pe_call Gt hr (by rfl) N.N13.g N.N13.F.kp N.N13.b .nil pass0 (pa_cons (pv 3) pa_nil)) (pa_cons (pv 5) pa_nil))) pa_nil))))) (pss_one (ps_ret pe_bl)) pss_nil)
          (pss_cons (ps_set (i := 6) nd rfl (.inl rfl) (pe_call Ga hr (by rfl) N.Na.g N.Na.F.kp N.Na.b .nil pass0 (pa_cons (pe_call Gr hr (by rfl) N.Nr.g N.Nr.F.kp N.Nr.b .nil pass0 (pa_cons (pe_op op_fdiv (pv 2) pe_int) (pa_cons pe_int pa_nil))) pa_nil)))
          (pss_cons (ps_set (i := 7) nd rfl (.inl rfl) pe_dnewK)
          (pss_cons (ps_set (i := 8) nd rfl (.inl rfl) (pe_make N.NP.M GI hr (by rfl) TP.mgC N.NP.b2 (.cons N.NP.r1 .nil) pass0 (pa_cons pe_int pa_nil)))
          (pss_cons (ps_for PassesOwn.never rfl (pi_list (pv 6)) (pg_name (i := 9) nd rfl (.inl rfl))
            (pss_cons (ps_dput hu1 (pv 7) (pv 9) (pe_call Gh hr (by rfl) N.N14.g N.N14.F.kp N.N14.b .nil pass0 (pa_cons (pv 9) pa_nil)) rfl)
            (pss_one (ps_set (i := 8) nd rfl (.inl rfl) (pe_meth (pv 8) TP.ins.cl N.mp Gp hr N.bp .nil pass0 (pa_cons (pe_dget hu1 (pv 7) (pv 9) (fun _ _ => rfl)) pa_nil))))))
          (pss_cons (ps_if (pt_cmpR (op_neOwn N.ec Ge hr N.be pass0) (pv 8) (pe_make N.NP.M GI hr (by rfl) TP.mgC N.NP.b2 (.cons N.NP.r1 .nil) pass0 (pa_cons pe_int pa_nil)) (nomark _)) (pss_one (ps_ret pe_bl)) pss_nil)
          (pss_one (ps_for PassesOwn.never rfl (pi_list (pv 6)) (pg_name (i := 9) nd rfl (.inl rfl))
            (pss_cons (ps_set (i := 10) nd rfl (.inl rfl) (pe_make N.NP.M GI hr (by rfl) TP.mgC N.NP.b2 (.cons N.NP.r1 .nil) pass0 (pa_cons pe_int pa_nil)))
            (pss_cons (ps_for PassesOwn.never rfl (pi_list (pe_call Gu hr (by rfl) N.Nu.g N.Nu.F.kp N.Nu.b .nil pass0 (pa_cons (pv 9) (pa_cons (pe_un un_neg pe_int) pa_nil)))) (pg_tup rfl (pgs_cons (pg_name (i := 11) nd rfl (.inl rfl)) (pgs_cons (pg_name (i := 12) nd rfl (.inl rfl)) pgs_nil)))
              (pss_one (ps_set (i := 10) nd rfl (.inl rfl) (pe_meth (pv 10) TP.ins.cl N.mp Gp hr N.bp .nil pass0 (pa_cons (pe_dget hu1 (pv 7) (pv 12) (fun _ _ => rfl)) pa_nil)))))
            (pss_one (ps_if (pt_cmpR (op_neOwn N.ec Ge hr N.be pass0) (pv 10) (pe_meth (pe_dget hu1 (pv 7) (pv 9) (fun _ _ => rfl)) TP.ins.cl N.mt Gm hr N.bt .nil pass0 (pa_cons (pe_make N.NP.M GI hr (by rfl) TP.mgC N.NP.b2 (.cons N.NP.r1 .nil) pass0 (pa_cons (pe_callB call_len_seq (by rfl) T.len PySem.boot_len (pa_cons (pe_call Gu hr (by rfl) N.Nu.g N.Nu.F.kp N.Nu.b .nil pass0 (pa_cons (pv 9) (pa_cons pe_int pa_nil))) pa_nil)) pa_nil)) pa_nil)) (nomark _)) (pss_one (ps_ret pe_bl)) pss_nil))))))))))))))))
        (pss_one (ps_ret pe_bl)), fun H1 p1 zs e1 => ?_⟩
      refine ⟨.ref p1, rfl, p1, rfl, ⟨_, SqL.of e1⟩, ?_⟩
      refine for_list (K := K) (a := p1) (xs := zs.map V.int) (fun i σ H2 => ∃ y2 y3 y4 y5 y6 y7 y8 y9 y10 y11 y12, σ = [some (.ref a), some (.ref p1), y2, y3, y4, y5, y6, y7, y8, y9, y10, y11, y12] ∧ Same H1 H2) ⟨_, _, _, _, _, _, _, _, _, _, _, rfl, Same.refl _⟩ (fun i σ H2 _ ⟨_, _, _, _, _, _, _, _, _, _, _, _, h⟩ => SqL.of (h _ _ e1)) ?_ ?_
      · rintro i x σ H2 hx ⟨y2, y3, y4, y5, y6, y7, y8, y9, y10, y11, y12, rfl, s2⟩
        rw [List.getElem?_map] at hx
        obtain ⟨c, _, rfl⟩ := Option.map_eq_some_iff.mp hx
        refine ⟨.int c, rfl, c, 12, rfl, .inr rfl, fun H3 cs s3 hR _ => ?_⟩
        have hhi := hR.hi
        have hrl : (rt cs).length = cs.length := rt_len cs
        have wr : (rt cs).length ≤ sizeLine := rgFits hR
        have hc97 : cs.count 97 ≤ cs.length := List.count_le_length
        have hab := ab_len cs
        have c1 := chs_small (t := cs.count 97) hhi
        refine ⟨.str (rt cs), rfl, rfl, rt cs, "a", rfl, rfl, ?_⟩
        rw [count_a']
        refine ⟨.str (rt cs), rfl, rt cs, rfl, wr, .int _, rfl, cs.length, cs.count 97, by rw [hrl]; rfl, hc97, hhi, ?_⟩
        refine ⟨.str (rt cs), rfl, rt cs, rfl, wr, .int _, rfl, .str (rt cs), rfl, rfl, rt cs, "b", rfl, rfl, _, _, rfl, rfl, cs.length, cs.count 97 + cs.count 98, by rw [hrl, count_b', Int.natCast_add]; rfl, hab, hhi, _, _, rfl, rfl, .inl ⟨by omega, by omega⟩, ?_⟩
        have em : ((chs cs.length (cs.count 97) : Nat) : Int) * ((chs cs.length (cs.count 97 + cs.count 98) : Nat) : Int) = ((lns cs : Nat) : Int) := (Int.natCast_mul _ _).symm
        rw [show (fun i j : Int => V.int (i * j)) ((chs cs.length (cs.count 97) : Nat) : Int) ((chs cs.length (cs.count 97 + cs.count 98) : Nat) : Int) = V.int ((lns cs : Nat) : Int) from congrArg V.int em]
        have hp := lns_pos cs
        -- the chance of the ring
        refine ⟨.str (rt cs), rfl, cs, rfl, hR, fun H4 p4 s4 n4 pa4 => ?_⟩
        refine ⟨.str (rt cs), rfl, cs, rfl, hR, fun H5 s5 => ?_⟩
        refine ⟨.int _, rfl, _, _, rfl, by omega, by rw [Int.natAbs_natCast]; exact Nat.lt_of_lt_of_le (few_pow (lns_few hhi)) (Nat.pow_le_pow_right (by decide) (by decide)), fun H6 t6 s6 n6 e6 => ?_⟩
        refine ⟨p4, t6, _, rfl, pa4.same (s5.trans s6), e6, fun H7 s7 => ⟨true, rfl, iteF ?_⟩⟩
        have s17 : Same H1 H7 := (s2.trans s3).trans ((s4.trans s5).trans (s6.trans s7))
        -- the rings of a sort
        refine ⟨.int c, rfl, _, _, rfl, rfl, ⟨by decide, by decide⟩, c / 7, 5, rfl, .inl rfl, fun H8 rs s8 hRr h5 => ?_⟩
        have h5 : rs.length ≤ 5 := by omega
        refine ⟨rs, rfl, hRr, h5, fun H9 p9 s9 n9 e9 => ?_⟩
        have okU : ∀ u ∈ arc rs, Rg u ∧ lns u = lns rs := fun u hu => ⟨(arc_ok hRr hu).1, lns_eq (arc_ok hRr hu)⟩
        have smU : ((arc rs).map um).sum = lns rs := arc_sum hRr h5
        have backU : ∀ u ∈ arc rs, ∀ k, k < u.length → swp u k ∈ arc rs := fun u hu k hk => by
          have q := arc_ok hRr hu
          have hk2 := rg_swp q.1 hk
          exact arc_all hRr hk2.ok (by rw [swp_len]; exact q.2.1) (by rw [swp_count q.1.lo hk]; exact q.2.2.1) (by rw [swp_count q.1.lo hk]; exact q.2.2.2)
        have fewU : (arc rs).length ≤ 243 := Nat.le_trans (ar_few _) (Nat.pow_le_pow_right (n := 3) (j := 5) (by decide) h5)
        have hM0 := lns_pos rs
        have hMf := lns_few hRr.hi
        have hMf2 : lns rs ≤ 4096 * 4096 := hMf
        generalize arc rs = U at e9 okU smU backU fewU
        generalize lns rs = M at okU smU hM0 hMf hMf2
        have hMM : ((M : Nat) : Int) ≠ 0 := by omega
        have zz : ∀ {t : Nat}, t ≤ 4096 * 4096 → Sz 3900 (Rat.divInt ((t : Nat) : Int) ((M : Nat) : Int)) := fun ht => sz_divInt hMM (by rw [Int.natAbs_natCast]; exact few_pow ht) (by rw [Int.natAbs_natCast]; exact few_pow hMf2)
        intro pd npd
        have sd : Same H9 (upd H9 pd (.dK [])) := same_upd npd
        have ed : upd H9 pd (.dK []) pd = some (.dK []) := upd_same
        have s19 : Same H1 H9 := s17.trans (s8.trans s9)
        generalize upd H9 pd (.dK []) = H10 at sd ed
        intro q0 dx nq ndx ne
        refine ⟨q0, dx, 0, 1, rfl, by decide, Nat.one_lt_two_pow (by decide), upd_same, rfl, ?_⟩
        rw [upd_upd]
        obtain ⟨s11, pa⟩ := mk_facts (C := C) (q := Rat.divInt 0 1) nq ndx
        generalize upd (upd H10 dx (.own q0)) q0 (.ins C dx (pf (Rat.divInt 0 1))) = H11 at s11 pa
        rw [zero_bottom ((M : Nat) : Int)] at pa
        refine ⟨.ref p9, rfl, p9, rfl, ⟨_, SqL.of ((sd.trans s11) _ _ e9)⟩, ?_⟩
        refine for_list (K := K) (a := p9) (xs := vr U) (fun j σ H12 => ∃ y9 pp kvs, σ = [some (.ref a), some (.ref p1), some (.int c), some (.str (rt cs)), some (.int ((cs.count 97 : Nat) : Int)), some (.int ((lns cs : Nat) : Int)), some (.ref p9), some (.ref pd), some (.ref pp), y9, y10, y11, y12] ∧ Same H9 H12 ∧ H12 pd = some (.dK kvs) ∧ kvs.length ≤ j ∧ Kept C M H12 kvs (U.take j) ∧ PA C H12 pp (Rat.divInt ((((U.take j).map um).sum : Nat) : Int) ((M : Nat) : Int)))
          ⟨_, q0, [], rfl, sd.trans s11, s11 _ _ ed, Nat.le_refl _, (fun u hu => nomatch hu), pa⟩ (fun j σ H12 _ ⟨_, _, _, _, h, _⟩ => SqL.of (h _ _ e9)) ?_ ?_
        · rintro j x σ H12 hx12 ⟨y9', pp, kvs, rfl, s12, ed12, hkl, kp, pa12⟩
          unfold vr at hx12
          rw [List.getElem?_map] at hx12
          obtain ⟨u, hu', rfl⟩ := Option.map_eq_some_iff.mp hx12
          have hjl : j < U.length := (List.getElem?_eq_some_iff.mp hu').1
          obtain ⟨hRu, hlu⟩ := okU u (List.mem_of_getElem? hu')
          refine ⟨.str (rt u), rfl, u, rfl, hRu, fun H13 p13 s13 n13 pa13 => ?_⟩
          rw [hlu] at pa13
          have ed13 := s13 _ _ ed12
          refine ⟨.ref pd, rfl, .str (rt u), rfl, pd, _, rfl, DPut.k (k := Sum.inr (rt u)) ed13 (fit' (by omega)), ?_⟩
          have kp2 := Kept.put ed13 (Kept.same s13 kp) pa13
          have pa14 := pa_upd (o := .dK (putK kvs (Sum.inr (rt u)) (.ref p13))) ed13 (pa12.same s13)
          have pa15 := pa_upd (o := .dK (putK kvs (Sum.inr (rt u)) (.ref p13))) ed13 pa13
          have hln := length_putK kvs (Sum.inr (rt u)) (V.ref p13)
          have hval : valV (putK kvs (Sum.inr (rt u)) (V.ref p13)) (Sum.inr (rt u)) = some (.ref p13) := by rw [valV_put, if_pos rfl]
          have s14 : Same H9 (upd H13 pd (.dK (putK kvs (Sum.inr (rt u)) (.ref p13)))) := same_new npd (s12.trans s13)
          have e14 : upd H13 pd (.dK (putK kvs (Sum.inr (rt u)) (.ref p13))) pd = some (.dK (putK kvs (Sum.inr (rt u)) (.ref p13))) := upd_same
          generalize upd H13 pd (.dK (putK kvs (Sum.inr (rt u)) (.ref p13))) = H14 at kp2 pa14 pa15 s14 e14
          have dg : DGet H14 pd (.str (rt u)) (some (.ref p13)) := by
            have := DGet.k (k := Sum.inr (rt u)) e14
            rw [hval] at this
            exact this
          obtain ⟨dy, epp⟩ := pa14
          have hsm : ((U.take j).map um).sum ≤ M := by
            rw [← smU]
            exact sum_le U um j
          refine ⟨.ref pp, rfl, pp, dy, _, rfl, epp, no_plus _, .ref pd, rfl, .str (rt u), rfl, pd, _, rfl, dg, ?_⟩
          refine ⟨pp, p13, _, _, rfl, ⟨dy, epp⟩, pa15, (zz (by omega)).mono (by decide), zz (by have := um_few hRu; omega), trivial, fun H15 p15 s15 n15 pa16 => ?_⟩
          refine ⟨_, p15, _, rfl, s14.trans s15, s15 _ _ e14, by omega, ?_, ?_⟩
          · rw [List.take_add_one, hu']
            exact Kept.same s15 kp2
          · rw [sum_take hu', Int.natCast_add, ← same_bottom hMM]
            exact pa16
        rintro σ H12 ⟨y9', pp, kvs, rfl, s12, ed12, hkl, kp, pa12⟩
        rw [vr_len, List.take_length] at kp
        rw [vr_len, List.take_length, smU, self_bottom hMM] at pa12
        -- in all one
        refine ⟨.ref pp, rfl, ?_⟩
        intro q1 dy nq1 ndy ne1
        refine ⟨q1, dy, 1, 1, rfl, by decide, Nat.one_lt_two_pow (by decide), upd_same, rfl, ?_⟩
        rw [upd_upd]
        obtain ⟨s13, pb⟩ := mk_facts (C := C) (q := Rat.divInt 1 1) nq1 ndy
        generalize upd (upd H12 dy (.own q1)) q1 (.ins C dy (pf (Rat.divInt 1 1))) = H13 at s13 pb
        have pa13 := pa12.same s13
        obtain ⟨da, ea⟩ := pa13
        obtain ⟨db, eb⟩ := pb
        refine ⟨pp, q1, da, db, _, _, rfl, rfl, ea, eb, ⟨pp, q1, _, _, rfl, ⟨da, ea⟩, ⟨db, eb⟩, _, rfl, ?_⟩⟩
        rw [decide_eq_true rfl]
        refine ⟨_, rfl, iteF ?_⟩
        have kp13 := Kept.same s13 kp
        have ed13 := s13 _ _ ed12
        have s913 := s12.trans s13
        refine ⟨.ref p9, rfl, p9, rfl, ⟨_, SqL.of (s913 _ _ e9)⟩, ?_⟩
        refine for_list (K := K) (a := p9) (xs := vr U) (fun j σ H14 => ∃ y9 y10 y11 y12, σ = [some (.ref a), some (.ref p1), some (.int c), some (.str (rt cs)), some (.int ((cs.count 97 : Nat) : Int)), some (.int ((lns cs : Nat) : Int)), some (.ref p9), some (.ref pd), some (.ref pp), y9, y10, y11, y12] ∧ Same H13 H14) ⟨_, _, _, _, rfl, Same.refl _⟩ (fun j σ H14 _ ⟨_, _, _, _, _, h⟩ => SqL.of ((s913.trans h) _ _ e9)) ?_ ?_
        · rintro j x σ H14 hx14 ⟨y9, y10, y11, y12, rfl, s14⟩
          unfold vr at hx14
          rw [List.getElem?_map] at hx14
          obtain ⟨o, ho', rfl⟩ := Option.map_eq_some_iff.mp hx14
          have hoU := List.mem_of_getElem? ho'
          obtain ⟨hRo, hlo⟩ := okU o hoU
          intro q2 dz nq2 ndz ne2
          refine ⟨q2, dz, 0, 1, rfl, by decide, Nat.one_lt_two_pow (by decide), upd_same, rfl, ?_⟩
          rw [upd_upd]
          obtain ⟨s15, pc⟩ := mk_facts (C := C) (q := Rat.divInt 0 1) nq2 ndz
          generalize upd (upd H14 dz (.own q2)) q2 (.ins C dz (pf (Rat.divInt 0 1))) = H15 at s15 pc
          rw [zero_bottom ((M : Nat) : Int)] at pc
          refine ⟨.str (rt o), rfl, 1, rfl, o, -1, rfl, hRo, .inr rfl, fun H16 p16 ws s16 n16 e16 tp => ?_⟩
          rw [show sel (-1) o o.length = cms o o.length from if_neg (by decide)] at tp
          have hwl := tups_len tp
          have s136 : Same H13 H16 := s14.trans (s15.trans s16)
          refine ⟨p16, rfl, ⟨_, SqL.of e16⟩, ?_⟩
          refine for_list (K := K) (a := p16) (xs := ws) (fun t σ H17 => ∃ y11 y12 pz, σ = [some (.ref a), some (.ref p1), some (.int c), some (.str (rt cs)), some (.int ((cs.count 97 : Nat) : Int)), some (.int ((lns cs : Nat) : Int)), some (.ref p9), some (.ref pd), some (.ref pp), some (.str (rt o)), some (.ref pz), y11, y12] ∧ Same H16 H17 ∧ PA C H17 pz (Rat.divInt (((((cms o o.length).take t).map fun k => um (swp o k)).sum : Nat) : Int) ((M : Nat) : Int)))
            ⟨_, _, q2, rfl, Same.refl _, pc.same s16⟩ (fun t σ H17 _ ⟨_, _, _, _, h, _⟩ => SqL.of (h _ _ e16)) ?_ ?_
          · rintro t x σ H17 hx17 ⟨y11, y12, pz, rfl, s17', pz17⟩
            obtain ⟨k, p, hk, rfl, hpt⟩ := tups_at tp hx17
            have hkl := cms_lt (List.mem_of_getElem? hk)
            obtain ⟨pe, ve, pae⟩ := Kept.same (s136.trans s17') kp13 (swp o k) (backU o hoU k hkl)
            have dg : DGet H17 pd (.str (rt (swp o k))) (some (.ref pe)) := by
              have := DGet.k (k := Sum.inr (rt (swp o k))) ((s136.trans s17') _ _ ed13)
              rw [ve] at this
              exact this
            have hRs := rg_swp hRo hkl
            obtain ⟨dv, ez⟩ := pz17
            have hbal := balance hRo
            have hsm : (((cms o o.length).take t).map fun k => um (swp o k)).sum ≤ 4096 * 12 := by
              refine Nat.le_trans (sum_le (cms o o.length) (fun k => um (swp o k)) t) ?_
              rw [hbal]
              exact Nat.mul_le_mul (um_few hRo) (Nat.le_trans (rchg_few o o.length) hRo.hi)
            refine ⟨p, _, rfl, SqT.of (s17' _ _ hpt), rfl, _, _, rfl, _, _, rfl, rfl, ?_⟩
            refine ⟨.ref pz, rfl, pz, dv, _, rfl, ez, no_plus _, .ref pd, rfl, .str (rt (swp o k)), rfl, pd, _, rfl, dg, ?_⟩
            refine ⟨pz, pe, _, _, rfl, ⟨dv, ez⟩, pae, (zz (by omega)).mono (by decide), zz (by have := um_few hRs; omega), trivial, fun H18 p18 s18 n18 pa18 => ?_⟩
            refine ⟨_, _, p18, rfl, s17'.trans s18, ?_⟩
            rw [sum_take hk, Int.natCast_add, ← same_bottom hMM]
            exact pa18
          rintro σ H17 ⟨y11, y12, pz, rfl, s17', pz17⟩
          rw [List.take_of_length_le (by rw [hwl]; exact Nat.le_refl _), balance hRo] at pz17
          obtain ⟨po, vo, pao⟩ := Kept.same (s136.trans s17') kp13 o hoU
          have dg : DGet H17 pd (.str (rt o)) (some (.ref po)) := by
            have := DGet.k (k := Sum.inr (rt o)) ((s136.trans s17') _ _ ed13)
            rw [vo] at this
            exact this
          have pao' := pao
          obtain ⟨dq, eo⟩ := pao
          refine ⟨.ref pz, rfl, .ref pd, rfl, .str (rt o), rfl, pd, _, rfl, dg, po, dq, _, rfl, eo, no_times' _, ?_⟩
          refine ⟨.str (rt o), rfl, o, 1, rfl, hRo, .inl rfl, fun H18 p18 ws18 s18 n18 e18 tp18 => ?_⟩
          rw [show sel 1 o o.length = rchg o o.length from if_pos rfl] at tp18
          have hw18 := tups_len tp18
          have hfew := rchg_few o o.length
          have hoh := hRo.hi
          refine ⟨p18, _, rfl, .inl (SqL.of e18), ?_⟩
          rw [hw18]
          intro q3 du nq3 ndu ne3
          refine ⟨q3, du, _, 1, rfl, by decide, Nat.one_lt_two_pow (by decide), upd_same, rfl, ?_⟩
          rw [upd_upd]
          obtain ⟨s19', pq3⟩ := mk_facts (C := C) (q := Rat.divInt (((rchg o o.length).length : Nat) : Int) 1) nq3 ndu
          generalize upd (upd H18 du (.own q3)) q3 (.ins C du (pf (Rat.divInt (((rchg o o.length).length : Nat) : Int) 1))) = H19 at s19' pq3
          have s1719 := s18.trans s19'
          refine ⟨po, q3, _, _, rfl, pao'.same s1719, pq3, (zz (by have := um_few hRo; omega)).mono (by decide), sz_divInt (by decide) (by rw [Int.natAbs_natCast]; exact few_pow (by omega)) (Nat.one_lt_two_pow (by decide)), trivial, fun H20 p20 s20 n20 pa20 => ?_⟩
          have pa20 : PA C H20 p20 (Rat.divInt ((um o : Nat) : Int) ((M : Nat) : Int) * Rat.divInt (((rchg o o.length).length : Nat) : Int) 1) := pa20
          rw [times_whole hMM, ← Int.natCast_mul] at pa20
          obtain ⟨d1', e1'⟩ := pz17.same (s1719.trans s20)
          obtain ⟨d2', e2'⟩ := pa20
          refine ⟨pz, p20, d1', d2', _, _, rfl, rfl, e1', e2', ⟨pz, p20, _, _, rfl, ⟨d1', e1'⟩, ⟨d2', e2'⟩, _, rfl, ?_⟩⟩
          rw [decide_eq_true rfl]
          exact ⟨_, rfl, iteF ⟨_, _, _, _, rfl, s136.trans (s17'.trans (s1719.trans s20))⟩⟩
        · rintro σ H14 ⟨y9, y10, y11, y12, rfl, s14⟩
          exact ⟨_, _, _, _, _, _, _, _, _, _, _, rfl, s19.trans (s913.trans s14)⟩
      · rintro σ H2 ⟨y2, y3, y4, y5, y6, y7, y8, y9, y10, y11, y12, rfl, s2⟩
        exact q _
    refine ⟨_, pss_cons (ps_set (i := 1) nd rfl (.inl rfl) (pe_slice sl_list (pv 0) po_none (po_some pe_int)))
      (pss_cons (ps_if (pt_cmpR (op_eqD hu64) (pv 1) (pe_lst pa_nil) (nomark _)) (pss_one (ps_set (i := 1) nd rfl (.inl rfl) (pe_lst (pa_cons pe_int pa_nil)))) pss_nil) pL), ?_⟩
    obtain ⟨zs, ez, hzl⟩ := cut_ints ns 8 hlen
    refine ⟨.ref a, rfl, 8, rfl, a, _, rfl, hS, fun p np => ?_⟩
    rw [ez]
    refine ⟨.ref p, rfl, Nat.zero_le _, fun p2 n2 => ?_⟩
    have npp : p ≠ p2 := fun e => by
      rw [← e, upd_same] at n2
      cases n2
    refine ⟨.list (dis zs), .list [], .lst (SqL.of (by rw [upd_ne npp, upd_same])) (dp_ints zs), .lst (SqL.of upd_same) .nil, shaped_zs zs, shaped_zs [], _, rfl, ?_⟩
    refine ite2 (fun e => ⟨(by show 1 ≤ sizeLine; decide), fun p3 n3 => ?_⟩) (fun e => ?_)
    · exact hL _ p3 [0] upd_same
    · exact hL _ p zs (by rw [upd_ne npp, upd_same])
end
end Hop

set_option Elab.async false
set_option linter.all false
set_option maxRecDepth 100000
namespace Hop
open PySem L2 HopR
open C8 (InsC call_isC)
/-! ### what the top has written -/
theorem all_mk {l : PySem.W.OpenLaw} {w : World} {K : PySem.W.Frag} {h : Heap} {mg : Str → Option Value} {fa : Addr} (X : K.In h) (G : h.Ns mainGlobals mg) (hfa : mg "law" = some (.ref fa))
    {f1 : Addr} {od1 an1 : Option Addr} {sl1 : Array (Option Value)} {oc1 kV1 dc1 pm1 cd1 ct1 : Value}
    {f2 : Addr} {od2 an2 : Option Addr} {sl2 : Array (Option Value)} {oc2 kV2 dc2 pm2 cd2 ct2 : Value}
    {f6 : Addr} {od6 an6 : Option Addr} {sl6 : Array (Option Value)} {oc6 kV6 dc6 pm6 cd6 ct6 : Value}
    {f7 : Addr} {od7 an7 : Option Addr} {sl7 : Array (Option Value)} {oc7 kV7 dc7 pm7 cd7 ct7 : Value}
    {f8 : Addr} {od8 an8 : Option Addr} {sl8 : Array (Option Value)} {oc8 kV8 dc8 pm8 cd8 ct8 : Value}
    {f9 : Addr} {od9 an9 : Option Addr} {sl9 : Array (Option Value)} {oc9 kV9 dc9 pm9 cd9 ct9 : Value}
    {f13 : Addr} {od13 an13 : Option Addr} {sl13 : Array (Option Value)} {oc13 kV13 dc13 pm13 cd13 ct13 : Value}
    {f14 : Addr} {od14 an14 : Option Addr} {sl14 : Array (Option Value)} {oc14 kV14 dc14 pm14 cd14 ct14 : Value}
    {fx1 : Addr} {odx1 anx1 : Option Addr} {slx1 : Array (Option Value)} {ocx1 kVx1 dcx1 pmx1 cdx1 ctx1 : Value}
    {fx2 : Addr} {odx2 anx2 : Option Addr} {slx2 : Array (Option Value)} {ocx2 kVx2 dcx2 pmx2 cdx2 ctx2 : Value}
    {fz1 : Addr} {odz1 anz1 : Option Addr} {slz1 : Array (Option Value)} {ocz1 kVz1 dcz1 pmz1 cdz1 ctz1 : Value}
    {fw : Addr} {odw anw : Option Addr} {slw : Array (Option Value)} {ocw kVw dcw pmw cdw ctw : Value}
    {fr : Addr} {odr anr : Option Addr} {slr : Array (Option Value)} {ocr kVr dcr pmr cdr ctr : Value}
    {fc1 : Addr} {odc1 anc1 : Option Addr} {slc1 : Array (Option Value)} {occ1 kVc1 dcc1 pmc1 cdc1 ctc1 : Value}
    {fv1 : Addr} {odv1 anv1 : Option Addr} {slv1 : Array (Option Value)} {ocv1 kVv1 dcv1 pmv1 cdv1 ctv1 : Value}
    {fp1 : Addr} {odp1 anp1 : Option Addr} {slp1 : Array (Option Value)} {ocp1 kVp1 dcp1 pmp1 cdp1 ctp1 : Value}
    {fl1 : Addr} {odl1 anl1 : Option Addr} {sll1 : Array (Option Value)} {ocl1 kVl1 dcl1 pml1 cdl1 ctl1 : Value}
    {fa1 : Addr} {oda1 ana1 : Option Addr} {sla1 : Array (Option Value)} {oca1 kVa1 dca1 pma1 cda1 cta1 : Value}
    {fk1 : Addr} {odk1 ank1 : Option Addr} {slk1 : Array (Option Value)} {ock1 kVk1 dck1 pmk1 cdk1 ctk1 : Value}
    {fq1 : Addr} {odq1 anq1 : Option Addr} {slq1 : Array (Option Value)} {ocq1 kVq1 dcq1 pmq1 cdq1 ctq1 : Value}
    {fu1 : Addr} {odu1 anu1 : Option Addr} {slu1 : Array (Option Value)} {ocu1 kVu1 dcu1 pmu1 cdu1 ctu1 : Value}
    {fL : Addr} {odL anL : Option Addr} {slL : Array (Option Value)} {ocL kVL dcL pmL cdL ctL : Value}
    {tf0 : Tok}
    {ts0 : Tok}
    {tl0 : Tok}
    {tm0 : Tok}
    {d : Addr} {es : Array DictEntry} {n : Nat} {tva tvb tvf : Tok}
    {C : Addr}
    {fmp : Addr} {odmp anmp : Option Addr} {slmp : Array (Option Value)} {ocmp kVmp dcmp pmmp cdmp ctmp : Value}
    {fmt : Addr} {odmt anmt : Option Addr} {slmt : Array (Option Value)} {ocmt kVmt dcmt pmmt cdmt ctmt : Value}
    {fmx : Addr} {odmx anmx : Option Addr} {slmx : Array (Option Value)} {ocmx kVmx dcmx pmmx cdmx ctmx : Value}
    {nmC qC : Str} {NC : Addr} {bsC subC : List Value} {hdC abC : Bool} {snC : List Str} {colC : Option Bool} {ddC : Option Addr} {x0 x1 x2 x3 x5 : Option Value} {nwC : String}
    {fi Ti : Addr} {odi ani oTi : Option Addr} {sli sTi : Array (Option Value)} {oci kVi dci pmi cdi cti cTi : Value} {nTi : Nat}
    {tki0 : Tok}
    (a1 : PySem.W.nsIn K mainGlobals "is_ring" = some (some (.ref f1))) (l1 : K.lookup f1 = some ⟨oc1, od1, .func (PySem.W.fnOf "is_ring" "is_ring" (defArgs sIsRing) (defBody sIsRing) (defScope sIsRing) .none kV1 dc1 pm1 an1 cd1 ct1), sl1⟩) (c1 : PySem.W.codeIn K cd1 "is_ring" = true) (k1 : PySem.W.keepIn K (.ref f1) = true)
    (a2 : PySem.W.nsIn K mainGlobals "need_ring" = some (some (.ref f2))) (l2 : K.lookup f2 = some ⟨oc2, od2, .func (PySem.W.fnOf "need_ring" "need_ring" (defArgs sNeedRing) (defBody sNeedRing) (defScope sNeedRing) .none kV2 dc2 pm2 an2 cd2 ct2), sl2⟩) (c2 : PySem.W.codeIn K cd2 "need_ring" = true) (k2 : PySem.W.keepIn K (.ref f2) = true)
    (a6 : PySem.W.nsIn K mainGlobals "with_upper" = some (some (.ref f6))) (l6 : K.lookup f6 = some ⟨oc6, od6, .func (PySem.W.fnOf "with_upper" "with_upper" (defArgs sWup) (defBody sWup) (defScope sWup) .none kV6 dc6 pm6 an6 cd6 ct6), sl6⟩) (c6 : PySem.W.codeIn K cd6 "with_upper" = true) (k6 : PySem.W.keepIn K (.ref f6) = true)
    (a7 : PySem.W.nsIn K mainGlobals "past" = some (some (.ref f7))) (l7 : K.lookup f7 = some ⟨oc7, od7, .func (PySem.W.fnOf "past" "past" (defArgs sPast) (defBody sPast) (defScope sPast) .none kV7 dc7 pm7 an7 cd7 ct7), sl7⟩) (c7 : PySem.W.codeIn K cd7 "past" = true) (k7 : PySem.W.keepIn K (.ref f7) = true)
    (a8 : PySem.W.nsIn K mainGlobals "choices" = some (some (.ref f8))) (l8 : K.lookup f8 = some ⟨oc8, od8, .func (PySem.W.fnOf "choices" "choices" (defArgs sChoices) (defBody sChoices) (defScope sChoices) .none kV8 dc8 pm8 an8 cd8 ct8), sl8⟩) (c8 : PySem.W.codeIn K cd8 "choices" = true) (k8 : PySem.W.keepIn K (.ref f8) = true)
    (a9 : PySem.W.nsIn K mainGlobals "uppers_many" = some (some (.ref f9))) (l9 : K.lookup f9 = some ⟨oc9, od9, .func (PySem.W.fnOf "uppers_many" "uppers_many" (defArgs sUppers) (defBody sUppers) (defScope sUppers) .none kV9 dc9 pm9 an9 cd9 ct9), sl9⟩) (c9 : PySem.W.codeIn K cd9 "uppers_many" = true) (k9 : PySem.W.keepIn K (.ref f9) = true)
    (a13 : PySem.W.nsIn K mainGlobals "ring_weight" = some (some (.ref f13))) (l13 : K.lookup f13 = some ⟨oc13, od13, .func (PySem.W.fnOf "ring_weight" "ring_weight" (defArgs sWeight) (defBody sWeight) (defScope sWeight) .none kV13 dc13 pm13 an13 cd13 ct13), sl13⟩) (c13 : PySem.W.codeIn K cd13 "ring_weight" = true) (k13 : PySem.W.keepIn K (.ref f13) = true)
    (a14 : PySem.W.nsIn K mainGlobals "ring_chance" = some (some (.ref f14))) (l14 : K.lookup f14 = some ⟨oc14, od14, .func (PySem.W.fnOf "ring_chance" "ring_chance" (defArgs sChance) (defBody sChance) (defScope sChance) .none kV14 dc14 pm14 an14 cd14 ct14), sl14⟩) (c14 : PySem.W.codeIn K cd14 "ring_chance" = true) (k14 : PySem.W.keepIn K (.ref f14) = true)
    (ax1 : PySem.W.nsIn K mainGlobals "is_whole" = some (some (.ref fx1))) (lx1 : K.lookup fx1 = some ⟨ocx1, odx1, .func (PySem.W.fnOf "is_whole" "is_whole" (defArgs sIsWhole) (defBody sIsWhole) (defScope sIsWhole) .none kVx1 dcx1 pmx1 anx1 cdx1 ctx1), slx1⟩) (cx1 : PySem.W.codeIn K cdx1 "is_whole" = true) (kx1 : PySem.W.keepIn K (.ref fx1) = true)
    (ax2 : PySem.W.nsIn K mainGlobals "common_divisor" = some (some (.ref fx2))) (lx2 : K.lookup fx2 = some ⟨ocx2, odx2, .func (PySem.W.fnOf "common_divisor" "common_divisor" (defArgs sDivisor) (defBody sDivisor) (defScope sDivisor) .none kVx2 dcx2 pmx2 anx2 cdx2 ctx2), slx2⟩) (cx2 : PySem.W.codeIn K cdx2 "common_divisor" = true) (kx2 : PySem.W.keepIn K (.ref fx2) = true)
    (az1 : PySem.W.nsIn K mainGlobals "lowest" = some (some (.ref fz1))) (lz1 : K.lookup fz1 = some ⟨ocz1, odz1, .func (PySem.W.fnOf "lowest" "lowest" (defArgs sLowest) (defBody sLowest) (defScope sLowest) .none kVz1 dcz1 pmz1 anz1 cdz1 ctz1), slz1⟩) (cz1 : PySem.W.codeIn K cdz1 "lowest" = true) (kz1 : PySem.W.keepIn K (.ref fz1) = true)
    (aw : PySem.W.nsIn K mainGlobals "_law_drawn" = some (some (.ref fw))) (lw : K.lookup fw = some ⟨ocw, odw, .func (PySem.W.fnOf "_law_drawn" "_law_drawn" (defArgs sDrawn) (defBody sDrawn) (defScope sDrawn) .none kVw dcw pmw anw cdw ctw), slw⟩) (cw : PySem.W.codeIn K cdw "_law_drawn" = true) (kw : PySem.W.keepIn K (.ref fw) = true)
    (ar : PySem.W.nsIn K mainGlobals "_law_ring" = some (some (.ref fr))) (lr : K.lookup fr = some ⟨ocr, odr, .func (PySem.W.fnOf "_law_ring" "_law_ring" (defArgs sLRing) (defBody sLRing) (defScope sLRing) .none kVr dcr pmr anr cdr ctr), slr⟩) (cr : PySem.W.codeIn K cdr "_law_ring" = true) (kr : PySem.W.keepIn K (.ref fr) = true)
    (ac1 : PySem.W.nsIn K mainGlobals "_law_choose" = some (some (.ref fc1))) (lc1 : K.lookup fc1 = some ⟨occ1, odc1, .func (PySem.W.fnOf "_law_choose" "_law_choose" (defArgs sChoose) (defBody sChoose) (defScope sChoose) .none kVc1 dcc1 pmc1 anc1 cdc1 ctc1), slc1⟩) (cc1 : PySem.W.codeIn K cdc1 "_law_choose" = true) (kc1 : PySem.W.keepIn K (.ref fc1) = true)
    (av1 : PySem.W.nsIn K mainGlobals "_law_whole" = some (some (.ref fv1))) (lv1 : K.lookup fv1 = some ⟨ocv1, odv1, .func (PySem.W.fnOf "_law_whole" "_law_whole" (defArgs sWhole) (defBody sWhole) (defScope sWhole) .none kVv1 dcv1 pmv1 anv1 cdv1 ctv1), slv1⟩) (cv1 : PySem.W.codeIn K cdv1 "_law_whole" = true) (kv1 : PySem.W.keepIn K (.ref fv1) = true)
    (ap1 : PySem.W.nsIn K mainGlobals "_law_is_part" = some (some (.ref fp1))) (lp1 : K.lookup fp1 = some ⟨ocp1, odp1, .func (PySem.W.fnOf "_law_is_part" "_law_is_part" (defArgs sIsPart) (defBody sIsPart) (defScope sIsPart) .none kVp1 dcp1 pmp1 anp1 cdp1 ctp1), slp1⟩) (cp1 : PySem.W.codeIn K cdp1 "_law_is_part" = true) (kp1 : PySem.W.keepIn K (.ref fp1) = true)
    (al1 : PySem.W.nsIn K mainGlobals "_law_low" = some (some (.ref fl1))) (ll1 : K.lookup fl1 = some ⟨ocl1, odl1, .func (PySem.W.fnOf "_law_low" "_law_low" (defArgs sLow) (defBody sLow) (defScope sLow) .none kVl1 dcl1 pml1 anl1 cdl1 ctl1), sll1⟩) (cl1 : PySem.W.codeIn K cdl1 "_law_low" = true) (kl1 : PySem.W.keepIn K (.ref fl1) = true)
    (aa1 : PySem.W.nsIn K mainGlobals "_law_all_rings" = some (some (.ref fa1))) (la1 : K.lookup fa1 = some ⟨oca1, oda1, .func (PySem.W.fnOf "_law_all_rings" "_law_all_rings" (defArgs sAll) (defBody sAll) (defScope sAll) .none kVa1 dca1 pma1 ana1 cda1 cta1), sla1⟩) (ca1 : PySem.W.codeIn K cda1 "_law_all_rings" = true) (ka1 : PySem.W.keepIn K (.ref fa1) = true)
    (ak1 : PySem.W.nsIn K mainGlobals "_law_rank" = some (some (.ref fk1))) (lk1 : K.lookup fk1 = some ⟨ock1, odk1, .func (PySem.W.fnOf "_law_rank" "_law_rank" (defArgs sLRank) (defBody sLRank) (defScope sLRank) .none kVk1 dck1 pmk1 ank1 cdk1 ctk1), slk1⟩) (ck1 : PySem.W.codeIn K cdk1 "_law_rank" = true) (kk1 : PySem.W.keepIn K (.ref fk1) = true)
    (aq1 : PySem.W.nsIn K mainGlobals "_law_swapped" = some (some (.ref fq1))) (lq1 : K.lookup fq1 = some ⟨ocq1, odq1, .func (PySem.W.fnOf "_law_swapped" "_law_swapped" (defArgs sLSwap) (defBody sLSwap) (defScope sLSwap) .none kVq1 dcq1 pmq1 anq1 cdq1 ctq1), slq1⟩) (cq1 : PySem.W.codeIn K cdq1 "_law_swapped" = true) (kq1 : PySem.W.keepIn K (.ref fq1) = true)
    (au1 : PySem.W.nsIn K mainGlobals "_law_steps" = some (some (.ref fu1))) (lu1 : K.lookup fu1 = some ⟨ocu1, odu1, .func (PySem.W.fnOf "_law_steps" "_law_steps" (defArgs sLSteps) (defBody sLSteps) (defScope sLSteps) .none kVu1 dcu1 pmu1 anu1 cdu1 ctu1), slu1⟩) (cu1 : PySem.W.codeIn K cdu1 "_law_steps" = true) (ku1 : PySem.W.keepIn K (.ref fu1) = true)
    (aL : PySem.W.nsIn K mainGlobals "law" = some (some (.ref fL))) (lL : K.lookup fL = some ⟨ocL, odL, .func (PySem.W.fnOf "law" "law" (defArgs sLaw) (defBody sLaw) (defScope sLaw) .none kVL dcL pmL anL cdL ctL), slL⟩) (cL : PySem.W.codeIn K cdL "law" = true) (kL : PySem.W.keepIn K (.ref fL) = true)
    (z0 : PySem.W.nsIn K mainGlobals "len" = some none)
    (z1 : PySem.W.nsIn K mainGlobals "range" = some none)
    (z2 : PySem.W.nsIn K mainGlobals "all" = some none)
    (z3 : PySem.W.nsIn K mainGlobals "isinstance" = some none)
    (z4 : PySem.W.nsIn K mainGlobals "str" = some none)
    (z5 : PySem.W.nsIn K mainGlobals "bool" = some none)
    (z6 : PySem.W.nsIn K mainGlobals "list" = some none)
    (z7 : PySem.W.nsIn K mainGlobals "zip" = some none)
    (z8 : PySem.W.nsIn K mainGlobals "reversed" = some none)
    (z9 : PySem.W.nsIn K mainGlobals "sum" = some none)
    (z10 : PySem.W.nsIn K mainGlobals "enumerate" = some none)
    (z11 : PySem.W.nsIn K mainGlobals "int" = some none)
    (z12 : PySem.W.nsIn K mainGlobals "abs" = some none)
    (z13 : PySem.W.nsIn K mainGlobals "max" = some none)
    (gf0 : PySem.W.nsIn K mainGlobals "FIRST" = some (some (.str "a" tf0)))
    (gs0 : PySem.W.nsIn K mainGlobals "SECOND" = some (some (.str "b" ts0)))
    (gl0 : PySem.W.nsIn K mainGlobals "LEAST_IN_RING" = some (some (.int 2 tl0)))
    (gm0 : PySem.W.nsIn K mainGlobals "MOST_IN_RING" = some (some (.int 12 tm0)))
    (gd : PySem.W.nsIn K mainGlobals "RANK" = some (some (.ref d)))
    (ld : K.lookup d = some ⟨.type "dict", none, .dict es n, #[]⟩)
    (kd : PySem.W.KeysLit w.params es.toList)
    (sd : (d == sysModules) = false)
    (ke : es.toList.map (fun e => keyText e.key) = [some ("a" : Str), some ("b" : Str), some ("." : Str)])
    (va : PySem.W.nsIn K d "a" = some (some (.int 2 tva)))
    (vb : PySem.W.nsIn K d "b" = some (some (.int 1 tvb)))
    (vf : PySem.W.nsIn K d "." = some (some (.int 0 tvf)))
    (gC : PySem.W.nsIn K mainGlobals "Part" = some (some (.ref C)))
    (C_pg : PySem.W.plainGet K C Str.empty = true)
    (C_hd : PySem.W.hasDictIn K C = true)
    (C_po : PySem.W.plainOver K C = true)
    (C_sa : PySem.W.findIn K (.ref C) "__setattr__" = some (some (.builtin "object.__setattr__")))
    (C_mk : PySem.W.makesIn K C = true)
    (C_kc : PySem.W.keepIn K (.ref C) = true)
    (C_ha : PySem.W.findIn K (.ref C) "__class__" = some (some (.builtin "object.__class__")))
    (C_hm : PySem.W.mroIn K C (.type "object") = some true)
    (q_hn : PySem.W.specialIn K (.builtin "object.__class__") "__get__" = some (some (.builtin "getset_descriptor.__get__")))
    (q_htk : PySem.W.takesIn K (.builtin "object.__class__") = some true)
    (C_n_top : PySem.W.findIn K (.ref C) "top" = some none)
    (C_n_bottom : PySem.W.findIn K (.ref C) "bottom" = some none)
    (mmp : PySem.W.findIn K (.ref C) "plus" = some (some (.ref fmp)))
    (nmp : PySem.W.isFn K (.ref fmp) = true)
    (lmp : K.lookup fmp = some ⟨ocmp, odmp, .func (PySem.W.fnOf "plus" "Part.plus" (defArgs sPlus) (defBody sPlus) (defScope sPlus) .none kVmp dcmp pmmp anmp cdmp ctmp), slmp⟩)
    (cmp : PySem.W.codeIn K cdmp "Part.plus" = true)
    (kmp : PySem.W.keepIn K (.ref fmp) = true)
    (mmt : PySem.W.findIn K (.ref C) "times" = some (some (.ref fmt)))
    (nmt : PySem.W.isFn K (.ref fmt) = true)
    (lmt : K.lookup fmt = some ⟨ocmt, odmt, .func (PySem.W.fnOf "times" "Part.times" (defArgs sTimes) (defBody sTimes) (defScope sTimes) .none kVmt dcmt pmmt anmt cdmt ctmt), slmt⟩)
    (cmt : PySem.W.codeIn K cdmt "Part.times" = true)
    (kmt : PySem.W.keepIn K (.ref fmt) = true)
    (mmx : PySem.W.findIn K (.ref C) "__eq__" = some (some (.ref fmx)))
    (nmx : PySem.W.isFn K (.ref fmx) = true)
    (lmx : K.lookup fmx = some ⟨ocmx, odmx, .func (PySem.W.fnOf "__eq__" "Part.__eq__" (defArgs sEq) (defBody sEq) (defScope sEq) .none kVmx dcmx pmmx anmx cdmx ctmx), slmx⟩)
    (cmx : PySem.W.codeIn K cdmx "Part.__eq__" = true)
    (kmx : PySem.W.keepIn K (.ref fmx) = true)
    (eqK : K.lookup C = some (excClassObj nmC qC C NC bsC [.type "object"] hdC snC subC abC colC ddC x0 x1 x2 x3 x5 nwC))
    (eqO : PySem.W.nsOkIn K NC = true)
    (eqE : PySem.W.nsIn K NC "__eq__" = some (some (.ref fmx)))
    (eqN : PySem.W.nsIn K NC "__ne__" = some none)
    (ai : PySem.W.findIn K (.ref C) "__init__" = some (some (.ref fi)))
    (ni : PySem.W.isFn K (.ref fi) = true)
    (li : K.lookup fi = some ⟨oci, odi, .func (PySem.W.fnOf "__init__" "Part.__init__" (defArgs sInit) (defBody sInit) (defScope sInit) (.ref Ti) kVi dci pmi ani cdi cti), sli⟩)
    (ci : PySem.W.codeIn K cdi "Part.__init__" = true)
    (ki : PySem.W.keepIn K (.ref fi) = true)
    (di : K.lookup Ti = some ⟨cTi, oTi, .seq #[.int 1 tki0] nTi, sTi⟩)
    : ∃ fd : FuncData, (∀ (s : Shared) (v : Value), BindsTo s fd ⟨[v], []⟩ [("_law_script", v)]) ∧ ∀ base : Heap, K.In base → base.Ns mainGlobals mg → FnOk l.prog w K mg base CX0 7 fa fd ["_law_script"] (spLaw K) := by
  have e := hfa.symm.trans (PySem.W.mg_of X G aL)
  cases e
  have F1 := fun_mk (st := sIsRing) l1 c1 k1
  have b1 := F1.binds (ps := ["thing"]) fun _ _ _ _ _ _ us hl => match us, hl with | [_], _ => rfl
  have N1 := Fn.mk (ps := ["thing"]) F1 b1 (PySem.W.mg_of X G a1)
  have F2 := fun_mk (st := sNeedRing) l2 c2 k2
  have b2 := F2.binds (ps := ["thing"]) fun _ _ _ _ _ _ us hl => match us, hl with | [_], _ => rfl
  have N2 := Fn.mk (ps := ["thing"]) F2 b2 (PySem.W.mg_of X G a2)
  have F6 := fun_mk (st := sWup) l6 c6 k6
  have b6 := F6.binds (ps := ["waiting"]) fun _ _ _ _ _ _ us hl => match us, hl with | [_], _ => rfl
  have N6 := Fn.mk (ps := ["waiting"]) F6 b6 (PySem.W.mg_of X G a6)
  have F7 := fun_mk (st := sPast) l7 c7 k7
  have b7 := F7.binds (ps := ["waiting", "sign"]) fun _ _ _ _ _ _ us hl => match us, hl with | [_, _], _ => rfl
  have N7 := Fn.mk (ps := ["waiting", "sign"]) F7 b7 (PySem.W.mg_of X G a7)
  have F8 := fun_mk (st := sChoices) l8 c8 k8
  have b8 := F8.binds (ps := ["many", "some"]) fun _ _ _ _ _ _ us hl => match us, hl with | [_, _], _ => rfl
  have N8 := Fn.mk (ps := ["many", "some"]) F8 b8 (PySem.W.mg_of X G a8)
  have F9 := fun_mk (st := sUppers) l9 c9 k9
  have b9 := F9.binds (ps := ["ring"]) fun _ _ _ _ _ _ us hl => match us, hl with | [_], _ => rfl
  have N9 := Fn.mk (ps := ["ring"]) F9 b9 (PySem.W.mg_of X G a9)
  have F13 := fun_mk (st := sWeight) l13 c13 k13
  have b13 := F13.binds (ps := ["ring"]) fun _ _ _ _ _ _ us hl => match us, hl with | [_], _ => rfl
  have N13 := Fn.mk (ps := ["ring"]) F13 b13 (PySem.W.mg_of X G a13)
  have F14 := fun_mk (st := sChance) l14 c14 k14
  have b14 := F14.binds (ps := ["ring"]) fun _ _ _ _ _ _ us hl => match us, hl with | [_], _ => rfl
  have N14 := Fn.mk (ps := ["ring"]) F14 b14 (PySem.W.mg_of X G a14)
  have Fx1 := fun_mk (st := sIsWhole) lx1 cx1 kx1
  have bx1 := Fx1.binds (ps := ["thing"]) fun _ _ _ _ _ _ us hl => match us, hl with | [_], _ => rfl
  have Nx1 := Fn.mk (ps := ["thing"]) Fx1 bx1 (PySem.W.mg_of X G ax1)
  have Fx2 := fun_mk (st := sDivisor) lx2 cx2 kx2
  have bx2 := Fx2.binds (ps := ["one", "other"]) fun _ _ _ _ _ _ us hl => match us, hl with | [_, _], _ => rfl
  have Nx2 := Fn.mk (ps := ["one", "other"]) Fx2 bx2 (PySem.W.mg_of X G ax2)
  have Fz1 := fun_mk (st := sLowest) lz1 cz1 kz1
  have bz1 := Fz1.binds (ps := ["top", "bottom"]) fun _ _ _ _ _ _ us hl => match us, hl with | [_, _], _ => rfl
  have Nz1 := Fn.mk (ps := ["top", "bottom"]) Fz1 bz1 (PySem.W.mg_of X G az1)
  have Fw := fun_mk (st := sDrawn) lw cw kw
  have bw := Fw.binds (ps := ["_law_cell", "_law_sizes"]) fun _ _ _ _ _ _ us hl => match us, hl with | [_, _], _ => rfl
  have Nw := Fn.mk (ps := ["_law_cell", "_law_sizes"]) Fw bw (PySem.W.mg_of X G aw)
  have Fr := fun_mk (st := sLRing) lr cr kr
  have br := Fr.binds (ps := ["_law_cell", "_law_most"]) fun _ _ _ _ _ _ us hl => match us, hl with | [_, _], _ => rfl
  have Nr := Fn.mk (ps := ["_law_cell", "_law_most"]) Fr br (PySem.W.mg_of X G ar)
  have Fc1 := fun_mk (st := sChoose) lc1 cc1 kc1
  have bc1 := Fc1.binds (ps := ["_law_many", "_law_some"]) fun _ _ _ _ _ _ us hl => match us, hl with | [_, _], _ => rfl
  have Nc1 := Fn.mk (ps := ["_law_many", "_law_some"]) Fc1 bc1 (PySem.W.mg_of X G ac1)
  have Fv1 := fun_mk (st := sWhole) lv1 cv1 kv1
  have bv1 := Fv1.binds (ps := ["_law_found"]) fun _ _ _ _ _ _ us hl => match us, hl with | [_], _ => rfl
  have Nv1 := Fn.mk (ps := ["_law_found"]) Fv1 bv1 (PySem.W.mg_of X G av1)
  have Fp1 := fun_mk (st := sIsPart) lp1 cp1 kp1
  have bp1 := Fp1.binds (ps := ["_law_found", "_law_due"]) fun _ _ _ _ _ _ us hl => match us, hl with | [_, _], _ => rfl
  have Np1 := Fn.mk (ps := ["_law_found", "_law_due"]) Fp1 bp1 (PySem.W.mg_of X G ap1)
  have Fl1 := fun_mk (st := sLow) ll1 cl1 kl1
  have bl1 := Fl1.binds (ps := ["_law_top", "_law_bottom"]) fun _ _ _ _ _ _ us hl => match us, hl with | [_, _], _ => rfl
  have Nl1 := Fn.mk (ps := ["_law_top", "_law_bottom"]) Fl1 bl1 (PySem.W.mg_of X G al1)
  have Fa1 := fun_mk (st := sAll) la1 ca1 ka1
  have ba1 := Fa1.binds (ps := ["_law_ring_here"]) fun _ _ _ _ _ _ us hl => match us, hl with | [_], _ => rfl
  have Na1 := Fn.mk (ps := ["_law_ring_here"]) Fa1 ba1 (PySem.W.mg_of X G aa1)
  have Fk1 := fun_mk (st := sLRank) lk1 ck1 kk1
  have bk1 := Fk1.binds (ps := ["_law_sign"]) fun _ _ _ _ _ _ us hl => match us, hl with | [_], _ => rfl
  have Nk1 := Fn.mk (ps := ["_law_sign"]) Fk1 bk1 (PySem.W.mg_of X G ak1)
  have Fq1 := fun_mk (st := sLSwap) lq1 cq1 kq1
  have bq1 := Fq1.binds (ps := ["_law_ring_here", "_law_place"]) fun _ _ _ _ _ _ us hl => match us, hl with | [_, _], _ => rfl
  have Nq1 := Fn.mk (ps := ["_law_ring_here", "_law_place"]) Fq1 bq1 (PySem.W.mg_of X G aq1)
  have Fu1 := fun_mk (st := sLSteps) lu1 cu1 ku1
  have bu1 := Fu1.binds (ps := ["_law_ring_here", "_law_sign"]) fun _ _ _ _ _ _ us hl => match us, hl with | [_, _], _ => rfl
  have Nu1 := Fn.mk (ps := ["_law_ring_here", "_law_sign"]) Fu1 bu1 (PySem.W.mg_of X G au1)
  have y0 := PySem.W.mg_none_of X G z0
  have y1 := PySem.W.mg_none_of X G z1
  have y2 := PySem.W.mg_none_of X G z2
  have y3 := PySem.W.mg_none_of X G z3
  have y4 := PySem.W.mg_none_of X G z4
  have y5 := PySem.W.mg_none_of X G z5
  have y6 := PySem.W.mg_none_of X G z6
  have y7 := PySem.W.mg_none_of X G z7
  have y8 := PySem.W.mg_none_of X G z8
  have y9 := PySem.W.mg_none_of X G z9
  have y10 := PySem.W.mg_none_of X G z10
  have y11 := PySem.W.mg_none_of X G z11
  have y12 := PySem.W.mg_none_of X G z12
  have y13 := PySem.W.mg_none_of X G z13
  have wf0 := PySem.W.mg_of X G gf0
  have ws0 := PySem.W.mg_of X G gs0
  have wl0 := PySem.W.mg_of X G gl0
  have wm0 := PySem.W.mg_of X G gm0
  have CLC : Cls K C := ⟨C_pg, C_hd, C_po, C_sa⟩
  have ICC : C8.InsC K C := ⟨CLC, C_ha, q_hn, q_htk, C_hm, kit_me⟩
  have Fmp := fun_mk (st := sPlus) lmp cmp kmp
  have bmp := Fmp.binds (ps := ["self", "other"]) fun _ _ _ _ _ _ us hl => match us, hl with | [_, _], _ => rfl
  have Fmt := fun_mk (st := sTimes) lmt cmt kmt
  have bmt := Fmt.binds (ps := ["self", "other"]) fun _ _ _ _ _ _ us hl => match us, hl with | [_, _], _ => rfl
  have Fmx := fun_mk (st := sEq) lmx cmx kmx
  have bmx := Fmx.binds (ps := ["self", "other"]) fun _ _ _ _ _ _ us hl => match us, hl with | [_, _], _ => rfl
  have Fi : FunD K "__init__" "Part.__init__" (defArgs sInit) (defBody sInit) (defScope sInit) [.int 1] [] fi _ := ⟨⟨oci, odi, _, _, _, _, _, _, _, sli, rfl, li, ci, .inr ⟨by simp, Ti, _, [.int 1 tki0], nTi, rfl, di, rfl, .cons (⟨_, rfl⟩) .nil⟩, .inl rfl⟩, ki⟩
  obtain ⟨dsi3, rri3, bi3⟩ := Fi.binds1 (ps := ["self", "top", "bottom"]) 3 1 (by simp) rfl (fun T kV doc pm an cdv ct us its hl hi => match us, its, hl, hi with | [_, _, _], [_], _, _ => ⟨_, rfl, rfl⟩)
  obtain rfl : dsi3 = [] := by cases rri3; rfl
  obtain ⟨dsi2, rri2, bi2⟩ := Fi.binds1 (ps := ["self", "top", "bottom"]) 2 0 (by simp) rfl (fun T kV doc pm an cdv ct us its hl hi => match us, its, hl, hi with | [_, _], [_], _, _ => ⟨_, rfl, rfl⟩)
  obtain ⟨d1i, rfl, r1i⟩ : ∃ d1, dsi2 = [d1] ∧ RelV (.int 1) d1 := by
    cases rri2 with
    | cons r rr =>
      cases rr
      exact ⟨_, rfl, r⟩
  have TP : TxtP K mg C := ⟨y0, y1, y12, y3, y11, y5, ICC, C_n_top, C_n_bottom, PySem.W.mg_of X G gC⟩
  have MK : Mks K mg C fi fx1 fx2 _ _ _ d1i := ⟨⟨C_mk, ai, ni, C_kc⟩, Fi, bi3, bi2, r1i, Nx1, Nx2⟩
  have EC : EqC K C fmx := ⟨mmx, nmx, _, _, _, _, _, _, _, _, _, _, _, _, _, _, _, _, eqK, eqO, eqE, eqN⟩
  have T : Txt K w mg d es n := ⟨y0, y1, y2, y3, y4, y5, y6, y7, y8, y9, y10, y11, ⟨_, wf0⟩, ⟨_, ws0⟩, ⟨_, wl0⟩, ⟨_, wm0⟩, PySem.W.mg_of X G gd, ⟨ld, kd, sd⟩, (by rw [ke, sgn_a, sgn_b, sgn_f]; rfl), ⟨_, va⟩, ⟨_, vb⟩, ⟨_, vf⟩⟩
  exact ⟨PySem.W.fnOf "law" "law" (defArgs sLaw) (defBody sLaw) (defScope sLaw) .none kVL dcL pmL anL cdL ctL, fun s v => .of_eq rfl, fun base _ _ => ok_law (fun_mk (st := sLaw) lL cL kL) ⟨N1, N2, N6, N7, N8, N9, N13, N14, MK, Nz1, Fmp, bmp, ⟨mmp, nmp, kmp⟩, Fmt, bmt, ⟨mmt, nmt, kmt⟩, Fmx, bmx, EC, Nw, Nr, Nc1, Nv1, Np1, Nl1, Na1, Nk1, Nq1, Nu1⟩ T TP y13⟩
end Hop
open PySem PySem.W PyProof.Rows in
set_option maxRecDepth 100000 in
set_option maxHeartbeats 0 in
theorem PySem.Challenge.cw_hopline_k81_ring_chances_holds : PySem.Challenge.rw_hopline_k81_ring_chances.Holds := by
  w_on; o_law; k_head; (case hw => w_witness2)
  k_fill
  refine L2.walk_of (l := PySem.Challenge.rw_hopline_k81_ring_chances) (n := 63) (k := 7) (x := "_law_script") (CX := fun _ => L2.CX0) (sp := fun w => Hop.spLaw _) rfl (by decide) rfl ⟨rfl, by decide, by decide⟩ (fun w h Y => PySem.W.kIn_of Y) ?F (fun _ _ a ns hl _ hS => ⟨a, ns, rfl, hS, hl, fun _ => rfl⟩) (fun _ _ _ _ _ h => h)
  case F =>
    intro w mg fa h KX G hmg
    refine' Hop.all_mk KX G hmg ?u_a1 ?u_l1 ?u_c1 ?u_k1 ?u_a2 ?u_l2 ?u_c2 ?u_k2 ?u_a6 ?u_l6 ?u_c6 ?u_k6 ?u_a7 ?u_l7 ?u_c7 ?u_k7 ?u_a8 ?u_l8 ?u_c8 ?u_k8 ?u_a9 ?u_l9 ?u_c9 ?u_k9 ?u_a13 ?u_l13 ?u_c13 ?u_k13 ?u_a14 ?u_l14 ?u_c14 ?u_k14 ?u_ax1 ?u_lx1 ?u_cx1 ?u_kx1 ?u_ax2 ?u_lx2 ?u_cx2 ?u_kx2 ?u_az1 ?u_lz1 ?u_cz1 ?u_kz1 ?u_aw ?u_lw ?u_cw ?u_kw ?u_ar ?u_lr ?u_cr ?u_kr ?u_ac1 ?u_lc1 ?u_cc1 ?u_kc1 ?u_av1 ?u_lv1 ?u_cv1 ?u_kv1 ?u_ap1 ?u_lp1 ?u_cp1 ?u_kp1 ?u_al1 ?u_ll1 ?u_cl1 ?u_kl1 ?u_aa1 ?u_la1 ?u_ca1 ?u_ka1 ?u_ak1 ?u_lk1 ?u_ck1 ?u_kk1 ?u_aq1 ?u_lq1 ?u_cq1 ?u_kq1 ?u_au1 ?u_lu1 ?u_cu1 ?u_ku1 ?u_aL ?u_lL ?u_cL ?u_kL ?u_z0 ?u_z1 ?u_z2 ?u_z3 ?u_z4 ?u_z5 ?u_z6 ?u_z7 ?u_z8 ?u_z9 ?u_z10 ?u_z11 ?u_z12 ?u_z13 ?u_gf0 ?u_gs0 ?u_gl0 ?u_gm0 ?u_gd ?u_ld ?u_kd ?u_sd ?u_ke ?u_va ?u_vb ?u_vf ?u_gC ?u_C_pg ?u_C_hd ?u_C_po ?u_C_sa ?u_C_mk ?u_C_kc ?u_C_ha ?u_C_hm ?u_q_hn ?u_q_htk ?u_C_n_top ?u_C_n_bottom ?u_mmp ?u_nmp ?u_lmp ?u_cmp ?u_kmp ?u_mmt ?u_nmt ?u_lmt ?u_cmt ?u_kmt ?u_mmx ?u_nmx ?u_lmx ?u_cmx ?u_kmx ?u_eqK ?u_eqO ?u_eqE ?u_eqN ?u_ai ?u_ni ?u_li ?u_ci ?u_ki ?u_di
    (case u_a1 => k_is)
    (case u_l1 => k_is)
    (case u_c1 => k_is)
    (case u_k1 => k_is)
    (case u_a2 => k_is)
    (case u_l2 => k_is)
    (case u_c2 => k_is)
    (case u_k2 => k_is)
    (case u_a6 => k_is)
    (case u_l6 => k_is)
    (case u_c6 => k_is)
    (case u_k6 => k_is)
    (case u_a7 => k_is)
    (case u_l7 => k_is)
    (case u_c7 => k_is)
    (case u_k7 => k_is)
    (case u_a8 => k_is)
    (case u_l8 => k_is)
    (case u_c8 => k_is)
    (case u_k8 => k_is)
    (case u_a9 => k_is)
    (case u_l9 => k_is)
    (case u_c9 => k_is)
    (case u_k9 => k_is)
    (case u_a13 => k_is)
    (case u_l13 => k_is)
    (case u_c13 => k_is)
    (case u_k13 => k_is)
    (case u_a14 => k_is)
    (case u_l14 => k_is)
    (case u_c14 => k_is)
    (case u_k14 => k_is)
    (case u_ax1 => k_is)
    (case u_lx1 => k_is)
    (case u_cx1 => k_is)
    (case u_kx1 => k_is)
    (case u_ax2 => k_is)
    (case u_lx2 => k_is)
    (case u_cx2 => k_is)
    (case u_kx2 => k_is)
    (case u_az1 => k_is)
    (case u_lz1 => k_is)
    (case u_cz1 => k_is)
    (case u_kz1 => k_is)
    (case u_aw => k_is)
    (case u_lw => k_is)
    (case u_cw => k_is)
    (case u_kw => k_is)
    (case u_ar => k_is)
    (case u_lr => k_is)
    (case u_cr => k_is)
    (case u_kr => k_is)
    (case u_ac1 => k_is)
    (case u_lc1 => k_is)
    (case u_cc1 => k_is)
    (case u_kc1 => k_is)
    (case u_av1 => k_is)
    (case u_lv1 => k_is)
    (case u_cv1 => k_is)
    (case u_kv1 => k_is)
    (case u_ap1 => k_is)
    (case u_lp1 => k_is)
    (case u_cp1 => k_is)
    (case u_kp1 => k_is)
    (case u_al1 => k_is)
    (case u_ll1 => k_is)
    (case u_cl1 => k_is)
    (case u_kl1 => k_is)
    (case u_aa1 => k_is)
    (case u_la1 => k_is)
    (case u_ca1 => k_is)
    (case u_ka1 => k_is)
    (case u_ak1 => k_is)
    (case u_lk1 => k_is)
    (case u_ck1 => k_is)
    (case u_kk1 => k_is)
    (case u_aq1 => k_is)
    (case u_lq1 => k_is)
    (case u_cq1 => k_is)
    (case u_kq1 => k_is)
    (case u_au1 => k_is)
    (case u_lu1 => k_is)
    (case u_cu1 => k_is)
    (case u_ku1 => k_is)
    (case u_aL => k_is)
    (case u_lL => k_is)
    (case u_cL => k_is)
    (case u_kL => k_is)
    (case u_z0 => k_is)
    (case u_z1 => k_is)
    (case u_z2 => k_is)
    (case u_z3 => k_is)
    (case u_z4 => k_is)
    (case u_z5 => k_is)
    (case u_z6 => k_is)
    (case u_z7 => k_is)
    (case u_z8 => k_is)
    (case u_z9 => k_is)
    (case u_z10 => k_is)
    (case u_z11 => k_is)
    (case u_z12 => k_is)
    (case u_z13 => k_is)
    (case u_gf0 => k_is)
    (case u_gs0 => k_is)
    (case u_gl0 => k_is)
    (case u_gm0 => k_is)
    (case u_gd => k_is)
    (case u_ld => k_is)
    (case u_kd => k_keys)
    (case u_sd => decide)
    (case u_ke => rfl)
    (case u_va => k_is)
    (case u_vb => k_is)
    (case u_vf => k_is)
    (case u_gC => k_is)
    (case u_C_pg => k_is)
    (case u_C_hd => k_is)
    (case u_C_po => k_is)
    (case u_C_sa => k_is)
    (case u_C_mk => k_is)
    (case u_C_kc => k_is)
    (case u_C_ha => k_is)
    (case u_C_hm => k_is)
    (case u_q_hn => k_is)
    (case u_q_htk => k_is)
    (case u_C_n_top => k_is)
    (case u_C_n_bottom => k_is)
    (case u_mmp => k_is)
    (case u_nmp => k_is)
    (case u_lmp => k_is)
    (case u_cmp => k_is)
    (case u_kmp => k_is)
    (case u_mmt => k_is)
    (case u_nmt => k_is)
    (case u_lmt => k_is)
    (case u_cmt => k_is)
    (case u_kmt => k_is)
    (case u_mmx => k_is)
    (case u_nmx => k_is)
    (case u_lmx => k_is)
    (case u_cmx => k_is)
    (case u_kmx => k_is)
    (case u_eqK => k_is)
    (case u_eqO => first | kernel_rfl | decide +kernel | rfl)
    (case u_eqE => k_is)
    (case u_eqN => k_is)
    (case u_ai => k_is)
    (case u_ni => k_is)
    (case u_li => k_is)
    (case u_ci => k_is)
    (case u_ki => k_is)
    (case u_di => k_is)
