import PyProof.Rows.All
import Wide.All
import OpenK.AllK
import Wide.FinOn
import HandS.ForMost
import HandS.Wide
import HandS.Style
import HandS.RevTup
import HandS.Rev
import HandS.IsInst
import HandS.More
import HandS.Conv
import HandS.Defaults
import HandS.ForExc
import HandS.OwnEq
import HandS.Flow
import PyProof.ListStr
import HandS.Walk
import HandS.EndBits
import PyProof.ReprRoads
import PyProof.ReprLen
import KE.KCallOwn
import PyProof.InstNe
import HandS.Codes
import PySem.Challenge.RW_hopline_k05_whole_parts_there_and_back

set_option Elab.async false
set_option linter.all false
set_option maxRecDepth 100000
namespace HopR
open PySem PySem.Spec PyProof.Rows L2
/-! rules of my own: texts -/
/-- the signs of a text, each a text -/
def sg (z : Str) : List Str := z.cps.toList.map fun c => ⟨#[c]⟩
theorem sg_len (z : Str) : (sg z).length = z.length := by
  unfold sg
  rw [List.length_map]
  rfl
theorem sg_get {z : Str} {i : Nat} {c : Nat} (h : z.cps[i]? = some c) : (sg z)[i]? = some ⟨#[c]⟩ := by
  unfold sg
  rw [List.getElem?_map, Array.getElem?_toList, h]
  rfl
theorem strsAre_of : ∀ (vs : List Value) (ys : List Str), vs.length = ys.length → (∀ (j : Nat) (v : Value), vs[j]? = some v → ∃ y t, ys[j]? = some y ∧ v = .str y t) → StrsAre vs ys
  | [], [], _, _ => .nil
  | v :: r, y :: q, hl, h => by
    obtain ⟨y', t, e1, e2⟩ := h 0 v rfl
    have e3 : y = y' := Option.some.inj e1
    subst e3 e2
    exact .cons y t (strsAre_of r q (by simpa using hl) fun j w hw => h (j + 1) w hw)
theorem signs_are {z : Str} {acc : Array Value} (h : ItemsOf (SignAt z) acc z.cps.size) : StrsAre acc.toList (sg z) := by
  refine strsAre_of _ _ (by rw [sg_len, Array.length_toList, h.1]; rfl) fun j v hv => ?_
  obtain ⟨c, u, hc, e⟩ := h.2 j v (by rw [← Array.getElem?_toList]; exact hv)
  exact ⟨⟨#[c]⟩, u, sg_get hc, e⟩
section
variable {X : Cx}
/-- sorted(text) -/
def rSortT : List V → Hp → VK → Prop := fun vs H Q => ∃ z : Str, vs = [.str z] ∧ z.length < 64 ∧ ∀ (ys : List Str) (p : Addr), ys.Perm (sg z) → sortedS ys = true → H p = none → Q (.ref p) (upd H p (.lst (ys.map V.str)))
theorem cr_sortT (hcm : X.calm = true) : CallR X (.builtin "sorted") rSortT := by
  intro pins s σ H xs us Q I r h
  obtain ⟨z, rfl, h64, q⟩ := h
  obtain ⟨u, rfl, t, rfl⟩ := vals1 r
  refine Calls.call_function_entry kind_sorted plain_sorted entry_sorted (args_sorted1 (.str z t)) ?_
  unfold Builtin.«sorted»
  refine wpAny_bind (m := checkCount "sorted" 1 1 [Value.str z t].length) (wpAny_pure ?_)
  have hz : z.cps.size < 64 := h64
  refine wpAny_bind (wpAny_collect_str (A := X.A.in1) (show X.A.in1.handled = none from I.ok.hd hcm) z t (fun s' acc hk hg hdr hos hit => ?_) (Nat.le_trans (Nat.le_of_lt hz) (by decide)))
  have hS := signs_are hit
  have es : s' = { s with heap := s'.heap, toks := s'.toks } := by
    cases s'
    cases s
    simp only at hg hdr hos
    subst hg hdr hos
    rfl
  have hal : acc.toList.length < 64 := by rw [Array.length_toList, hit.1]; exact hz
  refine wpAny_bind (wpAny_newList ?_ (Nat.le_trans (Nat.le_of_lt hal) (by decide)))
  have hoL : (s'.heap.push (seqObj "list" acc.toList.toArray 0)).get? s'.heap.objs.size = some (seqObj "list" acc.toList.toArray 0) := Heap.get?_push_size _ rfl
  refine wpAny_bind (wpAny_holding (wpAny_call_entry slot_list_sort ⟨_, hoL, rfl⟩ entry_list_sort (list_sort_treeK strKind_oneLt hoL hS.keysOf (fun v₁ v₂ rest e => keyKind_strs (by rw [← e]; exact hS)) hal fun st' hp hs => ⟨_, rfl, ?_⟩) (args_list_sort _)))
  obtain ⟨ys, g1, g2, g3⟩ := sorted_out_str hS hp hs
  obtain ⟨ep, he'⟩ := sortedHeap_at (vs := acc.toList) (out := (arrOf st').map (·.2)) hoL
  have I1 : Inv X pins σ H s' := by
    rw [es]
    exact I.kept hk
  have hlen : (ys.map V.str).length ≤ sizeLine := by
    rw [List.length_map, g2.length_eq, sg_len]
    exact Nat.le_trans (Nat.le_of_lt h64) (by decide)
  have hne : ∀ b o, s'.heap.get? b = some o → (sortedHeap (s'.heap.push (seqObj "list" acc.toList.toArray 0)) s'.heap.objs.size acc.toList ((arrOf st').map (·.2))).get? b = some o := fun b o e => by
    rw [sortedHeap_old (Nat.ne_of_lt (Heap.lt_size e)) (by rw [size_push']; exact Nat.lt_succ_of_lt (Heap.lt_size e))]
    exact Heap.get?_push_of_some _ e
  refine wpAny_pure ⟨_, rfl, .ref _, upd H s'.heap.objs.size (.lst (ys.map V.str)), I1.laid (t' := s'.toks) hne (Nat.le_refl _) ?_, rfl, q ys _ g2 g3 (I1.hok.fresh (Nat.le_refl _))⟩
  exact ⟨hlen, ((arrOf st').map (·.2)).toList, ep, vals_of_strs g1, by rw [Array.toArray_toList]; exact he'⟩
/-- list(text) -/
def rListT : List V → Hp → VK → Prop := fun vs H Q => ∃ z : Str, vs = [.str z] ∧ z.length ≤ sizeLine ∧ ∀ p : Addr, H p = none → Q (.ref p) (upd H p (.lst ((sg z).map V.str)))
theorem cr_listT (hcm : X.calm = true) : CallR X (.type "list") rListT := by
  intro pins s σ H xs us Q I r h
  obtain ⟨z, rfl, hz, q⟩ := h
  obtain ⟨u, rfl, t, rfl⟩ := vals1 r
  refine call_list_str (I.ok.hd hcm) z t (fun h' tk acc c' hk hS' hit => ?_) hz
  refine ⟨.ref _, upd H s.heap.objs.size (.lst ((sg z).map V.str)), I.laid hk (Nat.le_refl _) ?_, rfl, q _ (I.hok.fresh (Nat.le_refl _))⟩
  exact ⟨by rw [List.length_map, sg_len]; exact hz, acc.toList, c', vals_of_strs (signs_are hit), by rw [Array.toArray_toList]; exact hS'⟩
/-- text * n -/
def repS (z : Str) (n : Nat) : Str := ⟨((List.replicate n z.cps.toList).flatten).toArray⟩
theorem foldl_app : ∀ (n : Nat) (a b : Array Nat), ((List.replicate n a).foldl (· ++ ·) b).toList = b.toList ++ (List.replicate n a.toList).flatten
  | 0, a, b => by simp
  | n + 1, a, b => by
    rw [List.replicate_succ, List.foldl_cons, foldl_app n, List.replicate_succ, List.flatten_cons, Array.toList_append, List.append_assoc]
theorem repS_len (z : Str) (k : Nat) : (repS z k).length = z.length * k := by
  show ((List.replicate k z.cps.toList).flatten).toArray.size = z.cps.size * k
  rw [List.size_toArray, List.length_flatten, List.map_replicate, List.sum_replicate_nat, Array.length_toList, Nat.mul_comm]
def rRepS : R2 := fun x y H Q => ∃ (z : Str) (k : Nat), x = .str z ∧ y = .int (k : Int) ∧ z.length * k ≤ 1000000 ∧ k ≤ 1000000 ∧ Q (.str (repS z k)) H
theorem op_repS : OpR X (binaryOp .Mult) rRepS := by
  intro pins s σ H x y v u Q I rx ry h
  obtain ⟨z, k, rfl, rfl, hz, hk, q⟩ := h
  obtain ⟨t, rfl⟩ := rx
  obtain ⟨t', rfl⟩ := ry
  refine PySem.P.mul_str ?_ ?_ ?_ ?_
  · rw [decide_eq_false (by omega), decide_eq_false (by omega)]
    rfl
  · intro h1 _
    have h0 : (0 : Int) < (k : Int) := by omega
    have h2 : ((z.length * k : Nat) : Int) ≤ 2 ^ 63 - 1 := by omega
    rw [Int.natCast_mul] at h2
    have h3 := (Int.le_ediv_iff_mul_le h0).mpr h2
    omega
  · intro _ _
    unfold Builtin.Str.tooLong
    rw [Int.toNat_natCast, sizeLine_eq]
    exact decide_eq_false (by omega)
  · by_cases h1 : (k : Int) < 1
    · rw [if_pos h1]
      have e : repS z k = Str.empty := by
        have : k = 0 := by omega
        subst this
        rfl
      rw [e] at q
      exact ⟨by decide, .str _, H, I.tok _, ⟨_, rfl⟩, q⟩
    · rw [if_neg h1]
      by_cases h2 : ((k : Int) == 1 || z.length == 0) = true
      · rw [if_pos h2]
        have e : repS z k = z := by
          rw [Bool.or_eq_true] at h2
          rcases h2 with h2 | h2
          · have h3 : (k : Int) = 1 := by simpa using h2
            have h4 : k = 1 := by omega
            subst h4
            unfold repS
            simp
          · have h3 : z.length = 0 := by simpa using h2
            have h4 : z.cps = #[] := Array.eq_empty_of_size_eq_zero h3
            unfold repS
            cases z with | mk zc =>
            simp only at h4
            subst h4
            simp
        rw [e] at q
        exact ⟨.str z, H, I, ⟨t, rfl⟩, q⟩
      · rw [if_neg h2]
        have e : (⟨(List.replicate (k : Int).toNat z.cps).foldl (· ++ ·) #[]⟩ : Str) = repS z k := by
          unfold repS
          rw [Int.toNat_natCast, ← Array.toArray_toList (xs := (List.replicate k z.cps).foldl (· ++ ·) #[]), foldl_app]
          rfl
        rw [e]
        have hl : (repS z k).length ≤ sizeLine := by
          rw [repS_len, sizeLine_eq]
          omega
        exact ⟨hl, .str _, H, I.tok _, ⟨_, rfl⟩, q⟩
/-- text[::-1] -/
def revS (z : Str) : Str := ⟨z.cps.toList.reverse.toArray⟩
theorem revS_len (z : Str) : (revS z).length = z.length := by
  show z.cps.toList.reverse.toArray.size = z.cps.size
  rw [List.size_toArray, List.length_reverse, Array.length_toList]
theorem rev_pick (z : Str) : (⟨((PySem.Builtin.Str.strSliceIndices none none (-1) z.length).filterMap (z.cps[·]?)).toArray⟩ : Str) = revS z := by
  unfold revS
  have e : PySem.Builtin.Str.strSliceIndices none none (-1) z.length = (List.range z.length).reverse := by
    rw [← PySem.W.krv_range, ← PySem.W.krv_sliceRange]
    rfl
  have e2 := PySem.W.krv_all z.cps
  rw [e, List.filterMap_reverse]
  show (⟨((List.range z.cps.size).filterMap (z.cps[·]?)).reverse.toArray⟩ : Str) = _
  rw [e2]
def tRevS (te : TE) : TE := fun σ H Q => te σ H fun x H1 => ∃ z : Str, x = .str z ∧ z.length ≤ sizeLine ∧ Q (.str (revS z)) H1
theorem pe_revS {e : Expr} {te : TE} {k : Nat} {p1 p2 p3 pos : Pos} (he : PE X e te) : PE X (.Subscript e (.Slice none none (some (.UnaryOp .USub (.Constant (.int 1) k p1) p2)) p3) pos) (tRevS te) := by
  refine ⟨fun pins s σ H Q I h => Subscript_ (thn (he.run pins s σ H _ I h) fun v s1 ⟨x, H1, I1, r1, z, ex, hz, q⟩ => ?_)⟩
  subst ex
  obtain ⟨t, rfl⟩ := r1
  have hst : PO X (some (.UnaryOp .USub (.Constant (.int 1) k p1) p2)) (tPart (tUn (rU fun i => .int (-i)) (tC (.int 1)))) := po_some (pe_un un_neg pe_int)
  refine wpAny_Slice (thn (po_none.run pins s1 σ H1 (fun o K2 => o = none ∧ K2 = H1) I1 ⟨rfl, rfl⟩) fun vl s2 ⟨l, H2, I2, pl, el, e2⟩ => ?_)
  subst el e2
  refine thn (po_none.run pins s2 σ H2 (fun o K3 => o = none ∧ K3 = H2) I2 ⟨rfl, rfl⟩) fun vu s3 ⟨u, H3, I3, pu, eu, e3⟩ => ?_
  subst eu e3
  refine thn (hst.run pins s3 σ H3 (fun o K4 => o = some (-1) ∧ K4 = H3) I3 ⟨1, rfl, -1, rfl, rfl, rfl⟩) fun vs s4 ⟨o, H4, I4, ps, eo, e4⟩ => ?_
  subst eo e4
  obtain ⟨l, rfl, hl⟩ := IsPart.raw pl
  obtain ⟨u, rfl, hu⟩ := IsPart.raw pu
  obtain ⟨st, rfl, hst'⟩ := IsPart.raw ps
  have I5 : Inv X pins σ H4 { s4 with heap := s4.heap.push { cls := .type "slice", data := .fields #[partValue l, partValue u, partValue st] } } := I4.kept (t' := s4.toks) fun b ob qq => Heap.get?_push_of_some _ qq
  show wpAny (model X.prog X.w) X.A (subscriptTail e (.Slice none none (some (.UnaryOp .USub (.Constant (.int 1) k p1) p2)) p3) (.str z t) (.ref s4.heap.objs.size)) (EP X pins σ Q) X.xe { s4 with heap := s4.heap.push { cls := .type "slice", data := .fields #[partValue l, partValue u, partValue st] } }
  refine tail_any (ops := [.ref s4.heap.objs.size, .str z t]) (T := "str") (typeIs_str _ _ _) F.slot_str_getitem.lookup ?_ (by with_unfolding_all rfl)
  refine wpAny_getItem_str_slice (l := l) (u := u) (st := st) (Heap.IsSliceOf.new ..) (by rw [hst']; decide) ?_
  have em : sliceMade z t l u st = .str (revS z) := by
    unfold sliceMade slicePicked
    rw [hst', hl, hu]
    rw [if_neg (by simp)]
    rw [← rev_pick z]
    rfl
  rw [em]
  exact ⟨by rw [revS_len]; exact hz, .str _, H4, I5.tok _, ⟨_, rfl⟩, q⟩
end
end HopR

set_option Elab.async false
set_option linter.all false
set_option maxRecDepth 100000
namespace HopR
open PySem PySem.Spec PyProof.Rows L2
/-! rows as lists of truths -/
def cd (b : Bool) : Nat := if b then 111 else 46
def tx (bs : List Bool) : Str := ⟨(bs.map cd).toArray⟩
theorem cd_inj {a b : Bool} (h : cd a = cd b) : a = b := by
  cases a <;> cases b <;> first | rfl | (exact absurd h (by decide))
theorem map_cd_inj : ∀ {as bs : List Bool}, as.map cd = bs.map cd → as = bs
  | [], [], _ => rfl
  | [], _ :: _, h => by simp at h
  | _ :: _, [], h => by simp at h
  | a :: r, b :: q, h => by
    rw [List.map_cons, List.map_cons] at h
    injection h with h1 h2
    rw [cd_inj h1, map_cd_inj h2]
theorem tx_inj {as bs : List Bool} (h : tx as = tx bs) : as = bs := by
  unfold tx at h
  injection h with h
  exact map_cd_inj (by simpa using congrArg Array.toList h)
theorem tx_len (bs : List Bool) : (tx bs).length = bs.length := by
  show (bs.map cd).toArray.size = bs.length
  rw [List.size_toArray, List.length_map]
theorem tx_list (bs : List Bool) : (tx bs).cps.toList = bs.map cd := rfl
theorem tx_get {bs : List Bool} {i : Nat} {b : Bool} (h : bs[i]? = some b) : (tx bs).cps[i]? = some (cd b) := by
  show (bs.map cd).toArray[i]? = some (cd b)
  rw [List.getElem?_toArray, List.getElem?_map, h]
  rfl
theorem ext_str {a b : Str} (h : a.cps.toList = b.cps.toList) : a = b := by
  cases a with | mk x =>
  cases b with | mk y =>
  have e : x = y := Array.toList_inj.mp h
  rw [e]
theorem tx_app (as bs : List Bool) : tx as ++ tx bs = tx (as ++ bs) := by
  apply ext_str
  show ((as.map cd).toArray ++ (bs.map cd).toArray).toList = (as ++ bs).map cd
  rw [Array.toList_append, List.map_append]
theorem tx_rev (bs : List Bool) : revS (tx bs) = tx bs.reverse := by
  unfold revS tx
  simp
theorem tx_sg (bs : List Bool) : sg (tx bs) = bs.map fun b => tx [b] := by
  unfold sg
  rw [tx_list, List.map_map]
  rfl
theorem tx_o : ("o" : Str) = tx [true] := by decide +kernel
theorem tx_f : ("." : Str) = tx [false] := by decide +kernel
/-- a row walked sign by sign: a turn's sign is the text of that place's truth -/
theorem walk_tx {bs : List Bool} : Walk (Its (tx bs)) bs.length (fun _ => True) (fun i H v H' => H' = H ∧ ∃ b, bs[i]? = some b ∧ v = .str (tx [b])) := by
  have w := walk_str (z := tx bs)
  rw [show (tx bs).cps.size = bs.length from tx_len bs] at w
  refine w.mono (fun _ g => g) fun i H x H' hi _ y => ?_
  obtain ⟨e1, c, e2, e3⟩ := y
  have hb : bs[i]? = some bs[i] := List.getElem?_eq_getElem hi
  rw [tx_get hb] at e2
  cases e2
  exact ⟨e1, _, hb, e3⟩
def for_tx {bs : List Bool} {g : TG} {tb : TS} {D : Ends} {σ : L2.St} {H : Hp} (Pv : Nat → L2.St → Hp → Prop) (h0 : Pv 0 σ H)
    (hs : ∀ i b σ H, bs[i]? = some b → Pv i σ H → g (.str (tx [b])) σ H fun σ2 H2 => tb { D with nx := Pv (i + 1), ct := Pv (i + 1), bk := D.nx } σ2 H2) (hd : ∀ σ H, Pv bs.length σ H → D.nx σ H) :=
  for_it (walk_tx (bs := bs)) (g := g) (tb := tb) (D := D) (σ := σ) (H := H) Pv h0 (fun _ _ _ _ _ => trivial)
    (fun i x σ H H' _ p y => by
      obtain ⟨e1, b, hb, e2⟩ := y
      subst e1 e2
      exact hs i b σ _ hb p) hd
def lc_tx {bs : List Bool} {g : TG} {tt : TT} {te : TE} {vs : List Nat} {σ : L2.St} {H1 : Hp} {D : Addr} {Qd : Hp → Prop} (Pv : Nat → Hp → Prop) (h0 : Pv 0 (upd H1 D (.lst [])))
    (hs : ∀ i b H, bs[i]? = some b → Pv i H → g (.str (tx [b])) (wipe σ vs) H fun σ2 H2 => wipe σ2 vs = wipe σ vs ∧ tt σ2 H2 fun kept H3 =>
      if kept = true then (te σ2 H3 fun y H4 => ∃ acc, H4 D = some (.lst acc) ∧ acc.length < sizeLine ∧ Pv (i + 1) (upd H4 D (.lst (acc ++ [y])))) else Pv (i + 1) H3)
    (hd : ∀ H, Pv bs.length H → Qd H) :=
  lc_it (walk_tx (bs := bs)) (g := g) (tt := tt) (te := te) (vs := vs) (σ := σ) (H1 := H1) (D := D) (Qd := Qd) Pv h0 (fun _ _ _ _ => trivial)
    (fun i x H H' _ p y => by
      obtain ⟨e1, b, hb, e2⟩ := y
      subst e1 e2
      exact hs i b _ hb p) hd
end HopR

set_option Elab.async false
set_option linter.all false
set_option maxRecDepth 100000
namespace HopR
open PySem PySem.Spec PyProof.Rows L2 TL
theorem joinL_nil : ∀ ps : List (List Nat), joinL [] ps = ps.flatten
  | [] => rfl
  | [p] => by
    show p = p ++ []
    rw [List.append_nil]
  | p :: q :: r => by
    show p ++ ([] ++ joinL [] (q :: r)) = p ++ (q :: r).flatten
    rw [List.nil_append, joinL_nil (q :: r)]
theorem join0_list (ys : List Str) : (Txt.join "" ys).cps.toList = (ys.map fun y => y.cps.toList).flatten := by
  have e : Txt.join "" ys = Str.join "" ys := PySem.StrLaws.glued_eq_join "" ys
  rw [e]
  have h := tl_join "" ys
  have h2 : tl ("" : Str) = [] := by decide +kernel
  rw [h2, joinL_nil] at h
  exact h
theorem join_tx (bs : List Bool) : Txt.join "" (bs.map fun b => tx [b]) = tx bs := by
  apply ext_str
  rw [join0_list, List.map_map, tx_list]
  induction bs with
  | nil => rfl
  | cons b r ih =>
    rw [List.map_cons, List.flatten_cons, ih]
    rfl
theorem sum_ones : ∀ bs : List Bool, ((bs.map fun b => tx [b]).map (·.length)).sum = bs.length
  | [] => rfl
  | b :: r => by
    rw [List.map_cons, List.map_cons, List.sum_cons, sum_ones r, tx_len]
    show 1 + r.length = r.length + 1
    omega
theorem join_fits {bs : List Bool} (h : bs.length ≤ 1000) : ((bs.map fun b => tx [b]).map (·.length)).sum + (bs.map fun b => tx [b]).length * ("" : Str).length ≤ 16777216 := by
  have e : ("" : Str).length = 0 := by decide +kernel
  rw [sum_ones, e, Nat.mul_zero]
  omega
theorem cut_tx (bs : List Bool) (lo hi : Option Int) : cutS (tx bs) lo hi = tx ((bs.drop (HT.sIx bs.length 0 lo)).take (HT.sIx bs.length bs.length hi - HT.sIx bs.length 0 lo)) := by
  apply ext_str
  unfold cutS
  rw [tx_len, tx_list, tx_list, List.map_take, List.map_drop]
theorem cut_to (bs : List Bool) (k : Nat) : cutS (tx bs) none (some (k : Int)) = tx (bs.take k) := by
  rw [cut_tx, HT.sIx_none, HT.sIx_nat, List.drop_zero, Nat.sub_zero]
  by_cases h : k ≤ bs.length
  · rw [Nat.min_eq_left h]
  · rw [Nat.min_eq_right (by omega), List.take_length, List.take_of_length_le (by omega)]
theorem cut_from (bs : List Bool) (k : Nat) : cutS (tx bs) (some (k : Int)) none = tx (bs.drop k) := by
  rw [cut_tx, HT.sIx_none, HT.sIx_nat]
  by_cases h : k ≤ bs.length
  · rw [Nat.min_eq_left h, List.take_of_length_le (by rw [List.length_drop]; exact Nat.le_refl _)]
  · rw [Nat.min_eq_right (by omega), List.drop_length, List.drop_of_length_le (by omega), List.take_nil]
theorem cut_at (bs : List Bool) (k m : Nat) : cutS (tx bs) (some (k : Int)) (some ((k : Int) + (m : Int))) = tx ((bs.drop k).take m) := by
  have e : ((k : Int) + (m : Int)) = ((k + m : Nat) : Int) := by omega
  rw [e, cut_tx, HT.sIx_nat, HT.sIx_nat]
  by_cases h : k ≤ bs.length
  · rw [Nat.min_eq_left h]
    by_cases h2 : k + m ≤ bs.length
    · rw [Nat.min_eq_left h2, Nat.add_sub_cancel_left]
    · rw [Nat.min_eq_right (by omega), List.take_of_length_le (by rw [List.length_drop]; exact Nat.le_refl _), List.take_of_length_le (by rw [List.length_drop]; omega)]
  · rw [Nat.min_eq_right (by omega), Nat.min_eq_right (by omega), List.drop_length, List.drop_of_length_le (by omega), List.take_nil, List.take_nil]
theorem cut_mid (bs : List Bool) (h : 2 ≤ bs.length) : cutS (tx bs) (some 1) (some (-1)) = tx ((bs.drop 1).take (bs.length - 2)) := by
  rw [cut_tx]
  have e1 : HT.sIx bs.length 0 (some 1) = 1 := by
    rw [show (some (1 : Int)) = some ((1 : Nat) : Int) from rfl, HT.sIx_nat]
    omega
  have e2 : HT.sIx bs.length bs.length (some (-1)) = bs.length - 1 := by
    show (if (-1 : Int) < 0 then ((-1 : Int) + (bs.length : Int)).toNat else min (-1 : Int).toNat bs.length) = bs.length - 1
    rw [if_pos (by decide)]
    omega
  rw [e1, e2]
  congr 2
/-! ### rows: walls, changes, the mirror -/
def ends (bs : List Bool) : List Bool := true :: (bs ++ [false])
theorem ends_len (bs : List Bool) : (ends bs).length = bs.length + 2 := by
  unfold ends
  rw [List.length_cons, List.length_append]
  rfl
def opn (bs : List Bool) (k : Nat) : Bool := decide (((ends bs).drop k).take 2 = [true, false])
def walls (bs : List Bool) : List Nat := (List.range (bs.length + 1)).filter (opn bs)
def bhd (bs : List Bool) (k : Nat) : List Bool := (ends bs).take k ++ [false] ++ [true] ++ (ends bs).drop (k + 2)
def chg (bs : List Bool) (k : Nat) : List Bool := ((bhd bs k).drop 1).take ((bhd bs k).length - 2)
def mir (bs : List Bool) : List Bool := bs.reverse.map (!·)
def num (bs : List Bool) : Int := bs.foldl (fun n b => n * 2 + (if b then 1 else 0)) 0
theorem mem_walls {bs : List Bool} {k : Nat} : k ∈ walls bs ↔ k ≤ bs.length ∧ opn bs k = true := by
  unfold walls
  rw [List.mem_filter, List.mem_range, Nat.lt_succ_iff]
theorem mir_len (bs : List Bool) : (mir bs).length = bs.length := by
  unfold mir
  rw [List.length_map, List.length_reverse]
theorem walls_len (bs : List Bool) : (walls bs).length ≤ bs.length + 1 := by
  unfold walls
  exact Nat.le_trans (List.length_filter_le _ _) (by rw [List.length_range]; exact Nat.le_refl _)
theorem bhd_len {bs : List Bool} {k : Nat} (h : k ≤ bs.length) : (bhd bs k).length = bs.length + 2 := by
  unfold bhd
  rw [List.length_append, List.length_append, List.length_append, List.length_take, List.length_drop, ends_len]
  show min k (bs.length + 2) + 1 + 1 + (bs.length + 2 - (k + 2)) = bs.length + 2
  omega
theorem chg_len {bs : List Bool} {k : Nat} (h : k ≤ bs.length) : (chg bs k).length = bs.length := by
  unfold chg
  rw [List.length_take, List.length_drop, bhd_len h]
  omega
end HopR

set_option Elab.async false
set_option linter.all false
set_option maxRecDepth 100000
namespace HopR
open PySem PySem.Spec PyProof.Rows L2
/-! ### defs that are called where no repr is under way -/
/-- the promise sp of the def at f, kept wherever it is called while no repr is under way -/
structure FnOkG (P : Program) (w : World) (K : PySem.W.Frag) (mg : Str → Option Value) (base : Heap) (CX : CXT) (k : Nat) (f : Addr) (fd : FuncData) (ps : List Str) (sp : Sp) : Prop where
  arity : ∀ {vs H Q E}, sp vs H Q E → vs.length = ps.length
  calls : ∀ {A : Around} {outer : List Env} {s : Shared} {H : Hp} {args : Args} {us : List Value} {vs : List V} {Q : VK} {E : XK}, A.guards = some [] → Room k A → Env0 P w K mg base A outer s H →
    BindsTo s fd args (ps.zip us) → Vals vs us → sp vs H Q E → codeAny (model P w) A (.call (.ref f) args) (CR CX outer P w H s Q E) s
section
variable {P : Program} {w : World} {K : PySem.W.Frag} {mg : Str → Option Value} {base : Heap}
theorem FnOkG.of {CX : CXT} {k : Nat} {f : Addr} {fd : FuncData} {ps : List Str} {sp : Sp} (F : FnOk P w K mg base CX k f fd ps sp) : FnOkG P w K mg base CX k f fd ps sp where
  arity h := F.len _ _ _ _ h
  calls _ room e0 bind vals prom := F.run _ _ _ _ _ _ _ _ _ room e0 bind vals prom
/-- what the body's end says to the caller -/
theorem ends_say {CX : CXT} {N : List Str} {qual : Str} {scope : Scope} {f : Addr} {cdv : Value} {A : Around} {outer : List Env} {s : Shared} {H : Hp} {Q : VK} {E : XK} {fl : Flow} {s' : Shared}
    (h : SP (cxOf CX P w K mg base N qual scope f cdv A outer s H E) [] { nx := fun _ H' => Q .non H', rt := Q } fl s') :
    match fl with | .ret u => CE outer P w H s Q u s' | .next => CE outer P w H s Q Value.none s' | _ => False := by
  match fl, h with
  | .ret u, ⟨v, σ', H', J, rv, g⟩ => exact ⟨v, H', J.os, J.bare, J.base, J.hok, rv, g⟩
  | .next, ⟨σ', H', J, g⟩ => exact ⟨V.non, H', J.os, J.bare, J.base, J.hok, rfl, g⟩
  | .brk, ⟨_, _, _, g⟩ => exact g
  | .cont, ⟨_, _, _, g⟩ => exact g
theorem okG {x qual : Str} {st : Stmt} {f : Addr} {fd : FuncData} {N ps : List Str} {k : Nat} {sp : Sp} (F : Fun K x qual st f fd) (S : FnScope N ps (defScope st)) (len : ∀ vs H Q E, sp vs H Q E → vs.length = ps.length)
    (body : ∀ (cdv : Value) (A : Around) (outer : List Env) (s : Shared) (H : Hp) (vs : List V) (Q : VK) (E : XK), A.guards = some [] → Room k (A.deeper (envOfC qual (defScope st) s.heap.objs.size f cdv)) → sp vs H Q E →
      ∃ t, PSs (cxOf CX0 P w K mg base N qual (defScope st) f cdv A outer s H E).nox (defBody st) t ∧ t { nx := fun _ H' => Q .non H', rt := Q } (start N vs) H) : FnOkG P w K mg base CX0 (k + 1) f fd ps sp where
  arity h := len _ _ _ _ h
  calls {A outer s H args us vs Q E} free room e0 bind vals prom := by
    obtain ⟨_, _, _, _, _, _, cdv, _, _, rfl, lk, code⟩ := F.ex
    have old : ∀ b o, base.get? b = some o → s.heap.get? b = some o := fun b o e => (e0.bs b o e).1
    have here := e0.mod.kin.keeps old
    obtain ⟨t, pr, rd⟩ := body cdv A outer s H vs Q E free (room.deeper _) prom
    have kinds : ∀ y ∈ ps.zip us, (defScope st).names.lookup y.1 = some .local ∨ ((defScope st).names.lookup y.1 = some .cell ∧ ((cellsFrom (s.heap.objs.size + 1) (defScope st).names []).lookup y.1).isSome = true) := by
      intro y hy
      have hp : y.1 ∈ ps := by
        obtain ⟨y1, y2⟩ := y
        exact (List.of_mem_zip hy).1
      exact (S.par _ hp).imp id fun g => ⟨g, PySem.W.cellsFrom_some _ _ _ (.inl g)⟩
    refine codeAny_call_function room.depth (here _ _ lk) rfl S.co S.gen rfl (PySem.W.codeRec_of here code) (bind _ _ _ _ ?_)
    refine wpAny_newFunctionEnv_cells S.kind kinds fun _ e s1 x => ?_
    cases e
    refine ⟨(e0.mod.nolimit.keeps old).keeps x.toInCall.keep, codeAny_func ?_⟩
    have run := pr.nox.run [] s1 _ H _ (inv_start S room.hd e0 (len _ _ _ _ prom) vals x) rd
    refine wpAny_mono run (fun fl s' h => ?_) fun _ _ z => z
    have said := ends_say h
    cases fl with
    | ret _ => exact said
    | next => exact said
    | brk => exact said.elim
    | cont => exact said.elim
end
section
variable {X : Cx} {CX : CXT} {k : Nat} {f : Addr} {fd : FuncData} {ps : List Str} {sp : Sp} {ds : List Value} {dvs : List V} {E : XK}
theorem after_call {pins : List (Addr × Obj)} {σ : L2.St} {H : Hp} {s : Shared} {Q : VK} (hx : Passes CX X E) (I : Inv X pins σ H s) {r : Except Value Flow} {s' : Shared} (h : CR CX X.stack X.prog X.w H s Q E r s') :
    match r with | .ok (.ret u) => EP X pins σ Q u s' | .ok _ => False | .error e => X.xe e s' := by
  match r, h with
  | .error e, h => exact hx pins σ H s e s' I h
  | .ok (.ret u), h => exact I.after h
  | .ok .next, h => exact h
  | .ok .brk, h => exact h
  | .ok .cont, h => exact h
variable {x : Str} {p pos : Pos} {e : Expr} {es : List Expr} {t : TA}
/-- f(e, ..) at a place where no repr is under way -/
theorem pe_callG (F : FnOkG X.prog X.w X.K X.mg X.base CX k f fd ps sp) (hG : X.A.guards = some []) (hr : Room k X.A) (hg : Gl X x) (hm : X.mg x = some (.ref f)) (hk : PySem.W.keepIn X.K (.ref f) = true) (hb : Binds X.K fd ps ds) (hd : Vals dvs ds) (hx : Passes CX X E)
    (ha : PA X (e :: es) t) (hdb : (x == ("__debug__" : Str)) = false := by decide)
    (he : starEach (e :: es) X.env = (false, eval e X.env) :: starEach es X.env := by rfl) (hpl : (backTo pos (starEach es X.env)).any (·.1) = false := by rfl) :
    PE X (.Call (.Name x p) (e :: es) [] pos) (tCall sp dvs E t) := by
  constructor
  intro pins s σ H Q I h
  refine wpAny_Call_Name_kw (ld_glob I hg hm (PySem.W.callWith_K (h₀ := X.base) I.ok.mod.kin hk (thn (ha.run pos pins s σ H _ I h) ?_) he hpl) hdb)
  rintro us s1 ⟨vs, H1, I1, vals, prom⟩
  have all := vals.append hd
  have size : (us ++ ds).length = ps.length := all.length.symm.trans (F.arity prom)
  refine ⟨I1.kIn, wpAny_call (codeAny_mono (F.calls hG hr I1.env0 (hb s1 us I1.kIn size) all prom) fun r s' h => ?_)⟩
  have := after_call hx I1 h
  cases r with
  | error e => exact this
  | ok fl => cases fl <;> exact this
/-! ### repr of data -/
def rReprD (K : PySem.W.Frag) : List V → Hp → VK → Prop := fun vs H Q => ∃ (v : V) (d : PyData), vs = [v] ∧ Dp K H v d ∧ d.showable = true ∧ d.hasDict = false ∧ d.depth ≤ 64 ∧ d.shown.length ≤ sizeLine ∧ Q (.str d.shown) H
theorem cr_reprD (hG : X.A.guards = some []) (hu : X.A.units + 66 < cLine) : CallR X (.builtin "repr") (rReprD X.K) := by
  rintro pins s σ H _ us Q I r ⟨v, d, rfl, hd, hs, hn, hdep, hz, q⟩
  obtain ⟨u, rfl, rv⟩ := vals1 r
  obtain ⟨as, rd⟩ := Dp.reads I d v u hd rv
  cases hd with
  | non =>
    cases rv
    exact P.repr_of_none ⟨.str _, H, I.tok _, ⟨_, rfl⟩, q⟩
  | bl b =>
    cases rv
    exact P.repr_of_bool ⟨.str _, H, I.tok _, ⟨_, rfl⟩, q⟩
  | int i =>
    obtain ⟨t, rfl⟩ := rv
    have hb : i.natAbs.log2 < 1920 := of_decide_eq_true (by simpa only [PyData.showable] using hs)
    exact P.repr_of_int hb ⟨.str _, H, I.tok _, ⟨_, rfl⟩, by simpa only [PyData.shown] using q⟩
  | str x =>
    obtain ⟨t, rfl⟩ := rv
    exact P.repr_of_str ⟨.str _, H, I.tok _, ⟨_, rfl⟩, by simpa only [PyData.shown] using q⟩ (by simpa only [PyData.shown] using hz)
  | lst h1 h2 =>
    cases rv
    exact repr_of_reads' rd hs (fun e => absurd (hn.symm.trans e) (by decide)) hG (by omega) (fun _ _ e => e) (fun h' t tk hk => ⟨.str _, H, I.kept hk, ⟨_, rfl⟩, q⟩) hz
  | tup h1 h2 =>
    cases rv
    exact repr_of_reads' rd hs (fun e => absurd (hn.symm.trans e) (by decide)) hG (by omega) (fun _ _ e => e) (fun h' t tk hk => ⟨.str _, H, I.kept hk, ⟨_, rfl⟩, q⟩) hz
end
/-! ### the end -/
section
variable (K : PySem.W.Frag) (a : Addr) (vs : List Value) (ns : List Int)
/-- the script as the heap has it -/
abbrev scrO : Obj := { cls := .type "list", data := .seq vs.toArray }
/-- tracked is the script alone, locked, and not even that where the top wrote it -/
def scrH : Hp := fun b => if b = a ∧ K.lookup a = none then some (.frz (scrO vs) (.lst (ns.map V.int))) else none
theorem scrH_or (b : Addr) : scrH K a vs ns b = none ∨ (b = a ∧ K.lookup a = none ∧ scrH K a vs ns b = some (.frz (scrO vs) (.lst (ns.map V.int)))) := by
  unfold scrH
  by_cases h : b = a ∧ K.lookup a = none
  · exact .inr ⟨h.1, h.2, if_pos h⟩
  · exact .inl (if_neg h)
theorem scrH_only : Only (scrH K a vs ns) := fun b => (scrH_or K a vs ns b).imp id fun ⟨_, _, e⟩ => ⟨_, _, e⟩
end
section
variable {P : Program} {w : World} {K : PySem.W.Frag} {a : Addr} {vs : List Value} {ns : List Int} {h : Heap}
theorem scrH_sq (kin : K.In h) (at_ : h.get? a = some (scrO vs)) (hi : IntsAre vs ns) (few : ns.length ≤ sizeLine) : SqL K (scrH K a vs ns) a (ns.map V.int) := by
  cases hk : K.lookup a with
  | none => exact .inl (.inr ⟨scrO vs, if_pos ⟨rfl, hk⟩⟩)
  | some o =>
    obtain rfl : o = scrO vs := Option.some.inj ((kin a o hk).symm.trans at_)
    exact .inr ⟨_, vs.toArray, _, hk, rfl, rfl, rfl, by rw [List.size_toArray, hi.length]; exact few, by simpa using vals_ints hi⟩
theorem scrH_ok (at_ : h.get? a = some (scrO vs)) (hi : IntsAre vs ns) (few : ns.length ≤ sizeLine) : HOk P w (scrH K a vs ns) h := by
  intro b u e
  rcases scrH_or K a vs ns b with n | ⟨rfl, _, y⟩
  · exact absurd (n.symm.trans e) (by simp)
  · cases y.symm.trans e
    refine ⟨at_, ?_, vs, _, vals_ints hi, at_⟩
    rw [List.length_map]
    exact few
/-- what isn't the script, and what the top wrote, stands also where the tracked is hidden -/
theorem scrH_base (at_ : h.get? a = some (scrO vs)) {b : Addr} {o : Obj} (e : h.get? b = some o) (q : o ≠ scrO vs ∨ K.lookup b ≠ none) : (hidT h (scrH K a vs ns)).get? b = some o := by
  refine hidT_get e ((scrH_or K a vs ns b).resolve_right ?_)
  rintro ⟨rfl, n, _⟩
  exact q.elim (fun z => z (Option.some.inj (e.symm.trans at_))) fun z => z n
theorem scrH_ns (at_ : h.get? a = some (scrO vs)) {b : Addr} {m : Str → Option Value} : h.Ns b m → (hidT h (scrH K a vs ns)).Ns b m := by
  rintro ⟨o, es, ep, e, dd, r⟩
  refine ⟨o, es, ep, scrH_base at_ e (.inl ?_), dd, r⟩
  rintro rfl
  exact absurd dd (by simp)
end
/-- a law whose promise holds where no repr is under way: nothing is, where it is called -/
theorem walk_ofG {l : PySem.W.OpenLaw} {n k : Nat} {q : Program} {loose : List Str} {XP : (Str → Option Value) → Heap → Prop} {YP : World → Heap → Prop} {d : DefRec} {K : Params → PySem.W.Frag} {sp : World → Sp} {x : Str}
    (most : l.most = some n) (few : n ≤ sizeLine) (plain : d.params.defaults = []) (room : Room k callerA) (top : ∀ (w : World) (h : Heap), YP w h → (K w.params).In h)
    (F : ∀ (w : World) (mg : Str → Option Value) (fa : Addr) (h : Heap), (K w.params).In h → h.Ns mainGlobals mg → mg d.name = some (.ref fa) →
      ∃ fd : FuncData, (∀ (s : Shared) (u : Value), BindsTo s fd ⟨[u], []⟩ [(x, u)]) ∧ ∀ base : Heap, (K w.params).In base → base.Ns mainGlobals mg → FnOkG l.prog w (K w.params) mg base CX0 k fa fd [x] (sp w))
    (prom : ∀ (w : World) (H : Hp) (a : Addr) (ns : List Int), ns.length ≤ n → (∀ z ∈ ns, Builtin.Int.intBits z ≤ 1048576) → Only H → SqL (K w.params) H a (ns.map V.int) → sp w [.ref a] H (fun v _ => v = .bl true) fun _ _ _ => False) :
    PySem.W.WalkO q loose XP YP l.row.toRowW d [] (fun f vs => PySem.call f vs) := by
  apply Att.attach_callB most plain
  intro w s₀ s₁ mg mb fa o pm cd doc a vs ns G Y _ _ _ hmg at_ isI size bits gens
  have kin := top w _ Y
  obtain ⟨fd, bind, hF⟩ := F w mg fa _ kin G.T.g hmg
  have few' := Nat.le_trans size few
  have ok : HOk l.prog w (scrH (K w.params) a vs ns) s₁.heap := scrH_ok at_ isI few'
  have kin' : (K w.params).In (hidT s₁.heap (scrH (K w.params) a vs ns)) := fun b o e => scrH_base at_ (kin b o e) (.inr (by rw [e]; simp))
  have g' := scrH_ns (K := K w.params) (ns := ns) at_ G.T.g
  obtain ⟨mc, lim1, lim2⟩ := G.T.nolimit
  have e0 : Env0 l.prog w (K w.params) mg (hidT s₁.heap (scrH (K w.params) a vs ns)) callerA [] s₁ (scrH (K w.params) a vs ns) :=
    ⟨rfl, ⟨kin', g', ⟨mb, scrH_ns at_ G.T.b, G.T.builtins⟩, ⟨mc, scrH_ns at_ lim1, lim2⟩⟩, fun _ _ => of_hidT, Nat.le_of_eq (hidT_size _ _), trivial, (by intro _ z; cases z), ok, AllBare.of_eq gens⟩
  refine codeAny_mono ((hF _ kin' g').calls (us := [.ref a]) (vs := [.ref a]) rfl room e0 (bind s₁ (.ref a)) (.cons rfl .nil) (prom w _ a ns size bits (scrH_only (K w.params) a vs ns) (scrH_sq kin at_ isI few'))) fun r s' h => ?_
  match r, h with
  | .error e, h => exact h.elim
  | .ok .next, h => exact h.elim
  | .ok .brk, h => exact h.elim
  | .ok .cont, h => exact h.elim
  | .ok (.ret u), ⟨v, H', os, bare, un, ok', rel, is⟩ =>
    have is : v = .bl true := is
    subst is
    cases (show u = Value.bool true from rel)
    refine ⟨rfl, OldK.of_keep ?_, os, bare⟩
    intro b o e
    rcases scrH_or (K w.params) a vs ns b with z | ⟨rfl, _, z⟩
    · exact un.keep b o e z (fun m => nomatch m) (by simp)
    · cases at_.symm.trans e
      exact (ok' _ _ (un.frzs _ _ _ z)).1
end HopR

set_option Elab.async false
set_option linter.all false
set_option maxRecDepth 100000
namespace HopR
open PySem L2
theorem same_upd {H : Hp} {p : Addr} {o : HO} (h : H p = none) : Same H (upd H p o) := fun b x e => by
  rw [upd_ne (ne_of_none e h)]
  exact e
theorem same_new {H H1 : Hp} {p : Addr} {o : HO} (h : H p = none) (s : Same H H1) : Same H (upd H1 p o) := fun b x e => by
  rw [upd_ne (ne_of_none e h)]
  exact s _ _ e
/-- a def of the text, its binding, where its name leads -/
structure Fn (K : PySem.W.Frag) (mg : Str → Option Value) (x : Str) (st : Stmt) (ps : List Str) (f : Addr) (fd : FuncData) : Prop where
  F : Fun K x x st f fd
  b : Binds K fd ps []
  g : mg x = some (.ref f)
end HopR

set_option Elab.async false
set_option linter.all false
set_option maxRecDepth 100000
namespace HopR
open PySem PySem.Spec PyProof.Rows L2
/-! ### len, str and repr of objects of an own class; an attribute as a target -/
section
variable {X : Cx} {CX : CXT} {n : Nat} {C f : Addr} {fd : FuncData} {ps : List Str} {sp : Sp} {E : XK}
/-- a def called by a built-in that runs in the same frames -/
theorem call_at {A : Around} {pins : List (Addr × Obj)} {σ : L2.St} {H : Hp} {s : Shared} {Q : VK} {us : List Value} {vs : List V} (F : FnOk X.prog X.w X.K X.mg X.base CX n f fd ps sp) (room : Room n A) (frames : A.frames = X.A.frames) (bind : Binds X.K fd ps []) (lets : Passes CX X E)
    (I : Inv X pins σ H s) (vals : Vals vs us) (prom : sp vs H Q E) : wpAny (model X.prog X.w) A (call (.ref f) us) (EP X pins σ Q) X.xe s := by
  have I0 := I.env0
  have here : Env0 X.prog X.w X.K X.mg X.base A X.stack s H := { frames := frames.trans I0.frames, mod := I0.mod, bs := I0.bs, bsz := I0.bsz, funs := I0.funs, frf := I0.frf, hok := I0.hok, bare := I0.bare }
  have size := vals.length.symm.trans (F.len _ _ _ _ prom)
  have bound := bind s us I.kIn (by rw [List.append_nil]; exact size)
  rw [List.append_nil] at bound
  refine wpAny_call (codeAny_mono (F.run A X.stack s H ⟨us, []⟩ us vs Q E room here bound vals prom) fun r s' h => ?_)
  have said := after_call lets I h
  cases r with
  | error e => exact said
  | ok fl => cases fl <;> exact said
/-- one object of the class, and what its method promises of it -/
def rOwn1 (C : Addr) (sp : Sp) (E : XK) (R : V → Hp → VK → Prop) : List V → Hp → VK → Prop := fun xs H Q => ∃ a dx fs, xs = [.ref a] ∧ H a = some (.ins C dx fs) ∧ sp [.ref a] H (fun v H' => R v H' Q) E
def isLen : V → Hp → VK → Prop := fun v H Q => ∃ i : Int, v = .int i ∧ (0 ≤ i ∧ i < 2 ^ 63) ∧ Q (.int i) H
def isTxt : V → Hp → VK → Prop := fun v H Q => ∃ z : Str, v = .str z ∧ Q (.str z) H
/-- len(o) -/
theorem cr_lenOwn (len : PySem.W.findIn X.K (.ref C) "__len__" = some (some (.ref f))) (fn : PySem.W.isFn X.K (.ref f) = true) (F : FnOk X.prog X.w X.K X.mg X.base CX n f fd ps sp) (room : Room (n + 1) X.A) (bind : Binds X.K fd ps []) (lets : Passes CX X E) :
    CallR X (.builtin "len") (rOwn1 C sp E isLen) := by
  rintro pins s σ H _ us Q I r ⟨a, dx, fs, rfl, ha, prom⟩
  obtain ⟨u, rfl, rv⟩ := vals1 r
  cases rv
  obtain ⟨_, J, _⟩ := ins_get I.hok ha
  obtain ⟨od, J, _⟩ := J.look
  obtain ⟨m, F0⟩ := I.fr
  refine PySem.W.len_K F0 I.ok.mod.kin J len fn (thn (call_at F room.in1 rfl bind lets I (us := [.ref a]) (vs := [.ref a]) (.cons rfl .nil) prom) ?_)
  rintro w s' ⟨z, H', I', rz, i, rfl, hi, q⟩
  obtain ⟨t, rfl⟩ := rz
  exact ⟨hi, .int i, H', I'.tok _, ⟨_, rfl⟩, q⟩
/-- str(o) -/
theorem cr_strOwn (str : PySem.W.findIn X.K (.ref C) "__str__" = some (some (.ref f))) (fn : PySem.W.isFn X.K (.ref f) = true) (F : FnOk X.prog X.w X.K X.mg X.base CX n f fd ps sp) (room : Room (n + 2) X.A) (bind : Binds X.K fd ps []) (lets : Passes CX X E) :
    CallR X (.type "str") (rOwn1 C sp E isTxt) := by
  rintro pins s σ H _ us Q I r ⟨a, dx, fs, rfl, ha, prom⟩
  obtain ⟨u, rfl, rv⟩ := vals1 r
  cases rv
  obtain ⟨_, J, _⟩ := ins_get I.hok ha
  obtain ⟨od, J, _⟩ := J.look
  have un := room.un
  refine PySem.W.kso_call (by show X.A.units + 1 + 1 < cLine; omega) I.kIn J str fn (thn (call_at F room.in1.in1 rfl bind lets I (us := [.ref a]) (vs := [.ref a]) (.cons rfl .nil) prom) ?_)
  rintro w s' ⟨z, H', I', rz, y, rfl, q⟩
  obtain ⟨t, rfl⟩ := rz
  exact ⟨.str y, H', I', ⟨_, rfl⟩, q⟩
/-- repr(o) -/
theorem cr_reprOwn (rep : PySem.W.findIn X.K (.ref C) "__repr__" = some (some (.ref f))) (fn : PySem.W.isFn X.K (.ref f) = true) (F : FnOk X.prog X.w X.K X.mg X.base CX n f fd ps sp) (room : Room (n + 1) X.A) (bind : Binds X.K fd ps []) (lets : Passes CX X E) :
    CallR X (.builtin "repr") (rOwn1 C sp E isTxt) := by
  rintro pins s σ H _ us Q I r ⟨a, dx, fs, rfl, ha, prom⟩
  obtain ⟨u, rfl, rv⟩ := vals1 r
  cases rv
  obtain ⟨_, J, _⟩ := ins_get I.hok ha
  obtain ⟨od, J, _⟩ := J.look
  obtain ⟨m, F0⟩ := I.fr
  have un := room.un
  refine PySem.W.repr_K (by show X.A.units + 1 < cLine; omega) F0 I.ok.mod.kin J rep fn (thn (call_at F room.in1 rfl bind lets I (us := [.ref a]) (vs := [.ref a]) (.cons rfl .nil) prom) ?_)
  rintro w s' ⟨z, H', I', rz, y, rfl, q⟩
  obtain ⟨t, rfl⟩ := rz
  exact ⟨.str y, H', I', ⟨_, rfl⟩, q⟩
end
section
variable {X : Cx}
/-- o.f as a target: the field is put -/
def gFld (K : PySem.W.Frag) (to : TE) (f : Str) : TG := fun v σ H Q => to σ H fun o H1 => ∃ a C dx fs, o = .ref a ∧ H1 a = some (.ins C dx fs) ∧ Cls K C ∧ NoAttr K C f ∧ fs.length < 1000 ∧ Q σ (upd H1 a (.ins C dx (putF f v fs)))
theorem pg_fld {o : Expr} {to : TE} {f : Str} {pos : Pos} (ho : PE X o to) : PG X (.Attribute o f pos) (gFld X.K to f) := by
  constructor
  intro pins s σ H v u Q I r h
  rw [assign_Attribute]
  refine wpAny_bind (wpAny_holding (thn (ho.run pins s σ H _ I h) ?_))
  rintro ov s1 ⟨x, H1, I1, rx, a, C, dx, fs, rfl, ea, c, na, few, q⟩
  cases rx
  refine wpAny_bind (wpAny_standAt (wpAny_bind (wpAny_holding (setattr_ok I1 ea c na few r fun s2 I2 => ?_))))
  exact wpAny_release ⟨σ, _, I2, q⟩
end
end HopR

set_option Elab.async false
set_option linter.all false
set_option maxRecDepth 100000
namespace HopR
open PySem PySem.Spec PyProof.Rows L2
/-! ### == and != by an own __eq__ of a class of the text, whose own names hold no __ne__ -/
structure EqC (K : PySem.W.Frag) (C f : Addr) : Prop where
  eq : PySem.W.findIn K (.ref C) "__eq__" = some (some (.ref f))
  fn : PySem.W.isFn K (.ref f) = true
  own : ∃ nm q N bs hd sn sub ab col dd k0 k1 k2 k3 k5 nw, K.lookup C = some (excClassObj nm q C N bs [.type "object"] hd sn sub ab col dd k0 k1 k2 k3 k5 nw) ∧ PySem.W.nsOkIn K N = true ∧ PySem.W.nsIn K N "__eq__" = some (some (.ref f)) ∧ PySem.W.nsIn K N "__ne__" = some none
theorem name_here {K : PySem.W.Frag} {h : Heap} {N : Addr} {mg : Str → Option Value} {x : Str} {v : Value} (kin : K.In h) (names : h.Ns N mg) (e : PySem.W.nsIn K N x = some (some v)) : mg x = some v := by
  rcases names with ⟨o, es, ep, at_, data, -, find⟩
  rw [← find]
  revert e
  unfold PySem.W.nsIn
  cases look : K.lookup N with
  | none => exact fun e => nomatch e
  | some ob =>
    obtain rfl : ob = o := Option.some.inj ((kin _ _ look).symm.trans at_)
    obtain ⟨cls, dict, dat, slots⟩ := ob
    obtain rfl : dat = .dict es ep := data
    intro e
    unfold nsFind findBy
    rw [← Array.find?_toList]
    cases hit : es.toList.find? (·.key.isStr x) with
    | none =>
      simp only [hit] at e
      split at e <;> cases e
    | some en =>
      simp only [hit] at e
      cases e
      rfl
theorem fn_here {K : PySem.W.Frag} {h : Heap} {f : Addr} (kin : K.In h) (fn : PySem.W.isFn K (.ref f) = true) : ∃ o, h.get? f = some o ∧ o.cls = .type "function" := by
  have e : (K.lookup f).map (·.cls) = some (Value.type "function") := beq_iff_eq.mp fn
  obtain ⟨o, look, cls⟩ := Option.map_eq_some_iff.mp e
  exact ⟨o, kin _ _ look, cls⟩
theorem EqC.here {K : PySem.W.Frag} {h : Heap} {C f a : Addr} {o : Obj} (c : EqC K C f) (kin : K.In h) (at_ : h.get? a = some o) (cls : o.cls = .ref C) : h.OwnEqNoNe a C f "object" [.type "object"] := by
  obtain ⟨nm, q, N, bs, hd, sn, sub, ab, col, dd, k0, k1, k2, k3, k5, nw, look, ok, heq, hne⟩ := c.own
  obtain ⟨of, hf, hc⟩ := fn_here kin c.fn
  have names : h.Ns N (h.nsMap N) := .of_isNs (PySem.W.isNs_of_in kin ok)
  exact ⟨o, of, nm, q, N, bs, hd, sn, sub, ab, col, dd, k0, k1, k2, k3, k5, nw, h.nsMap N, _, at_, cls, kin _ _ look, names, name_here kin names heq, hf, hc, PySem.F.cmp_object.mro, PySem.F.cmp_object.eq.lookup, PySem.W.nsMap_none_of_in kin ok hne⟩
section
variable {X : Cx} {CX : CXT} {n : Nat} {C f : Addr} {fd : FuncData} {ps : List Str} {sp : Sp} {E : XK}
/-- two instances of the class; what its __eq__ promises of them, a truth -/
def rOwn (C : Addr) (sp : Sp) (E : XK) (neg : Bool) : R2 := fun x y H Q => ∃ a b dx dy fs gs, x = .ref a ∧ y = .ref b ∧ H a = some (.ins C dx fs) ∧ H b = some (.ins C dy gs) ∧ sp [.ref a, .ref b] H (fun v H' => ∃ k : Bool, v = .bl k ∧ Q (.bl (k ^^ neg)) H') E
theorem two_refs {a b : Addr} : Vals [V.ref a, V.ref b] [Value.ref a, Value.ref b] := .cons rfl (.cons rfl .nil)
theorem op_eqOwn (c : EqC X.K C f) (F : FnOk X.prog X.w X.K X.mg X.base CX n f fd ps sp) (room : Room n X.A) (bind : Binds X.K fd ps []) (lets : Passes CX X E) : OpR X (compareOp .Eq) (rOwn C sp E false) := by
  rintro pins s σ H _ _ v u Q I rx ry ⟨a, b, dx, dy, fs, gs, rfl, rfl, ha, hb, prom⟩
  cases rx; cases ry
  obtain ⟨_, J, _⟩ := ins_get I.hok ha
  obtain ⟨_, J', _⟩ := ins_get I.hok hb
  obtain ⟨_, J, _⟩ := J.look
  obtain ⟨_, J', _⟩ := J'.look
  obtain ⟨m, F0⟩ := I.fr
  refine PySem.W.cmp_K (op := .Eq) (tb := .ref C) room.units0 F0 I.ok.mod.kin J J'.type (by simp [PySem.W.notFirst]) c.eq c.fn (thn (call_at F room rfl bind lets I two_refs prom) ?_)
  rintro w s' ⟨z, H', I', rz, k, rfl, q⟩
  cases rz
  refine ⟨.bl k, H', I', rfl, ?_⟩
  rw [Bool.xor_false] at q
  exact q
theorem op_neOwn (c : EqC X.K C f) (F : FnOk X.prog X.w X.K X.mg X.base CX n f fd ps sp) (room : Room (n + 1) X.A) (bind : Binds X.K fd ps []) (lets : Passes CX X E) : OpR X (compareOp .NotEq) (rOwn C sp E true) := by
  rintro pins ⟨hp, g, d, t, os⟩ σ H _ _ v u Q I rx ry ⟨a, b, dx, dy, fs, gs, rfl, rfl, ha, hb, prom⟩
  cases rx; cases ry
  obtain ⟨_, J, _⟩ := ins_get I.hok ha
  obtain ⟨_, J', _⟩ := ins_get I.hok hb
  obtain ⟨_, J, _⟩ := J.look
  obtain ⟨_, J', _⟩ := J'.look
  have un := room.un
  refine compareOp_ne_ownEq PySem.F.cmp_object (c.here I.kIn J.at_ J.cls) J'.at_ J'.cls (by omega) (thn (call_at (A := X.A.in1) F room.in1 rfl bind lets I two_refs prom) ?_)
  rintro w s' ⟨z, H', I', rz, k, rfl, q⟩
  cases rz
  refine ⟨k, rfl, .bl (!k), H', I', rfl, ?_⟩
  rw [Bool.xor_true] at q
  exact q
end
end HopR

set_option Elab.async false
set_option linter.all false
set_option maxRecDepth 100000
namespace HopR
open PySem PySem.Spec PyProof.Rows L2
/-! ### numbers: // by any number but 0 -/
def CDivWN (_ j : Int) : Prop := j ≠ 0 ∧ j.natAbs.log2 < 9000
theorem op_fdivWN {X : Cx} : OpR X (binaryOp .FloorDiv) (rI CDivWN fun i j => .int (i.fdiv j)) := opI fun i j _ _ _ _ _ hc q => floordiv_int hc.1 q (.inl (PyProof.noPylong_of_log2 hc.2))
theorem gcd_fmod (a b : Int) : Int.gcd b (a.fmod b) = Int.gcd a b := by
  rw [Int.fmod_def, Int.mul_comm, Int.gcd_sub_mul_right_right, Int.gcd_comm]
theorem fmod_less (a : Int) {b : Int} (h : b ≠ 0) : (a.fmod b).natAbs < b.natAbs := by
  have h1 := Int.emod_nonneg a h
  have h2 := Int.emod_lt a h
  rw [Int.fmod_eq_emod]
  by_cases h3 : 0 ≤ b ∨ b ∣ a
  · rw [if_pos h3]
    omega
  · rw [if_neg h3]
    have h4 : a % b ≠ 0 := fun e => h3 (.inr (Int.dvd_of_emod_eq_zero e))
    have h5 : b < 0 := by
      refine Int.not_le.mp fun e => h3 (.inl e)
    omega
/-! ### fractions -/
theorem low_num {t b : Int} (h : b ≠ 0) : (t.fdiv (if b < 0 then -(Int.gcd t b : Int) else (Int.gcd t b : Int))) = (Rat.divInt t b).num := by
  have hd : ((Int.gcd t b : Nat) : Int) ∣ t := Int.gcd_dvd_left ..
  rw [Rat.num_divInt, Int.gcd_comm b t]
  by_cases hb : b < 0
  · rw [if_pos hb, Int.fdiv_eq_ediv_of_dvd (by rw [Int.neg_dvd]; exact hd), Int.ediv_neg, Int.sign_eq_neg_one_of_neg hb, Int.neg_one_mul, Int.neg_ediv_of_dvd hd]
  · have hb2 : 0 < b := by omega
    rw [if_neg hb, Int.fdiv_eq_ediv_of_dvd hd, Int.sign_eq_one_of_pos hb2, Int.one_mul]
theorem low_den {t b : Int} (h : b ≠ 0) : (b.fdiv (if b < 0 then -(Int.gcd t b : Int) else (Int.gcd t b : Int))) = ((Rat.divInt t b).den : Int) := by
  have hd : ((Int.gcd t b : Nat) : Int) ∣ b := Int.gcd_dvd_right ..
  rw [Rat.den_divInt, if_neg h, Int.gcd_comm b t]
  rw [Int.natCast_ediv]
  by_cases hb : b < 0
  · rw [if_pos hb, Int.fdiv_eq_ediv_of_dvd (by rw [Int.neg_dvd]; exact hd), Int.ediv_neg, Int.ofNat_natAbs_of_nonpos (by omega), Int.neg_ediv_of_dvd hd]
  · rw [if_neg hb, Int.fdiv_eq_ediv_of_dvd hd, Int.natAbs_of_nonneg (by omega)]
theorem gcd_pos {t b : Int} (h : b ≠ 0) : 0 < Int.gcd t b := Int.gcd_pos_of_ne_zero_right _ h
/-- both numbers of the fraction are below 2 ^ n -/
def Sz (n : Nat) (q : Rat) : Prop := q.num.natAbs < 2 ^ n ∧ q.den < 2 ^ n
theorem Sz.mono {n m : Nat} {q : Rat} (h : Sz n q) (hm : n ≤ m) : Sz m q := ⟨Nat.lt_of_lt_of_le h.1 (Nat.pow_le_pow_right (by decide) hm), Nat.lt_of_lt_of_le h.2 (Nat.pow_le_pow_right (by decide) hm)⟩
theorem sz_divInt {t b : Int} {n : Nat} (h : b ≠ 0) (ht : t.natAbs < 2 ^ n) (hb : b.natAbs < 2 ^ n) : Sz n (Rat.divInt t b) := by
  have g := gcd_pos (t := t) h
  constructor
  · rw [Rat.num_divInt]
    refine Nat.lt_of_le_of_lt (Int.natAbs_ediv_le_natAbs _ _) ?_
    rw [Int.natAbs_mul]
    rcases Int.lt_or_gt_of_ne h with h | h
    · rw [Int.sign_eq_neg_one_of_neg h]; simpa using ht
    · rw [Int.sign_eq_one_of_pos h]; simpa using ht
  · rw [Rat.den_divInt, if_neg h]
    exact Nat.lt_of_le_of_lt (Nat.div_le_self _ _) hb
theorem den_ne (q : Rat) : ((q.den : Nat) : Int) ≠ 0 := by
  have := q.den_nz
  omega
theorem pos_two (n : Nat) : 0 < 2 ^ n := Nat.pow_pos (by decide)
theorem two_lt {a b : Nat} {n : Nat} (ha : a < 2 ^ n) (hb : b < 2 ^ n) : a + b < 2 ^ (n + 1) := by
  rw [Nat.pow_succ]
  omega
theorem add_eq (q r : Rat) : q + r = Rat.divInt (q.num * r.den + r.num * q.den) ((q.den : Int) * (r.den : Int)) := by
  conv => lhs; rw [← Rat.num_divInt_den q, ← Rat.num_divInt_den r]
  exact Rat.divInt_add_divInt _ _ (den_ne q) (den_ne r)
theorem sub_eq (q r : Rat) : q - r = Rat.divInt (q.num * r.den - r.num * q.den) ((q.den : Int) * (r.den : Int)) := by
  conv => lhs; rw [← Rat.num_divInt_den q, ← Rat.num_divInt_den r]
  exact Rat.divInt_sub_divInt _ _ (den_ne q) (den_ne r)
theorem mul_eq (q r : Rat) : q * r = Rat.divInt (q.num * r.num) ((q.den : Int) * (r.den : Int)) := by
  conv => lhs; rw [← Rat.num_divInt_den q, ← Rat.num_divInt_den r]
  exact Rat.divInt_mul_divInt _ _
theorem div_eq (q r : Rat) : q / r = Rat.divInt (q.num * r.den) ((q.den : Int) * r.num) := by
  rw [Rat.div_def]
  conv => lhs; rw [← Rat.num_divInt_den q, ← Rat.num_divInt_den r]
  rw [Rat.inv_divInt]
  exact Rat.divInt_mul_divInt _ _
end HopR

set_option Elab.async false
set_option linter.all false
set_option maxRecDepth 100000
namespace HopR
open PySem PySem.Spec PyProof.Rows L2
/-! ### products, divided out crosswise -/
theorem mul_num (q r : Rat) : (q.num.fdiv (Int.gcd q.num (r.den : Int) : Int)) * (r.num.fdiv (Int.gcd r.num (q.den : Int) : Int)) = (q * r).num := by
  have h1 : ((Int.gcd q.num (r.den : Int) : Nat) : Int) ∣ q.num := Int.gcd_dvd_left ..
  have h2 : ((Int.gcd r.num (q.den : Int) : Nat) : Int) ∣ r.num := Int.gcd_dvd_left ..
  rw [Int.fdiv_eq_ediv_of_dvd h1, Int.fdiv_eq_ediv_of_dvd h2]
  show _ = (Rat.mul q r).num
  unfold Rat.mul
  rfl
theorem mul_den (q r : Rat) : ((q.den : Int).fdiv (Int.gcd r.num (q.den : Int) : Int)) * ((r.den : Int).fdiv (Int.gcd q.num (r.den : Int) : Int)) = ((q * r).den : Int) := by
  have h1 : ((Int.gcd q.num (r.den : Int) : Nat) : Int) ∣ (r.den : Int) := Int.gcd_dvd_right ..
  have h2 : ((Int.gcd r.num (q.den : Int) : Nat) : Int) ∣ (q.den : Int) := Int.gcd_dvd_right ..
  rw [Int.fdiv_eq_ediv_of_dvd h1, Int.fdiv_eq_ediv_of_dvd h2]
  show _ = ((Rat.mul q r).den : Int)
  unfold Rat.mul
  rfl
end HopR

set_option Elab.async false
set_option linter.all false
set_option maxRecDepth 100000
set_option exponentiation.threshold 200000
namespace Hop
open PySem L2 HopR
open C8 (InsC call_isC)
def top (i : Nat) : Stmt := PySem.Challenge.pw_hopline_k05_whole_parts_there_and_back.main.body.getD i (.Pass ⟨0, 0, 0, 0⟩)
abbrev sIsWhole : Stmt := top 8
abbrev sDivisor : Stmt := top 9
abbrev sInit : Stmt := inClass (top 11) 0
abbrev sPlus : Stmt := inClass (top 11) 1
abbrev sLess : Stmt := inClass (top 11) 2
abbrev sTimes : Stmt := inClass (top 11) 3
abbrev sOver : Stmt := inClass (top 11) 4
abbrev sBelow : Stmt := inClass (top 11) 6
abbrev sEq : Stmt := inClass (top 11) 7
abbrev sLowest : Stmt := top 12
/-! ### a Part -/
theorem tb_ : ¬ (("top" : Str) = "bottom") := by decide +kernel
def pf (q : Rat) : List (Str × V) := putF "bottom" (.int (q.den : Int)) (putF "top" (.int q.num) [])
theorem pf_top (q : Rat) : (pf q).lookup ("top" : Str) = some (.int q.num) := by
  unfold pf
  rw [lookup_putF, if_neg tb_, lookup_putF, if_pos rfl]
theorem pf_bottom (q : Rat) : (pf q).lookup ("bottom" : Str) = some (.int (q.den : Int)) := by
  unfold pf
  rw [lookup_putF, if_pos rfl]
theorem pf_no (q : Rat) {m : Str} (h1 : ¬ m = "bottom") (h2 : ¬ m = "top") : (pf q).lookup m = none := by
  unfold pf
  rw [lookup_putF, if_neg h1, lookup_putF, if_neg h2]
  rfl
/-- at a a Part of q -/
def PA (C : Addr) (H : Hp) (a : Addr) (q : Rat) : Prop := ∃ dx, H a = some (.ins C dx (pf q))
theorem PA.same {C : Addr} {H H' : Hp} {a : Addr} {q : Rat} (s : Same H H') (h : PA C H a q) : PA C H' a q := let ⟨dx, e⟩ := h; ⟨dx, s _ _ e⟩
/-- what is known of the class and of the built-ins -/
structure Txt (K : PySem.W.Frag) (mg : Str → Option Value) (C : Addr) : Prop where
  len : mg "len" = none
  range : mg "range" = none
  abs : mg "abs" = none
  isi : mg "isinstance" = none
  int : mg "int" = none
  bool : mg "bool" = none
  ins : InsC K C
  nT : NoAttr K C "top"
  nB : NoAttr K C "bottom"
  mgC : mg "Part" = some (.ref C)
section
variable {P : Program} {w : World} {K : PySem.W.Frag} {mg : Str → Option Value} {base : Heap} {C : Addr}
def spWhole : Sp := fun vs H Q _ => ∃ i : Int, vs = [.int i] ∧ Q (.bl true) H
theorem scWhole : FnScope ["thing"] ["thing"] (defScope sIsWhole) := ⟨rfl, rfl, rfl, by decide +kernel, rfl, by decide +kernel, by decide +kernel⟩
theorem ok_whole {f : Addr} {fd : FuncData} {k : Nat} (F : Fun K "is_whole" "is_whole" sIsWhole f fd) (T : Txt K mg C) : FnOk P w K mg base CX0 (k + 1) f fd ["thing"] spWhole := by
  refine F.ok scWhole (fun vs H Q E h => ?_) (fun cdv A outer s H vs Q E hr h => ?_)
  · obtain ⟨i, rfl, _⟩ := h
    rfl
  · obtain ⟨i, rfl, q⟩ := h
    refine ⟨_, pss_one (ps_ret (pe_and (pe_callB call_isi (by rfl) T.isi (by decide +kernel) (pa_cons (pv 0) (pa_cons (pe_bltn (v := .ty "int") (by rfl) T.int (by decide +kernel) rfl) pa_nil)))
      (pe_one (pe_not (pe_callB call_isi (by rfl) T.isi (by decide +kernel) (pa_cons (pv 0) (pa_cons (pe_bltn (v := .ty "bool") (by rfl) T.bool (by decide +kernel) rfl) pa_nil))))))), ?_⟩
    refine ⟨.int i, rfl, .int i, .ty "int", .type "int", .type "int", true, rfl, .ty _, .base (.int _), kit_ty (by decide +kernel), true, rfl, ?_⟩
    exact ⟨.int i, rfl, .int i, .ty "bool", .type "int", .type "bool", false, rfl, .ty _, .base (.int _), kit_ty (by decide +kernel), false, rfl, q⟩
def spDivisor : Sp := fun vs H Q _ => ∃ a b : Int, vs = [.int a, .int b] ∧ Q (.int (Int.gcd a b : Int)) H
theorem scDivisor : FnScope ["one", "other"] ["one", "other"] (defScope sDivisor) := ⟨rfl, rfl, rfl, by decide +kernel, rfl, by decide +kernel, by decide +kernel⟩
theorem ok_divisor {f : Addr} {fd : FuncData} {k : Nat} (F : Fun K "common_divisor" "common_divisor" sDivisor f fd) (T : Txt K mg C) : FnOk P w K mg base CX0 (k + 1) f fd ["one", "other"] spDivisor := by
  refine F.ok scDivisor (fun vs H Q E h => ?_) (fun cdv A outer s H vs Q E hr h => ?_)
  · obtain ⟨a, b, rfl, _⟩ := h
    rfl
  · obtain ⟨a, b, rfl, q⟩ := h
    have nd := scDivisor.nd
    refine ⟨_, pss_cons (ps_while PassesOwn.never (pt_cmpR op_ne (pv 1) pe_int (nomark _)) (pss_one (ps_par (by rfl) nd (i := 0) (j := 1) rfl rfl (by decide) rfl rfl (pa_cons (pv 1) (pa_cons (pe_op op_modN (pv 0) (pv 1)) pa_nil)) (by rfl))))
      (pss_one (ps_ret (pe_callB call_abs (by rfl) T.abs (by decide +kernel) (pa_cons (pv 0) pa_nil)))), ?_⟩
    refine while_by (fun σ H1 => ∃ x y : Int, σ = [some (.int x), some (.int y)] ∧ Int.gcd x y = Int.gcd a b ∧ H1 = H) (fun σ _ => match σ with | [_, some (.int y)] => y.natAbs | _ => 0) ⟨a, b, rfl, rfl, rfl⟩ ?_ ?_
    · rintro σ H1 ⟨x, y, rfl, e, rfl⟩
      refine ⟨.int y, rfl, rfl, _, rfl, ?_⟩
      by_cases hy : y = 0
      · subst hy
        refine iteNS rfl ⟨.int x, rfl, x, rfl, ?_⟩
        have e2 : (if x < 0 then -x else x) = (Int.gcd a b : Int) := by
          rw [← e, Int.gcd_zero_right]
          split <;> omega
        show Q (.int (if x < 0 then -x else x)) H1
        rw [e2]
        exact q
      · rw [decide_eq_false (fun z => hy (V.int.inj z))]
        refine iteT ⟨.int y, rfl, .int x, rfl, .int y, rfl, x, y, rfl, rfl, hy, _, _, rfl, ⟨y, x.fmod y, rfl, (gcd_fmod x y).trans e, rfl⟩, fmod_less x hy⟩
    · rintro σ H1 Q1 Q2 hm h
      obtain ⟨v, e1, e2, k2, e3, h⟩ := h
      exact ⟨v, e1, e2, k2, e3, hm _ _ h⟩
/-! ### Part.__init__ -/
theorem scInit : FnScope ["self", "top", "bottom", "divisor"] ["self", "top", "bottom"] (defScope sInit) := ⟨rfl, rfl, rfl, by decide +kernel, rfl, by decide +kernel, by decide +kernel⟩
def spInit (C : Addr) : Sp := fun vs H Q _ => ∃ (p dx : Addr) (t b : Int), vs = [.ref p, .int t, .int b] ∧ b ≠ 0 ∧ b.natAbs < 2 ^ 8000 ∧ H p = some (.ins C dx []) ∧ Q .non (upd H p (.ins C dx (pf (Rat.divInt t b))))
theorem ok_init {f f1 f2 : Addr} {fd fd1 fd2 : FuncData} {k : Nat} (F : FunD K "__init__" "Part.__init__" (defArgs sInit) (defBody sInit) (defScope sInit) [.int 1] [] f fd) (N1 : Fn K mg "is_whole" sIsWhole ["thing"] f1 fd1) (N2 : Fn K mg "common_divisor" sDivisor ["one", "other"] f2 fd2) (T : Txt K mg C) :
    FnOk P w K mg base CX0 (k + 2) f fd ["self", "top", "bottom"] (spInit C) := by
  have G1 : FnOk P w K mg base CX0 (k + 1) f1 fd1 ["thing"] spWhole := ok_whole N1.F T
  have G2 : FnOk P w K mg base CX0 (k + 1) f2 fd2 ["one", "other"] spDivisor := ok_divisor N2.F T
  refine F.ok scInit (fun vs H Q E h => ?_) (fun cdv A outer s H vs Q E hr h => ?_)
  · obtain ⟨p, dx, t, b, rfl, _⟩ := h
    rfl
  · obtain ⟨p, dx, t, b, rfl, hb, hb2, hp, q⟩ := h
    have nd := scInit.nd
    refine ⟨_, PSs.nox (pss_cons (ps_if (pt_not (pt_val (pe_call G1 hr (by rfl) N1.g N1.F.kp N1.b .nil pass0 (pa_cons (pv 1) pa_nil)))) (pss_one ps_never) pss_nil)
      (pss_cons (ps_if (pt_not (pt_val (pe_call G1 hr (by rfl) N1.g N1.F.kp N1.b .nil pass0 (pa_cons (pv 2) pa_nil)))) (pss_one ps_never) pss_nil)
      (pss_cons (ps_if (pt_cmpR op_eq (pv 2) pe_int (nomark _)) (pss_one ps_never) pss_nil)
      (pss_cons (ps_set (i := 3) nd rfl (.inl rfl) (pe_call G2 hr (by rfl) N2.g N2.F.kp N2.b .nil pass0 (pa_cons (pv 1) (pa_cons (pv 2) pa_nil))))
      (pss_cons (ps_if (pt_cmpR op_lt (pv 2) pe_int (nomark _)) (pss_one (ps_set (i := 3) nd rfl (.inl rfl) (pe_un un_neg (pv 3)))) pss_nil)
      (pss_cons (ps_fld (pv 0) (pe_op op_fdivWN (pv 1) (pv 3)) rfl)
      (pss_one (ps_fld (pv 0) (pe_op op_fdivWN (pv 2) (pv 3)) rfl)))))))), ?_⟩
    refine ⟨.int t, rfl, t, rfl, true, rfl, iteF ⟨.int b, rfl, b, rfl, true, rfl, iteF ⟨.int b, rfl, rfl, _, rfl, ?_⟩⟩⟩
    rw [decide_eq_false (fun z => hb (V.int.inj z))]
    refine iteF ⟨.int t, rfl, .int b, rfl, t, b, rfl, ?_⟩
    have hg := gcd_pos (t := t) hb
    have hgl : (Int.gcd t b).log2 < 9000 := by
      have h1 : Int.gcd t b ≤ b.natAbs := Nat.le_of_dvd (by omega) (Int.gcd_dvd_natAbs_right ..)
      exact Nat.lt_of_lt_of_le (PySem.Flt.log2_lt_of (by decide) (Nat.lt_of_le_of_lt h1 hb2)) (by decide)
    have fin : ∀ g : Int, g = (if b < 0 then -(Int.gcd t b : Int) else (Int.gcd t b : Int)) → CDivWN t g ∧ CDivWN b g := fun g e => by
      have e2 : g.natAbs = Int.gcd t b := by
        rw [e]
        split <;> omega
      unfold CDivWN
      rw [e2]
      exact ⟨⟨by omega, hgl⟩, ⟨by omega, hgl⟩⟩
    have done : ∀ g : Int, g = (if b < 0 then -(Int.gcd t b : Int) else (Int.gcd t b : Int)) → Q .non (upd (upd H p (.ins C dx (putF "top" (.int (t.fdiv g)) []))) p (.ins C dx (putF "bottom" (.int (b.fdiv g)) (putF "top" (.int (t.fdiv g)) [])))) := fun g e => by
      rw [upd_upd, e, low_num hb, low_den hb]
      exact q
    refine ⟨.int b, rfl, _, _, rfl, rfl, _, rfl, ite2 (fun e => ?_) (fun e => ?_)⟩
    · have e : b < 0 := of_decide_eq_true e
      have eg : -(Int.gcd t b : Int) = (if b < 0 then -(Int.gcd t b : Int) else (Int.gcd t b : Int)) := (if_pos e).symm
      obtain ⟨c1, c2⟩ := fin _ eg
      refine ⟨_, rfl, _, rfl, ?_⟩
      refine ⟨.int t, rfl, _, rfl, t, _, rfl, rfl, c1, .ref p, rfl, p, C, dx, _, rfl, hp, T.ins.cl, T.nT, (by show 0 < 1000; decide), ?_⟩
      exact ⟨.int b, rfl, _, rfl, b, _, rfl, rfl, c2, .ref p, rfl, p, C, dx, _, rfl, upd_same, T.ins.cl, T.nB, (by show 1 < 1000; decide), done _ eg⟩
    · have e : ¬ b < 0 := fun z => e (decide_eq_true z)
      have eg : (Int.gcd t b : Int) = (if b < 0 then -(Int.gcd t b : Int) else (Int.gcd t b : Int)) := (if_neg e).symm
      obtain ⟨c1, c2⟩ := fin _ eg
      refine ⟨.int t, rfl, _, rfl, t, _, rfl, rfl, c1, .ref p, rfl, p, C, dx, _, rfl, hp, T.ins.cl, T.nT, (by show 0 < 1000; decide), ?_⟩
      exact ⟨.int b, rfl, _, rfl, b, _, rfl, rfl, c2, .ref p, rfl, p, C, dx, _, rfl, upd_same, T.ins.cl, T.nB, (by show 1 < 1000; decide), done _ eg⟩
/-! ### the methods -/
/-- what a Part is made with: its class, its __init__ and how that binds -/
structure Mks (K : PySem.W.Frag) (mg : Str → Option Value) (C fi f1 f2 : Addr) (gi g1 g2 : FuncData) (d1 : Value) : Prop where
  M : Mk K C fi
  F : FunD K "__init__" "Part.__init__" (defArgs sInit) (defBody sInit) (defScope sInit) [.int 1] [] fi gi
  b3 : Binds K gi ["self", "top", "bottom"] []
  b2 : Binds K gi ["self", "top", "bottom"] [d1]
  r1 : RelV (.int 1) d1
  N1 : Fn K mg "is_whole" sIsWhole ["thing"] f1 g1
  N2 : Fn K mg "common_divisor" sDivisor ["one", "other"] f2 g2
/-- a new Part, behind H -/
def New (C : Addr) (H : Hp) (q : Rat) (Q : VK) : Prop := ∀ H' p, Same H H' → H p = none → PA C H' p q → Q (.ref p) H'
theorem made {C : Addr} {H : Hp} {t b : Int} {Q : VK} {E : XK} (hb : b ≠ 0) (hz : b.natAbs < 2 ^ 8000) (h : New C H (Rat.divInt t b) Q) :
    ∀ x dx, H x = none → H dx = none → dx ≠ x → spInit C (.ref x :: ([.int t, .int b] ++ [])) (upd (upd H dx (.own x)) x (.ins C dx [])) (fun v H2 => v = .non ∧ Q (.ref x) H2) E := by
  intro x dx hx hdx ne
  refine ⟨x, dx, t, b, rfl, hb, hz, upd_same, rfl, ?_⟩
  rw [upd_upd]
  refine h _ _ (fun c o e => ?_) hx ⟨dx, upd_same⟩
  rw [upd_ne (ne_of_none e hx), upd_ne (ne_of_none e hdx)]
  exact e
theorem made1 {C : Addr} {H : Hp} {t : Int} {Q : VK} {E : XK} (h : New C H (Rat.divInt t 1) Q) :
    ∀ x dx, H x = none → H dx = none → dx ≠ x → spInit C (.ref x :: ([.int t] ++ [.int 1])) (upd (upd H dx (.own x)) x (.ins C dx [])) (fun v H2 => v = .non ∧ Q (.ref x) H2) E :=
  made (t := t) (b := 1) (by decide) (Nat.one_lt_two_pow (by decide)) h
def spOp (C : Addr) (ok : Rat → Rat → Prop) (g : Rat → Rat → Rat) : Sp := fun vs H Q _ => ∃ a b q r, vs = [.ref a, .ref b] ∧ PA C H a q ∧ PA C H b r ∧ Sz 4000 q ∧ Sz 3900 r ∧ ok q r ∧ New C H (g q r) Q
theorem den_pos (q : Rat) : 0 < q.den := Nat.pos_of_ne_zero q.den_nz
theorem sz_den {q r : Rat} (h1 : Sz 4000 q) (h2 : Sz 3900 r) : ((q.den : Int) * (r.den : Int)).natAbs < 2 ^ 8000 := by
  have h := wide_lt (i := (q.den : Int)) (j := (r.den : Int)) (a := 4000) (b := 3900) (by simpa using h1.2) (by simpa using h2.2)
  exact Nat.lt_of_lt_of_le h (Nat.pow_le_pow_right (by decide) (by decide))
theorem mulW {i j : Int} (h1 : i.natAbs < 2 ^ 4000) (h2 : j.natAbs < 2 ^ 4000) : CMulW i j := wide_mul h1 h2 (by decide) (by decide) (by decide)
theorem up39 {n : Nat} (h : n < 2 ^ 3900) : n < 2 ^ 4000 := Nat.lt_of_lt_of_le h (Nat.pow_le_pow_right (by decide) (by decide))
theorem scPlus : FnScope ["self", "other"] ["self", "other"] (defScope sPlus) := ⟨rfl, rfl, rfl, by decide +kernel, rfl, by decide +kernel, by decide +kernel⟩
theorem ok_plus {f fi f1 f2 : Addr} {fd gi g1 g2 : FuncData} {d1 : Value} {k : Nat} (F : Fun K "plus" "Part.plus" sPlus f fd) (N : Mks K mg C fi f1 f2 gi g1 g2 d1) (T : Txt K mg C) : FnOk P w K mg base CX0 (k + 4) f fd ["self", "other"] (spOp C (fun _ _ => True) (fun q r => q + r)) := by
  have GI : FnOk P w K mg base CX0 (k + 2) fi gi ["self", "top", "bottom"] (spInit C) := ok_init N.F N.N1 N.N2 T
  refine F.ok scPlus (fun vs H Q E h => ?_) (fun cdv A outer s H vs Q E hr h => ?_)
  · obtain ⟨a, b, q, r, rfl, _⟩ := h
    rfl
  · obtain ⟨a, b, q, r, rfl, ⟨dx, ha⟩, ⟨dy, hb⟩, zq, zr, _, h⟩ := h
    refine ⟨_, pss_one (ps_ret (pe_make N.M GI hr (by rfl) T.mgC N.b3 .nil pass0 (pa_cons (pe_op op_add (pe_op op_mulW (pe_fld (pv 0) rfl) (pe_fld (pv 1) rfl)) (pe_op op_mulW (pe_fld (pv 1) rfl) (pe_fld (pv 0) rfl))) (pa_cons (pe_op op_mulW (pe_fld (pv 0) rfl) (pe_fld (pv 1) rfl)) pa_nil)))), ?_⟩
    refine ⟨.ref a, rfl, a, C, dx, _, _, rfl, ha, T.ins.cl, T.nT, pf_top q, .ref b, rfl, b, C, dy, _, _, rfl, hb, T.ins.cl, T.nB, pf_bottom r, _, _, rfl, rfl, mulW zq.1 (by simpa using up39 zr.2), ?_⟩
    refine ⟨.ref b, rfl, b, C, dy, _, _, rfl, hb, T.ins.cl, T.nT, pf_top r, .ref a, rfl, a, C, dx, _, _, rfl, ha, T.ins.cl, T.nB, pf_bottom q, _, _, rfl, rfl, mulW (up39 zr.1) (by simpa using zq.2), _, _, rfl, rfl, ?_⟩
    refine ⟨.ref a, rfl, a, C, dx, _, _, rfl, ha, T.ins.cl, T.nB, pf_bottom q, .ref b, rfl, b, C, dy, _, _, rfl, hb, T.ins.cl, T.nB, pf_bottom r, _, _, rfl, rfl, mulW (by simpa using zq.2) (by simpa using up39 zr.2), ?_⟩
    refine made (Int.mul_ne_zero (den_ne q) (den_ne r)) (sz_den zq zr) ?_
    rw [← add_eq]
    exact h
theorem scLess : FnScope ["self", "other"] ["self", "other"] (defScope sLess) := ⟨rfl, rfl, rfl, by decide +kernel, rfl, by decide +kernel, by decide +kernel⟩
theorem ok_less {f fi f1 f2 : Addr} {fd gi g1 g2 : FuncData} {d1 : Value} {k : Nat} (F : Fun K "less" "Part.less" sLess f fd) (N : Mks K mg C fi f1 f2 gi g1 g2 d1) (T : Txt K mg C) : FnOk P w K mg base CX0 (k + 4) f fd ["self", "other"] (spOp C (fun _ _ => True) (fun q r => q - r)) := by
  have GI : FnOk P w K mg base CX0 (k + 2) fi gi ["self", "top", "bottom"] (spInit C) := ok_init N.F N.N1 N.N2 T
  refine F.ok scLess (fun vs H Q E h => ?_) (fun cdv A outer s H vs Q E hr h => ?_)
  · obtain ⟨a, b, q, r, rfl, _⟩ := h
    rfl
  · obtain ⟨a, b, q, r, rfl, ⟨dx, ha⟩, ⟨dy, hb⟩, zq, zr, _, h⟩ := h
    refine ⟨_, pss_one (ps_ret (pe_make N.M GI hr (by rfl) T.mgC N.b3 .nil pass0 (pa_cons (pe_op op_sub (pe_op op_mulW (pe_fld (pv 0) rfl) (pe_fld (pv 1) rfl)) (pe_op op_mulW (pe_fld (pv 1) rfl) (pe_fld (pv 0) rfl))) (pa_cons (pe_op op_mulW (pe_fld (pv 0) rfl) (pe_fld (pv 1) rfl)) pa_nil)))), ?_⟩
    refine ⟨.ref a, rfl, a, C, dx, _, _, rfl, ha, T.ins.cl, T.nT, pf_top q, .ref b, rfl, b, C, dy, _, _, rfl, hb, T.ins.cl, T.nB, pf_bottom r, _, _, rfl, rfl, mulW zq.1 (by simpa using up39 zr.2), ?_⟩
    refine ⟨.ref b, rfl, b, C, dy, _, _, rfl, hb, T.ins.cl, T.nT, pf_top r, .ref a, rfl, a, C, dx, _, _, rfl, ha, T.ins.cl, T.nB, pf_bottom q, _, _, rfl, rfl, mulW (up39 zr.1) (by simpa using zq.2), _, _, rfl, rfl, ?_⟩
    refine ⟨.ref a, rfl, a, C, dx, _, _, rfl, ha, T.ins.cl, T.nB, pf_bottom q, .ref b, rfl, b, C, dy, _, _, rfl, hb, T.ins.cl, T.nB, pf_bottom r, _, _, rfl, rfl, mulW (by simpa using zq.2) (by simpa using up39 zr.2), ?_⟩
    refine made (Int.mul_ne_zero (den_ne q) (den_ne r)) (sz_den zq zr) ?_
    rw [← sub_eq]
    exact h
/-! ### lowest, times, over -/
theorem mk_facts {H : Hp} {x dx : Addr} {q : Rat} (hx : H x = none) (hdx : H dx = none) : Same H (upd (upd H dx (.own x)) x (.ins C dx (pf q))) ∧ PA C (upd (upd H dx (.own x)) x (.ins C dx (pf q))) x q := by
  refine ⟨fun c o e => ?_, dx, upd_same⟩
  rw [upd_ne (ne_of_none e hx), upd_ne (ne_of_none e hdx)]
  exact e
/-! ### _law_together -/
theorem pf_set (q r : Rat) : putF "bottom" (.int (q.den : Int)) (putF "top" (.int q.num) (pf r)) = pf q := by
  unfold pf
  simp [putF, tb_]
theorem few_pf (q : Rat) : (pf q).length < 1000 := by
  unfold pf
  simp [putF, tb_]
theorem few_pf1 (q : Rat) (x : V) : (putF "top" x (pf q)).length < 1000 := by
  unfold pf
  simp [putF, tb_]
theorem scLowest : FnScope ["top", "bottom", "result"] ["top", "bottom"] (defScope sLowest) := ⟨rfl, rfl, rfl, by decide +kernel, rfl, by decide +kernel, by decide +kernel⟩
def spLowest (C : Addr) : Sp := fun vs H Q _ => ∃ q : Rat, vs = [.int q.num, .int (q.den : Int)] ∧ New C H q Q
theorem ok_lowest {f fi f1 f2 : Addr} {fd gi g1 g2 : FuncData} {d1 : Value} {k : Nat} (F : Fun K "lowest" "lowest" sLowest f fd) (N : Mks K mg C fi f1 f2 gi g1 g2 d1) (T : Txt K mg C) : FnOk P w K mg base CX0 (k + 4) f fd ["top", "bottom"] (spLowest C) := by
  have GI : FnOk P w K mg base CX0 (k + 2) fi gi ["self", "top", "bottom"] (spInit C) := ok_init N.F N.N1 N.N2 T
  refine F.ok scLowest (fun vs H Q E h => ?_) (fun cdv A outer s H vs Q E hr h => ?_)
  · obtain ⟨q, rfl, _⟩ := h
    rfl
  · obtain ⟨q, rfl, h⟩ := h
    have nd := scLowest.nd
    refine ⟨_, pss_cons (ps_set (i := 2) nd rfl (.inl rfl) (pe_make N.M GI hr (by rfl) T.mgC N.b2 (.cons N.r1 .nil) pass0 (pa_cons pe_int pa_nil)))
      (pss_cons (ps_fld (pv 2) (pv 0) rfl) (pss_cons (ps_fld (pv 2) (pv 1) rfl) (pss_one (ps_ret (pv 2))))), ?_⟩
    intro p dx np hdx ne
    refine ⟨p, dx, 1, 1, rfl, by decide, Nat.one_lt_two_pow (by decide), upd_same, rfl, ?_⟩
    rw [upd_upd]
    refine ⟨.int q.num, rfl, .ref p, rfl, p, C, dx, _, rfl, upd_same, T.ins.cl, T.nT, few_pf _, ?_⟩
    refine ⟨.int (q.den : Int), rfl, .ref p, rfl, p, C, dx, _, rfl, upd_same, T.ins.cl, T.nB, few_pf1 _ _, ?_⟩
    refine ⟨.ref p, rfl, ?_⟩
    rw [upd_upd, upd_upd, pf_set]
    refine h _ p (fun c o e => ?_) np ⟨dx, upd_same⟩
    rw [upd_ne (ne_of_none e np), upd_ne (ne_of_none e hdx)]
    exact e
def spMul (C : Addr) : Sp := fun vs H Q _ => ∃ a b q r, vs = [.ref a, .ref b] ∧ PA C H a q ∧ PA C H b r ∧ Sz 100000 q ∧ Sz 3900 r ∧ (r ≠ 0 ∨ Sz 8000 q) ∧ New C H (q * r) Q
theorem fdiv_le {t : Int} {g n : Nat} (h : t.natAbs < 2 ^ n) (d : (g : Int) ∣ t) : (t.fdiv (g : Int)).natAbs < 2 ^ n := by
  rw [Int.fdiv_eq_ediv_of_dvd d]
  exact Nat.lt_of_le_of_lt (Int.natAbs_ediv_le_natAbs _ _) h
theorem scTimes : FnScope ["self", "other", "first", "second"] ["self", "other"] (defScope sTimes) := ⟨rfl, rfl, rfl, by decide +kernel, rfl, by decide +kernel, by decide +kernel⟩
theorem ok_mul {f fi f1 f2 fz : Addr} {fd gi g1 g2 gz : FuncData} {d1 : Value} {k : Nat} (F : Fun K "times" "Part.times" sTimes f fd) (N : Mks K mg C fi f1 f2 gi g1 g2 d1) (Nz : Fn K mg "lowest" sLowest ["top", "bottom"] fz gz) (T : Txt K mg C) :
    FnOk P w K mg base CX0 (k + 5) f fd ["self", "other"] (spMul C) := by
  have G2 : FnOk P w K mg base CX0 (k + 4) f2 g2 ["one", "other"] spDivisor := ok_divisor N.N2.F T
  have GZ : FnOk P w K mg base CX0 (k + 4) fz gz ["top", "bottom"] (spLowest C) := ok_lowest Nz.F N T
  refine F.ok scTimes (fun vs H Q E h => ?_) (fun cdv A outer s H vs Q E hr h => ?_)
  · obtain ⟨a, b, q, r, rfl, _⟩ := h
    rfl
  · obtain ⟨a, b, q, r, rfl, ⟨dx, ha⟩, ⟨dy, hb⟩, zq, zr, hs, h⟩ := h
    have nd := scTimes.nd
    refine ⟨_, pss_cons (ps_set (i := 2) nd rfl (.inl rfl) (pe_call G2 hr (by rfl) N.N2.g N.N2.F.kp N.N2.b .nil pass0 (pa_cons (pe_fld (pv 0) rfl) (pa_cons (pe_fld (pv 1) rfl) pa_nil))))
      (pss_cons (ps_set (i := 3) nd rfl (.inl rfl) (pe_call G2 hr (by rfl) N.N2.g N.N2.F.kp N.N2.b .nil pass0 (pa_cons (pe_fld (pv 1) rfl) (pa_cons (pe_fld (pv 0) rfl) pa_nil))))
      (pss_one (ps_ret (pe_call GZ hr (by rfl) Nz.g Nz.F.kp Nz.b .nil pass0 (pa_cons (pe_op op_mulW (pe_op op_fdivWN (pe_fld (pv 0) rfl) (pv 2)) (pe_op op_fdivWN (pe_fld (pv 1) rfl) (pv 3)))
        (pa_cons (pe_op op_mulW (pe_op op_fdivWN (pe_fld (pv 0) rfl) (pv 3)) (pe_op op_fdivWN (pe_fld (pv 1) rfl) (pv 2))) pa_nil)))))), ?_⟩
    have p1 := gcd_pos (t := q.num) (den_ne r)
    have p2 := gcd_pos (t := r.num) (den_ne q)
    have l1 : (Int.gcd q.num (r.den : Int)).log2 < 9000 := by
      have h1 : Int.gcd q.num (r.den : Int) ≤ r.den := Nat.le_of_dvd (Nat.pos_of_ne_zero r.den_nz) (Int.gcd_dvd_natAbs_right ..)
      exact Nat.lt_of_lt_of_le (PySem.Flt.log2_lt_of (by decide) (Nat.lt_of_le_of_lt h1 zr.2)) (by decide)
    have l2 : (Int.gcd r.num (q.den : Int)).log2 < 9000 := by
      rcases hs with h0 | h0
      · have h1 : Int.gcd r.num (q.den : Int) ≤ r.num.natAbs := Nat.le_of_dvd (Int.natAbs_pos.mpr fun e => h0 (Rat.num_eq_zero.mp e)) (Int.gcd_dvd_natAbs_left ..)
        exact Nat.lt_of_lt_of_le (PySem.Flt.log2_lt_of (by decide) (Nat.lt_of_le_of_lt h1 zr.1)) (by decide)
      · have h1 : Int.gcd r.num (q.den : Int) ≤ q.den := Nat.le_of_dvd (Nat.pos_of_ne_zero q.den_nz) (Int.gcd_dvd_natAbs_right ..)
        exact Nat.lt_of_lt_of_le (PySem.Flt.log2_lt_of (by decide) (Nat.lt_of_le_of_lt h1 h0.2)) (by decide)
    have c1 : ∀ t : Int, CDivWN t (Int.gcd q.num (r.den : Int) : Int) := fun t => ⟨by omega, l1⟩
    have c2 : ∀ t : Int, CDivWN t (Int.gcd r.num (q.den : Int) : Int) := fun t => ⟨by omega, l2⟩
    refine ⟨.ref a, rfl, a, C, dx, _, _, rfl, ha, T.ins.cl, T.nT, pf_top q, .ref b, rfl, b, C, dy, _, _, rfl, hb, T.ins.cl, T.nB, pf_bottom r, q.num, (r.den : Int), rfl, ?_⟩
    refine ⟨.ref b, rfl, b, C, dy, _, _, rfl, hb, T.ins.cl, T.nT, pf_top r, .ref a, rfl, a, C, dx, _, _, rfl, ha, T.ins.cl, T.nB, pf_bottom q, r.num, (q.den : Int), rfl, ?_⟩
    refine ⟨.ref a, rfl, a, C, dx, _, _, rfl, ha, T.ins.cl, T.nT, pf_top q, _, rfl, _, _, rfl, rfl, c1 _, .ref b, rfl, b, C, dy, _, _, rfl, hb, T.ins.cl, T.nT, pf_top r, _, rfl, _, _, rfl, rfl, c2 _, _, _, rfl, rfl, ?_, ?_⟩
    · exact wide_mul (fdiv_le zq.1 (Int.gcd_dvd_left ..)) (fdiv_le zr.1 (Int.gcd_dvd_left ..)) (by decide) (by decide) (by decide)
    refine ⟨.ref a, rfl, a, C, dx, _, _, rfl, ha, T.ins.cl, T.nB, pf_bottom q, _, rfl, _, _, rfl, rfl, c2 _, .ref b, rfl, b, C, dy, _, _, rfl, hb, T.ins.cl, T.nB, pf_bottom r, _, rfl, _, _, rfl, rfl, c1 _, _, _, rfl, rfl, ?_, ?_⟩
    · exact wide_mul (fdiv_le (t := (q.den : Int)) zq.2 (Int.gcd_dvd_right ..)) (fdiv_le (t := (r.den : Int)) zr.2 (Int.gcd_dvd_right ..)) (by decide) (by decide) (by decide)
    refine ⟨q * r, ?_, h⟩
    show [V.int (_ * _), V.int (_ * _)] = _
    rw [mul_num, mul_den]
theorem ok_times {f fi f1 f2 fz : Addr} {fd gi g1 g2 gz : FuncData} {d1 : Value} {k : Nat} (F : Fun K "times" "Part.times" sTimes f fd) (N : Mks K mg C fi f1 f2 gi g1 g2 d1) (Nz : Fn K mg "lowest" sLowest ["top", "bottom"] fz gz) (T : Txt K mg C) :
    FnOk P w K mg base CX0 (k + 5) f fd ["self", "other"] (spOp C (fun _ _ => True) (fun q r => q * r)) :=
  (ok_mul F N Nz T).imp fun vs H Q E ⟨a, b, q, r, e, ha, hb, zq, zr, _, h⟩ => ⟨a, b, q, r, e, ha, hb, zq.mono (by decide), zr, .inr (zq.mono (by decide)), h⟩
def spDiv (C : Addr) : Sp := fun vs H Q _ => ∃ a b q r, vs = [.ref a, .ref b] ∧ PA C H a q ∧ PA C H b r ∧ Sz 100000 q ∧ Sz 3900 r ∧ r ≠ 0 ∧ New C H (q / r) Q
theorem scOver : FnScope ["self", "other"] ["self", "other"] (defScope sOver) := ⟨rfl, rfl, rfl, by decide +kernel, rfl, by decide +kernel, by decide +kernel⟩
theorem no_times (q : Rat) : (pf q).lookup ("times" : Str) = none := pf_no q (by decide +kernel) (by decide +kernel)
theorem ok_div {f fi f1 f2 fz ft : Addr} {fd gi g1 g2 gz gt : FuncData} {d1 : Value} {k : Nat} (F : Fun K "over" "Part.over" sOver f fd) (N : Mks K mg C fi f1 f2 gi g1 g2 d1) (Nz : Fn K mg "lowest" sLowest ["top", "bottom"] fz gz) (Ft : Fun K "times" "Part.times" sTimes ft gt) (bt : Binds K gt ["self", "other"] []) (mt : Meth K C "times" ft) (T : Txt K mg C) :
    FnOk P w K mg base CX0 (k + 6) f fd ["self", "other"] (spDiv C) := by
  have GI : FnOk P w K mg base CX0 (k + 4) fi gi ["self", "top", "bottom"] (spInit C) := ok_init N.F N.N1 N.N2 T
  have GT : FnOk P w K mg base CX0 (k + 5) ft gt ["self", "other"] (spMul C) := ok_mul Ft N Nz T
  refine F.ok scOver (fun vs H Q E h => ?_) (fun cdv A outer s H vs Q E hr h => ?_)
  · obtain ⟨a, b, q, r, rfl, _⟩ := h
    rfl
  · obtain ⟨a, b, q, r, rfl, ⟨dx, ha⟩, ⟨dy, hb⟩, zq, zr, hr0, h⟩ := h
    have hn0 : r.num ≠ 0 := fun e => hr0 (Rat.num_eq_zero.mp e)
    have up : ∀ {n : Nat}, n < 2 ^ 3900 → n < 2 ^ 8000 := fun h => Nat.lt_of_lt_of_le h (Nat.pow_le_pow_right (by decide) (by decide))
    refine ⟨_, pss_one (ps_ret (pe_meth (pv 0) T.ins.cl mt GT hr bt .nil pass0 (pa_cons (pe_make N.M GI hr (by rfl) T.mgC N.b3 .nil pass0 (pa_cons (pe_fld (pv 1) rfl) (pa_cons (pe_fld (pv 1) rfl) pa_nil))) pa_nil))), ?_⟩
    refine ⟨.ref a, rfl, a, dx, _, rfl, ha, no_times q, ?_⟩
    refine ⟨.ref b, rfl, b, C, dy, _, _, rfl, hb, T.ins.cl, T.nB, pf_bottom r, .ref b, rfl, b, C, dy, _, _, rfl, hb, T.ins.cl, T.nT, pf_top r, ?_⟩
    intro p dz np hdz ne
    refine ⟨p, dz, (r.den : Int), r.num, rfl, hn0, up zr.1, upd_same, rfl, ?_⟩
    rw [upd_upd]
    obtain ⟨s1, pa⟩ := mk_facts (C := C) (q := Rat.divInt (r.den : Int) r.num) np hdz
    generalize upd (upd H dz (.own p)) p (.ins C dz (pf (Rat.divInt (r.den : Int) r.num))) = H1 at s1 pa
    have er : Rat.divInt (r.den : Int) r.num = r⁻¹ := (Rat.inv_def r).symm
    have z1 : Sz 3900 (Rat.divInt (r.den : Int) r.num) := sz_divInt hn0 zr.2 zr.1
    rw [er] at pa z1
    refine ⟨a, p, q, r⁻¹, rfl, PA.same s1 ⟨dx, ha⟩, pa, zq, z1, .inl ?_, fun H2 p2 s2 n2 pa2 => ?_⟩
    · intro e
      refine hr0 ?_
      rw [← Rat.inv_inv r, e]
      exact Rat.inv_zero
    · refine h H2 p2 (s1.trans s2) (s1.free n2) ?_
      rw [Rat.div_def]
      exact pa2
theorem ok_over {f fi f1 f2 fz ft : Addr} {fd gi g1 g2 gz gt : FuncData} {d1 : Value} {k : Nat} (F : Fun K "over" "Part.over" sOver f fd) (N : Mks K mg C fi f1 f2 gi g1 g2 d1) (Nz : Fn K mg "lowest" sLowest ["top", "bottom"] fz gz) (Ft : Fun K "times" "Part.times" sTimes ft gt) (bt : Binds K gt ["self", "other"] []) (mt : Meth K C "times" ft) (T : Txt K mg C) :
    FnOk P w K mg base CX0 (k + 6) f fd ["self", "other"] (spOp C (fun _ r => r ≠ 0) (fun q r => q / r)) :=
  (ok_div F N Nz Ft bt mt T).imp fun vs H Q E ⟨a, b, q, r, e, ha, hb, zq, zr, h0, h⟩ => ⟨a, b, q, r, e, ha, hb, zq.mono (by decide), zr, h0, h⟩
theorem scBelow : FnScope ["self", "other"] ["self", "other"] (defScope sBelow) := ⟨rfl, rfl, rfl, by decide +kernel, rfl, by decide +kernel, by decide +kernel⟩
def spTell (C : Addr) (g : Rat → Rat → Bool) : Sp := fun vs H Q _ => ∃ a b q r, vs = [.ref a, .ref b] ∧ PA C H a q ∧ PA C H b r ∧ Sz 4000 q ∧ Sz 4000 r ∧ Q (.bl (g q r)) H
theorem ok_below {f : Addr} {fd : FuncData} {k : Nat} (F : Fun K "is_below" "Part.is_below" sBelow f fd) (T : Txt K mg C) : FnOk P w K mg base CX0 (k + 1) f fd ["self", "other"] (spTell C fun q r => decide (q < r)) := by
  refine F.ok scBelow (fun vs H Q E h => ?_) (fun cdv A outer s H vs Q E hr h => ?_)
  · obtain ⟨a, b, q, r, rfl, _⟩ := h
    rfl
  · obtain ⟨a, b, q, r, rfl, ⟨dx, ha⟩, ⟨dy, hb⟩, zq, zr, h⟩ := h
    refine ⟨_, pss_one (ps_ret (pe_cmpR op_lt (pe_op op_mulW (pe_fld (pv 0) rfl) (pe_fld (pv 1) rfl)) (pe_op op_mulW (pe_fld (pv 1) rfl) (pe_fld (pv 0) rfl)) (nomark _))), ?_⟩
    refine ⟨.ref a, rfl, a, C, dx, _, _, rfl, ha, T.ins.cl, T.nT, pf_top q, .ref b, rfl, b, C, dy, _, _, rfl, hb, T.ins.cl, T.nB, pf_bottom r, _, _, rfl, rfl, mulW zq.1 (by simpa using zr.2), ?_⟩
    refine ⟨.ref b, rfl, b, C, dy, _, _, rfl, hb, T.ins.cl, T.nT, pf_top r, .ref a, rfl, a, C, dx, _, _, rfl, ha, T.ins.cl, T.nB, pf_bottom q, _, _, rfl, rfl, mulW zr.1 (by simpa using zq.2), _, _, rfl, rfl, ?_⟩
    have e : decide (q.num * (r.den : Int) < r.num * (q.den : Int)) = decide (q < r) := by
      by_cases hl : q < r
      · rw [decide_eq_true hl, decide_eq_true ((Rat.lt_iff q r).mp hl)]
      · rw [decide_eq_false hl, decide_eq_false fun z => hl ((Rat.lt_iff q r).mpr z)]
    show Q (.bl (decide (q.num * (r.den : Int) < r.num * (q.den : Int)))) H
    rw [e]
    exact h
theorem scEq : FnScope ["self", "other"] ["self", "other"] (defScope sEq) := ⟨rfl, rfl, rfl, by decide +kernel, rfl, by decide +kernel, by decide +kernel⟩
theorem ok_eq {f : Addr} {fd : FuncData} {k : Nat} (F : Fun K "__eq__" "Part.__eq__" sEq f fd) (T : Txt K mg C) : FnOk P w K mg base CX0 (k + 1) f fd ["self", "other"] (fun vs H Q _ => ∃ a b q r, vs = [.ref a, .ref b] ∧ PA C H a q ∧ PA C H b r ∧ Q (.bl (decide (q = r))) H) := by
  refine F.ok scEq (fun vs H Q E h => ?_) (fun cdv A outer s H vs Q E hr h => ?_)
  · obtain ⟨a, b, q, r, rfl, _⟩ := h
    rfl
  · obtain ⟨a, b, q, r, rfl, ⟨dx, ha⟩, ⟨dy, hb⟩, h⟩ := h
    refine ⟨_, pss_one (ps_ret (pe_and (pe_callB (call_isC T.ins) (by rfl) T.isi (by decide +kernel) (pa_cons (pv 1) (pa_cons (pe_glob (v := .ref C) (by rfl) T.mgC rfl) pa_nil)))
      (pe_and (pe_cmpR op_eq (pe_fld (pv 0) rfl) (pe_fld (pv 1) rfl) (nomark _)) (pe_one (pe_cmpR op_eq (pe_fld (pv 0) rfl) (pe_fld (pv 1) rfl) (nomark _)))))), ?_⟩
    refine ⟨.ref b, rfl, b, dy, _, rfl, hb, true, rfl, ?_⟩
    refine ⟨.ref a, rfl, a, C, dx, _, _, rfl, ha, T.ins.cl, T.nT, pf_top q, .ref b, rfl, b, C, dy, _, _, rfl, hb, T.ins.cl, T.nT, pf_top r, rfl, _, rfl, ?_⟩
    by_cases e1 : q.num = r.num
    · rw [decide_eq_true (show V.int q.num = V.int r.num by rw [e1])]
      refine ⟨.ref a, rfl, a, C, dx, _, _, rfl, ha, T.ins.cl, T.nB, pf_bottom q, .ref b, rfl, b, C, dy, _, _, rfl, hb, T.ins.cl, T.nB, pf_bottom r, rfl, ?_⟩
      have e : decide (V.int (q.den : Int) = V.int (r.den : Int)) = decide (q = r) := by
        by_cases e2 : q.den = r.den
        · rw [decide_eq_true (show V.int (q.den : Int) = V.int (r.den : Int) by rw [e2]), decide_eq_true (Rat.ext e1 e2)]
        · rw [decide_eq_false fun z => e2 (by have := V.int.inj z; omega), decide_eq_false fun z => e2 (by rw [z])]
      show Q (.bl (decide (V.int (q.den : Int) = V.int (r.den : Int)))) H
      rw [e]
      exact h
    · rw [decide_eq_false fun z => e1 (V.int.inj z)]
      rw [decide_eq_false (show ¬ q = r from fun z => e1 (by rw [z]))] at h
      exact h
end
end Hop

set_option Elab.async false
set_option linter.all false
set_option maxRecDepth 100000
namespace HopR
open PySem PySem.Spec PyProof.Rows L2
section
variable {X : Cx}
/-! ### xs[lo:hi:st] -/
def sliceIx (n : Nat) (lo hi : Option Int) (st : Int) : List Nat := sliceRange (sliceBounds lo hi (some st) n).1 (sliceBounds lo hi (some st) n).2.1 (sliceBounds lo hi (some st) n).2.2
def pick {α : Type} (xs : List α) (ix : List Nat) : List α := ix.filterMap (xs[·]?)
theorem vals_pick {xs : List V} {its : List Value} (r : Vals xs its) : ∀ ix : List Nat, Vals (pick xs ix) (pick its ix)
  | [] => .nil
  | i :: q => by
    unfold pick
    rw [List.filterMap_cons, List.filterMap_cons]
    cases e : xs[i]? with
    | none =>
      rw [Vals.none_of r e]
      exact vals_pick r q
    | some x =>
      obtain ⟨u, e2, ru⟩ := Vals.get r e
      rw [e2]
      exact .cons ru (vals_pick r q)
def tSl3 (K : PySem.W.Frag) (te : TE) (tl th ts : TO) : TE := fun σ H Q => te σ H fun x H1 => tl σ H1 fun lo H2 => th σ H2 fun hi H3 => ts σ H3 fun st H4 => ∃ a xs c, x = .ref a ∧ st = some c ∧ c ≠ 0 ∧ SqL K H4 a xs ∧ (pick xs (sliceIx xs.length lo hi c)).length ≤ sizeLine ∧
  ∀ p, H4 p = none → Q (.ref p) (upd H4 p (.lst (pick xs (sliceIx xs.length lo hi c))))
theorem pe_slice3 {e : Expr} {te : TE} {lo hi : Option Expr} {se : Expr} {tl th ts : TO} {p3 pos : Pos} (he : PE X e te) (hl : PO X lo tl) (hu : PO X hi th) (hs : PO X (some se) ts) : PE X (.Subscript e (.Slice lo hi (some se) p3) pos) (tSl3 X.K te tl th ts) := by
  refine ⟨fun pins s σ H Q I h => Subscript_ (thn (he.run pins s σ H _ I h) fun v s1 ⟨x, H1, I1, r1, q1⟩ => ?_)⟩
  refine wpAny_Slice (thn (hl.run pins s1 σ H1 _ I1 q1) fun vl s2 ⟨l, H2, I2, pl, q2⟩ => thn (hu.run pins s2 σ H2 _ I2 q2) fun vu s3 ⟨u, H3, I3, pu, q3⟩ => thn (hs.run pins s3 σ H3 _ I3 q3) fun vs s4 ⟨st, H4, I4, ps, a, xs, c, ex, es, hc, hx, hz, q⟩ => ?_)
  subst ex
  subst es
  cases r1
  have I5 : Inv X pins σ H4 { s4 with heap := s4.heap.push { cls := .type "slice", data := .fields #[vl, vu, vs] } } := I4.kept (t' := s4.toks) fun b ob qq => Heap.get?_push_of_some _ qq
  obtain ⟨its, r, ht, hz2⟩ := I5.list hx
  have hlen := r.length
  show wpAny (model X.prog X.w) X.A (subscriptTail e (.Slice lo hi (some se) p3) (.ref a) (.ref s4.heap.objs.size)) (EP X pins σ Q) X.xe { s4 with heap := s4.heap.push { cls := .type "slice", data := .fields #[vl, vu, vs] } }
  refine tail_any (ops := [.ref a, .ref s4.heap.objs.size]) ht.isList.typeIs (PySem.slot_list_getitem.lookup) ?_ (by with_unfolding_all rfl)
  refine wpAny_getItem_list_slice ht.isList (Heap.IsSliceOf.new _ vl vu vs) pl pu ps (fun z => hc (Option.some.inj z)) ?_ (by rw [List.size_toArray]; omega)
  have e1 : slicePick its.toArray l u (some c) = (pick its (sliceIx xs.length l u c)).toArray := by
    unfold slicePick pick sliceIx
    rw [List.size_toArray, ← hlen]
    simp only [List.getElem?_toArray]
  rw [e1]
  refine ⟨.ref _, _, I5.laid (t' := s4.toks) (o := .lst (pick xs (sliceIx xs.length l u c))) (fun b ob qq => Heap.get?_push_of_some _ qq) (Nat.le_refl _) ?_, rfl, q _ (I5.hok.fresh (Nat.le_refl _))⟩
  exact ⟨hz, _, 0, vals_pick r _, Heap.get?_push_size _ rfl⟩
/-! ### xs.count(y), flat items -/
def rCntV (K : PySem.W.Frag) : V → List V → Hp → VK → Prop := fun x xs H Q => ∃ (p : Addr) (ys : List V) (y : V), x = .ref p ∧ xs = [y] ∧ SqL K H p ys ∧ flatV y = true ∧ ys.all flatV = true ∧ Q (.int ((ys.countP fun z => eqV z y : Nat) : Int)) H
theorem countU {y : V} : ∀ {ys : List V} {its : List Value}, Vals ys its → ys.all flatV = true → its.countP (eqU y) = ys.countP fun z => eqV z y
  | _, _, .nil, _ => rfl
  | _, _, .cons (a := z) r t, f => by
    rw [List.all_cons, Bool.and_eq_true] at f
    rw [List.countP_cons, List.countP_cons, countU t f.2, eqU_of r f.1]
theorem mt_countV : MtR X "list.count" (rCntV X.K) := by
  intro pins s σ H x xs v us Q I rx rxs h
  obtain ⟨p, ys, y, rfl, rfl, hs, fy, fys, q⟩ := h
  cases rx
  obtain ⟨uy, rfl, ry⟩ := rxs.one
  obtain ⟨its, rv, ⟨⟨cls, dd, data, sl⟩, n, ho, hc, hdn, hd⟩, hlen⟩ := I.list hs
  simp only at hc hd
  subst hc hd
  refine call_meets PySem.F.slot_list_count ⟨_, ho, rfl⟩ PySem.F.entry_list_count (PySem.F.args_list_count_2 _ _)
    (SeqAt.list_countAt p its.toArray n dd sl uy (eqU y)) ⟨ho, fun u' hu' => mem_eqAt ry fy rv fys u' (by simpa using hu'), ?_⟩
  refine ⟨.int ((ys.countP fun z => eqV z y : Nat) : Int), H, I.tok _, ⟨s.toks, ?_⟩, q⟩
  show Value.int ((its.toArray.toList.countP (eqU y) : Nat) : Int) s.toks = _
  rw [List.toList_toArray, countU rv fys]
end
/-! ### every second one -/
def ev {α : Type} : List α → List α
  | [] => []
  | [x] => [x]
  | x :: _ :: r => x :: ev r
theorem pick_ev {α : Type} : ∀ (xs : List α) (m : Nat), m = (xs.length + 1) / 2 → pick xs ((List.range m).map fun k => 2 * k) = ev xs
  | [], m, e => by
    have : m = 0 := by simpa using e
    subst this
    rfl
  | [x], m, e => by
    have : m = 1 := by simpa using e
    subst this
    rfl
  | x :: y :: r, m, e => by
    obtain ⟨m', rfl⟩ : ∃ m', m = m' + 1 := ⟨(r.length + 1) / 2, by rw [e, List.length_cons, List.length_cons]; omega⟩
    have e' : m' = (r.length + 1) / 2 := by
      rw [List.length_cons, List.length_cons] at e
      omega
    rw [List.range_succ_eq_map, List.map_cons, List.map_map]
    unfold pick
    rw [List.filterMap_cons]
    show x :: _ = x :: ev r
    rw [← pick_ev r m' e']
    unfold pick
    rw [List.filterMap_map, List.filterMap_map]
    congr 1
theorem ix_ev (n : Nat) : sliceIx n none none 2 = (List.range ((n + 1) / 2)).map fun k => 2 * k := by
  unfold sliceIx sliceBounds sliceRange
  simp only [Option.getD_some, show ((2 : Int) > 0) = True from by simp, if_true]
  by_cases h : (0 : Int) < n
  · rw [if_pos h]
    have e : (((n : Int) - 0 + 2 - 1) / 2).toNat = (n + 1) / 2 := by omega
    rw [e]
    apply List.map_congr_left
    intro k _
    omega
  · rw [if_neg h]
    have : n = 0 := by omega
    subst this
    rfl
theorem ix_od (n : Nat) (h : 1 ≤ n) : sliceIx n (some 1) none 2 = (List.range (n / 2)).map fun k => 1 + 2 * k := by
  unfold sliceIx sliceBounds sliceRange
  simp only [Option.getD_some, show ((2 : Int) > 0) = True from by simp, if_true, show ¬ ((1 : Int) < 0) from by decide, if_false]
  have e0 : max (0 : Int) (min 1 (n : Int)) = 1 := by omega
  rw [e0]
  by_cases h : (1 : Int) < n
  · rw [if_pos h]
    have e : (((n : Int) - 1 + 2 - 1) / 2).toNat = n / 2 := by omega
    rw [e]
    apply List.map_congr_left
    intro k _
    omega
  · rw [if_neg h]
    have : n = 1 := by omega
    subst this
    rfl
theorem pick_od {α : Type} (x : α) (r : List α) : pick (x :: r) ((List.range ((x :: r).length / 2)).map fun k => 1 + 2 * k) = ev r := by
  rw [← pick_ev r ((r.length + 1) / 2) rfl]
  unfold pick
  rw [List.filterMap_map, List.filterMap_map, List.length_cons]
  congr 1
  funext k
  show (x :: r)[1 + 2 * k]? = r[2 * k]?
  rw [Nat.add_comm]
  rfl
end HopR

set_option Elab.async false
set_option linter.all false
set_option maxRecDepth 100000
namespace Hop
open PySem L2 HopR
open C8 (InsC call_isC)
abbrev sDrawn : Stmt := top 15
abbrev sLPart : Stmt := top 16
abbrev sTogether : Stmt := top 17
abbrev sBack : Stmt := top 18
abbrev sLaw : Stmt := top 19
/-! ### the draws -/
def dval (left : Int) (k : Nat) (z : Int) : Int :=
  if (1000000000000000000 : Int) ≤ left then left % z
  else
    let small := left % 1000000000000000000
    let one := (small + 7 * (k : Int) + 1) * (48271 + 2 * (k : Int) * (k : Int)) % 2147483647
    let two := (small / 3 + 11 * (k : Int) + 5) * (39373 + 6 * (k : Int)) % 2147483629
    (one * two + one / 64) % z
def dleft (left : Int) (z : Int) : Int := if (1000000000000000000 : Int) ≤ left then left / z else left
def draws : Int → Nat → List Int → List Int
  | _, _, [] => []
  | left, k, z :: r => dval left k z :: draws (dleft left z) (k + 1) r
theorem draws_len : ∀ (zs : List Int) (c : Int) (k : Nat), (draws c k zs).length = zs.length
  | [], _, _ => rfl
  | z :: r, c, k => by
    show (draws (dleft c z) (k + 1) r).length + 1 = r.length + 1
    rw [draws_len r]
theorem dval_ok {c : Int} {k : Nat} {z : Int} (h : 0 < z) : 0 ≤ dval c k z ∧ dval c k z < z := by
  unfold dval
  split
  · exact ⟨Int.emod_nonneg _ (by omega), Int.emod_lt_of_pos _ h⟩
  · exact ⟨Int.emod_nonneg _ (by omega), Int.emod_lt_of_pos _ h⟩
theorem draws_ok : ∀ (zs : List Int) (c : Int) (k : Nat), (∀ z ∈ zs, 0 < z) → ∀ (i : Nat) (d z : Int), (draws c k zs)[i]? = some d → zs[i]? = some z → 0 ≤ d ∧ d < z
  | [], _, _, _, i, d, z, _, h => by simp at h
  | y :: r, c, k, hp, 0, d, z, h1, h2 => by
    have e1 : dval c k y = d := Option.some.inj h1
    have e2 : y = z := Option.some.inj h2
    subst e1 e2
    exact dval_ok (hp y (List.mem_cons_self ..))
  | y :: r, c, k, hp, i + 1, d, z, h1, h2 => draws_ok r _ _ (fun q hq => hp q (List.mem_cons_of_mem _ hq)) i d z h1 h2
/-- the size of a draw is one that is reckoned with -/
def SizeOk (z : Int) : Prop := 0 < z ∧ z < 18446744073709551616
def spDrawn (K : PySem.W.Frag) : Sp := fun vs H Q _ => ∃ (c : Int) (a : Addr) (zs : List Int), vs = [.int c, .ref a] ∧ SqL K H a (zs.map V.int) ∧ (∀ z ∈ zs, SizeOk z) ∧ zs.length ≤ 1000 ∧
  ∀ H' p, Same H H' → H p = none → H' p = some (.lst ((draws c 0 zs).map V.int)) → Q (.ref p) H'
structure TxtD (mg : Str → Option Value) : Prop where
  len : mg "len" = none
  range : mg "range" = none
theorem scDrawn : FnScope ["_law_cell", "_law_sizes", "_law_found", "_law_left", "_law_k", "_law_small", "_law_one", "_law_two"] ["_law_cell", "_law_sizes"] (defScope sDrawn) := ⟨rfl, rfl, rfl, by decide +kernel, rfl, by decide +kernel, by decide +kernel⟩
section
variable {P : Program} {w : World} {K : PySem.W.Frag} {mg : Str → Option Value} {base : Heap}
theorem ok_drawn {f : Addr} {fd : FuncData} {k : Nat} (F : Fun K "_law_drawn" "_law_drawn" sDrawn f fd) (T : TxtD mg) : FnOk P w K mg base CX0 (k + 1) f fd ["_law_cell", "_law_sizes"] (spDrawn K) := by
  refine F.ok scDrawn (fun vs H Q E h => ?_) (fun cdv A outer s H vs Q E hr h => ?_)
  · obtain ⟨c, a, zs, rfl, _⟩ := h
    rfl
  · obtain ⟨c, a, zs, rfl, hS, hz, hlen, q⟩ := h
    have nd := scDrawn.nd
    refine ⟨_, pss_cons (ps_set (i := 2) nd rfl (.inl rfl) (pe_lst pa_nil))
      (pss_cons (ps_set (i := 3) nd rfl (.inl rfl) (pv 0))
      (pss_cons (ps_for PassesOwn.never rfl (pi_range1 (by rfl) T.range (pa_cons (pe_callB call_len_seq (by rfl) T.len PySem.boot_len (pa_cons (pv 1) pa_nil)) pa_nil)) (pg_name (i := 4) nd rfl (.inl rfl))
        (pss_one (ps_if (pt_cmpR op_ge (pv 3) (pe_op op_pow pe_int pe_int) (nomark _))
          (pss_cons (ps_expr (pe_bm PySem.F.plainAttrs_list PySem.F.slot_list_append PySem.F.type_list_append mt_append (pv 2) (pa_cons (pe_op op_mod (pv 3) (pe_ix ix_list (pv 1) (pv 4) (fun _ _ => rfl))) pa_nil)))
            (pss_one (ps_set (i := 3) nd rfl (.inl rfl) (pe_op op_fdivW (pv 3) (pe_ix ix_list (pv 1) (pv 4) (fun _ _ => rfl))))))
          (pss_cons (ps_set (i := 5) nd rfl (.inl rfl) (pe_op op_mod (pv 3) (pe_op op_pow pe_int pe_int)))
          (pss_cons (ps_set (i := 6) nd rfl (.inl rfl) (pe_op op_mod (pe_op op_mul (pe_op op_add (pe_op op_add (pv 5) (pe_op op_mul pe_int (pv 4))) pe_int) (pe_op op_add pe_int (pe_op op_mul (pe_op op_mul pe_int (pv 4)) (pv 4)))) pe_int))
          (pss_cons (ps_set (i := 7) nd rfl (.inl rfl) (pe_op op_mod (pe_op op_mul (pe_op op_add (pe_op op_add (pe_op op_fdiv (pv 5) pe_int) (pe_op op_mul pe_int (pv 4))) pe_int) (pe_op op_add pe_int (pe_op op_mul pe_int (pv 4)))) pe_int))
          (pss_one (ps_expr (pe_bm PySem.F.plainAttrs_list PySem.F.slot_list_append PySem.F.type_list_append mt_append (pv 2) (pa_cons (pe_op op_mod (pe_op op_add (pe_op op_mul (pv 6) (pv 7)) (pe_op op_fdiv (pv 6) pe_int)) (pe_ix ix_list (pv 1) (pv 4) (fun _ _ => rfl))) pa_nil))))))))))
      (pss_one (ps_ret (pv 2))))), ?_⟩
    -- found = []; left = cell
    refine ⟨Nat.zero_le _, fun o no => ?_⟩
    have s1 : Same H (upd H o (.lst [])) := same_upd no
    refine ⟨.int c, rfl, .ref a, rfl, a, zs.map V.int, rfl, .inl (s1.seq hS), ((zs.map V.int).length : Int), rfl, by omega, (by rw [List.length_map]; omega), ?_⟩
    refine for_range (lo := 0) (n := zs.length) (fun i σ H3 => ∃ (l : Int) (y4 y5 y6 y7 : Option V) (ds : List Int), σ = [some (.int c), some (.ref a), some (.ref o), some (.int l), y4, y5, y6, y7] ∧
        Same H H3 ∧ H3 o = some (.lst (ds.map V.int)) ∧ ds.length = i ∧ ds ++ draws l i (zs.drop i) = draws c 0 zs)
      ⟨c, none, none, none, none, [], rfl, s1, upd_same, rfl, by simp⟩ ?_ ?_ |> (fun h => by rw [List.length_map]; exact h)
    · rintro i σ H3 hi ⟨l, y4, y5, y6, y7, ds, rfl, sm, eo, el, ed⟩
      have hA : SqL K H3 a (zs.map V.int) := sm.seq hS
      have hz1 := hz zs[i] (List.getElem_mem hi)
      have gz : zs[i]? = some zs[i] := List.getElem?_eq_getElem hi
      have g : atI (zs.map V.int) (i : Int) = some (.int zs[i]) := atI_nat (by rw [List.getElem?_map, gz]; rfl)
      have hd : zs.drop i = zs[i] :: zs.drop (i + 1) := List.drop_eq_getElem_cons hi
      rw [hd] at ed
      have ed' : (ds ++ [dval l i zs[i]]) ++ draws (dleft l zs[i]) (i + 1) (zs.drop (i + 1)) = draws c 0 zs := by
        rw [List.append_assoc]
        exact ed
      have small : (ds.map V.int).length < sizeLine := by
        rw [List.length_map]
        exact small1000 (by omega)
      rw [Int.zero_add]
      refine ⟨.int l, rfl, 10, 18, rfl, rfl, ⟨by decide, by decide, by decide⟩, l, 10 ^ 18, rfl, rfl, _, rfl, ite2 (fun e => ?_) (fun e => ?_)⟩
      · have e : (1000000000000000000 : Int) ≤ l := of_decide_eq_true e
        refine ⟨.ref o, rfl, .inl ⟨rfl, _, SqL.of eo⟩, .int l, rfl, .ref a, rfl, .int (i : Int), rfl, a, _, _, _, rfl, rfl, hA, g, l, zs[i], rfl, rfl, hz1.1, o, _, _, rfl, rfl, eo, small, ?_⟩
        have e1 : dval l i zs[i] = l % zs[i] := by
          unfold dval
          rw [if_pos e]
        have e2 : dleft l zs[i] = l / zs[i] := by
          unfold dleft
          rw [if_pos e]
        have sm2 : Same H (upd H3 o (.lst (ds.map V.int ++ [.int (l % zs[i])]))) := same_new no sm
        refine ⟨.int l, rfl, .ref a, rfl, .int (i : Int), rfl, a, _, _, _, rfl, rfl, sm2.seq hS, g, l, zs[i], rfl, rfl, wide_div hz1.1 (b := 64) (by have := hz1.2; have := hz1.1; omega) (by decide) (by decide), ?_⟩
        refine ⟨_, _, _, _, _, ds ++ [dval l i zs[i]], rfl, sm2, ?_, ?_, ?_⟩
        · rw [upd_same, e1, List.map_append]
          rfl
        · rw [List.length_append, el]
          rfl
        · rw [← e2]
          exact ed'
      · have e : ¬ (1000000000000000000 : Int) ≤ l := fun z => e (decide_eq_true z)
        have e2 : dleft l zs[i] = l := by
          unfold dleft
          rw [if_neg e]
        have hi1000 : (i : Int) < 1000 := by omega
        have s0 : 0 ≤ l % 1000000000000000000 := Int.emod_nonneg _ (by decide)
        have s9 : l % 1000000000000000000 < 1000000000000000000 := Int.emod_lt_of_pos _ (by decide)
        refine ⟨.int l, rfl, 10, 18, rfl, rfl, ⟨by decide, by decide, by decide⟩, l, 10 ^ 18, rfl, rfl, (show (0 : Int) < 10 ^ 18 by decide), ?_⟩
        refine ⟨_, rfl, .int (i : Int), rfl, 7, i, rfl, rfl, .inl ⟨by decide, by decide⟩, _, _, rfl, rfl, _, _, rfl, rfl, .int (i : Int), rfl, 2, i, rfl, rfl, .inl ⟨by decide, by decide⟩, .int (i : Int), rfl, _, _, rfl, rfl, .inl ⟨by omega, by omega⟩, _, _, rfl, rfl, _, _, rfl, rfl,
          .inl ⟨by show -(2 ^ 64) < l % 1000000000000000000 + 7 * (i : Int) + 1; omega, by show l % 1000000000000000000 + 7 * (i : Int) + 1 < 2 ^ 64; omega⟩, _, _, rfl, rfl, (show (0 : Int) < 2147483647 by decide), ?_⟩
        refine ⟨_, rfl, _, _, rfl, rfl, ⟨by decide, by decide⟩, .int (i : Int), rfl, 11, i, rfl, rfl, .inl ⟨by decide, by decide⟩, _, _, rfl, rfl, _, _, rfl, rfl, .int (i : Int), rfl, 6, i, rfl, rfl, .inl ⟨by decide, by decide⟩, _, _, rfl, rfl, _, _, rfl, rfl,
          .inl ⟨by show -(2 ^ 64) < l % 1000000000000000000 / 3 + 11 * (i : Int) + 5; omega, by show l % 1000000000000000000 / 3 + 11 * (i : Int) + 5 < 2 ^ 64; omega⟩, _, _, rfl, rfl, (show (0 : Int) < 2147483629 by decide), ?_⟩
        have o0 := Int.emod_nonneg ((l % 1000000000000000000 + 7 * (i : Int) + 1) * (48271 + 2 * (i : Int) * (i : Int))) (show (2147483647 : Int) ≠ 0 by decide)
        have o9 := Int.emod_lt_of_pos ((l % 1000000000000000000 + 7 * (i : Int) + 1) * (48271 + 2 * (i : Int) * (i : Int))) (show (0 : Int) < 2147483647 by decide)
        refine ⟨.ref o, rfl, .inl ⟨rfl, _, SqL.of eo⟩, _, rfl, _, rfl, _, _, rfl, rfl, .inl ⟨Int.lt_of_lt_of_le (by decide) o0, Int.lt_trans o9 (by decide)⟩, _, rfl, _, _, rfl, rfl, ⟨by decide, by decide⟩, _, _, rfl, rfl, .ref a, rfl, .int (i : Int), rfl, a, _, _, _, rfl, rfl, hA, g, _, zs[i], rfl, rfl, hz1.1, o, _, _, rfl, rfl, eo, small, ?_⟩
        have e1 : dval l i zs[i] = ((l % 1000000000000000000 + 7 * (i : Int) + 1) * (48271 + 2 * (i : Int) * (i : Int)) % 2147483647 * ((l % 1000000000000000000 / 3 + 11 * (i : Int) + 5) * (39373 + 6 * (i : Int)) % 2147483629) + (l % 1000000000000000000 + 7 * (i : Int) + 1) * (48271 + 2 * (i : Int) * (i : Int)) % 2147483647 / 64) % zs[i] := by
          unfold dval
          rw [if_neg e]
        refine ⟨_, _, _, _, _, ds ++ [dval l i zs[i]], rfl, same_new no sm, ?_, ?_, ?_⟩
        · rw [upd_same, e1, List.map_append]
          rfl
        · rw [List.length_append, el]
          rfl
        · rw [e2] at ed'
          exact ed'
    · rintro σ H3 ⟨l, y4, y5, y6, y7, ds, rfl, sm, eo, el, ed⟩
      rw [List.drop_length] at ed
      have ed : ds = draws c 0 zs := by
        rw [← ed]
        show ds = ds ++ []
        rw [List.append_nil]
      subst ed
      exact ⟨.ref o, rfl, q H3 o sm no eo⟩

variable {C : Addr}
theorem at2 {α : Type} (a b : α) {x : Int} (h0 : 0 ≤ x) (h2 : x < 2) : atI [a, b] x = some (if x = 0 then a else b) := by
  rcases (show x = 0 ∨ x = 1 by omega) with rfl | rfl
  · rfl
  · rfl
theorem sz_add {n m : Nat} {q r : Rat} (h1 : Sz n q) (h2 : Sz m r) : Sz (n + m + 1) (q + r) := by
  rw [add_eq]
  have a1 := wide_lt (i := q.num) (j := (r.den : Int)) (a := n) (b := m) h1.1 (by simpa using h2.2)
  have a2 := wide_lt (i := r.num) (j := (q.den : Int)) (a := m) (b := n) h2.1 (by simpa using h1.2)
  have a3 := wide_lt (i := (q.den : Int)) (j := (r.den : Int)) (a := n) (b := m) (by simpa using h1.2) (by simpa using h2.2)
  rw [Nat.add_comm m n] at a2
  refine sz_divInt (Int.mul_ne_zero (den_ne q) (den_ne r)) ?_ ?_
  · exact Nat.lt_of_le_of_lt (Int.natAbs_add_le _ _) (two_lt a1 a2)
  · rw [Nat.pow_succ]
    omega
theorem sz_mul {n m : Nat} {q r : Rat} (h1 : Sz n q) (h2 : Sz m r) : Sz (n + m) (q * r) := by
  rw [mul_eq]
  exact sz_divInt (Int.mul_ne_zero (den_ne q) (den_ne r)) (wide_lt h1.1 h2.1) (wide_lt (by simpa using h1.2) (by simpa using h2.2))
/-! ### _law_part -/
theorem scLPart : FnScope ["_law_cell", "_law_draws", "_law_top"] ["_law_cell"] (defScope sLPart) := ⟨rfl, rfl, rfl, by decide +kernel, rfl, by decide +kernel, by decide +kernel⟩
def spLPart (C : Addr) : Sp := fun vs H Q _ => ∃ c : Int, vs = [.int c] ∧ ∀ q, Sz 40 q → New C H q Q
theorem ok_lpart {f fi f1 f2 fw : Addr} {fd gi g1 g2 gw : FuncData} {d1 : Value} {k : Nat} (F : Fun K "_law_part" "_law_part" sLPart f fd) (N : Mks K mg C fi f1 f2 gi g1 g2 d1) (Nw : Fn K mg "_law_drawn" sDrawn ["_law_cell", "_law_sizes"] fw gw) (T : Txt K mg C) :
    FnOk P w K mg base CX0 (k + 4) f fd ["_law_cell"] (spLPart C) := by
  have GI : FnOk P w K mg base CX0 (k + 2) fi gi ["self", "top", "bottom"] (spInit C) := ok_init N.F N.N1 N.N2 T
  have Gd : FnOk P w K mg base CX0 (k + 3) fw gw ["_law_cell", "_law_sizes"] (spDrawn K) := ok_drawn Nw.F ⟨T.len, T.range⟩
  refine F.ok scLPart (fun vs H Q E h => ?_) (fun cdv A outer s H vs Q E hr h => ?_)
  · obtain ⟨c, rfl, _⟩ := h
    rfl
  · obtain ⟨c, rfl, h⟩ := h
    have nd := scLPart.nd
    refine ⟨_, pss_cons (ps_set (i := 1) nd rfl (.inl rfl) (pe_call Gd hr (by rfl) Nw.g Nw.F.kp Nw.b .nil pass0 (pa_cons (pv 0) (pa_cons (pe_lst (pa_cons pe_int (pa_cons pe_int (pa_cons (pe_op op_pow pe_int pe_int) (pa_cons pe_int (pa_cons pe_int (pa_cons (pe_op op_pow pe_int pe_int) (pa_cons pe_int pa_nil)))))))) pa_nil))))
      (pss_cons (ps_set (i := 2) nd rfl (.inl rfl) (pe_op op_mul (pe_ix ix_list (pe_lst (pa_cons (pe_ix ix_list (pv 1) pe_int (fun _ _ => rfl)) (pa_cons (pe_ix ix_list (pv 1) pe_int (fun _ _ => rfl)) pa_nil))) (pe_ix ix_list (pv 1) pe_int (fun _ _ => rfl)) (fun _ _ => rfl))
        (pe_ix ix_list (pe_lst (pa_cons pe_int (pa_cons (pe_un un_neg pe_int) pa_nil))) (pe_ix ix_list (pv 1) pe_int (fun _ _ => rfl)) (fun _ _ => rfl))))
      (pss_one (ps_ret (pe_make N.M GI hr (by rfl) T.mgC N.b3 .nil pass0 (pa_cons (pv 2) (pa_cons (pe_ix ix_list (pe_lst (pa_cons (pe_op op_add pe_int (pe_ix ix_list (pv 1) pe_int (fun _ _ => rfl))) (pa_cons (pe_op op_add pe_int (pe_ix ix_list (pv 1) pe_int (fun _ _ => rfl))) pa_nil)))
        (pe_ix ix_list (pv 1) pe_int (fun _ _ => rfl)) (fun _ _ => rfl)) pa_nil)))))), ?_⟩
    refine ⟨.int c, rfl, 10, 12, rfl, rfl, ⟨by decide, by decide, by decide⟩, 10, 6, rfl, rfl, ⟨by decide, by decide, by decide⟩, (by show 7 ≤ sizeLine; decide), fun l1 n1 => ?_⟩
    refine ⟨c, l1, [2, 40, 1000000000000, 2, 12, 1000000, 2], rfl, SqL.of upd_same, ?_, by decide, fun H1 p s1 np ep => ?_⟩
    · show ∀ z ∈ ([2, 40, 1000000000000, 2, 12, 1000000, 2] : List Int), 0 < z ∧ z < 18446744073709551616
      decide
    have sH1 : Same H H1 := (same_upd n1).trans s1
    obtain ⟨d0, e1, d2, d3, d4, d5, d6, ed, b0, b1, b2, b3, b4, b5, b6⟩ : ∃ d0 e1 d2 d3 d4 d5 d6 : Int, draws c 0 [2, 40, 1000000000000, 2, 12, 1000000, 2] = [d0, e1, d2, d3, d4, d5, d6] ∧ (0 ≤ d0 ∧ d0 < 2) ∧ (0 ≤ e1 ∧ e1 < 40) ∧ (0 ≤ d2 ∧ d2 < 1000000000000) ∧ (0 ≤ d3 ∧ d3 < 2) ∧ (0 ≤ d4 ∧ d4 < 12) ∧ (0 ≤ d5 ∧ d5 < 1000000) ∧ (0 ≤ d6 ∧ d6 < 2) :=
      ⟨_, _, _, _, _, _, _, rfl, dval_ok (by decide), dval_ok (by decide), dval_ok (by decide), dval_ok (by decide), dval_ok (by decide), dval_ok (by decide), dval_ok (by decide)⟩
    rw [ed] at ep
    have hS := SqL.of (K := K) ep
    -- the top
    refine ⟨.ref p, rfl, p, _, 1, .int e1, rfl, rfl, hS, rfl, .ref p, rfl, p, _, 2, .int d2, rfl, rfl, hS, rfl, (by show 2 ≤ sizeLine; decide), fun l2 n2 => ?_⟩
    have ep2 : (upd H1 l2 (.lst [.int e1, .int d2])) p = some (.lst ([d0, e1, d2, d3, d4, d5, d6].map V.int)) := same_upd n2 _ _ ep
    refine ⟨.ref p, rfl, p, _, 0, .int d0, rfl, rfl, SqL.of ep2, rfl, l2, _, d0, _, rfl, rfl, SqL.of upd_same, at2 _ _ b0.1 b0.2, ?_⟩
    refine ⟨1, rfl, (by show 2 ≤ sizeLine; decide), fun l3 n3 => ?_⟩
    have ep3 := same_upd (o := .lst [.int 1, .int (-1)]) n3 _ _ ep2
    refine ⟨.ref p, rfl, p, _, 3, .int d3, rfl, rfl, SqL.of ep3, rfl, l3, _, d3, _, rfl, rfl, SqL.of upd_same, at2 _ _ b3.1 b3.2, ?_⟩
    refine ⟨if d0 = 0 then e1 else d2, if d3 = 0 then 1 else -1, by split <;> rfl, by split <;> rfl, .inl ⟨by split <;> omega, by split <;> omega⟩, ?_⟩
    have bt : ((if d0 = 0 then e1 else d2) * (if d3 = 0 then 1 else -1)).natAbs < 2 ^ 40 := by
      split <;> split <;> omega
    -- the bottom
    refine ⟨_, rfl, .ref p, rfl, p, _, 4, .int d4, rfl, rfl, SqL.of ep3, rfl, 1, d4, rfl, rfl, .ref p, rfl, p, _, 5, .int d5, rfl, rfl, SqL.of ep3, rfl, 1, d5, rfl, rfl, (by show 2 ≤ sizeLine; decide), fun l4 n4 => ?_⟩
    have ep4 := same_upd (o := .lst [.int (1 + d4), .int (1 + d5)]) n4 _ _ ep3
    refine ⟨.ref p, rfl, p, _, 6, .int d6, rfl, rfl, SqL.of ep4, rfl, l4, _, d6, .int (if d6 = 0 then 1 + d4 else 1 + d5), rfl, rfl, SqL.of upd_same, (by rw [at2 _ _ b6.1 b6.2]; split <;> rfl), ?_⟩
    have bb : (if d6 = 0 then 1 + d4 else 1 + d5) ≠ 0 ∧ (if d6 = 0 then 1 + d4 else 1 + d5).natAbs < 2 ^ 40 := by
      split <;> omega
    have s4 : Same H (upd (upd (upd H1 l2 (.lst [.int e1, .int d2])) l3 (.lst [.int 1, .int (-1)])) l4 (.lst [.int (1 + d4), .int (1 + d5)])) := ((sH1.trans (same_upd n2)).trans (same_upd n3)).trans (same_upd n4)
    refine made bb.1 (Nat.lt_of_lt_of_le bb.2 (Nat.pow_le_pow_right (by decide) (by decide))) ?_
    intro H' p' sm np' pa
    exact h _ (sz_divInt bb.1 bt bb.2) H' p' (s4.trans sm) (s4.free np') pa
/-! ### lists of Parts -/
def PL (C : Addr) (H : Hp) (ps : List Addr) (qs : List Rat) : Prop := ps.length = qs.length ∧ ∀ (i : Nat) p q, ps[i]? = some p → qs[i]? = some q → PA C H p q
theorem PL.same {H H' : Hp} {ps : List Addr} {qs : List Rat} (s : Same H H') (h : PL C H ps qs) : PL C H' ps qs := ⟨h.1, fun i p q a b => (h.2 i p q a b).same s⟩
theorem PA.put {H : Hp} {a l : Addr} {q : Rat} {xs : List V} {o : HO} (hl : H l = some (.lst xs)) (h : PA C H a q) : PA C (upd H l o) a q := by
  obtain ⟨dx, e⟩ := h
  refine ⟨dx, ?_⟩
  rw [upd_ne (ne_of e hl (by intro z; cases z))]
  exact e
theorem PL.put {H : Hp} {l : Addr} {ps : List Addr} {qs : List Rat} {xs : List V} {o : HO} (hl : H l = some (.lst xs)) (h : PL C H ps qs) : PL C (upd H l o) ps qs := ⟨h.1, fun i p q a b => (h.2 i p q a b).put hl⟩
theorem PL.snoc {H : Hp} {ps : List Addr} {qs : List Rat} {p : Addr} {q : Rat} (h : PL C H ps qs) (hp : PA C H p q) : PL C H (ps ++ [p]) (qs ++ [q]) := by
  refine ⟨by rw [List.length_append, List.length_append, h.1]; rfl, fun i a b ha hb => ?_⟩
  by_cases hi : i < ps.length
  · rw [List.getElem?_append_left hi] at ha
    rw [List.getElem?_append_left (by rw [← h.1]; exact hi)] at hb
    exact h.2 i a b ha hb
  · rw [List.getElem?_append_right (by omega)] at ha
    rw [List.getElem?_append_right (by rw [← h.1]; omega), ← h.1] at hb
    cases e : i - ps.length with
    | zero =>
      rw [e] at ha hb
      cases ha
      cases hb
      exact hp
    | succ j =>
      rw [e] at ha
      simp at ha
theorem PL.at_ {H : Hp} {ps : List Addr} {qs : List Rat} {i : Nat} {q : Rat} (h : PL C H ps qs) (hq : qs[i]? = some q) : ∃ p, ps[i]? = some p ∧ PA C H p q := by
  have hi : i < ps.length := by
    rw [h.1]
    exact (List.getElem?_eq_some_iff.mp hq).1
  exact ⟨ps[i], List.getElem?_eq_getElem hi, h.2 i _ q (List.getElem?_eq_getElem hi) hq⟩
theorem PL.nil {H : Hp} : PL C H [] [] := ⟨rfl, fun i p q a => by simp at a⟩
/-! ### sums and products of lists -/
def rs (qs : List Rat) : Rat := qs.foldl (· + ·) 0
def rp (qs : List Rat) : Rat := qs.foldl (· * ·) 1
theorem rs_snoc (qs : List Rat) (q : Rat) : rs (qs ++ [q]) = rs qs + q := by
  unfold rs
  rw [List.foldl_append]
  rfl
theorem rp_snoc (qs : List Rat) (q : Rat) : rp (qs ++ [q]) = rp qs * q := by
  unfold rp
  rw [List.foldl_append]
  rfl
theorem fold_add : ∀ (qs : List Rat) (a : Rat), qs.foldl (· + ·) a = a + rs qs
  | [], a => by
    show a = a + 0
    rw [Rat.add_zero]
  | q :: r, a => by
    show r.foldl (· + ·) (a + q) = a + r.foldl (· + ·) (0 + q)
    rw [fold_add r (a + q), fold_add r (0 + q), Rat.zero_add, Rat.add_assoc]
theorem rs_cons (q : Rat) (r : List Rat) : rs (q :: r) = q + rs r := by
  show r.foldl (· + ·) (0 + q) = q + rs r
  rw [fold_add, Rat.zero_add]
theorem rs_append (a b : List Rat) : rs (a ++ b) = rs a + rs b := by
  unfold rs
  rw [List.foldl_append, fold_add]
  rfl
theorem rs_reverse : ∀ qs : List Rat, rs qs.reverse = rs qs
  | [] => rfl
  | q :: r => by
    rw [List.reverse_cons, rs_snoc, rs_reverse r, rs_cons, Rat.add_comm]
theorem rs_ev : ∀ (q : Rat) (r : List Rat), rs (ev r) + rs (ev (q :: r)) = rs (q :: r)
  | q, [] => by
    show rs [] + rs [q] = rs [q]
    show (0 : Rat) + rs [q] = rs [q]
    rw [Rat.zero_add]
  | q, x :: r => by
    show rs (ev (x :: r)) + rs (q :: ev r) = rs (q :: x :: r)
    rw [rs_cons q (ev r), rs_cons q (x :: r), ← rs_ev x r, ← Rat.add_assoc, Rat.add_comm (rs (ev (x :: r))) q, Rat.add_assoc, Rat.add_comm (rs (ev (x :: r)))]
theorem back_add (a q : Rat) : a + q - q = a := by
  rw [Rat.sub_eq_add_neg, Rat.add_assoc, Rat.add_neg_cancel, Rat.add_zero]
theorem back_mul (a : Rat) {q : Rat} (h : q ≠ 0) : a * q / q = a := by
  rw [Rat.div_def, Rat.mul_assoc, Rat.mul_inv_cancel q h, Rat.mul_one]
theorem sz0 : Sz 1 (rs []) := by
  show ((0 : Rat).num.natAbs < 2 ^ 1) ∧ ((0 : Rat).den < 2 ^ 1)
  decide
theorem sz1 : Sz 1 (rp []) := by
  show ((1 : Rat).num.natAbs < 2 ^ 1) ∧ ((1 : Rat).den < 2 ^ 1)
  decide
theorem one_small : (1 : Int).natAbs < 2 ^ 8000 := Nat.one_lt_two_pow (by decide)
theorem scTogether : FnScope ["_law_some", "_law_found", "_law_one"] ["_law_some"] (defScope sTogether) := ⟨rfl, rfl, rfl, by decide +kernel, rfl, by decide +kernel, by decide +kernel⟩
def spTogether (K : PySem.W.Frag) (C : Addr) : Sp := fun vs H Q _ => ∃ (l : Addr) (ps : List Addr) (qs : List Rat), vs = [.ref l] ∧ SqL K H l (ps.map V.ref) ∧ PL C H ps qs ∧ (∀ q ∈ qs, Sz 40 q) ∧ qs.length ≤ 61 ∧ New C H (rs qs) Q
/-- the methods of a Part -/
structure Ms (K : PySem.W.Frag) (mg : Str → Option Value) (C fp fl ft fo fb fe fz : Addr) (gp gl gt go gb ge gz : FuncData) : Prop where
  Fp : Fun K "plus" "Part.plus" sPlus fp gp
  Fl : Fun K "less" "Part.less" sLess fl gl
  Ft : Fun K "times" "Part.times" sTimes ft gt
  Fo : Fun K "over" "Part.over" sOver fo go
  Fb : Fun K "is_below" "Part.is_below" sBelow fb gb
  Fe : Fun K "__eq__" "Part.__eq__" sEq fe ge
  Nz : Fn K mg "lowest" sLowest ["top", "bottom"] fz gz
  bp : Binds K gp ["self", "other"] []
  bl : Binds K gl ["self", "other"] []
  bt : Binds K gt ["self", "other"] []
  bo : Binds K go ["self", "other"] []
  bb : Binds K gb ["self", "other"] []
  be : Binds K ge ["self", "other"] []
  mp : Meth K C "plus" fp
  ml : Meth K C "less" fl
  mt : Meth K C "times" ft
  mo : Meth K C "over" fo
  mb : Meth K C "is_below" fb
  eqc : EqC K C fe
theorem no_plus (q : Rat) : (pf q).lookup ("plus" : Str) = none := pf_no q (by decide +kernel) (by decide +kernel)
theorem no_less (q : Rat) : (pf q).lookup ("less" : Str) = none := pf_no q (by decide +kernel) (by decide +kernel)
theorem no_over (q : Rat) : (pf q).lookup ("over" : Str) = none := pf_no q (by decide +kernel) (by decide +kernel)
theorem no_below (q : Rat) : (pf q).lookup ("is_below" : Str) = none := pf_no q (by decide +kernel) (by decide +kernel)
theorem rat_int (t : Int) : Rat.divInt t 1 = (t : Rat) := by
  rw [Rat.divInt_eq_div]
  show (t : Rat) / ((1 : Int) : Rat) = (t : Rat)
  rw [Rat.div_def]
  have e : ((1 : Int) : Rat)⁻¹ = 1 := by decide +kernel
  rw [e, Rat.mul_one]
theorem ok_together {f fi f1 f2 fp fl ft fo fb fe fz : Addr} {fd gi g1 g2 gp gl gt go gb ge gz : FuncData} {d1 : Value} {k : Nat} (F : Fun K "_law_together" "_law_together" sTogether f fd) (N : Mks K mg C fi f1 f2 gi g1 g2 d1) (M : Ms K mg C fp fl ft fo fb fe fz gp gl gt go gb ge gz) (T : Txt K mg C) :
    FnOk P w K mg base CX0 (k + 7) f fd ["_law_some"] (spTogether K C) := by
  have GI : FnOk P w K mg base CX0 (k + 5) fi gi ["self", "top", "bottom"] (spInit C) := ok_init N.F N.N1 N.N2 T
  have Gp : FnOk P w K mg base CX0 (k + 6) fp gp ["self", "other"] (spOp C (fun _ _ => True) (fun q r => q + r)) := ok_plus M.Fp N T
  refine F.ok scTogether (fun vs H Q E h => ?_) (fun cdv A outer s H vs Q E hr h => ?_)
  · obtain ⟨l, ps, qs, rfl, _⟩ := h
    rfl
  · obtain ⟨l, ps, qs, rfl, hS, hP, hz, h61, h⟩ := h
    have nd := scTogether.nd
    refine ⟨_, pss_cons (ps_set (i := 1) nd rfl (.inl rfl) (pe_make N.M GI hr (by rfl) T.mgC N.b2 (.cons N.r1 .nil) pass0 (pa_cons pe_int pa_nil)))
      (pss_cons (ps_for PassesOwn.never rfl (pi_list (pv 0)) (pg_name (i := 2) nd rfl (.inl rfl))
        (pss_one (ps_set (i := 1) nd rfl (.inl rfl) (pe_meth (pv 1) T.ins.cl M.mp Gp hr M.bp .nil pass0 (pa_cons (pv 2) pa_nil)))))
      (pss_one (ps_ret (pv 1)))), ?_⟩
    intro p dx0 np hdx0 ne0
    refine ⟨p, dx0, 0, 1, rfl, by decide, one_small, upd_same, rfl, ?_⟩
    rw [upd_upd]
    obtain ⟨s1, pa⟩ := mk_facts (C := C) (q := Rat.divInt 0 1) np hdx0
    generalize upd (upd H dx0 (.own p)) p (.ins C dx0 (pf (Rat.divInt 0 1))) = H1 at s1 pa
    rw [rat_int] at pa
    refine ⟨.ref l, rfl, l, rfl, ⟨_, s1.seq hS⟩, ?_⟩
    refine for_list (K := K) (a := l) (xs := ps.map V.ref) (fun i σ H3 => ∃ y2 p3, σ = [some (.ref l), some (.ref p3), y2] ∧ Same H H3 ∧ H p3 = none ∧ PA C H3 p3 (rs (qs.take i)) ∧ Sz (41 * i + 1) (rs (qs.take i)))
      ⟨none, p, rfl, s1, np, pa, sz0⟩ (fun i σ H3 _ ⟨_, _, _, sm, _⟩ => sm.seq hS) ?_ ?_
    · rintro i x σ H3 hx ⟨y2, p3, rfl, sm, np3, pa3, z3⟩
      rw [List.getElem?_map] at hx
      obtain ⟨a, ha, rfl⟩ := Option.map_eq_some_iff.mp hx
      have hi : i < qs.length := by
        rw [← hP.1]
        exact (List.getElem?_eq_some_iff.mp ha).1
      have hq : qs[i]? = some qs[i] := List.getElem?_eq_getElem hi
      have paA : PA C H3 a qs[i] := (hP.2 i a _ ha hq).same sm
      have zq := hz qs[i] (List.getElem_mem hi)
      obtain ⟨dx, e3⟩ := id pa3
      refine ⟨.ref p3, rfl, p3, dx, _, rfl, e3, no_plus _, .ref a, rfl, p3, a, _, _, rfl, pa3, paA, z3.mono (by omega), zq.mono (by decide), trivial, fun H4 p4 s4 np4 pa4 => ?_⟩
      have er : rs (qs.take (i + 1)) = rs (qs.take i) + qs[i] := by
        rw [List.take_add_one, hq]
        exact rs_snoc _ _
      refine ⟨_, p4, rfl, sm.trans s4, sm.free np4, by rw [er]; exact pa4, ?_⟩
      rw [er]
      exact (sz_add z3 zq).mono (by omega)
    · rintro σ H3 ⟨y2, p3, rfl, sm, np3, pa3, z3⟩
      rw [List.length_map, hP.1, List.take_length] at pa3
      exact ⟨.ref p3, rfl, h H3 p3 sm np3 pa3⟩
/-! ### _law_back -/
theorem scBack : FnScope ["_law_some", "_law_sums", "_law_products", "_law_k"] ["_law_some", "_law_sums", "_law_products"] (defScope sBack) := ⟨rfl, rfl, rfl, by decide +kernel, rfl, by decide +kernel, by decide +kernel⟩
/-- the sums (products) of the first none, one, two .. of qs -/
def sumsOf (g : List Rat → Rat) (qs : List Rat) : List Rat := (List.range (qs.length + 1)).map fun i => g (qs.take i)
theorem sums_at (g : List Rat → Rat) (qs : List Rat) {i : Nat} (h : i ≤ qs.length) : (sumsOf g qs)[i]? = some (g (qs.take i)) := by
  unfold sumsOf
  rw [List.getElem?_map, List.getElem?_range (by omega)]
  rfl
def spBack (K : PySem.W.Frag) (C : Addr) : Sp := fun vs H Q _ => ∃ (lk ls lp : Addr) (kp sp pp : List Addr) (qs : List Rat), vs = [.ref lk, .ref ls, .ref lp] ∧ SqL K H lk (kp.map V.ref) ∧ SqL K H ls (sp.map V.ref) ∧ SqL K H lp (pp.map V.ref) ∧
  PL C H kp qs ∧ PL C H sp (sumsOf rs qs) ∧ PL C H pp (sumsOf rp qs) ∧ (∀ q ∈ qs, Sz 40 q ∧ q ≠ 0) ∧ qs.length ≤ 61 ∧ ∀ H', Same H H' → Q (.bl true) H'
theorem sz_sums {qs : List Rat} (hz : ∀ q ∈ qs, Sz 40 q) : ∀ i, i ≤ qs.length → Sz (41 * i + 1) (rs (qs.take i)) ∧ Sz (41 * i + 1) (rp (qs.take i))
  | 0, _ => by
    exact ⟨sz0, sz1⟩
  | i + 1, hi => by
    have hq : qs[i]? = some qs[i] := List.getElem?_eq_getElem (by omega)
    have zq := hz qs[i] (List.getElem_mem (by omega))
    obtain ⟨h1, h2⟩ := sz_sums hz i (by omega)
    have e1 : rs (qs.take (i + 1)) = rs (qs.take i) + qs[i] := by
      rw [List.take_add_one, hq]
      exact rs_snoc _ _
    have e2 : rp (qs.take (i + 1)) = rp (qs.take i) * qs[i] := by
      rw [List.take_add_one, hq]
      exact rp_snoc _ _
    rw [e1, e2]
    exact ⟨(sz_add h1 zq).mono (by omega), (sz_mul h2 zq).mono (by omega)⟩
theorem ok_back {f fi f1 f2 fp fl ft fo fb fe fz : Addr} {fd gi g1 g2 gp gl gt go gb ge gz : FuncData} {d1 : Value} {k : Nat} (F : Fun K "_law_back" "_law_back" sBack f fd) (N : Mks K mg C fi f1 f2 gi g1 g2 d1) (M : Ms K mg C fp fl ft fo fb fe fz gp gl gt go gb ge gz) (T : Txt K mg C) :
    FnOk P w K mg base CX0 (k + 7) f fd ["_law_some", "_law_sums", "_law_products"] (spBack K C) := by
  have Gl : FnOk P w K mg base CX0 (k + 6) fl gl ["self", "other"] (spOp C (fun _ _ => True) (fun q r => q - r)) := ok_less M.Fl N T
  have Go : FnOk P w K mg base CX0 (k + 6) fo go ["self", "other"] (spOp C (fun _ r => r ≠ 0) (fun q r => q / r)) := ok_over M.Fo N M.Nz M.Ft M.bt M.mt T
  have Ge := ok_eq (P := P) (w := w) (base := base) (k := k + 4) M.Fe T
  refine F.ok scBack (fun vs H Q E h => ?_) (fun cdv A outer s H vs Q E hr h => ?_)
  · obtain ⟨lk, ls, lp, kp, sp, pp, qs, rfl, _⟩ := h
    rfl
  · obtain ⟨lk, ls, lp, kp, sp, pp, qs, rfl, hk, hs, hp, Pk, Ps, Pp, hz, h61, h⟩ := h
    have nd := scBack.nd
    refine ⟨_, pss_cons (ps_for PassesOwn.never rfl (pi_range3 (by rfl) T.range (pa_cons (pe_op op_sub (pe_callB call_len_seq (by rfl) T.len PySem.boot_len (pa_cons (pv 0) pa_nil)) pe_int) (pa_cons (pe_un un_neg pe_int) (pa_cons (pe_un un_neg pe_int) pa_nil)))) (pg_name (i := 3) nd rfl (.inl rfl))
        (pss_one (ps_if (PW.pt (pw_or (pt_cmpR (op_neOwn M.eqc Ge hr M.be pass0) (pe_meth (pe_ix ix_list (pv 1) (pe_op op_add (pv 3) pe_int) (fun _ _ => rfl)) T.ins.cl M.ml Gl hr M.bl .nil pass0 (pa_cons (pe_ix ix_list (pv 0) (pv 3) (fun _ _ => rfl)) pa_nil)) (pe_ix ix_list (pv 1) (pv 3) (fun _ _ => rfl)) (nomark _))
          (pw_or1 (pt_cmpR (op_neOwn M.eqc Ge hr M.be pass0) (pe_meth (pe_ix ix_list (pv 2) (pe_op op_add (pv 3) pe_int) (fun _ _ => rfl)) T.ins.cl M.mo Go hr M.bo .nil pass0 (pa_cons (pe_ix ix_list (pv 0) (pv 3) (fun _ _ => rfl)) pa_nil)) (pe_ix ix_list (pv 2) (pv 3) (fun _ _ => rfl)) (nomark _)))))
          (pss_one (ps_ret pe_bl)) pss_nil)))
      (pss_one (ps_ret pe_bl)), ?_⟩
    have lkp : kp.length = qs.length := Pk.1
    have en : ((qs.length : Int) - 1 - -1).toNat = qs.length := by omega
    have hrg := RgC.neg (i := (qs.length : Int) - 1) (j := -1) (by omega) (by omega) (by decide) (by decide)
    rw [en] at hrg
    refine ⟨.ref lk, rfl, lk, _, rfl, .inl hk, _, 1, rfl, rfl, 1, rfl, 1, rfl, (qs.length : Int) - 1, -1, -1, qs.length, by rw [List.length_map, lkp], hrg, ?_⟩
    refine for_rangeC (lo := (qs.length : Int) - 1) (c := -1) (n := qs.length) (fun i σ H3 => ∃ y3, σ = [some (.ref lk), some (.ref ls), some (.ref lp), y3] ∧ Same H H3) ⟨none, rfl, Same.refl _⟩ ?_ ?_
    · rintro i σ H3 hi ⟨y3, rfl, sm⟩
      obtain ⟨j, ej, hj⟩ : ∃ j : Nat, (qs.length : Int) - 1 + (i : Int) * -1 = (j : Int) ∧ j < qs.length := ⟨qs.length - 1 - i, by omega, by omega⟩
      rw [ej]
      have hq : qs[j]? = some qs[j] := List.getElem?_eq_getElem hj
      obtain ⟨zq, nq⟩ := hz qs[j] (List.getElem_mem hj)
      obtain ⟨zs1, zp1⟩ := sz_sums (fun q hq => (hz q hq).1) (j + 1) (by omega)
      have es1 : rs (qs.take (j + 1)) = rs (qs.take j) + qs[j] := by
        rw [List.take_add_one, hq]
        exact rs_snoc _ _
      have ep1 : rp (qs.take (j + 1)) = rp (qs.take j) * qs[j] := by
        rw [List.take_add_one, hq]
        exact rp_snoc _ _
      obtain ⟨ak, gk, pk⟩ := Pk.at_ hq
      obtain ⟨a1, g1', p1⟩ := Ps.at_ (sums_at rs qs (i := j + 1) (by omega))
      obtain ⟨a0, g0, p0⟩ := Ps.at_ (sums_at rs qs (i := j) (by omega))
      obtain ⟨b1, h1', r1⟩ := Pp.at_ (sums_at rp qs (i := j + 1) (by omega))
      obtain ⟨b0, h0, r0⟩ := Pp.at_ (sums_at rp qs (i := j) (by omega))
      have ix : ∀ {l : List Addr} {m : Nat} {a : Addr}, l[m]? = some a → atI (l.map V.ref) (m : Int) = some (.ref a) := fun {l m a} e => atI_nat (by rw [List.getElem?_map, e]; rfl)
      have ix1 : ∀ {l : List Addr} {a : Addr}, l[j + 1]? = some a → atI (l.map V.ref) ((j : Int) + 1) = some (.ref a) := fun {l a} e => by
        rw [show (j : Int) + 1 = ((j + 1 : Nat) : Int) by omega]
        exact ix e
      have pk3 := pk.same sm
      obtain ⟨dx1, e1⟩ := p1.same sm
      refine ⟨.ref ls, rfl, .int (j : Int), rfl, _, _, rfl, rfl, ls, _, _, _, rfl, rfl, sm.seq hs, ix1 g1', a1, dx1, _, rfl, e1, no_less _, .ref lk, rfl, .int (j : Int), rfl, lk, _, _, _, rfl, rfl, sm.seq hk, ix gk, a1, ak, _, _, rfl, ⟨dx1, e1⟩, pk3, zs1.mono (by omega), zq.mono (by decide), trivial, fun H4 p4 s4 np4 pa4 => ?_⟩
      have sm4 := sm.trans s4
      obtain ⟨dx4, e4⟩ := id pa4
      obtain ⟨dx0, e0⟩ := id (p0.same sm4)
      refine ⟨.ref ls, rfl, .int (j : Int), rfl, ls, _, _, _, rfl, rfl, sm4.seq hs, ix g0, p4, a0, dx4, dx0, _, _, rfl, rfl, e4, e0, p4, a0, _, _, rfl, pa4, p0.same sm4, true, ?_, _, rfl, ?_⟩
      · show V.bl (decide (rs (qs.take (j + 1)) - qs[j] = rs (qs.take j))) = V.bl true
        rw [es1, back_add, decide_eq_true rfl]
      obtain ⟨dy1, f1e⟩ := r1.same sm4
      refine iteF ⟨.ref lp, rfl, .int (j : Int), rfl, _, _, rfl, rfl, lp, _, _, _, rfl, rfl, sm4.seq hp, ix1 h1', b1, dy1, _, rfl, f1e, no_over _, .ref lk, rfl, .int (j : Int), rfl, lk, _, _, _, rfl, rfl, sm4.seq hk, ix gk, b1, ak, _, _, rfl, ⟨dy1, f1e⟩, pk.same sm4, zp1.mono (by omega), zq.mono (by decide), nq, fun H5 p5 s5 np5 pa5 => ?_⟩
      have sm5 := sm4.trans s5
      obtain ⟨dx5, e5⟩ := id pa5
      obtain ⟨dy0, f0e⟩ := id (r0.same sm5)
      refine ⟨.ref lp, rfl, .int (j : Int), rfl, lp, _, _, _, rfl, rfl, sm5.seq hp, ix h0, p5, b0, dx5, dy0, _, _, rfl, rfl, e5, f0e, p5, b0, _, _, rfl, pa5, r0.same sm5, true, ?_, _, rfl, ?_⟩
      · show V.bl (decide (rp (qs.take (j + 1)) / qs[j] = rp (qs.take j))) = V.bl true
        rw [ep1, back_mul _ nq, decide_eq_true rfl]
      exact iteF ⟨_, rfl, sm5⟩
    · rintro σ H3 ⟨y3, rfl, sm⟩
      exact h H3 sm
end
end Hop

set_option Elab.async false
set_option linter.all false
set_option maxRecDepth 100000
namespace Hop
open PySem L2 HopR
open C8 (InsC call_isC)
section
variable {P : Program} {w : World} {K : PySem.W.Frag} {mg : Str → Option Value} {base : Heap} {C : Addr}
def fix (q : Rat) : Rat := if q = 0 then Rat.divInt 5 3 else q
theorem fix_ok {qs : List Rat} (hz : ∀ q ∈ qs, Sz 40 q) {q : Rat} (h : q ∈ qs) : Sz 40 (fix q) ∧ fix q ≠ 0 := by
  unfold fix
  by_cases e : q = 0
  · rw [if_pos e]
    refine ⟨sz_divInt (by decide) (by decide) (by decide), ?_⟩
    decide +kernel
  · rw [if_neg e]
    exact ⟨hz q h, e⟩
theorem sums_len (g : List Rat → Rat) (qs : List Rat) : (sumsOf g qs).length = qs.length + 1 := by
  unfold sumsOf
  rw [List.length_map, List.length_range]
theorem sums_last (g : List Rat → Rat) (qs : List Rat) : (sumsOf g qs)[(sumsOf g qs).length - 1]? = some (g qs) := by
  rw [sums_len, Nat.add_sub_cancel, sums_at g qs (Nat.le_refl _), List.take_length]
theorem sums_snoc (g : List Rat → Rat) (qs : List Rat) (q : Rat) : sumsOf g (qs ++ [q]) = sumsOf g qs ++ [g (qs ++ [q])] := by
  unfold sumsOf
  rw [List.length_append, List.length_singleton, List.range_succ, List.map_append, List.map_singleton, List.take_of_length_le (l := qs ++ [q]) (by rw [List.length_append]; exact Nat.le_refl _)]
  congr 1
  apply List.map_congr_left
  intro i hi
  have := List.mem_range.mp hi
  rw [List.take_append_of_le_length (by omega)]
theorem at_neg1 {α : Type} {xs : List α} {v : α} (h : xs[xs.length - 1]? = some v) : atI xs (-1) = some v := by
  have hl : 0 < xs.length := by
    have := (List.getElem?_eq_some_iff.mp h).1
    omega
  unfold atI ixN
  rw [if_neg (by decide), if_pos (by omega)]
  show xs[((-1 : Int) + xs.length).toNat]? = some v
  rw [show ((-1 : Int) + xs.length).toNat = xs.length - 1 by omega]
  exact h
theorem at_last {H : Hp} {ps : List Addr} {qs : List Rat} {a : Addr} (h : PL C H ps qs) (e : ps[qs.length - 1]? = some a) : atI (ps.map V.ref) (-1) = some (.ref a) := by
  apply at_neg1
  rw [List.length_map, h.1, List.getElem?_map, e]
  rfl
theorem one_of (q r : Rat) : ([V.bl (decide (q < r)), V.bl (decide (q = r) ^^ false), V.bl (decide (r < q))].countP fun z => eqV z (V.bl true)) = 1 := by
  rw [Bool.xor_false]
  have irr : ∀ a : Rat, ¬ a < a := fun a => Rat.lt_irrefl
  by_cases h1 : q < r
  · have h2 : ¬ q = r := fun e => irr r (e ▸ h1)
    have h3 : ¬ r < q := fun e => h2 (Rat.le_antisymm (Rat.le_of_lt h1) (Rat.le_of_lt e))
    rw [decide_eq_true h1, decide_eq_false h2, decide_eq_false h3]
    decide
  · by_cases h2 : q = r
    · have h3 : ¬ r < q := fun e => irr r (h2 ▸ e)
      rw [decide_eq_false h1, decide_eq_true h2, decide_eq_false h3]
      decide
    · have h3 : r < q := Rat.lt_of_le_of_ne (Rat.not_lt.mp h1) (fun e => h2 e.symm)
      rw [decide_eq_false h1, decide_eq_false h2, decide_eq_true h3]
      decide
theorem below_sub (q r : Rat) : decide (q - r < 0) = decide (q < r) := by
  have e : q - r < 0 ↔ q < r := by
    rw [← Rat.add_lt_add_right (c := r), Rat.sub_add_cancel, Rat.zero_add]
  by_cases h : q < r
  · rw [decide_eq_true h, decide_eq_true (e.mpr h)]
  · rw [decide_eq_false h, decide_eq_false fun z => h (e.mp z)]
theorem sz_sub {n m : Nat} {q r : Rat} (h1 : Sz n q) (h2 : Sz m r) : Sz (n + m + 1) (q - r) := by
  rw [sub_eq]
  have a1 := wide_lt (i := q.num) (j := (r.den : Int)) (a := n) (b := m) h1.1 (by simpa using h2.2)
  have a2 := wide_lt (i := r.num) (j := (q.den : Int)) (a := m) (b := n) h2.1 (by simpa using h1.2)
  have a3 := wide_lt (i := (q.den : Int)) (j := (r.den : Int)) (a := n) (b := m) (by simpa using h1.2) (by simpa using h2.2)
  rw [Nat.add_comm m n] at a2
  refine sz_divInt (Int.mul_ne_zero (den_ne q) (den_ne r)) ?_ ?_
  · refine Nat.lt_of_le_of_lt (Int.natAbs_sub_le _ _) (two_lt a1 a2)
  · rw [Nat.pow_succ]
    omega
theorem PL.cons {H : Hp} {ps : List Addr} {qs : List Rat} {p : Addr} {q : Rat} (hp : PA C H p q) (h : PL C H ps qs) : PL C H (p :: ps) (q :: qs) := by
  refine ⟨congrArg Nat.succ h.1, fun i a b ha hb => ?_⟩
  cases i with
  | zero =>
    cases ha
    cases hb
    exact hp
  | succ j => exact h.2 j a b ha hb
theorem PL.append {H : Hp} {qs' : List Rat} {ps' : List Addr} (h2 : PL C H ps' qs') : ∀ {ps : List Addr} {qs : List Rat}, PL C H ps qs → PL C H (ps ++ ps') (qs ++ qs')
  | [], [], _ => h2
  | [], _ :: _, h => by cases h.1
  | _ :: _, [], h => by cases h.1
  | p :: r, q :: t, h => PL.cons (h.2 0 p q rfl rfl) (PL.append h2 ⟨Nat.succ.inj h.1, fun i a b ha hb => h.2 (i + 1) a b ha hb⟩)
theorem PL.reverse {H : Hp} : ∀ {ps : List Addr} {qs : List Rat}, PL C H ps qs → PL C H ps.reverse qs.reverse
  | [], [], h => h
  | [], _ :: _, h => by cases h.1
  | _ :: _, [], h => by cases h.1
  | p :: r, q :: t, h => by
    rw [List.reverse_cons, List.reverse_cons]
    exact PL.snoc (PL.reverse ⟨Nat.succ.inj h.1, fun i a b ha hb => h.2 (i + 1) a b ha hb⟩) (h.2 0 p q rfl rfl)
theorem PL.pick {H : Hp} {ps : List Addr} {qs : List Rat} (h : PL C H ps qs) : ∀ ix : List Nat, PL C H (HopR.pick ps ix) (HopR.pick qs ix)
  | [] => PL.nil
  | i :: r => by
    unfold HopR.pick
    rw [List.filterMap_cons, List.filterMap_cons]
    cases e : qs[i]? with
    | none =>
      have e2 : ps[i]? = none := List.getElem?_eq_none (by rw [h.1]; exact List.getElem?_eq_none_iff.mp e)
      rw [e2]
      exact h.pick r
    | some x =>
      obtain ⟨a, ha, pa⟩ := h.at_ e
      rw [ha]
      exact PL.cons pa (h.pick r)
theorem pick_map {α β : Type} (g : α → β) (xs : List α) (ix : List Nat) : HopR.pick (xs.map g) ix = (HopR.pick xs ix).map g := by
  unfold HopR.pick
  rw [List.map_filterMap]
  congr 1
  funext i
  rw [List.getElem?_map]
theorem pick_len {α : Type} (xs : List α) (ix : List Nat) : (HopR.pick xs ix).length ≤ ix.length := List.length_filterMap_le _ _
theorem mem_pick {α : Type} {xs : List α} {ix : List Nat} {x : α} (h : x ∈ HopR.pick xs ix) : x ∈ xs := by
  obtain ⟨i, _, e⟩ := List.mem_filterMap.mp h
  exact List.mem_of_getElem? e
theorem scLaw : FnScope ["_law_script", "_law_some", "_law_sums", "_law_products", "_law_kept", "_law_one", "_law_k", "_law_other", "_law_cell"] ["_law_script"] (defScope sLaw) := ⟨rfl, rfl, rfl, by decide +kernel, rfl, by decide +kernel, by decide +kernel⟩
def spLaw (K : PySem.W.Frag) : Sp := fun vs H Q _ => ∃ (a : Addr) (ns : List Int), vs = [.ref a] ∧ SqL K H a (ns.map V.int) ∧ ns.length ≤ 63 ∧ ∀ H', Q (.bl true) H'
theorem ok_law {f fi f1 f2 fp fl ft fo fb fe fz fw fq ftg fbk : Addr} {fd gi g1 g2 gp gl gt go gb ge gz gw gq gtg gbk : FuncData} {d1 : Value} (F : Fun K "law" "law" sLaw f fd) (N : Mks K mg C fi f1 f2 gi g1 g2 d1) (M : Ms K mg C fp fl ft fo fb fe fz gp gl gt go gb ge gz)
    (Nw : Fn K mg "_law_drawn" sDrawn ["_law_cell", "_law_sizes"] fw gw) (Nq : Fn K mg "_law_part" sLPart ["_law_cell"] fq gq) (Nt : Fn K mg "_law_together" sTogether ["_law_some"] ftg gtg) (Nk : Fn K mg "_law_back" sBack ["_law_some", "_law_sums", "_law_products"] fbk gbk) (T : Txt K mg C) :
    FnOk P w K mg base CX0 8 f fd ["_law_script"] (spLaw K) := by
  have GI : FnOk P w K mg base CX0 6 fi gi ["self", "top", "bottom"] (spInit C) := ok_init N.F N.N1 N.N2 T
  have Gq : FnOk P w K mg base CX0 7 fq gq ["_law_cell"] (spLPart C) := ok_lpart Nq.F N Nw T
  have Gp : FnOk P w K mg base CX0 7 fp gp ["self", "other"] (spOp C (fun _ _ => True) (fun q r => q + r)) := ok_plus M.Fp N T
  have Gl : FnOk P w K mg base CX0 7 fl gl ["self", "other"] (spOp C (fun _ _ => True) (fun q r => q - r)) := ok_less M.Fl N T
  have Gm : FnOk P w K mg base CX0 7 ft gt ["self", "other"] (spOp C (fun _ _ => True) (fun q r => q * r)) := ok_times M.Ft N M.Nz T
  have Gb : FnOk P w K mg base CX0 7 fb gb ["self", "other"] (spTell C fun q r => decide (q < r)) := ok_below M.Fb T
  have Ge := ok_eq (P := P) (w := w) (base := base) (k := 6) M.Fe T
  have Ge4 := ok_eq (P := P) (w := w) (base := base) (k := 5) M.Fe T
  have Gt : FnOk P w K mg base CX0 7 ftg gtg ["_law_some"] (spTogether K C) := ok_together Nt.F N M T
  have Gk : FnOk P w K mg base CX0 7 fbk gbk ["_law_some", "_law_sums", "_law_products"] (spBack K C) := ok_back Nk.F N M T
  refine F.ok scLaw (fun vs H Q E h => ?_) (fun cdv A outer s H vs Q E hr h => ?_)
  · obtain ⟨a, ns, rfl, _⟩ := h
    rfl
  · obtain ⟨a, ns, rfl, hS, hlen, q⟩ := h
    have nd := scLaw.nd
    refine ⟨_, pss_cons (ps_setLc (i := 1) (own := [("_law_cell", 8)]) (g := gName 8) (tt := tYes) (by rfl) nd rfl rfl (sw_true rfl rfl rfl (by decide +kernel)) (pi_list (pe_op op_cat (pe_slice sl_list (pv 0) po_none (po_some pe_int)) (pe_lst (pa_cons pe_int pa_nil))))
        (blkOk_by (own := [("_law_cell", 8)]) (N := ["_law_script", "_law_some", "_law_sums", "_law_products", "_law_kept", "_law_one", "_law_k", "_law_other", "_law_cell"]) (sc := defScope sLaw) (by decide +kernel))
        (fun _ _ _ _ _ => pg_name (i := 8) nd rfl (Or.inl rfl)) (fun _ _ _ _ _ => pts_nil) (fun _ _ _ _ _ => pe_call Gq hr (by rfl) Nq.g Nq.F.kp Nq.b .nil pass0 (pa_cons (pv 8) pa_nil)))
      (pss_cons (ps_set (i := 2) nd rfl (.inl rfl) (pe_lst (pa_cons (pe_make N.M GI hr (by rfl) T.mgC N.b2 (.cons N.r1 .nil) pass0 (pa_cons pe_int pa_nil)) pa_nil)))
      (pss_cons (ps_set (i := 3) nd rfl (.inl rfl) (pe_lst (pa_cons (pe_make N.M GI hr (by rfl) T.mgC N.b2 (.cons N.r1 .nil) pass0 (pa_cons pe_int pa_nil)) pa_nil)))
      (pss_cons (ps_set (i := 4) nd rfl (.inl rfl) (pe_lst pa_nil))
      (pss_cons (ps_for PassesOwn.never rfl (pi_list (pv 1)) (pg_name (i := 5) nd rfl (.inl rfl))
        (pss_cons (ps_if (pt_cmpR (op_eqOwn M.eqc Ge hr M.be pass0) (pv 5) (pe_make N.M GI hr (by rfl) T.mgC N.b2 (.cons N.r1 .nil) pass0 (pa_cons pe_int pa_nil)) (nomark _)) (pss_one (ps_set (i := 5) nd rfl (.inl rfl) (pe_make N.M GI hr (by rfl) T.mgC N.b3 .nil pass0 (pa_cons pe_int (pa_cons pe_int pa_nil))))) pss_nil)
        (pss_cons (ps_expr (pe_bm PySem.F.plainAttrs_list PySem.F.slot_list_append PySem.F.type_list_append mt_append (pv 4) (pa_cons (pv 5) pa_nil)))
        (pss_cons (ps_expr (pe_bm PySem.F.plainAttrs_list PySem.F.slot_list_append PySem.F.type_list_append mt_append (pv 2) (pa_cons (pe_meth (pe_ix ix_list (pv 2) (pe_un un_neg pe_int) (fun _ _ => rfl)) T.ins.cl M.mp Gp hr M.bp .nil pass0 (pa_cons (pv 5) pa_nil)) pa_nil)))
        (pss_one (ps_expr (pe_bm PySem.F.plainAttrs_list PySem.F.slot_list_append PySem.F.type_list_append mt_append (pv 3) (pa_cons (pe_meth (pe_ix ix_list (pv 3) (pe_un un_neg pe_int) (fun _ _ => rfl)) T.ins.cl M.mt Gm hr M.bt .nil pass0 (pa_cons (pv 5) pa_nil)) pa_nil))))))))
      (pss_cons (ps_if (PW.pt (pw_or (pt_not (pt_val (pe_call Gk hr (by rfl) Nk.g Nk.F.kp Nk.b .nil pass0 (pa_cons (pv 4) (pa_cons (pv 2) (pa_cons (pv 3) pa_nil))))))
          (pw_or1 (pt_cmpR (op_neOwn M.eqc Ge4 hr M.be pass0) (pe_call Gt hr (by rfl) Nt.g Nt.F.kp Nt.b .nil pass0 (pa_cons (pe_revL (pv 4)) pa_nil)) (pe_ix ix_list (pv 2) (pe_un un_neg pe_int) (fun _ _ => rfl)) (nomark _))))) (pss_one (ps_ret pe_bl)) pss_nil)
      (pss_cons (ps_if (pt_cmpR (op_neOwn M.eqc Ge4 hr M.be pass0) (pe_call Gt hr (by rfl) Nt.g Nt.F.kp Nt.b .nil pass0 (pa_cons (pe_op op_cat (pe_slice3 (pv 4) (po_some pe_int) po_none (po_some pe_int)) (pe_slice3 (pv 4) po_none po_none (po_some pe_int))) pa_nil)) (pe_ix ix_list (pv 2) (pe_un un_neg pe_int) (fun _ _ => rfl)) (nomark _)) (pss_one (ps_ret pe_bl)) pss_nil)
      (pss_cons (ps_for PassesOwn.never rfl (pi_range1 (by rfl) T.range (pa_cons (pe_callB call_len_seq (by rfl) T.len PySem.boot_len (pa_cons (pv 4) pa_nil)) pa_nil)) (pg_name (i := 6) nd rfl (.inl rfl))
        (pss_cons (ps_par (by rfl) nd (i := 5) (j := 7) rfl rfl (by decide) rfl rfl (pa_cons (pe_ix ix_list (pv 4) (pv 6) (fun _ _ => rfl)) (pa_cons (pe_ix ix_list (pv 4) (pe_op op_sub (pv 6) pe_int) (fun _ _ => rfl)) pa_nil)) (by rfl))
        (pss_cons (ps_if (pt_cmpR op_ne (pe_bm PySem.F.plainAttrs_list PySem.F.slot_list_count PySem.F.type_list_count mt_countV (pe_lst (pa_cons (pe_meth (pv 5) T.ins.cl M.mb Gb hr M.bb .nil pass0 (pa_cons (pv 7) pa_nil)) (pa_cons (pe_cmpR (op_eqOwn M.eqc Ge hr M.be pass0) (pv 5) (pv 7) (nomark _)) (pa_cons (pe_meth (pv 7) T.ins.cl M.mb Gb hr M.bb .nil pass0 (pa_cons (pv 5) pa_nil)) pa_nil)))) (pa_cons pe_bl pa_nil)) pe_int (nomark _)) (pss_one (ps_ret pe_bl)) pss_nil)
        (pss_one (ps_if (pt_cmpR op_ne (pe_meth (pe_meth (pv 5) T.ins.cl M.ml Gl hr M.bl .nil pass0 (pa_cons (pv 7) pa_nil)) T.ins.cl M.mb Gb hr M.bb .nil pass0 (pa_cons (pe_make N.M GI hr (by rfl) T.mgC N.b2 (.cons N.r1 .nil) pass0 (pa_cons pe_int pa_nil)) pa_nil)) (pe_meth (pv 5) T.ins.cl M.mb Gb hr M.bb .nil pass0 (pa_cons (pv 7) pa_nil)) (nomark _)) (pss_one (ps_ret pe_bl)) pss_nil)))))
      (pss_one (ps_ret pe_bl))))))))), ?_⟩
    refine ⟨.ref a, rfl, 60, rfl, a, _, rfl, hS, fun p np => ⟨(by show 1 ≤ sizeLine; decide), fun p2 np2 => ?_⟩⟩
    have npp : p ≠ p2 := fun e => by
      rw [← e, upd_same] at np2
      cases np2
    obtain ⟨zs, ez, hzl⟩ : ∃ zs : List Int, cutV (ns.map V.int) none (some 60) = zs.map V.int ∧ zs.length ≤ 60 := by
      unfold cutV
      rw [HT.sIx_none, show (some (60 : Int)) = some ((60 : Nat) : Int) from rfl, HT.sIx_nat]
      refine ⟨(ns.drop 0).take (min 60 (ns.map V.int).length - 0), by rw [List.map_take, List.map_drop], ?_⟩
      rw [List.length_take]
      omega
    rw [ez]
    refine ⟨p, p2, zs.map V.int, [.int 3], rfl, rfl, by rw [upd_ne npp, upd_same], upd_same, ?_, fun p3 np3 => ?_⟩
    · rw [List.length_map]
      exact Nat.le_trans (Nat.add_le_add_right hzl 1) (by decide)
    have ecat : zs.map V.int ++ [V.int 3] = (zs ++ [3]).map V.int := by rw [List.map_append]; rfl
    rw [ecat]
    have hzl2 : (zs ++ [3]).length ≤ 61 := by
      rw [List.length_append]
      exact Nat.add_le_add_right hzl 1
    have hzl1 : 1 ≤ (zs ++ [3]).length := by simp
    generalize zs ++ [3] = cs at hzl2 hzl1
    refine ⟨p3, rfl, ⟨_, SqL.of upd_same⟩, fun D hD => ?_⟩
    generalize hH2 : upd (upd (upd H p (.lst (zs.map V.int))) p2 (.lst [.int 3])) p3 (.lst (cs.map V.int)) = H2 at hD
    have e3 : H2 p3 = some (.lst (cs.map V.int)) := by
      rw [← hH2, upd_same]
    refine lc_list (K := K) (a := p3) (xs := cs.map V.int) (fun i H3 => ∃ ps qs, Same H2 H3 ∧ H3 D = some (.lst (ps.map V.ref)) ∧ PL C H3 ps qs ∧ qs.length = i ∧ ∀ q ∈ qs, Sz 40 q) ⟨[], [], same_upd hD, upd_same, PL.nil, rfl, fun q h => by cases h⟩ (fun i H3 _ ⟨_, _, sm, _⟩ => SqL.of (sm _ _ e3)) ?_ ?_
    · rintro i x H3 hx ⟨ps, qs, sm, eD, hP, hl, hz⟩
      rw [List.getElem?_map] at hx
      obtain ⟨c, hc, rfl⟩ := Option.map_eq_some_iff.mp hx
      have hi : i < cs.length := (List.getElem?_eq_some_iff.mp hc).1
      refine ⟨rfl, .int c, rfl, c, rfl, fun r zr H4 p4 s4 np4 pa4 => ⟨_, s4 _ _ eD, ?_, ps ++ [p4], qs ++ [r], same_new hD (sm.trans s4), ?_, ?_, ?_, ?_⟩⟩
      · rw [List.length_map, hP.1]
        exact small1000 (by omega)
      · rw [upd_same, List.map_append]
        rfl
      · exact ((hP.same s4).put (s4 _ _ eD)).snoc (pa4.put (s4 _ _ eD))
      · rw [List.length_append, hl]
        rfl
      · intro z hz'
        rcases List.mem_append.mp hz' with h | h
        · exact hz z h
        · rw [List.mem_singleton.mp h]
          exact zr
    rintro Hb ⟨ps, qs, sm, eD, hP, hl, hz⟩
    rw [List.length_map] at hl
    have hql : qs.length ≤ 61 := by omega
    -- sums, products, kept
    intro p0 dx0 hp0 hdx0 ne0
    refine ⟨p0, dx0, 0, 1, rfl, by decide, one_small, upd_same, rfl, ?_⟩
    rw [upd_upd]
    obtain ⟨t1, pa0⟩ := mk_facts (C := C) (q := Rat.divInt 0 1) hp0 hdx0
    generalize upd (upd Hb dx0 (.own p0)) p0 (.ins C dx0 (pf (Rat.divInt 0 1))) = H1 at t1 pa0
    rw [rat_int] at pa0
    refine ⟨(by show 1 ≤ sizeLine; decide), fun ls nls => ?_⟩
    have ns0 : Hb ls = none := t1.free nls
    have t2 : Same Hb (upd H1 ls (.lst [.ref p0])) := same_new ns0 t1
    have pa0' := pa0.same (same_upd (o := .lst [.ref p0]) nls)
    have els : (upd H1 ls (.lst [.ref p0])) ls = some (.lst [.ref p0]) := upd_same
    generalize upd H1 ls (.lst [.ref p0]) = H1a at t2 pa0' els
    intro p1 dx1 hp1 hdx1 ne1
    refine ⟨p1, dx1, 1, 1, rfl, by decide, one_small, upd_same, rfl, ?_⟩
    rw [upd_upd]
    obtain ⟨t3, pa1⟩ := mk_facts (C := C) (q := Rat.divInt 1 1) hp1 hdx1
    generalize upd (upd H1a dx1 (.own p1)) p1 (.ins C dx1 (pf (Rat.divInt 1 1))) = H1b at t3 pa1
    rw [rat_int] at pa1
    refine ⟨(by show 1 ≤ sizeLine; decide), fun lp nlp => ?_⟩
    have nsp : ls ≠ lp := ne_of_none (t3 _ _ els) nlp
    have np0' : Hb lp = none := (t2.trans t3).free nlp
    have t4 : Same Hb (upd H1b lp (.lst [.ref p1])) := same_new np0' (t2.trans t3)
    have t5 : Same H1a (upd H1b lp (.lst [.ref p1])) := t3.trans (same_upd nlp)
    have pa1' := pa1.same (same_upd (o := .lst [.ref p1]) nlp)
    have elp : (upd H1b lp (.lst [.ref p1])) lp = some (.lst [.ref p1]) := upd_same
    generalize upd H1b lp (.lst [.ref p1]) = H1c at t4 t5 pa1' elp
    refine ⟨Nat.zero_le _, fun lk nlk => ?_⟩
    have nsk : ls ≠ lk := ne_of_none (t5 _ _ els) nlk
    have npk : lp ≠ lk := ne_of_none elp nlk
    have nk0 : Hb lk = none := t4.free nlk
    have t6 : Same H1c (upd H1c lk (.lst [])) := same_upd nlk
    refine ⟨.ref D, rfl, D, rfl, ⟨_, SqL.of (t6 _ _ (t4 _ _ eD))⟩, ?_⟩
    refine for_list (K := K) (a := D) (xs := ps.map V.ref) (fun i σ H3 => ∃ y5 kp sp pp, σ = [some (.ref a), some (.ref D), some (.ref ls), some (.ref lp), some (.ref lk), y5, none, none, none] ∧ Same Hb H3 ∧ H3 lk = some (.lst (kp.map V.ref)) ∧ H3 ls = some (.lst (sp.map V.ref)) ∧ H3 lp = some (.lst (pp.map V.ref)) ∧
        PL C H3 kp ((qs.map fix).take i) ∧ PL C H3 sp (sumsOf rs ((qs.map fix).take i)) ∧ PL C H3 pp (sumsOf rp ((qs.map fix).take i)))
      ⟨none, [], [p0], [p1], rfl, t4.trans t6, upd_same, t6 _ _ (t5 _ _ els), t6 _ _ elp, PL.nil, ?_, ?_⟩ (fun i σ H3 _ ⟨_, _, _, _, _, sm, _⟩ => SqL.of (sm _ _ eD)) ?_ ?_
    · exact PL.snoc (ps := []) (qs := []) PL.nil ((pa0'.same t5).same t6)
    · exact PL.snoc (ps := []) (qs := []) PL.nil (pa1'.same t6)
    · rintro i x σ H3 hx ⟨y5, kp, sp, pp, rfl, sb, ek, es, ep, Pk, Ps, Pp⟩
      rw [List.getElem?_map] at hx
      obtain ⟨b, hb, rfl⟩ := Option.map_eq_some_iff.mp hx
      have hi : i < qs.length := by
        rw [← hP.1]
        exact (List.getElem?_eq_some_iff.mp hb).1
      have hq : qs[i]? = some qs[i] := List.getElem?_eq_getElem hi
      have pab : PA C H3 b qs[i] := (hP.2 i b _ hb hq).same sb
      obtain ⟨db, eb⟩ := id pab
      have etk : (qs.map fix).take (i + 1) = (qs.map fix).take i ++ [fix qs[i]] := by
        rw [List.take_add_one, List.getElem?_map, hq]
        rfl
      have hzf : ∀ z ∈ qs.map fix, Sz 40 z := fun z hz' => by
        obtain ⟨y, hy, rfl⟩ := List.mem_map.mp hz'
        exact (fix_ok hz hy).1
      have zs := sz_sums hzf i (by rw [List.length_map]; omega)
      refine ⟨.ref b, rfl, ?_⟩
      intro pz dz hpz hdz nez
      refine ⟨pz, dz, 0, 1, rfl, by decide, one_small, upd_same, rfl, ?_⟩
      rw [upd_upd]
      obtain ⟨u1, paz⟩ := mk_facts (C := C) (q := Rat.divInt 0 1) hpz hdz
      generalize upd (upd H3 dz (.own pz)) pz (.ins C dz (pf (Rat.divInt 0 1))) = Hz at u1 paz
      rw [rat_int] at paz
      obtain ⟨dzz, ezz⟩ := id paz
      refine ⟨b, pz, db, dzz, _, _, rfl, rfl, u1 _ _ eb, ezz, b, pz, _, _, rfl, pab.same u1, paz, _, rfl, _, rfl, ?_⟩
      by_cases hq0 : qs[i] = 0
      · rw [decide_eq_true (show qs[i] = ((0 : Int) : Rat) from hq0)]
        refine iteT ?_
        intro a4 d4 hp4 hd4 ne4
        refine ⟨a4, d4, 5, 3, rfl, by decide, Nat.lt_of_lt_of_le (show (3 : Int).natAbs < 2 ^ 2 by decide) (Nat.pow_le_pow_right (by decide) (by decide)), upd_same, rfl, ?_⟩
        rw [upd_upd]
        obtain ⟨u2, pa4⟩ := mk_facts (C := C) (q := Rat.divInt 5 3) hp4 hd4
        generalize upd (upd Hz d4 (.own a4)) a4 (.ins C d4 (pf (Rat.divInt 5 3))) = H4 at u2 pa4
        have ef : fix qs[i] = Rat.divInt 5 3 := by
          unfold fix
          rw [if_pos hq0]
        rw [← ef] at pa4
        have s34 := u1.trans u2
        obtain ⟨dx4, e4⟩ := id pa4
        have k4 := s34 _ _ ek
        refine ⟨.ref lk, rfl, .inl ⟨rfl, _, SqL.of k4⟩, .ref a4, rfl, lk, _, _, rfl, rfl, k4, small1000 (by rw [List.length_map, Pk.1, List.length_take]; omega), ?_⟩
        have pa5 : PA C (upd H4 lk (.lst (kp.map V.ref ++ [.ref a4]))) a4 (fix qs[i]) := pa4.put k4
        have Pk5 : PL C (upd H4 lk (.lst (kp.map V.ref ++ [.ref a4]))) (kp ++ [a4]) ((qs.map fix).take (i + 1)) := by
          rw [etk]
          exact ((Pk.same s34).put k4).snoc pa5
        have Ps5 : PL C (upd H4 lk (.lst (kp.map V.ref ++ [.ref a4]))) sp (sumsOf rs ((qs.map fix).take i)) := (Ps.same s34).put k4
        have Pp5 : PL C (upd H4 lk (.lst (kp.map V.ref ++ [.ref a4]))) pp (sumsOf rp ((qs.map fix).take i)) := (Pp.same s34).put k4
        have es5 : (upd H4 lk (.lst (kp.map V.ref ++ [.ref a4]))) ls = some (.lst (sp.map V.ref)) := by
          rw [upd_ne nsk]
          exact s34 _ _ es
        have ep5 : (upd H4 lk (.lst (kp.map V.ref ++ [.ref a4]))) lp = some (.lst (pp.map V.ref)) := by
          rw [upd_ne npk]
          exact s34 _ _ ep
        have ek5 : (upd H4 lk (.lst (kp.map V.ref ++ [.ref a4]))) lk = some (.lst ((kp ++ [a4]).map V.ref)) := by
          rw [upd_same, List.map_append]
          rfl
        have sb5 : Same Hb (upd H4 lk (.lst (kp.map V.ref ++ [.ref a4]))) := same_new nk0 (sb.trans s34)
        generalize upd H4 lk (.lst (kp.map V.ref ++ [.ref a4])) = H5 at pa5 Pk5 Ps5 Pp5 es5 ep5 ek5 sb5
        obtain ⟨c5, gs5, ps5⟩ := Ps5.at_ (sums_last rs ((qs.map fix).take i))
        obtain ⟨dc5, ec5⟩ := id ps5
        have zfix := (fix_ok hz (List.getElem_mem hi)).1
        refine ⟨.ref ls, rfl, .inl ⟨rfl, _, SqL.of es5⟩, .ref ls, rfl, 1, rfl, ls, _, -1, .ref c5, rfl, rfl, SqL.of es5, at_last Ps5 gs5, c5, dc5, _, rfl, ec5, no_plus _, .ref a4, rfl, c5, a4, _, _, rfl, ps5, pa5, zs.1.mono (by omega), zfix.mono (by decide), trivial, fun H6 p6 s6 np6 pa6 => ?_⟩
        have es6 := s6 _ _ es5
        refine ⟨ls, _, _, rfl, rfl, es6, small1000 (by rw [List.length_map, Ps5.1, sums_len, List.length_take]; omega), ?_⟩
        have Pk7 := (Pk5.same s6).put (o := .lst (sp.map V.ref ++ [.ref p6])) es6
        have Pp7 := (Pp5.same s6).put (o := .lst (sp.map V.ref ++ [.ref p6])) es6
        have pa7 := (pa5.same s6).put (o := .lst (sp.map V.ref ++ [.ref p6])) es6
        have Ps7 : PL C (upd H6 ls (.lst (sp.map V.ref ++ [.ref p6]))) (sp ++ [p6]) (sumsOf rs ((qs.map fix).take (i + 1))) := by
          rw [etk, sums_snoc, rs_snoc]
          exact ((Ps5.same s6).put es6).snoc (pa6.put es6)
        have es7 : (upd H6 ls (.lst (sp.map V.ref ++ [.ref p6]))) ls = some (.lst ((sp ++ [p6]).map V.ref)) := by
          rw [upd_same, List.map_append]
          rfl
        have ek7 : (upd H6 ls (.lst (sp.map V.ref ++ [.ref p6]))) lk = some (.lst ((kp ++ [a4]).map V.ref)) := by
          rw [upd_ne nsk.symm]
          exact s6 _ _ ek5
        have ep7 : (upd H6 ls (.lst (sp.map V.ref ++ [.ref p6]))) lp = some (.lst (pp.map V.ref)) := by
          rw [upd_ne nsp.symm]
          exact s6 _ _ ep5
        have sb7 : Same Hb (upd H6 ls (.lst (sp.map V.ref ++ [.ref p6]))) := same_new ns0 (sb5.trans s6)
        generalize upd H6 ls (.lst (sp.map V.ref ++ [.ref p6])) = H7 at Pk7 Pp7 pa7 Ps7 es7 ek7 ep7 sb7
        obtain ⟨c7, gp7, pp7⟩ := Pp7.at_ (sums_last rp ((qs.map fix).take i))
        obtain ⟨dc7, ec7⟩ := id pp7
        refine ⟨.ref lp, rfl, .inl ⟨rfl, _, SqL.of ep7⟩, .ref lp, rfl, 1, rfl, lp, _, -1, .ref c7, rfl, rfl, SqL.of ep7, at_last Pp7 gp7, c7, dc7, _, rfl, ec7, no_times _, .ref a4, rfl, c7, a4, _, _, rfl, pp7, pa7, zs.2.mono (by omega), zfix.mono (by decide), trivial, fun H8 p8 s8 np8 pa8 => ?_⟩
        have ep8 := s8 _ _ ep7
        refine ⟨lp, _, _, rfl, rfl, ep8, small1000 (by rw [List.length_map, Pp7.1, sums_len, List.length_take]; omega), ?_⟩
        refine ⟨_, kp ++ [a4], sp ++ [p6], pp ++ [p8], rfl, same_new np0' (sb7.trans s8), ?_, ?_, ?_, (Pk7.same s8).put ep8, (Ps7.same s8).put ep8, ?_⟩
        · rw [upd_ne npk.symm]
          exact s8 _ _ ek7
        · rw [upd_ne nsp]
          exact s8 _ _ es7
        · rw [upd_same, List.map_append]
          rfl
        · rw [etk, sums_snoc, rp_snoc]
          exact ((Pp7.same s8).put ep8).snoc (pa8.put ep8)
      · rw [decide_eq_false (show ¬ qs[i] = ((0 : Int) : Rat) from hq0)]
        refine iteF ?_
        obtain ⟨a4, ha4⟩ : ∃ a4, a4 = b := ⟨b, rfl⟩
        obtain ⟨H4, hH4⟩ : ∃ H4, H4 = Hz := ⟨Hz, rfl⟩
        have ef : fix qs[i] = qs[i] := by
          unfold fix
          rw [if_neg hq0]
        have pa4 : PA C H4 a4 (fix qs[i]) := by
          rw [ef, ha4, hH4]
          exact pab.same u1
        have s34 : Same H3 H4 := by
          rw [hH4]
          exact u1
        rw [← ha4, ← hH4]
        obtain ⟨dx4, e4⟩ := id pa4
        have k4 := s34 _ _ ek
        refine ⟨.ref lk, rfl, .inl ⟨rfl, _, SqL.of k4⟩, .ref a4, rfl, lk, _, _, rfl, rfl, k4, small1000 (by rw [List.length_map, Pk.1, List.length_take]; omega), ?_⟩
        have pa5 : PA C (upd H4 lk (.lst (kp.map V.ref ++ [.ref a4]))) a4 (fix qs[i]) := pa4.put k4
        have Pk5 : PL C (upd H4 lk (.lst (kp.map V.ref ++ [.ref a4]))) (kp ++ [a4]) ((qs.map fix).take (i + 1)) := by
          rw [etk]
          exact ((Pk.same s34).put k4).snoc pa5
        have Ps5 : PL C (upd H4 lk (.lst (kp.map V.ref ++ [.ref a4]))) sp (sumsOf rs ((qs.map fix).take i)) := (Ps.same s34).put k4
        have Pp5 : PL C (upd H4 lk (.lst (kp.map V.ref ++ [.ref a4]))) pp (sumsOf rp ((qs.map fix).take i)) := (Pp.same s34).put k4
        have es5 : (upd H4 lk (.lst (kp.map V.ref ++ [.ref a4]))) ls = some (.lst (sp.map V.ref)) := by
          rw [upd_ne nsk]
          exact s34 _ _ es
        have ep5 : (upd H4 lk (.lst (kp.map V.ref ++ [.ref a4]))) lp = some (.lst (pp.map V.ref)) := by
          rw [upd_ne npk]
          exact s34 _ _ ep
        have ek5 : (upd H4 lk (.lst (kp.map V.ref ++ [.ref a4]))) lk = some (.lst ((kp ++ [a4]).map V.ref)) := by
          rw [upd_same, List.map_append]
          rfl
        have sb5 : Same Hb (upd H4 lk (.lst (kp.map V.ref ++ [.ref a4]))) := same_new nk0 (sb.trans s34)
        generalize upd H4 lk (.lst (kp.map V.ref ++ [.ref a4])) = H5 at pa5 Pk5 Ps5 Pp5 es5 ep5 ek5 sb5
        obtain ⟨c5, gs5, ps5⟩ := Ps5.at_ (sums_last rs ((qs.map fix).take i))
        obtain ⟨dc5, ec5⟩ := id ps5
        have zfix := (fix_ok hz (List.getElem_mem hi)).1
        refine ⟨.ref ls, rfl, .inl ⟨rfl, _, SqL.of es5⟩, .ref ls, rfl, 1, rfl, ls, _, -1, .ref c5, rfl, rfl, SqL.of es5, at_last Ps5 gs5, c5, dc5, _, rfl, ec5, no_plus _, .ref a4, rfl, c5, a4, _, _, rfl, ps5, pa5, zs.1.mono (by omega), zfix.mono (by decide), trivial, fun H6 p6 s6 np6 pa6 => ?_⟩
        have es6 := s6 _ _ es5
        refine ⟨ls, _, _, rfl, rfl, es6, small1000 (by rw [List.length_map, Ps5.1, sums_len, List.length_take]; omega), ?_⟩
        have Pk7 := (Pk5.same s6).put (o := .lst (sp.map V.ref ++ [.ref p6])) es6
        have Pp7 := (Pp5.same s6).put (o := .lst (sp.map V.ref ++ [.ref p6])) es6
        have pa7 := (pa5.same s6).put (o := .lst (sp.map V.ref ++ [.ref p6])) es6
        have Ps7 : PL C (upd H6 ls (.lst (sp.map V.ref ++ [.ref p6]))) (sp ++ [p6]) (sumsOf rs ((qs.map fix).take (i + 1))) := by
          rw [etk, sums_snoc, rs_snoc]
          exact ((Ps5.same s6).put es6).snoc (pa6.put es6)
        have es7 : (upd H6 ls (.lst (sp.map V.ref ++ [.ref p6]))) ls = some (.lst ((sp ++ [p6]).map V.ref)) := by
          rw [upd_same, List.map_append]
          rfl
        have ek7 : (upd H6 ls (.lst (sp.map V.ref ++ [.ref p6]))) lk = some (.lst ((kp ++ [a4]).map V.ref)) := by
          rw [upd_ne nsk.symm]
          exact s6 _ _ ek5
        have ep7 : (upd H6 ls (.lst (sp.map V.ref ++ [.ref p6]))) lp = some (.lst (pp.map V.ref)) := by
          rw [upd_ne nsp.symm]
          exact s6 _ _ ep5
        have sb7 : Same Hb (upd H6 ls (.lst (sp.map V.ref ++ [.ref p6]))) := same_new ns0 (sb5.trans s6)
        generalize upd H6 ls (.lst (sp.map V.ref ++ [.ref p6])) = H7 at Pk7 Pp7 pa7 Ps7 es7 ek7 ep7 sb7
        obtain ⟨c7, gp7, pp7⟩ := Pp7.at_ (sums_last rp ((qs.map fix).take i))
        obtain ⟨dc7, ec7⟩ := id pp7
        refine ⟨.ref lp, rfl, .inl ⟨rfl, _, SqL.of ep7⟩, .ref lp, rfl, 1, rfl, lp, _, -1, .ref c7, rfl, rfl, SqL.of ep7, at_last Pp7 gp7, c7, dc7, _, rfl, ec7, no_times _, .ref a4, rfl, c7, a4, _, _, rfl, pp7, pa7, zs.2.mono (by omega), zfix.mono (by decide), trivial, fun H8 p8 s8 np8 pa8 => ?_⟩
        have ep8 := s8 _ _ ep7
        refine ⟨lp, _, _, rfl, rfl, ep8, small1000 (by rw [List.length_map, Pp7.1, sums_len, List.length_take]; omega), ?_⟩
        refine ⟨_, kp ++ [a4], sp ++ [p6], pp ++ [p8], rfl, same_new np0' (sb7.trans s8), ?_, ?_, ?_, (Pk7.same s8).put ep8, (Ps7.same s8).put ep8, ?_⟩
        · rw [upd_ne npk.symm]
          exact s8 _ _ ek7
        · rw [upd_ne nsp]
          exact s8 _ _ es7
        · rw [upd_same, List.map_append]
          rfl
        · rw [etk, sums_snoc, rp_snoc]
          exact ((Pp7.same s8).put ep8).snoc (pa8.put ep8)
    · rintro σ H3 ⟨y5, kp, sp, pp, rfl, sb, ek, es, ep, Pk, Ps, Pp⟩
      have etake : (qs.map fix).take (ps.map V.ref).length = qs.map fix := List.take_of_length_le (by rw [List.length_map, List.length_map, hP.1]; exact Nat.le_refl _)
      rw [etake] at Pk Ps Pp
      have hzf : ∀ z ∈ qs.map fix, Sz 40 z ∧ z ≠ 0 := fun z hz' => by
        obtain ⟨y, hy, rfl⟩ := List.mem_map.mp hz'
        exact fix_ok hz hy
      have hkl : (qs.map fix).length ≤ 61 := by
        rw [List.length_map]
        exact hql
      have hk1 : 1 ≤ (qs.map fix).length := by
        rw [List.length_map, hl]
        exact hzl1
      generalize qs.map fix = ks at Pk Ps Pp hzf hkl hk1
      obtain ⟨cl, gl', pl'⟩ := Ps.at_ (sums_last rs ks)
      have gat := at_last Ps gl'
      -- _law_back, _law_together(kept[::-1])
      refine ⟨.ref lk, rfl, .ref ls, rfl, .ref lp, rfl, lk, ls, lp, kp, sp, pp, ks, rfl, SqL.of ek, SqL.of es, SqL.of ep, Pk, Ps, Pp, hzf, hkl, fun H4 s4 => ⟨true, rfl, iteF ?_⟩⟩
      refine ⟨.ref lk, rfl, lk, _, rfl, SqL.of (s4 _ _ ek), fun p5 n5 => ?_⟩
      have u5 : Same H3 (upd H4 p5 (.lst (kp.map V.ref).reverse)) := s4.trans (same_upd n5)
      refine ⟨p5, kp.reverse, ks.reverse, rfl, SqL.of (by rw [upd_same, List.map_reverse]), (Pk.same u5).reverse, fun z hz' => (hzf z (List.mem_reverse.mp hz')).1, by rw [List.length_reverse]; exact hkl, fun H5 p6 s5 np6 pa6 => ?_⟩
      have u6 : Same H3 H5 := u5.trans s5
      obtain ⟨d6, e6⟩ := id pa6
      obtain ⟨dl, el⟩ := id (pl'.same u6)
      refine ⟨.ref ls, rfl, 1, rfl, ls, _, -1, .ref cl, rfl, rfl, SqL.of (u6 _ _ es), gat, p6, cl, d6, dl, _, _, rfl, rfl, e6, el, p6, cl, _, _, rfl, pa6, pl'.same u6, true, ?_, _, rfl, ?_⟩
      · rw [rs_reverse, decide_eq_true rfl]
      -- kept[1::2] + kept[::2]
      have hix1 : (pick (kp.map V.ref) (sliceIx (kp.map V.ref).length (some 1) none 2)).length ≤ 1000 := by
        refine Nat.le_trans (pick_len _ _) ?_
        rw [ix_od _ (by rw [List.length_map, Pk.1]; exact hk1), List.length_map, List.length_range, List.length_map, Pk.1]
        omega
      have hix0 : (pick (kp.map V.ref) (sliceIx (kp.map V.ref).length none none 2)).length ≤ 1000 := by
        refine Nat.le_trans (pick_len _ _) ?_
        rw [ix_ev, List.length_map, List.length_range, List.length_map, Pk.1]
        omega
      have big : ∀ {n : Nat}, n ≤ 1000 → n ≤ sizeLine := fun h => Nat.le_of_lt (small1000 h)
      refine iteF ⟨.ref lk, rfl, 1, rfl, 2, rfl, lk, _, 2, rfl, rfl, by decide, SqL.of (u6 _ _ ek), big hix1, fun p7 n7 => ?_⟩
      have u7 := u6.trans (same_upd (o := .lst (pick (kp.map V.ref) (sliceIx (kp.map V.ref).length (some 1) none 2))) n7)
      refine ⟨.ref lk, rfl, 2, rfl, lk, _, 2, rfl, rfl, by decide, SqL.of (u7 _ _ ek), big hix0, fun p8 n8 => ?_⟩
      have n78 : p7 ≠ p8 := fun e => by
        rw [← e, upd_same] at n8
        cases n8
      have u8 := u7.trans (same_upd (o := .lst (pick (kp.map V.ref) (sliceIx (kp.map V.ref).length none none 2))) n8)
      have e78 : (upd (upd H5 p7 (.lst (pick (kp.map V.ref) (sliceIx (kp.map V.ref).length (some 1) none 2)))) p8 (.lst (pick (kp.map V.ref) (sliceIx (kp.map V.ref).length none none 2)))) p7 = some (.lst (pick (kp.map V.ref) (sliceIx (kp.map V.ref).length (some 1) none 2))) := by
        rw [upd_ne n78, upd_same]
      have e88 : (upd (upd H5 p7 (.lst (pick (kp.map V.ref) (sliceIx (kp.map V.ref).length (some 1) none 2)))) p8 (.lst (pick (kp.map V.ref) (sliceIx (kp.map V.ref).length none none 2)))) p8 = some (.lst (pick (kp.map V.ref) (sliceIx (kp.map V.ref).length none none 2))) := upd_same
      generalize upd (upd H5 p7 (.lst (pick (kp.map V.ref) (sliceIx (kp.map V.ref).length (some 1) none 2)))) p8 (.lst (pick (kp.map V.ref) (sliceIx (kp.map V.ref).length none none 2))) = H8 at u8 e78 e88
      refine ⟨p7, p8, _, _, rfl, rfl, e78, e88, Nat.le_trans (Nat.add_le_add hix1 hix0) (by decide), fun p9 n9 => ?_⟩
      rw [pick_map, pick_map, ← List.map_append]
      have u9 := u8.trans (same_upd (o := .lst ((pick kp (sliceIx (kp.map V.ref).length (some 1) none 2) ++ pick kp (sliceIx (kp.map V.ref).length none none 2)).map V.ref)) n9)
      have lix : (kp.map V.ref).length = ks.length := by rw [List.length_map, Pk.1]
      have esum : rs (pick ks (sliceIx (kp.map V.ref).length (some 1) none 2) ++ pick ks (sliceIx (kp.map V.ref).length none none 2)) = rs ks := by
        rw [lix, rs_append]
        cases ks with
        | nil => exact absurd hk1 (by decide)
        | cons x r =>
          rw [ix_od _ hk1, ix_ev, pick_od, pick_ev (x :: r) _ rfl, rs_ev]
      refine ⟨p9, _, pick ks (sliceIx (kp.map V.ref).length (some 1) none 2) ++ pick ks (sliceIx (kp.map V.ref).length none none 2), rfl, SqL.of upd_same, PL.append ((Pk.same u9).pick _) ((Pk.same u9).pick _), ?_, ?_, fun HA pA sA npA paA => ?_⟩
      · intro z hz'
        rcases List.mem_append.mp hz' with h | h
        · exact (hzf z (mem_pick h)).1
        · exact (hzf z (mem_pick h)).1
      · have a1 := pick_len ks (sliceIx (kp.map V.ref).length (some 1) none 2)
        have a2 := pick_len ks (sliceIx (kp.map V.ref).length none none 2)
        rw [lix] at a1 a2 ⊢
        rw [ix_od _ hk1, List.length_map, List.length_range] at a1
        rw [ix_ev, List.length_map, List.length_range] at a2
        rw [List.length_append, ix_od _ hk1, ix_ev]
        omega
      rw [esum] at paA
      have uA : Same H3 HA := u9.trans sA
      obtain ⟨dA, eA⟩ := id paA
      obtain ⟨dl2, el2⟩ := id (pl'.same uA)
      refine ⟨.ref ls, rfl, 1, rfl, ls, _, -1, .ref cl, rfl, rfl, SqL.of (uA _ _ es), gat, pA, cl, dA, dl2, _, _, rfl, rfl, eA, el2, pA, cl, _, _, rfl, paA, pl'.same uA, true, ?_, _, rfl, ?_⟩
      · rw [decide_eq_true rfl]
      -- the pairs
      refine iteF ⟨.ref lk, rfl, lk, _, rfl, .inl (SqL.of (uA _ _ ek)), _, rfl, by omega, (by rw [lix]; omega), ?_⟩
      have elen : ((kp.map V.ref).length : Int).toNat = ks.length := by
        rw [lix, Int.toNat_natCast]
      rw [elen]
      refine for_range (lo := 0) (n := ks.length) (fun i σ HB => ∃ y5 y6 y7, σ = [some (.ref a), some (.ref D), some (.ref ls), some (.ref lp), some (.ref lk), y5, y6, y7, none] ∧ Same H3 HB) ⟨y5, none, none, rfl, uA⟩ ?_ ?_
      · rintro i σ HB hi ⟨z5, z6, z7, rfl, uB⟩
        rw [Int.zero_add]
        have hq : ks[i]? = some ks[i] := List.getElem?_eq_getElem hi
        obtain ⟨a1, ga1, pa1⟩ := Pk.at_ hq
        obtain ⟨j, hj, ej⟩ : ∃ j, j < ks.length ∧ ∀ v, (kp.map V.ref)[j]? = some v → atI (kp.map V.ref) ((i : Int) - 1) = some v := by
          cases i with
          | zero =>
            refine ⟨ks.length - 1, by omega, fun v hv => ?_⟩
            show atI (kp.map V.ref) (-1) = some v
            apply at_neg1
            rw [lix]
            exact hv
          | succ m =>
            refine ⟨m, by omega, fun v hv => ?_⟩
            rw [show ((m + 1 : Nat) : Int) - 1 = (m : Int) by omega]
            exact atI_nat hv
        have hq2 : ks[j]? = some ks[j] := List.getElem?_eq_getElem hj
        obtain ⟨a2, ga2, pa2⟩ := Pk.at_ hq2
        have zq := (hzf ks[i] (List.getElem_mem hi)).1
        have zr := (hzf ks[j] (List.getElem_mem hj)).1
        have p1B := pa1.same uB
        have p2B := pa2.same uB
        obtain ⟨dx1, ex1⟩ := id p1B
        obtain ⟨dx2, ex2⟩ := id p2B
        refine ⟨.ref lk, rfl, .int (i : Int), rfl, lk, _, _, .ref a1, rfl, rfl, SqL.of (uB _ _ ek), atI_nat (by rw [List.getElem?_map, ga1]; rfl), .ref lk, rfl, .int (i : Int), rfl, _, 1, rfl, rfl, lk, _, _, .ref a2, rfl, rfl, SqL.of (uB _ _ ek), ej _ (by rw [List.getElem?_map, ga2]; rfl), .ref a1, .ref a2, rfl, ?_⟩
        refine ⟨.ref a1, rfl, a1, dx1, _, rfl, ex1, no_below _, .ref a2, rfl, a1, a2, _, _, rfl, p1B, p2B, zq.mono (by decide), zr.mono (by decide), ?_⟩
        refine ⟨.ref a1, rfl, .ref a2, rfl, a1, a2, dx1, dx2, _, _, rfl, rfl, ex1, ex2, a1, a2, _, _, rfl, p1B, p2B, _, rfl, ?_⟩
        refine ⟨.ref a2, rfl, a2, dx2, _, rfl, ex2, no_below _, .ref a1, rfl, a2, a1, _, _, rfl, p2B, p1B, zr.mono (by decide), zq.mono (by decide), ?_⟩
        refine ⟨(by show 3 ≤ sizeLine; decide), fun lc nlc => ⟨.inl ⟨rfl, _, SqL.of upd_same⟩, lc, _, .bl true, rfl, rfl, SqL.of upd_same, rfl, rfl, rfl, _, rfl, ?_⟩⟩
        rw [one_of]
        refine iteNS rfl ?_
        have uC := uB.trans (same_upd (o := .lst [V.bl (decide (ks[i] < ks[j])), V.bl (decide (ks[i] = ks[j]) ^^ false), V.bl (decide (ks[j] < ks[i]))]) nlc)
        have p1C := pa1.same uC
        have p2C := pa2.same uC
        obtain ⟨dc1, ec1⟩ := id p1C
        refine ⟨.ref a1, rfl, a1, dc1, _, rfl, ec1, no_less _, .ref a2, rfl, a1, a2, _, _, rfl, p1C, p2C, zq.mono (by decide), zr.mono (by decide), trivial, fun HD pD sD npD paD => ?_⟩
        obtain ⟨dD, eDD⟩ := id paD
        refine ⟨pD, dD, _, rfl, eDD, no_below _, ?_⟩
        intro pz dz hpz hdz nez
        refine ⟨pz, dz, 0, 1, rfl, by decide, one_small, upd_same, rfl, ?_⟩
        rw [upd_upd]
        obtain ⟨v1, paz⟩ := mk_facts (C := C) (q := Rat.divInt 0 1) hpz hdz
        generalize upd (upd HD dz (.own pz)) pz (.ins C dz (pf (Rat.divInt 0 1))) = HE at v1 paz
        rw [rat_int] at paz
        have uE := (uC.trans sD).trans v1
        have p1E := pa1.same uE
        have p2E := pa2.same uE
        obtain ⟨de1, ee1⟩ := id p1E
        refine ⟨pD, pz, _, _, rfl, paD.same v1, paz, (sz_sub zq zr).mono (by decide), sz0.mono (by decide), ?_⟩
        refine ⟨.ref a1, rfl, a1, de1, _, rfl, ee1, no_below _, .ref a2, rfl, a1, a2, _, _, rfl, p1E, p2E, zq.mono (by decide), zr.mono (by decide), rfl, _, rfl, iteNS ?_ ?_⟩
        · have eb := below_sub ks[i] ks[j]
          show V.bl (decide (ks[i] - ks[j] < ((0 : Int) : Rat))) = V.bl (decide (ks[i] < ks[j]))
          exact congrArg V.bl eb
        · exact ⟨_, _, _, rfl, uE⟩
      · rintro σ HB ⟨z5, z6, z7, rfl, uB⟩
        exact q HB
end
end Hop

set_option Elab.async false
set_option linter.all false
set_option maxRecDepth 100000
namespace Hop
open PySem L2 HopR
/-! ### what the top has written -/
theorem all_mk {l : PySem.W.OpenLaw} {w : World} {K : PySem.W.Frag} {h : Heap} {mg : Str → Option Value} {fa : Addr} (X : K.In h) (G : h.Ns mainGlobals mg) (hfa : mg "law" = some (.ref fa))
    {f1 : Addr} {od1 an1 : Option Addr} {sl1 : Array (Option Value)} {oc1 kV1 dc1 pm1 cd1 ct1 : Value}
    {f2 : Addr} {od2 an2 : Option Addr} {sl2 : Array (Option Value)} {oc2 kV2 dc2 pm2 cd2 ct2 : Value}
    {fz : Addr} {odz anz : Option Addr} {slz : Array (Option Value)} {ocz kVz dcz pmz cdz ctz : Value}
    {fw : Addr} {odw anw : Option Addr} {slw : Array (Option Value)} {ocw kVw dcw pmw cdw ctw : Value}
    {fq : Addr} {odq anq : Option Addr} {slq : Array (Option Value)} {ocq kVq dcq pmq cdq ctq : Value}
    {fg : Addr} {odg ang : Option Addr} {slg : Array (Option Value)} {ocg kVg dcg pmg cdg ctg : Value}
    {fh : Addr} {odh anh : Option Addr} {slh : Array (Option Value)} {och kVh dch pmh cdh cth : Value}
    {fL : Addr} {odL anL : Option Addr} {slL : Array (Option Value)} {ocL kVL dcL pmL cdL ctL : Value}
    {C fi Ti : Addr} {odi ani odT : Option Addr} {sli slT : Array (Option Value)} {oci kVi dci pmi cdi cti ocT : Value} {t1 : Tok} {nT : Nat}
    {fp : Addr} {odp anp : Option Addr} {slp : Array (Option Value)} {ocp kVp dcp pmp cdp ctp : Value}
    {fl : Addr} {odl anl : Option Addr} {sll : Array (Option Value)} {ocl kVl dcl pml cdl ctl : Value}
    {ft : Addr} {odt ant : Option Addr} {slt : Array (Option Value)} {oct kVt dct pmt cdt ctt : Value}
    {fo : Addr} {odo ano : Option Addr} {slo : Array (Option Value)} {oco kVo dco pmo cdo cto : Value}
    {fb : Addr} {odb anb : Option Addr} {slb : Array (Option Value)} {ocb kVb dcb pmb cdb ctb : Value}
    {fe : Addr} {ode ane : Option Addr} {sle : Array (Option Value)} {oce kVe dce pme cde cte : Value}
    {nmC qC : Str} {NC : Addr} {bsC subC : List Value} {hdC abC : Bool} {snC : List Str} {colC : Option Bool} {ddC : Option Addr} {x0 x1 x2 x3 x5 : Option Value} {nwC : String}
    (a1 : PySem.W.nsIn K mainGlobals "is_whole" = some (some (.ref f1))) (l1 : K.lookup f1 = some ⟨oc1, od1, .func (PySem.W.fnOf "is_whole" "is_whole" (defArgs sIsWhole) (defBody sIsWhole) (defScope sIsWhole) .none kV1 dc1 pm1 an1 cd1 ct1), sl1⟩) (c1 : PySem.W.codeIn K cd1 "is_whole" = true) (k1 : PySem.W.keepIn K (.ref f1) = true)
    (a2 : PySem.W.nsIn K mainGlobals "common_divisor" = some (some (.ref f2))) (l2 : K.lookup f2 = some ⟨oc2, od2, .func (PySem.W.fnOf "common_divisor" "common_divisor" (defArgs sDivisor) (defBody sDivisor) (defScope sDivisor) .none kV2 dc2 pm2 an2 cd2 ct2), sl2⟩) (c2 : PySem.W.codeIn K cd2 "common_divisor" = true) (k2 : PySem.W.keepIn K (.ref f2) = true)
    (az : PySem.W.nsIn K mainGlobals "lowest" = some (some (.ref fz))) (lz : K.lookup fz = some ⟨ocz, odz, .func (PySem.W.fnOf "lowest" "lowest" (defArgs sLowest) (defBody sLowest) (defScope sLowest) .none kVz dcz pmz anz cdz ctz), slz⟩) (cz : PySem.W.codeIn K cdz "lowest" = true) (kz : PySem.W.keepIn K (.ref fz) = true)
    (aw : PySem.W.nsIn K mainGlobals "_law_drawn" = some (some (.ref fw))) (lw : K.lookup fw = some ⟨ocw, odw, .func (PySem.W.fnOf "_law_drawn" "_law_drawn" (defArgs sDrawn) (defBody sDrawn) (defScope sDrawn) .none kVw dcw pmw anw cdw ctw), slw⟩) (cw : PySem.W.codeIn K cdw "_law_drawn" = true) (kw : PySem.W.keepIn K (.ref fw) = true)
    (aq : PySem.W.nsIn K mainGlobals "_law_part" = some (some (.ref fq))) (lq : K.lookup fq = some ⟨ocq, odq, .func (PySem.W.fnOf "_law_part" "_law_part" (defArgs sLPart) (defBody sLPart) (defScope sLPart) .none kVq dcq pmq anq cdq ctq), slq⟩) (cq : PySem.W.codeIn K cdq "_law_part" = true) (kq : PySem.W.keepIn K (.ref fq) = true)
    (ag : PySem.W.nsIn K mainGlobals "_law_together" = some (some (.ref fg))) (lg : K.lookup fg = some ⟨ocg, odg, .func (PySem.W.fnOf "_law_together" "_law_together" (defArgs sTogether) (defBody sTogether) (defScope sTogether) .none kVg dcg pmg ang cdg ctg), slg⟩) (cg : PySem.W.codeIn K cdg "_law_together" = true) (kg : PySem.W.keepIn K (.ref fg) = true)
    (ah : PySem.W.nsIn K mainGlobals "_law_back" = some (some (.ref fh))) (lh : K.lookup fh = some ⟨och, odh, .func (PySem.W.fnOf "_law_back" "_law_back" (defArgs sBack) (defBody sBack) (defScope sBack) .none kVh dch pmh anh cdh cth), slh⟩) (ch : PySem.W.codeIn K cdh "_law_back" = true) (kh : PySem.W.keepIn K (.ref fh) = true)
    (aL : PySem.W.nsIn K mainGlobals "law" = some (some (.ref fL))) (lL : K.lookup fL = some ⟨ocL, odL, .func (PySem.W.fnOf "law" "law" (defArgs sLaw) (defBody sLaw) (defScope sLaw) .none kVL dcL pmL anL cdL ctL), slL⟩) (cL : PySem.W.codeIn K cdL "law" = true) (kL : PySem.W.keepIn K (.ref fL) = true)
    (gC : PySem.W.nsIn K mainGlobals "Part" = some (some (.ref C)))
    (mi : PySem.W.findIn K (.ref C) "__init__" = some (some (.ref fi))) (ni : PySem.W.isFn K (.ref fi) = true) (li : K.lookup fi = some ⟨oci, odi, .func (PySem.W.fnOf "__init__" "Part.__init__" (defArgs sInit) (defBody sInit) (defScope sInit) (.ref Ti) kVi dci pmi ani cdi cti), sli⟩) (ci : PySem.W.codeIn K cdi "Part.__init__" = true) (ki : PySem.W.keepIn K (.ref fi) = true) (lT : K.lookup Ti = some ⟨ocT, odT, .seq #[.int 1 t1] nT, slT⟩)
    (mp : PySem.W.findIn K (.ref C) "plus" = some (some (.ref fp))) (np : PySem.W.isFn K (.ref fp) = true) (lp : K.lookup fp = some ⟨ocp, odp, .func (PySem.W.fnOf "plus" "Part.plus" (defArgs sPlus) (defBody sPlus) (defScope sPlus) .none kVp dcp pmp anp cdp ctp), slp⟩) (cp : PySem.W.codeIn K cdp "Part.plus" = true) (kp : PySem.W.keepIn K (.ref fp) = true)
    (ml : PySem.W.findIn K (.ref C) "less" = some (some (.ref fl))) (nl : PySem.W.isFn K (.ref fl) = true) (ll : K.lookup fl = some ⟨ocl, odl, .func (PySem.W.fnOf "less" "Part.less" (defArgs sLess) (defBody sLess) (defScope sLess) .none kVl dcl pml anl cdl ctl), sll⟩) (cl : PySem.W.codeIn K cdl "Part.less" = true) (kl : PySem.W.keepIn K (.ref fl) = true)
    (mt : PySem.W.findIn K (.ref C) "times" = some (some (.ref ft))) (nt : PySem.W.isFn K (.ref ft) = true) (lt : K.lookup ft = some ⟨oct, odt, .func (PySem.W.fnOf "times" "Part.times" (defArgs sTimes) (defBody sTimes) (defScope sTimes) .none kVt dct pmt ant cdt ctt), slt⟩) (ct : PySem.W.codeIn K cdt "Part.times" = true) (kt : PySem.W.keepIn K (.ref ft) = true)
    (mo : PySem.W.findIn K (.ref C) "over" = some (some (.ref fo))) (no : PySem.W.isFn K (.ref fo) = true) (lo : K.lookup fo = some ⟨oco, odo, .func (PySem.W.fnOf "over" "Part.over" (defArgs sOver) (defBody sOver) (defScope sOver) .none kVo dco pmo ano cdo cto), slo⟩) (co : PySem.W.codeIn K cdo "Part.over" = true) (ko : PySem.W.keepIn K (.ref fo) = true)
    (mb : PySem.W.findIn K (.ref C) "is_below" = some (some (.ref fb))) (nb : PySem.W.isFn K (.ref fb) = true) (lb : K.lookup fb = some ⟨ocb, odb, .func (PySem.W.fnOf "is_below" "Part.is_below" (defArgs sBelow) (defBody sBelow) (defScope sBelow) .none kVb dcb pmb anb cdb ctb), slb⟩) (cb : PySem.W.codeIn K cdb "Part.is_below" = true) (kb : PySem.W.keepIn K (.ref fb) = true)
    (me : PySem.W.findIn K (.ref C) "__eq__" = some (some (.ref fe))) (ne : PySem.W.isFn K (.ref fe) = true) (le : K.lookup fe = some ⟨oce, ode, .func (PySem.W.fnOf "__eq__" "Part.__eq__" (defArgs sEq) (defBody sEq) (defScope sEq) .none kVe dce pme ane cde cte), sle⟩) (ce : PySem.W.codeIn K cde "Part.__eq__" = true) (ke : PySem.W.keepIn K (.ref fe) = true)
    (q_pg : PySem.W.plainGet K C Str.empty = true)
    (q_hd : PySem.W.hasDictIn K C = true)
    (q_po : PySem.W.plainOver K C = true)
    (q_sa : PySem.W.findIn K (.ref C) "__setattr__" = some (some (.builtin "object.__setattr__")))
    (q_ha : PySem.W.findIn K (.ref C) "__class__" = some (some (.builtin "object.__class__")))
    (q_hn : PySem.W.specialIn K (.builtin "object.__class__") "__get__" = some (some (.builtin "getset_descriptor.__get__")))
    (q_htk : PySem.W.takesIn K (.builtin "object.__class__") = some true)
    (q_hm : PySem.W.mroIn K C (.type "object") = some true)
    (q_nT : PySem.W.findIn K (.ref C) "top" = some none)
    (q_nB : PySem.W.findIn K (.ref C) "bottom" = some none)
    (q_mk : PySem.W.makesIn K C = true)
    (q_kc : PySem.W.keepIn K (.ref C) = true)
    (q_ne : PySem.W.findIn K (.ref C) "__ne__" = some (some (.builtin "object.__ne__")))
    (q_ob : PySem.W.subIn K (.ref C) (.type "object") = some true)
    (z0 : PySem.W.nsIn K mainGlobals "len" = some none)
    (z1 : PySem.W.nsIn K mainGlobals "range" = some none)
    (z2 : PySem.W.nsIn K mainGlobals "abs" = some none)
    (z3 : PySem.W.nsIn K mainGlobals "isinstance" = some none)
    (z4 : PySem.W.nsIn K mainGlobals "int" = some none)
    (z5 : PySem.W.nsIn K mainGlobals "bool" = some none)
    (kC : K.lookup C = some (excClassObj nmC qC C NC bsC [.type "object"] hdC snC subC abC colC ddC x0 x1 x2 x3 x5 nwC))
    (okN : PySem.W.nsOkIn K NC = true)
    (eqN : PySem.W.nsIn K NC "__eq__" = some (some (.ref fe)))
    (neN : PySem.W.nsIn K NC "__ne__" = some none)
    : ∃ fd : FuncData, (∀ (s : Shared) (v : Value), BindsTo s fd ⟨[v], []⟩ [("_law_script", v)]) ∧ ∀ base : Heap, K.In base → base.Ns mainGlobals mg → FnOk l.prog w K mg base CX0 8 fa fd ["_law_script"] (spLaw K) := by
  have e := hfa.symm.trans (PySem.W.mg_of X G aL)
  cases e
  have F1 := fun_mk (st := sIsWhole) l1 c1 k1
  have b1 := F1.binds (ps := ["thing"]) fun _ _ _ _ _ _ us hl => match us, hl with | [_], _ => rfl
  have N1 := Fn.mk (ps := ["thing"]) F1 b1 (PySem.W.mg_of X G a1)
  have F2 := fun_mk (st := sDivisor) l2 c2 k2
  have b2 := F2.binds (ps := ["one", "other"]) fun _ _ _ _ _ _ us hl => match us, hl with | [_, _], _ => rfl
  have N2 := Fn.mk (ps := ["one", "other"]) F2 b2 (PySem.W.mg_of X G a2)
  have Fz := fun_mk (st := sLowest) lz cz kz
  have bz := Fz.binds (ps := ["top", "bottom"]) fun _ _ _ _ _ _ us hl => match us, hl with | [_, _], _ => rfl
  have Nz := Fn.mk (ps := ["top", "bottom"]) Fz bz (PySem.W.mg_of X G az)
  have Fw := fun_mk (st := sDrawn) lw cw kw
  have bw := Fw.binds (ps := ["_law_cell", "_law_sizes"]) fun _ _ _ _ _ _ us hl => match us, hl with | [_, _], _ => rfl
  have Nw := Fn.mk (ps := ["_law_cell", "_law_sizes"]) Fw bw (PySem.W.mg_of X G aw)
  have Fq := fun_mk (st := sLPart) lq cq kq
  have bq := Fq.binds (ps := ["_law_cell"]) fun _ _ _ _ _ _ us hl => match us, hl with | [_], _ => rfl
  have Nq := Fn.mk (ps := ["_law_cell"]) Fq bq (PySem.W.mg_of X G aq)
  have Fg := fun_mk (st := sTogether) lg cg kg
  have bg := Fg.binds (ps := ["_law_some"]) fun _ _ _ _ _ _ us hl => match us, hl with | [_], _ => rfl
  have Ng := Fn.mk (ps := ["_law_some"]) Fg bg (PySem.W.mg_of X G ag)
  have Fh := fun_mk (st := sBack) lh ch kh
  have bh := Fh.binds (ps := ["_law_some", "_law_sums", "_law_products"]) fun _ _ _ _ _ _ us hl => match us, hl with | [_, _, _], _ => rfl
  have Nh := Fn.mk (ps := ["_law_some", "_law_sums", "_law_products"]) Fh bh (PySem.W.mg_of X G ah)
  have Fp := fun_mk (st := sPlus) lp cp kp
  have bp := Fp.binds (ps := ["self", "other"]) fun _ _ _ _ _ _ us hl => match us, hl with | [_, _], _ => rfl
  have Fl := fun_mk (st := sLess) ll cl kl
  have bl := Fl.binds (ps := ["self", "other"]) fun _ _ _ _ _ _ us hl => match us, hl with | [_, _], _ => rfl
  have Ft := fun_mk (st := sTimes) lt ct kt
  have bt := Ft.binds (ps := ["self", "other"]) fun _ _ _ _ _ _ us hl => match us, hl with | [_, _], _ => rfl
  have Fo := fun_mk (st := sOver) lo co ko
  have bo := Fo.binds (ps := ["self", "other"]) fun _ _ _ _ _ _ us hl => match us, hl with | [_, _], _ => rfl
  have Fb := fun_mk (st := sBelow) lb cb kb
  have bb := Fb.binds (ps := ["self", "other"]) fun _ _ _ _ _ _ us hl => match us, hl with | [_, _], _ => rfl
  have Fe := fun_mk (st := sEq) le ce ke
  have be := Fe.binds (ps := ["self", "other"]) fun _ _ _ _ _ _ us hl => match us, hl with | [_, _], _ => rfl
  have Fi : FunD K "__init__" "Part.__init__" (defArgs sInit) (defBody sInit) (defScope sInit) [.int 1] [] fi _ := ⟨⟨oci, odi, _, _, _, _, _, _, _, sli, rfl, li, ci, .inr ⟨by simp, Ti, _, [.int 1 t1], nT, rfl, lT, rfl, .cons ⟨_, rfl⟩ .nil⟩, .inl rfl⟩, ki⟩
  obtain ⟨ds3, r3, b3⟩ := Fi.binds1 (ps := ["self", "top", "bottom"]) 3 1 (by simp) rfl (fun T kV doc pm an cdv ct us its hl hi => match us, its, hl, hi with | [_, _, _], [_], _, _ => ⟨_, rfl, rfl⟩)
  obtain rfl : ds3 = [] := by cases r3; rfl
  obtain ⟨ds2, r2, b2⟩ := Fi.binds1 (ps := ["self", "top", "bottom"]) 2 0 (by simp) rfl (fun T kV doc pm an cdv ct us its hl hi => match us, its, hl, hi with | [_, _], [_], _, _ => ⟨_, rfl, rfl⟩)
  obtain ⟨d1, rfl, r1⟩ : ∃ d1, ds2 = [d1] ∧ RelV (.int 1) d1 := by
    cases r2 with
    | cons r rr =>
      cases rr
      exact ⟨_, rfl, r⟩
  have y0 := PySem.W.mg_none_of X G z0
  have y1 := PySem.W.mg_none_of X G z1
  have y2 := PySem.W.mg_none_of X G z2
  have y3 := PySem.W.mg_none_of X G z3
  have y4 := PySem.W.mg_none_of X G z4
  have y5 := PySem.W.mg_none_of X G z5
  have q_me : PySem.W.kitOne K (.ref C) (.ref C) = some true := by
    unfold PySem.W.kitOne
    rw [if_pos (by simp)]
  have CL : Cls K C := ⟨q_pg, q_hd, q_po, q_sa⟩
  have IC : C8.InsC K C := ⟨CL, q_ha, q_hn, q_htk, q_hm, q_me⟩
  have gPart := PySem.W.mg_of X G gC
  have T : Txt K mg C := ⟨y0, y1, y2, y3, y4, y5, IC, q_nT, q_nB, gPart⟩
  have N : Mks K mg C fi f1 f2 _ _ _ d1 := ⟨⟨q_mk, mi, ni, q_kc⟩, Fi, b3, b2, r1, N1, N2⟩
  have M : Ms K mg C fp fl ft fo fb fe fz _ _ _ _ _ _ _ := ⟨Fp, Fl, Ft, Fo, Fb, Fe, Nz, bp, bl, bt, bo, bb, be, ⟨mp, np, kp⟩, ⟨ml, nl, kl⟩, ⟨mt, nt, kt⟩, ⟨mo, no, ko⟩, ⟨mb, nb, kb⟩, ⟨me, ne, _, _, _, _, _, _, _, _, _, _, _, _, _, _, _, _, kC, okN, eqN, neN⟩⟩
  exact ⟨PySem.W.fnOf "law" "law" (defArgs sLaw) (defBody sLaw) (defScope sLaw) .none kVL dcL pmL anL cdL ctL, fun s v => .of_eq rfl, fun base _ _ => ok_law (fun_mk (st := sLaw) lL cL kL) N M Nw Nq Ng Nh T⟩
end Hop
open PySem PySem.W PyProof.Rows in
set_option maxRecDepth 100000 in
set_option maxHeartbeats 0 in
theorem PySem.Challenge.cw_hopline_k05_whole_parts_there_and_back_holds : PySem.Challenge.rw_hopline_k05_whole_parts_there_and_back.Holds := by
  w_on; o_law; k_head; (case hw => w_witness2)
  k_fill
  refine L2.walk_of (l := PySem.Challenge.rw_hopline_k05_whole_parts_there_and_back) (n := 63) (k := 8) (x := "_law_script") (CX := fun _ => L2.CX0) (sp := fun w => Hop.spLaw _) rfl (by decide) rfl ⟨rfl, by decide, by decide⟩ (fun w h Y => PySem.W.kIn_of Y) ?F (fun _ _ a ns hl _ hS => ⟨a, ns, rfl, hS, hl, fun _ => rfl⟩) (fun _ _ _ _ _ h => h)
  case F =>
    intro w mg fa h KX G hmg
    refine' Hop.all_mk KX G hmg ?u_a1 ?u_l1 ?u_c1 ?u_k1 ?u_a2 ?u_l2 ?u_c2 ?u_k2 ?u_az ?u_lz ?u_cz ?u_kz ?u_aw ?u_lw ?u_cw ?u_kw ?u_aq ?u_lq ?u_cq ?u_kq ?u_ag ?u_lg ?u_cg ?u_kg ?u_ah ?u_lh ?u_ch ?u_kh ?u_aL ?u_lL ?u_cL ?u_kL ?u_gC ?u_mi ?u_ni ?u_li ?u_ci ?u_ki ?u_lT ?u_mp ?u_np ?u_lp ?u_cp ?u_kp ?u_ml ?u_nl ?u_ll ?u_cl ?u_kl ?u_mt ?u_nt ?u_lt ?u_ct ?u_kt ?u_mo ?u_no ?u_lo ?u_co ?u_ko ?u_mb ?u_nb ?u_lb ?u_cb ?u_kb ?u_me ?u_ne ?u_le ?u_ce ?u_ke ?u_q_pg ?u_q_hd ?u_q_po ?u_q_sa ?u_q_ha ?u_q_hn ?u_q_htk ?u_q_hm ?u_q_nT ?u_q_nB ?u_q_mk ?u_q_kc ?u_q_ne ?u_q_ob ?u_z0 ?u_z1 ?u_z2 ?u_z3 ?u_z4 ?u_z5 ?u_kC ?u_okN ?u_eqN ?u_neN
    (case u_a1 => k_is)
    (case u_l1 => k_is)
    (case u_c1 => k_is)
    (case u_k1 => k_is)
    (case u_a2 => k_is)
    (case u_l2 => k_is)
    (case u_c2 => k_is)
    (case u_k2 => k_is)
    (case u_az => k_is)
    (case u_lz => k_is)
    (case u_cz => k_is)
    (case u_kz => k_is)
    (case u_aw => k_is)
    (case u_lw => k_is)
    (case u_cw => k_is)
    (case u_kw => k_is)
    (case u_aq => k_is)
    (case u_lq => k_is)
    (case u_cq => k_is)
    (case u_kq => k_is)
    (case u_ag => k_is)
    (case u_lg => k_is)
    (case u_cg => k_is)
    (case u_kg => k_is)
    (case u_ah => k_is)
    (case u_lh => k_is)
    (case u_ch => k_is)
    (case u_kh => k_is)
    (case u_aL => k_is)
    (case u_lL => k_is)
    (case u_cL => k_is)
    (case u_kL => k_is)
    (case u_gC => k_is)
    (case u_mi => k_is)
    (case u_ni => k_is)
    (case u_li => k_is)
    (case u_ci => k_is)
    (case u_ki => k_is)
    (case u_lT => k_is)
    (case u_mp => k_is)
    (case u_np => k_is)
    (case u_lp => k_is)
    (case u_cp => k_is)
    (case u_kp => k_is)
    (case u_ml => k_is)
    (case u_nl => k_is)
    (case u_ll => k_is)
    (case u_cl => k_is)
    (case u_kl => k_is)
    (case u_mt => k_is)
    (case u_nt => k_is)
    (case u_lt => k_is)
    (case u_ct => k_is)
    (case u_kt => k_is)
    (case u_mo => k_is)
    (case u_no => k_is)
    (case u_lo => k_is)
    (case u_co => k_is)
    (case u_ko => k_is)
    (case u_mb => k_is)
    (case u_nb => k_is)
    (case u_lb => k_is)
    (case u_cb => k_is)
    (case u_kb => k_is)
    (case u_me => k_is)
    (case u_ne => k_is)
    (case u_le => k_is)
    (case u_ce => k_is)
    (case u_ke => k_is)
    (case u_q_pg => k_is)
    (case u_q_hd => k_is)
    (case u_q_po => k_is)
    (case u_q_sa => k_is)
    (case u_q_ha => k_is)
    (case u_q_hn => k_is)
    (case u_q_htk => k_is)
    (case u_q_hm => k_is)
    (case u_q_nT => k_is)
    (case u_q_nB => k_is)
    (case u_q_mk => k_is)
    (case u_q_kc => k_is)
    (case u_q_ne => k_is)
    (case u_q_ob => k_is)
    (case u_z0 => k_is)
    (case u_z1 => k_is)
    (case u_z2 => k_is)
    (case u_z3 => k_is)
    (case u_z4 => k_is)
    (case u_z5 => k_is)
    (case u_kC => k_is)
    (case u_okN => first | kernel_rfl | decide +kernel | rfl)
    (case u_eqN => k_is)
    (case u_neN => k_is)
