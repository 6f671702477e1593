import PyProof.Rows.All
import Wide.All
import OpenK.AllK
import Wide.FinOn
import HandS.ForMost
import HandS.Wide
import HandS.Style
import HandS.RevTup
import HandS.Rev
import HandS.IsInst
import HandS.More
import HandS.Conv
import HandS.Defaults
import HandS.ForExc
import HandS.OwnEq
import HandS.Flow
import PyProof.ListStr
import HandS.Walk
import HandS.EndBits
import PyProof.ReprRoads
import PyProof.ReprLen
import HandS.Exc
import HandS.ExcIs
import HandS.TryOnly
import HandS.ExcOwn
import HandS.WordsExc
import HandS.Codes
import KE.KCallOwn
import HandS.FStr
import PyProof.FString3
import PySem.Challenge.RW_hopline_k02_parts_reckoned

set_option Elab.async false
set_option linter.all false
set_option maxRecDepth 100000
namespace HopR
open PySem PySem.Spec PyProof.Rows L2
/-! rules of my own: texts -/
/-- the signs of a text, each a text -/
def sg (z : Str) : List Str := z.cps.toList.map fun c => ⟨#[c]⟩
theorem sg_len (z : Str) : (sg z).length = z.length := by
  unfold sg
  rw [List.length_map]
  rfl
theorem sg_get {z : Str} {i : Nat} {c : Nat} (h : z.cps[i]? = some c) : (sg z)[i]? = some ⟨#[c]⟩ := by
  unfold sg
  rw [List.getElem?_map, Array.getElem?_toList, h]
  rfl
theorem strsAre_of : ∀ (vs : List Value) (ys : List Str), vs.length = ys.length → (∀ (j : Nat) (v : Value), vs[j]? = some v → ∃ y t, ys[j]? = some y ∧ v = .str y t) → StrsAre vs ys
  | [], [], _, _ => .nil
  | v :: r, y :: q, hl, h => by
    obtain ⟨y', t, e1, e2⟩ := h 0 v rfl
    have e3 : y = y' := Option.some.inj e1
    subst e3 e2
    exact .cons y t (strsAre_of r q (by simpa using hl) fun j w hw => h (j + 1) w hw)
theorem signs_are {z : Str} {acc : Array Value} (h : ItemsOf (SignAt z) acc z.cps.size) : StrsAre acc.toList (sg z) := by
  refine strsAre_of _ _ (by rw [sg_len, Array.length_toList, h.1]; rfl) fun j v hv => ?_
  obtain ⟨c, u, hc, e⟩ := h.2 j v (by rw [← Array.getElem?_toList]; exact hv)
  exact ⟨⟨#[c]⟩, u, sg_get hc, e⟩
section
variable {X : Cx}
/-- sorted(text) -/
def rSortT : List V → Hp → VK → Prop := fun vs H Q => ∃ z : Str, vs = [.str z] ∧ z.length < 64 ∧ ∀ (ys : List Str) (p : Addr), ys.Perm (sg z) → sortedS ys = true → H p = none → Q (.ref p) (upd H p (.lst (ys.map V.str)))
theorem cr_sortT (hcm : X.calm = true) : CallR X (.builtin "sorted") rSortT := by
  intro pins s σ H xs us Q I r h
  obtain ⟨z, rfl, h64, q⟩ := h
  obtain ⟨u, rfl, t, rfl⟩ := vals1 r
  refine Calls.call_function_entry kind_sorted plain_sorted entry_sorted (args_sorted1 (.str z t)) ?_
  unfold Builtin.«sorted»
  refine wpAny_bind (m := checkCount "sorted" 1 1 [Value.str z t].length) (wpAny_pure ?_)
  have hz : z.cps.size < 64 := h64
  refine wpAny_bind (wpAny_collect_str (A := X.A.in1) (show X.A.in1.handled = none from I.ok.hd hcm) z t (fun s' acc hk hg hdr hos hit => ?_) (Nat.le_trans (Nat.le_of_lt hz) (by decide)))
  have hS := signs_are hit
  have es : s' = { s with heap := s'.heap, toks := s'.toks } := by
    cases s'
    cases s
    simp only at hg hdr hos
    subst hg hdr hos
    rfl
  have hal : acc.toList.length < 64 := by rw [Array.length_toList, hit.1]; exact hz
  refine wpAny_bind (wpAny_newList ?_ (Nat.le_trans (Nat.le_of_lt hal) (by decide)))
  have hoL : (s'.heap.push (seqObj "list" acc.toList.toArray 0)).get? s'.heap.objs.size = some (seqObj "list" acc.toList.toArray 0) := Heap.get?_push_size _ rfl
  refine wpAny_bind (wpAny_holding (wpAny_call_entry slot_list_sort ⟨_, hoL, rfl⟩ entry_list_sort (list_sort_treeK strKind_oneLt hoL hS.keysOf (fun v₁ v₂ rest e => keyKind_strs (by rw [← e]; exact hS)) hal fun st' hp hs => ⟨_, rfl, ?_⟩) (args_list_sort _)))
  obtain ⟨ys, g1, g2, g3⟩ := sorted_out_str hS hp hs
  obtain ⟨ep, he'⟩ := sortedHeap_at (vs := acc.toList) (out := (arrOf st').map (·.2)) hoL
  have I1 : Inv X pins σ H s' := by
    rw [es]
    exact I.kept hk
  have hlen : (ys.map V.str).length ≤ sizeLine := by
    rw [List.length_map, g2.length_eq, sg_len]
    exact Nat.le_trans (Nat.le_of_lt h64) (by decide)
  have hne : ∀ b o, s'.heap.get? b = some o → (sortedHeap (s'.heap.push (seqObj "list" acc.toList.toArray 0)) s'.heap.objs.size acc.toList ((arrOf st').map (·.2))).get? b = some o := fun b o e => by
    rw [sortedHeap_old (Nat.ne_of_lt (Heap.lt_size e)) (by rw [size_push']; exact Nat.lt_succ_of_lt (Heap.lt_size e))]
    exact Heap.get?_push_of_some _ e
  refine wpAny_pure ⟨_, rfl, .ref _, upd H s'.heap.objs.size (.lst (ys.map V.str)), I1.laid (t' := s'.toks) hne (Nat.le_refl _) ?_, rfl, q ys _ g2 g3 (I1.hok.fresh (Nat.le_refl _))⟩
  exact ⟨hlen, ((arrOf st').map (·.2)).toList, ep, vals_of_strs g1, by rw [Array.toArray_toList]; exact he'⟩
/-- list(text) -/
def rListT : List V → Hp → VK → Prop := fun vs H Q => ∃ z : Str, vs = [.str z] ∧ z.length ≤ sizeLine ∧ ∀ p : Addr, H p = none → Q (.ref p) (upd H p (.lst ((sg z).map V.str)))
theorem cr_listT (hcm : X.calm = true) : CallR X (.type "list") rListT := by
  intro pins s σ H xs us Q I r h
  obtain ⟨z, rfl, hz, q⟩ := h
  obtain ⟨u, rfl, t, rfl⟩ := vals1 r
  refine call_list_str (I.ok.hd hcm) z t (fun h' tk acc c' hk hS' hit => ?_) hz
  refine ⟨.ref _, upd H s.heap.objs.size (.lst ((sg z).map V.str)), I.laid hk (Nat.le_refl _) ?_, rfl, q _ (I.hok.fresh (Nat.le_refl _))⟩
  exact ⟨by rw [List.length_map, sg_len]; exact hz, acc.toList, c', vals_of_strs (signs_are hit), by rw [Array.toArray_toList]; exact hS'⟩
/-- text * n -/
def repS (z : Str) (n : Nat) : Str := ⟨((List.replicate n z.cps.toList).flatten).toArray⟩
theorem foldl_app : ∀ (n : Nat) (a b : Array Nat), ((List.replicate n a).foldl (· ++ ·) b).toList = b.toList ++ (List.replicate n a.toList).flatten
  | 0, a, b => by simp
  | n + 1, a, b => by
    rw [List.replicate_succ, List.foldl_cons, foldl_app n, List.replicate_succ, List.flatten_cons, Array.toList_append, List.append_assoc]
theorem repS_len (z : Str) (k : Nat) : (repS z k).length = z.length * k := by
  show ((List.replicate k z.cps.toList).flatten).toArray.size = z.cps.size * k
  rw [List.size_toArray, List.length_flatten, List.map_replicate, List.sum_replicate_nat, Array.length_toList, Nat.mul_comm]
def rRepS : R2 := fun x y H Q => ∃ (z : Str) (k : Nat), x = .str z ∧ y = .int (k : Int) ∧ z.length * k ≤ 1000000 ∧ k ≤ 1000000 ∧ Q (.str (repS z k)) H
theorem op_repS : OpR X (binaryOp .Mult) rRepS := by
  intro pins s σ H x y v u Q I rx ry h
  obtain ⟨z, k, rfl, rfl, hz, hk, q⟩ := h
  obtain ⟨t, rfl⟩ := rx
  obtain ⟨t', rfl⟩ := ry
  refine PySem.P.mul_str ?_ ?_ ?_ ?_
  · rw [decide_eq_false (by omega), decide_eq_false (by omega)]
    rfl
  · intro h1 _
    have h0 : (0 : Int) < (k : Int) := by omega
    have h2 : ((z.length * k : Nat) : Int) ≤ 2 ^ 63 - 1 := by omega
    rw [Int.natCast_mul] at h2
    have h3 := (Int.le_ediv_iff_mul_le h0).mpr h2
    omega
  · intro _ _
    unfold Builtin.Str.tooLong
    rw [Int.toNat_natCast, sizeLine_eq]
    exact decide_eq_false (by omega)
  · by_cases h1 : (k : Int) < 1
    · rw [if_pos h1]
      have e : repS z k = Str.empty := by
        have : k = 0 := by omega
        subst this
        rfl
      rw [e] at q
      exact ⟨by decide, .str _, H, I.tok _, ⟨_, rfl⟩, q⟩
    · rw [if_neg h1]
      by_cases h2 : ((k : Int) == 1 || z.length == 0) = true
      · rw [if_pos h2]
        have e : repS z k = z := by
          rw [Bool.or_eq_true] at h2
          rcases h2 with h2 | h2
          · have h3 : (k : Int) = 1 := by simpa using h2
            have h4 : k = 1 := by omega
            subst h4
            unfold repS
            simp
          · have h3 : z.length = 0 := by simpa using h2
            have h4 : z.cps = #[] := Array.eq_empty_of_size_eq_zero h3
            unfold repS
            cases z with | mk zc =>
            simp only at h4
            subst h4
            simp
        rw [e] at q
        exact ⟨.str z, H, I, ⟨t, rfl⟩, q⟩
      · rw [if_neg h2]
        have e : (⟨(List.replicate (k : Int).toNat z.cps).foldl (· ++ ·) #[]⟩ : Str) = repS z k := by
          unfold repS
          rw [Int.toNat_natCast, ← Array.toArray_toList (xs := (List.replicate k z.cps).foldl (· ++ ·) #[]), foldl_app]
          rfl
        rw [e]
        have hl : (repS z k).length ≤ sizeLine := by
          rw [repS_len, sizeLine_eq]
          omega
        exact ⟨hl, .str _, H, I.tok _, ⟨_, rfl⟩, q⟩
/-- text[::-1] -/
def revS (z : Str) : Str := ⟨z.cps.toList.reverse.toArray⟩
theorem revS_len (z : Str) : (revS z).length = z.length := by
  show z.cps.toList.reverse.toArray.size = z.cps.size
  rw [List.size_toArray, List.length_reverse, Array.length_toList]
theorem rev_pick (z : Str) : (⟨((PySem.Builtin.Str.strSliceIndices none none (-1) z.length).filterMap (z.cps[·]?)).toArray⟩ : Str) = revS z := by
  unfold revS
  have e : PySem.Builtin.Str.strSliceIndices none none (-1) z.length = (List.range z.length).reverse := by
    rw [← PySem.W.krv_range, ← PySem.W.krv_sliceRange]
    rfl
  have e2 := PySem.W.krv_all z.cps
  rw [e, List.filterMap_reverse]
  show (⟨((List.range z.cps.size).filterMap (z.cps[·]?)).reverse.toArray⟩ : Str) = _
  rw [e2]
def tRevS (te : TE) : TE := fun σ H Q => te σ H fun x H1 => ∃ z : Str, x = .str z ∧ z.length ≤ sizeLine ∧ Q (.str (revS z)) H1
theorem pe_revS {e : Expr} {te : TE} {k : Nat} {p1 p2 p3 pos : Pos} (he : PE X e te) : PE X (.Subscript e (.Slice none none (some (.UnaryOp .USub (.Constant (.int 1) k p1) p2)) p3) pos) (tRevS te) := by
  refine ⟨fun pins s σ H Q I h => Subscript_ (thn (he.run pins s σ H _ I h) fun v s1 ⟨x, H1, I1, r1, z, ex, hz, q⟩ => ?_)⟩
  subst ex
  obtain ⟨t, rfl⟩ := r1
  have hst : PO X (some (.UnaryOp .USub (.Constant (.int 1) k p1) p2)) (tPart (tUn (rU fun i => .int (-i)) (tC (.int 1)))) := po_some (pe_un un_neg pe_int)
  refine wpAny_Slice (thn (po_none.run pins s1 σ H1 (fun o K2 => o = none ∧ K2 = H1) I1 ⟨rfl, rfl⟩) fun vl s2 ⟨l, H2, I2, pl, el, e2⟩ => ?_)
  subst el e2
  refine thn (po_none.run pins s2 σ H2 (fun o K3 => o = none ∧ K3 = H2) I2 ⟨rfl, rfl⟩) fun vu s3 ⟨u, H3, I3, pu, eu, e3⟩ => ?_
  subst eu e3
  refine thn (hst.run pins s3 σ H3 (fun o K4 => o = some (-1) ∧ K4 = H3) I3 ⟨1, rfl, -1, rfl, rfl, rfl⟩) fun vs s4 ⟨o, H4, I4, ps, eo, e4⟩ => ?_
  subst eo e4
  obtain ⟨l, rfl, hl⟩ := IsPart.raw pl
  obtain ⟨u, rfl, hu⟩ := IsPart.raw pu
  obtain ⟨st, rfl, hst'⟩ := IsPart.raw ps
  have I5 : Inv X pins σ H4 { s4 with heap := s4.heap.push { cls := .type "slice", data := .fields #[partValue l, partValue u, partValue st] } } := I4.kept (t' := s4.toks) fun b ob qq => Heap.get?_push_of_some _ qq
  show wpAny (model X.prog X.w) X.A (subscriptTail e (.Slice none none (some (.UnaryOp .USub (.Constant (.int 1) k p1) p2)) p3) (.str z t) (.ref s4.heap.objs.size)) (EP X pins σ Q) X.xe { s4 with heap := s4.heap.push { cls := .type "slice", data := .fields #[partValue l, partValue u, partValue st] } }
  refine tail_any (ops := [.ref s4.heap.objs.size, .str z t]) (T := "str") (typeIs_str _ _ _) F.slot_str_getitem.lookup ?_ (by with_unfolding_all rfl)
  refine wpAny_getItem_str_slice (l := l) (u := u) (st := st) (Heap.IsSliceOf.new ..) (by rw [hst']; decide) ?_
  have em : sliceMade z t l u st = .str (revS z) := by
    unfold sliceMade slicePicked
    rw [hst', hl, hu]
    rw [if_neg (by simp)]
    rw [← rev_pick z]
    rfl
  rw [em]
  exact ⟨by rw [revS_len]; exact hz, .str _, H4, I5.tok _, ⟨_, rfl⟩, q⟩
end
end HopR

set_option Elab.async false
set_option linter.all false
set_option maxRecDepth 100000
namespace HopR
open PySem PySem.Spec PyProof.Rows L2
/-! rows as lists of truths -/
def cd (b : Bool) : Nat := if b then 111 else 46
def tx (bs : List Bool) : Str := ⟨(bs.map cd).toArray⟩
theorem cd_inj {a b : Bool} (h : cd a = cd b) : a = b := by
  cases a <;> cases b <;> first | rfl | (exact absurd h (by decide))
theorem map_cd_inj : ∀ {as bs : List Bool}, as.map cd = bs.map cd → as = bs
  | [], [], _ => rfl
  | [], _ :: _, h => by simp at h
  | _ :: _, [], h => by simp at h
  | a :: r, b :: q, h => by
    rw [List.map_cons, List.map_cons] at h
    injection h with h1 h2
    rw [cd_inj h1, map_cd_inj h2]
theorem tx_inj {as bs : List Bool} (h : tx as = tx bs) : as = bs := by
  unfold tx at h
  injection h with h
  exact map_cd_inj (by simpa using congrArg Array.toList h)
theorem tx_len (bs : List Bool) : (tx bs).length = bs.length := by
  show (bs.map cd).toArray.size = bs.length
  rw [List.size_toArray, List.length_map]
theorem tx_list (bs : List Bool) : (tx bs).cps.toList = bs.map cd := rfl
theorem tx_get {bs : List Bool} {i : Nat} {b : Bool} (h : bs[i]? = some b) : (tx bs).cps[i]? = some (cd b) := by
  show (bs.map cd).toArray[i]? = some (cd b)
  rw [List.getElem?_toArray, List.getElem?_map, h]
  rfl
theorem ext_str {a b : Str} (h : a.cps.toList = b.cps.toList) : a = b := by
  cases a with | mk x =>
  cases b with | mk y =>
  have e : x = y := Array.toList_inj.mp h
  rw [e]
theorem tx_app (as bs : List Bool) : tx as ++ tx bs = tx (as ++ bs) := by
  apply ext_str
  show ((as.map cd).toArray ++ (bs.map cd).toArray).toList = (as ++ bs).map cd
  rw [Array.toList_append, List.map_append]
theorem tx_rev (bs : List Bool) : revS (tx bs) = tx bs.reverse := by
  unfold revS tx
  simp
theorem tx_sg (bs : List Bool) : sg (tx bs) = bs.map fun b => tx [b] := by
  unfold sg
  rw [tx_list, List.map_map]
  rfl
theorem tx_o : ("o" : Str) = tx [true] := by decide +kernel
theorem tx_f : ("." : Str) = tx [false] := by decide +kernel
/-- a row walked sign by sign: a turn's sign is the text of that place's truth -/
theorem walk_tx {bs : List Bool} : Walk (Its (tx bs)) bs.length (fun _ => True) (fun i H v H' => H' = H ∧ ∃ b, bs[i]? = some b ∧ v = .str (tx [b])) := by
  have w := walk_str (z := tx bs)
  rw [show (tx bs).cps.size = bs.length from tx_len bs] at w
  refine w.mono (fun _ g => g) fun i H x H' hi _ y => ?_
  obtain ⟨e1, c, e2, e3⟩ := y
  have hb : bs[i]? = some bs[i] := List.getElem?_eq_getElem hi
  rw [tx_get hb] at e2
  cases e2
  exact ⟨e1, _, hb, e3⟩
def for_tx {bs : List Bool} {g : TG} {tb : TS} {D : Ends} {σ : L2.St} {H : Hp} (Pv : Nat → L2.St → Hp → Prop) (h0 : Pv 0 σ H)
    (hs : ∀ i b σ H, bs[i]? = some b → Pv i σ H → g (.str (tx [b])) σ H fun σ2 H2 => tb { D with nx := Pv (i + 1), ct := Pv (i + 1), bk := D.nx } σ2 H2) (hd : ∀ σ H, Pv bs.length σ H → D.nx σ H) :=
  for_it (walk_tx (bs := bs)) (g := g) (tb := tb) (D := D) (σ := σ) (H := H) Pv h0 (fun _ _ _ _ _ => trivial)
    (fun i x σ H H' _ p y => by
      obtain ⟨e1, b, hb, e2⟩ := y
      subst e1 e2
      exact hs i b σ _ hb p) hd
def lc_tx {bs : List Bool} {g : TG} {tt : TT} {te : TE} {vs : List Nat} {σ : L2.St} {H1 : Hp} {D : Addr} {Qd : Hp → Prop} (Pv : Nat → Hp → Prop) (h0 : Pv 0 (upd H1 D (.lst [])))
    (hs : ∀ i b H, bs[i]? = some b → Pv i H → g (.str (tx [b])) (wipe σ vs) H fun σ2 H2 => wipe σ2 vs = wipe σ vs ∧ tt σ2 H2 fun kept H3 =>
      if kept = true then (te σ2 H3 fun y H4 => ∃ acc, H4 D = some (.lst acc) ∧ acc.length < sizeLine ∧ Pv (i + 1) (upd H4 D (.lst (acc ++ [y])))) else Pv (i + 1) H3)
    (hd : ∀ H, Pv bs.length H → Qd H) :=
  lc_it (walk_tx (bs := bs)) (g := g) (tt := tt) (te := te) (vs := vs) (σ := σ) (H1 := H1) (D := D) (Qd := Qd) Pv h0 (fun _ _ _ _ => trivial)
    (fun i x H H' _ p y => by
      obtain ⟨e1, b, hb, e2⟩ := y
      subst e1 e2
      exact hs i b _ hb p) hd
end HopR

set_option Elab.async false
set_option linter.all false
set_option maxRecDepth 100000
namespace HopR
open PySem PySem.Spec PyProof.Rows L2 TL
theorem joinL_nil : ∀ ps : List (List Nat), joinL [] ps = ps.flatten
  | [] => rfl
  | [p] => by
    show p = p ++ []
    rw [List.append_nil]
  | p :: q :: r => by
    show p ++ ([] ++ joinL [] (q :: r)) = p ++ (q :: r).flatten
    rw [List.nil_append, joinL_nil (q :: r)]
theorem join0_list (ys : List Str) : (Txt.join "" ys).cps.toList = (ys.map fun y => y.cps.toList).flatten := by
  have e : Txt.join "" ys = Str.join "" ys := PySem.StrLaws.glued_eq_join "" ys
  rw [e]
  have h := tl_join "" ys
  have h2 : tl ("" : Str) = [] := by decide +kernel
  rw [h2, joinL_nil] at h
  exact h
theorem join_tx (bs : List Bool) : Txt.join "" (bs.map fun b => tx [b]) = tx bs := by
  apply ext_str
  rw [join0_list, List.map_map, tx_list]
  induction bs with
  | nil => rfl
  | cons b r ih =>
    rw [List.map_cons, List.flatten_cons, ih]
    rfl
theorem sum_ones : ∀ bs : List Bool, ((bs.map fun b => tx [b]).map (·.length)).sum = bs.length
  | [] => rfl
  | b :: r => by
    rw [List.map_cons, List.map_cons, List.sum_cons, sum_ones r, tx_len]
    show 1 + r.length = r.length + 1
    omega
theorem join_fits {bs : List Bool} (h : bs.length ≤ 1000) : ((bs.map fun b => tx [b]).map (·.length)).sum + (bs.map fun b => tx [b]).length * ("" : Str).length ≤ 16777216 := by
  have e : ("" : Str).length = 0 := by decide +kernel
  rw [sum_ones, e, Nat.mul_zero]
  omega
theorem cut_tx (bs : List Bool) (lo hi : Option Int) : cutS (tx bs) lo hi = tx ((bs.drop (HT.sIx bs.length 0 lo)).take (HT.sIx bs.length bs.length hi - HT.sIx bs.length 0 lo)) := by
  apply ext_str
  unfold cutS
  rw [tx_len, tx_list, tx_list, List.map_take, List.map_drop]
theorem cut_to (bs : List Bool) (k : Nat) : cutS (tx bs) none (some (k : Int)) = tx (bs.take k) := by
  rw [cut_tx, HT.sIx_none, HT.sIx_nat, List.drop_zero, Nat.sub_zero]
  by_cases h : k ≤ bs.length
  · rw [Nat.min_eq_left h]
  · rw [Nat.min_eq_right (by omega), List.take_length, List.take_of_length_le (by omega)]
theorem cut_from (bs : List Bool) (k : Nat) : cutS (tx bs) (some (k : Int)) none = tx (bs.drop k) := by
  rw [cut_tx, HT.sIx_none, HT.sIx_nat]
  by_cases h : k ≤ bs.length
  · rw [Nat.min_eq_left h, List.take_of_length_le (by rw [List.length_drop]; exact Nat.le_refl _)]
  · rw [Nat.min_eq_right (by omega), List.drop_length, List.drop_of_length_le (by omega), List.take_nil]
theorem cut_at (bs : List Bool) (k m : Nat) : cutS (tx bs) (some (k : Int)) (some ((k : Int) + (m : Int))) = tx ((bs.drop k).take m) := by
  have e : ((k : Int) + (m : Int)) = ((k + m : Nat) : Int) := by omega
  rw [e, cut_tx, HT.sIx_nat, HT.sIx_nat]
  by_cases h : k ≤ bs.length
  · rw [Nat.min_eq_left h]
    by_cases h2 : k + m ≤ bs.length
    · rw [Nat.min_eq_left h2, Nat.add_sub_cancel_left]
    · rw [Nat.min_eq_right (by omega), List.take_of_length_le (by rw [List.length_drop]; exact Nat.le_refl _), List.take_of_length_le (by rw [List.length_drop]; omega)]
  · rw [Nat.min_eq_right (by omega), Nat.min_eq_right (by omega), List.drop_length, List.drop_of_length_le (by omega), List.take_nil, List.take_nil]
theorem cut_mid (bs : List Bool) (h : 2 ≤ bs.length) : cutS (tx bs) (some 1) (some (-1)) = tx ((bs.drop 1).take (bs.length - 2)) := by
  rw [cut_tx]
  have e1 : HT.sIx bs.length 0 (some 1) = 1 := by
    rw [show (some (1 : Int)) = some ((1 : Nat) : Int) from rfl, HT.sIx_nat]
    omega
  have e2 : HT.sIx bs.length bs.length (some (-1)) = bs.length - 1 := by
    show (if (-1 : Int) < 0 then ((-1 : Int) + (bs.length : Int)).toNat else min (-1 : Int).toNat bs.length) = bs.length - 1
    rw [if_pos (by decide)]
    omega
  rw [e1, e2]
  congr 2
/-! ### rows: walls, changes, the mirror -/
def ends (bs : List Bool) : List Bool := true :: (bs ++ [false])
theorem ends_len (bs : List Bool) : (ends bs).length = bs.length + 2 := by
  unfold ends
  rw [List.length_cons, List.length_append]
  rfl
def opn (bs : List Bool) (k : Nat) : Bool := decide (((ends bs).drop k).take 2 = [true, false])
def walls (bs : List Bool) : List Nat := (List.range (bs.length + 1)).filter (opn bs)
def bhd (bs : List Bool) (k : Nat) : List Bool := (ends bs).take k ++ [false] ++ [true] ++ (ends bs).drop (k + 2)
def chg (bs : List Bool) (k : Nat) : List Bool := ((bhd bs k).drop 1).take ((bhd bs k).length - 2)
def mir (bs : List Bool) : List Bool := bs.reverse.map (!·)
def num (bs : List Bool) : Int := bs.foldl (fun n b => n * 2 + (if b then 1 else 0)) 0
theorem mem_walls {bs : List Bool} {k : Nat} : k ∈ walls bs ↔ k ≤ bs.length ∧ opn bs k = true := by
  unfold walls
  rw [List.mem_filter, List.mem_range, Nat.lt_succ_iff]
theorem mir_len (bs : List Bool) : (mir bs).length = bs.length := by
  unfold mir
  rw [List.length_map, List.length_reverse]
theorem walls_len (bs : List Bool) : (walls bs).length ≤ bs.length + 1 := by
  unfold walls
  exact Nat.le_trans (List.length_filter_le _ _) (by rw [List.length_range]; exact Nat.le_refl _)
theorem bhd_len {bs : List Bool} {k : Nat} (h : k ≤ bs.length) : (bhd bs k).length = bs.length + 2 := by
  unfold bhd
  rw [List.length_append, List.length_append, List.length_append, List.length_take, List.length_drop, ends_len]
  show min k (bs.length + 2) + 1 + 1 + (bs.length + 2 - (k + 2)) = bs.length + 2
  omega
theorem chg_len {bs : List Bool} {k : Nat} (h : k ≤ bs.length) : (chg bs k).length = bs.length := by
  unfold chg
  rw [List.length_take, List.length_drop, bhd_len h]
  omega
end HopR

set_option Elab.async false
set_option linter.all false
set_option maxRecDepth 100000
namespace HopR
open PySem PySem.Spec PyProof.Rows L2
/-! ### defs that are called where no repr is under way -/
/-- the promise sp of the def at f, kept wherever it is called while no repr is under way -/
structure FnOkG (P : Program) (w : World) (K : PySem.W.Frag) (mg : Str → Option Value) (base : Heap) (CX : CXT) (k : Nat) (f : Addr) (fd : FuncData) (ps : List Str) (sp : Sp) : Prop where
  arity : ∀ {vs H Q E}, sp vs H Q E → vs.length = ps.length
  calls : ∀ {A : Around} {outer : List Env} {s : Shared} {H : Hp} {args : Args} {us : List Value} {vs : List V} {Q : VK} {E : XK}, A.guards = some [] → Room k A → Env0 P w K mg base A outer s H →
    BindsTo s fd args (ps.zip us) → Vals vs us → sp vs H Q E → codeAny (model P w) A (.call (.ref f) args) (CR CX outer P w H s Q E) s
section
variable {P : Program} {w : World} {K : PySem.W.Frag} {mg : Str → Option Value} {base : Heap}
theorem FnOkG.of {CX : CXT} {k : Nat} {f : Addr} {fd : FuncData} {ps : List Str} {sp : Sp} (F : FnOk P w K mg base CX k f fd ps sp) : FnOkG P w K mg base CX k f fd ps sp where
  arity h := F.len _ _ _ _ h
  calls _ room e0 bind vals prom := F.run _ _ _ _ _ _ _ _ _ room e0 bind vals prom
/-- what the body's end says to the caller -/
theorem ends_say {CX : CXT} {N : List Str} {qual : Str} {scope : Scope} {f : Addr} {cdv : Value} {A : Around} {outer : List Env} {s : Shared} {H : Hp} {Q : VK} {E : XK} {fl : Flow} {s' : Shared}
    (h : SP (cxOf CX P w K mg base N qual scope f cdv A outer s H E) [] { nx := fun _ H' => Q .non H', rt := Q } fl s') :
    match fl with | .ret u => CE outer P w H s Q u s' | .next => CE outer P w H s Q Value.none s' | _ => False := by
  match fl, h with
  | .ret u, ⟨v, σ', H', J, rv, g⟩ => exact ⟨v, H', J.os, J.bare, J.base, J.hok, rv, g⟩
  | .next, ⟨σ', H', J, g⟩ => exact ⟨V.non, H', J.os, J.bare, J.base, J.hok, rfl, g⟩
  | .brk, ⟨_, _, _, g⟩ => exact g
  | .cont, ⟨_, _, _, g⟩ => exact g
theorem okG {x qual : Str} {st : Stmt} {f : Addr} {fd : FuncData} {N ps : List Str} {k : Nat} {sp : Sp} (F : Fun K x qual st f fd) (S : FnScope N ps (defScope st)) (len : ∀ vs H Q E, sp vs H Q E → vs.length = ps.length)
    (body : ∀ (cdv : Value) (A : Around) (outer : List Env) (s : Shared) (H : Hp) (vs : List V) (Q : VK) (E : XK), A.guards = some [] → Room k (A.deeper (envOfC qual (defScope st) s.heap.objs.size f cdv)) → sp vs H Q E →
      ∃ t, PSs (cxOf CX0 P w K mg base N qual (defScope st) f cdv A outer s H E).nox (defBody st) t ∧ t { nx := fun _ H' => Q .non H', rt := Q } (start N vs) H) : FnOkG P w K mg base CX0 (k + 1) f fd ps sp where
  arity h := len _ _ _ _ h
  calls {A outer s H args us vs Q E} free room e0 bind vals prom := by
    obtain ⟨_, _, _, _, _, _, cdv, _, _, rfl, lk, code⟩ := F.ex
    have old : ∀ b o, base.get? b = some o → s.heap.get? b = some o := fun b o e => (e0.bs b o e).1
    have here := e0.mod.kin.keeps old
    obtain ⟨t, pr, rd⟩ := body cdv A outer s H vs Q E free (room.deeper _) prom
    have kinds : ∀ y ∈ ps.zip us, (defScope st).names.lookup y.1 = some .local ∨ ((defScope st).names.lookup y.1 = some .cell ∧ ((cellsFrom (s.heap.objs.size + 1) (defScope st).names []).lookup y.1).isSome = true) := by
      intro y hy
      have hp : y.1 ∈ ps := by
        obtain ⟨y1, y2⟩ := y
        exact (List.of_mem_zip hy).1
      exact (S.par _ hp).imp id fun g => ⟨g, PySem.W.cellsFrom_some _ _ _ (.inl g)⟩
    refine codeAny_call_function room.depth (here _ _ lk) rfl S.co S.gen rfl (PySem.W.codeRec_of here code) (bind _ _ _ _ ?_)
    refine wpAny_newFunctionEnv_cells S.kind kinds fun _ e s1 x => ?_
    cases e
    refine ⟨(e0.mod.nolimit.keeps old).keeps x.toInCall.keep, codeAny_func ?_⟩
    have run := pr.nox.run [] s1 _ H _ (inv_start S room.hd e0 (len _ _ _ _ prom) vals x) rd
    refine wpAny_mono run (fun fl s' h => ?_) fun _ _ z => z
    have said := ends_say h
    cases fl with
    | ret _ => exact said
    | next => exact said
    | brk => exact said.elim
    | cont => exact said.elim
end
section
variable {X : Cx} {CX : CXT} {k : Nat} {f : Addr} {fd : FuncData} {ps : List Str} {sp : Sp} {ds : List Value} {dvs : List V} {E : XK}
theorem after_call {pins : List (Addr × Obj)} {σ : L2.St} {H : Hp} {s : Shared} {Q : VK} (hx : Passes CX X E) (I : Inv X pins σ H s) {r : Except Value Flow} {s' : Shared} (h : CR CX X.stack X.prog X.w H s Q E r s') :
    match r with | .ok (.ret u) => EP X pins σ Q u s' | .ok _ => False | .error e => X.xe e s' := by
  match r, h with
  | .error e, h => exact hx pins σ H s e s' I h
  | .ok (.ret u), h => exact I.after h
  | .ok .next, h => exact h
  | .ok .brk, h => exact h
  | .ok .cont, h => exact h
variable {x : Str} {p pos : Pos} {e : Expr} {es : List Expr} {t : TA}
/-- f(e, ..) at a place where no repr is under way -/
theorem pe_callG (F : FnOkG X.prog X.w X.K X.mg X.base CX k f fd ps sp) (hG : X.A.guards = some []) (hr : Room k X.A) (hg : Gl X x) (hm : X.mg x = some (.ref f)) (hk : PySem.W.keepIn X.K (.ref f) = true) (hb : Binds X.K fd ps ds) (hd : Vals dvs ds) (hx : Passes CX X E)
    (ha : PA X (e :: es) t) (hdb : (x == ("__debug__" : Str)) = false := by decide)
    (he : starEach (e :: es) X.env = (false, eval e X.env) :: starEach es X.env := by rfl) (hpl : (backTo pos (starEach es X.env)).any (·.1) = false := by rfl) :
    PE X (.Call (.Name x p) (e :: es) [] pos) (tCall sp dvs E t) := by
  constructor
  intro pins s σ H Q I h
  refine wpAny_Call_Name_kw (ld_glob I hg hm (PySem.W.callWith_K (h₀ := X.base) I.ok.mod.kin hk (thn (ha.run pos pins s σ H _ I h) ?_) he hpl) hdb)
  rintro us s1 ⟨vs, H1, I1, vals, prom⟩
  have all := vals.append hd
  have size : (us ++ ds).length = ps.length := all.length.symm.trans (F.arity prom)
  refine ⟨I1.kIn, wpAny_call (codeAny_mono (F.calls hG hr I1.env0 (hb s1 us I1.kIn size) all prom) fun r s' h => ?_)⟩
  have := after_call hx I1 h
  cases r with
  | error e => exact this
  | ok fl => cases fl <;> exact this
/-! ### repr of data -/
def rReprD (K : PySem.W.Frag) : List V → Hp → VK → Prop := fun vs H Q => ∃ (v : V) (d : PyData), vs = [v] ∧ Dp K H v d ∧ d.showable = true ∧ d.hasDict = false ∧ d.depth ≤ 64 ∧ d.shown.length ≤ sizeLine ∧ Q (.str d.shown) H
theorem cr_reprD (hG : X.A.guards = some []) (hu : X.A.units + 66 < cLine) : CallR X (.builtin "repr") (rReprD X.K) := by
  rintro pins s σ H _ us Q I r ⟨v, d, rfl, hd, hs, hn, hdep, hz, q⟩
  obtain ⟨u, rfl, rv⟩ := vals1 r
  obtain ⟨as, rd⟩ := Dp.reads I d v u hd rv
  cases hd with
  | non =>
    cases rv
    exact P.repr_of_none ⟨.str _, H, I.tok _, ⟨_, rfl⟩, q⟩
  | bl b =>
    cases rv
    exact P.repr_of_bool ⟨.str _, H, I.tok _, ⟨_, rfl⟩, q⟩
  | int i =>
    obtain ⟨t, rfl⟩ := rv
    have hb : i.natAbs.log2 < 1920 := of_decide_eq_true (by simpa only [PyData.showable] using hs)
    exact P.repr_of_int hb ⟨.str _, H, I.tok _, ⟨_, rfl⟩, by simpa only [PyData.shown] using q⟩
  | str x =>
    obtain ⟨t, rfl⟩ := rv
    exact P.repr_of_str ⟨.str _, H, I.tok _, ⟨_, rfl⟩, by simpa only [PyData.shown] using q⟩ (by simpa only [PyData.shown] using hz)
  | lst h1 h2 =>
    cases rv
    exact repr_of_reads' rd hs (fun e => absurd (hn.symm.trans e) (by decide)) hG (by omega) (fun _ _ e => e) (fun h' t tk hk => ⟨.str _, H, I.kept hk, ⟨_, rfl⟩, q⟩) hz
  | tup h1 h2 =>
    cases rv
    exact repr_of_reads' rd hs (fun e => absurd (hn.symm.trans e) (by decide)) hG (by omega) (fun _ _ e => e) (fun h' t tk hk => ⟨.str _, H, I.kept hk, ⟨_, rfl⟩, q⟩) hz
end
/-! ### the end -/
section
variable (K : PySem.W.Frag) (a : Addr) (vs : List Value) (ns : List Int)
/-- the script as the heap has it -/
abbrev scrO : Obj := { cls := .type "list", data := .seq vs.toArray }
/-- tracked is the script alone, locked, and not even that where the top wrote it -/
def scrH : Hp := fun b => if b = a ∧ K.lookup a = none then some (.frz (scrO vs) (.lst (ns.map V.int))) else none
theorem scrH_or (b : Addr) : scrH K a vs ns b = none ∨ (b = a ∧ K.lookup a = none ∧ scrH K a vs ns b = some (.frz (scrO vs) (.lst (ns.map V.int)))) := by
  unfold scrH
  by_cases h : b = a ∧ K.lookup a = none
  · exact .inr ⟨h.1, h.2, if_pos h⟩
  · exact .inl (if_neg h)
theorem scrH_only : Only (scrH K a vs ns) := fun b => (scrH_or K a vs ns b).imp id fun ⟨_, _, e⟩ => ⟨_, _, e⟩
end
section
variable {P : Program} {w : World} {K : PySem.W.Frag} {a : Addr} {vs : List Value} {ns : List Int} {h : Heap}
theorem scrH_sq (kin : K.In h) (at_ : h.get? a = some (scrO vs)) (hi : IntsAre vs ns) (few : ns.length ≤ sizeLine) : SqL K (scrH K a vs ns) a (ns.map V.int) := by
  cases hk : K.lookup a with
  | none => exact .inl (.inr ⟨scrO vs, if_pos ⟨rfl, hk⟩⟩)
  | some o =>
    obtain rfl : o = scrO vs := Option.some.inj ((kin a o hk).symm.trans at_)
    exact .inr ⟨_, vs.toArray, _, hk, rfl, rfl, rfl, by rw [List.size_toArray, hi.length]; exact few, by simpa using vals_ints hi⟩
theorem scrH_ok (at_ : h.get? a = some (scrO vs)) (hi : IntsAre vs ns) (few : ns.length ≤ sizeLine) : HOk P w (scrH K a vs ns) h := by
  intro b u e
  rcases scrH_or K a vs ns b with n | ⟨rfl, _, y⟩
  · exact absurd (n.symm.trans e) (by simp)
  · cases y.symm.trans e
    refine ⟨at_, ?_, vs, _, vals_ints hi, at_⟩
    rw [List.length_map]
    exact few
/-- what isn't the script, and what the top wrote, stands also where the tracked is hidden -/
theorem scrH_base (at_ : h.get? a = some (scrO vs)) {b : Addr} {o : Obj} (e : h.get? b = some o) (q : o ≠ scrO vs ∨ K.lookup b ≠ none) : (hidT h (scrH K a vs ns)).get? b = some o := by
  refine hidT_get e ((scrH_or K a vs ns b).resolve_right ?_)
  rintro ⟨rfl, n, _⟩
  exact q.elim (fun z => z (Option.some.inj (e.symm.trans at_))) fun z => z n
theorem scrH_ns (at_ : h.get? a = some (scrO vs)) {b : Addr} {m : Str → Option Value} : h.Ns b m → (hidT h (scrH K a vs ns)).Ns b m := by
  rintro ⟨o, es, ep, e, dd, r⟩
  refine ⟨o, es, ep, scrH_base at_ e (.inl ?_), dd, r⟩
  rintro rfl
  exact absurd dd (by simp)
end
/-- a law whose promise holds where no repr is under way: nothing is, where it is called -/
theorem walk_ofG {l : PySem.W.OpenLaw} {n k : Nat} {q : Program} {loose : List Str} {XP : (Str → Option Value) → Heap → Prop} {YP : World → Heap → Prop} {d : DefRec} {K : Params → PySem.W.Frag} {sp : World → Sp} {x : Str}
    (most : l.most = some n) (few : n ≤ sizeLine) (plain : d.params.defaults = []) (room : Room k callerA) (top : ∀ (w : World) (h : Heap), YP w h → (K w.params).In h)
    (F : ∀ (w : World) (mg : Str → Option Value) (fa : Addr) (h : Heap), (K w.params).In h → h.Ns mainGlobals mg → mg d.name = some (.ref fa) →
      ∃ fd : FuncData, (∀ (s : Shared) (u : Value), BindsTo s fd ⟨[u], []⟩ [(x, u)]) ∧ ∀ base : Heap, (K w.params).In base → base.Ns mainGlobals mg → FnOkG l.prog w (K w.params) mg base CX0 k fa fd [x] (sp w))
    (prom : ∀ (w : World) (H : Hp) (a : Addr) (ns : List Int), ns.length ≤ n → (∀ z ∈ ns, Builtin.Int.intBits z ≤ 1048576) → Only H → SqL (K w.params) H a (ns.map V.int) → sp w [.ref a] H (fun v _ => v = .bl true) fun _ _ _ => False) :
    PySem.W.WalkO q loose XP YP l.row.toRowW d [] (fun f vs => PySem.call f vs) := by
  apply Att.attach_callB most plain
  intro w s₀ s₁ mg mb fa o pm cd doc a vs ns G Y _ _ _ hmg at_ isI size bits gens
  have kin := top w _ Y
  obtain ⟨fd, bind, hF⟩ := F w mg fa _ kin G.T.g hmg
  have few' := Nat.le_trans size few
  have ok : HOk l.prog w (scrH (K w.params) a vs ns) s₁.heap := scrH_ok at_ isI few'
  have kin' : (K w.params).In (hidT s₁.heap (scrH (K w.params) a vs ns)) := fun b o e => scrH_base at_ (kin b o e) (.inr (by rw [e]; simp))
  have g' := scrH_ns (K := K w.params) (ns := ns) at_ G.T.g
  obtain ⟨mc, lim1, lim2⟩ := G.T.nolimit
  have e0 : Env0 l.prog w (K w.params) mg (hidT s₁.heap (scrH (K w.params) a vs ns)) callerA [] s₁ (scrH (K w.params) a vs ns) :=
    ⟨rfl, ⟨kin', g', ⟨mb, scrH_ns at_ G.T.b, G.T.builtins⟩, ⟨mc, scrH_ns at_ lim1, lim2⟩⟩, fun _ _ => of_hidT, Nat.le_of_eq (hidT_size _ _), trivial, (by intro _ z; cases z), ok, AllBare.of_eq gens⟩
  refine codeAny_mono ((hF _ kin' g').calls (us := [.ref a]) (vs := [.ref a]) rfl room e0 (bind s₁ (.ref a)) (.cons rfl .nil) (prom w _ a ns size bits (scrH_only (K w.params) a vs ns) (scrH_sq kin at_ isI few'))) fun r s' h => ?_
  match r, h with
  | .error e, h => exact h.elim
  | .ok .next, h => exact h.elim
  | .ok .brk, h => exact h.elim
  | .ok .cont, h => exact h.elim
  | .ok (.ret u), ⟨v, H', os, bare, un, ok', rel, is⟩ =>
    have is : v = .bl true := is
    subst is
    cases (show u = Value.bool true from rel)
    refine ⟨rfl, OldK.of_keep ?_, os, bare⟩
    intro b o e
    rcases scrH_or (K w.params) a vs ns b with z | ⟨rfl, _, z⟩
    · exact un.keep b o e z (fun m => nomatch m) (by simp)
    · cases at_.symm.trans e
      exact (ok' _ _ (un.frzs _ _ _ z)).1
end HopR

set_option Elab.async false
set_option linter.all false
set_option maxRecDepth 100000
namespace HopR
open PySem PySem.Spec PyProof.Rows L2
theorem hu66 {A : Around} {k : Nat} (hr : Room k A) : A.units + 66 < cLine := by
  have := hr.un
  omega
/-! ### f(k = v, ..), no value by its place -/
section
variable {X : Cx} {CX : CXT} {k : Nat} {f : Addr} {fd : FuncData} {ps ks : List Str} {sp : Sp} {E : XK} {x : Str} {p pos : Pos} {kws : List Keyword} {tk : TA}
def tCallKw (m : Nat) (sp : Sp) (gV : List V → List V) (E : XK) (tk : TA) : TE := fun σ H Q => tk σ H fun zs H2 => zs.length = m ∧ sp (gV zs) H2 Q E
theorem pe_callKw {g : List Value → List Value} {gV : List V → List V} (F : FnOk X.prog X.w X.K X.mg X.base CX k f fd ps sp) (hr : Room k X.A) (hg : Gl X x) (hm : X.mg x = some (.ref f)) (hk : PySem.W.keepIn X.K (.ref f) = true)
    (hb : ∀ (s : Shared) (ws : List Value), X.K.In s.heap → ws.length = ks.length → BindsTo s fd ⟨[], ks.zip ws⟩ (ps.zip (g ws))) (hrel : ∀ {zs : List V} {ws : List Value}, Vals zs ws → Vals (gV zs) (g ws)) (hx : Passes CX X E) (hkw : PK X kws tk)
    (hall : (backToKw pos (keywordEach kws X.env)).all (·.1.isSome) = true := by rfl) (hks : (backToKw pos (keywordEach kws X.env)).filterMap (·.1) = ks := by rfl) (hdb : (x == ("__debug__" : Str)) = false := by decide)
    (hpl : ((backTo pos (starEach [] X.env)).any (·.1) || (backToKw pos (keywordEach kws X.env)).any (·.1.isNone)) = false := by rfl) :
    PE X (.Call (.Name x p) [] kws pos) (tCallKw ks.length sp gV E tk) := by
  refine ⟨fun pins s σ H Q I h => wpAny_Call_Name_kw (ld_glob I hg hm ?_ hdb)⟩
  refine PySem.W.callWith_KW0 (h₀ := X.base) I.ok.mod.kin hk hall (thn (hkw.run pos pins s σ H _ I h) fun ws s2 ⟨zs, H2, I2, rz, l2, q2⟩ => ⟨I2.kIn, ?_⟩) hpl
  rw [hks]
  refine wpAny_call (codeAny_mono (F.run X.A X.stack s2 H2 ⟨[], ks.zip ws⟩ (g ws) (gV zs) Q E hr I2.env0 (hb s2 ws I2.kIn (rz.length.symm.trans l2)) (hrel rz) q2) fun r s' hq => ?_)
  match r, hq with
  | .error e, hq => exact hx pins σ H2 s2 e s' I2 hq
  | .ok (.ret u), hq => exact I2.after hq
  | .ok .next, hq => exact hq.elim
  | .ok .brk, hq => exact hq.elim
  | .ok .cont, hq => exact hq.elim
end
/-! ### lists of small numbers as data -/
def wv (k : Nat) : V := .int (k : Int)
def dw (k : Nat) : PyData := PyData.int (k : Int)
theorem dp_walls {K : PySem.W.Frag} {H : Hp} : ∀ ks : List Nat, DpAll K H (ks.map wv) (ks.map dw)
  | [] => .nil
  | k :: r => .cons (.int _) (dp_walls r)
theorem lay_dw : ∀ ks : List Nat, PyData.canLayAll0 (ks.map dw) = true
  | [] => rfl
  | k :: r => by
    rw [List.map_cons]
    simp only [PyData.canLayAll0, lay_dw r, Bool.and_true]
    rfl
theorem deep_dw : ∀ ks : List Nat, PyData.depthAll (ks.map dw) = 0
  | [] => rfl
  | k :: r => by
    rw [List.map_cons]
    simp only [PyData.depthAll, deep_dw r]
    rfl
theorem shaped_ints (ks : List Nat) : SeqAt.shaped (.list (ks.map dw)) = true := by
  unfold SeqAt.shaped
  rw [Bool.and_eq_true]
  refine ⟨?_, decide_eq_true ?_⟩
  · simp only [PyData.canLay0, lay_dw]
  · simp only [PyData.depth, deep_dw]
    decide
theorem show_dw : ∀ ks : List Nat, (∀ k ∈ ks, k ≤ 30) → PyData.showableAll (ks.map dw) = true
  | [], _ => rfl
  | k :: r, h => by
    have hk := h k (List.mem_cons_self ..)
    have e : PyData.showable (dw k) = true := by
      show decide ((k : Int).natAbs.log2 < 1920) = true
      refine decide_eq_true (Nat.lt_of_le_of_lt (Nat.log2_le_self _) ?_)
      show k < 1920
      omega
    rw [List.map_cons]
    simp only [PyData.showableAll, e, show_dw r fun q hq => h q (List.mem_cons_of_mem _ hq), Bool.and_true]
theorem nodict_dw : ∀ ks : List Nat, PyData.hasDictAll (ks.map dw) = false
  | [] => rfl
  | k :: r => by
    rw [List.map_cons]
    simp only [PyData.hasDictAll, nodict_dw r, Bool.or_false]
    rfl
theorem text30 : ∀ k < 31, (PyData.shown (dw k)).length ≤ 2 := by decide +kernel
theorem shown_len : ∀ ks : List Nat, (∀ k ∈ ks, k ≤ 30) → ((PyData.shownAll (ks.map dw)).map (·.length)).sum ≤ 2 * ks.length ∧ (PyData.shownAll (ks.map dw)).length = ks.length
  | [], _ => ⟨Nat.le_refl _, rfl⟩
  | k :: r, h => by
    obtain ⟨h1, h2⟩ := shown_len r fun q hq => h q (List.mem_cons_of_mem _ hq)
    have hk := text30 k (by have := h k (List.mem_cons_self ..); omega)
    rw [List.map_cons]
    simp only [PyData.shownAll, List.map_cons, List.sum_cons, List.length_cons]
    omega
theorem ints_show {ks : List Nat} (h : ∀ k ∈ ks, k ≤ 30) (hl : ks.length ≤ 1000) : (PyData.list (ks.map dw)).showable = true ∧ (PyData.list (ks.map dw)).hasDict = false ∧ (PyData.list (ks.map dw)).depth ≤ 64 ∧ (PyData.list (ks.map dw)).shown.length ≤ sizeLine := by
  obtain ⟨h1, h2⟩ := shown_len ks h
  refine ⟨?_, ?_, ?_, ?_⟩
  · simp only [PyData.showable, show_dw ks h]
  · simp only [PyData.hasDict, nodict_dw]
  · simp only [PyData.depth, deep_dw]
    decide
  · simp only [PyData.shown]
    have h3 := listText_len_le (PyData.shownAll (ks.map dw))
    rw [sizeLine_eq]
    omega
/-! ### the law's own words of walls and changes -/
theorem opn_eq {bs : List Bool} {k : Nat} (h : k ≤ bs.length) : opn bs k = ((decide (k = 0) || bs.getD (k - 1) false) && (decide (k = bs.length) || !bs.getD k true)) := by
  have hl := ends_len bs
  have e1 : (ends bs)[k]?.getD false = (decide (k = 0) || bs.getD (k - 1) false) := by
    unfold ends
    cases k with
    | zero => rfl
    | succ j =>
      rw [List.getElem?_cons_succ, List.getElem?_append_left (by omega), List.getD_eq_getElem?_getD]
      simp
  have e2 : (ends bs)[k + 1]?.getD true = (decide (k ≠ bs.length) && bs.getD k true) := by
    unfold ends
    rw [List.getElem?_cons_succ]
    by_cases hk : k = bs.length
    · subst hk
      rw [List.getElem?_append_right (Nat.le_refl _)]
      simp
    · rw [List.getElem?_append_left (by omega), List.getD_eq_getElem?_getD, decide_eq_true hk]
      rfl
  have e3 : opn bs k = (((ends bs)[k]?.getD false) && !((ends bs)[k + 1]?.getD true)) := by
    have g1 : (ends bs)[k]? = some (ends bs)[k] := List.getElem?_eq_getElem (by omega)
    have g2 : (ends bs)[k + 1]? = some (ends bs)[k + 1] := List.getElem?_eq_getElem (by omega)
    have g3 : ((ends bs).drop k).take 2 = [(ends bs)[k], (ends bs)[k + 1]] := by
      rw [List.drop_eq_getElem_cons (by omega), List.drop_eq_getElem_cons (by omega)]
      rfl
    unfold opn
    rw [g3, g1, g2]
    show decide ([(ends bs)[k], (ends bs)[k + 1]] = [true, false]) = ((ends bs)[k] && !(ends bs)[k + 1])
    cases (ends bs)[k] <;> cases (ends bs)[k + 1] <;> rfl
  rw [e3, e1, e2]
  by_cases hk : k = bs.length
  · simp [hk]
  · simp [hk]
def lbeh (bs : List Bool) (k : Nat) : List Bool := if k < bs.length then (if 0 < k then bs.set (k - 1) false else bs).set k true else (if 0 < k then bs.set (k - 1) false else bs)
theorem lbeh_len (bs : List Bool) (k : Nat) : (lbeh bs k).length = bs.length := by
  unfold lbeh
  split <;> split <;> simp
theorem chg_get {bs : List Bool} {k i : Nat} (h : k ≤ bs.length) (hi : i < bs.length) : (chg bs k)[i]? = some (if i + 1 = k then false else if i = k then true else bs[i]) := by
  have hl := ends_len bs
  have hb := bhd_len h
  have he : (ends bs)[i + 1]? = some bs[i] := by
    unfold ends
    rw [List.getElem?_cons_succ, List.getElem?_append_left hi, List.getElem?_eq_getElem hi]
  unfold chg
  rw [List.getElem?_take_of_lt (by rw [hb]; omega), List.getElem?_drop, Nat.add_comm 1 i]
  unfold bhd
  rw [List.append_assoc, List.append_assoc]
  by_cases h1 : i + 1 < k
  · rw [List.getElem?_append_left (by rw [List.length_take]; omega), List.getElem?_take_of_lt h1, he, if_neg (by omega), if_neg (by omega)]
  · rw [List.getElem?_append_right (by rw [List.length_take]; omega), List.length_take, Nat.min_eq_left (by omega)]
    by_cases h2 : i + 1 = k
    · rw [if_pos h2, h2, Nat.sub_self]
      rfl
    · rw [if_neg h2]
      by_cases h3 : i = k
      · rw [if_pos h3, show i + 1 - k = 1 by omega]
        rfl
      · rw [if_neg h3]
        obtain ⟨m, hm⟩ : ∃ m, i + 1 - k = m + 2 := ⟨i + 1 - k - 2, by omega⟩
        rw [hm]
        show ((ends bs).drop (k + 2))[m]? = some bs[i]
        rw [List.getElem?_drop, show k + 2 + m = i + 1 by omega, he]
theorem lbeh_eq {bs : List Bool} {k : Nat} (h : k ≤ bs.length) : lbeh bs k = chg bs k := by
  apply List.ext_getElem?
  intro i
  by_cases hi : i < bs.length
  · rw [chg_get h hi]
    unfold lbeh
    have g : bs[i]? = some bs[i] := List.getElem?_eq_getElem hi
    have inner : (if 0 < k then bs.set (k - 1) false else bs)[i]? = some (if i + 1 = k then false else bs[i]) := by
      by_cases hk : 0 < k
      · rw [if_pos hk, List.getElem?_set]
        by_cases e : k - 1 = i
        · rw [if_pos e, if_pos (by omega), if_pos (by omega)]
        · rw [if_neg e, if_neg (by omega), g]
      · rw [if_neg hk, if_neg (by omega), g]
    have il : (if 0 < k then bs.set (k - 1) false else bs).length = bs.length := by
      split <;> simp
    by_cases hk : k < bs.length
    · rw [if_pos hk, List.getElem?_set]
      by_cases e : k = i
      · rw [if_pos e, if_pos (by rw [il]; exact hk), if_neg (by omega), if_pos e.symm]
      · rw [if_neg e, inner]
        by_cases e2 : i + 1 = k
        · rw [if_pos e2, if_pos e2]
        · rw [if_neg e2, if_neg e2, if_neg (fun z => e z.symm)]
    · rw [if_neg hk, inner]
      by_cases e2 : i + 1 = k
      · rw [if_pos e2, if_pos e2]
      · rw [if_neg e2, if_neg e2, if_neg (by omega)]
  · rw [List.getElem?_eq_none (by rw [lbeh_len]; omega), List.getElem?_eq_none (by rw [chg_len h]; omega)]
end HopR

set_option Elab.async false
set_option linter.all false
set_option maxRecDepth 100000
namespace HopR
open PySem PySem.Spec PyProof.Rows L2
/-! ### an exception that is kept behind its suite -/
/-- the exception at a, of the class cls, its dict d, kept as a value -/
def ExH (cls : Value) (d : Option Addr) (a : Addr) : HO := .ext fun h => ∃ (oe : Obj) (vs : Array Value), h.get? a = some oe ∧ Zc cls d oe ∧ oe.data = .fields vs
theorem exH_ok {P : Program} {w : World} {H : Hp} {h : Heap} {a : Addr} {cls : Value} {d : Option Addr} {oe : Obj} {vs : Array Value} (e : h.get? a = some oe) (z : Zc cls d oe) (q : oe.data = .fields vs) : ObjOk P w H h a (ExH cls d a) :=
  ⟨⟨oe, vs, e, z, q⟩, ⟨oe, e⟩, fun _ _ ⟨o, v, q, r⟩ k => ⟨o, v, k o q, r⟩⟩
section
variable {X : Cx} {pins : List (Addr × Obj)} {σ σ0 : L2.St} {H H0 : Hp} {s sI : Shared} {a : Addr} {oe : Obj} {vs : Array Value} {o : HO}
/-- an object that came behind the entry is tracked from now on -/
theorem track (I : Inv X pins σ H s) (J : Inv X pins σ0 H0 sI) (hI : sI.heap.get? a = none) (hx : X.ex = []) (na : H a = none) (nL : a ≠ X.env.locals) (ha : s.heap.get? a = some oe) (hd : oe.data = .fields vs) (new : ObjOk X.prog X.w (upd H a o) s.heap a o) : Inv X pins σ (upd H a o) s := by
  have n0 : ∀ b u, X.s_0.heap.get? b = some u → b ≠ a := by
    intro b u e z
    subst z
    obtain ⟨u2, q⟩ := J.base.there b u e (by rw [hx]; exact fun z => nomatch z)
    rw [hI] at q
    cases q
  have nN : ∀ {b : Addr} {u : HO}, H b = some u → b ≠ a := fun e => ne_of_none e na
  have bs := I.base
  refine ⟨I.ok, I.os, I.bare, ⟨bs.keep, bs.slot, ?_, bs.there, ?_, ?_, ?_⟩, I.loc, I.cell, ?_, ?_, ?_, ?_, I.len⟩
  · intro b u e n q
    rw [upd_ne (n0 b u e)]
    exact bs.free b u e n q
  · intro b xs e
    have q := bs.tups b xs e
    rw [upd_ne (nN q)]
    exact q
  · intro b ob u e
    have q := bs.frzs b ob u e
    rw [upd_ne (nN q)]
    exact q
  · intro b ps e
    obtain ⟨m, q⟩ := bs.tbls b ps e
    exact ⟨m, by rw [upd_ne (nN q)]; exact q⟩
  · rw [upd_ne nL.symm]
    exact I.free
  · intro x c e
    have nc : c ≠ a := by
      intro z
      subst z
      obtain ⟨v, oc, e1, e2⟩ := I.cell x c e
      rw [ha] at e1
      cases e1
      rw [hd] at e2
      cases e2
    rw [upd_ne nc]
    exact I.freeC x c e
  · intro p hp
    have np : p.1 ≠ a := by
      intro z
      have q := (J.pin p hp).1
      rw [z, hI] at q
      cases q
    obtain ⟨e, n, r⟩ := I.pin p hp
    exact ⟨e, by rw [upd_ne np]; exact n, r⟩
  · intro b u e
    by_cases hb : b = a
    · subst hb
      rw [upd_same] at e
      cases e
      exact new
    · rw [upd_ne hb] at e
      refine (I.hok b u e).stay (fun c v _ q => q) (fun c q => ?_) (fun c xs q => ?_)
      · rw [upd_ne (nN q)]
        exact q
      · rw [upd_ne (nN q)]
        exact q
end
theorem fly_keeps {B h h' : Heap} {l : List Env} {a : Addr} {Z : Obj → Prop} (x : HandSPX.FlyingZ B l a Z h) (k : ∀ b o, h.get? b = some o → h'.get? b = some o) : HandSPX.FlyingZ B l a Z h' := by
  obtain ⟨x1, x2, x3, oe, vs, T, oT, ts, e1, e2, e3, e4, e5, e6, e7, e8, e9⟩ := x
  exact ⟨fun b o e => k b o (x1 b o e), x2, x3.of_keeps (fun b o e _ => ⟨o, k b o e, rfl⟩), oe, vs, T, oT, ts, k _ _ e1, e2, e3, e4, e5, e6, k _ _ e7, e8, e9⟩
/-- the clause's test takes the exceptions whose class has m -/
def Tests (X : Cx) (t : Expr) (m : Value → Prop) : Prop :=
  ∀ (a : Addr) (oe : Obj) (pn pins : List (Addr × Obj)) (σ : L2.St) (H : Hp) (s : Shared) (cls : Value) (Q : Value → Shared → Prop) (E : Value → Shared → Prop), Inv (X.suite a ((a, oe) :: pn)) pins σ H s → s.heap.get? a = some oe → oe.cls = cls → m cls →
    (∀ (c : Value) (h' : Heap), (∀ b o, s.heap.get? b = some o → h'.get? b = some o) → PySem.W.Looks (model X.prog X.w) h' (excMatches (.ref a) c) true → Q c { s with heap := h' }) → wpAny (model X.prog X.w) (X.A.mark (some (.ref a))) (eval t X.env) Q E s
theorem ld_nm {X : Cx} {x : Str} {c : Value} {pins : List (Addr × Obj)} {σ : L2.St} {H : Hp} {s : Shared} {Q : Value → Shared → Prop} {E : Value → Shared → Prop} {p : Pos} (I : Inv X pins σ H s) (hc : Names X x c) (q : Q c s) : wpAny (model X.prog X.w) X.A (eval (.Name x p) X.env) Q E s := by
  obtain ⟨g, nd, h | ⟨h1, h2, h3⟩⟩ := hc
  · exact ld_glob I g h q nd
  · exact ld_blt I g h1 h2 q h3 nd
theorem ty_looks {P : Program} {w : World} {h : Heap} {a : Addr} {oe : Obj} {cls : Value} (e : h.get? a = some oe) (c : oe.cls = cls) : PySem.W.Looks (model P w) h (typeOf (.ref a)) cls := by
  intro A Q E s k q
  exact wpAny_typeOf_ref (k _ _ e) (by rw [c]; exact q)
theorem tests_one {X : Cx} {x : Str} {c : Value} {p : Pos} (hc : Names X x c) : Tests X (.Name x p) fun cls => PySem.W.exmOne X.K cls c = some true := by
  intro a oe pn pins σ H s cls Q E I ha hcl hm k
  exact ld_nm (X := X.suite a ((a, oe) :: pn)) I hc (k c s.heap (fun _ _ z => z) (PySem.W.exm_one I.kIn (ty_looks ha hcl) hm))
theorem tests_two {X : Cx} {x1 x2 : Str} {c1 c2 : Value} {p1 p2 pos : Pos} {u} (h1 : Names X x1 c1) (h2 : Names X x2 c2) : Tests X (.Tuple [.Name x1 p1, .Name x2 p2] u pos) fun cls => PySem.W.exmAny X.K cls [c1, c2] = some true := by
  intro a oe pn pins σ H s cls Q E I ha hcl hm k
  refine wpAny_Tuple_spliced ?_
  refine Calls.spliced_cons (ld_nm (X := X.suite a ((a, oe) :: pn)) I h1 ?_)
  refine Calls.spliced_cons (ld_nm (X := X.suite a ((a, oe) :: pn)) I h2 (Calls.spliced_nil ⟨by show 2 ≤ sizeLine; decide, ?_⟩))
  have hk : ∀ b o, s.heap.get? b = some o → (s.heap.push { cls := .type "tuple", data := .seq [c1, c2].toArray }).get? b = some o := fun b o e => Heap.get?_push_of_some _ e
  refine k (.ref s.heap.objs.size) _ hk ?_
  exact PySem.W.exm_tup2 (fun b o e => hk b o (I.kIn b o e)) (ty_looks (hk _ _ ha) hcl) (Heap.get?_push_size _ rfl) hm
/-- what 'except .. as n: v = n' wishes of an exception of the body: it is taken, and kept in slot j; slot i, n's, is empty behind it -/
def wHeld (m : Value → Prop) (i j : Nat) (D : Ends) : WX := fun cls d σ H => m cls ∧ ∀ a, H a = none → D.nx (((σ.set i (some (.ref a))).set j (some (.ref a))).set i none) (upd H a (ExH cls d a))
section
variable {X : Cx} {n v : Str} {i j : Nat} {t : Expr} {m : Value → Prop} {body : List Stmt} {pos pos' p1 p2 p3 : Pos} {tb : WX → TS}
theorem ps_try_held (hs : X.stack = X.env :: X.outer) (hf : X.env.frame = some X.env.locals) (hN : X.N.Nodup) (hi : X.N[i]? = some n) (hj : X.N[j]? = some v) (hln : X.env.kindOf n = some .local) (hlv : X.env.kindOf v = some .local) (hx : X.ex = []) (ht : Tests X t m)
    (hb : ∀ (W : WX) (pn : List (Addr × Obj)) (xe : Value → Shared → Prop), Takes (X.tr pn xe) W → PassesOwn (model X.prog X.w) X.A X.env xe → PSs (X.tr pn xe) body (tb W))
    (hsu : ∀ (a : Addr) (oe : Obj) (pn : List (Addr × Obj)), PSs (X.suite a ((a, oe) :: pn)) [.Assign [.Name v p1] (.Name n p2) p3] (tAsg (tVar i) (gName j))) :
    PS X (.Try body [.ExceptHandler (some t) (some n) [.Assign [.Name v p1] (.Name n p2) p3] pos'] [] [] pos) (fun D σ H => tb (wHeld m i j D) D σ H) := by
  constructor
  intro pins s σ H D I h
  have ok := I.ok
  have frm : X.A.frames = some (X.env :: X.outer) := ok.frames.trans (congrArg some hs)
  have body_ := hb (wHeld m i j D) (X.pn ++ pins) (fun e s₁ => wpAny (model X.prog X.w) X.A (noteFrame e X.env) (fun _ s₂ => wpAny (model X.prog X.w) X.A (setFlight e none) (fun _ s₃ => wpAny (model X.prog X.w) X.A (handleBy e X.env [.ExceptHandler (some t) (some n) [.Assign [.Name v p1] (.Name n p2) p3] pos']) (SP X pins D) X.xe s₃) X.xe s₂) X.xe s₁) ?caught PassesOwn.looking
  · refine wpAny_Try_except (wpAny_mono (body_.run [] s σ H D (I.toTry _) h) ?_ fun _ _ z => z)
    intro f s1 hsp
    match f, hsp with
    | .next, ⟨σ', H', J', q⟩ => exact wpAny_execs_nil ⟨σ', H', J'.ofTry ok, q⟩
    | .brk, ⟨σ', H', J', q⟩ => exact ⟨σ', H', J'.ofTry ok, q⟩
    | .cont, ⟨σ', H', J', q⟩ => exact ⟨σ', H', J'.ofTry ok, q⟩
    | .ret u, ⟨v, σ', H', J', r, q⟩ => exact ⟨v, σ', H', J'.ofTry ok, r, q⟩
  case caught =>
    rintro u s' ⟨a, B, sI, pins', σ', H', cls, d, rfl, J', nb, up, sky, na, os, ag, hm, hk⟩
    have J : Inv X pins σ' H' sI := J'.ofTry ok
    have sk2 : Sky B (X.env :: X.outer) a (Zc cls d) X.env.locals s'.heap := hs ▸ sky
    show wpAny (model X.prog X.w) X.A (noteFrame (.ref a) X.env) _ _ _
    refine Sky.land Zc.steady frm hf sk2 fun h3 fl3 up3 => ?_
    have notF : ∀ {g : Heap}, HandSPX.FlyingZ B (X.env :: X.outer) a (Zc cls d) g → a ∉ frs (X.env :: X.outer) := by
      intro g fl hmem
      obtain ⟨o1, v1, e1, _, e3⟩ := fl.there
      obtain ⟨_, o2, e2, hn2⟩ := fl.2.2.1.mem hmem
      rw [e1] at e2
      cases e2
      exact hn2 _ e3
    have nfr := notF fl3
    have nL : a ≠ X.env.locals := by
      intro z
      exact nfr (List.mem_filterMap.mpr ⟨X.env, List.mem_cons_self, hf.trans (congrArg some z.symm)⟩)
    have nF : a ∉ X.fs := by
      intro z
      obtain ⟨e, he, q⟩ := List.mem_filterMap.mp z
      exact nfr (List.mem_filterMap.mpr ⟨e, List.mem_cons_of_mem _ he, q⟩)
    have nI : sI.heap.get? a = none := by
      cases e : sI.heap.get? a with
      | none => rfl
      | some o =>
        have q := nb a o e (by rw [hs]; exact nfr)
        rw [fl3.2.1] at q
        cases q
    obtain ⟨oe3, vs3, he3, hz3, hd3⟩ := fl3.there
    have J3 : Inv X pins σ' H' { s' with heap := h3 } := J.landed nb fl3.1 (up.trans up3) os ag
    refine wpAny_handleBy_cons (codeAny_handlers_test ?_) (fun q => nomatch q)
    refine ht a oe3 _ _ _ _ _ cls _ _ (J3.suite he3 hd3 na nL nF) he3 hz3.1 hm fun c h' kp lk => lk.here ?_
    refine codeAny_handlers_suite_as (HandSPX.lands_againZ (fly_keeps fl3 kp) fun h4 fl4 up4 => ?_)
    have upA : sI.heap.UpToSlots h4 := ((up.trans up3).trans (Heap.UpToSlots.of_keeps kp)).trans up4
    have J4 : Inv X pins σ' H' { s' with heap := h4 } := J.landed nb fl4.1 upA os ag
    obtain ⟨oe4, vs4, he4, hz4, hd4⟩ := fl4.there
    refine store_ok (X := X.suite a ((a, oe4) :: (X.pn ++ pins))) (v := .ref a) (J4.suite he4 hd4 na nL nF) hN hi (.inl hln) rfl (fun s5 S5 => ?_) (.inr hln)
    have hlen : i < σ'.length := by
      rw [J.len]
      exact (List.getElem?_eq_some_iff.mp hi).1
    refine wpAny_mono ((hsu a oe4 (X.pn ++ pins)).run [] s5 _ H' { nx := fun σ6 H6 => σ6 = (σ'.set i (some (.ref a))).set j (some (.ref a)) ∧ H6 = H', rt := fun _ _ => False } S5 ?_) (fun f s6 hsp => ?_) (fun _ _ z => False.elim z)
    · exact ⟨.ref a, by simp [hlen], rfl, rfl⟩
    match f, hsp with
    | .next, ⟨σ6, H6, S6, e6, e7⟩ =>
      subst e6 e7
      refine gone_ok (X := X.suite a ((a, oe4) :: (X.pn ++ pins))) S6 hN hi hln fun s7 S7 => ?_
      have ha7 := (S7.pin (a, oe4) (List.mem_append_left _ List.mem_cons_self)).1
      exact ⟨_, _, track (S7.unsuite ok) J nI hx na nL ha7 hd4 (exH_ok ha7 hz4 hd4), hk a na⟩
    | .brk, ⟨_, _, _, z⟩ => exact z.elim
    | .cont, ⟨_, _, _, z⟩ => exact z.elim
    | .ret u, ⟨_, _, _, _, _, z⟩ => exact z.elim
end
end HopR

set_option Elab.async false
set_option linter.all false
set_option maxRecDepth 100000
namespace HopR
open PySem PySem.Spec PyProof.Rows L2
/-! ### isinstance of a kept exception without a dict -/
section
variable {X : Cx}
theorem held_at {pins : List (Addr × Obj)} {σ : L2.St} {H : Hp} {s : Shared} {a D : Addr} (I : Inv X pins σ H s) (ha : H a = some (ExH (.ref D) none a)) : ∃ oe, PySem.W.InstAt s.heap a oe D none := by
  obtain ⟨⟨oe, vs, e, ⟨z1, z2⟩, q⟩, _, _⟩ := I.hok a _ ha
  obtain ⟨oc, od, oda, osl⟩ := oe
  dsimp only at z1 z2 q
  subst z1 z2 q
  exact ⟨_, e, rfl, rfl, trivial⟩
/-- isinstance(kept, c) -/
def rIsH (K : PySem.W.Frag) : List V → Hp → VK → Prop := fun xs H Q => ∃ (a D : Addr) (c : V) (cv : Value) (b : Bool), xs = [.ref a, c] ∧ H a = some (ExH (.ref D) none a) ∧ ExcC K D ∧ ClsV c cv ∧ PySem.W.kitOne K (.ref D) cv = some b ∧ Q (.bl b) H
theorem call_isH : CallR X (.builtin "isinstance") (rIsH X.K) := by
  rintro pins s σ H xs us Q I r ⟨a, D, c, cv, b, rfl, ha, C, kc, e, q⟩
  obtain ⟨u1, u2, rfl, r1, r2⟩ := vals2 r
  obtain rfl := kc.eq r2
  cases (show u1 = Value.ref a from r1)
  obtain ⟨oe, J⟩ := held_at I ha
  exact PySem.W.kia_one (PySem.W.handS_kitx_exc C.hg C.hk C.hs C.hd C.ha C.hn C.ht C.hm) I.kIn J e (fun z => nomatch z) fun tk => ⟨.bl b, H, I.tok tk, rfl, q⟩
/-- isinstance(kept, (c1, c2, ..)) -/
def rIsHT (K : PySem.W.Frag) : List V → Hp → VK → Prop := fun xs H Q => ∃ (a D tp : Addr) (cs : List V) (ws : List Value) (b : Bool), xs = [.ref a, .ref tp] ∧ H a = some (ExH (.ref D) none a) ∧ ExcC K D ∧ H tp = some (.tup cs) ∧ Paired ClsV cs ws ∧ PySem.W.kitAny K (.ref D) ws = some b ∧ Q (.bl b) H
theorem call_isHT : CallR X (.builtin "isinstance") (rIsHT X.K) := by
  rintro pins s σ H xs us Q I r ⟨a, D, tp, cs, ws, b, rfl, ha, C, ht, kc, e, q⟩
  obtain ⟨u1, u2, rfl, r1, r2⟩ := vals2 r
  cases (show u1 = Value.ref a from r1)
  cases (show u2 = Value.ref tp from r2)
  obtain ⟨oe, J⟩ := held_at I ha
  have hT : ObjOk X.prog X.w H s.heap tp (.tup cs) := I.hok tp _ ht
  obtain ⟨_, its, rv, ⟨oc, od, dt, osl⟩, g1, g2, n, g3⟩ := hT
  obtain rfl := ClsV.all kc rv
  simp only at g2 g3
  subst g2 g3
  exact PySem.W.kia_tup (PySem.W.handS_kitx_exc C.hg C.hk C.hs C.hd C.ha C.hn C.ht C.hm) I.kIn J g1 e (fun z => nomatch z) fun tk => ⟨.bl b, H, I.tok tk, rfl, q⟩
end
/-! ### things that are whole numbers or not -/
/-- x is of a built-in type that is no whole number's -/
def Odd (K : PySem.W.Frag) (H : Hp) (x : V) : Prop := ∃ t bI, TyX K H x t ∧ PySem.W.kitOne K t (.type "int") = some bI ∧ (bI = true → PySem.W.kitOne K t (.type "bool") = some true)
theorem odd_non {K : PySem.W.Frag} {H : Hp} : Odd K H .non := ⟨_, false, .base .non, kit_ty (by decide +kernel), fun z => nomatch z⟩
theorem odd_bl {K : PySem.W.Frag} {H : Hp} {b : Bool} : Odd K H (.bl b) := ⟨_, true, .base (.bl b), kit_ty (by decide +kernel), fun _ => kit_ty (by decide +kernel)⟩
theorem odd_str {K : PySem.W.Frag} {H : Hp} {z : Str} : Odd K H (.str z) := ⟨_, false, .base (.str z), kit_ty (by decide +kernel), fun z => nomatch z⟩
theorem odd_lst {K : PySem.W.Frag} {H : Hp} {a : Addr} {xs : List V} (e : H a = some (.lst xs)) : Odd K H (.ref a) := ⟨_, false, .base (.lst e), kit_ty (by decide +kernel), fun z => nomatch z⟩
theorem odd_tup {K : PySem.W.Frag} {H : Hp} {a : Addr} {xs : List V} (e : H a = some (.tup xs)) : Odd K H (.ref a) := ⟨_, false, .base (.tup e), kit_ty (by decide +kernel), fun z => nomatch z⟩
theorem odd_dK {K : PySem.W.Frag} {H : Hp} {a : Addr} {xs : List (Key × V)} (e : H a = some (.dK xs)) : Odd K H (.ref a) := ⟨_, false, .base (.dK e), kit_ty (by decide +kernel), fun z => nomatch z⟩
end HopR

set_option Elab.async false
set_option linter.all false
set_option maxRecDepth 100000
namespace HopR
open PySem L2
theorem same_upd {H : Hp} {p : Addr} {o : HO} (h : H p = none) : Same H (upd H p o) := fun b x e => by
  rw [upd_ne (ne_of_none e h)]
  exact e
theorem same_new {H H1 : Hp} {p : Addr} {o : HO} (h : H p = none) (s : Same H H1) : Same H (upd H1 p o) := fun b x e => by
  rw [upd_ne (ne_of_none e h)]
  exact s _ _ e
/-- a def of the text, its binding, where its name leads -/
structure Fn (K : PySem.W.Frag) (mg : Str → Option Value) (x : Str) (st : Stmt) (ps : List Str) (f : Addr) (fd : FuncData) : Prop where
  F : Fun K x x st f fd
  b : Binds K fd ps []
  g : mg x = some (.ref f)
end HopR

set_option Elab.async false
set_option linter.all false
set_option maxRecDepth 100000
namespace HopR
open PySem L2
/-! ### classes of refusals -/
theorem kit_own {K : PySem.W.Frag} {D C : Addr} {b : Bool} (ne : D ≠ C) (hd : PySem.W.hasDictIn K C = true) (ht : PySem.W.typeIn K (.ref C) = some (.type "type")) (h : PySem.W.subIn K (.ref D) (.ref C) = some b) : PySem.W.kitOne K (.ref D) (.ref C) = some b := by
  obtain ⟨cd, hc, _⟩ := PySem.W.any_some hd
  have e1 : ((Value.ref D == Value.ref C) = true) = False := by
    rw [eq_iff_iff]
    exact ⟨fun z => ne (Value.ref.inj (beq_iff_eq.mp z)), False.elim⟩
  have e2 : ((PySem.W.clsIn K C).isSome && PySem.W.typeIn K (.ref C) == some (.type "type")) = true := by rw [hc, ht] <;> rfl
  unfold PySem.W.kitOne
  rw [if_neg (by rw [e1]; exact id)]
  show (if ((PySem.W.clsIn K C).isSome && PySem.W.typeIn K (.ref C) == some (.type "type")) = true then PySem.W.subIn K (.ref D) (.ref C) else none) = some b
  rw [if_pos e2]
  exact h
theorem kit_me {K : PySem.W.Frag} {D : Addr} : PySem.W.kitOne K (.ref D) (.ref D) = some true := by
  unfold PySem.W.kitOne
  rw [if_pos (by simp)]
theorem kit_blt {K : PySem.W.Frag} {D : Addr} {T : String} {b : Bool} (m : PySem.W.kitMeta T = true) (h : PySem.W.subIn K (.ref D) (.type T) = some b) : PySem.W.kitOne K (.ref D) (.type T) = some b := by
  have e1 : ¬ ((Value.ref D == Value.type T) = true) := fun z => nomatch (beq_iff_eq.mp z)
  unfold PySem.W.kitOne
  rw [if_neg e1]
  show (if PySem.W.kitMeta T = true then PySem.W.subIn K (.ref D) (.type T) else none) = some b
  rw [if_pos m]
  exact h
theorem kitAny_cons {K : PySem.W.Frag} {t c : Value} {r : List Value} (h : PySem.W.kitOne K t c = some false) (q : PySem.W.kitAny K t r = some false) : PySem.W.kitAny K t (c :: r) = some false := by
  simp only [PySem.W.kitAny, h, q]
theorem kitAny_nil {K : PySem.W.Frag} {t : Value} : PySem.W.kitAny K t [] = some false := by simp only [PySem.W.kitAny]
theorem exmAny2 {K : PySem.W.Frag} {t c1 c2 : Value} {b1 b2 : Bool} (h1 : PySem.W.exmOne K t c1 = some b1) (h2 : PySem.W.exmOne K t c2 = some b2) : PySem.W.exmAny K t [c1, c2] = some (b1 || b2) := by
  simp only [PySem.W.exmAny, h1, h2, Bool.or_false]
/-- an own exception class, as its instances are made and asked -/
structure Xc (K : PySem.W.Frag) (D : Addr) (bm : List Value) (nw : String) : Prop where
  x : PySem.W.excIn K D bm nw = true
  k : PySem.W.keepIn K (.ref D) = true
  be : PySem.W.subIn K (.ref D) (.type "BaseException") = some true
  ty : PySem.W.typeIn K (.ref D) = some (.type "type")
  c : ExcC K D
abbrev bmV : List Value := [.type "ValueError", .type "Exception", .type "BaseException", .type "object"]
abbrev bmZ : List Value := [.type "ZeroDivisionError", .type "ArithmeticError", .type "Exception", .type "BaseException", .type "object"]
/-! ### things by their kind -/
theorem tyx_same {K : PySem.W.Frag} {H H' : Hp} {x : V} {t : Value} (s : Same H H') (ty : TyX K H x t) : TyX K H' x t := by
  cases ty with
  | base h =>
    cases h with
    | non => exact .base .non
    | bl x => exact .base (.bl x)
    | int i => exact .base (.int i)
    | str x => exact .base (.str x)
    | flt x => exact .base (.flt x)
    | lst e => exact .base (.lst (s _ _ e))
    | frz e => exact .base (.frz (s _ _ e))
    | tup e => exact .base (.tup (s _ _ e))
    | dK e => exact .base (.dK (s _ _ e))
    | dT e => exact .base (.dT (s _ _ e))
    | ins e a b c d f => exact .base (.ins (s _ _ e) a b c d f)
  | byt b => exact .byt b
  | set e => exact .set (s _ _ e)
  | kList e c => exact .kList e c
  | kTuple e c => exact .kTuple e c
  | kDict e c => exact .kDict e c
  | fTuple e => exact .fTuple (s _ _ e)
  | fDict e => exact .fDict (s _ _ e)
theorem odd_same {K : PySem.W.Frag} {H H' : Hp} {x : V} (s : Same H H') (h : Odd K H x) : Odd K H' x := by
  obtain ⟨t, b, ty, k⟩ := h
  exact ⟨t, b, tyx_same s ty, k⟩
/-- x is no text -/
def NoTxt (K : PySem.W.Frag) (H : Hp) (x : V) : Prop := ∃ t, TyX K H x t ∧ PySem.W.kitOne K t (.type "str") = some false
theorem notxt_non {K : PySem.W.Frag} {H : Hp} : NoTxt K H .non := ⟨_, .base .non, kit_ty (by decide +kernel)⟩
theorem notxt_bl {K : PySem.W.Frag} {H : Hp} {b : Bool} : NoTxt K H (.bl b) := ⟨_, .base (.bl b), kit_ty (by decide +kernel)⟩
theorem notxt_int {K : PySem.W.Frag} {H : Hp} {i : Int} : NoTxt K H (.int i) := ⟨_, .base (.int i), kit_ty (by decide +kernel)⟩
theorem notxt_lst {K : PySem.W.Frag} {H : Hp} {a : Addr} {xs : List V} (e : H a = some (.lst xs)) : NoTxt K H (.ref a) := ⟨_, .base (.lst e), kit_ty (by decide +kernel)⟩
theorem notxt_tup {K : PySem.W.Frag} {H : Hp} {a : Addr} {xs : List V} (e : H a = some (.tup xs)) : NoTxt K H (.ref a) := ⟨_, .base (.tup e), kit_ty (by decide +kernel)⟩
theorem notxt_dK {K : PySem.W.Frag} {H : Hp} {a : Addr} {xs : List (Key × V)} (e : H a = some (.dK xs)) : NoTxt K H (.ref a) := ⟨_, .base (.dK e), kit_ty (by decide +kernel)⟩
theorem notxt_same {K : PySem.W.Frag} {H H' : Hp} {x : V} (s : Same H H') (h : NoTxt K H x) : NoTxt K H' x := by
  obtain ⟨t, ty, k⟩ := h
  exact ⟨t, tyx_same s ty, k⟩
/-! ### signs in the written dict of both signs -/
/-- the sign is a bead or a free place -/
def okc (c : Nat) : Bool := decide (c = 111) || decide (c = 46)
theorem okc_cd (b : Bool) : okc (cd b) = true := by cases b <;> rfl
def keyText : Value → Option Str
  | .str s _ => some s
  | _ => none
theorem keyText_str {v : Value} {s : Str} (h : keyText v = some s) : ∃ t, v = .str s t := by
  cases v <;> simp [keyText] at h
  exact ⟨_, by rw [h]⟩
def keysAre (es : Array DictEntry) : Prop := es.toList.map (fun e => keyText e.key) = [some ("o" : Str), some ("." : Str)]
theorem sign_in {K : PySem.W.Frag} {d : Addr} {es : Array DictEntry} {n : Nat} (l : K.lookup d = some ⟨.type "dict", none, .dict es n, #[]⟩) (hk : keysAre es) (c : Nat) : ∃ r, PySem.W.nsIn K d ⟨#[c]⟩ = some r ∧ r.isSome = okc c := by
  unfold keysAre at hk
  obtain ⟨e1, e2, hes⟩ : ∃ e1 e2, es.toList = [e1, e2] := by
    have hl := congrArg List.length hk
    rw [List.length_map] at hl
    match h : es.toList, hl with
    | [e1, e2], _ => exact ⟨e1, e2, rfl⟩
  rw [hes] at hk
  obtain ⟨t1, k1⟩ := keyText_str (List.cons.inj hk).1
  obtain ⟨t2, k2⟩ := keyText_str (List.cons.inj (List.cons.inj hk).2).1
  have i1 : e1.key.isStr ⟨#[c]⟩ = decide (c = 111) := by
    rw [k1]
    by_cases h : c = 111
    · subst h
      show (("o" : Str) == ⟨#[111]⟩) = true
      decide +kernel
    · rw [decide_eq_false h]
      have : ¬ (("o" : Str) = ⟨#[c]⟩) := fun z => by
        have z2 := congrArg (fun q : Str => q.cps.toList) z
        have z3 : [111] = [c] := z2
        exact h (List.cons.inj z3).1.symm
      simp [Value.isStr, this]
  have i2 : e2.key.isStr ⟨#[c]⟩ = decide (c = 46) := by
    rw [k2]
    by_cases h : c = 46
    · subst h
      show (("." : Str) == ⟨#[46]⟩) = true
      decide +kernel
    · rw [decide_eq_false h]
      have : ¬ (("." : Str) = ⟨#[c]⟩) := fun z => by
        have z2 := congrArg (fun q : Str => q.cps.toList) z
        have z3 : [46] = [c] := z2
        exact h (List.cons.inj z3).1.symm
      simp [Value.isStr, this]
  have r1 : e1.refKey = false := by unfold DictEntry.refKey; rw [k1]
  have r2 : e2.refKey = false := by unfold DictEntry.refKey; rw [k2]
  unfold PySem.W.nsIn
  rw [l]
  simp only [hes, List.find?, i1, i2, List.any_cons, r1, r2, List.any_nil, Bool.or_false]
  unfold okc
  by_cases h1 : c = 111
  · simp [h1]
  · by_cases h2 : c = 46
    · simp [h2]
    · simp [h1, h2]
/-- x is no row: no text, or one that is too short, too long, or has another sign -/
def NotRow (K : PySem.W.Frag) (H : Hp) (x : V) : Prop := NoTxt K H x ∨ ∃ z : Str, x = .str z ∧ z.length ≤ 10000 ∧ (z.length = 0 ∨ 30 < z.length ∨ ∃ c ∈ z.cps.toList, okc c = false)
def NotWord (K : PySem.W.Frag) (H : Hp) (x : V) : Prop := NoTxt K H x ∨ ∃ z : Str, x = .str z ∧ z.length ≤ 10000 ∧ (30 < z.length ∨ ∃ c ∈ z.cps.toList, okc c = false)
theorem notrow_same {K : PySem.W.Frag} {H H' : Hp} {x : V} (s : Same H H') (h : NotRow K H x) : NotRow K H' x := h.imp (notxt_same s) id
theorem notword_same {K : PySem.W.Frag} {H H' : Hp} {x : V} (s : Same H H') (h : NotWord K H x) : NotWord K H' x := h.imp (notxt_same s) id
theorem notword_row {K : PySem.W.Frag} {H : Hp} {x : V} (h : NotWord K H x) : NotRow K H x := h.imp id fun ⟨z, e, l, q⟩ => ⟨z, e, l, .inr q⟩
end HopR

set_option Elab.async false
set_option linter.all false
set_option maxRecDepth 100000
namespace HopR
open PySem L2
/-! ### words: where they can be shortened, and to what -/
def shp (bs : List Bool) (i : Nat) : Bool := decide ((bs.drop i).take 2 = [true, false])
def plc (bs : List Bool) : List Nat := (List.range bs.length).filter (shp bs)
def shA (bs : List Bool) (k : Nat) : List Bool := bs.take (k + 1) ++ bs.drop (k + 2)
def shB (bs : List Bool) (k : Nat) : List Bool := bs.take k ++ bs.drop (k + 1)
theorem shp_split {bs : List Bool} {i : Nat} (h : shp bs i = true) : bs = bs.take i ++ true :: false :: bs.drop (i + 2) ∧ i + 2 ≤ bs.length := by
  have h := of_decide_eq_true h
  have e : bs.drop i = [true, false] ++ (bs.drop i).drop 2 := by
    conv => lhs; rw [← List.take_append_drop 2 (bs.drop i), h]
  rw [List.drop_drop] at e
  have hl := congrArg List.length e
  rw [List.length_drop, List.length_append, List.length_drop] at hl
  have hl2 : bs.length - i = 2 + (bs.length - (i + 2)) := hl
  refine ⟨?_, by omega⟩
  conv => lhs; rw [← List.take_append_drop i bs, e]
  rfl
theorem plc_shp {bs : List Bool} {k : Nat} (h : k ∈ plc bs) : shp bs k = true ∧ k < bs.length := ⟨(List.mem_filter.mp h).2, List.mem_range.mp (List.mem_filter.mp h).1⟩
theorem plc_few (bs : List Bool) : (plc bs).length ≤ bs.length := by
  refine Nat.le_trans (List.length_filter_le _ _) ?_
  rw [List.length_range]
  exact Nat.le_refl _
theorem shA_len {bs : List Bool} {k : Nat} (h : k + 2 ≤ bs.length) : (shA bs k).length + 1 = bs.length := by
  unfold shA
  rw [List.length_append, List.length_take, List.length_drop]
  omega
theorem shB_len {bs : List Bool} {k : Nat} (h : k + 2 ≤ bs.length) : (shB bs k).length + 1 = bs.length := by
  unfold shB
  rw [List.length_append, List.length_take, List.length_drop]
  omega
theorem shA_eq {bs : List Bool} {k : Nat} (h : k ∈ plc bs) : shA bs k = bs.take k ++ [true] ++ bs.drop (k + 2) := by
  obtain ⟨e, hl⟩ := shp_split (plc_shp h).1
  unfold shA
  have e2 : bs.take (k + 1) = bs.take k ++ [true] := by
    rw [List.take_add_one]
    congr 1
    rw [e, List.getElem?_append_right (by rw [List.length_take]; omega), List.length_take, show k - min k bs.length = 0 by omega]
    rfl
  rw [e2]
theorem shB_eq {bs : List Bool} {k : Nat} (h : k ∈ plc bs) : shB bs k = bs.take k ++ [false] ++ bs.drop (k + 2) := by
  obtain ⟨e, hl⟩ := shp_split (plc_shp h).1
  unfold shB
  rw [List.append_assoc]
  congr 1
  have e3 : bs.drop (k + 1) = false :: bs.drop (k + 2) := by
    have h1 : k + 1 < bs.length := by omega
    rw [List.drop_eq_getElem_cons h1]
    congr 1
    have h2 : bs[k + 1]? = some false := by
      rw [e, List.getElem?_append_right (by rw [List.length_take]; omega), List.length_take, show k + 1 - min k bs.length = 1 by omega]
      rfl
    rw [List.getElem?_eq_getElem h1] at h2
    exact Option.some.inj h2
  rw [e3]
  rfl
/-! ### words and other things -/
def isRowB (z : Str) : Bool := decide (1 ≤ z.length) && (decide (z.length ≤ 30) && z.cps.toList.all okc)
def isWordB (z : Str) : Bool := decide (z.length ≤ 30) && z.cps.toList.all okc
/-- whether x is a row -/
def RowB (K : PySem.W.Frag) (H : Hp) (x : V) (b : Bool) : Prop := (NoTxt K H x ∧ b = false) ∨ ∃ z : Str, x = .str z ∧ z.length ≤ 10000 ∧ b = isRowB z
/-- whether x is a word -/
def WordB (K : PySem.W.Frag) (H : Hp) (x : V) (b : Bool) : Prop := (NoTxt K H x ∧ b = false) ∨ ∃ z : Str, x = .str z ∧ z.length ≤ 10000 ∧ b = isWordB z
theorem wordB_same {K : PySem.W.Frag} {H H' : Hp} {x : V} {b : Bool} (s : Same H H') (h : WordB K H x b) : WordB K H' x b := h.imp (fun ⟨q, e⟩ => ⟨notxt_same s q, e⟩) id
theorem rowB_same {K : PySem.W.Frag} {H H' : Hp} {x : V} {b : Bool} (s : Same H H') (h : RowB K H x b) : RowB K H' x b := h.imp (fun ⟨q, e⟩ => ⟨notxt_same s q, e⟩) id
theorem okc_tx (bs : List Bool) : (tx bs).cps.toList.all okc = true := by
  rw [tx_list, List.all_map, List.all_eq_true]
  exact fun b _ => okc_cd b
theorem isWord_tx {bs : List Bool} (h : bs.length ≤ 30) : isWordB (tx bs) = true := by
  unfold isWordB
  rw [okc_tx, tx_len, decide_eq_true h]
  rfl
theorem isRow_tx {bs : List Bool} (h1 : 1 ≤ bs.length) (h : bs.length ≤ 30) : isRowB (tx bs) = true := by
  unfold isRowB
  rw [okc_tx, tx_len, decide_eq_true h, decide_eq_true h1]
  rfl
theorem len0 {z : Str} (h : z.length = 0) : z = "" := by
  apply ext_str
  have : z.cps = #[] := Array.eq_empty_of_size_eq_zero h
  rw [this]
  rfl
/-- as the program tells it: a row, or the text without signs -/
theorem isWord_or (z : Str) : isWordB z = (isRowB z || decide (z = "")) := by
  unfold isWordB isRowB
  by_cases h : z.length = 0
  · rw [len0 h]
    decide +kernel
  · have ne : ¬ z = "" := fun e => h (by rw [e]; decide +kernel)
    rw [decide_eq_false ne, decide_eq_true (show 1 ≤ z.length by omega)]
    simp
/-- a spot at which the word of bs can't be shortened -/
def BadSpot (K : PySem.W.Frag) (H : Hp) (y : V) (ks : List Nat) : Prop := Odd K H y ∨ ∃ i : Int, y = .int i ∧ ∀ k ∈ ks, i ≠ (k : Int)
theorem badspot_same {K : PySem.W.Frag} {H H' : Hp} {y : V} {ks : List Nat} (s : Same H H') (h : BadSpot K H y ks) : BadSpot K H' y ks := h.imp (odd_same s) id
theorem inV_in {ks : List Nat} {k : Nat} (h : k ∈ ks) : inV (wv k) (ks.map wv) = true := by
  unfold inV
  rw [List.any_eq_true]
  exact ⟨wv k, List.mem_map_of_mem h, by unfold wv eqV; simp⟩
theorem inV_no {ks : List Nat} {i : Int} (h : ∀ k ∈ ks, i ≠ (k : Int)) : inV (.int i) (ks.map wv) = false := by
  unfold inV
  rw [List.any_eq_false]
  intro x hx
  obtain ⟨k, hk, rfl⟩ := List.mem_map.mp hx
  unfold wv eqV
  simp
  have := h k hk
  omega
theorem flat_ks (ks : List Nat) : (ks.map wv).all flatV = true := by
  rw [List.all_eq_true]
  intro x hx
  obtain ⟨k, _, rfl⟩ := List.mem_map.mp hx
  rfl
theorem fit {m : Nat} (h : m ≤ 10000) : m ≤ sizeLine := Nat.le_trans h (by decide)
theorem fit' {m : Nat} (h : m ≤ 10000) : m < sizeLine := Nat.lt_of_le_of_lt h (by decide)
theorem tx_fit {bs : List Bool} (h : bs.length ≤ 10000) : (tx bs).length ≤ sizeLine := by
  rw [tx_len]
  exact fit h
theorem tx_nil : ("" : Str) = tx [] := by decide +kernel
theorem dec_str {a b : Str} {p : Prop} [Decidable p] (h : a = b ↔ p) : decide (V.str a = V.str b) = decide p := by
  by_cases q : p
  · rw [decide_eq_true q, decide_eq_true (by rw [h.mpr q])]
  · rw [decide_eq_false q, decide_eq_false fun z => q (h.mp (V.str.inj z))]
end HopR

set_option Elab.async false
set_option linter.all false
set_option maxRecDepth 100000
namespace HopR
open PySem L2
/-! ### the draws -/
def dval (left : Int) (k : Nat) (z : Int) : Int :=
  if (1000000000000000000 : Int) ≤ left then left % z
  else
    let small := left % 1000000000000000000
    let one := (small + 7 * (k : Int) + 1) * (48271 + 2 * (k : Int) * (k : Int)) % 2147483647
    let two := (small / 3 + 11 * (k : Int) + 5) * (39373 + 6 * (k : Int)) % 2147483629
    (one * two + one / 64) % z
def dleft (left : Int) (z : Int) : Int := if (1000000000000000000 : Int) ≤ left then left / z else left
def draws : Int → Nat → List Int → List Int
  | _, _, [] => []
  | left, k, z :: r => dval left k z :: draws (dleft left z) (k + 1) r
theorem draws_len : ∀ (zs : List Int) (c : Int) (k : Nat), (draws c k zs).length = zs.length
  | [], _, _ => rfl
  | z :: r, c, k => by
    show (draws (dleft c z) (k + 1) r).length + 1 = r.length + 1
    rw [draws_len r]
theorem dval_ok {c : Int} {k : Nat} {z : Int} (h : 0 < z) : 0 ≤ dval c k z ∧ dval c k z < z := by
  unfold dval
  split
  · exact ⟨Int.emod_nonneg _ (by omega), Int.emod_lt_of_pos _ h⟩
  · exact ⟨Int.emod_nonneg _ (by omega), Int.emod_lt_of_pos _ h⟩
theorem draws_ok : ∀ (zs : List Int) (c : Int) (k : Nat), (∀ z ∈ zs, 0 < z) → ∀ (i : Nat) (d z : Int), (draws c k zs)[i]? = some d → zs[i]? = some z → 0 ≤ d ∧ d < z
  | [], _, _, _, i, d, z, _, h => by simp at h
  | y :: r, c, k, hp, 0, d, z, h1, h2 => by
    have e1 : dval c k y = d := Option.some.inj h1
    have e2 : y = z := Option.some.inj h2
    subst e1 e2
    exact dval_ok (hp y (List.mem_cons_self ..))
  | y :: r, c, k, hp, i + 1, d, z, h1, h2 => draws_ok r _ _ (fun q hq => hp q (List.mem_cons_of_mem _ hq)) i d z h1 h2
/-- the size of a draw is one that is reckoned with -/
def SizeOk (z : Int) : Prop := 0 < z ∧ z < 18446744073709551616
def bits (cs : List Int) : List Bool := cs.map fun c => decide (c = 1)
theorem signs_rows : ∀ (ys : List Str), (∀ y ∈ ys, ∃ b, y = tx [b]) → ∃ bs : List Bool, ys = bs.map fun b => tx [b]
  | [], _ => ⟨[], rfl⟩
  | y :: r, h => by
    obtain ⟨b, e⟩ := h y (List.mem_cons_self ..)
    obtain ⟨bs, e2⟩ := signs_rows r fun z hz => h z (List.mem_cons_of_mem _ hz)
    exact ⟨b :: bs, by rw [e, e2]; rfl⟩
theorem dot_o (c : Int) (h0 : 0 ≤ c) (h2 : c < 2) : atI (".o" : Str).cps.toList c = some (cd (decide (c = 1))) := by
  have e : (".o" : Str).cps.toList = [46, 111] := by decide +kernel
  rw [e]
  rcases (show c = 0 ∨ c = 1 by omega) with rfl | rfl
  · decide
  · decide
/-- a row -/
def Row (bs : List Bool) : Prop := 1 ≤ bs.length ∧ bs.length ≤ 30
theorem row_size {bs : List Bool} (h : Row bs) : (tx bs).length ≤ sizeLine := tx_fit (Nat.le_trans h.2 (by decide))
theorem flat_rep {α : Type} (x : α) : ∀ m : Nat, (List.replicate m [x]).flatten = List.replicate m x
  | 0 => rfl
  | m + 1 => by
    rw [List.replicate_succ, List.flatten_cons, flat_rep x m]
    rfl
theorem rep_of (m : Nat) : repS "o." m = tx (List.replicate m [true, false]).flatten := by
  unfold repS tx
  have e : ("o." : Str).cps.toList = [true, false].map cd := by decide +kernel
  rw [e, List.map_flatten, List.map_replicate]
theorem rep_of_len (m : Nat) : (List.replicate m [true, false]).flatten.length = 2 * m := by
  rw [List.length_flatten, List.map_replicate, List.sum_replicate_nat]
  show m * 2 = 2 * m
  omega
def spDrawn (K : PySem.W.Frag) : Sp := fun vs H Q _ => ∃ (c : Int) (a : Addr) (zs : List Int), vs = [.int c, .ref a] ∧ SqL K H a (zs.map V.int) ∧ (∀ z ∈ zs, SizeOk z) ∧ zs.length ≤ 1000 ∧
  ∀ H' p, Same H H' → H p = none → H' p = some (.lst ((draws c 0 zs).map V.int)) → Q (.ref p) H'
def spCellH (K : PySem.W.Frag) : Sp := fun vs H Q _ => ∃ (a : Addr) (ns : List Int) (k : Nat), vs = [.ref a, .int (k : Int)] ∧ SqL K H a (ns.map V.int) ∧ ∀ c : Int, Q (.int c) H
def spLRow : Sp := fun vs H Q _ => ∃ (c : Int) (M : Nat), vs = [.int c, .int (M : Int)] ∧ 1 ≤ M ∧ M ≤ 30 ∧ ∀ H' bs, Same H H' → 1 ≤ bs.length → bs.length ≤ M → Q (.str (tx bs)) H'
end HopR

set_option Elab.async false
set_option linter.all false
set_option maxRecDepth 100000
namespace HopR
open PySem PySem.Spec PyProof.Rows L2
/-! ### numbers: // by any number but 0 -/
def CDivWN (_ j : Int) : Prop := j ≠ 0 ∧ j.natAbs.log2 < 9000
theorem op_fdivWN {X : Cx} : OpR X (binaryOp .FloorDiv) (rI CDivWN fun i j => .int (i.fdiv j)) := opI fun i j _ _ _ _ _ hc q => floordiv_int hc.1 q (.inl (PyProof.noPylong_of_log2 hc.2))
theorem gcd_fmod (a b : Int) : Int.gcd b (a.fmod b) = Int.gcd a b := by
  rw [Int.fmod_def, Int.mul_comm, Int.gcd_sub_mul_right_right, Int.gcd_comm]
theorem fmod_less (a : Int) {b : Int} (h : b ≠ 0) : (a.fmod b).natAbs < b.natAbs := by
  have h1 := Int.emod_nonneg a h
  have h2 := Int.emod_lt a h
  rw [Int.fmod_eq_emod]
  by_cases h3 : 0 ≤ b ∨ b ∣ a
  · rw [if_pos h3]
    omega
  · rw [if_neg h3]
    have h4 : a % b ≠ 0 := fun e => h3 (.inr (Int.dvd_of_emod_eq_zero e))
    have h5 : b < 0 := by
      refine Int.not_le.mp fun e => h3 (.inl e)
    omega
/-! ### fractions -/
theorem low_num {t b : Int} (h : b ≠ 0) : (t.fdiv (if b < 0 then -(Int.gcd t b : Int) else (Int.gcd t b : Int))) = (Rat.divInt t b).num := by
  have hd : ((Int.gcd t b : Nat) : Int) ∣ t := Int.gcd_dvd_left ..
  rw [Rat.num_divInt, Int.gcd_comm b t]
  by_cases hb : b < 0
  · rw [if_pos hb, Int.fdiv_eq_ediv_of_dvd (by rw [Int.neg_dvd]; exact hd), Int.ediv_neg, Int.sign_eq_neg_one_of_neg hb, Int.neg_one_mul, Int.neg_ediv_of_dvd hd]
  · have hb2 : 0 < b := by omega
    rw [if_neg hb, Int.fdiv_eq_ediv_of_dvd hd, Int.sign_eq_one_of_pos hb2, Int.one_mul]
theorem low_den {t b : Int} (h : b ≠ 0) : (b.fdiv (if b < 0 then -(Int.gcd t b : Int) else (Int.gcd t b : Int))) = ((Rat.divInt t b).den : Int) := by
  have hd : ((Int.gcd t b : Nat) : Int) ∣ b := Int.gcd_dvd_right ..
  rw [Rat.den_divInt, if_neg h, Int.gcd_comm b t]
  rw [Int.natCast_ediv]
  by_cases hb : b < 0
  · rw [if_pos hb, Int.fdiv_eq_ediv_of_dvd (by rw [Int.neg_dvd]; exact hd), Int.ediv_neg, Int.ofNat_natAbs_of_nonpos (by omega), Int.neg_ediv_of_dvd hd]
  · rw [if_neg hb, Int.fdiv_eq_ediv_of_dvd hd, Int.natAbs_of_nonneg (by omega)]
theorem gcd_pos {t b : Int} (h : b ≠ 0) : 0 < Int.gcd t b := Int.gcd_pos_of_ne_zero_right _ h
/-- both numbers of the fraction are below 2 ^ n -/
def Sz (n : Nat) (q : Rat) : Prop := q.num.natAbs < 2 ^ n ∧ q.den < 2 ^ n
theorem Sz.mono {n m : Nat} {q : Rat} (h : Sz n q) (hm : n ≤ m) : Sz m q := ⟨Nat.lt_of_lt_of_le h.1 (Nat.pow_le_pow_right (by decide) hm), Nat.lt_of_lt_of_le h.2 (Nat.pow_le_pow_right (by decide) hm)⟩
theorem sz_divInt {t b : Int} {n : Nat} (h : b ≠ 0) (ht : t.natAbs < 2 ^ n) (hb : b.natAbs < 2 ^ n) : Sz n (Rat.divInt t b) := by
  have g := gcd_pos (t := t) h
  constructor
  · rw [Rat.num_divInt]
    refine Nat.lt_of_le_of_lt (Int.natAbs_ediv_le_natAbs _ _) ?_
    rw [Int.natAbs_mul]
    rcases Int.lt_or_gt_of_ne h with h | h
    · rw [Int.sign_eq_neg_one_of_neg h]; simpa using ht
    · rw [Int.sign_eq_one_of_pos h]; simpa using ht
  · rw [Rat.den_divInt, if_neg h]
    exact Nat.lt_of_le_of_lt (Nat.div_le_self _ _) hb
theorem den_ne (q : Rat) : ((q.den : Nat) : Int) ≠ 0 := by
  have := q.den_nz
  omega
theorem pos_two (n : Nat) : 0 < 2 ^ n := Nat.pow_pos (by decide)
theorem two_lt {a b : Nat} {n : Nat} (ha : a < 2 ^ n) (hb : b < 2 ^ n) : a + b < 2 ^ (n + 1) := by
  rw [Nat.pow_succ]
  omega
theorem add_eq (q r : Rat) : q + r = Rat.divInt (q.num * r.den + r.num * q.den) ((q.den : Int) * (r.den : Int)) := by
  conv => lhs; rw [← Rat.num_divInt_den q, ← Rat.num_divInt_den r]
  exact Rat.divInt_add_divInt _ _ (den_ne q) (den_ne r)
theorem sub_eq (q r : Rat) : q - r = Rat.divInt (q.num * r.den - r.num * q.den) ((q.den : Int) * (r.den : Int)) := by
  conv => lhs; rw [← Rat.num_divInt_den q, ← Rat.num_divInt_den r]
  exact Rat.divInt_sub_divInt _ _ (den_ne q) (den_ne r)
theorem mul_eq (q r : Rat) : q * r = Rat.divInt (q.num * r.num) ((q.den : Int) * (r.den : Int)) := by
  conv => lhs; rw [← Rat.num_divInt_den q, ← Rat.num_divInt_den r]
  exact Rat.divInt_mul_divInt _ _
theorem div_eq (q r : Rat) : q / r = Rat.divInt (q.num * r.den) ((q.den : Int) * r.num) := by
  rw [Rat.div_def]
  conv => lhs; rw [← Rat.num_divInt_den q, ← Rat.num_divInt_den r]
  rw [Rat.inv_divInt]
  exact Rat.divInt_mul_divInt _ _
end HopR

set_option Elab.async false
set_option linter.all false
set_option maxRecDepth 100000
namespace HopR
open PySem PySem.Spec PyProof.Rows L2
/-! ### products, divided out crosswise -/
theorem mul_num (q r : Rat) : (q.num.fdiv (Int.gcd q.num (r.den : Int) : Int)) * (r.num.fdiv (Int.gcd r.num (q.den : Int) : Int)) = (q * r).num := by
  have h1 : ((Int.gcd q.num (r.den : Int) : Nat) : Int) ∣ q.num := Int.gcd_dvd_left ..
  have h2 : ((Int.gcd r.num (q.den : Int) : Nat) : Int) ∣ r.num := Int.gcd_dvd_left ..
  rw [Int.fdiv_eq_ediv_of_dvd h1, Int.fdiv_eq_ediv_of_dvd h2]
  show _ = (Rat.mul q r).num
  unfold Rat.mul
  rfl
theorem mul_den (q r : Rat) : ((q.den : Int).fdiv (Int.gcd r.num (q.den : Int) : Int)) * ((r.den : Int).fdiv (Int.gcd q.num (r.den : Int) : Int)) = ((q * r).den : Int) := by
  have h1 : ((Int.gcd q.num (r.den : Int) : Nat) : Int) ∣ (r.den : Int) := Int.gcd_dvd_right ..
  have h2 : ((Int.gcd r.num (q.den : Int) : Nat) : Int) ∣ (q.den : Int) := Int.gcd_dvd_right ..
  rw [Int.fdiv_eq_ediv_of_dvd h1, Int.fdiv_eq_ediv_of_dvd h2]
  show _ = ((Rat.mul q r).den : Int)
  unfold Rat.mul
  rfl
end HopR

set_option Elab.async false
set_option linter.all false
set_option maxRecDepth 100000
namespace HopR
open PySem PySem.Spec PyProof.Rows L2
/-! ### len, str and repr of objects of an own class; an attribute as a target -/
section
variable {X : Cx} {CX : CXT} {n : Nat} {C f : Addr} {fd : FuncData} {ps : List Str} {sp : Sp} {E : XK}
/-- a def called by a built-in that runs in the same frames -/
theorem call_at {A : Around} {pins : List (Addr × Obj)} {σ : L2.St} {H : Hp} {s : Shared} {Q : VK} {us : List Value} {vs : List V} (F : FnOk X.prog X.w X.K X.mg X.base CX n f fd ps sp) (room : Room n A) (frames : A.frames = X.A.frames) (bind : Binds X.K fd ps []) (lets : Passes CX X E)
    (I : Inv X pins σ H s) (vals : Vals vs us) (prom : sp vs H Q E) : wpAny (model X.prog X.w) A (call (.ref f) us) (EP X pins σ Q) X.xe s := by
  have I0 := I.env0
  have here : Env0 X.prog X.w X.K X.mg X.base A X.stack s H := { frames := frames.trans I0.frames, mod := I0.mod, bs := I0.bs, bsz := I0.bsz, funs := I0.funs, frf := I0.frf, hok := I0.hok, bare := I0.bare }
  have size := vals.length.symm.trans (F.len _ _ _ _ prom)
  have bound := bind s us I.kIn (by rw [List.append_nil]; exact size)
  rw [List.append_nil] at bound
  refine wpAny_call (codeAny_mono (F.run A X.stack s H ⟨us, []⟩ us vs Q E room here bound vals prom) fun r s' h => ?_)
  have said := after_call lets I h
  cases r with
  | error e => exact said
  | ok fl => cases fl <;> exact said
/-- one object of the class, and what its method promises of it -/
def rOwn1 (C : Addr) (sp : Sp) (E : XK) (R : V → Hp → VK → Prop) : List V → Hp → VK → Prop := fun xs H Q => ∃ a dx fs, xs = [.ref a] ∧ H a = some (.ins C dx fs) ∧ sp [.ref a] H (fun v H' => R v H' Q) E
def isLen : V → Hp → VK → Prop := fun v H Q => ∃ i : Int, v = .int i ∧ (0 ≤ i ∧ i < 2 ^ 63) ∧ Q (.int i) H
def isTxt : V → Hp → VK → Prop := fun v H Q => ∃ z : Str, v = .str z ∧ Q (.str z) H
/-- len(o) -/
theorem cr_lenOwn (len : PySem.W.findIn X.K (.ref C) "__len__" = some (some (.ref f))) (fn : PySem.W.isFn X.K (.ref f) = true) (F : FnOk X.prog X.w X.K X.mg X.base CX n f fd ps sp) (room : Room (n + 1) X.A) (bind : Binds X.K fd ps []) (lets : Passes CX X E) :
    CallR X (.builtin "len") (rOwn1 C sp E isLen) := by
  rintro pins s σ H _ us Q I r ⟨a, dx, fs, rfl, ha, prom⟩
  obtain ⟨u, rfl, rv⟩ := vals1 r
  cases rv
  obtain ⟨_, J, _⟩ := ins_get I.hok ha
  obtain ⟨od, J, _⟩ := J.look
  obtain ⟨m, F0⟩ := I.fr
  refine PySem.W.len_K F0 I.ok.mod.kin J len fn (thn (call_at F room.in1 rfl bind lets I (us := [.ref a]) (vs := [.ref a]) (.cons rfl .nil) prom) ?_)
  rintro w s' ⟨z, H', I', rz, i, rfl, hi, q⟩
  obtain ⟨t, rfl⟩ := rz
  exact ⟨hi, .int i, H', I'.tok _, ⟨_, rfl⟩, q⟩
/-- str(o) -/
theorem cr_strOwn (str : PySem.W.findIn X.K (.ref C) "__str__" = some (some (.ref f))) (fn : PySem.W.isFn X.K (.ref f) = true) (F : FnOk X.prog X.w X.K X.mg X.base CX n f fd ps sp) (room : Room (n + 2) X.A) (bind : Binds X.K fd ps []) (lets : Passes CX X E) :
    CallR X (.type "str") (rOwn1 C sp E isTxt) := by
  rintro pins s σ H _ us Q I r ⟨a, dx, fs, rfl, ha, prom⟩
  obtain ⟨u, rfl, rv⟩ := vals1 r
  cases rv
  obtain ⟨_, J, _⟩ := ins_get I.hok ha
  obtain ⟨od, J, _⟩ := J.look
  have un := room.un
  refine PySem.W.kso_call (by show X.A.units + 1 + 1 < cLine; omega) I.kIn J str fn (thn (call_at F room.in1.in1 rfl bind lets I (us := [.ref a]) (vs := [.ref a]) (.cons rfl .nil) prom) ?_)
  rintro w s' ⟨z, H', I', rz, y, rfl, q⟩
  obtain ⟨t, rfl⟩ := rz
  exact ⟨.str y, H', I', ⟨_, rfl⟩, q⟩
/-- repr(o) -/
theorem cr_reprOwn (rep : PySem.W.findIn X.K (.ref C) "__repr__" = some (some (.ref f))) (fn : PySem.W.isFn X.K (.ref f) = true) (F : FnOk X.prog X.w X.K X.mg X.base CX n f fd ps sp) (room : Room (n + 1) X.A) (bind : Binds X.K fd ps []) (lets : Passes CX X E) :
    CallR X (.builtin "repr") (rOwn1 C sp E isTxt) := by
  rintro pins s σ H _ us Q I r ⟨a, dx, fs, rfl, ha, prom⟩
  obtain ⟨u, rfl, rv⟩ := vals1 r
  cases rv
  obtain ⟨_, J, _⟩ := ins_get I.hok ha
  obtain ⟨od, J, _⟩ := J.look
  obtain ⟨m, F0⟩ := I.fr
  have un := room.un
  refine PySem.W.repr_K (by show X.A.units + 1 < cLine; omega) F0 I.ok.mod.kin J rep fn (thn (call_at F room.in1 rfl bind lets I (us := [.ref a]) (vs := [.ref a]) (.cons rfl .nil) prom) ?_)
  rintro w s' ⟨z, H', I', rz, y, rfl, q⟩
  obtain ⟨t, rfl⟩ := rz
  exact ⟨.str y, H', I', ⟨_, rfl⟩, q⟩
end
section
variable {X : Cx}
/-- o.f as a target: the field is put -/
def gFld (K : PySem.W.Frag) (to : TE) (f : Str) : TG := fun v σ H Q => to σ H fun o H1 => ∃ a C dx fs, o = .ref a ∧ H1 a = some (.ins C dx fs) ∧ Cls K C ∧ NoAttr K C f ∧ fs.length < 1000 ∧ Q σ (upd H1 a (.ins C dx (putF f v fs)))
theorem pg_fld {o : Expr} {to : TE} {f : Str} {pos : Pos} (ho : PE X o to) : PG X (.Attribute o f pos) (gFld X.K to f) := by
  constructor
  intro pins s σ H v u Q I r h
  rw [assign_Attribute]
  refine wpAny_bind (wpAny_holding (thn (ho.run pins s σ H _ I h) ?_))
  rintro ov s1 ⟨x, H1, I1, rx, a, C, dx, fs, rfl, ea, c, na, few, q⟩
  cases rx
  refine wpAny_bind (wpAny_standAt (wpAny_bind (wpAny_holding (setattr_ok I1 ea c na few r fun s2 I2 => ?_))))
  exact wpAny_release ⟨σ, _, I2, q⟩
end
end HopR

set_option Elab.async false
set_option linter.all false
set_option maxRecDepth 100000
namespace HopR
open PySem PySem.Spec PyProof.Rows L2
open Builtin Builtin.Str Builtin.Int
/-! ### f"{n:b}" for n to 100 -/
/-- the figures of n by twos -/
def binText (n : Nat) : Str := ⟨((Nat.toDigits 2 n).map Char.toNat).toArray⟩
set_option maxHeartbeats 8000000 in
theorem gives_b : ∀ (n : Nat) (t u : Tok), n < 101 → Gives («int.__format__» ⟨[.int (n : Int) t, .str "b" u], []⟩) (.str (binText n))
  | 0, _, _, _ => .of_eq rfl
  | 1, _, _, _ => .of_eq rfl
  | 2, _, _, _ => .of_eq rfl
  | 3, _, _, _ => .of_eq rfl
  | 4, _, _, _ => .of_eq rfl
  | 5, _, _, _ => .of_eq rfl
  | 6, _, _, _ => .of_eq rfl
  | 7, _, _, _ => .of_eq rfl
  | 8, _, _, _ => .of_eq rfl
  | 9, _, _, _ => .of_eq rfl
  | 10, _, _, _ => .of_eq rfl
  | 11, _, _, _ => .of_eq rfl
  | 12, _, _, _ => .of_eq rfl
  | 13, _, _, _ => .of_eq rfl
  | 14, _, _, _ => .of_eq rfl
  | 15, _, _, _ => .of_eq rfl
  | 16, _, _, _ => .of_eq rfl
  | 17, _, _, _ => .of_eq rfl
  | 18, _, _, _ => .of_eq rfl
  | 19, _, _, _ => .of_eq rfl
  | 20, _, _, _ => .of_eq rfl
  | 21, _, _, _ => .of_eq rfl
  | 22, _, _, _ => .of_eq rfl
  | 23, _, _, _ => .of_eq rfl
  | 24, _, _, _ => .of_eq rfl
  | 25, _, _, _ => .of_eq rfl
  | 26, _, _, _ => .of_eq rfl
  | 27, _, _, _ => .of_eq rfl
  | 28, _, _, _ => .of_eq rfl
  | 29, _, _, _ => .of_eq rfl
  | 30, _, _, _ => .of_eq rfl
  | 31, _, _, _ => .of_eq rfl
  | 32, _, _, _ => .of_eq rfl
  | 33, _, _, _ => .of_eq rfl
  | 34, _, _, _ => .of_eq rfl
  | 35, _, _, _ => .of_eq rfl
  | 36, _, _, _ => .of_eq rfl
  | 37, _, _, _ => .of_eq rfl
  | 38, _, _, _ => .of_eq rfl
  | 39, _, _, _ => .of_eq rfl
  | 40, _, _, _ => .of_eq rfl
  | 41, _, _, _ => .of_eq rfl
  | 42, _, _, _ => .of_eq rfl
  | 43, _, _, _ => .of_eq rfl
  | 44, _, _, _ => .of_eq rfl
  | 45, _, _, _ => .of_eq rfl
  | 46, _, _, _ => .of_eq rfl
  | 47, _, _, _ => .of_eq rfl
  | 48, _, _, _ => .of_eq rfl
  | 49, _, _, _ => .of_eq rfl
  | 50, _, _, _ => .of_eq rfl
  | 51, _, _, _ => .of_eq rfl
  | 52, _, _, _ => .of_eq rfl
  | 53, _, _, _ => .of_eq rfl
  | 54, _, _, _ => .of_eq rfl
  | 55, _, _, _ => .of_eq rfl
  | 56, _, _, _ => .of_eq rfl
  | 57, _, _, _ => .of_eq rfl
  | 58, _, _, _ => .of_eq rfl
  | 59, _, _, _ => .of_eq rfl
  | 60, _, _, _ => .of_eq rfl
  | 61, _, _, _ => .of_eq rfl
  | 62, _, _, _ => .of_eq rfl
  | 63, _, _, _ => .of_eq rfl
  | 64, _, _, _ => .of_eq rfl
  | 65, _, _, _ => .of_eq rfl
  | 66, _, _, _ => .of_eq rfl
  | 67, _, _, _ => .of_eq rfl
  | 68, _, _, _ => .of_eq rfl
  | 69, _, _, _ => .of_eq rfl
  | 70, _, _, _ => .of_eq rfl
  | 71, _, _, _ => .of_eq rfl
  | 72, _, _, _ => .of_eq rfl
  | 73, _, _, _ => .of_eq rfl
  | 74, _, _, _ => .of_eq rfl
  | 75, _, _, _ => .of_eq rfl
  | 76, _, _, _ => .of_eq rfl
  | 77, _, _, _ => .of_eq rfl
  | 78, _, _, _ => .of_eq rfl
  | 79, _, _, _ => .of_eq rfl
  | 80, _, _, _ => .of_eq rfl
  | 81, _, _, _ => .of_eq rfl
  | 82, _, _, _ => .of_eq rfl
  | 83, _, _, _ => .of_eq rfl
  | 84, _, _, _ => .of_eq rfl
  | 85, _, _, _ => .of_eq rfl
  | 86, _, _, _ => .of_eq rfl
  | 87, _, _, _ => .of_eq rfl
  | 88, _, _, _ => .of_eq rfl
  | 89, _, _, _ => .of_eq rfl
  | 90, _, _, _ => .of_eq rfl
  | 91, _, _, _ => .of_eq rfl
  | 92, _, _, _ => .of_eq rfl
  | 93, _, _, _ => .of_eq rfl
  | 94, _, _, _ => .of_eq rfl
  | 95, _, _, _ => .of_eq rfl
  | 96, _, _, _ => .of_eq rfl
  | 97, _, _, _ => .of_eq rfl
  | 98, _, _, _ => .of_eq rfl
  | 99, _, _, _ => .of_eq rfl
  | 100, _, _, _ => .of_eq rfl
  | n + 101, _, _, h => False.elim (Nat.not_lt_of_le (Nat.le_add_left 101 n) h)
end HopR

set_option Elab.async false
set_option linter.all false
set_option maxRecDepth 100000
namespace HopR
open PySem PySem.Spec PyProof.Rows L2
def tFmtB (te : TE) : TE := fun σ H Q => te σ H fun x H1 => ∃ n : Nat, x = .int (n : Int) ∧ n < 101 ∧ Q (.str (binText n)) H1
theorem bin_small : ∀ n < 101, (binText n).length ≤ sizeLine := by decide +kernel
theorem len_b : (("b" : Str).length == 0) = false := by decide +kernel
theorem fit_b : ("b" : Str).length ≤ sizeLine := by decide +kernel
theorem field_b {prog : Program} {w : World} {A : Around} {E : Value → Shared → Prop} {s : Shared} {n : Nat} {t : Tok} {Q : Value → Shared → Prop} (hn : n < 101) (h : Q (.str (binText n) (s.toks + 1)) { s with toks := s.toks + 1 + 1 }) : wpAny (model prog w) A (formatField (.int (n : Int) t) "b") Q E s :=
  wpAny_formatField_spec (T := "int") (idf := "int.__format__") (B := PySem.Builtin.«int.__format__») (v := .int (n : Int) t) (sp := "b") (x := binText n) len_b (fun s' => typeIs_int s' (n : Int) t) PySem.F.slot_int_format PySem.F.entry_int_format PySem.F.args_int_format_2 (fun u => @gives_b n t u hn) h fit_b (bin_small n hn)
theorem pe_fmtB {X : Cx} {e : Expr} {te : TE} {pos p1 p2 : Pos} {k : Nat} (he : PE X e te) : PE X (.FormattedValue e (-1) (some (.JoinedStr [.Constant (.str "b") k p1] p2)) pos) (tFmtB te) := by
  constructor
  intro pins s σ H Q I h
  refine wpAny_FormattedValue_spec (thn (he.run pins s σ H _ I h) ?_)
  rintro v s1 ⟨x, H1, I1, rx, n, rfl, hn, q⟩
  obtain ⟨t, rfl⟩ := rx
  have js : PE X (.JoinedStr [.Constant (.str "b") k p1] p2) (tC (.str "b")) := pe_joined1 pe_str
  refine thn (js.run pins s1 σ H1 (fun y H2 => y = .str "b" ∧ H2 = H1) I1 ⟨rfl, rfl⟩) ?_
  rintro r s2 ⟨y, H2, I2, ry, rfl, rfl⟩
  obtain ⟨t2, rfl⟩ := ry
  exact ⟨_, t2, rfl, field_b hn ⟨.str (binText n), H2, I2.tok _, ⟨_, rfl⟩, q⟩⟩
end HopR

set_option Elab.async false
set_option linter.all false
set_option maxRecDepth 100000
namespace HopR
open PySem PySem.Spec PyProof.Rows L2
section
variable {X : Cx}
/-! ### x *= y, wide -/
def ipMulW : TIp := fun x y H Q => ∃ i j, x = .int i ∧ y = .int j ∧ CMulW i j ∧ Q (.int (i * j)) H
theorem ip_mulW : PIp X .Mult ipMulW := by
  intro pins s σ H x y v u Q I r1 r2 h
  obtain ⟨i, j, e1, e2, c, q⟩ := h
  subst e1; subst e2
  obtain ⟨t, rfl⟩ := r1
  obtain ⟨t', rfl⟩ := r2
  exact imul_int ⟨.int _, H, I.tok _, ⟨_, rfl⟩, q⟩ c.ok
/-! ### a body in a try whose exceptions are wished for by their class and heap alone -/
def tSome (W : WX) (tb : XK → TS) : TS := fun D σ H => ∃ E1 : XK, (∀ cls d σ' H', E1 cls d H' → W cls d σ' H') ∧ tb E1 D σ H
theorem pss_some {W : WX} {body : List Stmt} {tb : XK → TS} (h : ∀ E1 : XK, (∀ cls d σ' H', E1 cls d H' → W cls d σ' H') → PSs X body (tb E1)) : PSs X body (tSome W tb) :=
  ⟨fun pins s σ H D I ⟨E1, hW, q⟩ => (h E1 hW).run pins s σ H D I q⟩
end
/-! ### the figures of n by twos, from the left -/
def step2 (m c : Nat) : Nat := 2 * m + (if c = 49 then 1 else 0)
theorem bin_fold : ∀ n < 101, (binText n).cps.toList.foldl step2 0 = n := by decide +kernel
theorem step2_le : ∀ (cs : List Nat) (m : Nat), m ≤ cs.foldl step2 m
  | [], m => Nat.le_refl m
  | c :: r, m => by
    rw [List.foldl_cons]
    refine Nat.le_trans ?_ (step2_le r _)
    unfold step2
    omega
theorem bin_le {n i c : Nat} (hn : n < 101) (h : (binText n).cps[i]? = some c) : step2 (((binText n).cps.toList.take i).foldl step2 0) c = ((binText n).cps.toList.take (i + 1)).foldl step2 0 ∧ step2 (((binText n).cps.toList.take i).foldl step2 0) c ≤ n := by
  have e : ((binText n).cps.toList.take (i + 1)).foldl step2 0 = step2 (((binText n).cps.toList.take i).foldl step2 0) c := by
    have h2 : (binText n).cps.toList[i]? = some c := by
      rw [Array.getElem?_toList]
      exact h
    rw [List.take_add_one, h2, List.foldl_append]
    rfl
  refine ⟨e.symm, ?_⟩
  rw [← e]
  have := step2_le ((binText n).cps.toList.drop (i + 1)) (((binText n).cps.toList.take (i + 1)).foldl step2 0)
  rw [← List.foldl_append, List.take_append_drop, bin_fold n hn] at this
  exact this
theorem pow_lt {x : Int} {e m n : Nat} (h : x.natAbs < 2 ^ e) (hm : m ≤ n) : (x ^ m).natAbs < 2 ^ (e * n + 1) := by
  rw [Int.natAbs_pow]
  have h1 : x.natAbs ^ m ≤ (2 ^ e) ^ m := Nat.pow_le_pow_left (Nat.le_of_lt h) m
  rw [← Nat.pow_mul] at h1
  have h2 : 2 ^ (e * m) ≤ 2 ^ (e * n) := Nat.pow_le_pow_right (by decide) (Nat.mul_le_mul_left e hm)
  have h3 : 2 ^ (e * n) < 2 ^ (e * n + 1) := Nat.pow_lt_pow_right (by decide) (by omega)
  omega
end HopR

set_option Elab.async false
set_option linter.all false
set_option maxRecDepth 100000
namespace HopR
open PySem L2
/-! ### fractions above nought -/
theorem num_pos {q : Rat} (h : 0 < q) : 0 < q.num := by
  have h1 : 0 ≤ q.num := Rat.num_nonneg.mpr (by grind)
  have h2 : q.num ≠ 0 := fun e => by
    have : q = 0 := Rat.num_eq_zero.mp e
    rw [this] at h
    exact absurd h (by decide)
  omega
theorem pos_num {q : Rat} (h : 0 < q.num) : 0 < q := by
  have h1 : 0 ≤ q := Rat.num_nonneg.mp (by omega)
  have h2 : q ≠ 0 := fun e => by
    rw [e] at h
    exact absurd h (by decide)
  grind
theorem add_above {x y : Rat} (h : 0 ≤ y) (h2 : 0 < x) : 0 < y + x := by grind
theorem le_above {x : Rat} (h : 0 < x) : 0 ≤ x := by grind
theorem div_ne {q r : Rat} (h : 0 < q) (h2 : 0 < r) : q / r ≠ 0 := by
  rw [Rat.div_def]
  intro e
  rcases Rat.mul_eq_zero.mp e with e | e
  · rw [e] at h
    exact absurd h (by decide)
  · have h3 : r = 0 := by rw [← Rat.inv_inv r, e, Rat.inv_zero]
    rw [h3] at h2
    exact absurd h2 (by decide)
theorem ne_above {x : Rat} (h : 0 < x) : x ≠ 0 := fun e => by
  rw [e] at h
  exact absurd h (by decide)
theorem nat_low (n : Nat) : (0 : Rat) ≤ ((n : Int) : Rat) := by exact_mod_cast Nat.zero_le n
theorem nat_above {n : Nat} (h : 0 < n) : (0 : Rat) < ((n : Int) : Rat) := by exact_mod_cast h
theorem rat_int (t : Int) : Rat.divInt t 1 = (t : Rat) := by
  rw [Rat.divInt_eq_div]
  show (t : Rat) / ((1 : Int) : Rat) = (t : Rat)
  rw [Rat.div_def]
  have e : ((1 : Int) : Rat)⁻¹ = 1 := by decide +kernel
  rw [e, Rat.mul_one]
theorem sz_int {n k : Nat} (h : n < 2 ^ k) (hk : 1 ≤ k) : Sz k ((n : Int) : Rat) := by
  refine ⟨h, ?_⟩
  show 1 < 2 ^ k
  exact Nat.one_lt_two_pow (by omega)
theorem sz_add {n m : Nat} {q r : Rat} (h1 : Sz n q) (h2 : Sz m r) : Sz (n + m + 1) (q + r) := by
  rw [add_eq]
  have b1 : (q.num * r.den).natAbs < 2 ^ (n + m) := by
    rw [Int.natAbs_mul, Nat.pow_add]
    exact Nat.mul_lt_mul'' h1.1 h2.2
  have b2 : (r.num * q.den).natAbs < 2 ^ (n + m) := by
    rw [Int.natAbs_mul, Nat.add_comm, Nat.pow_add]
    exact Nat.mul_lt_mul'' h2.1 h1.2
  refine sz_divInt (Int.mul_ne_zero (den_ne q) (den_ne r)) ?_ ?_
  · exact Nat.lt_of_le_of_lt (Int.natAbs_add_le _ _) (two_lt b1 b2)
  · rw [Int.natAbs_mul]
    have h3 : q.den * r.den < 2 ^ (n + m) := by
      rw [Nat.pow_add]
      exact Nat.mul_lt_mul'' h1.2 h2.2
    exact Nat.lt_of_lt_of_le h3 (Nat.pow_le_pow_right (by decide) (by omega))
theorem sz_mul {n m : Nat} {q r : Rat} (h1 : Sz n q) (h2 : Sz m r) : Sz (n + m) (q * r) := by
  rw [mul_eq]
  refine sz_divInt (Int.mul_ne_zero (den_ne q) (den_ne r)) ?_ ?_
  · rw [Int.natAbs_mul, Nat.pow_add]
    exact Nat.mul_lt_mul'' h1.1 h2.1
  · rw [Int.natAbs_mul, Nat.pow_add]
    exact Nat.mul_lt_mul'' h1.2 h2.2
theorem sz_inv {n : Nat} {r : Rat} (h : Sz n r) (h0 : r ≠ 0) : Sz n r⁻¹ := by
  rw [Rat.inv_def]
  exact sz_divInt (fun e => h0 (Rat.num_eq_zero.mp e)) h.2 h.1
theorem sz_div {n m : Nat} {q r : Rat} (h1 : Sz n q) (h2 : Sz m r) (h0 : r ≠ 0) : Sz (n + m) (q / r) := by
  rw [Rat.div_def]
  exact sz_mul h1 (sz_inv h2 h0)
/-! ### walls -/
theorem two_in {l : List Nat} {a b : Nat} (ha : a ∈ l) (hb : b ∈ l) (h : a ≠ b) : 2 ≤ l.length := by
  match l, ha, hb with
  | [x], ha, hb =>
    have h1 := List.mem_singleton.mp ha
    have h2 := List.mem_singleton.mp hb
    omega
  | _ :: _ :: _, _, _ => simp
theorem one_in {l : List Nat} {a : Nat} (ha : a ∈ l) : 1 ≤ l.length := by
  match l, ha with
  | _ :: _, _ => simp
end HopR

set_option Elab.async false
set_option linter.all false
set_option maxRecDepth 100000
set_option exponentiation.threshold 200000
namespace Hop
open PySem L2 HopR
open C8 (InsC call_isC)
def top (i : Nat) : Stmt := PySem.Challenge.pw_hopline_k02_parts_reckoned.main.body.getD i (.Pass ⟨0, 0, 0, 0⟩)
abbrev sIsWhole : Stmt := top 8
abbrev sDivisor : Stmt := top 10
abbrev sPower : Stmt := top 11
abbrev sInit : Stmt := inClass (top 13) 0
abbrev sPlus : Stmt := inClass (top 13) 1
abbrev sLess : Stmt := inClass (top 13) 2
abbrev sTimes : Stmt := inClass (top 13) 3
abbrev sOver : Stmt := inClass (top 13) 4
abbrev sRaised : Stmt := inClass (top 13) 5
abbrev sBelow : Stmt := inClass (top 13) 6
abbrev sLowest : Stmt := top 14
/-! ### a Part -/
theorem tb_ : ¬ (("top" : Str) = "bottom") := by decide +kernel
def pf (q : Rat) : List (Str × V) := putF "bottom" (.int (q.den : Int)) (putF "top" (.int q.num) [])
theorem pf_top (q : Rat) : (pf q).lookup ("top" : Str) = some (.int q.num) := by
  unfold pf
  rw [lookup_putF, if_neg tb_, lookup_putF, if_pos rfl]
theorem pf_bottom (q : Rat) : (pf q).lookup ("bottom" : Str) = some (.int (q.den : Int)) := by
  unfold pf
  rw [lookup_putF, if_pos rfl]
theorem pf_no (q : Rat) {m : Str} (h1 : ¬ m = "bottom") (h2 : ¬ m = "top") : (pf q).lookup m = none := by
  unfold pf
  rw [lookup_putF, if_neg h1, lookup_putF, if_neg h2]
  rfl
/-- at a a Part of q -/
def PA (C : Addr) (H : Hp) (a : Addr) (q : Rat) : Prop := ∃ dx, H a = some (.ins C dx (pf q))
theorem PA.same {C : Addr} {H H' : Hp} {a : Addr} {q : Rat} (s : Same H H') (h : PA C H a q) : PA C H' a q := let ⟨dx, e⟩ := h; ⟨dx, s _ _ e⟩
/-- what is known of the class and of the built-ins -/
structure TxtP (K : PySem.W.Frag) (mg : Str → Option Value) (C : Addr) : Prop where
  len : mg "len" = none
  range : mg "range" = none
  abs : mg "abs" = none
  isi : mg "isinstance" = none
  int : mg "int" = none
  bool : mg "bool" = none
  ins : InsC K C
  nT : NoAttr K C "top"
  nB : NoAttr K C "bottom"
  mgC : mg "Part" = some (.ref C)
section
variable {P : Program} {w : World} {K : PySem.W.Frag} {mg : Str → Option Value} {base : Heap} {C : Addr}
def spWhole : Sp := fun vs H Q _ => ∃ i : Int, vs = [.int i] ∧ Q (.bl true) H
theorem scWhole : FnScope ["thing"] ["thing"] (defScope sIsWhole) := ⟨rfl, rfl, rfl, by decide +kernel, rfl, by decide +kernel, by decide +kernel⟩
theorem ok_whole {f : Addr} {fd : FuncData} {k : Nat} (F : Fun K "is_whole" "is_whole" sIsWhole f fd) (T : TxtP K mg C) : FnOk P w K mg base CX0 (k + 1) f fd ["thing"] spWhole := by
  refine F.ok scWhole (fun vs H Q E h => ?_) (fun cdv A outer s H vs Q E hr h => ?_)
  · obtain ⟨i, rfl, _⟩ := h
    rfl
  · obtain ⟨i, rfl, q⟩ := h
    refine ⟨_, pss_one (ps_ret (pe_and (pe_callB call_isi (by rfl) T.isi (by decide +kernel) (pa_cons (pv 0) (pa_cons (pe_bltn (v := .ty "int") (by rfl) T.int (by decide +kernel) rfl) pa_nil)))
      (pe_one (pe_not (pe_callB call_isi (by rfl) T.isi (by decide +kernel) (pa_cons (pv 0) (pa_cons (pe_bltn (v := .ty "bool") (by rfl) T.bool (by decide +kernel) rfl) pa_nil))))))), ?_⟩
    refine ⟨.int i, rfl, .int i, .ty "int", .type "int", .type "int", true, rfl, .ty _, .base (.int _), kit_ty (by decide +kernel), true, rfl, ?_⟩
    exact ⟨.int i, rfl, .int i, .ty "bool", .type "int", .type "bool", false, rfl, .ty _, .base (.int _), kit_ty (by decide +kernel), false, rfl, q⟩
def spDivisor : Sp := fun vs H Q _ => ∃ a b : Int, vs = [.int a, .int b] ∧ Q (.int (Int.gcd a b : Int)) H
theorem scDivisor : FnScope ["one", "other"] ["one", "other"] (defScope sDivisor) := ⟨rfl, rfl, rfl, by decide +kernel, rfl, by decide +kernel, by decide +kernel⟩
theorem ok_divisor {f : Addr} {fd : FuncData} {k : Nat} (F : Fun K "common_divisor" "common_divisor" sDivisor f fd) (T : TxtP K mg C) : FnOk P w K mg base CX0 (k + 1) f fd ["one", "other"] spDivisor := by
  refine F.ok scDivisor (fun vs H Q E h => ?_) (fun cdv A outer s H vs Q E hr h => ?_)
  · obtain ⟨a, b, rfl, _⟩ := h
    rfl
  · obtain ⟨a, b, rfl, q⟩ := h
    have nd := scDivisor.nd
    refine ⟨_, pss_cons (ps_while PassesOwn.never (pt_cmpR op_ne (pv 1) pe_int (nomark _)) (pss_one (ps_par (by rfl) nd (i := 0) (j := 1) rfl rfl (by decide) rfl rfl (pa_cons (pv 1) (pa_cons (pe_op op_modN (pv 0) (pv 1)) pa_nil)) (by rfl))))
      (pss_one (ps_ret (pe_callB call_abs (by rfl) T.abs (by decide +kernel) (pa_cons (pv 0) pa_nil)))), ?_⟩
    refine while_by (fun σ H1 => ∃ x y : Int, σ = [some (.int x), some (.int y)] ∧ Int.gcd x y = Int.gcd a b ∧ H1 = H) (fun σ _ => match σ with | [_, some (.int y)] => y.natAbs | _ => 0) ⟨a, b, rfl, rfl, rfl⟩ ?_ ?_
    · rintro σ H1 ⟨x, y, rfl, e, rfl⟩
      refine ⟨.int y, rfl, rfl, _, rfl, ?_⟩
      by_cases hy : y = 0
      · subst hy
        refine iteNS rfl ⟨.int x, rfl, x, rfl, ?_⟩
        have e2 : (if x < 0 then -x else x) = (Int.gcd a b : Int) := by
          rw [← e, Int.gcd_zero_right]
          split <;> omega
        show Q (.int (if x < 0 then -x else x)) H1
        rw [e2]
        exact q
      · rw [decide_eq_false (fun z => hy (V.int.inj z))]
        refine iteT ⟨.int y, rfl, .int x, rfl, .int y, rfl, x, y, rfl, rfl, hy, _, _, rfl, ⟨y, x.fmod y, rfl, (gcd_fmod x y).trans e, rfl⟩, fmod_less x hy⟩
    · rintro σ H1 Q1 Q2 hm h
      obtain ⟨v, e1, e2, k2, e3, h⟩ := h
      exact ⟨v, e1, e2, k2, e3, hm _ _ h⟩
/-! ### Part.__init__ -/
theorem scInit : FnScope ["self", "top", "bottom", "divisor"] ["self", "top", "bottom"] (defScope sInit) := ⟨rfl, rfl, rfl, by decide +kernel, rfl, by decide +kernel, by decide +kernel⟩
def spInit (C : Addr) : Sp := fun vs H Q _ => ∃ (p dx : Addr) (t b : Int), vs = [.ref p, .int t, .int b] ∧ b ≠ 0 ∧ b.natAbs < 2 ^ 8000 ∧ H p = some (.ins C dx []) ∧ Q .non (upd H p (.ins C dx (pf (Rat.divInt t b))))
theorem ok_init {f f1 f2 : Addr} {fd fd1 fd2 : FuncData} {k : Nat} (F : FunD K "__init__" "Part.__init__" (defArgs sInit) (defBody sInit) (defScope sInit) [.int 1] [] f fd) (N1 : Fn K mg "is_whole" sIsWhole ["thing"] f1 fd1) (N2 : Fn K mg "common_divisor" sDivisor ["one", "other"] f2 fd2) (T : TxtP K mg C) :
    FnOk P w K mg base CX0 (k + 2) f fd ["self", "top", "bottom"] (spInit C) := by
  have G1 : FnOk P w K mg base CX0 (k + 1) f1 fd1 ["thing"] spWhole := ok_whole N1.F T
  have G2 : FnOk P w K mg base CX0 (k + 1) f2 fd2 ["one", "other"] spDivisor := ok_divisor N2.F T
  refine F.ok scInit (fun vs H Q E h => ?_) (fun cdv A outer s H vs Q E hr h => ?_)
  · obtain ⟨p, dx, t, b, rfl, _⟩ := h
    rfl
  · obtain ⟨p, dx, t, b, rfl, hb, hb2, hp, q⟩ := h
    have nd := scInit.nd
    refine ⟨_, PSs.nox (pss_cons (ps_if (pt_not (pt_val (pe_call G1 hr (by rfl) N1.g N1.F.kp N1.b .nil pass0 (pa_cons (pv 1) pa_nil)))) (pss_one ps_never) pss_nil)
      (pss_cons (ps_if (pt_not (pt_val (pe_call G1 hr (by rfl) N1.g N1.F.kp N1.b .nil pass0 (pa_cons (pv 2) pa_nil)))) (pss_one ps_never) pss_nil)
      (pss_cons (ps_if (pt_cmpR op_eq (pv 2) pe_int (nomark _)) (pss_one ps_never) pss_nil)
      (pss_cons (ps_set (i := 3) nd rfl (.inl rfl) (pe_call G2 hr (by rfl) N2.g N2.F.kp N2.b .nil pass0 (pa_cons (pv 1) (pa_cons (pv 2) pa_nil))))
      (pss_cons (ps_if (pt_cmpR op_lt (pv 2) pe_int (nomark _)) (pss_one (ps_set (i := 3) nd rfl (.inl rfl) (pe_un un_neg (pv 3)))) pss_nil)
      (pss_cons (ps_fld (pv 0) (pe_op op_fdivWN (pv 1) (pv 3)) rfl)
      (pss_one (ps_fld (pv 0) (pe_op op_fdivWN (pv 2) (pv 3)) rfl)))))))), ?_⟩
    refine ⟨.int t, rfl, t, rfl, true, rfl, iteF ⟨.int b, rfl, b, rfl, true, rfl, iteF ⟨.int b, rfl, rfl, _, rfl, ?_⟩⟩⟩
    rw [decide_eq_false (fun z => hb (V.int.inj z))]
    refine iteF ⟨.int t, rfl, .int b, rfl, t, b, rfl, ?_⟩
    have hg := gcd_pos (t := t) hb
    have hgl : (Int.gcd t b).log2 < 9000 := by
      have h1 : Int.gcd t b ≤ b.natAbs := Nat.le_of_dvd (by omega) (Int.gcd_dvd_natAbs_right ..)
      exact Nat.lt_of_lt_of_le (PySem.Flt.log2_lt_of (by decide) (Nat.lt_of_le_of_lt h1 hb2)) (by decide)
    have fin : ∀ g : Int, g = (if b < 0 then -(Int.gcd t b : Int) else (Int.gcd t b : Int)) → CDivWN t g ∧ CDivWN b g := fun g e => by
      have e2 : g.natAbs = Int.gcd t b := by
        rw [e]
        split <;> omega
      unfold CDivWN
      rw [e2]
      exact ⟨⟨by omega, hgl⟩, ⟨by omega, hgl⟩⟩
    have done : ∀ g : Int, g = (if b < 0 then -(Int.gcd t b : Int) else (Int.gcd t b : Int)) → Q .non (upd (upd H p (.ins C dx (putF "top" (.int (t.fdiv g)) []))) p (.ins C dx (putF "bottom" (.int (b.fdiv g)) (putF "top" (.int (t.fdiv g)) [])))) := fun g e => by
      rw [upd_upd, e, low_num hb, low_den hb]
      exact q
    refine ⟨.int b, rfl, _, _, rfl, rfl, _, rfl, ite2 (fun e => ?_) (fun e => ?_)⟩
    · have e : b < 0 := of_decide_eq_true e
      have eg : -(Int.gcd t b : Int) = (if b < 0 then -(Int.gcd t b : Int) else (Int.gcd t b : Int)) := (if_pos e).symm
      obtain ⟨c1, c2⟩ := fin _ eg
      refine ⟨_, rfl, _, rfl, ?_⟩
      refine ⟨.int t, rfl, _, rfl, t, _, rfl, rfl, c1, .ref p, rfl, p, C, dx, _, rfl, hp, T.ins.cl, T.nT, (by show 0 < 1000; decide), ?_⟩
      exact ⟨.int b, rfl, _, rfl, b, _, rfl, rfl, c2, .ref p, rfl, p, C, dx, _, rfl, upd_same, T.ins.cl, T.nB, (by show 1 < 1000; decide), done _ eg⟩
    · have e : ¬ b < 0 := fun z => e (decide_eq_true z)
      have eg : (Int.gcd t b : Int) = (if b < 0 then -(Int.gcd t b : Int) else (Int.gcd t b : Int)) := (if_neg e).symm
      obtain ⟨c1, c2⟩ := fin _ eg
      refine ⟨.int t, rfl, _, rfl, t, _, rfl, rfl, c1, .ref p, rfl, p, C, dx, _, rfl, hp, T.ins.cl, T.nT, (by show 0 < 1000; decide), ?_⟩
      exact ⟨.int b, rfl, _, rfl, b, _, rfl, rfl, c2, .ref p, rfl, p, C, dx, _, rfl, upd_same, T.ins.cl, T.nB, (by show 1 < 1000; decide), done _ eg⟩
/-! ### the methods -/
/-- what a Part is made with: its class, its __init__ and how that binds -/
structure Mks (K : PySem.W.Frag) (mg : Str → Option Value) (C fi f1 f2 : Addr) (gi g1 g2 : FuncData) (d1 : Value) : Prop where
  M : Mk K C fi
  F : FunD K "__init__" "Part.__init__" (defArgs sInit) (defBody sInit) (defScope sInit) [.int 1] [] fi gi
  b3 : Binds K gi ["self", "top", "bottom"] []
  b2 : Binds K gi ["self", "top", "bottom"] [d1]
  r1 : RelV (.int 1) d1
  N1 : Fn K mg "is_whole" sIsWhole ["thing"] f1 g1
  N2 : Fn K mg "common_divisor" sDivisor ["one", "other"] f2 g2
/-- a new Part, behind H -/
def New (C : Addr) (H : Hp) (q : Rat) (Q : VK) : Prop := ∀ H' p, Same H H' → H p = none → PA C H' p q → Q (.ref p) H'
theorem made {C : Addr} {H : Hp} {t b : Int} {Q : VK} {E : XK} (hb : b ≠ 0) (hz : b.natAbs < 2 ^ 8000) (h : New C H (Rat.divInt t b) Q) :
    ∀ x dx, H x = none → H dx = none → dx ≠ x → spInit C (.ref x :: ([.int t, .int b] ++ [])) (upd (upd H dx (.own x)) x (.ins C dx [])) (fun v H2 => v = .non ∧ Q (.ref x) H2) E := by
  intro x dx hx hdx ne
  refine ⟨x, dx, t, b, rfl, hb, hz, upd_same, rfl, ?_⟩
  rw [upd_upd]
  refine h _ _ (fun c o e => ?_) hx ⟨dx, upd_same⟩
  rw [upd_ne (ne_of_none e hx), upd_ne (ne_of_none e hdx)]
  exact e
theorem made1 {C : Addr} {H : Hp} {t : Int} {Q : VK} {E : XK} (h : New C H (Rat.divInt t 1) Q) :
    ∀ x dx, H x = none → H dx = none → dx ≠ x → spInit C (.ref x :: ([.int t] ++ [.int 1])) (upd (upd H dx (.own x)) x (.ins C dx [])) (fun v H2 => v = .non ∧ Q (.ref x) H2) E :=
  made (t := t) (b := 1) (by decide) (Nat.one_lt_two_pow (by decide)) h
def spOp (C : Addr) (ok : Rat → Rat → Prop) (g : Rat → Rat → Rat) : Sp := fun vs H Q _ => ∃ a b q r, vs = [.ref a, .ref b] ∧ PA C H a q ∧ PA C H b r ∧ Sz 4000 q ∧ Sz 3900 r ∧ ok q r ∧ New C H (g q r) Q
theorem den_pos (q : Rat) : 0 < q.den := Nat.pos_of_ne_zero q.den_nz
theorem sz_den {q r : Rat} (h1 : Sz 4000 q) (h2 : Sz 3900 r) : ((q.den : Int) * (r.den : Int)).natAbs < 2 ^ 8000 := by
  have h := wide_lt (i := (q.den : Int)) (j := (r.den : Int)) (a := 4000) (b := 3900) (by simpa using h1.2) (by simpa using h2.2)
  exact Nat.lt_of_lt_of_le h (Nat.pow_le_pow_right (by decide) (by decide))
theorem mulW {i j : Int} (h1 : i.natAbs < 2 ^ 4000) (h2 : j.natAbs < 2 ^ 4000) : CMulW i j := wide_mul h1 h2 (by decide) (by decide) (by decide)
theorem up39 {n : Nat} (h : n < 2 ^ 3900) : n < 2 ^ 4000 := Nat.lt_of_lt_of_le h (Nat.pow_le_pow_right (by decide) (by decide))
theorem scPlus : FnScope ["self", "other"] ["self", "other"] (defScope sPlus) := ⟨rfl, rfl, rfl, by decide +kernel, rfl, by decide +kernel, by decide +kernel⟩
theorem ok_plus {f fi f1 f2 : Addr} {fd gi g1 g2 : FuncData} {d1 : Value} {k : Nat} (F : Fun K "plus" "Part.plus" sPlus f fd) (N : Mks K mg C fi f1 f2 gi g1 g2 d1) (T : TxtP K mg C) : FnOk P w K mg base CX0 (k + 4) f fd ["self", "other"] (spOp C (fun _ _ => True) (fun q r => q + r)) := by
  have GI : FnOk P w K mg base CX0 (k + 2) fi gi ["self", "top", "bottom"] (spInit C) := ok_init N.F N.N1 N.N2 T
  refine F.ok scPlus (fun vs H Q E h => ?_) (fun cdv A outer s H vs Q E hr h => ?_)
  · obtain ⟨a, b, q, r, rfl, _⟩ := h
    rfl
  · obtain ⟨a, b, q, r, rfl, ⟨dx, ha⟩, ⟨dy, hb⟩, zq, zr, _, h⟩ := h
    refine ⟨_, pss_one (ps_ret (pe_make N.M GI hr (by rfl) T.mgC N.b3 .nil pass0 (pa_cons (pe_op op_add (pe_op op_mulW (pe_fld (pv 0) rfl) (pe_fld (pv 1) rfl)) (pe_op op_mulW (pe_fld (pv 1) rfl) (pe_fld (pv 0) rfl))) (pa_cons (pe_op op_mulW (pe_fld (pv 0) rfl) (pe_fld (pv 1) rfl)) pa_nil)))), ?_⟩
    refine ⟨.ref a, rfl, a, C, dx, _, _, rfl, ha, T.ins.cl, T.nT, pf_top q, .ref b, rfl, b, C, dy, _, _, rfl, hb, T.ins.cl, T.nB, pf_bottom r, _, _, rfl, rfl, mulW zq.1 (by simpa using up39 zr.2), ?_⟩
    refine ⟨.ref b, rfl, b, C, dy, _, _, rfl, hb, T.ins.cl, T.nT, pf_top r, .ref a, rfl, a, C, dx, _, _, rfl, ha, T.ins.cl, T.nB, pf_bottom q, _, _, rfl, rfl, mulW (up39 zr.1) (by simpa using zq.2), _, _, rfl, rfl, ?_⟩
    refine ⟨.ref a, rfl, a, C, dx, _, _, rfl, ha, T.ins.cl, T.nB, pf_bottom q, .ref b, rfl, b, C, dy, _, _, rfl, hb, T.ins.cl, T.nB, pf_bottom r, _, _, rfl, rfl, mulW (by simpa using zq.2) (by simpa using up39 zr.2), ?_⟩
    refine made (Int.mul_ne_zero (den_ne q) (den_ne r)) (sz_den zq zr) ?_
    rw [← add_eq]
    exact h
/-! ### lowest, times, over -/
theorem mk_facts {H : Hp} {x dx : Addr} {q : Rat} (hx : H x = none) (hdx : H dx = none) : Same H (upd (upd H dx (.own x)) x (.ins C dx (pf q))) ∧ PA C (upd (upd H dx (.own x)) x (.ins C dx (pf q))) x q := by
  refine ⟨fun c o e => ?_, dx, upd_same⟩
  rw [upd_ne (ne_of_none e hx), upd_ne (ne_of_none e hdx)]
  exact e
/-! ### _law_together -/
theorem pf_set (q r : Rat) : putF "bottom" (.int (q.den : Int)) (putF "top" (.int q.num) (pf r)) = pf q := by
  unfold pf
  simp [putF, tb_]
theorem few_pf (q : Rat) : (pf q).length < 1000 := by
  unfold pf
  simp [putF, tb_]
theorem few_pf1 (q : Rat) (x : V) : (putF "top" x (pf q)).length < 1000 := by
  unfold pf
  simp [putF, tb_]
theorem scLowest : FnScope ["top", "bottom", "result"] ["top", "bottom"] (defScope sLowest) := ⟨rfl, rfl, rfl, by decide +kernel, rfl, by decide +kernel, by decide +kernel⟩
def spLowest (C : Addr) : Sp := fun vs H Q _ => ∃ q : Rat, vs = [.int q.num, .int (q.den : Int)] ∧ New C H q Q
theorem ok_lowest {f fi f1 f2 : Addr} {fd gi g1 g2 : FuncData} {d1 : Value} {k : Nat} (F : Fun K "lowest" "lowest" sLowest f fd) (N : Mks K mg C fi f1 f2 gi g1 g2 d1) (T : TxtP K mg C) : FnOk P w K mg base CX0 (k + 4) f fd ["top", "bottom"] (spLowest C) := by
  have GI : FnOk P w K mg base CX0 (k + 2) fi gi ["self", "top", "bottom"] (spInit C) := ok_init N.F N.N1 N.N2 T
  refine F.ok scLowest (fun vs H Q E h => ?_) (fun cdv A outer s H vs Q E hr h => ?_)
  · obtain ⟨q, rfl, _⟩ := h
    rfl
  · obtain ⟨q, rfl, h⟩ := h
    have nd := scLowest.nd
    refine ⟨_, pss_cons (ps_set (i := 2) nd rfl (.inl rfl) (pe_make N.M GI hr (by rfl) T.mgC N.b2 (.cons N.r1 .nil) pass0 (pa_cons pe_int pa_nil)))
      (pss_cons (ps_fld (pv 2) (pv 0) rfl) (pss_cons (ps_fld (pv 2) (pv 1) rfl) (pss_one (ps_ret (pv 2))))), ?_⟩
    intro p dx np hdx ne
    refine ⟨p, dx, 1, 1, rfl, by decide, Nat.one_lt_two_pow (by decide), upd_same, rfl, ?_⟩
    rw [upd_upd]
    refine ⟨.int q.num, rfl, .ref p, rfl, p, C, dx, _, rfl, upd_same, T.ins.cl, T.nT, few_pf _, ?_⟩
    refine ⟨.int (q.den : Int), rfl, .ref p, rfl, p, C, dx, _, rfl, upd_same, T.ins.cl, T.nB, few_pf1 _ _, ?_⟩
    refine ⟨.ref p, rfl, ?_⟩
    rw [upd_upd, upd_upd, pf_set]
    refine h _ p (fun c o e => ?_) np ⟨dx, upd_same⟩
    rw [upd_ne (ne_of_none e np), upd_ne (ne_of_none e hdx)]
    exact e
def spMul (C : Addr) : Sp := fun vs H Q _ => ∃ a b q r, vs = [.ref a, .ref b] ∧ PA C H a q ∧ PA C H b r ∧ Sz 100000 q ∧ Sz 3900 r ∧ (r ≠ 0 ∨ Sz 8000 q) ∧ New C H (q * r) Q
theorem fdiv_le {t : Int} {g n : Nat} (h : t.natAbs < 2 ^ n) (d : (g : Int) ∣ t) : (t.fdiv (g : Int)).natAbs < 2 ^ n := by
  rw [Int.fdiv_eq_ediv_of_dvd d]
  exact Nat.lt_of_le_of_lt (Int.natAbs_ediv_le_natAbs _ _) h
theorem scTimes : FnScope ["self", "other", "first", "second"] ["self", "other"] (defScope sTimes) := ⟨rfl, rfl, rfl, by decide +kernel, rfl, by decide +kernel, by decide +kernel⟩
theorem ok_mul {f fi f1 f2 fz : Addr} {fd gi g1 g2 gz : FuncData} {d1 : Value} {k : Nat} (F : Fun K "times" "Part.times" sTimes f fd) (N : Mks K mg C fi f1 f2 gi g1 g2 d1) (Nz : Fn K mg "lowest" sLowest ["top", "bottom"] fz gz) (T : TxtP K mg C) :
    FnOk P w K mg base CX0 (k + 5) f fd ["self", "other"] (spMul C) := by
  have G2 : FnOk P w K mg base CX0 (k + 4) f2 g2 ["one", "other"] spDivisor := ok_divisor N.N2.F T
  have GZ : FnOk P w K mg base CX0 (k + 4) fz gz ["top", "bottom"] (spLowest C) := ok_lowest Nz.F N T
  refine F.ok scTimes (fun vs H Q E h => ?_) (fun cdv A outer s H vs Q E hr h => ?_)
  · obtain ⟨a, b, q, r, rfl, _⟩ := h
    rfl
  · obtain ⟨a, b, q, r, rfl, ⟨dx, ha⟩, ⟨dy, hb⟩, zq, zr, hs, h⟩ := h
    have nd := scTimes.nd
    refine ⟨_, pss_cons (ps_set (i := 2) nd rfl (.inl rfl) (pe_call G2 hr (by rfl) N.N2.g N.N2.F.kp N.N2.b .nil pass0 (pa_cons (pe_fld (pv 0) rfl) (pa_cons (pe_fld (pv 1) rfl) pa_nil))))
      (pss_cons (ps_set (i := 3) nd rfl (.inl rfl) (pe_call G2 hr (by rfl) N.N2.g N.N2.F.kp N.N2.b .nil pass0 (pa_cons (pe_fld (pv 1) rfl) (pa_cons (pe_fld (pv 0) rfl) pa_nil))))
      (pss_one (ps_ret (pe_call GZ hr (by rfl) Nz.g Nz.F.kp Nz.b .nil pass0 (pa_cons (pe_op op_mulW (pe_op op_fdivWN (pe_fld (pv 0) rfl) (pv 2)) (pe_op op_fdivWN (pe_fld (pv 1) rfl) (pv 3)))
        (pa_cons (pe_op op_mulW (pe_op op_fdivWN (pe_fld (pv 0) rfl) (pv 3)) (pe_op op_fdivWN (pe_fld (pv 1) rfl) (pv 2))) pa_nil)))))), ?_⟩
    have p1 := gcd_pos (t := q.num) (den_ne r)
    have p2 := gcd_pos (t := r.num) (den_ne q)
    have l1 : (Int.gcd q.num (r.den : Int)).log2 < 9000 := by
      have h1 : Int.gcd q.num (r.den : Int) ≤ r.den := Nat.le_of_dvd (Nat.pos_of_ne_zero r.den_nz) (Int.gcd_dvd_natAbs_right ..)
      exact Nat.lt_of_lt_of_le (PySem.Flt.log2_lt_of (by decide) (Nat.lt_of_le_of_lt h1 zr.2)) (by decide)
    have l2 : (Int.gcd r.num (q.den : Int)).log2 < 9000 := by
      rcases hs with h0 | h0
      · have h1 : Int.gcd r.num (q.den : Int) ≤ r.num.natAbs := Nat.le_of_dvd (Int.natAbs_pos.mpr fun e => h0 (Rat.num_eq_zero.mp e)) (Int.gcd_dvd_natAbs_left ..)
        exact Nat.lt_of_lt_of_le (PySem.Flt.log2_lt_of (by decide) (Nat.lt_of_le_of_lt h1 zr.1)) (by decide)
      · have h1 : Int.gcd r.num (q.den : Int) ≤ q.den := Nat.le_of_dvd (Nat.pos_of_ne_zero q.den_nz) (Int.gcd_dvd_natAbs_right ..)
        exact Nat.lt_of_lt_of_le (PySem.Flt.log2_lt_of (by decide) (Nat.lt_of_le_of_lt h1 h0.2)) (by decide)
    have c1 : ∀ t : Int, CDivWN t (Int.gcd q.num (r.den : Int) : Int) := fun t => ⟨by omega, l1⟩
    have c2 : ∀ t : Int, CDivWN t (Int.gcd r.num (q.den : Int) : Int) := fun t => ⟨by omega, l2⟩
    refine ⟨.ref a, rfl, a, C, dx, _, _, rfl, ha, T.ins.cl, T.nT, pf_top q, .ref b, rfl, b, C, dy, _, _, rfl, hb, T.ins.cl, T.nB, pf_bottom r, q.num, (r.den : Int), rfl, ?_⟩
    refine ⟨.ref b, rfl, b, C, dy, _, _, rfl, hb, T.ins.cl, T.nT, pf_top r, .ref a, rfl, a, C, dx, _, _, rfl, ha, T.ins.cl, T.nB, pf_bottom q, r.num, (q.den : Int), rfl, ?_⟩
    refine ⟨.ref a, rfl, a, C, dx, _, _, rfl, ha, T.ins.cl, T.nT, pf_top q, _, rfl, _, _, rfl, rfl, c1 _, .ref b, rfl, b, C, dy, _, _, rfl, hb, T.ins.cl, T.nT, pf_top r, _, rfl, _, _, rfl, rfl, c2 _, _, _, rfl, rfl, ?_, ?_⟩
    · exact wide_mul (fdiv_le zq.1 (Int.gcd_dvd_left ..)) (fdiv_le zr.1 (Int.gcd_dvd_left ..)) (by decide) (by decide) (by decide)
    refine ⟨.ref a, rfl, a, C, dx, _, _, rfl, ha, T.ins.cl, T.nB, pf_bottom q, _, rfl, _, _, rfl, rfl, c2 _, .ref b, rfl, b, C, dy, _, _, rfl, hb, T.ins.cl, T.nB, pf_bottom r, _, rfl, _, _, rfl, rfl, c1 _, _, _, rfl, rfl, ?_, ?_⟩
    · exact wide_mul (fdiv_le (t := (q.den : Int)) zq.2 (Int.gcd_dvd_right ..)) (fdiv_le (t := (r.den : Int)) zr.2 (Int.gcd_dvd_right ..)) (by decide) (by decide) (by decide)
    refine ⟨q * r, ?_, h⟩
    show [V.int (_ * _), V.int (_ * _)] = _
    rw [mul_num, mul_den]
theorem ok_times {f fi f1 f2 fz : Addr} {fd gi g1 g2 gz : FuncData} {d1 : Value} {k : Nat} (F : Fun K "times" "Part.times" sTimes f fd) (N : Mks K mg C fi f1 f2 gi g1 g2 d1) (Nz : Fn K mg "lowest" sLowest ["top", "bottom"] fz gz) (T : TxtP K mg C) :
    FnOk P w K mg base CX0 (k + 5) f fd ["self", "other"] (spOp C (fun _ _ => True) (fun q r => q * r)) :=
  (ok_mul F N Nz T).imp fun vs H Q E ⟨a, b, q, r, e, ha, hb, zq, zr, _, h⟩ => ⟨a, b, q, r, e, ha, hb, zq.mono (by decide), zr, .inr (zq.mono (by decide)), h⟩
def spDiv (C : Addr) : Sp := fun vs H Q _ => ∃ a b q r, vs = [.ref a, .ref b] ∧ PA C H a q ∧ PA C H b r ∧ Sz 100000 q ∧ Sz 3900 r ∧ r ≠ 0 ∧ New C H (q / r) Q
theorem scOver : FnScope ["self", "other"] ["self", "other"] (defScope sOver) := ⟨rfl, rfl, rfl, by decide +kernel, rfl, by decide +kernel, by decide +kernel⟩
theorem no_times (q : Rat) : (pf q).lookup ("times" : Str) = none := pf_no q (by decide +kernel) (by decide +kernel)
theorem ok_div {f fi f1 f2 fz ft : Addr} {fd gi g1 g2 gz gt : FuncData} {d1 : Value} {k : Nat} (F : Fun K "over" "Part.over" sOver f fd) (N : Mks K mg C fi f1 f2 gi g1 g2 d1) (Nz : Fn K mg "lowest" sLowest ["top", "bottom"] fz gz) (Ft : Fun K "times" "Part.times" sTimes ft gt) (bt : Binds K gt ["self", "other"] []) (mt : Meth K C "times" ft) (T : TxtP K mg C) :
    FnOk P w K mg base CX0 (k + 6) f fd ["self", "other"] (spDiv C) := by
  have GI : FnOk P w K mg base CX0 (k + 4) fi gi ["self", "top", "bottom"] (spInit C) := ok_init N.F N.N1 N.N2 T
  have GT : FnOk P w K mg base CX0 (k + 5) ft gt ["self", "other"] (spMul C) := ok_mul Ft N Nz T
  refine F.ok scOver (fun vs H Q E h => ?_) (fun cdv A outer s H vs Q E hr h => ?_)
  · obtain ⟨a, b, q, r, rfl, _⟩ := h
    rfl
  · obtain ⟨a, b, q, r, rfl, ⟨dx, ha⟩, ⟨dy, hb⟩, zq, zr, hr0, h⟩ := h
    have hn0 : r.num ≠ 0 := fun e => hr0 (Rat.num_eq_zero.mp e)
    have up : ∀ {n : Nat}, n < 2 ^ 3900 → n < 2 ^ 8000 := fun h => Nat.lt_of_lt_of_le h (Nat.pow_le_pow_right (by decide) (by decide))
    refine ⟨_, pss_one (ps_ret (pe_meth (pv 0) T.ins.cl mt GT hr bt .nil pass0 (pa_cons (pe_make N.M GI hr (by rfl) T.mgC N.b3 .nil pass0 (pa_cons (pe_fld (pv 1) rfl) (pa_cons (pe_fld (pv 1) rfl) pa_nil))) pa_nil))), ?_⟩
    refine ⟨.ref a, rfl, a, dx, _, rfl, ha, no_times q, ?_⟩
    refine ⟨.ref b, rfl, b, C, dy, _, _, rfl, hb, T.ins.cl, T.nB, pf_bottom r, .ref b, rfl, b, C, dy, _, _, rfl, hb, T.ins.cl, T.nT, pf_top r, ?_⟩
    intro p dz np hdz ne
    refine ⟨p, dz, (r.den : Int), r.num, rfl, hn0, up zr.1, upd_same, rfl, ?_⟩
    rw [upd_upd]
    obtain ⟨s1, pa⟩ := mk_facts (C := C) (q := Rat.divInt (r.den : Int) r.num) np hdz
    generalize upd (upd H dz (.own p)) p (.ins C dz (pf (Rat.divInt (r.den : Int) r.num))) = H1 at s1 pa
    have er : Rat.divInt (r.den : Int) r.num = r⁻¹ := (Rat.inv_def r).symm
    have z1 : Sz 3900 (Rat.divInt (r.den : Int) r.num) := sz_divInt hn0 zr.2 zr.1
    rw [er] at pa z1
    refine ⟨a, p, q, r⁻¹, rfl, PA.same s1 ⟨dx, ha⟩, pa, zq, z1, .inl ?_, fun H2 p2 s2 n2 pa2 => ?_⟩
    · intro e
      refine hr0 ?_
      rw [← Rat.inv_inv r, e]
      exact Rat.inv_zero
    · refine h H2 p2 (s1.trans s2) (s1.free n2) ?_
      rw [Rat.div_def]
      exact pa2
theorem ok_over {f fi f1 f2 fz ft : Addr} {fd gi g1 g2 gz gt : FuncData} {d1 : Value} {k : Nat} (F : Fun K "over" "Part.over" sOver f fd) (N : Mks K mg C fi f1 f2 gi g1 g2 d1) (Nz : Fn K mg "lowest" sLowest ["top", "bottom"] fz gz) (Ft : Fun K "times" "Part.times" sTimes ft gt) (bt : Binds K gt ["self", "other"] []) (mt : Meth K C "times" ft) (T : TxtP K mg C) :
    FnOk P w K mg base CX0 (k + 6) f fd ["self", "other"] (spOp C (fun _ r => r ≠ 0) (fun q r => q / r)) :=
  (ok_div F N Nz Ft bt mt T).imp fun vs H Q E ⟨a, b, q, r, e, ha, hb, zq, zr, h0, h⟩ => ⟨a, b, q, r, e, ha, hb, zq.mono (by decide), zr, h0, h⟩
/-! ### less, is_below -/
theorem scLess : FnScope ["self", "other"] ["self", "other"] (defScope sLess) := ⟨rfl, rfl, rfl, by decide +kernel, rfl, by decide +kernel, by decide +kernel⟩
theorem ok_less {f fi f1 f2 : Addr} {fd gi g1 g2 : FuncData} {d1 : Value} {k : Nat} (F : Fun K "less" "Part.less" sLess f fd) (N : Mks K mg C fi f1 f2 gi g1 g2 d1) (T : TxtP K mg C) : FnOk P w K mg base CX0 (k + 4) f fd ["self", "other"] (spOp C (fun _ _ => True) (fun q r => q - r)) := by
  have GI : FnOk P w K mg base CX0 (k + 2) fi gi ["self", "top", "bottom"] (spInit C) := ok_init N.F N.N1 N.N2 T
  refine F.ok scLess (fun vs H Q E h => ?_) (fun cdv A outer s H vs Q E hr h => ?_)
  · obtain ⟨a, b, q, r, rfl, _⟩ := h
    rfl
  · obtain ⟨a, b, q, r, rfl, ⟨dx, ha⟩, ⟨dy, hb⟩, zq, zr, _, h⟩ := h
    refine ⟨_, pss_one (ps_ret (pe_make N.M GI hr (by rfl) T.mgC N.b3 .nil pass0 (pa_cons (pe_op op_sub (pe_op op_mulW (pe_fld (pv 0) rfl) (pe_fld (pv 1) rfl)) (pe_op op_mulW (pe_fld (pv 1) rfl) (pe_fld (pv 0) rfl))) (pa_cons (pe_op op_mulW (pe_fld (pv 0) rfl) (pe_fld (pv 1) rfl)) pa_nil)))), ?_⟩
    refine ⟨.ref a, rfl, a, C, dx, _, _, rfl, ha, T.ins.cl, T.nT, pf_top q, .ref b, rfl, b, C, dy, _, _, rfl, hb, T.ins.cl, T.nB, pf_bottom r, _, _, rfl, rfl, mulW zq.1 (by simpa using up39 zr.2), ?_⟩
    refine ⟨.ref b, rfl, b, C, dy, _, _, rfl, hb, T.ins.cl, T.nT, pf_top r, .ref a, rfl, a, C, dx, _, _, rfl, ha, T.ins.cl, T.nB, pf_bottom q, _, _, rfl, rfl, mulW (up39 zr.1) (by simpa using zq.2), _, _, rfl, rfl, ?_⟩
    refine ⟨.ref a, rfl, a, C, dx, _, _, rfl, ha, T.ins.cl, T.nB, pf_bottom q, .ref b, rfl, b, C, dy, _, _, rfl, hb, T.ins.cl, T.nB, pf_bottom r, _, _, rfl, rfl, mulW (by simpa using zq.2) (by simpa using up39 zr.2), ?_⟩
    refine made (Int.mul_ne_zero (den_ne q) (den_ne r)) (sz_den zq zr) ?_
    rw [← sub_eq]
    exact h
theorem scBelow : FnScope ["self", "other"] ["self", "other"] (defScope sBelow) := ⟨rfl, rfl, rfl, by decide +kernel, rfl, by decide +kernel, by decide +kernel⟩
def spBelow (C : Addr) : Sp := fun vs H Q _ => ∃ a b q r, vs = [.ref a, .ref b] ∧ PA C H a q ∧ PA C H b r ∧ Sz 4000 q ∧ Sz 3900 r ∧ Q (.bl (decide (q.num * (r.den : Int) < r.num * (q.den : Int)))) H
theorem ok_below {f : Addr} {fd : FuncData} {k : Nat} (F : Fun K "is_below" "Part.is_below" sBelow f fd) (T : TxtP K mg C) : FnOk P w K mg base CX0 (k + 1) f fd ["self", "other"] (spBelow C) := by
  refine F.ok scBelow (fun vs H Q E h => ?_) (fun cdv A outer s H vs Q E hr h => ?_)
  · obtain ⟨a, b, q, r, rfl, _⟩ := h
    rfl
  · obtain ⟨a, b, q, r, rfl, ⟨dx, ha⟩, ⟨dy, hb⟩, zq, zr, h⟩ := h
    refine ⟨_, pss_one (ps_ret (pe_cmpR op_lt (pe_op op_mulW (pe_fld (pv 0) rfl) (pe_fld (pv 1) rfl)) (pe_op op_mulW (pe_fld (pv 1) rfl) (pe_fld (pv 0) rfl)) (nomark _))), ?_⟩
    refine ⟨.ref a, rfl, a, C, dx, _, _, rfl, ha, T.ins.cl, T.nT, pf_top q, .ref b, rfl, b, C, dy, _, _, rfl, hb, T.ins.cl, T.nB, pf_bottom r, _, _, rfl, rfl, mulW zq.1 (by simpa using up39 zr.2), ?_⟩
    exact ⟨.ref b, rfl, b, C, dy, _, _, rfl, hb, T.ins.cl, T.nT, pf_top r, .ref a, rfl, a, C, dx, _, _, rfl, ha, T.ins.cl, T.nB, pf_bottom q, _, _, rfl, rfl, mulW (up39 zr.1) (by simpa using zq.2), _, _, rfl, rfl, h⟩
/-! ### power -/
theorem scPower : FnScope ["number", "many", "result", "bit"] ["number", "many"] (defScope sPower) := ⟨rfl, rfl, rfl, by decide +kernel, rfl, by decide +kernel, by decide +kernel⟩
def spPower : Sp := fun vs H Q _ => ∃ (x : Int) (n e : Nat), vs = [.int x, .int (n : Int)] ∧ n < 101 ∧ x.natAbs < 2 ^ e ∧ e * n ≤ 3000 ∧ e ≤ 3000 ∧ Q (.int (x ^ n)) H
theorem one_49 : ("1" : Str) = ⟨#[49]⟩ := by decide +kernel
theorem ok_power {f : Addr} {fd : FuncData} {k : Nat} (F : Fun K "power" "power" sPower f fd) : FnOk P w K mg base CX0 (k + 1) f fd ["number", "many"] spPower := by
  refine F.ok scPower (fun vs H Q E h => ?_) (fun cdv A outer s H vs Q E hr h => ?_)
  · obtain ⟨x, n, e, rfl, _⟩ := h
    rfl
  · obtain ⟨x, n, e, rfl, hn, hx, he, he2, q⟩ := h
    have nd := scPower.nd
    refine ⟨_, pss_cons (ps_set (i := 2) nd rfl (.inl rfl) pe_int)
      (pss_cons (ps_for PassesOwn.never rfl (pi_str (pe_joined1 (pe_fmtB (pv 1)))) (pg_name (i := 3) nd rfl (.inl rfl))
        (pss_cons (ps_aug (i := 2) nd rfl (.inl rfl) (pv 2) ip_mulW)
        (pss_one (ps_if (pt_cmpR op_eq (pv 3) pe_str (nomark _)) (pss_one (ps_aug (i := 2) nd rfl (.inl rfl) (pv 0) ip_mulW)) pss_nil))))
      (pss_one (ps_ret (pv 2)))), ?_⟩
    refine ⟨.int (n : Int), rfl, n, rfl, hn, binText n, rfl, ?_⟩
    have up : ∀ m, m ≤ n → (x ^ m).natAbs < 2 ^ 3001 := fun m hm => Nat.lt_of_lt_of_le (pow_lt hx hm) (Nat.pow_le_pow_right (by decide) (by omega))
    refine for_it (walk_str (z := binText n)) (fun i σ H3 => ∃ y3, σ = [some (.int x), some (.int (n : Int)), some (.int (x ^ (((binText n).cps.toList.take i).foldl step2 0))), y3] ∧ H3 = H) ⟨none, by rw [List.take_zero, List.foldl_nil, Int.pow_zero]; rfl, rfl⟩ (fun _ _ _ _ _ => trivial) ?_ ?_
    · rintro i v σ H3 H4 _ ⟨y3, rfl, rfl⟩ ⟨rfl, c, hc, rfl⟩
      obtain ⟨e1, e2⟩ := bin_le hn hc
      generalize ((binText n).cps.toList.take i).foldl step2 0 = m at e1 e2 ⊢
      have e3 : 2 * m ≤ n := by
        unfold step2 at e2
        omega
      refine ⟨_, rfl, _, rfl, _, _, rfl, rfl, wide_mul (up m (by omega)) (up m (by omega)) (by decide) (by decide) (by decide), ?_⟩
      have e4 : x ^ m * x ^ m = x ^ (2 * m) := by rw [← Int.pow_add, Nat.two_mul]
      rw [e4]
      refine ⟨_, rfl, rfl, _, rfl, ?_⟩
      by_cases h49 : c = 49
      · have ec : decide (V.str ⟨#[c]⟩ = V.str "1") = true := decide_eq_true (by rw [one_49, h49])
        rw [ec]
        refine iteT ⟨_, rfl, _, rfl, _, _, rfl, rfl, wide_mul (up (2 * m) e3) (by have := up 1 (by unfold step2 at e2; rw [if_pos h49] at e2; omega); rw [Int.pow_one] at this; exact this) (by decide) (by decide) (by decide), ?_⟩
        refine ⟨some (.str ⟨#[c]⟩), ?_, rfl⟩
        rw [← e1]
        unfold step2
        rw [if_pos h49, Int.pow_succ]
        rfl
      · have ec : decide (V.str ⟨#[c]⟩ = V.str "1") = false := decide_eq_false fun z => by
          rw [one_49] at z
          have z := V.str.inj z
          injection z with z
          exact h49 (by simpa using z)
        rw [ec]
        refine iteF ⟨some (.str ⟨#[c]⟩), ?_, rfl⟩
        rw [← e1]
        unfold step2
        rw [if_neg h49]
        rfl
    · rintro σ H3 ⟨y3, rfl, rfl⟩
      refine ⟨_, rfl, ?_⟩
      have : ((binText n).cps.toList.take (binText n).cps.size).foldl step2 0 = n := by
        rw [← Array.length_toList, List.take_length, bin_fold n hn]
      rw [this]
      exact q
end
end Hop

set_option Elab.async false
set_option linter.all false
set_option maxRecDepth 100000
set_option exponentiation.threshold 200000
namespace Hop
open PySem L2 HopR
open C8 (InsC call_isC)
abbrev sNeedNum : Stmt := top 9
abbrev sLRaised : Stmt := top 16
abbrev sDrawn : Stmt := top 18
abbrev sLow : Stmt := top 19
abbrev sLIs : Stmt := top 20
abbrev sFraction : Stmt := top 21
abbrev sNoQuot : Stmt := top 22
abbrev sNoPower : Stmt := top 23
abbrev sLRight : Stmt := top 24
abbrev sLaw : Stmt := top 25
structure Er (K : PySem.W.Frag) (mg : Str → Option Value) (NN BN : Addr) : Prop where
  gNN : mg "NoNumber" = some (.ref NN)
  gBN : mg "ByNought" = some (.ref BN)
  N : Xc K NN bmV "ValueError.__new__"
  B : Xc K BN bmZ "ZeroDivisionError.__new__"
  mN : PySem.W.exmOne K (.ref NN) (.ref NN) = some true
  mB : PySem.W.exmOne K (.ref BN) (.ref BN) = some true
  nn : ∃ r s, Fn K mg "need_number" sNeedNum ["thing", "least", "most"] r s
section
variable {P : Program} {w : World} {K : PySem.W.Frag} {mg : Str → Option Value} {base : Heap} {C NN BN : Addr}
def spOdd (K : PySem.W.Frag) : Sp := fun vs H Q _ => ∃ x, vs = [x] ∧ Odd K H x ∧ Q (.bl false) H
theorem ok_odd {f : Addr} {fd : FuncData} {k : Nat} (F : Fun K "is_whole" "is_whole" sIsWhole f fd) (T : TxtP K mg C) : FnOk P w K mg base CX0 (k + 1) f fd ["thing"] (spOdd K) := by
  refine F.ok scWhole (fun vs H Q E h => ?_) (fun cdv A outer s H vs Q E hr h => ?_)
  · obtain ⟨i, rfl, _⟩ := h
    rfl
  · obtain ⟨x, rfl, ⟨t, bI, ty, k1, k2⟩, q⟩ := h
    refine ⟨_, pss_one (ps_ret (pe_and (pe_callB call_isi (by rfl) T.isi (by decide +kernel) (pa_cons (pv 0) (pa_cons (pe_bltn (v := .ty "int") (by rfl) T.int (by decide +kernel) rfl) pa_nil)))
      (pe_one (pe_not (pe_callB call_isi (by rfl) T.isi (by decide +kernel) (pa_cons (pv 0) (pa_cons (pe_bltn (v := .ty "bool") (by rfl) T.bool (by decide +kernel) rfl) pa_nil))))))), ?_⟩
    refine ⟨x, rfl, x, .ty "int", t, .type "int", bI, rfl, .ty _, ty, k1, bI, rfl, ?_⟩
    cases bI with
    | false => exact q
    | true => exact ⟨x, rfl, x, .ty "bool", t, .type "bool", true, rfl, .ty _, ty, k2 rfl, true, rfl, q⟩
/-! ### Part(t, 0) -/
def spInitR (BN : Addr) : Sp := fun vs H Q E => ∃ (p : Addr) (t : Int), vs = [.ref p, .int t, .int 0] ∧ E (.ref BN) none H
theorem ok_initR {f f1 f2 : Addr} {fd fd1 fd2 : FuncData} {k : Nat} (F : FunD K "__init__" "Part.__init__" (defArgs sInit) (defBody sInit) (defScope sInit) [.int 1] [] f fd) (N1 : Fn K mg "is_whole" sIsWhole ["thing"] f1 fd1) (N2 : Fn K mg "common_divisor" sDivisor ["one", "other"] f2 fd2) (T : TxtP K mg C) (Z : Er K mg NN BN) :
    FnOk P w K mg base (L2.CX P w) (k + 2) f fd ["self", "top", "bottom"] (spInitR BN) := by
  have G1 : FnOk P w K mg base CX0 (k + 1) f1 fd1 ["thing"] spWhole := ok_whole N1.F T
  refine F.ok scInit (fun vs H Q E h => ?_) (fun cdv A outer s H vs Q E hr h => ?_)
  · obtain ⟨p, t, rfl, _⟩ := h
    rfl
  · obtain ⟨p, t, rfl, e⟩ := h
    have nd := scInit.nd
    refine ⟨_, pss_cons (ps_if (pt_not (pt_val (pe_call G1 hr (by rfl) N1.g N1.F.kp N1.b .nil pass0 (pa_cons (pv 1) pa_nil)))) (pss_one ps_never) pss_nil)
        (pss_cons (ps_if (pt_not (pt_val (pe_call G1 hr (by rfl) N1.g N1.F.kp N1.b .nil pass0 (pa_cons (pv 2) pa_nil)))) (pss_one ps_never) pss_nil)
        (pss_cons (ps_if (pt_cmpR op_eq (pv 2) pe_int (nomark _)) (pss_one (ps_raise rfl (takes_of rfl rfl rfl rfl) (pmk_own PySem.F.excBase_ZeroDivisionError Z.B.x Z.gBN Z.B.k (raises_own Z.B.be Z.B.ty) rfl))) pss_nil) (pss_cons ps_never (pss_cons ps_never (pss_cons ps_never (pss_one ps_never)))))), ?_⟩
    exact ⟨.int t, rfl, t, rfl, true, rfl, iteF ⟨.int 0, rfl, 0, rfl, true, rfl, iteF ⟨.int 0, rfl, rfl, _, rfl, e⟩⟩⟩
/-! ### over, by nought -/
def spOverR (C BN : Addr) : Sp := fun vs H Q E => ∃ a b q, vs = [.ref a, .ref b] ∧ PA C H a q ∧ PA C H b 0 ∧ ∀ H', Same H H' → E (.ref BN) none H'
theorem ok_overR {f fi f1 f2 fz ft : Addr} {fd gi g1 g2 gz gt : FuncData} {d1 : Value} {k : Nat} (F : Fun K "over" "Part.over" sOver f fd) (N : Mks K mg C fi f1 f2 gi g1 g2 d1) (Nz : Fn K mg "lowest" sLowest ["top", "bottom"] fz gz) (Ft : Fun K "times" "Part.times" sTimes ft gt) (bt : Binds K gt ["self", "other"] []) (mt : Meth K C "times" ft) (T : TxtP K mg C) (Z : Er K mg NN BN) :
    FnOk P w K mg base (L2.CX P w) (k + 6) f fd ["self", "other"] (spOverR C BN) := by
  have GR : FnOk P w K mg base (L2.CX P w) (k + 4) fi gi ["self", "top", "bottom"] (spInitR BN) := ok_initR N.F N.N1 N.N2 T Z
  have GT : FnOk P w K mg base CX0 (k + 5) ft gt ["self", "other"] (spMul C) := ok_mul Ft N Nz T
  refine F.okX scOver (fun vs H Q E h => ?_) (fun cdv A outer s H vs Q E hr h => ?_)
  · obtain ⟨a, b, q, rfl, _⟩ := h
    rfl
  · obtain ⟨a, b, q, rfl, ⟨dx, ha⟩, ⟨dy, hb⟩, h⟩ := h
    refine ⟨_, pss_one (ps_ret (pe_meth (E := E) (pv 0) T.ins.cl mt GT hr bt .nil pass0 (pa_cons (pe_make N.M GR hr (by rfl) T.mgC N.b3 .nil (passes_call (E := E) (takes_of rfl rfl rfl rfl) (fun _ _ _ _ h => h)) (pa_cons (pe_fld (pv 1) rfl) (pa_cons (pe_fld (pv 1) rfl) pa_nil))) pa_nil))), ?_⟩
    refine ⟨.ref a, rfl, a, dx, _, rfl, ha, no_times q, ?_⟩
    refine ⟨.ref b, rfl, b, C, dy, _, _, rfl, hb, T.ins.cl, T.nB, pf_bottom 0, .ref b, rfl, b, C, dy, _, _, rfl, hb, T.ins.cl, T.nT, pf_top 0, ?_⟩
    intro p dz np hdz ne
    exact ⟨p, _, rfl, h _ (same_new np (same_upd hdz))⟩
/-! ### raised -/
theorem scNeedNum : FnScope ["thing", "least", "most"] ["thing", "least", "most"] (defScope sNeedNum) := ⟨rfl, rfl, rfl, by decide +kernel, rfl, by decide +kernel, by decide +kernel⟩
def spNN (K : PySem.W.Frag) (NN : Addr) : Sp := fun vs H Q E => ∃ (x : V) (lo hi : Int), vs = [x, .int lo, .int hi] ∧ ((∃ i : Int, x = .int i ∧ lo ≤ i ∧ i ≤ hi ∧ Q .non H) ∨ (Odd K H x ∧ E (.ref NN) none H) ∨ (∃ i : Int, x = .int i ∧ (i < lo ∨ hi < i) ∧ E (.ref NN) none H))
theorem ok_neednum {f f1 : Addr} {fd g1 : FuncData} {k : Nat} (F : Fun K "need_number" "need_number" sNeedNum f fd) (N1 : Fn K mg "is_whole" sIsWhole ["thing"] f1 g1) (T : TxtP K mg C) (Z : Er K mg NN BN) :
    FnOk P w K mg base (L2.CX P w) (k + 2) f fd ["thing", "least", "most"] (spNN K NN) := by
  have G1 : FnOk P w K mg base CX0 (k + 1) f1 g1 ["thing"] spWhole := ok_whole N1.F T
  have G0 : FnOk P w K mg base CX0 (k + 1) f1 g1 ["thing"] (spOdd K) := ok_odd N1.F T
  refine F.okX scNeedNum (fun vs H Q E h => ?_) (fun cdv A outer s H vs Q E hr h => ?_)
  · obtain ⟨x, lo, hi, rfl, _⟩ := h
    rfl
  · obtain ⟨x, lo, hi, rfl, h⟩ := h
    rcases h with ⟨i, rfl, h1, h2, q⟩ | ⟨ox, e⟩ | ⟨i, rfl, hi', e⟩
    · refine ⟨_, pss_one (ps_if (PW.pt (pw_or (pt_not (pt_val (pe_call G1 hr (by rfl) N1.g N1.F.kp N1.b .nil pass0 (pa_cons (pv 0) pa_nil)))) (pw_or (pt_cmpR op_lt (pv 0) (pv 1) (nomark _)) (pw_or1 (pt_cmpR op_gt (pv 0) (pv 2) (nomark _)))))) (pss_one ps_never) pss_nil), ?_⟩
      refine ⟨.int i, rfl, i, rfl, true, rfl, iteF ⟨.int i, rfl, .int lo, rfl, _, _, rfl, rfl, _, rfl, ?_⟩⟩
      rw [decide_eq_false (show ¬ i < lo by omega)]
      refine iteF ⟨.int i, rfl, .int hi, rfl, _, _, rfl, rfl, _, rfl, ?_⟩
      rw [decide_eq_false (show ¬ i > hi by omega)]
      exact iteF q
    · refine ⟨_, pss_one (ps_if (PW.pt (pw_or (pt_not (pt_val (pe_call G0 hr (by rfl) N1.g N1.F.kp N1.b .nil pass0 (pa_cons (pv 0) pa_nil)))) (pw_or (pt_cmpR op_lt (pv 0) (pv 1) (nomark _)) (pw_or1 (pt_cmpR op_gt (pv 0) (pv 2) (nomark _))))))
        (pss_one (ps_raise rfl (takes_of rfl rfl rfl rfl) (pmk_own PySem.F.excBase_ValueError Z.N.x Z.gNN Z.N.k (raises_own Z.N.be Z.N.ty) rfl))) pss_nil), ?_⟩
      exact ⟨x, rfl, x, rfl, ox, false, rfl, iteT e⟩
    · refine ⟨_, pss_one (ps_if (PW.pt (pw_or (pt_not (pt_val (pe_call G1 hr (by rfl) N1.g N1.F.kp N1.b .nil pass0 (pa_cons (pv 0) pa_nil)))) (pw_or (pt_cmpR op_lt (pv 0) (pv 1) (nomark _)) (pw_or1 (pt_cmpR op_gt (pv 0) (pv 2) (nomark _))))))
        (pss_one (ps_raise rfl (takes_of rfl rfl rfl rfl) (pmk_own PySem.F.excBase_ValueError Z.N.x Z.gNN Z.N.k (raises_own Z.N.be Z.N.ty) rfl))) pss_nil), ?_⟩
      refine ⟨.int i, rfl, i, rfl, true, rfl, iteF ⟨.int i, rfl, .int lo, rfl, _, _, rfl, rfl, _, rfl, ?_⟩⟩
      by_cases h0 : i < lo
      · rw [decide_eq_true h0]
        exact iteT e
      · rw [decide_eq_false h0]
        refine iteF ⟨.int i, rfl, .int hi, rfl, _, _, rfl, rfl, _, rfl, ?_⟩
        rw [decide_eq_true (show i > hi by omega)]
        exact iteT e
theorem scRaised : FnScope ["self", "many"] ["self", "many"] (defScope sRaised) := ⟨rfl, rfl, rfl, by decide +kernel, rfl, by decide +kernel, by decide +kernel⟩
def spRaised (C : Addr) : Sp := fun vs H Q _ => ∃ (a : Addr) (q : Rat) (n e : Nat), vs = [.ref a, .int (n : Int)] ∧ PA C H a q ∧ n < 101 ∧ Sz e q ∧ e * n ≤ 3000 ∧ e ≤ 3000 ∧ New C H (q ^ n) Q
theorem ok_raised {f fi f1 f2 fz fp : Addr} {fd gi g1 g2 gz gp : FuncData} {d1 : Value} {k : Nat} (F : Fun K "raised" "Part.raised" sRaised f fd) (N : Mks K mg C fi f1 f2 gi g1 g2 d1) (Nz : Fn K mg "lowest" sLowest ["top", "bottom"] fz gz) (Np : Fn K mg "power" sPower ["number", "many"] fp gp) (T : TxtP K mg C) (Z : Er K mg NN BN) (hM : ∃ t, mg "MOST_RAISED" = some (.int 100 t)) :
    FnOk P w K mg base CX0 (k + 5) f fd ["self", "many"] (spRaised C) := by
  obtain ⟨f0, g0, N0⟩ := Z.nn
  have GN : FnOk P w K mg base (L2.CX P w) (k + 4) f0 g0 ["thing", "least", "most"] (spNN K NN) := ok_neednum N0.F N.N1 T Z
  have GZ : FnOk P w K mg base CX0 (k + 4) fz gz ["top", "bottom"] (spLowest C) := ok_lowest Nz.F N T
  have GP : FnOk P w K mg base CX0 (k + 4) fp gp ["number", "many"] spPower := ok_power Np.F
  refine F.ok scRaised (fun vs H Q E h => ?_) (fun cdv A outer s H vs Q E hr h => ?_)
  · obtain ⟨a, q, n, e, rfl, _⟩ := h
    rfl
  · obtain ⟨a, q, n, e, rfl, ⟨dx, ha⟩, hn, hz, he, he2, h⟩ := h
    obtain ⟨tm, gm⟩ := hM
    refine ⟨_, PSs.nox (pss_cons (ps_expr (pe_call GN hr (by rfl) N0.g N0.F.kp N0.b .nil passL (pa_cons (pv 1) (pa_cons pe_int (pa_cons (pe_glob (v := .int 100) (by rfl) gm ⟨_, rfl⟩) pa_nil)))))
      (pss_one (ps_ret (pe_call GZ hr (by rfl) Nz.g Nz.F.kp Nz.b .nil pass0 (pa_cons (pe_call GP hr (by rfl) Np.g Np.F.kp Np.b .nil pass0 (pa_cons (pe_fld (pv 0) rfl) (pa_cons (pv 1) pa_nil))) (pa_cons (pe_call GP hr (by rfl) Np.g Np.F.kp Np.b .nil pass0 (pa_cons (pe_fld (pv 0) rfl) (pa_cons (pv 1) pa_nil))) pa_nil)))))), ?_⟩
    refine ⟨.int (n : Int), rfl, .int (n : Int), 0, 100, rfl, .inl ⟨(n : Int), rfl, by omega, by omega, ?_⟩⟩
    refine ⟨.ref a, rfl, a, C, dx, _, _, rfl, ha, T.ins.cl, T.nT, pf_top q, .int (n : Int), rfl, q.num, n, e, rfl, hn, hz.1, he, he2, ?_⟩
    refine ⟨.ref a, rfl, a, C, dx, _, _, rfl, ha, T.ins.cl, T.nB, pf_bottom q, .int (n : Int), rfl, (q.den : Int), n, e, rfl, hn, hz.2, he, he2, ?_⟩
    refine ⟨q ^ n, ?_, h⟩
    show [V.int (q.num ^ n), V.int ((q.den : Int) ^ n)] = [V.int (q.num ^ n), V.int ((q.den ^ n : Nat) : Int)]
    rw [Int.natCast_pow]
def spRaisedR (K : PySem.W.Frag) (NN : Addr) : Sp := fun vs H Q E => ∃ (a : Addr) (x : V), vs = [.ref a, x] ∧ (Odd K H x ∨ ∃ i, x = .int i ∧ (i < 0 ∨ 100 < i)) ∧ E (.ref NN) none H
theorem ok_raisedR {f fi f1 f2 : Addr} {fd gi g1 g2 : FuncData} {d1 : Value} {k : Nat} (F : Fun K "raised" "Part.raised" sRaised f fd) (N : Mks K mg C fi f1 f2 gi g1 g2 d1) (T : TxtP K mg C) (Z : Er K mg NN BN) (hM : ∃ t, mg "MOST_RAISED" = some (.int 100 t)) :
    FnOk P w K mg base (L2.CX P w) (k + 5) f fd ["self", "many"] (spRaisedR K NN) := by
  obtain ⟨f0, g0, N0⟩ := Z.nn
  have GN : FnOk P w K mg base (L2.CX P w) (k + 4) f0 g0 ["thing", "least", "most"] (spNN K NN) := ok_neednum N0.F N.N1 T Z
  refine F.okX scRaised (fun vs H Q E h => ?_) (fun cdv A outer s H vs Q E hr h => ?_)
  · obtain ⟨a, x, rfl, _⟩ := h
    rfl
  · obtain ⟨a, x, rfl, h, e⟩ := h
    obtain ⟨tm, gm⟩ := hM
    refine ⟨_, pss_cons (ps_expr (pe_call GN hr (by rfl) N0.g N0.F.kp N0.b .nil (passes_call (E := E) (takes_of rfl rfl rfl rfl) (fun _ _ _ _ h => h)) (pa_cons (pv 1) (pa_cons pe_int (pa_cons (pe_glob (v := .int 100) (by rfl) gm ⟨_, rfl⟩) pa_nil))))) (pss_one ps_never), ?_⟩
    exact ⟨x, rfl, x, 0, 100, rfl, .inr (h.imp (fun o => ⟨o, e⟩) fun ⟨i, h1, h2⟩ => ⟨i, h1, h2, e⟩)⟩
/-! ### the law's own power -/
theorem scLRaised : FnScope ["_law_one", "_law_many", "_law_found", "_law_turn"] ["_law_one", "_law_many"] (defScope sLRaised) := ⟨rfl, rfl, rfl, by decide +kernel, rfl, by decide +kernel, by decide +kernel⟩
theorem ok_lraised {f : Addr} {fd : FuncData} {k : Nat} (F : Fun K "_law_raised" "_law_raised" sLRaised f fd) (T : TxtP K mg C) : FnOk P w K mg base CX0 (k + 1) f fd ["_law_one", "_law_many"] spPower := by
  refine F.ok scLRaised (fun vs H Q E h => ?_) (fun cdv A outer s H vs Q E hr h => ?_)
  · obtain ⟨x, n, e, rfl, _⟩ := h
    rfl
  · obtain ⟨x, n, e, rfl, hn, hx, he, he2, q⟩ := h
    have nd := scLRaised.nd
    refine ⟨_, pss_cons (ps_set (i := 2) nd rfl (.inl rfl) pe_int)
      (pss_cons (ps_for PassesOwn.never rfl (pi_range1 (by rfl) T.range (pa_cons (pv 1) pa_nil)) (pg_name (i := 3) nd rfl (.inl rfl))
        (pss_one (ps_set (i := 2) nd rfl (.inl rfl) (pe_op op_mulW (pv 2) (pv 0)))))
      (pss_one (ps_ret (pv 2)))), ?_⟩
    have up : ∀ m, m ≤ n → (x ^ m).natAbs < 2 ^ 3001 := fun m hm => Nat.lt_of_lt_of_le (pow_lt hx hm) (Nat.pow_le_pow_right (by decide) (by omega))
    have hx2 : x.natAbs < 2 ^ 3001 := Nat.lt_of_lt_of_le hx (Nat.pow_le_pow_right (by decide) (by omega))
    refine ⟨.int (n : Int), rfl, (n : Int), rfl, by omega, by omega, ?_⟩
    refine for_range (lo := 0) (n := n) (fun i σ H3 => ∃ y3, σ = [some (.int x), some (.int (n : Int)), some (.int (x ^ i)), y3] ∧ H3 = H) ⟨none, by rw [Int.pow_zero]; rfl, rfl⟩ ?_ ?_
    · rintro i σ H3 hi ⟨y3, rfl, rfl⟩
      refine ⟨_, rfl, _, rfl, _, _, rfl, rfl, wide_mul (up i (by omega)) hx2 (by decide) (by decide) (by decide), ?_⟩
      exact ⟨_, by rw [Int.pow_succ]; rfl, rfl⟩
    · rintro σ H3 ⟨y3, rfl, rfl⟩
      exact ⟨_, rfl, q⟩
/-! ### _law_low -/
theorem scLow : FnScope ["_law_top", "_law_bottom", "_law_one", "_law_other"] ["_law_top", "_law_bottom"] (defScope sLow) := ⟨rfl, rfl, rfl, by decide +kernel, rfl, by decide +kernel, by decide +kernel⟩
def tq (q : Rat) : List V := [.int q.num, .int (q.den : Int)]
def spLow : Sp := fun vs H Q _ => ∃ t b : Int, vs = [.int t, .int b] ∧ b ≠ 0 ∧ b.natAbs < 2 ^ 8000 ∧ ∀ H' p, Same H H' → H p = none → H' p = some (.tup (tq (Rat.divInt t b))) → Q (.ref p) H'
theorem abs_nat (x : Int) : (if x < 0 then -x else x) = (x.natAbs : Int) := by
  split <;> omega
theorem ok_low {f : Addr} {fd : FuncData} {k : Nat} (F : Fun K "_law_low" "_law_low" sLow f fd) (T : TxtP K mg C) : FnOk P w K mg base CX0 (k + 1) f fd ["_law_top", "_law_bottom"] spLow := by
  refine F.ok scLow (fun vs H Q E h => ?_) (fun cdv A outer s H vs Q E hr h => ?_)
  · obtain ⟨a, b, rfl, _⟩ := h
    rfl
  · obtain ⟨t, b, rfl, hb, hb2, q⟩ := h
    have nd := scLow.nd
    refine ⟨_, pss_cons (ps_set (i := 2) nd rfl (.inl rfl) (pe_callB call_abs (by rfl) T.abs (by decide +kernel) (pa_cons (pv 0) pa_nil)))
      (pss_cons (ps_set (i := 3) nd rfl (.inl rfl) (pe_callB call_abs (by rfl) T.abs (by decide +kernel) (pa_cons (pv 1) pa_nil)))
      (pss_cons (ps_while PassesOwn.never (pt_cmpR op_gt (pv 3) pe_int (nomark _)) (pss_one (ps_par (by rfl) nd (i := 2) (j := 3) rfl rfl (by decide) rfl rfl (pa_cons (pv 3) (pa_cons (pe_op op_modN (pv 2) (pv 3)) pa_nil)) (by rfl))))
      (pss_cons (ps_if (pt_cmpR op_lt (pv 1) pe_int (nomark _)) (pss_one (ps_set (i := 2) nd rfl (.inl rfl) (pe_op op_sub pe_int (pv 2)))) pss_nil)
      (pss_one (ps_ret (pe_tup (pa_cons (pe_op op_fdivWN (pv 0) (pv 2)) (pa_cons (pe_op op_fdivWN (pv 1) (pv 2)) pa_nil)))))))), ?_⟩
    refine ⟨.int t, rfl, t, rfl, .int b, rfl, b, rfl, ?_⟩
    rw [abs_nat, abs_nat]
    have hg := gcd_pos (t := t) hb
    have hgl : (Int.gcd t b).log2 < 9000 := by
      have h1 : Int.gcd t b ≤ b.natAbs := Nat.le_of_dvd (by omega) (Int.gcd_dvd_natAbs_right ..)
      exact Nat.lt_of_lt_of_le (PySem.Flt.log2_lt_of (by decide) (Nat.lt_of_le_of_lt h1 hb2)) (by decide)
    have fin : ∀ g : Int, g = (if b < 0 then -(Int.gcd t b : Int) else (Int.gcd t b : Int)) → CDivWN t g ∧ CDivWN b g := fun g e => by
      have e2 : g.natAbs = Int.gcd t b := by
        rw [e]
        split <;> omega
      unfold CDivWN
      rw [e2]
      exact ⟨⟨by omega, hgl⟩, ⟨by omega, hgl⟩⟩
    have done : ∀ g : Int, g = (if b < 0 then -(Int.gcd t b : Int) else (Int.gcd t b : Int)) → ∀ p, H p = none → Q (.ref p) (upd H p (.tup [.int (t.fdiv g), .int (b.fdiv g)])) := fun g e p hp => by
      rw [e, low_num hb, low_den hb]
      exact q _ _ (same_upd hp) hp upd_same
    refine while_by (fun σ H1 => ∃ x y : Nat, σ = [some (.int t), some (.int b), some (.int (x : Int)), some (.int (y : Int))] ∧ Nat.gcd x y = Int.gcd t b ∧ H1 = H) (fun σ _ => match σ with | [_, _, _, some (.int y)] => y.natAbs | _ => 0) ⟨t.natAbs, b.natAbs, rfl, rfl, rfl⟩ ?_ ?_
    · rintro σ H1 ⟨x, y, rfl, e, rfl⟩
      refine ⟨_, rfl, _, _, rfl, rfl, _, rfl, ?_⟩
      by_cases hy : y = 0
      · subst hy
        rw [Nat.gcd_zero_right] at e
        subst e
        rw [decide_eq_false (show ¬ (((0 : Nat) : Int) > 0) by decide)]
        refine iteF ⟨.int b, rfl, _, _, rfl, rfl, _, rfl, ite2 (fun e => ?_) (fun e => ?_)⟩
        · have e : b < 0 := of_decide_eq_true e
          have eg : (0 : Int) - (Int.gcd t b : Int) = (if b < 0 then -(Int.gcd t b : Int) else (Int.gcd t b : Int)) := by
            rw [if_pos e]
            omega
          obtain ⟨c1, c2⟩ := fin _ eg
          exact ⟨_, rfl, _, _, rfl, rfl, .int t, rfl, _, rfl, t, _, rfl, rfl, c1, .int b, rfl, _, rfl, b, _, rfl, rfl, c2, (by show 2 ≤ sizeLine; decide), fun p hp => done _ eg p hp⟩
        · have e : ¬ b < 0 := fun z => e (decide_eq_true z)
          have eg : (Int.gcd t b : Int) = (if b < 0 then -(Int.gcd t b : Int) else (Int.gcd t b : Int)) := (if_neg e).symm
          obtain ⟨c1, c2⟩ := fin _ eg
          exact ⟨.int t, rfl, _, rfl, t, _, rfl, rfl, c1, .int b, rfl, _, rfl, b, _, rfl, rfl, c2, (by show 2 ≤ sizeLine; decide), fun p hp => done _ eg p hp⟩
      · have hyi : (y : Int) ≠ 0 := by omega
        have em : ((x : Int).fmod (y : Int)) = ((x % y : Nat) : Int) := by
          rw [Int.fmod_eq_emod_of_nonneg _ (by omega)]
          exact (Int.natCast_emod x y).symm
        rw [decide_eq_true (show (y : Int) > 0 by omega)]
        refine iteT ⟨_, rfl, _, rfl, _, rfl, _, _, rfl, rfl, hyi, _, _, rfl, ⟨y, x % y, (by show [some (V.int t), some (V.int b), some (V.int (y : Int)), some (V.int ((x : Int).fmod (y : Int)))] = _; rw [em]), ?_, rfl⟩, ?_⟩
        · rw [← e, Nat.gcd_comm y, ← Nat.gcd_rec, Nat.gcd_comm]
        · exact fmod_less (x : Int) hyi
    · rintro σ H1 Q1 Q2 hm h
      obtain ⟨v, e1, i1, j1, e2, e3, k2, e4, h⟩ := h
      exact ⟨v, e1, i1, j1, e2, e3, k2, e4, hm _ _ h⟩
/-! ### _law_is -/
theorem scLIs : FnScope ["_law_found", "_law_due"] ["_law_found", "_law_due"] (defScope sLIs) := ⟨rfl, rfl, rfl, by decide +kernel, rfl, by decide +kernel, by decide +kernel⟩
def spLIs (K : PySem.W.Frag) (C : Addr) : Sp := fun vs H Q _ => ∃ (a dt : Addr) (t b : Int), vs = [.ref a, .ref dt] ∧ PA C H a (Rat.divInt t b) ∧ H dt = some (.tup [.int t, .int b]) ∧ b ≠ 0 ∧ b.natAbs < 2 ^ 8000 ∧ ∀ H', Same H H' → Q (.bl true) H'
theorem eqv_two (i j : Int) : PyData.eqv (.tuple [.int i, .int j]) (.tuple [.int i, .int j]) = true := by
  simp [PyData.eqv, PyData.eqvAll]
theorem ok_is {f fl : Addr} {fd gl : FuncData} {k : Nat} (F : Fun K "_law_is" "_law_is" sLIs f fd) (Nl : Fn K mg "_law_low" sLow ["_law_top", "_law_bottom"] fl gl) (T : TxtP K mg C) : FnOk P w K mg base CX0 (k + 2) f fd ["_law_found", "_law_due"] (spLIs K C) := by
  have Gl : FnOk P w K mg base CX0 (k + 1) fl gl ["_law_top", "_law_bottom"] spLow := ok_low Nl.F T
  refine F.ok scLIs (fun vs H Q E h => ?_) (fun cdv A outer s H vs Q E hr h => ?_)
  · obtain ⟨a, dt, t, b, rfl, _⟩ := h
    rfl
  · obtain ⟨a, dt, t, b, rfl, ⟨dx, ha⟩, ht, hb, hz, q⟩ := h
    have hu := hu66 hr
    refine ⟨_, pss_cons (ps_if (PW.pt (pw_or (pt_not (pt_val (pe_callB (call_isC T.ins) (by rfl) T.isi (by decide +kernel) (pa_cons (pv 0) (pa_cons (pe_glob (v := .ref C) (by rfl) T.mgC rfl) pa_nil)))))
        (pw_or (pt_val (pe_callB call_isi (by rfl) T.isi (by decide +kernel) (pa_cons (pe_fld (pv 0) rfl) (pa_cons (pe_bltn (v := .ty "bool") (by rfl) T.bool (by decide +kernel) rfl) pa_nil))))
        (pw_or1 (pt_val (pe_callB call_isi (by rfl) T.isi (by decide +kernel) (pa_cons (pe_fld (pv 0) rfl) (pa_cons (pe_bltn (v := .ty "bool") (by rfl) T.bool (by decide +kernel) rfl) pa_nil)))))))) (pss_one (ps_ret pe_bl)) pss_nil)
      (pss_cons (ps_if (PW.pt (pw_or (pt_not (pt_val (pe_callB call_isi (by rfl) T.isi (by decide +kernel) (pa_cons (pe_fld (pv 0) rfl) (pa_cons (pe_bltn (v := .ty "int") (by rfl) T.int (by decide +kernel) rfl) pa_nil)))))
        (pw_or1 (pt_not (pt_val (pe_callB call_isi (by rfl) T.isi (by decide +kernel) (pa_cons (pe_fld (pv 0) rfl) (pa_cons (pe_bltn (v := .ty "int") (by rfl) T.int (by decide +kernel) rfl) pa_nil)))))))) (pss_one (ps_ret pe_bl)) pss_nil)
      (pss_one (ps_ret (pe_cmpR (op_eqD (Nat.lt_of_le_of_lt (Nat.add_le_add_left (by decide : 64 ≤ 66) _) hu)) (pe_tup (pa_cons (pe_fld (pv 0) rfl) (pa_cons (pe_fld (pv 0) rfl) pa_nil)))
        (pe_call Gl hr (by rfl) Nl.g Nl.F.kp Nl.b .nil pass0 (pa_cons (pe_ix ix_tup (pv 1) pe_int (fun _ _ => rfl)) (pa_cons (pe_ix ix_tup (pv 1) pe_int (fun _ _ => rfl)) pa_nil))) (nomark _))))), ?_⟩
    generalize hq : Rat.divInt t b = r at ha
    refine ⟨.ref a, rfl, a, dx, _, rfl, ha, true, rfl, iteF ?_⟩
    refine ⟨.ref a, rfl, a, C, dx, _, _, rfl, ha, T.ins.cl, T.nT, pf_top r, .int r.num, .ty "bool", .type "int", .type "bool", false, rfl, .ty _, .base (.int _), kit_ty (by decide +kernel), false, rfl, iteF ?_⟩
    refine ⟨.ref a, rfl, a, C, dx, _, _, rfl, ha, T.ins.cl, T.nB, pf_bottom r, .int (r.den : Int), .ty "bool", .type "int", .type "bool", false, rfl, .ty _, .base (.int _), kit_ty (by decide +kernel), false, rfl, iteF ?_⟩
    refine ⟨.ref a, rfl, a, C, dx, _, _, rfl, ha, T.ins.cl, T.nT, pf_top r, .int r.num, .ty "int", .type "int", .type "int", true, rfl, .ty _, .base (.int _), kit_ty (by decide +kernel), true, rfl, iteF ?_⟩
    refine ⟨.ref a, rfl, a, C, dx, _, _, rfl, ha, T.ins.cl, T.nB, pf_bottom r, .int (r.den : Int), .ty "int", .type "int", .type "int", true, rfl, .ty _, .base (.int _), kit_ty (by decide +kernel), true, rfl, iteF ?_⟩
    refine ⟨.ref a, rfl, a, C, dx, _, _, rfl, ha, T.ins.cl, T.nT, pf_top r, .ref a, rfl, a, C, dx, _, _, rfl, ha, T.ins.cl, T.nB, pf_bottom r, (by show 2 ≤ sizeLine; decide), fun p hp => ?_⟩
    have s1 : Same H (upd H p (.tup [.int r.num, .int (r.den : Int)])) := same_upd hp
    have ht1 : SqT K _ dt _ := SqT.of (s1 _ _ ht)
    refine ⟨.ref dt, rfl, dt, _, 0, .int t, rfl, rfl, ht1, rfl, .ref dt, rfl, dt, _, 1, .int b, rfl, rfl, ht1, rfl, t, b, rfl, hb, hz, fun H2 p2 s2 n2 e2 => ?_⟩
    rw [hq] at e2
    refine ⟨.tuple [.int r.num, .int (r.den : Int)], .tuple [.int r.num, .int (r.den : Int)], .tup (SqT.of (s2 _ _ upd_same)) (.cons (.int _) (.cons (.int _) .nil)), .tup (SqT.of e2) (.cons (.int _) (.cons (.int _) .nil)), rfl, rfl, ?_⟩
    rw [eqv_two]
    exact q _ (s1.trans s2)
end
end Hop

set_option Elab.async false
set_option linter.all false
set_option maxRecDepth 100000
set_option exponentiation.threshold 200000
namespace Hop
open PySem L2 HopR
open C8 (InsC call_isC)
/-! ### the draws -/
section
variable {P : Program} {w : World} {K : PySem.W.Frag} {mg : Str → Option Value} {base : Heap}
theorem scDrawn : FnScope ["_law_cell", "_law_sizes", "_law_found", "_law_left", "_law_k", "_law_small", "_law_one", "_law_two"] ["_law_cell", "_law_sizes"] (defScope sDrawn) := ⟨rfl, rfl, rfl, by decide +kernel, rfl, by decide +kernel, by decide +kernel⟩
theorem ok_drawn {f : Addr} {fd : FuncData} {k : Nat} (F : Fun K "_law_drawn" "_law_drawn" sDrawn f fd) (mL : mg "len" = none) (mR : mg "range" = none) : FnOk P w K mg base CX0 (k + 1) f fd ["_law_cell", "_law_sizes"] (spDrawn K) := by
  refine F.ok scDrawn (fun vs H Q E h => ?_) (fun cdv A outer s H vs Q E hr h => ?_)
  · obtain ⟨c, a, zs, rfl, _⟩ := h
    rfl
  · obtain ⟨c, a, zs, rfl, hS, hz, hlen, q⟩ := h
    have nd := scDrawn.nd
    refine ⟨_, pss_cons (ps_set (i := 2) nd rfl (.inl rfl) (pe_lst pa_nil))
      (pss_cons (ps_set (i := 3) nd rfl (.inl rfl) (pv 0))
      (pss_cons (ps_for PassesOwn.never rfl (pi_range1 (by rfl) mR (pa_cons (pe_callB call_len_seq (by rfl) mL PySem.boot_len (pa_cons (pv 1) pa_nil)) pa_nil)) (pg_name (i := 4) nd rfl (.inl rfl))
        (pss_one (ps_if (pt_cmpR op_ge (pv 3) (pe_op op_pow pe_int pe_int) (nomark _))
          (pss_cons (ps_expr (pe_bm PySem.F.plainAttrs_list PySem.F.slot_list_append PySem.F.type_list_append mt_append (pv 2) (pa_cons (pe_op op_mod (pv 3) (pe_ix ix_list (pv 1) (pv 4) (fun _ _ => rfl))) pa_nil)))
            (pss_one (ps_set (i := 3) nd rfl (.inl rfl) (pe_op op_fdivW (pv 3) (pe_ix ix_list (pv 1) (pv 4) (fun _ _ => rfl))))))
          (pss_cons (ps_set (i := 5) nd rfl (.inl rfl) (pe_op op_mod (pv 3) (pe_op op_pow pe_int pe_int)))
          (pss_cons (ps_set (i := 6) nd rfl (.inl rfl) (pe_op op_mod (pe_op op_mul (pe_op op_add (pe_op op_add (pv 5) (pe_op op_mul pe_int (pv 4))) pe_int) (pe_op op_add pe_int (pe_op op_mul (pe_op op_mul pe_int (pv 4)) (pv 4)))) pe_int))
          (pss_cons (ps_set (i := 7) nd rfl (.inl rfl) (pe_op op_mod (pe_op op_mul (pe_op op_add (pe_op op_add (pe_op op_fdiv (pv 5) pe_int) (pe_op op_mul pe_int (pv 4))) pe_int) (pe_op op_add pe_int (pe_op op_mul pe_int (pv 4)))) pe_int))
          (pss_one (ps_expr (pe_bm PySem.F.plainAttrs_list PySem.F.slot_list_append PySem.F.type_list_append mt_append (pv 2) (pa_cons (pe_op op_mod (pe_op op_add (pe_op op_mul (pv 6) (pv 7)) (pe_op op_fdiv (pv 6) pe_int)) (pe_ix ix_list (pv 1) (pv 4) (fun _ _ => rfl))) pa_nil))))))))))
      (pss_one (ps_ret (pv 2))))), ?_⟩
    -- found = []; left = cell
    refine ⟨Nat.zero_le _, fun o no => ?_⟩
    have s1 : Same H (upd H o (.lst [])) := same_upd no
    refine ⟨.int c, rfl, .ref a, rfl, a, zs.map V.int, rfl, .inl (s1.seq hS), ((zs.map V.int).length : Int), rfl, by omega, (by rw [List.length_map]; omega), ?_⟩
    refine for_range (lo := 0) (n := zs.length) (fun i σ H3 => ∃ (l : Int) (y4 y5 y6 y7 : Option V) (ds : List Int), σ = [some (.int c), some (.ref a), some (.ref o), some (.int l), y4, y5, y6, y7] ∧
        Same H H3 ∧ H3 o = some (.lst (ds.map V.int)) ∧ ds.length = i ∧ ds ++ draws l i (zs.drop i) = draws c 0 zs)
      ⟨c, none, none, none, none, [], rfl, s1, upd_same, rfl, by simp⟩ ?_ ?_ |> (fun h => by rw [List.length_map]; exact h)
    · rintro i σ H3 hi ⟨l, y4, y5, y6, y7, ds, rfl, sm, eo, el, ed⟩
      have hA : SqL K H3 a (zs.map V.int) := sm.seq hS
      have hz1 := hz zs[i] (List.getElem_mem hi)
      have gz : zs[i]? = some zs[i] := List.getElem?_eq_getElem hi
      have g : atI (zs.map V.int) (i : Int) = some (.int zs[i]) := atI_nat (by rw [List.getElem?_map, gz]; rfl)
      have hd : zs.drop i = zs[i] :: zs.drop (i + 1) := List.drop_eq_getElem_cons hi
      rw [hd] at ed
      have ed' : (ds ++ [dval l i zs[i]]) ++ draws (dleft l zs[i]) (i + 1) (zs.drop (i + 1)) = draws c 0 zs := by
        rw [List.append_assoc]
        exact ed
      have small : (ds.map V.int).length < sizeLine := by
        rw [List.length_map]
        exact small1000 (by omega)
      rw [Int.zero_add]
      refine ⟨.int l, rfl, 10, 18, rfl, rfl, ⟨by decide, by decide, by decide⟩, l, 10 ^ 18, rfl, rfl, _, rfl, ite2 (fun e => ?_) (fun e => ?_)⟩
      · have e : (1000000000000000000 : Int) ≤ l := of_decide_eq_true e
        refine ⟨.ref o, rfl, .inl ⟨rfl, _, SqL.of eo⟩, .int l, rfl, .ref a, rfl, .int (i : Int), rfl, a, _, _, _, rfl, rfl, hA, g, l, zs[i], rfl, rfl, hz1.1, o, _, _, rfl, rfl, eo, small, ?_⟩
        have e1 : dval l i zs[i] = l % zs[i] := by
          unfold dval
          rw [if_pos e]
        have e2 : dleft l zs[i] = l / zs[i] := by
          unfold dleft
          rw [if_pos e]
        have sm2 : Same H (upd H3 o (.lst (ds.map V.int ++ [.int (l % zs[i])]))) := same_new no sm
        refine ⟨.int l, rfl, .ref a, rfl, .int (i : Int), rfl, a, _, _, _, rfl, rfl, sm2.seq hS, g, l, zs[i], rfl, rfl, wide_div hz1.1 (b := 64) (by have := hz1.2; have := hz1.1; omega) (by decide) (by decide), ?_⟩
        refine ⟨_, _, _, _, _, ds ++ [dval l i zs[i]], rfl, sm2, ?_, ?_, ?_⟩
        · rw [upd_same, e1, List.map_append]
          rfl
        · rw [List.length_append, el]
          rfl
        · rw [← e2]
          exact ed'
      · have e : ¬ (1000000000000000000 : Int) ≤ l := fun z => e (decide_eq_true z)
        have e2 : dleft l zs[i] = l := by
          unfold dleft
          rw [if_neg e]
        have hi1000 : (i : Int) < 1000 := by omega
        have s0 : 0 ≤ l % 1000000000000000000 := Int.emod_nonneg _ (by decide)
        have s9 : l % 1000000000000000000 < 1000000000000000000 := Int.emod_lt_of_pos _ (by decide)
        refine ⟨.int l, rfl, 10, 18, rfl, rfl, ⟨by decide, by decide, by decide⟩, l, 10 ^ 18, rfl, rfl, (show (0 : Int) < 10 ^ 18 by decide), ?_⟩
        refine ⟨_, rfl, .int (i : Int), rfl, 7, i, rfl, rfl, .inl ⟨by decide, by decide⟩, _, _, rfl, rfl, _, _, rfl, rfl, .int (i : Int), rfl, 2, i, rfl, rfl, .inl ⟨by decide, by decide⟩, .int (i : Int), rfl, _, _, rfl, rfl, .inl ⟨by omega, by omega⟩, _, _, rfl, rfl, _, _, rfl, rfl,
          .inl ⟨by show -(2 ^ 64) < l % 1000000000000000000 + 7 * (i : Int) + 1; omega, by show l % 1000000000000000000 + 7 * (i : Int) + 1 < 2 ^ 64; omega⟩, _, _, rfl, rfl, (show (0 : Int) < 2147483647 by decide), ?_⟩
        refine ⟨_, rfl, _, _, rfl, rfl, ⟨by decide, by decide⟩, .int (i : Int), rfl, 11, i, rfl, rfl, .inl ⟨by decide, by decide⟩, _, _, rfl, rfl, _, _, rfl, rfl, .int (i : Int), rfl, 6, i, rfl, rfl, .inl ⟨by decide, by decide⟩, _, _, rfl, rfl, _, _, rfl, rfl,
          .inl ⟨by show -(2 ^ 64) < l % 1000000000000000000 / 3 + 11 * (i : Int) + 5; omega, by show l % 1000000000000000000 / 3 + 11 * (i : Int) + 5 < 2 ^ 64; omega⟩, _, _, rfl, rfl, (show (0 : Int) < 2147483629 by decide), ?_⟩
        have o0 := Int.emod_nonneg ((l % 1000000000000000000 + 7 * (i : Int) + 1) * (48271 + 2 * (i : Int) * (i : Int))) (show (2147483647 : Int) ≠ 0 by decide)
        have o9 := Int.emod_lt_of_pos ((l % 1000000000000000000 + 7 * (i : Int) + 1) * (48271 + 2 * (i : Int) * (i : Int))) (show (0 : Int) < 2147483647 by decide)
        refine ⟨.ref o, rfl, .inl ⟨rfl, _, SqL.of eo⟩, _, rfl, _, rfl, _, _, rfl, rfl, .inl ⟨Int.lt_of_lt_of_le (by decide) o0, Int.lt_trans o9 (by decide)⟩, _, rfl, _, _, rfl, rfl, ⟨by decide, by decide⟩, _, _, rfl, rfl, .ref a, rfl, .int (i : Int), rfl, a, _, _, _, rfl, rfl, hA, g, _, zs[i], rfl, rfl, hz1.1, o, _, _, rfl, rfl, eo, small, ?_⟩
        have e1 : dval l i zs[i] = ((l % 1000000000000000000 + 7 * (i : Int) + 1) * (48271 + 2 * (i : Int) * (i : Int)) % 2147483647 * ((l % 1000000000000000000 / 3 + 11 * (i : Int) + 5) * (39373 + 6 * (i : Int)) % 2147483629) + (l % 1000000000000000000 + 7 * (i : Int) + 1) * (48271 + 2 * (i : Int) * (i : Int)) % 2147483647 / 64) % zs[i] := by
          unfold dval
          rw [if_neg e]
        refine ⟨_, _, _, _, _, ds ++ [dval l i zs[i]], rfl, same_new no sm, ?_, ?_, ?_⟩
        · rw [upd_same, e1, List.map_append]
          rfl
        · rw [List.length_append, el]
          rfl
        · rw [e2] at ed'
          exact ed'
    · rintro σ H3 ⟨l, y4, y5, y6, y7, ds, rfl, sm, eo, el, ed⟩
      rw [List.drop_length] at ed
      have ed : ds = draws c 0 zs := by
        rw [← ed]
        show ds = ds ++ []
        rw [List.append_nil]
      subst ed
      exact ⟨.ref o, rfl, q H3 o sm no eo⟩

end
structure Ms (K : PySem.W.Frag) (C : Addr) (mp ml mt mo mr mb : Addr) (gp gl gt go gr gb : FuncData) : Prop where
  Fp : Fun K "plus" "Part.plus" sPlus mp gp
  bp : Binds K gp ["self", "other"] []
  mp : Meth K C "plus" mp
  Fl : Fun K "less" "Part.less" sLess ml gl
  bl : Binds K gl ["self", "other"] []
  ml : Meth K C "less" ml
  Ft : Fun K "times" "Part.times" sTimes mt gt
  bt : Binds K gt ["self", "other"] []
  mt : Meth K C "times" mt
  Fo : Fun K "over" "Part.over" sOver mo go
  bo : Binds K go ["self", "other"] []
  mo : Meth K C "over" mo
  Fr : Fun K "raised" "Part.raised" sRaised mr gr
  br : Binds K gr ["self", "many"] []
  mr : Meth K C "raised" mr
  Fb : Fun K "is_below" "Part.is_below" sBelow mb gb
  bb : Binds K gb ["self", "other"] []
  mb : Meth K C "is_below" mb
section
variable {P : Program} {w : World} {K : PySem.W.Frag} {mg : Str → Option Value} {base : Heap} {C NN BN : Addr}
theorem no_m (q : Rat) {m : Str} (h1 : ¬ m = "bottom" := by decide +kernel) (h2 : ¬ m = "top" := by decide +kernel) : (pf q).lookup m = none := pf_no q h1 h2
/-! ### _law_fraction -/
theorem scFraction : FnScope ["_law_draws", "_law_top"] ["_law_draws"] (defScope sFraction) := ⟨rfl, rfl, rfl, by decide +kernel, rfl, by decide +kernel, by decide +kernel⟩
def spFraction (K : PySem.W.Frag) : Sp := fun vs H Q _ => ∃ (a : Addr) (d0 d1 d2 d3 d4 d5 : Int), vs = [.ref a] ∧ SqL K H a [.int d0, .int d1, .int d2, .int d3, .int d4, .int d5] ∧ (0 ≤ d0 ∧ d0 < 3) ∧ (0 ≤ d1 ∧ d1 < 1000000000000) ∧ (0 ≤ d2 ∧ d2 < 1000000000000000000) ∧ (0 ≤ d3 ∧ d3 < 2) ∧ (0 ≤ d4 ∧ d4 < 1000000000000) ∧ (0 ≤ d5 ∧ d5 < 2) ∧
  ∀ H' p q, Same H H' → H p = none → H' p = some (.tup (tq q)) → Sz 100 q → Q (.ref p) H'
theorem ok_fraction {f fl : Addr} {fd gl : FuncData} {k : Nat} (F : Fun K "_law_fraction" "_law_fraction" sFraction f fd) (Nl : Fn K mg "_law_low" sLow ["_law_top", "_law_bottom"] fl gl) (T : TxtP K mg C) : FnOk P w K mg base CX0 (k + 2) f fd ["_law_draws"] (spFraction K) := by
  have Gl : FnOk P w K mg base CX0 (k + 1) fl gl ["_law_top", "_law_bottom"] spLow := ok_low Nl.F T
  refine F.ok scFraction (fun vs H Q E h => ?_) (fun cdv A outer s H vs Q E hr h => ?_)
  · obtain ⟨a, d0, d1, d2, d3, d4, d5, rfl, _⟩ := h
    rfl
  · obtain ⟨a, d0, d1, d2, d3, d4, d5, rfl, hS, h0, h1, h2, h3, h4, h5, q⟩ := h
    have nd := scFraction.nd
    refine ⟨_, pss_cons (ps_set (i := 1) nd rfl (.inl rfl) (pe_op op_mulW (pe_ix ix_list (pe_lst (pa_cons (pe_op op_mod (pe_ix ix_list (pv 0) pe_int (fun _ _ => rfl)) pe_int) (pa_cons (pe_ix ix_list (pv 0) pe_int (fun _ _ => rfl)) (pa_cons (pe_op op_add (pe_op op_mul (pe_ix ix_list (pv 0) pe_int (fun _ _ => rfl)) (pe_op op_pow pe_int pe_int)) (pe_ix ix_list (pv 0) pe_int (fun _ _ => rfl))) pa_nil)))) (pe_ix ix_list (pv 0) pe_int (fun _ _ => rfl)) (fun _ _ => rfl))
      (pe_ix ix_list (pe_lst (pa_cons pe_int (pa_cons (pe_un un_neg pe_int) pa_nil))) (pe_ix ix_list (pv 0) pe_int (fun _ _ => rfl)) (fun _ _ => rfl))))
      (pss_one (ps_ret (pe_call Gl hr (by rfl) Nl.g Nl.F.kp Nl.b .nil pass0 (pa_cons (pv 1) (pa_cons (pe_ix ix_list (pe_lst (pa_cons (pe_op op_add pe_int (pe_op op_mod (pe_ix ix_list (pv 0) pe_int (fun _ _ => rfl)) pe_int)) (pa_cons (pe_op op_add pe_int (pe_ix ix_list (pv 0) pe_int (fun _ _ => rfl))) pa_nil))) (pe_ix ix_list (pv 0) pe_int (fun _ _ => rfl)) (fun _ _ => rfl)) pa_nil))))), ?_⟩
    refine ⟨.ref a, rfl, a, _, 1, .int d1, rfl, rfl, hS, rfl, d1, 13, rfl, rfl, (show (0 : Int) < 13 by decide), .ref a, rfl, a, _, 1, .int d1, rfl, rfl, hS, rfl, ?_⟩
    refine ⟨.ref a, rfl, a, _, 1, .int d1, rfl, rfl, hS, rfl, 10, 18, rfl, rfl, ⟨by decide, by decide, by decide⟩, d1, _, rfl, rfl, .inl ⟨by omega, by omega⟩, .ref a, rfl, a, _, 2, .int d2, rfl, rfl, hS, rfl, _, _, rfl, rfl, (by show 3 ≤ sizeLine; decide), fun p hp => ?_⟩
    have s1 : Same H (upd H p (.lst [.int (d1 % 13), .int d1, .int (d1 * 10 ^ 18 + d2)])) := same_upd hp
    obtain ⟨n, hn, hnz⟩ : ∃ n : Int, atI [V.int (d1 % 13), .int d1, .int (d1 * 10 ^ 18 + d2)] d0 = some (.int n) ∧ 0 ≤ n ∧ n < 1000000000000000000000000000000 := by
      rcases (show d0 = 0 ∨ d0 = 1 ∨ d0 = 2 by omega) with rfl | rfl | rfl
      · exact ⟨_, rfl, by omega, by omega⟩
      · exact ⟨_, rfl, by omega, by omega⟩
      · exact ⟨_, rfl, by omega, by omega⟩
    refine ⟨.ref a, rfl, a, _, 0, .int d0, rfl, rfl, s1.seq hS, rfl, p, _, d0, .int n, rfl, rfl, SqL.of upd_same, hn, 1, rfl, (by show 2 ≤ sizeLine; decide), fun p2 hp2 => ?_⟩
    have s2 := same_new (o := .lst [.int 1, .int (-1)]) (s1.free hp2) s1
    obtain ⟨m, hm, hmz⟩ : ∃ m : Int, atI [V.int 1, .int (-1)] d3 = some (.int m) ∧ (m = 1 ∨ m = -1) := by
      rcases (show d3 = 0 ∨ d3 = 1 by omega) with rfl | rfl
      · exact ⟨_, rfl, .inl rfl⟩
      · exact ⟨_, rfl, .inr rfl⟩
    have zt : (n * m).natAbs < 2 ^ 100 := by
      rcases hmz with rfl | rfl <;> omega
    have zn : n.natAbs < 2 ^ 100 := by omega
    have zm : m.natAbs < 2 ^ 100 := by
      rcases hmz with rfl | rfl <;> decide
    refine ⟨.ref a, rfl, a, _, 3, .int d3, rfl, rfl, s2.seq hS, rfl, p2, _, d3, .int m, rfl, rfl, SqL.of upd_same, hm, n, m, rfl, rfl, wide_mul zn zm (by decide) (by decide) (by decide), ?_⟩
    refine ⟨.int (n * m), rfl, .ref a, rfl, a, _, 4, .int d4, rfl, rfl, s2.seq hS, rfl, d4, 12, rfl, rfl, (show (0 : Int) < 12 by decide), _, _, rfl, rfl, .ref a, rfl, a, _, 4, .int d4, rfl, rfl, s2.seq hS, rfl, _, _, rfl, rfl, (by show 2 ≤ sizeLine; decide), fun p3 hp3 => ?_⟩
    have s3 := same_new (o := .lst [.int (1 + d4 % 12), .int (1 + d4)]) (s2.free hp3) s2
    obtain ⟨b, hb, hb0⟩ : ∃ b : Int, atI [V.int (1 + d4 % 12), .int (1 + d4)] d5 = some (.int b) ∧ 0 < b ∧ b ≤ 1000000000000 := by
      rcases (show d5 = 0 ∨ d5 = 1 by omega) with rfl | rfl
      · exact ⟨_, rfl, by omega, by omega⟩
      · exact ⟨_, rfl, by omega, by omega⟩
    have zb : b.natAbs < 2 ^ 100 := by omega
    refine ⟨.ref a, rfl, a, _, 5, .int d5, rfl, rfl, s3.seq hS, rfl, p3, _, d5, .int b, rfl, rfl, SqL.of upd_same, hb, n * m, b, rfl, by omega, Nat.lt_of_lt_of_le zb (Nat.pow_le_pow_right (by decide) (by decide)), fun H4 p4 s4 n4 e4 => ?_⟩
    exact q H4 p4 _ (s3.trans s4) (s3.free n4) e4 (sz_divInt (by omega) zt zb)
/-! ### _law_no_quotient, _law_no_power -/
theorem scNoQuot : FnScope ["_law_one", "_law_other"] ["_law_one", "_law_other"] (defScope sNoQuot) := ⟨rfl, rfl, rfl, by decide +kernel, rfl, by decide +kernel, by decide +kernel⟩
def spNoQuot (C : Addr) : Sp := fun vs H Q _ => ∃ a b q, vs = [.ref a, .ref b] ∧ PA C H a q ∧ PA C H b 0 ∧ ∀ H', Same H H' → Q (.bl true) H'
theorem ok_noquot {f fi f1 f2 fz mp ml mt mo mr mb : Addr} {fd gi g1 g2 gz gp gl gt go gr gb : FuncData} {d1 : Value} {k : Nat} (F : Fun K "_law_no_quotient" "_law_no_quotient" sNoQuot f fd) (N : Mks K mg C fi f1 f2 gi g1 g2 d1) (Nz : Fn K mg "lowest" sLowest ["top", "bottom"] fz gz) (M : Ms K C mp ml mt mo mr mb gp gl gt go gr gb) (T : TxtP K mg C) (Z : Er K mg NN BN) :
    FnOk P w K mg base CX0 (k + 7) f fd ["_law_one", "_law_other"] (spNoQuot C) := by
  have GO : FnOk P w K mg base (L2.CX P w) (k + 6) mo go ["self", "other"] (spOverR C BN) := ok_overR M.Fo N Nz M.Ft M.bt M.mt T Z
  refine F.ok scNoQuot (fun vs H Q E h => ?_) (fun cdv A outer s H vs Q E hr h => ?_)
  · obtain ⟨a, b, q, rfl, _⟩ := h
    rfl
  · obtain ⟨a, b, q, rfl, ⟨dx, ha⟩, hb, h⟩ := h
    refine ⟨_, pss_cons (ps_try_only rfl rfl ⟨rfl, by decide, .inl Z.gBN⟩ takes0 (fun W pn xe tk _ => pss_some (tb := fun E1 => tDrop (tMeth C "over" (spOverR C BN) [] E1 (tVar 0) (tCons (tVar 1) tNil))) fun E1 hW => pss_one (ps_expr (pe_meth (pv 0) T.ins.cl M.mo GO hr M.bo .nil (passes_call (E := E1) tk hW) (pa_cons (pv 1) pa_nil)))) (fun a oe cls d pn _ _ => pss_one (ps_ret pe_bl))) (pss_one (ps_ret pe_bl)), ?_⟩
    refine ⟨fun cls d H1 => cls = .ref BN ∧ Q (.bl true) H1, fun cls d σ1 H1 e => ⟨true, by rw [e.1]; exact Z.mB, fun _ a1 _ => e.2, fun z => nomatch z⟩, ?_⟩
    exact ⟨.ref a, rfl, a, dx, _, rfl, ha, no_m q, .ref b, rfl, a, b, q, rfl, ⟨dx, ha⟩, hb, fun H1 s1 => ⟨rfl, h H1 s1⟩⟩
theorem scNoPower : FnScope ["_law_one", "_law_many"] ["_law_one", "_law_many"] (defScope sNoPower) := ⟨rfl, rfl, rfl, by decide +kernel, rfl, by decide +kernel, by decide +kernel⟩
def spNoPower (K : PySem.W.Frag) (C : Addr) : Sp := fun vs H Q _ => ∃ a x q, vs = [.ref a, x] ∧ PA C H a q ∧ (Odd K H x ∨ ∃ i, x = .int i ∧ (i < 0 ∨ 100 < i)) ∧ Q (.bl true) H
theorem ok_nopower {f fi f1 f2 mp ml mt mo mr mb : Addr} {fd gi g1 g2 gp gl gt go gr gb : FuncData} {d1 : Value} {k : Nat} (F : Fun K "_law_no_power" "_law_no_power" sNoPower f fd) (N : Mks K mg C fi f1 f2 gi g1 g2 d1) (M : Ms K C mp ml mt mo mr mb gp gl gt go gr gb) (T : TxtP K mg C) (Z : Er K mg NN BN) (hM : ∃ t, mg "MOST_RAISED" = some (.int 100 t)) :
    FnOk P w K mg base CX0 (k + 6) f fd ["_law_one", "_law_many"] (spNoPower K C) := by
  have GO : FnOk P w K mg base (L2.CX P w) (k + 5) mr gr ["self", "many"] (spRaisedR K NN) := ok_raisedR M.Fr N T Z hM
  refine F.ok scNoPower (fun vs H Q E h => ?_) (fun cdv A outer s H vs Q E hr h => ?_)
  · obtain ⟨a, x, q, rfl, _⟩ := h
    rfl
  · obtain ⟨a, x, q, rfl, ⟨dx, ha⟩, hx, h⟩ := h
    refine ⟨_, pss_cons (ps_try_only rfl rfl ⟨rfl, by decide, .inl Z.gNN⟩ takes0 (fun W pn xe tk _ => pss_some (tb := fun E1 => tDrop (tMeth C "raised" (spRaisedR K NN) [] E1 (tVar 0) (tCons (tVar 1) tNil))) fun E1 hW => pss_one (ps_expr (pe_meth (pv 0) T.ins.cl M.mr GO hr M.br .nil (passes_call (E := E1) tk hW) (pa_cons (pv 1) pa_nil)))) (fun a oe cls d pn _ _ => pss_one (ps_ret pe_bl))) (pss_one (ps_ret pe_bl)), ?_⟩
    refine ⟨fun cls d H1 => cls = .ref NN ∧ Q (.bl true) H1, fun cls d σ1 H1 e => ⟨true, by rw [e.1]; exact Z.mN, fun _ a1 _ => e.2, fun z => nomatch z⟩, ?_⟩
    exact ⟨.ref a, rfl, a, dx, _, rfl, ha, no_m q, x, rfl, a, x, rfl, hx, rfl, h⟩
/-! ### _law_right -/
theorem scLRight : FnScope ["_law_one", "_law_other", "_law_a", "_law_b", "_law_below"] ["_law_one", "_law_other", "_law_a", "_law_b"] (defScope sLRight) := ⟨rfl, rfl, rfl, by decide +kernel, rfl, by decide +kernel, by decide +kernel⟩
def spRight (C : Addr) : Sp := fun vs H Q _ => ∃ (o1 o2 a b : Addr) (q r : Rat), vs = [.ref o1, .ref o2, .ref a, .ref b] ∧ H o1 = some (.tup (tq q)) ∧ H o2 = some (.tup (tq r)) ∧ PA C H a q ∧ PA C H b r ∧ Sz 100 q ∧ Sz 100 r ∧ ∀ H', Same H H' → Q (.bl true) H'
theorem m100 {i j : Int} (h1 : i.natAbs < 2 ^ 100) (h2 : j.natAbs < 2 ^ 100) : CMulW i j := wide_mul h1 h2 (by decide) (by decide) (by decide)
theorem z100 {i j : Int} (h1 : i.natAbs < 2 ^ 100) (h2 : j.natAbs < 2 ^ 100) : (i * j).natAbs < 2 ^ 8000 := Nat.lt_of_lt_of_le (wide_lt h1 h2) (Nat.pow_le_pow_right (by decide) (by decide))
theorem ok_right {f fi f1 f2 fz fs fl fq mp ml mt mo mr mb : Addr} {fd gi g1 g2 gz gs gl' gq gp gl gt go gr gb : FuncData} {d1 : Value} {k : Nat} (F : Fun K "_law_right" "_law_right" sLRight f fd) (N : Mks K mg C fi f1 f2 gi g1 g2 d1) (Nz : Fn K mg "lowest" sLowest ["top", "bottom"] fz gz) (M : Ms K C mp ml mt mo mr mb gp gl gt go gr gb)
    (Nl : Fn K mg "_law_low" sLow ["_law_top", "_law_bottom"] fl gl') (Ns : Fn K mg "_law_is" sLIs ["_law_found", "_law_due"] fs gs) (Nq : Fn K mg "_law_no_quotient" sNoQuot ["_law_one", "_law_other"] fq gq) (T : TxtP K mg C) (Z : Er K mg NN BN) :
    FnOk P w K mg base CX0 (k + 8) f fd ["_law_one", "_law_other", "_law_a", "_law_b"] (spRight C) := by
  have GP : FnOk P w K mg base CX0 (k + 7) mp gp ["self", "other"] (spOp C (fun _ _ => True) (fun q r => q + r)) := ok_plus M.Fp N T
  have GL : FnOk P w K mg base CX0 (k + 7) ml gl ["self", "other"] (spOp C (fun _ _ => True) (fun q r => q - r)) := ok_less M.Fl N T
  have GT : FnOk P w K mg base CX0 (k + 7) mt gt ["self", "other"] (spOp C (fun _ _ => True) (fun q r => q * r)) := ok_times M.Ft N Nz T
  have GO : FnOk P w K mg base CX0 (k + 7) mo go ["self", "other"] (spOp C (fun _ r => r ≠ 0) (fun q r => q / r)) := ok_over M.Fo N Nz M.Ft M.bt M.mt T
  have GB : FnOk P w K mg base CX0 (k + 7) mb gb ["self", "other"] (spBelow C) := ok_below M.Fb T
  have Gs : FnOk P w K mg base CX0 (k + 7) fs gs ["_law_found", "_law_due"] (spLIs K C) := ok_is Ns.F Nl T
  have Gq : FnOk P w K mg base CX0 (k + 7) fq gq ["_law_one", "_law_other"] (spNoQuot C) := ok_noquot Nq.F N Nz M T Z
  refine F.ok scLRight (fun vs H Q E h => ?_) (fun cdv A outer s H vs Q E hr h => ?_)
  · obtain ⟨o1, o2, a, b, q, r, rfl, _⟩ := h
    rfl
  · obtain ⟨o1, o2, a, b, q, r, rfl, h1, h2, ha, hb, zq, zr, h⟩ := h
    have nd := scLRight.nd
    refine ⟨_, pss_cons (ps_if (pt_not (pt_val (pe_call Gs hr (by rfl) Ns.g Ns.F.kp Ns.b .nil pass0 (pa_cons (pe_meth (pv 2) T.ins.cl M.mp GP hr M.bp .nil pass0 (pa_cons (pv 3) pa_nil)) (pa_cons (pe_tup (pa_cons (pe_op op_add (pe_op op_mulW (pe_ix ix_tup (pv 0) pe_int (fun _ _ => rfl)) (pe_ix ix_tup (pv 1) pe_int (fun _ _ => rfl))) (pe_op op_mulW (pe_ix ix_tup (pv 1) pe_int (fun _ _ => rfl)) (pe_ix ix_tup (pv 0) pe_int (fun _ _ => rfl)))) (pa_cons (pe_op op_mulW (pe_ix ix_tup (pv 0) pe_int (fun _ _ => rfl)) (pe_ix ix_tup (pv 1) pe_int (fun _ _ => rfl))) pa_nil))) pa_nil))))) (pss_one (ps_ret pe_bl)) pss_nil)
      (pss_cons (ps_if (pt_not (pt_val (pe_call Gs hr (by rfl) Ns.g Ns.F.kp Ns.b .nil pass0 (pa_cons (pe_meth (pv 2) T.ins.cl M.ml GL hr M.bl .nil pass0 (pa_cons (pv 3) pa_nil)) (pa_cons (pe_tup (pa_cons (pe_op op_sub (pe_op op_mulW (pe_ix ix_tup (pv 0) pe_int (fun _ _ => rfl)) (pe_ix ix_tup (pv 1) pe_int (fun _ _ => rfl))) (pe_op op_mulW (pe_ix ix_tup (pv 1) pe_int (fun _ _ => rfl)) (pe_ix ix_tup (pv 0) pe_int (fun _ _ => rfl)))) (pa_cons (pe_op op_mulW (pe_ix ix_tup (pv 0) pe_int (fun _ _ => rfl)) (pe_ix ix_tup (pv 1) pe_int (fun _ _ => rfl))) pa_nil))) pa_nil))))) (pss_one (ps_ret pe_bl)) pss_nil)
      (pss_cons (ps_if (pt_not (pt_val (pe_call Gs hr (by rfl) Ns.g Ns.F.kp Ns.b .nil pass0 (pa_cons (pe_meth (pv 2) T.ins.cl M.mt GT hr M.bt .nil pass0 (pa_cons (pv 3) pa_nil)) (pa_cons (pe_tup (pa_cons (pe_op op_mulW (pe_ix ix_tup (pv 0) pe_int (fun _ _ => rfl)) (pe_ix ix_tup (pv 1) pe_int (fun _ _ => rfl))) (pa_cons (pe_op op_mulW (pe_ix ix_tup (pv 0) pe_int (fun _ _ => rfl)) (pe_ix ix_tup (pv 1) pe_int (fun _ _ => rfl))) pa_nil))) pa_nil))))) (pss_one (ps_ret pe_bl)) pss_nil)
      (pss_cons (ps_set (i := 4) nd rfl (.inl rfl) (pe_meth (pv 2) T.ins.cl M.mb GB hr M.bb .nil pass0 (pa_cons (pv 3) pa_nil)))
      (pss_cons (ps_if (PW.pt (pw_or (pt_not (pt_val (pe_callB call_isi (by rfl) T.isi (by decide +kernel) (pa_cons (pv 4) (pa_cons (pe_bltn (v := .ty "bool") (by rfl) T.bool (by decide +kernel) rfl) pa_nil))))) (pw_or1 (pt_cmpR op_ne (pv 4) (pe_cmpR op_lt (pe_op op_mulW (pe_ix ix_tup (pv 0) pe_int (fun _ _ => rfl)) (pe_ix ix_tup (pv 1) pe_int (fun _ _ => rfl))) (pe_op op_mulW (pe_ix ix_tup (pv 1) pe_int (fun _ _ => rfl)) (pe_ix ix_tup (pv 0) pe_int (fun _ _ => rfl))) (nomark _)) (nomark _))))) (pss_one (ps_ret pe_bl)) pss_nil)
      (pss_cons (ps_if (pt_cmpR op_eq (pe_ix ix_tup (pv 1) pe_int (fun _ _ => rfl)) pe_int (nomark _)) (pss_one (ps_ret (pe_call Gq hr (by rfl) Nq.g Nq.F.kp Nq.b .nil pass0 (pa_cons (pv 2) (pa_cons (pv 3) pa_nil))))) pss_nil)
      (pss_one (ps_ret (pe_call Gs hr (by rfl) Ns.g Ns.F.kp Ns.b .nil pass0 (pa_cons (pe_meth (pv 2) T.ins.cl M.mo GO hr M.bo .nil pass0 (pa_cons (pv 3) pa_nil)) (pa_cons (pe_tup (pa_cons (pe_op op_mulW (pe_ix ix_tup (pv 0) pe_int (fun _ _ => rfl)) (pe_ix ix_tup (pv 1) pe_int (fun _ _ => rfl))) (pa_cons (pe_op op_mulW (pe_ix ix_tup (pv 0) pe_int (fun _ _ => rfl)) (pe_ix ix_tup (pv 1) pe_int (fun _ _ => rfl))) pa_nil))) pa_nil)))))))))), ?_⟩
    have qd : ((q.den : Nat) : Int).natAbs < 2 ^ 100 := zq.2
    have rd : ((r.den : Nat) : Int).natAbs < 2 ^ 100 := zr.2
    have zq4 : Sz 4000 q := zq.mono (by decide)
    have zr4 : Sz 3900 r := zr.mono (by decide)
    obtain ⟨dxA, haA⟩ := ha.same (Same.refl H)
    refine ⟨.ref a, rfl, a, dxA, _, rfl, haA, no_m q, .ref b, rfl, a, b, q, r, rfl, ha.same (Same.refl H), hb.same (Same.refl H), zq4, zr4, trivial, fun HA pA sA nA paA => ?_⟩
    refine ⟨.ref o1, rfl, o1, _, 0, .int q.num, rfl, rfl, SqT.of (((Same.refl H).trans sA) _ _ h1), rfl, .ref o2, rfl, o2, _, 1, .int (r.den : Int), rfl, rfl, SqT.of (((Same.refl H).trans sA) _ _ h2), rfl, _, _, rfl, rfl, m100 zq.1 rd, .ref o2, rfl, o2, _, 0, .int r.num, rfl, rfl, SqT.of (((Same.refl H).trans sA) _ _ h2), rfl, .ref o1, rfl, o1, _, 1, .int (q.den : Int), rfl, rfl, SqT.of (((Same.refl H).trans sA) _ _ h1), rfl, _, _, rfl, rfl, m100 zr.1 qd, _, _, rfl, rfl, .ref o1, rfl, o1, _, 1, .int (q.den : Int), rfl, rfl, SqT.of (((Same.refl H).trans sA) _ _ h1), rfl, .ref o2, rfl, o2, _, 1, .int (r.den : Int), rfl, rfl, SqT.of (((Same.refl H).trans sA) _ _ h2), rfl, _, _, rfl, rfl, m100 qd rd, (by show 2 ≤ sizeLine; decide), fun tA ntA => ?_⟩
    refine ⟨pA, tA, _, _, rfl, (by rw [← add_eq q r]; exact paA.same (same_upd ntA)), upd_same, Int.mul_ne_zero (den_ne q) (den_ne r), z100 qd rd, fun KA uA => ⟨true, rfl, iteF ?_⟩⟩
    have wA : Same H KA := (((Same.refl H).trans sA).trans (same_upd ntA)).trans uA
    obtain ⟨dxB, haB⟩ := ha.same (wA)
    refine ⟨.ref a, rfl, a, dxB, _, rfl, haB, no_m q, .ref b, rfl, a, b, q, r, rfl, ha.same (wA), hb.same (wA), zq4, zr4, trivial, fun HB pB sB nB paB => ?_⟩
    refine ⟨.ref o1, rfl, o1, _, 0, .int q.num, rfl, rfl, SqT.of (((wA).trans sB) _ _ h1), rfl, .ref o2, rfl, o2, _, 1, .int (r.den : Int), rfl, rfl, SqT.of (((wA).trans sB) _ _ h2), rfl, _, _, rfl, rfl, m100 zq.1 rd, .ref o2, rfl, o2, _, 0, .int r.num, rfl, rfl, SqT.of (((wA).trans sB) _ _ h2), rfl, .ref o1, rfl, o1, _, 1, .int (q.den : Int), rfl, rfl, SqT.of (((wA).trans sB) _ _ h1), rfl, _, _, rfl, rfl, m100 zr.1 qd, _, _, rfl, rfl, .ref o1, rfl, o1, _, 1, .int (q.den : Int), rfl, rfl, SqT.of (((wA).trans sB) _ _ h1), rfl, .ref o2, rfl, o2, _, 1, .int (r.den : Int), rfl, rfl, SqT.of (((wA).trans sB) _ _ h2), rfl, _, _, rfl, rfl, m100 qd rd, (by show 2 ≤ sizeLine; decide), fun tB ntB => ?_⟩
    refine ⟨pB, tB, _, _, rfl, (by rw [← sub_eq q r]; exact paB.same (same_upd ntB)), upd_same, Int.mul_ne_zero (den_ne q) (den_ne r), z100 qd rd, fun KB uB => ⟨true, rfl, iteF ?_⟩⟩
    have wB : Same H KB := (((wA).trans sB).trans (same_upd ntB)).trans uB
    obtain ⟨dxC, haC⟩ := ha.same (wB)
    refine ⟨.ref a, rfl, a, dxC, _, rfl, haC, no_m q, .ref b, rfl, a, b, q, r, rfl, ha.same (wB), hb.same (wB), zq4, zr4, trivial, fun HC pC sC nC paC => ?_⟩
    refine ⟨.ref o1, rfl, o1, _, 0, .int q.num, rfl, rfl, SqT.of (((wB).trans sC) _ _ h1), rfl, .ref o2, rfl, o2, _, 0, .int r.num, rfl, rfl, SqT.of (((wB).trans sC) _ _ h2), rfl, _, _, rfl, rfl, m100 zq.1 zr.1, .ref o1, rfl, o1, _, 1, .int (q.den : Int), rfl, rfl, SqT.of (((wB).trans sC) _ _ h1), rfl, .ref o2, rfl, o2, _, 1, .int (r.den : Int), rfl, rfl, SqT.of (((wB).trans sC) _ _ h2), rfl, _, _, rfl, rfl, m100 qd rd, (by show 2 ≤ sizeLine; decide), fun tC ntC => ?_⟩
    refine ⟨pC, tC, _, _, rfl, (by rw [← mul_eq q r]; exact paC.same (same_upd ntC)), upd_same, Int.mul_ne_zero (den_ne q) (den_ne r), z100 qd rd, fun KC uC => ⟨true, rfl, iteF ?_⟩⟩
    have wC : Same H KC := (((wB).trans sC).trans (same_upd ntC)).trans uC
    obtain ⟨dxD, haD⟩ := ha.same wC
    refine ⟨.ref a, rfl, a, dxD, _, rfl, haD, no_m q, .ref b, rfl, a, b, q, r, rfl, ha.same wC, hb.same wC, zq4, zr4, ?_⟩
    refine ⟨_, rfl, .bl _, .ty "bool", .type "bool", .type "bool", true, rfl, .ty _, .base (.bl _), kit_ty (by decide +kernel), true, rfl, iteF ?_⟩
    refine ⟨_, rfl, .ref o1, rfl, o1, _, 0, .int q.num, rfl, rfl, SqT.of ((wC) _ _ h1), rfl, .ref o2, rfl, o2, _, 1, .int (r.den : Int), rfl, rfl, SqT.of ((wC) _ _ h2), rfl, _, _, rfl, rfl, m100 zq.1 rd, .ref o2, rfl, o2, _, 0, .int r.num, rfl, rfl, SqT.of ((wC) _ _ h2), rfl, .ref o1, rfl, o1, _, 1, .int (q.den : Int), rfl, rfl, SqT.of ((wC) _ _ h1), rfl, _, _, rfl, rfl, m100 zr.1 qd, _, _, rfl, rfl, rfl, _, rfl, ?_⟩
    rw [decide_eq_true rfl]
    refine iteF ⟨.ref o2, rfl, o2, _, 0, .int r.num, rfl, rfl, SqT.of ((wC) _ _ h2), rfl, rfl, _, rfl, ?_⟩
    by_cases h0 : r.num = 0
    · rw [decide_eq_true (show V.int r.num = V.int 0 by rw [h0])]
      have er : r = 0 := Rat.num_eq_zero.mp h0
      subst er
      exact iteT ⟨.ref a, rfl, .ref b, rfl, a, b, q, rfl, ha.same wC, hb.same wC, fun H' s' => h H' (wC.trans s')⟩
    · rw [decide_eq_false fun z => h0 (V.int.inj z)]
      refine iteF ?_
      obtain ⟨dxF, haF⟩ := ha.same (wC)
      refine ⟨.ref a, rfl, a, dxF, _, rfl, haF, no_m q, .ref b, rfl, a, b, q, r, rfl, ha.same (wC), hb.same (wC), zq4, zr4, fun e => h0 (by rw [e]; rfl), fun HF pF sF nF paF => ?_⟩
      refine ⟨.ref o1, rfl, o1, _, 0, .int q.num, rfl, rfl, SqT.of (((wC).trans sF) _ _ h1), rfl, .ref o2, rfl, o2, _, 1, .int (r.den : Int), rfl, rfl, SqT.of (((wC).trans sF) _ _ h2), rfl, _, _, rfl, rfl, m100 zq.1 rd, .ref o1, rfl, o1, _, 1, .int (q.den : Int), rfl, rfl, SqT.of (((wC).trans sF) _ _ h1), rfl, .ref o2, rfl, o2, _, 0, .int r.num, rfl, rfl, SqT.of (((wC).trans sF) _ _ h2), rfl, _, _, rfl, rfl, m100 qd zr.1, (by show 2 ≤ sizeLine; decide), fun tF ntF => ?_⟩
      refine ⟨pF, tF, _, _, rfl, (by rw [← div_eq q r]; exact paF.same (same_upd ntF)), upd_same, Int.mul_ne_zero (den_ne q) h0, z100 qd zr.1, fun KF uF => ?_⟩
      exact h _ (((wC).trans sF).trans (same_upd ntF) |>.trans uF)
end
end Hop

set_option Elab.async false
set_option linter.all false
set_option maxRecDepth 100000
set_option exponentiation.threshold 200000
namespace Hop
open PySem L2 HopR
open C8 (InsC call_isC)
section
variable {P : Program} {w : World} {K : PySem.W.Frag} {mg : Str → Option Value} {base : Heap} {C NN BN : Addr}
def sizes : List Int := [3, 1000000000000, 1000000000000000000, 2, 1000000000000, 2, 3, 1000000000000, 1000000000000000000, 2, 1000000000000, 2, 101, 8]
theorem n14 {ds : List Int} (h : ds.length = 14) : ∃ e0 e1 e2 e3 e4 e5 e6 e7 e8 e9 ea eb ec ed, ds = [e0, e1, e2, e3, e4, e5, e6, e7, e8, e9, ea, eb, ec, ed] :=
  match ds, h with
  | [e0, e1, e2, e3, e4, e5, e6, e7, e8, e9, ea, eb, ec, ed], _ => ⟨e0, e1, e2, e3, e4, e5, e6, e7, e8, e9, ea, eb, ec, ed, rfl⟩
theorem scLaw : FnScope ["_law_script", "_law_cell", "_law_draws", "_law_one", "_law_other", "_law_a", "_law_b", "_law_many"] ["_law_script"] (defScope sLaw) := ⟨rfl, rfl, rfl, by decide +kernel, rfl, by decide +kernel, by decide +kernel⟩
def spLaw (K : PySem.W.Frag) : Sp := fun vs H Q _ => ∃ (a : Addr) (ns : List Int), vs = [.ref a] ∧ SqL K H a (ns.map V.int) ∧ ns.length ≤ 63 ∧ ∀ H', Q (.bl true) H'
theorem pow_div (q : Rat) (n : Nat) : Rat.divInt (q.num ^ n) ((q.den : Int) ^ n) = q ^ n := by
  rw [← Int.natCast_pow]
  exact Rat.num_divInt_den (q ^ n)
theorem sz30 {q : Rat} (h1 : ¬ (if q.num < 0 then -q.num else q.num) > 1000000000) (h2 : ¬ (q.den : Int) > 1000000000) : Sz 30 q := by
  constructor
  · split at h1 <;> omega
  · omega
theorem odds_ok {H : Hp} {l : Addr} {i : Int} (hl : H l = some (.lst [.int 2])) (h0 : 0 ≤ i) (h8 : i < 8) : ∃ x, atI [V.int (-1), .int 101, .non, .bl true, .str "2", .ref l, .int (10 ^ (30 : Int).toNat), .int (-(10 ^ (30 : Int).toNat))] i = some x ∧ (Odd K H x ∨ ∃ j, x = .int j ∧ (j < 0 ∨ 100 < j)) := by
  rcases (show i = 0 ∨ i = 1 ∨ i = 2 ∨ i = 3 ∨ i = 4 ∨ i = 5 ∨ i = 6 ∨ i = 7 by omega) with rfl | rfl | rfl | rfl | rfl | rfl | rfl | rfl
  · exact ⟨_, rfl, .inr ⟨_, rfl, .inl (by decide)⟩⟩
  · exact ⟨_, rfl, .inr ⟨_, rfl, .inr (by decide)⟩⟩
  · exact ⟨_, rfl, .inl odd_non⟩
  · exact ⟨_, rfl, .inl odd_bl⟩
  · exact ⟨_, rfl, .inl odd_str⟩
  · exact ⟨_, rfl, .inl (odd_lst hl)⟩
  · exact ⟨_, rfl, .inr ⟨_, rfl, .inr (by decide)⟩⟩
  · exact ⟨_, rfl, .inr ⟨_, rfl, .inl (by decide)⟩⟩
structure LD (K : PySem.W.Frag) (mg : Str → Option Value) (fr fw fl fs ff fq fp fg : Addr) (gr gw gl gs gf gq gp gg : FuncData) : Prop where
  Nr : Fn K mg "_law_raised" sLRaised ["_law_one", "_law_many"] fr gr
  Nw : Fn K mg "_law_drawn" sDrawn ["_law_cell", "_law_sizes"] fw gw
  Nl : Fn K mg "_law_low" sLow ["_law_top", "_law_bottom"] fl gl
  Ns : Fn K mg "_law_is" sLIs ["_law_found", "_law_due"] fs gs
  Nf : Fn K mg "_law_fraction" sFraction ["_law_draws"] ff gf
  Nq : Fn K mg "_law_no_quotient" sNoQuot ["_law_one", "_law_other"] fq gq
  Np : Fn K mg "_law_no_power" sNoPower ["_law_one", "_law_many"] fp gp
  Ng : Fn K mg "_law_right" sLRight ["_law_one", "_law_other", "_law_a", "_law_b"] fg gg
theorem ok_law {f fi f1 f2 fz fpw mp ml mt mo mr mb fr fw fl fs ff fq fp fg : Addr} {fd gi g1 g2 gz gpw ap al at' ao ar ab gr gw gl gs gf gq gp gg : FuncData} {d1 : Value} (F : Fun K "law" "law" sLaw f fd) (N : Mks K mg C fi f1 f2 gi g1 g2 d1) (Nz : Fn K mg "lowest" sLowest ["top", "bottom"] fz gz) (Npw : Fn K mg "power" sPower ["number", "many"] fpw gpw) (M : Ms K C mp ml mt mo mr mb ap al at' ao ar ab)
    (L : LD K mg fr fw fl fs ff fq fp fg gr gw gl gs gf gq gp gg) (T : TxtP K mg C) (Z : Er K mg NN BN) (hM : ∃ t, mg "MOST_RAISED" = some (.int 100 t)) :
    FnOk P w K mg base CX0 9 f fd ["_law_script"] (spLaw K) := by
  have GI : FnOk P w K mg base CX0 7 fi gi ["self", "top", "bottom"] (spInit C) := ok_init N.F N.N1 N.N2 T
  have GR : FnOk P w K mg base CX0 8 mr ar ["self", "many"] (spRaised C) := ok_raised M.Fr N Nz Npw T Z hM
  have Gw : FnOk P w K mg base CX0 8 fw gw ["_law_cell", "_law_sizes"] (spDrawn K) := ok_drawn L.Nw.F T.len T.range
  have Gs : FnOk P w K mg base CX0 8 fs gs ["_law_found", "_law_due"] (spLIs K C) := ok_is L.Ns.F L.Nl T
  have Gf : FnOk P w K mg base CX0 8 ff gf ["_law_draws"] (spFraction K) := ok_fraction L.Nf.F L.Nl T
  have Gr : FnOk P w K mg base CX0 8 fr gr ["_law_one", "_law_many"] spPower := ok_lraised L.Nr.F T
  have Gp : FnOk P w K mg base CX0 8 fp gp ["_law_one", "_law_many"] (spNoPower K C) := ok_nopower L.Np.F N M T Z hM
  have Gg : FnOk P w K mg base CX0 8 fg gg ["_law_one", "_law_other", "_law_a", "_law_b"] (spRight C) := ok_right L.Ng.F N Nz M L.Nl L.Ns L.Nq T Z
  refine F.ok scLaw (fun vs H Q E h => ?_) (fun cdv A outer s H vs Q E hr h => ?_)
  · obtain ⟨a, ns, rfl, _⟩ := h
    rfl
  · obtain ⟨a, ns, rfl, hS, hlen, q⟩ := h
    have nd := scLaw.nd
    refine ⟨_, pss_cons (ps_for PassesOwn.never rfl (pi_list (pe_op op_cat (pe_slice sl_list (pv 0) po_none (po_some pe_int)) (pe_lst (pa_cons pe_int pa_nil)))) (pg_name (i := 1) nd rfl (.inl rfl))
        (pss_cons (ps_set (i := 2) nd rfl (.inl rfl) (pe_call Gw hr (by rfl) L.Nw.g L.Nw.F.kp L.Nw.b .nil pass0 (pa_cons (pv 1) (pa_cons (pe_op op_cat (pe_op op_rep (pe_lst (pa_cons pe_int (pa_cons (pe_op op_pow pe_int pe_int) (pa_cons (pe_op op_pow pe_int pe_int) (pa_cons pe_int (pa_cons (pe_op op_pow pe_int pe_int) (pa_cons pe_int pa_nil))))))) pe_int) (pe_lst (pa_cons pe_int (pa_cons pe_int pa_nil)))) pa_nil))))
        (pss_cons (ps_set (i := 3) nd rfl (.inl rfl) (pe_call Gf hr (by rfl) L.Nf.g L.Nf.F.kp L.Nf.b .nil pass0 (pa_cons (pe_slice sl_list (pv 2) po_none (po_some pe_int)) pa_nil)))
        (pss_cons (ps_set (i := 4) nd rfl (.inl rfl) (pe_call Gf hr (by rfl) L.Nf.g L.Nf.F.kp L.Nf.b .nil pass0 (pa_cons (pe_slice sl_list (pv 2) (po_some pe_int) (po_some pe_int)) pa_nil)))
        (pss_cons (ps_set (i := 5) nd rfl (.inl rfl) (pe_make N.M GI hr (by rfl) T.mgC N.b3 .nil pass0 (pa_cons (pe_ix ix_tup (pv 3) pe_int (fun _ _ => rfl)) (pa_cons (pe_ix ix_tup (pv 3) pe_int (fun _ _ => rfl)) pa_nil))))
        (pss_cons (ps_set (i := 6) nd rfl (.inl rfl) (pe_make N.M GI hr (by rfl) T.mgC N.b3 .nil pass0 (pa_cons (pe_ix ix_tup (pv 4) pe_int (fun _ _ => rfl)) (pa_cons (pe_ix ix_tup (pv 4) pe_int (fun _ _ => rfl)) pa_nil))))
        (pss_cons (ps_if (PW.pt (pw_or (pt_not (pt_val (pe_call Gg hr (by rfl) L.Ng.g L.Ng.F.kp L.Ng.b .nil pass0 (pa_cons (pv 3) (pa_cons (pv 4) (pa_cons (pv 5) (pa_cons (pv 6) pa_nil))))))) (pw_or (pt_not (pt_val (pe_call Gg hr (by rfl) L.Ng.g L.Ng.F.kp L.Ng.b .nil pass0 (pa_cons (pv 4) (pa_cons (pv 3) (pa_cons (pv 6) (pa_cons (pv 5) pa_nil))))))) (pw_or1 (pt_not (pt_val (pe_call Gg hr (by rfl) L.Ng.g L.Ng.F.kp L.Ng.b .nil pass0 (pa_cons (pv 3) (pa_cons (pv 3) (pa_cons (pv 5) (pa_cons (pv 5) pa_nil))))))))))) (pss_one (ps_ret pe_bl)) pss_nil)
        (pss_cons (ps_set (i := 7) nd rfl (.inl rfl) (pe_ix ix_list (pv 2) pe_int (fun _ _ => rfl)))
        (pss_cons (ps_if (PW.pt (pw_or (pt_cmpR op_gt (pe_callB call_abs (by rfl) T.abs (by decide +kernel) (pa_cons (pe_ix ix_tup (pv 3) pe_int (fun _ _ => rfl)) pa_nil)) (pe_op op_pow pe_int pe_int) (nomark _)) (pw_or1 (pt_cmpR op_gt (pe_ix ix_tup (pv 3) pe_int (fun _ _ => rfl)) (pe_op op_pow pe_int pe_int) (nomark _))))) (pss_one (ps_set (i := 7) nd rfl (.inl rfl) (pe_op op_mod (pv 7) pe_int))) pss_nil)
        (pss_cons (ps_if (pt_not (pt_val (pe_call Gs hr (by rfl) L.Ns.g L.Ns.F.kp L.Ns.b .nil pass0 (pa_cons (pe_meth (pv 5) T.ins.cl M.mr GR hr M.br .nil pass0 (pa_cons (pv 7) pa_nil)) (pa_cons (pe_tup (pa_cons (pe_call Gr hr (by rfl) L.Nr.g L.Nr.F.kp L.Nr.b .nil pass0 (pa_cons (pe_ix ix_tup (pv 3) pe_int (fun _ _ => rfl)) (pa_cons (pv 7) pa_nil))) (pa_cons (pe_call Gr hr (by rfl) L.Nr.g L.Nr.F.kp L.Nr.b .nil pass0 (pa_cons (pe_ix ix_tup (pv 3) pe_int (fun _ _ => rfl)) (pa_cons (pv 7) pa_nil))) pa_nil))) pa_nil))))) (pss_one (ps_ret pe_bl)) pss_nil)
        (pss_cons (ps_if (pt_not (pt_val (pe_call Gp hr (by rfl) L.Np.g L.Np.F.kp L.Np.b .nil pass0 (pa_cons (pv 5) (pa_cons (pe_ix ix_list (pe_lst (pa_cons (pe_un un_neg pe_int) (pa_cons pe_int (pa_cons pe_non (pa_cons pe_bl (pa_cons pe_str (pa_cons (pe_lst (pa_cons pe_int pa_nil)) (pa_cons (pe_op op_pow pe_int pe_int) (pa_cons (pe_un un_neg (pe_op op_pow pe_int pe_int)) pa_nil))))))))) (pe_ix ix_list (pv 2) pe_int (fun _ _ => rfl)) (fun _ _ => rfl)) pa_nil))))) (pss_one (ps_ret pe_bl)) pss_nil)
        (pss_one (ps_if (PW.pt (pw_or (pt_not (pt_val (pe_call Gs hr (by rfl) L.Ns.g L.Ns.F.kp L.Ns.b .nil pass0 (pa_cons (pv 5) (pa_cons (pv 3) pa_nil))))) (pw_or1 (pt_not (pt_val (pe_call Gs hr (by rfl) L.Ns.g L.Ns.F.kp L.Ns.b .nil pass0 (pa_cons (pv 6) (pa_cons (pv 4) pa_nil)))))))) (pss_one (ps_ret pe_bl)) pss_nil)))))))))))))
      (pss_one (ps_ret pe_bl)), ?_⟩
    refine ⟨.ref a, rfl, 30, rfl, a, _, rfl, hS, fun p np => ⟨(by show 1 ≤ sizeLine; decide), fun p2 np2 => ?_⟩⟩
    have npp : p ≠ p2 := fun e => by
      rw [← e, upd_same] at np2
      cases np2
    obtain ⟨zs, ez, hzl⟩ : ∃ zs : List Int, cutV (ns.map V.int) none (some 30) = zs.map V.int ∧ zs.length ≤ 63 := by
      unfold cutV
      refine ⟨(ns.drop (HT.sIx (ns.map V.int).length 0 none)).take (HT.sIx (ns.map V.int).length (ns.map V.int).length (some 30) - HT.sIx (ns.map V.int).length 0 none), by rw [List.map_take, List.map_drop], ?_⟩
      rw [List.length_take, List.length_drop]
      omega
    rw [ez] at np2 ⊢
    refine ⟨p, p2, zs.map V.int, [.int 0], rfl, rfl, by rw [upd_ne npp, upd_same], upd_same, ?_, fun p3 np3 => ?_⟩
    · rw [List.length_map]
      exact Nat.le_trans (Nat.add_le_add_right hzl 1) (by decide)
    have ecat : zs.map V.int ++ [V.int 0] = (zs ++ [0]).map V.int := by rw [List.map_append]; rfl
    rw [ecat]
    refine ⟨p3, rfl, ⟨_, SqL.of upd_same⟩, ?_⟩
    have w1 : Same H (upd H p (.lst (zs.map V.int))) := same_upd np
    have w2 := same_new (o := .lst [.int 0]) (w1.free np2) w1
    have w3 := same_new (o := .lst ((zs ++ [0]).map V.int)) (w2.free np3) w2
    generalize hH2 : upd (upd (upd H p (.lst (zs.map V.int))) p2 (.lst [.int 0])) p3 (.lst ((zs ++ [0]).map V.int)) = H2 at w3
    have e3 : H2 p3 = some (.lst ((zs ++ [0]).map V.int)) := by
      rw [← hH2, upd_same]
    refine for_list (K := K) (a := p3) (xs := (zs ++ [0]).map V.int) (fun i σ H3 => ∃ y1 y2 y3 y4 y5 y6 y7, σ = [some (.ref a), y1, y2, y3, y4, y5, y6, y7] ∧ Same H2 H3) ⟨_, _, _, _, _, _, _, rfl, Same.refl _⟩ (fun i σ H3 _ ⟨_, _, _, _, _, _, _, _, h⟩ => SqL.of (h _ _ e3)) ?_ ?_
    · rintro i x σ H3 hx ⟨y1, y2, y3, y4, y5, y6, y7, rfl, s3⟩
      rw [List.getElem?_map] at hx
      obtain ⟨c, _, rfl⟩ := Option.map_eq_some_iff.mp hx
      -- the draws
      refine ⟨.int c, rfl, 10, 12, rfl, rfl, ⟨by decide, by decide, by decide⟩, 10, 18, rfl, rfl, ⟨by decide, by decide, by decide⟩, 10, 12, rfl, rfl, ⟨by decide, by decide, by decide⟩, (by show 6 ≤ sizeLine; decide), fun q1 m1 => ?_⟩
      refine ⟨q1, 2, _, rfl, rfl, upd_same, by decide, by decide, (by show 6 * 2 ≤ sizeLine; decide), fun q2 m2 => ⟨(by show 2 ≤ sizeLine; decide), fun q3 m3 => ?_⟩⟩
      have v1 := same_upd (o := .lst [.int 3, .int (10 ^ (12 : Int).toNat), .int (10 ^ (18 : Int).toNat), .int 2, .int (10 ^ (12 : Int).toNat), .int 2]) m1
      have v2 := same_new (o := .lst (List.replicate (2 : Int).toNat [V.int 3, .int (10 ^ (12 : Int).toNat), .int (10 ^ (18 : Int).toNat), .int 2, .int (10 ^ (12 : Int).toNat), .int 2]).flatten) (v1.free m2) v1
      have v3 := same_new (o := .lst [.int 101, .int 8]) (v2.free m3) v2
      refine ⟨q2, q3, _, _, rfl, rfl, same_upd m3 _ _ upd_same, upd_same, (by decide), fun q4 m4 => ?_⟩
      have v4 := same_new (o := .lst (sizes.map V.int)) (v3.free m4) v3
      refine ⟨c, q4, sizes, rfl, SqL.of upd_same, ?_, by decide, fun H4 p4 s4 n4 e4 => ?_⟩
      · intro z hz
        simp only [sizes, List.mem_cons, List.not_mem_nil, or_false] at hz
        rcases hz with rfl | rfl | rfl | rfl | rfl | rfl | rfl | rfl | rfl | rfl | rfl | rfl | rfl | rfl <;> exact ⟨by decide, by decide⟩
      have sA : Same H3 H4 := v4.trans s4
      generalize hds : draws c 0 sizes = ds at e4
      have hpos : ∀ z ∈ sizes, 0 < z := by decide
      have hok : ∀ (i : Nat) (x z : Int), ds[i]? = some x → sizes[i]? = some z → 0 ≤ x ∧ x < z := by
        rw [← hds]
        exact draws_ok _ c 0 hpos
      obtain ⟨a0, a1, a2, a3, a4, a5, a6, a7, a8, a9, aa, ab', ac, ad, rfl⟩ := n14 (ds := ds) (by rw [← hds, draws_len]; rfl)
      have b0 := hok 0 _ _ rfl rfl
      have b1 := hok 1 _ _ rfl rfl
      have b2 := hok 2 _ _ rfl rfl
      have b3 := hok 3 _ _ rfl rfl
      have b4 := hok 4 _ _ rfl rfl
      have b5 := hok 5 _ _ rfl rfl
      have b6 := hok 6 _ _ rfl rfl
      have b7 := hok 7 _ _ rfl rfl
      have b8 := hok 8 _ _ rfl rfl
      have b9 := hok 9 _ _ rfl rfl
      have b10 := hok 10 _ _ rfl rfl
      have b11 := hok 11 _ _ rfl rfl
      have b12 := hok 12 _ _ rfl rfl
      have b13 := hok 13 _ _ rfl rfl
      -- both fractions
      refine ⟨.ref p4, rfl, 6, rfl, p4, _, rfl, SqL.of e4, fun q5 m5 => ?_⟩
      refine ⟨q5, a0, a1, a2, a3, a4, a5, rfl, SqL.of upd_same, b0, b1, b2, b3, b4, b5, fun H5 o1 q s5 no1 h1 zq => ?_⟩
      have sB : Same H4 H5 := (same_upd m5).trans s5
      refine ⟨.ref p4, rfl, 6, rfl, 12, rfl, p4, _, rfl, SqL.of (sB _ _ e4), fun q6 m6 => ?_⟩
      refine ⟨q6, a6, a7, a8, a9, aa, ab', rfl, SqL.of upd_same, b6, b7, b8, b9, b10, b11, fun H6 o2 r s6 no2 h2 zr => ?_⟩
      have sC : Same H5 H6 := (same_upd m6).trans s6
      have e46 := sC _ _ (sB _ _ e4)
      have h16 := sC _ _ h1
      -- both Parts
      refine ⟨.ref o1, rfl, o1, _, 0, .int q.num, rfl, rfl, SqT.of h16, rfl, .ref o1, rfl, o1, _, 1, .int (q.den : Int), rfl, rfl, SqT.of h16, rfl, ?_⟩
      intro pa dxpa n7 hdxpa nepa
      refine ⟨pa, dxpa, q.num, (q.den : Int), rfl, den_ne q, Nat.lt_of_lt_of_le zq.2 (Nat.pow_le_pow_right (by decide) (by decide)), upd_same, rfl, ?_⟩
      rw [upd_upd, Rat.num_divInt_den]
      obtain ⟨s7, pA⟩ := mk_facts (C := C) (q := q) n7 hdxpa
      generalize upd (upd H6 dxpa (.own pa)) pa (.ins C dxpa (pf q)) = H7 at s7 pA ⊢
      refine ⟨.ref o2, rfl, o2, _, 0, .int r.num, rfl, rfl, SqT.of (s7 _ _ h2), rfl, .ref o2, rfl, o2, _, 1, .int (r.den : Int), rfl, rfl, SqT.of (s7 _ _ h2), rfl, ?_⟩
      intro pb dxpb n8 hdxpb nepb
      refine ⟨pb, dxpb, r.num, (r.den : Int), rfl, den_ne r, Nat.lt_of_lt_of_le zr.2 (Nat.pow_le_pow_right (by decide) (by decide)), upd_same, rfl, ?_⟩
      rw [upd_upd, Rat.num_divInt_den]
      obtain ⟨s8, pB⟩ := mk_facts (C := C) (q := r) n8 hdxpb
      generalize upd (upd H7 dxpb (.own pb)) pb (.ins C dxpb (pf r)) = H8 at s8 pB ⊢
      have s68 := s7.trans s8
      have o1h := s68 _ _ h16
      have o2h := s68 _ _ h2
      have e48 := s68 _ _ e46
      have pA := pA.same s8
      -- right
      refine ⟨.ref o1, rfl, .ref o2, rfl, .ref pa, rfl, .ref pb, rfl, o1, o2, pa, pb, q, r, rfl, o1h, o2h, pA, pB, zq, zr, fun H9 s9 => ⟨true, rfl, iteF ?_⟩⟩
      refine ⟨.ref o2, rfl, .ref o1, rfl, .ref pb, rfl, .ref pa, rfl, o2, o1, pb, pa, r, q, rfl, s9 _ _ o2h, s9 _ _ o1h, pB.same s9, pA.same s9, zr, zq, fun Ha sa => ⟨true, rfl, iteF ?_⟩⟩
      have s8a := s9.trans sa
      refine ⟨.ref o1, rfl, .ref o1, rfl, .ref pa, rfl, .ref pa, rfl, o1, o1, pa, pa, q, q, rfl, s8a _ _ o1h, s8a _ _ o1h, pA.same s8a, pA.same s8a, zq, zq, fun Hb sb => ⟨true, rfl, iteF ?_⟩⟩
      have s8b := s8a.trans sb
      have o1b := s8b _ _ o1h
      have o2b := s8b _ _ o2h
      have e4b := s8b _ _ e48
      have pAb := pA.same s8b
      have pBb := pB.same s8b
      have sall : Same H2 Hb := ((((s3.trans sA).trans sB).trans sC).trans s68).trans s8b
      refine ⟨.ref p4, rfl, p4, _, 12, .int ac, rfl, rfl, SqL.of e4b, rfl, ?_⟩
      obtain ⟨m, rfl⟩ : ∃ m : Nat, ac = (m : Int) := ⟨ac.toNat, by omega⟩
      refine ⟨.ref o1, rfl, o1, _, 0, .int q.num, rfl, rfl, SqT.of o1b, rfl, q.num, rfl, 10, 9, rfl, rfl, ⟨by decide, by decide, by decide⟩, _, _, rfl, rfl, _, rfl, ?_⟩
      obtain ⟨dxa, hpa⟩ := pAb
      have pAb : PA C Hb pa q := ⟨dxa, hpa⟩
      have hm5 : ((m : Int) % 5) = ((m % 5 : Nat) : Int) := by omega
      have l5 : m % 5 < 101 := by omega
      have k5 : 100 * (m % 5) ≤ 3000 := by omega
      have lm : m < 101 := by omega
      have km : 30 * m ≤ 3000 := by omega
      by_cases g1 : (if q.num < 0 then -q.num else q.num) > 1000000000
      · rw [decide_eq_true (show (if q.num < 0 then -q.num else q.num) > 10 ^ (9 : Int).toNat from g1)]
        refine iteT ⟨.int (m : Int), rfl, (m : Int), 5, rfl, rfl, (show (0 : Int) < 5 by decide), ?_⟩
        refine ⟨.ref pa, rfl, pa, dxa, _, rfl, hpa, no_m q, .int ((m % 5) : Int), rfl, pa, q, (m % 5), 100, rfl, pAb, l5, zq, k5, (by decide), fun Hc pc sc nc pC => ?_⟩
        refine ⟨.ref o1, rfl, o1, _, 0, .int q.num, rfl, rfl, SqT.of (sc _ _ o1b), rfl, .int ((m % 5) : Int), rfl, q.num, (m % 5), 100, rfl, l5, zq.1, k5, (by decide), ?_⟩
        refine ⟨.ref o1, rfl, o1, _, 1, .int (q.den : Int), rfl, rfl, SqT.of (sc _ _ o1b), rfl, .int ((m % 5) : Int), rfl, (q.den : Int), (m % 5), 100, rfl, l5, zq.2, k5, (by decide), ?_⟩
        refine ⟨(by show 2 ≤ sizeLine; decide), fun tc ntc => ?_⟩
        refine ⟨pc, tc, _, _, rfl, (by rw [pow_div]; exact pC.same (same_upd ntc)), upd_same, Int.pow_ne_zero (den_ne q), Nat.lt_of_lt_of_le (pow_lt (x := (q.den : Int)) (e := 100) zq.2 (Nat.le_refl (m % 5))) (Nat.pow_le_pow_right (by decide) (Nat.le_trans (Nat.succ_le_succ k5) (by decide))), fun Hd sd => ⟨true, rfl, iteF ?_⟩⟩
        have sbd := (sc.trans (same_upd ntc)).trans sd
        refine ⟨.ref pa, rfl, 1, rfl, (by show 1 ≤ sizeLine; decide), fun l1 nl1 => ⟨10, 30, rfl, rfl, ⟨by decide, by decide, by decide⟩, 10, 30, rfl, rfl, ⟨by decide, by decide, by decide⟩, _, rfl, (by show 8 ≤ sizeLine; decide), fun l2 nl2 => ?_⟩⟩
        have x1 := same_upd (o := .lst [.int 2]) nl1
        have y2 := same_upd (o := .lst [V.int (-1), .int 101, .non, .bl true, .str "2", .ref l1, .int (10 ^ (30 : Int).toNat), .int (-(10 ^ (30 : Int).toNat))]) nl2
        obtain ⟨xo, hxo, odd⟩ := odds_ok (K := K) (y2 _ _ (upd_same (H := Hd) (a := l1) (o := .lst [.int 2]))) b13.1 b13.2
        have sbe := (sbd.trans x1).trans y2
        refine ⟨.ref p4, rfl, p4, _, 13, .int ad, rfl, rfl, SqL.of (sbe _ _ e4b), rfl, l2, _, ad, xo, rfl, rfl, SqL.of upd_same, hxo, pa, xo, q, rfl, pAb.same sbe, odd, true, rfl, iteF ?_⟩
        refine ⟨.ref pa, rfl, .ref o1, rfl, pa, o1, q.num, (q.den : Int), rfl, (by rw [Rat.num_divInt_den]; exact pAb.same sbe), sbe _ _ o1b, den_ne q, Nat.lt_of_lt_of_le zq.2 (Nat.pow_le_pow_right (by decide) (by decide)), fun Hf sf => ⟨true, rfl, iteF ?_⟩⟩
        have sbf := sbe.trans sf
        refine ⟨.ref pb, rfl, .ref o2, rfl, pb, o2, r.num, (r.den : Int), rfl, (by rw [Rat.num_divInt_den]; exact pBb.same sbf), sbf _ _ o2b, den_ne r, Nat.lt_of_lt_of_le zr.2 (Nat.pow_le_pow_right (by decide) (by decide)), fun Hg sg => ⟨true, rfl, iteF ?_⟩⟩
        exact ⟨_, _, _, _, _, _, _, rfl, sall.trans (sbf.trans sg)⟩
      · rw [decide_eq_false (show ¬ (if q.num < 0 then -q.num else q.num) > 10 ^ (9 : Int).toNat from g1)]
        refine iteF ⟨.ref o1, rfl, o1, _, 1, .int (q.den : Int), rfl, rfl, SqT.of o1b, rfl, 10, 9, rfl, rfl, ⟨by decide, by decide, by decide⟩, _, _, rfl, rfl, _, rfl, ?_⟩
        by_cases g2 : (q.den : Int) > 1000000000
        · rw [decide_eq_true (show (q.den : Int) > 10 ^ (9 : Int).toNat from g2)]
          refine iteT ⟨.int (m : Int), rfl, (m : Int), 5, rfl, rfl, (show (0 : Int) < 5 by decide), ?_⟩
          refine ⟨.ref pa, rfl, pa, dxa, _, rfl, hpa, no_m q, .int ((m % 5) : Int), rfl, pa, q, (m % 5), 100, rfl, pAb, l5, zq, k5, (by decide), fun Hc pc sc nc pC => ?_⟩
          refine ⟨.ref o1, rfl, o1, _, 0, .int q.num, rfl, rfl, SqT.of (sc _ _ o1b), rfl, .int ((m % 5) : Int), rfl, q.num, (m % 5), 100, rfl, l5, zq.1, k5, (by decide), ?_⟩
          refine ⟨.ref o1, rfl, o1, _, 1, .int (q.den : Int), rfl, rfl, SqT.of (sc _ _ o1b), rfl, .int ((m % 5) : Int), rfl, (q.den : Int), (m % 5), 100, rfl, l5, zq.2, k5, (by decide), ?_⟩
          refine ⟨(by show 2 ≤ sizeLine; decide), fun tc ntc => ?_⟩
          refine ⟨pc, tc, _, _, rfl, (by rw [pow_div]; exact pC.same (same_upd ntc)), upd_same, Int.pow_ne_zero (den_ne q), Nat.lt_of_lt_of_le (pow_lt (x := (q.den : Int)) (e := 100) zq.2 (Nat.le_refl (m % 5))) (Nat.pow_le_pow_right (by decide) (Nat.le_trans (Nat.succ_le_succ k5) (by decide))), fun Hd sd => ⟨true, rfl, iteF ?_⟩⟩
          have sbd := (sc.trans (same_upd ntc)).trans sd
          refine ⟨.ref pa, rfl, 1, rfl, (by show 1 ≤ sizeLine; decide), fun l1 nl1 => ⟨10, 30, rfl, rfl, ⟨by decide, by decide, by decide⟩, 10, 30, rfl, rfl, ⟨by decide, by decide, by decide⟩, _, rfl, (by show 8 ≤ sizeLine; decide), fun l2 nl2 => ?_⟩⟩
          have x1 := same_upd (o := .lst [.int 2]) nl1
          have y2 := same_upd (o := .lst [V.int (-1), .int 101, .non, .bl true, .str "2", .ref l1, .int (10 ^ (30 : Int).toNat), .int (-(10 ^ (30 : Int).toNat))]) nl2
          obtain ⟨xo, hxo, odd⟩ := odds_ok (K := K) (y2 _ _ (upd_same (H := Hd) (a := l1) (o := .lst [.int 2]))) b13.1 b13.2
          have sbe := (sbd.trans x1).trans y2
          refine ⟨.ref p4, rfl, p4, _, 13, .int ad, rfl, rfl, SqL.of (sbe _ _ e4b), rfl, l2, _, ad, xo, rfl, rfl, SqL.of upd_same, hxo, pa, xo, q, rfl, pAb.same sbe, odd, true, rfl, iteF ?_⟩
          refine ⟨.ref pa, rfl, .ref o1, rfl, pa, o1, q.num, (q.den : Int), rfl, (by rw [Rat.num_divInt_den]; exact pAb.same sbe), sbe _ _ o1b, den_ne q, Nat.lt_of_lt_of_le zq.2 (Nat.pow_le_pow_right (by decide) (by decide)), fun Hf sf => ⟨true, rfl, iteF ?_⟩⟩
          have sbf := sbe.trans sf
          refine ⟨.ref pb, rfl, .ref o2, rfl, pb, o2, r.num, (r.den : Int), rfl, (by rw [Rat.num_divInt_den]; exact pBb.same sbf), sbf _ _ o2b, den_ne r, Nat.lt_of_lt_of_le zr.2 (Nat.pow_le_pow_right (by decide) (by decide)), fun Hg sg => ⟨true, rfl, iteF ?_⟩⟩
          exact ⟨_, _, _, _, _, _, _, rfl, sall.trans (sbf.trans sg)⟩
        · rw [decide_eq_false (show ¬ (q.den : Int) > 10 ^ (9 : Int).toNat from g2)]
          refine iteF ?_
          refine ⟨.ref pa, rfl, pa, dxa, _, rfl, hpa, no_m q, .int (m : Int), rfl, pa, q, m, 30, rfl, pAb, lm, (sz30 g1 g2), km, (by decide), fun Hc pc sc nc pC => ?_⟩
          refine ⟨.ref o1, rfl, o1, _, 0, .int q.num, rfl, rfl, SqT.of (sc _ _ o1b), rfl, .int (m : Int), rfl, q.num, m, 30, rfl, lm, (sz30 g1 g2).1, km, (by decide), ?_⟩
          refine ⟨.ref o1, rfl, o1, _, 1, .int (q.den : Int), rfl, rfl, SqT.of (sc _ _ o1b), rfl, .int (m : Int), rfl, (q.den : Int), m, 30, rfl, lm, (sz30 g1 g2).2, km, (by decide), ?_⟩
          refine ⟨(by show 2 ≤ sizeLine; decide), fun tc ntc => ?_⟩
          refine ⟨pc, tc, _, _, rfl, (by rw [pow_div]; exact pC.same (same_upd ntc)), upd_same, Int.pow_ne_zero (den_ne q), Nat.lt_of_lt_of_le (pow_lt (x := (q.den : Int)) (e := 30) (sz30 g1 g2).2 (Nat.le_refl m)) (Nat.pow_le_pow_right (by decide) (Nat.le_trans (Nat.succ_le_succ km) (by decide))), fun Hd sd => ⟨true, rfl, iteF ?_⟩⟩
          have sbd := (sc.trans (same_upd ntc)).trans sd
          refine ⟨.ref pa, rfl, 1, rfl, (by show 1 ≤ sizeLine; decide), fun l1 nl1 => ⟨10, 30, rfl, rfl, ⟨by decide, by decide, by decide⟩, 10, 30, rfl, rfl, ⟨by decide, by decide, by decide⟩, _, rfl, (by show 8 ≤ sizeLine; decide), fun l2 nl2 => ?_⟩⟩
          have x1 := same_upd (o := .lst [.int 2]) nl1
          have y2 := same_upd (o := .lst [V.int (-1), .int 101, .non, .bl true, .str "2", .ref l1, .int (10 ^ (30 : Int).toNat), .int (-(10 ^ (30 : Int).toNat))]) nl2
          obtain ⟨xo, hxo, odd⟩ := odds_ok (K := K) (y2 _ _ (upd_same (H := Hd) (a := l1) (o := .lst [.int 2]))) b13.1 b13.2
          have sbe := (sbd.trans x1).trans y2
          refine ⟨.ref p4, rfl, p4, _, 13, .int ad, rfl, rfl, SqL.of (sbe _ _ e4b), rfl, l2, _, ad, xo, rfl, rfl, SqL.of upd_same, hxo, pa, xo, q, rfl, pAb.same sbe, odd, true, rfl, iteF ?_⟩
          refine ⟨.ref pa, rfl, .ref o1, rfl, pa, o1, q.num, (q.den : Int), rfl, (by rw [Rat.num_divInt_den]; exact pAb.same sbe), sbe _ _ o1b, den_ne q, Nat.lt_of_lt_of_le zq.2 (Nat.pow_le_pow_right (by decide) (by decide)), fun Hf sf => ⟨true, rfl, iteF ?_⟩⟩
          have sbf := sbe.trans sf
          refine ⟨.ref pb, rfl, .ref o2, rfl, pb, o2, r.num, (r.den : Int), rfl, (by rw [Rat.num_divInt_den]; exact pBb.same sbf), sbf _ _ o2b, den_ne r, Nat.lt_of_lt_of_le zr.2 (Nat.pow_le_pow_right (by decide) (by decide)), fun Hg sg => ⟨true, rfl, iteF ?_⟩⟩
          exact ⟨_, _, _, _, _, _, _, rfl, sall.trans (sbf.trans sg)⟩
    · rintro σ H3 ⟨y1, y2, y3, y4, y5, y6, y7, rfl, s3⟩
      exact q _
end
end Hop

set_option Elab.async false
set_option linter.all false
set_option maxRecDepth 100000
set_option maxHeartbeats 2000000
namespace Hop
open PySem L2 HopR
/-! ### what the top has written -/
theorem all_mk {l : PySem.W.OpenLaw} {w : World} {K : PySem.W.Frag} {h : Heap} {mg : Str → Option Value} {fa : Addr} (X : K.In h) (G : h.Ns mainGlobals mg) (hfa : mg "law" = some (.ref fa))
    {f1 : Addr} {od1 an1 : Option Addr} {sl1 : Array (Option Value)} {oc1 kV1 dc1 pm1 cd1 ct1 : Value}
    {f0 : Addr} {od0 an0 : Option Addr} {sl0 : Array (Option Value)} {oc0 kV0 dc0 pm0 cd0 ct0 : Value}
    {f2 : Addr} {od2 an2 : Option Addr} {sl2 : Array (Option Value)} {oc2 kV2 dc2 pm2 cd2 ct2 : Value}
    {fu : Addr} {odu anu : Option Addr} {slu : Array (Option Value)} {ocu kVu dcu pmu cdu ctu : Value}
    {fz : Addr} {odz anz : Option Addr} {slz : Array (Option Value)} {ocz kVz dcz pmz cdz ctz : Value}
    {fr : Addr} {odr anr : Option Addr} {slr : Array (Option Value)} {ocr kVr dcr pmr cdr ctr : Value}
    {fw : Addr} {odw anw : Option Addr} {slw : Array (Option Value)} {ocw kVw dcw pmw cdw ctw : Value}
    {fl : Addr} {odl anl : Option Addr} {sll : Array (Option Value)} {ocl kVl dcl pml cdl ctl : Value}
    {fs : Addr} {ods ans : Option Addr} {sls : Array (Option Value)} {ocs kVs dcs pms cds cts : Value}
    {ff : Addr} {odf anf : Option Addr} {slf : Array (Option Value)} {ocf kVf dcf pmf cdf ctf : Value}
    {fq : Addr} {odq anq : Option Addr} {slq : Array (Option Value)} {ocq kVq dcq pmq cdq ctq : Value}
    {fp : Addr} {odp anp : Option Addr} {slp : Array (Option Value)} {ocp kVp dcp pmp cdp ctp : Value}
    {fg : Addr} {odg ang : Option Addr} {slg : Array (Option Value)} {ocg kVg dcg pmg cdg ctg : Value}
    {fL : Addr} {odL anL : Option Addr} {slL : Array (Option Value)} {ocL kVL dcL pmL cdL ctL : Value}
    {tm0 : Tok}
    {NN BN : Addr}
    {C : Addr}
    {fmp : Addr} {odmp anmp : Option Addr} {slmp : Array (Option Value)} {ocmp kVmp dcmp pmmp cdmp ctmp : Value}
    {fml : Addr} {odml anml : Option Addr} {slml : Array (Option Value)} {ocml kVml dcml pmml cdml ctml : Value}
    {fmt : Addr} {odmt anmt : Option Addr} {slmt : Array (Option Value)} {ocmt kVmt dcmt pmmt cdmt ctmt : Value}
    {fmo : Addr} {odmo anmo : Option Addr} {slmo : Array (Option Value)} {ocmo kVmo dcmo pmmo cdmo ctmo : Value}
    {fmr : Addr} {odmr anmr : Option Addr} {slmr : Array (Option Value)} {ocmr kVmr dcmr pmmr cdmr ctmr : Value}
    {fmb : Addr} {odmb anmb : Option Addr} {slmb : Array (Option Value)} {ocmb kVmb dcmb pmmb cdmb ctmb : Value}
    {fi Ti : Addr} {odi ani oTi : Option Addr} {sli sTi : Array (Option Value)} {oci kVi dci pmi cdi cti cTi : Value} {nTi : Nat}
    {tki0 : Tok}
    (a1 : PySem.W.nsIn K mainGlobals "is_whole" = some (some (.ref f1))) (l1 : K.lookup f1 = some ⟨oc1, od1, .func (PySem.W.fnOf "is_whole" "is_whole" (defArgs sIsWhole) (defBody sIsWhole) (defScope sIsWhole) .none kV1 dc1 pm1 an1 cd1 ct1), sl1⟩) (c1 : PySem.W.codeIn K cd1 "is_whole" = true) (k1 : PySem.W.keepIn K (.ref f1) = true)
    (a0 : PySem.W.nsIn K mainGlobals "need_number" = some (some (.ref f0))) (l0 : K.lookup f0 = some ⟨oc0, od0, .func (PySem.W.fnOf "need_number" "need_number" (defArgs sNeedNum) (defBody sNeedNum) (defScope sNeedNum) .none kV0 dc0 pm0 an0 cd0 ct0), sl0⟩) (c0 : PySem.W.codeIn K cd0 "need_number" = true) (k0 : PySem.W.keepIn K (.ref f0) = true)
    (a2 : PySem.W.nsIn K mainGlobals "common_divisor" = some (some (.ref f2))) (l2 : K.lookup f2 = some ⟨oc2, od2, .func (PySem.W.fnOf "common_divisor" "common_divisor" (defArgs sDivisor) (defBody sDivisor) (defScope sDivisor) .none kV2 dc2 pm2 an2 cd2 ct2), sl2⟩) (c2 : PySem.W.codeIn K cd2 "common_divisor" = true) (k2 : PySem.W.keepIn K (.ref f2) = true)
    (au : PySem.W.nsIn K mainGlobals "power" = some (some (.ref fu))) (lu : K.lookup fu = some ⟨ocu, odu, .func (PySem.W.fnOf "power" "power" (defArgs sPower) (defBody sPower) (defScope sPower) .none kVu dcu pmu anu cdu ctu), slu⟩) (cu : PySem.W.codeIn K cdu "power" = true) (ku : PySem.W.keepIn K (.ref fu) = true)
    (az : PySem.W.nsIn K mainGlobals "lowest" = some (some (.ref fz))) (lz : K.lookup fz = some ⟨ocz, odz, .func (PySem.W.fnOf "lowest" "lowest" (defArgs sLowest) (defBody sLowest) (defScope sLowest) .none kVz dcz pmz anz cdz ctz), slz⟩) (cz : PySem.W.codeIn K cdz "lowest" = true) (kz : PySem.W.keepIn K (.ref fz) = true)
    (ar : PySem.W.nsIn K mainGlobals "_law_raised" = some (some (.ref fr))) (lr : K.lookup fr = some ⟨ocr, odr, .func (PySem.W.fnOf "_law_raised" "_law_raised" (defArgs sLRaised) (defBody sLRaised) (defScope sLRaised) .none kVr dcr pmr anr cdr ctr), slr⟩) (cr : PySem.W.codeIn K cdr "_law_raised" = true) (kr : PySem.W.keepIn K (.ref fr) = true)
    (aw : PySem.W.nsIn K mainGlobals "_law_drawn" = some (some (.ref fw))) (lw : K.lookup fw = some ⟨ocw, odw, .func (PySem.W.fnOf "_law_drawn" "_law_drawn" (defArgs sDrawn) (defBody sDrawn) (defScope sDrawn) .none kVw dcw pmw anw cdw ctw), slw⟩) (cw : PySem.W.codeIn K cdw "_law_drawn" = true) (kw : PySem.W.keepIn K (.ref fw) = true)
    (al : PySem.W.nsIn K mainGlobals "_law_low" = some (some (.ref fl))) (ll : K.lookup fl = some ⟨ocl, odl, .func (PySem.W.fnOf "_law_low" "_law_low" (defArgs sLow) (defBody sLow) (defScope sLow) .none kVl dcl pml anl cdl ctl), sll⟩) (cl : PySem.W.codeIn K cdl "_law_low" = true) (kl : PySem.W.keepIn K (.ref fl) = true)
    (as : PySem.W.nsIn K mainGlobals "_law_is" = some (some (.ref fs))) (ls : K.lookup fs = some ⟨ocs, ods, .func (PySem.W.fnOf "_law_is" "_law_is" (defArgs sLIs) (defBody sLIs) (defScope sLIs) .none kVs dcs pms ans cds cts), sls⟩) (cs : PySem.W.codeIn K cds "_law_is" = true) (ks : PySem.W.keepIn K (.ref fs) = true)
    (af : PySem.W.nsIn K mainGlobals "_law_fraction" = some (some (.ref ff))) (lf : K.lookup ff = some ⟨ocf, odf, .func (PySem.W.fnOf "_law_fraction" "_law_fraction" (defArgs sFraction) (defBody sFraction) (defScope sFraction) .none kVf dcf pmf anf cdf ctf), slf⟩) (cf : PySem.W.codeIn K cdf "_law_fraction" = true) (kf : PySem.W.keepIn K (.ref ff) = true)
    (aq : PySem.W.nsIn K mainGlobals "_law_no_quotient" = some (some (.ref fq))) (lq : K.lookup fq = some ⟨ocq, odq, .func (PySem.W.fnOf "_law_no_quotient" "_law_no_quotient" (defArgs sNoQuot) (defBody sNoQuot) (defScope sNoQuot) .none kVq dcq pmq anq cdq ctq), slq⟩) (cq : PySem.W.codeIn K cdq "_law_no_quotient" = true) (kq : PySem.W.keepIn K (.ref fq) = true)
    (ap : PySem.W.nsIn K mainGlobals "_law_no_power" = some (some (.ref fp))) (lp : K.lookup fp = some ⟨ocp, odp, .func (PySem.W.fnOf "_law_no_power" "_law_no_power" (defArgs sNoPower) (defBody sNoPower) (defScope sNoPower) .none kVp dcp pmp anp cdp ctp), slp⟩) (cp : PySem.W.codeIn K cdp "_law_no_power" = true) (kp : PySem.W.keepIn K (.ref fp) = true)
    (ag : PySem.W.nsIn K mainGlobals "_law_right" = some (some (.ref fg))) (lg : K.lookup fg = some ⟨ocg, odg, .func (PySem.W.fnOf "_law_right" "_law_right" (defArgs sLRight) (defBody sLRight) (defScope sLRight) .none kVg dcg pmg ang cdg ctg), slg⟩) (cg : PySem.W.codeIn K cdg "_law_right" = true) (kg : PySem.W.keepIn K (.ref fg) = true)
    (aL : PySem.W.nsIn K mainGlobals "law" = some (some (.ref fL))) (lL : K.lookup fL = some ⟨ocL, odL, .func (PySem.W.fnOf "law" "law" (defArgs sLaw) (defBody sLaw) (defScope sLaw) .none kVL dcL pmL anL cdL ctL), slL⟩) (cL : PySem.W.codeIn K cdL "law" = true) (kL : PySem.W.keepIn K (.ref fL) = true)
    (z0 : PySem.W.nsIn K mainGlobals "len" = some none)
    (z1 : PySem.W.nsIn K mainGlobals "range" = some none)
    (z2 : PySem.W.nsIn K mainGlobals "abs" = some none)
    (z3 : PySem.W.nsIn K mainGlobals "isinstance" = some none)
    (z4 : PySem.W.nsIn K mainGlobals "int" = some none)
    (z5 : PySem.W.nsIn K mainGlobals "bool" = some none)
    (gm0 : PySem.W.nsIn K mainGlobals "MOST_RAISED" = some (some (.int 100 tm0)))
    (g_NN : PySem.W.nsIn K mainGlobals "NoNumber" = some (some (.ref NN)))
    (g_BN : PySem.W.nsIn K mainGlobals "ByNought" = some (some (.ref BN)))
    (d_NN : PySem.W.hasDictIn K NN = true)
    (t_NN : PySem.W.typeIn K (.ref NN) = some (.type "type"))
    (d_BN : PySem.W.hasDictIn K BN = true)
    (t_BN : PySem.W.typeIn K (.ref BN) = some (.type "type"))
    (b_BN : PySem.W.subIn K (.ref BN) (.type "BaseException") = some true)
    (b_NN : PySem.W.subIn K (.ref NN) (.type "BaseException") = some true)
    (q_hn : PySem.W.specialIn K (.builtin "object.__class__") "__get__" = some (some (.builtin "getset_descriptor.__get__")))
    (q_htk : PySem.W.takesIn K (.builtin "object.__class__") = some true)
    (x_NN : PySem.W.excIn K NN [.type "ValueError", .type "Exception", .type "BaseException", .type "object"] "ValueError.__new__" = true)
    (k_NN : PySem.W.keepIn K (.ref NN) = true)
    (ga_NN : PySem.W.findIn K (.ref NN) "__getattribute__" = some (some (.builtin "BaseException.__getattribute__")))
    (gt_NN : PySem.W.findIn K (.ref NN) "__getattr__" = some none)
    (cl_NN : PySem.W.findIn K (.ref NN) "__class__" = some (some (.builtin "object.__class__")))
    (mo_NN : PySem.W.mroIn K NN (.type "object") = some true)
    (x_BN : PySem.W.excIn K BN [.type "ZeroDivisionError", .type "ArithmeticError", .type "Exception", .type "BaseException", .type "object"] "ZeroDivisionError.__new__" = true)
    (k_BN : PySem.W.keepIn K (.ref BN) = true)
    (ga_BN : PySem.W.findIn K (.ref BN) "__getattribute__" = some (some (.builtin "BaseException.__getattribute__")))
    (gt_BN : PySem.W.findIn K (.ref BN) "__getattr__" = some none)
    (cl_BN : PySem.W.findIn K (.ref BN) "__class__" = some (some (.builtin "object.__class__")))
    (mo_BN : PySem.W.mroIn K BN (.type "object") = some true)
    (gC : PySem.W.nsIn K mainGlobals "Part" = some (some (.ref C)))
    (C_pg : PySem.W.plainGet K C Str.empty = true)
    (C_hd : PySem.W.hasDictIn K C = true)
    (C_po : PySem.W.plainOver K C = true)
    (C_sa : PySem.W.findIn K (.ref C) "__setattr__" = some (some (.builtin "object.__setattr__")))
    (C_mk : PySem.W.makesIn K C = true)
    (C_kc : PySem.W.keepIn K (.ref C) = true)
    (C_ha : PySem.W.findIn K (.ref C) "__class__" = some (some (.builtin "object.__class__")))
    (C_hm : PySem.W.mroIn K C (.type "object") = some true)
    (C_n_top : PySem.W.findIn K (.ref C) "top" = some none)
    (C_n_bottom : PySem.W.findIn K (.ref C) "bottom" = some none)
    (mmp : PySem.W.findIn K (.ref C) "plus" = some (some (.ref fmp)))
    (nmp : PySem.W.isFn K (.ref fmp) = true)
    (lmp : K.lookup fmp = some ⟨ocmp, odmp, .func (PySem.W.fnOf "plus" "Part.plus" (defArgs sPlus) (defBody sPlus) (defScope sPlus) .none kVmp dcmp pmmp anmp cdmp ctmp), slmp⟩)
    (cmp : PySem.W.codeIn K cdmp "Part.plus" = true)
    (kmp : PySem.W.keepIn K (.ref fmp) = true)
    (mml : PySem.W.findIn K (.ref C) "less" = some (some (.ref fml)))
    (nml : PySem.W.isFn K (.ref fml) = true)
    (lml : K.lookup fml = some ⟨ocml, odml, .func (PySem.W.fnOf "less" "Part.less" (defArgs sLess) (defBody sLess) (defScope sLess) .none kVml dcml pmml anml cdml ctml), slml⟩)
    (cml : PySem.W.codeIn K cdml "Part.less" = true)
    (kml : PySem.W.keepIn K (.ref fml) = true)
    (mmt : PySem.W.findIn K (.ref C) "times" = some (some (.ref fmt)))
    (nmt : PySem.W.isFn K (.ref fmt) = true)
    (lmt : K.lookup fmt = some ⟨ocmt, odmt, .func (PySem.W.fnOf "times" "Part.times" (defArgs sTimes) (defBody sTimes) (defScope sTimes) .none kVmt dcmt pmmt anmt cdmt ctmt), slmt⟩)
    (cmt : PySem.W.codeIn K cdmt "Part.times" = true)
    (kmt : PySem.W.keepIn K (.ref fmt) = true)
    (mmo : PySem.W.findIn K (.ref C) "over" = some (some (.ref fmo)))
    (nmo : PySem.W.isFn K (.ref fmo) = true)
    (lmo : K.lookup fmo = some ⟨ocmo, odmo, .func (PySem.W.fnOf "over" "Part.over" (defArgs sOver) (defBody sOver) (defScope sOver) .none kVmo dcmo pmmo anmo cdmo ctmo), slmo⟩)
    (cmo : PySem.W.codeIn K cdmo "Part.over" = true)
    (kmo : PySem.W.keepIn K (.ref fmo) = true)
    (mmr : PySem.W.findIn K (.ref C) "raised" = some (some (.ref fmr)))
    (nmr : PySem.W.isFn K (.ref fmr) = true)
    (lmr : K.lookup fmr = some ⟨ocmr, odmr, .func (PySem.W.fnOf "raised" "Part.raised" (defArgs sRaised) (defBody sRaised) (defScope sRaised) .none kVmr dcmr pmmr anmr cdmr ctmr), slmr⟩)
    (cmr : PySem.W.codeIn K cdmr "Part.raised" = true)
    (kmr : PySem.W.keepIn K (.ref fmr) = true)
    (mmb : PySem.W.findIn K (.ref C) "is_below" = some (some (.ref fmb)))
    (nmb : PySem.W.isFn K (.ref fmb) = true)
    (lmb : K.lookup fmb = some ⟨ocmb, odmb, .func (PySem.W.fnOf "is_below" "Part.is_below" (defArgs sBelow) (defBody sBelow) (defScope sBelow) .none kVmb dcmb pmmb anmb cdmb ctmb), slmb⟩)
    (cmb : PySem.W.codeIn K cdmb "Part.is_below" = true)
    (kmb : PySem.W.keepIn K (.ref fmb) = true)
    (ai : PySem.W.findIn K (.ref C) "__init__" = some (some (.ref fi)))
    (ni : PySem.W.isFn K (.ref fi) = true)
    (li : K.lookup fi = some ⟨oci, odi, .func (PySem.W.fnOf "__init__" "Part.__init__" (defArgs sInit) (defBody sInit) (defScope sInit) (.ref Ti) kVi dci pmi ani cdi cti), sli⟩)
    (ci : PySem.W.codeIn K cdi "Part.__init__" = true)
    (ki : PySem.W.keepIn K (.ref fi) = true)
    (di : K.lookup Ti = some ⟨cTi, oTi, .seq #[.int 1 tki0] nTi, sTi⟩)
    (s_NN_NN : PySem.W.subIn K (.ref NN) (.ref NN) = some true)
    (s_BN_BN : PySem.W.subIn K (.ref BN) (.ref BN) = some true)
    : ∃ fd : FuncData, (∀ (s : Shared) (v : Value), BindsTo s fd ⟨[v], []⟩ [("_law_script", v)]) ∧ ∀ base : Heap, K.In base → base.Ns mainGlobals mg → FnOk l.prog w K mg base CX0 9 fa fd ["_law_script"] (spLaw K) := by
  have e := hfa.symm.trans (PySem.W.mg_of X G aL)
  cases e
  have F1 := fun_mk (st := sIsWhole) l1 c1 k1
  have b1 := F1.binds (ps := ["thing"]) fun _ _ _ _ _ _ us hl => match us, hl with | [_], _ => rfl
  have N1 := Fn.mk (ps := ["thing"]) F1 b1 (PySem.W.mg_of X G a1)
  have F0 := fun_mk (st := sNeedNum) l0 c0 k0
  have b0 := F0.binds (ps := ["thing", "least", "most"]) fun _ _ _ _ _ _ us hl => match us, hl with | [_, _, _], _ => rfl
  have N0 := Fn.mk (ps := ["thing", "least", "most"]) F0 b0 (PySem.W.mg_of X G a0)
  have F2 := fun_mk (st := sDivisor) l2 c2 k2
  have b2 := F2.binds (ps := ["one", "other"]) fun _ _ _ _ _ _ us hl => match us, hl with | [_, _], _ => rfl
  have N2 := Fn.mk (ps := ["one", "other"]) F2 b2 (PySem.W.mg_of X G a2)
  have Fu := fun_mk (st := sPower) lu cu ku
  have bu := Fu.binds (ps := ["number", "many"]) fun _ _ _ _ _ _ us hl => match us, hl with | [_, _], _ => rfl
  have Nu := Fn.mk (ps := ["number", "many"]) Fu bu (PySem.W.mg_of X G au)
  have Fz := fun_mk (st := sLowest) lz cz kz
  have bz := Fz.binds (ps := ["top", "bottom"]) fun _ _ _ _ _ _ us hl => match us, hl with | [_, _], _ => rfl
  have Nz := Fn.mk (ps := ["top", "bottom"]) Fz bz (PySem.W.mg_of X G az)
  have Fr := fun_mk (st := sLRaised) lr cr kr
  have br := Fr.binds (ps := ["_law_one", "_law_many"]) fun _ _ _ _ _ _ us hl => match us, hl with | [_, _], _ => rfl
  have Nr := Fn.mk (ps := ["_law_one", "_law_many"]) Fr br (PySem.W.mg_of X G ar)
  have Fw := fun_mk (st := sDrawn) lw cw kw
  have bw := Fw.binds (ps := ["_law_cell", "_law_sizes"]) fun _ _ _ _ _ _ us hl => match us, hl with | [_, _], _ => rfl
  have Nw := Fn.mk (ps := ["_law_cell", "_law_sizes"]) Fw bw (PySem.W.mg_of X G aw)
  have Fl := fun_mk (st := sLow) ll cl kl
  have bl := Fl.binds (ps := ["_law_top", "_law_bottom"]) fun _ _ _ _ _ _ us hl => match us, hl with | [_, _], _ => rfl
  have Nl := Fn.mk (ps := ["_law_top", "_law_bottom"]) Fl bl (PySem.W.mg_of X G al)
  have Fs := fun_mk (st := sLIs) ls cs ks
  have bs := Fs.binds (ps := ["_law_found", "_law_due"]) fun _ _ _ _ _ _ us hl => match us, hl with | [_, _], _ => rfl
  have Ns := Fn.mk (ps := ["_law_found", "_law_due"]) Fs bs (PySem.W.mg_of X G as)
  have Ff := fun_mk (st := sFraction) lf cf kf
  have bf := Ff.binds (ps := ["_law_draws"]) fun _ _ _ _ _ _ us hl => match us, hl with | [_], _ => rfl
  have Nf := Fn.mk (ps := ["_law_draws"]) Ff bf (PySem.W.mg_of X G af)
  have Fq := fun_mk (st := sNoQuot) lq cq kq
  have bq := Fq.binds (ps := ["_law_one", "_law_other"]) fun _ _ _ _ _ _ us hl => match us, hl with | [_, _], _ => rfl
  have Nq := Fn.mk (ps := ["_law_one", "_law_other"]) Fq bq (PySem.W.mg_of X G aq)
  have Fp := fun_mk (st := sNoPower) lp cp kp
  have bp := Fp.binds (ps := ["_law_one", "_law_many"]) fun _ _ _ _ _ _ us hl => match us, hl with | [_, _], _ => rfl
  have Np := Fn.mk (ps := ["_law_one", "_law_many"]) Fp bp (PySem.W.mg_of X G ap)
  have Fg := fun_mk (st := sLRight) lg cg kg
  have bg := Fg.binds (ps := ["_law_one", "_law_other", "_law_a", "_law_b"]) fun _ _ _ _ _ _ us hl => match us, hl with | [_, _, _, _], _ => rfl
  have Ng := Fn.mk (ps := ["_law_one", "_law_other", "_law_a", "_law_b"]) Fg bg (PySem.W.mg_of X G ag)
  have y0 := PySem.W.mg_none_of X G z0
  have y1 := PySem.W.mg_none_of X G z1
  have y2 := PySem.W.mg_none_of X G z2
  have y3 := PySem.W.mg_none_of X G z3
  have y4 := PySem.W.mg_none_of X G z4
  have y5 := PySem.W.mg_none_of X G z5
  have wm0 := PySem.W.mg_of X G gm0
  have CLC : Cls K C := ⟨C_pg, C_hd, C_po, C_sa⟩
  have ICC : C8.InsC K C := ⟨CLC, C_ha, q_hn, q_htk, C_hm, kit_me⟩
  have Fmp := fun_mk (st := sPlus) lmp cmp kmp
  have bmp := Fmp.binds (ps := ["self", "other"]) fun _ _ _ _ _ _ us hl => match us, hl with | [_, _], _ => rfl
  have Fml := fun_mk (st := sLess) lml cml kml
  have bml := Fml.binds (ps := ["self", "other"]) fun _ _ _ _ _ _ us hl => match us, hl with | [_, _], _ => rfl
  have Fmt := fun_mk (st := sTimes) lmt cmt kmt
  have bmt := Fmt.binds (ps := ["self", "other"]) fun _ _ _ _ _ _ us hl => match us, hl with | [_, _], _ => rfl
  have Fmo := fun_mk (st := sOver) lmo cmo kmo
  have bmo := Fmo.binds (ps := ["self", "other"]) fun _ _ _ _ _ _ us hl => match us, hl with | [_, _], _ => rfl
  have Fmr := fun_mk (st := sRaised) lmr cmr kmr
  have bmr := Fmr.binds (ps := ["self", "many"]) fun _ _ _ _ _ _ us hl => match us, hl with | [_, _], _ => rfl
  have Fmb := fun_mk (st := sBelow) lmb cmb kmb
  have bmb := Fmb.binds (ps := ["self", "other"]) fun _ _ _ _ _ _ us hl => match us, hl with | [_, _], _ => rfl
  have Fi : FunD K "__init__" "Part.__init__" (defArgs sInit) (defBody sInit) (defScope sInit) [.int 1] [] fi _ := ⟨⟨oci, odi, _, _, _, _, _, _, _, sli, rfl, li, ci, .inr ⟨by simp, Ti, _, [.int 1 tki0], nTi, rfl, di, rfl, .cons (⟨_, rfl⟩) .nil⟩, .inl rfl⟩, ki⟩
  obtain ⟨dsi3, rri3, bi3⟩ := Fi.binds1 (ps := ["self", "top", "bottom"]) 3 1 (by simp) rfl (fun T kV doc pm an cdv ct us its hl hi => match us, its, hl, hi with | [_, _, _], [_], _, _ => ⟨_, rfl, rfl⟩)
  obtain rfl : dsi3 = [] := by cases rri3; rfl
  obtain ⟨dsi2, rri2, bi2⟩ := Fi.binds1 (ps := ["self", "top", "bottom"]) 2 0 (by simp) rfl (fun T kV doc pm an cdv ct us its hl hi => match us, its, hl, hi with | [_, _], [_], _, _ => ⟨_, rfl, rfl⟩)
  obtain ⟨d1i, rfl, r1i⟩ : ∃ d1, dsi2 = [d1] ∧ RelV (.int 1) d1 := by
    cases rri2 with
    | cons r rr =>
      cases rr
      exact ⟨_, rfl, r⟩
  have MK : Mks K mg C fi f1 f2 _ _ _ d1i := ⟨⟨C_mk, ai, ni, C_kc⟩, Fi, bi3, bi2, r1i, N1, N2⟩
  have M : Ms K C fmp fml fmt fmo fmr fmb _ _ _ _ _ _ := ⟨Fmp, bmp, ⟨mmp, nmp, kmp⟩, Fml, bml, ⟨mml, nml, kml⟩, Fmt, bmt, ⟨mmt, nmt, kmt⟩, Fmo, bmo, ⟨mmo, nmo, kmo⟩, Fmr, bmr, ⟨mmr, nmr, kmr⟩, Fmb, bmb, ⟨mmb, nmb, kmb⟩⟩
  have LL : LD K mg fr fw fl fs ff fq fp fg _ _ _ _ _ _ _ _ := ⟨Nr, Nw, Nl, Ns, Nf, Nq, Np, Ng⟩
  have T : TxtP K mg C := ⟨y0, y1, y2, y3, y4, y5, ICC, C_n_top, C_n_bottom, PySem.W.mg_of X G gC⟩
  have Z : Er K mg NN BN := ⟨PySem.W.mg_of X G g_NN, PySem.W.mg_of X G g_BN, ⟨x_NN, k_NN, b_NN, t_NN, ⟨ga_NN, gt_NN, b_NN, d_NN, cl_NN, q_hn, q_htk, mo_NN⟩⟩, ⟨x_BN, k_BN, b_BN, t_BN, ⟨ga_BN, gt_BN, b_BN, d_BN, cl_BN, q_hn, q_htk, mo_BN⟩⟩, (PySem.W.exm_ref b_NN d_NN t_NN s_NN_NN), (PySem.W.exm_ref b_BN d_BN t_BN s_BN_BN), ⟨_, _, N0⟩⟩
  exact ⟨PySem.W.fnOf "law" "law" (defArgs sLaw) (defBody sLaw) (defScope sLaw) .none kVL dcL pmL anL cdL ctL, fun s v => .of_eq rfl, fun base _ _ => ok_law (fun_mk (st := sLaw) lL cL kL) MK Nz Nu M LL T Z ⟨_, wm0⟩⟩
end Hop
open PySem PySem.W PyProof.Rows in
set_option maxRecDepth 100000 in
set_option maxHeartbeats 0 in
theorem PySem.Challenge.cw_hopline_k02_parts_reckoned_holds : PySem.Challenge.rw_hopline_k02_parts_reckoned.Holds := by
  w_on; o_law; k_head; (case hw => w_witness2)
  k_fill
  refine L2.walk_of (l := PySem.Challenge.rw_hopline_k02_parts_reckoned) (n := 63) (k := 9) (x := "_law_script") (CX := fun _ => L2.CX0) (sp := fun w => Hop.spLaw _) rfl (by decide) rfl ⟨rfl, by decide, by decide⟩ (fun w h Y => PySem.W.kIn_of Y) ?F (fun _ _ a ns hl _ hS => ⟨a, ns, rfl, hS, hl, fun _ => rfl⟩) (fun _ _ _ _ _ h => h)
  case F =>
    intro w mg fa h KX G hmg
    refine' Hop.all_mk KX G hmg ?u_a1 ?u_l1 ?u_c1 ?u_k1 ?u_a0 ?u_l0 ?u_c0 ?u_k0 ?u_a2 ?u_l2 ?u_c2 ?u_k2 ?u_au ?u_lu ?u_cu ?u_ku ?u_az ?u_lz ?u_cz ?u_kz ?u_ar ?u_lr ?u_cr ?u_kr ?u_aw ?u_lw ?u_cw ?u_kw ?u_al ?u_ll ?u_cl ?u_kl ?u_as ?u_ls ?u_cs ?u_ks ?u_af ?u_lf ?u_cf ?u_kf ?u_aq ?u_lq ?u_cq ?u_kq ?u_ap ?u_lp ?u_cp ?u_kp ?u_ag ?u_lg ?u_cg ?u_kg ?u_aL ?u_lL ?u_cL ?u_kL ?u_z0 ?u_z1 ?u_z2 ?u_z3 ?u_z4 ?u_z5 ?u_gm0 ?u_g_NN ?u_g_BN ?u_d_NN ?u_t_NN ?u_d_BN ?u_t_BN ?u_b_BN ?u_b_NN ?u_q_hn ?u_q_htk ?u_x_NN ?u_k_NN ?u_ga_NN ?u_gt_NN ?u_cl_NN ?u_mo_NN ?u_x_BN ?u_k_BN ?u_ga_BN ?u_gt_BN ?u_cl_BN ?u_mo_BN ?u_gC ?u_C_pg ?u_C_hd ?u_C_po ?u_C_sa ?u_C_mk ?u_C_kc ?u_C_ha ?u_C_hm ?u_C_n_top ?u_C_n_bottom ?u_mmp ?u_nmp ?u_lmp ?u_cmp ?u_kmp ?u_mml ?u_nml ?u_lml ?u_cml ?u_kml ?u_mmt ?u_nmt ?u_lmt ?u_cmt ?u_kmt ?u_mmo ?u_nmo ?u_lmo ?u_cmo ?u_kmo ?u_mmr ?u_nmr ?u_lmr ?u_cmr ?u_kmr ?u_mmb ?u_nmb ?u_lmb ?u_cmb ?u_kmb ?u_ai ?u_ni ?u_li ?u_ci ?u_ki ?u_di ?u_s_NN_NN ?u_s_BN_BN
    (case u_a1 => k_is)
    (case u_l1 => k_is)
    (case u_c1 => k_is)
    (case u_k1 => k_is)
    (case u_a0 => k_is)
    (case u_l0 => k_is)
    (case u_c0 => k_is)
    (case u_k0 => k_is)
    (case u_a2 => k_is)
    (case u_l2 => k_is)
    (case u_c2 => k_is)
    (case u_k2 => k_is)
    (case u_au => k_is)
    (case u_lu => k_is)
    (case u_cu => k_is)
    (case u_ku => k_is)
    (case u_az => k_is)
    (case u_lz => k_is)
    (case u_cz => k_is)
    (case u_kz => k_is)
    (case u_ar => k_is)
    (case u_lr => k_is)
    (case u_cr => k_is)
    (case u_kr => k_is)
    (case u_aw => k_is)
    (case u_lw => k_is)
    (case u_cw => k_is)
    (case u_kw => k_is)
    (case u_al => k_is)
    (case u_ll => k_is)
    (case u_cl => k_is)
    (case u_kl => k_is)
    (case u_as => k_is)
    (case u_ls => k_is)
    (case u_cs => k_is)
    (case u_ks => k_is)
    (case u_af => k_is)
    (case u_lf => k_is)
    (case u_cf => k_is)
    (case u_kf => k_is)
    (case u_aq => k_is)
    (case u_lq => k_is)
    (case u_cq => k_is)
    (case u_kq => k_is)
    (case u_ap => k_is)
    (case u_lp => k_is)
    (case u_cp => k_is)
    (case u_kp => k_is)
    (case u_ag => k_is)
    (case u_lg => k_is)
    (case u_cg => k_is)
    (case u_kg => k_is)
    (case u_aL => k_is)
    (case u_lL => k_is)
    (case u_cL => k_is)
    (case u_kL => k_is)
    (case u_z0 => k_is)
    (case u_z1 => k_is)
    (case u_z2 => k_is)
    (case u_z3 => k_is)
    (case u_z4 => k_is)
    (case u_z5 => k_is)
    (case u_gm0 => k_is)
    (case u_g_NN => k_is)
    (case u_g_BN => k_is)
    (case u_d_NN => k_is)
    (case u_t_NN => k_is)
    (case u_d_BN => k_is)
    (case u_t_BN => k_is)
    (case u_b_BN => k_is)
    (case u_b_NN => k_is)
    (case u_q_hn => k_is)
    (case u_q_htk => k_is)
    (case u_x_NN => k_exc)
    (case u_k_NN => k_is)
    (case u_ga_NN => k_is)
    (case u_gt_NN => k_is)
    (case u_cl_NN => k_is)
    (case u_mo_NN => k_is)
    (case u_x_BN => k_exc)
    (case u_k_BN => k_is)
    (case u_ga_BN => k_is)
    (case u_gt_BN => k_is)
    (case u_cl_BN => k_is)
    (case u_mo_BN => k_is)
    (case u_gC => k_is)
    (case u_C_pg => k_is)
    (case u_C_hd => k_is)
    (case u_C_po => k_is)
    (case u_C_sa => k_is)
    (case u_C_mk => k_is)
    (case u_C_kc => k_is)
    (case u_C_ha => k_is)
    (case u_C_hm => k_is)
    (case u_C_n_top => k_is)
    (case u_C_n_bottom => k_is)
    (case u_mmp => k_is)
    (case u_nmp => k_is)
    (case u_lmp => k_is)
    (case u_cmp => k_is)
    (case u_kmp => k_is)
    (case u_mml => k_is)
    (case u_nml => k_is)
    (case u_lml => k_is)
    (case u_cml => k_is)
    (case u_kml => k_is)
    (case u_mmt => k_is)
    (case u_nmt => k_is)
    (case u_lmt => k_is)
    (case u_cmt => k_is)
    (case u_kmt => k_is)
    (case u_mmo => k_is)
    (case u_nmo => k_is)
    (case u_lmo => k_is)
    (case u_cmo => k_is)
    (case u_kmo => k_is)
    (case u_mmr => k_is)
    (case u_nmr => k_is)
    (case u_lmr => k_is)
    (case u_cmr => k_is)
    (case u_kmr => k_is)
    (case u_mmb => k_is)
    (case u_nmb => k_is)
    (case u_lmb => k_is)
    (case u_cmb => k_is)
    (case u_kmb => k_is)
    (case u_ai => k_is)
    (case u_ni => k_is)
    (case u_li => k_is)
    (case u_ci => k_is)
    (case u_ki => k_is)
    (case u_di => k_is)
    (case u_s_NN_NN => k_is)
    (case u_s_BN_BN => k_is)
