import PyProof.Rows.All
import Wide.All
import OpenK.AllK
import Wide.FinOn
import HandS.ForMost
import HandS.Wide
import HandS.Style
import HandS.RevTup
import HandS.Rev
import HandS.IsInst
import HandS.More
import HandS.Conv
import HandS.Defaults
import HandS.ForExc
import HandS.OwnEq
import HandS.Flow
import PyProof.ListStr
import HandS.Walk
import HandS.EndBits
import PyProof.ReprRoads
import PyProof.ReprLen
import HandS.Exc
import HandS.ExcIs
import HandS.TryOnly
import HandS.ExcOwn
import HandS.WordsExc
import KE.KExcInit
import HandS.ExcInit
import HandS.ExcField
import KE.KExcIs
import PySem.Challenge.RW_hopline_k10_walls_refused
import KE.KExcLine

set_option Elab.async false
set_option linter.all false
set_option maxRecDepth 100000
namespace HopR
open PySem PySem.Spec PyProof.Rows L2
/-! rules of my own: texts -/
/-- the signs of a text, each a text -/
def sg (z : Str) : List Str := z.cps.toList.map fun c => ⟨#[c]⟩
theorem sg_len (z : Str) : (sg z).length = z.length := by
  unfold sg
  rw [List.length_map]
  rfl
theorem sg_get {z : Str} {i : Nat} {c : Nat} (h : z.cps[i]? = some c) : (sg z)[i]? = some ⟨#[c]⟩ := by
  unfold sg
  rw [List.getElem?_map, Array.getElem?_toList, h]
  rfl
theorem strsAre_of : ∀ (vs : List Value) (ys : List Str), vs.length = ys.length → (∀ (j : Nat) (v : Value), vs[j]? = some v → ∃ y t, ys[j]? = some y ∧ v = .str y t) → StrsAre vs ys
  | [], [], _, _ => .nil
  | v :: r, y :: q, hl, h => by
    obtain ⟨y', t, e1, e2⟩ := h 0 v rfl
    have e3 : y = y' := Option.some.inj e1
    subst e3 e2
    exact .cons y t (strsAre_of r q (by simpa using hl) fun j w hw => h (j + 1) w hw)
theorem signs_are {z : Str} {acc : Array Value} (h : ItemsOf (SignAt z) acc z.cps.size) : StrsAre acc.toList (sg z) := by
  refine strsAre_of _ _ (by rw [sg_len, Array.length_toList, h.1]; rfl) fun j v hv => ?_
  obtain ⟨c, u, hc, e⟩ := h.2 j v (by rw [← Array.getElem?_toList]; exact hv)
  exact ⟨⟨#[c]⟩, u, sg_get hc, e⟩
section
variable {X : Cx}
/-- sorted(text) -/
def rSortT : List V → Hp → VK → Prop := fun vs H Q => ∃ z : Str, vs = [.str z] ∧ z.length < 64 ∧ ∀ (ys : List Str) (p : Addr), ys.Perm (sg z) → sortedS ys = true → H p = none → Q (.ref p) (upd H p (.lst (ys.map V.str)))
theorem cr_sortT (hcm : X.calm = true) : CallR X (.builtin "sorted") rSortT := by
  intro pins s σ H xs us Q I r h
  obtain ⟨z, rfl, h64, q⟩ := h
  obtain ⟨u, rfl, t, rfl⟩ := vals1 r
  refine Calls.call_function_entry kind_sorted plain_sorted entry_sorted (args_sorted1 (.str z t)) ?_
  unfold Builtin.«sorted»
  refine wpAny_bind (m := checkCount "sorted" 1 1 [Value.str z t].length) (wpAny_pure ?_)
  have hz : z.cps.size < 64 := h64
  refine wpAny_bind (wpAny_collect_str (A := X.A.in1) (show X.A.in1.handled = none from I.ok.hd hcm) z t (fun s' acc hk hg hdr hos hit => ?_) (Nat.le_trans (Nat.le_of_lt hz) (by decide)))
  have hS := signs_are hit
  have es : s' = { s with heap := s'.heap, toks := s'.toks } := by
    cases s'
    cases s
    simp only at hg hdr hos
    subst hg hdr hos
    rfl
  have hal : acc.toList.length < 64 := by rw [Array.length_toList, hit.1]; exact hz
  refine wpAny_bind (wpAny_newList ?_ (Nat.le_trans (Nat.le_of_lt hal) (by decide)))
  have hoL : (s'.heap.push (seqObj "list" acc.toList.toArray 0)).get? s'.heap.objs.size = some (seqObj "list" acc.toList.toArray 0) := Heap.get?_push_size _ rfl
  refine wpAny_bind (wpAny_holding (wpAny_call_entry slot_list_sort ⟨_, hoL, rfl⟩ entry_list_sort (list_sort_treeK strKind_oneLt hoL hS.keysOf (fun v₁ v₂ rest e => keyKind_strs (by rw [← e]; exact hS)) hal fun st' hp hs => ⟨_, rfl, ?_⟩) (args_list_sort _)))
  obtain ⟨ys, g1, g2, g3⟩ := sorted_out_str hS hp hs
  obtain ⟨ep, he'⟩ := sortedHeap_at (vs := acc.toList) (out := (arrOf st').map (·.2)) hoL
  have I1 : Inv X pins σ H s' := by
    rw [es]
    exact I.kept hk
  have hlen : (ys.map V.str).length ≤ sizeLine := by
    rw [List.length_map, g2.length_eq, sg_len]
    exact Nat.le_trans (Nat.le_of_lt h64) (by decide)
  have hne : ∀ b o, s'.heap.get? b = some o → (sortedHeap (s'.heap.push (seqObj "list" acc.toList.toArray 0)) s'.heap.objs.size acc.toList ((arrOf st').map (·.2))).get? b = some o := fun b o e => by
    rw [sortedHeap_old (Nat.ne_of_lt (Heap.lt_size e)) (by rw [size_push']; exact Nat.lt_succ_of_lt (Heap.lt_size e))]
    exact Heap.get?_push_of_some _ e
  refine wpAny_pure ⟨_, rfl, .ref _, upd H s'.heap.objs.size (.lst (ys.map V.str)), I1.laid (t' := s'.toks) hne (Nat.le_refl _) ?_, rfl, q ys _ g2 g3 (I1.hok.fresh (Nat.le_refl _))⟩
  exact ⟨hlen, ((arrOf st').map (·.2)).toList, ep, vals_of_strs g1, by rw [Array.toArray_toList]; exact he'⟩
/-- list(text) -/
def rListT : List V → Hp → VK → Prop := fun vs H Q => ∃ z : Str, vs = [.str z] ∧ z.length ≤ sizeLine ∧ ∀ p : Addr, H p = none → Q (.ref p) (upd H p (.lst ((sg z).map V.str)))
theorem cr_listT (hcm : X.calm = true) : CallR X (.type "list") rListT := by
  intro pins s σ H xs us Q I r h
  obtain ⟨z, rfl, hz, q⟩ := h
  obtain ⟨u, rfl, t, rfl⟩ := vals1 r
  refine call_list_str (I.ok.hd hcm) z t (fun h' tk acc c' hk hS' hit => ?_) hz
  refine ⟨.ref _, upd H s.heap.objs.size (.lst ((sg z).map V.str)), I.laid hk (Nat.le_refl _) ?_, rfl, q _ (I.hok.fresh (Nat.le_refl _))⟩
  exact ⟨by rw [List.length_map, sg_len]; exact hz, acc.toList, c', vals_of_strs (signs_are hit), by rw [Array.toArray_toList]; exact hS'⟩
/-- text * n -/
def repS (z : Str) (n : Nat) : Str := ⟨((List.replicate n z.cps.toList).flatten).toArray⟩
theorem foldl_app : ∀ (n : Nat) (a b : Array Nat), ((List.replicate n a).foldl (· ++ ·) b).toList = b.toList ++ (List.replicate n a.toList).flatten
  | 0, a, b => by simp
  | n + 1, a, b => by
    rw [List.replicate_succ, List.foldl_cons, foldl_app n, List.replicate_succ, List.flatten_cons, Array.toList_append, List.append_assoc]
theorem repS_len (z : Str) (k : Nat) : (repS z k).length = z.length * k := by
  show ((List.replicate k z.cps.toList).flatten).toArray.size = z.cps.size * k
  rw [List.size_toArray, List.length_flatten, List.map_replicate, List.sum_replicate_nat, Array.length_toList, Nat.mul_comm]
def rRepS : R2 := fun x y H Q => ∃ (z : Str) (k : Nat), x = .str z ∧ y = .int (k : Int) ∧ z.length * k ≤ 1000000 ∧ k ≤ 1000000 ∧ Q (.str (repS z k)) H
theorem op_repS : OpR X (binaryOp .Mult) rRepS := by
  intro pins s σ H x y v u Q I rx ry h
  obtain ⟨z, k, rfl, rfl, hz, hk, q⟩ := h
  obtain ⟨t, rfl⟩ := rx
  obtain ⟨t', rfl⟩ := ry
  refine PySem.P.mul_str ?_ ?_ ?_ ?_
  · rw [decide_eq_false (by omega), decide_eq_false (by omega)]
    rfl
  · intro h1 _
    have h0 : (0 : Int) < (k : Int) := by omega
    have h2 : ((z.length * k : Nat) : Int) ≤ 2 ^ 63 - 1 := by omega
    rw [Int.natCast_mul] at h2
    have h3 := (Int.le_ediv_iff_mul_le h0).mpr h2
    omega
  · intro _ _
    unfold Builtin.Str.tooLong
    rw [Int.toNat_natCast, sizeLine_eq]
    exact decide_eq_false (by omega)
  · by_cases h1 : (k : Int) < 1
    · rw [if_pos h1]
      have e : repS z k = Str.empty := by
        have : k = 0 := by omega
        subst this
        rfl
      rw [e] at q
      exact ⟨by decide, .str _, H, I.tok _, ⟨_, rfl⟩, q⟩
    · rw [if_neg h1]
      by_cases h2 : ((k : Int) == 1 || z.length == 0) = true
      · rw [if_pos h2]
        have e : repS z k = z := by
          rw [Bool.or_eq_true] at h2
          rcases h2 with h2 | h2
          · have h3 : (k : Int) = 1 := by simpa using h2
            have h4 : k = 1 := by omega
            subst h4
            unfold repS
            simp
          · have h3 : z.length = 0 := by simpa using h2
            have h4 : z.cps = #[] := Array.eq_empty_of_size_eq_zero h3
            unfold repS
            cases z with | mk zc =>
            simp only at h4
            subst h4
            simp
        rw [e] at q
        exact ⟨.str z, H, I, ⟨t, rfl⟩, q⟩
      · rw [if_neg h2]
        have e : (⟨(List.replicate (k : Int).toNat z.cps).foldl (· ++ ·) #[]⟩ : Str) = repS z k := by
          unfold repS
          rw [Int.toNat_natCast, ← Array.toArray_toList (xs := (List.replicate k z.cps).foldl (· ++ ·) #[]), foldl_app]
          rfl
        rw [e]
        have hl : (repS z k).length ≤ sizeLine := by
          rw [repS_len, sizeLine_eq]
          omega
        exact ⟨hl, .str _, H, I.tok _, ⟨_, rfl⟩, q⟩
/-- text[::-1] -/
def revS (z : Str) : Str := ⟨z.cps.toList.reverse.toArray⟩
theorem revS_len (z : Str) : (revS z).length = z.length := by
  show z.cps.toList.reverse.toArray.size = z.cps.size
  rw [List.size_toArray, List.length_reverse, Array.length_toList]
theorem rev_pick (z : Str) : (⟨((PySem.Builtin.Str.strSliceIndices none none (-1) z.length).filterMap (z.cps[·]?)).toArray⟩ : Str) = revS z := by
  unfold revS
  have e : PySem.Builtin.Str.strSliceIndices none none (-1) z.length = (List.range z.length).reverse := by
    rw [← PySem.W.krv_range, ← PySem.W.krv_sliceRange]
    rfl
  have e2 := PySem.W.krv_all z.cps
  rw [e, List.filterMap_reverse]
  show (⟨((List.range z.cps.size).filterMap (z.cps[·]?)).reverse.toArray⟩ : Str) = _
  rw [e2]
def tRevS (te : TE) : TE := fun σ H Q => te σ H fun x H1 => ∃ z : Str, x = .str z ∧ z.length ≤ sizeLine ∧ Q (.str (revS z)) H1
theorem pe_revS {e : Expr} {te : TE} {k : Nat} {p1 p2 p3 pos : Pos} (he : PE X e te) : PE X (.Subscript e (.Slice none none (some (.UnaryOp .USub (.Constant (.int 1) k p1) p2)) p3) pos) (tRevS te) := by
  refine ⟨fun pins s σ H Q I h => Subscript_ (thn (he.run pins s σ H _ I h) fun v s1 ⟨x, H1, I1, r1, z, ex, hz, q⟩ => ?_)⟩
  subst ex
  obtain ⟨t, rfl⟩ := r1
  have hst : PO X (some (.UnaryOp .USub (.Constant (.int 1) k p1) p2)) (tPart (tUn (rU fun i => .int (-i)) (tC (.int 1)))) := po_some (pe_un un_neg pe_int)
  refine wpAny_Slice (thn (po_none.run pins s1 σ H1 (fun o K2 => o = none ∧ K2 = H1) I1 ⟨rfl, rfl⟩) fun vl s2 ⟨l, H2, I2, pl, el, e2⟩ => ?_)
  subst el e2
  refine thn (po_none.run pins s2 σ H2 (fun o K3 => o = none ∧ K3 = H2) I2 ⟨rfl, rfl⟩) fun vu s3 ⟨u, H3, I3, pu, eu, e3⟩ => ?_
  subst eu e3
  refine thn (hst.run pins s3 σ H3 (fun o K4 => o = some (-1) ∧ K4 = H3) I3 ⟨1, rfl, -1, rfl, rfl, rfl⟩) fun vs s4 ⟨o, H4, I4, ps, eo, e4⟩ => ?_
  subst eo e4
  obtain ⟨l, rfl, hl⟩ := IsPart.raw pl
  obtain ⟨u, rfl, hu⟩ := IsPart.raw pu
  obtain ⟨st, rfl, hst'⟩ := IsPart.raw ps
  have I5 : Inv X pins σ H4 { s4 with heap := s4.heap.push { cls := .type "slice", data := .fields #[partValue l, partValue u, partValue st] } } := I4.kept (t' := s4.toks) fun b ob qq => Heap.get?_push_of_some _ qq
  show wpAny (model X.prog X.w) X.A (subscriptTail e (.Slice none none (some (.UnaryOp .USub (.Constant (.int 1) k p1) p2)) p3) (.str z t) (.ref s4.heap.objs.size)) (EP X pins σ Q) X.xe { s4 with heap := s4.heap.push { cls := .type "slice", data := .fields #[partValue l, partValue u, partValue st] } }
  refine tail_any (ops := [.ref s4.heap.objs.size, .str z t]) (T := "str") (typeIs_str _ _ _) F.slot_str_getitem.lookup ?_ (by with_unfolding_all rfl)
  refine wpAny_getItem_str_slice (l := l) (u := u) (st := st) (Heap.IsSliceOf.new ..) (by rw [hst']; decide) ?_
  have em : sliceMade z t l u st = .str (revS z) := by
    unfold sliceMade slicePicked
    rw [hst', hl, hu]
    rw [if_neg (by simp)]
    rw [← rev_pick z]
    rfl
  rw [em]
  exact ⟨by rw [revS_len]; exact hz, .str _, H4, I5.tok _, ⟨_, rfl⟩, q⟩
end
end HopR

set_option Elab.async false
set_option linter.all false
set_option maxRecDepth 100000
namespace HopR
open PySem PySem.Spec PyProof.Rows L2
/-! rows as lists of truths -/
def cd (b : Bool) : Nat := if b then 111 else 46
def tx (bs : List Bool) : Str := ⟨(bs.map cd).toArray⟩
theorem cd_inj {a b : Bool} (h : cd a = cd b) : a = b := by
  cases a <;> cases b <;> first | rfl | (exact absurd h (by decide))
theorem map_cd_inj : ∀ {as bs : List Bool}, as.map cd = bs.map cd → as = bs
  | [], [], _ => rfl
  | [], _ :: _, h => by simp at h
  | _ :: _, [], h => by simp at h
  | a :: r, b :: q, h => by
    rw [List.map_cons, List.map_cons] at h
    injection h with h1 h2
    rw [cd_inj h1, map_cd_inj h2]
theorem tx_inj {as bs : List Bool} (h : tx as = tx bs) : as = bs := by
  unfold tx at h
  injection h with h
  exact map_cd_inj (by simpa using congrArg Array.toList h)
theorem tx_len (bs : List Bool) : (tx bs).length = bs.length := by
  show (bs.map cd).toArray.size = bs.length
  rw [List.size_toArray, List.length_map]
theorem tx_list (bs : List Bool) : (tx bs).cps.toList = bs.map cd := rfl
theorem tx_get {bs : List Bool} {i : Nat} {b : Bool} (h : bs[i]? = some b) : (tx bs).cps[i]? = some (cd b) := by
  show (bs.map cd).toArray[i]? = some (cd b)
  rw [List.getElem?_toArray, List.getElem?_map, h]
  rfl
theorem ext_str {a b : Str} (h : a.cps.toList = b.cps.toList) : a = b := by
  cases a with | mk x =>
  cases b with | mk y =>
  have e : x = y := Array.toList_inj.mp h
  rw [e]
theorem tx_app (as bs : List Bool) : tx as ++ tx bs = tx (as ++ bs) := by
  apply ext_str
  show ((as.map cd).toArray ++ (bs.map cd).toArray).toList = (as ++ bs).map cd
  rw [Array.toList_append, List.map_append]
theorem tx_rev (bs : List Bool) : revS (tx bs) = tx bs.reverse := by
  unfold revS tx
  simp
theorem tx_sg (bs : List Bool) : sg (tx bs) = bs.map fun b => tx [b] := by
  unfold sg
  rw [tx_list, List.map_map]
  rfl
theorem tx_o : ("o" : Str) = tx [true] := by decide +kernel
theorem tx_f : ("." : Str) = tx [false] := by decide +kernel
/-- a row walked sign by sign: a turn's sign is the text of that place's truth -/
theorem walk_tx {bs : List Bool} : Walk (Its (tx bs)) bs.length (fun _ => True) (fun i H v H' => H' = H ∧ ∃ b, bs[i]? = some b ∧ v = .str (tx [b])) := by
  have w := walk_str (z := tx bs)
  rw [show (tx bs).cps.size = bs.length from tx_len bs] at w
  refine w.mono (fun _ g => g) fun i H x H' hi _ y => ?_
  obtain ⟨e1, c, e2, e3⟩ := y
  have hb : bs[i]? = some bs[i] := List.getElem?_eq_getElem hi
  rw [tx_get hb] at e2
  cases e2
  exact ⟨e1, _, hb, e3⟩
def for_tx {bs : List Bool} {g : TG} {tb : TS} {D : Ends} {σ : L2.St} {H : Hp} (Pv : Nat → L2.St → Hp → Prop) (h0 : Pv 0 σ H)
    (hs : ∀ i b σ H, bs[i]? = some b → Pv i σ H → g (.str (tx [b])) σ H fun σ2 H2 => tb { D with nx := Pv (i + 1), ct := Pv (i + 1), bk := D.nx } σ2 H2) (hd : ∀ σ H, Pv bs.length σ H → D.nx σ H) :=
  for_it (walk_tx (bs := bs)) (g := g) (tb := tb) (D := D) (σ := σ) (H := H) Pv h0 (fun _ _ _ _ _ => trivial)
    (fun i x σ H H' _ p y => by
      obtain ⟨e1, b, hb, e2⟩ := y
      subst e1 e2
      exact hs i b σ _ hb p) hd
def lc_tx {bs : List Bool} {g : TG} {tt : TT} {te : TE} {vs : List Nat} {σ : L2.St} {H1 : Hp} {D : Addr} {Qd : Hp → Prop} (Pv : Nat → Hp → Prop) (h0 : Pv 0 (upd H1 D (.lst [])))
    (hs : ∀ i b H, bs[i]? = some b → Pv i H → g (.str (tx [b])) (wipe σ vs) H fun σ2 H2 => wipe σ2 vs = wipe σ vs ∧ tt σ2 H2 fun kept H3 =>
      if kept = true then (te σ2 H3 fun y H4 => ∃ acc, H4 D = some (.lst acc) ∧ acc.length < sizeLine ∧ Pv (i + 1) (upd H4 D (.lst (acc ++ [y])))) else Pv (i + 1) H3)
    (hd : ∀ H, Pv bs.length H → Qd H) :=
  lc_it (walk_tx (bs := bs)) (g := g) (tt := tt) (te := te) (vs := vs) (σ := σ) (H1 := H1) (D := D) (Qd := Qd) Pv h0 (fun _ _ _ _ => trivial)
    (fun i x H H' _ p y => by
      obtain ⟨e1, b, hb, e2⟩ := y
      subst e1 e2
      exact hs i b _ hb p) hd
end HopR

set_option Elab.async false
set_option linter.all false
set_option maxRecDepth 100000
namespace HopR
open PySem PySem.Spec PyProof.Rows L2 TL
theorem joinL_nil : ∀ ps : List (List Nat), joinL [] ps = ps.flatten
  | [] => rfl
  | [p] => by
    show p = p ++ []
    rw [List.append_nil]
  | p :: q :: r => by
    show p ++ ([] ++ joinL [] (q :: r)) = p ++ (q :: r).flatten
    rw [List.nil_append, joinL_nil (q :: r)]
theorem join0_list (ys : List Str) : (Txt.join "" ys).cps.toList = (ys.map fun y => y.cps.toList).flatten := by
  have e : Txt.join "" ys = Str.join "" ys := PySem.StrLaws.glued_eq_join "" ys
  rw [e]
  have h := tl_join "" ys
  have h2 : tl ("" : Str) = [] := by decide +kernel
  rw [h2, joinL_nil] at h
  exact h
theorem join_tx (bs : List Bool) : Txt.join "" (bs.map fun b => tx [b]) = tx bs := by
  apply ext_str
  rw [join0_list, List.map_map, tx_list]
  induction bs with
  | nil => rfl
  | cons b r ih =>
    rw [List.map_cons, List.flatten_cons, ih]
    rfl
theorem sum_ones : ∀ bs : List Bool, ((bs.map fun b => tx [b]).map (·.length)).sum = bs.length
  | [] => rfl
  | b :: r => by
    rw [List.map_cons, List.map_cons, List.sum_cons, sum_ones r, tx_len]
    show 1 + r.length = r.length + 1
    omega
theorem join_fits {bs : List Bool} (h : bs.length ≤ 1000) : ((bs.map fun b => tx [b]).map (·.length)).sum + (bs.map fun b => tx [b]).length * ("" : Str).length ≤ 16777216 := by
  have e : ("" : Str).length = 0 := by decide +kernel
  rw [sum_ones, e, Nat.mul_zero]
  omega
theorem cut_tx (bs : List Bool) (lo hi : Option Int) : cutS (tx bs) lo hi = tx ((bs.drop (HT.sIx bs.length 0 lo)).take (HT.sIx bs.length bs.length hi - HT.sIx bs.length 0 lo)) := by
  apply ext_str
  unfold cutS
  rw [tx_len, tx_list, tx_list, List.map_take, List.map_drop]
theorem cut_to (bs : List Bool) (k : Nat) : cutS (tx bs) none (some (k : Int)) = tx (bs.take k) := by
  rw [cut_tx, HT.sIx_none, HT.sIx_nat, List.drop_zero, Nat.sub_zero]
  by_cases h : k ≤ bs.length
  · rw [Nat.min_eq_left h]
  · rw [Nat.min_eq_right (by omega), List.take_length, List.take_of_length_le (by omega)]
theorem cut_from (bs : List Bool) (k : Nat) : cutS (tx bs) (some (k : Int)) none = tx (bs.drop k) := by
  rw [cut_tx, HT.sIx_none, HT.sIx_nat]
  by_cases h : k ≤ bs.length
  · rw [Nat.min_eq_left h, List.take_of_length_le (by rw [List.length_drop]; exact Nat.le_refl _)]
  · rw [Nat.min_eq_right (by omega), List.drop_length, List.drop_of_length_le (by omega), List.take_nil]
theorem cut_at (bs : List Bool) (k m : Nat) : cutS (tx bs) (some (k : Int)) (some ((k : Int) + (m : Int))) = tx ((bs.drop k).take m) := by
  have e : ((k : Int) + (m : Int)) = ((k + m : Nat) : Int) := by omega
  rw [e, cut_tx, HT.sIx_nat, HT.sIx_nat]
  by_cases h : k ≤ bs.length
  · rw [Nat.min_eq_left h]
    by_cases h2 : k + m ≤ bs.length
    · rw [Nat.min_eq_left h2, Nat.add_sub_cancel_left]
    · rw [Nat.min_eq_right (by omega), List.take_of_length_le (by rw [List.length_drop]; exact Nat.le_refl _), List.take_of_length_le (by rw [List.length_drop]; omega)]
  · rw [Nat.min_eq_right (by omega), Nat.min_eq_right (by omega), List.drop_length, List.drop_of_length_le (by omega), List.take_nil, List.take_nil]
theorem cut_mid (bs : List Bool) (h : 2 ≤ bs.length) : cutS (tx bs) (some 1) (some (-1)) = tx ((bs.drop 1).take (bs.length - 2)) := by
  rw [cut_tx]
  have e1 : HT.sIx bs.length 0 (some 1) = 1 := by
    rw [show (some (1 : Int)) = some ((1 : Nat) : Int) from rfl, HT.sIx_nat]
    omega
  have e2 : HT.sIx bs.length bs.length (some (-1)) = bs.length - 1 := by
    show (if (-1 : Int) < 0 then ((-1 : Int) + (bs.length : Int)).toNat else min (-1 : Int).toNat bs.length) = bs.length - 1
    rw [if_pos (by decide)]
    omega
  rw [e1, e2]
  congr 2
/-! ### rows: walls, changes, the mirror -/
def ends (bs : List Bool) : List Bool := true :: (bs ++ [false])
theorem ends_len (bs : List Bool) : (ends bs).length = bs.length + 2 := by
  unfold ends
  rw [List.length_cons, List.length_append]
  rfl
def opn (bs : List Bool) (k : Nat) : Bool := decide (((ends bs).drop k).take 2 = [true, false])
def walls (bs : List Bool) : List Nat := (List.range (bs.length + 1)).filter (opn bs)
def bhd (bs : List Bool) (k : Nat) : List Bool := (ends bs).take k ++ [false] ++ [true] ++ (ends bs).drop (k + 2)
def chg (bs : List Bool) (k : Nat) : List Bool := ((bhd bs k).drop 1).take ((bhd bs k).length - 2)
def mir (bs : List Bool) : List Bool := bs.reverse.map (!·)
def num (bs : List Bool) : Int := bs.foldl (fun n b => n * 2 + (if b then 1 else 0)) 0
theorem mem_walls {bs : List Bool} {k : Nat} : k ∈ walls bs ↔ k ≤ bs.length ∧ opn bs k = true := by
  unfold walls
  rw [List.mem_filter, List.mem_range, Nat.lt_succ_iff]
theorem mir_len (bs : List Bool) : (mir bs).length = bs.length := by
  unfold mir
  rw [List.length_map, List.length_reverse]
theorem walls_len (bs : List Bool) : (walls bs).length ≤ bs.length + 1 := by
  unfold walls
  exact Nat.le_trans (List.length_filter_le _ _) (by rw [List.length_range]; exact Nat.le_refl _)
theorem bhd_len {bs : List Bool} {k : Nat} (h : k ≤ bs.length) : (bhd bs k).length = bs.length + 2 := by
  unfold bhd
  rw [List.length_append, List.length_append, List.length_append, List.length_take, List.length_drop, ends_len]
  show min k (bs.length + 2) + 1 + 1 + (bs.length + 2 - (k + 2)) = bs.length + 2
  omega
theorem chg_len {bs : List Bool} {k : Nat} (h : k ≤ bs.length) : (chg bs k).length = bs.length := by
  unfold chg
  rw [List.length_take, List.length_drop, bhd_len h]
  omega
end HopR

set_option Elab.async false
set_option linter.all false
set_option maxRecDepth 100000
namespace HopR
open PySem PySem.Spec PyProof.Rows L2
/-! ### defs that are called where no repr is under way -/
/-- the promise sp of the def at f, kept wherever it is called while no repr is under way -/
structure FnOkG (P : Program) (w : World) (K : PySem.W.Frag) (mg : Str → Option Value) (base : Heap) (CX : CXT) (k : Nat) (f : Addr) (fd : FuncData) (ps : List Str) (sp : Sp) : Prop where
  arity : ∀ {vs H Q E}, sp vs H Q E → vs.length = ps.length
  calls : ∀ {A : Around} {outer : List Env} {s : Shared} {H : Hp} {args : Args} {us : List Value} {vs : List V} {Q : VK} {E : XK}, A.guards = some [] → Room k A → Env0 P w K mg base A outer s H →
    BindsTo s fd args (ps.zip us) → Vals vs us → sp vs H Q E → codeAny (model P w) A (.call (.ref f) args) (CR CX outer P w H s Q E) s
section
variable {P : Program} {w : World} {K : PySem.W.Frag} {mg : Str → Option Value} {base : Heap}
theorem FnOkG.of {CX : CXT} {k : Nat} {f : Addr} {fd : FuncData} {ps : List Str} {sp : Sp} (F : FnOk P w K mg base CX k f fd ps sp) : FnOkG P w K mg base CX k f fd ps sp where
  arity h := F.len _ _ _ _ h
  calls _ room e0 bind vals prom := F.run _ _ _ _ _ _ _ _ _ room e0 bind vals prom
/-- what the body's end says to the caller -/
theorem ends_say {CX : CXT} {N : List Str} {qual : Str} {scope : Scope} {f : Addr} {cdv : Value} {A : Around} {outer : List Env} {s : Shared} {H : Hp} {Q : VK} {E : XK} {fl : Flow} {s' : Shared}
    (h : SP (cxOf CX P w K mg base N qual scope f cdv A outer s H E) [] { nx := fun _ H' => Q .non H', rt := Q } fl s') :
    match fl with | .ret u => CE outer P w H s Q u s' | .next => CE outer P w H s Q Value.none s' | _ => False := by
  match fl, h with
  | .ret u, ⟨v, σ', H', J, rv, g⟩ => exact ⟨v, H', J.os, J.bare, J.base, J.hok, rv, g⟩
  | .next, ⟨σ', H', J, g⟩ => exact ⟨V.non, H', J.os, J.bare, J.base, J.hok, rfl, g⟩
  | .brk, ⟨_, _, _, g⟩ => exact g
  | .cont, ⟨_, _, _, g⟩ => exact g
theorem okG {x qual : Str} {st : Stmt} {f : Addr} {fd : FuncData} {N ps : List Str} {k : Nat} {sp : Sp} (F : Fun K x qual st f fd) (S : FnScope N ps (defScope st)) (len : ∀ vs H Q E, sp vs H Q E → vs.length = ps.length)
    (body : ∀ (cdv : Value) (A : Around) (outer : List Env) (s : Shared) (H : Hp) (vs : List V) (Q : VK) (E : XK), A.guards = some [] → Room k (A.deeper (envOfC qual (defScope st) s.heap.objs.size f cdv)) → sp vs H Q E →
      ∃ t, PSs (cxOf CX0 P w K mg base N qual (defScope st) f cdv A outer s H E).nox (defBody st) t ∧ t { nx := fun _ H' => Q .non H', rt := Q } (start N vs) H) : FnOkG P w K mg base CX0 (k + 1) f fd ps sp where
  arity h := len _ _ _ _ h
  calls {A outer s H args us vs Q E} free room e0 bind vals prom := by
    obtain ⟨_, _, _, _, _, _, cdv, _, _, rfl, lk, code⟩ := F.ex
    have old : ∀ b o, base.get? b = some o → s.heap.get? b = some o := fun b o e => (e0.bs b o e).1
    have here := e0.mod.kin.keeps old
    obtain ⟨t, pr, rd⟩ := body cdv A outer s H vs Q E free (room.deeper _) prom
    have kinds : ∀ y ∈ ps.zip us, (defScope st).names.lookup y.1 = some .local ∨ ((defScope st).names.lookup y.1 = some .cell ∧ ((cellsFrom (s.heap.objs.size + 1) (defScope st).names []).lookup y.1).isSome = true) := by
      intro y hy
      have hp : y.1 ∈ ps := by
        obtain ⟨y1, y2⟩ := y
        exact (List.of_mem_zip hy).1
      exact (S.par _ hp).imp id fun g => ⟨g, PySem.W.cellsFrom_some _ _ _ (.inl g)⟩
    refine codeAny_call_function room.depth (here _ _ lk) rfl S.co S.gen rfl (PySem.W.codeRec_of here code) (bind _ _ _ _ ?_)
    refine wpAny_newFunctionEnv_cells S.kind kinds fun _ e s1 x => ?_
    cases e
    refine ⟨(e0.mod.nolimit.keeps old).keeps x.toInCall.keep, codeAny_func ?_⟩
    have run := pr.nox.run [] s1 _ H _ (inv_start S room.hd e0 (len _ _ _ _ prom) vals x) rd
    refine wpAny_mono run (fun fl s' h => ?_) fun _ _ z => z
    have said := ends_say h
    cases fl with
    | ret _ => exact said
    | next => exact said
    | brk => exact said.elim
    | cont => exact said.elim
end
section
variable {X : Cx} {CX : CXT} {k : Nat} {f : Addr} {fd : FuncData} {ps : List Str} {sp : Sp} {ds : List Value} {dvs : List V} {E : XK}
theorem after_call {pins : List (Addr × Obj)} {σ : L2.St} {H : Hp} {s : Shared} {Q : VK} (hx : Passes CX X E) (I : Inv X pins σ H s) {r : Except Value Flow} {s' : Shared} (h : CR CX X.stack X.prog X.w H s Q E r s') :
    match r with | .ok (.ret u) => EP X pins σ Q u s' | .ok _ => False | .error e => X.xe e s' := by
  match r, h with
  | .error e, h => exact hx pins σ H s e s' I h
  | .ok (.ret u), h => exact I.after h
  | .ok .next, h => exact h
  | .ok .brk, h => exact h
  | .ok .cont, h => exact h
variable {x : Str} {p pos : Pos} {e : Expr} {es : List Expr} {t : TA}
/-- f(e, ..) at a place where no repr is under way -/
theorem pe_callG (F : FnOkG X.prog X.w X.K X.mg X.base CX k f fd ps sp) (hG : X.A.guards = some []) (hr : Room k X.A) (hg : Gl X x) (hm : X.mg x = some (.ref f)) (hk : PySem.W.keepIn X.K (.ref f) = true) (hb : Binds X.K fd ps ds) (hd : Vals dvs ds) (hx : Passes CX X E)
    (ha : PA X (e :: es) t) (hdb : (x == ("__debug__" : Str)) = false := by decide)
    (he : starEach (e :: es) X.env = (false, eval e X.env) :: starEach es X.env := by rfl) (hpl : (backTo pos (starEach es X.env)).any (·.1) = false := by rfl) :
    PE X (.Call (.Name x p) (e :: es) [] pos) (tCall sp dvs E t) := by
  constructor
  intro pins s σ H Q I h
  refine wpAny_Call_Name_kw (ld_glob I hg hm (PySem.W.callWith_K (h₀ := X.base) I.ok.mod.kin hk (thn (ha.run pos pins s σ H _ I h) ?_) he hpl) hdb)
  rintro us s1 ⟨vs, H1, I1, vals, prom⟩
  have all := vals.append hd
  have size : (us ++ ds).length = ps.length := all.length.symm.trans (F.arity prom)
  refine ⟨I1.kIn, wpAny_call (codeAny_mono (F.calls hG hr I1.env0 (hb s1 us I1.kIn size) all prom) fun r s' h => ?_)⟩
  have := after_call hx I1 h
  cases r with
  | error e => exact this
  | ok fl => cases fl <;> exact this
/-! ### repr of data -/
def rReprD (K : PySem.W.Frag) : List V → Hp → VK → Prop := fun vs H Q => ∃ (v : V) (d : PyData), vs = [v] ∧ Dp K H v d ∧ d.showable = true ∧ d.hasDict = false ∧ d.depth ≤ 64 ∧ d.shown.length ≤ sizeLine ∧ Q (.str d.shown) H
theorem cr_reprD (hG : X.A.guards = some []) (hu : X.A.units + 66 < cLine) : CallR X (.builtin "repr") (rReprD X.K) := by
  rintro pins s σ H _ us Q I r ⟨v, d, rfl, hd, hs, hn, hdep, hz, q⟩
  obtain ⟨u, rfl, rv⟩ := vals1 r
  obtain ⟨as, rd⟩ := Dp.reads I d v u hd rv
  cases hd with
  | non =>
    cases rv
    exact P.repr_of_none ⟨.str _, H, I.tok _, ⟨_, rfl⟩, q⟩
  | bl b =>
    cases rv
    exact P.repr_of_bool ⟨.str _, H, I.tok _, ⟨_, rfl⟩, q⟩
  | int i =>
    obtain ⟨t, rfl⟩ := rv
    have hb : i.natAbs.log2 < 1920 := of_decide_eq_true (by simpa only [PyData.showable] using hs)
    exact P.repr_of_int hb ⟨.str _, H, I.tok _, ⟨_, rfl⟩, by simpa only [PyData.shown] using q⟩
  | str x =>
    obtain ⟨t, rfl⟩ := rv
    exact P.repr_of_str ⟨.str _, H, I.tok _, ⟨_, rfl⟩, by simpa only [PyData.shown] using q⟩ (by simpa only [PyData.shown] using hz)
  | lst h1 h2 =>
    cases rv
    exact repr_of_reads' rd hs (fun e => absurd (hn.symm.trans e) (by decide)) hG (by omega) (fun _ _ e => e) (fun h' t tk hk => ⟨.str _, H, I.kept hk, ⟨_, rfl⟩, q⟩) hz
  | tup h1 h2 =>
    cases rv
    exact repr_of_reads' rd hs (fun e => absurd (hn.symm.trans e) (by decide)) hG (by omega) (fun _ _ e => e) (fun h' t tk hk => ⟨.str _, H, I.kept hk, ⟨_, rfl⟩, q⟩) hz
end
/-! ### the end -/
section
variable (K : PySem.W.Frag) (a : Addr) (vs : List Value) (ns : List Int)
/-- the script as the heap has it -/
abbrev scrO : Obj := { cls := .type "list", data := .seq vs.toArray }
/-- tracked is the script alone, locked, and not even that where the top wrote it -/
def scrH : Hp := fun b => if b = a ∧ K.lookup a = none then some (.frz (scrO vs) (.lst (ns.map V.int))) else none
theorem scrH_or (b : Addr) : scrH K a vs ns b = none ∨ (b = a ∧ K.lookup a = none ∧ scrH K a vs ns b = some (.frz (scrO vs) (.lst (ns.map V.int)))) := by
  unfold scrH
  by_cases h : b = a ∧ K.lookup a = none
  · exact .inr ⟨h.1, h.2, if_pos h⟩
  · exact .inl (if_neg h)
theorem scrH_only : Only (scrH K a vs ns) := fun b => (scrH_or K a vs ns b).imp id fun ⟨_, _, e⟩ => ⟨_, _, e⟩
end
section
variable {P : Program} {w : World} {K : PySem.W.Frag} {a : Addr} {vs : List Value} {ns : List Int} {h : Heap}
theorem scrH_sq (kin : K.In h) (at_ : h.get? a = some (scrO vs)) (hi : IntsAre vs ns) (few : ns.length ≤ sizeLine) : SqL K (scrH K a vs ns) a (ns.map V.int) := by
  cases hk : K.lookup a with
  | none => exact .inl (.inr ⟨scrO vs, if_pos ⟨rfl, hk⟩⟩)
  | some o =>
    obtain rfl : o = scrO vs := Option.some.inj ((kin a o hk).symm.trans at_)
    exact .inr ⟨_, vs.toArray, _, hk, rfl, rfl, rfl, by rw [List.size_toArray, hi.length]; exact few, by simpa using vals_ints hi⟩
theorem scrH_ok (at_ : h.get? a = some (scrO vs)) (hi : IntsAre vs ns) (few : ns.length ≤ sizeLine) : HOk P w (scrH K a vs ns) h := by
  intro b u e
  rcases scrH_or K a vs ns b with n | ⟨rfl, _, y⟩
  · exact absurd (n.symm.trans e) (by simp)
  · cases y.symm.trans e
    refine ⟨at_, ?_, vs, _, vals_ints hi, at_⟩
    rw [List.length_map]
    exact few
/-- what isn't the script, and what the top wrote, stands also where the tracked is hidden -/
theorem scrH_base (at_ : h.get? a = some (scrO vs)) {b : Addr} {o : Obj} (e : h.get? b = some o) (q : o ≠ scrO vs ∨ K.lookup b ≠ none) : (hidT h (scrH K a vs ns)).get? b = some o := by
  refine hidT_get e ((scrH_or K a vs ns b).resolve_right ?_)
  rintro ⟨rfl, n, _⟩
  exact q.elim (fun z => z (Option.some.inj (e.symm.trans at_))) fun z => z n
theorem scrH_ns (at_ : h.get? a = some (scrO vs)) {b : Addr} {m : Str → Option Value} : h.Ns b m → (hidT h (scrH K a vs ns)).Ns b m := by
  rintro ⟨o, es, ep, e, dd, r⟩
  refine ⟨o, es, ep, scrH_base at_ e (.inl ?_), dd, r⟩
  rintro rfl
  exact absurd dd (by simp)
end
/-- a law whose promise holds where no repr is under way: nothing is, where it is called -/
theorem walk_ofG {l : PySem.W.OpenLaw} {n k : Nat} {q : Program} {loose : List Str} {XP : (Str → Option Value) → Heap → Prop} {YP : World → Heap → Prop} {d : DefRec} {K : Params → PySem.W.Frag} {sp : World → Sp} {x : Str}
    (most : l.most = some n) (few : n ≤ sizeLine) (plain : d.params.defaults = []) (room : Room k callerA) (top : ∀ (w : World) (h : Heap), YP w h → (K w.params).In h)
    (F : ∀ (w : World) (mg : Str → Option Value) (fa : Addr) (h : Heap), (K w.params).In h → h.Ns mainGlobals mg → mg d.name = some (.ref fa) →
      ∃ fd : FuncData, (∀ (s : Shared) (u : Value), BindsTo s fd ⟨[u], []⟩ [(x, u)]) ∧ ∀ base : Heap, (K w.params).In base → base.Ns mainGlobals mg → FnOkG l.prog w (K w.params) mg base CX0 k fa fd [x] (sp w))
    (prom : ∀ (w : World) (H : Hp) (a : Addr) (ns : List Int), ns.length ≤ n → (∀ z ∈ ns, Builtin.Int.intBits z ≤ 1048576) → Only H → SqL (K w.params) H a (ns.map V.int) → sp w [.ref a] H (fun v _ => v = .bl true) fun _ _ _ => False) :
    PySem.W.WalkO q loose XP YP l.row.toRowW d [] (fun f vs => PySem.call f vs) := by
  apply Att.attach_callB most plain
  intro w s₀ s₁ mg mb fa o pm cd doc a vs ns G Y _ _ _ hmg at_ isI size bits gens
  have kin := top w _ Y
  obtain ⟨fd, bind, hF⟩ := F w mg fa _ kin G.T.g hmg
  have few' := Nat.le_trans size few
  have ok : HOk l.prog w (scrH (K w.params) a vs ns) s₁.heap := scrH_ok at_ isI few'
  have kin' : (K w.params).In (hidT s₁.heap (scrH (K w.params) a vs ns)) := fun b o e => scrH_base at_ (kin b o e) (.inr (by rw [e]; simp))
  have g' := scrH_ns (K := K w.params) (ns := ns) at_ G.T.g
  obtain ⟨mc, lim1, lim2⟩ := G.T.nolimit
  have e0 : Env0 l.prog w (K w.params) mg (hidT s₁.heap (scrH (K w.params) a vs ns)) callerA [] s₁ (scrH (K w.params) a vs ns) :=
    ⟨rfl, ⟨kin', g', ⟨mb, scrH_ns at_ G.T.b, G.T.builtins⟩, ⟨mc, scrH_ns at_ lim1, lim2⟩⟩, fun _ _ => of_hidT, Nat.le_of_eq (hidT_size _ _), trivial, (by intro _ z; cases z), ok, AllBare.of_eq gens⟩
  refine codeAny_mono ((hF _ kin' g').calls (us := [.ref a]) (vs := [.ref a]) rfl room e0 (bind s₁ (.ref a)) (.cons rfl .nil) (prom w _ a ns size bits (scrH_only (K w.params) a vs ns) (scrH_sq kin at_ isI few'))) fun r s' h => ?_
  match r, h with
  | .error e, h => exact h.elim
  | .ok .next, h => exact h.elim
  | .ok .brk, h => exact h.elim
  | .ok .cont, h => exact h.elim
  | .ok (.ret u), ⟨v, H', os, bare, un, ok', rel, is⟩ =>
    have is : v = .bl true := is
    subst is
    cases (show u = Value.bool true from rel)
    refine ⟨rfl, OldK.of_keep ?_, os, bare⟩
    intro b o e
    rcases scrH_or (K w.params) a vs ns b with z | ⟨rfl, _, z⟩
    · exact un.keep b o e z (fun m => nomatch m) (by simp)
    · cases at_.symm.trans e
      exact (ok' _ _ (un.frzs _ _ _ z)).1
end HopR

set_option Elab.async false
set_option linter.all false
set_option maxRecDepth 100000
namespace HopR
open PySem PySem.Spec PyProof.Rows L2
theorem hu66 {A : Around} {k : Nat} (hr : Room k A) : A.units + 66 < cLine := by
  have := hr.un
  omega
/-! ### f(k = v, ..), no value by its place -/
section
variable {X : Cx} {CX : CXT} {k : Nat} {f : Addr} {fd : FuncData} {ps ks : List Str} {sp : Sp} {E : XK} {x : Str} {p pos : Pos} {kws : List Keyword} {tk : TA}
def tCallKw (m : Nat) (sp : Sp) (gV : List V → List V) (E : XK) (tk : TA) : TE := fun σ H Q => tk σ H fun zs H2 => zs.length = m ∧ sp (gV zs) H2 Q E
theorem pe_callKw {g : List Value → List Value} {gV : List V → List V} (F : FnOk X.prog X.w X.K X.mg X.base CX k f fd ps sp) (hr : Room k X.A) (hg : Gl X x) (hm : X.mg x = some (.ref f)) (hk : PySem.W.keepIn X.K (.ref f) = true)
    (hb : ∀ (s : Shared) (ws : List Value), X.K.In s.heap → ws.length = ks.length → BindsTo s fd ⟨[], ks.zip ws⟩ (ps.zip (g ws))) (hrel : ∀ {zs : List V} {ws : List Value}, Vals zs ws → Vals (gV zs) (g ws)) (hx : Passes CX X E) (hkw : PK X kws tk)
    (hall : (backToKw pos (keywordEach kws X.env)).all (·.1.isSome) = true := by rfl) (hks : (backToKw pos (keywordEach kws X.env)).filterMap (·.1) = ks := by rfl) (hdb : (x == ("__debug__" : Str)) = false := by decide)
    (hpl : ((backTo pos (starEach [] X.env)).any (·.1) || (backToKw pos (keywordEach kws X.env)).any (·.1.isNone)) = false := by rfl) :
    PE X (.Call (.Name x p) [] kws pos) (tCallKw ks.length sp gV E tk) := by
  refine ⟨fun pins s σ H Q I h => wpAny_Call_Name_kw (ld_glob I hg hm ?_ hdb)⟩
  refine PySem.W.callWith_KW0 (h₀ := X.base) I.ok.mod.kin hk hall (thn (hkw.run pos pins s σ H _ I h) fun ws s2 ⟨zs, H2, I2, rz, l2, q2⟩ => ⟨I2.kIn, ?_⟩) hpl
  rw [hks]
  refine wpAny_call (codeAny_mono (F.run X.A X.stack s2 H2 ⟨[], ks.zip ws⟩ (g ws) (gV zs) Q E hr I2.env0 (hb s2 ws I2.kIn (rz.length.symm.trans l2)) (hrel rz) q2) fun r s' hq => ?_)
  match r, hq with
  | .error e, hq => exact hx pins σ H2 s2 e s' I2 hq
  | .ok (.ret u), hq => exact I2.after hq
  | .ok .next, hq => exact hq.elim
  | .ok .brk, hq => exact hq.elim
  | .ok .cont, hq => exact hq.elim
end
/-! ### lists of small numbers as data -/
def wv (k : Nat) : V := .int (k : Int)
def dw (k : Nat) : PyData := PyData.int (k : Int)
theorem dp_walls {K : PySem.W.Frag} {H : Hp} : ∀ ks : List Nat, DpAll K H (ks.map wv) (ks.map dw)
  | [] => .nil
  | k :: r => .cons (.int _) (dp_walls r)
theorem lay_dw : ∀ ks : List Nat, PyData.canLayAll0 (ks.map dw) = true
  | [] => rfl
  | k :: r => by
    rw [List.map_cons]
    simp only [PyData.canLayAll0, lay_dw r, Bool.and_true]
    rfl
theorem deep_dw : ∀ ks : List Nat, PyData.depthAll (ks.map dw) = 0
  | [] => rfl
  | k :: r => by
    rw [List.map_cons]
    simp only [PyData.depthAll, deep_dw r]
    rfl
theorem shaped_ints (ks : List Nat) : SeqAt.shaped (.list (ks.map dw)) = true := by
  unfold SeqAt.shaped
  rw [Bool.and_eq_true]
  refine ⟨?_, decide_eq_true ?_⟩
  · simp only [PyData.canLay0, lay_dw]
  · simp only [PyData.depth, deep_dw]
    decide
theorem show_dw : ∀ ks : List Nat, (∀ k ∈ ks, k ≤ 30) → PyData.showableAll (ks.map dw) = true
  | [], _ => rfl
  | k :: r, h => by
    have hk := h k (List.mem_cons_self ..)
    have e : PyData.showable (dw k) = true := by
      show decide ((k : Int).natAbs.log2 < 1920) = true
      refine decide_eq_true (Nat.lt_of_le_of_lt (Nat.log2_le_self _) ?_)
      show k < 1920
      omega
    rw [List.map_cons]
    simp only [PyData.showableAll, e, show_dw r fun q hq => h q (List.mem_cons_of_mem _ hq), Bool.and_true]
theorem nodict_dw : ∀ ks : List Nat, PyData.hasDictAll (ks.map dw) = false
  | [] => rfl
  | k :: r => by
    rw [List.map_cons]
    simp only [PyData.hasDictAll, nodict_dw r, Bool.or_false]
    rfl
theorem text30 : ∀ k < 31, (PyData.shown (dw k)).length ≤ 2 := by decide +kernel
theorem shown_len : ∀ ks : List Nat, (∀ k ∈ ks, k ≤ 30) → ((PyData.shownAll (ks.map dw)).map (·.length)).sum ≤ 2 * ks.length ∧ (PyData.shownAll (ks.map dw)).length = ks.length
  | [], _ => ⟨Nat.le_refl _, rfl⟩
  | k :: r, h => by
    obtain ⟨h1, h2⟩ := shown_len r fun q hq => h q (List.mem_cons_of_mem _ hq)
    have hk := text30 k (by have := h k (List.mem_cons_self ..); omega)
    rw [List.map_cons]
    simp only [PyData.shownAll, List.map_cons, List.sum_cons, List.length_cons]
    omega
theorem ints_show {ks : List Nat} (h : ∀ k ∈ ks, k ≤ 30) (hl : ks.length ≤ 1000) : (PyData.list (ks.map dw)).showable = true ∧ (PyData.list (ks.map dw)).hasDict = false ∧ (PyData.list (ks.map dw)).depth ≤ 64 ∧ (PyData.list (ks.map dw)).shown.length ≤ sizeLine := by
  obtain ⟨h1, h2⟩ := shown_len ks h
  refine ⟨?_, ?_, ?_, ?_⟩
  · simp only [PyData.showable, show_dw ks h]
  · simp only [PyData.hasDict, nodict_dw]
  · simp only [PyData.depth, deep_dw]
    decide
  · simp only [PyData.shown]
    have h3 := listText_len_le (PyData.shownAll (ks.map dw))
    rw [sizeLine_eq]
    omega
/-! ### the law's own words of walls and changes -/
theorem opn_eq {bs : List Bool} {k : Nat} (h : k ≤ bs.length) : opn bs k = ((decide (k = 0) || bs.getD (k - 1) false) && (decide (k = bs.length) || !bs.getD k true)) := by
  have hl := ends_len bs
  have e1 : (ends bs)[k]?.getD false = (decide (k = 0) || bs.getD (k - 1) false) := by
    unfold ends
    cases k with
    | zero => rfl
    | succ j =>
      rw [List.getElem?_cons_succ, List.getElem?_append_left (by omega), List.getD_eq_getElem?_getD]
      simp
  have e2 : (ends bs)[k + 1]?.getD true = (decide (k ≠ bs.length) && bs.getD k true) := by
    unfold ends
    rw [List.getElem?_cons_succ]
    by_cases hk : k = bs.length
    · subst hk
      rw [List.getElem?_append_right (Nat.le_refl _)]
      simp
    · rw [List.getElem?_append_left (by omega), List.getD_eq_getElem?_getD, decide_eq_true hk]
      rfl
  have e3 : opn bs k = (((ends bs)[k]?.getD false) && !((ends bs)[k + 1]?.getD true)) := by
    have g1 : (ends bs)[k]? = some (ends bs)[k] := List.getElem?_eq_getElem (by omega)
    have g2 : (ends bs)[k + 1]? = some (ends bs)[k + 1] := List.getElem?_eq_getElem (by omega)
    have g3 : ((ends bs).drop k).take 2 = [(ends bs)[k], (ends bs)[k + 1]] := by
      rw [List.drop_eq_getElem_cons (by omega), List.drop_eq_getElem_cons (by omega)]
      rfl
    unfold opn
    rw [g3, g1, g2]
    show decide ([(ends bs)[k], (ends bs)[k + 1]] = [true, false]) = ((ends bs)[k] && !(ends bs)[k + 1])
    cases (ends bs)[k] <;> cases (ends bs)[k + 1] <;> rfl
  rw [e3, e1, e2]
  by_cases hk : k = bs.length
  · simp [hk]
  · simp [hk]
def lbeh (bs : List Bool) (k : Nat) : List Bool := if k < bs.length then (if 0 < k then bs.set (k - 1) false else bs).set k true else (if 0 < k then bs.set (k - 1) false else bs)
theorem lbeh_len (bs : List Bool) (k : Nat) : (lbeh bs k).length = bs.length := by
  unfold lbeh
  split <;> split <;> simp
theorem chg_get {bs : List Bool} {k i : Nat} (h : k ≤ bs.length) (hi : i < bs.length) : (chg bs k)[i]? = some (if i + 1 = k then false else if i = k then true else bs[i]) := by
  have hl := ends_len bs
  have hb := bhd_len h
  have he : (ends bs)[i + 1]? = some bs[i] := by
    unfold ends
    rw [List.getElem?_cons_succ, List.getElem?_append_left hi, List.getElem?_eq_getElem hi]
  unfold chg
  rw [List.getElem?_take_of_lt (by rw [hb]; omega), List.getElem?_drop, Nat.add_comm 1 i]
  unfold bhd
  rw [List.append_assoc, List.append_assoc]
  by_cases h1 : i + 1 < k
  · rw [List.getElem?_append_left (by rw [List.length_take]; omega), List.getElem?_take_of_lt h1, he, if_neg (by omega), if_neg (by omega)]
  · rw [List.getElem?_append_right (by rw [List.length_take]; omega), List.length_take, Nat.min_eq_left (by omega)]
    by_cases h2 : i + 1 = k
    · rw [if_pos h2, h2, Nat.sub_self]
      rfl
    · rw [if_neg h2]
      by_cases h3 : i = k
      · rw [if_pos h3, show i + 1 - k = 1 by omega]
        rfl
      · rw [if_neg h3]
        obtain ⟨m, hm⟩ : ∃ m, i + 1 - k = m + 2 := ⟨i + 1 - k - 2, by omega⟩
        rw [hm]
        show ((ends bs).drop (k + 2))[m]? = some bs[i]
        rw [List.getElem?_drop, show k + 2 + m = i + 1 by omega, he]
theorem lbeh_eq {bs : List Bool} {k : Nat} (h : k ≤ bs.length) : lbeh bs k = chg bs k := by
  apply List.ext_getElem?
  intro i
  by_cases hi : i < bs.length
  · rw [chg_get h hi]
    unfold lbeh
    have g : bs[i]? = some bs[i] := List.getElem?_eq_getElem hi
    have inner : (if 0 < k then bs.set (k - 1) false else bs)[i]? = some (if i + 1 = k then false else bs[i]) := by
      by_cases hk : 0 < k
      · rw [if_pos hk, List.getElem?_set]
        by_cases e : k - 1 = i
        · rw [if_pos e, if_pos (by omega), if_pos (by omega)]
        · rw [if_neg e, if_neg (by omega), g]
      · rw [if_neg hk, if_neg (by omega), g]
    have il : (if 0 < k then bs.set (k - 1) false else bs).length = bs.length := by
      split <;> simp
    by_cases hk : k < bs.length
    · rw [if_pos hk, List.getElem?_set]
      by_cases e : k = i
      · rw [if_pos e, if_pos (by rw [il]; exact hk), if_neg (by omega), if_pos e.symm]
      · rw [if_neg e, inner]
        by_cases e2 : i + 1 = k
        · rw [if_pos e2, if_pos e2]
        · rw [if_neg e2, if_neg e2, if_neg (fun z => e z.symm)]
    · rw [if_neg hk, inner]
      by_cases e2 : i + 1 = k
      · rw [if_pos e2, if_pos e2]
      · rw [if_neg e2, if_neg e2, if_neg (by omega)]
  · rw [List.getElem?_eq_none (by rw [lbeh_len]; omega), List.getElem?_eq_none (by rw [chg_len h]; omega)]
end HopR

set_option Elab.async false
set_option linter.all false
set_option maxRecDepth 100000
namespace HopR
open PySem PySem.Spec PyProof.Rows L2
/-! ### an exception that is kept behind its suite -/
/-- the exception at a, of the class cls, its dict d, kept as a value -/
def ExH (cls : Value) (d : Option Addr) (a : Addr) : HO := .ext fun h => ∃ (oe : Obj) (vs : Array Value), h.get? a = some oe ∧ Zc cls d oe ∧ oe.data = .fields vs
theorem exH_ok {P : Program} {w : World} {H : Hp} {h : Heap} {a : Addr} {cls : Value} {d : Option Addr} {oe : Obj} {vs : Array Value} (e : h.get? a = some oe) (z : Zc cls d oe) (q : oe.data = .fields vs) : ObjOk P w H h a (ExH cls d a) :=
  ⟨⟨oe, vs, e, z, q⟩, ⟨oe, e⟩, fun _ _ ⟨o, v, q, r⟩ k => ⟨o, v, k o q, r⟩⟩
section
variable {X : Cx} {pins : List (Addr × Obj)} {σ σ0 : L2.St} {H H0 : Hp} {s sI : Shared} {a : Addr} {oe : Obj} {vs : Array Value} {o : HO}
/-- an object that came behind the entry is tracked from now on -/
theorem track (I : Inv X pins σ H s) (J : Inv X pins σ0 H0 sI) (hI : sI.heap.get? a = none) (hx : X.ex = []) (na : H a = none) (nL : a ≠ X.env.locals) (ha : s.heap.get? a = some oe) (hd : oe.data = .fields vs) (new : ObjOk X.prog X.w (upd H a o) s.heap a o) : Inv X pins σ (upd H a o) s := by
  have n0 : ∀ b u, X.s_0.heap.get? b = some u → b ≠ a := by
    intro b u e z
    subst z
    obtain ⟨u2, q⟩ := J.base.there b u e (by rw [hx]; exact fun z => nomatch z)
    rw [hI] at q
    cases q
  have nN : ∀ {b : Addr} {u : HO}, H b = some u → b ≠ a := fun e => ne_of_none e na
  have bs := I.base
  refine ⟨I.ok, I.os, I.bare, ⟨bs.keep, bs.slot, ?_, bs.there, ?_, ?_, ?_⟩, I.loc, I.cell, ?_, ?_, ?_, ?_, I.len⟩
  · intro b u e n q
    rw [upd_ne (n0 b u e)]
    exact bs.free b u e n q
  · intro b xs e
    have q := bs.tups b xs e
    rw [upd_ne (nN q)]
    exact q
  · intro b ob u e
    have q := bs.frzs b ob u e
    rw [upd_ne (nN q)]
    exact q
  · intro b ps e
    obtain ⟨m, q⟩ := bs.tbls b ps e
    exact ⟨m, by rw [upd_ne (nN q)]; exact q⟩
  · rw [upd_ne nL.symm]
    exact I.free
  · intro x c e
    have nc : c ≠ a := by
      intro z
      subst z
      obtain ⟨v, oc, e1, e2⟩ := I.cell x c e
      rw [ha] at e1
      cases e1
      rw [hd] at e2
      cases e2
    rw [upd_ne nc]
    exact I.freeC x c e
  · intro p hp
    have np : p.1 ≠ a := by
      intro z
      have q := (J.pin p hp).1
      rw [z, hI] at q
      cases q
    obtain ⟨e, n, r⟩ := I.pin p hp
    exact ⟨e, by rw [upd_ne np]; exact n, r⟩
  · intro b u e
    by_cases hb : b = a
    · subst hb
      rw [upd_same] at e
      cases e
      exact new
    · rw [upd_ne hb] at e
      refine (I.hok b u e).stay (fun c v _ q => q) (fun c q => ?_) (fun c xs q => ?_)
      · rw [upd_ne (nN q)]
        exact q
      · rw [upd_ne (nN q)]
        exact q
end
theorem fly_keeps {B h h' : Heap} {l : List Env} {a : Addr} {Z : Obj → Prop} (x : HandSPX.FlyingZ B l a Z h) (k : ∀ b o, h.get? b = some o → h'.get? b = some o) : HandSPX.FlyingZ B l a Z h' := by
  obtain ⟨x1, x2, x3, oe, vs, T, oT, ts, e1, e2, e3, e4, e5, e6, e7, e8, e9⟩ := x
  exact ⟨fun b o e => k b o (x1 b o e), x2, x3.of_keeps (fun b o e _ => ⟨o, k b o e, rfl⟩), oe, vs, T, oT, ts, k _ _ e1, e2, e3, e4, e5, e6, k _ _ e7, e8, e9⟩
/-- the clause's test takes the exceptions whose class has m -/
def Tests (X : Cx) (t : Expr) (m : Value → Prop) : Prop :=
  ∀ (a : Addr) (oe : Obj) (pn pins : List (Addr × Obj)) (σ : L2.St) (H : Hp) (s : Shared) (cls : Value) (Q : Value → Shared → Prop) (E : Value → Shared → Prop), Inv (X.suite a ((a, oe) :: pn)) pins σ H s → s.heap.get? a = some oe → oe.cls = cls → m cls →
    (∀ (c : Value) (h' : Heap), (∀ b o, s.heap.get? b = some o → h'.get? b = some o) → PySem.W.Looks (model X.prog X.w) h' (excMatches (.ref a) c) true → Q c { s with heap := h' }) → wpAny (model X.prog X.w) (X.A.mark (some (.ref a))) (eval t X.env) Q E s
theorem ld_nm {X : Cx} {x : Str} {c : Value} {pins : List (Addr × Obj)} {σ : L2.St} {H : Hp} {s : Shared} {Q : Value → Shared → Prop} {E : Value → Shared → Prop} {p : Pos} (I : Inv X pins σ H s) (hc : Names X x c) (q : Q c s) : wpAny (model X.prog X.w) X.A (eval (.Name x p) X.env) Q E s := by
  obtain ⟨g, nd, h | ⟨h1, h2, h3⟩⟩ := hc
  · exact ld_glob I g h q nd
  · exact ld_blt I g h1 h2 q h3 nd
theorem ty_looks {P : Program} {w : World} {h : Heap} {a : Addr} {oe : Obj} {cls : Value} (e : h.get? a = some oe) (c : oe.cls = cls) : PySem.W.Looks (model P w) h (typeOf (.ref a)) cls := by
  intro A Q E s k q
  exact wpAny_typeOf_ref (k _ _ e) (by rw [c]; exact q)
theorem tests_one {X : Cx} {x : Str} {c : Value} {p : Pos} (hc : Names X x c) : Tests X (.Name x p) fun cls => PySem.W.exmOne X.K cls c = some true := by
  intro a oe pn pins σ H s cls Q E I ha hcl hm k
  exact ld_nm (X := X.suite a ((a, oe) :: pn)) I hc (k c s.heap (fun _ _ z => z) (PySem.W.exm_one I.kIn (ty_looks ha hcl) hm))
theorem tests_two {X : Cx} {x1 x2 : Str} {c1 c2 : Value} {p1 p2 pos : Pos} {u} (h1 : Names X x1 c1) (h2 : Names X x2 c2) : Tests X (.Tuple [.Name x1 p1, .Name x2 p2] u pos) fun cls => PySem.W.exmAny X.K cls [c1, c2] = some true := by
  intro a oe pn pins σ H s cls Q E I ha hcl hm k
  refine wpAny_Tuple_spliced ?_
  refine Calls.spliced_cons (ld_nm (X := X.suite a ((a, oe) :: pn)) I h1 ?_)
  refine Calls.spliced_cons (ld_nm (X := X.suite a ((a, oe) :: pn)) I h2 (Calls.spliced_nil ⟨by show 2 ≤ sizeLine; decide, ?_⟩))
  have hk : ∀ b o, s.heap.get? b = some o → (s.heap.push { cls := .type "tuple", data := .seq [c1, c2].toArray }).get? b = some o := fun b o e => Heap.get?_push_of_some _ e
  refine k (.ref s.heap.objs.size) _ hk ?_
  exact PySem.W.exm_tup2 (fun b o e => hk b o (I.kIn b o e)) (ty_looks (hk _ _ ha) hcl) (Heap.get?_push_size _ rfl) hm
/-- what 'except .. as n: v = n' wishes of an exception of the body: it is taken, and kept in slot j; slot i, n's, is empty behind it -/
def wHeld (m : Value → Prop) (i j : Nat) (D : Ends) : WX := fun cls d σ H => m cls ∧ ∀ a, H a = none → D.nx (((σ.set i (some (.ref a))).set j (some (.ref a))).set i none) (upd H a (ExH cls d a))
section
variable {X : Cx} {n v : Str} {i j : Nat} {t : Expr} {m : Value → Prop} {body : List Stmt} {pos pos' p1 p2 p3 : Pos} {tb : WX → TS}
theorem ps_try_held (hs : X.stack = X.env :: X.outer) (hf : X.env.frame = some X.env.locals) (hN : X.N.Nodup) (hi : X.N[i]? = some n) (hj : X.N[j]? = some v) (hln : X.env.kindOf n = some .local) (hlv : X.env.kindOf v = some .local) (hx : X.ex = []) (ht : Tests X t m)
    (hb : ∀ (W : WX) (pn : List (Addr × Obj)) (xe : Value → Shared → Prop), Takes (X.tr pn xe) W → PassesOwn (model X.prog X.w) X.A X.env xe → PSs (X.tr pn xe) body (tb W))
    (hsu : ∀ (a : Addr) (oe : Obj) (pn : List (Addr × Obj)), PSs (X.suite a ((a, oe) :: pn)) [.Assign [.Name v p1] (.Name n p2) p3] (tAsg (tVar i) (gName j))) :
    PS X (.Try body [.ExceptHandler (some t) (some n) [.Assign [.Name v p1] (.Name n p2) p3] pos'] [] [] pos) (fun D σ H => tb (wHeld m i j D) D σ H) := by
  constructor
  intro pins s σ H D I h
  have ok := I.ok
  have frm : X.A.frames = some (X.env :: X.outer) := ok.frames.trans (congrArg some hs)
  have body_ := hb (wHeld m i j D) (X.pn ++ pins) (fun e s₁ => wpAny (model X.prog X.w) X.A (noteFrame e X.env) (fun _ s₂ => wpAny (model X.prog X.w) X.A (setFlight e none) (fun _ s₃ => wpAny (model X.prog X.w) X.A (handleBy e X.env [.ExceptHandler (some t) (some n) [.Assign [.Name v p1] (.Name n p2) p3] pos']) (SP X pins D) X.xe s₃) X.xe s₂) X.xe s₁) ?caught PassesOwn.looking
  · refine wpAny_Try_except (wpAny_mono (body_.run [] s σ H D (I.toTry _) h) ?_ fun _ _ z => z)
    intro f s1 hsp
    match f, hsp with
    | .next, ⟨σ', H', J', q⟩ => exact wpAny_execs_nil ⟨σ', H', J'.ofTry ok, q⟩
    | .brk, ⟨σ', H', J', q⟩ => exact ⟨σ', H', J'.ofTry ok, q⟩
    | .cont, ⟨σ', H', J', q⟩ => exact ⟨σ', H', J'.ofTry ok, q⟩
    | .ret u, ⟨v, σ', H', J', r, q⟩ => exact ⟨v, σ', H', J'.ofTry ok, r, q⟩
  case caught =>
    rintro u s' ⟨a, B, sI, pins', σ', H', cls, d, rfl, J', nb, up, sky, na, os, ag, hm, hk⟩
    have J : Inv X pins σ' H' sI := J'.ofTry ok
    have sk2 : Sky B (X.env :: X.outer) a (Zc cls d) X.env.locals s'.heap := hs ▸ sky
    show wpAny (model X.prog X.w) X.A (noteFrame (.ref a) X.env) _ _ _
    refine Sky.land Zc.steady frm hf sk2 fun h3 fl3 up3 => ?_
    have notF : ∀ {g : Heap}, HandSPX.FlyingZ B (X.env :: X.outer) a (Zc cls d) g → a ∉ frs (X.env :: X.outer) := by
      intro g fl hmem
      obtain ⟨o1, v1, e1, _, e3⟩ := fl.there
      obtain ⟨_, o2, e2, hn2⟩ := fl.2.2.1.mem hmem
      rw [e1] at e2
      cases e2
      exact hn2 _ e3
    have nfr := notF fl3
    have nL : a ≠ X.env.locals := by
      intro z
      exact nfr (List.mem_filterMap.mpr ⟨X.env, List.mem_cons_self, hf.trans (congrArg some z.symm)⟩)
    have nF : a ∉ X.fs := by
      intro z
      obtain ⟨e, he, q⟩ := List.mem_filterMap.mp z
      exact nfr (List.mem_filterMap.mpr ⟨e, List.mem_cons_of_mem _ he, q⟩)
    have nI : sI.heap.get? a = none := by
      cases e : sI.heap.get? a with
      | none => rfl
      | some o =>
        have q := nb a o e (by rw [hs]; exact nfr)
        rw [fl3.2.1] at q
        cases q
    obtain ⟨oe3, vs3, he3, hz3, hd3⟩ := fl3.there
    have J3 : Inv X pins σ' H' { s' with heap := h3 } := J.landed nb fl3.1 (up.trans up3) os ag
    refine wpAny_handleBy_cons (codeAny_handlers_test ?_) (fun q => nomatch q)
    refine ht a oe3 _ _ _ _ _ cls _ _ (J3.suite he3 hd3 na nL nF) he3 hz3.1 hm fun c h' kp lk => lk.here ?_
    refine codeAny_handlers_suite_as (HandSPX.lands_againZ (fly_keeps fl3 kp) fun h4 fl4 up4 => ?_)
    have upA : sI.heap.UpToSlots h4 := ((up.trans up3).trans (Heap.UpToSlots.of_keeps kp)).trans up4
    have J4 : Inv X pins σ' H' { s' with heap := h4 } := J.landed nb fl4.1 upA os ag
    obtain ⟨oe4, vs4, he4, hz4, hd4⟩ := fl4.there
    refine store_ok (X := X.suite a ((a, oe4) :: (X.pn ++ pins))) (v := .ref a) (J4.suite he4 hd4 na nL nF) hN hi (.inl hln) rfl (fun s5 S5 => ?_) (.inr hln)
    have hlen : i < σ'.length := by
      rw [J.len]
      exact (List.getElem?_eq_some_iff.mp hi).1
    refine wpAny_mono ((hsu a oe4 (X.pn ++ pins)).run [] s5 _ H' { nx := fun σ6 H6 => σ6 = (σ'.set i (some (.ref a))).set j (some (.ref a)) ∧ H6 = H', rt := fun _ _ => False } S5 ?_) (fun f s6 hsp => ?_) (fun _ _ z => False.elim z)
    · exact ⟨.ref a, by simp [hlen], rfl, rfl⟩
    match f, hsp with
    | .next, ⟨σ6, H6, S6, e6, e7⟩ =>
      subst e6 e7
      refine gone_ok (X := X.suite a ((a, oe4) :: (X.pn ++ pins))) S6 hN hi hln fun s7 S7 => ?_
      have ha7 := (S7.pin (a, oe4) (List.mem_append_left _ List.mem_cons_self)).1
      exact ⟨_, _, track (S7.unsuite ok) J nI hx na nL ha7 hd4 (exH_ok ha7 hz4 hd4), hk a na⟩
    | .brk, ⟨_, _, _, z⟩ => exact z.elim
    | .cont, ⟨_, _, _, z⟩ => exact z.elim
    | .ret u, ⟨_, _, _, _, _, z⟩ => exact z.elim
end
end HopR

set_option Elab.async false
set_option linter.all false
set_option maxRecDepth 100000
namespace HopR
open PySem PySem.Spec PyProof.Rows L2
/-! ### isinstance of a kept exception without a dict -/
section
variable {X : Cx}
theorem held_at {pins : List (Addr × Obj)} {σ : L2.St} {H : Hp} {s : Shared} {a D : Addr} (I : Inv X pins σ H s) (ha : H a = some (ExH (.ref D) none a)) : ∃ oe, PySem.W.InstAt s.heap a oe D none := by
  obtain ⟨⟨oe, vs, e, ⟨z1, z2⟩, q⟩, _, _⟩ := I.hok a _ ha
  obtain ⟨oc, od, oda, osl⟩ := oe
  dsimp only at z1 z2 q
  subst z1 z2 q
  exact ⟨_, e, rfl, rfl, trivial⟩
/-- isinstance(kept, c) -/
def rIsH (K : PySem.W.Frag) : List V → Hp → VK → Prop := fun xs H Q => ∃ (a D : Addr) (c : V) (cv : Value) (b : Bool), xs = [.ref a, c] ∧ H a = some (ExH (.ref D) none a) ∧ ExcC K D ∧ ClsV c cv ∧ PySem.W.kitOne K (.ref D) cv = some b ∧ Q (.bl b) H
theorem call_isH : CallR X (.builtin "isinstance") (rIsH X.K) := by
  rintro pins s σ H xs us Q I r ⟨a, D, c, cv, b, rfl, ha, C, kc, e, q⟩
  obtain ⟨u1, u2, rfl, r1, r2⟩ := vals2 r
  obtain rfl := kc.eq r2
  cases (show u1 = Value.ref a from r1)
  obtain ⟨oe, J⟩ := held_at I ha
  exact PySem.W.kia_one (PySem.W.handS_kitx_exc C.hg C.hk C.hs C.hd C.ha C.hn C.ht C.hm) I.kIn J e (fun z => nomatch z) fun tk => ⟨.bl b, H, I.tok tk, rfl, q⟩
/-- isinstance(kept, (c1, c2, ..)) -/
def rIsHT (K : PySem.W.Frag) : List V → Hp → VK → Prop := fun xs H Q => ∃ (a D tp : Addr) (cs : List V) (ws : List Value) (b : Bool), xs = [.ref a, .ref tp] ∧ H a = some (ExH (.ref D) none a) ∧ ExcC K D ∧ H tp = some (.tup cs) ∧ Paired ClsV cs ws ∧ PySem.W.kitAny K (.ref D) ws = some b ∧ Q (.bl b) H
theorem call_isHT : CallR X (.builtin "isinstance") (rIsHT X.K) := by
  rintro pins s σ H xs us Q I r ⟨a, D, tp, cs, ws, b, rfl, ha, C, ht, kc, e, q⟩
  obtain ⟨u1, u2, rfl, r1, r2⟩ := vals2 r
  cases (show u1 = Value.ref a from r1)
  cases (show u2 = Value.ref tp from r2)
  obtain ⟨oe, J⟩ := held_at I ha
  have hT : ObjOk X.prog X.w H s.heap tp (.tup cs) := I.hok tp _ ht
  obtain ⟨_, its, rv, ⟨oc, od, dt, osl⟩, g1, g2, n, g3⟩ := hT
  obtain rfl := ClsV.all kc rv
  simp only at g2 g3
  subst g2 g3
  exact PySem.W.kia_tup (PySem.W.handS_kitx_exc C.hg C.hk C.hs C.hd C.ha C.hn C.ht C.hm) I.kIn J g1 e (fun z => nomatch z) fun tk => ⟨.bl b, H, I.tok tk, rfl, q⟩
end
/-! ### things that are whole numbers or not -/
/-- x is of a built-in type that is no whole number's -/
def Odd (K : PySem.W.Frag) (H : Hp) (x : V) : Prop := ∃ t bI, TyX K H x t ∧ PySem.W.kitOne K t (.type "int") = some bI ∧ (bI = true → PySem.W.kitOne K t (.type "bool") = some true)
theorem odd_non {K : PySem.W.Frag} {H : Hp} : Odd K H .non := ⟨_, false, .base .non, kit_ty (by decide +kernel), fun z => nomatch z⟩
theorem odd_bl {K : PySem.W.Frag} {H : Hp} {b : Bool} : Odd K H (.bl b) := ⟨_, true, .base (.bl b), kit_ty (by decide +kernel), fun _ => kit_ty (by decide +kernel)⟩
theorem odd_str {K : PySem.W.Frag} {H : Hp} {z : Str} : Odd K H (.str z) := ⟨_, false, .base (.str z), kit_ty (by decide +kernel), fun z => nomatch z⟩
theorem odd_lst {K : PySem.W.Frag} {H : Hp} {a : Addr} {xs : List V} (e : H a = some (.lst xs)) : Odd K H (.ref a) := ⟨_, false, .base (.lst e), kit_ty (by decide +kernel), fun z => nomatch z⟩
theorem odd_tup {K : PySem.W.Frag} {H : Hp} {a : Addr} {xs : List V} (e : H a = some (.tup xs)) : Odd K H (.ref a) := ⟨_, false, .base (.tup e), kit_ty (by decide +kernel), fun z => nomatch z⟩
theorem odd_dK {K : PySem.W.Frag} {H : Hp} {a : Addr} {xs : List (Key × V)} (e : H a = some (.dK xs)) : Odd K H (.ref a) := ⟨_, false, .base (.dK e), kit_ty (by decide +kernel), fun z => nomatch z⟩
end HopR

set_option Elab.async false
set_option linter.all false
set_option maxRecDepth 100000
namespace HopR
open PySem L2
theorem same_upd {H : Hp} {p : Addr} {o : HO} (h : H p = none) : Same H (upd H p o) := fun b x e => by
  rw [upd_ne (ne_of_none e h)]
  exact e
theorem same_new {H H1 : Hp} {p : Addr} {o : HO} (h : H p = none) (s : Same H H1) : Same H (upd H1 p o) := fun b x e => by
  rw [upd_ne (ne_of_none e h)]
  exact s _ _ e
/-- a def of the text, its binding, where its name leads -/
structure Fn (K : PySem.W.Frag) (mg : Str → Option Value) (x : Str) (st : Stmt) (ps : List Str) (f : Addr) (fd : FuncData) : Prop where
  F : Fun K x x st f fd
  b : Binds K fd ps []
  g : mg x = some (.ref f)
end HopR

set_option Elab.async false
set_option linter.all false
set_option maxRecDepth 100000
namespace HopR
open PySem L2
/-! ### classes of refusals -/
theorem kit_own {K : PySem.W.Frag} {D C : Addr} {b : Bool} (ne : D ≠ C) (hd : PySem.W.hasDictIn K C = true) (ht : PySem.W.typeIn K (.ref C) = some (.type "type")) (h : PySem.W.subIn K (.ref D) (.ref C) = some b) : PySem.W.kitOne K (.ref D) (.ref C) = some b := by
  obtain ⟨cd, hc, _⟩ := PySem.W.any_some hd
  have e1 : ((Value.ref D == Value.ref C) = true) = False := by
    rw [eq_iff_iff]
    exact ⟨fun z => ne (Value.ref.inj (beq_iff_eq.mp z)), False.elim⟩
  have e2 : ((PySem.W.clsIn K C).isSome && PySem.W.typeIn K (.ref C) == some (.type "type")) = true := by rw [hc, ht] <;> rfl
  unfold PySem.W.kitOne
  rw [if_neg (by rw [e1]; exact id)]
  show (if ((PySem.W.clsIn K C).isSome && PySem.W.typeIn K (.ref C) == some (.type "type")) = true then PySem.W.subIn K (.ref D) (.ref C) else none) = some b
  rw [if_pos e2]
  exact h
theorem kit_me {K : PySem.W.Frag} {D : Addr} : PySem.W.kitOne K (.ref D) (.ref D) = some true := by
  unfold PySem.W.kitOne
  rw [if_pos (by simp)]
theorem kit_blt {K : PySem.W.Frag} {D : Addr} {T : String} {b : Bool} (m : PySem.W.kitMeta T = true) (h : PySem.W.subIn K (.ref D) (.type T) = some b) : PySem.W.kitOne K (.ref D) (.type T) = some b := by
  have e1 : ¬ ((Value.ref D == Value.type T) = true) := fun z => nomatch (beq_iff_eq.mp z)
  unfold PySem.W.kitOne
  rw [if_neg e1]
  show (if PySem.W.kitMeta T = true then PySem.W.subIn K (.ref D) (.type T) else none) = some b
  rw [if_pos m]
  exact h
theorem kitAny_cons {K : PySem.W.Frag} {t c : Value} {r : List Value} (h : PySem.W.kitOne K t c = some false) (q : PySem.W.kitAny K t r = some false) : PySem.W.kitAny K t (c :: r) = some false := by
  simp only [PySem.W.kitAny, h, q]
theorem kitAny_nil {K : PySem.W.Frag} {t : Value} : PySem.W.kitAny K t [] = some false := by simp only [PySem.W.kitAny]
theorem exmAny2 {K : PySem.W.Frag} {t c1 c2 : Value} {b1 b2 : Bool} (h1 : PySem.W.exmOne K t c1 = some b1) (h2 : PySem.W.exmOne K t c2 = some b2) : PySem.W.exmAny K t [c1, c2] = some (b1 || b2) := by
  simp only [PySem.W.exmAny, h1, h2, Bool.or_false]
/-- an own exception class, as its instances are made and asked -/
structure Xc (K : PySem.W.Frag) (D : Addr) (bm : List Value) (nw : String) : Prop where
  x : PySem.W.excIn K D bm nw = true
  k : PySem.W.keepIn K (.ref D) = true
  be : PySem.W.subIn K (.ref D) (.type "BaseException") = some true
  ty : PySem.W.typeIn K (.ref D) = some (.type "type")
  c : ExcC K D
abbrev bmV : List Value := [.type "ValueError", .type "Exception", .type "BaseException", .type "object"]
abbrev bmZ : List Value := [.type "ZeroDivisionError", .type "ArithmeticError", .type "Exception", .type "BaseException", .type "object"]
/-! ### things by their kind -/
theorem tyx_same {K : PySem.W.Frag} {H H' : Hp} {x : V} {t : Value} (s : Same H H') (ty : TyX K H x t) : TyX K H' x t := by
  cases ty with
  | base h =>
    cases h with
    | non => exact .base .non
    | bl x => exact .base (.bl x)
    | int i => exact .base (.int i)
    | str x => exact .base (.str x)
    | flt x => exact .base (.flt x)
    | lst e => exact .base (.lst (s _ _ e))
    | frz e => exact .base (.frz (s _ _ e))
    | tup e => exact .base (.tup (s _ _ e))
    | dK e => exact .base (.dK (s _ _ e))
    | dT e => exact .base (.dT (s _ _ e))
    | ins e a b c d f => exact .base (.ins (s _ _ e) a b c d f)
  | byt b => exact .byt b
  | set e => exact .set (s _ _ e)
  | kList e c => exact .kList e c
  | kTuple e c => exact .kTuple e c
  | kDict e c => exact .kDict e c
  | fTuple e => exact .fTuple (s _ _ e)
  | fDict e => exact .fDict (s _ _ e)
theorem odd_same {K : PySem.W.Frag} {H H' : Hp} {x : V} (s : Same H H') (h : Odd K H x) : Odd K H' x := by
  obtain ⟨t, b, ty, k⟩ := h
  exact ⟨t, b, tyx_same s ty, k⟩
/-- x is no text -/
def NoTxt (K : PySem.W.Frag) (H : Hp) (x : V) : Prop := ∃ t, TyX K H x t ∧ PySem.W.kitOne K t (.type "str") = some false
theorem notxt_non {K : PySem.W.Frag} {H : Hp} : NoTxt K H .non := ⟨_, .base .non, kit_ty (by decide +kernel)⟩
theorem notxt_bl {K : PySem.W.Frag} {H : Hp} {b : Bool} : NoTxt K H (.bl b) := ⟨_, .base (.bl b), kit_ty (by decide +kernel)⟩
theorem notxt_int {K : PySem.W.Frag} {H : Hp} {i : Int} : NoTxt K H (.int i) := ⟨_, .base (.int i), kit_ty (by decide +kernel)⟩
theorem notxt_lst {K : PySem.W.Frag} {H : Hp} {a : Addr} {xs : List V} (e : H a = some (.lst xs)) : NoTxt K H (.ref a) := ⟨_, .base (.lst e), kit_ty (by decide +kernel)⟩
theorem notxt_tup {K : PySem.W.Frag} {H : Hp} {a : Addr} {xs : List V} (e : H a = some (.tup xs)) : NoTxt K H (.ref a) := ⟨_, .base (.tup e), kit_ty (by decide +kernel)⟩
theorem notxt_dK {K : PySem.W.Frag} {H : Hp} {a : Addr} {xs : List (Key × V)} (e : H a = some (.dK xs)) : NoTxt K H (.ref a) := ⟨_, .base (.dK e), kit_ty (by decide +kernel)⟩
theorem notxt_same {K : PySem.W.Frag} {H H' : Hp} {x : V} (s : Same H H') (h : NoTxt K H x) : NoTxt K H' x := by
  obtain ⟨t, ty, k⟩ := h
  exact ⟨t, tyx_same s ty, k⟩
/-! ### signs in the written dict of both signs -/
/-- the sign is a bead or a free place -/
def okc (c : Nat) : Bool := decide (c = 111) || decide (c = 46)
theorem okc_cd (b : Bool) : okc (cd b) = true := by cases b <;> rfl
def keyText : Value → Option Str
  | .str s _ => some s
  | _ => none
theorem keyText_str {v : Value} {s : Str} (h : keyText v = some s) : ∃ t, v = .str s t := by
  cases v <;> simp [keyText] at h
  exact ⟨_, by rw [h]⟩
def keysAre (es : Array DictEntry) : Prop := es.toList.map (fun e => keyText e.key) = [some ("o" : Str), some ("." : Str)]
theorem sign_in {K : PySem.W.Frag} {d : Addr} {es : Array DictEntry} {n : Nat} (l : K.lookup d = some ⟨.type "dict", none, .dict es n, #[]⟩) (hk : keysAre es) (c : Nat) : ∃ r, PySem.W.nsIn K d ⟨#[c]⟩ = some r ∧ r.isSome = okc c := by
  unfold keysAre at hk
  obtain ⟨e1, e2, hes⟩ : ∃ e1 e2, es.toList = [e1, e2] := by
    have hl := congrArg List.length hk
    rw [List.length_map] at hl
    match h : es.toList, hl with
    | [e1, e2], _ => exact ⟨e1, e2, rfl⟩
  rw [hes] at hk
  obtain ⟨t1, k1⟩ := keyText_str (List.cons.inj hk).1
  obtain ⟨t2, k2⟩ := keyText_str (List.cons.inj (List.cons.inj hk).2).1
  have i1 : e1.key.isStr ⟨#[c]⟩ = decide (c = 111) := by
    rw [k1]
    by_cases h : c = 111
    · subst h
      show (("o" : Str) == ⟨#[111]⟩) = true
      decide +kernel
    · rw [decide_eq_false h]
      have : ¬ (("o" : Str) = ⟨#[c]⟩) := fun z => by
        have z2 := congrArg (fun q : Str => q.cps.toList) z
        have z3 : [111] = [c] := z2
        exact h (List.cons.inj z3).1.symm
      simp [Value.isStr, this]
  have i2 : e2.key.isStr ⟨#[c]⟩ = decide (c = 46) := by
    rw [k2]
    by_cases h : c = 46
    · subst h
      show (("." : Str) == ⟨#[46]⟩) = true
      decide +kernel
    · rw [decide_eq_false h]
      have : ¬ (("." : Str) = ⟨#[c]⟩) := fun z => by
        have z2 := congrArg (fun q : Str => q.cps.toList) z
        have z3 : [46] = [c] := z2
        exact h (List.cons.inj z3).1.symm
      simp [Value.isStr, this]
  have r1 : e1.refKey = false := by unfold DictEntry.refKey; rw [k1]
  have r2 : e2.refKey = false := by unfold DictEntry.refKey; rw [k2]
  unfold PySem.W.nsIn
  rw [l]
  simp only [hes, List.find?, i1, i2, List.any_cons, r1, r2, List.any_nil, Bool.or_false]
  unfold okc
  by_cases h1 : c = 111
  · simp [h1]
  · by_cases h2 : c = 46
    · simp [h2]
    · simp [h1, h2]
/-- x is no row: no text, or one that is too short, too long, or has another sign -/
def NotRow (K : PySem.W.Frag) (H : Hp) (x : V) : Prop := NoTxt K H x ∨ ∃ z : Str, x = .str z ∧ z.length ≤ 10000 ∧ (z.length = 0 ∨ 30 < z.length ∨ ∃ c ∈ z.cps.toList, okc c = false)
def NotWord (K : PySem.W.Frag) (H : Hp) (x : V) : Prop := NoTxt K H x ∨ ∃ z : Str, x = .str z ∧ z.length ≤ 10000 ∧ (30 < z.length ∨ ∃ c ∈ z.cps.toList, okc c = false)
theorem notrow_same {K : PySem.W.Frag} {H H' : Hp} {x : V} (s : Same H H') (h : NotRow K H x) : NotRow K H' x := h.imp (notxt_same s) id
theorem notword_same {K : PySem.W.Frag} {H H' : Hp} {x : V} (s : Same H H') (h : NotWord K H x) : NotWord K H' x := h.imp (notxt_same s) id
theorem notword_row {K : PySem.W.Frag} {H : Hp} {x : V} (h : NotWord K H x) : NotRow K H x := h.imp id fun ⟨z, e, l, q⟩ => ⟨z, e, l, .inr q⟩
end HopR

set_option Elab.async false
set_option linter.all false
set_option maxRecDepth 100000
namespace HopR
open PySem L2
/-! ### words: where they can be shortened, and to what -/
def shp (bs : List Bool) (i : Nat) : Bool := decide ((bs.drop i).take 2 = [true, false])
def plc (bs : List Bool) : List Nat := (List.range bs.length).filter (shp bs)
def shA (bs : List Bool) (k : Nat) : List Bool := bs.take (k + 1) ++ bs.drop (k + 2)
def shB (bs : List Bool) (k : Nat) : List Bool := bs.take k ++ bs.drop (k + 1)
theorem shp_split {bs : List Bool} {i : Nat} (h : shp bs i = true) : bs = bs.take i ++ true :: false :: bs.drop (i + 2) ∧ i + 2 ≤ bs.length := by
  have h := of_decide_eq_true h
  have e : bs.drop i = [true, false] ++ (bs.drop i).drop 2 := by
    conv => lhs; rw [← List.take_append_drop 2 (bs.drop i), h]
  rw [List.drop_drop] at e
  have hl := congrArg List.length e
  rw [List.length_drop, List.length_append, List.length_drop] at hl
  have hl2 : bs.length - i = 2 + (bs.length - (i + 2)) := hl
  refine ⟨?_, by omega⟩
  conv => lhs; rw [← List.take_append_drop i bs, e]
  rfl
theorem plc_shp {bs : List Bool} {k : Nat} (h : k ∈ plc bs) : shp bs k = true ∧ k < bs.length := ⟨(List.mem_filter.mp h).2, List.mem_range.mp (List.mem_filter.mp h).1⟩
theorem plc_few (bs : List Bool) : (plc bs).length ≤ bs.length := by
  refine Nat.le_trans (List.length_filter_le _ _) ?_
  rw [List.length_range]
  exact Nat.le_refl _
theorem shA_len {bs : List Bool} {k : Nat} (h : k + 2 ≤ bs.length) : (shA bs k).length + 1 = bs.length := by
  unfold shA
  rw [List.length_append, List.length_take, List.length_drop]
  omega
theorem shB_len {bs : List Bool} {k : Nat} (h : k + 2 ≤ bs.length) : (shB bs k).length + 1 = bs.length := by
  unfold shB
  rw [List.length_append, List.length_take, List.length_drop]
  omega
theorem shA_eq {bs : List Bool} {k : Nat} (h : k ∈ plc bs) : shA bs k = bs.take k ++ [true] ++ bs.drop (k + 2) := by
  obtain ⟨e, hl⟩ := shp_split (plc_shp h).1
  unfold shA
  have e2 : bs.take (k + 1) = bs.take k ++ [true] := by
    rw [List.take_add_one]
    congr 1
    rw [e, List.getElem?_append_right (by rw [List.length_take]; omega), List.length_take, show k - min k bs.length = 0 by omega]
    rfl
  rw [e2]
theorem shB_eq {bs : List Bool} {k : Nat} (h : k ∈ plc bs) : shB bs k = bs.take k ++ [false] ++ bs.drop (k + 2) := by
  obtain ⟨e, hl⟩ := shp_split (plc_shp h).1
  unfold shB
  rw [List.append_assoc]
  congr 1
  have e3 : bs.drop (k + 1) = false :: bs.drop (k + 2) := by
    have h1 : k + 1 < bs.length := by omega
    rw [List.drop_eq_getElem_cons h1]
    congr 1
    have h2 : bs[k + 1]? = some false := by
      rw [e, List.getElem?_append_right (by rw [List.length_take]; omega), List.length_take, show k + 1 - min k bs.length = 1 by omega]
      rfl
    rw [List.getElem?_eq_getElem h1] at h2
    exact Option.some.inj h2
  rw [e3]
  rfl
/-! ### words and other things -/
def isRowB (z : Str) : Bool := decide (1 ≤ z.length) && (decide (z.length ≤ 30) && z.cps.toList.all okc)
def isWordB (z : Str) : Bool := decide (z.length ≤ 30) && z.cps.toList.all okc
/-- whether x is a row -/
def RowB (K : PySem.W.Frag) (H : Hp) (x : V) (b : Bool) : Prop := (NoTxt K H x ∧ b = false) ∨ ∃ z : Str, x = .str z ∧ z.length ≤ 10000 ∧ b = isRowB z
/-- whether x is a word -/
def WordB (K : PySem.W.Frag) (H : Hp) (x : V) (b : Bool) : Prop := (NoTxt K H x ∧ b = false) ∨ ∃ z : Str, x = .str z ∧ z.length ≤ 10000 ∧ b = isWordB z
theorem wordB_same {K : PySem.W.Frag} {H H' : Hp} {x : V} {b : Bool} (s : Same H H') (h : WordB K H x b) : WordB K H' x b := h.imp (fun ⟨q, e⟩ => ⟨notxt_same s q, e⟩) id
theorem rowB_same {K : PySem.W.Frag} {H H' : Hp} {x : V} {b : Bool} (s : Same H H') (h : RowB K H x b) : RowB K H' x b := h.imp (fun ⟨q, e⟩ => ⟨notxt_same s q, e⟩) id
theorem okc_tx (bs : List Bool) : (tx bs).cps.toList.all okc = true := by
  rw [tx_list, List.all_map, List.all_eq_true]
  exact fun b _ => okc_cd b
theorem isWord_tx {bs : List Bool} (h : bs.length ≤ 30) : isWordB (tx bs) = true := by
  unfold isWordB
  rw [okc_tx, tx_len, decide_eq_true h]
  rfl
theorem isRow_tx {bs : List Bool} (h1 : 1 ≤ bs.length) (h : bs.length ≤ 30) : isRowB (tx bs) = true := by
  unfold isRowB
  rw [okc_tx, tx_len, decide_eq_true h, decide_eq_true h1]
  rfl
theorem len0 {z : Str} (h : z.length = 0) : z = "" := by
  apply ext_str
  have : z.cps = #[] := Array.eq_empty_of_size_eq_zero h
  rw [this]
  rfl
/-- as the program tells it: a row, or the text without signs -/
theorem isWord_or (z : Str) : isWordB z = (isRowB z || decide (z = "")) := by
  unfold isWordB isRowB
  by_cases h : z.length = 0
  · rw [len0 h]
    decide +kernel
  · have ne : ¬ z = "" := fun e => h (by rw [e]; decide +kernel)
    rw [decide_eq_false ne, decide_eq_true (show 1 ≤ z.length by omega)]
    simp
/-- a spot at which the word of bs can't be shortened -/
def BadSpot (K : PySem.W.Frag) (H : Hp) (y : V) (ks : List Nat) : Prop := Odd K H y ∨ ∃ i : Int, y = .int i ∧ ∀ k ∈ ks, i ≠ (k : Int)
theorem badspot_same {K : PySem.W.Frag} {H H' : Hp} {y : V} {ks : List Nat} (s : Same H H') (h : BadSpot K H y ks) : BadSpot K H' y ks := h.imp (odd_same s) id
theorem inV_in {ks : List Nat} {k : Nat} (h : k ∈ ks) : inV (wv k) (ks.map wv) = true := by
  unfold inV
  rw [List.any_eq_true]
  exact ⟨wv k, List.mem_map_of_mem h, by unfold wv eqV; simp⟩
theorem inV_no {ks : List Nat} {i : Int} (h : ∀ k ∈ ks, i ≠ (k : Int)) : inV (.int i) (ks.map wv) = false := by
  unfold inV
  rw [List.any_eq_false]
  intro x hx
  obtain ⟨k, hk, rfl⟩ := List.mem_map.mp hx
  unfold wv eqV
  simp
  have := h k hk
  omega
theorem flat_ks (ks : List Nat) : (ks.map wv).all flatV = true := by
  rw [List.all_eq_true]
  intro x hx
  obtain ⟨k, _, rfl⟩ := List.mem_map.mp hx
  rfl
theorem fit {m : Nat} (h : m ≤ 10000) : m ≤ sizeLine := Nat.le_trans h (by decide)
theorem fit' {m : Nat} (h : m ≤ 10000) : m < sizeLine := Nat.lt_of_le_of_lt h (by decide)
theorem tx_fit {bs : List Bool} (h : bs.length ≤ 10000) : (tx bs).length ≤ sizeLine := by
  rw [tx_len]
  exact fit h
theorem tx_nil : ("" : Str) = tx [] := by decide +kernel
theorem dec_str {a b : Str} {p : Prop} [Decidable p] (h : a = b ↔ p) : decide (V.str a = V.str b) = decide p := by
  by_cases q : p
  · rw [decide_eq_true q, decide_eq_true (by rw [h.mpr q])]
  · rw [decide_eq_false q, decide_eq_false fun z => q (h.mp (V.str.inj z))]
end HopR

set_option Elab.async false
set_option linter.all false
set_option maxRecDepth 100000
set_option maxHeartbeats 4000000
namespace HopR
open PySem PySem.Spec PyProof.Rows L2
/-! ### a refusal over IndexError that keeps what was handed in: class N(IndexError), its __init__ says IndexError.__init__(self, text), then self.f = x -/
abbrev bmI : List Value := [.type "IndexError", .type "LookupError", .type "Exception", .type "BaseException", .type "object"]
/-- what is written of the class at C, whose __init__ is at fI, its field f -/
structure Kept (K : PySem.W.Frag) (C fI : Addr) (f : Str) : Prop where
  new : PySem.W.excInitIn K C bmI "IndexError.__new__" = true
  over : PySem.W.excOver K C bmI = true
  ini : PySem.W.findIn K (.ref C) "__init__" = some (some (.ref fI))
  fn : PySem.W.typeIn K (.ref fI) = some (.type "function")
  sa : PySem.W.findIn K (.ref C) "__setattr__" = some (some (.builtin "object.__setattr__"))
  taker : PySem.W.takerIn K C f = some none
  none_ : PySem.W.findIn K (.ref C) f = some none
  keep : PySem.W.keepIn K (.ref C) = true
  ty : PySem.W.typeIn K (.ref C) = some (.type "type")
  xf : XfC K C
theorem type_ie : typeOf (.type "IndexError") = pure (.type "type") := by kernel_rfl
/-- a dict laid for an exception, then named in it, then filled -/
theorem laid_dict {H : Hp} {a d : Addr} {o1 o2 o3 : HO} (n : d ≠ a) : upd (upd (upd H d o1) a o2) d o3 = upd (upd H d o3) a o2 := by
  funext b
  by_cases h1 : b = d
  · subst h1
    rw [upd_same, upd_ne n, upd_same]
  · rw [upd_ne h1]
    by_cases h2 : b = a
    · subst h2
      rw [upd_same, upd_same]
    · rw [upd_ne h2, upd_ne h2, upd_ne h1, upd_ne h1]
theorem gone_dict {H : Hp} {a d : Addr} {o1 o2 o3 o4 : HO} (n : d ≠ a) (na : H a = none) : upd (del (upd (upd (upd H a o1) d o2) a o3) a) d o4 = upd H d o4 := by
  funext b
  by_cases h1 : b = d
  · subst h1
    rw [upd_same, upd_same]
  · rw [upd_ne h1, upd_ne h1]
    by_cases h2 : b = a
    · subst h2
      rw [del_same, na]
    · rw [del_ne h2, upd_ne h2, upd_ne h1, upd_ne h2]
section
variable {X : Cx} {C fI a : Addr} {f : Str}
/-- self.f = y, on an exception without a dict -/
theorem keep_it {pins : List (Addr × Obj)} {σ : L2.St} {H : Hp} {s : Shared} {A : Around} {y : V} {u : Value} {Q : Unit → Shared → Prop} {E : Value → Shared → Prop} (T : Kept X.K C fI f) (I : Inv X pins σ H s) (ha : H a = some (exo a C none)) (r : RelV y u)
    (k : ∀ d s', H d = none → d ≠ a → Inv X pins σ (upd (upd H d (exd d [(f, y)])) a (exo a C (some d))) s' → Q () s') : wpAny (model X.prog X.w) A (setAttr (.ref a) f u) Q E s := by
  obtain ⟨t0, at0⟩ := exo_at I.hok ha
  obtain ⟨cd, c1, c2⟩ := PySem.W.any_some T.xf.hdC
  obtain ⟨hp, g, dr, tk, os⟩ := s
  have lt : a < hp.objs.size := Heap.lt_size at0
  have ne : hp.objs.size ≠ a := Nat.ne_of_gt lt
  refine PySem.W.set_plain (od := none) I.kIn ⟨at0, rfl, rfl, trivial⟩ T.sa ?_
  refine PySem.W.osa_openX (od := none) PySem.F.store_IndexError I.kIn ⟨at0, rfl, rfl, trivial⟩ T.over T.taker fun _ => ?_
  refine wpAny_bind (wpAny_pure (wpAny_bind (PySem.W.instanceDict_exc at0 (PySem.W.looks_clsIn I.kIn c1) c2 ?_)))
  refine HandSPX.store_in_new ?_ ?_
  · exact ⟨_, #[], _, (Heap.get?_update_other _ _ ne.symm).trans (Heap.get?_push_size _ rfl), rfl, fun e he => absurd he (by simp), fun _ => rfl⟩
  · intro h' tk' ns sb
    have I1 : Inv X pins σ (upd H hp.objs.size (exd hp.objs.size [])) ⟨hp.push (PySem.W.dictOf [] 0), g, dr, tk, os⟩ :=
      I.laid (a := hp.objs.size) (o := exd hp.objs.size []) (t' := tk) (fun b o q => Heap.get?_push_of_some _ q) (Nat.le_refl _) (exd_ok (mA := fun _ => none) (Heap.Ns1.of_empty ⟨_, #[], _, Heap.get?_push_size _ rfl, rfl, fun e he => absurd he (by simp), fun _ => rfl⟩) fun _ => True.intro)
    have a1 : (hp.push (PySem.W.dictOf [] 0)).get? a = some _ := Heap.get?_push_of_some _ at0
    have a2 := Heap.get?_update_self (fun o : Obj => { o with dict := some hp.objs.size }) a1 rfl
    have I2 := I1.write (x := a) (e := a) (o := exo a C (some hp.objs.size)) (t' := tk) (h' := (hp.push (PySem.W.dictOf [] 0)).update a fun o => { o with dict := some hp.objs.size }) (by rw [upd_ne ne.symm, ha]; exact True.intro) (.inl rfl)
      (fun b o hb q => (Heap.get?_update_other _ _ (Ne.symm hb)).trans q) ⟨_, a2⟩ (exo_ok a2)
    have d3 : ∃ o, h'.get? hp.objs.size = some o := by
      obtain ⟨o, _, _, q, _⟩ := ns
      exact ⟨o, q⟩
    have I3 := I2.write (x := hp.objs.size) (e := hp.objs.size) (o := exd hp.objs.size [(f, y)]) (t' := tk') (h' := h') (by rw [upd_ne ne, upd_same]; exact True.intro) (.inl rfl)
      (fun b o hb q => (sb.2 b hb).trans q) d3 (exd_ok ns (relO_put (fs := []) r fun g => True.intro))
    rw [laid_dict ne] at I3
    exact k _ _ (I.hok.fresh (Nat.le_refl _)) ne I3
/-- IndexError.__init__(self, ..): nothing of it is told -/
theorem init_ie {pins : List (Addr × Obj)} {σ : L2.St} {H : Hp} {s : Shared} {A : Around} {us : List Value} {Q : Value → Shared → Prop} {E : Value → Shared → Prop} (T : Kept X.K C fI f) (I : Inv X pins σ H s) (ha : H a = some (exo a C none)) (hl : us.length ≤ sizeLine)
    (k : ∀ s', Inv X pins σ H s' → Q .none s') : wpAny (model X.prog X.w) A (call (.builtin "IndexError.__init__") (.ref a :: us)) Q E s := by
  obtain ⟨nm, N, qn, bs, bm, hdct, sn, sub, ab, col, dd, k0, k1, k2, k3, k5, at1, cont⟩ := PySem.W.excInit_of I.kIn T.new
  obtain ⟨t0, at0⟩ := exo_at I.hok ha
  obtain ⟨hp, g, dr, tk, os⟩ := s
  refine wpAny_call (HandSPX.init_base PySem.F.excBase_IndexError cont at1 at0 hl ?_)
  intro h' t1 kp at2
  have same : upd H a (exo a C none) = H := by
    funext b
    by_cases hb : b = a
    · rw [hb, upd_same, ha]
    · rw [upd_ne hb]
  have J := I.write (x := a) (e := a) (o := exo a C none) (t' := tk) (h' := h') (by rw [ha]; exact True.intro) (.inl rfl) kp ⟨_, at2⟩ (exo_ok at2)
  rw [same] at J
  exact k _ J
variable {e o : Expr} {es : List Expr} {te to : TE} {ta : TA} {p p1 p2 p' pos : Pos}
/-- what is asked of IndexError.__init__(self, ..) -/
def tIeI (K : PySem.W.Frag) (f : Str) (ta : TA) : TE := fun σ H Q => ta σ H fun vs H1 => ∃ (a C fI : Addr) (ws : List V), vs = .ref a :: ws ∧ ws.length ≤ 1000 ∧ Kept K C fI f ∧ H1 a = some (exo a C none) ∧ Q .non H1
theorem pe_ieinit {pl : Sem Bool} (f : Str) (hg : Gl X "IndexError") (hm : X.mg "IndexError" = none) (vV : PySem.W.findCls X.K (.type "IndexError") (.type "type") "__init__" = some (.val (.builtin "IndexError.__init__"))) (ha : PA X (e :: es) ta)
    (hc : eval (.Call (.Attribute (.Name "IndexError" p1) "__init__" p2) (e :: es) [] pos) X.env = (do
      let ov ← eval (.Name "IndexError" p1) X.env
      standAt p2.atName
      let (m, first) ← holding [ov] (getMethod ov "__init__" pl)
      callWith pos m first (backTo pos (starEach (e :: es) X.env)) (backToKw pos (keywordEach [] X.env))) := by rfl)
    (he : starEach (e :: es) X.env = (false, eval e X.env) :: starEach es X.env := by rfl) (hpl : (backTo pos (starEach es X.env)).any (·.1) = false := by rfl) :
    PE X (.Call (.Attribute (.Name "IndexError" p1) "__init__" p2) (e :: es) [] pos) (tIeI X.K f ta) := by
  constructor
  intro pins s σ H Q I h
  obtain ⟨m, fr⟩ := I.fr
  refine PySem.W.methodCall_KW (ld_blt I hg hm PyProof.Rows.Boot.«IndexError» (PySem.W.method_type fr I.ok.mod.kin type_ie (by decide +kernel) vV (by decide +kernel) ?_) (by decide) (by decide)) hc
  show wpAny (model X.prog X.w) X.A (callWith pos (Value.builtin "IndexError.__init__") [] (backTo pos (starEach (e :: es) X.env)) []) _ _ _
  refine PyProof.Rows.callWith_method1 (thn (ha.run pos pins _ σ H _ (I.tok _) h) ?_) he hpl
  rintro us s1 ⟨vs, H1, J, r, a, C, fI, ws, rfl, hl, T, at1, q⟩
  cases r with
  | cons ra rr =>
    cases (show _ = Value.ref a from ra)
    refine init_ie T J at1 ?_ fun s' J' => ⟨.non, H1, J', rfl, q⟩
    have := Paired.length rr
    rw [sizeLine_eq]
    omega
/-- self.f = e -/
def tKeep (K : PySem.W.Frag) (f : Str) (to te : TE) : TS := fun D σ H => te σ H fun y H1 => to σ H1 fun x H2 => ∃ a C fI : Addr, x = .ref a ∧ Kept K C fI f ∧ H2 a = some (exo a C none) ∧ ∀ d, H2 d = none → d ≠ a → D.nx σ (upd (upd H2 d (exd d [(f, y)])) a (exo a C (some d)))
theorem ps_keep (ho : PE X o to) (he : PE X e te) (hs : swapsWith e (some (.Attribute o f p')) pos.line X.env = pure false := by rfl) : PS X (.Assign [.Attribute o f p'] e pos) (tKeep X.K f to te) := by
  constructor
  intro pins s σ H D I h
  refine plainObj_wpAny_Assign_Attribute (thn (he.run pins s σ H _ I h) ?_) hs
  rintro v s1 ⟨y, H1, I1, r1, q1⟩
  refine thn (ho.run pins s1 σ H1 _ I1 q1) ?_
  rintro u s2 ⟨x, H2, I2, r2, a, C, fI, rfl, T, ha, q⟩
  cases (show u = Value.ref a from r2)
  exact keep_it T I2 ha r1 fun d s' n ne J => ⟨σ, _, J, q d n ne⟩
/-- what __init__ does -/
def spKeepI (C : Addr) (f : Str) : Sp := fun vs H Q _ => ∃ (a : Addr) (y : V), vs = [.ref a, y] ∧ H a = some (exo a C none) ∧ ∀ d, H d = none → d ≠ a → Q .non (upd (upd H d (exd d [(f, y)])) a (exo a C (some d)))
/-- N(e): the refusal with its field, the dict at d new -/
def tMkK (C : Addr) (f : Str) (ta : TA) : L2.St → Hp → XK → Prop := fun σ H Q => ta σ H fun vs H1 => ∃ y, vs = [y] ∧ ∀ d, H1 d = none → Q (.ref C) (some d) (upd H1 d (.xd [(f, y)]))
theorem pmk_keep {x : Str} {k : Nat} {fd : FuncData} {ps : List Str} (T : Kept X.K C fI f) (F1 : FnOk X.prog X.w X.K X.mg X.base CX0 k fI fd ps (spKeepI C f)) (hr : Room (k + 1) X.A) (hb : Binds X.K fd ps []) (hg : Gl X x) (hm : X.mg x = some (.ref C)) (ha : PA X [e] ta)
    (hdb : (x == ("__debug__" : Str)) = false := by decide) (he : starEach (e :: []) X.env = (false, eval e X.env) :: starEach [] X.env := by rfl) (hpl : (backTo pos (starEach [] X.env)).any (·.1) = false := by rfl) :
    PMk X (.Call (.Name x p) [e] [] pos) (tMkK C f ta) := by
  intro pins s0 σ H0 Q I0 h0
  refine wpAny_Call_Name_kw (ld_glob I0 hg hm ?_ hdb)
  refine PySem.W.callWith_K (h₀ := X.base) I0.ok.mod.kin T.keep (thn (ha.run pos pins s0 σ H0 _ I0 h0) ?_) he hpl
  rintro us s ⟨vs, H, I, r, y, rfl, q⟩
  refine ⟨I.kIn, ?_⟩
  obtain ⟨nm, N, qn, bs, bm, hdct, sn, sub, ab, col, dd, k0, k1, k2, k3, k5, at1, cont⟩ := PySem.W.excInit_of I.kIn T.new
  obtain ⟨hp, g, dr, tk, os⟩ := s
  have na : H (hp.objs.size + 1) = none := I.hok.fresh (Nat.le_succ _)
  have old : ∀ b u, hp.get? b = some u → ((hp.push (PySem.W.kdv_tup us)).push (HandSPX.excO C hp.objs.size)).get? b = some u := fun b u q => Heap.get?_push_of_some _ (Heap.get?_push_of_some _ q)
  have at2 : ((hp.push (PySem.W.kdv_tup us)).push (HandSPX.excO C hp.objs.size)).get? (hp.objs.size + 1) = some (HandSPX.excO C hp.objs.size) := by heap_get
  have J : Inv X pins σ (upd H (hp.objs.size + 1) (exo (hp.objs.size + 1) C none)) ⟨(hp.push (PySem.W.kdv_tup us)).push (HandSPX.excO C hp.objs.size), g, dr, tk, os⟩ := I.laid (t' := tk) old (Nat.le_succ _) (exo_ok at2)
  have rr : Vals [V.ref (hp.objs.size + 1), y] (Value.ref (hp.objs.size + 1) :: us) := .cons rfl r
  have sp : spKeepI C f [V.ref (hp.objs.size + 1), y] (upd H (hp.objs.size + 1) (exo (hp.objs.size + 1) C none)) (fun v H2 => v = .non ∧ ∃ d, H d = none ∧ d ≠ hp.objs.size + 1 ∧ H2 = upd (upd (upd H (hp.objs.size + 1) (exo (hp.objs.size + 1) C none)) d (exd d [(f, y)])) (hp.objs.size + 1) (exo (hp.objs.size + 1) C (some d))) (fun _ _ _ => False) :=
    ⟨_, y, rfl, upd_same, fun d nd ne => ⟨rfl, d, by rw [upd_ne ne] at nd; exact nd, ne, rfl⟩⟩
  have hl : (Value.ref (hp.objs.size + 1) :: us).length = ps.length := rr.length.symm.trans (F1.len _ _ _ _ sp)
  have bi := hb _ (Value.ref (hp.objs.size + 1) :: us) J.kIn (by rw [List.append_nil]; exact hl)
  rw [List.append_nil] at bi
  have lu : us.length ≤ sizeLine := by
    rw [← Paired.length r]
    show 1 ≤ sizeLine
    decide
  refine wpAny_call (HandSPX.call_own PySem.F.excBase_IndexError cont at1 (PySem.W.looks_findIn I.kIn T.ini) (fun self => PySem.W.bind_fn I.kIn self T.fn) lu
    (codeAny_mono (F1.run _ X.stack _ _ ⟨Value.ref (hp.objs.size + 1) :: us, []⟩ _ _ _ _ (hr.make C us []) (J.env0.make C us []) bi rr sp) ?_))
  intro res s' z
  match res, z with
  | .error er, z =>
    have no : Passes CX0 X (fun _ _ _ => False) := fun _ _ _ _ _ _ _ h => h.elim
    exact no pins σ _ _ er s' J z
  | .ok (.ret u), z =>
    obtain ⟨v, H2, os2, bare2, un2, hok2, rv, rfl, d, nd, ne, rfl⟩ := z
    obtain ⟨hz, gz, dz, tz, oz⟩ := s'
    refine ⟨rv, mk_end (d := d) (fs := [(f, y)]) (raises_own T.xf.exC T.ty) I (Nat.le_succ _) old un2 hok2 os2 bare2 upd_same (by rw [upd_ne ne, upd_same]) nd ?_⟩
    rw [gone_dict ne na]
    exact q d nd
  | .ok .next, z => exact z.elim
  | .ok .brk, z => exact z.elim
  | .ok .cont, z => exact z.elim
end
end HopR

set_option Elab.async false
set_option linter.all false
set_option maxRecDepth 100000
set_option maxHeartbeats 4000000
namespace HopR
open PySem PySem.Spec PyProof.Rows L2
/-! ### a kept refusal that has a field -/
section
variable {X : Cx}
/-- what H says of a kept exception of the class at D with the fields fs -/
def Fld (H : Hp) (a D : Addr) (fs : List (Str × V)) : Prop := ∃ d, H a = some (ExH (.ref D) (some d) a) ∧ H d = some (.xd fs)
theorem fld_at {pins : List (Addr × Obj)} {σ : L2.St} {H : Hp} {s : Shared} {a D : Addr} {fs : List (Str × V)} (I : Inv X pins σ H s) (hf : Fld H a D fs) : ∃ oe od, PySem.W.InstAt s.heap a oe D (some od) ∧ ∀ n v, fs.lookup n = some v → ∃ u, PySem.W.lookIn n od = some (some u) ∧ RelV v u := by
  obtain ⟨d, h1, h2⟩ := hf
  obtain ⟨⟨oe, vs, e, ⟨z1, z2⟩, q⟩, _, _⟩ := I.hok a _ h1
  have ok : ObjOk X.prog X.w H s.heap d (.xd fs) := I.hok d _ h2
  obtain ⟨mA, ns, rel⟩ := ok
  obtain ⟨od, at2, look⟩ := lookIn_ns ns
  refine ⟨oe, od, ⟨e, z1, ?_, by rw [z2]; exact at2⟩, fun n v l => ?_⟩
  · unfold PySem.W.notCls
    rw [q]
  · have r := rel n
    rw [l] at r
    obtain ⟨u, hu, ru⟩ := RelO.some_of r
    exact ⟨u, by rw [look, hu], ru⟩
theorem kit_fld {K : PySem.W.Frag} {a D : Addr} {oe : Obj} {od : Option Obj} (C : ExcC K D) : PySem.W.KitX K (.ref a) (.ref D) (fun h => PySem.W.InstAt h a oe D od) :=
  PySem.W.kitx_exc (by obtain ⟨cd, hc, _⟩ := PySem.W.any_some C.hd; rw [hc]; rfl) C.hg C.hk C.hs C.ha C.hn C.ht C.hm
/-- isinstance(kept, c) -/
def rIsF (K : PySem.W.Frag) : List V → Hp → VK → Prop := fun xs H Q => ∃ (a D : Addr) (fs : List (Str × V)) (c : V) (cv : Value) (b : Bool), xs = [.ref a, c] ∧ Fld H a D fs ∧ ExcC K D ∧ ClsV c cv ∧ PySem.W.kitOne K (.ref D) cv = some b ∧ Q (.bl b) H
theorem call_isF : CallR X (.builtin "isinstance") (rIsF X.K) := by
  rintro pins s σ H xs us Q I r ⟨a, D, fs, c, cv, b, rfl, hf, C, kc, e, q⟩
  obtain ⟨u1, u2, rfl, r1, r2⟩ := vals2 r
  obtain rfl := kc.eq r2
  cases (show u1 = Value.ref a from r1)
  obtain ⟨oe, od, J, _⟩ := fld_at I hf
  exact PySem.W.kia_one (kit_fld C) I.kIn J e (fun z => nomatch z) fun tk => ⟨.bl b, H, I.tok tk, rfl, q⟩
/-- isinstance(kept, (c1, c2, ..)) -/
def rIsFT (K : PySem.W.Frag) : List V → Hp → VK → Prop := fun xs H Q => ∃ (a D tp : Addr) (fs : List (Str × V)) (cs : List V) (ws : List Value) (b : Bool), xs = [.ref a, .ref tp] ∧ Fld H a D fs ∧ ExcC K D ∧ H tp = some (.tup cs) ∧ Paired ClsV cs ws ∧ PySem.W.kitAny K (.ref D) ws = some b ∧ Q (.bl b) H
theorem call_isFT : CallR X (.builtin "isinstance") (rIsFT X.K) := by
  rintro pins s σ H xs us Q I r ⟨a, D, tp, fs, cs, ws, b, rfl, hf, C, ht, kc, e, q⟩
  obtain ⟨u1, u2, rfl, r1, r2⟩ := vals2 r
  cases (show u1 = Value.ref a from r1)
  cases (show u2 = Value.ref tp from r2)
  obtain ⟨oe, od, J, _⟩ := fld_at I hf
  have hT : ObjOk X.prog X.w H s.heap tp (.tup cs) := I.hok tp _ ht
  obtain ⟨_, its, rv, ⟨oc, odd, dt, osl⟩, g1, g2, n, g3⟩ := hT
  obtain rfl := ClsV.all kc rv
  simp only at g2 g3
  subst g2 g3
  exact PySem.W.kia_tup (kit_fld C) I.kIn J g1 e (fun z => nomatch z) fun tk => ⟨.bl b, H, I.tok tk, rfl, q⟩
/-- kept.n -/
def tFldH (K : PySem.W.Frag) (n : Str) (te : TE) : TE := fun σ H Q => te σ H fun x H1 => ∃ (a D : Addr) (fs : List (Str × V)) (v : V), x = .ref a ∧ Fld H1 a D fs ∧ XfC K D ∧ PySem.W.findIn K (.ref D) n = some none ∧ fs.lookup n = some v ∧ Q v H1
theorem pe_fldH {e : Expr} {te : TE} {pos : Pos} {n : Str} (he : PE X e te) (hb : attributeBase e n X.env (eval e X.env) = eval e X.env := by rfl) : PE X (.Attribute e n pos) (tFldH X.K n te) := by
  constructor
  intro pins s σ H Q I h
  refine attr_of hb (thn (he.run pins s σ H _ I h) ?_)
  rintro u s1 ⟨x, H1, I1, rx, a, D, fs, v, rfl, hf, T, no, l, q⟩
  cases (show u = Value.ref a from rx)
  obtain ⟨oe, od, J, look⟩ := fld_at I1 hf
  obtain ⟨w, e1, e2⟩ := look n v l
  exact HandSPX.exc_get I1.kIn J T.ga T.gg T.exC (PySem.W.findObj_own T.hdC no rfl e1) (handed_of e2) ⟨v, H1, I1.tok _, e2, q⟩
end
end HopR

set_option Elab.async false
set_option linter.all false
set_option maxRecDepth 100000
namespace HopR
open PySem L2
/-! ### the draws -/
def dval (left : Int) (k : Nat) (z : Int) : Int :=
  if (1000000000000000000 : Int) ≤ left then left % z
  else
    let small := left % 1000000000000000000
    let one := (small + 7 * (k : Int) + 1) * (48271 + 2 * (k : Int) * (k : Int)) % 2147483647
    let two := (small / 3 + 11 * (k : Int) + 5) * (39373 + 6 * (k : Int)) % 2147483629
    (one * two + one / 64) % z
def dleft (left : Int) (z : Int) : Int := if (1000000000000000000 : Int) ≤ left then left / z else left
def draws : Int → Nat → List Int → List Int
  | _, _, [] => []
  | left, k, z :: r => dval left k z :: draws (dleft left z) (k + 1) r
theorem draws_len : ∀ (zs : List Int) (c : Int) (k : Nat), (draws c k zs).length = zs.length
  | [], _, _ => rfl
  | z :: r, c, k => by
    show (draws (dleft c z) (k + 1) r).length + 1 = r.length + 1
    rw [draws_len r]
theorem dval_ok {c : Int} {k : Nat} {z : Int} (h : 0 < z) : 0 ≤ dval c k z ∧ dval c k z < z := by
  unfold dval
  split
  · exact ⟨Int.emod_nonneg _ (by omega), Int.emod_lt_of_pos _ h⟩
  · exact ⟨Int.emod_nonneg _ (by omega), Int.emod_lt_of_pos _ h⟩
theorem draws_ok : ∀ (zs : List Int) (c : Int) (k : Nat), (∀ z ∈ zs, 0 < z) → ∀ (i : Nat) (d z : Int), (draws c k zs)[i]? = some d → zs[i]? = some z → 0 ≤ d ∧ d < z
  | [], _, _, _, i, d, z, _, h => by simp at h
  | y :: r, c, k, hp, 0, d, z, h1, h2 => by
    have e1 : dval c k y = d := Option.some.inj h1
    have e2 : y = z := Option.some.inj h2
    subst e1 e2
    exact dval_ok (hp y (List.mem_cons_self ..))
  | y :: r, c, k, hp, i + 1, d, z, h1, h2 => draws_ok r _ _ (fun q hq => hp q (List.mem_cons_of_mem _ hq)) i d z h1 h2
/-- the size of a draw is one that is reckoned with -/
def SizeOk (z : Int) : Prop := 0 < z ∧ z < 18446744073709551616
def bits (cs : List Int) : List Bool := cs.map fun c => decide (c = 1)
theorem signs_rows : ∀ (ys : List Str), (∀ y ∈ ys, ∃ b, y = tx [b]) → ∃ bs : List Bool, ys = bs.map fun b => tx [b]
  | [], _ => ⟨[], rfl⟩
  | y :: r, h => by
    obtain ⟨b, e⟩ := h y (List.mem_cons_self ..)
    obtain ⟨bs, e2⟩ := signs_rows r fun z hz => h z (List.mem_cons_of_mem _ hz)
    exact ⟨b :: bs, by rw [e, e2]; rfl⟩
theorem dot_o (c : Int) (h0 : 0 ≤ c) (h2 : c < 2) : atI (".o" : Str).cps.toList c = some (cd (decide (c = 1))) := by
  have e : (".o" : Str).cps.toList = [46, 111] := by decide +kernel
  rw [e]
  rcases (show c = 0 ∨ c = 1 by omega) with rfl | rfl
  · decide
  · decide
/-- a row -/
def Row (bs : List Bool) : Prop := 1 ≤ bs.length ∧ bs.length ≤ 30
theorem row_size {bs : List Bool} (h : Row bs) : (tx bs).length ≤ sizeLine := tx_fit (Nat.le_trans h.2 (by decide))
theorem flat_rep {α : Type} (x : α) : ∀ m : Nat, (List.replicate m [x]).flatten = List.replicate m x
  | 0 => rfl
  | m + 1 => by
    rw [List.replicate_succ, List.flatten_cons, flat_rep x m]
    rfl
theorem rep_of (m : Nat) : repS "o." m = tx (List.replicate m [true, false]).flatten := by
  unfold repS tx
  have e : ("o." : Str).cps.toList = [true, false].map cd := by decide +kernel
  rw [e, List.map_flatten, List.map_replicate]
theorem rep_of_len (m : Nat) : (List.replicate m [true, false]).flatten.length = 2 * m := by
  rw [List.length_flatten, List.map_replicate, List.sum_replicate_nat]
  show m * 2 = 2 * m
  omega
def spDrawn (K : PySem.W.Frag) : Sp := fun vs H Q _ => ∃ (c : Int) (a : Addr) (zs : List Int), vs = [.int c, .ref a] ∧ SqL K H a (zs.map V.int) ∧ (∀ z ∈ zs, SizeOk z) ∧ zs.length ≤ 1000 ∧
  ∀ H' p, Same H H' → H p = none → H' p = some (.lst ((draws c 0 zs).map V.int)) → Q (.ref p) H'
def spCellH (K : PySem.W.Frag) : Sp := fun vs H Q _ => ∃ (a : Addr) (ns : List Int) (k : Nat), vs = [.ref a, .int (k : Int)] ∧ SqL K H a (ns.map V.int) ∧ ∀ c : Int, Q (.int c) H
def spLRow : Sp := fun vs H Q _ => ∃ (c : Int) (M : Nat), vs = [.int c, .int (M : Int)] ∧ 1 ≤ M ∧ M ≤ 30 ∧ ∀ H' bs, Same H H' → 1 ≤ bs.length → bs.length ≤ M → Q (.str (tx bs)) H'
end HopR

set_option Elab.async false
set_option linter.all false
set_option maxRecDepth 100000
namespace HopR
open PySem L2
/-! ### data that can be shown -/
structure Okd (d : PyData) (k N : Nat) : Prop where
  sh : d.showable = true
  nd : d.hasDict = false
  dp : d.depth ≤ k
  ls : d.leavesShort 13 = true
  wt : d.weight ≤ N
structure Okds (ds : List PyData) (k N : Nat) : Prop where
  sh : PyData.showableAll ds = true
  nd : PyData.hasDictAll ds = false
  dp : PyData.depthAll ds ≤ k
  ls : PyData.leavesShortAll 13 ds = true
  wt : PyData.weightAll ds ≤ N
theorem Okds.nil {k : Nat} : Okds [] k 0 := ⟨rfl, rfl, Nat.zero_le _, rfl, Nat.le_refl _⟩
theorem Okds.cons {d : PyData} {ds : List PyData} {k N M : Nat} (a : Okd d k N) (b : Okds ds k M) : Okds (d :: ds) k (N + 1 + M) where
  sh := by simp only [PyData.showableAll, a.sh, b.sh, Bool.and_true]
  nd := by simp only [PyData.hasDictAll, a.nd, b.nd, Bool.or_false]
  dp := by
    simp only [PyData.depthAll]
    exact Nat.max_le.mpr ⟨a.dp, b.dp⟩
  ls := by simp only [PyData.leavesShortAll, a.ls, b.ls, Bool.and_true]
  wt := by
    simp only [PyData.weightAll]
    have := a.wt
    have := b.wt
    omega
theorem Okds.list {ds : List PyData} {k N : Nat} (a : Okds ds k N) : Okd (.list ds) (k + 1) N :=
  ⟨by simp only [PyData.showable, a.sh], by simp only [PyData.hasDict, a.nd], by simp only [PyData.depth]; exact Nat.succ_le_succ a.dp, by simp only [PyData.leavesShort, a.ls], by simp only [PyData.weight]; exact a.wt⟩
theorem Okds.tuple {ds : List PyData} {k N : Nat} (a : Okds ds k N) : Okd (.tuple ds) (k + 1) N :=
  ⟨by simp only [PyData.showable, a.sh], by simp only [PyData.hasDict, a.nd], by simp only [PyData.depth]; exact Nat.succ_le_succ a.dp, by simp only [PyData.leavesShort, a.ls], by simp only [PyData.weight]; exact a.wt⟩
theorem Okd.int {i : Int} {k : Nat} (h : i.natAbs < 1000000000000) : Okd (.int i) k 41 := by
  have hl : i.natAbs.log2 < 40 ∨ i.natAbs = 0 := by
    by_cases h0 : i.natAbs = 0
    · exact .inr h0
    · exact .inl ((Nat.log2_lt h0).mpr (by omega))
  have hl : i.natAbs.log2 < 40 := hl.elim id fun e => by
    rw [e]
    decide
  refine ⟨decide_eq_true (by omega), rfl, Nat.zero_le _, ?_, ?_⟩
  · simp only [PyData.leavesShort]
    exact decide_eq_true (PyData.shown_int_le h)
  · simp only [PyData.weight]
    split <;> omega
theorem Okd.bool {b : Bool} {k : Nat} : Okd (.bool b) k 0 := ⟨rfl, rfl, Nat.zero_le _, rfl, Nat.le_refl _⟩
theorem Okd.none {k : Nat} : Okd .none k 0 := ⟨rfl, rfl, Nat.zero_le _, rfl, Nat.le_refl _⟩
theorem Okd.tx {bs : List Bool} {k : Nat} : Okd (.str (tx bs)) k bs.length := by
  refine ⟨rfl, rfl, Nat.zero_le _, ?_, ?_⟩
  · simp only [PyData.leavesShort]
    rw [tx_list, List.all_map, List.all_eq_true]
    intro b _
    cases b <;> decide
  · simp only [PyData.weight]
    exact Nat.le_of_eq (tx_len bs)
theorem Okds.ints : ∀ {ks : List Nat} {k : Nat}, (∀ j ∈ ks, j < 1000000000000) → Okds (ks.map dw) k (42 * ks.length)
  | [], k, _ => Okds.nil
  | a :: r, k, h => by
    have h1 : Okd (dw a) k 41 := Okd.int (i := (a : Int)) (h a (List.mem_cons_self ..))
    have h2 : Okds (r.map dw) k (42 * r.length) := Okds.ints fun j hj => h j (List.mem_cons_of_mem _ hj)
    have := Okds.cons h1 h2
    rw [List.length_cons, show 42 * (r.length + 1) = 41 + 1 + 42 * r.length by omega]
    exact this
theorem Okd.mono {d : PyData} {k k' N N' : Nat} (a : Okd d k N) (hk : k ≤ k') (hN : N ≤ N') : Okd d k' N' := ⟨a.sh, a.nd, Nat.le_trans a.dp hk, a.ls, Nat.le_trans a.wt hN⟩
theorem Okd.fits {d : PyData} {k N : Nat} (a : Okd d k N) (hN : N ≤ 1048576) : d.shown.length ≤ sizeLine := PyData.shown_fits (B := 13) (by decide) (by decide) a.ls (Nat.le_trans a.wt hN)
end HopR

set_option Elab.async false
set_option linter.all false
set_option maxRecDepth 100000
namespace Hop
open PySem L2 HopR
def top (i : Nat) : Stmt := PySem.Challenge.pw_hopline_k10_walls_refused.main.body.getD i (.Pass ⟨0, 0, 0, 0⟩)
abbrev sInit : Stmt := inClass (top 5) 0
abbrev sIsWhole : Stmt := top 7
abbrev sIsRow : Stmt := top 13
abbrev sNeedRow : Stmt := top 14
abbrev sMirror : Stmt := top 16
abbrev sWithEnds : Stmt := top 17
abbrev sWallsOf : Stmt := top 18
abbrev sNeedOpen : Stmt := top 19
abbrev sChanged : Stmt := top 20
abbrev sCellAt : Stmt := top 22
abbrev sDrawn : Stmt := top 23
abbrev sLRow : Stmt := top 24
abbrev sOpen : Stmt := top 25
abbrev sGate : Stmt := top 27
abbrev sKind : Stmt := top 28
abbrev sLaw : Stmt := top 29
/-! ### what stands at the top -/
structure Txt (K : PySem.W.Frag) (w : World) (mg : Str → Option Value) (d : Addr) (es : Array DictEntry) (n : Nat) : Prop where
  len : mg "len" = none
  range : mg "range" = none
  all : mg "all" = none
  isi : mg "isinstance" = none
  str : mg "str" = none
  int : mg "int" = none
  bool : mg "bool" = none
  sorted : mg "sorted" = none
  list : mg "list" = none
  repr : mg "repr" = none
  ie : mg "IndexError" = none
  ve : mg "ValueError" = none
  bead : ∃ t, mg "BEAD" = some (.str "o" t)
  free : ∃ t, mg "FREE" = some (.str "." t)
  most : ∃ t, mg "MOST_PLACES" = some (.int 30 t)
  os : mg "OTHER_SIGN" = some (.ref d)
  D : KDict K w d es n
  keys : keysAre es
structure Er (K : PySem.W.Frag) (mg : Str → Option Value) (HE NN NR NP NL fI : Addr) : Prop where
  gHE : mg "HopError" = some (.ref HE)
  gNN : mg "NoNumber" = some (.ref NN)
  gNR : mg "NoRow" = some (.ref NR)
  gNP : mg "NoPace" = some (.ref NP)
  gNL : mg "NoWall" = some (.ref NL)
  R : Xc K NR bmV "ValueError.__new__"
  W : Kept K NL fI "wall"
  wc : ExcC K NL
  mW : PySem.W.exmOne K (.ref NL) (.ref NL) = some true
  mR : PySem.W.exmAny K (.ref NR) [.ref HE, .ref NL] = some true
  wI : PySem.W.kitOne K (.ref NL) (.type "IndexError") = some true
  wA : PySem.W.kitAny K (.ref NL) [.ref HE, .type "ValueError"] = some false
  rA : PySem.W.kitAny K (.ref NR) [.ref NN, .ref NP, .ref NL] = some false
  vI : PySem.W.findCls K (.type "IndexError") (.type "type") "__init__" = some (.val (.builtin "IndexError.__init__"))
/-- a text in a written dict -/
def rInKd (K : PySem.W.Frag) (d : Addr) : R2 := fun x y H Q => ∃ (z : Str) (r : Option Value), x = .str z ∧ y = .ref d ∧ PySem.W.nsIn K d z = some r ∧ Q (.bl r.isSome) H
theorem op_inKd {X : Cx} {d : Addr} {es : Array DictEntry} {n : Nat} (D : KDict X.K X.w d es n) : OpR X (compareOp .In) (rInKd X.K d) := op_in_kd D
section
variable {P : Program} {w : World} {K : PySem.W.Frag} {mg : Str → Option Value} {base : Heap} {d : Addr} {es : Array DictEntry} {n : Nat}
/-! ### is_whole -/
def spWh (K : PySem.W.Frag) : Sp := fun vs H Q _ => ∃ x, vs = [x] ∧ ((∃ i : Int, x = .int i ∧ Q (.bl true) H) ∨ (Odd K H x ∧ Q (.bl false) H))
theorem scWhole : FnScope ["thing"] ["thing"] (defScope sIsWhole) := ⟨rfl, rfl, rfl, by decide +kernel, rfl, by decide +kernel, by decide +kernel⟩
theorem ok_whole {f : Addr} {fd : FuncData} {k : Nat} (F : Fun K "is_whole" "is_whole" sIsWhole f fd) (T : Txt K w mg d es n) : FnOk P w K mg base CX0 (k + 1) f fd ["thing"] (spWh K) := by
  refine F.ok scWhole (fun vs H Q E h => ?_) (fun cdv A outer s H vs Q E hr h => ?_)
  · obtain ⟨i, rfl, _⟩ := h
    rfl
  · obtain ⟨x, rfl, h⟩ := h
    refine ⟨_, pss_one (ps_ret (pe_and (pe_callB call_isi (by rfl) T.isi (by decide +kernel) (pa_cons (pv 0) (pa_cons (pe_bltn (v := .ty "int") (by rfl) T.int (by decide +kernel) rfl) pa_nil)))
      (pe_one (pe_not (pe_callB call_isi (by rfl) T.isi (by decide +kernel) (pa_cons (pv 0) (pa_cons (pe_bltn (v := .ty "bool") (by rfl) T.bool (by decide +kernel) rfl) pa_nil))))))), ?_⟩
    rcases h with ⟨i, rfl, q⟩ | ⟨⟨t, bI, ty, k1, k2⟩, q⟩
    · refine ⟨.int i, rfl, .int i, .ty "int", .type "int", .type "int", true, rfl, .ty _, .base (.int _), kit_ty (by decide +kernel), true, rfl, ?_⟩
      exact ⟨.int i, rfl, .int i, .ty "bool", .type "int", .type "bool", false, rfl, .ty _, .base (.int _), kit_ty (by decide +kernel), false, rfl, q⟩
    · refine ⟨x, rfl, x, .ty "int", t, .type "int", bI, rfl, .ty _, ty, k1, bI, rfl, ?_⟩
      cases bI with
      | false => exact q
      | true => exact ⟨x, rfl, x, .ty "bool", t, .type "bool", true, rfl, .ty _, ty, k2 rfl, true, rfl, q⟩
/-! ### is_row -/
def spIsRow (K : PySem.W.Frag) : Sp := fun vs H Q _ => ∃ x b, vs = [x] ∧ RowB K H x b ∧ ∀ H', Same H H' → Q (.bl b) H'
theorem scIsRow : FnScope ["thing", "sign"] ["thing"] (defScope sIsRow) := ⟨rfl, rfl, rfl, by decide +kernel, rfl, by decide +kernel, by decide +kernel⟩
theorem ok_isrow {f : Addr} {fd : FuncData} {k : Nat} (F : Fun K "is_row" "is_row" sIsRow f fd) (T : Txt K w mg d es n) : FnOk P w K mg base CX0 (k + 1) f fd ["thing"] (spIsRow K) := by
  refine F.ok scIsRow (fun vs H Q E h => ?_) (fun cdv A outer s H vs Q E hr h => ?_)
  · obtain ⟨x, b, rfl, _⟩ := h
    rfl
  · obtain ⟨x, b, rfl, hb, q⟩ := h
    have nd := scIsRow.nd
    obtain ⟨tm, gm⟩ := T.most
    refine ⟨_, pss_cons (ps_if (PW.pt (pw_or (pt_not (pt_val (pe_callB call_isi (by rfl) T.isi (by decide +kernel) (pa_cons (pv 0) (pa_cons (pe_bltn (v := .ty "str") (by rfl) T.str (by decide +kernel) rfl) pa_nil)))))
          (pw_or (pt_cmpR op_lt (pe_callB call_len_str (by rfl) T.len PySem.boot_len (pa_cons (pv 0) pa_nil)) pe_int (nomark _))
          (pw_or1 (pt_cmpR op_gt (pe_callB call_len_str (by rfl) T.len PySem.boot_len (pa_cons (pv 0) pa_nil)) (pe_glob (v := .int 30) (by rfl) gm ⟨_, rfl⟩) (nomark _))))))
        (pss_one (ps_ret pe_bl)) pss_nil)
      (pss_one (ps_ret (pe_callB (cr_all rfl) (by rfl) T.all (by decide +kernel) (pa_cons
        (pe_lc (own := [("sign", 1)]) (g := gName 1) (tt := tYes) (te := tOp (rInKd K d) (tVar 1) (tC (.ref d))) rfl nd (pi_str (pv 0)) (blkOk_by (own := [("sign", 1)]) (N := ["thing", "sign"]) (sc := defScope sIsRow) (by decide +kernel))
          (fun _ _ _ _ _ => pg_name (i := 1) nd rfl (Or.inl rfl)) (fun _ _ _ _ _ => pts_nil)
          (fun _ _ _ _ _ => pe_cmpR (op_inKd T.D) (pv 1) (pe_glob (v := .ref d) (by rfl) T.os rfl) (by rfl)))
        pa_nil)))), ?_⟩
    rcases hb with ⟨⟨t, ty, kt⟩, rfl⟩ | ⟨z, rfl, hz, rfl⟩
    · exact ⟨x, rfl, x, .ty "str", t, .type "str", false, rfl, .ty _, ty, kt, false, rfl, q H (Same.refl _)⟩
    · refine ⟨.str z, rfl, .str z, .ty "str", .type "str", .type "str", true, rfl, .ty _, .base (.str _), kit_ty (by decide +kernel), true, rfl, iteF ?_⟩
      refine ⟨.str z, rfl, z, rfl, fit hz, _, _, rfl, rfl, _, rfl, ?_⟩
      by_cases h1 : z.length < 1
      · rw [decide_eq_true (show (z.length : Int) < 1 by omega)]
        have e : isRowB z = false := by
          unfold isRowB
          rw [decide_eq_false (by omega)]
          rfl
        rw [e] at q
        exact q H (Same.refl _)
      rw [decide_eq_false (show ¬ (z.length : Int) < 1 by omega)]
      refine iteF ⟨.str z, rfl, z, rfl, fit hz, _, _, rfl, rfl, _, rfl, ?_⟩
      by_cases h2 : 30 < z.length
      · rw [decide_eq_true (show (z.length : Int) > 30 by omega)]
        have e : isRowB z = false := by
          unfold isRowB
          rw [decide_eq_false (show ¬ z.length ≤ 30 by omega)]
          simp
        rw [e] at q
        exact q H (Same.refl _)
      rw [decide_eq_false (show ¬ (z.length : Int) > 30 by omega)]
      refine iteF ⟨.str z, rfl, z, rfl, fun D hD => ?_⟩
      refine lc_it walk_str (fun i H3 => Same H H3 ∧ H3 D = some (.lst (((z.cps.toList.take i).map okc).map V.bl))) ⟨same_upd hD, upd_same⟩ (fun _ _ _ _ => trivial) ?_ ?_
      · rintro i x H3 H' hi ⟨sm, eD⟩ ⟨rfl, c, hc, rfl⟩
        obtain ⟨r, e1, e2⟩ := sign_in T.D.at_ T.keys c
        refine ⟨rfl, .str ⟨#[c]⟩, rfl, ⟨#[c]⟩, r, rfl, rfl, e1, _, eD, ?_, same_new hD sm, ?_⟩
        · rw [List.length_map, List.length_map]
          refine fit' (Nat.le_trans (List.length_take_le _ _) ?_)
          have : i < z.length := hi
          omega
        · rw [upd_same, e2, List.take_add_one, Array.getElem?_toList, hc, List.map_append, List.map_append]
          rfl
      · rintro H3 ⟨sm, eD⟩
        refine ⟨D, (z.cps.toList.map okc), rfl, SqL.of ?_, ?_⟩
        · rw [eD, List.take_of_length_le (by rw [Array.length_toList]; exact Nat.le_refl _)]
        · have e : (z.cps.toList.map okc).all id = isRowB z := by
            unfold isRowB
            rw [decide_eq_true (show 1 ≤ z.length by omega), decide_eq_true (show z.length ≤ 30 by omega), List.all_map]
            rfl
          rw [e]
          exact q H3 sm
end
end Hop

set_option Elab.async false
set_option linter.all false
set_option maxRecDepth 100000
namespace Hop
open PySem L2 HopR
section
variable {P : Program} {w : World} {K : PySem.W.Frag} {mg : Str → Option Value} {base : Heap} {d : Addr} {es : Array DictEntry} {n : Nat} {HE NN NR NP NL fI : Addr}
/-! ### need_row, mirrored, with_ends, walls_of -/
def spNeed (K : PySem.W.Frag) (NR : Addr) : Sp := fun vs H Q E => ∃ x b, vs = [x] ∧ RowB K H x b ∧ (b = true → ∀ H', Same H H' → Q .non H') ∧ (b = false → ∀ H', Same H H' → E (.ref NR) none H')
theorem scNeed : FnScope ["thing"] ["thing"] (defScope sNeedRow) := ⟨rfl, rfl, rfl, by decide +kernel, rfl, by decide +kernel, by decide +kernel⟩
theorem ok_need {f f1 : Addr} {fd fd1 : FuncData} {k : Nat} (F : Fun K "need_row" "need_row" sNeedRow f fd) (N1 : Fn K mg "is_row" sIsRow ["thing"] f1 fd1) (T : Txt K w mg d es n) (Z : Er K mg HE NN NR NP NL fI) :
    FnOk P w K mg base (L2.CX P w) (k + 2) f fd ["thing"] (spNeed K NR) := by
  have G1 : FnOk P w K mg base CX0 (k + 1) f1 fd1 ["thing"] (spIsRow K) := ok_isrow N1.F T
  refine F.okX scNeed (fun vs H Q E h => ?_) (fun cdv A outer s H vs Q E hr h => ?_)
  · obtain ⟨x, b, rfl, _⟩ := h
    rfl
  · obtain ⟨x, b, rfl, hb, q1, q2⟩ := h
    refine ⟨_, pss_one (ps_if (pt_not (pt_val (pe_call G1 hr (by rfl) N1.g N1.F.kp N1.b .nil pass0 (pa_cons (pv 0) pa_nil))))
      (pss_one (ps_raise rfl (takes_of rfl rfl rfl rfl) (pmk_own PySem.F.excBase_ValueError Z.R.x Z.gNR Z.R.k (raises_own Z.R.be Z.R.ty) rfl))) pss_nil), ?_⟩
    refine ⟨x, rfl, x, b, rfl, hb, fun H1 s1 => ⟨b, rfl, ?_⟩⟩
    cases b with
    | true => exact q1 rfl H1 s1
    | false => exact q2 rfl H1 s1
/-- of no row -/
def spNoRow (K : PySem.W.Frag) (NR : Addr) : Sp := fun vs H _ E => ∃ x, vs = [x] ∧ RowB K H x false ∧ ∀ H', Same H H' → E (.ref NR) none H'
theorem scMirror : FnScope ["row"] ["row"] (defScope sMirror) := ⟨rfl, rfl, rfl, by decide +kernel, rfl, by decide +kernel, by decide +kernel⟩
theorem ok_mirror {f f1 f2 : Addr} {fd fd1 fd2 : FuncData} {k : Nat} (F : Fun K "mirrored" "mirrored" sMirror f fd) (N1 : Fn K mg "is_row" sIsRow ["thing"] f1 fd1) (N2 : Fn K mg "need_row" sNeedRow ["thing"] f2 fd2) (T : Txt K w mg d es n) (Z : Er K mg HE NN NR NP NL fI) :
    FnOk P w K mg base (L2.CX P w) (k + 3) f fd ["row"] (spNoRow K NR) := by
  have G2 : FnOk P w K mg base (L2.CX P w) (k + 2) f2 fd2 ["thing"] (spNeed K NR) := ok_need N2.F N1 T Z
  refine F.okX scMirror (fun vs H Q E h => ?_) (fun cdv A outer s H vs Q E hr h => ?_)
  · obtain ⟨x, rfl, _⟩ := h
    rfl
  · obtain ⟨x, rfl, hb, q⟩ := h
    refine ⟨_, pss_cons (ps_expr (pe_call G2 hr (by rfl) N2.g N2.F.kp N2.b .nil (passes_call (E := E) (takes_of rfl rfl rfl rfl) (fun _ _ _ _ h => h)) (pa_cons (pv 0) pa_nil))) (pss_one ps_never), ?_⟩
    exact ⟨x, rfl, x, false, rfl, hb, (fun z => nomatch z), fun _ H1 s1 => q H1 s1⟩
def spEnds : Sp := fun vs H Q _ => ∃ bs, vs = [.str (tx bs)] ∧ Row bs ∧ Q (.str (tx (ends bs))) H
theorem scEnds : FnScope ["row"] ["row"] (defScope sWithEnds) := ⟨rfl, rfl, rfl, by decide +kernel, rfl, by decide +kernel, by decide +kernel⟩
theorem ok_ends {f : Addr} {fd : FuncData} {k : Nat} (F : Fun K "with_ends" "with_ends" sWithEnds f fd) (T : Txt K w mg d es n) : FnOk P w K mg base CX0 (k + 1) f fd ["row"] spEnds := by
  refine F.ok scEnds (fun vs H Q E h => ?_) (fun cdv A outer s H vs Q E hr h => ?_)
  · obtain ⟨bs, rfl, _⟩ := h
    rfl
  · obtain ⟨bs, rfl, hR, q⟩ := h
    obtain ⟨tb, gb⟩ := T.bead
    obtain ⟨tf, gf⟩ := T.free
    have h30 := hR.2
    have l1 : ("o" : Str).length = 1 := by decide +kernel
    have l2 : ("." : Str).length = 1 := by decide +kernel
    refine ⟨_, pss_one (ps_ret (pe_op op_add_str (pe_op op_add_str (pe_glob (v := .str "o") (by rfl) gb ⟨_, rfl⟩) (pv 0)) (pe_glob (v := .str ".") (by rfl) gf ⟨_, rfl⟩))), ?_⟩
    refine ⟨.str (tx bs), rfl, "o", tx bs, rfl, rfl, ?_, "o" ++ tx bs, ".", rfl, rfl, ?_, ?_⟩
    · rw [l1, tx_len, sizeLine_eq]
      omega
    · rw [tx_o, tx_f, tx_app, tx_len, tx_len, sizeLine_eq]
      show ([true] ++ bs).length + 1 ≤ 16777216
      rw [List.length_append]
      show 1 + bs.length + 1 ≤ 16777216
      omega
    · rw [tx_o, tx_f, tx_app, tx_app]
      exact q
/-- walls_of, of anything -/
def spWallsX (K : PySem.W.Frag) (NR : Addr) : Sp := fun vs H Q E => ∃ x, vs = [x] ∧ ((∃ bs, x = .str (tx bs) ∧ Row bs ∧ ∀ H' p, Same H H' → H p = none → H' p = some (.lst ((walls bs).map wv)) → Q (.ref p) H') ∨ (RowB K H x false ∧ ∀ H', Same H H' → E (.ref NR) none H'))
theorem scWalls : FnScope ["row", "signs", "wall"] ["row"] (defScope sWallsOf) := ⟨rfl, rfl, rfl, by decide +kernel, rfl, by decide +kernel, by decide +kernel⟩
theorem ok_walls {f f1 f2 f3 : Addr} {fd fd1 fd2 fd3 : FuncData} {k : Nat} (F : Fun K "walls_of" "walls_of" sWallsOf f fd) (N1 : Fn K mg "is_row" sIsRow ["thing"] f1 fd1) (N2 : Fn K mg "need_row" sNeedRow ["thing"] f2 fd2) (N3 : Fn K mg "with_ends" sWithEnds ["row"] f3 fd3) (T : Txt K w mg d es n) (Z : Er K mg HE NN NR NP NL fI) :
    FnOk P w K mg base (L2.CX P w) (k + 3) f fd ["row"] (spWallsX K NR) := by
  have G2 : FnOk P w K mg base (L2.CX P w) (k + 2) f2 fd2 ["thing"] (spNeed K NR) := ok_need N2.F N1 T Z
  have G3 : FnOk P w K mg base CX0 (k + 2) f3 fd3 ["row"] spEnds := ok_ends N3.F T
  refine F.okX scWalls (fun vs H Q E h => ?_) (fun cdv A outer s H vs Q E hr h => ?_)
  · obtain ⟨x, rfl, _⟩ := h
    rfl
  · obtain ⟨x, rfl, h⟩ := h
    have nd := scWalls.nd
    obtain ⟨tb, gb⟩ := T.bead
    obtain ⟨tf, gf⟩ := T.free
    refine ⟨_, pss_cons (ps_expr (pe_call G2 hr (by rfl) N2.g N2.F.kp N2.b .nil (passes_call (E := E) (takes_of rfl rfl rfl rfl) (fun _ _ _ _ h => h)) (pa_cons (pv 0) pa_nil)))
      (pss_cons (ps_set (i := 1) nd rfl (.inr rfl) (pe_call G3 hr (by rfl) N3.g N3.F.kp N3.b .nil pass0 (pa_cons (pv 0) pa_nil)))
      (pss_one (ps_ret (pe_lc (own := [("wall", 2)]) (g := gName 2) rfl nd (pi_range1 (by rfl) T.range (pa_cons (pe_op op_add (pe_callB call_len_str (by rfl) T.len PySem.boot_len (pa_cons (pv 0) pa_nil)) pe_int) pa_nil))
        (blkOk_by (own := [("wall", 2)]) (N := ["row", "signs", "wall"]) (sc := defScope sWallsOf) (by decide +kernel))
        (fun _ _ _ _ _ => pg_name (i := 2) nd rfl (Or.inl rfl))
        (fun _ _ _ _ _ => pts_one (pt_cmpR op_eq (pe_slice sl_str (pv 1) (po_some (pv 2)) (po_some (pe_op op_add (pv 2) pe_int))) (pe_op op_add_str (pe_glob (v := .str "o") (by rfl) gb ⟨_, rfl⟩) (pe_glob (v := .str ".") (by rfl) gf ⟨_, rfl⟩)) (nomark _)))
        (fun _ _ _ _ _ => pv 2))))), ?_⟩
    rcases h with ⟨bs, rfl, hR, q⟩ | ⟨hw, q⟩
    rotate_left
    · exact ⟨x, rfl, x, false, rfl, hw, (fun z => nomatch z), fun _ H1 s1 => q H1 s1⟩
    have hz := row_size hR
    refine ⟨.str (tx bs), rfl, .str (tx bs), true, rfl, .inr ⟨tx bs, rfl, by rw [tx_len]; have := hR.2; omega, (isRow_tx hR.1 hR.2).symm⟩, fun _ H1 s1 => ?_, fun z => nomatch z⟩
    refine ⟨.str (tx bs), rfl, bs, rfl, hR, ?_⟩
    refine ⟨.str (tx bs), rfl, tx bs, rfl, hz, _, 1, rfl, rfl, _, rfl, ?_, ?_, fun D hD => ?_⟩
    · rw [tx_len]; omega
    · rw [tx_len]; have := hR.2; omega
    · have en : (((tx bs).length : Int) + 1).toNat = bs.length + 1 := by
        rw [tx_len]
        omega
      rw [en]
      refine lc_range (lo := 0) (n := bs.length + 1) (fun i H3 => Same H H3 ∧ H3 D = some (.lst (((List.range i).filter (opn bs)).map wv))) ⟨same_new (s1.free hD) s1, upd_same⟩ ?_ ?_
      · rintro i H3 hi ⟨sm, eD⟩
        rw [Int.zero_add]
        have h30 := hR.2
        have hze : (tx (ends bs)).length ≤ sizeLine := by
          rw [tx_len, ends_len, sizeLine_eq]
          omega
        have hlt : (((List.range i).filter (opn bs)).map wv).length < sizeLine := by
          rw [List.length_map]
          refine small1000 (Nat.le_trans (List.length_filter_le _ _) ?_)
          rw [List.length_range]
          omega
        refine ⟨rfl, .str (tx (ends bs)), rfl, .int (i : Int), rfl, _, rfl, .int (i : Int), rfl, _, _, rfl, rfl, _, rfl, tx (ends bs), rfl, hze, "o", ".", rfl, rfl, by decide, rfl, _, rfl, ?_⟩
        have e : decide (V.str (cutS (tx (ends bs)) (some (i : Int)) (some ((i : Int) + 2))) = V.str ("o" ++ ".")) = opn bs i := by
          have e1 := cut_at (ends bs) i 2
          rw [show (((2 : Nat) : Int)) = 2 from rfl] at e1
          rw [e1, tx_o, tx_f, tx_app]
          show decide (V.str (tx (((ends bs).drop i).take 2)) = V.str (tx [true, false])) = opn bs i
          unfold opn
          by_cases h : ((ends bs).drop i).take 2 = [true, false]
          · rw [h, decide_eq_true rfl, decide_eq_true rfl]
          · rw [decide_eq_false h, decide_eq_false fun q => h (tx_inj (V.str.inj q))]
        rw [e]
        have er : (List.range (i + 1)).filter (opn bs) = (List.range i).filter (opn bs) ++ (if opn bs i then [i] else []) := by
          rw [List.range_succ, List.filter_append]
          congr 1
          cases h : opn bs i with
          | true => simp [h]
          | false => simp [h]
        cases h : opn bs i with
        | true =>
          rw [h] at er
          refine ⟨.int (i : Int), rfl, _, eD, hlt, same_new (s1.free hD) sm, ?_⟩
          rw [upd_same, er, List.map_append]
          rfl
        | false =>
          rw [h] at er
          refine ⟨sm, ?_⟩
          rw [er, eD]
          simp
      · rintro H3 ⟨sm, eD⟩
        exact q H3 D sm (s1.free hD) eD
/-! ### NoWall.__init__, need_open, changed -/
theorem scInit : FnScope ["self", "wall"] ["self", "wall"] (defScope sInit) := ⟨rfl, rfl, rfl, by decide +kernel, rfl, by decide +kernel, by decide +kernel⟩
theorem ok_init {fd : FuncData} {k : Nat} (F : Fun K "__init__" "NoWall.__init__" sInit fI fd) (T : Txt K w mg d es n) (Z : Er K mg HE NN NR NP NL fI) : FnOk P w K mg base CX0 (k + 1) fI fd ["self", "wall"] (spKeepI NL "wall") := by
  refine F.ok scInit (fun vs H Q E h => ?_) (fun cdv A outer s H vs Q E hr h => ?_)
  · obtain ⟨a, y, rfl, _⟩ := h
    rfl
  · obtain ⟨a, y, rfl, ha, q⟩ := h
    refine ⟨_, pss_cons (ps_expr (pe_ieinit "wall" (by rfl) T.ie Z.vI (pa_cons (pv 0) (pa_cons pe_str pa_nil)))) (pss_one (ps_keep (pv 0) (pv 1))), ?_⟩
    refine ⟨.ref a, rfl, a, NL, fI, [.str "no such wall, or it is shut"], rfl, by decide, Z.W, ha, ?_⟩
    exact ⟨y, rfl, .ref a, rfl, a, NL, fI, rfl, Z.W, ha, fun d nd ne => q d nd ne⟩
/-- what need_open and changed say of what is no row, or no open wall -/
def spShut (K : PySem.W.Frag) (NR NL : Addr) : Sp := fun vs H _ E => ∃ x y, vs = [x, y] ∧ ((RowB K H x false ∧ ∀ H', Same H H' → E (.ref NR) none H') ∨
  (∃ bs, x = .str (tx bs) ∧ Row bs ∧ BadSpot K H y (walls bs) ∧ ∀ H' e, Same H H' → H e = none → H' e = some (.xd [(("wall" : Str), y)]) → E (.ref NL) (some e) H'))
theorem scNeedOpen : FnScope ["row", "wall", "walls"] ["row", "wall"] (defScope sNeedOpen) := ⟨rfl, rfl, rfl, by decide +kernel, rfl, by decide +kernel, by decide +kernel⟩
theorem ok_needopen {f f1 f2 f3 f4 f5 : Addr} {fd fd1 fd2 fd3 fd4 fd5 gI : FuncData} {k : Nat} (F : Fun K "need_open" "need_open" sNeedOpen f fd) (N1 : Fn K mg "is_row" sIsRow ["thing"] f1 fd1) (N2 : Fn K mg "need_row" sNeedRow ["thing"] f2 fd2) (N3 : Fn K mg "with_ends" sWithEnds ["row"] f3 fd3)
    (N4 : Fn K mg "walls_of" sWallsOf ["row"] f4 fd4) (N5 : Fn K mg "is_whole" sIsWhole ["thing"] f5 fd5) (FI : Fun K "__init__" "NoWall.__init__" sInit fI gI) (bI : Binds K gI ["self", "wall"] []) (T : Txt K w mg d es n) (Z : Er K mg HE NN NR NP NL fI) :
    FnOk P w K mg base (L2.CX P w) (k + 4) f fd ["row", "wall"] (spShut K NR NL) := by
  have G4 : FnOk P w K mg base (L2.CX P w) (k + 3) f4 fd4 ["row"] (spWallsX K NR) := ok_walls N4.F N1 N2 N3 T Z
  have G5 : FnOk P w K mg base CX0 (k + 3) f5 fd5 ["thing"] (spWh K) := ok_whole N5.F T
  have GI : FnOk P w K mg base CX0 (k + 2) fI gI ["self", "wall"] (spKeepI NL "wall") := ok_init FI T Z
  refine F.okX scNeedOpen (fun vs H Q E h => ?_) (fun cdv A outer s H vs Q E hr h => ?_)
  · obtain ⟨x, y, rfl, _⟩ := h
    rfl
  · obtain ⟨x, y, rfl, h⟩ := h
    have nd := scNeedOpen.nd
    refine ⟨_, pss_cons (ps_set (i := 2) nd rfl (.inl rfl) (pe_call G4 hr (by rfl) N4.g N4.F.kp N4.b .nil (passes_call (E := E) (takes_of rfl rfl rfl rfl) (fun _ _ _ _ h => h)) (pa_cons (pv 0) pa_nil)))
      (pss_one (ps_if (PW.pt (pw_or (pt_not (pt_val (pe_call G5 hr (by rfl) N5.g N5.F.kp N5.b .nil pass0 (pa_cons (pv 1) pa_nil)))) (pw_or1 (pt_cmpR op_notIn_seq (pv 1) (pv 2) (by rfl)))))
        (pss_one (ps_raise rfl (takes_of rfl rfl rfl rfl) (pmk_keep Z.W GI hr bI (by rfl) Z.gNL (pa_cons (pv 1) pa_nil)))) pss_nil)), ?_⟩
    rcases h with ⟨hw, q⟩ | ⟨bs, rfl, hR, hy, q⟩
    · exact ⟨x, rfl, x, rfl, .inr ⟨hw, fun H1 s1 => q H1 s1⟩⟩
    refine ⟨.str (tx bs), rfl, .str (tx bs), rfl, .inl ⟨bs, rfl, hR, fun H1 p s1 np ep => ?_⟩⟩
    rcases hy with ho | ⟨i, rfl, hno⟩
    · refine ⟨y, rfl, y, rfl, .inr ⟨odd_same s1 ho, false, rfl, ?_⟩⟩
      exact iteT ⟨y, rfl, y, rfl, fun e ne => q _ e (same_new (s1.free ne) s1) (s1.free ne) upd_same⟩
    · refine ⟨.int i, rfl, .int i, rfl, .inl ⟨i, rfl, true, rfl, iteF ⟨.int i, rfl, .ref p, rfl, p, _, rfl, .inl (SqL.of ep), rfl, flat_ks _, _, rfl, ?_⟩⟩⟩
      rw [inV_no hno]
      exact iteT ⟨.int i, rfl, .int i, rfl, fun e ne => q _ e (same_new (s1.free ne) s1) (s1.free ne) upd_same⟩
theorem scChanged : FnScope ["row", "wall", "signs", "behind"] ["row", "wall"] (defScope sChanged) := ⟨rfl, rfl, rfl, by decide +kernel, rfl, by decide +kernel, by decide +kernel⟩
theorem ok_changed {f f0 f1 f2 f3 f4 f5 : Addr} {fd fd0 fd1 fd2 fd3 fd4 fd5 gI : FuncData} {k : Nat} (F : Fun K "changed" "changed" sChanged f fd) (N0 : Fn K mg "need_open" sNeedOpen ["row", "wall"] f0 fd0) (N1 : Fn K mg "is_row" sIsRow ["thing"] f1 fd1) (N2 : Fn K mg "need_row" sNeedRow ["thing"] f2 fd2) (N3 : Fn K mg "with_ends" sWithEnds ["row"] f3 fd3)
    (N4 : Fn K mg "walls_of" sWallsOf ["row"] f4 fd4) (N5 : Fn K mg "is_whole" sIsWhole ["thing"] f5 fd5) (FI : Fun K "__init__" "NoWall.__init__" sInit fI gI) (bI : Binds K gI ["self", "wall"] []) (T : Txt K w mg d es n) (Z : Er K mg HE NN NR NP NL fI) :
    FnOk P w K mg base (L2.CX P w) (k + 5) f fd ["row", "wall"] (spShut K NR NL) := by
  have G0 : FnOk P w K mg base (L2.CX P w) (k + 4) f0 fd0 ["row", "wall"] (spShut K NR NL) := ok_needopen N0.F N1 N2 N3 N4 N5 FI bI T Z
  refine F.okX scChanged (fun vs H Q E h => ?_) (fun cdv A outer s H vs Q E hr h => ?_)
  · obtain ⟨x, y, rfl, _⟩ := h
    rfl
  · obtain ⟨x, y, rfl, h⟩ := h
    refine ⟨_, pss_cons (ps_expr (pe_call G0 hr (by rfl) N0.g N0.F.kp N0.b .nil (passes_call (E := E) (takes_of rfl rfl rfl rfl) (fun _ _ _ _ h => h)) (pa_cons (pv 0) (pa_cons (pv 1) pa_nil)))) (pss_cons ps_never (pss_cons ps_never (pss_one ps_never))), ?_⟩
    exact ⟨x, rfl, y, rfl, x, y, rfl, h⟩
end
end Hop

set_option Elab.async false
set_option linter.all false
set_option maxRecDepth 100000
namespace Hop
open PySem L2 HopR
/-! ### the draws, a cell, a row -/
section
variable {P : Program} {w : World} {K : PySem.W.Frag} {mg : Str → Option Value} {base : Heap}
theorem scDrawn : FnScope ["_law_cell", "_law_sizes", "_law_found", "_law_left", "_law_k", "_law_small", "_law_one", "_law_two"] ["_law_cell", "_law_sizes"] (defScope sDrawn) := ⟨rfl, rfl, rfl, by decide +kernel, rfl, by decide +kernel, by decide +kernel⟩
theorem ok_drawn {f : Addr} {fd : FuncData} {k : Nat} (F : Fun K "_law_drawn" "_law_drawn" sDrawn f fd) (mL : mg "len" = none) (mR : mg "range" = none) : FnOk P w K mg base CX0 (k + 1) f fd ["_law_cell", "_law_sizes"] (spDrawn K) := by
  refine F.ok scDrawn (fun vs H Q E h => ?_) (fun cdv A outer s H vs Q E hr h => ?_)
  · obtain ⟨c, a, zs, rfl, _⟩ := h
    rfl
  · obtain ⟨c, a, zs, rfl, hS, hz, hlen, q⟩ := h
    have nd := scDrawn.nd
    refine ⟨_, pss_cons (ps_set (i := 2) nd rfl (.inl rfl) (pe_lst pa_nil))
      (pss_cons (ps_set (i := 3) nd rfl (.inl rfl) (pv 0))
      (pss_cons (ps_for PassesOwn.never rfl (pi_range1 (by rfl) mR (pa_cons (pe_callB call_len_seq (by rfl) mL PySem.boot_len (pa_cons (pv 1) pa_nil)) pa_nil)) (pg_name (i := 4) nd rfl (.inl rfl))
        (pss_one (ps_if (pt_cmpR op_ge (pv 3) (pe_op op_pow pe_int pe_int) (nomark _))
          (pss_cons (ps_expr (pe_bm PySem.F.plainAttrs_list PySem.F.slot_list_append PySem.F.type_list_append mt_append (pv 2) (pa_cons (pe_op op_mod (pv 3) (pe_ix ix_list (pv 1) (pv 4) (fun _ _ => rfl))) pa_nil)))
            (pss_one (ps_set (i := 3) nd rfl (.inl rfl) (pe_op op_fdivW (pv 3) (pe_ix ix_list (pv 1) (pv 4) (fun _ _ => rfl))))))
          (pss_cons (ps_set (i := 5) nd rfl (.inl rfl) (pe_op op_mod (pv 3) (pe_op op_pow pe_int pe_int)))
          (pss_cons (ps_set (i := 6) nd rfl (.inl rfl) (pe_op op_mod (pe_op op_mul (pe_op op_add (pe_op op_add (pv 5) (pe_op op_mul pe_int (pv 4))) pe_int) (pe_op op_add pe_int (pe_op op_mul (pe_op op_mul pe_int (pv 4)) (pv 4)))) pe_int))
          (pss_cons (ps_set (i := 7) nd rfl (.inl rfl) (pe_op op_mod (pe_op op_mul (pe_op op_add (pe_op op_add (pe_op op_fdiv (pv 5) pe_int) (pe_op op_mul pe_int (pv 4))) pe_int) (pe_op op_add pe_int (pe_op op_mul pe_int (pv 4)))) pe_int))
          (pss_one (ps_expr (pe_bm PySem.F.plainAttrs_list PySem.F.slot_list_append PySem.F.type_list_append mt_append (pv 2) (pa_cons (pe_op op_mod (pe_op op_add (pe_op op_mul (pv 6) (pv 7)) (pe_op op_fdiv (pv 6) pe_int)) (pe_ix ix_list (pv 1) (pv 4) (fun _ _ => rfl))) pa_nil))))))))))
      (pss_one (ps_ret (pv 2))))), ?_⟩
    -- found = []; left = cell
    refine ⟨Nat.zero_le _, fun o no => ?_⟩
    have s1 : Same H (upd H o (.lst [])) := same_upd no
    refine ⟨.int c, rfl, .ref a, rfl, a, zs.map V.int, rfl, .inl (s1.seq hS), ((zs.map V.int).length : Int), rfl, by omega, (by rw [List.length_map]; omega), ?_⟩
    refine for_range (lo := 0) (n := zs.length) (fun i σ H3 => ∃ (l : Int) (y4 y5 y6 y7 : Option V) (ds : List Int), σ = [some (.int c), some (.ref a), some (.ref o), some (.int l), y4, y5, y6, y7] ∧
        Same H H3 ∧ H3 o = some (.lst (ds.map V.int)) ∧ ds.length = i ∧ ds ++ draws l i (zs.drop i) = draws c 0 zs)
      ⟨c, none, none, none, none, [], rfl, s1, upd_same, rfl, by simp⟩ ?_ ?_ |> (fun h => by rw [List.length_map]; exact h)
    · rintro i σ H3 hi ⟨l, y4, y5, y6, y7, ds, rfl, sm, eo, el, ed⟩
      have hA : SqL K H3 a (zs.map V.int) := sm.seq hS
      have hz1 := hz zs[i] (List.getElem_mem hi)
      have gz : zs[i]? = some zs[i] := List.getElem?_eq_getElem hi
      have g : atI (zs.map V.int) (i : Int) = some (.int zs[i]) := atI_nat (by rw [List.getElem?_map, gz]; rfl)
      have hd : zs.drop i = zs[i] :: zs.drop (i + 1) := List.drop_eq_getElem_cons hi
      rw [hd] at ed
      have ed' : (ds ++ [dval l i zs[i]]) ++ draws (dleft l zs[i]) (i + 1) (zs.drop (i + 1)) = draws c 0 zs := by
        rw [List.append_assoc]
        exact ed
      have small : (ds.map V.int).length < sizeLine := by
        rw [List.length_map]
        exact small1000 (by omega)
      rw [Int.zero_add]
      refine ⟨.int l, rfl, 10, 18, rfl, rfl, ⟨by decide, by decide, by decide⟩, l, 10 ^ 18, rfl, rfl, _, rfl, ite2 (fun e => ?_) (fun e => ?_)⟩
      · have e : (1000000000000000000 : Int) ≤ l := of_decide_eq_true e
        refine ⟨.ref o, rfl, .inl ⟨rfl, _, SqL.of eo⟩, .int l, rfl, .ref a, rfl, .int (i : Int), rfl, a, _, _, _, rfl, rfl, hA, g, l, zs[i], rfl, rfl, hz1.1, o, _, _, rfl, rfl, eo, small, ?_⟩
        have e1 : dval l i zs[i] = l % zs[i] := by
          unfold dval
          rw [if_pos e]
        have e2 : dleft l zs[i] = l / zs[i] := by
          unfold dleft
          rw [if_pos e]
        have sm2 : Same H (upd H3 o (.lst (ds.map V.int ++ [.int (l % zs[i])]))) := same_new no sm
        refine ⟨.int l, rfl, .ref a, rfl, .int (i : Int), rfl, a, _, _, _, rfl, rfl, sm2.seq hS, g, l, zs[i], rfl, rfl, wide_div hz1.1 (b := 64) (by have := hz1.2; have := hz1.1; omega) (by decide) (by decide), ?_⟩
        refine ⟨_, _, _, _, _, ds ++ [dval l i zs[i]], rfl, sm2, ?_, ?_, ?_⟩
        · rw [upd_same, e1, List.map_append]
          rfl
        · rw [List.length_append, el]
          rfl
        · rw [← e2]
          exact ed'
      · have e : ¬ (1000000000000000000 : Int) ≤ l := fun z => e (decide_eq_true z)
        have e2 : dleft l zs[i] = l := by
          unfold dleft
          rw [if_neg e]
        have hi1000 : (i : Int) < 1000 := by omega
        have s0 : 0 ≤ l % 1000000000000000000 := Int.emod_nonneg _ (by decide)
        have s9 : l % 1000000000000000000 < 1000000000000000000 := Int.emod_lt_of_pos _ (by decide)
        refine ⟨.int l, rfl, 10, 18, rfl, rfl, ⟨by decide, by decide, by decide⟩, l, 10 ^ 18, rfl, rfl, (show (0 : Int) < 10 ^ 18 by decide), ?_⟩
        refine ⟨_, rfl, .int (i : Int), rfl, 7, i, rfl, rfl, .inl ⟨by decide, by decide⟩, _, _, rfl, rfl, _, _, rfl, rfl, .int (i : Int), rfl, 2, i, rfl, rfl, .inl ⟨by decide, by decide⟩, .int (i : Int), rfl, _, _, rfl, rfl, .inl ⟨by omega, by omega⟩, _, _, rfl, rfl, _, _, rfl, rfl,
          .inl ⟨by show -(2 ^ 64) < l % 1000000000000000000 + 7 * (i : Int) + 1; omega, by show l % 1000000000000000000 + 7 * (i : Int) + 1 < 2 ^ 64; omega⟩, _, _, rfl, rfl, (show (0 : Int) < 2147483647 by decide), ?_⟩
        refine ⟨_, rfl, _, _, rfl, rfl, ⟨by decide, by decide⟩, .int (i : Int), rfl, 11, i, rfl, rfl, .inl ⟨by decide, by decide⟩, _, _, rfl, rfl, _, _, rfl, rfl, .int (i : Int), rfl, 6, i, rfl, rfl, .inl ⟨by decide, by decide⟩, _, _, rfl, rfl, _, _, rfl, rfl,
          .inl ⟨by show -(2 ^ 64) < l % 1000000000000000000 / 3 + 11 * (i : Int) + 5; omega, by show l % 1000000000000000000 / 3 + 11 * (i : Int) + 5 < 2 ^ 64; omega⟩, _, _, rfl, rfl, (show (0 : Int) < 2147483629 by decide), ?_⟩
        have o0 := Int.emod_nonneg ((l % 1000000000000000000 + 7 * (i : Int) + 1) * (48271 + 2 * (i : Int) * (i : Int))) (show (2147483647 : Int) ≠ 0 by decide)
        have o9 := Int.emod_lt_of_pos ((l % 1000000000000000000 + 7 * (i : Int) + 1) * (48271 + 2 * (i : Int) * (i : Int))) (show (0 : Int) < 2147483647 by decide)
        refine ⟨.ref o, rfl, .inl ⟨rfl, _, SqL.of eo⟩, _, rfl, _, rfl, _, _, rfl, rfl, .inl ⟨Int.lt_of_lt_of_le (by decide) o0, Int.lt_trans o9 (by decide)⟩, _, rfl, _, _, rfl, rfl, ⟨by decide, by decide⟩, _, _, rfl, rfl, .ref a, rfl, .int (i : Int), rfl, a, _, _, _, rfl, rfl, hA, g, _, zs[i], rfl, rfl, hz1.1, o, _, _, rfl, rfl, eo, small, ?_⟩
        have e1 : dval l i zs[i] = ((l % 1000000000000000000 + 7 * (i : Int) + 1) * (48271 + 2 * (i : Int) * (i : Int)) % 2147483647 * ((l % 1000000000000000000 / 3 + 11 * (i : Int) + 5) * (39373 + 6 * (i : Int)) % 2147483629) + (l % 1000000000000000000 + 7 * (i : Int) + 1) * (48271 + 2 * (i : Int) * (i : Int)) % 2147483647 / 64) % zs[i] := by
          unfold dval
          rw [if_neg e]
        refine ⟨_, _, _, _, _, ds ++ [dval l i zs[i]], rfl, same_new no sm, ?_, ?_, ?_⟩
        · rw [upd_same, e1, List.map_append]
          rfl
        · rw [List.length_append, el]
          rfl
        · rw [e2] at ed'
          exact ed'
    · rintro σ H3 ⟨l, y4, y5, y6, y7, ds, rfl, sm, eo, el, ed⟩
      rw [List.drop_length] at ed
      have ed : ds = draws c 0 zs := by
        rw [← ed]
        show ds = ds ++ []
        rw [List.append_nil]
      subst ed
      exact ⟨.ref o, rfl, q H3 o sm no eo⟩

/-! ### _law_cell_at -/
theorem scCell : FnScope ["_law_script", "_law_k"] ["_law_script", "_law_k"] (defScope sCellAt) := ⟨rfl, rfl, rfl, by decide +kernel, rfl, by decide +kernel, by decide +kernel⟩
theorem ok_cell {f : Addr} {fd : FuncData} {k : Nat} (F : Fun K "_law_cell_at" "_law_cell_at" sCellAt f fd) (mL : mg "len" = none) : FnOk P w K mg base CX0 (k + 1) f fd ["_law_script", "_law_k"] (spCellH K) := by
  refine F.ok scCell (fun vs H Q E h => ?_) (fun cdv A outer s H vs Q E hr h => ?_)
  · obtain ⟨a, ns, k, rfl, _⟩ := h
    rfl
  · obtain ⟨a, ns, k, rfl, hS, q⟩ := h
    refine ⟨_, pss_cons (ps_if (pt_cmpR op_lt (pv 1) (pe_callB call_len_seq (by rfl) mL PySem.boot_len (pa_cons (pv 0) pa_nil)) (nomark _)) (pss_one (ps_ret (pe_ix ix_list (pv 0) (pv 1) (fun _ _ => rfl)))) pss_nil) (pss_one (ps_ret pe_int)), ?_⟩
    refine ⟨_, rfl, .ref a, rfl, a, _, rfl, .inl hS, _, _, rfl, rfl, _, rfl, ite2 (fun e => ?_) (fun e => ?_)⟩
    · have e : (k : Int) < ((ns.map V.int).length : Int) := of_decide_eq_true e
      rw [List.length_map] at e
      have hk : k < ns.length := by omega
      exact ⟨.ref a, rfl, .int (k : Int), rfl, a, _, _, .int ns[k], rfl, rfl, hS, atI_nat (by rw [List.getElem?_map, List.getElem?_eq_getElem hk]; rfl), q _⟩
    · exact q 0
theorem scLRow : FnScope ["_law_cell", "_law_most", "_law_draws", "_law_row_here", "_law_draw"] ["_law_cell", "_law_most"] (defScope sLRow) := ⟨rfl, rfl, rfl, by decide +kernel, rfl, by decide +kernel, by decide +kernel⟩
theorem ok_lrow {f f1 : Addr} {fd fd1 : FuncData} {k : Nat} (F : Fun K "_law_row" "_law_row" sLRow f fd) (N1 : Fn K mg "_law_drawn" sDrawn ["_law_cell", "_law_sizes"] f1 fd1) (mL : mg "len" = none) (mR : mg "range" = none) (mS : mg "sorted" = none) : FnOk P w K mg base CX0 (k + 2) f fd ["_law_cell", "_law_most"] spLRow := by
  have G1 : FnOk P w K mg base CX0 (k + 1) f1 fd1 ["_law_cell", "_law_sizes"] (spDrawn K) := ok_drawn N1.F mL mR
  refine F.ok scLRow (fun vs H Q E h => ?_) (fun cdv A outer s H vs Q E hr h => ?_)
  · obtain ⟨c, M, rfl, _⟩ := h
    rfl
  · obtain ⟨c, M, rfl, hM1, hM, q⟩ := h
    have nd := scLRow.nd
    refine ⟨_, pss_cons (ps_set (i := 2) nd rfl (.inl rfl) (pe_call G1 hr (by rfl) N1.g N1.F.kp N1.b .nil pass0 (pa_cons (pv 0) (pa_cons (pe_op op_cat (pe_lst (pa_cons pe_int (pa_cons (pv 1) pa_nil))) (pe_op op_rep (pe_lst (pa_cons pe_int pa_nil)) (pv 1))) pa_nil))))
      (pss_cons (ps_set (i := 3) nd rfl (.inl rfl) (pe_join pe_str (pe_lc (own := [("_law_draw", 4)]) (g := gName 4) (tt := tYes) rfl nd (pi_list (pe_slice sl_list (pv 2) (po_some pe_int) (po_some (pe_op op_add pe_int (pe_ix ix_list (pv 2) pe_int (fun _ _ => rfl))))))
        (blkOk_by (own := [("_law_draw", 4)]) (N := ["_law_cell", "_law_most", "_law_draws", "_law_row_here", "_law_draw"]) (sc := defScope sLRow) (by decide +kernel))
        (fun _ _ _ _ _ => pg_name (i := 4) nd rfl (Or.inl rfl)) (fun _ _ _ _ _ => pts_nil) (fun _ _ _ _ _ => pe_ix ix_str pe_str (pv 4) (fun _ _ => rfl)))))
      (pss_cons (ps_if (pt_cmpR op_eq (pe_ix ix_list (pv 2) pe_int (fun _ _ => rfl)) pe_int (nomark _)) (pss_one (ps_ret (pe_join pe_str (pe_revL (pe_callB (cr_sortT rfl) (by rfl) mS (by decide +kernel) (pa_cons (pv 3) pa_nil)))))) pss_nil)
      (pss_cons (ps_if (pt_cmpR op_eq (pe_ix ix_list (pv 2) pe_int (fun _ _ => rfl)) pe_int (nomark _)) (pss_one (ps_ret (pe_slice sl_str (pe_op op_repS pe_str (pv 1)) po_none (po_some (pe_callB call_len_str (by rfl) mL PySem.boot_len (pa_cons (pv 3) pa_nil)))))) pss_nil)
      (pss_one (ps_ret (pv 3)))))), ?_⟩
    -- the sizes
    refine ⟨.int c, rfl, .int (M : Int), rfl, (by show 2 ≤ sizeLine; decide), fun l1 n1 => ⟨(by show 1 ≤ sizeLine; decide), fun l2 n2 => ?_⟩⟩
    refine ⟨.int (M : Int), rfl, l2, (M : Int), [.int 2], rfl, rfl, upd_same, by omega, by omega, (by rw [Int.toNat_natCast]; exact fit (by show 1 * M ≤ 10000; omega)), fun l3 n3 => ?_⟩
    rw [Int.toNat_natCast, flat_rep]
    have m2 := (same_upd n1).free n2
    have nl12 : l1 ≠ l2 := fun e => by
      rw [← e, upd_same] at n2
      cases n2
    have s2 : Same H (upd (upd H l1 (.lst [.int 6, .int (M : Int)])) l2 (.lst [.int 2])) := same_new m2 (same_upd n1)
    have m3 := s2.free n3
    have nl13 : l1 ≠ l3 := fun e => by
      rw [← e, upd_ne nl12, upd_same] at n3
      cases n3
    refine ⟨l1, l3, [.int 6, .int (M : Int)], _, rfl, rfl, ?_, upd_same, (by rw [List.length_replicate]; exact fit (by show 2 + M ≤ 10000; omega)), fun l4 n4 => ?_⟩
    · rw [upd_ne nl13, upd_ne nl12, upd_same]
    have s3 := same_new (o := .lst (List.replicate M (V.int 2))) m3 s2
    have m4 := s3.free n4
    have hsz : [V.int 6, .int (M : Int)] ++ List.replicate M (V.int 2) = ([6, (M : Int)] ++ List.replicate M 2).map V.int := by
      rw [List.map_append, List.map_replicate]
      rfl
    rw [hsz]
    have hsl : ([6, (M : Int)] ++ List.replicate M 2).length = M + 2 := by
      rw [List.length_append, List.length_replicate]
      show 2 + M = M + 2
      omega
    refine ⟨c, l4, [6, (M : Int)] ++ List.replicate M 2, rfl, SqL.of upd_same, ?_, by rw [hsl]; omega, fun H1 p s4 np ep => ?_⟩
    · intro z hz
      rcases List.mem_append.mp hz with h | h
      · rcases List.mem_cons.mp h with rfl | h
        · exact ⟨by decide, by decide⟩
        · rcases List.mem_cons.mp h with rfl | h
          · exact ⟨by omega, by omega⟩
          · cases h
      · rw [(List.mem_replicate.mp h).2]
        exact ⟨by decide, by decide⟩
    have sH1 : Same H H1 := (same_new m4 s3).trans s4
    generalize hds : draws c 0 ([6, (M : Int)] ++ List.replicate M 2) = ds at ep
    have hpos : ∀ z ∈ ([6, (M : Int)] ++ List.replicate M 2 : List Int), 0 < z := by
      intro z hz
      rcases List.mem_append.mp hz with h | h
      · rcases List.mem_cons.mp h with rfl | h
        · decide
        · obtain rfl := List.mem_singleton.mp h
          omega
      · rw [(List.mem_replicate.mp h).2]
        decide
    have hlen : ds.length = M + 2 := by
      rw [← hds, draws_len, hsl]
    have hok : ∀ (i : Nat) (x z : Int), ds[i]? = some x → ([6, (M : Int)] ++ List.replicate M 2 : List Int)[i]? = some z → 0 ≤ x ∧ x < z := by
      rw [← hds]
      exact draws_ok _ c 0 hpos
    obtain ⟨d0, e0⟩ : ∃ x, ds[0]? = some x := ⟨ds[0], List.getElem?_eq_getElem (by omega)⟩
    obtain ⟨d1, e1⟩ : ∃ x, ds[1]? = some x := ⟨ds[1], List.getElem?_eq_getElem (by omega)⟩
    have b1 := hok 1 d1 (M : Int) e1 rfl
    obtain ⟨m, rfl⟩ : ∃ m : Nat, d1 = (m : Int) := ⟨d1.toNat, by omega⟩
    have hcs : ∀ x ∈ (ds.drop 2).take (m + 1), 0 ≤ x ∧ x < 2 := fun x hx => by
      obtain ⟨j, hj⟩ := List.getElem?_of_mem (List.mem_of_mem_take hx)
      rw [List.getElem?_drop] at hj
      have hj2 : 2 + j < ds.length := (List.getElem?_eq_some_iff.mp hj).1
      refine hok (2 + j) x 2 hj ?_
      rw [List.getElem?_append_right (by show 2 ≤ 2 + j; omega), List.getElem?_replicate]
      show (if 2 + j - 2 < M then some (2 : Int) else none) = some 2
      rw [if_pos (by omega)]
    have hcl : ((ds.drop 2).take (m + 1)).length = m + 1 := by
      rw [List.length_take, List.length_drop, hlen]
      omega
    generalize hcd : (ds.drop 2).take (m + 1) = cs at hcs hcl
    have ecut : cutV (ds.map V.int) (some 2) (some (3 + (m : Int))) = cs.map V.int := by
      unfold cutV
      rw [show (some (2 : Int)) = some ((2 : Nat) : Int) from rfl, show (3 + (m : Int)) = ((3 + m : Nat) : Int) by omega, HT.sIx_nat, HT.sIx_nat, List.length_map, hlen, ← hcd, List.map_take, List.map_drop]
      have i1 : min 2 (M + 2) = 2 := by omega
      have i2 : min (3 + m) (M + 2) - 2 = m + 1 := by omega
      rw [i1, i2]
    have g1 : atI (ds.map V.int) 1 = some (.int (m : Int)) := atI_nat (j := 1) (by rw [List.getElem?_map, e1]; rfl)
    have g0 : atI (ds.map V.int) 0 = some (.int d0) := atI_nat (j := 0) (by rw [List.getElem?_map, e0]; rfl)
    have hbl : (bits cs).length = m + 1 := by
      unfold bits
      rw [List.length_map, hcl]
    have hRow : Row (bits cs) := by
      unfold Row
      rw [hbl]
      omega
    refine ⟨⟨_, rfl⟩, .ref p, rfl, 2, rfl, .ref p, rfl, p, _, 1, .int (m : Int), rfl, rfl, SqL.of ep, g1, 3, (m : Int), rfl, rfl, _, rfl, p, _, rfl, SqL.of ep, fun q1 nq1 => ?_⟩
    rw [ecut]
    have sq1 : Same H (upd H1 q1 (.lst (cs.map V.int))) := same_new (sH1.free nq1) sH1
    have npq : p ≠ q1 := ne_of_none ep nq1
    refine ⟨q1, rfl, ⟨_, SqL.of upd_same⟩, fun D hD => ?_⟩
    have nDq : q1 ≠ D := fun e => by
      rw [← e, upd_same] at hD
      cases hD
    have nDp : p ≠ D := fun e => by
      rw [← e, upd_ne npq, ep] at hD
      cases hD
    have hDH := sq1.free hD
    refine lc_list (K := K) (a := q1) (xs := cs.map V.int) (fun i H3 => Same H H3 ∧ H3 q1 = some (.lst (cs.map V.int)) ∧ H3 p = some (.lst (ds.map V.int)) ∧ H3 D = some (.lst (((bits (cs.take i)).map fun b => tx [b]).map V.str)))
      ⟨same_new hDH sq1, by rw [upd_ne nDq, upd_same], by rw [upd_ne nDp, upd_ne npq]; exact ep, upd_same⟩ (fun i H3 _ h => SqL.of h.2.1) ?_ ?_
    · rintro i x H3 hx ⟨sm, eq1, epp, eD⟩
      rw [List.getElem?_map] at hx
      obtain ⟨u, hu, rfl⟩ := Option.map_eq_some_iff.mp hx
      have hb := hcs u (List.mem_of_getElem? hu)
      refine ⟨rfl, .int u, rfl, ".o", u, _, rfl, rfl, (by decide), dot_o u hb.1 hb.2, _, eD, ?_, same_new hDH sm, ?_, ?_, ?_⟩
      · rw [List.length_map, List.length_map]
        unfold bits
        rw [List.length_map]
        exact small1000 (Nat.le_trans (List.length_take_le _ _) (by have := (List.getElem?_eq_some_iff.mp hu).1; omega))
      · rw [upd_ne nDq]
        exact eq1
      · rw [upd_ne nDp]
        exact epp
      · unfold bits
        rw [upd_same, List.take_add_one, hu, List.map_append, List.map_append, List.map_append]
        rfl
    · rintro H3 ⟨sm, eq1, epp, eD⟩
      rw [List.length_map, List.take_length] at eD
      refine ⟨"", D, _, rfl, rfl, .inl (SqL.of eD), join_fits (by have := hRow.2; omega), ?_⟩
      rw [join_tx]
      -- which kind
      refine ⟨.ref p, rfl, p, _, 0, _, rfl, rfl, SqL.of epp, g0, rfl, _, rfl, ite2 (fun _ => ?_) (fun _ => ?_)⟩
      · have h64 : (tx (bits cs)).length < 64 := by
          rw [tx_len]
          have := hRow.2
          omega
        refine ⟨⟨_, rfl⟩, .str (tx (bits cs)), rfl, tx (bits cs), rfl, h64, fun ys p1 hperm _ np1 => ⟨p1, _, rfl, SqL.of upd_same, fun p2 np2 => ?_⟩⟩
        rw [← List.map_reverse]
        obtain ⟨bs2, e2⟩ := signs_rows ys.reverse fun y hy => by
          have h1 := hperm.mem_iff.mp (List.mem_reverse.mp hy)
          rw [tx_sg] at h1
          obtain ⟨b, _, e⟩ := List.mem_map.mp h1
          exact ⟨b, e.symm⟩
        have hl2 : bs2.length = (bits cs).length := by
          have := congrArg List.length e2
          rw [List.length_reverse, hperm.length_eq, sg_len, tx_len, List.length_map] at this
          exact this.symm
        rw [e2]
        have hR2 : Row bs2 := by
          unfold Row
          rw [hl2]
          exact hRow
        refine ⟨"", p2, _, rfl, rfl, .inl (SqL.of upd_same), join_fits (by have := hR2.2; omega), ?_⟩
        rw [join_tx]
        have sp1 := same_new (o := .lst (ys.map V.str)) (sm.free np1) sm
        exact q _ _ (same_new (sp1.free np2) sp1) hR2.1 (by rw [hl2, hbl]; omega)
      · refine ⟨.ref p, rfl, p, _, 0, _, rfl, rfl, SqL.of epp, g0, rfl, _, rfl, ite2 (fun _ => ?_) (fun _ => ?_)⟩
        · have hrl := rep_of_len M
          refine ⟨.int (M : Int), rfl, "o.", M, rfl, rfl, (by rw [show ("o." : Str).length = 2 by decide +kernel]; omega), by omega, .str (tx (bits cs)), rfl, tx (bits cs), rfl, row_size hRow, _, rfl, _, rfl, ?_, ?_⟩
          · rw [rep_of]
            exact tx_fit (by omega)
          · rw [rep_of, cut_to, tx_len]
            refine q _ _ sm ?_ ?_
            · rw [List.length_take]
              omega
            · rw [List.length_take]
              omega
        · exact ⟨_, rfl, q _ _ sm hRow.1 (by omega)⟩
end
section
variable {P : Program} {w : World} {K : PySem.W.Frag} {mg : Str → Option Value} {base : Heap} {d : Addr} {es : Array DictEntry} {n : Nat}
def spWalls : Sp := fun vs H Q _ => ∃ bs, vs = [.str (tx bs)] ∧ Row bs ∧ ∀ H' p, Same H H' → H p = none → H' p = some (.lst ((walls bs).map wv)) → Q (.ref p) H'
theorem and_told {t u : TT} {σ : L2.St} {H : Hp} {Q : Bool → Hp → Prop} {a b : Bool} (h1 : ∀ R : Bool → Hp → Prop, R a H → t σ H R) (h2 : a = true → ∀ R : Bool → Hp → Prop, R b H → u σ H R) (q : Q (a && b) H) : tAnd t u σ H Q := by
  refine h1 _ ?_
  cases a with
  | true => exact h2 rfl _ q
  | false => exact q
theorem or_told {t u : TT} {σ : L2.St} {H : Hp} {Q : Bool → Hp → Prop} {a b : Bool} (h1 : ∀ R : Bool → Hp → Prop, R a H → t σ H R) (h2 : a = false → ∀ R : Bool → Hp → Prop, R b H → u σ H R) (q : Q (a || b) H) : tOr t u σ H Q := by
  refine h1 _ ?_
  cases a with
  | true => exact q
  | false => exact h2 rfl _ q
theorem yes2 {p q : Prop} (h : p) : if true = true then p else q := by
  rw [if_pos rfl]
  exact h
theorem nay2 {p q : Prop} (h : q) : if false = true then p else q := by
  rw [if_neg (by decide)]
  exact h
theorem sign_o (b : Bool) : decide (V.str ⟨#[cd b]⟩ = V.str "o") = b := by
  rw [tx_o]
  cases b with
  | true => exact decide_eq_true rfl
  | false => exact decide_eq_false fun q => absurd (tx_inj (as := [false]) (bs := [true]) (V.str.inj q)) (by decide)
theorem sign_f (b : Bool) : decide (V.str ⟨#[cd b]⟩ = V.str ".") = !b := by
  rw [tx_f]
  cases b with
  | false => exact decide_eq_true rfl
  | true => exact decide_eq_false fun q => absurd (tx_inj (as := [true]) (bs := [false]) (V.str.inj q)) (by decide)
theorem at_code {bs : List Bool} {i : Nat} (h : i < bs.length) : atI (tx bs).cps.toList (i : Int) = some (cd bs[i]) := atI_nat (by rw [tx_list, List.getElem?_map, List.getElem?_eq_getElem h]; rfl)
theorem scOpen : FnScope ["_law_row_here", "_law_found", "_law_shut_here"] ["_law_row_here"] (defScope sOpen) := ⟨rfl, rfl, rfl, by decide +kernel, rfl, by decide +kernel, by decide +kernel⟩
theorem ok_open {f : Addr} {fd : FuncData} {k : Nat} (F : Fun K "_law_open" "_law_open" sOpen f fd) (T : Txt K w mg d es n) : FnOk P w K mg base CX0 (k + 1) f fd ["_law_row_here"] spWalls := by
  refine F.ok scOpen (fun vs H Q E h => ?_) (fun cdv A outer s H vs Q E hr h => ?_)
  · obtain ⟨bs, rfl, _⟩ := h
    rfl
  · obtain ⟨bs, rfl, hR, q⟩ := h
    have nd := scOpen.nd
    have h30 := hR.2
    have hz := row_size hR
    refine ⟨_, pss_cons (ps_set (i := 1) nd rfl (.inl rfl) (pe_lst pa_nil))
      (pss_cons (ps_for PassesOwn.never rfl (pi_range1 (by rfl) T.range (pa_cons (pe_op op_add (pe_callB call_len_str (by rfl) T.len PySem.boot_len (pa_cons (pv 0) pa_nil)) pe_int) pa_nil)) (pg_name (i := 2) nd rfl (.inl rfl))
        (pss_one (ps_if (PW.pt (pw_and (PW.pt (pw_or (pt_cmpR op_eq (pv 2) pe_int (nomark _)) (pw_or1 (pt_cmpR op_eq (pe_ix ix_str (pv 0) (pe_op op_sub (pv 2) pe_int) (fun _ _ => rfl)) pe_str (nomark _)))))
            (pw_and1 (PW.pt (pw_or (pt_cmpR op_eq (pv 2) (pe_callB call_len_str (by rfl) T.len PySem.boot_len (pa_cons (pv 0) pa_nil)) (nomark _)) (pw_or1 (pt_cmpR op_eq (pe_ix ix_str (pv 0) (pv 2) (fun _ _ => rfl)) pe_str (nomark _))))))))
          (pss_one (ps_expr (pe_bm PySem.F.plainAttrs_list PySem.F.slot_list_append PySem.F.type_list_append mt_append (pv 1) (pa_cons (pv 2) pa_nil)))) pss_nil)))
      (pss_one (ps_ret (pv 1)))), ?_⟩
    refine ⟨Nat.zero_le _, fun o no => ?_⟩
    refine ⟨.str (tx bs), rfl, tx bs, rfl, hz, _, 1, rfl, rfl, _, rfl, (by rw [tx_len]; omega), (by rw [tx_len]; omega), ?_⟩
    have en : (((tx bs).length : Int) + 1).toNat = bs.length + 1 := by
      rw [tx_len]
      omega
    rw [en]
    refine for_range (lo := 0) (n := bs.length + 1) (fun i σ H3 => ∃ y2, σ = [some (.str (tx bs)), some (.ref o), y2] ∧ Same H H3 ∧ H3 o = some (.lst (((List.range i).filter (opn bs)).map wv))) ⟨none, rfl, same_upd no, upd_same⟩ ?_ ?_
    · rintro i σ H3 hi ⟨y2, rfl, sm, eo⟩
      rw [Int.zero_add]
      have er : (List.range (i + 1)).filter (opn bs) = (List.range i).filter (opn bs) ++ (if opn bs i then [i] else []) := by
        rw [List.range_succ, List.filter_append]
        congr 1
        cases h : opn bs i with
        | true => simp [h]
        | false => simp [h]
      have hlt : (((List.range i).filter (opn bs)).map wv).length < sizeLine := by
        rw [List.length_map]
        refine small1000 (Nat.le_trans (List.length_filter_le _ _) ?_)
        rw [List.length_range]
        omega
      have hop := opn_eq (bs := bs) (k := i) (by omega)
      -- the end of a turn
      have yes : opn bs i = true → ∃ y2, [some (V.str (tx bs)), some (V.ref o), some (V.int (i : Int))] = [some (.str (tx bs)), some (.ref o), y2] ∧ Same H (upd H3 o (.lst (((List.range i).filter (opn bs)).map wv ++ [.int (i : Int)]))) ∧ (upd H3 o (.lst (((List.range i).filter (opn bs)).map wv ++ [.int (i : Int)]))) o = some (.lst (((List.range (i + 1)).filter (opn bs)).map wv)) := fun e => by
        refine ⟨_, rfl, same_new no sm, ?_⟩
        rw [upd_same, er, e, List.map_append]
        rfl
      have nay : opn bs i = false → ∃ y2, [some (V.str (tx bs)), some (V.ref o), some (V.int (i : Int))] = [some (.str (tx bs)), some (.ref o), y2] ∧ Same H H3 ∧ H3 o = some (.lst (((List.range (i + 1)).filter (opn bs)).map wv)) := fun e => by
        refine ⟨_, rfl, sm, ?_⟩
        rw [er, e, eo]
        simp
      have dz : decide (V.int (i : Int) = V.int 0) = decide (i = 0) := by
        by_cases h : i = 0
        · rw [h]; rfl
        · rw [decide_eq_false h, decide_eq_false fun z => h (by have := V.int.inj z; omega)]
      have dl : decide (V.int (i : Int) = V.int ((tx bs).length : Int)) = decide (i = bs.length) := by
        rw [tx_len]
        by_cases h : i = bs.length
        · rw [decide_eq_true h, decide_eq_true (by rw [h])]
        · rw [decide_eq_false h, decide_eq_false fun z => h (by have := V.int.inj z; omega)]
      have gone : ∀ j, j < bs.length → bs.getD j false = bs[j]! ∧ bs.getD j true = bs[j]! := fun j hj => by
        rw [List.getD_eq_getElem?_getD, List.getD_eq_getElem?_getD, List.getElem?_eq_getElem hj, getElem!_pos bs j hj]
        exact ⟨rfl, rfl⟩
      have h0 : ∀ j, j < bs.length → bs.getD j false = bs.getD j true := fun j hj => by rw [(gone j hj).1, (gone j hj).2]
      have low : ∀ j (hj : j < bs.length), bs.getD j true = bs[j] := fun j hj => by
        rw [(gone j hj).2, getElem!_pos bs j hj]
      refine and_told (a := decide (i = 0) || bs.getD (i - 1) false) (b := decide (i = bs.length) || !bs.getD i true)
        (fun R r => or_told (a := decide (i = 0)) (b := bs.getD (i - 1) false) (fun R r => ⟨.int (i : Int), rfl, rfl, _, rfl, by rw [dz]; exact r⟩) (fun e R r => ?_) r)
        (fun _ R r => or_told (a := decide (i = bs.length)) (b := !bs.getD i true) (fun R r => ⟨.int (i : Int), rfl, .str (tx bs), rfl, tx bs, rfl, hz, rfl, _, rfl, by rw [dl]; exact r⟩) (fun e R r => ?_) r) ?_
      · have e : ¬ i = 0 := of_decide_eq_false e
        have hj : i - 1 < bs.length := by omega
        have ej : (i : Int) - 1 = ((i - 1 : Nat) : Int) := by omega
        refine ⟨.str (tx bs), rfl, .int (i : Int), rfl, _, _, rfl, rfl, _, _, _, rfl, rfl, hz, (by rw [ej]; exact at_code hj), rfl, _, rfl, ?_⟩
        rw [sign_o, ← low _ hj, ← h0 _ hj]
        exact r
      · have e : ¬ i = bs.length := of_decide_eq_false e
        have hj : i < bs.length := by omega
        refine ⟨.str (tx bs), rfl, .int (i : Int), rfl, _, _, _, rfl, rfl, hz, at_code hj, rfl, _, rfl, ?_⟩
        rw [sign_f, ← low _ hj]
        exact r
      · show if (_ && _ : Bool) = true then _ else _
        rw [← hop]
        refine ite2 (fun e => ?_) (fun e => ?_)
        · exact ⟨.ref o, rfl, .inl ⟨rfl, _, SqL.of eo⟩, .int (i : Int), rfl, o, _, _, rfl, rfl, eo, hlt, yes e⟩
        · exact nay (Bool.eq_false_iff.mpr e)
    · rintro σ H3 ⟨y2, rfl, sm, eo⟩
      exact ⟨.ref o, rfl, q H3 o sm no eo⟩
/-! ### _law_behind -/
end
end Hop

set_option Elab.async false
set_option linter.all false
set_option maxRecDepth 100000
namespace HopR
open PySem L2
/-- y is data that repr tells as z, now and later -/
def Shown (K : PySem.W.Frag) (H : Hp) (y : V) (z : Str) : Prop := ∀ H', Same H H' → ∃ d, Dp K H' y d ∧ d.showable = true ∧ d.hasDict = false ∧ d.depth ≤ 64 ∧ d.shown.length ≤ sizeLine ∧ d.shown = z
theorem shown_same {K : PySem.W.Frag} {H H' : Hp} {y : V} {z : Str} (s : Same H H') (h : Shown K H y z) : Shown K H' y z := fun H2 s2 => h H2 (s.trans s2)
theorem shown_non {K : PySem.W.Frag} {H : Hp} : ∃ z, Shown K H .non z := ⟨_, fun _ _ => ⟨.none, .non, rfl, rfl, by decide, by decide +kernel, rfl⟩⟩
theorem shown_bl {K : PySem.W.Frag} {H : Hp} {b : Bool} : ∃ z, Shown K H (.bl b) z := ⟨_, fun _ _ => ⟨.bool b, .bl b, rfl, rfl, (by show 0 ≤ 64; decide), (by cases b <;> decide +kernel), rfl⟩⟩
theorem shown_0 {K : PySem.W.Frag} {H : Hp} : ∃ z, Shown K H (.str "0") z := ⟨_, fun _ _ => ⟨.str "0", .str "0", rfl, rfl, (by show 0 ≤ 64; decide), by decide +kernel, rfl⟩⟩
theorem shown_int {K : PySem.W.Frag} {H : Hp} {i : Int} (h : i.natAbs < 1000000000000) : ∃ z, Shown K H (.int i) z := by
  have o : Okd (.int i) 0 41 := Okd.int h
  exact ⟨_, fun _ _ => ⟨.int i, .int i, o.sh, o.nd, Nat.le_trans o.dp (by decide), o.fits (by decide), rfl⟩⟩
theorem shown_up {K : PySem.W.Frag} {H : Hp} : ∃ z, Shown K H (.int 10000000000000000000000000000000000000000) z := ⟨_, fun _ _ => ⟨.int _, .int _, by decide +kernel, rfl, (by show 0 ≤ 64; decide), by decide +kernel, rfl⟩⟩
theorem shown_down {K : PySem.W.Frag} {H : Hp} : ∃ z, Shown K H (.int (-10000000000000000000000000000000000000000)) z := ⟨_, fun _ _ => ⟨.int _, .int _, by decide +kernel, rfl, (by show 0 ≤ 64; decide), by decide +kernel, rfl⟩⟩
theorem shown_lst {K : PySem.W.Frag} {H : Hp} {p : Addr} {k : Nat} (h : k < 1000) (e : H p = some (.lst [wv k])) : ∃ z, Shown K H (.ref p) z := by
  have o : Okd (.list ([k].map dw)) 1 (42 * 1) := (Okds.ints (ks := [k]) (k := 0) fun j hj => by
    obtain rfl := List.mem_singleton.mp hj
    omega).list
  exact ⟨_, fun H' s => ⟨.list ([k].map dw), .lst (SqL.of (s _ _ e)) (dp_walls [k]), o.sh, o.nd, Nat.le_trans o.dp (by decide), o.fits (by decide), rfl⟩⟩
theorem shown_tup {K : PySem.W.Frag} {H : Hp} {p : Addr} {k : Nat} (h : k < 1000) (e : H p = some (.tup [wv k])) : ∃ z, Shown K H (.ref p) z := by
  have o : Okd (.tuple ([k].map dw)) 1 (42 * 1) := (Okds.ints (ks := [k]) (k := 0) fun j hj => by
    obtain rfl := List.mem_singleton.mp hj
    omega).tuple
  exact ⟨_, fun H' s => ⟨.tuple ([k].map dw), .tup (SqT.of (s _ _ e)) (dp_walls [k]), o.sh, o.nd, Nat.le_trans o.dp (by decide), o.fits (by decide), rfl⟩⟩
theorem fld_upd {H H' : Hp} {a D : Addr} {fs : List (Str × V)} (s : Same H H') (h : Fld H a D fs) : Fld H' a D fs := by
  obtain ⟨d, h1, h2⟩ := h
  exact ⟨d, s _ _ h1, s _ _ h2⟩
end HopR
namespace Hop
open PySem L2 HopR
section
variable {P : Program} {w : World} {K : PySem.W.Frag} {mg : Str → Option Value} {base : Heap} {d : Addr} {es : Array DictEntry} {n : Nat} {HE NN NR NP NL fI : Addr}
/-- the defs of the program -/
structure Defs (K : PySem.W.Frag) (mg : Str → Option Value) (fI f0 f1 f2 f3 f4 f5 f6 f7 : Addr) (gI g0 g1 g2 g3 g4 g5 g6 g7 : FuncData) : Prop where
  FI : Fun K "__init__" "NoWall.__init__" sInit fI gI
  bI : Binds K gI ["self", "wall"] []
  N0 : Fn K mg "need_open" sNeedOpen ["row", "wall"] f0 g0
  N1 : Fn K mg "is_row" sIsRow ["thing"] f1 g1
  N2 : Fn K mg "need_row" sNeedRow ["thing"] f2 g2
  N3 : Fn K mg "with_ends" sWithEnds ["row"] f3 g3
  N4 : Fn K mg "walls_of" sWallsOf ["row"] f4 g4
  N5 : Fn K mg "is_whole" sIsWhole ["thing"] f5 g5
  N6 : Fn K mg "changed" sChanged ["row", "wall"] f6 g6
  N7 : Fn K mg "mirrored" sMirror ["row"] f7 g7
/-! ### _law_gate -/
def spGate (K : PySem.W.Frag) : Sp := fun vs H Q _ => ∃ (bs : List Bool) (y : V) (z : Str), vs = [.str (tx bs), y] ∧ Row bs ∧ BadSpot K H y (walls bs) ∧ Shown K H y z ∧ ∀ H', Same H H' → Q (.str z) H'
theorem scGate : FnScope ["_law_row_here", "_law_shut_here", "_law_error", "e"] ["_law_row_here", "_law_shut_here"] (defScope sGate) := ⟨rfl, rfl, rfl, by decide +kernel, rfl, by decide +kernel, by decide +kernel⟩
theorem ok_gate {f f0 f1 f2 f3 f4 f5 f6 f7 : Addr} {fd gI g0 g1 g2 g3 g4 g5 g6 g7 : FuncData} {k : Nat} (F : Fun K "_law_gate" "_law_gate" sGate f fd) (N : Defs K mg fI f0 f1 f2 f3 f4 f5 f6 f7 gI g0 g1 g2 g3 g4 g5 g6 g7) (T : Txt K w mg d es n) (Z : Er K mg HE NN NR NP NL fI) :
    FnOkG P w K mg base CX0 (k + 6) f fd ["_law_row_here", "_law_shut_here"] (spGate K) := by
  have Gc : FnOk P w K mg base (L2.CX P w) (k + 5) f6 g6 ["row", "wall"] (spShut K NR NL) := ok_changed N.N6.F N.N0 N.N1 N.N2 N.N3 N.N4 N.N5 N.FI N.bI T Z
  refine okG F scGate (fun vs H Q E h => ?_) (fun cdv A outer s H vs Q E hG hr h => ?_)
  · obtain ⟨bs, y, z, rfl, _⟩ := h
    rfl
  · obtain ⟨bs, y, z, rfl, hR, hy, hs, q⟩ := h
    have nd := scGate.nd
    have hu := hu66 hr
    refine ⟨_, pss_cons (ps_set (i := 2) nd rfl (.inl rfl) pe_non)
      (pss_cons (ps_try_held (i := 3) (j := 2) rfl rfl nd rfl rfl rfl rfl rfl (tests_one ⟨rfl, by decide, .inl Z.gNL⟩)
          (fun W pn xe tk _ => pss_one (ps_expr (pe_callS Gc hr (by rfl) N.N6.g N.N6.F.kp N.N6.b (fun σ => passAt tk σ) (pa_cons (pv 0) (pa_cons (pv 1) pa_nil)))))
          (fun a oe pn => pss_one (ps_set (i := 2) nd rfl (.inl rfl) (pv 3))))
      (pss_cons (ps_if (PW.pt (pw_or (pt_cmpR op_isN (pv 2) pe_non (nomark _))
          (pw_or (pt_not (pt_val (pe_callB call_isF (by rfl) T.isi (by decide +kernel) (pa_cons (pv 2) (pa_cons (pe_bltn (v := .ty "IndexError") (by rfl) T.ie (by decide +kernel) rfl) pa_nil)))))
          (pw_or1 (pt_val (pe_callB call_isFT (by rfl) T.isi (by decide +kernel) (pa_cons (pv 2) (pa_cons (pe_tup (pa_cons (pe_glob (v := .ref HE) (by rfl) Z.gHE rfl) (pa_cons (pe_bltn (v := .ty "ValueError") (by rfl) T.ve (by decide +kernel) rfl) pa_nil))) pa_nil))))))))
        (pss_one (ps_ret pe_str)) pss_nil)
      (pss_one (ps_ret (pe_callB (cr_reprD hG hu) (by rfl) T.repr (by decide +kernel) (pa_cons (pe_fldH (n := "wall") (pv 2)) pa_nil)))))), ?_⟩
    refine ⟨.str (tx bs), rfl, y, rfl, .str (tx bs), y, rfl, .inr ⟨bs, rfl, hR, hy, fun H1 e s1 ne ee => ?_⟩⟩
    refine ⟨Z.mW, fun a na => ?_⟩
    have sA : Same H (upd H1 a (ExH (.ref NL) (some e) a)) := same_new (s1.free na) s1
    have fl : Fld (upd H1 a (ExH (.ref NL) (some e) a)) a NL [(("wall" : Str), y)] := ⟨e, upd_same, same_upd na _ _ ee⟩
    generalize upd H1 a (ExH (.ref NL) (some e) a) = H2 at sA fl
    refine ⟨.ref a, rfl, rfl, _, rfl, iteF ?_⟩
    refine ⟨.ref a, rfl, a, NL, _, .ty "IndexError", .type "IndexError", true, rfl, fl, Z.wc, .ty _, Z.wI, true, rfl, iteF ?_⟩
    refine ⟨.ref a, rfl, (by show 2 ≤ sizeLine; decide), fun tp nt => ?_⟩
    have sT := same_upd (o := .tup [.ref HE, .ty "ValueError"]) nt
    refine ⟨a, NL, tp, _, _, _, false, rfl, fld_upd sT fl, Z.wc, upd_same, .cons (.own _) (.cons (.ty _) .nil), Z.wA, false, rfl, iteF ?_⟩
    have fl2 := fld_upd sT fl
    have s2 := sA.trans sT
    obtain ⟨dt, k1, k2, k3, k4, k5, rfl⟩ := hs _ s2
    exact ⟨.ref a, rfl, a, NL, _, y, rfl, fl2, Z.W.xf, Z.W.none_, rfl, y, dt, rfl, k1, k2, k3, k4, k5, q _ s2⟩
/-! ### _law_row_kind -/
def spKind (K : PySem.W.Frag) : Sp := fun vs H Q _ => ∃ (dr : Int) (x y : V), vs = [.int dr, x, y] ∧ RowB K H x false ∧ ∀ H', Same H H' → Q (.bl true) H'
theorem scKind : FnScope ["_law_door", "_law_row_here", "_law_shut_here", "_law_error", "e"] ["_law_door", "_law_row_here", "_law_shut_here"] (defScope sKind) := ⟨rfl, rfl, rfl, by decide +kernel, rfl, by decide +kernel, by decide +kernel⟩
theorem ok_kind {f f0 f1 f2 f3 f4 f5 f6 f7 : Addr} {fd gI g0 g1 g2 g3 g4 g5 g6 g7 : FuncData} {k : Nat} (F : Fun K "_law_row_kind" "_law_row_kind" sKind f fd) (N : Defs K mg fI f0 f1 f2 f3 f4 f5 f6 f7 gI g0 g1 g2 g3 g4 g5 g6 g7) (T : Txt K w mg d es n) (Z : Er K mg HE NN NR NP NL fI) :
    FnOk P w K mg base CX0 (k + 6) f fd ["_law_door", "_law_row_here", "_law_shut_here"] (spKind K) := by
  have Gc : FnOk P w K mg base (L2.CX P w) (k + 5) f6 g6 ["row", "wall"] (spShut K NR NL) := ok_changed N.N6.F N.N0 N.N1 N.N2 N.N3 N.N4 N.N5 N.FI N.bI T Z
  have Gw : FnOk P w K mg base (L2.CX P w) (k + 5) f4 g4 ["row"] (spWallsX K NR) := ok_walls N.N4.F N.N1 N.N2 N.N3 T Z
  have Gm : FnOk P w K mg base (L2.CX P w) (k + 5) f7 g7 ["row"] (spNoRow K NR) := ok_mirror N.N7.F N.N1 N.N2 T Z
  refine F.ok scKind (fun vs H Q E h => ?_) (fun cdv A outer s H vs Q E hr h => ?_)
  · obtain ⟨dr, x, y, rfl, _⟩ := h
    rfl
  · obtain ⟨dr, x, y, rfl, hw, q⟩ := h
    have nd := scKind.nd
    refine ⟨_, pss_cons (ps_set (i := 3) nd rfl (.inl rfl) pe_non)
      (pss_cons (ps_try_held (i := 4) (j := 3) rfl rfl nd rfl rfl rfl rfl rfl (tests_two ⟨rfl, by decide, .inl Z.gHE⟩ ⟨rfl, by decide, .inl Z.gNL⟩)
          (fun W pn xe tk _ => pss_one (ps_if (pt_cmpR op_eq (pv 0) pe_int (nomark _)) (pss_one (ps_expr (pe_callS Gc hr (by rfl) N.N6.g N.N6.F.kp N.N6.b (fun σ => passAt tk σ) (pa_cons (pv 1) (pa_cons (pv 2) pa_nil)))))
            (pss_one (ps_if (pt_cmpR op_eq (pv 0) pe_int (nomark _)) (pss_one (ps_expr (pe_callS Gw hr (by rfl) N.N4.g N.N4.F.kp N.N4.b (fun σ => passAt tk σ) (pa_cons (pv 1) pa_nil))))
              (pss_one (ps_expr (pe_callS Gm hr (by rfl) N.N7.g N.N7.F.kp N.N7.b (fun σ => passAt tk σ) (pa_cons (pv 1) pa_nil))))))))
          (fun a oe pn => pss_one (ps_set (i := 3) nd rfl (.inl rfl) (pv 4))))
      (pss_one (ps_ret (pe_and (pe_callB call_isH (by rfl) T.isi (by decide +kernel) (pa_cons (pv 3) (pa_cons (pe_glob (v := .ref NR) (by rfl) Z.gNR rfl) pa_nil)))
        (pe_one (pe_not (pe_callB call_isHT (by rfl) T.isi (by decide +kernel) (pa_cons (pv 3) (pa_cons (pe_tup (pa_cons (pe_glob (v := .ref NN) (by rfl) Z.gNN rfl) (pa_cons (pe_glob (v := .ref NP) (by rfl) Z.gNP rfl) (pa_cons (pe_glob (v := .ref NL) (by rfl) Z.gNL rfl) pa_nil)))) pa_nil))))))))), ?_⟩
    refine ⟨.int dr, rfl, rfl, _, rfl, ite2 (fun _ => ?_) (fun _ => ?_)⟩
    · refine ⟨x, rfl, y, rfl, x, y, rfl, .inl ⟨hw, fun H1 s1 => ?_⟩⟩
      refine ⟨Z.mR, fun a na => ?_⟩
      have sA : Same H (upd H1 a (ExH (.ref NR) none a)) := same_new (s1.free na) s1
      refine ⟨.ref a, rfl, a, NR, .ref NR, .ref NR, true, rfl, upd_same, Z.R.c, .own _, kit_me, true, rfl, ?_⟩
      refine ⟨.ref a, rfl, (by show 3 ≤ sizeLine; decide), fun tp nt => ?_⟩
      have sT := same_upd (o := .tup [.ref NN, .ref NP, .ref NL]) nt
      exact ⟨a, NR, tp, _, _, false, rfl, sT _ _ upd_same, Z.R.c, upd_same, .cons (.own _) (.cons (.own _) (.cons (.own _) .nil)), Z.rA, false, rfl, q _ (sA.trans sT)⟩
    · refine ⟨.int dr, rfl, rfl, _, rfl, ite2 (fun _ => ?_) (fun _ => ?_)⟩
      · refine ⟨x, rfl, x, rfl, .inr ⟨hw, fun H1 s1 => ?_⟩⟩
        refine ⟨Z.mR, fun a na => ?_⟩
        have sA : Same H (upd H1 a (ExH (.ref NR) none a)) := same_new (s1.free na) s1
        refine ⟨.ref a, rfl, a, NR, .ref NR, .ref NR, true, rfl, upd_same, Z.R.c, .own _, kit_me, true, rfl, ?_⟩
        refine ⟨.ref a, rfl, (by show 3 ≤ sizeLine; decide), fun tp nt => ?_⟩
        have sT := same_upd (o := .tup [.ref NN, .ref NP, .ref NL]) nt
        exact ⟨a, NR, tp, _, _, false, rfl, sT _ _ upd_same, Z.R.c, upd_same, .cons (.own _) (.cons (.own _) (.cons (.own _) .nil)), Z.rA, false, rfl, q _ (sA.trans sT)⟩
      · refine ⟨x, rfl, x, rfl, hw, fun H1 s1 => ?_⟩
        refine ⟨Z.mR, fun a na => ?_⟩
        have sA : Same H (upd H1 a (ExH (.ref NR) none a)) := same_new (s1.free na) s1
        refine ⟨.ref a, rfl, a, NR, .ref NR, .ref NR, true, rfl, upd_same, Z.R.c, .own _, kit_me, true, rfl, ?_⟩
        refine ⟨.ref a, rfl, (by show 3 ≤ sizeLine; decide), fun tp nt => ?_⟩
        have sT := same_upd (o := .tup [.ref NN, .ref NP, .ref NL]) nt
        exact ⟨a, NR, tp, _, _, false, rfl, sT _ _ upd_same, Z.R.c, upd_same, .cons (.own _) (.cons (.own _) (.cons (.own _) .nil)), Z.rA, false, rfl, q _ (sA.trans sT)⟩
end
end Hop

set_option Elab.async false
set_option linter.all false
set_option maxRecDepth 100000
namespace HopR
open PySem L2
/-- a list of draws by its places -/
theorem draws2 {c z0 z1 : Int} (h0 : 0 < z0) (h1 : 0 < z1) : ∃ d0 d1 : Int, draws c 0 [z0, z1] = [d0, d1] ∧ (0 ≤ d0 ∧ d0 < z0) ∧ (0 ≤ d1 ∧ d1 < z1) := by
  have hl := draws_len [z0, z1] c 0
  match hd : draws c 0 [z0, z1], hl with
  | [d0, d1], _ =>
    have hp : ∀ z ∈ [z0, z1], 0 < z := by
      intro z hz
      simp only [List.mem_cons, List.not_mem_nil, or_false] at hz
      rcases hz with rfl | rfl
      · exact h0
      · exact h1
    exact ⟨d0, d1, rfl, draws_ok _ c 0 hp 0 d0 z0 (by rw [hd]; rfl) rfl, draws_ok _ c 0 hp 1 d1 z1 (by rw [hd]; rfl) rfl⟩
end HopR

set_option linter.all false
namespace HopR
open PySem L2
theorem mir_mir (bs : List Bool) : mir (mir bs) = bs := by
  unfold mir
  rw [← List.map_reverse, List.reverse_reverse, List.map_map]
  have e : ((fun x => !x) ∘ fun x => !x) = (id : Bool → Bool) := by
    funext b
    cases b <;> rfl
  rw [e, List.map_id]
theorem ends_get (bs : List Bool) (k : Nat) (h : k ≤ bs.length) : opn bs k = (((ends bs)[k]?.getD false) && !((ends bs)[k + 1]?.getD true)) := by
  have hl := ends_len bs
  have e1 : (ends bs)[k]? = some (ends bs)[k] := List.getElem?_eq_getElem (by omega)
  have e2 : (ends bs)[k + 1]? = some (ends bs)[k + 1] := List.getElem?_eq_getElem (by omega)
  have e3 : ((ends bs).drop k).take 2 = [(ends bs)[k], (ends bs)[k + 1]] := by
    rw [List.drop_eq_getElem_cons (by omega), List.drop_eq_getElem_cons (by omega)]
    rfl
  unfold opn
  rw [e3, e1, e2]
  show decide ([(ends bs)[k], (ends bs)[k + 1]] = [true, false]) = ((ends bs)[k] && !(ends bs)[k + 1])
  cases (ends bs)[k] <;> cases (ends bs)[k + 1] <;> rfl
theorem ends_mir (bs : List Bool) : ends (mir bs) = mir (ends bs) := by
  unfold ends mir
  simp
theorem mir_get {l : List Bool} {k : Nat} (h : k < l.length) : (mir l)[k]? = some (!(l[l.length - 1 - k]'(by omega))) := by
  unfold mir
  rw [List.getElem?_map, List.getElem?_reverse h, List.getElem?_eq_getElem (by omega)]
  rfl
theorem opn_mir {bs : List Bool} {k : Nat} (h : k ≤ bs.length) : opn (mir bs) k = opn bs (bs.length - k) := by
  have hl := ends_len bs
  rw [ends_get (mir bs) k (by rw [mir_len]; exact h), ends_get bs (bs.length - k) (by omega), ends_mir, mir_get (by omega), mir_get (by omega)]
  have e1 : (ends bs)[bs.length - k]? = some ((ends bs)[bs.length - k]'(by omega)) := List.getElem?_eq_getElem (by omega)
  have e2 : (ends bs)[bs.length - k + 1]? = some ((ends bs)[bs.length - k + 1]'(by omega)) := List.getElem?_eq_getElem (by omega)
  rw [e1, e2]
  have i1 : (ends bs).length - 1 - k = bs.length - k + 1 := by omega
  have i2 : (ends bs).length - 1 - (k + 1) = bs.length - k := by omega
  simp only [i1, i2, Option.getD_some]
  cases (ends bs)[bs.length - k]'(by omega) <;> cases (ends bs)[bs.length - k + 1]'(by omega) <;> rfl
theorem range_rev (n : Nat) : (List.range (n + 1)).map (fun k => n - k) = (List.range (n + 1)).reverse := by
  apply List.ext_getElem
  · simp
  · intro i h1 h2
    rw [List.getElem_map, List.getElem_reverse, List.getElem_range, List.getElem_range, List.length_range]
    omega
theorem walls_mir (bs : List Bool) : walls (mir bs) = ((walls bs).map (fun k => bs.length - k)).reverse := by
  unfold walls
  rw [mir_len]
  have e : (List.range (bs.length + 1)).filter (opn (mir bs)) = (List.range (bs.length + 1)).filter (fun k => opn bs (bs.length - k)) := by
    apply List.filter_congr
    intro k hk
    exact opn_mir (by have := List.mem_range.mp hk; omega)
  rw [e, ← List.map_reverse, ← List.filter_reverse, ← range_rev, List.filter_map, List.map_map]
  have e2 : (List.range (bs.length + 1)).filter (opn bs ∘ fun k => bs.length - k) = (List.range (bs.length + 1)).filter (fun k => opn bs (bs.length - k)) := rfl
  rw [e2]
  conv => lhs; rw [← List.map_id ((List.range (bs.length + 1)).filter fun k => opn bs (bs.length - k))]
  apply List.map_congr_left
  intro k hk
  have := List.mem_range.mp (List.mem_filter.mp hk).1
  show k = bs.length - (bs.length - k)
  omega
theorem mir_app (as bs : List Bool) : mir (as ++ bs) = mir bs ++ mir as := by
  unfold mir
  rw [List.reverse_append, List.map_append]
theorem mir_take (l : List Bool) (k : Nat) (h : k ≤ l.length) : mir (l.take k) = (mir l).drop (l.length - k) := by
  have e := mir_app (l.take k) (l.drop k)
  rw [List.take_append_drop] at e
  rw [e, List.drop_append_of_le_length (by rw [mir_len, List.length_drop]; exact Nat.le_refl _), List.drop_of_length_le (by rw [mir_len, List.length_drop]; exact Nat.le_refl _), List.nil_append]
theorem mir_drop (l : List Bool) (k : Nat) (h : k ≤ l.length) : mir (l.drop k) = (mir l).take (l.length - k) := by
  have e := mir_app (l.take k) (l.drop k)
  rw [List.take_append_drop] at e
  rw [e, List.take_append_of_le_length (by rw [mir_len, List.length_drop]; exact Nat.le_refl _), List.take_of_length_le (by rw [mir_len, List.length_drop]; exact Nat.le_refl _)]
theorem bhd_mir {bs : List Bool} {k : Nat} (h : k ≤ bs.length) : mir (bhd bs k) = bhd (mir bs) (bs.length - k) := by
  have hl := ends_len bs
  unfold bhd
  rw [mir_app, mir_app, mir_app, mir_drop _ _ (by omega), mir_take _ _ (by omega), ends_mir, hl]
  have e1 : bs.length + 2 - (k + 2) = bs.length - k := by omega
  have e2 : bs.length + 2 - k = bs.length - k + 2 := by omega
  rw [e1, e2]
  show (mir (ends bs)).take (bs.length - k) ++ ([false] ++ ([true] ++ (mir (ends bs)).drop (bs.length - k + 2))) = _
  rw [List.append_assoc, List.append_assoc]
theorem chg_mir {bs : List Bool} {k : Nat} (h : k ≤ bs.length) : mir (chg bs k) = chg (mir bs) (bs.length - k) := by
  have hb := bhd_len h
  have hb2 : (bhd (mir bs) (bs.length - k)).length = bs.length + 2 := by
    rw [← bhd_mir h, mir_len, hb]
  unfold chg
  rw [mir_take _ _ (by rw [List.length_drop]; omega), mir_drop _ _ (by omega), List.length_drop, hb, hb2, bhd_mir h]
  have e1 : bs.length + 2 - 1 - (bs.length + 2 - 2) = 1 := by omega
  have e2 : bs.length + 2 - 1 = bs.length + 1 := by omega
  rw [e1, e2, List.drop_take]
  rfl
theorem num_snoc (bs : List Bool) (b : Bool) : num (bs ++ [b]) = num bs * 2 + (if b then 1 else 0) := by
  unfold num
  rw [List.foldl_append]
  rfl
theorem num_not (n : Nat) : ∀ bs : List Bool, bs.length = n → num bs + num (bs.map (!·)) = 2 ^ bs.length - 1 := by
  induction n with
  | zero =>
    intro bs h
    have : bs = [] := List.length_eq_zero_iff.mp h
    subst this
    rfl
  | succ n ih =>
    intro bs h
    have hne : bs ≠ [] := by
      intro e
      rw [e] at h
      cases h
    obtain ⟨as, b, rfl⟩ : ∃ as b, bs = as ++ [b] := ⟨bs.dropLast, bs.getLast hne, (List.dropLast_concat_getLast hne).symm⟩
    have hl : as.length = n := by
      rw [List.length_append] at h
      simpa using h
    have := ih as hl
    rw [List.map_append, List.map_cons, List.map_nil, num_snoc, num_snoc, List.length_append]
    show num as * 2 + _ + (num (as.map (!·)) * 2 + _) = 2 ^ (as.length + 1) - 1
    rw [Int.pow_succ]
    cases b with
    | true =>
      show num as * 2 + 1 + (num (as.map (!·)) * 2 + 0) = 2 ^ as.length * 2 - 1
      omega
    | false =>
      show num as * 2 + 0 + (num (as.map (!·)) * 2 + 1) = 2 ^ as.length * 2 - 1
      omega
theorem num_mir (bs : List Bool) : num bs + num (mir bs).reverse = 2 ^ bs.length - 1 := by
  have e : (mir bs).reverse = bs.map (!·) := by
    unfold mir
    rw [← List.map_reverse, List.reverse_reverse]
  rw [e]
  exact num_not _ bs rfl
theorem walls_ne (bs : List Bool) : walls bs ≠ [] := by
  -- the first place of a free one, or the last wall
  have key : ∃ k, k ≤ bs.length ∧ opn bs k = true := by
    have h : ∀ (l : List Bool), l ≠ [] → l.head? = some true → l.getLast? = some false → ∃ k, k + 1 < l.length ∧ l[k]? = some true ∧ l[k + 1]? = some false := by
      intro l
      induction l with
      | nil => intro h; exact absurd rfl h
      | cons a r ih =>
        intro _ h1 h2
        have ea : a = true := Option.some.inj h1
        subst ea
        cases r with
        | nil =>
          have : true = false := Option.some.inj h2
          cases this
        | cons b q =>
          cases b with
          | false => exact ⟨0, by simp, rfl, rfl⟩
          | true =>
            obtain ⟨k, g1, g2, g3⟩ := ih (by simp) rfl (by rw [List.getLast?_cons_cons] at h2; exact h2)
            exact ⟨k + 1, by simpa using g1, by simpa using g2, by simpa using g3⟩
    obtain ⟨k, g1, g2, g3⟩ := h (ends bs) (by unfold ends; simp) rfl (by unfold ends; rw [List.getLast?_cons]; simp)
    have hl := ends_len bs
    refine ⟨k, by omega, ?_⟩
    rw [ends_get bs k (by omega), g2, g3]
    rfl
  obtain ⟨k, h1, h2⟩ := key
  exact List.ne_nil_of_mem (mem_walls.mpr ⟨h1, h2⟩)
end HopR

set_option Elab.async false
set_option linter.all false
set_option maxRecDepth 100000
namespace HopR
open PySem L2
theorem draws3 {c z0 z1 z2 : Int} (h0 : 0 < z0) (h1 : 0 < z1) (h2 : 0 < z2) : ∃ d0 d1 d2 : Int, draws c 0 [z0, z1, z2] = [d0, d1, d2] ∧ (0 ≤ d0 ∧ d0 < z0) ∧ (0 ≤ d1 ∧ d1 < z1) := by
  refine ⟨_, _, _, rfl, dval_ok h0, dval_ok h1⟩
theorem isRow_app {z : Str} {c : Nat} (h : okc c = false) : isRowB (z ++ ⟨#[c]⟩) = false := by
  unfold isRowB
  have e : (z ++ (⟨#[c]⟩ : Str)).cps.toList = z.cps.toList ++ [c] := Array.toList_append
  rw [e, List.all_append, List.all_cons, h]
  simp
theorem isRow_long {z : Str} (h : 30 < z.length) : isRowB z = false := by
  unfold isRowB
  rw [decide_eq_false (show ¬ z.length ≤ 30 by omega)]
  simp
theorem one_more (z : Str) (c : Nat) : (z ++ (⟨#[c]⟩ : Str)).length = z.length + 1 := by
  show (z.cps ++ #[c]).size = z.cps.size + 1
  simp
theorem sign_blank : (" " : Str) = ⟨#[32]⟩ := by decide +kernel
theorem in_cut {xs : List V} {lo hi : Option Int} {x : V} (h : x ∈ cutV xs lo hi) : x ∈ xs := by
  unfold cutV at h
  exact List.mem_of_mem_drop (List.mem_of_mem_take h)
theorem cut_few (xs : List V) (lo hi : Option Int) : (cutV xs lo hi).length ≤ xs.length := by
  unfold cutV
  rw [List.length_take, List.length_drop]
  omega
/-- the numbers that aren't among ks -/
def notIn (ks : List Nat) (k : Nat) : Bool := !inV (wv k) (ks.map wv)
theorem notIn_ne {ks : List Nat} {k : Nat} (h : notIn ks k = true) : ∀ j ∈ ks, (k : Int) ≠ (j : Int) := by
  intro j hj e
  obtain rfl : k = j := by omega
  unfold notIn at h
  rw [inV_in hj] at h
  exact nomatch h
theorem keep_succ (p : Nat → Bool) (i : Nat) : (List.range (i + 1)).filter p = (List.range i).filter p ++ (if p i then [i] else []) := by
  rw [List.range_succ, List.filter_append]
  congr 1
  cases h : p i with
  | true => simp [h]
  | false => simp [h]
theorem keep_few (p : Nat → Bool) (i : Nat) : ((List.range i).filter p).length ≤ i := by
  refine Nat.le_trans (List.length_filter_le _ _) ?_
  rw [List.length_range]
  exact Nat.le_refl _
end HopR
namespace Hop
open PySem L2 HopR
section
variable {P : Program} {w : World} {K : PySem.W.Frag} {mg : Str → Option Value} {base : Heap} {d : Addr} {es : Array DictEntry} {n : Nat} {HE NN NR NP NL fI : Addr}
abbrev nLaw : List Str := ["_law_script", "_law_cell", "_law_row_here", "_law_draws", "_law_some", "_law_shut_here", "_law_shut", "_law_odd", "_law_bad", "_law_door"]
theorem scLaw : FnScope nLaw ["_law_script"] (defScope sLaw) := ⟨rfl, rfl, rfl, by decide +kernel, rfl, by decide +kernel, by decide +kernel⟩
def spLaw (K : PySem.W.Frag) : Sp := fun vs H Q _ => ∃ (a : Addr) (ns : List Int), vs = [.ref a] ∧ SqL K H a (ns.map V.int) ∧ ns.length ≤ 63 ∧ ∀ H', Q (.bl true) H'
theorem ok_law {f f0 f1 f2 f3 f4 f5 f6 f7 fw fr fo fg fk : Addr} {fd gI g0 g1 g2 g3 g4 g5 g6 g7 gw gr go gg gk : FuncData} (F : Fun K "law" "law" sLaw f fd) (N : Defs K mg fI f0 f1 f2 f3 f4 f5 f6 f7 gI g0 g1 g2 g3 g4 g5 g6 g7)
    (Nw : Fn K mg "_law_drawn" sDrawn ["_law_cell", "_law_sizes"] fw gw) (Nr : Fn K mg "_law_row" sLRow ["_law_cell", "_law_most"] fr gr) (No : Fn K mg "_law_open" sOpen ["_law_row_here"] fo go) (Ng : Fn K mg "_law_gate" sGate ["_law_row_here", "_law_shut_here"] fg gg)
    (Nk : Fn K mg "_law_row_kind" sKind ["_law_door", "_law_row_here", "_law_shut_here"] fk gk) (T : Txt K w mg d es n) (Z : Er K mg HE NN NR NP NL fI) :
    FnOkG P w K mg base CX0 8 f fd ["_law_script"] (spLaw K) := by
  have Gd : FnOk P w K mg base CX0 7 fw gw ["_law_cell", "_law_sizes"] (spDrawn K) := ok_drawn Nw.F T.len T.range
  have Gr : FnOk P w K mg base CX0 7 fr gr ["_law_cell", "_law_most"] spLRow := ok_lrow Nr.F Nw T.len T.range T.sorted
  have Go : FnOk P w K mg base CX0 7 fo go ["_law_row_here"] spWalls := ok_open No.F T
  have Gg : FnOkG P w K mg base CX0 7 fg gg ["_law_row_here", "_law_shut_here"] (spGate K) := ok_gate Ng.F N T Z
  have Gk : FnOk P w K mg base CX0 7 fk gk ["_law_door", "_law_row_here", "_law_shut_here"] (spKind K) := ok_kind Nk.F N T Z
  have Gv : FnOk P w K mg base (L2.CX P w) 7 f4 g4 ["row"] (spWallsX K NR) := ok_walls N.N4.F N.N1 N.N2 N.N3 T Z
  refine okG F scLaw (fun vs H Q E h => ?_) (fun cdv A outer s H vs Q E hG hr h => ?_)
  · obtain ⟨a, ns, rfl, _⟩ := h
    rfl
  · obtain ⟨a, ns, rfl, hS, hlen, q⟩ := h
    have nd := scLaw.nd
    have hu := hu66 hr
    refine ⟨_, pss_cons (ps_for PassesOwn.never rfl (pi_list (pe_op op_cat (pe_slice sl_list (pv 0) po_none (po_some pe_int)) (pe_lst (pa_cons pe_int pa_nil)))) (pg_name (i := 1) nd rfl (.inl rfl))
        (pss_cons (ps_set (i := 2) nd rfl (.inl rfl) (pe_call Gr hr (by rfl) Nr.g Nr.F.kp Nr.b .nil pass0 (pa_cons (pv 1) (pa_cons pe_int pa_nil))))
        (pss_cons (ps_set (i := 3) nd rfl (.inl rfl) (pe_call Gd hr (by rfl) Nw.g Nw.F.kp Nw.b .nil pass0 (pa_cons (pe_op op_fdiv (pv 1) pe_int) (pa_cons (pe_lst (pa_cons pe_int (pa_cons pe_int (pa_cons (pe_op op_pow pe_int pe_int) pa_nil)))) pa_nil))))
        (pss_cons (ps_set (i := 4) nd rfl (.inr rfl) (pe_call Go hr (by rfl) No.g No.F.kp No.b .nil pass0 (pa_cons (pv 2) pa_nil)))
        (pss_cons (ps_setLc (i := 6) (own := [("_law_shut_here", 5)]) (g := gName 5) (by rfl) nd rfl rfl (sw_true rfl rfl rfl (by decide +kernel)) (pi_range1 (by rfl) T.range (pa_cons (pe_op op_add (pe_callB call_len_str (by rfl) T.len PySem.boot_len (pa_cons (pv 2) pa_nil)) pe_int) pa_nil))
          (blkOk_by (own := [("_law_shut_here", 5)]) (N := nLaw) (sc := defScope sLaw) (by decide +kernel))
          (fun _ _ _ _ _ => pg_name (i := 5) nd rfl (Or.inl rfl))
          (fun _ _ _ _ _ => pts_one (pt_cmpR (show OpR _ (compareOp .NotIn) (rIn K true) from op_notIn_seq) (pv 5) (pv 4) (by rfl)))
          (fun _ _ _ _ _ => pv 5))
        (pss_cons (ps_set (i := 7) nd rfl (.inl rfl) (pe_lst (pa_cons (pe_un un_neg pe_int) (pa_cons (pe_op op_add (pe_callB call_len_str (by rfl) T.len PySem.boot_len (pa_cons (pv 2) pa_nil)) pe_int) (pa_cons pe_bl (pa_cons pe_bl (pa_cons pe_non (pa_cons pe_str
            (pa_cons (pe_lst (pa_cons (pe_ix ix_list (pv 4) pe_int (fun _ _ => rfl)) pa_nil)) (pa_cons (pe_tup (pa_cons (pe_ix ix_list (pv 4) pe_int (fun _ _ => rfl)) pa_nil)) (pa_cons (pe_op op_pow pe_int pe_int) (pa_cons (pe_un un_neg (pe_op op_pow pe_int pe_int)) pa_nil))))))))))))
        (pss_cons (ps_for PassesOwn.never rfl (pi_list (pe_op op_cat (pe_slice sl_list (pv 6) po_none (po_some pe_int)) (pv 7))) (pg_name (i := 5) nd rfl (.inl rfl))
          (pss_one (ps_if (pt_cmpR op_ne (pe_callG Gg hG hr (by rfl) Ng.g Ng.F.kp Ng.b .nil pass0 (pa_cons (pv 2) (pa_cons (pv 5) pa_nil))) (pe_callB (cr_reprD hG hu) (by rfl) T.repr (by decide +kernel) (pa_cons (pv 5) pa_nil)) (nomark _))
            (pss_one (ps_ret pe_bl)) pss_nil)))
        (pss_cons (ps_set (i := 8) nd rfl (.inl rfl) (pe_ix ix_list (pe_lst (pa_cons pe_str (pa_cons (pe_op op_repS (pv 2) pe_int) (pa_cons (pe_op op_add_str (pv 2) pe_str) (pa_cons pe_non (pa_cons pe_int
            (pa_cons (pe_callTy (cr_listT rfl) (by rfl) T.list (by decide +kernel) (pa_cons (pv 2) pa_nil)) (pa_cons (pe_tup (pa_cons (pv 2) pa_nil)) (pa_cons pe_dnewK (pa_cons pe_bl pa_nil)))))))))) (pe_ix ix_list (pv 3) pe_int (fun _ _ => rfl)) (fun _ _ => rfl)))
        (pss_cons (ps_for PassesOwn.never rfl (pi_list (pe_lst (pa_cons (pe_ix ix_list (pv 4) pe_int (fun _ _ => rfl)) (pa_cons (pe_ix ix_list (pv 7) (pe_ix ix_list (pv 3) pe_int (fun _ _ => rfl)) (fun _ _ => rfl)) (pa_cons pe_int pa_nil))))) (pg_name (i := 5) nd rfl (.inl rfl))
          (pss_one (ps_for PassesOwn.never rfl (pi_range1 (by rfl) T.range (pa_cons pe_int pa_nil)) (pg_name (i := 9) nd rfl (.inl rfl))
            (pss_one (ps_if (pt_not (pt_val (pe_call Gk hr (by rfl) Nk.g Nk.F.kp Nk.b .nil pass0 (pa_cons (pv 9) (pa_cons (pv 8) (pa_cons (pv 5) pa_nil)))))) (pss_one (ps_ret pe_bl)) pss_nil)))))
        (pss_one (ps_if (pt_cmpR op_ne (pe_callB (cr_reprD hG hu) (by rfl) T.repr (by decide +kernel) (pa_cons (pe_call Gv hr (by rfl) N.N4.g N.N4.F.kp N.N4.b .nil passL (pa_cons (pv 2) pa_nil)) pa_nil)) (pe_callB (cr_reprD hG hu) (by rfl) T.repr (by decide +kernel) (pa_cons (pv 4) pa_nil)) (nomark _))
          (pss_one (ps_ret pe_bl)) pss_nil)))))))))))
      (pss_one (ps_ret pe_bl)), ?_⟩
    refine ⟨.ref a, rfl, 30, rfl, a, _, rfl, hS, fun p np => ⟨(by show 1 ≤ sizeLine; decide), fun p2 np2 => ?_⟩⟩
    have npp : p ≠ p2 := fun e => by
      rw [← e, upd_same] at np2
      cases np2
    obtain ⟨zs, ez, hzl⟩ : ∃ zs : List Int, cutV (ns.map V.int) none (some 30) = zs.map V.int ∧ zs.length ≤ 63 := by
      unfold cutV
      refine ⟨(ns.drop (HT.sIx (ns.map V.int).length 0 none)).take (HT.sIx (ns.map V.int).length (ns.map V.int).length (some 30) - HT.sIx (ns.map V.int).length 0 none), by rw [List.map_take, List.map_drop], ?_⟩
      rw [List.length_take, List.length_drop]
      omega
    rw [ez]
    refine ⟨p, p2, zs.map V.int, [.int 0], rfl, rfl, by rw [upd_ne npp, upd_same], upd_same, ?_, fun p3 np3 => ?_⟩
    · rw [List.length_map]
      exact Nat.le_trans (Nat.add_le_add_right hzl 1) (by decide)
    have ecat : zs.map V.int ++ [V.int 0] = (zs ++ [0]).map V.int := by rw [List.map_append]; rfl
    rw [ecat]
    refine ⟨p3, rfl, ⟨_, SqL.of upd_same⟩, ?_⟩
    generalize hH2 : upd (upd (upd H p (.lst (zs.map V.int))) p2 (.lst [.int 0])) p3 (.lst ((zs ++ [0]).map V.int)) = H2
    have e3 : H2 p3 = some (.lst ((zs ++ [0]).map V.int)) := by
      rw [← hH2, upd_same]
    refine for_list (K := K) (a := p3) (xs := (zs ++ [0]).map V.int) (fun i σ H3 => ∃ y1 y2 y3 y4 y5 y6 y7 y8 y9, σ = [some (.ref a), y1, y2, y3, y4, y5, y6, y7, y8, y9] ∧ Same H2 H3) ⟨_, _, _, _, _, _, _, _, _, rfl, Same.refl _⟩ (fun i σ H3 _ ⟨_, _, _, _, _, _, _, _, _, _, h⟩ => SqL.of (h _ _ e3)) ?_ ?_
    · rintro i x σ H3 hx ⟨y1, y2, y3, y4, y5, y6, y7, y8, y9, rfl, s3⟩
      rw [List.getElem?_map] at hx
      obtain ⟨c, _, rfl⟩ := Option.map_eq_some_iff.mp hx
      -- the row
      refine ⟨.int c, rfl, c, 30, rfl, by decide, by decide, fun H4 bs s4 h1 h30 => ?_⟩
      have hR : Row bs := ⟨h1, h30⟩
      have hz : (tx bs).length ≤ sizeLine := row_size hR
      -- the draws
      refine ⟨.int c, rfl, c, 7, rfl, rfl, ⟨by decide, by decide⟩, 10, 9, rfl, rfl, ⟨by decide, by decide, by decide⟩, (by show 3 ≤ sizeLine; decide), fun l2 n2 => ?_⟩
      refine ⟨c / 7, l2, [10, 9, 10 ^ (9 : Int).toNat], rfl, SqL.of upd_same, ?_, by decide, fun H5 p5 s5 n5 e5 => ?_⟩
      · intro z hz
        simp only [List.mem_cons, List.not_mem_nil, or_false] at hz
        rcases hz with rfl | rfl | rfl
        · exact ⟨by decide, by decide⟩
        · exact ⟨by decide, by decide⟩
        · exact ⟨by decide, by decide⟩
      obtain ⟨d0, d1, d2, ed, b0, b1⟩ := draws3 (c := c / 7) (z0 := 10) (z1 := 9) (z2 := 10 ^ (9 : Int).toNat) (by decide) (by decide) (by decide)
      rw [ed] at e5
      have s35 : Same H3 H5 := (s4.trans (same_upd n2)).trans s5
      -- the open walls
      refine ⟨.str (tx bs), rfl, bs, rfl, hR, fun H6 p6 s6 n6 e6 => ?_⟩
      have e56 := s6 _ _ e5
      have hw30 : ∀ k ∈ walls bs, k ≤ 30 := fun k hk => Nat.le_trans (mem_walls.mp hk).1 h30
      have hfew : (walls bs).length ≤ 1000 := by
        have := walls_len bs
        omega
      obtain ⟨w1, w2, w3, w4⟩ := ints_show hw30 hfew
      obtain ⟨k0, hk0⟩ : ∃ k0, (walls bs)[0]? = some k0 := by
        cases h : walls bs with
        | nil => exact absurd h (walls_ne bs)
        | cons x r => exact ⟨x, rfl⟩
      have hk0m : k0 ∈ walls bs := List.mem_of_getElem? hk0
      have at0 : atI ((walls bs).map wv) 0 = some (wv k0) := atI_nat (j := 0) (by rw [List.getElem?_map, hk0]; rfl)
      -- the shut ones
      have en1 : (((tx bs).length : Int) + 1).toNat = bs.length + 1 := by
        rw [tx_len]
        omega
      refine ⟨.str (tx bs), rfl, tx bs, rfl, hz, _, 1, rfl, rfl, _, rfl, (by rw [tx_len]; omega), (by rw [tx_len]; omega), fun U hU => ?_⟩
      rw [en1]
      refine lc_range (lo := 0) (n := bs.length + 1) (fun i H7 => Same H6 H7 ∧ H7 U = some (.lst (((List.range i).filter (notIn (walls bs))).map wv))) ⟨same_upd hU, upd_same⟩ ?_ ?_
      · rintro i H7 hi ⟨sm, eU⟩
        rw [Int.zero_add]
        have hlt : (((List.range i).filter (notIn (walls bs))).map wv).length < sizeLine := by
          rw [List.length_map]
          exact fit' (Nat.le_trans (keep_few _ _) (by omega))
        refine ⟨rfl, .int (i : Int), rfl, .ref p6, rfl, p6, _, rfl, .inl (SqL.of (sm _ _ e6)), rfl, flat_ks _, _, rfl, ?_⟩
        have er := keep_succ (notIn (walls bs)) i
        show if notIn (walls bs) i = true then _ else _
        cases h : notIn (walls bs) i with
        | true =>
          rw [h] at er
          refine iteT ⟨.int (i : Int), rfl, _, eU, hlt, same_new hU sm, ?_⟩
          rw [upd_same, er, List.map_append]
          rfl
        | false =>
          rw [h] at er
          refine iteF ⟨sm, ?_⟩
          rw [er, eU]
          simp
      rintro H7 ⟨s7, e7⟩
      have hks1 : ∀ k ∈ (List.range (bs.length + 1)).filter (notIn (walls bs)), notIn (walls bs) k = true ∧ k ≤ bs.length := fun k hk => ⟨(List.mem_filter.mp hk).2, by have := List.mem_range.mp (List.mem_filter.mp hk).1; omega⟩
      have hks2 := keep_few (notIn (walls bs)) (bs.length + 1)
      generalize hks : (List.range (bs.length + 1)).filter (notIn (walls bs)) = ks at e7 hks1 hks2
      have e67 := s7 _ _ e6
      have e57 := s7 _ _ e56
      -- the odd ones
      refine ⟨1, rfl, .str (tx bs), rfl, tx bs, rfl, hz, _, 1, rfl, rfl, .ref p6, rfl, p6, _, 0, _, rfl, rfl, SqL.of e67, at0, (by show 1 ≤ sizeLine; decide), fun lA nA => ?_⟩
      have sA := same_upd (o := .lst [wv k0]) nA
      have eA : upd H7 lA (.lst [wv k0]) lA = some (.lst [wv k0]) := upd_same
      generalize hHA : upd H7 lA (.lst [wv k0]) = HA at sA eA
      refine ⟨.ref p6, rfl, p6, _, 0, _, rfl, rfl, SqL.of (sA _ _ e67), at0, (by show 1 ≤ sizeLine; decide), fun tB nB => ?_⟩
      have sB := same_upd (o := .tup [wv k0]) nB
      have eB : upd HA tB (.tup [wv k0]) tB = some (.tup [wv k0]) := upd_same
      generalize hHB : upd HA tB (.tup [wv k0]) = HB at sB eB
      refine ⟨10, 40, rfl, rfl, ⟨by decide, by decide, by decide⟩, 10, 40, rfl, rfl, ⟨by decide, by decide, by decide⟩, _, rfl, (by show 10 ≤ sizeLine; decide), fun lO nO => ?_⟩
      have hpw : (10 : Int) ^ (40 : Int).toNat = 10000000000000000000000000000000000000000 := by decide
      generalize hodd : [V.int (-1), .int (((tx bs).length : Int) + 1), .bl true, .bl false, .non, .str "0", .ref lA, .ref tB, .int (10 ^ (40 : Int).toNat), .int (-(10 ^ (40 : Int).toNat))] = odd
      have sO := same_upd (o := .lst odd) nO
      have eO : upd HB lO (.lst odd) lO = some (.lst odd) := upd_same
      generalize hHO : upd HB lO (.lst odd) = HO2 at sO eO
      have s7O : Same H7 HO2 := (sA.trans sB).trans sO
      have hoddOk : ∀ x ∈ odd, BadSpot K HO2 x (walls bs) ∧ ∃ z, Shown K HO2 x z := fun x hx => by
        rw [← hodd] at hx
        simp only [List.mem_cons, List.not_mem_nil, or_false] at hx
        rcases hx with rfl | rfl | rfl | rfl | rfl | rfl | rfl | rfl | rfl | rfl
        · exact ⟨.inr ⟨_, rfl, fun k _ => by omega⟩, shown_int (by decide)⟩
        · exact ⟨.inr ⟨_, rfl, fun k hk => by have := (mem_walls.mp hk).1; rw [tx_len]; omega⟩, shown_int (by rw [tx_len]; omega)⟩
        · exact ⟨.inl odd_bl, shown_bl⟩
        · exact ⟨.inl odd_bl, shown_bl⟩
        · exact ⟨.inl odd_non, shown_non⟩
        · exact ⟨.inl odd_str, shown_0⟩
        · exact ⟨.inl (odd_lst ((sB.trans sO) _ _ eA)), shown_lst (by have := hw30 _ hk0m; omega) ((sB.trans sO) _ _ eA)⟩
        · exact ⟨.inl (odd_tup (sO _ _ eB)), shown_tup (by have := hw30 _ hk0m; omega) (sO _ _ eB)⟩
        · rw [hpw]
          exact ⟨.inr ⟨_, rfl, fun k hk => by have := hw30 _ hk; omega⟩, shown_up⟩
        · rw [hpw]
          exact ⟨.inr ⟨_, rfl, fun k hk => by omega⟩, shown_down⟩
      have hoddLen : odd.length = 10 := by rw [← hodd]; rfl
      have hodd0 : ∃ y, atI odd d0 = some y := by
        rw [← hodd]
        rcases (show d0 = 0 ∨ d0 = 1 ∨ d0 = 2 ∨ d0 = 3 ∨ d0 = 4 ∨ d0 = 5 ∨ d0 = 6 ∨ d0 = 7 ∨ d0 = 8 ∨ d0 = 9 by omega) with rfl | rfl | rfl | rfl | rfl | rfl | rfl | rfl | rfl | rfl <;> exact ⟨_, rfl⟩
      -- the gates
      refine ⟨.ref U, rfl, 6, rfl, U, _, rfl, SqL.of (s7O _ _ e7), fun p8 n8 => ⟨.ref lO, rfl, ?_⟩⟩
      have hcl := cut_few (ks.map wv) none (some 6)
      rw [List.length_map] at hcl
      have hcm : ∀ x ∈ cutV (ks.map wv) none (some 6), BadSpot K HO2 x (walls bs) ∧ ∃ z, Shown K HO2 x z := fun x hx => by
        obtain ⟨k, hk, rfl⟩ := List.mem_map.mp (in_cut hx)
        exact ⟨.inr ⟨(k : Int), rfl, notIn_ne (hks1 k hk).1⟩, shown_int (by show ((k : Int)).natAbs < 1000000000000; have := (hks1 k hk).2; omega)⟩
      generalize hcs : cutV (ks.map wv) none (some 6) = cs at hcl hcm
      have s8 := same_upd (o := .lst cs) n8
      have e8 : upd HO2 p8 (.lst cs) p8 = some (.lst cs) := upd_same
      generalize hH8 : upd HO2 p8 (.lst cs) = H8 at s8 e8
      refine ⟨p8, lO, cs, odd, rfl, rfl, e8, s8 _ _ eO, fit (by rw [hoddLen]; omega), fun p9 n9 => ⟨p9, rfl, ⟨_, SqL.of upd_same⟩, ?_⟩⟩
      have s9 := same_upd (o := .lst (cs ++ odd)) n9
      have e9 : upd H8 p9 (.lst (cs ++ odd)) p9 = some (.lst (cs ++ odd)) := upd_same
      generalize hH9 : upd H8 p9 (.lst (cs ++ odd)) = H9 at s9 e9
      have sO9 := s8.trans s9
      refine for_list (K := K) (a := p9) (xs := cs ++ odd) (fun i σ H10 => ∃ y5, σ = [some (.ref a), some (.int c), some (.str (tx bs)), some (.ref p5), some (.ref p6), y5, some (.ref U), some (.ref lO), y8, y9] ∧ Same H9 H10) ⟨_, rfl, Same.refl _⟩ (fun i σ H10 _ ⟨_, _, h⟩ => SqL.of (h _ _ e9)) ?_ ?_
      · rintro i x σ H10 hx ⟨y5, rfl, s10⟩
        obtain ⟨hb, z, hsh⟩ : BadSpot K HO2 x (walls bs) ∧ ∃ z, Shown K HO2 x z := by
          rcases List.mem_append.mp (List.mem_of_getElem? hx) with h | h
          · exact hcm x h
          · exact hoddOk x h
        have sO10 := sO9.trans s10
        refine ⟨.str (tx bs), rfl, x, rfl, bs, x, z, rfl, hR, badspot_same sO10 hb, shown_same sO10 hsh, fun H11 s11 => ?_⟩
        obtain ⟨dt, k1, k2, k3, k4, k5, k6⟩ := hsh H11 (sO10.trans s11)
        refine ⟨x, rfl, x, dt, rfl, k1, k2, k3, k4, k5, ?_⟩
        rw [k6]
        refine ⟨rfl, _, rfl, ?_⟩
        rw [decide_eq_true rfl]
        exact iteF ⟨_, rfl, s10.trans s11⟩
      · rintro σ H10 ⟨y5, rfl, s10⟩
        have sO10 := sO9.trans s10
        have e5X := sO10 _ _ (s7O _ _ e57)
        have e6X := sO10 _ _ (s7O _ _ e67)
        have eOX := sO10 _ _ eO
        -- bad
        have lx : (" " : Str).length = 1 := by decide +kernel
        refine ⟨.str (tx bs), rfl, tx bs, 31, rfl, rfl, (by rw [tx_len]; omega), by decide, .str (tx bs), rfl, tx bs, " ", rfl, rfl, (by rw [lx, tx_len]; exact fit (by omega)), .str (tx bs), rfl, tx bs, rfl, hz, fun lC nC => ⟨.str (tx bs), rfl, (by show 1 ≤ sizeLine; decide), fun tD nD dE nE => ?_⟩⟩
        have sC := same_upd (o := .lst ((sg (tx bs)).map V.str)) nC
        have eC : upd H10 lC (.lst ((sg (tx bs)).map V.str)) lC = some (.lst ((sg (tx bs)).map V.str)) := upd_same
        generalize hHC : upd H10 lC (.lst ((sg (tx bs)).map V.str)) = HC at sC eC nD nE
        have sD := same_upd (o := .tup [.str (tx bs)]) nD
        have eD : upd HC tD (.tup [.str (tx bs)]) tD = some (.tup [.str (tx bs)]) := upd_same
        generalize hHD : upd HC tD (.tup [.str (tx bs)]) = HD at sD eD nE
        have sE := same_upd (o := .dK []) nE
        have eE : upd HD dE (.dK []) dE = some (.dK []) := upd_same
        generalize hHE : upd HD dE (.dK []) = HE2 at sE eE
        refine ⟨(by show 9 ≤ sizeLine; decide), fun lF nF => ?_⟩
        generalize hbl : [V.str "", .str (repS (tx bs) 31), .str (tx bs ++ " "), .non, .int 3, .ref lC, .ref tD, .ref dE, .bl true] = bl
        have sF := same_upd (o := .lst bl) nF
        have eF : upd HE2 lF (.lst bl) lF = some (.lst bl) := upd_same
        generalize hHF : upd HE2 lF (.lst bl) = HF at sF eF
        have s10F : Same H10 HF := ((sC.trans sD).trans sE).trans sF
        obtain ⟨b, hb, hw⟩ : ∃ b, atI bl d1 = some b ∧ RowB K HF b false := by
          rw [← hbl]
          rcases (show d1 = 0 ∨ d1 = 1 ∨ d1 = 2 ∨ d1 = 3 ∨ d1 = 4 ∨ d1 = 5 ∨ d1 = 6 ∨ d1 = 7 ∨ d1 = 8 by omega) with rfl | rfl | rfl | rfl | rfl | rfl | rfl | rfl | rfl
          · exact ⟨_, rfl, .inr ⟨_, rfl, by decide +kernel, by decide +kernel⟩⟩
          · have hrl := repS_len (tx bs) 31
            rw [tx_len] at hrl
            exact ⟨_, rfl, .inr ⟨_, rfl, by rw [hrl]; omega, by rw [isRow_long (by rw [hrl]; omega)]⟩⟩
          · exact ⟨_, rfl, .inr ⟨_, rfl, by rw [sign_blank, one_more, tx_len]; omega, by rw [sign_blank, isRow_app (by decide)]⟩⟩
          · exact ⟨_, rfl, .inl ⟨notxt_non, rfl⟩⟩
          · exact ⟨_, rfl, .inl ⟨notxt_int, rfl⟩⟩
          · exact ⟨_, rfl, .inl ⟨notxt_lst (((sD.trans sE).trans sF) _ _ eC), rfl⟩⟩
          · exact ⟨_, rfl, .inl ⟨notxt_tup ((sE.trans sF) _ _ eD), rfl⟩⟩
          · exact ⟨_, rfl, .inl ⟨notxt_dK (sF _ _ eE), rfl⟩⟩
          · exact ⟨_, rfl, .inl ⟨notxt_bl, rfl⟩⟩
        refine ⟨.ref p5, rfl, p5, _, 1, .int d1, rfl, rfl, SqL.of (s10F _ _ e5X), rfl, lF, _, d1, b, rfl, rfl, SqL.of eF, hb, ?_⟩
        -- the doors
        obtain ⟨yo, hyo⟩ := hodd0
        refine ⟨.ref p6, rfl, p6, _, 0, _, rfl, rfl, SqL.of (s10F _ _ e6X), at0, .ref lO, rfl, .ref p5, rfl, p5, _, 0, .int d0, rfl, rfl, SqL.of (s10F _ _ e5X), rfl, lO, _, d0, yo, rfl, rfl, SqL.of (s10F _ _ eOX), hyo, (by show 3 ≤ sizeLine; decide), fun lG nG => ⟨lG, rfl, ⟨_, SqL.of upd_same⟩, ?_⟩⟩
        have sG := same_upd (o := .lst [wv k0, yo, .int 0]) nG
        have eG : upd HF lG (.lst [wv k0, yo, .int 0]) lG = some (.lst [wv k0, yo, .int 0]) := upd_same
        generalize hHG : upd HF lG (.lst [wv k0, yo, .int 0]) = HG at sG eG
        refine for_list (K := K) (a := lG) (xs := [wv k0, yo, .int 0]) (fun i σ H12 => ∃ y5 y9, σ = [some (.ref a), some (.int c), some (.str (tx bs)), some (.ref p5), some (.ref p6), y5, some (.ref U), some (.ref lO), some b, y9] ∧ Same HG H12) ⟨_, _, rfl, Same.refl _⟩ (fun i σ H12 _ ⟨_, _, _, h⟩ => SqL.of (h _ _ eG)) ?_ ?_
        · rintro i x σ H12 hx ⟨y5, y9, rfl, s12⟩
          refine ⟨3, rfl, by decide, by decide, ?_⟩
          refine for_range (lo := 0) (n := 3) (fun j σ H13 => ∃ y9, σ = [some (.ref a), some (.int c), some (.str (tx bs)), some (.ref p5), some (.ref p6), some x, some (.ref U), some (.ref lO), some b, y9] ∧ Same HG H13) ⟨_, rfl, s12⟩ ?_ ?_
          · rintro j σ H13 hj ⟨y9, rfl, s13⟩
            exact ⟨.int (0 + (j : Int)), rfl, b, rfl, x, rfl, _, b, x, rfl, rowB_same (sG.trans s13) hw, fun H14 s14 => ⟨true, rfl, iteF ⟨_, rfl, s13.trans s14⟩⟩⟩
          · rintro σ H13 ⟨y9, rfl, s13⟩
            exact ⟨_, _, rfl, s13⟩
        · rintro σ H12 ⟨y5, y9, rfl, s12⟩
          have s10W : Same H10 H12 := (s10F.trans sG).trans s12
          refine ⟨.str (tx bs), rfl, .str (tx bs), rfl, .inl ⟨bs, rfl, hR, fun H15 p15 s15 n15 e15 => ?_⟩⟩
          have e6Y := s15 _ _ (s10W _ _ e6X)
          refine ⟨_, _, rfl, .lst (SqL.of e15) (dp_walls _), w1, w2, w3, w4, .ref p6, rfl, _, _, rfl, .lst (SqL.of e6Y) (dp_walls _), w1, w2, w3, w4, rfl, _, rfl, ?_⟩
          rw [decide_eq_true rfl]
          refine iteF ⟨_, _, _, _, _, _, _, _, _, rfl, ?_⟩
          exact (((((s3.trans s35).trans s6).trans s7).trans s7O).trans sO10).trans (s10W.trans s15)
    · rintro σ H3 ⟨y1, y2, y3, y4, y5, y6, y7, y8, y9, rfl, s3⟩
      exact q _
end
end Hop

set_option Elab.async false
set_option linter.all false
set_option maxRecDepth 100000
namespace Hop
open PySem L2 HopR
/-! ### what the top has written -/
theorem all_mk {l : PySem.W.OpenLaw} {w : World} {K : PySem.W.Frag} {h : Heap} {mg : Str → Option Value} {fa : Addr} (X : K.In h) (G : h.Ns mainGlobals mg) (hfa : mg "law" = some (.ref fa))
    {f0 : Addr} {od0 an0 : Option Addr} {sl0 : Array (Option Value)} {oc0 kV0 dc0 pm0 cd0 ct0 : Value}
    {f1 : Addr} {od1 an1 : Option Addr} {sl1 : Array (Option Value)} {oc1 kV1 dc1 pm1 cd1 ct1 : Value}
    {f2 : Addr} {od2 an2 : Option Addr} {sl2 : Array (Option Value)} {oc2 kV2 dc2 pm2 cd2 ct2 : Value}
    {f3 : Addr} {od3 an3 : Option Addr} {sl3 : Array (Option Value)} {oc3 kV3 dc3 pm3 cd3 ct3 : Value}
    {f4 : Addr} {od4 an4 : Option Addr} {sl4 : Array (Option Value)} {oc4 kV4 dc4 pm4 cd4 ct4 : Value}
    {f5 : Addr} {od5 an5 : Option Addr} {sl5 : Array (Option Value)} {oc5 kV5 dc5 pm5 cd5 ct5 : Value}
    {f6 : Addr} {od6 an6 : Option Addr} {sl6 : Array (Option Value)} {oc6 kV6 dc6 pm6 cd6 ct6 : Value}
    {f7 : Addr} {od7 an7 : Option Addr} {sl7 : Array (Option Value)} {oc7 kV7 dc7 pm7 cd7 ct7 : Value}
    {fw : Addr} {odw anw : Option Addr} {slw : Array (Option Value)} {ocw kVw dcw pmw cdw ctw : Value}
    {fr : Addr} {odr anr : Option Addr} {slr : Array (Option Value)} {ocr kVr dcr pmr cdr ctr : Value}
    {fo : Addr} {odo ano : Option Addr} {slo : Array (Option Value)} {oco kVo dco pmo cdo cto : Value}
    {fg : Addr} {odg ang : Option Addr} {slg : Array (Option Value)} {ocg kVg dcg pmg cdg ctg : Value}
    {fk : Addr} {odk ank : Option Addr} {slk : Array (Option Value)} {ock kVk dck pmk cdk ctk : Value}
    {fL : Addr} {odL anL : Option Addr} {slL : Array (Option Value)} {ocL kVL dcL pmL cdL ctL : Value}
    {tb : Tok}
    {tf : Tok}
    {tm : Tok}
    {d : Addr} {es : Array DictEntry} {n : Nat}
    {HE NN NR NP NL : Addr}
    {fi : Addr} {odi ani : Option Addr} {sli : Array (Option Value)} {oci kVi dci pmi cdi cti : Value}
    (a0 : PySem.W.nsIn K mainGlobals "need_open" = some (some (.ref f0))) (l0 : K.lookup f0 = some ⟨oc0, od0, .func (PySem.W.fnOf "need_open" "need_open" (defArgs sNeedOpen) (defBody sNeedOpen) (defScope sNeedOpen) .none kV0 dc0 pm0 an0 cd0 ct0), sl0⟩) (c0 : PySem.W.codeIn K cd0 "need_open" = true) (k0 : PySem.W.keepIn K (.ref f0) = true)
    (a1 : PySem.W.nsIn K mainGlobals "is_row" = some (some (.ref f1))) (l1 : K.lookup f1 = some ⟨oc1, od1, .func (PySem.W.fnOf "is_row" "is_row" (defArgs sIsRow) (defBody sIsRow) (defScope sIsRow) .none kV1 dc1 pm1 an1 cd1 ct1), sl1⟩) (c1 : PySem.W.codeIn K cd1 "is_row" = true) (k1 : PySem.W.keepIn K (.ref f1) = true)
    (a2 : PySem.W.nsIn K mainGlobals "need_row" = some (some (.ref f2))) (l2 : K.lookup f2 = some ⟨oc2, od2, .func (PySem.W.fnOf "need_row" "need_row" (defArgs sNeedRow) (defBody sNeedRow) (defScope sNeedRow) .none kV2 dc2 pm2 an2 cd2 ct2), sl2⟩) (c2 : PySem.W.codeIn K cd2 "need_row" = true) (k2 : PySem.W.keepIn K (.ref f2) = true)
    (a3 : PySem.W.nsIn K mainGlobals "with_ends" = some (some (.ref f3))) (l3 : K.lookup f3 = some ⟨oc3, od3, .func (PySem.W.fnOf "with_ends" "with_ends" (defArgs sWithEnds) (defBody sWithEnds) (defScope sWithEnds) .none kV3 dc3 pm3 an3 cd3 ct3), sl3⟩) (c3 : PySem.W.codeIn K cd3 "with_ends" = true) (k3 : PySem.W.keepIn K (.ref f3) = true)
    (a4 : PySem.W.nsIn K mainGlobals "walls_of" = some (some (.ref f4))) (l4 : K.lookup f4 = some ⟨oc4, od4, .func (PySem.W.fnOf "walls_of" "walls_of" (defArgs sWallsOf) (defBody sWallsOf) (defScope sWallsOf) .none kV4 dc4 pm4 an4 cd4 ct4), sl4⟩) (c4 : PySem.W.codeIn K cd4 "walls_of" = true) (k4 : PySem.W.keepIn K (.ref f4) = true)
    (a5 : PySem.W.nsIn K mainGlobals "is_whole" = some (some (.ref f5))) (l5 : K.lookup f5 = some ⟨oc5, od5, .func (PySem.W.fnOf "is_whole" "is_whole" (defArgs sIsWhole) (defBody sIsWhole) (defScope sIsWhole) .none kV5 dc5 pm5 an5 cd5 ct5), sl5⟩) (c5 : PySem.W.codeIn K cd5 "is_whole" = true) (k5 : PySem.W.keepIn K (.ref f5) = true)
    (a6 : PySem.W.nsIn K mainGlobals "changed" = some (some (.ref f6))) (l6 : K.lookup f6 = some ⟨oc6, od6, .func (PySem.W.fnOf "changed" "changed" (defArgs sChanged) (defBody sChanged) (defScope sChanged) .none kV6 dc6 pm6 an6 cd6 ct6), sl6⟩) (c6 : PySem.W.codeIn K cd6 "changed" = true) (k6 : PySem.W.keepIn K (.ref f6) = true)
    (a7 : PySem.W.nsIn K mainGlobals "mirrored" = some (some (.ref f7))) (l7 : K.lookup f7 = some ⟨oc7, od7, .func (PySem.W.fnOf "mirrored" "mirrored" (defArgs sMirror) (defBody sMirror) (defScope sMirror) .none kV7 dc7 pm7 an7 cd7 ct7), sl7⟩) (c7 : PySem.W.codeIn K cd7 "mirrored" = true) (k7 : PySem.W.keepIn K (.ref f7) = true)
    (aw : PySem.W.nsIn K mainGlobals "_law_drawn" = some (some (.ref fw))) (lw : K.lookup fw = some ⟨ocw, odw, .func (PySem.W.fnOf "_law_drawn" "_law_drawn" (defArgs sDrawn) (defBody sDrawn) (defScope sDrawn) .none kVw dcw pmw anw cdw ctw), slw⟩) (cw : PySem.W.codeIn K cdw "_law_drawn" = true) (kw : PySem.W.keepIn K (.ref fw) = true)
    (ar : PySem.W.nsIn K mainGlobals "_law_row" = some (some (.ref fr))) (lr : K.lookup fr = some ⟨ocr, odr, .func (PySem.W.fnOf "_law_row" "_law_row" (defArgs sLRow) (defBody sLRow) (defScope sLRow) .none kVr dcr pmr anr cdr ctr), slr⟩) (cr : PySem.W.codeIn K cdr "_law_row" = true) (kr : PySem.W.keepIn K (.ref fr) = true)
    (ao : PySem.W.nsIn K mainGlobals "_law_open" = some (some (.ref fo))) (lo : K.lookup fo = some ⟨oco, odo, .func (PySem.W.fnOf "_law_open" "_law_open" (defArgs sOpen) (defBody sOpen) (defScope sOpen) .none kVo dco pmo ano cdo cto), slo⟩) (co : PySem.W.codeIn K cdo "_law_open" = true) (ko : PySem.W.keepIn K (.ref fo) = true)
    (ag : PySem.W.nsIn K mainGlobals "_law_gate" = some (some (.ref fg))) (lg : K.lookup fg = some ⟨ocg, odg, .func (PySem.W.fnOf "_law_gate" "_law_gate" (defArgs sGate) (defBody sGate) (defScope sGate) .none kVg dcg pmg ang cdg ctg), slg⟩) (cg : PySem.W.codeIn K cdg "_law_gate" = true) (kg : PySem.W.keepIn K (.ref fg) = true)
    (ak : PySem.W.nsIn K mainGlobals "_law_row_kind" = some (some (.ref fk))) (lk : K.lookup fk = some ⟨ock, odk, .func (PySem.W.fnOf "_law_row_kind" "_law_row_kind" (defArgs sKind) (defBody sKind) (defScope sKind) .none kVk dck pmk ank cdk ctk), slk⟩) (ck : PySem.W.codeIn K cdk "_law_row_kind" = true) (kk : PySem.W.keepIn K (.ref fk) = true)
    (aL : PySem.W.nsIn K mainGlobals "law" = some (some (.ref fL))) (lL : K.lookup fL = some ⟨ocL, odL, .func (PySem.W.fnOf "law" "law" (defArgs sLaw) (defBody sLaw) (defScope sLaw) .none kVL dcL pmL anL cdL ctL), slL⟩) (cL : PySem.W.codeIn K cdL "law" = true) (kL : PySem.W.keepIn K (.ref fL) = true)
    (z0 : PySem.W.nsIn K mainGlobals "len" = some none)
    (z1 : PySem.W.nsIn K mainGlobals "range" = some none)
    (z2 : PySem.W.nsIn K mainGlobals "all" = some none)
    (z3 : PySem.W.nsIn K mainGlobals "isinstance" = some none)
    (z4 : PySem.W.nsIn K mainGlobals "str" = some none)
    (z5 : PySem.W.nsIn K mainGlobals "int" = some none)
    (z6 : PySem.W.nsIn K mainGlobals "bool" = some none)
    (z7 : PySem.W.nsIn K mainGlobals "sorted" = some none)
    (z8 : PySem.W.nsIn K mainGlobals "list" = some none)
    (z9 : PySem.W.nsIn K mainGlobals "repr" = some none)
    (z10 : PySem.W.nsIn K mainGlobals "IndexError" = some none)
    (z11 : PySem.W.nsIn K mainGlobals "ValueError" = some none)
    (gb : PySem.W.nsIn K mainGlobals "BEAD" = some (some (.str "o" tb)))
    (gf : PySem.W.nsIn K mainGlobals "FREE" = some (some (.str "." tf)))
    (gm : PySem.W.nsIn K mainGlobals "MOST_PLACES" = some (some (.int 30 tm)))
    (gd : PySem.W.nsIn K mainGlobals "OTHER_SIGN" = some (some (.ref d)))
    (ld : K.lookup d = some ⟨.type "dict", none, .dict es n, #[]⟩)
    (kd : PySem.W.KeysLit w.params es.toList)
    (sd : (d == sysModules) = false)
    (ke : keysAre es)
    (g_HE : PySem.W.nsIn K mainGlobals "HopError" = some (some (.ref HE)))
    (g_NN : PySem.W.nsIn K mainGlobals "NoNumber" = some (some (.ref NN)))
    (g_NR : PySem.W.nsIn K mainGlobals "NoRow" = some (some (.ref NR)))
    (g_NP : PySem.W.nsIn K mainGlobals "NoPace" = some (some (.ref NP)))
    (g_NL : PySem.W.nsIn K mainGlobals "NoWall" = some (some (.ref NL)))
    (d_HE : PySem.W.hasDictIn K HE = true)
    (t_HE : PySem.W.typeIn K (.ref HE) = some (.type "type"))
    (d_NN : PySem.W.hasDictIn K NN = true)
    (t_NN : PySem.W.typeIn K (.ref NN) = some (.type "type"))
    (d_NR : PySem.W.hasDictIn K NR = true)
    (t_NR : PySem.W.typeIn K (.ref NR) = some (.type "type"))
    (d_NP : PySem.W.hasDictIn K NP = true)
    (t_NP : PySem.W.typeIn K (.ref NP) = some (.type "type"))
    (d_NL : PySem.W.hasDictIn K NL = true)
    (t_NL : PySem.W.typeIn K (.ref NL) = some (.type "type"))
    (b_HE : PySem.W.subIn K (.ref HE) (.type "BaseException") = some true)
    (b_NL : PySem.W.subIn K (.ref NL) (.type "BaseException") = some true)
    (b_NR : PySem.W.subIn K (.ref NR) (.type "BaseException") = some true)
    (q_hn : PySem.W.specialIn K (.builtin "object.__class__") "__get__" = some (some (.builtin "getset_descriptor.__get__")))
    (q_htk : PySem.W.takesIn K (.builtin "object.__class__") = some true)
    (x_NR : PySem.W.excIn K NR [.type "ValueError", .type "Exception", .type "BaseException", .type "object"] "ValueError.__new__" = true)
    (k_NR : PySem.W.keepIn K (.ref NR) = true)
    (ga_NR : PySem.W.findIn K (.ref NR) "__getattribute__" = some (some (.builtin "BaseException.__getattribute__")))
    (gt_NR : PySem.W.findIn K (.ref NR) "__getattr__" = some none)
    (cl_NR : PySem.W.findIn K (.ref NR) "__class__" = some (some (.builtin "object.__class__")))
    (mo_NR : PySem.W.mroIn K NR (.type "object") = some true)
    (k_NL : PySem.W.keepIn K (.ref NL) = true)
    (ga_NL : PySem.W.findIn K (.ref NL) "__getattribute__" = some (some (.builtin "BaseException.__getattribute__")))
    (gt_NL : PySem.W.findIn K (.ref NL) "__getattr__" = some none)
    (cl_NL : PySem.W.findIn K (.ref NL) "__class__" = some (some (.builtin "object.__class__")))
    (mo_NL : PySem.W.mroIn K NL (.type "object") = some true)
    (mi : PySem.W.findIn K (.ref NL) "__init__" = some (some (.ref fi)))
    (ti : PySem.W.typeIn K (.ref fi) = some (.type "function"))
    (li : K.lookup fi = some ⟨oci, odi, .func (PySem.W.fnOf "__init__" "NoWall.__init__" (defArgs sInit) (defBody sInit) (defScope sInit) .none kVi dci pmi ani cdi cti), sli⟩)
    (ci : PySem.W.codeIn K cdi "NoWall.__init__" = true)
    (ki : PySem.W.keepIn K (.ref fi) = true)
    (nw : PySem.W.excInitIn K NL [.type "IndexError", .type "LookupError", .type "Exception", .type "BaseException", .type "object"] "IndexError.__new__" = true)
    (ov : PySem.W.excOver K NL [.type "IndexError", .type "LookupError", .type "Exception", .type "BaseException", .type "object"] = true)
    (sa : PySem.W.findIn K (.ref NL) "__setattr__" = some (some (.builtin "object.__setattr__")))
    (tk : PySem.W.takerIn K NL "wall" = some none)
    (nf : PySem.W.findIn K (.ref NL) "wall" = some none)
    (iI : PySem.W.subIn K (.ref NL) (.type "IndexError") = some true)
    (iV : PySem.W.subIn K (.ref NL) (.type "ValueError") = some false)
    (vI : PySem.W.findCls K (.type "IndexError") (.type "type") "__init__" = some (.val (.builtin "IndexError.__init__")))
    (s_NL_NL : PySem.W.subIn K (.ref NL) (.ref NL) = some true)
    (s_NR_HE : PySem.W.subIn K (.ref NR) (.ref HE) = some true)
    (s_NR_NL : PySem.W.subIn K (.ref NR) (.ref NL) = some false)
    (s_NL_HE : PySem.W.subIn K (.ref NL) (.ref HE) = some false)
    (e_NL_HE : NL ≠ HE)
    (s_NR_NN : PySem.W.subIn K (.ref NR) (.ref NN) = some false)
    (e_NR_NN : NR ≠ NN)
    (s_NR_NP : PySem.W.subIn K (.ref NR) (.ref NP) = some false)
    (e_NR_NP : NR ≠ NP)
    (e_NR_NL : NR ≠ NL)
    : ∃ fd : FuncData, (∀ (s : Shared) (v : Value), BindsTo s fd ⟨[v], []⟩ [("_law_script", v)]) ∧ ∀ base : Heap, K.In base → base.Ns mainGlobals mg → FnOkG l.prog w K mg base CX0 8 fa fd ["_law_script"] (spLaw K) := by
  have e := hfa.symm.trans (PySem.W.mg_of X G aL)
  cases e
  have F0 := fun_mk (st := sNeedOpen) l0 c0 k0
  have b0 := F0.binds (ps := ["row", "wall"]) fun _ _ _ _ _ _ us hl => match us, hl with | [_, _], _ => rfl
  have N0 := Fn.mk (ps := ["row", "wall"]) F0 b0 (PySem.W.mg_of X G a0)
  have F1 := fun_mk (st := sIsRow) l1 c1 k1
  have b1 := F1.binds (ps := ["thing"]) fun _ _ _ _ _ _ us hl => match us, hl with | [_], _ => rfl
  have N1 := Fn.mk (ps := ["thing"]) F1 b1 (PySem.W.mg_of X G a1)
  have F2 := fun_mk (st := sNeedRow) l2 c2 k2
  have b2 := F2.binds (ps := ["thing"]) fun _ _ _ _ _ _ us hl => match us, hl with | [_], _ => rfl
  have N2 := Fn.mk (ps := ["thing"]) F2 b2 (PySem.W.mg_of X G a2)
  have F3 := fun_mk (st := sWithEnds) l3 c3 k3
  have b3 := F3.binds (ps := ["row"]) fun _ _ _ _ _ _ us hl => match us, hl with | [_], _ => rfl
  have N3 := Fn.mk (ps := ["row"]) F3 b3 (PySem.W.mg_of X G a3)
  have F4 := fun_mk (st := sWallsOf) l4 c4 k4
  have b4 := F4.binds (ps := ["row"]) fun _ _ _ _ _ _ us hl => match us, hl with | [_], _ => rfl
  have N4 := Fn.mk (ps := ["row"]) F4 b4 (PySem.W.mg_of X G a4)
  have F5 := fun_mk (st := sIsWhole) l5 c5 k5
  have b5 := F5.binds (ps := ["thing"]) fun _ _ _ _ _ _ us hl => match us, hl with | [_], _ => rfl
  have N5 := Fn.mk (ps := ["thing"]) F5 b5 (PySem.W.mg_of X G a5)
  have F6 := fun_mk (st := sChanged) l6 c6 k6
  have b6 := F6.binds (ps := ["row", "wall"]) fun _ _ _ _ _ _ us hl => match us, hl with | [_, _], _ => rfl
  have N6 := Fn.mk (ps := ["row", "wall"]) F6 b6 (PySem.W.mg_of X G a6)
  have F7 := fun_mk (st := sMirror) l7 c7 k7
  have b7 := F7.binds (ps := ["row"]) fun _ _ _ _ _ _ us hl => match us, hl with | [_], _ => rfl
  have N7 := Fn.mk (ps := ["row"]) F7 b7 (PySem.W.mg_of X G a7)
  have Fw := fun_mk (st := sDrawn) lw cw kw
  have bw := Fw.binds (ps := ["_law_cell", "_law_sizes"]) fun _ _ _ _ _ _ us hl => match us, hl with | [_, _], _ => rfl
  have Nw := Fn.mk (ps := ["_law_cell", "_law_sizes"]) Fw bw (PySem.W.mg_of X G aw)
  have Fr := fun_mk (st := sLRow) lr cr kr
  have br := Fr.binds (ps := ["_law_cell", "_law_most"]) fun _ _ _ _ _ _ us hl => match us, hl with | [_, _], _ => rfl
  have Nr := Fn.mk (ps := ["_law_cell", "_law_most"]) Fr br (PySem.W.mg_of X G ar)
  have Fo := fun_mk (st := sOpen) lo co ko
  have bo := Fo.binds (ps := ["_law_row_here"]) fun _ _ _ _ _ _ us hl => match us, hl with | [_], _ => rfl
  have No := Fn.mk (ps := ["_law_row_here"]) Fo bo (PySem.W.mg_of X G ao)
  have Fg := fun_mk (st := sGate) lg cg kg
  have bg := Fg.binds (ps := ["_law_row_here", "_law_shut_here"]) fun _ _ _ _ _ _ us hl => match us, hl with | [_, _], _ => rfl
  have Ng := Fn.mk (ps := ["_law_row_here", "_law_shut_here"]) Fg bg (PySem.W.mg_of X G ag)
  have Fk := fun_mk (st := sKind) lk ck kk
  have bk := Fk.binds (ps := ["_law_door", "_law_row_here", "_law_shut_here"]) fun _ _ _ _ _ _ us hl => match us, hl with | [_, _, _], _ => rfl
  have Nk := Fn.mk (ps := ["_law_door", "_law_row_here", "_law_shut_here"]) Fk bk (PySem.W.mg_of X G ak)
  have y0 := PySem.W.mg_none_of X G z0
  have y1 := PySem.W.mg_none_of X G z1
  have y2 := PySem.W.mg_none_of X G z2
  have y3 := PySem.W.mg_none_of X G z3
  have y4 := PySem.W.mg_none_of X G z4
  have y5 := PySem.W.mg_none_of X G z5
  have y6 := PySem.W.mg_none_of X G z6
  have y7 := PySem.W.mg_none_of X G z7
  have y8 := PySem.W.mg_none_of X G z8
  have y9 := PySem.W.mg_none_of X G z9
  have y10 := PySem.W.mg_none_of X G z10
  have y11 := PySem.W.mg_none_of X G z11
  have wb := PySem.W.mg_of X G gb
  have wf := PySem.W.mg_of X G gf
  have wm := PySem.W.mg_of X G gm
  have Fi := fun_mk (st := sInit) li ci ki
  have bi := Fi.binds (ps := ["self", "wall"]) fun _ _ _ _ _ _ us hl => match us, hl with | [_, _], _ => rfl
  have T : Txt K w mg d es n := ⟨y0, y1, y2, y3, y4, y5, y6, y7, y8, y9, y10, y11, ⟨_, wb⟩, ⟨_, wf⟩, ⟨_, wm⟩, PySem.W.mg_of X G gd, ⟨ld, kd, sd⟩, ke⟩
  have Z : Er K mg HE NN NR NP NL fi := ⟨PySem.W.mg_of X G g_HE, PySem.W.mg_of X G g_NN, PySem.W.mg_of X G g_NR, PySem.W.mg_of X G g_NP, PySem.W.mg_of X G g_NL, ⟨x_NR, k_NR, b_NR, t_NR, ⟨ga_NR, gt_NR, b_NR, d_NR, cl_NR, q_hn, q_htk, mo_NR⟩⟩, ⟨nw, ov, mi, ti, sa, tk, nf, k_NL, t_NL, ⟨ga_NL, gt_NL, b_NL, d_NL⟩⟩, ⟨ga_NL, gt_NL, b_NL, d_NL, cl_NL, q_hn, q_htk, mo_NL⟩, (PySem.W.exm_ref b_NL d_NL t_NL s_NL_NL), exmAny2 (PySem.W.exm_ref b_HE d_HE t_HE s_NR_HE) (PySem.W.exm_ref b_NL d_NL t_NL s_NR_NL), HopR.kit_blt (by decide +kernel) iI, HopR.kitAny_cons (kit_own e_NL_HE d_HE t_HE s_NL_HE) (HopR.kitAny_cons (HopR.kit_blt (by decide +kernel) iV) HopR.kitAny_nil), (HopR.kitAny_cons (kit_own e_NR_NN d_NN t_NN s_NR_NN) (HopR.kitAny_cons (kit_own e_NR_NP d_NP t_NP s_NR_NP) (HopR.kitAny_cons (kit_own e_NR_NL d_NL t_NL s_NR_NL) HopR.kitAny_nil))), vI⟩
  exact ⟨PySem.W.fnOf "law" "law" (defArgs sLaw) (defBody sLaw) (defScope sLaw) .none kVL dcL pmL anL cdL ctL, fun s v => .of_eq rfl, fun base _ _ => ok_law (fun_mk (st := sLaw) lL cL kL) ⟨Fi, bi, N0, N1, N2, N3, N4, N5, N6, N7⟩ Nw Nr No Ng Nk T Z⟩
end Hop
open PySem PySem.W PyProof.Rows in
set_option maxRecDepth 100000 in
set_option maxHeartbeats 0 in
theorem PySem.Challenge.cw_hopline_k10_walls_refused_holds : PySem.Challenge.rw_hopline_k10_walls_refused.Holds := by
  w_on; o_law; k_head; (case hw => w_witness2)
  k_fill
  refine HopR.walk_ofG (l := PySem.Challenge.rw_hopline_k10_walls_refused) (n := 63) (k := 8) (x := "_law_script") (sp := fun w => Hop.spLaw _) rfl (by decide) rfl ⟨rfl, by decide, by decide⟩ (fun w h Y => PySem.W.kIn_of Y) ?F (fun _ _ a ns hl _ _ hS => ⟨a, ns, rfl, hS, hl, fun _ => rfl⟩)
  case F =>
    intro w mg fa h KX G hmg
    refine' Hop.all_mk KX G hmg ?u_a0 ?u_l0 ?u_c0 ?u_k0 ?u_a1 ?u_l1 ?u_c1 ?u_k1 ?u_a2 ?u_l2 ?u_c2 ?u_k2 ?u_a3 ?u_l3 ?u_c3 ?u_k3 ?u_a4 ?u_l4 ?u_c4 ?u_k4 ?u_a5 ?u_l5 ?u_c5 ?u_k5 ?u_a6 ?u_l6 ?u_c6 ?u_k6 ?u_a7 ?u_l7 ?u_c7 ?u_k7 ?u_aw ?u_lw ?u_cw ?u_kw ?u_ar ?u_lr ?u_cr ?u_kr ?u_ao ?u_lo ?u_co ?u_ko ?u_ag ?u_lg ?u_cg ?u_kg ?u_ak ?u_lk ?u_ck ?u_kk ?u_aL ?u_lL ?u_cL ?u_kL ?u_z0 ?u_z1 ?u_z2 ?u_z3 ?u_z4 ?u_z5 ?u_z6 ?u_z7 ?u_z8 ?u_z9 ?u_z10 ?u_z11 ?u_gb ?u_gf ?u_gm ?u_gd ?u_ld ?u_kd ?u_sd ?u_ke ?u_g_HE ?u_g_NN ?u_g_NR ?u_g_NP ?u_g_NL ?u_d_HE ?u_t_HE ?u_d_NN ?u_t_NN ?u_d_NR ?u_t_NR ?u_d_NP ?u_t_NP ?u_d_NL ?u_t_NL ?u_b_HE ?u_b_NL ?u_b_NR ?u_q_hn ?u_q_htk ?u_x_NR ?u_k_NR ?u_ga_NR ?u_gt_NR ?u_cl_NR ?u_mo_NR ?u_k_NL ?u_ga_NL ?u_gt_NL ?u_cl_NL ?u_mo_NL ?u_mi ?u_ti ?u_li ?u_ci ?u_ki ?u_nw ?u_ov ?u_sa ?u_tk ?u_nf ?u_iI ?u_iV ?u_vI ?u_s_NL_NL ?u_s_NR_HE ?u_s_NR_NL ?u_s_NL_HE ?u_e_NL_HE ?u_s_NR_NN ?u_e_NR_NN ?u_s_NR_NP ?u_e_NR_NP ?u_e_NR_NL
    (case u_a0 => k_is)
    (case u_l0 => k_is)
    (case u_c0 => k_is)
    (case u_k0 => k_is)
    (case u_a1 => k_is)
    (case u_l1 => k_is)
    (case u_c1 => k_is)
    (case u_k1 => k_is)
    (case u_a2 => k_is)
    (case u_l2 => k_is)
    (case u_c2 => k_is)
    (case u_k2 => k_is)
    (case u_a3 => k_is)
    (case u_l3 => k_is)
    (case u_c3 => k_is)
    (case u_k3 => k_is)
    (case u_a4 => k_is)
    (case u_l4 => k_is)
    (case u_c4 => k_is)
    (case u_k4 => k_is)
    (case u_a5 => k_is)
    (case u_l5 => k_is)
    (case u_c5 => k_is)
    (case u_k5 => k_is)
    (case u_a6 => k_is)
    (case u_l6 => k_is)
    (case u_c6 => k_is)
    (case u_k6 => k_is)
    (case u_a7 => k_is)
    (case u_l7 => k_is)
    (case u_c7 => k_is)
    (case u_k7 => k_is)
    (case u_aw => k_is)
    (case u_lw => k_is)
    (case u_cw => k_is)
    (case u_kw => k_is)
    (case u_ar => k_is)
    (case u_lr => k_is)
    (case u_cr => k_is)
    (case u_kr => k_is)
    (case u_ao => k_is)
    (case u_lo => k_is)
    (case u_co => k_is)
    (case u_ko => k_is)
    (case u_ag => k_is)
    (case u_lg => k_is)
    (case u_cg => k_is)
    (case u_kg => k_is)
    (case u_ak => k_is)
    (case u_lk => k_is)
    (case u_ck => k_is)
    (case u_kk => k_is)
    (case u_aL => k_is)
    (case u_lL => k_is)
    (case u_cL => k_is)
    (case u_kL => k_is)
    (case u_z0 => k_is)
    (case u_z1 => k_is)
    (case u_z2 => k_is)
    (case u_z3 => k_is)
    (case u_z4 => k_is)
    (case u_z5 => k_is)
    (case u_z6 => k_is)
    (case u_z7 => k_is)
    (case u_z8 => k_is)
    (case u_z9 => k_is)
    (case u_z10 => k_is)
    (case u_z11 => k_is)
    (case u_gb => k_is)
    (case u_gf => k_is)
    (case u_gm => k_is)
    (case u_gd => k_is)
    (case u_ld => k_is)
    (case u_kd => k_keys)
    (case u_sd => decide)
    (case u_ke => rfl)
    (case u_g_HE => k_is)
    (case u_g_NN => k_is)
    (case u_g_NR => k_is)
    (case u_g_NP => k_is)
    (case u_g_NL => k_is)
    (case u_d_HE => k_is)
    (case u_t_HE => k_is)
    (case u_d_NN => k_is)
    (case u_t_NN => k_is)
    (case u_d_NR => k_is)
    (case u_t_NR => k_is)
    (case u_d_NP => k_is)
    (case u_t_NP => k_is)
    (case u_d_NL => k_is)
    (case u_t_NL => k_is)
    (case u_b_HE => k_is)
    (case u_b_NL => k_is)
    (case u_b_NR => k_is)
    (case u_q_hn => k_is)
    (case u_q_htk => k_is)
    (case u_x_NR => k_exc)
    (case u_k_NR => k_is)
    (case u_ga_NR => k_is)
    (case u_gt_NR => k_is)
    (case u_cl_NR => k_is)
    (case u_mo_NR => k_is)
    (case u_k_NL => k_is)
    (case u_ga_NL => k_is)
    (case u_gt_NL => k_is)
    (case u_cl_NL => k_is)
    (case u_mo_NL => k_is)
    (case u_mi => k_is)
    (case u_ti => k_is)
    (case u_li => k_is)
    (case u_ci => k_is)
    (case u_ki => k_is)
    (case u_nw => first | kx_is | k_is | kernel_rfl | decide +kernel)
    (case u_ov => first | kx_is | k_is | kernel_rfl | decide +kernel)
    (case u_sa => k_is)
    (case u_tk => first | kx_is | k_is | kernel_rfl | decide +kernel)
    (case u_nf => k_is)
    (case u_iI => k_is)
    (case u_iV => k_is)
    (case u_vI => first | kx_is | k_is | kernel_rfl | decide +kernel)
    (case u_s_NL_NL => k_is)
    (case u_s_NR_HE => k_is)
    (case u_s_NR_NL => k_is)
    (case u_s_NL_HE => k_is)
    (case u_e_NL_HE => decide)
    (case u_s_NR_NN => k_is)
    (case u_e_NR_NN => decide)
    (case u_s_NR_NP => k_is)
    (case u_e_NR_NP => decide)
    (case u_e_NR_NL => decide)
